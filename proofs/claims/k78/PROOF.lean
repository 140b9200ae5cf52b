import PyProof.Rows.All
import Wide.All
import OpenK.AllK
import Wide.FinOn
import HandS.ForMost
import HandS.Walk
import HandS.Wide
import HandS.Deep
import KE.KExcSuper
import KE.KExcInit
import HandS.ForExc
import HandS.ExcInit
import HandS.ExcIs
import HandS.ExcValue
import HandS.MakeKw
import HandS.IsInst
import KE.KExcIs
import KE.GoesMore
import PySem.Challenge.RW_viewkin_k78_exceptions_of_both_parts
set_option Elab.async false
set_option linter.all false
set_option maxRecDepth 100000
set_option maxHeartbeats 4000000
namespace Vk
open PySem PySem.Spec PyProof.Rows L2
def top (i : Nat) : Stmt := PySem.Challenge.pw_viewkin_k78_exceptions_of_both_parts.main.body.getD i (.Pass ⟨0, 0, 0, 0⟩)
abbrev sMixed : Stmt := top 28
abbrev sFolded : Stmt := top 29
abbrev sDraw : Stmt := top 30
abbrev sBegun : Stmt := top 31
section
variable {P : Program} {w : World} {K : PySem.W.Frag} {mg : Str → Option Value} {base : Heap}
def spMixed : Sp := fun vs H Q _ => ∃ c n : Int, vs = [.int c, .int n] ∧ 0 ≤ n ∧ n < 1000000 ∧ ∀ r : Int, 0 ≤ r → r < 400000000 → Q (.int r) H
theorem scM : FnScope ["cell", "n", "blend"] ["cell", "n"] (defScope sMixed) := ⟨rfl, rfl, rfl, by decide +kernel, rfl, by decide +kernel, by decide +kernel⟩
theorem ok_mixed {f : Addr} {fd : FuncData} (F : Fun K "_law_mixed" "_law_mixed" sMixed f fd) (hint : mg "int" = none) : FnOk P w K mg base CX0 1 f fd ["cell", "n"] spMixed := by
  refine F.ok scM (fun vs H Q E h => ?_) (fun cdv A outer s H vs Q E hr h => ?_)
  · obtain ⟨c, n, rfl, _⟩ := h
    rfl
  · obtain ⟨c, n, rfl, h0, h1, k⟩ := h
    refine ⟨_, pss_cons (ps_set (i := 2) scM.nd rfl (Or.inl rfl)
        (pe_op op_add (pe_op op_add (pe_op op_mod (pe_callTy call_int1 (by rfl) hint (by decide +kernel) (pa_cons (pe_op op_mul (pe_op op_mul (pv 0) (pe_op op_add pe_int (pe_op op_mul pe_int (pv 1)))) pe_int) pa_nil)) pe_int)
          (pe_op op_mul (pe_op op_mul pe_int (pv 1)) (pv 1))) (pe_op op_mul pe_int (pv 1))))
      (pss_one (ps_ret (pe_op op_fdiv (pe_op op_mod (pe_callTy call_int1 (by rfl) hint (by decide +kernel) (pa_cons (pe_op op_mul (pv 2) pe_int) pa_nil)) pe_int) pe_int))), ?_⟩
    refine ⟨_, rfl, _, rfl, _, _, rfl, rfl, .inr ⟨by omega, by omega⟩, _, _, rfl, rfl, _, _, rfl, rfl, .inr ⟨by omega, by omega⟩, _, _, rfl, rfl, .inr ⟨by decide, by decide⟩, .inl ⟨_, rfl, _, _, rfl, rfl, (by show (0 : Int) < 2147483647; decide), ?_⟩⟩
    refine ⟨_, rfl, _, _, rfl, rfl, .inr ⟨by omega, by omega⟩, _, rfl, _, _, rfl, rfl, .inr ⟨by omega, by omega⟩, _, _, rfl, rfl, _, rfl, _, _, rfl, rfl, .inr ⟨by omega, by omega⟩, _, _, rfl, rfl, ?_⟩
    refine ⟨_, rfl, _, _, rfl, rfl, .inr ⟨by decide, by decide⟩, .inl ⟨_, rfl, _, _, rfl, rfl, (by show (0 : Int) < 2147483629; decide), _, _, rfl, rfl, ⟨by decide, by decide⟩, ?_⟩⟩
    exact k _ (by omega) (by omega)
end
end Vk

namespace Vk
open PySem PySem.Spec PyProof.Rows L2
/-- all from 0 to below 2 ^ 31 -/
def Bd (cs : List Int) : Prop := ∀ v ∈ cs, 0 ≤ v ∧ v < 2147483648
theorem Bd.set {cs : List Int} (h : Bd cs) (j : Nat) {z : Int} (h0 : 0 ≤ z) (h1 : z < 2147483648) : Bd (cs.set j z) := fun v hv => by
  rcases List.mem_or_eq_of_mem_set hv with q | q
  · exact h v q
  · rw [q]; exact ⟨h0, h1⟩
theorem Bd.at {cs : List Int} (h : Bd cs) {j : Nat} {z : Int} (e : cs[j]? = some z) : 0 ≤ z ∧ z < 2147483648 := h z (List.mem_of_getElem? e)
theorem at_ints {cs : List Int} {j : Nat} (hj : j < cs.length) {i : Int} (hi : i = (j : Int)) : atI (cs.map V.int) i = some (.int (cs.getD j 0)) := by
  rw [hi]
  refine atI_nat ?_
  rw [List.getElem?_map, List.getElem?_eq_getElem hj, List.getD_eq_getElem?_getD, List.getElem?_eq_getElem hj]
  rfl
theorem Bd.getD {cs : List Int} (h : Bd cs) {j : Nat} (hj : j < cs.length) : 0 ≤ cs.getD j 0 ∧ cs.getD j 0 < 2147483648 := by
  rw [List.getD_eq_getElem?_getD, List.getElem?_eq_getElem hj]
  exact h _ (List.getElem_mem hj)
theorem ixN_at {n j : Nat} {i : Int} (hi : i = (j : Int)) (hj : j < n) : ixN n i = some j := by
  subst hi
  unfold ixN
  rw [if_pos (by omega), if_pos (by omega)]
  rfl
section
variable {P : Program} {w : World} {K : PySem.W.Frag} {mg : Str → Option Value} {base : Heap}
def spFolded (K : PySem.W.Frag) : Sp := fun vs H Q _ => ∃ (a : Addr) (ns : List Int), vs = [.ref a] ∧ SqL K H a (ns.map V.int) ∧ ns.length ≤ 63 ∧
  ∀ (H' : Hp) (p : Addr) (cs : List Int), Same H H' → H p = none → cs.length = 64 → Bd cs → H' p = some (.lst (cs.map V.int)) → Q (.ref p) H'
theorem scF : FnScope ["script", "n", "found", "cell"] ["script"] (defScope sFolded) := ⟨rfl, rfl, rfl, by decide +kernel, rfl, by decide +kernel, by decide +kernel⟩
theorem ok_folded {f : Addr} {fd : FuncData} (F : Fun K "_law_folded" "_law_folded" sFolded f fd) (hint : mg "int" = none) (hrange : mg "range" = none) (henum : mg "enumerate" = none) : FnOk P w K mg base CX0 1 f fd ["script"] (spFolded K) := by
  refine F.ok scF (fun vs H Q E h => ?_) (fun cdv A outer s H vs Q E hr h => ?_)
  · obtain ⟨a, ns, rfl, _⟩ := h
    rfl
  · obtain ⟨a, ns, rfl, hS, hn, k⟩ := h
    refine ⟨_, pss_cons (ps_setLc (i := 2) (own := [("n", 1)]) (g := gName 1) (tt := tYes) rfl scF.nd rfl rfl (sw_true rfl rfl rfl (by decide +kernel)) (pi_range1 rfl hrange (pa_cons pe_int pa_nil))
          (blkOk_by (own := [("n", 1)]) (N := ["script", "n", "found", "cell"]) (sc := defScope sFolded) (by decide +kernel)) (fun _ _ _ _ _ => pg_name (i := 1) scF.nd rfl (Or.inl rfl)) (fun _ _ _ _ _ => pts_nil)
          (fun _ _ _ _ _ => pe_op op_add pe_int (pv 1)))
      (pss_cons (ps_for PassesOwn.never rfl (pi_enum (by rfl) henum (pa_cons (pv 0) pa_nil)) (pg_tup rfl (pgs_cons (pg_name (i := 1) scF.nd rfl (Or.inl rfl)) (pgs_cons (pg_name (i := 3) scF.nd rfl (Or.inl rfl)) pgs_nil)))
        (pss_one (ps_asg (pe_op op_mod (pe_callTy call_int1 (by rfl) hint (by decide +kernel) (pa_cons (pe_op op_add (pe_op op_mul (pe_ix ix_list (pv 2) (pe_op op_mod (pe_callTy call_int1 (by rfl) hint (by decide +kernel) (pa_cons (pv 1) pa_nil)) pe_int) (fun _ _ => rfl)) pe_int) (pv 3)) pa_nil)) pe_int)
          (pg_sub (pv 2) (pe_op op_mod (pe_callTy call_int1 (by rfl) hint (by decide +kernel) (pa_cons (pv 1) pa_nil)) pe_int) set_list))))
      (pss_cons (ps_for PassesOwn.never rfl (pi_range2 rfl hrange (pa_cons pe_int (pa_cons pe_int pa_nil))) (pg_name (i := 1) scF.nd rfl (Or.inl rfl))
        (pss_one (ps_asg (pe_op op_mod (pe_callTy call_int1 (by rfl) hint (by decide +kernel) (pa_cons (pe_op op_add (pe_ix ix_list (pv 2) (pv 1) (fun _ _ => rfl)) (pe_op op_mul (pe_ix ix_list (pv 2) (pe_op op_sub (pv 1) pe_int) (fun _ _ => rfl)) pe_int)) pa_nil)) pe_int)
          (pg_sub (pv 2) (pv 1) set_list))))
      (pss_one (ps_ret (pv 2))))), ?_⟩
    -- found = [17 + n for n in range(64)]
    refine ⟨64, rfl, by decide, by decide, fun D hD => lc_range (lo := 0) (n := 64) (fun i H' => ∃ cs : List Int, cs.length = i ∧ Bd cs ∧ H' D = some (.lst (cs.map V.int)) ∧ Same H H') ⟨[], rfl, (fun v hv => nomatch hv), upd_same, fun b o e => by rw [upd_ne (ne_of_none e hD)]; exact e⟩ ?_ ?_⟩
    · rintro i H' hi ⟨cs, hc, hb, hd, hs⟩
      refine ⟨rfl, ?_⟩
      dsimp only [tYes]
      rw [if_pos rfl]
      refine ⟨_, rfl, _, _, rfl, rfl, _, hd, (by rw [List.length_map, hc]; exact small1000 (by omega)), cs ++ [17 + (0 + (i : Int))], by rw [List.length_append, hc]; rfl, fun v hv => ?_, ?_, fun b o e => ?_⟩
      · rcases List.mem_append.mp hv with q | q
        · exact hb v q
        · rcases List.mem_singleton.mp q with rfl
          exact ⟨by omega, by omega⟩
      · rw [upd_same, List.map_append]
        rfl
      · rw [upd_ne (ne_of_none e hD)]
        exact hs b o e
    rintro H1 ⟨cs0, hc0, hb0, hd0, hs0⟩
    -- for n, cell in enumerate(script)
    refine ⟨_, rfl, a, _, rfl, hs0.seq hS, for_it (walk_enum (K := K) (a := a) (xs := ns.map V.int)) (fun i σ H2 => ∃ (cs : List Int) (x y : Option V), σ = [some (.ref a), x, some (.ref D), y] ∧ Same H H2 ∧ H2 D = some (.lst (cs.map V.int)) ∧ cs.length = 64 ∧ Bd cs)
      ⟨cs0, _, _, rfl, hs0, hd0, hc0, hb0⟩ (fun i σ H2 _ ⟨_, _, _, _, s2, _⟩ => s2.seq hS) ?_ ?_⟩
    · rintro i x σ H2 H3 hi ⟨cs, x0, y0, rfl, s2, hd, hc, hb⟩ ⟨T, x1, x2, rfl, hT, rfl, e1, e2⟩
      cases e1
      have e2 : (ns.map V.int)[i]? = some x2 := e2
      obtain ⟨z, rfl⟩ : ∃ z, x2 = V.int z := by
        rw [List.getElem?_map] at e2
        cases e : ns[i]? with
        | none => rw [e] at e2; cases e2
        | some z => rw [e] at e2; exact ⟨z, (Option.some.inj e2).symm⟩
      have hi' : i < 64 := by rw [List.length_map] at hi; omega
      have nTD : D ≠ T := ne_of_none hd hT
      refine ⟨T, _, rfl, .inl (.inl upd_same), rfl, _, _, rfl, _, _, rfl, ?_⟩
      have hm : ((i : Int) % 64) = (i : Int) := by omega
      have hd' : (upd H2 T (.tup [.int (i : Int), .int z])) D = some (.lst (cs.map V.int)) := by rw [upd_ne nTD]; exact hd
      refine ⟨rfl, _, rfl, _, rfl, .inl ⟨_, rfl, _, _, rfl, rfl, (by show (0 : Int) < 64; decide), D, _, _, _, rfl, rfl, .inl (.inl hd'), at_ints (j := i) (by omega) hm, _, _, rfl, rfl, .inr ⟨by decide, by decide⟩, _, rfl, _, _, rfl, rfl, .inl ⟨_, rfl, _, _, rfl, rfl, (by show (0 : Int) < 2147483647; decide), ?_⟩⟩⟩
      refine ⟨_, rfl, _, rfl, .inl ⟨_, rfl, _, _, rfl, rfl, (by show (0 : Int) < 64; decide), ?_⟩⟩
      refine ⟨D, _, _, i, rfl, rfl, hd', ixN_at hm (by rw [List.length_map]; omega), ?_⟩
      refine ⟨cs.set i (((cs.getD i 0) * 48271 + z) % 2147483647), _, _, rfl, fun b o e => ?_, ?_, by rw [List.length_set]; exact hc, hb.set i (by omega) (by omega)⟩
      · have e2 := s2 b o e
        rw [upd_ne (ne_of_none e hD), upd_ne (ne_of_none e2 hT)]
        exact e2
      · rw [upd_same, List.map_set]
    rintro σ H2 ⟨cs1, x1, y1, rfl, s2, hd1, hc1, hb1⟩
    -- for n in range(1, 64)
    refine ⟨1, 64, rfl, ⟨by decide, by decide, by decide, by decide⟩, for_range (lo := 1) (n := 63) (fun i σ H3 => ∃ (cs : List Int) (x y : Option V), σ = [some (.ref a), x, some (.ref D), y] ∧ Same H H3 ∧ H3 D = some (.lst (cs.map V.int)) ∧ cs.length = 64 ∧ Bd cs)
      ⟨cs1, _, _, rfl, s2, hd1, hc1, hb1⟩ ?_ ?_⟩
    · rintro i σ H3 hi ⟨cs, x, y, rfl, s3, hd, hc, hb⟩
      have h1 : (1 + (i : Int)) = ((i + 1 : Nat) : Int) := by omega
      have h2 : (1 + (i : Int)) - 1 = ((i : Nat) : Int) := by omega
      refine ⟨_, rfl, _, rfl, D, _, _, _, rfl, rfl, .inl (.inl hd), at_ints (j := i + 1) (by omega) h1, _, rfl, _, rfl, _, _, rfl, rfl, D, _, _, _, rfl, rfl, .inl (.inl hd), at_ints (j := i) (by omega) h2, _, _, rfl, rfl, .inr ⟨by decide, by decide⟩, _, _, rfl, rfl, .inl ⟨_, rfl, _, _, rfl, rfl, (by show (0 : Int) < 2147483647; decide), ?_⟩⟩
      refine ⟨_, rfl, _, rfl, D, _, _, i + 1, rfl, rfl, hd, ixN_at h1 (by rw [List.length_map]; omega), ?_⟩
      refine ⟨cs.set (i + 1) ((cs.getD (i + 1) 0 + cs.getD i 0 * 16807) % 2147483647), _, _, rfl, fun b o e => ?_, ?_, by rw [List.length_set]; exact hc, hb.set (i + 1) (by omega) (by omega)⟩
      · rw [upd_ne (ne_of_none e hD)]
        exact s3 b o e
      · rw [upd_same, List.map_set]
    rintro σ H3 ⟨cs, x, y, rfl, s3, hd, hc, hb⟩
    exact ⟨_, rfl, k H3 D cs s3 hD hc hb hd⟩
end
end Vk

namespace Vk
open PySem PySem.Spec PyProof.Rows L2
abbrev kC : Key := Sum.inr ("cells" : Str)
abbrev kG : Key := Sum.inr ("great" : Str)
abbrev kS : Key := Sum.inr ("spot" : Str)
theorem cgS : ¬ ("cells" : Str) = "great" := by decide +kernel
theorem csS : ¬ ("cells" : Str) = "spot" := by decide +kernel
theorem gsS : ¬ ("great" : Str) = "spot" := by decide +kernel
theorem cg : ¬ kC = kG := by decide +kernel
theorem cs' : ¬ kC = kS := by decide +kernel
theorem gs' : ¬ kG = kS := by decide +kernel
/-- the drawing state's dict -/
def stD (c g : Addr) (n : Int) : List (Key × V) := [(kC, V.ref c), (kG, V.ref g), (kS, V.int n)]
theorem stD_c (c g : Addr) (n : Int) : valV (stD c g n) kC = some (.ref c) := valV_pos rfl
theorem stD_g (c g : Addr) (n : Int) : valV (stD c g n) kG = some (.ref g) := by
  unfold stD
  rw [valV_neg cg, valV_pos rfl]
theorem stD_s (c g : Addr) (n : Int) : valV (stD c g n) kS = some (.int n) := by
  unfold stD
  rw [valV_neg cs', valV_neg gs', valV_pos rfl]
theorem stD_putS (c g : Addr) (n m : Int) : putK (stD c g n) kS (.int m) = stD c g m := by
  unfold putK stD
  have e1 : decide (kC = kS) = false := decide_eq_false cs'
  have e2 : decide (kG = kS) = false := decide_eq_false gs'
  simp [cs', gs', e1, e2, csS, gsS]
theorem stD_putG (c g g' : Addr) (n : Int) : putK (stD c g n) kG (.ref g') = stD c g' n := by
  unfold putK stD
  have h3 : ¬ kS = kG := fun z => gs' z.symm
  have e1 : decide (kC = kG) = false := decide_eq_false cg
  have h4 : ¬ ("spot" : Str) = "great" := fun z => gsS z.symm
  simp [cg, h3, e1, cgS, h4]
theorem stD_merge (c g : Addr) (n : Int) : mergeK [] (stD c g n) = stD c g n := by
  unfold mergeK stD
  have e1 : ∀ v : V, putK ([] : List (Key × V)) kC v = [(kC, v)] := fun v => putK_new v valV_nil
  have e2 : ∀ v u : V, putK [(kC, v)] kG u = [(kC, v), (kG, u)] := fun v u => putK_new u (by rw [valV_neg cg]; exact valV_nil)
  have e3 : ∀ v u z : V, putK [(kC, v), (kG, u)] kS z = [(kC, v), (kG, u), (kS, z)] := fun v u z => putK_new z (by rw [valV_neg cs', valV_neg gs']; exact valV_nil)
  simp only [List.foldl_cons, List.foldl_nil, e1, e2, e3]
/-- the drawing state: its dict at a, the mixed cells at c, the great cells at g, n drawn so far -/
structure Dr (H : Hp) (a g : Addr) (n : Nat) : Prop where
  ex : ∃ (c : Addr) (cs gs : List Int), H a = some (.dK (stD c g n)) ∧ H c = some (.lst (cs.map V.int)) ∧ H g = some (.lst (gs.map V.int)) ∧ cs.length = 64 ∧ Bd cs ∧ gs.length ≤ 63 ∧ c ≠ g
/-- the state stays where nothing of its own is written -/
theorem Dr.same {H H' : Hp} {a g : Addr} {n : Nat} (d : Dr H a g n) (s : Same H H') : Dr H' a g n := by
  obtain ⟨c, cs, gs, h1, h2, h3, r⟩ := d.ex
  exact ⟨c, cs, gs, s _ _ h1, s _ _ h2, s _ _ h3, r⟩
theorem dpInts {K : PySem.W.Frag} {H : Hp} : ∀ gs : List Int, DpAll K H (gs.map V.int) (gs.map PyData.int)
  | [] => .nil
  | g :: gs => .cons (.int g) (dpInts gs)
theorem intsLay : ∀ gs : List Int, PyData.canLayAll0 (gs.map PyData.int) = true
  | [] => by simp [PyData.canLayAll0]
  | g :: gs => by
    show PyData.canLayAll0 (PyData.int g :: gs.map PyData.int) = true
    simp only [PyData.canLayAll0, PyData.canLay0, Bool.true_and]
    exact intsLay gs
theorem intsDepth : ∀ gs : List Int, PyData.depthAll (gs.map PyData.int) = 0
  | [] => by simp [PyData.depthAll]
  | g :: gs => by
    have h := intsDepth gs
    simp only [List.map_cons, PyData.depthAll, PyData.depth, h]
    rfl
theorem intsShaped (gs : List Int) : SeqAt.shaped (.list (gs.map PyData.int)) = true := by
  show (PyData.canLay0 (.list (gs.map PyData.int)) && decide (PyData.depth (.list (gs.map PyData.int)) ≤ 64)) = true
  have h1 := intsLay gs
  have h2 := intsDepth gs
  simp only [PyData.canLay0, PyData.depth, h1, h2]
  decide
theorem eqvNil (gs : List Int) : PyData.eqv (.list (gs.map PyData.int)) (.list []) = decide (gs = []) := by
  cases gs with
  | nil => simp [PyData.eqv, PyData.eqvAll]
  | cons g gs => simp [PyData.eqv, PyData.eqvAll]
section
variable {P : Program} {w : World} {K : PySem.W.Frag} {mg : Str → Option Value} {base : Heap}
def spBegun (K : PySem.W.Frag) : Sp := fun vs H Q _ => ∃ (a : Addr) (ns : List Int), vs = [.ref a] ∧ SqL K H a (ns.map V.int) ∧ ns.length ≤ 63 ∧
  ∀ (H' : Hp) (p g : Addr), Same H H' → H p = none → H g = none → Dr H' p g 0 → Q (.ref p) H'
theorem scB : FnScope ["script", "m", "cell"] ["script"] (defScope sBegun) := ⟨rfl, rfl, rfl, by decide +kernel, rfl, by decide +kernel, by decide +kernel⟩
theorem ok_begun {f fF : Addr} {fd fdF : FuncData} (F : Fun K "_law_begun" "_law_begun" sBegun f fd) (FF : Fun K "_law_folded" "_law_folded" sFolded fF fdF) (bF : Binds K fdF ["script"] []) (mF : mg "_law_folded" = some (.ref fF))
    (GF : FnOk P w K mg base CX0 1 fF fdF ["script"] (spFolded K)) : FnOk P w K mg base CX0 2 f fd ["script"] (spBegun K) := by
  refine F.ok scB (fun vs H Q E h => ?_) (fun cdv A outer s H vs Q E hr h => ?_)
  · obtain ⟨a, ns, rfl, _⟩ := h
    rfl
  · obtain ⟨a, ns, rfl, hS, hn, k⟩ := h
    have hu := hu_of hr
    refine ⟨_, pss_cons (ps_set (i := 1) scB.nd rfl (Or.inl rfl) (pe_disp (pps_cons pe_str (pe_call GF hr rfl mF FF.kp bF .nil pass0 (pa_cons (pv 0) pa_nil)) (pps_cons pe_str (pe_lst pa_nil) (pps_cons pe_str pe_int pps_nil))) (by rfl) (by rfl) (fun z => by cases z) (by decide)))
      (pss_cons (ps_dput hu (pv 1) pe_str (pe_lc (own := [("cell", 2)]) (g := gName 2) (tt := tYes) rfl scB.nd (pi_list (pv 0)) (blkOk_by (own := [("cell", 2)]) (N := ["script", "m", "cell"]) (sc := defScope sBegun) (by decide +kernel)) (fun _ _ _ _ _ => pg_name (i := 2) scB.nd rfl (Or.inl rfl)) (fun _ _ _ _ _ => pts_nil)
          (fun _ _ _ _ _ => pe_ifExp (pt_cmpR op_ge (pv 2) (pe_op op_pow pe_int pe_int) (nomark _)) (pv 2) pe_int)) rfl)
      (pss_one (ps_ret (pv 1)))), ?_⟩
    intro d hd
    have s0 : Same H (upd H d (.dK [])) := fun b o e => by
      rw [upd_ne (ne_of_none e hd)]; exact e
    refine ⟨_, rfl, a, ns, rfl, s0.seq hS, hn, fun H1 c cs s1 hc hcl hcb hc1 => ?_⟩
    refine ⟨by decide, fun g0 hg0 => ?_⟩
    have s2 : Same (upd H d (.dK [])) (upd H1 g0 (.lst [])) := fun b o e => by
      have e2 := s1 b o e
      rw [upd_ne (ne_of_none e2 hg0)]
      exact e2
    have hcg : c ≠ g0 := ne_of_none hc1 hg0
    refine ⟨s2 d _ upd_same, stD c g0 0, rfl, (by show 3 ≤ 15; decide), ?_⟩
    rw [stD_merge]
    have hd0 : H d = none := hd
    have ndc : d ≠ c := ne_of_none upd_same hc
    have ndg : d ≠ g0 := ne_of_none (s1 d _ upd_same) hg0
    have s3 : Same H (upd (upd H1 g0 (.lst [])) d (.dK (stD c g0 0))) := fun b o e => by
      rw [upd_ne (ne_of_none e hd)]
      exact s2 b o (s0 b o e)
    -- m['great'] = [..]
    refine ⟨_, rfl, a, rfl, ⟨_, s3.seq hS⟩, fun D hD => lc_list (K := K) (a := a) (xs := ns.map V.int) (fun i H' => ∃ gs : List Int, gs.length ≤ i ∧ H' D = some (.lst (gs.map V.int)) ∧ Same (upd (upd H1 g0 (.lst [])) d (.dK (stD c g0 0))) H')
      ⟨[], Nat.le_refl _, upd_same, fun b o e => by rw [upd_ne (ne_of_none e hD)]; exact e⟩ (fun i H' _ ⟨_, _, _, q⟩ => q.seq (s3.seq hS)) ?_ ?_⟩
    · rintro i x H' hi ⟨gs, hl, hdd, hs⟩
      obtain ⟨z, rfl⟩ : ∃ z, x = V.int z := by
        rw [List.getElem?_map] at hi
        cases e : ns[i]? with
        | none => rw [e] at hi; cases hi
        | some z => rw [e] at hi; exact ⟨z, (Option.some.inj hi).symm⟩
      have hin : i < 63 := by
        have h1 := (List.getElem?_eq_some_iff.mp hi).1
        rw [List.length_map] at h1
        omega
      refine ⟨rfl, ?_⟩
      dsimp only [tYes]
      rw [if_pos rfl]
      have fin : ∀ y : Int, ∃ acc, H' D = some (.lst acc) ∧ acc.length < sizeLine ∧ ∃ gs : List Int, gs.length ≤ i + 1 ∧ (upd H' D (.lst (acc ++ [V.int y]))) D = some (.lst (gs.map V.int)) ∧ Same (upd (upd H1 g0 (.lst [])) d (.dK (stD c g0 0))) (upd H' D (.lst (acc ++ [V.int y]))) := fun y =>
        ⟨_, hdd, (by rw [List.length_map]; exact small1000 (by omega)), gs ++ [y], (by rw [List.length_append]; simp; omega), (by rw [upd_same, List.map_append]; rfl), fun b o e => by rw [upd_ne (ne_of_none e hD)]; exact hs b o e⟩
      refine ⟨_, rfl, _, _, rfl, rfl, ⟨by decide, by decide, by decide⟩, _, _, rfl, rfl, _, rfl, ?_⟩
      refine ite2 (fun _ => ⟨_, rfl, fin _⟩) (fun _ => fin _)
    rintro H2 ⟨gs, hl, hdd, hs⟩
    rw [List.length_map] at hl
    refine ⟨_, rfl, d, _, rfl, DPut.k (k := kG) (hs d _ upd_same) (by show 3 < sizeLine; decide), ?_⟩
    rw [stD_putG]
    have hDd : D ≠ d := fun z => by
      have := hD
      rw [z, upd_same] at this
      cases this
    have hcD : c ≠ D := fun z => by
      have := hD
      rw [← z, upd_ne ndc.symm, upd_ne hcg, hc1] at this
      cases this
    have hHD : H D = none := s3.free hD
    refine ⟨_, rfl, k _ d D (fun b o e => ?_) hd hHD ⟨c, cs, gs, upd_same, ?_, ?_, hcl, hcb, by omega, hcD⟩⟩
    · rw [upd_ne (ne_of_none e hd)]
      exact hs b o (s3 b o e)
    · rw [upd_ne ndc.symm]
      refine hs c _ ?_
      rw [upd_ne ndc.symm, upd_ne hcg]
      exact hc1
    · rw [upd_ne hDd]
      exact hdd
end
end Vk

namespace Vk
open PySem PySem.Spec PyProof.Rows L2
section
variable {P : Program} {w : World} {K : PySem.W.Frag} {mg : Str → Option Value} {base : Heap}
/-- a draw below L: some number from 0 to L - 1, one more drawn; nothing else is touched -/
def spDraw : Sp := fun vs H Q _ => ∃ (a g : Addr) (n : Nat) (L : Int), vs = [.ref a, .int L] ∧ Dr H a g n ∧ n < 900000 ∧ 0 < L ∧ L < 1073741824 ∧
  ∀ (H' : Hp) (r : Int), 0 ≤ r → r < L → Dr H' a g (n + 1) → (∀ b o, H b = some o → b ≠ a → b ≠ g → H' b = some o) → Q (.int r) H'
theorem scD : FnScope ["m", "limit", "n", "lot", "here", "cell"] ["m", "limit"] (defScope sDraw) := ⟨rfl, rfl, rfl, by decide +kernel, rfl, by decide +kernel, by decide +kernel⟩
theorem ok_draw {f fM : Addr} {fd fdM : FuncData} (F : Fun K "_law_draw" "_law_draw" sDraw f fd) (FM : Fun K "_law_mixed" "_law_mixed" sMixed fM fdM) (bM : Binds K fdM ["cell", "n"] []) (mM : mg "_law_mixed" = some (.ref fM))
    (GM : FnOk P w K mg base CX0 1 fM fdM ["cell", "n"] spMixed) (hint : mg "int" = none) (hlen : mg "len" = none) : FnOk P w K mg base CX0 2 f fd ["m", "limit"] spDraw := by
  refine F.ok scD (fun vs H Q E h => ?_) (fun cdv A outer s H vs Q E hr h => ?_)
  · obtain ⟨a, g, n, L, rfl, _⟩ := h
    rfl
  · obtain ⟨a, g, n, L, rfl, hD, hn, hL0, hL1, k⟩ := h
    have hu := hu_of hr
    have hu64 := hr.units
    refine ⟨_, pss_cons (ps_set (i := 2) scD.nd rfl (Or.inl rfl) (pe_dget hu (pv 0) pe_str (fun _ _ => rfl)))
      (pss_cons (ps_dput hu (pv 0) pe_str (pe_op op_add (pv 2) pe_int) rfl)
      (pss_cons (ps_if (pt_cmpR (op_neD hu64) (pe_dget hu (pv 0) pe_str (fun _ _ => rfl)) (pe_lst pa_nil) (nomark _))
        (pss_cons (ps_set (i := 3) scD.nd rfl (Or.inl rfl) (pe_dget hu (pv 0) pe_str (fun _ _ => rfl)))
        (pss_cons (ps_set (i := 4) scD.nd rfl (Or.inl rfl) (pe_op op_mod (pe_callTy call_int1 (by rfl) hint (by decide +kernel) (pa_cons (pv 2) pa_nil)) (pe_callB call_len_seq (by rfl) hlen PySem.boot_len (pa_cons (pv 3) pa_nil))))
        (pss_cons (ps_set (i := 5) scD.nd rfl (Or.inl rfl) (pe_ix ix_list (pv 3) (pv 4) (fun _ _ => rfl)))
        (pss_one (ps_if (pt_cmpR op_gt (pv 5) pe_int (nomark _))
          (pss_cons (ps_asg (pe_op op_fdiv (pv 5) (pv 1)) (pg_sub (pv 3) (pv 4) set_list))
          (pss_one (ps_ret (pe_op op_mod (pe_callTy call_int1 (by rfl) hint (by decide +kernel) (pa_cons (pv 5) pa_nil)) (pv 1)))))
          pss_nil))))) pss_nil)
      (pss_cons (ps_set (i := 3) scD.nd rfl (Or.inl rfl) (pe_dget hu (pv 0) pe_str (fun _ _ => rfl)))
      (pss_one (ps_ret (pe_op op_mod (pe_callTy call_int1 (by rfl) hint (by decide +kernel) (pa_cons (pe_call GM hr rfl mM FM.kp bM .nil pass0
          (pa_cons (pe_call GM hr rfl mM FM.kp bM .nil pass0 (pa_cons (pe_op op_add (pe_ix ix_list (pv 3) (pe_op op_mod (pe_callTy call_int1 (by rfl) hint (by decide +kernel) (pa_cons (pv 2) pa_nil)) pe_int) (fun _ _ => rfl)) (pe_op op_mul pe_int (pe_op op_fdiv (pv 2) pe_int))) (pa_cons (pv 2) pa_nil)))
            (pa_cons (pe_op op_add (pv 2) pe_int) pa_nil))) pa_nil)) (pv 1))))))), ?_⟩
    obtain ⟨c, cs, gs, ha, hc, hg, hcl, hcb, hgl, hcg⟩ := hD.ex
    have nac : a ≠ c := ne_of ha hc (by intro z; cases z)
    have nag : a ≠ g := ne_of ha hg (by intro z; cases z)
    -- n = m['spot']; m['spot'] = n + 1
    refine ⟨_, rfl, a, _, rfl, (by rw [← stD_s c g n]; exact DGet.k (k := kS) ha), ?_⟩
    refine ⟨_, rfl, _, _, rfl, rfl, _, rfl, a, _, rfl, DPut.k (k := kS) ha (by show 3 < sizeLine; decide), ?_⟩
    rw [stD_putS]
    have ha1 : (upd H a (.dK (stD c g ((n : Int) + 1)))) a = some (.dK (stD c g ((n : Int) + 1))) := upd_same
    have hc1 : (upd H a (.dK (stD c g ((n : Int) + 1)))) c = some (.lst (cs.map V.int)) := by rw [upd_ne nac.symm]; exact hc
    have hg1 : (upd H a (.dK (stD c g ((n : Int) + 1)))) g = some (.lst (gs.map V.int)) := by rw [upd_ne nag.symm]; exact hg
    have k1 : ∀ b o, H b = some o → b ≠ a → (upd H a (.dK (stD c g ((n : Int) + 1)))) b = some o := fun b o e hb => by rw [upd_ne hb]; exact e
    generalize upd H a (.dK (stD c g ((n : Int) + 1))) = H1 at ha1 hc1 hg1 k1
    have hn1 : ((n : Int) + 1) = ((n + 1 : Nat) : Int) := by omega
    rw [hn1] at ha1
    -- if m['great'] != []
    refine ⟨_, rfl, a, _, rfl, (by rw [← stD_g c g ((n + 1 : Nat) : Int)]; exact DGet.k (k := kG) ha1), by decide, fun p hp => ?_⟩
    have s2 : Same H1 (upd H1 p (.lst [])) := fun b o e => by rw [upd_ne (ne_of_none e hp)]; exact e
    refine ⟨.list (gs.map PyData.int), .list [], .lst (.inl (.inl (s2 _ _ hg1))) (dpInts gs), .lst (.inl (.inl upd_same)) .nil, intsShaped gs, by decide, _, rfl, ?_⟩
    have ha2 := s2 _ _ ha1
    have hc2 := s2 _ _ hc1
    have hg2 := s2 _ _ hg1
    have k2 : ∀ b o, H b = some o → b ≠ a → (upd H1 p (.lst [])) b = some o := fun b o e hb => s2 b o (k1 b o e hb)
    generalize upd H1 p (.lst []) = H2 at ha2 hc2 hg2 k2
    rw [eqvNil]
    refine ite2 (fun he => ?_) (fun he => ?_)
    · have hne : gs ≠ [] := by simpa using he
      have hpos : 0 < gs.length := List.length_pos_iff.mpr hne
      refine ⟨_, rfl, a, _, rfl, (by rw [← stD_g c g ((n + 1 : Nat) : Int)]; exact DGet.k (k := kG) ha2), ?_⟩
      have hlen2 : (gs.map V.int).length = gs.length := List.length_map _
      refine ⟨_, rfl, .inl ⟨_, rfl, _, rfl, g, _, rfl, .inl (.inl (.inl hg2)), _, _, rfl, rfl, (by rw [hlen2]; omega), ?_⟩⟩
      have hj : n % gs.length < gs.length := Nat.mod_lt _ hpos
      have hi : ((n : Int) % ((gs.map V.int).length : Int)) = ((n % gs.length : Nat) : Int) := by rw [hlen2]; omega
      refine ⟨_, rfl, _, rfl, g, _, _, _, rfl, rfl, .inl (.inl hg2), at_ints hj hi, ?_⟩
      refine ⟨_, rfl, _, _, rfl, rfl, _, rfl, ?_⟩
      refine ite2 (fun hz => ?_) (fun hz => ?_)
      · refine ⟨_, rfl, _, rfl, _, _, rfl, rfl, ⟨hL0, hL1⟩, _, rfl, _, rfl, g, _, _, n % gs.length, rfl, rfl, hg2, ixN_at hi (by rw [hlen2]; exact hj), ?_⟩
        refine ⟨_, rfl, .inl ⟨_, rfl, _, rfl, _, _, rfl, rfl, hL0, ?_⟩⟩
        refine k _ _ (Int.emod_nonneg _ (by omega)) (Int.emod_lt_of_pos _ hL0) ⟨c, cs, gs.set (n % gs.length) (gs.getD (n % gs.length) 0 / L), ?_, ?_, ?_, hcl, hcb, by rw [List.length_set]; exact hgl, hcg⟩ fun b o e hb hbg => ?_
        · rw [upd_ne nag]; exact ha2
        · rw [upd_ne hcg]; exact hc2
        · rw [upd_same, List.map_set]
        · rw [upd_ne hbg]; exact k2 b o e hb
      · refine ⟨_, rfl, a, _, rfl, (by rw [← stD_c c g ((n + 1 : Nat) : Int)]; exact DGet.k (k := kC) ha2), ?_⟩
        refine ⟨_, rfl, _, rfl, .inl ⟨_, rfl, _, _, rfl, rfl, (by show (0 : Int) < 64; decide), c, _, _, _, rfl, rfl, .inl (.inl hc2), at_ints (j := n % 64) (by omega) (by omega), _, rfl, _, _, rfl, rfl, ⟨by decide, by decide⟩, _, _, rfl, rfl, .inl ⟨by decide, by decide⟩, _, _, rfl, rfl, ?_⟩⟩
        refine ⟨_, rfl, _, _, rfl, by omega, by omega, fun r1 q0 q1 => ?_⟩
        refine ⟨_, rfl, _, _, rfl, rfl, _, _, rfl, by omega, by omega, fun r2 q2 q3 => .inl ⟨_, rfl, _, rfl, _, _, rfl, rfl, hL0, ?_⟩⟩
        exact k H2 _ (Int.emod_nonneg _ (by omega)) (Int.emod_lt_of_pos _ hL0) ⟨c, cs, gs, ha2, hc2, hg2, hcl, hcb, hgl, hcg⟩ fun b o e hb _ => k2 b o e hb
    · refine ⟨_, rfl, a, _, rfl, (by rw [← stD_c c g ((n + 1 : Nat) : Int)]; exact DGet.k (k := kC) ha2), ?_⟩
      refine ⟨_, rfl, _, rfl, .inl ⟨_, rfl, _, _, rfl, rfl, (by show (0 : Int) < 64; decide), c, _, _, _, rfl, rfl, .inl (.inl hc2), at_ints (j := n % 64) (by omega) (by omega), _, rfl, _, _, rfl, rfl, ⟨by decide, by decide⟩, _, _, rfl, rfl, .inl ⟨by decide, by decide⟩, _, _, rfl, rfl, ?_⟩⟩
      refine ⟨_, rfl, _, _, rfl, by omega, by omega, fun r1 q0 q1 => ?_⟩
      refine ⟨_, rfl, _, _, rfl, rfl, _, _, rfl, by omega, by omega, fun r2 q2 q3 => .inl ⟨_, rfl, _, rfl, _, _, rfl, rfl, hL0, ?_⟩⟩
      exact k H2 _ (Int.emod_nonneg _ (by omega)) (Int.emod_lt_of_pos _ hL0) ⟨c, cs, gs, ha2, hc2, hg2, hcl, hcb, hgl, hcg⟩ fun b o e hb _ => k2 b o e hb
end
end Vk

namespace VkX
open PySem PySem.W PySem.Calls PyProof.Rows
/-! An own exception whose __init__ hands a text up and stores its one field. -/
/-- the parameters of __init__ -/
def xA (fld : Str) (p1 p2 : Pos) : Arguments := { posonlyargs := [], args := [{ arg := "self", annotation := none, pos := p1 }, { arg := fld, annotation := none, pos := p2 }], vararg := none, kwonlyargs := [], kw_defaults := [], kwarg := none, defaults := [] }
/-- its two statements -/
def xB (msg fld : Str) (q1 q2 q3 q4 q5 q6 q7 q8 q9 q10 : Pos) : List Stmt :=
  [.Expr (.Call (.Attribute (.Call (.Name "super" q1) [] [] q2) "__init__" q3) [.Constant (.str msg) 0 q4] [] q5) q6, .Assign [.Attribute (.Name "self" q7) fld q8] (.Name fld q9) q10]
def xS (fld : Str) : Scope := { kind := .function, names := [(PySem.Str.ofString "self", .local), (fld, .local), (PySem.Str.ofString "__class__", .free), (PySem.Str.ofString "super", .globalImplicit)], isGenerator := false, isCoroutine := false, more := [] }
/-- how the first statement's call is read: a method of what super() gives -/
def XCall (msg : Str) (q1 q2 q3 q4 q5 : Pos) : Prop := ∃ pl : Sem Bool, ∀ env : Env, eval (.Call (.Attribute (.Call (.Name "super" q1) [] [] q2) "__init__" q3) [.Constant (.str msg) 0 q4] [] q5) env = (do
  let ov ← attributeBase (.Call (.Name "super" q1) [] [] q2) "__init__" env (eval (.Call (.Name "super" q1) [] [] q2) env)
  standAt q3.atName
  let fx ← holding [ov] (getMethod ov "__init__" pl)
  callWith q5 fx.1 fx.2 (backTo q5 (starEach [.Constant (.str msg) 0 q4] env)) [])
/-- what the written part says of the class at C and of its __init__ at fI -/
structure XC (prog : Program) (K : Frag) (qual msg fld : Str) (B i newId : String) (bmB : List Value) (C fI : Addr) : Prop where
  q : excInitIn K C bmB newId = true
  iC : findIn K (.ref C) "__init__" = some (some (.ref fI))
  tI : typeIn K (.ref fI) = some (.type "function")
  over : excOver K C bmB = true
  tk : takerIn K C fld = some none
  sa : findIn K (.ref C) "__setattr__" = some (some (.builtin "object.__setattr__"))
  hd : hasDictIn K C = true
  sup : ks_superIn K C C "__init__" = some (some (.builtin i))
  sB : subIn K (.ref C) (.type B) = some true
  sC : mroIn K C (.ref C) = some true
  no : nsIn K cStatics "thirdparty.any" = some none
  fn : ∃ (oc : Value) (od : Option Addr) (doc pm : Value) (an : Option Addr) (cda cc : Addr) (ct : Value) (osl : Array (Option Value)) (p1 p2 q1 q2 q3 q4 q5 q6 q7 q8 q9 q10 : Pos) (ccl cl : Value) (cdd cld : Option Addr) (vs : Array Value) (ccs csl : Array (Option Value)) (file : Str) (tf : Tok),
    K.lookup fI = some ⟨oc, od, .func (ksFn "__init__" qual (xA fld p1 p2) (xB msg fld q1 q2 q3 q4 q5 q6 q7 q8 q9 q10) (xS fld) .none .none doc pm an (.ref cda) ct cc), osl⟩ ∧ codeIn K (.ref cda) qual = true ∧
    K.lookup cda = some ⟨ccl, cdd, .fields vs, ccs⟩ ∧ vs[2]? = some (.str file tf) ∧ ((prog.main.file : Str) == file) = true ∧ XCall msg q1 q2 q3 q4 q5 ∧ K.lookup cc = some ⟨cl, cld, .cell (some (.ref C)), csl⟩
  top : (prog.main.scope.names.lookup ("super" : Str)).isSome = false
/-- what __init__ leaves of a fresh exception at x -/
structure XEnd (fld : Str) (h h' : Heap) (x C dx t1 : Addr) (v : Value) : Prop where
  keep : ∀ b o, b ≠ x → h.get? b = some o → h'.get? b = some o
  obj : h'.get? x = some { cls := .ref C, dict := some dx, data := .fields #[.ref t1, .none, .none, .none, .bool false, .none] }
  dbig : h.objs.size ≤ dx
  dne : dx ≠ x
  ns : h'.Ns1 dx (fun y => if y = fld then some v else none)
section
variable {prog : Program} {w : World} {A : Around} {E : Value → Shared → Prop} {R : Result → Shared → Prop} {s : Shared} {K : Frag} {mg mb : Str → Option Value} {qual msg fld : Str} {B i newId : String} {bmB : List Value} {C fI : Addr}
/-- the bound built-in __init__ called: the text becomes the exception's argument -/
theorem x_call {u x t0 : Addr} {rest : List Value} {Q : Value → Shared → Prop} (FB : ExcBaseFacts B newId i bmB) (X : K.In s.heap) (hq : excInitIn K C bmB newId = true) (hu : s.heap.get? u = some (kxs_mw i x)) (hx : s.heap.get? x = some (excObj C t0 none .none)) (hz : rest.length ≤ sizeLine)
    (h : ∀ h', (∀ b o, b ≠ x → s.heap.get? b = some o → h'.get? b = some o) → h'.get? x = some (excObj C s.heap.objs.size none .none) → Q .none { s with heap := h' }) :
    wpAny (model prog w) A (call (.ref u) rest) Q E s := by
  obtain ⟨nm, N', qn, bs, bm, hdct, sn, sub, ab, col, dd, k0, k1, k2, k3, k5, hC, hT⟩ := excInit_of X hq
  obtain ⟨hh, g, d, tk, os⟩ := s
  refine wpAny_call (codeAny_of_tree (show wpAny _ A.in1 (callAny (.ref u) ⟨rest, []⟩) _ _ _ from ?_))
  simp only [callAny]
  refine wpAny_bind (wpAny_load hu ?_)
  simp only [kxs_mw, show (Value.type "method-wrapper" == Value.type "method" || Value.type "method-wrapper" == Value.type "builtin_function_or_method" || Value.type "method-wrapper" == Value.type "method-wrapper") = true from by decide, if_true]
  refine KFB.if_so (by decide) (wpAny_bind (check_bound_init FB.toExcCallFacts hC hx rfl (wpAny_bind (wpAny_pure (wpAny_pure ⟨plainId_quiet FB.init.plain _, codeAny_builtin FB.initEntry ?_⟩)))))
  exact exc_init_tree (cls := .ref C) (t0 := t0) (dv := none) (c2 := .none) (c3 := .none) (b4 := .bool false) hx hz (fun h' k e _ => h h' k e)
end
end VkX

namespace VkX
open PySem PySem.W PySem.Calls PyProof.Rows
/-- what is asked of the field's name: decided for each one -/
structure XF (fld : Str) : Prop where
  f0 : ∀ (qual : Str) (p1 p2 : Pos) (bd : List Stmt) (doc pm cdv ct : Value) (an : Option Addr) (cc : Addr) (a b : Value), bindArgs (ksFn "__init__" qual (xA fld p1 p2) bd (xS fld) .none .none doc pm an cdv ct cc) ⟨[a, b], []⟩ = (pure [(("self" : Str), a), (fld, b)] : Sem (List (Str × Value)))
  f9 : ∀ (qual : Str) (p1 p2 : Pos) (bd : List Stmt) (doc pm cdv ct : Value) (an : Option Addr) (cc : Addr) (a b : Value), bindArgs (ksFn "__init__" qual (xA fld p1 p2) bd (xS fld) .none .none doc pm an cdv ct cc) ⟨[a], [(fld, b)]⟩ = (pure [(("self" : Str), a), (fld, b)] : Sem (List (Str × Value)))
  f1 : (fld == ("self" : Str)) = false
  f2 : (xS fld).names.lookup fld = some .local
  f3 : ∀ x ∈ (xS fld).names, x.2 ≠ NameKind.cell
  f4 : (fld == ("__debug__" : Str)) = false
  f5 : (xS fld).names.lookup ("self" : Str) = some .local
  f6 : (xS fld).names.lookup ("super" : Str) = some .globalImplicit
  f7 : (xS fld).names.lookup ("__class__" : Str) = some .free
theorem xf_place : XF "place" := ⟨fun _ _ _ _ _ _ _ _ _ _ _ _ => rfl, fun _ _ _ _ _ _ _ _ _ _ _ _ => rfl, by decide +kernel, by decide +kernel, by decide +kernel, by decide +kernel, by decide +kernel, by decide +kernel, by decide +kernel⟩
theorem xf_value : XF "value" := ⟨fun _ _ _ _ _ _ _ _ _ _ _ _ => rfl, fun _ _ _ _ _ _ _ _ _ _ _ _ => rfl, by decide +kernel, by decide +kernel, by decide +kernel, by decide +kernel, by decide +kernel, by decide +kernel, by decide +kernel⟩
theorem xf_most : XF "most" := ⟨fun _ _ _ _ _ _ _ _ _ _ _ _ => rfl, fun _ _ _ _ _ _ _ _ _ _ _ _ => rfl, by decide +kernel, by decide +kernel, by decide +kernel, by decide +kernel, by decide +kernel, by decide +kernel, by decide +kernel⟩
section
variable {prog : Program} {w : World} {A : Around} {E : Value → Shared → Prop} {R : Result → Shared → Prop} {s : Shared} {K : Frag} {mg mb : Str → Option Value} {qual msg fld : Str} {B i newId : String} {bmB : List Value} {C fI : Addr}
theorem push_keep {h : Heap} {o : Obj} : ∀ b u, h.get? b = some u → (h.push o).get? b = some u := fun _ _ e => Heap.get?_push_of_some _ e
theorem x_init (T : XC prog K qual msg fld B i newId bmB C fI) (KF : KxsFacts B i) (FB : ExcBaseFacts B newId i bmB) (SF : StoreFacts B bmB "object.__setattr__" "object")
    (XX : XF fld)
    {x t0 : Addr} {v : Value} {args : Args} (ha : args = ⟨[.ref x, v], []⟩ ∨ args = ⟨[.ref x], [(fld, v)]⟩) (X : K.In s.heap) (hlim : s.heap.NoLimit) (hg : s.heap.Ns mainGlobals mg) (hsu : mg "super" = none) (hb : s.heap.Ns builtinsNs mb) (hbs : mb "super" = some (.type "super"))
    (hx : s.heap.get? x = some (excObj C t0 none .none)) (hnx : K.lookup x = none) (hroom : A.depth < recursionLimit)
    (hq : ∀ h' tk dx t1, XEnd fld s.heap h' x C dx t1 v → R (.ok (.ret .none)) { s with heap := h', toks := tk }) :
    codeAny (model prog w) A (.call (.ref fI) args) R s := by
  obtain ⟨oc, od, doc, pm, an, cda, cc, ct, osl, p1, p2, q1, q2, q3, q4, q5, q6, q7, q8, q9, q10, ccl, cl, cdd, cld, vs, ccs, csl, file, tf, hf, hcd, hcda, hvs, hfile, ⟨pl, hpl⟩, hcc⟩ := T.fn
  refine ks_codeAny_call_defAt (fd := ksFn "__init__" qual (xA fld p1 p2) (xB msg fld q1 q2 q3 q4 q5 q6 q7 q8 q9 q10) (xS fld) .none .none doc pm an (.ref cda) ct cc) (body := xB msg fld q1 q2 q3 q4 q5 q6 q7 q8 q9 q10) (binds := [(("self" : Str), .ref x), (fld, v)])
    hroom (X _ _ hf) rfl hlim (codeRec_of X hcd) rfl (BindsTo.of_eq (by rcases ha with rfl | rfl <;> first | exact XX.f0 _ _ _ _ _ _ _ _ _ _ _ _ | exact XX.f9 _ _ _ _ _ _ _ _ _ _ _ _)) XX.f3 (fun y hy => ?_) (fun h₁ hns hk₁ => ?_)
  · rcases List.mem_cons.mp hy with e | hy
    · rw [e]; exact XX.f5
    · rcases List.mem_singleton.mp hy with rfl
      exact XX.f2
  have X₁ : K.In h₁ := X.keeps hk₁
  have hx₁ := hk₁ _ _ hx
  have hxL : s.heap.objs.size ≠ x := Nat.ne_of_gt (Heap.lt_size hx)
  obtain ⟨cd, hcl, hmro⟩ := any_some T.over
  obtain ⟨oD, hD1, hD2⟩ : ∃ oD, h₁.get? C = some oD ∧ oD.data = .cls cd := by
    have hcl' := hcl
    unfold clsIn at hcl'
    split at hcl'
    · rename_i c d cd' sl ho
      cases hcl'
      exact ⟨_, X₁ _ _ ho, rfl⟩
    · cases hcl'
  -- super().__init__('..')
  refine ks_wpAt_execs_cons (ks_wpAt_Expr_any (ks_wpAt_MethodCall (pl := pl) ?_ (hpl _)))
  refine ks_wpAt_super_base (env := callEnv (ksFn "__init__" qual (xA fld p1 p2) (xB msg fld q1 q2 q3 q4 q5 q6 q7 q8 q9 q10) (xS fld) .none .none doc pm an (.ref cda) ct cc) s.heap.objs.size fI) XX.f6 XX.f7 rfl rfl (X₁ _ _ hf) rfl rfl rfl (X₁ _ _ hcda) rfl hvs hfile T.top ?_
  refine ks_loadName_global rfl XX.f6 (loadGlobal_builtin (hg.keeps hk₁) hsu (hb.keeps hk₁) hbs ⟨rfl, ?_⟩)
  refine wpAny_loadName_free rfl XX.f7 rfl ⟨_, X₁ _ _ hcc, rfl⟩ ?_
  have hself : (fun y => ([(("self" : Str), Value.ref x), (fld, v)] : List (Str × Value)).reverse.lookup y) "self" = some (.ref x) := by
    show (([(fld, v), (("self" : Str), Value.ref x)] : List (Str × Value))).lookup ("self" : Str) = _
    have e : (("self" : Str) == fld) = false := by rw [BEq.comm]; exact XX.f1
    simp [List.lookup, e]
  refine wpAny_loadName_local rfl XX.f5 hns hself ?_
  refine ks_wpAny_isType_cls hD1 hD2 ⟨rfl, ?_⟩
  refine ks_wpAny_call_super hD1 hD2 hx₁ rfl (fun c e => nomatch e) (looks_mroIn X₁ T.sC) (fun h₂ hso k₂ => ?_)
  have X₂ : K.In h₂ := X₁.keeps k₂
  have hx₂ := k₂ _ _ hx₁
  have I₂ : InstAt h₂ x (excObj C t0 none .none) C none := ⟨hx₂, rfl, rfl, trivial⟩
  have hxC : x ≠ C := ks_ne X₂ I₂ hcl
  have hal : alongIn K "__init__" ((cd.mro.dropWhile (· != .ref C)).drop 1) = some (some (.builtin i)) := by
    have h := T.sup
    unfold ks_superIn at h
    rw [hcl] at h
    exact h
  have hI : Looks (model prog w) h₂ (isInstance (.ref x) (.type B)) true := I₂.type.andThen (looks_subIn X₂ T.sB)
  refine kxs_getMethod KF hso (looks_opaque X₂ T.no) (l₀ := cd.mro) (fun A Q E s k q => wpAny_bind ((looks_clsIn X₂ hcl) A _ E s k (wpAny_pure q))) rfl X₂ hal hI hxC (by decide +kernel) ?_
  refine kxs_callWith (i := i) (x := x) rfl ?_
  refine evalArgs_plain (spliced_cons (wpAny_Constant_str (k := 0) (pos := q4) (spliced_nil ?_)))
  have hmw : (h₂.push (kxs_mw i x)).get? h₂.objs.size = some (kxs_mw i x) := Heap.get?_push_at rfl rfl
  refine ⟨hmw, ?_⟩
  refine x_call FB (X₂.keeps push_keep) T.q hmw (push_keep _ _ hx₂) (by rw [sizeLine_eq]; exact (by decide : 1 ≤ 16777216)) (fun h₃ k₃ hx₃ => ?_)
  -- self.f = f
  have kk : ∀ b o, b ≠ x → s.heap.get? b = some o → h₃.get? b = some o := fun b o hb e => k₃ b o hb (push_keep _ _ (k₂ _ _ (hk₁ _ _ e)))
  have X₃ : K.In h₃ := fun a o e => k₃ a o (fun z => by rw [z, hnx] at e; cases e) (push_keep _ _ (X₂ _ _ e))
  have I₃ : InstAt h₃ x (excObj C (h₂.push (kxs_mw i x)).objs.size none .none) C none := ⟨hx₃, rfl, rfl, trivial⟩
  have hns₃ : h₃.Ns s.heap.objs.size (fun y => ([(("self" : Str), Value.ref x), (fld, v)] : List (Str × Value)).reverse.lookup y) := by
    obtain ⟨oL, es, ep, hL, r⟩ := hns
    exact ⟨oL, es, ep, k₃ _ _ hxL (push_keep _ _ (k₂ _ _ hL)), r⟩
  have hval : (fun y => ([(("self" : Str), Value.ref x), (fld, v)] : List (Str × Value)).reverse.lookup y) fld = some v := by
    show (([(fld, v), (("self" : Str), Value.ref x)] : List (Str × Value))).lookup fld = _
    simp [List.lookup]
  have hsz : s.heap.objs.size ≤ h₃.objs.size := by
    obtain ⟨oL, es, ep, hL, r⟩ := hns₃
    exact Nat.le_of_lt (Heap.lt_size hL)
  refine ks_wpAt_execs_cons (wpAt_of_wpAny (plainObj_wpAny_Assign_Attribute ?_))
  refine wpAny_Name (wpAny_loadName_local rfl XX.f2 hns₃ hval ?_) XX.f4
  refine wpAny_Name (wpAny_loadName_local rfl XX.f5 hns₃ hself ?_) (by decide +kernel)
  refine set_plain X₃ I₃ T.sa ?_
  refine osa_openX SF X₃ I₃ T.over T.tk (fun b => ?_)
  have hh : cd.hasDict = true := by
    obtain ⟨cd', hc', h'⟩ := any_some T.hd
    rw [hcl] at hc'
    cases hc'
    exact h'
  have hxs : x ≠ h₃.objs.size := Nat.ne_of_lt (Heap.lt_size hx₃)
  refine wpAny_bind (wpAny_pure (wpAny_bind (instanceDict_exc hx₃ (looks_clsIn X₃ hcl) hh ?_)))
  show wpAny _ _ (Builtin.ObjectAttr.storeInDict h₃.objs.size _ fld v) _ _ _
  refine PySem.HandSPX.store_in_new ⟨_, #[], 0, (Heap.get?_update_ne _ _ _ _ hxs.symm).trans (Heap.get?_push_at rfl rfl), rfl, (fun e he => absurd he (by simp)), fun _ => rfl⟩ ?_
  intro h' tk' hn' hs
  have hx₄ : h'.get? x = some { cls := .ref C, dict := some h₃.objs.size, data := .fields #[.ref (h₂.push (kxs_mw i x)).objs.size, .none, .none, .none, .bool false, .none] } :=
    (hs.2 x hxs).trans (Heap.get?_update_self _ (push_keep _ _ hx₃) rfl)
  refine wpAt_of_wpAny (wpAny_execs_nil ?_)
  refine hq h' _ h₃.objs.size _ ⟨fun b o hb e => ?_, hx₄, hsz, hxs.symm, hn'⟩
  have e3 := kk b o hb e
  exact (hs.2 b (Nat.ne_of_lt (Heap.lt_size e3))).trans ((Heap.get?_update_ne _ _ _ _ hb).trans (push_keep _ _ e3))
end
end VkX

namespace VkX
open PySem PySem.W PySem.Calls
section
variable {M : Model} {prog : Program} {w : World} {A : Around} {E : Value → Shared → Prop} {R : Result → Shared → Prop} {h : Heap} {g : Array GenState} {d : Drawn} {t : Nat} {os : OsState}
variable {nm q : Str} {C N : Addr} {bs bm bmB : List Value} {hdct : Bool} {sn : List Str} {sub : List Value} {ab : Bool} {col : Option Bool} {dd : Option Addr} {k0 k1 k2 k3 k5 : Option Value} {B newId initId : String}
/-- the class's own maker may be called with a keyword -/
theorem kw_check (F : ExcBaseFacts B newId initId bmB) (hT : ∀ X : String, bm.contains (.type X) = bmB.contains (.type X)) {kw : List (Str × Value)} {Q : Unit → Shared → Prop}
    (hC : h.get? C = some (excClassObj nm q C N bs bm hdct sn sub ab col dd k0 k1 k2 k3 k5 newId)) (hq : Q () ⟨h, g, d, t, os⟩) : wpAny M A (checkBuiltinCall newId ⟨[.ref C], kw⟩) Q E ⟨h, g, d, t, os⟩ := by
  have inB : (Value.ref C :: bm).contains (.type B) = true := by rw [List.contains_cons, hT, F.hasB, Bool.or_true]
  have star := F.noStar
  simp only [checkBuiltinCall, F.newKind, F.newSplit, F.newRow]
  repeat (first | with_reducible refine wpAny_loadPart_at hC ?_ | (with_reducible refine wpAny_isSubtype_exc hC ?_; rw [inB]) | with_reducible refine wpAny_staticBase_exc hC ?_ | with_reducible refine wpAny_madeBy_exc hC ?_ | (simp only [bne_self_eq_false, Bool.false_eq_true, if_false]) | wp_step)
  exact hq
theorem kw_check_call {kw : List (Str × Value)} {Q : Unit → Shared → Prop} (hC : h.get? C = some (excClassObj nm q C N bs bm hdct sn sub ab col dd k0 k1 k2 k3 k5 newId))
    (hq : Q () ⟨h, g, d, t, os⟩) : wpAny M A (checkBuiltinCall "type.__call__" ⟨[.ref C], kw⟩) Q E ⟨h, g, d, t, os⟩ := by
  have f3 := tc_sub
  have hTy : (⟨h, g, d, t, os⟩ : Shared).TypeIs (.ref C) "type" := ⟨_, hC, rfl⟩
  simp only [checkBuiltinCall, tc_kind, tc_split]
  repeat (any_goals (first | assumption | with_reducible refine wpAny_loadPart_at hC ?_ | with_reducible refine wpAny_onRaise ?_ | with_reducible refine wpAny_map ?_ | wp_step))
theorem kw_new (F : ExcBaseFacts B newId initId bmB) (hT : ∀ X : String, bm.contains (.type X) = bmB.contains (.type X)) {kw : List (Str × Value)}
    (hC : h.get? C = some (excClassObj nm q C N bs bm hdct sn sub ab col dd k0 k1 k2 k3 k5 newId))
    (hq : R (.ok (.ret (.ref (h.objs.size + 1)))) ⟨(h.push (kdv_tup [])).push (excObj C h.objs.size none .none), g, d, t, os⟩) :
    codeAny (model prog w) A (.builtin newId ⟨[.ref C], kw⟩) R ⟨h, g, d, t, os⟩ := by
  have ends := F.ends
  have inB : (Value.ref C :: bm).contains (.type B) = true := by rw [List.contains_cons, hT, F.hasB, Bool.or_true]
  have inA : (Value.ref C :: bm).contains (.type "AttributeError") = false := by rw [List.contains_cons, hT, F.noAttr]; rfl
  have inN : (Value.ref C :: bm).contains (.type "NameError") = false := by rw [List.contains_cons, hT, F.noName]; rfl
  have hz : ([] : List Value).length ≤ sizeLine := Nat.zero_le _
  refine codeAny_builtinAt F.entry ?_
  unfold Builtin.«BaseException.__new__»
  refine wpAt_bind (show _root_.PySem.wpAt _ _ _ (stack >>= _) _ _ _ from wpAt_bind (wpAt_stack fun p below => wpAt_of_wpAny ?_))
  wp_walk
  refine wpAt_of_wpAny ?_
  rw [F.owner]
  repeat (first | with_reducible refine wpAny_madeHere_exc F.canon hC ?_ | with_reducible refine wpAny_loadPart_at hC ?_ | (with_reducible refine wpAny_isSubtype_exc hC ?_; first | rw [inB] | rw [inA] | rw [inN]) | wp_step)
  show R _ _
  rw [Heap.size_push]
  exact hq
theorem kw_type_call (F : ExcBaseFacts B newId initId bmB) (hT : ∀ X : String, bm.contains (.type X) = bmB.contains (.type X)) {kw : List (Str × Value)} {fI : Addr} {Q : Fin → Shared → Prop}
    (hC : h.get? C = some (excClassObj nm q C N bs bm hdct sn sub ab col dd k0 k1 k2 k3 k5 newId))
    (hi : Looks (model prog w) h (typeLookup (.ref C) "__init__") (some (.ref fI))) (hb : ∀ self, Looks (model prog w) h (bindSpecial (.ref fI) self) (.ref fI, [self]))
    (hq : codeAny (model prog w) A (.call (.ref fI) ⟨[.ref (h.objs.size + 1)], kw⟩)
      (fun r s' => match r with | .ok (.ret v) => v = .none ∧ Q (.done (.ret (.ref (h.objs.size + 1)))) s' | .ok _ => False | .error e => E e s')
      ⟨(h.push (kdv_tup [])).push (excObj C h.objs.size none .none), g, d, t, os⟩) :
    wpAny (model prog w) A (Builtin.«type.__call__» ⟨[.ref C], kw⟩) Q E ⟨h, g, d, t, os⟩ := by
  repeat (first | with_reducible refine wpAny_loadPart_at hC ?_ | with_reducible refine wpAny_madeBy_exc hC ?_ | wp_step)
  refine codeAny_call_builtin_code (Code.quiet_builtin _ F.quiet) (kw_check F hT hC (kw_new F hT hC ?_))
  show wpAny _ _ _ _ _ _
  have kk : ∀ b o, h.get? b = some o → ((h.push (kdv_tup [])).push (excObj C h.objs.size none .none)).get? b = some o := fun b o e => push_keep _ _ (push_keep _ _ e)
  have hC₁ := kk _ _ hC
  have here : ((h.push (kdv_tup [])).push (excObj C h.objs.size none .none)).get? (h.objs.size + 1) = some (excObj C h.objs.size none .none) := by heap_get
  have inC : (Value.ref C :: bm).contains (.ref C) = true := by simp
  have i1 := hi.keeps kk
  have b1 := (hb (.ref (h.objs.size + 1))).keeps kk
  unfold isInstance
  repeat (first | with_reducible refine wpAny_loadPart_at here ?_ | (with_reducible refine wpAny_isSubtype_exc hC₁ ?_; rw [inC]) | wp_step)
  show wpAny _ _ (typeLookup (.ref C) _) _ _ _
  refine i1.at (wpAny_holding (wpAny_bind (b1.at (wpAny_bind (wpAny_call (codeAny_mono hq fun r s' z => ?_))))))
  rcases r with e | (v | _ | _ | _) <;> first | exact z | exact z.elim | skip
  obtain ⟨rfl, z⟩ := z
  first
    | exact wpAny_pure (wpAny_pure z)
    | (wp_walk; exact z)
theorem kw_call (F : ExcBaseFacts B newId initId bmB) (hT : ∀ X : String, bm.contains (.type X) = bmB.contains (.type X)) {kw : List (Str × Value)} {fI : Addr}
    (hC : h.get? C = some (excClassObj nm q C N bs bm hdct sn sub ab col dd k0 k1 k2 k3 k5 newId))
    (hi : Looks (model prog w) h (typeLookup (.ref C) "__init__") (some (.ref fI))) (hb : ∀ self, Looks (model prog w) h (bindSpecial (.ref fI) self) (.ref fI, [self]))
    (hq : codeAny (model prog w) (A.under (.builtin "type.__call__" ⟨[.ref C], kw⟩)) (.call (.ref fI) ⟨[.ref (h.objs.size + 1)], kw⟩) (InitBack (h.objs.size + 1) R)
      ⟨(h.push (kdv_tup [])).push (excObj C h.objs.size none .none), g, d, t, os⟩) :
    codeAny (model prog w) A (.call (.ref C) ⟨[], kw⟩) R ⟨h, g, d, t, os⟩ := by
  have f1 := tc_lookup
  have f2 := tc_bind (.ref C)
  have hTy : (⟨h, g, d, t, os⟩ : Shared).TypeIs (.ref C) "type" := ⟨_, hC, rfl⟩
  refine codeAny_of_tree (show wpAny _ _ (callAny (.ref C) _) _ _ _ from ?_)
  repeat (any_goals (first | assumption | with_reducible refine wpAny_loadPart_at hC ?_ | wp_step))
  refine ⟨rfl, codeAny_call_builtin_at (Code.quiet_builtin _ (by decide +kernel)) entry_typeCall (kw_check_call hC (kw_type_call F hT hC hi hb (codeAny_mono hq fun r s' z => ?_)))⟩
  rcases r with e | (v | _ | _ | _) <;> exact z
end
end VkX

namespace VkX
open PySem PySem.W PySem.Calls PyProof.Rows
/-- a made exception at e, its dict at d -/
structure XMade (fld : Str) (h h' : Heap) (e C d t1 : Addr) (v : Value) : Prop where
  keep : ∀ b o, h.get? b = some o → h'.get? b = some o
  new : h.objs.size ≤ e
  obj : h'.get? e = some { cls := .ref C, dict := some d, data := .fields #[.ref t1, .none, .none, .none, .bool false, .none] }
  dbig : h.objs.size ≤ d
  dne : d ≠ e
  ns : h'.Ns1 d (fun y => if y = fld then some v else none)
/-- what every class's call leans on -/
structure XG (h : Heap) (mg mb : Str → Option Value) : Prop where
  lim : h.NoLimit
  g : h.Ns mainGlobals mg
  su : mg "super" = none
  b : h.Ns builtinsNs mb
  bs : mb "super" = some (.type "super")
section
variable {prog : Program} {w : World} {A : Around} {E : Value → Shared → Prop} {R : Result → Shared → Prop} {s : Shared} {K : Frag} {mg mb : Str → Option Value} {qual msg fld : Str} {B i newId : String} {bmB : List Value} {C fI : Addr}
theorem x_made (T : XC prog K qual msg fld B i newId bmB C fI) (KF : KxsFacts B i) (FB : ExcBaseFacts B newId i bmB) (SF : StoreFacts B bmB "object.__setattr__" "object") (XX : XF fld)
    {v : Value} {args : Args} (ha : args = ⟨[v], []⟩ ∨ args = ⟨[], [(fld, v)]⟩) (X : K.In s.heap) (G : XG s.heap mg mb) (hroom : A.depth + 1 < recursionLimit)
    (hq : ∀ h' tk e d t1, XMade fld s.heap h' e C d t1 v → R (.ok (.ret (.ref e))) { s with heap := h', toks := tk }) : codeAny (model prog w) A (.call (.ref C) args) R s := by
  obtain ⟨nm, N', qn, bs, bm, hdct, sn, sub, ab, col, dd, k0, k1, k2, k3, k5, hC, hT⟩ := excInit_of X T.q
  obtain ⟨hp, g, dr, tk, os⟩ := s
  have main : ∀ (rest : List Value) (B' : Around) (args' : Args), B'.depth = A.depth + 1 → (args' = ⟨[.ref (hp.objs.size + 1), v], []⟩ ∨ args' = ⟨[.ref (hp.objs.size + 1)], [(fld, v)]⟩) →
      codeAny (model prog w) B' (.call (.ref fI) args') (InitBack (hp.objs.size + 1) R) ⟨(hp.push (kdv_tup rest)).push (excObj C hp.objs.size none .none), g, dr, tk, os⟩ := fun rest B' args' hB ha' => by
    have kk : ∀ b o, hp.get? b = some o → ((hp.push (kdv_tup rest)).push (excObj C hp.objs.size none .none)).get? b = some o := fun b o e => push_keep _ _ (push_keep _ _ e)
    have here : ((hp.push (kdv_tup rest)).push (excObj C hp.objs.size none .none)).get? (hp.objs.size + 1) = some (excObj C hp.objs.size none .none) := by heap_get
    have hnx : K.lookup (hp.objs.size + 1) = none := by
      cases e : K.lookup (hp.objs.size + 1) with
      | none => rfl
      | some o => exact absurd (Nat.lt_of_succ_lt (Heap.lt_size (show hp.get? (hp.objs.size + 1) = some o from X _ _ e))) (Nat.lt_irrefl _)
    refine x_init (s := ⟨(hp.push (kdv_tup rest)).push (excObj C hp.objs.size none .none), g, dr, tk, os⟩) T KF FB SF XX ha' (X.keeps kk) (G.lim.keeps kk) (G.g.keeps kk) G.su (G.b.keeps kk) G.bs here hnx (by rw [hB]; exact hroom) fun h' tk' dx t1 Z => ?_
    have old : ∀ b o, hp.get? b = some o → h'.get? b = some o := fun b o e => Z.keep b o (Nat.ne_of_lt (Nat.lt_succ_of_lt (Heap.lt_size e))) (kk b o e)
    have z : hp.objs.size ≤ dx := by
      have q := Z.dbig
      simp only [Heap.size_push] at q
      omega
    exact ⟨rfl, hq h' tk' (hp.objs.size + 1) dx t1 ⟨old, Nat.le_succ _, Z.obj, z, Z.dne, Z.ns⟩⟩
  have one : ([v] : List Value).length ≤ sizeLine := by rw [sizeLine_eq]; exact (by decide : 1 ≤ 16777216)
  rcases ha with rfl | rfl
  · exact PX.call_own FB hT hC (looks_findIn X T.iC) (fun self => bind_fn X self T.tI) one (main [v] _ _ L2.make_depth (.inl rfl))
  · exact kw_call FB hT hC (looks_findIn X T.iC) (fun self => bind_fn X self T.tI) (main [] _ _ L2.make_depth (.inr rfl))
end
end VkX
namespace L2
open PySem PySem.Spec PyProof.Rows
section
variable {X : Cx} {pins : List (Addr × Obj)} {σ : St} {H : Hp} {s : Shared}
/-- two new objects at once -/
theorem Inv.laidTwo {h' : Heap} {a b : Addr} {oa ob : HO} {t' : Nat} (I : Inv X pins σ H s) (k : ∀ b u, s.heap.get? b = some u → h'.get? b = some u) (ha : s.heap.objs.size ≤ a) (hb : s.heap.objs.size ≤ b) (hab : a ≠ b)
    (na : ObjOk X.prog X.w (upd (upd H b ob) a oa) h' a oa) (nb : ObjOk X.prog X.w (upd (upd H b ob) a oa) h' b ob) : Inv X pins σ (upd (upd H b ob) a oa) { s with heap := h', toks := t' } := by
  have Ha := I.hok.fresh ha
  have Hb := I.hok.fresh hb
  have low : ∀ {c : Addr} {o : Obj}, s.heap.get? c = some o → c ≠ a ∧ c ≠ b := fun {c o} q => ⟨Nat.ne_of_lt (Nat.lt_of_lt_of_le (Heap.lt_size q) ha), Nat.ne_of_lt (Nat.lt_of_lt_of_le (Heap.lt_size q) hb)⟩
  have away : ∀ {c : Addr} {u : HO}, H c = some u → upd (upd H b ob) a oa c = some u := fun {c u} q => by
    rw [upd_ne (ne_of_none q Ha), upd_ne (ne_of_none q Hb)]
    exact q
  refine I.un (t' := t') { keep := fun c o q n _ _ => k c o q, slot := fun c o q n _ _ => ⟨o.slots, k c o q⟩, free := fun c o q n _ => by rw [upd_ne (low q).1, upd_ne (low q).2]; exact n, there := fun c o q _ => ⟨o, k c o q⟩, tups := fun c xs q => away q, frzs := fun c o v q => away q, tbls := fun c ps q => ⟨#[], by rw [away q]; simp⟩ } fun c o q => ?_
  by_cases ca : c = a
  · subst ca
    rw [upd_same] at q
    cases q
    exact na
  · by_cases cb : c = b
    · subst cb
      rw [upd_ne ca, upd_same] at q
      cases q
      exact nb
    · rw [upd_ne ca, upd_ne cb] at q
      exact (I.hok c o q).stay (fun x v _ z => k x v z) (fun x z => away z) fun x xs z => away z
end
open VkX
/-- what the top gives for exceptions as values -/
structure XCls (prog : Program) (K : PySem.W.Frag) (mg : Str → Option Value) (nm qual msg fld : Str) (B i newId : String) (bmB : List Value) (C fI : Addr) : Prop where
  t : XC prog K qual msg fld B i newId bmB C fI
  kf : PySem.W.KxsFacts B i
  fb : ExcBaseFacts B newId i bmB
  sf : StoreFacts B bmB "object.__setattr__" "object"
  xx : XF fld
  kC : PySem.W.keepIn K (.ref C) = true
  gC : mg nm = some (.ref C)
  su : mg "super" = none
/-- C(e): a new exception and its dict with the one field -/
def tXmk (C : Addr) (fld : Str) (ta : TA) : TE := fun σ H Q => ta σ H fun vs H1 => ∃ v, vs = [v] ∧ ∀ a dx, H1 a = none → H1 dx = none → dx ≠ a → Q (.ref a) (upd (upd H1 dx (exd dx [(fld, v)])) a (exo a C (some dx)))
section
variable {X : Cx} {nm qual msg fld : Str} {B i newId : String} {bmB : List Value} {C fI : Addr}
theorem xg_of {pins : List (Addr × Obj)} {σ : St} {H : Hp} {s : Shared} (I : Inv X pins σ H s) (su : X.mg "super" = none) : ∃ mb, XG s.heap X.mg mb := by
  obtain ⟨mb, h1, h2⟩ := I.mod.blt
  exact ⟨mb, I.nolimit, I.mod.glob.keeps I.bk, su, h1.keeps I.bk, (h2 "super" (by decide)).trans (by decide +kernel)⟩
theorem run_x {pins : List (Addr × Obj)} {σ : St} {H : Hp} {s : Shared} {Q : VK} {u : Value} {v : V} {args : Args} {k : Nat} (T : XCls X.prog X.K X.mg nm qual msg fld B i newId bmB C fI) (hr : Room k X.A) (I : Inv X pins σ H s) (r : RelV v u) (ha : args = ⟨[u], []⟩ ∨ args = ⟨[], [(fld, u)]⟩)
    (h : ∀ a dx, H a = none → H dx = none → dx ≠ a → Q (.ref a) (upd (upd H dx (exd dx [(fld, v)])) a (exo a C (some dx)))) : wpAny (model X.prog X.w) X.A (call (.ref C) args.pos args.kw) (EP X pins σ Q) X.xe s := by
  obtain ⟨mb, G⟩ := xg_of I T.su
  refine wpAny_call (x_made T.t T.kf T.fb T.sf T.xx ha I.kIn G (by have := hr.dp; omega) fun h' tk e d t1 M => ?_)
  refine ⟨.ref e, _, I.laidTwo (t' := tk) M.keep M.new M.dbig M.dne.symm (exo_ok M.obj) (exd_ok M.ns (relO_put (fs := []) r fun g => True.intro)), rfl, h e d (I.hok.fresh M.new) (I.hok.fresh M.dbig) M.dne⟩
theorem pe_xmk {a : Expr} {ta : TA} {p pos : Pos} {k : Nat} (T : XCls X.prog X.K X.mg nm qual msg fld B i newId bmB C fI) (hr : Room k X.A) (ha : PA X [a] ta) (hg : Gl X nm := by rfl) (hdb : (nm == ("__debug__" : Str)) = false := by decide)
    (he : starEach (a :: []) X.env = (false, eval a X.env) :: starEach [] X.env := by rfl) (hpl : (backTo pos (starEach [] X.env)).any (·.1) = false := by rfl) : PE X (.Call (.Name nm p) [a] [] pos) (tXmk C fld ta) := by
  refine ⟨fun pins s σ H Q I h => ?_⟩
  refine wpAny_Call_Name_kw (ld_glob I hg T.gC ?_ hdb)
  refine PySem.W.callWith_K (h₀ := X.base) I.ok.mod.kin T.kC (thn (ha.run pos pins s σ H _ I h) fun us s1 hh => ?_) he hpl
  obtain ⟨vs, H1, I1, r1, v, ev, q1⟩ := hh
  subst ev
  refine ⟨I1.kIn, ?_⟩
  cases r1 with
  | cons rv rn =>
    cases rn
    exact run_x (args := ⟨[_], []⟩) T hr I1 rv (.inl rfl) q1
/-- C(field=e) -/
def tXmkK (C : Addr) (fld : Str) (te : TE) : TE := fun σ H Q => te σ H fun v H1 => ∀ a dx, H1 a = none → H1 dx = none → dx ≠ a → Q (.ref a) (upd (upd H1 dx (exd dx [(fld, v)])) a (exo a C (some dx)))
theorem pe_xmkK {te : TA} {p pos : Pos} {k : Nat} {kws : List Keyword} (T : XCls X.prog X.K X.mg nm qual msg fld B i newId bmB C fI) (hr : Room k X.A) (hkw : PK X kws te) (hall : (backToKw pos (keywordEach kws X.env)).all (·.1.isSome) = true := by rfl) (hks : (backToKw pos (keywordEach kws X.env)).filterMap (·.1) = [fld] := by rfl)
    (hg : Gl X nm := by rfl) (hdb : (nm == ("__debug__" : Str)) = false := by decide)
    (hpl : ((backTo pos (starEach [] X.env)).any (·.1) || (backToKw pos (keywordEach kws X.env)).any (·.1.isNone)) = false := by rfl) : PE X (.Call (.Name nm p) [] kws pos) (tXmk C fld te) := by
  refine ⟨fun pins s σ H Q I h => ?_⟩
  refine wpAny_Call_Name_kw (ld_glob I hg T.gC ?_ hdb)
  refine PySem.W.callWith_KW0 (h₀ := X.base) I.ok.mod.kin T.kC hall (thn (hkw.run pos pins s σ H _ I h) fun ws s1 hh => ?_) hpl
  obtain ⟨zs, H1, I1, rz, v, ev, q1⟩ := hh
  subst ev
  refine ⟨I1.kIn, ?_⟩
  rw [hks]
  cases rz with
  | cons rv rn =>
    cases rn
    exact run_x (args := ⟨[], [(fld, _)]⟩) T hr I1 rv (.inr rfl) q1
end
end L2

/-! Defs that are called where no repr is under way: what repr hands out is then told exactly. -/
namespace L2
open PySem PySem.Spec PyProof.Rows
/-- the promise of a def, kept wherever no repr is under way -/
structure FnG (P : Program) (w : World) (K : PySem.W.Frag) (mg : Str → Option Value) (base : Heap) (CX : CXT) (k : Nat) (f : Addr) (fd : FuncData) (ps : List Str) (sp : Sp) : Prop where
  len : ∀ vs H Q E, sp vs H Q E → vs.length = ps.length
  run : ∀ (A : Around) (outer : List Env) (s : Shared) (H : Hp) (args : Args) (us : List Value) (vs : List V) (Q : VK) (E : XK), A.guards = some [] → Room k A → Env0 P w K mg base A outer s H → BindsTo s fd args (ps.zip us) → Vals vs us → sp vs H Q E →
    codeAny (model P w) A (.call (.ref f) args) (CR CX outer P w H s Q E) s
theorem FnG.mono {P : Program} {w : World} {K : PySem.W.Frag} {mg : Str → Option Value} {base : Heap} {CX : CXT} {j k : Nat} {f : Addr} {fd : FuncData} {ps : List Str} {sp : Sp} (F : FnG P w K mg base CX j f fd ps sp) (h : j ≤ k) : FnG P w K mg base CX k f fd ps sp :=
  ⟨F.len, fun A outer s H args us vs Q E g hr => F.run A outer s H args us vs Q E g (hr.mono h)⟩
theorem fn_ofG {CX : CXT} {P : Program} {w : World} {K : PySem.W.Frag} {mg : Str → Option Value} {base : Heap} {k : Nat} {f : Addr} {name qual : Str} {params : Arguments} {body : List Stmt} {scope : Scope} {kV doc pm cdv ct oc : Value} {an od : Option Addr}
    {osl : Array (Option Value)} {N ps : List Str} {sp : Sp} (lk : K.lookup f = some ⟨oc, od, .func (PySem.W.fnOf name qual params body scope .none kV doc pm an cdv ct), osl⟩) (hcd : PySem.W.codeIn K cdv qual = true) (S : FnScope N ps scope) (len : ∀ vs H Q E, sp vs H Q E → vs.length = ps.length)
    (hbody : ∀ (A : Around) (outer : List Env) (s : Shared) (H : Hp) (vs : List V) (Q : VK) (E : XK), (A.deeper (envOfC qual scope s.heap.objs.size f cdv)).guards = some [] → Room k (A.deeper (envOfC qual scope s.heap.objs.size f cdv)) → sp vs H Q E →
      ∃ t, PSs (cxOf CX P w K mg base N qual scope f cdv A outer s H E) body t ∧ t { nx := fun _ H' => Q .non H', rt := Q } (start N vs) H) : FnG P w K mg base CX (k + 1) f (PySem.W.fnOf name qual params body scope .none kV doc pm an cdv ct) ps sp := by
  refine ⟨len, fun A outer s H args us vs Q E hG hr e0 hb r hsp => ?_⟩
  have old : ∀ b o, base.get? b = some o → s.heap.get? b = some o := fun b o e => (e0.bs b o e).1
  have KX : K.In s.heap := e0.mod.kin.keeps old
  have kinds : ∀ y ∈ ps.zip us, scope.names.lookup y.1 = some .local ∨ (scope.names.lookup y.1 = some .cell ∧ ((cellsFrom (s.heap.objs.size + 1) scope.names []).lookup y.1).isSome = true) := fun ⟨n, v⟩ hy =>
    (S.par n (List.of_mem_zip hy).1).elim .inl fun q => .inr ⟨q, PySem.W.cellsFrom_some _ _ _ (.inl q)⟩
  refine codeAny_call_function hr.depth (KX _ _ lk) rfl S.co S.gen rfl (PySem.W.codeRec_of KX hcd) (hb _ _ _ _ (wpAny_newFunctionEnv_cells S.kind kinds fun env he s1 x => ?_))
  subst he
  obtain ⟨t, ht, hq⟩ := hbody A outer s H vs Q E hG (hr.deeper _) hsp
  have I := inv_start (CX := CX) (E := E) S hr.hd e0 (len _ _ _ _ hsp) r x
  refine ⟨(e0.mod.nolimit.keeps old).keeps x.toInCall.keep, codeAny_func (wpAny_mono (ht.run [] s1 (start N vs) H _ I hq) (fun fl s' hs => ?_) fun e s' hs => hs)⟩
  cases fl <;> first
    | (obtain ⟨v, σ', H', J, rv, q⟩ := hs; exact ⟨v, H', J.os, J.bare, J.base, J.hok, rv, q⟩)
    | (obtain ⟨σ', H', J, q⟩ := hs; exact ⟨V.non, H', J.os, J.bare, J.base, J.hok, rfl, q⟩)
    | (obtain ⟨_, _, _, q⟩ := hs; exact False.elim q)
section
variable {P : Program} {w : World} {K : PySem.W.Frag} {mg : Str → Option Value} {base : Heap}
theorem Fun.okG {x qual : Str} {st : Stmt} {f : Addr} {fd : FuncData} {N ps : List Str} {k : Nat} {sp : Sp} (F : Fun K x qual st f fd) (S : FnScope N ps (defScope st)) (len : ∀ vs H Q E, sp vs H Q E → vs.length = ps.length)
    (hbody : ∀ (cdv : Value) (A : Around) (outer : List Env) (s : Shared) (H : Hp) (vs : List V) (Q : VK) (E : XK), (A.deeper (envOfC qual (defScope st) s.heap.objs.size f cdv)).guards = some [] → Room k (A.deeper (envOfC qual (defScope st) s.heap.objs.size f cdv)) → sp vs H Q E →
      ∃ t, PSs (cxOf CX0 P w K mg base N qual (defScope st) f cdv A outer s H E).nox (defBody st) t ∧ t { nx := fun _ H' => Q .non H', rt := Q } (start N vs) H) : FnG P w K mg base CX0 (k + 1) f fd ps sp := by
  obtain ⟨oc, od, kV, doc, pm, an, cdv, ct, osl, rfl, lk, hcd⟩ := F.ex
  exact fn_ofG lk hcd S len fun A outer s H vs Q E hG hr hsp => let ⟨t, h, q⟩ := hbody cdv A outer s H vs Q E hG hr hsp; ⟨t, h.nox, q⟩
end
section
variable {X : Cx} {CX : CXT} {k : Nat} {f : Addr} {fd : FuncData} {ps : List Str} {sp : Sp} {E : XK} {ds : List Value} {dvs : List V} {x : Str} {p pos : Pos} {e : Expr} {es : List Expr} {t : TA}
/-- a call of such a def, from where no repr is under way -/
theorem pe_callG (hG : X.A.guards = some []) (F : FnG X.prog X.w X.K X.mg X.base CX k f fd ps sp) (hr : Room k X.A) (hg : Gl X x) (hm : X.mg x = some (.ref f)) (hk : PySem.W.keepIn X.K (.ref f) = true) (hb : Binds X.K fd ps ds) (hd : Vals dvs ds) (hx : Passes CX X E)
    (ha : PA X (e :: es) t) (hdb : (x == ("__debug__" : Str)) = false := by decide) (he : starEach (e :: es) X.env = (false, eval e X.env) :: starEach es X.env := by rfl) (hpl : (backTo pos (starEach es X.env)).any (·.1) = false := by rfl) :
    PE X (.Call (.Name x p) (e :: es) [] pos) (tCall sp dvs E t) := by
  refine ⟨fun pins s σ H Q I h => wpAny_Call_Name_kw (ld_glob I hg hm ?_ hdb)⟩
  refine PySem.W.callWith_K (h₀ := X.base) I.ok.mod.kin hk (thn (ha.run pos pins s σ H _ I h) fun us s1 ⟨vs, H1, I1, r, q⟩ => ⟨I1.kIn, ?_⟩) he hpl
  have r2 : Vals (vs ++ dvs) (us ++ ds) := r.append hd
  have hl : (us ++ ds).length = ps.length := r2.length.symm.trans (F.len _ _ _ _ q)
  refine wpAny_call (codeAny_mono (F.run X.A X.stack s1 H1 ⟨us, []⟩ (us ++ ds) (vs ++ dvs) Q E hG hr I1.env0 (hb s1 us I1.kIn hl) r2 q) fun r s' hq => ?_)
  cases r with
  | error e => exact hx pins σ H1 s1 e s' I1 hq
  | ok fl => cases fl <;> first | exact I1.after hq | exact False.elim hq
end
end L2

/-! The law's own call, from a promise that is kept where no repr is under way. -/
namespace L2
open PySem PySem.Spec PyProof.Rows
section
variable {P : Program} {w : World} {K : PySem.W.Frag} {mg mb : Str → Option Value} {k : Nat} {fa a : Addr} {fd : FuncData} {x : Str} {sp : Sp} {s₁ : Shared} {vs : List Value} {ns : List Int}
/-- from an abstract heap that tracks the script alone, or nothing -/
theorem headG {H : Hp} (KX : K.In s₁.heap) (hns : s₁.heap.Ns mainGlobals mg) (hb : s₁.heap.Ns builtinsNs mb) (hbb : ∀ x : Str, x ≠ "__name__" → mb x = bootBuiltins x) (hlim : s₁.heap.NoLimit) (hg : s₁.gens = #[])
    (ha : s₁.heap.get? a = some { cls := .type "list", data := .seq vs.toArray }) (hr : Room k callerA)
    (F : ∀ base : Heap, K.In base → base.Ns mainGlobals mg → FnG P w K mg base CX0 k fa fd [x] sp) (hbind : ∀ (s : Shared) (u : Value), BindsTo s fd ⟨[u], []⟩ [(x, u)])
    (hsp : sp [.ref a] H (fun v _ => v = .bl true) fun _ _ _ => False) (hO : Only H) (hok : HOk P w H s₁.heap) (hA : ∀ b, H b ≠ none → b = a) (hK : H a ≠ none → K.lookup a = none) :
    codeAny (model P w) callerA (.call (.ref fa) ⟨[.ref a], []⟩) (fun r s' => r = .ok (.ret (.bool true)) ∧ OldK s₁.heap s'.heap ∧ s'.os = s₁.os ∧ AllBare s'.gens) s₁ := by
  have free : ∀ {b : Addr} {o : Obj}, s₁.heap.get? b = some o → (b = a → False) → (hidT s₁.heap H).get? b = some o := fun {b o} e n => hidT_get e (Classical.byContradiction fun q => n (hA b q))
  have ns1 : ∀ {b : Addr} {m : Str → Option Value}, s₁.heap.Ns b m → (hidT s₁.heap H).Ns b m := by
    rintro b m ⟨o, es, ep, e, d, r⟩
    refine ⟨o, es, ep, free e (fun z => ?_), d, r⟩
    rw [z, ha] at e
    have e2 := Option.some.inj e
    subst e2
    exact nomatch d
  have kb : K.In (hidT s₁.heap H) := fun b o e => hidT_get (KX b o e) (Classical.byContradiction fun q => by
    have z := hA b q
    subst z
    rw [hK q] at e
    exact nomatch e)
  have lim' : (hidT s₁.heap H).NoLimit := by
    obtain ⟨mc, h1, h2⟩ := hlim
    exact ⟨mc, ns1 h1, h2⟩
  have env : Env0 P w K mg (hidT s₁.heap H) callerA [] s₁ H := { frames := rfl, mod := ⟨kb, ns1 hns, ⟨mb, ns1 hb, hbb⟩, lim'⟩, bs := fun b o e => of_hidT e, bsz := Nat.le_of_eq (hidT_size _ _), funs := trivial, frf := (fun b hb => absurd (show b ∈ ([] : List Addr) from hb) List.not_mem_nil), hok := hok, bare := .of_eq hg }
  refine codeAny_mono ((F _ kb (ns1 hns)).run callerA [] s₁ H ⟨[.ref a], []⟩ [.ref a] [.ref a] _ _ rfl hr env (hbind s₁ (.ref a)) (.cons rfl .nil) hsp) fun r s' h => ?_
  have fin : ∀ u, CE [] P w H s₁ (fun v _ => v = .bl true) u s' → u = Value.bool true ∧ OldK s₁.heap s'.heap ∧ s'.os = s₁.os ∧ AllBare s'.gens := fun u ⟨v, H', os, bare, un, hok', r', q⟩ => by
    have q' : v = .bl true := q
    subst q'
    refine ⟨r', OldK.of_keep fun b o e => ?_, os, bare⟩
    cases z0 : H b with
    | none => exact un.keep b o e z0 (fun z => absurd (show b ∈ ([] : List Addr) from z) List.not_mem_nil) List.not_mem_nil
    | some u =>
      rcases hO b with z | ⟨ob, xs, z⟩
      · rw [z0] at z
        exact nomatch z
      · obtain ⟨e1, _⟩ := hok b _ z
        obtain ⟨e2, _⟩ := hok' b _ (un.frzs b ob _ z)
        rw [e] at e1
        cases e1
        exact e2
  cases r with
  | error e => exact h.elim
  | ok fl =>
    cases fl <;> first
      | (obtain ⟨rfl, q⟩ := fin _ h; exact ⟨rfl, q⟩)
      | exact False.elim h
theorem law_callG (KX : K.In s₁.heap) (hns : s₁.heap.Ns mainGlobals mg) (hb : s₁.heap.Ns builtinsNs mb) (hbb : ∀ x : Str, x ≠ "__name__" → mb x = bootBuiltins x) (hlim : s₁.heap.NoLimit) (hg : s₁.gens = #[])
    (ha : s₁.heap.get? a = some { cls := .type "list", data := .seq vs.toArray }) (hi : IntsAre vs ns) (hl : ns.length ≤ sizeLine) (hr : Room k callerA)
    (F : ∀ base : Heap, K.In base → base.Ns mainGlobals mg → FnG P w K mg base CX0 k fa fd [x] sp) (hbind : ∀ (s : Shared) (u : Value), BindsTo s fd ⟨[u], []⟩ [(x, u)])
    (hsp : ∀ H : Hp, Only H → SqL K H a (ns.map V.int) → sp [.ref a] H (fun v _ => v = .bl true) fun _ _ _ => False) :
    codeAny (model P w) callerA (.call (.ref fa) ⟨[.ref a], []⟩) (fun r s' => r = .ok (.ret (.bool true)) ∧ OldK s₁.heap s'.heap ∧ s'.os = s₁.os ∧ AllBare s'.gens) s₁ := by
  have rv := vals_ints hi
  have lz : vs.length ≤ sizeLine := by have q := hi.length; omega
  have go := fun (H : Hp) (hO : Only H) (hS : SqL K H a (ns.map V.int)) => headG (k := k) (sp := sp) (H := H) (P := P) (w := w) KX hns hb hbb hlim hg ha hr F hbind (hsp H hO hS) hO
  cases hk : K.lookup a with
  | some o =>
    obtain rfl : o = { cls := .type "list", data := .seq vs.toArray } := Option.some.inj ((KX a o hk).symm.trans ha)
    exact go (fun _ => none) (fun _ => .inl rfl) (.inr ⟨_, vs.toArray, _, hk, rfl, rfl, rfl, by rw [List.size_toArray]; exact lz, by simpa using rv⟩) (fun b u z => nomatch (show (none : Option HO) = some u from z)) (fun b z => absurd rfl z) fun z => absurd rfl z
  | none =>
    have one : ∀ b u, (if b = a then some (HO.frz { cls := .type "list", data := .seq vs.toArray } (.lst (ns.map V.int))) else none) = some u → b = a ∧ u = .frz { cls := .type "list", data := .seq vs.toArray } (.lst (ns.map V.int)) := fun b u z => by
      by_cases h : b = a
      · rw [if_pos h] at z
        exact ⟨h, (Option.some.inj z).symm⟩
      · rw [if_neg h] at z
        exact nomatch z
    refine go (fun b => if b = a then some (.frz { cls := .type "list", data := .seq vs.toArray } (.lst (ns.map V.int))) else none) (fun b => ?_) (.inl (.inr ⟨{ cls := .type "list", data := .seq vs.toArray }, if_pos rfl⟩)) (fun b u z => ?_) (fun b z => ?_) fun _ => hk
    · by_cases h : b = a
      · exact .inr ⟨_, _, if_pos h⟩
      · exact .inl (if_neg h)
    · obtain ⟨rfl, rfl⟩ := one b u z
      exact ⟨ha, by rw [List.length_map]; exact hl, vs, _, rv, ha⟩
    · cases q : (if b = a then some (HO.frz { cls := .type "list", data := .seq vs.toArray } (.lst (ns.map V.int))) else none) with
      | none => exact absurd q z
      | some u => exact (one b u q).1
end
/-- the goal that the head leaves, from the promise of the law's def -/
theorem walk_ofG {l : PySem.W.OpenLaw} {n k : Nat} {q : Program} {loose : List Str} {XP : (Str → Option Value) → Heap → Prop} {YP : World → Heap → Prop} {d : DefRec} {K : Params → PySem.W.Frag} {sp : PySem.W.Frag → Sp} {x : Str}
    (hn : l.most = some n) (hn2 : n ≤ sizeLine) (hdf : d.params.defaults = []) (hr : Room k callerA) (hY : ∀ (w : World) (h : Heap), YP w h → (K w.params).In h)
    (F : ∀ (w : World) (mg : Str → Option Value) (fa : Addr) (h : Heap), (K w.params).In h → h.Ns mainGlobals mg → mg d.name = some (.ref fa) →
      ∃ fd : FuncData, (∀ (s : Shared) (u : Value), BindsTo s fd ⟨[u], []⟩ [(x, u)]) ∧ ∀ base : Heap, (K w.params).In base → base.Ns mainGlobals mg → FnG l.prog w (K w.params) mg base CX0 k fa fd [x] (sp (K w.params)))
    (hsp : ∀ (K : PySem.W.Frag) (H : Hp) (a : Addr) (ns : List Int), ns.length ≤ n → Only H → SqL K H a (ns.map V.int) → sp K [.ref a] H (fun v _ => v = .bl true) fun _ _ _ => False) : PySem.W.WalkO q loose XP YP l.row.toRowW d [] (fun f vs => PySem.call f vs) := by
  refine Att.attach_call hn hdf fun w s₀ s₁ mg mb fa o pm cd doc a vs ns G Y ho hd hcd hmg hobj hints hlen hg => ?_
  obtain ⟨fd, hb, hF⟩ := F w mg fa _ (hY w _ Y) G.T.g hmg
  exact law_callG (hY w _ Y) G.T.g G.T.b G.T.builtins G.T.nolimit hg hobj hints (Nat.le_trans hlen hn2) hr hF hb fun H hO hS => hsp _ H a ns hlen hO hS
end L2

namespace L2
open PySem PySem.Spec PyProof.Rows VkX
/-! ### Data: what repr shows -/
mutual
/-- the datum at a value: numbers, texts, None, bools, lists and tuples of such, the empty dict -/
inductive Dq (K : PySem.W.Frag) (H : Hp) : V → PyData → Prop
  | non : Dq K H .non .none
  | bl (b : Bool) : Dq K H (.bl b) (.bool b)
  | int (i : Int) : Dq K H (.int i) (.int i)
  | str (x : Str) : Dq K H (.str x) (.str x)
  | lst {a : Addr} {xs : List V} {ds : List PyData} : H a = some (.lst xs) → DqAll K H xs ds → Dq K H (.ref a) (.list ds)
  | tup {a : Addr} {xs : List V} {ds : List PyData} : H a = some (.tup xs) → DqAll K H xs ds → Dq K H (.ref a) (.tuple ds)
  | dic {a : Addr} : H a = some (.dK []) → Dq K H (.ref a) (.dict [])
inductive DqAll (K : PySem.W.Frag) (H : Hp) : List V → List PyData → Prop
  | nil : DqAll K H [] []
  | cons {v : V} {vs : List V} {d : PyData} {ds : List PyData} : Dq K H v d → DqAll K H vs ds → DqAll K H (v :: vs) (d :: ds)
end
section
variable {X : Cx} {pins : List (Addr × Obj)} {σ : St} {H : Hp} {s : Shared}
mutual
/-- no list within -/
def noList : PyData → Bool
  | .list _ => false
  | .tuple xs => noListAll xs
  | _ => true
def noListAll : List PyData → Bool
  | [] => true
  | x :: xs => noList x && noListAll xs
end
mutual
theorem Dq.reads (I : Inv X pins σ H s) : ∀ (d : PyData) (v : V) (u : Value), Dq X.K H v d → RelV v u → ∃ as, Reads s.heap u d as ∧ (noList d = true → sysModules ∉ as)
  | .none, _, _, h, r => by
    cases h; cases r
    exact ⟨_, .none, fun _ => List.not_mem_nil⟩
  | .bool b, _, _, h, r => by
    cases h; cases r
    exact ⟨_, .bool b, fun _ => List.not_mem_nil⟩
  | .int i, _, _, h, r => by
    cases h
    obtain ⟨t, rfl⟩ := r
    exact ⟨_, .int i t, fun _ => List.not_mem_nil⟩
  | .str x, _, _, h, r => by
    cases h
    obtain ⟨t, rfl⟩ := r
    exact ⟨_, .str x t, fun _ => List.not_mem_nil⟩
  | .list ds, _, _, h, r => by
    cases h with
    | @lst a _ _ hs ha =>
      cases r
      obtain ⟨its, rv, p, _⟩ := I.list (.inl (.inl hs))
      obtain ⟨o, n, ho, hc, _, hd⟩ := p
      obtain ⟨as, hr, hn⟩ := Dq.readsAll I ds _ its ha rv
      exact ⟨_, .list ho hc hd hr, fun z => by simp [noList] at z⟩
  | .tuple ds, _, _, h, r => by
    cases h with
    | tup hs ha =>
      cases r
      obtain ⟨its, rv, p, _⟩ := I.tuple (.inl (.inl hs))
      obtain ⟨o, ho, hc, n, hd⟩ := p
      obtain ⟨as, hr, hn⟩ := Dq.readsAll I ds _ its ha rv
      exact ⟨_, .tuple ho hc hd hr, fun z => hn (by simpa [noList] using z)⟩
  | .dict _, _, _, h, r => by
    cases h with
    | @dic a ha =>
      cases r
      obtain ⟨_, ne, vs, kv, o, es, ep, e1, e2, e3, e4, e5, _⟩ := (show ObjOk X.prog X.w H s.heap a (.dK []) from I.hok a _ ha)
      have ev : vs = [] := by
        cases kv
        rfl
      subst ev
      have ee : es.toList = [] := by
        cases q : es.toList with
        | nil => rfl
        | cons e r =>
          rw [q] at e5
          cases e5
      refine ⟨[a] ++ [], .dict (as := []) (bs := []) (kvs := []) e1 e2.1 e3 (by rw [ee]; exact .nil) (by rw [ee]; exact .nil), fun _ z => ?_⟩
      rcases List.mem_singleton.mp (by simpa using z) with z
      rw [← z] at ne
      simp at ne
theorem Dq.readsAll (I : Inv X pins σ H s) : ∀ (ds : List PyData) (vs : List V) (us : List Value), DqAll X.K H vs ds → Vals vs us → ∃ as, ReadsAll s.heap us ds as ∧ (noListAll ds = true → sysModules ∉ as)
  | [], _, _, h, r => by
    cases h; cases r
    exact ⟨_, .nil, fun _ => List.not_mem_nil⟩
  | d :: ds, _, _, h, r => by
    cases h with
    | cons h1 h2 =>
      cases r with
      | cons r1 r2 =>
        obtain ⟨as, q1, n1⟩ := Dq.reads I d _ _ h1 r1
        obtain ⟨bs, q2, n2⟩ := Dq.readsAll I ds _ _ h2 r2
        refine ⟨_, .cons q1 q2, fun y z => ?_⟩
        have y2 : noList d = true ∧ noListAll ds = true := by simpa [noListAll] using y
        exact (List.mem_append.mp z).elim (n1 y2.1) (n2 y2.2)
end
end
section
variable {X : Cx}
/-- repr(v) -/
def rRepr (K : PySem.W.Frag) : List V → Hp → VK → Prop := fun xs H Q => ∃ (v : V) (d : PyData), xs = [v] ∧ Dq K H v d ∧ (d.hasDict = true → noList d = true) ∧ d.showable = true ∧ d.depth ≤ 40 ∧ d.shown.length ≤ sizeLine ∧ Q (.str d.shown) H
theorem call_reprD (hG : X.A.guards = some []) (hu : X.A.units + 64 < cLine) : CallR X (.builtin "repr") (rRepr X.K) := by
  intro pins s σ H xs us Q I r h
  obtain ⟨v, d, rfl, hd, hdl, hs, hdp, hz, q⟩ := h
  obtain ⟨u, rfl, ru⟩ := vals1 r
  obtain ⟨as, hr, hn⟩ := Dq.reads I d v u hd ru
  have fin : ∀ h' (t : Tok) (tk : Nat), (∀ b o, s.heap.get? b = some o → h'.get? b = some o) → EP X pins σ Q (.str d.shown t) { s with heap := h', toks := tk } := fun h' t tk k => ⟨.str d.shown, H, I.kept (t' := tk) k, ⟨t, rfl⟩, q⟩
  have same : ∀ b o, s.heap.get? b = some o → s.heap.get? b = some o := fun _ _ e => e
  cases hr with
  | none => exact PySem.P.repr_of_none (fin s.heap _ _ same)
  | bool b => exact PySem.P.repr_of_bool (fin s.heap _ _ same)
  | int i t => exact PySem.P.repr_of_int (by simpa [PyData.showable] using hs) (fin s.heap _ _ same)
  | str x t => exact PySem.P.repr_of_str (fin s.heap _ _ same) hz
  | list h1 h2 h3 h4 => exact repr_of_reads' (.list h1 h2 h3 h4) hs (fun z => hn (hdl z)) hG (by omega) same (fun h' t tk k => fin h' t tk k) hz
  | tuple h1 h2 h3 h4 => exact repr_of_reads' (.tuple h1 h2 h3 h4) hs (fun z => hn (hdl z)) hG (by omega) same (fun h' t tk k => fin h' t tk k) hz
  | dict h1 h2 h3 h4 h5 => exact repr_of_reads' (.dict h1 h2 h3 h4 h5) hs (fun z => hn (hdl z)) hG (by omega) same (fun h' t tk k => fin h' t tk k) hz
/-! ### exceptions as values: made without arguments, asked for a field, for their class -/
/-- what the top says of an exception's class when it is asked -/
structure XAsk (K : PySem.W.Frag) (C : Addr) : Prop where
  ec : ExcC K C
/-- C(), a class that has no __init__ of its own -/
def tX0 (C : Addr) : TE := fun _ H Q => ∀ a, H a = none → Q (.ref a) (upd H a (exo a C none))
theorem pe_x0 {nm : Str} {p pos : Pos} {C : Addr} {B i newId : String} {bmB : List Value} (hq : PySem.W.excInitIn X.K C bmB newId = true) (FB : ExcBaseFacts B newId i bmB) (iC : PySem.W.findIn X.K (.ref C) "__init__" = some (some (.builtin i))) (kC : PySem.W.keepIn X.K (.ref C) = true) (gC : X.mg nm = some (.ref C))
    (hg : Gl X nm := by rfl) (hdb : (nm == ("__debug__" : Str)) = false := by decide) : PE X (.Call (.Name nm p) [] [] pos) (tX0 C) := by
  refine ⟨fun pins s σ H Q I h => ?_⟩
  refine wpAny_Call_Name_kw (ld_glob I hg gC ?_ hdb)
  refine PySem.W.callWith_K0 I.kIn kC ?_
  obtain ⟨nm', N', qn, bs, bm, hdct, sn, sub, ab, col, dd, k0, k1, k2, k3, k5, hC, hT⟩ := PySem.W.excInit_of I.kIn hq
  obtain ⟨hp, g, d, tk, os⟩ := s
  refine PySem.W.call_B FB hT hC (PySem.W.looks_findIn I.kIn iC) (Nat.zero_le _) fun h' k he _ => ?_
  exact ⟨.ref (hp.objs.size + 1), _, I.laid (t' := tk) k (Nat.le_succ _) (exo_ok he), rfl, h _ (I.hok.fresh (Nat.le_succ _))⟩
/-- e.f, e an exception with that field -/
def tXfld (K : PySem.W.Frag) (f : Str) (te : TE) : TE := fun σ H Q => te σ H fun x H1 => ∃ (a C dx : Addr) (fs : List (Str × V)) (v : V), x = .ref a ∧ H1 a = some (exo a C (some dx)) ∧ H1 dx = some (exd dx fs) ∧ fs.lookup f = some v ∧ ExcC K C ∧ PySem.W.findIn K (.ref C) f = some none ∧ Q v H1
theorem pe_xfld {e : Expr} {te : TE} {f : Str} {pos : Pos} (he : PE X e te) (hb : attributeBase e f X.env (eval e X.env) = eval e X.env := by rfl) : PE X (.Attribute e f pos) (tXfld X.K f te) := by
  refine ⟨fun pins s σ H Q I h => attr_of hb (thn (he.run pins s σ H _ I h) fun u s1 hh => ?_)⟩
  obtain ⟨x, H1, I1, rx, a, C, dx, fs, v, ex, ea, ed, hl, T, hno, q⟩ := hh
  subst ex
  obtain rfl : u = Value.ref a := rx
  obtain ⟨t1, ho⟩ := exo_at I1.hok ea
  obtain ⟨mA, hns, rel⟩ := exd_at I1.hok ed
  obtain ⟨od, hod, hlk⟩ := lookIn_ns hns
  obtain ⟨z, hz, rz⟩ := RelO.some_of (v := v) (o := mA f) (by rw [← hl]; exact rel f)
  have J : PySem.W.InstAt s1.heap a ({ cls := .ref C, dict := some dx, data := .fields #[.ref t1, .none, .none, .none, .bool false, .none] } : Obj) C (some od) := ⟨ho, rfl, rfl, hod⟩
  exact HandSPX.exc_get I1.kIn J T.hg T.hk T.hs (PySem.W.findObj_own T.hd hno rfl (by rw [hlk, hz])) (handed_of rz) ⟨v, H1, I1.tok _, rz, q⟩
/-- isinstance(e, c), e an exception -/
def rIsX (K : PySem.W.Frag) : List V → Hp → VK → Prop := fun xs H Q => ∃ (a C : Addr) (d : Option Addr) (c : V) (cv : Value) (b : Bool), xs = [.ref a, c] ∧ H a = some (exo a C d) ∧ (d = none ∨ ∃ dx fs, d = some dx ∧ H dx = some (exd dx fs)) ∧ ClsV c cv ∧ ExcC K C ∧ PySem.W.kitOne K (.ref C) cv = some b ∧ Q (.bl b) H
theorem call_isX : CallR X (.builtin "isinstance") (rIsX X.K) := by
  intro pins s σ H xs us Q I r h
  obtain ⟨a, C, d, c, cv, b, rfl, ha, hd, k, T, e, q⟩ := h
  obtain ⟨u1, u2, rfl, r1, r2⟩ := vals2 r
  obtain rfl : u1 = Value.ref a := r1
  have e2 := k.eq r2
  subst e2
  obtain ⟨t1, ho⟩ := exo_at I.hok ha
  have go : ∀ od : Option Obj, PySem.W.InstAt s.heap a ({ cls := .ref C, dict := d, data := .fields #[.ref t1, .none, .none, .none, .bool false, .none] } : Obj) C od → wpAny (model X.prog X.w) X.A (call (.builtin "isinstance") [.ref a, u2]) (EP X pins σ Q) X.xe s := fun od J => by
    have hcl : (PySem.W.clsIn X.K C).isSome = true := by
      obtain ⟨cd, hc, _⟩ := PySem.W.any_some T.hd
      rw [hc]
      rfl
    exact PySem.W.kia_one (PySem.W.kitx_exc hcl T.hg T.hk T.hs T.ha T.hn T.ht T.hm) I.kIn J e (fun z => nomatch z) fun tk => ⟨.bl b, H, I.tok tk, rfl, q⟩
  rcases hd with rfl | ⟨dx, fs, rfl, ed⟩
  · exact go none ⟨ho, rfl, rfl, trivial⟩
  · obtain ⟨mA, hns, rel⟩ := exd_at I.hok ed
    obtain ⟨od, hod, _⟩ := lookIn_ns hns
    exact go (some od) ⟨ho, rfl, rfl, hod⟩
end
end L2

namespace L2
open PySem PySem.Spec PyProof.Rows VkX
/-- an exception of the class at C, its one field f holding v -/
def XAt (H : Hp) (a C : Addr) (f : Str) (v : V) : Prop := ∃ dx, H a = some (exo a C (some dx)) ∧ H dx = some (exd dx [(f, v)])
/-- an exception of the class at C without a field -/
def X0At (H : Hp) (a C : Addr) : Prop := H a = some (exo a C none)
theorem XAt.same {H H' : Hp} {a C : Addr} {f : Str} {v : V} (x : XAt H a C f v) (s : Same H H') : XAt H' a C f v := let ⟨dx, h1, h2⟩ := x; ⟨dx, s _ _ h1, s _ _ h2⟩
theorem same_new {H : Hp} {p : Addr} {o : HO} (h : H p = none) : Same H (upd H p o) := fun b u e => by rw [upd_ne (ne_of_none e h)]; exact e
theorem same_x {H : Hp} {a dx : Addr} {o u : HO} (na : H a = none) (nd : H dx = none) : Same H (upd (upd H dx u) a o) := fun b w e => by rw [upd_ne (ne_of_none e na), upd_ne (ne_of_none e nd)]; exact e
/-- what C(e) leaves -/
theorem x_new {H : Hp} {C : Addr} {f : Str} {v : V} {Q : V → Hp → Prop} (k : ∀ H' a, Same H H' → XAt H' a C f v → Q (.ref a) H') : ∀ a dx, H a = none → H dx = none → dx ≠ a → Q (.ref a) (upd (upd H dx (exd dx [(f, v)])) a (exo a C (some dx))) :=
  fun a dx na nd ne => k _ a (same_x na nd) ⟨dx, upd_same, by rw [upd_ne ne, upd_same]⟩
theorem x0_new {H : Hp} {C : Addr} {Q : V → Hp → Prop} (k : ∀ H' a, Same H H' → X0At H' a C → Q (.ref a) H') : ∀ a, H a = none → Q (.ref a) (upd H a (exo a C none)) := fun a na => k _ a (same_new na) upd_same
theorem x_two {H : Hp} {a dx C : Addr} {f : Str} {v : V} (na : H a = none) (nd : H dx = none) (ne : dx ≠ a) : Same H (upd (upd H dx (exd dx [(f, v)])) a (exo a C (some dx))) ∧ XAt (upd (upd H dx (exd dx [(f, v)])) a (exo a C (some dx))) a C f v :=
  ⟨same_x na nd, dx, upd_same, by rw [upd_ne ne, upd_same]⟩
theorem x_one {H : Hp} {a C : Addr} (na : H a = none) : Same H (upd H a (exo a C none)) ∧ X0At (upd H a (exo a C none)) a C := ⟨same_new na, upd_same⟩
/-- a field read -/
theorem x_fld {K : PySem.W.Frag} {H : Hp} {a C : Addr} {f : Str} {v : V} {Q : V → Hp → Prop} (x : XAt H a C f v) (T : ExcC K C) (n : PySem.W.findIn K (.ref C) f = some none) (q : Q v H) :
    ∃ (a' C dx : Addr) (fs : List (Str × V)) (z : V), V.ref a = .ref a' ∧ H a' = some (exo a' C (some dx)) ∧ H dx = some (exd dx fs) ∧ fs.lookup f = some z ∧ ExcC K C ∧ PySem.W.findIn K (.ref C) f = some none ∧ Q z H := by
  obtain ⟨dx, h1, h2⟩ := x
  exact ⟨a, C, dx, _, v, rfl, h1, h2, by simp [List.lookup], T, n, q⟩
theorem look1 {f : Str} {v : V} : ([(f, v)] : List (Str × V)).lookup f = some v := by simp [List.lookup]
/-- a place in a list, written out -/
theorem ix_lit {K : PySem.W.Frag} {H : Hp} {p : Addr} {xs : List V} {i : Int} {v : V} {Q : V → Hp → Prop} (h : H p = some (.lst xs)) (e : atI xs i = some v) (q : Q v H) : ∃ (p' : Addr) (xs' : List V) (i' : Int) (v' : V), V.ref p = .ref p' ∧ V.int i = .int i' ∧ SqL K H p' xs' ∧ atI xs' i' = some v' ∧ Q v' H :=
  ⟨p, xs, i, v, rfl, rfl, .inl (.inl h), e, q⟩
end L2
namespace L2
open PySem PySem.Spec PyProof.Rows
section
variable {K : PySem.W.Frag} {H H' : Hp}
mutual
theorem Dq.same (s : Same H H') : ∀ (d : PyData) (v : V), Dq K H v d → Dq K H' v d
  | .none, _, h => by cases h; exact .non
  | .bool b, _, h => by cases h; exact .bl b
  | .int i, _, h => by cases h; exact .int i
  | .str x, _, h => by cases h; exact .str x
  | .list ds, _, h => by cases h with | lst h1 h2 => exact .lst (s _ _ h1) (DqAll.same s ds _ h2)
  | .tuple ds, _, h => by cases h with | tup h1 h2 => exact .tup (s _ _ h1) (DqAll.same s ds _ h2)
  | .dict _, _, h => by cases h with | dic h1 => exact .dic (s _ _ h1)
theorem DqAll.same (s : Same H H') : ∀ (ds : List PyData) (vs : List V), DqAll K H vs ds → DqAll K H' vs ds
  | [], _, h => by cases h; exact .nil
  | d :: ds, _, h => by cases h with | cons h1 h2 => exact .cons (Dq.same s d _ h1) (DqAll.same s ds _ h2)
end
theorem dpBools : ∀ bs : List Bool, DpAll K H (bs.map V.bl) (bs.map PyData.bool)
  | [] => .nil
  | b :: bs => .cons (.bl b) (dpBools bs)
end
theorem boolsLay : ∀ bs : List Bool, PyData.canLayAll0 (bs.map PyData.bool) = true
  | [] => by simp [PyData.canLayAll0]
  | b :: bs => by
    show PyData.canLayAll0 (PyData.bool b :: bs.map PyData.bool) = true
    simp only [PyData.canLayAll0, PyData.canLay0, Bool.true_and]
    exact boolsLay bs
theorem boolsDepth : ∀ bs : List Bool, PyData.depthAll (bs.map PyData.bool) = 0
  | [] => by simp [PyData.depthAll]
  | b :: bs => by
    have h := boolsDepth bs
    simp only [List.map_cons, PyData.depthAll, PyData.depth, h]
    rfl
theorem boolsShaped (bs : List Bool) : SeqAt.shaped (.list (bs.map PyData.bool)) = true := by
  show (PyData.canLay0 (.list (bs.map PyData.bool)) && decide (PyData.depth (.list (bs.map PyData.bool)) ≤ 64)) = true
  have h1 := boolsLay bs
  have h2 := boolsDepth bs
  simp only [PyData.canLay0, PyData.depth, h1, h2]
  decide
theorem boolsEqv0 : ∀ bs : List Bool, PyData.eqvAll (bs.map PyData.bool) (bs.map PyData.bool) = true
  | [] => by simp [PyData.eqvAll]
  | b :: bs => by
    have h := boolsEqv0 bs
    simp only [List.map_cons, PyData.eqvAll, h]
    cases b <;> simp [PyData.eqv]
theorem boolsEqv (bs : List Bool) : PyData.eqv (.list (bs.map PyData.bool)) (.list (bs.map PyData.bool)) = true := by
  simp only [PyData.eqv]
  exact boolsEqv0 bs
theorem decV (i j : Int) : decide (V.int i = V.int j) = decide (i = j) := by
  by_cases h : i = j
  · subst h; simp
  · rw [decide_eq_false h, decide_eq_false (fun z => h (V.int.inj z))]
/-- two lists of the same bools are not unlike -/
theorem bools_ne {K : PySem.W.Frag} {H : Hp} {a b : Addr} {bs : List Bool} {Q : V → Hp → Prop} (ha : H a = some (.lst (bs.map V.bl))) (hb : H b = some (.lst (bs.map V.bl))) (q : Q (.bl false) H) :
    ∃ d e, Dp K H (.ref a) d ∧ Dp K H (.ref b) e ∧ SeqAt.shaped d = true ∧ SeqAt.shaped e = true ∧ Q (.bl (!PyData.eqv d e)) H :=
  ⟨.list (bs.map PyData.bool), .list (bs.map PyData.bool), .lst (.inl (.inl ha)) (dpBools bs), .lst (.inl (.inl hb)) (dpBools bs), boolsShaped bs, boolsShaped bs, by rw [boolsEqv]; exact q⟩
theorem ifno {c : Bool} {A B : Prop} (e : c = false) (h : B) : if c = true then A else B := by
  rw [e, if_neg Bool.false_ne_true]
  exact h
theorem ifyes {c : Bool} {A B : Prop} (e : c = true) (h : A) : if c = true then A else B := by
  rw [e, if_pos rfl]
  exact h
end L2

namespace VkX
open PySem PySem.W PySem.Calls PyProof.Rows
/-- what is reckoned of a class and its __init__ over the written part -/
def xcB (K : Frag) (qual fld : Str) (B i newId : String) (bmB : List Value) (C fI cda : Addr) : Bool :=
  excInitIn K C bmB newId && (findIn K (.ref C) "__init__" == some (some (.ref fI))) && (typeIn K (.ref fI) == some (.type "function")) && excOver K C bmB && (takerIn K C fld == some none) &&
  (findIn K (.ref C) "__setattr__" == some (some (.builtin "object.__setattr__"))) && hasDictIn K C && (ks_superIn K C C "__init__" == some (some (.builtin i))) && (subIn K (.ref C) (.type B) == some true) &&
  (mroIn K C (.ref C) == some true) && codeIn K (.ref cda) qual && keepIn K (.ref C) && (findIn K (.ref C) fld == some none)
/-- what isinstance and a field's read lean on -/
def ecB (K : Frag) (D : Addr) : Bool :=
  (findIn K (.ref D) "__getattribute__" == some (some (.builtin "BaseException.__getattribute__"))) && (findIn K (.ref D) "__getattr__" == some none) && (subIn K (.ref D) (.type "BaseException") == some true) && hasDictIn K D &&
  (findIn K (.ref D) "__class__" == some (some (.builtin "object.__class__"))) && (specialIn K (.builtin "object.__class__") "__get__" == some (some (.builtin "getset_descriptor.__get__"))) && (takesIn K (.builtin "object.__class__") == some true) && (mroIn K D (.type "object") == some true)
theorem ecB_ok {K : Frag} {D : Addr} (h : ecB K D = true) : L2.ExcC K D := by
  unfold ecB at h
  simp only [Bool.and_eq_true, beq_iff_eq] at h
  obtain ⟨⟨⟨⟨⟨⟨⟨h1, h2⟩, h3⟩, h4⟩, h5⟩, h6⟩, h7⟩, h8⟩ := h
  exact ⟨h1, h2, h3, h4, h5, h6, h7, h8⟩
/-- the classes' table: row i, column j -/
def kitTab (K : Frag) (cs ts : List Value) (bs : List (List Bool)) : Bool :=
  (cs.map fun c => ts.map fun t => kitOne K c t) == bs.map fun r => r.map some
theorem kitTab_at {K : Frag} {cs ts : List Value} {bs : List (List Bool)} (h : kitTab K cs ts bs = true) {i j : Nat} {c t : Value} {r : List Bool} {b : Bool} (hc : cs[i]? = some c) (ht : ts[j]? = some t) (hr : bs[i]? = some r) (hb : r[j]? = some b) : kitOne K c t = some b := by
  have e : (cs.map fun c => ts.map fun t => kitOne K c t) = bs.map fun r => r.map some := beq_iff_eq.mp h
  have e1 := congrArg (fun l => l[i]?) e
  simp only [List.getElem?_map, hc, hr, Option.map_some, Option.some.injEq] at e1
  have e2 := congrArg (fun l => l[j]?) e1
  simp only [List.getElem?_map, ht, hb, Option.map_some, Option.some.injEq] at e2
  exact e2
theorem xc_mk {prog : Program} {K : Frag} {mg : Str → Option Value} {nm qual msg fld : Str} {B i newId : String} {bmB : List Value} {C fI cda cc : Addr} {oc doc pm ct ccl cl : Value} {od an cdd cld : Option Addr} {osl ccs csl : Array (Option Value)} {vs : Array Value} {file : Str} {tf : Tok}
    {p1 p2 q1 q2 q3 q4 q5 q6 q7 q8 q9 q10 : Pos} (KF : KxsFacts B i) (FB : ExcBaseFacts B newId i bmB) (SF : StoreFacts B bmB "object.__setattr__" "object") (XX : XF fld) (hc : XCall msg q1 q2 q3 q4 q5) (top : (prog.main.scope.names.lookup ("super" : Str)).isSome = false) (su : mg "super" = none) (no : nsIn K cStatics "thirdparty.any" = some none) (gC : mg nm = some (.ref C))
    (b : xcB K qual fld B i newId bmB C fI cda = true) (l1 : K.lookup fI = some ⟨oc, od, .func (ksFn "__init__" qual (xA fld p1 p2) (xB msg fld q1 q2 q3 q4 q5 q6 q7 q8 q9 q10) (xS fld) .none .none doc pm an (.ref cda) ct cc), osl⟩)
    (l2 : K.lookup cda = some ⟨ccl, cdd, .fields vs, ccs⟩) (hv : vs[2]? = some (.str file tf)) (hf : ((prog.main.file : Str) == file) = true) (l3 : K.lookup cc = some ⟨cl, cld, .cell (some (.ref C)), csl⟩) :
    L2.XCls prog K mg nm qual msg fld B i newId bmB C fI ∧ findIn K (.ref C) fld = some none := by
  unfold xcB at b
  simp only [Bool.and_eq_true, beq_iff_eq] at b
  obtain ⟨⟨⟨⟨⟨⟨⟨⟨⟨⟨⟨⟨b1, b2⟩, b3⟩, b4⟩, b5⟩, b6⟩, b7⟩, b8⟩, b9⟩, b10⟩, b11⟩, b12⟩, b13⟩ := b
  exact ⟨⟨⟨b1, b2, b3, b4, b5, b6, b7, b8, b9, b10, no, ⟨_, _, _, _, _, cda, cc, _, _, p1, p2, q1, q2, q3, q4, q5, q6, q7, q8, q9, q10, _, _, _, _, _, _, _, _, _, l1, b11, l2, hv, hf, hc, l3⟩, top⟩, KF, FB, SF, XX, b12, gC, su⟩, b13⟩
end VkX

/-! == and != between an own instance and other values. -/
namespace VkX
open PySem PySem.W PySem.Calls PyProof.Rows PySem.Spec
section
variable {prog : Program} {w : World} {A : Around} {E : Value → Shared → Prop} {s : Shared} {K : Frag} {x C L f : Addr} {h₀ : Heap} {m : Str → Option Value} {ox : Obj} {od : Option Obj} {b u : Value}
/-- an own instance asked for == : its def's answer -/
theorem own_eq {Q : Option Value → Shared → Prop} (X : K.In s.heap) (I : InstAt s.heap x ox C od) (hs : findIn K (.ref C) "__eq__" = some (some (.ref f))) (hf : isFn K (.ref f) = true)
    (h : wpAny (model prog w) A (call (.ref f) [.ref x, b]) (fun v s' => ∃ k, v = .bool k ∧ Q (some (.bool k)) s') E s) : wpAny (model prog w) A (callSpecialIfBound? (.ref x) "__eq__" [b]) Q E s :=
  ifBound_K X I hs hf (wpAny_mono h (fun v s' ⟨k, e, q⟩ => by rw [e]; exact q) fun _ _ e => e)
/-- u == x, u of a built-in type whose own == declines: the instance's def is asked -/
theorem rc_back {T ida : String} {Q : Value → Shared → Prop} (hu : A.units < cLine) (X : K.In s.heap) (I : InstAt s.heap x ox C od) (ha : s.TypeIs u T) (sub : subIn K (.ref C) (.type T) = some false) (sl : Slot T "__eq__" ida)
    (dec : ∀ Q' : Value → Shared → Prop, Q' .notImplemented s → wpAny (model prog w) A (call (.builtin ida) [u, .ref x]) Q' E s)
    (hs : findIn K (.ref C) "__eq__" = some (some (.ref f))) (hf : isFn K (.ref f) = true) (h : wpAny (model prog w) A (call (.ref f) [.ref x, u]) (fun v s' => ∃ k, v = .bool k ∧ Q (.bool k) s') E s) :
    wpAny (model prog w) A (richCompare .Eq u (.ref x)) Q E s := by
  unfold richCompare
  simp only [ha.oneThing_none]
  refine wpAny_holding (wpAny_bind (wpAny_cRoomFor hu (wpAny_bind (wpAny_typeOf ha (wpAny_bind (I.type.here ?_))))))
  have ne : (Value.type T != Value.ref C) = true := by simp
  simp only [ne, if_true]
  refine wpAny_bind ((looks_subIn X sub).here ?_)
  simp only [Bool.false_eq_true, if_false, Bool.not_false, if_true]
  refine wpAny_bind (m := tryCompare u _ (.ref x)) (wpAny_tryCompare_declines ha sl (dec _ ⟨rfl, ?_⟩))
  refine wpAny_bind (m := tryCompare (.ref x) _ u) ?_
  unfold tryCompare
  refine wpAny_bind (own_eq X I hs hf (wpAny_mono h (fun v s' ⟨k, e, q⟩ => ⟨k, e, ?_⟩) fun _ _ e => e))
  exact wpAny_pure (wpAny_pure q)
/-- what a built-in == leans on that meets an instance -/
def MeetI (K : Frag) (x C : Addr) (T : String) (P : Heap → Prop) : Around → (Result → Shared → Prop) → Shared → Prop := fun _ R s => K.In s.heap ∧ (∃ dx od, InstAt s.heap x { cls := .ref C, dict := some dx, data := .plain } C od) ∧ subIn K (.ref C) (.type T) = some false ∧ P s.heap ∧ R (.ok (.ret .notImplemented)) s
theorem isi_no {M : Model} {T : String} {h : Heap} (X : K.In h) (I : InstAt h x ox C od) (e : subIn K (.ref C) (.type T) = some false) : Looks M h (isInstance (.ref x) (.type T)) false := I.type.andThen (looks_subIn X e)
theorem no_list (l : Addr) : Meets (Builtin.«list.__eq__» ⟨[.ref l, .ref x], []⟩) (MeetI K x C "list" fun h => ∃ o, h.get? l = some o ∧ o.cls = .type "list") :=
  .of_wp fun prog w A R s h => by
    obtain ⟨X, ⟨dx, od, I⟩, e, ⟨⟨cls, dd, data, sl⟩, ho, hc⟩, q⟩ := h
    simp only at hc
    subst hc
    have hI := isi_no (M := model prog w) X I e
    obtain ⟨hp, g, d, tk, os⟩ := s
    repeat (first | with_reducible refine Looks.at hI ?_ | wp_step)
    exact ⟨_, rfl, q⟩
theorem no_tuple (l : Addr) : Meets (Builtin.«tuple.__eq__» ⟨[.ref l, .ref x], []⟩) (MeetI K x C "tuple" fun h => ∃ o, h.get? l = some o ∧ o.cls = .type "tuple") :=
  .of_wp fun prog w A R s h => by
    obtain ⟨X, ⟨dx, od, I⟩, e, ⟨⟨cls, dd, data, sl⟩, ho, hc⟩, q⟩ := h
    simp only at hc
    subst hc
    have hI := isi_no (M := model prog w) X I e
    obtain ⟨hp, g, d, tk, os⟩ := s
    repeat (first | with_reducible refine Looks.at hI ?_ | with_reducible refine wpAny_loadPart_at ho ?_ | wp_step)
    all_goals exact ⟨_, rfl, q⟩
theorem no_dict (l : Addr) : Meets (Builtin.«dict.__eq__» ⟨[.ref l, .ref x], []⟩) (MeetI K x C "dict" fun h => ∃ o, h.get? l = some o ∧ o.cls = .type "dict") :=
  .of_wp fun prog w A R s h => by
    obtain ⟨X, ⟨dx, od, I⟩, e, ⟨⟨cls, dd, data, sl⟩, ho, hc⟩, q⟩ := h
    simp only at hc
    subst hc
    have hI := isi_no (M := model prog w) X I e
    obtain ⟨hp, g, d, tk, os⟩ := s
    repeat (first | with_reducible refine Looks.at hI ?_ | with_reducible refine wpAny_loadPart_at ho ?_ | wp_step)
    all_goals exact ⟨_, rfl, q⟩
theorem no_int (n : Int) (t : Tok) : Meets (Builtin.«int.__eq__» ⟨[.int n t, .ref x], []⟩) (MeetI K x C "int" fun _ => True) :=
  .of_wp fun prog w A R s h => by
    obtain ⟨X, ⟨dx, od, I⟩, e, _, q⟩ := h
    have hx := I.at_
    have hc := I.cls
    have hI := isi_no (M := model prog w) X I e
    have hS : Looks (model prog w) s.heap (isSubtype (.ref C) (.type "int")) false := looks_subIn X e
    have hT : Looks (model prog w) s.heap (typeOf (.ref x)) (.ref C) := I.type
    obtain ⟨hp, g, d, tk, os⟩ := s
    repeat (first | with_reducible refine Looks.at hI ?_ | with_reducible refine Looks.at hT ?_ | with_reducible refine Looks.at hS ?_ | (with_reducible refine wpAny_loadPart_at hx ?_; (try rw [hc])) | with_reducible refine wpAny_load hx ?_ | wp_step)
    all_goals exact ⟨_, rfl, q⟩
theorem no_str (n : Str) (t : Tok) : Meets (Builtin.«str.__eq__» ⟨[.str n t, .ref x], []⟩) (MeetI K x C "str" fun _ => True) :=
  .of_wp fun prog w A R s h => by
    obtain ⟨X, ⟨dx, od, I⟩, e, _, q⟩ := h
    have hx := I.at_
    have hc := I.cls
    have hI := isi_no (M := model prog w) X I e
    have hS : Looks (model prog w) s.heap (isSubtype (.ref C) (.type "str")) false := looks_subIn X e
    have hT : Looks (model prog w) s.heap (typeOf (.ref x)) (.ref C) := I.type
    obtain ⟨hp, g, d, tk, os⟩ := s
    repeat (first | with_reducible refine Looks.at hI ?_ | with_reducible refine Looks.at hT ?_ | with_reducible refine Looks.at hS ?_ | (with_reducible refine wpAny_loadPart_at hx ?_; (try rw [hc])) | with_reducible refine wpAny_load hx ?_ | wp_step)
    all_goals exact ⟨_, rfl, q⟩
theorem no_NoneType  : Meets (Builtin.«NoneType.__eq__» ⟨[.none, .ref x], []⟩) (MeetI K x C "NoneType" fun _ => True) :=
  .of_wp fun prog w A R s h => by
    obtain ⟨X, ⟨dx, od, I⟩, e, _, q⟩ := h
    have hx := I.at_
    have hc := I.cls
    have hI := isi_no (M := model prog w) X I e
    have hS : Looks (model prog w) s.heap (isSubtype (.ref C) (.type "NoneType")) false := looks_subIn X e
    have hT : Looks (model prog w) s.heap (typeOf (.ref x)) (.ref C) := I.type
    obtain ⟨hp, g, d, tk, os⟩ := s
    repeat (first | with_reducible refine Looks.at hI ?_ | with_reducible refine Looks.at hT ?_ | with_reducible refine Looks.at hS ?_ | (with_reducible refine wpAny_loadPart_at hx ?_; (try rw [hc])) | with_reducible refine wpAny_load hx ?_ | wp_step)
    all_goals exact ⟨_, rfl, q⟩
/-- the object's own != asks the def of == and turns its answer round -/
theorem ne_body {Q : Value → Shared → Prop} (hu : A.units + 2 < cLine) (X : K.In s.heap) (I : InstAt s.heap x ox C od) (so : mroIn K C (.type "object") = some true) (hs : findIn K (.ref C) "__eq__" = some (some (.ref f))) (hf : isFn K (.ref f) = true)
    (h : wpAny (model prog w) A.in1 (call (.ref f) [.ref x, b]) (fun v s' => ∃ k, v = .bool k ∧ Q (.bool (!k)) s') E s) : wpAny (model prog w) A (call (.builtin "object.__ne__") [.ref x, b]) Q E s := by
  have sub : Looks (model prog w) s.heap (isInstance (.ref x) (.type "object")) true := I.type.andThen (looks_mroIn X so)
  refine wpAny_call (codeAny_call_builtin PySem.F.cmp_object.ne.plain PySem.F.cmpEntry_ne ?_)
  refine @check_slot (model prog w) _ _ s "object.__ne__" "object" "__ne__" (.ref x) [b] [] _ PySem.F.cmpKind_ne PySem.F.cmpSplit_ne sub (PySem.F.cmpArgs_ne (.ref x) b) ?_
  unfold Builtin.«object.__ne__»
  refine wpAny_bind (wpAny_of_eq (a := ((Value.ref x : Value), [b])) (by first | rfl | (simp only [slotArgs]; rfl)) ?_)
  refine wpAny_bind (wpAny_cRoomFor (by show A.units + 1 < cLine; omega) (wpAny_bind (own_eq X I hs hf ?_)))
  refine wpAny_mono h (fun v s' ⟨k, e, q⟩ => ⟨k, e, ?_⟩) fun _ _ e => e
  exact wpAny_bind (wpAny_truthy_bool (wpAny_pure q))
end
end VkX

namespace VkX
open PySem PySem.W PySem.Calls PyProof.Rows PySem.Spec
section
variable {prog : Program} {w : World} {A : Around} {E : Value → Shared → Prop} {s : Shared} {K : Frag} {x C f : Addr} {ox : Obj} {od : Option Obj} {b tb : Value}
theorem rc_ne {Q : Value → Shared → Prop} (hu : A.units + 2 < cLine) (X : K.In s.heap) (I : InstAt s.heap x ox C od) (hb : Looks (model prog w) s.heap (typeOf b) tb) (nf : notFirst K C tb = true) (sn : findIn K (.ref C) "__ne__" = some (some (.builtin "object.__ne__")))
    (so : mroIn K C (.type "object") = some true) (hs : findIn K (.ref C) "__eq__" = some (some (.ref f))) (hf : isFn K (.ref f) = true)
    (h : wpAny (model prog w) A.in1 (call (.ref f) [.ref x, b]) (fun v s' => ∃ k, v = .bool k ∧ Q (.bool (!k)) s') E s) : wpAny (model prog w) A (richCompare .NotEq (.ref x) b) Q E s := by
  have body := ne_body (Q := fun v s' => ∃ k, v = .bool k ∧ Q (.bool k) s') hu X I so hs hf (wpAny_mono h (fun v s' ⟨k, e, q⟩ => ⟨k, e, !k, rfl, q⟩) fun _ _ z => z)
  have one : wpAny (model prog w) A (tryCompare (.ref x) "__ne__" b) (fun r s' => ∃ k, r = some (.bool k) ∧ Q (.bool k) s') E s := by
    unfold tryCompare
    simp only [callSpecialIfBound?, bindSpecialIfBound?]
    have fin : wpAny (model prog w) A (call (.builtin "object.__ne__") ([.ref x] ++ [b]) >>= fun v => pure (some v)) (fun r s' => ∃ k, r = some (.bool k) ∧ Q (.bool k) s') E s :=
      wpAny_bind (wpAny_mono body (fun v s' ⟨k, e, q⟩ => wpAny_pure ⟨k, by rw [e], q⟩) fun _ _ z => z)
    refine wpAny_bind (wpAny_holding (wpAny_bind (wpAny_bind (wpAny_bind (I.type.here ((looks_findIn X sn).here ?_))))))
    refine wpAny_bind (wpAny_askSetting (wpAny_ite ?_))
    have last : ∀ {E' : Value → Shared → Prop}, E' = E → wpAny (model prog w) A (call (.builtin "object.__ne__") ([.ref x] ++ [b]) >>= fun v => pure (some v)) (fun r s' => wpAny (model prog w) A (match r with | some .notImplemented | none => pure none | some v => pure (some v)) (fun r s' => ∃ k, r = some (.bool k) ∧ Q (.bool k) s') E' s') E' s := by
      rintro E' rfl
      refine wpAny_mono fin (fun r s' ⟨k, e, q⟩ => ?_) fun _ _ z => z
      subst e
      exact wpAny_pure ⟨k, rfl, q⟩
    split
    · exact wpAny_bind (wpAny_of_eq (PySem.F.cmp_object.ne.bind (.ref x)) (wpAny_pure (last rfl)))
    · exact wpAny_tryCatch (wpAny_bind (wpAny_of_eq (PySem.F.cmp_object.ne.bind (.ref x)) (wpAny_pure (last rfl))))
  unfold richCompare
  simp only [oneThing_ref]
  refine wpAny_holding (wpAny_bind (wpAny_cRoomFor (by omega) (wpAny_bind (I.type.here (wpAny_bind (hb.here ?_))))))
  have rest : wpAny (model prog w) A (tryCompare (.ref x) "__ne__" b) (fun r s' => ∃ v, r = some v ∧ Q v s') E s := wpAny_mono one (fun r s' ⟨k, e, q⟩ => ⟨.bool k, e, q⟩) fun _ _ z => z
  split
  · rename_i q
    have e : subIn K tb (.ref C) = some false := by
      rcases Bool.or_eq_true_iff.mp nf with e | e
      · rw [beq_iff_eq.mp e] at q
        simp at q
      · exact beq_iff_eq.mp e
    refine wpAny_bind ((looks_subIn X e).here ?_)
    simp only [Bool.false_eq_true, if_false]
    exact wpAny_bind (wpAny_mono rest (fun r s' ⟨v, e, hq⟩ => by rw [e]; exact wpAny_pure hq) fun _ _ z => z)
  · refine wpAny_bind (wpAny_pure ?_)
    simp only [Bool.false_eq_true, if_false]
    exact wpAny_bind (wpAny_mono rest (fun r s' ⟨v, e, hq⟩ => by rw [e]; exact wpAny_pure hq) fun _ _ z => z)
end
end VkX
namespace L2
open PySem PySem.Spec PyProof.Rows VkX
section
variable {X : Cx} {CX : CXT} {k : Nat} {f C : Addr} {fd : FuncData} {ps : List Str} {sp : Sp} {E : XK}
/-- a web == y: what its def says -/
def rEqI (K : PySem.W.Frag) (C : Addr) (sp : Sp) (E : XK) : R2 := fun x y H Q => ∃ (a dx : Addr) (fs : List (Str × V)) (tb : Value), x = .ref a ∧ H a = some (.ins C dx fs) ∧ TyX K H y tb ∧ PySem.W.notFirst K C tb = true ∧ sp [x, y] H (fun v H' => ∃ b, v = .bl b ∧ Q (.bl b) H') E
theorem op_eqI (F : FnOk X.prog X.w X.K X.mg X.base CX k f fd ps sp) (hb : Binds X.K fd ps []) (hx : Passes CX X E) (hr : Room k X.A) (hs : PySem.W.findIn X.K (.ref C) "__eq__" = some (some (.ref f))) (hf : PySem.W.isFn X.K (.ref f) = true) : OpR X (compareOp .Eq) (rEqI X.K C sp E) := by
  intro pins s σ H x y v u Q I rx ry h
  obtain ⟨a, dx, fs, tb, rfl, ha, ty, nf, q⟩ := h
  obtain rfl : v = Value.ref a := rx
  obtain ⟨mA, J, _⟩ := ins_get I.hok ha
  obtain ⟨od, J, _⟩ := J.look
  obtain ⟨m, hF⟩ := I.fr
  obtain ⟨P, Z, p, hno⟩ := kit_of I ry ty
  refine PySem.W.cmp_K (op := .Eq) (tb := tb) hr.units0 hF I.ok.mod.kin J (Z.ty _ _ I.kIn p) nf hs hf ?_
  refine wpAny_mono (run_fn (dvs := []) (ds := []) (vs := [.ref a, y]) (us := [.ref a, u]) (Q := fun v H' => ∃ b, v = .bl b ∧ Q (.bl b) H') F hr hb .nil hx I (.cons rfl (.cons ry .nil)) q) (fun r s' hq => ?_) fun _ _ z => z
  obtain ⟨z, H', I', rz, b, ez, q'⟩ := hq
  subst ez
  obtain rfl : r = Value.bool b := rz
  exact ⟨.bl b, H', I', rfl, q'⟩
/-- y == a web, y of a built-in type that declines: the web's def is asked -/
def rEqB (K : PySem.W.Frag) (C : Addr) (sp : Sp) (E : XK) : R2 := fun x y H Q => ∃ (a dx : Addr) (fs : List (Str × V)) (T : String), y = .ref a ∧ H a = some (.ins C dx fs) ∧ TyOf K H x (.type T) ∧ T ∈ ["NoneType", "int", "str", "list", "tuple", "dict"] ∧ PySem.W.subIn K (.ref C) (.type T) = some false ∧
  sp [y, x] H (fun v H' => ∃ b, v = .bl b ∧ Q (.bl b) H') E
theorem op_eqB (F : FnOk X.prog X.w X.K X.mg X.base CX k f fd ps sp) (hb : Binds X.K fd ps []) (hx : Passes CX X E) (hr : Room k X.A) (hs : PySem.W.findIn X.K (.ref C) "__eq__" = some (some (.ref f))) (hf : PySem.W.isFn X.K (.ref f) = true) : OpR X (compareOp .Eq) (rEqB X.K C sp E) := by
  intro pins s σ H x y v u Q I rx ry h
  obtain ⟨a, dx, fs, T, rfl, ha, ty, hT, sub, q⟩ := h
  obtain rfl : u = Value.ref a := ry
  obtain ⟨mA, J, _⟩ := ins_get I.hok ha
  obtain ⟨od, J, _⟩ := J.look
  have call : wpAny (model X.prog X.w) X.A (PySem.call (.ref f) [.ref a, v]) (fun r s' => ∃ b, r = .bool b ∧ EP X pins σ Q (.bool b) s') X.xe s := by
    refine wpAny_mono (run_fn (dvs := []) (ds := []) (vs := [.ref a, x]) (us := [.ref a, v]) (Q := fun v H' => ∃ b, v = .bl b ∧ Q (.bl b) H') F hr hb .nil hx I (.cons rfl (.cons rx .nil)) q) (fun r s' hq => ?_) fun _ _ z => z
    obtain ⟨z, H', I', rz, b, ez, q'⟩ := hq
    subst ez
    obtain rfl : r = Value.bool b := rz
    exact ⟨b, rfl, .bl b, H', I', rfl, q'⟩
  have hI : ∃ dx od, PySem.W.InstAt s.heap a { cls := .ref C, dict := some dx, data := .plain } C od := ⟨_, _, J⟩
  have go := fun {T ida : String} (ha' : s.TypeIs v T) (sub : PySem.W.subIn X.K (.ref C) (.type T) = some false) (sl : Slot T "__eq__" ida) (dec : ∀ Q' : Value → Shared → Prop, Q' .notImplemented s → wpAny (model X.prog X.w) X.A (PySem.call (.builtin ida) [v, .ref a]) Q' X.xe s) =>
    rc_back (Q := fun r s' => EP X pins σ Q r s') hr.units0 I.kIn J ha' sub sl dec hs hf call
  cases ty with
  | non =>
    obtain rfl : v = Value.none := rx
    exact go rfl sub PySem.F.slot_NoneType_eq fun Q' hq => call_meets PySem.F.slot_NoneType_eq rfl PySem.F.entry_NoneType_eq (PySem.F.args_NoneType_eq_2 _ _) (no_NoneType (K := X.K) (C := C)) ⟨I.kIn, hI, sub, trivial, hq⟩
  | int i =>
    obtain ⟨t, rfl⟩ := (show ∃ t, v = Value.int i t from rx)
    exact go (typeIs_int s i t) sub PySem.F.slot_int_eq fun Q' hq => call_meets PySem.F.slot_int_eq (typeIs_int s i t) PySem.F.entry_int_eq (PySem.F.args_int_eq_2 _ _) (no_int (K := X.K) (C := C) i t) ⟨I.kIn, hI, sub, trivial, hq⟩
  | str z =>
    obtain ⟨t, rfl⟩ := (show ∃ t, v = Value.str z t from rx)
    exact go (typeIs_str s z t) sub PySem.F.slot_str_eq fun Q' hq => call_meets PySem.F.slot_str_eq (typeIs_str s z t) PySem.F.entry_str_eq (PySem.F.args_str_eq_2 _ _) (no_str (K := X.K) (C := C) z t) ⟨I.kIn, hI, sub, trivial, hq⟩
  | @lst l xs e =>
    obtain rfl : v = Value.ref l := rx
    obtain ⟨_, its, n, _, e1⟩ := (show ObjOk X.prog X.w H s.heap l (.lst xs) from I.hok l _ e)
    exact go ⟨_, e1, rfl⟩ sub PySem.F.slot_list_eq fun Q' hq => call_meets PySem.F.slot_list_eq ⟨_, e1, rfl⟩ PySem.F.entry_list_eq (PySem.F.args_list_eq_2 _ _) (no_list (K := X.K) (C := C) l) ⟨I.kIn, hI, sub, ⟨_, e1, rfl⟩, hq⟩
  | @tup l xs e =>
    obtain rfl : v = Value.ref l := rx
    obtain ⟨_, its, _, o, e1, e2, _⟩ := (show ObjOk X.prog X.w H s.heap l (.tup xs) from I.hok l _ e)
    exact go ⟨_, e1, e2⟩ sub PySem.F.slot_tuple_eq fun Q' hq => call_meets PySem.F.slot_tuple_eq ⟨_, e1, e2⟩ PySem.F.entry_tuple_eq (PySem.F.args_tuple_eq_2 _ _) (no_tuple (K := X.K) (C := C) l) ⟨I.kIn, hI, sub, ⟨_, e1, e2⟩, hq⟩
  | @dK l kvs e =>
    obtain rfl : v = Value.ref l := rx
    obtain ⟨_, _, vs, _, o, es, ep, e1, e2, _⟩ := (show ObjOk X.prog X.w H s.heap l (.dK kvs) from I.hok l _ e)
    exact go ⟨_, e1, e2.1⟩ sub PySem.F.slot_dict_eq fun Q' hq => call_meets PySem.F.slot_dict_eq ⟨_, e1, e2.1⟩ PySem.F.entry_dict_eq (PySem.F.args_dict_eq_2 _ _) (no_dict (K := X.K) (C := C) l) ⟨I.kIn, hI, sub, ⟨_, e1, e2.1⟩, hq⟩
  | @dT l kvs e =>
    obtain rfl : v = Value.ref l := rx
    obtain ⟨_, _, xs, _, o, es, ep, e1, e2, _⟩ := (show ObjOk X.prog X.w H s.heap l (.dT kvs) from I.hok l _ e)
    exact go ⟨_, e1, e2.1⟩ sub PySem.F.slot_dict_eq fun Q' hq => call_meets PySem.F.slot_dict_eq ⟨_, e1, e2.1⟩ PySem.F.entry_dict_eq (PySem.F.args_dict_eq_2 _ _) (no_dict (K := X.K) (C := C) l) ⟨I.kIn, hI, sub, ⟨_, e1, e2.1⟩, hq⟩
  | @frz l o xs e =>
    obtain rfl : v = Value.ref l := rx
    obtain ⟨_, _, its, n, _, e1⟩ := (show ObjOk X.prog X.w H s.heap l (.frz o (.lst xs)) from I.hok l _ e)
    exact go ⟨_, e1, rfl⟩ sub PySem.F.slot_list_eq fun Q' hq => call_meets PySem.F.slot_list_eq ⟨_, e1, rfl⟩ PySem.F.entry_list_eq (PySem.F.args_list_eq_2 _ _) (no_list (K := X.K) (C := C) l) ⟨I.kIn, hI, sub, ⟨_, e1, rfl⟩, hq⟩
  | bl b => simp at hT
  | flt b => simp at hT
/-- a web != y: the def of == is asked and its answer turned round -/
def rNeI (K : PySem.W.Frag) (C : Addr) (sp : Sp) (E : XK) : R2 := fun x y H Q => ∃ (a dx : Addr) (fs : List (Str × V)) (tb : Value), x = .ref a ∧ H a = some (.ins C dx fs) ∧ TyX K H y tb ∧ PySem.W.notFirst K C tb = true ∧ sp [x, y] H (fun v H' => ∃ b, v = .bl b ∧ Q (.bl (!b)) H') E
theorem op_neI (F : FnOk X.prog X.w X.K X.mg X.base CX0 k f fd ps sp) (hb : Binds X.K fd ps []) (hr : Room (k + 1) X.A) (hs : PySem.W.findIn X.K (.ref C) "__eq__" = some (some (.ref f))) (hf : PySem.W.isFn X.K (.ref f) = true)
    (sn : PySem.W.findIn X.K (.ref C) "__ne__" = some (some (.builtin "object.__ne__"))) (so : PySem.W.mroIn X.K C (.type "object") = some true) : OpR X (compareOp .NotEq) (rNeI X.K C sp E) := by
  intro pins s σ H x y v u Q I rx ry h
  obtain ⟨a, dx, fs, tb, rfl, ha, ty, nf, q⟩ := h
  obtain rfl : v = Value.ref a := rx
  obtain ⟨mA, J, _⟩ := ins_get I.hok ha
  obtain ⟨od, J, _⟩ := J.look
  obtain ⟨P, Z, p, hno⟩ := kit_of I ry ty
  have r2 : Vals [V.ref a, y] [Value.ref a, u] := .cons rfl (.cons ry .nil)
  have hl : [Value.ref a, u].length = ps.length := r2.length.symm.trans (F.len _ _ _ _ q)
  refine rc_ne (by have := hr.units; omega) I.kIn J (Z.ty _ _ I.kIn p) nf sn so hs hf ?_
  refine wpAny_call (codeAny_mono (F.run X.A.in1 X.stack s H ⟨[.ref a, u], []⟩ [.ref a, u] [.ref a, y] _ E hr.in1 I.env0.in1 (by simpa using hb s [.ref a, u] I.kIn (by simpa using hl)) r2 q) fun r s' hq => ?_)
  cases r with
  | error e => exact hq.elim
  | ok fl =>
    cases fl <;> first
      | (obtain ⟨z, H', I', rz, b, ez, q'⟩ := I.after hq
         subst ez
         obtain rfl := (show _ = Value.bool b from rz)
         exact ⟨b, rfl, .bl (!b), H', I', rfl, q'⟩)
      | exact False.elim hq
end
end L2

namespace L2
open PySem PySem.Spec PyProof.Rows VkX
theorem relO_x {v : V} {v' : Value} {fld : Str} (r : RelV v v') (f : Str) : RelO (List.lookup f [(fld, v)]) (if f = fld then some v' else none) := relO_put (fs := []) (mA := fun _ => none) r (fun _ => True.intro) f
section
variable {X : Cx} {nm qual msg fld : Str} {B i newId : String} {bmB : List Value} {C fI : Addr}
/-- raise C(e): the error goes its way, its dict with the field stands -/
def tMkX (C : Addr) (fld : Str) (ta : TA) : St → Hp → XK → Prop := fun σ H Q => ta σ H fun vs H1 => ∃ v, vs = [v] ∧ ∀ d, H1 d = none → Q (.ref C) (some d) (upd H1 d (.xd [(fld, v)]))
theorem pmk_x {a : Expr} {ta : TA} {p pos : Pos} {k : Nat} (T : XCls X.prog X.K X.mg nm qual msg fld B i newId bmB C fI) (R : Raises X (.ref C)) (hr : Room k X.A) (ha : PA X [a] ta) (hg : Gl X nm := by rfl) (hdb : (nm == ("__debug__" : Str)) = false := by decide)
    (he : starEach (a :: []) X.env = (false, eval a X.env) :: starEach [] X.env := by rfl) (hpl : (backTo pos (starEach [] X.env)).any (·.1) = false := by rfl) : PMk X (.Call (.Name nm p) [a] [] pos) (tMkX C fld ta) := by
  intro pins s σ H Q I h
  refine wpAny_Call_Name_kw (ld_glob I hg T.gC ?_ hdb)
  refine PySem.W.callWith_K (h₀ := X.base) I.ok.mod.kin T.kC (thn (ha.run pos pins s σ H _ I h) fun us s1 hh => ?_) he hpl
  obtain ⟨vs, H1, I1, r1, v, ev, q1⟩ := hh
  subst ev
  refine ⟨I1.kIn, ?_⟩
  cases r1 with
  | cons rv rn =>
    rename_i v' us'
    cases rn
    obtain ⟨mb, G⟩ := xg_of I1 T.su
    show wpAny _ _ (call (.ref C) [v']) _ _ _
    obtain ⟨hp, g, dr, tk, os⟩ := s1
    refine wpAny_call (x_made T.t T.kf T.fb T.sf T.xx (args := ⟨[v'], []⟩) (.inl rfl) I1.kIn G (by have := hr.dp; omega) fun h' tk' e d t1 M => ?_)
    show MkP X pins σ Q (.ref e) ⟨h', g, dr, tk', os⟩
    obtain ⟨G', g1, g2⟩ := restrict h' fun b => decide (b ≠ e)
    have gk : ∀ b, b ≠ e → G'.get? b = h'.get? b := fun b hb => g1 b (decide_eq_true hb)
    have ge : G'.get? e = none := g2 e (by simp)
    have old : ∀ b o, hp.get? b = some o → G'.get? b = some o := fun b o q => (gk b (Nat.ne_of_lt (Nat.lt_of_lt_of_le (Heap.lt_size q) M.new))).trans (M.keep b o q)
    have ob : ObjOk X.prog X.w (upd H1 d (.xd [(fld, v)])) G' d (.xd [(fld, v)]) := ⟨_, M.ns.at (fun o q => (gk d M.dne).trans q), fun f => relO_x rv f⟩
    have J : Inv X pins σ (upd H1 d (.xd [(fld, v)])) ⟨G', g, dr, tk', os⟩ := I1.laid (t' := tk') old M.dbig ob
    refine ⟨e, _, _, ⟨G', g, dr, tk', os⟩, _, .ref C, some d, rfl, J, fun b o q => ?_, ge, M.obj, ⟨rfl, rfl⟩, rfl, rfl, ?_, rfl, I1.bare, R, q1 d (I1.hok.fresh M.dbig)⟩
    · by_cases hb : b = e
      · rw [hb, ge] at q
        cases q
      · exact (gk b hb).symm.trans q
    · rw [upd_ne (Ne.symm M.dne)]
      exact I1.hok.fresh M.new
end
end L2
namespace Vk
open PySem PySem.Spec PyProof.Rows L2 VkX
abbrev sWhole : Stmt := top 19
abbrev sBelow : Stmt := top 20
abbrev sIsTie : Stmt := top 21
abbrev sCheckC : Stmt := top 22
abbrev sCheckT : Stmt := top 23
abbrev sRows : Stmt := top 25
abbrev sInit : Stmt := inClass (top 26) 0
abbrev sEq : Stmt := inClass (top 26) 2
section
variable {P : Program} {w : World} {K : PySem.W.Frag} {mg : Str → Option Value} {base : Heap}
/-! ### is_whole, is_below, is_tie over what a web is made of -/
def spWhole : Sp := fun vs H Q _ => ∃ v : Int, vs = [.int v] ∧ Q (.bl true) H
theorem scWhole : FnScope ["value"] ["value"] (defScope sWhole) := ⟨rfl, rfl, rfl, by decide +kernel, rfl, by decide +kernel, by decide +kernel⟩
theorem ok_whole {f : Addr} {fd : FuncData} (F : Fun K "is_whole" "is_whole" sWhole f fd) (hisi : mg "isinstance" = none) (hint : mg "int" = none) (hbool : mg "bool" = none) : FnOk P w K mg base CX0 1 f fd ["value"] spWhole := by
  refine F.ok scWhole (fun vs H Q E h => ?_) (fun cdv A outer s H vs Q E hr h => ?_)
  · obtain ⟨v, rfl, _⟩ := h
    rfl
  · obtain ⟨v, rfl, k⟩ := h
    refine ⟨_, pss_one (ps_ret (pe_and (pe_callB call_isi (by rfl) hisi (by decide +kernel) (pa_cons (pv 0) (pa_cons (pe_bltn (v := .ty "int") (by rfl) hint (by decide +kernel) rfl) pa_nil)))
      (pe_one (pe_not (pe_callB call_isi (by rfl) hisi (by decide +kernel) (pa_cons (pv 0) (pa_cons (pe_bltn (v := .ty "bool") (by rfl) hbool (by decide +kernel) rfl) pa_nil))))))), ?_⟩
    refine ⟨_, rfl, _, _, .type "int", .type "int", true, rfl, .ty _, .base (.int v), kit_ty (by decide +kernel), _, rfl, ?_⟩
    refine ifyes rfl ?_
    exact ⟨_, rfl, _, _, .type "int", .type "bool", false, rfl, .ty _, .base (.int v), kit_ty (by decide +kernel), _, rfl, k⟩
def spBelow : Sp := fun vs H Q _ => ∃ v m : Int, vs = [.int v, .int m] ∧ Q (.bl (decide (0 ≤ v ∧ v < m))) H
theorem scBelow : FnScope ["value", "many"] ["value", "many"] (defScope sBelow) := ⟨rfl, rfl, rfl, by decide +kernel, rfl, by decide +kernel, by decide +kernel⟩
theorem ok_below {f fW : Addr} {fd fdW : FuncData} (F : Fun K "is_below" "is_below" sBelow f fd) (FW : Fun K "is_whole" "is_whole" sWhole fW fdW) (bW : Binds K fdW ["value"] []) (mW : mg "is_whole" = some (.ref fW)) (GW : FnOk P w K mg base CX0 1 fW fdW ["value"] spWhole) :
    FnOk P w K mg base CX0 2 f fd ["value", "many"] spBelow := by
  refine F.ok scBelow (fun vs H Q E h => ?_) (fun cdv A outer s H vs Q E hr h => ?_)
  · obtain ⟨v, m, rfl, _⟩ := h
    rfl
  · obtain ⟨v, m, rfl, k⟩ := h
    refine ⟨_, pss_one (ps_ret (pe_and (pe_call GW hr rfl mW FW.kp bW .nil pass0 (pa_cons (pv 0) pa_nil)) (pe_one (pe_chain op_le op_lt pe_int (pv 0) (pv 1))))), ?_⟩
    refine ⟨_, rfl, v, rfl, _, rfl, ?_⟩
    refine ifyes rfl ?_
    refine ⟨_, rfl, _, _, rfl, rfl, _, rfl, ?_⟩
    by_cases h0 : 0 ≤ v
    · refine ifyes (decide_eq_true h0) ?_
      refine ⟨_, rfl, _, _, rfl, rfl, ?_⟩
      have e : decide (0 ≤ v ∧ v < m) = decide (v < m) := by simp [h0]
      rw [e] at k
      exact k
    · refine ifno (decide_eq_false h0) ?_
      have e : decide (0 ≤ v ∧ v < m) = false := decide_eq_false (fun z => h0 z.1)
      rw [e] at k
      exact k
end
end Vk

namespace Vk
open PySem PySem.Spec PyProof.Rows L2 VkX
/-- the names that webs lean on -/
structure TW (prog : Program) (K : PySem.W.Frag) (mg : Str → Option Value) (C1 C2 C7 f1 f2 f7 : Addr) : Prop where
  x1 : XCls prog K mg "BadColours" "BadColours.__init__" "these are not the colours of a web" "place" "ValueError" "ValueError.__init__" "ValueError.__new__" [.type "ValueError", .type "Exception", .type "BaseException", .type "object"] C1 f1
  x2 : XCls prog K mg "BadTies" "BadTies.__init__" "these are not the ties of a web" "place" "ValueError" "ValueError.__init__" "ValueError.__new__" [.type "ValueError", .type "Exception", .type "BaseException", .type "object"] C2 f2
  x7 : XCls prog K mg "TooGreat" "TooGreat.__init__" "this is more than the package allows" "most" "OverflowError" "OverflowError.__init__" "OverflowError.__new__" [.type "OverflowError", .type "ArithmeticError", .type "Exception", .type "BaseException", .type "object"] C7 f7
  b1 : PySem.W.subIn K (.ref C1) (.type "BaseException") = some true
  b2 : PySem.W.subIn K (.ref C2) (.type "BaseException") = some true
  b7 : PySem.W.subIn K (.ref C7) (.type "BaseException") = some true
  t1 : PySem.W.typeIn K (.ref C1) = some (.type "type")
  t2 : PySem.W.typeIn K (.ref C2) = some (.type "type")
  t7 : PySem.W.typeIn K (.ref C7) = some (.type "type")
  isi : mg "isinstance" = none
  int : mg "int" = none
  bool : mg "bool" = none
  list : mg "list" = none
  tuple : mg "tuple" = none
  len : mg "len" = none
  enu : mg "enumerate" = none
  rng : mg "range" = none
  mp : ∃ t, mg "MOST_PLACES" = some (.int 2000 t)
  mt : ∃ t, mg "MOST_TIES" = some (.int 30000 t)
  mc : ∃ t, mg "MANY_COLOURS" = some (.int 10 t)
section
variable {P : Program} {w : World} {K : PySem.W.Frag} {mg : Str → Option Value} {base : Heap} {C1 C2 C7 f1 f2 f7 : Addr}
theorem kit_lt {K : PySem.W.Frag} : PySem.W.kitAny K (.type "list") [.type "list", .type "tuple"] = some true := kitAny_cons (b := true) (kit_ty (by decide +kernel)) (fun z => nomatch z) fun _ => rfl
def spIsTie : Sp := fun vs H Q _ => ∃ (t : Addr) (a b m : Int), vs = [.ref t, .int m] ∧ H t = some (.tup [.int a, .int b]) ∧ Q (.bl (decide (0 ≤ a ∧ a < b ∧ b < m))) H
theorem scIsTie : FnScope ["value", "many"] ["value", "many"] (defScope sIsTie) := ⟨rfl, rfl, rfl, by decide +kernel, rfl, by decide +kernel, by decide +kernel⟩
theorem ok_istie {f fB : Addr} {fd fdB : FuncData} (T : TW P K mg C1 C2 C7 f1 f2 f7) (F : Fun K "is_tie" "is_tie" sIsTie f fd) (FB : Fun K "is_below" "is_below" sBelow fB fdB) (bB : Binds K fdB ["value", "many"] []) (mB : mg "is_below" = some (.ref fB)) (GB : FnOk P w K mg base CX0 2 fB fdB ["value", "many"] spBelow) :
    FnOk P w K mg base CX0 3 f fd ["value", "many"] spIsTie := by
  refine F.ok scIsTie (fun vs H Q E h => ?_) (fun cdv A outer s H vs Q E hr h => ?_)
  · obtain ⟨t, a, b, m, rfl, _⟩ := h
    rfl
  · obtain ⟨t, a, b, m, rfl, ht, k⟩ := h
    refine ⟨_, pss_cons (ps_if (PW.pt (pw_or (pt_not (pt_val (pe_callB call_isi (by rfl) T.isi (by decide +kernel) (pa_cons (pv 0) (pa_cons (pe_bltn (v := .ty "tuple") (by rfl) T.tuple (by decide +kernel) rfl) pa_nil)))))
        (pw_or1 (pt_cmpR op_ne (pe_callB call_len_seq (by rfl) T.len PySem.boot_len (pa_cons (pv 0) pa_nil)) pe_int (nomark _))))) (pss_one (ps_ret pe_bl)) pss_nil)
      (pss_one (ps_ret (pe_and (pe_call GB hr rfl mB FB.kp bB .nil pass0 (pa_cons (pe_ix ix_tup (pv 0) pe_int (fun _ _ => rfl)) (pa_cons (pv 1) pa_nil)))
        (pe_and (pe_call GB hr rfl mB FB.kp bB .nil pass0 (pa_cons (pe_ix ix_tup (pv 0) pe_int (fun _ _ => rfl)) (pa_cons (pv 1) pa_nil)))
          (pe_one (pe_cmpR op_lt (pe_ix ix_tup (pv 0) pe_int (fun _ _ => rfl)) (pe_ix ix_tup (pv 0) pe_int (fun _ _ => rfl)) (nomark _))))))), ?_⟩
    refine ⟨_, rfl, _, _, .type "tuple", .type "tuple", true, rfl, .ty _, .base (.tup ht), kit_ty (by decide +kernel), _, rfl, ?_⟩
    refine ifno rfl ?_
    refine ⟨_, rfl, t, _, rfl, .inr (.inl (.inl ht)), rfl, _, rfl, ?_⟩
    refine ifno rfl ?_
    have i0 : ∀ {Q : V → Hp → Prop}, Q (.int a) H → ∃ p xs i v, V.ref t = .ref p ∧ V.int 0 = .int i ∧ SqT K H p xs ∧ atI xs i = some v ∧ Q v H := fun q => ⟨t, _, _, _, rfl, rfl, .inl (.inl ht), rfl, q⟩
    refine ⟨_, rfl, t, _, _, _, rfl, rfl, .inl (.inl ht), rfl, _, rfl, _, _, rfl, _, rfl, ?_⟩
    by_cases h0 : 0 ≤ a ∧ a < m
    · refine ifyes (decide_eq_true h0) ?_
      refine ⟨_, rfl, t, _, _, _, rfl, rfl, .inl (.inl ht), rfl, _, rfl, _, _, rfl, _, rfl, ?_⟩
      by_cases h1 : 0 ≤ b ∧ b < m
      · refine ifyes (decide_eq_true h1) ?_
        refine ⟨_, rfl, t, _, _, _, rfl, rfl, .inl (.inl ht), rfl, _, rfl, t, _, _, _, rfl, rfl, .inl (.inl ht), rfl, _, _, rfl, rfl, ?_⟩
        have e : decide (0 ≤ a ∧ a < b ∧ b < m) = decide (a < b) := by simp [h0.1, h1.2]
        rw [e] at k
        exact k
      · refine ifno (decide_eq_false h1) ?_
        have e : decide (0 ≤ a ∧ a < b ∧ b < m) = false := decide_eq_false (fun z => h1 ⟨by omega, z.2.2⟩)
        rw [e] at k
        exact k
    · refine ifno (decide_eq_false h0) ?_
      have e : decide (0 ≤ a ∧ a < b ∧ b < m) = false := decide_eq_false (fun z => h0 ⟨z.1, by omega⟩)
      rw [e] at k
      exact k
/-- the colours of a web, in a list -/
def Cols (cs : List Int) : Prop := cs ≠ [] ∧ cs.length ≤ 2000 ∧ ∀ v ∈ cs, 0 ≤ v ∧ v < 10
def spCheckC : Sp := fun vs H Q _ => ∃ (c : Addr) (cs : List Int), vs = [.ref c] ∧ H c = some (.lst (cs.map V.int)) ∧ Cols cs ∧ ∀ H', Same H H' → Q .non H'
theorem scCheckC : FnScope ["colours", "place", "colour"] ["colours"] (defScope sCheckC) := ⟨rfl, rfl, rfl, by decide +kernel, rfl, by decide +kernel, by decide +kernel⟩
theorem ok_checkC {f fB : Addr} {fd fdB : FuncData} (T : TW P K mg C1 C2 C7 f1 f2 f7) (F : Fun K "check_colours" "check_colours" sCheckC f fd) (FB : Fun K "is_below" "is_below" sBelow fB fdB) (bB : Binds K fdB ["value", "many"] []) (mB : mg "is_below" = some (.ref fB)) (GB : FnOk P w K mg base CX0 2 fB fdB ["value", "many"] spBelow) :
    FnOk P w K mg base (L2.CX P w) 3 f fd ["colours"] spCheckC := by
  refine F.okX scCheckC (fun vs H Q E h => ?_) (fun cdv A outer s H vs Q E hr h => ?_)
  · obtain ⟨c, cs, rfl, _⟩ := h
    rfl
  · obtain ⟨c, cs, rfl, hc, ⟨hne, hl, hb⟩, k⟩ := h
    obtain ⟨tp, mp⟩ := T.mp
    obtain ⟨tc, mc⟩ := T.mc
    refine ⟨_, pss_cons (ps_if (PW.pt (pw_or (pt_not (pt_val (pe_callB call_isiT (by rfl) T.isi (by decide +kernel) (pa_cons (pv 0) (pa_cons (pe_tup (pa_cons (pe_bltn (v := .ty "list") (by rfl) T.list (by decide +kernel) rfl) (pa_cons (pe_bltn (v := .ty "tuple") (by rfl) T.tuple (by decide +kernel) rfl) pa_nil))) pa_nil)))))
        (pw_or1 (pt_cmpR op_eq (pe_callB call_len_seq (by rfl) T.len PySem.boot_len (pa_cons (pv 0) pa_nil)) pe_int (nomark _))))) (pss_one (ps_raise rfl (takes_of rfl rfl rfl rfl) (pmk_x T.x1 (raises_own T.b1 T.t1) hr (pa_cons pe_non pa_nil)))) pss_nil)
      (pss_cons (ps_if (pt_cmpR op_gt (pe_callB call_len_seq (by rfl) T.len PySem.boot_len (pa_cons (pv 0) pa_nil)) (pe_glob (v := .int 2000) rfl mp ⟨_, rfl⟩) (nomark _)) (pss_one (ps_raise rfl (takes_of rfl rfl rfl rfl) (pmk_x T.x7 (raises_own T.b7 T.t7) hr (pa_cons (pe_glob (v := .int 2000) rfl mp ⟨_, rfl⟩) pa_nil)))) pss_nil)
      (pss_one (ps_for (passes_of rfl) rfl (pi_enum (by rfl) T.enu (pa_cons (pv 0) pa_nil)) (pg_tup rfl (pgs_cons (pg_name (i := 1) scCheckC.nd rfl (Or.inl rfl)) (pgs_cons (pg_name (i := 2) scCheckC.nd rfl (Or.inl rfl)) pgs_nil)))
        (pss_one (ps_if (pt_not (pt_val (pe_call GB hr rfl mB FB.kp bB .nil pass0 (pa_cons (pv 2) (pa_cons (pe_glob (v := .int 10) rfl mc ⟨_, rfl⟩) pa_nil))))) (pss_one (ps_raise rfl (takes_of rfl rfl rfl rfl) (pmk_x T.x1 (raises_own T.b1 T.t1) hr (pa_cons (pv 1) pa_nil)))) pss_nil))))), ?_⟩
    have hlen : (cs.map V.int).length = cs.length := List.length_map _
    have hpos : 0 < cs.length := List.length_pos_iff.mpr hne
    refine ⟨_, rfl, by decide, fun tl nt => ⟨_, tl, _, .type "list", [.type "list", .type "tuple"], true, rfl, upd_same, .cons (.ty _) (.cons (.ty _) .nil), .base (.lst (same_new nt _ _ hc)), kit_lt, _, rfl, ?_⟩⟩
    refine ifno rfl ?_
    have s1 : Same H (upd H tl (.tup [.ty "list", .ty "tuple"])) := same_new nt
    generalize upd H tl (.tup [.ty "list", .ty "tuple"]) = H1 at *
    have hc1 := s1 _ _ hc
    refine ⟨_, rfl, c, _, rfl, .inl (.inl (.inl hc1)), rfl, _, rfl, ?_⟩
    refine ifno (by rw [hlen, decV]; exact decide_eq_false (by omega)) ?_
    refine ⟨_, rfl, c, _, rfl, .inl (.inl (.inl hc1)), _, _, rfl, rfl, _, rfl, ?_⟩
    refine ifno (decide_eq_false (by rw [hlen]; omega)) ?_
    refine ⟨_, rfl, c, _, rfl, .inl (.inl hc1), for_it (walk_enum (K := K) (a := c) (xs := cs.map V.int)) (fun i σ H2 => ∃ (x y : Option V), σ = [some (.ref c), x, y] ∧ Same H1 H2) ⟨_, _, rfl, Same.refl _⟩ (fun i σ H2 _ ⟨_, _, _, s2⟩ => .inl (.inl (s2 _ _ hc1))) ?_ ?_⟩
    · rintro i x σ H2 H3 hi ⟨x0, y0, rfl, s2⟩ ⟨T0, x1, x2, rfl, hT, rfl, e1, e2⟩
      cases e1
      have e2 : (cs.map V.int)[i]? = some x2 := e2
      obtain ⟨z, hz, rfl⟩ : ∃ z, z ∈ cs ∧ x2 = V.int z := by
        rw [List.getElem?_map] at e2
        cases e : cs[i]? with
        | none => rw [e] at e2; cases e2
        | some z => rw [e] at e2; exact ⟨z, List.mem_of_getElem? e, (Option.some.inj e2).symm⟩
      refine ⟨T0, _, rfl, .inl (.inl upd_same), rfl, _, _, rfl, _, _, rfl, rfl, ?_⟩
      refine ⟨_, rfl, z, 10, rfl, _, rfl, ?_⟩
      refine ifno (by have := hb z hz; simp [this.1, this.2]) ?_
      exact ⟨_, _, rfl, s2.trans (same_new hT)⟩
    rintro σ H2 ⟨x, y, rfl, s2⟩
    exact k H2 (s1.trans s2)
/-- the ties of a web with m places, behind the pair (p, q): each tie is a tuple of two places, greater than the one before -/
def Ties (m : Int) : Int → Int → List (Int × Int) → Prop
  | _, _, [] => True
  | p, q, t :: ts => 0 ≤ t.1 ∧ t.1 < t.2 ∧ t.2 < m ∧ (p < t.1 ∨ p = t.1 ∧ q < t.2) ∧ Ties m t.1 t.2 ts
/-- the tuples of the ties stand at rs -/
def TiesAt (H : Hp) : List Addr → List (Int × Int) → Prop
  | [], [] => True
  | r :: rs, t :: ts => H r = some (.tup [.int t.1, .int t.2]) ∧ TiesAt H rs ts
  | _, _ => False
theorem TiesAt.same {H H' : Hp} (s : Same H H') : ∀ {rs : List Addr} {ts : List (Int × Int)}, TiesAt H rs ts → TiesAt H' rs ts
  | [], [], h => h
  | r :: rs, t :: ts, h => ⟨s _ _ h.1, TiesAt.same s h.2⟩
  | [], _ :: _, h => h.elim
  | _ :: _, [], h => h.elim
theorem TiesAt.len {H : Hp} : ∀ {rs : List Addr} {ts : List (Int × Int)}, TiesAt H rs ts → rs.length = ts.length
  | [], [], _ => rfl
  | r :: rs, t :: ts, h => congrArg Nat.succ (TiesAt.len h.2)
  | [], _ :: _, h => h.elim
  | _ :: _, [], h => h.elim
theorem TiesAt.at {H : Hp} : ∀ {rs : List Addr} {ts : List (Int × Int)} {i : Nat} {r : Addr}, TiesAt H rs ts → rs[i]? = some r → ∃ t, ts[i]? = some t ∧ H r = some (.tup [.int t.1, .int t.2])
  | r :: rs, t :: ts, 0, r', h, e => by
    have e' : r = r' := Option.some.inj e
    subst e'
    exact ⟨t, rfl, h.1⟩
  | r :: rs, t :: ts, i + 1, r', h, e => TiesAt.at (i := i) h.2 e
  | [], [], i, r', h, e => by simp at e
  | [], _ :: _, _, _, h, _ => h.elim
  | _ :: _, [], _, _, h, _ => h.elim
/-- the pair ahead of the i-th tie -/
def ahead (p q : Int) (ts : List (Int × Int)) : Nat → Int × Int
  | 0 => (p, q)
  | i + 1 => ts.getD i (0, 0)
theorem Ties.at {m : Int} : ∀ {ts : List (Int × Int)} {p q : Int} {i : Nat} {t : Int × Int}, Ties m p q ts → ts[i]? = some t → 0 ≤ t.1 ∧ t.1 < t.2 ∧ t.2 < m ∧ ((ahead p q ts i).1 < t.1 ∨ (ahead p q ts i).1 = t.1 ∧ (ahead p q ts i).2 < t.2)
  | [], p, q, i, t, h, e => by simp at e
  | u :: ts, p, q, 0, t, h, e => by
    have e' : u = t := Option.some.inj e
    subst e'
    exact ⟨h.1, h.2.1, h.2.2.1, h.2.2.2.1⟩
  | u :: ts, p, q, 1, t, h, e => by
    have z := Ties.at (i := 0) h.2.2.2.2 e
    exact z
  | u :: ts, p, q, i + 2, t, h, e => by
    have z := Ties.at (i := i + 1) h.2.2.2.2 e
    exact z
def spCheckT : Sp := fun vs H Q _ => ∃ (c : Addr) (m : Int) (rs : List Addr) (ts : List (Int × Int)), vs = [.ref c, .int m] ∧ H c = some (.lst (rs.map V.ref)) ∧ TiesAt H rs ts ∧ Ties m 0 0 ts ∧ ts.length ≤ 30000 ∧ ∀ H', Same H H' → Q .non H'
theorem scCheckT : FnScope ["ties", "many", "before", "number", "tie"] ["ties", "many"] (defScope sCheckT) := ⟨rfl, rfl, rfl, by decide +kernel, rfl, by decide +kernel, by decide +kernel⟩
theorem ok_checkT {f fI : Addr} {fd fdI : FuncData} (T : TW P K mg C1 C2 C7 f1 f2 f7) (F : Fun K "check_ties" "check_ties" sCheckT f fd) (FI : Fun K "is_tie" "is_tie" sIsTie fI fdI) (bI : Binds K fdI ["value", "many"] []) (mI : mg "is_tie" = some (.ref fI)) (GI : FnOk P w K mg base CX0 3 fI fdI ["value", "many"] spIsTie) :
    FnOk P w K mg base (L2.CX P w) 4 f fd ["ties", "many"] spCheckT := by
  refine F.okX scCheckT (fun vs H Q E h => ?_) (fun cdv A outer s H vs Q E hr h => ?_)
  · obtain ⟨c, m, rs, ts, rfl, _⟩ := h
    rfl
  · obtain ⟨c, m, rs, ts, rfl, hc, hT, hts, hl, k⟩ := h
    obtain ⟨tp, mt⟩ := T.mt
    have hu := hr.units0
    refine ⟨_, pss_cons (ps_if (pt_not (pt_val (pe_callB call_isiT (by rfl) T.isi (by decide +kernel) (pa_cons (pv 0) (pa_cons (pe_tup (pa_cons (pe_bltn (v := .ty "list") (by rfl) T.list (by decide +kernel) rfl) (pa_cons (pe_bltn (v := .ty "tuple") (by rfl) T.tuple (by decide +kernel) rfl) pa_nil))) pa_nil)))))
        (pss_one (ps_raise rfl (takes_of rfl rfl rfl rfl) (pmk_x T.x2 (raises_own T.b2 T.t2) hr (pa_cons pe_non pa_nil)))) pss_nil)
      (pss_cons (ps_if (pt_cmpR op_gt (pe_callB call_len_seq (by rfl) T.len PySem.boot_len (pa_cons (pv 0) pa_nil)) (pe_glob (v := .int 30000) rfl mt ⟨_, rfl⟩) (nomark _)) (pss_one (ps_raise rfl (takes_of rfl rfl rfl rfl) (pmk_x T.x7 (raises_own T.b7 T.t7) hr (pa_cons (pe_glob (v := .int 30000) rfl mt ⟨_, rfl⟩) pa_nil)))) pss_nil)
      (pss_cons (ps_set (i := 2) scCheckT.nd rfl (Or.inl rfl) (pe_tup (pa_cons pe_int (pa_cons pe_int pa_nil))))
      (pss_one (ps_for (passes_of rfl) rfl (pi_enum (by rfl) T.enu (pa_cons (pv 0) pa_nil)) (pg_tup rfl (pgs_cons (pg_name (i := 3) scCheckT.nd rfl (Or.inl rfl)) (pgs_cons (pg_name (i := 4) scCheckT.nd rfl (Or.inl rfl)) pgs_nil)))
        (pss_cons (ps_if (PW.pt (pw_or (pt_not (pt_val (pe_call GI hr rfl mI FI.kp bI .nil pass0 (pa_cons (pv 4) (pa_cons (pv 1) pa_nil))))) (pw_or1 (pt_not (pt_cmpR (op_ltT hu) (pv 2) (pv 4) (nomark _))))))
          (pss_one (ps_raise rfl (takes_of rfl rfl rfl rfl) (pmk_x T.x2 (raises_own T.b2 T.t2) hr (pa_cons (pv 3) pa_nil)))) pss_nil)
        (pss_one (ps_set (i := 2) scCheckT.nd rfl (Or.inl rfl) (pv 4)))))))), ?_⟩
    have hlen : (rs.map V.ref).length = ts.length := by rw [List.length_map]; exact hT.len
    refine ⟨_, rfl, by decide, fun tl nt => ⟨_, tl, _, .type "list", [.type "list", .type "tuple"], true, rfl, upd_same, .cons (.ty _) (.cons (.ty _) .nil), .base (.lst (same_new nt _ _ hc)), kit_lt, _, rfl, ?_⟩⟩
    refine ifno rfl ?_
    have s1 : Same H (upd H tl (.tup [.ty "list", .ty "tuple"])) := same_new nt
    generalize upd H tl (.tup [.ty "list", .ty "tuple"]) = H1 at *
    refine ⟨_, rfl, c, _, rfl, .inl (.inl (.inl (s1 _ _ hc))), _, _, rfl, rfl, _, rfl, ?_⟩
    refine ifno (decide_eq_false (by rw [hlen]; omega)) ?_
    refine ⟨by decide, fun b0 nb => ?_⟩
    have s2 : Same H (upd H1 b0 (.tup [.int 0, .int 0])) := s1.trans (same_new nb)
    have h0 : (upd H1 b0 (.tup [.int 0, .int 0])) b0 = some (.tup [.int 0, .int 0]) := upd_same
    generalize upd H1 b0 (.tup [.int 0, .int 0]) = H2 at *
    have hc2 := s2 _ _ hc
    have hT2 := hT.same s2
    refine ⟨_, rfl, c, _, rfl, .inl (.inl hc2), for_it (walk_enum (K := K) (a := c) (xs := rs.map V.ref)) (fun i σ H3 => ∃ (b : Addr) (x y : Option V), σ = [some (.ref c), some (.int m), some (.ref b), x, y] ∧ Same H2 H3 ∧ H3 b = some (.tup [.int (ahead 0 0 ts i).1, .int (ahead 0 0 ts i).2]))
      ⟨b0, _, _, rfl, Same.refl _, h0⟩ (fun i σ H3 _ ⟨_, _, _, _, s3, _⟩ => .inl (.inl (s3 _ _ hc2))) ?_ ?_⟩
    · rintro i x σ H3 H4 hi ⟨b, x0, y0, rfl, s3, hb⟩ ⟨T0, x1, x2, rfl, hT0, rfl, e1, e2⟩
      cases e1
      have e2 : (rs.map V.ref)[i]? = some x2 := e2
      obtain ⟨r, hr0, rfl⟩ : ∃ r, rs[i]? = some r ∧ x2 = V.ref r := by
        rw [List.getElem?_map] at e2
        cases e : rs[i]? with
        | none => rw [e] at e2; cases e2
        | some z => rw [e] at e2; exact ⟨z, rfl, (Option.some.inj e2).symm⟩
      obtain ⟨t, ht, hrt⟩ := hT2.at hr0
      obtain ⟨z1, z2, z3, z4⟩ := hts.at ht
      have s4 : Same H2 (upd H3 T0 (.tup [.int (i : Int), .ref r])) := s3.trans (same_new hT0)
      have hb4 := (same_new (o := .tup [.int (i : Int), .ref r]) hT0) _ _ hb
      refine ⟨T0, _, rfl, .inl (.inl upd_same), rfl, _, _, rfl, _, _, rfl, rfl, ?_⟩
      generalize upd H3 T0 (.tup [.int (i : Int), .ref r]) = L0 at *
      have hr4 := s4 _ _ hrt
      refine ⟨_, rfl, _, rfl, r, t.1, t.2, m, rfl, hr4, _, rfl, ?_⟩
      refine ifno (by simp [z1, z2, z3]) ?_
      refine ⟨_, rfl, _, rfl, b, r, [_, _], [_, _], rfl, rfl, .inl (.inl hb4), .inl (.inl hr4), _, rfl, ?_⟩
      have lt : HT.lexLt [(ahead 0 0 ts i).1, (ahead 0 0 ts i).2] [t.1, t.2] = true := by
        simp only [HT.lexLt]
        rcases z4 with z | ⟨z, z'⟩
        · rw [if_neg (by omega)]
          exact decide_eq_true z
        · rw [if_pos z, if_neg (by omega)]
          exact decide_eq_true z'
      refine ifno (by rw [lt]; rfl) ?_
      refine ⟨_, rfl, r, _, _, rfl, s4, ?_⟩
      have e : ahead 0 0 ts (i + 1) = t := by
        show ts.getD i (0, 0) = t
        rw [List.getD_eq_getElem?_getD, ht]
        rfl
      rw [e]
      exact hr4
    rintro σ H3 ⟨b, x, y, rfl, s3, _⟩
    exact k H3 (s2.trans s3)
end
end Vk

namespace Vk
open PySem PySem.Spec PyProof.Rows L2 VkX
section
variable {P : Program} {w : World} {K : PySem.W.Frag} {mg : Str → Option Value} {base : Heap} {C1 C2 C7 f1 f2 f7 : Addr}
theorem at_refs {ls : List Addr} {j : Nat} {l : Addr} (h : ls[j]? = some l) {i : Int} (hi : i = (j : Int)) : atI (ls.map V.ref) i = some (.ref l) := by
  rw [hi]
  refine atI_nat ?_
  rw [List.getElem?_map, h]
  rfl
def spRows : Sp := fun vs H Q _ => ∃ (c : Addr) (n : Nat) (rs : List Addr) (ts : List (Int × Int)), vs = [.int (n : Int), .ref c] ∧ n ≤ 2000 ∧ H c = some (.lst (rs.map V.ref)) ∧ TiesAt H rs ts ∧ Ties (n : Int) 0 0 ts ∧ ts.length ≤ 30000 ∧
  ∀ H' p, Same H H' → H p = none → (∃ xs, H' p = some (.tup xs)) → Q (.ref p) H'
theorem scRows : FnScope ["many", "ties", "rows", "low", "high", "place", "row"] ["many", "ties"] (defScope sRows) := ⟨rfl, rfl, rfl, by decide +kernel, rfl, by decide +kernel, by decide +kernel⟩
/-- each row's list, none longer than z -/
def RowsAt (H H' : Hp) (D : Addr) (ls : List Addr) (z : Nat) : Prop := H' D = some (.lst (ls.map V.ref)) ∧ Same H H' ∧ ∀ l ∈ ls, l ≠ D ∧ H l = none ∧ ∃ zs, H' l = some (.lst zs) ∧ zs.length ≤ z
theorem RowsAt.put {H H' : Hp} {D : Addr} {ls : List Addr} {z : Nat} {l : Addr} {zs : List V} {v : V} (r : RowsAt H H' D ls z) (hl : l ∈ ls) (h : H' l = some (.lst zs)) (hz : zs.length ≤ z) : RowsAt H (upd H' l (.lst (zs ++ [v]))) D ls (z + 1) := by
  obtain ⟨r1, r2, r3⟩ := r
  obtain ⟨n1, n2, _⟩ := r3 l hl
  refine ⟨by rw [upd_ne (Ne.symm n1)]; exact r1, fun b o e => by rw [upd_ne (ne_of_none e n2)]; exact r2 b o e, fun l' hl' => ?_⟩
  obtain ⟨m1, m2, ys, m3, m4⟩ := r3 l' hl'
  refine ⟨m1, m2, ?_⟩
  by_cases e : l' = l
  · subst e
    exact ⟨_, upd_same, by rw [List.length_append]; simp; omega⟩
  · exact ⟨ys, by rw [upd_ne e]; exact m3, by omega⟩
theorem ok_rows {f : Addr} {fd : FuncData} (T : TW P K mg C1 C2 C7 f1 f2 f7) (F : Fun K "neighbour_rows" "neighbour_rows" sRows f fd) : FnOk P w K mg base CX0 1 f fd ["many", "ties"] spRows := by
  refine F.ok scRows (fun vs H Q E h => ?_) (fun cdv A outer s H vs Q E hr h => ?_)
  · obtain ⟨c, n, rs, ts, rfl, _⟩ := h
    rfl
  · obtain ⟨c, n, rs, ts, rfl, hn, hc, hT, hts, hl, k⟩ := h
    refine ⟨_, pss_cons (ps_setLc (i := 2) (own := [("place", 5)]) (g := gName 5) (tt := tYes) rfl scRows.nd rfl rfl (sw_true rfl rfl rfl (by decide +kernel)) (pi_range1 rfl T.rng (pa_cons (pv 0) pa_nil))
          (blkOk_by (own := [("place", 5)]) (N := ["many", "ties", "rows", "low", "high", "place", "row"]) (sc := defScope sRows) (by decide +kernel)) (fun _ _ _ _ _ => pg_name (i := 5) scRows.nd rfl (Or.inl rfl)) (fun _ _ _ _ _ => pts_nil) (fun _ _ _ _ _ => pe_lst pa_nil))
      (pss_cons (ps_for PassesOwn.never rfl (pi_list (pv 1)) (pg_tup rfl (pgs_cons (pg_name (i := 3) scRows.nd rfl (Or.inl rfl)) (pgs_cons (pg_name (i := 4) scRows.nd rfl (Or.inl rfl)) pgs_nil)))
        (pss_cons (ps_expr (pe_bm PySem.F.plainAttrs_list PySem.F.slot_list_append PySem.F.type_list_append mt_append (pe_ix ix_list (pv 2) (pv 3) (fun _ _ => rfl)) (pa_cons (pv 4) pa_nil)))
        (pss_one (ps_expr (pe_bm PySem.F.plainAttrs_list PySem.F.slot_list_append PySem.F.type_list_append mt_append (pe_ix ix_list (pv 2) (pv 4) (fun _ _ => rfl)) (pa_cons (pv 3) pa_nil))))))
      (pss_one (ps_ret (pe_callTy call_tuple_of (by rfl) T.tuple (by decide +kernel) (pa_cons (pe_lc (own := [("row", 6)]) (g := gName 6) (tt := tYes) rfl scRows.nd (pi_list (pv 2)) (blkOk_by (own := [("row", 6)]) (N := ["many", "ties", "rows", "low", "high", "place", "row"]) (sc := defScope sRows) (by decide +kernel)) (fun _ _ _ _ _ => pg_name (i := 6) scRows.nd rfl (Or.inl rfl)) (fun _ _ _ _ _ => pts_nil)
          (fun _ _ _ _ _ => pe_callTy (T := "tuple") (r := fun xs H Q => ∃ p ys, xs = [.ref p] ∧ ((SqL K H p ys ∧ ∀ l, H l = none → Q (.ref l) (upd H l (.tup ys))) ∨ (SqT K H p ys ∧ Q (.ref p) H))) (by exact call_tuple_of) (by rfl) T.tuple (by decide +kernel) (pa_cons (pv 6) pa_nil))) pa_nil))))), ?_⟩
    -- rows
    refine ⟨_, rfl, (n : Int), rfl, by omega, by omega, fun D hD => lc_range (lo := 0) (n := n) (fun i H' => ∃ ls : List Addr, ls.length = i ∧ RowsAt H H' D ls 0) ⟨[], rfl, upd_same, same_new hD, fun l hl => nomatch hl⟩ ?_ ?_⟩
    · rintro i H' hi ⟨ls, hls, r1, r2, r3⟩
      refine ⟨rfl, ?_⟩
      dsimp only [tYes]
      rw [if_pos rfl]
      refine ⟨by decide, fun l nl => ?_⟩
      have nlD : l ≠ D := fun z => by rw [z, r1] at nl; cases nl
      refine ⟨_, by rw [upd_ne (Ne.symm nlD)]; exact r1, by rw [List.length_map, hls]; exact Nat.lt_of_lt_of_le hi (Nat.le_trans hn (by decide)), ls ++ [l], by rw [List.length_append, hls]; rfl, ?_, ?_, ?_⟩
      · rw [upd_same, List.map_append]
        rfl
      · exact fun b o e => by rw [upd_ne (ne_of_none e hD)]; exact (same_new nl) b o (r2 b o e)
      · intro l' hl'
        rcases List.mem_append.mp hl' with q | q
        · obtain ⟨m1, m2, zs, m3, m4⟩ := r3 l' q
          exact ⟨m1, m2, zs, by rw [upd_ne m1]; exact (same_new nl) _ _ m3, m4⟩
        · rcases List.mem_singleton.mp q with rfl
          exact ⟨nlD, r2.free nl, [], by rw [upd_ne nlD, upd_same], Nat.le_refl _⟩
    rintro H1 ⟨ls, hls, R1⟩
    have hc1 := R1.2.1 _ _ hc
    have hlenr : rs.length = ts.length := hT.len
    -- for low, high in ties
    refine ⟨_, rfl, c, rfl, ⟨_, .inl (.inl hc1)⟩, for_list (K := K) (a := c) (xs := rs.map V.ref) (fun i σ H2 => i ≤ ts.length ∧ ∃ (x y u v : Option V), σ = [some (.int (n : Int)), some (.ref c), some (.ref D), x, y, u, v] ∧ RowsAt H H2 D ls (2 * i))
      ⟨Nat.zero_le _, _, _, _, _, rfl, R1⟩ (fun i σ H2 _ ⟨_, _, _, _, _, _, R⟩ => .inl (.inl (R.2.1 _ _ hc))) ?_ ?_⟩
    · rintro i x σ H2 hi ⟨hi0, x0, y0, u0, v0, rfl, R⟩
      obtain ⟨r, hr0, rfl⟩ : ∃ r, rs[i]? = some r ∧ x = V.ref r := by
        rw [List.getElem?_map] at hi
        cases e : rs[i]? with
        | none => rw [e] at hi; cases hi
        | some z => rw [e] at hi; exact ⟨z, rfl, (Option.some.inj hi).symm⟩
      obtain ⟨t, ht, hrt⟩ := hT.at hr0
      have hit := (List.getElem?_eq_some_iff.mp ht).1
      obtain ⟨z1, z2, z3, _⟩ := hts.at ht
      have hla : t.1.toNat < ls.length := by omega
      have hlb : t.2.toNat < ls.length := by omega
      have ea := List.getElem?_eq_getElem hla
      have eb := List.getElem?_eq_getElem hlb
      have ma : ls[t.1.toNat] ∈ ls := List.getElem_mem hla
      have mb : ls[t.2.toNat] ∈ ls := List.getElem_mem hlb
      generalize ls[t.1.toNat] = la at ea ma
      generalize ls[t.2.toNat] = lb at eb mb
      refine ⟨r, _, rfl, .inl (.inl (R.2.1 _ _ hrt)), rfl, _, _, rfl, _, _, rfl, rfl, ?_⟩
      obtain ⟨_, _, za, ha1, ha2⟩ := R.2.2 la ma
      have R2 := R.put (v := .int t.2) ma ha1 ha2
      refine ⟨_, rfl, _, rfl, D, _, _, _, rfl, rfl, .inl (.inl R.1), at_refs ea (by omega), .inl ⟨rfl, _, .inl (.inl ha1)⟩, _, rfl, la, za, _, rfl, rfl, ha1, by rw [sizeLine_eq]; omega, ?_⟩
      generalize upd H2 la (.lst (za ++ [.int t.2])) = H3 at *
      obtain ⟨_, _, zb, hb1, hb2⟩ := R2.2.2 lb mb
      have R3 := R2.put (v := .int t.1) mb hb1 hb2
      refine ⟨_, rfl, _, rfl, D, _, _, _, rfl, rfl, .inl (.inl R2.1), at_refs eb (by omega), .inl ⟨rfl, _, .inl (.inl hb1)⟩, _, rfl, lb, zb, _, rfl, rfl, hb1, by rw [sizeLine_eq]; omega, ?_⟩
      exact ⟨hit, _, _, _, _, rfl, R3⟩
    rintro σ H2 ⟨_, x, y, u, v, rfl, R⟩
    obtain ⟨r1, r2, r3⟩ := R
    have hls2 : ls.length ≤ 2000 := by omega
    -- return tuple([tuple(row) for row in rows])
    refine ⟨_, rfl, D, rfl, ⟨_, .inl (.inl r1)⟩, fun E1 nE => lc_list (K := K) (a := D) (xs := ls.map V.ref) (fun i H' => Same H2 H' ∧ H2 E1 = none ∧ ∃ us, H' E1 = some (.lst us) ∧ us.length = i) ⟨same_new nE, nE, [], upd_same, rfl⟩ (fun i H' _ ⟨s2, _⟩ => .inl (.inl (s2 _ _ r1))) ?_ ?_⟩
    · rintro i x H' hi ⟨s2, nE2, us, hE, hus⟩
      obtain ⟨l, hl0, rfl⟩ : ∃ r, ls[i]? = some r ∧ x = V.ref r := by
        rw [List.getElem?_map] at hi
        cases e : ls[i]? with
        | none => rw [e] at hi; cases hi
        | some z => rw [e] at hi; exact ⟨z, rfl, (Option.some.inj hi).symm⟩
      have hil := (List.getElem?_eq_some_iff.mp hl0).1
      obtain ⟨_, _, zs, hz, _⟩ := r3 l (List.mem_of_getElem? hl0)
      refine ⟨rfl, ?_⟩
      dsimp only [tYes]
      rw [if_pos rfl]
      refine ⟨_, rfl, l, zs, rfl, .inl ⟨.inl (.inl (s2 _ _ hz)), fun q nq => ?_⟩⟩
      refine ⟨us, (same_new nq) _ _ hE, by rw [sizeLine_eq]; omega, fun b o e => ?_, nE2, _, upd_same, by rw [List.length_append, hus]; rfl⟩
      rw [upd_ne (ne_of_none e nE2)]
      exact (same_new nq) b o (s2 b o e)
    rintro H3 ⟨s3, nE3, us, hE, hus⟩
    refine ⟨E1, us, rfl, .inl ⟨.inl (.inl hE), fun q nq => ?_⟩⟩
    exact k _ q (r2.trans (s3.trans (same_new nq))) ((r2.trans s3).free nq) ⟨_, upd_same⟩
end
end Vk

namespace Vk
open PySem PySem.Spec PyProof.Rows L2 VkX
theorem f_ct : ¬ ("colours" : Str) = "ties" := by decide +kernel
theorem f_cr : ¬ ("colours" : Str) = "rows" := by decide +kernel
theorem f_tr : ¬ ("ties" : Str) = "rows" := by decide +kernel
/-- a web's attributes -/
def wfl (c t r : Addr) : List (Str × V) := putF "rows" (.ref r) (putF "ties" (.ref t) (putF "colours" (.ref c) []))
theorem wfl_c (c t r : Addr) : (wfl c t r).lookup ("colours" : Str) = some (.ref c) := by
  unfold wfl
  rw [lookup_putF, if_neg f_cr, lookup_putF, if_neg f_ct, lookup_putF, if_pos rfl]
theorem wfl_t (c t r : Addr) : (wfl c t r).lookup ("ties" : Str) = some (.ref t) := by
  unfold wfl
  rw [lookup_putF, if_neg f_tr, lookup_putF, if_pos rfl]
/-- a web of the colours cs and the ties ts stands at p -/
def WebAt (C : Addr) (H : Hp) (p : Addr) (cs : List Int) (ts : List (Int × Int)) : Prop := ∃ (dx c t r : Addr) (rs : List Addr), H p = some (.ins C dx (wfl c t r)) ∧ H c = some (.tup (cs.map V.int)) ∧ H t = some (.tup (rs.map V.ref)) ∧ TiesAt H rs ts
theorem WebAt.same {C : Addr} {H H' : Hp} {p : Addr} {cs : List Int} {ts : List (Int × Int)} (x : WebAt C H p cs ts) (s : Same H H') : WebAt C H' p cs ts := by
  obtain ⟨dx, c, t, r, rs, h1, h2, h3, h4⟩ := x
  exact ⟨dx, c, t, r, rs, s _ _ h1, s _ _ h2, s _ _ h3, h4.same s⟩
/-- what the top says of Web -/
structure TWc (K : PySem.W.Frag) (mg : Str → Option Value) (C fI fE : Addr) : Prop where
  cl : Cls K C
  nC : NoAttr K C "colours"
  nT : NoAttr K C "ties"
  nR : NoAttr K C "rows"
  mks : Mk K C fI
  gC : mg "Web" = some (.ref C)
  ha : PySem.W.findIn K (.ref C) "__class__" = some (some (.builtin "object.__class__"))
  hn : PySem.W.specialIn K (.builtin "object.__class__") "__get__" = some (some (.builtin "getset_descriptor.__get__"))
  htk : PySem.W.takesIn K (.builtin "object.__class__") = some true
  hm : PySem.W.mroIn K C (.type "object") = some true
  eq : PySem.W.findIn K (.ref C) "__eq__" = some (some (.ref fE))
  eqf : PySem.W.isFn K (.ref fE) = true
  ne : PySem.W.findIn K (.ref C) "__ne__" = some (some (.builtin "object.__ne__"))
  kit : ∀ T ∈ ["NoneType", "int", "str", "list", "tuple", "dict"], PySem.W.kitOne K (.type T) (.ref C) = some false ∧ PySem.W.notFirst K C (.type T) = true ∧ PySem.W.subIn K (.ref C) (.type T) = some false
section
variable {P : Program} {w : World} {K : PySem.W.Frag} {mg : Str → Option Value} {base : Heap} {C C1 C2 C7 f1 f2 f7 : Addr}
/-- Web(colours, ties), of lists that are a web's -/
def spInit (C : Addr) : Sp := fun vs H Q _ => ∃ (p dx c t : Addr) (cs : List Int) (rs : List Addr) (ts : List (Int × Int)), vs = [.ref p, .ref c, .ref t] ∧ H p = some (.ins C dx []) ∧ H c = some (.lst (cs.map V.int)) ∧ Cols cs ∧ H t = some (.lst (rs.map V.ref)) ∧ TiesAt H rs ts ∧ Ties (cs.length : Int) 0 0 ts ∧ ts.length ≤ 30000 ∧
  ∀ H', WebAt C H' p cs ts → (∀ b o, H b = some o → b ≠ p → H' b = some o) → Q .non H'
theorem scInit : FnScope ["self", "colours", "ties"] ["self", "colours", "ties"] (defScope sInit) := ⟨rfl, rfl, rfl, by decide +kernel, rfl, by decide +kernel, by decide +kernel⟩
theorem ok_init {f fI fE fC fT fR : Addr} {fd fdC fdT fdR : FuncData} (T : TW P K mg C1 C2 C7 f1 f2 f7) (W : TWc K mg C fI fE) (F : Fun K "__init__" "Web.__init__" sInit f fd)
    (FC : Fun K "check_colours" "check_colours" sCheckC fC fdC) (bC : Binds K fdC ["colours"] []) (mC : mg "check_colours" = some (.ref fC)) (GC : FnOk P w K mg base (L2.CX P w) 3 fC fdC ["colours"] spCheckC)
    (FT : Fun K "check_ties" "check_ties" sCheckT fT fdT) (bT : Binds K fdT ["ties", "many"] []) (mT : mg "check_ties" = some (.ref fT)) (GT : FnOk P w K mg base (L2.CX P w) 4 fT fdT ["ties", "many"] spCheckT)
    (FR : Fun K "neighbour_rows" "neighbour_rows" sRows fR fdR) (bR : Binds K fdR ["many", "ties"] []) (mR : mg "neighbour_rows" = some (.ref fR)) (GR : FnOk P w K mg base CX0 1 fR fdR ["many", "ties"] spRows) :
    FnOk P w K mg base CX0 5 f fd ["self", "colours", "ties"] (spInit C) := by
  refine F.ok scInit (fun vs H Q E h => ?_) (fun cdv A outer s H vs Q E hr h => ?_)
  · obtain ⟨p, dx, c, t, cs, rs, ts, rfl, _⟩ := h
    rfl
  · obtain ⟨p, dx, c, t, cs, rs, ts, rfl, hp, hc, hcs, ht, hT, hts, hl, k⟩ := h
    refine ⟨_, pss_cons (ps_expr (pe_call GC (hr.mono (by decide)) rfl mC FC.kp bC .nil passL (pa_cons (pv 1) pa_nil)))
      (pss_cons (ps_expr (pe_call GT hr rfl mT FT.kp bT .nil passL (pa_cons (pv 2) (pa_cons (pe_callB call_len_seq (by rfl) T.len PySem.boot_len (pa_cons (pv 1) pa_nil)) pa_nil))))
      (pss_cons (ps_fld (pv 0) (pe_callTy call_tuple_of (by rfl) T.tuple (by decide +kernel) (pa_cons (pv 1) pa_nil)) rfl)
      (pss_cons (ps_fld (pv 0) (pe_callTy call_tuple_of (by rfl) T.tuple (by decide +kernel) (pa_cons (pv 2) pa_nil)) rfl)
      (pss_one (ps_fld (pv 0) (pe_call GR (hr.mono (by decide)) rfl mR FR.kp bR .nil pass0 (pa_cons (pe_callB call_len_seq (by rfl) T.len PySem.boot_len (pa_cons (pv 1) pa_nil)) (pa_cons (pv 2) pa_nil))) rfl))))), ?_⟩
    have hlen : (((cs.map V.int).length : Nat) : Int) = (cs.length : Int) := by rw [List.length_map]
    refine ⟨_, rfl, c, cs, rfl, hc, hcs, fun H1 s1 => ?_⟩
    have hc1 := s1 _ _ hc
    have ht1 := s1 _ _ ht
    refine ⟨_, rfl, _, rfl, c, _, rfl, .inl (.inl (.inl hc1)), t, (cs.length : Int), rs, ts, by rw [hlen]; rfl, ht1, hT.same s1, hts, hl, fun H2 s2 => ?_⟩
    have s02 := s1.trans s2
    have hp2 := s02 _ _ hp
    -- self.colours = tuple(colours)
    refine ⟨_, rfl, c, _, rfl, .inl ⟨.inl (.inl (s02 _ _ hc)), fun c' nc' => ?_⟩⟩
    have s3 := s02.trans (same_new (o := .tup (cs.map V.int)) nc')
    have hc3 : (upd H2 c' (.tup (cs.map V.int))) c' = some (.tup (cs.map V.int)) := upd_same
    have nc0 : H c' = none := s02.free nc'
    generalize upd H2 c' (.tup (cs.map V.int)) = H3 at *
    refine ⟨_, rfl, p, C, dx, [], rfl, s3 _ _ hp, W.cl, W.nC, by decide, ?_⟩
    have np : ∀ b o, H b = some o → b ≠ p → (upd H3 p (.ins C dx (putF "colours" (.ref c') []))) b = some o := fun b o e hb => by rw [upd_ne hb]; exact s3 b o e
    have ncp : c' ≠ p := fun z => by rw [z, hp] at nc0; cases nc0
    have hc4 : (upd H3 p (.ins C dx (putF "colours" (.ref c') []))) c' = some (.tup (cs.map V.int)) := by rw [upd_ne ncp]; exact hc3
    have hp4 : (upd H3 p (.ins C dx (putF "colours" (.ref c') []))) p = some (.ins C dx (putF "colours" (.ref c') [])) := upd_same
    generalize upd H3 p (.ins C dx (putF "colours" (.ref c') [])) = H4 at *
    have ntp : t ≠ p := ne_of ht hp (by intro z; cases z)
    -- self.ties = tuple(ties)
    refine ⟨_, rfl, t, _, rfl, .inl ⟨.inl (.inl (np _ _ ht ntp)), fun t' nt' => ?_⟩⟩
    have np5 : ∀ b o, H b = some o → b ≠ p → (upd H4 t' (.tup (rs.map V.ref))) b = some o := fun b o e hb => (same_new nt') b o (np b o e hb)
    have ht5 : (upd H4 t' (.tup (rs.map V.ref))) t' = some (.tup (rs.map V.ref)) := upd_same
    have hc5 := (same_new (o := .tup (rs.map V.ref)) nt') _ _ hc4
    have hp5 := (same_new (o := .tup (rs.map V.ref)) nt') _ _ hp4
    have ntp' : t' ≠ p := (ne_of_none hp4 nt').symm
    generalize upd H4 t' (.tup (rs.map V.ref)) = H5 at *
    refine ⟨_, rfl, p, C, dx, _, rfl, hp5, W.cl, W.nT, (by show 1 < 1000; decide), ?_⟩
    have np6 : ∀ b o, H b = some o → b ≠ p → (upd H5 p (.ins C dx (putF "ties" (.ref t') (putF "colours" (.ref c') [])))) b = some o := fun b o e hb => by rw [upd_ne hb]; exact np5 b o e hb
    have hc6 : (upd H5 p (.ins C dx (putF "ties" (.ref t') (putF "colours" (.ref c') [])))) c' = some (.tup (cs.map V.int)) := by rw [upd_ne ncp]; exact hc5
    have ht6 : (upd H5 p (.ins C dx (putF "ties" (.ref t') (putF "colours" (.ref c') [])))) t' = some (.tup (rs.map V.ref)) := by rw [upd_ne ntp']; exact ht5
    have hp6 : (upd H5 p (.ins C dx (putF "ties" (.ref t') (putF "colours" (.ref c') [])))) p = some (.ins C dx (putF "ties" (.ref t') (putF "colours" (.ref c') []))) := upd_same
    generalize upd H5 p (.ins C dx (putF "ties" (.ref t') (putF "colours" (.ref c') []))) = H6 at *
    have ncc : c ≠ p := ne_of hc hp (by intro z; cases z)
    have hT6 : TiesAt H6 rs ts := by
      have go : ∀ {rs : List Addr} {ts : List (Int × Int)}, TiesAt H rs ts → TiesAt H6 rs ts := fun {rs ts} h => by
        induction rs generalizing ts with
        | nil => cases ts with
          | nil => exact h
          | cons _ _ => exact h.elim
        | cons r rs ih => cases ts with
          | nil => exact h.elim
          | cons t ts => exact ⟨np6 _ _ h.1 (ne_of h.1 hp (by intro z; cases z)), ih h.2⟩
      exact go hT
    -- self.rows = neighbour_rows(len(colours), ties)
    refine ⟨_, rfl, c, _, rfl, .inl (.inl (.inl (np6 _ _ hc ncc))), _, rfl, t, cs.length, rs, ts, by rw [hlen]; rfl, hcs.2.1, np6 _ _ ht ntp, hT6, hts, hl, fun H7 r' s7 nr hr' => ?_⟩
    refine ⟨_, rfl, p, C, dx, _, rfl, s7 _ _ hp6, W.cl, W.nR, (by
      show (if ("colours" : Str) = "ties" then _ else _ : List (Str × V)).length < 1000
      rw [if_neg f_ct]
      show 2 < 1000
      decide), ?_⟩
    have nn : ∀ b o, H6 b = some o → b ≠ p → (upd H7 p (.ins C dx (wfl c' t' r'))) b = some o := fun b o e hb => by rw [upd_ne hb]; exact s7 b o e
    refine k _ ⟨dx, c', t', r', rs, upd_same, nn _ _ hc6 ncp, nn _ _ ht6 ntp', ?_⟩ fun b o e hb => nn b o (np6 b o e hb) hb
    have go : ∀ {rs : List Addr} {ts : List (Int × Int)}, TiesAt H6 rs ts → TiesAt (upd H7 p (.ins C dx (wfl c' t' r'))) rs ts := fun {rs ts} h => by
      induction rs generalizing ts with
      | nil => cases ts with
        | nil => exact h
        | cons _ _ => exact h.elim
      | cons r rs ih => cases ts with
        | nil => exact h.elim
        | cons t ts => exact ⟨nn _ _ h.1 (ne_of h.1 hp6 (by intro z; cases z)), ih h.2⟩
    exact go hT6
end
end Vk

namespace Vk
open PySem PySem.Spec PyProof.Rows L2 VkX
def prT (t : Int × Int) : PyData := .tuple [.int t.1, .int t.2]
theorem eqvInts : ∀ cs ds : List Int, PyData.eqvAll (cs.map PyData.int) (ds.map PyData.int) = decide (cs = ds)
  | [], [] => by simp [PyData.eqvAll]
  | [], _ :: _ => by simp [PyData.eqvAll]
  | _ :: _, [] => by simp [PyData.eqvAll]
  | c :: cs, d :: ds => by
    have h := eqvInts cs ds
    simp only [List.map_cons, PyData.eqvAll, PyData.eqv, h]
    by_cases e : c = d <;> simp [e]
theorem eqvPr (t u : Int × Int) : PyData.eqv (prT t) (prT u) = decide (t = u) := by
  obtain ⟨a, b⟩ := t
  obtain ⟨c, d⟩ := u
  simp only [prT, PyData.eqv, PyData.eqvAll, Bool.and_true]
  by_cases e : a = c <;> by_cases e2 : b = d <;> simp [e, e2]
theorem eqvPrs : ∀ ts us : List (Int × Int), PyData.eqvAll (ts.map prT) (us.map prT) = decide (ts = us)
  | [], [] => by simp [PyData.eqvAll]
  | [], _ :: _ => by simp [PyData.eqvAll]
  | _ :: _, [] => by simp [PyData.eqvAll]
  | t :: ts, u :: us => by
    have h := eqvPrs ts us
    simp only [List.map_cons, PyData.eqvAll, eqvPr, h]
    by_cases e : t = u <;> simp [e]
theorem prsLay : ∀ ts : List (Int × Int), PyData.canLayAll0 (ts.map prT) = true
  | [] => by simp [PyData.canLayAll0]
  | t :: ts => by
    have h := prsLay ts
    simp only [List.map_cons, PyData.canLayAll0, prT, PyData.canLay0, Bool.true_and, h]
theorem prsDepth : ∀ ts : List (Int × Int), PyData.depthAll (ts.map prT) ≤ 1
  | [] => by simp [PyData.depthAll]
  | t :: ts => by
    have h := prsDepth ts
    simp only [List.map_cons, PyData.depthAll, prT, PyData.depth]
    omega
theorem prsShaped (ts : List (Int × Int)) : SeqAt.shaped (.tuple (ts.map prT)) = true := by
  show (PyData.canLay0 (.tuple (ts.map prT)) && decide (PyData.depth (.tuple (ts.map prT)) ≤ 64)) = true
  have h1 := prsLay ts
  have h2 := prsDepth ts
  rw [Bool.and_eq_true]
  exact ⟨by simp only [PyData.canLay0]; exact h1, decide_eq_true (by simp only [PyData.depth]; omega)⟩
theorem intsShapedT (gs : List Int) : SeqAt.shaped (.tuple (gs.map PyData.int)) = true := by
  show (PyData.canLay0 (.tuple (gs.map PyData.int)) && decide (PyData.depth (.tuple (gs.map PyData.int)) ≤ 64)) = true
  have h1 := intsLay gs
  have h2 := intsDepth gs
  simp only [PyData.canLay0, PyData.depth, h1, h2]
  decide
theorem dpTies {K : PySem.W.Frag} {H : Hp} : ∀ {rs : List Addr} {ts : List (Int × Int)}, TiesAt H rs ts → DpAll K H (rs.map V.ref) (ts.map prT)
  | [], [], _ => .nil
  | r :: rs, t :: ts, h => .cons (.tup (.inl (.inl h.1)) (.cons (.int _) (.cons (.int _) .nil))) (dpTies h.2)
  | [], _ :: _, h => h.elim
  | _ :: _, [], h => h.elim
section
variable {P : Program} {w : World} {K : PySem.W.Frag} {mg : Str → Option Value} {base : Heap} {C C1 C2 C7 f1 f2 f7 : Addr}
/-- a web asked whether it is another value: of other kinds never; of webs by their colours and ties -/
def spEq (K : PySem.W.Frag) (C : Addr) : Sp := fun vs H Q _ => ∃ (p : Addr) (y : V) (cs : List Int) (ts : List (Int × Int)), vs = [.ref p, y] ∧ WebAt C H p cs ts ∧
  ((∃ T ∈ ["NoneType", "int", "str", "list", "tuple", "dict"], TyOf K H y (.type T) ∧ Q (.bl false) H) ∨ ∃ (p2 : Addr) (ds : List Int) (us : List (Int × Int)), y = .ref p2 ∧ WebAt C H p2 ds us ∧ Q (.bl (decide (cs = ds ∧ ts = us))) H)
theorem scEq : FnScope ["self", "other"] ["self", "other"] (defScope sEq) := ⟨rfl, rfl, rfl, by decide +kernel, rfl, by decide +kernel, by decide +kernel⟩
theorem ok_eq {f fI fE : Addr} {fd : FuncData} (T : TW P K mg C1 C2 C7 f1 f2 f7) (W : TWc K mg C fI fE) (F : Fun K "__eq__" "Web.__eq__" sEq f fd) : FnOk P w K mg base CX0 1 f fd ["self", "other"] (spEq K C) := by
  refine F.ok scEq (fun vs H Q E h => ?_) (fun cdv A outer s H vs Q E hr h => ?_)
  · obtain ⟨p, y, cs, ts, rfl, _⟩ := h
    rfl
  · obtain ⟨p, y, cs, ts, rfl, hw, k⟩ := h
    have hu := hr.units
    refine ⟨_, pss_one (ps_ret (pe_and (pe_callB call_isi (by rfl) T.isi (by decide +kernel) (pa_cons (pv 1) (pa_cons (pe_glob (v := .ref C) rfl W.gC rfl) pa_nil)))
      (pe_and (pe_cmpR (op_eqD hu) (pe_fld (pv 0) rfl) (pe_fld (pv 1) rfl) (nomark _)) (pe_one (pe_cmpR (op_eqD hu) (pe_fld (pv 0) rfl) (pe_fld (pv 1) rfl) (nomark _)))))), ?_⟩
    rcases k with ⟨Ty, hTy, ty, q⟩ | ⟨p2, ds, us, rfl, hw2, q⟩
    · refine ⟨_, rfl, y, .ref C, .type Ty, .ref C, false, rfl, .own C, .base ty, (W.kit Ty hTy).1, _, rfl, ?_⟩
      refine ifno rfl ?_
      exact q
    · obtain ⟨dx, c, t, r, rs, h1, h2, h3, h4⟩ := hw
      obtain ⟨dx', c', t', r', rs', g1, g2, g3, g4⟩ := hw2
      refine ⟨_, rfl, .ref p2, .ref C, .ref C, .ref C, true, rfl, .own C, .base (.ins g1 W.cl W.ha W.hn W.htk W.hm), (by unfold PySem.W.kitOne; rw [if_pos (by simp)]), _, rfl, ?_⟩
      refine ifyes rfl ?_
      refine ⟨_, rfl, p, C, dx, _, _, rfl, h1, W.cl, W.nC, wfl_c _ _ _, _, rfl, p2, C, dx', _, _, rfl, g1, W.cl, W.nC, wfl_c _ _ _, ?_⟩
      refine ⟨.tuple (cs.map PyData.int), .tuple (ds.map PyData.int), .tup (.inl (.inl h2)) (dpInts cs), .tup (.inl (.inl g2)) (dpInts ds), intsShapedT cs, intsShapedT ds, _, rfl, ?_⟩
      have e1 : PyData.eqv (.tuple (cs.map PyData.int)) (.tuple (ds.map PyData.int)) = decide (cs = ds) := by simp only [PyData.eqv]; exact eqvInts cs ds
      by_cases hcd : cs = ds
      · refine ifyes (by rw [e1]; exact decide_eq_true hcd) ?_
        refine ⟨_, rfl, p, C, dx, _, _, rfl, h1, W.cl, W.nT, wfl_t _ _ _, _, rfl, p2, C, dx', _, _, rfl, g1, W.cl, W.nT, wfl_t _ _ _, ?_⟩
        refine ⟨.tuple (ts.map prT), .tuple (us.map prT), .tup (.inl (.inl h3)) (dpTies h4), .tup (.inl (.inl g3)) (dpTies g4), prsShaped ts, prsShaped us, ?_⟩
        have e2 : PyData.eqv (.tuple (ts.map prT)) (.tuple (us.map prT)) = decide (ts = us) := by simp only [PyData.eqv]; exact eqvPrs ts us
        rw [e2]
        have e : decide (cs = ds ∧ ts = us) = decide (ts = us) := by simp [hcd]
        rw [e] at q
        exact q
      · refine ifno (by rw [e1]; exact decide_eq_false hcd) ?_
        have e : decide (cs = ds ∧ ts = us) = false := decide_eq_false (fun z => hcd z.1)
        rw [e] at q
        exact q
end
end Vk

namespace Vk
open PySem PySem.Spec PyProof.Rows L2 VkX
/-- the words of the classes -/
def NM : List Str := ["BadColours", "BadTies", "BadPlace", "BadNumber", "BadOrder", "Unlike", "Apart", "BadFolding", "BadOrders", "BadText", "BadDeed", "NothingLeft", "TooGreat"]
/-- the field of each -/
def fldOf : Nat → Option Str
  | 0 => some "place"
  | 1 => some "place"
  | 2 => some "value"
  | 3 => some "value"
  | 4 => some "value"
  | 7 => some "value"
  | 8 => some "place"
  | 9 => some "place"
  | 10 => some "place"
  | 12 => some "most"
  | _ => none
def PairsAt (H : Hp) : List Addr → List (Str × Bool) → Prop
  | [], [] => True
  | r :: rs, t :: ts => H r = some (.tup [.str t.1, .bl t.2]) ∧ PairsAt H rs ts
  | _, _ => False
theorem PairsAt.at {H : Hp} : ∀ {rs : List Addr} {ts : List (Str × Bool)} {i : Nat} {r : Addr}, PairsAt H rs ts → rs[i]? = some r → ∃ t, ts[i]? = some t ∧ H r = some (.tup [.str t.1, .bl t.2])
  | r :: rs, t :: ts, 0, r', h, e => by
    have e' : r = r' := Option.some.inj e
    subst e'
    exact ⟨t, rfl, h.1⟩
  | r :: rs, t :: ts, i + 1, r', h, e => PairsAt.at (i := i) h.2 e
  | [], [], i, r', h, e => by simp at e
  | [], _ :: _, _, _, h, _ => h.elim
  | _ :: _, [], _, _, h, _ => h.elim
theorem PairsAt.len {H : Hp} : ∀ {rs : List Addr} {ts : List (Str × Bool)}, PairsAt H rs ts → rs.length = ts.length
  | r :: rs, t :: ts, h => by rw [List.length_cons, List.length_cons, PairsAt.len h.2]
  | [], [], h => rfl
  | [], _ :: _, h => h.elim
  | _ :: _, [], h => h.elim
theorem PairsAt.same {H H' : Hp} (s : Same H H') : ∀ {rs : List Addr} {ts : List (Str × Bool)}, PairsAt H rs ts → PairsAt H' rs ts
  | r :: rs, t :: ts, h => ⟨s _ _ h.1, PairsAt.same s h.2⟩
  | [], [], h => True.intro
  | [], _ :: _, h => h.elim
  | _ :: _, [], h => h.elim
/-- the pairs' words that hold -/
def held (ts : List (Str × Bool)) : List V := (ts.filter (·.2)).map fun t => .str t.1
theorem held_take {ts : List (Str × Bool)} {j : Nat} {t : Str × Bool} (e : ts[j]? = some t) : held (ts.take (j + 1)) = if t.2 = true then held (ts.take j) ++ [.str t.1] else held (ts.take j) := by
  unfold held
  rw [List.take_succ, e]
  rw [List.filter_append, List.map_append]
  obtain ⟨n, b⟩ := t
  cases b
  · rw [if_neg (by show ¬(false = true); decide)]
    exact List.append_nil _
  · rw [if_pos rfl]
    rfl
theorem held_len (ts : List (Str × Bool)) : (held ts).length ≤ ts.length := by
  unfold held
  rw [List.length_map]
  exact List.length_filter_le _ _
def rows13 (i : Nat) : List (Str × Bool) := [("BadColours", decide (((0 : Nat) : Int) = (i : Int))), ("BadTies", decide (((1 : Nat) : Int) = (i : Int))), ("BadPlace", decide (((2 : Nat) : Int) = (i : Int))), ("BadNumber", decide (((3 : Nat) : Int) = (i : Int))), ("BadOrder", decide (((4 : Nat) : Int) = (i : Int))), ("Unlike", decide (((5 : Nat) : Int) = (i : Int))), ("Apart", decide (((6 : Nat) : Int) = (i : Int))), ("BadFolding", decide (((7 : Nat) : Int) = (i : Int))), ("BadOrders", decide (((8 : Nat) : Int) = (i : Int))), ("BadText", decide (((9 : Nat) : Int) = (i : Int))), ("BadDeed", decide (((10 : Nat) : Int) = (i : Int))), ("NothingLeft", decide (((11 : Nat) : Int) = (i : Int))), ("TooGreat", decide (((12 : Nat) : Int) = (i : Int)))]
def in5 : List V := [.str "BadColours", .str "BadTies", .str "BadOrders", .str "BadText", .str "BadDeed"]
def in4 : List V := [.str "BadPlace", .str "BadNumber", .str "BadOrder", .str "BadFolding"]
/-- what the words tell of the classes -/
def Kind (i : Nat) (nm : Str) : Prop := held (rows13 i) = [.str nm] ∧ ((inV (.str nm) in5 = true ∧ fldOf i = some ("place" : Str)) ∨ (inV (.str nm) in5 = false ∧ ((inV (.str nm) in4 = true ∧ fldOf i = some ("value" : Str)) ∨
  (inV (.str nm) in4 = false ∧ ((decide (V.str nm = V.str "TooGreat") = true ∧ fldOf i = some ("most" : Str)) ∨ (decide (V.str nm = V.str "TooGreat") = false ∧ fldOf i = none))))))
theorem kind0 : Kind 0 "BadColours" := ⟨by kernel_rfl, .inl ⟨by kernel_rfl, rfl⟩⟩
theorem kind1 : Kind 1 "BadTies" := ⟨by kernel_rfl, .inl ⟨by kernel_rfl, rfl⟩⟩
theorem kind2 : Kind 2 "BadPlace" := ⟨by kernel_rfl, .inr ⟨by kernel_rfl, .inl ⟨by kernel_rfl, rfl⟩⟩⟩
theorem kind3 : Kind 3 "BadNumber" := ⟨by kernel_rfl, .inr ⟨by kernel_rfl, .inl ⟨by kernel_rfl, rfl⟩⟩⟩
theorem kind4 : Kind 4 "BadOrder" := ⟨by kernel_rfl, .inr ⟨by kernel_rfl, .inl ⟨by kernel_rfl, rfl⟩⟩⟩
theorem kind5 : Kind 5 "Unlike" := ⟨by kernel_rfl, .inr ⟨by kernel_rfl, .inr ⟨by kernel_rfl, .inr ⟨by kernel_rfl, rfl⟩⟩⟩⟩
theorem kind6 : Kind 6 "Apart" := ⟨by kernel_rfl, .inr ⟨by kernel_rfl, .inr ⟨by kernel_rfl, .inr ⟨by kernel_rfl, rfl⟩⟩⟩⟩
theorem kind7 : Kind 7 "BadFolding" := ⟨by kernel_rfl, .inr ⟨by kernel_rfl, .inl ⟨by kernel_rfl, rfl⟩⟩⟩
theorem kind8 : Kind 8 "BadOrders" := ⟨by kernel_rfl, .inl ⟨by kernel_rfl, rfl⟩⟩
theorem kind9 : Kind 9 "BadText" := ⟨by kernel_rfl, .inl ⟨by kernel_rfl, rfl⟩⟩
theorem kind10 : Kind 10 "BadDeed" := ⟨by kernel_rfl, .inl ⟨by kernel_rfl, rfl⟩⟩
theorem kind11 : Kind 11 "NothingLeft" := ⟨by kernel_rfl, .inr ⟨by kernel_rfl, .inr ⟨by kernel_rfl, .inr ⟨by kernel_rfl, rfl⟩⟩⟩⟩
theorem kind12 : Kind 12 "TooGreat" := ⟨by kernel_rfl, .inr ⟨by kernel_rfl, .inr ⟨by kernel_rfl, .inl ⟨by kernel_rfl, rfl⟩⟩⟩⟩
theorem kind {i : Nat} {nm : Str} (h : NM[i]? = some nm) : Kind i nm := by
  match i, h with
  | 0, h => exact (Option.some.inj h) ▸ kind0
  | 1, h => exact (Option.some.inj h) ▸ kind1
  | 2, h => exact (Option.some.inj h) ▸ kind2
  | 3, h => exact (Option.some.inj h) ▸ kind3
  | 4, h => exact (Option.some.inj h) ▸ kind4
  | 5, h => exact (Option.some.inj h) ▸ kind5
  | 6, h => exact (Option.some.inj h) ▸ kind6
  | 7, h => exact (Option.some.inj h) ▸ kind7
  | 8, h => exact (Option.some.inj h) ▸ kind8
  | 9, h => exact (Option.some.inj h) ▸ kind9
  | 10, h => exact (Option.some.inj h) ▸ kind10
  | 11, h => exact (Option.some.inj h) ▸ kind11
  | 12, h => exact (Option.some.inj h) ▸ kind12
  | (n + 13), h => exact nomatch h
abbrev wd0 (K : PySem.W.Frag) : TE := tOp (rIxL K) (tVar 2) (tC (.int 0))
abbrev restC (K : PySem.W.Frag) : TS := tSeq (tAsg (tLc (iList K (tVar 1)) (gTup K 2 (gCons (gName 3) (gCons (gName 4) gNil))) (tB (tVar 4)) (tVar 3) [3, 4]) (gName 2))
  (tSeq (tIfS (tTest (tOp rNe (tCB (fun xs H_1 Q => ∃ p ys, xs = [V.ref p] ∧ (SqL K H_1 p ys ∨ SqT K H_1 p ys) ∧ Q (V.int ↑ys.length) H_1) (tCons (tVar 2) tNil)) (tC (.int 1)))) (tRet (tTup (tCons (tC (.str "other")) tNil))) tNext)
  (tSeq (tIfS (tTest (tOp (rIn K false) (wd0 K) (tTup (tCons (tC (.str "BadColours")) (tCons (tC (.str "BadTies")) (tCons (tC (.str "BadOrders")) (tCons (tC (.str "BadText")) (tCons (tC (.str "BadDeed")) tNil)))))))) (tRet (tTup (tCons (wd0 K) (tCons (tXfld K "place" (tVar 0)) tNil)))) tNext)
  (tSeq (tIfS (tTest (tOp (rIn K false) (wd0 K) (tTup (tCons (tC (.str "BadPlace")) (tCons (tC (.str "BadNumber")) (tCons (tC (.str "BadOrder")) (tCons (tC (.str "BadFolding")) tNil))))))) (tRet (tTup (tCons (wd0 K) (tCons (tXfld K "value" (tVar 0)) tNil)))) tNext)
  (tRet (tIf (tTest (tOp rEq (wd0 K) (tC (.str "TooGreat")))) (tTup (tCons (wd0 K) (tCons (tXfld K "most" (tVar 0)) tNil))) (tTup (tCons (wd0 K) tNil)))))))
theorem lookup_self (f : Str) (q : V) : List.lookup f [(f, q)] = some q := by
  rw [List.lookup_cons, beq_self_eq_true]
theorem class_rest {K : PySem.W.Frag} {W : Hp} {a C e5 : Addr} {dd : Option Addr} {i : Nat} {nm : Str} {q : V} {rs : List Addr} {H : Hp} {Q : VK} {D : Ends} (hno : ∀ f, fldOf i = some f → PySem.W.findIn K (.ref C) f = some none) (i5 : ExcC K C)
    (hnm : NM[i]? = some nm) (ha : H a = some (exo a C dd)) (hf : ∀ f, fldOf i = some f → ∃ dx, dd = some dx ∧ H dx = some (exd dx [(f, q)])) (sE : Same H W) (vE : W e5 = some (.lst (rs.map V.ref)))
    (ps : PairsAt W rs (rows13 i)) (hD : ∀ v H, Q v H → D.rt v H) (k : ∀ H' p, Same H H' → H p = none → H' p = some (.tup (match fldOf i with | some _ => [.str nm, q] | none => [.str nm])) → Q (.ref p) H') :
    restC K D [some (.ref a), some (.ref e5), none, none, none] W := by
  obtain ⟨hh, kd⟩ := kind hnm
  have ln : rs.length = 13 := ps.len
  refine ⟨_, rfl, e5, rfl, ⟨_, .inl (.inl vE)⟩, fun L hL => lc_list (K := K) (a := e5) (xs := rs.map V.ref) (fun j H' => Same W H' ∧ H' L = some (.lst (held ((rows13 i).take j)))) ⟨same_new hL, upd_same⟩ (fun j H' _ p => .inl (.inl (p.1 _ _ vE))) ?_ ?_⟩
  · rintro j x H' ex ⟨s1, hl⟩
    rw [List.getElem?_map] at ex
    cases er : rs[j]? with
    | none => rw [er] at ex; cases ex
    | some r =>
      rw [er] at ex
      have ex : V.ref r = x := Option.some.inj ex
      subst ex
      obtain ⟨t, et, ht⟩ := (ps.same s1).at er
      refine ⟨r, _, rfl, .inl (.inl ht), rfl, _, _, rfl, _, _, rfl, rfl, rfl, _, rfl, _, rfl, ?_⟩
      have hj : j < 13 := by
        rw [← ln]
        exact (List.getElem?_eq_some_iff.mp er).1
      have hst : held ((rows13 i).take (j + 1)) = _ := held_take et
      cases eb : t.2 with
      | true =>
        rw [eb, if_pos rfl] at hst
        refine ifyes rfl ?_
        refine ⟨_, rfl, _, hl, ?_, fun b o e => ?_, ?_⟩
        · have z := held_len ((rows13 i).take j)
          rw [List.length_take] at z
          show _ < sizeLine
          exact Nat.lt_of_le_of_lt (Nat.le_trans z (Nat.min_le_left _ _)) (Nat.lt_trans hj (by show 13 < sizeLine; decide))
        · rw [upd_ne (ne_of_none e hL)]
          exact s1 b o e
        · rw [hst]
          exact upd_same
      | false =>
        rw [eb, if_neg (by decide)] at hst
        refine ifno rfl ?_
        exact ⟨s1, by rw [hst]; exact hl⟩
  rintro H1 ⟨s1, hl⟩
  rw [List.length_map, ln] at hl
  have hl : H1 L = some (.lst [.str nm]) := by
    rw [← hh]
    exact hl
  have s2 := sE.trans s1
  clear ps vE s1 sE
  refine ⟨_, rfl, L, _, rfl, .inl (.inl (.inl hl)), rfl, _, rfl, ?_⟩
  refine ifno (by kernel_rfl) ?_
  refine ⟨_, rfl, L, _, 0, .str nm, rfl, rfl, .inl (.inl hl), rfl, (by show 5 ≤ sizeLine; decide), fun p5 n5 => ⟨p5, in5, rfl, .inr (.inl (.inl upd_same)), rfl, by kernel_rfl, _, rfl, ?_⟩⟩
  have s3 := same_new (o := HO.tup in5) n5
  have hl3 := s3 _ _ hl
  rcases kd with ⟨b1, hfl⟩ | ⟨b1, kd⟩
  · refine ifyes b1 ?_
    have s4 : Same (upd H1 p5 (HO.tup in5)) (upd H1 p5 (HO.tup in5)) := fun _ _ e => e
    have hl4 := hl3
    obtain ⟨dx, e1, e2⟩ := hf _ hfl
    have e2 := s4 _ _ (s3 _ _ (s2 _ _ e2))
    exact ⟨_, rfl, L, _, 0, .str nm, rfl, rfl, .inl (.inl hl4), rfl, _, rfl, a, C, dx, _, q, rfl, e1 ▸ s4 _ _ (s3 _ _ (s2 _ _ ha)), e2, lookup_self _ _, i5, hno _ hfl, (by show 2 ≤ sizeLine; decide), fun p np => hD _ _ (k _ p (((s2.trans s3).trans s4).trans (same_new np)) (((s2.trans s3).trans s4).free np) (by rw [hfl]; exact upd_same))⟩
  refine ifno b1 ?_
  refine ⟨_, rfl, L, _, 0, .str nm, rfl, rfl, .inl (.inl hl3), rfl, (by show 4 ≤ sizeLine; decide), fun p4 n4 => ⟨p4, in4, rfl, .inr (.inl (.inl upd_same)), rfl, by kernel_rfl, _, rfl, ?_⟩⟩
  have s4 := same_new (o := HO.tup in4) n4
  have hl4 := s4 _ _ hl3
  rcases kd with ⟨b2, hfl⟩ | ⟨b2, kd⟩
  · refine ifyes b2 ?_
    obtain ⟨dx, e1, e2⟩ := hf _ hfl
    have e2 := s4 _ _ (s3 _ _ (s2 _ _ e2))
    exact ⟨_, rfl, L, _, 0, .str nm, rfl, rfl, .inl (.inl hl4), rfl, _, rfl, a, C, dx, _, q, rfl, e1 ▸ s4 _ _ (s3 _ _ (s2 _ _ ha)), e2, lookup_self _ _, i5, hno _ hfl, (by show 2 ≤ sizeLine; decide), fun p np => hD _ _ (k _ p (((s2.trans s3).trans s4).trans (same_new np)) (((s2.trans s3).trans s4).free np) (by rw [hfl]; exact upd_same))⟩
  refine ifno b2 ?_
  refine ⟨_, rfl, L, _, 0, .str nm, rfl, rfl, .inl (.inl hl4), rfl, rfl, _, rfl, ?_⟩
  rcases kd with ⟨b3, hfl⟩ | ⟨b3, hfl⟩
  · refine ifyes b3 ?_
    obtain ⟨dx, e1, e2⟩ := hf _ hfl
    have e2 := s4 _ _ (s3 _ _ (s2 _ _ e2))
    exact ⟨_, rfl, L, _, 0, .str nm, rfl, rfl, .inl (.inl hl4), rfl, _, rfl, a, C, dx, _, q, rfl, e1 ▸ s4 _ _ (s3 _ _ (s2 _ _ ha)), e2, lookup_self _ _, i5, hno _ hfl, (by show 2 ≤ sizeLine; decide), fun p np => hD _ _ (k _ p (((s2.trans s3).trans s4).trans (same_new np)) (((s2.trans s3).trans s4).free np) (by rw [hfl]; exact upd_same))⟩
  · refine ifno b3 ?_
    exact ⟨_, rfl, L, _, 0, .str nm, rfl, rfl, .inl (.inl hl4), rfl, (by show 1 ≤ sizeLine; decide), fun p np => hD _ _ (k _ p (((s2.trans s3).trans s4).trans (same_new np)) (((s2.trans s3).trans s4).free np) (by rw [hfl]; exact upd_same))⟩
end Vk

namespace Vk
open PySem PySem.Spec PyProof.Rows L2 VkX
abbrev sClass : Stmt := top 32
/-- what the top gives for the thirteen classes -/
structure T78 (prog : Program) (K : PySem.W.Frag) (mg : Str → Option Value) (C1 C2 C3 C4 C5 C6 C7 C8 C9 C10 C11 C12 C13 C14 f1 f2 f3 f4 f5 f8 f9 f10 f11 f13 : Addr) : Prop where
  x1 : XCls prog K mg "BadColours" "BadColours.__init__" "these are not the colours of a web" "place" "ValueError" "ValueError.__init__" "ValueError.__new__" [.type "ValueError", .type "Exception", .type "BaseException", .type "object"] C1 f1
  n1 : PySem.W.findIn K (.ref C1) "place" = some none
  x2 : XCls prog K mg "BadTies" "BadTies.__init__" "these are not the ties of a web" "place" "ValueError" "ValueError.__init__" "ValueError.__new__" [.type "ValueError", .type "Exception", .type "BaseException", .type "object"] C2 f2
  n2 : PySem.W.findIn K (.ref C2) "place" = some none
  x3 : XCls prog K mg "BadPlace" "BadPlace.__init__" "this is no place of the web" "value" "ValueError" "ValueError.__init__" "ValueError.__new__" [.type "ValueError", .type "Exception", .type "BaseException", .type "object"] C3 f3
  n3 : PySem.W.findIn K (.ref C3) "value" = some none
  x4 : XCls prog K mg "BadNumber" "BadNumber.__init__" "this is no number that may stand here" "value" "ValueError" "ValueError.__init__" "ValueError.__new__" [.type "ValueError", .type "Exception", .type "BaseException", .type "object"] C4 f4
  n4 : PySem.W.findIn K (.ref C4) "value" = some none
  x5 : XCls prog K mg "BadOrder" "BadOrder.__init__" "this is no order of the places of the web" "value" "ValueError" "ValueError.__init__" "ValueError.__new__" [.type "ValueError", .type "Exception", .type "BaseException", .type "object"] C5 f5
  n5 : PySem.W.findIn K (.ref C5) "value" = some none
  q6 : PySem.W.excInitIn K C6 [.type "ValueError", .type "Exception", .type "BaseException", .type "object"] "ValueError.__new__" = true
  i6 : PySem.W.findIn K (.ref C6) "__init__" = some (some (.builtin "ValueError.__init__"))
  k6 : PySem.W.keepIn K (.ref C6) = true
  g6 : mg "Unlike" = some (.ref C6)
  q7 : PySem.W.excInitIn K C7 [.type "ValueError", .type "Exception", .type "BaseException", .type "object"] "ValueError.__new__" = true
  i7 : PySem.W.findIn K (.ref C7) "__init__" = some (some (.builtin "ValueError.__init__"))
  k7 : PySem.W.keepIn K (.ref C7) = true
  g7 : mg "Apart" = some (.ref C7)
  x8 : XCls prog K mg "BadFolding" "BadFolding.__init__" "this is no folding of the one web onto the other one" "value" "ValueError" "ValueError.__init__" "ValueError.__new__" [.type "ValueError", .type "Exception", .type "BaseException", .type "object"] C8 f8
  n8 : PySem.W.findIn K (.ref C8) "value" = some none
  x9 : XCls prog K mg "BadOrders" "BadOrders.__init__" "these are not the layer orders of the ties" "place" "ValueError" "ValueError.__init__" "ValueError.__new__" [.type "ValueError", .type "Exception", .type "BaseException", .type "object"] C9 f9
  n9 : PySem.W.findIn K (.ref C9) "place" = some none
  x10 : XCls prog K mg "BadText" "BadText.__init__" "this is not the text of a web" "place" "ValueError" "ValueError.__init__" "ValueError.__new__" [.type "ValueError", .type "Exception", .type "BaseException", .type "object"] C10 f10
  n10 : PySem.W.findIn K (.ref C10) "place" = some none
  x11 : XCls prog K mg "BadDeed" "BadDeed.__init__" "this is no deed on the web as it is" "place" "ValueError" "ValueError.__init__" "ValueError.__new__" [.type "ValueError", .type "Exception", .type "BaseException", .type "object"] C11 f11
  n11 : PySem.W.findIn K (.ref C11) "place" = some none
  q12 : PySem.W.excInitIn K C12 [.type "ValueError", .type "Exception", .type "BaseException", .type "object"] "ValueError.__new__" = true
  i12 : PySem.W.findIn K (.ref C12) "__init__" = some (some (.builtin "ValueError.__init__"))
  k12 : PySem.W.keepIn K (.ref C12) = true
  g12 : mg "NothingLeft" = some (.ref C12)
  x13 : XCls prog K mg "TooGreat" "TooGreat.__init__" "this is more than the package allows" "most" "OverflowError" "OverflowError.__init__" "OverflowError.__new__" [.type "OverflowError", .type "ArithmeticError", .type "Exception", .type "BaseException", .type "object"] C13 f13
  n13 : PySem.W.findIn K (.ref C13) "most" = some none
  g14 : mg "WebError" = some (.ref C14)
  ec : ∀ C ∈ [C1, C2, C3, C4, C5, C6, C7, C8, C9, C10, C11, C12, C13], ExcC K C
  own : ∀ (i j : Nat) (C D : Addr), [C1, C2, C3, C4, C5, C6, C7, C8, C9, C10, C11, C12, C13][i]? = some C → [C1, C2, C3, C4, C5, C6, C7, C8, C9, C10, C11, C12, C13][j]? = some D → PySem.W.kitOne K (.ref C) (.ref D) = some (decide ((j : Int) = (i : Int)))
  isi : mg "isinstance" = none
  len : mg "len" = none
section
variable {P : Program} {w : World} {K : PySem.W.Frag} {mg : Str → Option Value} {base : Heap} {C1 C2 C3 C4 C5 C6 C7 C8 C9 C10 C11 C12 C13 C14 f1 f2 f3 f4 f5 f8 f9 f10 f11 f13 : Addr}
/-- the word of an exception's class, with its field -/
def spClass (Cs : List Addr) : Sp := fun vs H Q _ => ∃ (a C : Addr) (dd : Option Addr) (i : Nat) (nm : Str) (q : V), vs = [.ref a] ∧ Cs[i]? = some C ∧ NM[i]? = some nm ∧ i < 13 ∧ H a = some (exo a C dd) ∧ (dd = none ∨ ∃ dx fs, dd = some dx ∧ H dx = some (exd dx fs)) ∧
  (∀ f, fldOf i = some f → ∃ dx, dd = some dx ∧ H dx = some (exd dx [(f, q)])) ∧ ∀ H' p, Same H H' → H p = none → H' p = some (.tup (match fldOf i with | some _ => [.str nm, q] | none => [.str nm])) → Q (.ref p) H'
theorem scClass : FnScope ["error", "rows", "words", "word", "holds"] ["error"] (defScope sClass) := ⟨rfl, rfl, rfl, by decide +kernel, rfl, by decide +kernel, by decide +kernel⟩
theorem hno_of (T : T78 P K mg C1 C2 C3 C4 C5 C6 C7 C8 C9 C10 C11 C12 C13 C14 f1 f2 f3 f4 f5 f8 f9 f10 f11 f13) {i : Nat} {C : Addr} (h : [C1, C2, C3, C4, C5, C6, C7, C8, C9, C10, C11, C12, C13][i]? = some C) : ∀ g, fldOf i = some g → PySem.W.findIn K (.ref C) g = some none := by
  match i, h with
  | 0, h => exact fun g e => Option.some.inj h ▸ Option.some.inj e ▸ T.n1
  | 1, h => exact fun g e => Option.some.inj h ▸ Option.some.inj e ▸ T.n2
  | 2, h => exact fun g e => Option.some.inj h ▸ Option.some.inj e ▸ T.n3
  | 3, h => exact fun g e => Option.some.inj h ▸ Option.some.inj e ▸ T.n4
  | 4, h => exact fun g e => Option.some.inj h ▸ Option.some.inj e ▸ T.n5
  | 5, h => exact fun g e => nomatch e
  | 6, h => exact fun g e => nomatch e
  | 7, h => exact fun g e => Option.some.inj h ▸ Option.some.inj e ▸ T.n8
  | 8, h => exact fun g e => Option.some.inj h ▸ Option.some.inj e ▸ T.n9
  | 9, h => exact fun g e => Option.some.inj h ▸ Option.some.inj e ▸ T.n10
  | 10, h => exact fun g e => Option.some.inj h ▸ Option.some.inj e ▸ T.n11
  | 11, h => exact fun g e => nomatch e
  | 12, h => exact fun g e => Option.some.inj h ▸ Option.some.inj e ▸ T.n13
  | (n + 13), h => exact nomatch h
theorem ok_class {f : Addr} {fd : FuncData} (F : Fun K "_law_class" "_law_class" sClass f fd) (T : T78 P K mg C1 C2 C3 C4 C5 C6 C7 C8 C9 C10 C11 C12 C13 C14 f1 f2 f3 f4 f5 f8 f9 f10 f11 f13) : FnOk P w K mg base CX0 1 f fd ["error"] (spClass [C1, C2, C3, C4, C5, C6, C7, C8, C9, C10, C11, C12, C13]) := by
  refine F.ok scClass (fun vs H Q E h => ?_) (fun cdv A outer s H vs Q E hr h => ?_)
  · obtain ⟨a, C, dd, i, nm, q, rfl, _⟩ := h
    rfl
  · obtain ⟨a, C, dd, i, nm, q, rfl, i2, hnm, hi, ha, hd, hf, k⟩ := h
    have i5 := T.ec C (List.mem_of_getElem? i2)
    refine ⟨_, pss_cons (ps_set (i := 1) scClass.nd rfl (Or.inl rfl) (pe_lst (pa_cons (pe_tup (pa_cons pe_str (pa_cons (pe_callB call_isX (by rfl) T.isi (by decide +kernel) (pa_cons (pv 0) (pa_cons (pe_glob (v := .ref C1) rfl T.x1.gC rfl) pa_nil))) pa_nil))) (pa_cons (pe_tup (pa_cons pe_str (pa_cons (pe_callB call_isX (by rfl) T.isi (by decide +kernel) (pa_cons (pv 0) (pa_cons (pe_glob (v := .ref C2) rfl T.x2.gC rfl) pa_nil))) pa_nil))) pa_nil))))
      (pss_cons (ps_set (i := 1) scClass.nd rfl (Or.inl rfl) (pe_op op_cat (pv 1) (pe_lst (pa_cons (pe_tup (pa_cons pe_str (pa_cons (pe_callB call_isX (by rfl) T.isi (by decide +kernel) (pa_cons (pv 0) (pa_cons (pe_glob (v := .ref C3) rfl T.x3.gC rfl) pa_nil))) pa_nil))) (pa_cons (pe_tup (pa_cons pe_str (pa_cons (pe_callB call_isX (by rfl) T.isi (by decide +kernel) (pa_cons (pv 0) (pa_cons (pe_glob (v := .ref C4) rfl T.x4.gC rfl) pa_nil))) pa_nil))) pa_nil)))))
      (pss_cons (ps_set (i := 1) scClass.nd rfl (Or.inl rfl) (pe_op op_cat (pv 1) (pe_lst (pa_cons (pe_tup (pa_cons pe_str (pa_cons (pe_callB call_isX (by rfl) T.isi (by decide +kernel) (pa_cons (pv 0) (pa_cons (pe_glob (v := .ref C5) rfl T.x5.gC rfl) pa_nil))) pa_nil))) (pa_cons (pe_tup (pa_cons pe_str (pa_cons (pe_callB call_isX (by rfl) T.isi (by decide +kernel) (pa_cons (pv 0) (pa_cons (pe_glob (v := .ref C6) rfl T.g6 rfl) pa_nil))) pa_nil))) pa_nil)))))
      (pss_cons (ps_set (i := 1) scClass.nd rfl (Or.inl rfl) (pe_op op_cat (pv 1) (pe_lst (pa_cons (pe_tup (pa_cons pe_str (pa_cons (pe_callB call_isX (by rfl) T.isi (by decide +kernel) (pa_cons (pv 0) (pa_cons (pe_glob (v := .ref C7) rfl T.g7 rfl) pa_nil))) pa_nil))) (pa_cons (pe_tup (pa_cons pe_str (pa_cons (pe_callB call_isX (by rfl) T.isi (by decide +kernel) (pa_cons (pv 0) (pa_cons (pe_glob (v := .ref C8) rfl T.x8.gC rfl) pa_nil))) pa_nil))) pa_nil)))))
      (pss_cons (ps_set (i := 1) scClass.nd rfl (Or.inl rfl) (pe_op op_cat (pv 1) (pe_lst (pa_cons (pe_tup (pa_cons pe_str (pa_cons (pe_callB call_isX (by rfl) T.isi (by decide +kernel) (pa_cons (pv 0) (pa_cons (pe_glob (v := .ref C9) rfl T.x9.gC rfl) pa_nil))) pa_nil))) (pa_cons (pe_tup (pa_cons pe_str (pa_cons (pe_callB call_isX (by rfl) T.isi (by decide +kernel) (pa_cons (pv 0) (pa_cons (pe_glob (v := .ref C10) rfl T.x10.gC rfl) pa_nil))) pa_nil))) pa_nil)))))
      (pss_cons (ps_set (i := 1) scClass.nd rfl (Or.inl rfl) (pe_op op_cat (pv 1) (pe_lst (pa_cons (pe_tup (pa_cons pe_str (pa_cons (pe_callB call_isX (by rfl) T.isi (by decide +kernel) (pa_cons (pv 0) (pa_cons (pe_glob (v := .ref C11) rfl T.x11.gC rfl) pa_nil))) pa_nil))) (pa_cons (pe_tup (pa_cons pe_str (pa_cons (pe_callB call_isX (by rfl) T.isi (by decide +kernel) (pa_cons (pv 0) (pa_cons (pe_glob (v := .ref C12) rfl T.g12 rfl) pa_nil))) pa_nil))) pa_nil)))))
      (pss_cons (ps_expr (pe_bm PySem.F.plainAttrs_list PySem.F.slot_list_append PySem.F.type_list_append mt_append (pv 1) (pa_cons (pe_tup (pa_cons pe_str (pa_cons (pe_callB call_isX (by rfl) T.isi (by decide +kernel) (pa_cons (pv 0) (pa_cons (pe_glob (v := .ref C13) rfl T.x13.gC rfl) pa_nil))) pa_nil))) pa_nil)))
      (pss_cons (ps_setLc (i := 2) (own := [("word", 3), ("holds", 4)]) (g := gTup K 2 (gCons (gName 3) (gCons (gName 4) gNil))) (tt := _) rfl scClass.nd rfl rfl (sw_true rfl rfl rfl (by decide +kernel)) (pi_list (pv 1)) (blkOk_by (own := [("word", 3), ("holds", 4)]) (N := ["error", "rows", "words", "word", "holds"]) (sc := defScope sClass) (by decide +kernel))
          (fun _ _ _ _ _ => pg_tup rfl (pgs_cons (pg_name (i := 3) scClass.nd rfl (Or.inl rfl)) (pgs_cons (pg_name (i := 4) scClass.nd rfl (Or.inl rfl)) pgs_nil))) (fun _ _ _ _ _ => pts_one (pt_val (pv 4))) (fun _ _ _ _ _ => pv 3))
      (pss_cons (ps_if (pt_cmpR op_ne (pe_callB call_len_seq (by rfl) T.len PySem.boot_len (pa_cons (pv 2) pa_nil)) pe_int (nomark _)) (pss_one (ps_ret (pe_tup (pa_cons pe_str pa_nil)))) pss_nil)
      (pss_cons (ps_if (pt_cmpR op_in_seq (pe_ix ix_list (pv 2) pe_int (fun _ _ => rfl)) (pe_tup (pa_cons pe_str (pa_cons pe_str (pa_cons pe_str (pa_cons pe_str (pa_cons pe_str pa_nil)))))) (by rfl)) (pss_one (ps_ret (pe_tup (pa_cons (pe_ix ix_list (pv 2) pe_int (fun _ _ => rfl)) (pa_cons (pe_xfld (pv 0)) pa_nil))))) pss_nil)
      (pss_cons (ps_if (pt_cmpR op_in_seq (pe_ix ix_list (pv 2) pe_int (fun _ _ => rfl)) (pe_tup (pa_cons pe_str (pa_cons pe_str (pa_cons pe_str (pa_cons pe_str pa_nil))))) (by rfl)) (pss_one (ps_ret (pe_tup (pa_cons (pe_ix ix_list (pv 2) pe_int (fun _ _ => rfl)) (pa_cons (pe_xfld (pv 0)) pa_nil))))) pss_nil)
      (pss_one (ps_ret (pe_ifExp (pt_cmpR op_eq (pe_ix ix_list (pv 2) pe_int (fun _ _ => rfl)) pe_str (nomark _)) (pe_tup (pa_cons (pe_ix ix_list (pv 2) pe_int (fun _ _ => rfl)) (pa_cons (pe_xfld (pv 0)) pa_nil))) (pe_tup (pa_cons (pe_ix ix_list (pv 2) pe_int (fun _ _ => rfl)) pa_nil))))))))))))))), ?_⟩
    have at_ : ∀ {H'}, Same H H' → H' a = some (exo a C dd) ∧ (dd = none ∨ ∃ dx fs, dd = some dx ∧ H' dx = some (exd dx fs)) := fun {H'} s => ⟨s _ _ ha, hd.imp id fun ⟨dx, fs, h1, h2⟩ => ⟨dx, fs, h1, s _ _ h2⟩⟩
    refine ⟨_, rfl, a, C, dd, .ref C1, .ref C1, _, rfl, (at_ (Same.refl _)).1, (at_ (Same.refl _)).2, .own _, i5, T.own i 0 C C1 i2 rfl, by show 2 ≤ sizeLine; decide, fun t1 n1 => ?_⟩
    have s1 : Same H (upd H t1 (.tup [.str "BadColours", .bl (decide (((0 : Nat) : Int) = (i : Int)))])) := (same_new n1)
    have l1 : Same H (upd H t1 (.tup [.str "BadColours", .bl (decide (((0 : Nat) : Int) = (i : Int)))])) := same_new n1
    have v1 : (upd H t1 (.tup [.str "BadColours", .bl (decide (((0 : Nat) : Int) = (i : Int)))])) t1 = some (.tup [.str "BadColours", .bl (decide (((0 : Nat) : Int) = (i : Int)))]) := upd_same
    clear n1
    generalize upd H t1 (.tup [.str "BadColours", .bl (decide (((0 : Nat) : Int) = (i : Int)))]) = R1 at *
    refine ⟨_, rfl, a, C, dd, .ref C2, .ref C2, _, rfl, (at_ s1).1, (at_ s1).2, .own _, i5, T.own i 1 C C2 i2 rfl, by show 2 ≤ sizeLine; decide, fun t2 n2 => ?_⟩
    have s2 : Same H (upd R1 t2 (.tup [.str "BadTies", .bl (decide (((1 : Nat) : Int) = (i : Int)))])) := s1.trans (same_new n2)
    have l2 : Same R1 (upd R1 t2 (.tup [.str "BadTies", .bl (decide (((1 : Nat) : Int) = (i : Int)))])) := same_new n2
    have v2 : (upd R1 t2 (.tup [.str "BadTies", .bl (decide (((1 : Nat) : Int) = (i : Int)))])) t2 = some (.tup [.str "BadTies", .bl (decide (((1 : Nat) : Int) = (i : Int)))]) := upd_same
    clear n2
    generalize upd R1 t2 (.tup [.str "BadTies", .bl (decide (((1 : Nat) : Int) = (i : Int)))]) = R2 at *
    replace v1 := l2 _ _ v1
    refine ⟨by show 2 ≤ sizeLine; decide, fun d0 nd0 => ?_⟩
    have sd0 : Same H (upd R2 d0 (.lst [.ref t1, .ref t2])) := s2.trans (same_new nd0)
    have ld0 : Same R2 (upd R2 d0 (.lst [.ref t1, .ref t2])) := same_new nd0
    have vl : (upd R2 d0 (.lst [.ref t1, .ref t2])) d0 = some (.lst [.ref t1, .ref t2]) := upd_same
    have fd0 : H d0 = none := s2.free nd0
    clear nd0
    generalize upd R2 d0 (.lst [.ref t1, .ref t2]) = S0 at *
    replace v1 := ld0 _ _ v1
    replace v2 := ld0 _ _ v2
    refine ⟨_, rfl, ?_⟩
    refine ⟨_, rfl, a, C, dd, .ref C3, .ref C3, _, rfl, (at_ sd0).1, (at_ sd0).2, .own _, i5, T.own i 2 C C3 i2 rfl, by show 2 ≤ sizeLine; decide, fun t3 n3 => ?_⟩
    have s3 : Same H (upd S0 t3 (.tup [.str "BadPlace", .bl (decide (((2 : Nat) : Int) = (i : Int)))])) := sd0.trans (same_new n3)
    have l3 : Same S0 (upd S0 t3 (.tup [.str "BadPlace", .bl (decide (((2 : Nat) : Int) = (i : Int)))])) := same_new n3
    have v3 : (upd S0 t3 (.tup [.str "BadPlace", .bl (decide (((2 : Nat) : Int) = (i : Int)))])) t3 = some (.tup [.str "BadPlace", .bl (decide (((2 : Nat) : Int) = (i : Int)))]) := upd_same
    clear n3
    generalize upd S0 t3 (.tup [.str "BadPlace", .bl (decide (((2 : Nat) : Int) = (i : Int)))]) = R3 at *
    replace v1 := l3 _ _ v1
    replace v2 := l3 _ _ v2
    replace vl := l3 _ _ vl
    refine ⟨_, rfl, a, C, dd, .ref C4, .ref C4, _, rfl, (at_ s3).1, (at_ s3).2, .own _, i5, T.own i 3 C C4 i2 rfl, by show 2 ≤ sizeLine; decide, fun t4 n4 => ?_⟩
    have s4 : Same H (upd R3 t4 (.tup [.str "BadNumber", .bl (decide (((3 : Nat) : Int) = (i : Int)))])) := s3.trans (same_new n4)
    have l4 : Same R3 (upd R3 t4 (.tup [.str "BadNumber", .bl (decide (((3 : Nat) : Int) = (i : Int)))])) := same_new n4
    have v4 : (upd R3 t4 (.tup [.str "BadNumber", .bl (decide (((3 : Nat) : Int) = (i : Int)))])) t4 = some (.tup [.str "BadNumber", .bl (decide (((3 : Nat) : Int) = (i : Int)))]) := upd_same
    clear n4
    generalize upd R3 t4 (.tup [.str "BadNumber", .bl (decide (((3 : Nat) : Int) = (i : Int)))]) = R4 at *
    replace v1 := l4 _ _ v1
    replace v2 := l4 _ _ v2
    replace v3 := l4 _ _ v3
    replace vl := l4 _ _ vl
    refine ⟨by show 2 ≤ sizeLine; decide, fun d1 nd1 => ?_⟩
    refine ⟨d0, d1, [.ref t1, .ref t2], [.ref t3, .ref t4], rfl, rfl, same_new nd1 _ _ vl, upd_same, (by show 4 ≤ sizeLine; decide), fun e1 ne1 => ?_⟩
    have ld1 : Same R4 (upd (upd R4 d1 (.lst [.ref t3, .ref t4])) e1 (.lst ([.ref t1, .ref t2] ++ [.ref t3, .ref t4]))) := (same_new nd1).trans (same_new ne1)
    have sd1 : Same H (upd (upd R4 d1 (.lst [.ref t3, .ref t4])) e1 (.lst ([.ref t1, .ref t2] ++ [.ref t3, .ref t4]))) := s4.trans ld1
    have fe1 : H e1 = none := (s4.trans (same_new nd1)).free ne1
    clear vl
    have vl : (upd (upd R4 d1 (.lst [.ref t3, .ref t4])) e1 (.lst ([.ref t1, .ref t2] ++ [.ref t3, .ref t4]))) e1 = some (.lst [.ref t1, .ref t2, .ref t3, .ref t4]) := upd_same
    clear nd1 ne1
    generalize upd (upd R4 d1 (.lst [.ref t3, .ref t4])) e1 (.lst ([.ref t1, .ref t2] ++ [.ref t3, .ref t4])) = S1 at *
    replace v1 := ld1 _ _ v1
    replace v2 := ld1 _ _ v2
    replace v3 := ld1 _ _ v3
    replace v4 := ld1 _ _ v4
    refine ⟨_, rfl, ?_⟩
    refine ⟨_, rfl, a, C, dd, .ref C5, .ref C5, _, rfl, (at_ sd1).1, (at_ sd1).2, .own _, i5, T.own i 4 C C5 i2 rfl, by show 2 ≤ sizeLine; decide, fun t5 n5 => ?_⟩
    have s5 : Same H (upd S1 t5 (.tup [.str "BadOrder", .bl (decide (((4 : Nat) : Int) = (i : Int)))])) := sd1.trans (same_new n5)
    have l5 : Same S1 (upd S1 t5 (.tup [.str "BadOrder", .bl (decide (((4 : Nat) : Int) = (i : Int)))])) := same_new n5
    have v5 : (upd S1 t5 (.tup [.str "BadOrder", .bl (decide (((4 : Nat) : Int) = (i : Int)))])) t5 = some (.tup [.str "BadOrder", .bl (decide (((4 : Nat) : Int) = (i : Int)))]) := upd_same
    clear n5
    generalize upd S1 t5 (.tup [.str "BadOrder", .bl (decide (((4 : Nat) : Int) = (i : Int)))]) = R5 at *
    replace v1 := l5 _ _ v1
    replace v2 := l5 _ _ v2
    replace v3 := l5 _ _ v3
    replace v4 := l5 _ _ v4
    replace vl := l5 _ _ vl
    refine ⟨_, rfl, a, C, dd, .ref C6, .ref C6, _, rfl, (at_ s5).1, (at_ s5).2, .own _, i5, T.own i 5 C C6 i2 rfl, by show 2 ≤ sizeLine; decide, fun t6 n6 => ?_⟩
    have s6 : Same H (upd R5 t6 (.tup [.str "Unlike", .bl (decide (((5 : Nat) : Int) = (i : Int)))])) := s5.trans (same_new n6)
    have l6 : Same R5 (upd R5 t6 (.tup [.str "Unlike", .bl (decide (((5 : Nat) : Int) = (i : Int)))])) := same_new n6
    have v6 : (upd R5 t6 (.tup [.str "Unlike", .bl (decide (((5 : Nat) : Int) = (i : Int)))])) t6 = some (.tup [.str "Unlike", .bl (decide (((5 : Nat) : Int) = (i : Int)))]) := upd_same
    clear n6
    generalize upd R5 t6 (.tup [.str "Unlike", .bl (decide (((5 : Nat) : Int) = (i : Int)))]) = R6 at *
    replace v1 := l6 _ _ v1
    replace v2 := l6 _ _ v2
    replace v3 := l6 _ _ v3
    replace v4 := l6 _ _ v4
    replace v5 := l6 _ _ v5
    replace vl := l6 _ _ vl
    refine ⟨by show 2 ≤ sizeLine; decide, fun d2 nd2 => ?_⟩
    refine ⟨e1, d2, [.ref t1, .ref t2, .ref t3, .ref t4], [.ref t5, .ref t6], rfl, rfl, same_new nd2 _ _ vl, upd_same, (by show 6 ≤ sizeLine; decide), fun e2 ne2 => ?_⟩
    have ld2 : Same R6 (upd (upd R6 d2 (.lst [.ref t5, .ref t6])) e2 (.lst ([.ref t1, .ref t2, .ref t3, .ref t4] ++ [.ref t5, .ref t6]))) := (same_new nd2).trans (same_new ne2)
    have sd2 : Same H (upd (upd R6 d2 (.lst [.ref t5, .ref t6])) e2 (.lst ([.ref t1, .ref t2, .ref t3, .ref t4] ++ [.ref t5, .ref t6]))) := s6.trans ld2
    have fe2 : H e2 = none := (s6.trans (same_new nd2)).free ne2
    clear vl
    have vl : (upd (upd R6 d2 (.lst [.ref t5, .ref t6])) e2 (.lst ([.ref t1, .ref t2, .ref t3, .ref t4] ++ [.ref t5, .ref t6]))) e2 = some (.lst [.ref t1, .ref t2, .ref t3, .ref t4, .ref t5, .ref t6]) := upd_same
    clear nd2 ne2
    generalize upd (upd R6 d2 (.lst [.ref t5, .ref t6])) e2 (.lst ([.ref t1, .ref t2, .ref t3, .ref t4] ++ [.ref t5, .ref t6])) = S2 at *
    replace v1 := ld2 _ _ v1
    replace v2 := ld2 _ _ v2
    replace v3 := ld2 _ _ v3
    replace v4 := ld2 _ _ v4
    replace v5 := ld2 _ _ v5
    replace v6 := ld2 _ _ v6
    refine ⟨_, rfl, ?_⟩
    refine ⟨_, rfl, a, C, dd, .ref C7, .ref C7, _, rfl, (at_ sd2).1, (at_ sd2).2, .own _, i5, T.own i 6 C C7 i2 rfl, by show 2 ≤ sizeLine; decide, fun t7 n7 => ?_⟩
    have s7 : Same H (upd S2 t7 (.tup [.str "Apart", .bl (decide (((6 : Nat) : Int) = (i : Int)))])) := sd2.trans (same_new n7)
    have l7 : Same S2 (upd S2 t7 (.tup [.str "Apart", .bl (decide (((6 : Nat) : Int) = (i : Int)))])) := same_new n7
    have v7 : (upd S2 t7 (.tup [.str "Apart", .bl (decide (((6 : Nat) : Int) = (i : Int)))])) t7 = some (.tup [.str "Apart", .bl (decide (((6 : Nat) : Int) = (i : Int)))]) := upd_same
    clear n7
    generalize upd S2 t7 (.tup [.str "Apart", .bl (decide (((6 : Nat) : Int) = (i : Int)))]) = R7 at *
    replace v1 := l7 _ _ v1
    replace v2 := l7 _ _ v2
    replace v3 := l7 _ _ v3
    replace v4 := l7 _ _ v4
    replace v5 := l7 _ _ v5
    replace v6 := l7 _ _ v6
    replace vl := l7 _ _ vl
    refine ⟨_, rfl, a, C, dd, .ref C8, .ref C8, _, rfl, (at_ s7).1, (at_ s7).2, .own _, i5, T.own i 7 C C8 i2 rfl, by show 2 ≤ sizeLine; decide, fun t8 n8 => ?_⟩
    have s8 : Same H (upd R7 t8 (.tup [.str "BadFolding", .bl (decide (((7 : Nat) : Int) = (i : Int)))])) := s7.trans (same_new n8)
    have l8 : Same R7 (upd R7 t8 (.tup [.str "BadFolding", .bl (decide (((7 : Nat) : Int) = (i : Int)))])) := same_new n8
    have v8 : (upd R7 t8 (.tup [.str "BadFolding", .bl (decide (((7 : Nat) : Int) = (i : Int)))])) t8 = some (.tup [.str "BadFolding", .bl (decide (((7 : Nat) : Int) = (i : Int)))]) := upd_same
    clear n8
    generalize upd R7 t8 (.tup [.str "BadFolding", .bl (decide (((7 : Nat) : Int) = (i : Int)))]) = R8 at *
    replace v1 := l8 _ _ v1
    replace v2 := l8 _ _ v2
    replace v3 := l8 _ _ v3
    replace v4 := l8 _ _ v4
    replace v5 := l8 _ _ v5
    replace v6 := l8 _ _ v6
    replace v7 := l8 _ _ v7
    replace vl := l8 _ _ vl
    refine ⟨by show 2 ≤ sizeLine; decide, fun d3 nd3 => ?_⟩
    refine ⟨e2, d3, [.ref t1, .ref t2, .ref t3, .ref t4, .ref t5, .ref t6], [.ref t7, .ref t8], rfl, rfl, same_new nd3 _ _ vl, upd_same, (by show 8 ≤ sizeLine; decide), fun e3 ne3 => ?_⟩
    have ld3 : Same R8 (upd (upd R8 d3 (.lst [.ref t7, .ref t8])) e3 (.lst ([.ref t1, .ref t2, .ref t3, .ref t4, .ref t5, .ref t6] ++ [.ref t7, .ref t8]))) := (same_new nd3).trans (same_new ne3)
    have sd3 : Same H (upd (upd R8 d3 (.lst [.ref t7, .ref t8])) e3 (.lst ([.ref t1, .ref t2, .ref t3, .ref t4, .ref t5, .ref t6] ++ [.ref t7, .ref t8]))) := s8.trans ld3
    have fe3 : H e3 = none := (s8.trans (same_new nd3)).free ne3
    clear vl
    have vl : (upd (upd R8 d3 (.lst [.ref t7, .ref t8])) e3 (.lst ([.ref t1, .ref t2, .ref t3, .ref t4, .ref t5, .ref t6] ++ [.ref t7, .ref t8]))) e3 = some (.lst [.ref t1, .ref t2, .ref t3, .ref t4, .ref t5, .ref t6, .ref t7, .ref t8]) := upd_same
    clear nd3 ne3
    generalize upd (upd R8 d3 (.lst [.ref t7, .ref t8])) e3 (.lst ([.ref t1, .ref t2, .ref t3, .ref t4, .ref t5, .ref t6] ++ [.ref t7, .ref t8])) = S3 at *
    replace v1 := ld3 _ _ v1
    replace v2 := ld3 _ _ v2
    replace v3 := ld3 _ _ v3
    replace v4 := ld3 _ _ v4
    replace v5 := ld3 _ _ v5
    replace v6 := ld3 _ _ v6
    replace v7 := ld3 _ _ v7
    replace v8 := ld3 _ _ v8
    refine ⟨_, rfl, ?_⟩
    refine ⟨_, rfl, a, C, dd, .ref C9, .ref C9, _, rfl, (at_ sd3).1, (at_ sd3).2, .own _, i5, T.own i 8 C C9 i2 rfl, by show 2 ≤ sizeLine; decide, fun t9 n9 => ?_⟩
    have s9 : Same H (upd S3 t9 (.tup [.str "BadOrders", .bl (decide (((8 : Nat) : Int) = (i : Int)))])) := sd3.trans (same_new n9)
    have l9 : Same S3 (upd S3 t9 (.tup [.str "BadOrders", .bl (decide (((8 : Nat) : Int) = (i : Int)))])) := same_new n9
    have v9 : (upd S3 t9 (.tup [.str "BadOrders", .bl (decide (((8 : Nat) : Int) = (i : Int)))])) t9 = some (.tup [.str "BadOrders", .bl (decide (((8 : Nat) : Int) = (i : Int)))]) := upd_same
    clear n9
    generalize upd S3 t9 (.tup [.str "BadOrders", .bl (decide (((8 : Nat) : Int) = (i : Int)))]) = R9 at *
    replace v1 := l9 _ _ v1
    replace v2 := l9 _ _ v2
    replace v3 := l9 _ _ v3
    replace v4 := l9 _ _ v4
    replace v5 := l9 _ _ v5
    replace v6 := l9 _ _ v6
    replace v7 := l9 _ _ v7
    replace v8 := l9 _ _ v8
    replace vl := l9 _ _ vl
    refine ⟨_, rfl, a, C, dd, .ref C10, .ref C10, _, rfl, (at_ s9).1, (at_ s9).2, .own _, i5, T.own i 9 C C10 i2 rfl, by show 2 ≤ sizeLine; decide, fun t10 n10 => ?_⟩
    have s10 : Same H (upd R9 t10 (.tup [.str "BadText", .bl (decide (((9 : Nat) : Int) = (i : Int)))])) := s9.trans (same_new n10)
    have l10 : Same R9 (upd R9 t10 (.tup [.str "BadText", .bl (decide (((9 : Nat) : Int) = (i : Int)))])) := same_new n10
    have v10 : (upd R9 t10 (.tup [.str "BadText", .bl (decide (((9 : Nat) : Int) = (i : Int)))])) t10 = some (.tup [.str "BadText", .bl (decide (((9 : Nat) : Int) = (i : Int)))]) := upd_same
    clear n10
    generalize upd R9 t10 (.tup [.str "BadText", .bl (decide (((9 : Nat) : Int) = (i : Int)))]) = R10 at *
    replace v1 := l10 _ _ v1
    replace v2 := l10 _ _ v2
    replace v3 := l10 _ _ v3
    replace v4 := l10 _ _ v4
    replace v5 := l10 _ _ v5
    replace v6 := l10 _ _ v6
    replace v7 := l10 _ _ v7
    replace v8 := l10 _ _ v8
    replace v9 := l10 _ _ v9
    replace vl := l10 _ _ vl
    refine ⟨by show 2 ≤ sizeLine; decide, fun d4 nd4 => ?_⟩
    refine ⟨e3, d4, [.ref t1, .ref t2, .ref t3, .ref t4, .ref t5, .ref t6, .ref t7, .ref t8], [.ref t9, .ref t10], rfl, rfl, same_new nd4 _ _ vl, upd_same, (by show 10 ≤ sizeLine; decide), fun e4 ne4 => ?_⟩
    have ld4 : Same R10 (upd (upd R10 d4 (.lst [.ref t9, .ref t10])) e4 (.lst ([.ref t1, .ref t2, .ref t3, .ref t4, .ref t5, .ref t6, .ref t7, .ref t8] ++ [.ref t9, .ref t10]))) := (same_new nd4).trans (same_new ne4)
    have sd4 : Same H (upd (upd R10 d4 (.lst [.ref t9, .ref t10])) e4 (.lst ([.ref t1, .ref t2, .ref t3, .ref t4, .ref t5, .ref t6, .ref t7, .ref t8] ++ [.ref t9, .ref t10]))) := s10.trans ld4
    have fe4 : H e4 = none := (s10.trans (same_new nd4)).free ne4
    clear vl
    have vl : (upd (upd R10 d4 (.lst [.ref t9, .ref t10])) e4 (.lst ([.ref t1, .ref t2, .ref t3, .ref t4, .ref t5, .ref t6, .ref t7, .ref t8] ++ [.ref t9, .ref t10]))) e4 = some (.lst [.ref t1, .ref t2, .ref t3, .ref t4, .ref t5, .ref t6, .ref t7, .ref t8, .ref t9, .ref t10]) := upd_same
    clear nd4 ne4
    generalize upd (upd R10 d4 (.lst [.ref t9, .ref t10])) e4 (.lst ([.ref t1, .ref t2, .ref t3, .ref t4, .ref t5, .ref t6, .ref t7, .ref t8] ++ [.ref t9, .ref t10])) = S4 at *
    replace v1 := ld4 _ _ v1
    replace v2 := ld4 _ _ v2
    replace v3 := ld4 _ _ v3
    replace v4 := ld4 _ _ v4
    replace v5 := ld4 _ _ v5
    replace v6 := ld4 _ _ v6
    replace v7 := ld4 _ _ v7
    replace v8 := ld4 _ _ v8
    replace v9 := ld4 _ _ v9
    replace v10 := ld4 _ _ v10
    refine ⟨_, rfl, ?_⟩
    refine ⟨_, rfl, a, C, dd, .ref C11, .ref C11, _, rfl, (at_ sd4).1, (at_ sd4).2, .own _, i5, T.own i 10 C C11 i2 rfl, by show 2 ≤ sizeLine; decide, fun t11 n11 => ?_⟩
    have s11 : Same H (upd S4 t11 (.tup [.str "BadDeed", .bl (decide (((10 : Nat) : Int) = (i : Int)))])) := sd4.trans (same_new n11)
    have l11 : Same S4 (upd S4 t11 (.tup [.str "BadDeed", .bl (decide (((10 : Nat) : Int) = (i : Int)))])) := same_new n11
    have v11 : (upd S4 t11 (.tup [.str "BadDeed", .bl (decide (((10 : Nat) : Int) = (i : Int)))])) t11 = some (.tup [.str "BadDeed", .bl (decide (((10 : Nat) : Int) = (i : Int)))]) := upd_same
    clear n11
    generalize upd S4 t11 (.tup [.str "BadDeed", .bl (decide (((10 : Nat) : Int) = (i : Int)))]) = R11 at *
    replace v1 := l11 _ _ v1
    replace v2 := l11 _ _ v2
    replace v3 := l11 _ _ v3
    replace v4 := l11 _ _ v4
    replace v5 := l11 _ _ v5
    replace v6 := l11 _ _ v6
    replace v7 := l11 _ _ v7
    replace v8 := l11 _ _ v8
    replace v9 := l11 _ _ v9
    replace v10 := l11 _ _ v10
    replace vl := l11 _ _ vl
    refine ⟨_, rfl, a, C, dd, .ref C12, .ref C12, _, rfl, (at_ s11).1, (at_ s11).2, .own _, i5, T.own i 11 C C12 i2 rfl, by show 2 ≤ sizeLine; decide, fun t12 n12 => ?_⟩
    have s12 : Same H (upd R11 t12 (.tup [.str "NothingLeft", .bl (decide (((11 : Nat) : Int) = (i : Int)))])) := s11.trans (same_new n12)
    have l12 : Same R11 (upd R11 t12 (.tup [.str "NothingLeft", .bl (decide (((11 : Nat) : Int) = (i : Int)))])) := same_new n12
    have v12 : (upd R11 t12 (.tup [.str "NothingLeft", .bl (decide (((11 : Nat) : Int) = (i : Int)))])) t12 = some (.tup [.str "NothingLeft", .bl (decide (((11 : Nat) : Int) = (i : Int)))]) := upd_same
    clear n12
    generalize upd R11 t12 (.tup [.str "NothingLeft", .bl (decide (((11 : Nat) : Int) = (i : Int)))]) = R12 at *
    replace v1 := l12 _ _ v1
    replace v2 := l12 _ _ v2
    replace v3 := l12 _ _ v3
    replace v4 := l12 _ _ v4
    replace v5 := l12 _ _ v5
    replace v6 := l12 _ _ v6
    replace v7 := l12 _ _ v7
    replace v8 := l12 _ _ v8
    replace v9 := l12 _ _ v9
    replace v10 := l12 _ _ v10
    replace v11 := l12 _ _ v11
    replace vl := l12 _ _ vl
    refine ⟨by show 2 ≤ sizeLine; decide, fun d5 nd5 => ?_⟩
    refine ⟨e4, d5, [.ref t1, .ref t2, .ref t3, .ref t4, .ref t5, .ref t6, .ref t7, .ref t8, .ref t9, .ref t10], [.ref t11, .ref t12], rfl, rfl, same_new nd5 _ _ vl, upd_same, (by show 12 ≤ sizeLine; decide), fun e5 ne5 => ?_⟩
    have ld5 : Same R12 (upd (upd R12 d5 (.lst [.ref t11, .ref t12])) e5 (.lst ([.ref t1, .ref t2, .ref t3, .ref t4, .ref t5, .ref t6, .ref t7, .ref t8, .ref t9, .ref t10] ++ [.ref t11, .ref t12]))) := (same_new nd5).trans (same_new ne5)
    have sd5 : Same H (upd (upd R12 d5 (.lst [.ref t11, .ref t12])) e5 (.lst ([.ref t1, .ref t2, .ref t3, .ref t4, .ref t5, .ref t6, .ref t7, .ref t8, .ref t9, .ref t10] ++ [.ref t11, .ref t12]))) := s12.trans ld5
    have fe5 : H e5 = none := (s12.trans (same_new nd5)).free ne5
    clear vl
    have vl : (upd (upd R12 d5 (.lst [.ref t11, .ref t12])) e5 (.lst ([.ref t1, .ref t2, .ref t3, .ref t4, .ref t5, .ref t6, .ref t7, .ref t8, .ref t9, .ref t10] ++ [.ref t11, .ref t12]))) e5 = some (.lst [.ref t1, .ref t2, .ref t3, .ref t4, .ref t5, .ref t6, .ref t7, .ref t8, .ref t9, .ref t10, .ref t11, .ref t12]) := upd_same
    clear nd5 ne5
    generalize upd (upd R12 d5 (.lst [.ref t11, .ref t12])) e5 (.lst ([.ref t1, .ref t2, .ref t3, .ref t4, .ref t5, .ref t6, .ref t7, .ref t8, .ref t9, .ref t10] ++ [.ref t11, .ref t12])) = S5 at *
    replace v1 := ld5 _ _ v1
    replace v2 := ld5 _ _ v2
    replace v3 := ld5 _ _ v3
    replace v4 := ld5 _ _ v4
    replace v5 := ld5 _ _ v5
    replace v6 := ld5 _ _ v6
    replace v7 := ld5 _ _ v7
    replace v8 := ld5 _ _ v8
    replace v9 := ld5 _ _ v9
    replace v10 := ld5 _ _ v10
    replace v11 := ld5 _ _ v11
    replace v12 := ld5 _ _ v12
    refine ⟨_, rfl, .inl ⟨rfl, _, .inl (.inl vl)⟩, ?_⟩
    refine ⟨_, rfl, a, C, dd, .ref C13, .ref C13, _, rfl, (at_ sd5).1, (at_ sd5).2, .own _, i5, T.own i 12 C C13 i2 rfl, by show 2 ≤ sizeLine; decide, fun t13 n13 => ?_⟩
    have s13 : Same H (upd S5 t13 (.tup [.str "TooGreat", .bl (decide (((12 : Nat) : Int) = (i : Int)))])) := sd5.trans (same_new n13)
    have l13 : Same S5 (upd S5 t13 (.tup [.str "TooGreat", .bl (decide (((12 : Nat) : Int) = (i : Int)))])) := same_new n13
    have v13 : (upd S5 t13 (.tup [.str "TooGreat", .bl (decide (((12 : Nat) : Int) = (i : Int)))])) t13 = some (.tup [.str "TooGreat", .bl (decide (((12 : Nat) : Int) = (i : Int)))]) := upd_same
    clear n13
    generalize upd S5 t13 (.tup [.str "TooGreat", .bl (decide (((12 : Nat) : Int) = (i : Int)))]) = R13 at *
    replace v1 := l13 _ _ v1
    replace v2 := l13 _ _ v2
    replace v3 := l13 _ _ v3
    replace v4 := l13 _ _ v4
    replace v5 := l13 _ _ v5
    replace v6 := l13 _ _ v6
    replace v7 := l13 _ _ v7
    replace v8 := l13 _ _ v8
    replace v9 := l13 _ _ v9
    replace v10 := l13 _ _ v10
    replace v11 := l13 _ _ v11
    replace v12 := l13 _ _ v12
    replace vl := l13 _ _ vl
    refine ⟨e5, _, _, rfl, rfl, vl, (by show 12 < sizeLine; decide), ?_⟩
    have sE : Same H (upd R13 e5 (.lst ([.ref t1, .ref t2, .ref t3, .ref t4, .ref t5, .ref t6, .ref t7, .ref t8, .ref t9, .ref t10, .ref t11, .ref t12] ++ [.ref t13]))) := fun b o e => by rw [upd_ne (ne_of_none e fe5)]; exact s13 b o e
    have vE : (upd R13 e5 (.lst ([.ref t1, .ref t2, .ref t3, .ref t4, .ref t5, .ref t6, .ref t7, .ref t8, .ref t9, .ref t10, .ref t11, .ref t12] ++ [.ref t13]))) e5 = some (.lst ([t1, t2, t3, t4, t5, t6, t7, t8, t9, t10, t11, t12, t13].map V.ref)) := upd_same
    have u1 : (upd R13 e5 (.lst ([.ref t1, .ref t2, .ref t3, .ref t4, .ref t5, .ref t6, .ref t7, .ref t8, .ref t9, .ref t10, .ref t11, .ref t12] ++ [.ref t13]))) t1 = some (.tup [.str "BadColours", .bl (decide (((0 : Nat) : Int) = (i : Int)))]) := by rw [upd_ne (ne_of v1 vl (by intro z; cases z))]; exact v1
    have u2 : (upd R13 e5 (.lst ([.ref t1, .ref t2, .ref t3, .ref t4, .ref t5, .ref t6, .ref t7, .ref t8, .ref t9, .ref t10, .ref t11, .ref t12] ++ [.ref t13]))) t2 = some (.tup [.str "BadTies", .bl (decide (((1 : Nat) : Int) = (i : Int)))]) := by rw [upd_ne (ne_of v2 vl (by intro z; cases z))]; exact v2
    have u3 : (upd R13 e5 (.lst ([.ref t1, .ref t2, .ref t3, .ref t4, .ref t5, .ref t6, .ref t7, .ref t8, .ref t9, .ref t10, .ref t11, .ref t12] ++ [.ref t13]))) t3 = some (.tup [.str "BadPlace", .bl (decide (((2 : Nat) : Int) = (i : Int)))]) := by rw [upd_ne (ne_of v3 vl (by intro z; cases z))]; exact v3
    have u4 : (upd R13 e5 (.lst ([.ref t1, .ref t2, .ref t3, .ref t4, .ref t5, .ref t6, .ref t7, .ref t8, .ref t9, .ref t10, .ref t11, .ref t12] ++ [.ref t13]))) t4 = some (.tup [.str "BadNumber", .bl (decide (((3 : Nat) : Int) = (i : Int)))]) := by rw [upd_ne (ne_of v4 vl (by intro z; cases z))]; exact v4
    have u5 : (upd R13 e5 (.lst ([.ref t1, .ref t2, .ref t3, .ref t4, .ref t5, .ref t6, .ref t7, .ref t8, .ref t9, .ref t10, .ref t11, .ref t12] ++ [.ref t13]))) t5 = some (.tup [.str "BadOrder", .bl (decide (((4 : Nat) : Int) = (i : Int)))]) := by rw [upd_ne (ne_of v5 vl (by intro z; cases z))]; exact v5
    have u6 : (upd R13 e5 (.lst ([.ref t1, .ref t2, .ref t3, .ref t4, .ref t5, .ref t6, .ref t7, .ref t8, .ref t9, .ref t10, .ref t11, .ref t12] ++ [.ref t13]))) t6 = some (.tup [.str "Unlike", .bl (decide (((5 : Nat) : Int) = (i : Int)))]) := by rw [upd_ne (ne_of v6 vl (by intro z; cases z))]; exact v6
    have u7 : (upd R13 e5 (.lst ([.ref t1, .ref t2, .ref t3, .ref t4, .ref t5, .ref t6, .ref t7, .ref t8, .ref t9, .ref t10, .ref t11, .ref t12] ++ [.ref t13]))) t7 = some (.tup [.str "Apart", .bl (decide (((6 : Nat) : Int) = (i : Int)))]) := by rw [upd_ne (ne_of v7 vl (by intro z; cases z))]; exact v7
    have u8 : (upd R13 e5 (.lst ([.ref t1, .ref t2, .ref t3, .ref t4, .ref t5, .ref t6, .ref t7, .ref t8, .ref t9, .ref t10, .ref t11, .ref t12] ++ [.ref t13]))) t8 = some (.tup [.str "BadFolding", .bl (decide (((7 : Nat) : Int) = (i : Int)))]) := by rw [upd_ne (ne_of v8 vl (by intro z; cases z))]; exact v8
    have u9 : (upd R13 e5 (.lst ([.ref t1, .ref t2, .ref t3, .ref t4, .ref t5, .ref t6, .ref t7, .ref t8, .ref t9, .ref t10, .ref t11, .ref t12] ++ [.ref t13]))) t9 = some (.tup [.str "BadOrders", .bl (decide (((8 : Nat) : Int) = (i : Int)))]) := by rw [upd_ne (ne_of v9 vl (by intro z; cases z))]; exact v9
    have u10 : (upd R13 e5 (.lst ([.ref t1, .ref t2, .ref t3, .ref t4, .ref t5, .ref t6, .ref t7, .ref t8, .ref t9, .ref t10, .ref t11, .ref t12] ++ [.ref t13]))) t10 = some (.tup [.str "BadText", .bl (decide (((9 : Nat) : Int) = (i : Int)))]) := by rw [upd_ne (ne_of v10 vl (by intro z; cases z))]; exact v10
    have u11 : (upd R13 e5 (.lst ([.ref t1, .ref t2, .ref t3, .ref t4, .ref t5, .ref t6, .ref t7, .ref t8, .ref t9, .ref t10, .ref t11, .ref t12] ++ [.ref t13]))) t11 = some (.tup [.str "BadDeed", .bl (decide (((10 : Nat) : Int) = (i : Int)))]) := by rw [upd_ne (ne_of v11 vl (by intro z; cases z))]; exact v11
    have u12 : (upd R13 e5 (.lst ([.ref t1, .ref t2, .ref t3, .ref t4, .ref t5, .ref t6, .ref t7, .ref t8, .ref t9, .ref t10, .ref t11, .ref t12] ++ [.ref t13]))) t12 = some (.tup [.str "NothingLeft", .bl (decide (((11 : Nat) : Int) = (i : Int)))]) := by rw [upd_ne (ne_of v12 vl (by intro z; cases z))]; exact v12
    have u13 : (upd R13 e5 (.lst ([.ref t1, .ref t2, .ref t3, .ref t4, .ref t5, .ref t6, .ref t7, .ref t8, .ref t9, .ref t10, .ref t11, .ref t12] ++ [.ref t13]))) t13 = some (.tup [.str "TooGreat", .bl (decide (((12 : Nat) : Int) = (i : Int)))]) := by rw [upd_ne (ne_of v13 vl (by intro z; cases z))]; exact v13
    generalize upd R13 e5 (.lst ([.ref t1, .ref t2, .ref t3, .ref t4, .ref t5, .ref t6, .ref t7, .ref t8, .ref t9, .ref t10, .ref t11, .ref t12] ++ [.ref t13])) = W at *
    have ps : PairsAt W [t1, t2, t3, t4, t5, t6, t7, t8, t9, t10, t11, t12, t13] [("BadColours", decide (((0 : Nat) : Int) = (i : Int))), ("BadTies", decide (((1 : Nat) : Int) = (i : Int))), ("BadPlace", decide (((2 : Nat) : Int) = (i : Int))), ("BadNumber", decide (((3 : Nat) : Int) = (i : Int))), ("BadOrder", decide (((4 : Nat) : Int) = (i : Int))), ("Unlike", decide (((5 : Nat) : Int) = (i : Int))), ("Apart", decide (((6 : Nat) : Int) = (i : Int))), ("BadFolding", decide (((7 : Nat) : Int) = (i : Int))), ("BadOrders", decide (((8 : Nat) : Int) = (i : Int))), ("BadText", decide (((9 : Nat) : Int) = (i : Int))), ("BadDeed", decide (((10 : Nat) : Int) = (i : Int))), ("NothingLeft", decide (((11 : Nat) : Int) = (i : Int))), ("TooGreat", decide (((12 : Nat) : Int) = (i : Int)))] := ⟨u1, u2, u3, u4, u5, u6, u7, u8, u9, u10, u11, u12, u13, True.intro⟩
    clear v1 u1 l1 s1 v2 u2 l2 s2 v3 u3 l3 s3 v4 u4 l4 s4 v5 u5 l5 s5 v6 u6 l6 s6 v7 u7 l7 s7 v8 u8 l8 s8 v9 u9 l9 s9 v10 u10 l10 s10 v11 u11 l11 s11 v12 u12 l12 s12 v13 u13 l13 s13 ld0 sd0 ld1 sd1 ld2 sd2 ld3 sd3 ld4 sd4 ld5 sd5 vl
    exact class_rest (hno_of T i2) i5 hnm ha hf sE vE ps (fun v H h => h) k
end
end Vk

namespace L2
open PySem PySem.Spec PyProof.Rows
section
variable {X : Cx} {es : List Expr} {t : TA} {pos : Pos}
/-- [e, ..]: the new list is not the table of modules -/
def tLstS (t : TA) : TE := fun σ H Q => t σ H fun xs H1 => xs.length ≤ sizeLine ∧ ∀ p, H1 p = none → p ≠ sysModules → Q (.ref p) (upd H1 p (.lst xs))
theorem pe_lstS (h : PA X es t) : PE X (.List es pos) (tLstS t) := by
  refine ⟨fun pins s σ H Q I hq => ?_⟩
  refine wpAny_List_spliced (thn (h.run pos pins s σ H _ I hq) fun us s1 ⟨xs, H1, I1, r, z, q⟩ => ⟨by rw [← r.length]; exact z, ?_⟩)
  have hf : H1 s1.heap.objs.size = none := I1.hok.fresh (Nat.le_refl _)
  have ns : s1.heap.objs.size ≠ sysModules := by
    have l : mainGlobals < s1.heap.objs.size := (I1.mod.glob.keeps I1.bk).lt
    have l1 : sysModules < s1.heap.objs.size := Nat.lt_of_le_of_lt (by decide) l
    exact Nat.ne_of_gt l1
  refine ⟨.ref s1.heap.objs.size, upd H1 s1.heap.objs.size (.lst xs), I1.laid (t' := s1.toks) (fun b u e => Heap.get?_push_of_some _ e) (Nat.le_refl _) ?_, rfl, q _ hf ns⟩
  exact ⟨z, us, 0, r, Heap.get?_push_size _ rfl⟩
end
section
variable {X : Cx}
/-- repr(a list) -/
def rReprL (K : PySem.W.Frag) : List V → Hp → VK → Prop := fun xs H Q => ∃ (p : Addr) (ys : List V) (ds : List PyData), xs = [.ref p] ∧ H p = some (.lst ys) ∧ DqAll K H ys ds ∧ ((PyData.list ds).hasDict = true → p ≠ sysModules ∧ noListAll ds = true) ∧ (PyData.list ds).showable = true ∧ (PyData.list ds).depth ≤ 40 ∧ (PyData.list ds).shown.length ≤ sizeLine ∧ Q (.str (PyData.list ds).shown) H
theorem call_reprL (hG : X.A.guards = some []) (hu : X.A.units + 64 < cLine) : CallR X (.builtin "repr") (rReprL X.K) := by
  intro pins s σ H xs us Q I r h
  obtain ⟨p, ys, ds, rfl, hp, hd, hdl, hs, hdp, hz, q⟩ := h
  obtain ⟨u, rfl, ru⟩ := vals1 r
  obtain rfl : u = Value.ref p := ru
  obtain ⟨its, rv, pl, _⟩ := I.list (.inl (.inl hp))
  obtain ⟨o, n, ho, hc, _, hdd⟩ := pl
  obtain ⟨as, hr, hn⟩ := Dq.readsAll I ds _ its hd rv
  have fin : ∀ h' (t : Tok) (tk : Nat), (∀ b o, s.heap.get? b = some o → h'.get? b = some o) → EP X pins σ Q (.str (PyData.list ds).shown t) { s with heap := h', toks := tk } := fun h' t tk k => ⟨.str _, H, I.kept (t' := tk) k, ⟨t, rfl⟩, q⟩
  have same : ∀ b o, s.heap.get? b = some o → s.heap.get? b = some o := fun _ _ e => e
  refine repr_of_reads' (.list ho hc hdd hr) hs (fun z w => ?_) hG (by omega) same (fun h' t tk k => fin h' t tk k) hz
  obtain ⟨n1, n2⟩ := hdl z
  rcases List.mem_cons.mp w with w | w
  · exact n1 w.symm
  · exact hn n2 w
/-- [v] * 4, the new list not the table of modules -/
def rFour : R2 := fun x y H Q => ∃ l v, x = .ref l ∧ y = .int 4 ∧ H l = some (.lst [v]) ∧ ∀ p, H p = none → p ≠ sysModules → Q (.ref p) (upd H p (.lst [v, v, v, v]))
theorem op_four : OpR X (binaryOp .Mult) rFour := by
  intro pins s σ H x y v u Q I rx ry h
  obtain ⟨l, b, rfl, rfl, hH, q⟩ := h
  cases rx
  obtain ⟨t, rfl⟩ := ry
  obtain ⟨z, its, n, r, hl, e⟩ := I.lstM hH
  obtain ⟨u, rfl, ru⟩ := r.one
  refine wpAny_binaryOp_repeat_ref (T := "list") (U := "int") (by decide) ⟨_, e, rfl⟩ (fun s' => typeIs_int s' 4 t) noFill_list_mul F.fills_int_mul F.slot_int_rmul repeat_list F.slot_int_index.lookup
    (call_meets F.slot_int_rmul (typeIs_int s 4 t) F.entry_int_rmul (F.args_int_rmul_2 _ _) (int___rmul___int_list 4 t l #[u] n)
      ⟨e, rfl, ⟨_, e, rfl⟩, call_meets F.slot_list_mul ⟨_, e, rfl⟩ F.entry_list_mul (F.args_list_mul_2 _ _) (AutoListH.list___mul___list_int_3 l #[u] n 4 t (by decide) (by show ¬ 1 * 4 > (2 ^ 63 - 1) / 8; decide) (by show ¬ Builtin.List.listTooLong (1 * 4) = true; decide)) ⟨e, ?_⟩⟩)
  exact ⟨.ref _, _, I.lnew (t' := s.toks) (its := [u, u, u, u]) (.cons ru (.cons ru (.cons ru (.cons ru .nil)))) (by show 4 ≤ sizeLine; decide), rfl, q _ I.fresh (Nat.ne_of_gt I.big)⟩
end
end L2

namespace Vk
open PySem PySem.Spec PyProof.Rows L2 VkX
abbrev sLaw : Stmt := top 33
/-- what the top says besides -/
structure TL (K : PySem.W.Frag) (mg : Str → Option Value) (C1 C2 C3 C4 C5 C6 C7 C8 C9 C10 C11 C12 C13 C14 : Addr) : Prop where
  web : ∀ (i : Nat) (C : Addr), [C1, C2, C3, C4, C5, C6, C7, C8, C9, C10, C11, C12, C13][i]? = some C → PySem.W.kitOne K (.ref C) (.ref C14) = some (!decide (i = 12))
  val : ∀ (i : Nat) (C : Addr), [C1, C2, C3, C4, C5, C6, C7, C8, C9, C10, C11, C12, C13][i]? = some C → PySem.W.kitOne K (.ref C) (.type "ValueError") = some (!decide (i = 12))
  ovf : ∀ (i : Nat) (C : Addr), [C1, C2, C3, C4, C5, C6, C7, C8, C9, C10, C11, C12, C13][i]? = some C → PySem.W.kitOne K (.ref C) (.type "OverflowError") = some (decide (i = 12))
  rep : mg "repr" = none
  rng : mg "range" = none
  ve : mg "ValueError" = none
  oe : mg "OverflowError" = none
/-- the words of the law, in its order -/
def WD : List Str := ["BadColours", "BadTies", "BadOrders", "BadText", "BadDeed", "BadPlace", "BadNumber", "BadOrder", "BadFolding", "TooGreat", "Unlike", "Apart", "NothingLeft"]
/-- which class each is of -/
def PM : List Nat := [0, 1, 8, 9, 10, 2, 3, 4, 7, 12, 5, 6, 11]
/-- the n-th exception -/
def ItemAt (Cs : List Addr) (H : Hp) (q : V) (n : Nat) (a : Addr) : Prop := ∃ (C : Addr) (dd : Option Addr) (i : Nat), PM[n]? = some i ∧ Cs[i]? = some C ∧ H a = some (exo a C dd) ∧ (dd = none ∨ ∃ dx fs, dd = some dx ∧ H dx = some (exd dx fs)) ∧ ∀ f, fldOf i = some f → ∃ dx, dd = some dx ∧ H dx = some (exd dx [(f, q)])
theorem ItemAt.same {Cs : List Addr} {H H' : Hp} {q : V} {n : Nat} {a : Addr} (x : ItemAt Cs H q n a) (s : Same H H') : ItemAt Cs H' q n a := by
  obtain ⟨C, dd, i, h1, h2, h3, h4, h5⟩ := x
  exact ⟨C, dd, i, h1, h2, s _ _ h3, h4.imp id fun ⟨dx, fs, e1, e2⟩ => ⟨dx, fs, e1, s _ _ e2⟩, fun f e => let ⟨dx, e1, e2⟩ := h5 f e; ⟨dx, e1, s _ _ e2⟩⟩
theorem item_x {Cs : List Addr} {H : Hp} {q : V} {n i : Nat} {a C : Addr} {f : Str} (x : XAt H a C f q) (h1 : PM[n]? = some i) (h2 : Cs[i]? = some C) (hf : fldOf i = some f) : ItemAt Cs H q n a := by
  obtain ⟨dx, e1, e2⟩ := x
  refine ⟨C, some dx, i, h1, h2, e1, .inr ⟨dx, _, rfl, e2⟩, fun g hg => ⟨dx, rfl, ?_⟩⟩
  rw [hf] at hg
  cases hg
  exact e2
theorem item_0 {Cs : List Addr} {H : Hp} {q : V} {n i : Nat} {a C : Addr} (x : X0At H a C) (h1 : PM[n]? = some i) (h2 : Cs[i]? = some C) (hf : fldOf i = none) : ItemAt Cs H q n a :=
  ⟨C, none, i, h1, h2, x, .inl rfl, fun g hg => by rw [hf] at hg; cases hg⟩
/-- what repr asks of the drawn value, wherever it stands here -/
def okD (d : PyData) : Bool := !d.hasDict || noList d
def okS (d : PyData) : Bool := d.showable && decide (d.depth ≤ 40) && decide (d.shown.length ≤ sizeLine)
def okQ (d : PyData) : Bool := okD d && okS d && okS (.list [d, d, d, d]) && WD.all fun nm => okD (.tuple [.str nm, d]) && okS (.tuple [.str nm, d]) && okD (.tuple [.str nm]) && okS (.tuple [.str nm])
theorem okD_of {d : PyData} (h : okD d = true) : d.hasDict = true → noList d = true := fun e => by
  unfold okD at h
  rw [e] at h
  exact h
theorem okS_of {d : PyData} (h : okS d = true) : d.showable = true ∧ d.depth ≤ 40 ∧ d.shown.length ≤ sizeLine := by
  unfold okS at h
  rw [Bool.and_eq_true, Bool.and_eq_true] at h
  exact ⟨h.1.1, of_decide_eq_true h.1.2, of_decide_eq_true h.2⟩
/-- the drawn value: a datum as long as the three things stand -/
theorem menuQ (K : PySem.W.Frag) (t l d : Addr) {r : Int} (h0 : 0 ≤ r) (h1 : r < 8) :
    ∃ v e Ty, atI ([.non, .int 0, .int 7, .ref t, .str "x", .ref l, .ref d, .int (10 ^ (40 : Int).toNat)] : List V) r = some v ∧ okQ e = true ∧ Ty ∈ ["NoneType", "int", "str", "list", "tuple", "dict"] ∧
      ∀ H : Hp, H t = some (.tup [.int 1, .int 2]) → H l = some (.lst [.int 3]) → H d = some (.dK []) → Dq K H v e ∧ TyOf K H v (.type Ty) := by
  have c : r = 0 ∨ r = 1 ∨ r = 2 ∨ r = 3 ∨ r = 4 ∨ r = 5 ∨ r = 6 ∨ r = 7 := by omega
  rcases c with rfl | rfl | rfl | rfl | rfl | rfl | rfl | rfl
  · exact ⟨_, .none, "NoneType", rfl, by decide +kernel, by simp, fun H _ _ _ => ⟨.non, .non⟩⟩
  · exact ⟨_, .int 0, "int", rfl, by decide +kernel, by simp, fun H _ _ _ => ⟨.int _, .int _⟩⟩
  · exact ⟨_, .int 7, "int", rfl, by decide +kernel, by simp, fun H _ _ _ => ⟨.int _, .int _⟩⟩
  · exact ⟨_, .tuple [.int 1, .int 2], "tuple", rfl, by decide +kernel, by simp, fun H ht _ _ => ⟨.tup ht (.cons (.int _) (.cons (.int _) .nil)), .tup ht⟩⟩
  · exact ⟨_, .str "x", "str", rfl, by decide +kernel, by simp, fun H _ _ _ => ⟨.str _, .str _⟩⟩
  · exact ⟨_, .list [.int 3], "list", rfl, by decide +kernel, by simp, fun H _ hl _ => ⟨.lst hl (.cons (.int _) .nil), .lst hl⟩⟩
  · exact ⟨_, .dict [], "dict", rfl, by decide +kernel, by simp, fun H _ _ hd => ⟨.dic hd, .dK hd⟩⟩
  · exact ⟨_, .int (10 ^ (40 : Int).toNat), "int", rfl, by decide +kernel, by simp, fun H _ _ _ => ⟨.int _, .int _⟩⟩
/-- a web is made of lists or tuples that are right -/
def SqB (H : Hp) (c : Addr) (xs : List V) : Prop := H c = some (.lst xs) ∨ H c = some (.tup xs)
def spInitB (C : Addr) : Sp := fun vs H Q _ => ∃ (p dx c t : Addr) (cs : List Int) (rs : List Addr) (ts : List (Int × Int)), vs = [.ref p, .ref c, .ref t] ∧ H p = some (.ins C dx []) ∧ SqB H c (cs.map V.int) ∧ Cols cs ∧ SqB H t (rs.map V.ref) ∧ TiesAt H rs ts ∧ Ties (cs.length : Int) 0 0 ts ∧ ts.length ≤ 30000 ∧
  ∀ H', WebAt C H' p cs ts → (∀ b o, H b = some o → b ≠ p → H' b = some o) → Q .non H'
def spLaw (K : PySem.W.Frag) : Sp := fun vs H Q _ => ∃ (a : Addr) (ns : List Int), vs = [.ref a] ∧ SqL K H a (ns.map V.int) ∧ ns.length ≤ 63 ∧ ∀ H', Q (.bl true) H'
theorem scLaw : FnScope ["script", "m", "q", "some", "words", "n", "due", "told", "own", "odd"] ["script"] (defScope sLaw) := ⟨rfl, rfl, rfl, by decide +kernel, rfl, by decide +kernel, by decide +kernel⟩
theorem Dr.here {H : Hp} {a g : Addr} {n : Nat} (d : Dr H a g n) : (∃ o, H a = some o) ∧ ∃ o, H g = some o := by
  obtain ⟨c, cs, gs, h1, h2, h3, _⟩ := d.ex
  exact ⟨⟨_, h1⟩, ⟨_, h3⟩⟩
/-- what came after the drawing state stands behind a draw -/
theorem Dr.off {H0 H H' : Hp} {a g : Addr} {n : Nat} (d : Dr H0 a g n) (fr : ∀ b o, H b = some o → b ≠ a → b ≠ g → H' b = some o) {p : Addr} (np : H0 p = none) {o : HO} (e : H p = some o) : H' p = some o := by
  obtain ⟨⟨oa, ha⟩, ⟨og, hg⟩⟩ := d.here
  exact fr p o e (fun z => by rw [z, ha] at np; cases np) (fun z => by rw [z, hg] at np; cases np)
theorem tyOf_same {K : PySem.W.Frag} {H H' : Hp} (s : Same H H') {v : V} {t : Value} (h : TyOf K H v t) : TyOf K H' v t := by
  cases h with
  | non => exact .non
  | bl x => exact .bl x
  | int i => exact .int i
  | str x => exact .str x
  | flt x => exact .flt x
  | lst e => exact .lst (s _ _ e)
  | frz e => exact .frz (s _ _ e)
  | tup e => exact .tup (s _ _ e)
  | dK e => exact .dK (s _ _ e)
  | dT e => exact .dT (s _ _ e)
  | ins e a b c d f => exact .ins (s _ _ e) a b c d f
/-- tuples and instances are none of the drawing state's -/
theorem Dr.web {H H' : Hp} {a g : Addr} {n : Nat} {C p : Addr} {cs : List Int} {ts : List (Int × Int)} (d : Dr H a g n) (fr : ∀ b o, H b = some o → b ≠ a → b ≠ g → H' b = some o) (x : WebAt C H p cs ts) : WebAt C H' p cs ts := by
  obtain ⟨c0, cs0, gs0, e1, e2, e3, _⟩ := d.ex
  obtain ⟨dx, c, t, r, rs, h1, h2, h3, h4⟩ := x
  have tp : ∀ b xs, H b = some (.tup xs) → H' b = some (.tup xs) := fun b xs e => fr b _ e (ne_of e e1 (by intro z; cases z)) (ne_of e e3 (by intro z; cases z))
  refine ⟨dx, c, t, r, rs, fr p _ h1 (ne_of h1 e1 (by intro z; cases z)) (ne_of h1 e3 (by intro z; cases z)), tp _ _ h2, tp _ _ h3, ?_⟩
  have go : ∀ {rs : List Addr} {ts : List (Int × Int)}, TiesAt H rs ts → TiesAt H' rs ts := fun {rs ts} h => by
    induction rs generalizing ts with
    | nil => cases ts with
      | nil => exact h
      | cons _ _ => exact h.elim
    | cons r rs ih => cases ts with
      | nil => exact h.elim
      | cons t ts => exact ⟨tp _ _ h.1, ih h.2⟩
  exact go h4
theorem Dr.ties {H H' : Hp} {a g : Addr} {n : Nat} {rs : List Addr} {ts : List (Int × Int)} (d : Dr H a g n) (fr : ∀ b o, H b = some o → b ≠ a → b ≠ g → H' b = some o) (h : TiesAt H rs ts) : TiesAt H' rs ts := by
  obtain ⟨c0, cs0, gs0, e1, e2, e3, _⟩ := d.ex
  have tp : ∀ b xs, H b = some (.tup xs) → H' b = some (.tup xs) := fun b xs e => fr b _ e (ne_of e e1 (by intro z; cases z)) (ne_of e e3 (by intro z; cases z))
  induction rs generalizing ts with
  | nil => cases ts with
    | nil => exact h
    | cons _ _ => exact h.elim
  | cons r rs ih => cases ts with
    | nil => exact h.elim
    | cons t ts => exact ⟨tp _ _ h.1, ih h.2⟩
end Vk

namespace Vk
open PySem PySem.Spec PyProof.Rows L2 VkX
/-- what hangs on the turn -/
def Turn13 (i : Nat) : Prop := ∃ (nm : Str) (idx : Nat), PM[i]? = some idx ∧ NM[idx]? = some nm ∧ idx < 13 ∧ (fldOf idx).isSome = decide (0 + (i : Int) < 10) ∧ decide (V.int (0 + (i : Int)) = V.int 9) = decide (idx = 12) ∧ atI (WD.map V.str) (0 + (i : Int)) = some (.str nm) ∧ nm ∈ WD
theorem turn0 : Turn13 0 := ⟨"BadColours", 0, rfl, rfl, by decide, by kernel_rfl, by kernel_rfl, rfl, by simp [WD]⟩
theorem turn1 : Turn13 1 := ⟨"BadTies", 1, rfl, rfl, by decide, by kernel_rfl, by kernel_rfl, rfl, by simp [WD]⟩
theorem turn2 : Turn13 2 := ⟨"BadOrders", 8, rfl, rfl, by decide, by kernel_rfl, by kernel_rfl, rfl, by simp [WD]⟩
theorem turn3 : Turn13 3 := ⟨"BadText", 9, rfl, rfl, by decide, by kernel_rfl, by kernel_rfl, rfl, by simp [WD]⟩
theorem turn4 : Turn13 4 := ⟨"BadDeed", 10, rfl, rfl, by decide, by kernel_rfl, by kernel_rfl, rfl, by simp [WD]⟩
theorem turn5 : Turn13 5 := ⟨"BadPlace", 2, rfl, rfl, by decide, by kernel_rfl, by kernel_rfl, rfl, by simp [WD]⟩
theorem turn6 : Turn13 6 := ⟨"BadNumber", 3, rfl, rfl, by decide, by kernel_rfl, by kernel_rfl, rfl, by simp [WD]⟩
theorem turn7 : Turn13 7 := ⟨"BadOrder", 4, rfl, rfl, by decide, by kernel_rfl, by kernel_rfl, rfl, by simp [WD]⟩
theorem turn8 : Turn13 8 := ⟨"BadFolding", 7, rfl, rfl, by decide, by kernel_rfl, by kernel_rfl, rfl, by simp [WD]⟩
theorem turn9 : Turn13 9 := ⟨"TooGreat", 12, rfl, rfl, by decide, by kernel_rfl, by kernel_rfl, rfl, by simp [WD]⟩
theorem turn10 : Turn13 10 := ⟨"Unlike", 5, rfl, rfl, by decide, by kernel_rfl, by kernel_rfl, rfl, by simp [WD]⟩
theorem turn11 : Turn13 11 := ⟨"Apart", 6, rfl, rfl, by decide, by kernel_rfl, by kernel_rfl, rfl, by simp [WD]⟩
theorem turn12 : Turn13 12 := ⟨"NothingLeft", 11, rfl, rfl, by decide, by kernel_rfl, by kernel_rfl, rfl, by simp [WD]⟩
theorem turn13 : ∀ {i : Nat}, i < 13 → Turn13 i
  | 0, _ => turn0
  | 1, _ => turn1
  | 2, _ => turn2
  | 3, _ => turn3
  | 4, _ => turn4
  | 5, _ => turn5
  | 6, _ => turn6
  | 7, _ => turn7
  | 8, _ => turn8
  | 9, _ => turn9
  | 10, _ => turn10
  | 11, _ => turn11
  | 12, _ => turn12
  | (n + 13), h => absurd h (by omega)
theorem at_v {xs : List V} {i : Nat} {v : V} (e : xs[i]? = some v) : atI xs (0 + (i : Int)) = some v := by
  rw [Int.zero_add]
  exact atI_nat e
/-- the pair or the word alone -/
def dueX (idx : Nat) (nm : Str) (q : V) : List V := match fldOf idx with | some _ => [.str nm, q] | none => [.str nm]
def dueD (idx : Nat) (nm : Str) (e : PyData) : PyData := .tuple (match fldOf idx with | some _ => [.str nm, e] | none => [.str nm])
theorem due_q {K : PySem.W.Frag} {H : Hp} {p : Addr} {idx : Nat} {nm : Str} {q : V} {e : PyData} (h : H p = some (.tup (dueX idx nm q))) (hq : Dq K H q e) : Dq K H (.ref p) (dueD idx nm e) := by
  unfold dueX at h
  unfold dueD
  cases c : fldOf idx with
  | none => rw [c] at h; exact .tup h (.cons (.str _) .nil)
  | some f => rw [c] at h; exact .tup h (.cons (.str _) (.cons hq .nil))
theorem due_ok {idx : Nat} {nm : Str} {e : PyData} (h : okQ e = true) (m : nm ∈ WD) : okD (dueD idx nm e) = true ∧ okS (dueD idx nm e) = true := by
  unfold okQ at h
  rw [Bool.and_eq_true] at h
  have z := List.all_eq_true.mp h.2 nm m
  rw [Bool.and_eq_true, Bool.and_eq_true, Bool.and_eq_true] at z
  unfold dueD
  cases fldOf idx with
  | none => exact ⟨z.1.2, z.2⟩
  | some f => exact ⟨z.1.1.1, z.1.1.2⟩
theorem ok_q {e : PyData} (h : okQ e = true) : okD e = true ∧ okS (.list [e, e, e, e]) = true := by
  unfold okQ at h
  rw [Bool.and_eq_true, Bool.and_eq_true, Bool.and_eq_true] at h
  exact ⟨h.1.1.1, h.1.2⟩
theorem due_eq {idx : Nat} {nm : Str} {q : V} {c : Bool} (h : (fldOf idx).isSome = c) : (if c = true then [V.str nm, q] else [V.str nm]) = dueX idx nm q := by
  unfold dueX
  subst h
  cases fldOf idx <;> rfl
theorem due_at {c : Bool} {σ : L2.St} {H : Hp} {Q : VK} {t1 t2 : TE} {xs1 xs2 : List V} (h1 : ∀ R : VK, (∀ p, H p = none → R (.ref p) (upd H p (.tup xs1))) → t1 σ H R) (h2 : ∀ R : VK, (∀ p, H p = none → R (.ref p) (upd H p (.tup xs2))) → t2 σ H R)
    (k : ∀ p, H p = none → Q (.ref p) (upd H p (.tup (if c = true then xs1 else xs2)))) : if c = true then t1 σ H Q else t2 σ H Q := by
  cases c with
  | true => exact h1 Q k
  | false => exact h2 Q k
theorem four_ok {e : PyData} (h : okD e = true) (z : (PyData.list [e, e, e, e]).hasDict = true) : noListAll [e, e, e, e] = true := by
  have z1 : e.hasDict = true := by simpa [PyData.hasDict, PyData.hasDictAll] using z
  have n := okD_of h z1
  simp [noListAll, n]
end Vk

namespace Vk
open PySem PySem.Spec PyProof.Rows L2 VkX
section
variable {P : Program} {w : World} {K : PySem.W.Frag} {mg : Str → Option Value} {base : Heap} {C1 C2 C3 C4 C5 C6 C7 C8 C9 C10 C11 C12 C13 C14 f1 f2 f3 f4 f5 f8 f9 f10 f11 f13 C : Addr}
theorem ok_law {f fB fD fC fN fQ : Addr} {fd fdB fdD fdC fdN fdQ : FuncData} (F : Fun K "law" "law" sLaw f fd) (T : T78 P K mg C1 C2 C3 C4 C5 C6 C7 C8 C9 C10 C11 C12 C13 C14 f1 f2 f3 f4 f5 f8 f9 f10 f11 f13) (L : TL K mg C1 C2 C3 C4 C5 C6 C7 C8 C9 C10 C11 C12 C13 C14) (W : TWc K mg C fN fQ)
    (FB : Fun K "_law_begun" "_law_begun" sBegun fB fdB) (bB : Binds K fdB ["script"] []) (mB : mg "_law_begun" = some (.ref fB)) (GB : FnOk P w K mg base CX0 2 fB fdB ["script"] (spBegun K))
    (FD : Fun K "_law_draw" "_law_draw" sDraw fD fdD) (bD : Binds K fdD ["m", "limit"] []) (mD : mg "_law_draw" = some (.ref fD)) (GD : FnOk P w K mg base CX0 2 fD fdD ["m", "limit"] spDraw)
    (FC : Fun K "_law_class" "_law_class" sClass fC fdC) (bC : Binds K fdC ["error"] []) (mC : mg "_law_class" = some (.ref fC)) (GC : FnOk P w K mg base CX0 1 fC fdC ["error"] (spClass [C1, C2, C3, C4, C5, C6, C7, C8, C9, C10, C11, C12, C13]))
    (bN : Binds K fdN ["self", "colours", "ties"] []) (GN : FnOk P w K mg base CX0 5 fN fdN ["self", "colours", "ties"] (spInitB C))
    (bQ : Binds K fdQ ["self", "other"] []) (GQ : FnOk P w K mg base CX0 1 fQ fdQ ["self", "other"] (spEq K C)) : FnG P w K mg base CX0 7 f fd ["script"] (spLaw K) := by
  refine F.okG scLaw (fun vs H Q E h => ?_) (fun cdv A outer s H vs Q E hG hr h => ?_)
  · obtain ⟨a, ns, rfl, _⟩ := h
    rfl
  · obtain ⟨a, ns, rfl, hS, hn, k⟩ := h
    have hu64 := hr.units
    refine ⟨_, (pss_cons (ps_set (i := 1) scLaw.nd rfl (Or.inl rfl) (pe_call GB (hr.mono (by decide)) rfl mB FB.kp bB .nil pass0 (pa_cons (pv 0) pa_nil)))
      (pss_cons (ps_set (i := 2) scLaw.nd rfl (Or.inl rfl) (pe_ix ix_list (pe_lst (pa_cons pe_non (pa_cons pe_int (pa_cons pe_int (pa_cons (pe_tup (pa_cons pe_int (pa_cons pe_int pa_nil))) (pa_cons pe_str (pa_cons (pe_lst (pa_cons pe_int pa_nil)) (pa_cons pe_dnewK (pa_cons (pe_op op_pow pe_int pe_int) pa_nil))))))))) (pe_call GD (hr.mono (by decide)) rfl mD FD.kp bD .nil pass0 (pa_cons (pv 1) (pa_cons pe_int pa_nil))) (fun _ _ => rfl)))
      (pss_cons (ps_set (i := 3) scLaw.nd rfl (Or.inl rfl) (pe_lst (pa_cons (pe_xmk T.x1 hr (pa_cons (pv 2) pa_nil)) (pa_cons (pe_xmk T.x2 hr (pa_cons (pv 2) pa_nil)) (pa_cons (pe_xmk T.x9 hr (pa_cons (pv 2) pa_nil)) (pa_cons (pe_xmk T.x10 hr (pa_cons (pv 2) pa_nil)) (pa_cons (pe_xmk T.x11 hr (pa_cons (pv 2) pa_nil)) (pa_cons (pe_xmk T.x3 hr (pa_cons (pv 2) pa_nil)) (pa_cons (pe_xmk T.x4 hr (pa_cons (pv 2) pa_nil)) pa_nil)))))))))
      (pss_cons (ps_set (i := 3) scLaw.nd rfl (Or.inl rfl) (pe_op op_cat (pv 3) (pe_lst (pa_cons (pe_xmk T.x5 hr (pa_cons (pv 2) pa_nil)) (pa_cons (pe_xmk T.x8 hr (pa_cons (pv 2) pa_nil)) (pa_cons (pe_xmk T.x13 hr (pa_cons (pv 2) pa_nil)) (pa_cons (pe_x0 T.q6 PySem.F.excBase_ValueError T.i6 T.k6 T.g6) (pa_cons (pe_x0 T.q7 PySem.F.excBase_ValueError T.i7 T.k7 T.g7) (pa_cons (pe_x0 T.q12 PySem.F.excBase_ValueError T.i12 T.k12 T.g12) pa_nil)))))))))
      (pss_cons (ps_set (i := 4) scLaw.nd rfl (Or.inl rfl) (pe_lst (pa_cons pe_str (pa_cons pe_str (pa_cons pe_str (pa_cons pe_str (pa_cons pe_str (pa_cons pe_str (pa_cons pe_str (pa_cons pe_str pa_nil))))))))))
      (pss_cons (ps_set (i := 4) scLaw.nd rfl (Or.inl rfl) (pe_op op_cat (pv 4) (pe_lst (pa_cons pe_str (pa_cons pe_str (pa_cons pe_str (pa_cons pe_str (pa_cons pe_str pa_nil))))))))
      (pss_cons (ps_for PassesOwn.never rfl (pi_range1 rfl L.rng (pa_cons pe_int pa_nil)) (pg_name (i := 5) scLaw.nd rfl (Or.inl rfl))
      (pss_cons (ps_set (i := 6) scLaw.nd rfl (Or.inl rfl) (pe_ifExp (pt_cmpR op_lt (pv 5) pe_int (nomark _)) (pe_tup (pa_cons (pe_ix ix_list (pv 4) (pv 5) (fun _ _ => rfl)) (pa_cons (pv 2) pa_nil))) (pe_tup (pa_cons (pe_ix ix_list (pv 4) (pv 5) (fun _ _ => rfl)) pa_nil))))
      (pss_cons (ps_if (pt_cmpR op_ne (pe_callB (id := "repr") (r := rRepr K) (by exact call_reprD hG hu64) (by rfl) L.rep (by decide +kernel) (pa_cons (pe_call GC (hr.mono (by decide)) rfl mC FC.kp bC .nil pass0 (pa_cons (pe_ix ix_list (pv 3) (pv 5) (fun _ _ => rfl)) pa_nil)) pa_nil)) (pe_callB (id := "repr") (r := rRepr K) (by exact call_reprD hG hu64) (by rfl) L.rep (by decide +kernel) (pa_cons (pv 6) pa_nil)) (nomark _)) (pss_one (ps_ret pe_bl)) pss_nil)
      (pss_cons (ps_if (PW.pt (pw_or (pt_cmpR op_ne (pe_callB call_isX (by rfl) T.isi (by decide +kernel) (pa_cons (pe_ix ix_list (pv 3) (pv 5) (fun _ _ => rfl)) (pa_cons (pe_glob (v := .ref C14) rfl T.g14 rfl) pa_nil))) (pe_cmpR op_ne (pv 5) pe_int (nomark _)) (nomark _)) (pw_or1 (pt_cmpR op_ne (pe_callB call_isX (by rfl) T.isi (by decide +kernel) (pa_cons (pe_ix ix_list (pv 3) (pv 5) (fun _ _ => rfl)) (pa_cons (pe_bltn (v := .ty "ValueError") (by rfl) L.ve (by decide +kernel) rfl) pa_nil))) (pe_cmpR op_ne (pv 5) pe_int (nomark _)) (nomark _))))) (pss_one (ps_ret pe_bl)) pss_nil)
      (pss_one (ps_if (pt_cmpR op_ne (pe_callB call_isX (by rfl) T.isi (by decide +kernel) (pa_cons (pe_ix ix_list (pv 3) (pv 5) (fun _ _ => rfl)) (pa_cons (pe_bltn (v := .ty "OverflowError") (by rfl) L.oe (by decide +kernel) rfl) pa_nil))) (pe_cmpR op_eq (pv 5) pe_int (nomark _)) (nomark _)) (pss_one (ps_ret pe_bl)) pss_nil))))))
      (pss_cons (ps_set (i := 7) scLaw.nd rfl (Or.inl rfl) (pe_lstS (pa_cons (pe_xfld (pe_xmkK T.x9 hr (pk_cons (pv 2) pk_nil))) (pa_cons (pe_xfld (pe_xmkK T.x10 hr (pk_cons (pv 2) pk_nil))) (pa_cons (pe_xfld (pe_xmkK T.x11 hr (pk_cons (pv 2) pk_nil))) (pa_cons (pe_xfld (pe_xmkK T.x8 hr (pk_cons (pv 2) pk_nil))) pa_nil))))))
      (pss_cons (ps_if (pt_cmpR op_ne (pe_callB (id := "repr") (r := rReprL K) (by exact call_reprL hG hu64) (by rfl) L.rep (by decide +kernel) (pa_cons (pv 7) pa_nil)) (pe_callB (id := "repr") (r := rReprL K) (by exact call_reprL hG hu64) (by rfl) L.rep (by decide +kernel) (pa_cons (pe_op op_four (pe_lst (pa_cons (pv 2) pa_nil)) pe_int) pa_nil)) (nomark _)) (pss_one (ps_ret pe_bl)) pss_nil)
      (pss_cons (ps_set (i := 8) scLaw.nd rfl (Or.inl rfl) (pe_make W.mks GN hr rfl W.gC bN .nil pass0 (pa_cons (pe_tup (pa_cons pe_int (pa_cons pe_int pa_nil))) (pa_cons (pe_lst (pa_cons (pe_tup (pa_cons pe_int (pa_cons pe_int pa_nil))) pa_nil)) pa_nil))))
      (pss_cons (ps_set (i := 9) scLaw.nd rfl (Or.inl rfl) (pe_ix ix_list (pe_lst (pa_cons pe_non (pa_cons (pe_tup (pa_cons (pe_tup (pa_cons pe_int (pa_cons pe_int pa_nil))) (pa_cons (pe_tup (pa_cons (pe_tup (pa_cons pe_int (pa_cons pe_int pa_nil))) pa_nil)) pa_nil))) (pa_cons (pe_lst (pa_cons pe_int (pa_cons pe_int pa_nil))) (pa_cons pe_int (pa_cons pe_str (pa_cons pe_dnewK (pa_cons (pv 2) pa_nil)))))))) (pe_call GD (hr.mono (by decide)) rfl mD FD.kp bD .nil pass0 (pa_cons (pv 1) (pa_cons pe_int pa_nil))) (fun _ _ => rfl)))
      (pss_cons (ps_set (i := 7) scLaw.nd rfl (Or.inl rfl) (pe_lst (pa_cons (pe_cmpR (op_eqI (E := E0) GQ bQ pass0 (hr.mono (by decide)) W.eq W.eqf) (pv 8) (pv 9) (nomark _)) (pa_cons (pe_cmpR (op_eqB (E := E0) GQ bQ pass0 (hr.mono (by decide)) W.eq W.eqf) (pv 9) (pv 8) (nomark _)) (pa_cons (pe_cmpR (op_neI (E := E0) GQ bQ (hr.mono (by decide)) W.eq W.eqf W.ne W.hm) (pv 8) (pe_make W.mks GN hr rfl W.gC bN .nil pass0 (pa_cons (pe_lst (pa_cons pe_int (pa_cons pe_int pa_nil))) (pa_cons (pe_tup (pa_cons (pe_tup (pa_cons pe_int (pa_cons pe_int pa_nil))) pa_nil)) pa_nil))) (nomark _)) pa_nil)))))
      (pss_one (ps_ret (pe_cmpR op_eq (pe_callB (id := "repr") (r := rRepr K) (by exact call_reprD hG hu64) (by rfl) L.rep (by decide +kernel) (pa_cons (pv 7) pa_nil)) (pe_callB (id := "repr") (r := rRepr K) (by exact call_reprD hG hu64) (by rfl) L.rep (by decide +kernel) (pa_cons (pe_lst (pa_cons pe_bl (pa_cons pe_bl (pa_cons pe_bl pa_nil)))) pa_nil)) (nomark _)))))))))))))))), ?_⟩
    -- m = _law_begun(script)
    refine ⟨_, rfl, a, ns, rfl, hS, hn, fun H1 m g s1 nm ng D1 => ?_⟩
    refine ⟨by show 2 ≤ sizeLine; decide, fun t1 n_t1 => ?_⟩
    have q_G1 : Same H1 (upd H1 t1 (.tup [.int 1, .int 2])) := same_new n_t1
    have v_t1 : (upd H1 t1 (.tup [.int 1, .int 2])) t1 = some (.tup [.int 1, .int 2]) := upd_same
    have c_G1 : Same H1 (upd H1 t1 (.tup [.int 1, .int 2])) := q_G1
    have z_t1 : H1 t1 = none := n_t1
    clear n_t1
    generalize upd H1 t1 (.tup [.int 1, .int 2]) = G1 at *
    refine ⟨by show 1 ≤ sizeLine; decide, fun l1 n_l1 => ?_⟩
    have q_G2 : Same G1 (upd G1 l1 (.lst [.int 3])) := same_new n_l1
    have v_l1 : (upd G1 l1 (.lst [.int 3])) l1 = some (.lst [.int 3]) := upd_same
    have c_G2 : Same H1 (upd G1 l1 (.lst [.int 3])) := c_G1.trans q_G2
    have z_l1 : H1 l1 = none := c_G1.free n_l1
    clear n_l1
    generalize upd G1 l1 (.lst [.int 3]) = G2 at *
    intro d1 n_d1
    have q_G3 : Same G2 (upd G2 d1 (.dK [])) := same_new n_d1
    have v_d1 : (upd G2 d1 (.dK [])) d1 = some (.dK []) := upd_same
    have c_G3 : Same H1 (upd G2 d1 (.dK [])) := c_G2.trans q_G3
    have z_d1 : H1 d1 = none := c_G2.free n_d1
    clear n_d1
    generalize upd G2 d1 (.dK []) = G3 at *
    refine ⟨_, _, rfl, rfl, ⟨by decide, by decide, by decide⟩, ?_⟩
    refine ⟨by show 8 ≤ sizeLine; decide, fun p1 n_p1 => ?_⟩
    have q_G4 : Same G3 (upd G3 p1 (.lst [.non, .int 0, .int 7, .ref t1, .str "x", .ref l1, .ref d1, .int (10 ^ (40 : Int).toNat)])) := same_new n_p1
    have v_p1 : (upd G3 p1 (.lst [.non, .int 0, .int 7, .ref t1, .str "x", .ref l1, .ref d1, .int (10 ^ (40 : Int).toNat)])) p1 = some (.lst [.non, .int 0, .int 7, .ref t1, .str "x", .ref l1, .ref d1, .int (10 ^ (40 : Int).toNat)]) := upd_same
    have c_G4 : Same H1 (upd G3 p1 (.lst [.non, .int 0, .int 7, .ref t1, .str "x", .ref l1, .ref d1, .int (10 ^ (40 : Int).toNat)])) := c_G3.trans q_G4
    have z_p1 : H1 p1 = none := c_G3.free n_p1
    clear n_p1
    generalize upd G3 p1 (.lst [.non, .int 0, .int 7, .ref t1, .str "x", .ref l1, .ref d1, .int (10 ^ (40 : Int).toNat)]) = G4 at *
    have u_G4 : Same G4 G4 := Same.refl _
    have u_G3 : Same G3 G4 := q_G4.trans u_G4
    have u_G2 : Same G2 G4 := q_G3.trans u_G3
    have u_G1 : Same G1 G4 := q_G2.trans u_G2
    have e_t1 := u_G1 _ _ v_t1
    have e_l1 := u_G2 _ _ v_l1
    have e_d1 := u_G3 _ _ v_d1
    have e_p1 := u_G4 _ _ v_p1
    clear q_G1 q_G2 q_G3 q_G4 u_G1 u_G2 u_G3 u_G4 v_t1 v_l1 v_d1 v_p1
    refine ⟨_, rfl, m, g, 0, 8, rfl, D1.same c_G4, by decide, by decide, by decide, fun H2 r r0 r1 D2 fr => ?_⟩
    have w_t1 := D1.off fr z_t1 e_t1
    have w_l1 := D1.off fr z_l1 e_l1
    have w_d1 := D1.off fr z_d1 e_d1
    have w_p1 := D1.off fr z_p1 e_p1
    obtain ⟨q, e, Ty, hv, okq, hTy, hq⟩ := menuQ K t1 l1 d1 r0 r1
    refine ⟨p1, _, r, q, rfl, rfl, .inl (.inl w_p1), hv, ?_⟩
    clear hv w_p1 z_p1 e_p1 e_t1 e_l1 e_d1 c_G1 c_G2 c_G3 c_G4 fr s1 nm ng
    let CS : List Addr := [C1, C2, C3, C4, C5, C6, C7, C8, C9, C10, C11, C12, C13]
    refine ⟨q, rfl, q, rfl, fun x0 dx na nd ne => ?_⟩
    obtain ⟨s0, y0⟩ := x_two (H := H2) (C := C1) (f := "place") (v := q) na nd ne
    generalize upd (upd H2 dx (exd dx [("place", q)])) x0 (exo x0 C1 (some dx)) = J0 at s0 y0 ⊢
    clear na nd ne
    have i0 : ItemAt CS J0 q 0 x0 := item_x y0 rfl rfl rfl
    clear y0
    refine ⟨q, rfl, q, rfl, fun x1 dx na nd ne => ?_⟩
    obtain ⟨s1, y1⟩ := x_two (H := J0) (C := C2) (f := "place") (v := q) na nd ne
    generalize upd (upd J0 dx (exd dx [("place", q)])) x1 (exo x1 C2 (some dx)) = J1 at s1 y1 ⊢
    clear na nd ne
    have i1 : ItemAt CS J1 q 1 x1 := item_x y1 rfl rfl rfl
    clear y1
    refine ⟨q, rfl, q, rfl, fun x2 dx na nd ne => ?_⟩
    obtain ⟨s2, y2⟩ := x_two (H := J1) (C := C9) (f := "place") (v := q) na nd ne
    generalize upd (upd J1 dx (exd dx [("place", q)])) x2 (exo x2 C9 (some dx)) = J2 at s2 y2 ⊢
    clear na nd ne
    have i2 : ItemAt CS J2 q 2 x2 := item_x y2 rfl rfl rfl
    clear y2
    refine ⟨q, rfl, q, rfl, fun x3 dx na nd ne => ?_⟩
    obtain ⟨s3, y3⟩ := x_two (H := J2) (C := C10) (f := "place") (v := q) na nd ne
    generalize upd (upd J2 dx (exd dx [("place", q)])) x3 (exo x3 C10 (some dx)) = J3 at s3 y3 ⊢
    clear na nd ne
    have i3 : ItemAt CS J3 q 3 x3 := item_x y3 rfl rfl rfl
    clear y3
    refine ⟨q, rfl, q, rfl, fun x4 dx na nd ne => ?_⟩
    obtain ⟨s4, y4⟩ := x_two (H := J3) (C := C11) (f := "place") (v := q) na nd ne
    generalize upd (upd J3 dx (exd dx [("place", q)])) x4 (exo x4 C11 (some dx)) = J4 at s4 y4 ⊢
    clear na nd ne
    have i4 : ItemAt CS J4 q 4 x4 := item_x y4 rfl rfl rfl
    clear y4
    refine ⟨q, rfl, q, rfl, fun x5 dx na nd ne => ?_⟩
    obtain ⟨s5, y5⟩ := x_two (H := J4) (C := C3) (f := "value") (v := q) na nd ne
    generalize upd (upd J4 dx (exd dx [("value", q)])) x5 (exo x5 C3 (some dx)) = J5 at s5 y5 ⊢
    clear na nd ne
    have i5 : ItemAt CS J5 q 5 x5 := item_x y5 rfl rfl rfl
    clear y5
    refine ⟨q, rfl, q, rfl, fun x6 dx na nd ne => ?_⟩
    obtain ⟨s6, y6⟩ := x_two (H := J5) (C := C4) (f := "value") (v := q) na nd ne
    generalize upd (upd J5 dx (exd dx [("value", q)])) x6 (exo x6 C4 (some dx)) = J6 at s6 y6 ⊢
    clear na nd ne
    have i6 : ItemAt CS J6 q 6 x6 := item_x y6 rfl rfl rfl
    clear y6
    refine ⟨by show 7 ≤ sizeLine; decide, fun pa npa => ?_⟩
    have sA : Same J6 (upd J6 pa (.lst [.ref x0, .ref x1, .ref x2, .ref x3, .ref x4, .ref x5, .ref x6])) := same_new npa
    have vA : (upd J6 pa (.lst [.ref x0, .ref x1, .ref x2, .ref x3, .ref x4, .ref x5, .ref x6])) pa = some (.lst [.ref x0, .ref x1, .ref x2, .ref x3, .ref x4, .ref x5, .ref x6]) := upd_same
    clear npa
    generalize upd J6 pa (.lst [.ref x0, .ref x1, .ref x2, .ref x3, .ref x4, .ref x5, .ref x6]) = JA at *
    refine ⟨_, rfl, ?_⟩
    refine ⟨q, rfl, q, rfl, fun x7 dx na nd ne => ?_⟩
    obtain ⟨s7, y7⟩ := x_two (H := JA) (C := C5) (f := "value") (v := q) na nd ne
    generalize upd (upd JA dx (exd dx [("value", q)])) x7 (exo x7 C5 (some dx)) = J7 at s7 y7 ⊢
    clear na nd ne
    have i7 : ItemAt CS J7 q 7 x7 := item_x y7 rfl rfl rfl
    clear y7
    refine ⟨q, rfl, q, rfl, fun x8 dx na nd ne => ?_⟩
    obtain ⟨s8, y8⟩ := x_two (H := J7) (C := C8) (f := "value") (v := q) na nd ne
    generalize upd (upd J7 dx (exd dx [("value", q)])) x8 (exo x8 C8 (some dx)) = J8 at s8 y8 ⊢
    clear na nd ne
    have i8 : ItemAt CS J8 q 8 x8 := item_x y8 rfl rfl rfl
    clear y8
    refine ⟨q, rfl, q, rfl, fun x9 dx na nd ne => ?_⟩
    obtain ⟨s9, y9⟩ := x_two (H := J8) (C := C13) (f := "most") (v := q) na nd ne
    generalize upd (upd J8 dx (exd dx [("most", q)])) x9 (exo x9 C13 (some dx)) = J9 at s9 y9 ⊢
    clear na nd ne
    have i9 : ItemAt CS J9 q 9 x9 := item_x y9 rfl rfl rfl
    clear y9
    intro x10 na
    obtain ⟨s10, y10⟩ := x_one (H := J9) (C := C6) na
    generalize upd J9 x10 (exo x10 C6 none) = J10 at s10 y10 ⊢
    clear na
    have i10 : ItemAt CS J10 q 10 x10 := item_0 y10 rfl rfl rfl
    clear y10
    intro x11 na
    obtain ⟨s11, y11⟩ := x_one (H := J10) (C := C7) na
    generalize upd J10 x11 (exo x11 C7 none) = J11 at s11 y11 ⊢
    clear na
    have i11 : ItemAt CS J11 q 11 x11 := item_0 y11 rfl rfl rfl
    clear y11
    intro x12 na
    obtain ⟨s12, y12⟩ := x_one (H := J11) (C := C12) na
    generalize upd J11 x12 (exo x12 C12 none) = J12 at s12 y12 ⊢
    clear na
    have i12 : ItemAt CS J12 q 12 x12 := item_0 y12 rfl rfl rfl
    clear y12
    have vA := (((((s7.trans s8).trans s9).trans s10).trans s11).trans s12) _ _ vA
    refine ⟨by show 6 ≤ sizeLine; decide, fun pb npb => ?_⟩
    refine ⟨pa, pb, _, _, rfl, rfl, same_new npb _ _ vA, upd_same, by show 13 ≤ sizeLine; decide, fun pc npc => ?_⟩
    have sB : Same J12 (upd (upd J12 pb (.lst [.ref x7, .ref x8, .ref x9, .ref x10, .ref x11, .ref x12])) pc (.lst ([(.ref x0 : V), .ref x1, .ref x2, .ref x3, .ref x4, .ref x5, .ref x6] ++ [.ref x7, .ref x8, .ref x9, .ref x10, .ref x11, .ref x12]))) := (same_new npb).trans (same_new npc)
    have vB : (upd (upd J12 pb (.lst [.ref x7, .ref x8, .ref x9, .ref x10, .ref x11, .ref x12])) pc (.lst ([(.ref x0 : V), .ref x1, .ref x2, .ref x3, .ref x4, .ref x5, .ref x6] ++ [.ref x7, .ref x8, .ref x9, .ref x10, .ref x11, .ref x12]))) pc = some (.lst ([x0, x1, x2, x3, x4, x5, x6, x7, x8, x9, x10, x11, x12].map V.ref)) := upd_same
    clear npb npc vA
    generalize upd (upd J12 pb (.lst [.ref x7, .ref x8, .ref x9, .ref x10, .ref x11, .ref x12])) pc (.lst ([(.ref x0 : V), .ref x1, .ref x2, .ref x3, .ref x4, .ref x5, .ref x6] ++ [.ref x7, .ref x8, .ref x9, .ref x10, .ref x11, .ref x12])) = JB at *
    have k12 : Same J12 JB := sB
    have k11 : Same J11 JB := s12.trans k12
    have k10 : Same J10 JB := s11.trans k11
    have k9 : Same J9 JB := s10.trans k10
    have k8 : Same J8 JB := s9.trans k9
    have k7 : Same J7 JB := s8.trans k8
    have kA : Same JA JB := s7.trans k7
    have k6 : Same J6 JB := sA.trans kA
    have k5 : Same J5 JB := s6.trans k6
    have k4 : Same J4 JB := s5.trans k5
    have k3 : Same J3 JB := s4.trans k4
    have k2 : Same J2 JB := s3.trans k3
    have k1 : Same J1 JB := s2.trans k2
    have k0 : Same J0 JB := s1.trans k1
    have sH : Same H2 JB := s0.trans k0
    have items : ∀ (n : Nat) (a : Addr), [x0, x1, x2, x3, x4, x5, x6, x7, x8, x9, x10, x11, x12][n]? = some a → ItemAt CS JB q n a := by
      intro n a e
      match n, e with
      | 0, e => exact Option.some.inj e ▸ i0.same k0
      | 1, e => exact Option.some.inj e ▸ i1.same k1
      | 2, e => exact Option.some.inj e ▸ i2.same k2
      | 3, e => exact Option.some.inj e ▸ i3.same k3
      | 4, e => exact Option.some.inj e ▸ i4.same k4
      | 5, e => exact Option.some.inj e ▸ i5.same k5
      | 6, e => exact Option.some.inj e ▸ i6.same k6
      | 7, e => exact Option.some.inj e ▸ i7.same k7
      | 8, e => exact Option.some.inj e ▸ i8.same k8
      | 9, e => exact Option.some.inj e ▸ i9.same k9
      | 10, e => exact Option.some.inj e ▸ i10.same k10
      | 11, e => exact Option.some.inj e ▸ i11.same k11
      | 12, e => exact Option.some.inj e ▸ i12.same k12
      | (n + 13), e => exact nomatch e
    clear i0 k0 s0 i1 k1 s1 i2 k2 s2 i3 k3 s3 i4 k4 s4 i5 k5 s5 i6 k6 s6 i7 k7 s7 i8 k8 s8 i9 k9 s9 i10 k10 s10 i11 k11 s11 i12 k12 s12 kA sA sB
    generalize hxs : [x0, x1, x2, x3, x4, x5, x6, x7, x8, x9, x10, x11, x12] = xs at *
    have xl : xs.length = 13 := by rw [← hxs]; rfl
    clear hxs
    refine ⟨by show 8 ≤ sizeLine; decide, fun pd npd => ?_⟩
    refine ⟨_, rfl, by show 5 ≤ sizeLine; decide, fun pe npe => ?_⟩
    refine ⟨pd, pe, _, _, rfl, rfl, same_new npe _ _ upd_same, upd_same, by show 13 ≤ sizeLine; decide, fun pf npf => ?_⟩
    have sW : Same JB (upd (upd (upd JB pd (.lst [.str "BadColours", .str "BadTies", .str "BadOrders", .str "BadText", .str "BadDeed", .str "BadPlace", .str "BadNumber", .str "BadOrder"])) pe (.lst [.str "BadFolding", .str "TooGreat", .str "Unlike", .str "Apart", .str "NothingLeft"])) pf (.lst ([(.str "BadColours" : V), .str "BadTies", .str "BadOrders", .str "BadText", .str "BadDeed", .str "BadPlace", .str "BadNumber", .str "BadOrder"] ++ [.str "BadFolding", .str "TooGreat", .str "Unlike", .str "Apart", .str "NothingLeft"]))) := ((same_new npd).trans (same_new npe)).trans (same_new npf)
    have vW : (upd (upd (upd JB pd (.lst [.str "BadColours", .str "BadTies", .str "BadOrders", .str "BadText", .str "BadDeed", .str "BadPlace", .str "BadNumber", .str "BadOrder"])) pe (.lst [.str "BadFolding", .str "TooGreat", .str "Unlike", .str "Apart", .str "NothingLeft"])) pf (.lst ([(.str "BadColours" : V), .str "BadTies", .str "BadOrders", .str "BadText", .str "BadDeed", .str "BadPlace", .str "BadNumber", .str "BadOrder"] ++ [.str "BadFolding", .str "TooGreat", .str "Unlike", .str "Apart", .str "NothingLeft"]))) pf = some (.lst (WD.map V.str)) := upd_same
    clear npd npe npf
    generalize upd (upd (upd JB pd (.lst [.str "BadColours", .str "BadTies", .str "BadOrders", .str "BadText", .str "BadDeed", .str "BadPlace", .str "BadNumber", .str "BadOrder"])) pe (.lst [.str "BadFolding", .str "TooGreat", .str "Unlike", .str "Apart", .str "NothingLeft"])) pf (.lst ([(.str "BadColours" : V), .str "BadTies", .str "BadOrders", .str "BadText", .str "BadDeed", .str "BadPlace", .str "BadNumber", .str "BadOrder"] ++ [.str "BadFolding", .str "TooGreat", .str "Unlike", .str "Apart", .str "NothingLeft"])) = B0 at *
    have vB := sW _ _ vB
    have items : ∀ (n : Nat) (a : Addr), xs[n]? = some a → ItemAt CS B0 q n a := fun n a e => (items n a e).same sW
    have sB0 : Same H2 B0 := sH.trans sW
    clear sW sH
    have DB := D2.same sB0
    have b_t1 := sB0 _ _ w_t1
    have b_l1 := sB0 _ _ w_l1
    have b_d1 := sB0 _ _ w_d1
    clear w_t1 w_l1 w_d1 D2 sB0
    have e1 := T.ec
    obtain ⟨okd, okl⟩ := ok_q okq
    -- for n in range(13)
    refine ⟨13, rfl, by decide, by decide, for_it (walk_range (lo := 0) (n := 13)) (fun i σ H' => ∃ (u v : Option V), σ = [some (.ref a), some (.ref m), some q, some (.ref pc), some (.ref pf), u, v, none, none, none] ∧ Same B0 H') ⟨_, _, rfl, Same.refl _⟩ (fun _ _ _ _ _ => True.intro) ?_ ?_⟩
    · rintro i x σ H_ Hh hi ⟨u, v, rfl, sh⟩ ⟨rfl, rfl⟩
      obtain ⟨nm, idx, t1', t2', t3, t4, t5, t6, t7⟩ := turn13 hi
      obtain ⟨ax, hax⟩ : ∃ ax, xs[i]? = some ax := ⟨xs[i]'(by omega), List.getElem?_eq_getElem (by omega)⟩
      obtain ⟨Cx, dd, idx', j1, j2, j3, j4, j5⟩ := (items i ax hax).same sh
      have ei : idx = idx' := by rw [t1'] at j1; exact Option.some.inj j1
      subst ei
      have ix3 : ∀ {H'}, Same B0 H' → atI (xs.map V.ref) (0 + (i : Int)) = some (.ref ax) := fun _ => at_v (by rw [List.getElem?_map, hax]; rfl)
      -- due
      refine ⟨_, rfl, _, _, rfl, rfl, _, rfl, ?_⟩
      refine due_at (fun R kk => ⟨_, rfl, _, rfl, pf, _, _, .str nm, rfl, rfl, .inl (.inl (sh _ _ vW)), t6, _, rfl, by show 2 ≤ sizeLine; decide, kk⟩) (fun R kk => ⟨_, rfl, _, rfl, pf, _, _, .str nm, rfl, rfl, .inl (.inl (sh _ _ vW)), t6, by show 1 ≤ sizeLine; decide, kk⟩) (fun p6 n6 => ?_)
      rw [due_eq t4]
      have s6 : Same Hh (upd Hh p6 (.tup (dueX idx nm q))) := same_new n6
      have v6 : (upd Hh p6 (.tup (dueX idx nm q))) p6 = some (.tup (dueX idx nm q)) := upd_same
      clear n6
      generalize upd Hh p6 (.tup (dueX idx nm q)) = H6 at *
      have sh6 := sh.trans s6
      -- repr(_law_class(some[n])) != repr(due)
      refine ⟨_, rfl, _, rfl, pc, _, _, .ref ax, rfl, rfl, .inl (.inl (sh6 _ _ vB)), ix3 sh6, ?_⟩
      refine ⟨ax, Cx, dd, idx, nm, q, rfl, j2, t2', t3, s6 _ _ j3, j4.imp id (fun ⟨dx, fs, g1, g2⟩ => ⟨dx, fs, g1, s6 _ _ g2⟩), (fun f ef => let ⟨dx, g1, g2⟩ := j5 f ef; ⟨dx, g1, s6 _ _ g2⟩), fun H7 p7 s7 np7 hp7 => ?_⟩
      have sh7 := sh6.trans s7
      have hq7 := (hq _ (sh7 _ _ b_t1) (sh7 _ _ b_l1) (sh7 _ _ b_d1)).1
      obtain ⟨ok1, ok2⟩ := due_ok (idx := idx) okq t7
      obtain ⟨ok2, ok3, ok4⟩ := okS_of ok2
      refine ⟨.ref p7, dueD idx nm e, rfl, due_q hp7 hq7, okD_of ok1, ok2, ok3, ok4, ?_⟩
      refine ⟨_, rfl, .ref p6, dueD idx nm e, rfl, due_q (s7 _ _ v6) hq7, okD_of ok1, ok2, ok3, ok4, rfl, _, rfl, ?_⟩
      refine ifno (by simp) ?_
      have s67 := s6.trans s7
      have j3 := s67 _ _ j3
      have j4 : dd = none ∨ ∃ dx fs, dd = some dx ∧ H7 dx = some (exd dx fs) := j4.imp id (fun ⟨dx, fs, g1, g2⟩ => ⟨dx, fs, g1, s67 _ _ g2⟩)
      have ec := e1 Cx (List.mem_of_getElem? j2)
      -- isinstance(.., WebError) != (n != 9) or isinstance(.., ValueError) != (n != 9)
      refine ⟨_, rfl, _, rfl, pc, _, _, .ref ax, rfl, rfl, .inl (.inl (sh7 _ _ vB)), ix3 sh7, ax, Cx, dd, .ref C14, .ref C14, _, rfl, j3, j4, .own _, ec, L.web idx Cx j2, _, rfl, rfl, rfl, _, rfl, ?_⟩
      refine ifno (by rw [t5]; simp) ?_
      refine ⟨_, rfl, _, rfl, pc, _, _, .ref ax, rfl, rfl, .inl (.inl (sh7 _ _ vB)), ix3 sh7, ax, Cx, dd, .ty "ValueError", .type "ValueError", _, rfl, j3, j4, .ty _, ec, L.val idx Cx j2, _, rfl, rfl, rfl, _, rfl, ?_⟩
      refine ifno (by rw [t5]; simp) ?_
      refine ⟨_, rfl, _, rfl, pc, _, _, .ref ax, rfl, rfl, .inl (.inl (sh7 _ _ vB)), ix3 sh7, ax, Cx, dd, .ty "OverflowError", .type "OverflowError", _, rfl, j3, j4, .ty _, ec, L.ovf idx Cx j2, _, rfl, rfl, rfl, _, rfl, ?_⟩
      refine ifno (by rw [t5]; simp) ?_
      exact ⟨_, _, rfl, sh7⟩
    rintro σ Hh ⟨u, v, rfl, sh⟩
    have vB := sh _ _ vB
    clear vW items
    -- told
    refine ⟨q, rfl, q, rfl, fun b0 dx na nd ne => ?_⟩
    obtain ⟨k0, v0⟩ := x_two (H := Hh) (C := C9) (f := "place") (v := q) na nd ne
    generalize upd (upd Hh dx (exd dx [("place", q)])) b0 (exo b0 C9 (some dx)) = T0 at k0 v0 ⊢
    clear na nd ne
    obtain ⟨ex, g1, g2⟩ := id v0
    refine ⟨b0, C9, ex, _, _, rfl, g1, g2, lookup_self _ _, e1 C9 (by simp), T.n9, ?_⟩
    clear g1 g2 v0
    refine ⟨q, rfl, q, rfl, fun b1 dx na nd ne => ?_⟩
    obtain ⟨k1, v1⟩ := x_two (H := T0) (C := C10) (f := "place") (v := q) na nd ne
    generalize upd (upd T0 dx (exd dx [("place", q)])) b1 (exo b1 C10 (some dx)) = T1 at k1 v1 ⊢
    clear na nd ne
    obtain ⟨ex, g1, g2⟩ := id v1
    refine ⟨b1, C10, ex, _, _, rfl, g1, g2, lookup_self _ _, e1 C10 (by simp), T.n10, ?_⟩
    clear g1 g2 v1
    refine ⟨q, rfl, q, rfl, fun b2 dx na nd ne => ?_⟩
    obtain ⟨k2, v2⟩ := x_two (H := T1) (C := C11) (f := "place") (v := q) na nd ne
    generalize upd (upd T1 dx (exd dx [("place", q)])) b2 (exo b2 C11 (some dx)) = T2 at k2 v2 ⊢
    clear na nd ne
    obtain ⟨ex, g1, g2⟩ := id v2
    refine ⟨b2, C11, ex, _, _, rfl, g1, g2, lookup_self _ _, e1 C11 (by simp), T.n11, ?_⟩
    clear g1 g2 v2
    refine ⟨q, rfl, q, rfl, fun b3 dx na nd ne => ?_⟩
    obtain ⟨k3, v3⟩ := x_two (H := T2) (C := C8) (f := "value") (v := q) na nd ne
    generalize upd (upd T2 dx (exd dx [("value", q)])) b3 (exo b3 C8 (some dx)) = T3 at k3 v3 ⊢
    clear na nd ne
    obtain ⟨ex, g1, g2⟩ := id v3
    refine ⟨b3, C8, ex, _, _, rfl, g1, g2, lookup_self _ _, e1 C8 (by simp), T.n8, ?_⟩
    clear g1 g2 v3
    have rT := sh.trans (((k0.trans k1).trans k2).trans k3)
    clear k0 k1 k2 k3
    refine ⟨by show 4 ≤ sizeLine; decide, fun pt npt nst => ?_⟩
    have qT := rT.trans (same_new (o := HO.lst [q, q, q, q]) npt)
    have vT : (upd T3 pt (.lst [q, q, q, q])) pt = some (.lst [q, q, q, q]) := upd_same
    generalize upd T3 pt (.lst [q, q, q, q]) = U0 at *
    clear npt rT
    have hqT := (hq _ (qT _ _ b_t1) (qT _ _ b_l1) (qT _ _ b_d1)).1
    obtain ⟨ol1, ol2, ol3⟩ := okS_of okl
    have fo := four_ok okd
    refine ⟨_, rfl, pt, [q, q, q, q], [e, e, e, e], rfl, vT, .cons hqT (.cons hqT (.cons hqT (.cons hqT .nil))), fun z => ⟨nst, fo z⟩, ol1, ol2, ol3, ?_⟩
    refine ⟨_, rfl, by show 1 ≤ sizeLine; decide, fun pq npq => ⟨pq, q, rfl, rfl, upd_same, fun pr npr nsr => ?_⟩⟩
    have qU := qT.trans ((same_new (o := HO.lst [q]) npq).trans (same_new (o := HO.lst [q, q, q, q]) npr))
    have vU : (upd (upd U0 pq (.lst [q])) pr (.lst [q, q, q, q])) pr = some (.lst [q, q, q, q]) := upd_same
    generalize upd (upd U0 pq (.lst [q])) pr (.lst [q, q, q, q]) = U1 at *
    clear npq npr qT
    have hqU := (hq _ (qU _ _ b_t1) (qU _ _ b_l1) (qU _ _ b_d1)).1
    refine ⟨pr, [q, q, q, q], [e, e, e, e], rfl, vU, .cons hqU (.cons hqU (.cons hqU (.cons hqU .nil))), fun z => ⟨nsr, fo z⟩, ol1, ol2, ol3, rfl, _, rfl, ?_⟩
    refine ifno (by simp) ?_
    clear vU vT hqU hqT nsr nst
    -- own = Web((0, 1), [(0, 1)])
    refine ⟨by show 2 ≤ sizeLine; decide, fun c1 n_c1 => ?_⟩
    have q_M1 : Same U1 (upd U1 c1 (.tup [.int 0, .int 1])) := same_new n_c1
    have v_c1 : (upd U1 c1 (.tup [.int 0, .int 1])) c1 = some (.tup [.int 0, .int 1]) := upd_same
    have c_M1 : Same U1 (upd U1 c1 (.tup [.int 0, .int 1])) := q_M1
    have z_c1 : U1 c1 = none := n_c1
    clear n_c1
    generalize upd U1 c1 (.tup [.int 0, .int 1]) = M1 at *
    refine ⟨by show 2 ≤ sizeLine; decide, fun h1 n_h1 => ?_⟩
    have q_M2 : Same M1 (upd M1 h1 (.tup [.int 0, .int 1])) := same_new n_h1
    have v_h1 : (upd M1 h1 (.tup [.int 0, .int 1])) h1 = some (.tup [.int 0, .int 1]) := upd_same
    have c_M2 : Same U1 (upd M1 h1 (.tup [.int 0, .int 1])) := c_M1.trans q_M2
    have z_h1 : U1 h1 = none := c_M1.free n_h1
    clear n_h1
    generalize upd M1 h1 (.tup [.int 0, .int 1]) = M2 at *
    refine ⟨by show 1 ≤ sizeLine; decide, fun c2 n_c2 => ?_⟩
    have q_M3 : Same M2 (upd M2 c2 (.lst [.ref h1])) := same_new n_c2
    have v_c2 : (upd M2 c2 (.lst [.ref h1])) c2 = some (.lst [.ref h1]) := upd_same
    have c_M3 : Same U1 (upd M2 c2 (.lst [.ref h1])) := c_M2.trans q_M3
    have z_c2 : U1 c2 = none := c_M2.free n_c2
    clear n_c2
    generalize upd M2 c2 (.lst [.ref h1]) = M3 at *
    have u_M3 : Same M3 M3 := Same.refl _
    have u_M2 : Same M2 M3 := q_M3.trans u_M3
    have u_M1 : Same M1 M3 := q_M2.trans u_M2
    have e_c1 := u_M1 _ _ v_c1
    have e_h1 := u_M2 _ _ v_h1
    have e_c2 := u_M3 _ _ v_c2
    clear q_M1 q_M2 q_M3 u_M1 u_M2 u_M3 v_c1 v_h1 v_c2
    intro x dx nx ndx ne
    have y1 : Same M3 (upd (upd M3 dx (.own x)) x (.ins C dx [])) := fun b u e => by rw [upd_ne (ne_of_none e nx), upd_ne (ne_of_none e ndx)]; exact e
    refine ⟨x, dx, c1, c2, [0, 1], [h1], [(0, 1)], rfl, upd_same, .inr (y1 _ _ e_c1), ⟨by decide, by decide, by decide⟩, .inl (y1 _ _ e_c2), ⟨y1 _ _ e_h1, True.intro⟩, ⟨by decide, by decide, by decide, by decide, True.intro⟩, by decide, fun H5 hw fr5 => ⟨rfl, ?_⟩⟩
    have s5 : Same M3 H5 := fun b u e => fr5 b u (y1 b u e) (ne_of_none e nx)
    have q5 := qU.trans (c_M3.trans s5)
    have D5 := DB.same q5
    clear y1 fr5 s5 c_M1 c_M2 c_M3 nx ndx ne z_c1 z_h1 z_c2 e_c1 e_h1 e_c2 qU
    -- odd
    refine ⟨by show 2 ≤ sizeLine; decide, fun g1 n_g1 => ?_⟩
    have q_N1 : Same H5 (upd H5 g1 (.tup [.int 0, .int 1])) := same_new n_g1
    have v_g1 : (upd H5 g1 (.tup [.int 0, .int 1])) g1 = some (.tup [.int 0, .int 1]) := upd_same
    have c_N1 : Same H5 (upd H5 g1 (.tup [.int 0, .int 1])) := q_N1
    have z_g1 : H5 g1 = none := n_g1
    clear n_g1
    generalize upd H5 g1 (.tup [.int 0, .int 1]) = N1 at *
    refine ⟨by show 2 ≤ sizeLine; decide, fun g2 n_g2 => ?_⟩
    have q_N2 : Same N1 (upd N1 g2 (.tup [.int 0, .int 1])) := same_new n_g2
    have v_g2 : (upd N1 g2 (.tup [.int 0, .int 1])) g2 = some (.tup [.int 0, .int 1]) := upd_same
    have c_N2 : Same H5 (upd N1 g2 (.tup [.int 0, .int 1])) := c_N1.trans q_N2
    have z_g2 : H5 g2 = none := c_N1.free n_g2
    clear n_g2
    generalize upd N1 g2 (.tup [.int 0, .int 1]) = N2 at *
    refine ⟨by show 1 ≤ sizeLine; decide, fun g3 n_g3 => ?_⟩
    have q_N3 : Same N2 (upd N2 g3 (.tup [.ref g2])) := same_new n_g3
    have v_g3 : (upd N2 g3 (.tup [.ref g2])) g3 = some (.tup [.ref g2]) := upd_same
    have c_N3 : Same H5 (upd N2 g3 (.tup [.ref g2])) := c_N2.trans q_N3
    have z_g3 : H5 g3 = none := c_N2.free n_g3
    clear n_g3
    generalize upd N2 g3 (.tup [.ref g2]) = N3 at *
    refine ⟨by show 2 ≤ sizeLine; decide, fun g4 n_g4 => ?_⟩
    have q_N4 : Same N3 (upd N3 g4 (.tup [.ref g1, .ref g3])) := same_new n_g4
    have v_g4 : (upd N3 g4 (.tup [.ref g1, .ref g3])) g4 = some (.tup [.ref g1, .ref g3]) := upd_same
    have c_N4 : Same H5 (upd N3 g4 (.tup [.ref g1, .ref g3])) := c_N3.trans q_N4
    have z_g4 : H5 g4 = none := c_N3.free n_g4
    clear n_g4
    generalize upd N3 g4 (.tup [.ref g1, .ref g3]) = N4 at *
    refine ⟨by show 2 ≤ sizeLine; decide, fun g5 n_g5 => ?_⟩
    have q_N5 : Same N4 (upd N4 g5 (.lst [.int 0, .int 1])) := same_new n_g5
    have v_g5 : (upd N4 g5 (.lst [.int 0, .int 1])) g5 = some (.lst [.int 0, .int 1]) := upd_same
    have c_N5 : Same H5 (upd N4 g5 (.lst [.int 0, .int 1])) := c_N4.trans q_N5
    have z_g5 : H5 g5 = none := c_N4.free n_g5
    clear n_g5
    generalize upd N4 g5 (.lst [.int 0, .int 1]) = N5 at *
    intro g6 n_g6
    have q_N6 : Same N5 (upd N5 g6 (.dK [])) := same_new n_g6
    have v_g6 : (upd N5 g6 (.dK [])) g6 = some (.dK []) := upd_same
    have c_N6 : Same H5 (upd N5 g6 (.dK [])) := c_N5.trans q_N6
    have z_g6 : H5 g6 = none := c_N5.free n_g6
    clear n_g6
    generalize upd N5 g6 (.dK []) = N6 at *
    refine ⟨_, rfl, ?_⟩
    refine ⟨by show 7 ≤ sizeLine; decide, fun p9 n_p9 => ?_⟩
    have q_N7 : Same N6 (upd N6 p9 (.lst [.non, .ref g4, .ref g5, .int 5, .str "web", .ref g6, q])) := same_new n_p9
    have v_p9 : (upd N6 p9 (.lst [.non, .ref g4, .ref g5, .int 5, .str "web", .ref g6, q])) p9 = some (.lst [.non, .ref g4, .ref g5, .int 5, .str "web", .ref g6, q]) := upd_same
    have c_N7 : Same H5 (upd N6 p9 (.lst [.non, .ref g4, .ref g5, .int 5, .str "web", .ref g6, q])) := c_N6.trans q_N7
    have z_p9 : H5 p9 = none := c_N6.free n_p9
    clear n_p9
    generalize upd N6 p9 (.lst [.non, .ref g4, .ref g5, .int 5, .str "web", .ref g6, q]) = N7 at *
    have u_N7 : Same N7 N7 := Same.refl _
    have u_N6 : Same N6 N7 := q_N7.trans u_N7
    have u_N5 : Same N5 N7 := q_N6.trans u_N6
    have u_N4 : Same N4 N7 := q_N5.trans u_N5
    have u_N3 : Same N3 N7 := q_N4.trans u_N4
    have u_N2 : Same N2 N7 := q_N3.trans u_N3
    have u_N1 : Same N1 N7 := q_N2.trans u_N2
    have e_g1 := u_N1 _ _ v_g1
    have e_g2 := u_N2 _ _ v_g2
    have e_g3 := u_N3 _ _ v_g3
    have e_g4 := u_N4 _ _ v_g4
    have e_g5 := u_N5 _ _ v_g5
    have e_g6 := u_N6 _ _ v_g6
    have e_p9 := u_N7 _ _ v_p9
    clear q_N1 q_N2 q_N3 q_N4 q_N5 q_N6 q_N7 u_N1 u_N2 u_N3 u_N4 u_N5 u_N6 u_N7 v_g1 v_g2 v_g3 v_g4 v_g5 v_g6 v_p9
    refine ⟨_, rfl, m, g, 1, 7, rfl, D5.same c_N7, by decide, by decide, by decide, fun H6 r3 r30 r31 D6 fr6 => ?_⟩
    have q7 := q5.trans c_N7
    have a_t1 := D1.off fr6 z_t1 (q7 _ _ b_t1)
    have a_l1 := D1.off fr6 z_l1 (q7 _ _ b_l1)
    have a_d1 := D1.off fr6 z_d1 (q7 _ _ b_d1)
    have w_g4 := D5.off fr6 z_g4 e_g4
    have w_g5 := D5.off fr6 z_g5 e_g5
    have w_g6 := D5.off fr6 z_g6 e_g6
    have w_p9 := D5.off fr6 z_p9 e_p9
    have kw := (D5.same c_N7).web fr6 (hw.same c_N7)
    have tq := (hq _ a_t1 a_l1 a_d1).2
    have menu3 : ∃ (v : V) (Ty : String), atI ([.non, .ref g4, .ref g5, .int 5, .str "web", .ref g6, q] : List V) r3 = some v ∧ Ty ∈ ["NoneType", "int", "str", "list", "tuple", "dict"] ∧ TyOf K H6 v (.type Ty) := by
      have c : r3 = 0 ∨ r3 = 1 ∨ r3 = 2 ∨ r3 = 3 ∨ r3 = 4 ∨ r3 = 5 ∨ r3 = 6 := by omega
      rcases c with rfl | rfl | rfl | rfl | rfl | rfl | rfl
      · exact ⟨_, "NoneType", rfl, by simp, .non⟩
      · exact ⟨_, "tuple", rfl, by simp, .tup w_g4⟩
      · exact ⟨_, "list", rfl, by simp, .lst w_g5⟩
      · exact ⟨_, "int", rfl, by simp, .int 5⟩
      · exact ⟨_, "str", rfl, by simp, .str _⟩
      · exact ⟨_, "dict", rfl, by simp, .dK w_g6⟩
      · exact ⟨_, Ty, rfl, hTy, tq⟩
    obtain ⟨v, Tv, hv, hTv, ty⟩ := menu3
    refine ⟨p9, _, r3, v, rfl, rfl, .inl (.inl w_p9), hv, ?_⟩
    obtain ⟨kit1, kit2, kit3⟩ := W.kit Tv hTv
    obtain ⟨y1d, y1c, y1t, y1r, y1s, j1, j2, j3, j4⟩ := id kw
    clear hv w_p9 w_g4 w_g5 w_g6 a_t1 a_l1 a_d1 q7 z_g1 z_g2 z_g3 z_g4 z_g5 z_g6 z_p9 e_g1 e_g2 e_g3 e_g4 e_g5 e_g6 e_p9 c_N1 c_N2 c_N3 c_N4 c_N5 c_N6 c_N7 hw fr6 D6 D5 q5 tq
    -- own == odd, odd == own
    refine ⟨_, rfl, _, rfl, x, y1d, _, .type Tv, rfl, j1, .base ty, kit2, x, v, [0, 1], [(0, 1)], rfl, kw, .inl ⟨Tv, hTv, ty, false, rfl, ?_⟩⟩
    refine ⟨_, rfl, _, rfl, x, y1d, _, Tv, rfl, j1, ty, hTv, kit3, x, v, [0, 1], [(0, 1)], rfl, kw, .inl ⟨Tv, hTv, ty, false, rfl, ?_⟩⟩
    -- own != Web([0, 1], ((0, 1),))
    refine ⟨_, rfl, ?_⟩
    refine ⟨by show 2 ≤ sizeLine; decide, fun o1 n_o1 => ?_⟩
    have q_R1 : Same H6 (upd H6 o1 (.lst [.int 0, .int 1])) := same_new n_o1
    have v_o1 : (upd H6 o1 (.lst [.int 0, .int 1])) o1 = some (.lst [.int 0, .int 1]) := upd_same
    have c_R1 : Same H6 (upd H6 o1 (.lst [.int 0, .int 1])) := q_R1
    have z_o1 : H6 o1 = none := n_o1
    clear n_o1
    generalize upd H6 o1 (.lst [.int 0, .int 1]) = R1 at *
    refine ⟨by show 2 ≤ sizeLine; decide, fun o2 n_o2 => ?_⟩
    have q_R2 : Same R1 (upd R1 o2 (.tup [.int 0, .int 1])) := same_new n_o2
    have v_o2 : (upd R1 o2 (.tup [.int 0, .int 1])) o2 = some (.tup [.int 0, .int 1]) := upd_same
    have c_R2 : Same H6 (upd R1 o2 (.tup [.int 0, .int 1])) := c_R1.trans q_R2
    have z_o2 : H6 o2 = none := c_R1.free n_o2
    clear n_o2
    generalize upd R1 o2 (.tup [.int 0, .int 1]) = R2 at *
    refine ⟨by show 1 ≤ sizeLine; decide, fun o3 n_o3 => ?_⟩
    have q_R3 : Same R2 (upd R2 o3 (.tup [.ref o2])) := same_new n_o3
    have v_o3 : (upd R2 o3 (.tup [.ref o2])) o3 = some (.tup [.ref o2]) := upd_same
    have c_R3 : Same H6 (upd R2 o3 (.tup [.ref o2])) := c_R2.trans q_R3
    have z_o3 : H6 o3 = none := c_R2.free n_o3
    clear n_o3
    generalize upd R2 o3 (.tup [.ref o2]) = R3 at *
    have u_R3 : Same R3 R3 := Same.refl _
    have u_R2 : Same R2 R3 := q_R3.trans u_R3
    have u_R1 : Same R1 R3 := q_R2.trans u_R2
    have e_o1 := u_R1 _ _ v_o1
    have e_o2 := u_R2 _ _ v_o2
    have e_o3 := u_R3 _ _ v_o3
    clear q_R1 q_R2 q_R3 u_R1 u_R2 u_R3 v_o1 v_o2 v_o3
    intro x2 dx2 nx2 ndx2 ne2
    have y2 : Same R3 (upd (upd R3 dx2 (.own x2)) x2 (.ins C dx2 [])) := fun b u e => by rw [upd_ne (ne_of_none e nx2), upd_ne (ne_of_none e ndx2)]; exact e
    refine ⟨x2, dx2, o1, o3, [0, 1], [o2], [(0, 1)], rfl, upd_same, .inl (y2 _ _ e_o1), ⟨by decide, by decide, by decide⟩, .inr (y2 _ _ e_o3), ⟨y2 _ _ e_o2, True.intro⟩, ⟨by decide, by decide, by decide, by decide, True.intro⟩, by decide, fun H7 hw2 fr7 => ⟨rfl, ?_⟩⟩
    have s7 : Same H6 H7 := c_R3.trans fun b u e => fr7 b u (y2 b u e) (ne_of_none e nx2)
    have kw7 := kw.same s7
    obtain ⟨i1, i2, i3, i4, i5, m1, m2, m3, m4⟩ := id hw2
    refine ⟨x, y1d, _, .ref C, rfl, s7 _ _ j1, .base (.ins m1 W.cl W.ha W.hn W.htk W.hm), by simp [PySem.W.notFirst], x, .ref x2, [0, 1], [(0, 1)], rfl, kw7, .inr ⟨x2, [0, 1], [(0, 1)], rfl, hw2, _, rfl, ?_⟩⟩
    have nn : (!decide (([0, 1] : List Int) = [0, 1] ∧ ([(0, 1)] : List (Int × Int)) = [(0, 1)])) = false := by decide
    rw [nn]
    refine ⟨by show 3 ≤ sizeLine; decide, fun p4 n4 => ?_⟩
    -- the end
    have bs : ∀ {H : Hp}, DqAll K H [.bl false, .bl false, .bl false] [.bool false, .bool false, .bool false] := .cons (.bl _) (.cons (.bl _) (.cons (.bl _) .nil))
    refine ⟨_, rfl, .ref p4, .list [.bool false, .bool false, .bool false], rfl, .lst upd_same bs, by decide, by decide +kernel, by decide, by decide +kernel, ?_⟩
    refine ⟨by show 3 ≤ sizeLine; decide, fun p5 n5 => ⟨.ref p5, .list [.bool false, .bool false, .bool false], rfl, .lst upd_same bs, by decide, by decide +kernel, by decide, by decide +kernel, rfl, ?_⟩⟩
    have ee : ∀ z : V, decide (z = z) = true := fun z => decide_eq_true rfl
    rw [ee]
    exact k _
end
end Vk

namespace PySem
open Sem (wp)
open AutoSeq1 (wpAny_loadPart')
/-- a tuple's walk as it is made -/
abbrev walkT (t : Addr) : Obj := { cls := .type "tuple_iterator", data := .fields #[.ref t, .int 0 0] }
/-- an enumerate as it is made -/
abbrev enumO (i : Addr) : Obj := { cls := .type "enumerate", data := .fields #[.none, .bool false, .ref i, rawInt 0, .none, .none] }
set_option maxHeartbeats 1000000 in
theorem meets_enumT (t : Addr) (items : Array Value) (n : Nat) (dct : Option Addr) (sl : Array (Option Value)) :
    Meets (Builtin.«enumerate.__new__» ⟨[.type "enumerate", .ref t], []⟩) (fun _ R s => s.heap.get? t = some ⟨.type "tuple", dct, .seq items n, sl⟩ ∧
      R (.ok (.ret (.ref (s.heap.push (walkT t)).objs.size))) { s with heap := (s.heap.push (walkT t)).push (enumO s.heap.objs.size) }) :=
  .of_wp fun prog w A R s h => by
    obtain ⟨hp, g, d, tk, os⟩ := s; obtain ⟨ht, h⟩ := h
    have sub1 := sub_enumerate
    have hT : Heap.IsTuple (Shared.heap ⟨hp, g, d, tk, os⟩) t items := ⟨_, ht, rfl, n, rfl⟩
    wp_walk using wpAny_loadPart' ht
    refine wpAny_stack_any fun fr => wpAny_pure ?_
    split
    · rename_i c _ _ _ _ _
      cases (c == Value.type "enumerate") <;> (wp_walk using wpAny_loadPart' ht, wpAny_pyIter_tuple hT; exact ⟨_, rfl, h⟩)
    · wp_walk using wpAny_loadPart' ht, wpAny_pyIter_tuple hT
      exact ⟨_, rfl, h⟩
theorem call_enumT {prog : Program} {w : World} {A : Around} {E : Value → Shared → Prop} {s : Shared} {t : Addr} {items : Array Value} {Q : Value → Shared → Prop} (hT : s.heap.IsTuple t items)
    (h : ∀ h', IsEnum h' (s.heap.objs.size + 1) s.heap.objs.size 0 .none → h'.IsTupleIter s.heap.objs.size t 0 → (∀ b o, s.heap.get? b = some o → h'.get? b = some o) → Q (.ref (s.heap.objs.size + 1)) { s with heap := h' }) :
    wpAny (model prog w) A (call (.type "enumerate") [.ref t]) Q E s := by
  obtain ⟨⟨c, dct, dt, sl⟩, ht, hc, n, hd⟩ := hT
  obtain rfl : c = .type "tuple" := hc
  obtain rfl : dt = .seq items n := hd
  refine callType_new F.called_enumerate (by decide) (F.typeCall_enumerate_1 _) (F.newCall_enumerate_1 _) (fun o => F.args_object_init_2 o _) F.entry_enumerate_new (meets_enumT t items n dct sl) ⟨ht, ?_⟩
  have sz : (s.heap.push (walkT t)).objs.size = s.heap.objs.size + 1 := Heap.size_push ..
  show _ ∧ _
  rw [sz]
  have he : IsEnum ((s.heap.push (walkT t)).push (enumO s.heap.objs.size)) (s.heap.objs.size + 1) s.heap.objs.size 0 .none := by
    have z := Heap.get?_push_size (s.heap.push (walkT t)) (o := enumO s.heap.objs.size) rfl
    rw [sz] at z
    exact z
  exact ⟨⟨_, he, rfl⟩, h _ he ⟨_, Heap.get?_push_of_some _ (Heap.get?_push_size _ rfl), rfl, rfl⟩ fun b o x => Heap.get?_push_of_some _ (Heap.get?_push_of_some _ x)⟩
end PySem

namespace L2
open PySem PySem.Spec PyProof.Rows
/-- enumerate over the tuple at t: each item in a new pair -/
def IteT (K : PySem.W.Frag) (t : Addr) : It :=
  ⟨fun i H => ∃ (ys : List V) (y : V), SqT K H t ys ∧ ys[i]? = some y, fun i H v H' => ∃ T y, v = .ref T ∧ H T = none ∧ H' = upd H T (.tup [.int (i : Nat), y]) ∧ ∀ ys, SqT K H t ys → ys[i]? = some y, fun i H => ∃ ys : List V, SqT K H t ys ∧ ys.length = i⟩
theorem enum_ne {h : Heap} {e j t : Addr} {i : Int} {old : Value} {items : Array Value} (he : IsEnum h e j i old) (ht : h.IsTuple t items) : e ≠ t := by
  rintro rfl
  obtain ⟨o, h1, h2, _⟩ := ht
  have z := he.symm.trans h1
  cases z
  have z2 : Value.type "enumerate" = Value.type "tuple" := h2
  exact absurd z2 (by decide)
theorem walk_ne {h : Heap} {j t : Addr} {i : Nat} {items : Array Value} (hj : h.IsTupleIter j t i) (ht : h.IsTuple t items) : t ≠ j := by
  rintro rfl
  obtain ⟨o, h1, h2, _⟩ := ht
  obtain ⟨u, g1, g2, _⟩ := hj
  rw [h1] at g1
  cases g1
  rw [h2] at g2
  exact absurd g2 (by decide)
theorem turn_enumT {P : Program} {w : World} {K : PySem.W.Frag} {es : List Expr} {k0 : Nat} {tp : Pos} (t e j : Addr) :
    Turn P w K (.Tuple es k0 tp) (IteT K t) [e, j] e (fun i h => (∃ old, IsEnum h e j ((i : Nat) : Int) old) ∧ h.IsTupleIter j t i ∧ e ≠ j) where
  mem := by simp
  obj := by
    rintro i h ⟨⟨old, he⟩, ⟨o, ho, hc, hd⟩, _⟩ b hb
    rcases (by simpa using hb : b = e ∨ b = j) with rfl | rfl
    · exact ⟨_, he, fun v q => nomatch q⟩
    · exact ⟨o, ho, fun v q => by rw [hd] at q; cases q⟩
  keep := by
    rintro i h h' ⟨⟨old, he⟩, hj, hne⟩ kp
    exact ⟨⟨old, kp e (by simp) _ he⟩, hj.at fun o q => kp j (by simp) o q, hne⟩
  item := by
    intro X eP ew eK hc i pins s σ H E I hf st hg
    subst eP ew eK
    obtain ⟨⟨old, he⟩, hj, hne⟩ := st
    obtain ⟨ys, y, hq, hy⟩ := hg
    obtain ⟨us, rv, p, _⟩ := I.tuple hq
    have hT : s.heap.IsTuple t us.toArray := let ⟨o, g1, g2, n, g3⟩ := p; ⟨o, g1, g2, n, g3⟩
    obtain ⟨u, hu, ru⟩ := rv.get hy
    have le : e < s.heap.objs.size := Heap.lt_size he
    have lj : j < s.heap.objs.size := let ⟨_, z, _⟩ := hj; Heap.lt_size z
    have il : i < us.toArray.size := by rw [List.size_toArray]; exact (List.getElem?_eq_some_iff.mp hu).1
    have D := Draws.tuple (prog := X.prog) (w := X.w) (A := X.A.in1) (I.ok.hd hc) j t (walk_ne hj hT) us.toArray
    have hm : e ∉ [j, t] := by
      intro z
      rcases (by simpa using z : e = j ∨ e = t) with z | z
      · exact hne z
      · exact enum_ne he hT z
    refine wpAny_pyNext_enum_itemD D he ⟨hj, hT⟩ il hne hm fun x h1 tk hx ho hst hN hsz hk => ?_
    have ex : x = u := by
      have z : us[i]? = some x := by simpa using hx
      rw [hu] at z
      exact (Option.some.inj z).symm
    subst ex
    refine ⟨_, rfl, wpAny_letOwnedTupleGo_enum (s := { s with heap := h1, toks := tk + 1 }) ho fun h2 he2 sb => ?_⟩
    have hN2 : h2.get? s.heap.objs.size = some { cls := .type "tuple", data := .seq #[.int i tk, x] } := (sb.2 _ (Nat.ne_of_gt le)).trans hN
    have new : ObjOk X.prog X.w (upd H s.heap.objs.size (.tup [.int (i : Nat), y])) h2 s.heap.objs.size (.tup [.int (i : Nat), y]) :=
      ⟨by show 2 ≤ sizeLine; decide, [.int i tk, x], .cons ⟨_, rfl⟩ (.cons ru .nil), ⟨_, hN2, rfl, _, rfl⟩⟩
    have I2 : Inv X pins σ (upd H s.heap.objs.size (.tup [.int (i : Nat), y])) { s with heap := h2, toks := tk + 1 } :=
      I.turnedNew (ch := [e, j]) (fun b ob hb q => (sb.2 b (fun z => hb (by simp [z]))).trans (hk b ob (fun z => hb (by simp [z])) (fun z => hb (by simp [z])) q)) hf (Nat.le_refl _) new
    refine ⟨.ref s.heap.objs.size, _, I2, rfl, ⟨_, y, rfl, I.hok.fresh (Nat.le_refl _), rfl, fun zs hz => by rw [I.tuple_inj hz hq]; exact hy⟩, ⟨⟨x, ?_⟩, hst.1.at fun o q => (sb.2 j (Ne.symm hne)).trans q, hne⟩, fun b hb => ?_⟩
    · rw [show ((i + 1 : Nat) : Int) = (i : Int) + 1 by omega]
      exact he2
    · have lb : b < s.heap.objs.size := by
        rcases (by simpa using hb : b = e ∨ b = j) with z | z
        · exact z ▸ le
        · exact z ▸ lj
      rw [upd_ne (Nat.ne_of_lt lb)]
      exact (hf b hb).1
  done := by
    intro X eP ew eK hc i pins s σ H E I hf st hg
    subst eP ew eK
    obtain ⟨⟨old, he⟩, hj, hne⟩ := st
    obtain ⟨ys, hq, hl⟩ := hg
    obtain ⟨us, rv, p, _⟩ := I.tuple hq
    have hT : s.heap.IsTuple t us.toArray := let ⟨o, g1, g2, n, g3⟩ := p; ⟨o, g1, g2, n, g3⟩
    obtain ⟨f0, f1, f2, f3, f4, f5⟩ := hf j (by simp)
    have sz : us.toArray.size = i := by rw [List.size_toArray, ← rv.length]; exact hl
    have D := Draws.tuple (prog := X.prog) (w := X.w) (A := X.A.in1) (I.ok.hd hc) j t (walk_ne hj hT) us.toArray
    exact wpAny_pyNext_enum_endD D he ⟨by rw [sz]; exact hj, hT⟩ fun h1 eb => ⟨rfl, I.turned (t' := s.toks) (fun b o hb q => eb b o hb q) f0 f1 f3 f4 f5⟩
  self := fun A i s Q E st h => let ⟨⟨_, he⟩, _⟩ := st; wpAny_pyIter_enum he h
/-- one of two ways to walk -/
theorem pi_or {X : Cx} {tg e : Expr} {w1 w2 : TI} (h1 : PI X tg e w1) (h2 : PI X tg e w2) : PI X tg e (fun σ H R => w1 σ H R ∨ w2 σ H R) :=
  ⟨fun pins s σ H R I h => h.elim (h1.run pins s σ H R I) (h2.run pins s σ H R I)⟩
/-- for i, x in enumerate(a list or a tuple) -/
def iEnumB (K : PySem.W.Frag) (ta : TA) : TI := fun σ H R => ta σ H fun vs H1 => ∃ t ys, vs = [.ref t] ∧ ((SqL K H1 t ys ∧ R (Ite K t) H1) ∨ (SqT K H1 t ys ∧ R (IteT K t) H1))
theorem pi_enumB {X : Cx} {e : Expr} {ta : TA} {p pos tp : Pos} {es : List Expr} {k0 : Nat} (hg : Gl X "enumerate") (hm : X.mg "enumerate" = none) (ha : PA X [e] ta) (hs : starEach [e] X.env = [(false, eval e X.env)] := by rfl) :
    PI X (.Tuple es k0 tp) (.Call (.Name "enumerate" p) [e] [] pos) (iEnumB X.K ta) := by
  refine ⟨fun pins s σ H R I h => Call_ (ld_blt I hg hm boot_enumerate (PyProof.Rows.callWith_type1 (thn (ha.run pos pins s σ H _ I h) fun us s1 hh => ?_) hs rfl))⟩
  obtain ⟨vs, H1, I1, r1, t, ys, rfl, hh⟩ := hh
  obtain ⟨u, rfl, ru⟩ := vals1 r1
  obtain rfl : u = Value.ref t := ru
  have fp : ∀ b ∈ [s1.heap.objs.size + 1, s1.heap.objs.size], s1.heap.objs.size ≤ b := by
    intro b hb
    rcases (by simpa using hb : b = s1.heap.objs.size + 1 ∨ b = s1.heap.objs.size) with z | z
    · exact z ▸ Nat.le_add_right _ _
    · exact z ▸ Nat.le_refl _
  rcases hh with ⟨hq, q⟩ | ⟨hq, q⟩
  · obtain ⟨us, rv, pl, _⟩ := I1.list hq
    refine call_enumerate_list pl.isList fun h' he hit _ hk => wpAny_pyIter_enum he ?_
    exact ⟨s1.heap.objs.size + 1, [s1.heap.objs.size + 1, s1.heap.objs.size], _, _, H1, rfl, I1.kept (t' := s1.toks) hk, turn_enum t (s1.heap.objs.size + 1) s1.heap.objs.size, ⟨⟨.none, he⟩, hit, Nat.succ_ne_self _⟩, fun b hb => I1.fpOk (fp b hb) (I1.hok.fresh (fp b hb)), q⟩
  · obtain ⟨us, rv, pl, _⟩ := I1.tuple hq
    have hT : s1.heap.IsTuple t us.toArray := let ⟨o, g1, g2, n, g3⟩ := pl; ⟨o, g1, g2, n, g3⟩
    refine call_enumT hT fun h' he hit hk => wpAny_pyIter_enum he ?_
    exact ⟨s1.heap.objs.size + 1, [s1.heap.objs.size + 1, s1.heap.objs.size], _, _, H1, rfl, I1.kept (t' := s1.toks) hk, turn_enumT t (s1.heap.objs.size + 1) s1.heap.objs.size, ⟨⟨.none, he⟩, hit, Nat.succ_ne_self _⟩, fun b hb => I1.fpOk (fp b hb) (I1.hok.fresh (fp b hb)), q⟩
theorem walk_enumT {K : PySem.W.Frag} {t : Addr} {ys : List V} : Walk (IteT K t) ys.length (fun H => SqT K H t ys) (YPair (fun i => some (.int (i : Nat))) (fun i => ys[i]?)) :=
  ⟨fun i _ hi q => ⟨ys, ys[i], q, by simp [hi]⟩, fun _ q => ⟨ys, q, rfl⟩, fun i H x H' _ q ⟨T, y, e1, e2, e3, e4⟩ => ⟨T, .int (i : Nat), y, e1, e2, e3, rfl, e4 ys q⟩⟩
end L2

namespace Vk
open PySem PySem.Spec PyProof.Rows L2 VkX
section
variable {P : Program} {w : World} {K : PySem.W.Frag} {mg : Str → Option Value} {base : Heap} {C1 C2 C7 f1 f2 f7 : Addr}
theorem SqB.same {H H' : Hp} {c : Addr} {xs : List V} (h : SqB H c xs) (s : Same H H') : SqB H' c xs := h.imp (s _ _) (s _ _)
theorem SqB.seq {H : Hp} {c : Addr} {xs : List V} (h : SqB H c xs) : SqL K H c xs ∨ SqT K H c xs := h.imp (fun e => .inl (.inl e)) (fun e => .inl (.inl e))
theorem kit_tt : PySem.W.kitAny K (.type "tuple") [.type "list", .type "tuple"] = some true := kitAny_cons (b := false) (kit_ty (by decide +kernel)) (fun _ => kitAny_cons (b := true) (kit_ty (by decide +kernel)) (fun z => nomatch z) fun _ => rfl) (fun z => nomatch z)
theorem SqB.ty {H : Hp} {c : Addr} {xs : List V} (h : SqB H c xs) : ∃ Ty, TyOf K H (.ref c) (.type Ty) ∧ PySem.W.kitAny K (.type Ty) [.type "list", .type "tuple"] = some true :=
  h.elim (fun e => ⟨_, .lst e, kit_lt⟩) (fun e => ⟨_, .tup e, kit_tt⟩)
theorem SqB.ne {H : Hp} {c p C dx : Addr} {xs : List V} {fs : List (Str × V)} (h : SqB H c xs) (hp : H p = some (.ins C dx fs)) : c ≠ p := h.elim (fun e => ne_of e hp (by intro z; cases z)) (fun e => ne_of e hp (by intro z; cases z))
/-- a for over enumerate of a list or a tuple that stays -/
theorem for_enumB {ta : TA} {c : Addr} {xs : List V} {g : TG} {tb : TS} {D : Ends} {σ : L2.St} {H : Hp} (ha : ∀ R : List V → Hp → Prop, R [.ref c] H → ta σ H R) (hc : SqB H c xs) (Pv : Nat → L2.St → Hp → Prop) (h0 : Pv 0 σ H)
    (hG : ∀ i σ H', i ≤ xs.length → Pv i σ H' → Same H H') (hs : ∀ i x σ H H', i < xs.length → Pv i σ H → YPair (fun i => some (.int (i : Nat))) (fun i => xs[i]?) i H x H' → g x σ H' fun σ2 H2 => tb { D with nx := Pv (i + 1), ct := Pv (i + 1), bk := D.nx } σ2 H2)
    (hd : ∀ σ H, Pv xs.length σ H → D.nx σ H) : tFor (iEnumB K ta) g tb D σ H :=
  ha _ ⟨c, xs, rfl, hc.elim (fun e => .inl ⟨.inl (.inl e), for_it walk_enum Pv h0 (fun i σ H' hi p => .inl (.inl (hG i σ H' hi p _ _ e))) hs hd⟩) (fun e => .inr ⟨.inl (.inl e), for_it walk_enumT Pv h0 (fun i σ H' hi p => .inl (.inl (hG i σ H' hi p _ _ e))) hs hd⟩)⟩
/-- a for over a list or a tuple that stays -/
theorem for_seqB {te : TE} {c : Addr} {xs : List V} {g : TG} {tb : TS} {D : Ends} {σ : L2.St} {H0 H : Hp} (ha : ∀ R : VK, R (.ref c) H → te σ H R) (hc : SqB H0 c xs) (s0 : Same H0 H) (Pv : Nat → L2.St → Hp → Prop) (h0 : Pv 0 σ H)
    (hG : ∀ i σ H', i ≤ xs.length → Pv i σ H' → Same H0 H') (hs : ∀ i x σ H, xs[i]? = some x → Pv i σ H → g x σ H fun σ2 H2 => tb { D with nx := Pv (i + 1), ct := Pv (i + 1), bk := D.nx } σ2 H2)
    (hd : ∀ σ H, Pv xs.length σ H → D.nx σ H) : tFor (fun σ H R => iList K te σ H R ∨ iTup K te σ H R) g tb D σ H := by
  have hs' : ∀ i x σ H H', i < xs.length → Pv i σ H → YAt xs i H x H' → g x σ H' fun σ2 H2 => tb { D with nx := Pv (i + 1), ct := Pv (i + 1), bk := D.nx } σ2 H2 := by
    rintro i x σ H H' hi p ⟨rfl, y⟩
    exact hs i x σ _ y p
  rcases hc with e | e
  · exact .inl (ha _ ⟨c, rfl, ⟨xs, .inl (.inl (s0 _ _ e))⟩, for_it walk_list Pv h0 (fun i σ H' hi p => .inl (.inl (hG i σ H' hi p _ _ e))) hs' hd⟩)
  · exact .inr (ha _ ⟨c, rfl, ⟨xs, .inl (.inl (s0 _ _ e))⟩, for_it walk_tup Pv h0 (fun i σ H' hi p => .inl (.inl (hG i σ H' hi p _ _ e))) hs' hd⟩)
/-- tuple(a list or a tuple) -/
def rTup (K : PySem.W.Frag) : List V → Hp → VK → Prop := fun xs H Q => ∃ p ys, xs = [.ref p] ∧ ((SqL K H p ys ∧ ∀ l, H l = none → Q (.ref l) (upd H l (.tup ys))) ∨ (SqT K H p ys ∧ Q (.ref p) H))
theorem tup_any {H : Hp} {c : Addr} {xs : List V} {Q : VK} (hc : SqB H c xs) (k : ∀ c' H', Same H H' → H' c' = some (.tup xs) → Q (.ref c') H') : rTup K [.ref c] H Q :=
  ⟨c, xs, rfl, hc.elim (fun e => .inl ⟨.inl (.inl e), fun l nl => k l _ (same_new nl) upd_same⟩) (fun e => .inr ⟨.inl (.inl e), k c H (Same.refl _) e⟩)⟩
def spCheckCB : Sp := fun vs H Q _ => ∃ (c : Addr) (cs : List Int), vs = [.ref c] ∧ SqB H c (cs.map V.int) ∧ Cols cs ∧ ∀ H', Same H H' → Q .non H'
theorem scCheckCB : FnScope ["colours", "place", "colour"] ["colours"] (defScope sCheckC) := ⟨rfl, rfl, rfl, by decide +kernel, rfl, by decide +kernel, by decide +kernel⟩
theorem ok_checkCB {f fB : Addr} {fd fdB : FuncData} (T : TW P K mg C1 C2 C7 f1 f2 f7) (F : Fun K "check_colours" "check_colours" sCheckC f fd) (FB : Fun K "is_below" "is_below" sBelow fB fdB) (bB : Binds K fdB ["value", "many"] []) (mB : mg "is_below" = some (.ref fB)) (GB : FnOk P w K mg base CX0 2 fB fdB ["value", "many"] spBelow) :
    FnOk P w K mg base (L2.CX P w) 3 f fd ["colours"] spCheckCB := by
  refine F.okX scCheckCB (fun vs H Q E h => ?_) (fun cdv A outer s H vs Q E hr h => ?_)
  · obtain ⟨c, cs, rfl, _⟩ := h
    rfl
  · obtain ⟨c, cs, rfl, hc, ⟨hne, hl, hb⟩, k⟩ := h
    obtain ⟨tp, mp⟩ := T.mp
    obtain ⟨tc, mc⟩ := T.mc
    refine ⟨_, pss_cons (ps_if (PW.pt (pw_or (pt_not (pt_val (pe_callB call_isiT (by rfl) T.isi (by decide +kernel) (pa_cons (pv 0) (pa_cons (pe_tup (pa_cons (pe_bltn (v := .ty "list") (by rfl) T.list (by decide +kernel) rfl) (pa_cons (pe_bltn (v := .ty "tuple") (by rfl) T.tuple (by decide +kernel) rfl) pa_nil))) pa_nil)))))
        (pw_or1 (pt_cmpR op_eq (pe_callB call_len_seq (by rfl) T.len PySem.boot_len (pa_cons (pv 0) pa_nil)) pe_int (nomark _))))) (pss_one (ps_raise rfl (takes_of rfl rfl rfl rfl) (pmk_x T.x1 (raises_own T.b1 T.t1) hr (pa_cons pe_non pa_nil)))) pss_nil)
      (pss_cons (ps_if (pt_cmpR op_gt (pe_callB call_len_seq (by rfl) T.len PySem.boot_len (pa_cons (pv 0) pa_nil)) (pe_glob (v := .int 2000) rfl mp ⟨_, rfl⟩) (nomark _)) (pss_one (ps_raise rfl (takes_of rfl rfl rfl rfl) (pmk_x T.x7 (raises_own T.b7 T.t7) hr (pa_cons (pe_glob (v := .int 2000) rfl mp ⟨_, rfl⟩) pa_nil)))) pss_nil)
      (pss_one (ps_for (passes_of rfl) rfl (pi_enumB (by rfl) T.enu (pa_cons (pv 0) pa_nil)) (pg_tup rfl (pgs_cons (pg_name (i := 1) scCheckCB.nd rfl (Or.inl rfl)) (pgs_cons (pg_name (i := 2) scCheckCB.nd rfl (Or.inl rfl)) pgs_nil)))
        (pss_one (ps_if (pt_not (pt_val (pe_call GB hr rfl mB FB.kp bB .nil pass0 (pa_cons (pv 2) (pa_cons (pe_glob (v := .int 10) rfl mc ⟨_, rfl⟩) pa_nil))))) (pss_one (ps_raise rfl (takes_of rfl rfl rfl rfl) (pmk_x T.x1 (raises_own T.b1 T.t1) hr (pa_cons (pv 1) pa_nil)))) pss_nil))))), ?_⟩
    have hlen : (cs.map V.int).length = cs.length := List.length_map _
    have hpos : 0 < cs.length := List.length_pos_iff.mpr hne
    refine ⟨_, rfl, by decide, fun tl nt => ?_⟩
    obtain ⟨Ty, ty, kt⟩ := (hc.same (same_new (o := HO.tup [.ty "list", .ty "tuple"]) nt)).ty (K := K)
    refine ⟨_, tl, _, .type Ty, [.type "list", .type "tuple"], true, rfl, upd_same, .cons (.ty _) (.cons (.ty _) .nil), .base ty, kt, _, rfl, ?_⟩
    refine ifno rfl ?_
    have s1 : Same H (upd H tl (.tup [.ty "list", .ty "tuple"])) := same_new nt
    generalize upd H tl (.tup [.ty "list", .ty "tuple"]) = H1 at *
    have hc1 := hc.same s1
    clear ty
    refine ⟨_, rfl, c, _, rfl, hc1.seq, rfl, _, rfl, ?_⟩
    refine ifno (by rw [hlen, decV]; exact decide_eq_false (by omega)) ?_
    refine ⟨_, rfl, c, _, rfl, hc1.seq, _, _, rfl, rfl, _, rfl, ?_⟩
    refine ifno (decide_eq_false (by rw [hlen]; omega)) ?_
    dsimp only [tNext]
    refine for_enumB (fun R r => ⟨_, rfl, r⟩) hc1 (fun i σ H2 => ∃ (x y : Option V), σ = [some (.ref c), x, y] ∧ Same H1 H2) ⟨_, _, rfl, Same.refl _⟩ (fun i σ H2 _ ⟨_, _, _, s2⟩ => s2) ?_ ?_
    · rintro i x σ H2 H3 hi ⟨x0, y0, rfl, s2⟩ ⟨T0, x1, x2, rfl, hT, rfl, e1, e2⟩
      cases e1
      have e2 : (cs.map V.int)[i]? = some x2 := e2
      obtain ⟨z, hz, rfl⟩ : ∃ z, z ∈ cs ∧ x2 = V.int z := by
        rw [List.getElem?_map] at e2
        cases e : cs[i]? with
        | none => rw [e] at e2; cases e2
        | some z => rw [e] at e2; exact ⟨z, List.mem_of_getElem? e, (Option.some.inj e2).symm⟩
      refine ⟨T0, _, rfl, .inl (.inl upd_same), rfl, _, _, rfl, _, _, rfl, rfl, ?_⟩
      refine ⟨_, rfl, z, 10, rfl, _, rfl, ?_⟩
      refine ifno (by have := hb z hz; simp [this.1, this.2]) ?_
      exact ⟨_, _, rfl, s2.trans (same_new hT)⟩
    rintro σ H2 ⟨x, y, rfl, s2⟩
    exact k H2 (s1.trans s2)
def spCheckTB : Sp := fun vs H Q _ => ∃ (c : Addr) (m : Int) (rs : List Addr) (ts : List (Int × Int)), vs = [.ref c, .int m] ∧ SqB H c (rs.map V.ref) ∧ TiesAt H rs ts ∧ Ties m 0 0 ts ∧ ts.length ≤ 30000 ∧ ∀ H', Same H H' → Q .non H'
theorem scCheckTB : FnScope ["ties", "many", "before", "number", "tie"] ["ties", "many"] (defScope sCheckT) := ⟨rfl, rfl, rfl, by decide +kernel, rfl, by decide +kernel, by decide +kernel⟩
theorem ok_checkTB {f fI : Addr} {fd fdI : FuncData} (T : TW P K mg C1 C2 C7 f1 f2 f7) (F : Fun K "check_ties" "check_ties" sCheckT f fd) (FI : Fun K "is_tie" "is_tie" sIsTie fI fdI) (bI : Binds K fdI ["value", "many"] []) (mI : mg "is_tie" = some (.ref fI)) (GI : FnOk P w K mg base CX0 3 fI fdI ["value", "many"] spIsTie) :
    FnOk P w K mg base (L2.CX P w) 4 f fd ["ties", "many"] spCheckTB := by
  refine F.okX scCheckTB (fun vs H Q E h => ?_) (fun cdv A outer s H vs Q E hr h => ?_)
  · obtain ⟨c, m, rs, ts, rfl, _⟩ := h
    rfl
  · obtain ⟨c, m, rs, ts, rfl, hc, hT, hts, hl, k⟩ := h
    obtain ⟨tp, mt⟩ := T.mt
    have hu := hr.units0
    refine ⟨_, pss_cons (ps_if (pt_not (pt_val (pe_callB call_isiT (by rfl) T.isi (by decide +kernel) (pa_cons (pv 0) (pa_cons (pe_tup (pa_cons (pe_bltn (v := .ty "list") (by rfl) T.list (by decide +kernel) rfl) (pa_cons (pe_bltn (v := .ty "tuple") (by rfl) T.tuple (by decide +kernel) rfl) pa_nil))) pa_nil)))))
        (pss_one (ps_raise rfl (takes_of rfl rfl rfl rfl) (pmk_x T.x2 (raises_own T.b2 T.t2) hr (pa_cons pe_non pa_nil)))) pss_nil)
      (pss_cons (ps_if (pt_cmpR op_gt (pe_callB call_len_seq (by rfl) T.len PySem.boot_len (pa_cons (pv 0) pa_nil)) (pe_glob (v := .int 30000) rfl mt ⟨_, rfl⟩) (nomark _)) (pss_one (ps_raise rfl (takes_of rfl rfl rfl rfl) (pmk_x T.x7 (raises_own T.b7 T.t7) hr (pa_cons (pe_glob (v := .int 30000) rfl mt ⟨_, rfl⟩) pa_nil)))) pss_nil)
      (pss_cons (ps_set (i := 2) scCheckTB.nd rfl (Or.inl rfl) (pe_tup (pa_cons pe_int (pa_cons pe_int pa_nil))))
      (pss_one (ps_for (passes_of rfl) rfl (pi_enumB (by rfl) T.enu (pa_cons (pv 0) pa_nil)) (pg_tup rfl (pgs_cons (pg_name (i := 3) scCheckTB.nd rfl (Or.inl rfl)) (pgs_cons (pg_name (i := 4) scCheckTB.nd rfl (Or.inl rfl)) pgs_nil)))
        (pss_cons (ps_if (PW.pt (pw_or (pt_not (pt_val (pe_call GI hr rfl mI FI.kp bI .nil pass0 (pa_cons (pv 4) (pa_cons (pv 1) pa_nil))))) (pw_or1 (pt_not (pt_cmpR (op_ltT hu) (pv 2) (pv 4) (nomark _))))))
          (pss_one (ps_raise rfl (takes_of rfl rfl rfl rfl) (pmk_x T.x2 (raises_own T.b2 T.t2) hr (pa_cons (pv 3) pa_nil)))) pss_nil)
        (pss_one (ps_set (i := 2) scCheckTB.nd rfl (Or.inl rfl) (pv 4)))))))), ?_⟩
    have hlen : (rs.map V.ref).length = ts.length := by rw [List.length_map]; exact hT.len
    refine ⟨_, rfl, by decide, fun tl nt => ?_⟩
    obtain ⟨Ty, ty, kt⟩ := (hc.same (same_new (o := HO.tup [.ty "list", .ty "tuple"]) nt)).ty (K := K)
    refine ⟨_, tl, _, .type Ty, [.type "list", .type "tuple"], true, rfl, upd_same, .cons (.ty _) (.cons (.ty _) .nil), .base ty, kt, _, rfl, ?_⟩
    refine ifno rfl ?_
    have s1 : Same H (upd H tl (.tup [.ty "list", .ty "tuple"])) := same_new nt
    generalize upd H tl (.tup [.ty "list", .ty "tuple"]) = H1 at *
    refine ⟨_, rfl, c, _, rfl, (hc.same s1).seq, _, _, rfl, rfl, _, rfl, ?_⟩
    refine ifno (decide_eq_false (by rw [hlen]; omega)) ?_
    refine ⟨by decide, fun b0 nb => ?_⟩
    have s2 : Same H (upd H1 b0 (.tup [.int 0, .int 0])) := s1.trans (same_new nb)
    have h0 : (upd H1 b0 (.tup [.int 0, .int 0])) b0 = some (.tup [.int 0, .int 0]) := upd_same
    generalize upd H1 b0 (.tup [.int 0, .int 0]) = H2 at *
    have hc2 := hc.same s2
    have hT2 := hT.same s2
    dsimp only [gName]
    refine for_enumB (fun R r => ⟨_, rfl, r⟩) hc2 (fun i σ H3 => ∃ (b : Addr) (x y : Option V), σ = [some (.ref c), some (.int m), some (.ref b), x, y] ∧ Same H2 H3 ∧ H3 b = some (.tup [.int (ahead 0 0 ts i).1, .int (ahead 0 0 ts i).2]))
      ⟨b0, _, _, rfl, Same.refl _, h0⟩ (fun i σ H3 _ ⟨_, _, _, _, s3, _⟩ => s3) ?_ ?_
    · rintro i x σ H3 H4 hi ⟨b, x0, y0, rfl, s3, hb⟩ ⟨T0, x1, x2, rfl, hT0, rfl, e1, e2⟩
      cases e1
      have e2 : (rs.map V.ref)[i]? = some x2 := e2
      obtain ⟨r, hr0, rfl⟩ : ∃ r, rs[i]? = some r ∧ x2 = V.ref r := by
        rw [List.getElem?_map] at e2
        cases e : rs[i]? with
        | none => rw [e] at e2; cases e2
        | some z => rw [e] at e2; exact ⟨z, rfl, (Option.some.inj e2).symm⟩
      obtain ⟨t, ht, hrt⟩ := hT2.at hr0
      obtain ⟨z1, z2, z3, z4⟩ := hts.at ht
      have s4 : Same H2 (upd H3 T0 (.tup [.int (i : Int), .ref r])) := s3.trans (same_new hT0)
      have hb4 := (same_new (o := .tup [.int (i : Int), .ref r]) hT0) _ _ hb
      refine ⟨T0, _, rfl, .inl (.inl upd_same), rfl, _, _, rfl, _, _, rfl, rfl, ?_⟩
      generalize upd H3 T0 (.tup [.int (i : Int), .ref r]) = L0 at *
      have hr4 := s4 _ _ hrt
      refine ⟨_, rfl, _, rfl, r, t.1, t.2, m, rfl, hr4, _, rfl, ?_⟩
      refine ifno (by simp [z1, z2, z3]) ?_
      refine ⟨_, rfl, _, rfl, b, r, [_, _], [_, _], rfl, rfl, .inl (.inl hb4), .inl (.inl hr4), _, rfl, ?_⟩
      have lt : HT.lexLt [(ahead 0 0 ts i).1, (ahead 0 0 ts i).2] [t.1, t.2] = true := by
        simp only [HT.lexLt]
        rcases z4 with z | ⟨z, z'⟩
        · rw [if_neg (by omega)]
          exact decide_eq_true z
        · rw [if_pos z, if_neg (by omega)]
          exact decide_eq_true z'
      refine ifno (by rw [lt]; rfl) ?_
      refine ⟨_, rfl, r, _, _, rfl, s4, ?_⟩
      have e : ahead 0 0 ts (i + 1) = t := by
        show ts.getD i (0, 0) = t
        rw [List.getD_eq_getElem?_getD, ht]
        rfl
      rw [e]
      exact hr4
    rintro σ H3 ⟨b, x, y, rfl, s3, _⟩
    exact k H3 (s2.trans s3)
def spRowsB : Sp := fun vs H Q _ => ∃ (c : Addr) (n : Nat) (rs : List Addr) (ts : List (Int × Int)), vs = [.int (n : Int), .ref c] ∧ n ≤ 2000 ∧ SqB H c (rs.map V.ref) ∧ TiesAt H rs ts ∧ Ties (n : Int) 0 0 ts ∧ ts.length ≤ 30000 ∧
  ∀ H' p, Same H H' → H p = none → (∃ xs, H' p = some (.tup xs)) → Q (.ref p) H'
theorem ok_rowsB {f : Addr} {fd : FuncData} (T : TW P K mg C1 C2 C7 f1 f2 f7) (F : Fun K "neighbour_rows" "neighbour_rows" sRows f fd) : FnOk P w K mg base CX0 1 f fd ["many", "ties"] spRowsB := by
  refine F.ok scRows (fun vs H Q E h => ?_) (fun cdv A outer s H vs Q E hr h => ?_)
  · obtain ⟨c, n, rs, ts, rfl, _⟩ := h
    rfl
  · obtain ⟨c, n, rs, ts, rfl, hn, hc, hT, hts, hl, k⟩ := h
    refine ⟨_, pss_cons (ps_setLc (i := 2) (own := [("place", 5)]) (g := gName 5) (tt := tYes) rfl scRows.nd rfl rfl (sw_true rfl rfl rfl (by decide +kernel)) (pi_range1 rfl T.rng (pa_cons (pv 0) pa_nil))
          (blkOk_by (own := [("place", 5)]) (N := ["many", "ties", "rows", "low", "high", "place", "row"]) (sc := defScope sRows) (by decide +kernel)) (fun _ _ _ _ _ => pg_name (i := 5) scRows.nd rfl (Or.inl rfl)) (fun _ _ _ _ _ => pts_nil) (fun _ _ _ _ _ => pe_lst pa_nil))
      (pss_cons (ps_for PassesOwn.never rfl (pi_or (pi_list (pv 1)) (pi_tup (pv 1))) (pg_tup rfl (pgs_cons (pg_name (i := 3) scRows.nd rfl (Or.inl rfl)) (pgs_cons (pg_name (i := 4) scRows.nd rfl (Or.inl rfl)) pgs_nil)))
        (pss_cons (ps_expr (pe_bm PySem.F.plainAttrs_list PySem.F.slot_list_append PySem.F.type_list_append mt_append (pe_ix ix_list (pv 2) (pv 3) (fun _ _ => rfl)) (pa_cons (pv 4) pa_nil)))
        (pss_one (ps_expr (pe_bm PySem.F.plainAttrs_list PySem.F.slot_list_append PySem.F.type_list_append mt_append (pe_ix ix_list (pv 2) (pv 4) (fun _ _ => rfl)) (pa_cons (pv 3) pa_nil))))))
      (pss_one (ps_ret (pe_callTy call_tuple_of (by rfl) T.tuple (by decide +kernel) (pa_cons (pe_lc (own := [("row", 6)]) (g := gName 6) (tt := tYes) rfl scRows.nd (pi_list (pv 2)) (blkOk_by (own := [("row", 6)]) (N := ["many", "ties", "rows", "low", "high", "place", "row"]) (sc := defScope sRows) (by decide +kernel)) (fun _ _ _ _ _ => pg_name (i := 6) scRows.nd rfl (Or.inl rfl)) (fun _ _ _ _ _ => pts_nil)
          (fun _ _ _ _ _ => pe_callTy (T := "tuple") (r := fun xs H Q => ∃ p ys, xs = [.ref p] ∧ ((SqL K H p ys ∧ ∀ l, H l = none → Q (.ref l) (upd H l (.tup ys))) ∨ (SqT K H p ys ∧ Q (.ref p) H))) (by exact call_tuple_of) (by rfl) T.tuple (by decide +kernel) (pa_cons (pv 6) pa_nil))) pa_nil))))), ?_⟩
    -- rows
    refine ⟨_, rfl, (n : Int), rfl, by omega, by omega, fun D hD => lc_range (lo := 0) (n := n) (fun i H' => ∃ ls : List Addr, ls.length = i ∧ RowsAt H H' D ls 0) ⟨[], rfl, upd_same, same_new hD, fun l hl => nomatch hl⟩ ?_ ?_⟩
    · rintro i H' hi ⟨ls, hls, r1, r2, r3⟩
      refine ⟨rfl, ?_⟩
      dsimp only [tYes]
      rw [if_pos rfl]
      refine ⟨by decide, fun l nl => ?_⟩
      have nlD : l ≠ D := fun z => by rw [z, r1] at nl; cases nl
      refine ⟨_, by rw [upd_ne (Ne.symm nlD)]; exact r1, by rw [List.length_map, hls]; exact Nat.lt_of_lt_of_le hi (Nat.le_trans hn (by decide)), ls ++ [l], by rw [List.length_append, hls]; rfl, ?_, ?_, ?_⟩
      · rw [upd_same, List.map_append]
        rfl
      · exact fun b o e => by rw [upd_ne (ne_of_none e hD)]; exact (same_new nl) b o (r2 b o e)
      · intro l' hl'
        rcases List.mem_append.mp hl' with q | q
        · obtain ⟨m1, m2, zs, m3, m4⟩ := r3 l' q
          exact ⟨m1, m2, zs, by rw [upd_ne m1]; exact (same_new nl) _ _ m3, m4⟩
        · rcases List.mem_singleton.mp q with rfl
          exact ⟨nlD, r2.free nl, [], by rw [upd_ne nlD, upd_same], Nat.le_refl _⟩
    rintro H1 ⟨ls, hls, R1⟩
    have hc1 := hc.same R1.2.1
    have hlenr : rs.length = ts.length := hT.len
    -- for low, high in ties
    show tFor (fun σ H R => iList _ _ σ H R ∨ iTup _ _ σ H R) _ _ _ _ _
    refine for_seqB (fun R r => ⟨_, rfl, r⟩) hc R1.2.1 (fun i σ H2 => i ≤ ts.length ∧ ∃ (x y u v : Option V), σ = [some (.int (n : Int)), some (.ref c), some (.ref D), x, y, u, v] ∧ RowsAt H H2 D ls (2 * i))
      ⟨Nat.zero_le _, _, _, _, _, rfl, R1⟩ (fun i σ H2 _ ⟨_, _, _, _, _, _, R⟩  => R.2.1) ?_ ?_
    · rintro i x σ H2 hi ⟨hi0, x0, y0, u0, v0, rfl, R⟩
      obtain ⟨r, hr0, rfl⟩ : ∃ r, rs[i]? = some r ∧ x = V.ref r := by
        rw [List.getElem?_map] at hi
        cases e : rs[i]? with
        | none => rw [e] at hi; cases hi
        | some z => rw [e] at hi; exact ⟨z, rfl, (Option.some.inj hi).symm⟩
      obtain ⟨t, ht, hrt⟩ := hT.at hr0
      have hit := (List.getElem?_eq_some_iff.mp ht).1
      obtain ⟨z1, z2, z3, _⟩ := hts.at ht
      have hla : t.1.toNat < ls.length := by omega
      have hlb : t.2.toNat < ls.length := by omega
      have ea := List.getElem?_eq_getElem hla
      have eb := List.getElem?_eq_getElem hlb
      have ma : ls[t.1.toNat] ∈ ls := List.getElem_mem hla
      have mb : ls[t.2.toNat] ∈ ls := List.getElem_mem hlb
      generalize ls[t.1.toNat] = la at ea ma
      generalize ls[t.2.toNat] = lb at eb mb
      refine ⟨r, _, rfl, .inl (.inl (R.2.1 _ _ hrt)), rfl, _, _, rfl, _, _, rfl, rfl, ?_⟩
      obtain ⟨_, _, za, ha1, ha2⟩ := R.2.2 la ma
      have R2 := R.put (v := .int t.2) ma ha1 ha2
      refine ⟨_, rfl, _, rfl, D, _, _, _, rfl, rfl, .inl (.inl R.1), at_refs ea (by omega), .inl ⟨rfl, _, .inl (.inl ha1)⟩, _, rfl, la, za, _, rfl, rfl, ha1, by rw [sizeLine_eq]; omega, ?_⟩
      generalize upd H2 la (.lst (za ++ [.int t.2])) = H3 at *
      obtain ⟨_, _, zb, hb1, hb2⟩ := R2.2.2 lb mb
      have R3 := R2.put (v := .int t.1) mb hb1 hb2
      refine ⟨_, rfl, _, rfl, D, _, _, _, rfl, rfl, .inl (.inl R2.1), at_refs eb (by omega), .inl ⟨rfl, _, .inl (.inl hb1)⟩, _, rfl, lb, zb, _, rfl, rfl, hb1, by rw [sizeLine_eq]; omega, ?_⟩
      exact ⟨hit, _, _, _, _, rfl, R3⟩
    rintro σ H2 ⟨_, x, y, u, v, rfl, R⟩
    obtain ⟨r1, r2, r3⟩ := R
    have hls2 : ls.length ≤ 2000 := by omega
    -- return tuple([tuple(row) for row in rows])
    refine ⟨_, rfl, D, rfl, ⟨_, .inl (.inl r1)⟩, fun E1 nE => lc_list (K := K) (a := D) (xs := ls.map V.ref) (fun i H' => Same H2 H' ∧ H2 E1 = none ∧ ∃ us, H' E1 = some (.lst us) ∧ us.length = i) ⟨same_new nE, nE, [], upd_same, rfl⟩ (fun i H' _ ⟨s2, _⟩ => .inl (.inl (s2 _ _ r1))) ?_ ?_⟩
    · rintro i x H' hi ⟨s2, nE2, us, hE, hus⟩
      obtain ⟨l, hl0, rfl⟩ : ∃ r, ls[i]? = some r ∧ x = V.ref r := by
        rw [List.getElem?_map] at hi
        cases e : ls[i]? with
        | none => rw [e] at hi; cases hi
        | some z => rw [e] at hi; exact ⟨z, rfl, (Option.some.inj hi).symm⟩
      have hil := (List.getElem?_eq_some_iff.mp hl0).1
      obtain ⟨_, _, zs, hz, _⟩ := r3 l (List.mem_of_getElem? hl0)
      refine ⟨rfl, ?_⟩
      dsimp only [tYes]
      rw [if_pos rfl]
      refine ⟨_, rfl, l, zs, rfl, .inl ⟨.inl (.inl (s2 _ _ hz)), fun q nq => ?_⟩⟩
      refine ⟨us, (same_new nq) _ _ hE, by rw [sizeLine_eq]; omega, fun b o e => ?_, nE2, _, upd_same, by rw [List.length_append, hus]; rfl⟩
      rw [upd_ne (ne_of_none e nE2)]
      exact (same_new nq) b o (s2 b o e)
    rintro H3 ⟨s3, nE3, us, hE, hus⟩
    refine ⟨E1, us, rfl, .inl ⟨.inl (.inl hE), fun q nq => ?_⟩⟩
    exact k _ q (r2.trans (s3.trans (same_new nq))) ((r2.trans s3).free nq) ⟨_, upd_same⟩
theorem ok_initB {f fI fE fC fT fR : Addr} {fd fdC fdT fdR : FuncData} (T : TW P K mg C1 C2 C7 f1 f2 f7) (W : TWc K mg C fI fE) (F : Fun K "__init__" "Web.__init__" sInit f fd)
    (FC : Fun K "check_colours" "check_colours" sCheckC fC fdC) (bC : Binds K fdC ["colours"] []) (mC : mg "check_colours" = some (.ref fC)) (GC : FnOk P w K mg base (L2.CX P w) 3 fC fdC ["colours"] spCheckCB)
    (FT : Fun K "check_ties" "check_ties" sCheckT fT fdT) (bT : Binds K fdT ["ties", "many"] []) (mT : mg "check_ties" = some (.ref fT)) (GT : FnOk P w K mg base (L2.CX P w) 4 fT fdT ["ties", "many"] spCheckTB)
    (FR : Fun K "neighbour_rows" "neighbour_rows" sRows fR fdR) (bR : Binds K fdR ["many", "ties"] []) (mR : mg "neighbour_rows" = some (.ref fR)) (GR : FnOk P w K mg base CX0 1 fR fdR ["many", "ties"] spRowsB) :
    FnOk P w K mg base CX0 5 f fd ["self", "colours", "ties"] (spInitB C) := by
  refine F.ok scInit (fun vs H Q E h => ?_) (fun cdv A outer s H vs Q E hr h => ?_)
  · obtain ⟨p, dx, c, t, cs, rs, ts, rfl, _⟩ := h
    rfl
  · obtain ⟨p, dx, c, t, cs, rs, ts, rfl, hp, hc, hcs, ht, hT, hts, hl, k⟩ := h
    refine ⟨_, pss_cons (ps_expr (pe_call GC (hr.mono (by decide)) rfl mC FC.kp bC .nil passL (pa_cons (pv 1) pa_nil)))
      (pss_cons (ps_expr (pe_call GT hr rfl mT FT.kp bT .nil passL (pa_cons (pv 2) (pa_cons (pe_callB call_len_seq (by rfl) T.len PySem.boot_len (pa_cons (pv 1) pa_nil)) pa_nil))))
      (pss_cons (ps_fld (pv 0) (pe_callTy (T := "tuple") (r := rTup K) (by exact call_tuple_of) (by rfl) T.tuple (by decide +kernel) (pa_cons (pv 1) pa_nil)) rfl)
      (pss_cons (ps_fld (pv 0) (pe_callTy (T := "tuple") (r := rTup K) (by exact call_tuple_of) (by rfl) T.tuple (by decide +kernel) (pa_cons (pv 2) pa_nil)) rfl)
      (pss_one (ps_fld (pv 0) (pe_call GR (hr.mono (by decide)) rfl mR FR.kp bR .nil pass0 (pa_cons (pe_callB call_len_seq (by rfl) T.len PySem.boot_len (pa_cons (pv 1) pa_nil)) (pa_cons (pv 2) pa_nil))) rfl))))), ?_⟩
    have hlen : (((cs.map V.int).length : Nat) : Int) = (cs.length : Int) := by rw [List.length_map]
    refine ⟨_, rfl, c, cs, rfl, hc, hcs, fun H1 s1 => ?_⟩
    have hc1 := hc.same s1
    have ht1 := ht.same s1
    refine ⟨_, rfl, _, rfl, c, _, rfl, hc1.seq, t, (cs.length : Int), rs, ts, by rw [hlen]; rfl, ht1, hT.same s1, hts, hl, fun H2 s2 => ?_⟩
    have s02 := s1.trans s2
    have hp2 := s02 _ _ hp
    -- self.colours = tuple(colours)
    refine ⟨_, rfl, ?_⟩
    dsimp only [tNil]
    refine tup_any (hc.same s02) fun c' H3 s23 hc3 => ?_
    have s3 := s02.trans s23
    have ncp : c' ≠ p := ne_of hc3 (s3 _ _ hp) (by intro z; cases z)
    refine ⟨_, rfl, p, C, dx, [], rfl, s3 _ _ hp, W.cl, W.nC, by decide, ?_⟩
    have np : ∀ b o, H b = some o → b ≠ p → (upd H3 p (.ins C dx (putF "colours" (.ref c') []))) b = some o := fun b o e hb => by rw [upd_ne hb]; exact s3 b o e
    have hc4 : (upd H3 p (.ins C dx (putF "colours" (.ref c') []))) c' = some (.tup (cs.map V.int)) := by rw [upd_ne ncp]; exact hc3
    have hp4 : (upd H3 p (.ins C dx (putF "colours" (.ref c') []))) p = some (.ins C dx (putF "colours" (.ref c') [])) := upd_same
    generalize upd H3 p (.ins C dx (putF "colours" (.ref c') [])) = H4 at *
    have ntp : t ≠ p := ht.ne hp
    have ht4 : SqB H4 t (rs.map V.ref) := ht.imp (fun e => np _ _ e ntp) (fun e => np _ _ e ntp)
    -- self.ties = tuple(ties)
    refine ⟨_, rfl, ?_⟩
    dsimp only [tNil]
    refine tup_any ht4 fun t' H5 s45 ht5 => ?_
    have np5 : ∀ b o, H b = some o → b ≠ p → H5 b = some o := fun b o e hb => s45 b o (np b o e hb)
    have hc5 := s45 _ _ hc4
    have hp5 := s45 _ _ hp4
    have ntp' : t' ≠ p := ne_of ht5 hp5 (by intro z; cases z)
    refine ⟨_, rfl, p, C, dx, _, rfl, hp5, W.cl, W.nT, (by show 1 < 1000; decide), ?_⟩
    have np6 : ∀ b o, H b = some o → b ≠ p → (upd H5 p (.ins C dx (putF "ties" (.ref t') (putF "colours" (.ref c') [])))) b = some o := fun b o e hb => by rw [upd_ne hb]; exact np5 b o e hb
    have hc6 : (upd H5 p (.ins C dx (putF "ties" (.ref t') (putF "colours" (.ref c') [])))) c' = some (.tup (cs.map V.int)) := by rw [upd_ne ncp]; exact hc5
    have ht6 : (upd H5 p (.ins C dx (putF "ties" (.ref t') (putF "colours" (.ref c') [])))) t' = some (.tup (rs.map V.ref)) := by rw [upd_ne ntp']; exact ht5
    have hp6 : (upd H5 p (.ins C dx (putF "ties" (.ref t') (putF "colours" (.ref c') [])))) p = some (.ins C dx (putF "ties" (.ref t') (putF "colours" (.ref c') []))) := upd_same
    generalize upd H5 p (.ins C dx (putF "ties" (.ref t') (putF "colours" (.ref c') []))) = H6 at *
    have ncc : c ≠ p := hc.ne hp
    have hc7 : SqB H6 c (cs.map V.int) := hc.imp (fun e => np6 _ _ e ncc) (fun e => np6 _ _ e ncc)
    have ht7 : SqB H6 t (rs.map V.ref) := ht.imp (fun e => np6 _ _ e ntp) (fun e => np6 _ _ e ntp)
    have hT6 : TiesAt H6 rs ts := by
      have go : ∀ {rs : List Addr} {ts : List (Int × Int)}, TiesAt H rs ts → TiesAt H6 rs ts := fun {rs ts} h => by
        induction rs generalizing ts with
        | nil => cases ts with
          | nil => exact h
          | cons _ _ => exact h.elim
        | cons r rs ih => cases ts with
          | nil => exact h.elim
          | cons t ts => exact ⟨np6 _ _ h.1 (ne_of h.1 hp (by intro z; cases z)), ih h.2⟩
      exact go hT
    -- self.rows = neighbour_rows(len(colours), ties)
    refine ⟨_, rfl, c, _, rfl, hc7.seq, _, rfl, t, cs.length, rs, ts, by rw [hlen]; rfl, hcs.2.1, ht7, hT6, hts, hl, fun H7 r' s7 nr hr' => ?_⟩
    refine ⟨_, rfl, p, C, dx, _, rfl, s7 _ _ hp6, W.cl, W.nR, (by
      show (if ("colours" : Str) = "ties" then _ else _ : List (Str × V)).length < 1000
      rw [if_neg f_ct]
      show 2 < 1000
      decide), ?_⟩
    have nn : ∀ b o, H6 b = some o → b ≠ p → (upd H7 p (.ins C dx (wfl c' t' r'))) b = some o := fun b o e hb => by rw [upd_ne hb]; exact s7 b o e
    refine k _ ⟨dx, c', t', r', rs, upd_same, nn _ _ hc6 ncp, nn _ _ ht6 ntp', ?_⟩ fun b o e hb => nn b o (np6 b o e hb) hb
    have go : ∀ {rs : List Addr} {ts : List (Int × Int)}, TiesAt H6 rs ts → TiesAt (upd H7 p (.ins C dx (wfl c' t' r'))) rs ts := fun {rs ts} h => by
      induction rs generalizing ts with
      | nil => cases ts with
        | nil => exact h
        | cons _ _ => exact h.elim
      | cons r rs ih => cases ts with
        | nil => exact h.elim
        | cons t ts => exact ⟨nn _ _ h.1 (ne_of h.1 hp6 (by intro z; cases z)), ih h.2⟩
    exact go hT6
end
end Vk

namespace Vk
open PySem PySem.Spec PyProof.Rows L2 VkX
/-- what is reckoned of the class Web -/
def webB (K : PySem.W.Frag) (C : Addr) : Bool :=
  PySem.W.plainGet K C Str.empty && PySem.W.hasDictIn K C && PySem.W.plainOver K C && (PySem.W.findIn K (.ref C) "__setattr__" == some (some (.builtin "object.__setattr__"))) && PySem.W.makesIn K C && PySem.W.keepIn K (.ref C) &&
  (PySem.W.findIn K (.ref C) "colours" == some none) && (PySem.W.findIn K (.ref C) "ties" == some none) && (PySem.W.findIn K (.ref C) "rows" == some none) && (PySem.W.findIn K (.ref C) "__class__" == some (some (.builtin "object.__class__"))) &&
  (PySem.W.specialIn K (.builtin "object.__class__") "__get__" == some (some (.builtin "getset_descriptor.__get__"))) && (PySem.W.takesIn K (.builtin "object.__class__") == some true) && (PySem.W.mroIn K C (.type "object") == some true) &&
  (PySem.W.findIn K (.ref C) "__ne__" == some (some (.builtin "object.__ne__"))) &&
  (["NoneType", "int", "str", "list", "tuple", "dict"].all fun T => (PySem.W.kitOne K (.type T) (.ref C) == some false) && PySem.W.notFirst K C (.type T) && (PySem.W.subIn K (.ref C) (.type T) == some false))
theorem web_mk {K : PySem.W.Frag} {mg : Str → Option Value} {C fI fE : Addr} (b : webB K C = true) (gC : mg "Web" = some (.ref C)) (iI : PySem.W.findIn K (.ref C) "__init__" = some (some (.ref fI))) (iF : PySem.W.isFn K (.ref fI) = true) (eI : PySem.W.findIn K (.ref C) "__eq__" = some (some (.ref fE))) (eF : PySem.W.isFn K (.ref fE) = true) : TWc K mg C fI fE := by
  unfold webB at b
  simp only [Bool.and_eq_true, beq_iff_eq, List.all_eq_true] at b
  obtain ⟨⟨⟨⟨⟨⟨⟨⟨⟨⟨⟨⟨⟨⟨b1, b2⟩, b3⟩, b4⟩, b5⟩, b6⟩, b7⟩, b8⟩, b9⟩, b10⟩, b11⟩, b12⟩, b13⟩, b14⟩, b15⟩ := b
  exact { cl := ⟨b1, b2, b3, b4⟩, nC := b7, nT := b8, nR := b9, mks := ⟨b5, iI, iF, b6⟩, gC := gC, ha := b10, hn := b11, htk := b12, hm := b13, eq := eI, eqf := eF, ne := b14, kit := fun T hT => ⟨(b15 T hT).1.1, (b15 T hT).1.2, (b15 T hT).2⟩ }
set_option maxHeartbeats 4000000 in
theorem all_mk {P : Program} {w : World} {K : PySem.W.Frag} {h : Heap} {mg : Str → Option Value} {fa : Addr} (X : K.In h) (G : h.Ns mainGlobals mg) (hfa : mg "law" = some (.ref fa))
    {C1 f1 cda1 cc1 : Addr} {oc1 doc1 pm1 ct1 ccl1 cl1 : Value} {od1 an1 cdd1 cld1 : Option Addr} {osl1 ccs1 csl1 : Array (Option Value)} {vs1 : Array Value} {file1 : Str} {tf1 : Tok}
    {C2 f2 cda2 cc2 : Addr} {oc2 doc2 pm2 ct2 ccl2 cl2 : Value} {od2 an2 cdd2 cld2 : Option Addr} {osl2 ccs2 csl2 : Array (Option Value)} {vs2 : Array Value} {file2 : Str} {tf2 : Tok}
    {C3 f3 cda3 cc3 : Addr} {oc3 doc3 pm3 ct3 ccl3 cl3 : Value} {od3 an3 cdd3 cld3 : Option Addr} {osl3 ccs3 csl3 : Array (Option Value)} {vs3 : Array Value} {file3 : Str} {tf3 : Tok}
    {C4 f4 cda4 cc4 : Addr} {oc4 doc4 pm4 ct4 ccl4 cl4 : Value} {od4 an4 cdd4 cld4 : Option Addr} {osl4 ccs4 csl4 : Array (Option Value)} {vs4 : Array Value} {file4 : Str} {tf4 : Tok}
    {C5 f5 cda5 cc5 : Addr} {oc5 doc5 pm5 ct5 ccl5 cl5 : Value} {od5 an5 cdd5 cld5 : Option Addr} {osl5 ccs5 csl5 : Array (Option Value)} {vs5 : Array Value} {file5 : Str} {tf5 : Tok}
    {C8 f8 cda8 cc8 : Addr} {oc8 doc8 pm8 ct8 ccl8 cl8 : Value} {od8 an8 cdd8 cld8 : Option Addr} {osl8 ccs8 csl8 : Array (Option Value)} {vs8 : Array Value} {file8 : Str} {tf8 : Tok}
    {C9 f9 cda9 cc9 : Addr} {oc9 doc9 pm9 ct9 ccl9 cl9 : Value} {od9 an9 cdd9 cld9 : Option Addr} {osl9 ccs9 csl9 : Array (Option Value)} {vs9 : Array Value} {file9 : Str} {tf9 : Tok}
    {C10 f10 cda10 cc10 : Addr} {oc10 doc10 pm10 ct10 ccl10 cl10 : Value} {od10 an10 cdd10 cld10 : Option Addr} {osl10 ccs10 csl10 : Array (Option Value)} {vs10 : Array Value} {file10 : Str} {tf10 : Tok}
    {C11 f11 cda11 cc11 : Addr} {oc11 doc11 pm11 ct11 ccl11 cl11 : Value} {od11 an11 cdd11 cld11 : Option Addr} {osl11 ccs11 csl11 : Array (Option Value)} {vs11 : Array Value} {file11 : Str} {tf11 : Tok}
    {C13 f13 cda13 cc13 : Addr} {oc13 doc13 pm13 ct13 ccl13 cl13 : Value} {od13 an13 cdd13 cld13 : Option Addr} {osl13 ccs13 csl13 : Array (Option Value)} {vs13 : Array Value} {file13 : Str} {tf13 : Tok}
    {C6 C7 C12 C14 : Addr}
    {tkA tkB tkC : Tok} {C0 : Addr}
    {gWI : Addr} {ocgWI kVWI dcgWI pmgWI cdgWI ctgWI : Value} {odgWI angWI : Option Addr} {slgWI : Array (Option Value)}
    {gWE : Addr} {ocgWE kVWE dcgWE pmgWE cdgWE ctgWE : Value} {odgWE angWE : Option Addr} {slgWE : Array (Option Value)}
    {gWh : Addr} {ocgWh kVWh dcgWh pmgWh cdgWh ctgWh : Value} {odgWh angWh : Option Addr} {slgWh : Array (Option Value)}
    {gBe : Addr} {ocgBe kVBe dcgBe pmgBe cdgBe ctgBe : Value} {odgBe angBe : Option Addr} {slgBe : Array (Option Value)}
    {gTi : Addr} {ocgTi kVTi dcgTi pmgTi cdgTi ctgTi : Value} {odgTi angTi : Option Addr} {slgTi : Array (Option Value)}
    {gCC : Addr} {ocgCC kVCC dcgCC pmgCC cdgCC ctgCC : Value} {odgCC angCC : Option Addr} {slgCC : Array (Option Value)}
    {gCT : Addr} {ocgCT kVCT dcgCT pmgCT cdgCT ctgCT : Value} {odgCT angCT : Option Addr} {slgCT : Array (Option Value)}
    {gNR : Addr} {ocgNR kVNR dcgNR pmgNR cdgNR ctgNR : Value} {odgNR angNR : Option Addr} {slgNR : Array (Option Value)}
    {gM : Addr} {ocgM kVM dcgM pmgM cdgM ctgM : Value} {odgM angM : Option Addr} {slgM : Array (Option Value)}
    {gFo : Addr} {ocgFo kVFo dcgFo pmgFo cdgFo ctgFo : Value} {odgFo angFo : Option Addr} {slgFo : Array (Option Value)}
    {gD : Addr} {ocgD kVD dcgD pmgD cdgD ctgD : Value} {odgD angD : Option Addr} {slgD : Array (Option Value)}
    {gB : Addr} {ocgB kVB dcgB pmgB cdgB ctgB : Value} {odgB angB : Option Addr} {slgB : Array (Option Value)}
    {gE : Addr} {ocgE kVE dcgE pmgE cdgE ctgE : Value} {odgE angE : Option Addr} {slgE : Array (Option Value)}
    {gL : Addr} {ocgL kVL dcgL pmgL cdgL ctgL : Value} {odgL angL : Option Addr} {slgL : Array (Option Value)}
    (ha1 : PySem.W.nsIn K mainGlobals "BadColours" = some (some (.ref C1)))
    (hi1 : PySem.W.findIn K (.ref C1) "__init__" = some (some (.ref f1)))
    (hl1 : K.lookup f1 = some ⟨oc1, od1, .func (PySem.W.ksFn "__init__" "BadColours.__init__" (VkX.xA "place" ⟨6, 17, 6, 21⟩ ⟨6, 23, 6, 28⟩) (VkX.xB "these are not the colours of a web" "place" ⟨7, 8, 7, 13⟩ ⟨7, 8, 7, 15⟩ ⟨7, 8, 7, 24⟩ ⟨7, 25, 7, 61⟩ ⟨7, 8, 7, 62⟩ ⟨7, 8, 7, 62⟩ ⟨8, 8, 8, 12⟩ ⟨8, 8, 8, 18⟩ ⟨8, 21, 8, 26⟩ ⟨8, 8, 8, 26⟩) (VkX.xS "place") .none .none doc1 pm1 an1 (.ref cda1) ct1 cc1), osl1⟩)
    (hd1 : K.lookup cda1 = some ⟨ccl1, cdd1, .fields vs1, ccs1⟩)
    (hv1 : vs1[2]? = some (.str file1 tf1))
    (he1 : ((P.main.file : Str) == file1) = true)
    (hc1 : K.lookup cc1 = some ⟨cl1, cld1, .cell (some (.ref C1)), csl1⟩)
    (hb1 : VkX.xcB K "BadColours.__init__" "place" "ValueError" "ValueError.__init__" "ValueError.__new__" [.type "ValueError", .type "Exception", .type "BaseException", .type "object"] C1 f1 cda1 = true)
    (ha2 : PySem.W.nsIn K mainGlobals "BadTies" = some (some (.ref C2)))
    (hi2 : PySem.W.findIn K (.ref C2) "__init__" = some (some (.ref f2)))
    (hl2 : K.lookup f2 = some ⟨oc2, od2, .func (PySem.W.ksFn "__init__" "BadTies.__init__" (VkX.xA "place" ⟨11, 17, 11, 21⟩ ⟨11, 23, 11, 28⟩) (VkX.xB "these are not the ties of a web" "place" ⟨12, 8, 12, 13⟩ ⟨12, 8, 12, 15⟩ ⟨12, 8, 12, 24⟩ ⟨12, 25, 12, 58⟩ ⟨12, 8, 12, 59⟩ ⟨12, 8, 12, 59⟩ ⟨13, 8, 13, 12⟩ ⟨13, 8, 13, 18⟩ ⟨13, 21, 13, 26⟩ ⟨13, 8, 13, 26⟩) (VkX.xS "place") .none .none doc2 pm2 an2 (.ref cda2) ct2 cc2), osl2⟩)
    (hd2 : K.lookup cda2 = some ⟨ccl2, cdd2, .fields vs2, ccs2⟩)
    (hv2 : vs2[2]? = some (.str file2 tf2))
    (he2 : ((P.main.file : Str) == file2) = true)
    (hc2 : K.lookup cc2 = some ⟨cl2, cld2, .cell (some (.ref C2)), csl2⟩)
    (hb2 : VkX.xcB K "BadTies.__init__" "place" "ValueError" "ValueError.__init__" "ValueError.__new__" [.type "ValueError", .type "Exception", .type "BaseException", .type "object"] C2 f2 cda2 = true)
    (ha3 : PySem.W.nsIn K mainGlobals "BadPlace" = some (some (.ref C3)))
    (hi3 : PySem.W.findIn K (.ref C3) "__init__" = some (some (.ref f3)))
    (hl3 : K.lookup f3 = some ⟨oc3, od3, .func (PySem.W.ksFn "__init__" "BadPlace.__init__" (VkX.xA "value" ⟨16, 17, 16, 21⟩ ⟨16, 23, 16, 28⟩) (VkX.xB "this is no place of the web" "value" ⟨17, 8, 17, 13⟩ ⟨17, 8, 17, 15⟩ ⟨17, 8, 17, 24⟩ ⟨17, 25, 17, 54⟩ ⟨17, 8, 17, 55⟩ ⟨17, 8, 17, 55⟩ ⟨18, 8, 18, 12⟩ ⟨18, 8, 18, 18⟩ ⟨18, 21, 18, 26⟩ ⟨18, 8, 18, 26⟩) (VkX.xS "value") .none .none doc3 pm3 an3 (.ref cda3) ct3 cc3), osl3⟩)
    (hd3 : K.lookup cda3 = some ⟨ccl3, cdd3, .fields vs3, ccs3⟩)
    (hv3 : vs3[2]? = some (.str file3 tf3))
    (he3 : ((P.main.file : Str) == file3) = true)
    (hc3 : K.lookup cc3 = some ⟨cl3, cld3, .cell (some (.ref C3)), csl3⟩)
    (hb3 : VkX.xcB K "BadPlace.__init__" "value" "ValueError" "ValueError.__init__" "ValueError.__new__" [.type "ValueError", .type "Exception", .type "BaseException", .type "object"] C3 f3 cda3 = true)
    (ha4 : PySem.W.nsIn K mainGlobals "BadNumber" = some (some (.ref C4)))
    (hi4 : PySem.W.findIn K (.ref C4) "__init__" = some (some (.ref f4)))
    (hl4 : K.lookup f4 = some ⟨oc4, od4, .func (PySem.W.ksFn "__init__" "BadNumber.__init__" (VkX.xA "value" ⟨21, 17, 21, 21⟩ ⟨21, 23, 21, 28⟩) (VkX.xB "this is no number that may stand here" "value" ⟨22, 8, 22, 13⟩ ⟨22, 8, 22, 15⟩ ⟨22, 8, 22, 24⟩ ⟨22, 25, 22, 64⟩ ⟨22, 8, 22, 65⟩ ⟨22, 8, 22, 65⟩ ⟨23, 8, 23, 12⟩ ⟨23, 8, 23, 18⟩ ⟨23, 21, 23, 26⟩ ⟨23, 8, 23, 26⟩) (VkX.xS "value") .none .none doc4 pm4 an4 (.ref cda4) ct4 cc4), osl4⟩)
    (hd4 : K.lookup cda4 = some ⟨ccl4, cdd4, .fields vs4, ccs4⟩)
    (hv4 : vs4[2]? = some (.str file4 tf4))
    (he4 : ((P.main.file : Str) == file4) = true)
    (hc4 : K.lookup cc4 = some ⟨cl4, cld4, .cell (some (.ref C4)), csl4⟩)
    (hb4 : VkX.xcB K "BadNumber.__init__" "value" "ValueError" "ValueError.__init__" "ValueError.__new__" [.type "ValueError", .type "Exception", .type "BaseException", .type "object"] C4 f4 cda4 = true)
    (ha5 : PySem.W.nsIn K mainGlobals "BadOrder" = some (some (.ref C5)))
    (hi5 : PySem.W.findIn K (.ref C5) "__init__" = some (some (.ref f5)))
    (hl5 : K.lookup f5 = some ⟨oc5, od5, .func (PySem.W.ksFn "__init__" "BadOrder.__init__" (VkX.xA "value" ⟨26, 17, 26, 21⟩ ⟨26, 23, 26, 28⟩) (VkX.xB "this is no order of the places of the web" "value" ⟨27, 8, 27, 13⟩ ⟨27, 8, 27, 15⟩ ⟨27, 8, 27, 24⟩ ⟨27, 25, 27, 68⟩ ⟨27, 8, 27, 69⟩ ⟨27, 8, 27, 69⟩ ⟨28, 8, 28, 12⟩ ⟨28, 8, 28, 18⟩ ⟨28, 21, 28, 26⟩ ⟨28, 8, 28, 26⟩) (VkX.xS "value") .none .none doc5 pm5 an5 (.ref cda5) ct5 cc5), osl5⟩)
    (hd5 : K.lookup cda5 = some ⟨ccl5, cdd5, .fields vs5, ccs5⟩)
    (hv5 : vs5[2]? = some (.str file5 tf5))
    (he5 : ((P.main.file : Str) == file5) = true)
    (hc5 : K.lookup cc5 = some ⟨cl5, cld5, .cell (some (.ref C5)), csl5⟩)
    (hb5 : VkX.xcB K "BadOrder.__init__" "value" "ValueError" "ValueError.__init__" "ValueError.__new__" [.type "ValueError", .type "Exception", .type "BaseException", .type "object"] C5 f5 cda5 = true)
    (ha8 : PySem.W.nsIn K mainGlobals "BadFolding" = some (some (.ref C8)))
    (hi8 : PySem.W.findIn K (.ref C8) "__init__" = some (some (.ref f8)))
    (hl8 : K.lookup f8 = some ⟨oc8, od8, .func (PySem.W.ksFn "__init__" "BadFolding.__init__" (VkX.xA "value" ⟨40, 17, 40, 21⟩ ⟨40, 23, 40, 28⟩) (VkX.xB "this is no folding of the one web onto the other one" "value" ⟨41, 8, 41, 13⟩ ⟨41, 8, 41, 15⟩ ⟨41, 8, 41, 24⟩ ⟨41, 25, 41, 79⟩ ⟨41, 8, 41, 80⟩ ⟨41, 8, 41, 80⟩ ⟨42, 8, 42, 12⟩ ⟨42, 8, 42, 18⟩ ⟨42, 21, 42, 26⟩ ⟨42, 8, 42, 26⟩) (VkX.xS "value") .none .none doc8 pm8 an8 (.ref cda8) ct8 cc8), osl8⟩)
    (hd8 : K.lookup cda8 = some ⟨ccl8, cdd8, .fields vs8, ccs8⟩)
    (hv8 : vs8[2]? = some (.str file8 tf8))
    (he8 : ((P.main.file : Str) == file8) = true)
    (hc8 : K.lookup cc8 = some ⟨cl8, cld8, .cell (some (.ref C8)), csl8⟩)
    (hb8 : VkX.xcB K "BadFolding.__init__" "value" "ValueError" "ValueError.__init__" "ValueError.__new__" [.type "ValueError", .type "Exception", .type "BaseException", .type "object"] C8 f8 cda8 = true)
    (ha9 : PySem.W.nsIn K mainGlobals "BadOrders" = some (some (.ref C9)))
    (hi9 : PySem.W.findIn K (.ref C9) "__init__" = some (some (.ref f9)))
    (hl9 : K.lookup f9 = some ⟨oc9, od9, .func (PySem.W.ksFn "__init__" "BadOrders.__init__" (VkX.xA "place" ⟨45, 17, 45, 21⟩ ⟨45, 23, 45, 28⟩) (VkX.xB "these are not the layer orders of the ties" "place" ⟨46, 8, 46, 13⟩ ⟨46, 8, 46, 15⟩ ⟨46, 8, 46, 24⟩ ⟨46, 25, 46, 69⟩ ⟨46, 8, 46, 70⟩ ⟨46, 8, 46, 70⟩ ⟨47, 8, 47, 12⟩ ⟨47, 8, 47, 18⟩ ⟨47, 21, 47, 26⟩ ⟨47, 8, 47, 26⟩) (VkX.xS "place") .none .none doc9 pm9 an9 (.ref cda9) ct9 cc9), osl9⟩)
    (hd9 : K.lookup cda9 = some ⟨ccl9, cdd9, .fields vs9, ccs9⟩)
    (hv9 : vs9[2]? = some (.str file9 tf9))
    (he9 : ((P.main.file : Str) == file9) = true)
    (hc9 : K.lookup cc9 = some ⟨cl9, cld9, .cell (some (.ref C9)), csl9⟩)
    (hb9 : VkX.xcB K "BadOrders.__init__" "place" "ValueError" "ValueError.__init__" "ValueError.__new__" [.type "ValueError", .type "Exception", .type "BaseException", .type "object"] C9 f9 cda9 = true)
    (ha10 : PySem.W.nsIn K mainGlobals "BadText" = some (some (.ref C10)))
    (hi10 : PySem.W.findIn K (.ref C10) "__init__" = some (some (.ref f10)))
    (hl10 : K.lookup f10 = some ⟨oc10, od10, .func (PySem.W.ksFn "__init__" "BadText.__init__" (VkX.xA "place" ⟨50, 17, 50, 21⟩ ⟨50, 23, 50, 28⟩) (VkX.xB "this is not the text of a web" "place" ⟨51, 8, 51, 13⟩ ⟨51, 8, 51, 15⟩ ⟨51, 8, 51, 24⟩ ⟨51, 25, 51, 56⟩ ⟨51, 8, 51, 57⟩ ⟨51, 8, 51, 57⟩ ⟨52, 8, 52, 12⟩ ⟨52, 8, 52, 18⟩ ⟨52, 21, 52, 26⟩ ⟨52, 8, 52, 26⟩) (VkX.xS "place") .none .none doc10 pm10 an10 (.ref cda10) ct10 cc10), osl10⟩)
    (hd10 : K.lookup cda10 = some ⟨ccl10, cdd10, .fields vs10, ccs10⟩)
    (hv10 : vs10[2]? = some (.str file10 tf10))
    (he10 : ((P.main.file : Str) == file10) = true)
    (hc10 : K.lookup cc10 = some ⟨cl10, cld10, .cell (some (.ref C10)), csl10⟩)
    (hb10 : VkX.xcB K "BadText.__init__" "place" "ValueError" "ValueError.__init__" "ValueError.__new__" [.type "ValueError", .type "Exception", .type "BaseException", .type "object"] C10 f10 cda10 = true)
    (ha11 : PySem.W.nsIn K mainGlobals "BadDeed" = some (some (.ref C11)))
    (hi11 : PySem.W.findIn K (.ref C11) "__init__" = some (some (.ref f11)))
    (hl11 : K.lookup f11 = some ⟨oc11, od11, .func (PySem.W.ksFn "__init__" "BadDeed.__init__" (VkX.xA "place" ⟨55, 17, 55, 21⟩ ⟨55, 23, 55, 28⟩) (VkX.xB "this is no deed on the web as it is" "place" ⟨56, 8, 56, 13⟩ ⟨56, 8, 56, 15⟩ ⟨56, 8, 56, 24⟩ ⟨56, 25, 56, 62⟩ ⟨56, 8, 56, 63⟩ ⟨56, 8, 56, 63⟩ ⟨57, 8, 57, 12⟩ ⟨57, 8, 57, 18⟩ ⟨57, 21, 57, 26⟩ ⟨57, 8, 57, 26⟩) (VkX.xS "place") .none .none doc11 pm11 an11 (.ref cda11) ct11 cc11), osl11⟩)
    (hd11 : K.lookup cda11 = some ⟨ccl11, cdd11, .fields vs11, ccs11⟩)
    (hv11 : vs11[2]? = some (.str file11 tf11))
    (he11 : ((P.main.file : Str) == file11) = true)
    (hc11 : K.lookup cc11 = some ⟨cl11, cld11, .cell (some (.ref C11)), csl11⟩)
    (hb11 : VkX.xcB K "BadDeed.__init__" "place" "ValueError" "ValueError.__init__" "ValueError.__new__" [.type "ValueError", .type "Exception", .type "BaseException", .type "object"] C11 f11 cda11 = true)
    (ha13 : PySem.W.nsIn K mainGlobals "TooGreat" = some (some (.ref C13)))
    (hi13 : PySem.W.findIn K (.ref C13) "__init__" = some (some (.ref f13)))
    (hl13 : K.lookup f13 = some ⟨oc13, od13, .func (PySem.W.ksFn "__init__" "TooGreat.__init__" (VkX.xA "most" ⟨33, 17, 33, 21⟩ ⟨33, 23, 33, 27⟩) (VkX.xB "this is more than the package allows" "most" ⟨34, 8, 34, 13⟩ ⟨34, 8, 34, 15⟩ ⟨34, 8, 34, 24⟩ ⟨34, 25, 34, 63⟩ ⟨34, 8, 34, 64⟩ ⟨34, 8, 34, 64⟩ ⟨35, 8, 35, 12⟩ ⟨35, 8, 35, 17⟩ ⟨35, 20, 35, 24⟩ ⟨35, 8, 35, 24⟩) (VkX.xS "most") .none .none doc13 pm13 an13 (.ref cda13) ct13 cc13), osl13⟩)
    (hd13 : K.lookup cda13 = some ⟨ccl13, cdd13, .fields vs13, ccs13⟩)
    (hv13 : vs13[2]? = some (.str file13 tf13))
    (he13 : ((P.main.file : Str) == file13) = true)
    (hc13 : K.lookup cc13 = some ⟨cl13, cld13, .cell (some (.ref C13)), csl13⟩)
    (hb13 : VkX.xcB K "TooGreat.__init__" "most" "OverflowError" "OverflowError.__init__" "OverflowError.__new__" [.type "OverflowError", .type "ArithmeticError", .type "Exception", .type "BaseException", .type "object"] C13 f13 cda13 = true)
    (ha14 : PySem.W.nsIn K mainGlobals "WebError" = some (some (.ref C14)))
    (ha6 : PySem.W.nsIn K mainGlobals "Unlike" = some (some (.ref C6)))
    (hq6 : PySem.W.excInitIn K C6 [.type "ValueError", .type "Exception", .type "BaseException", .type "object"] "ValueError.__new__" = true)
    (hi6 : PySem.W.findIn K (.ref C6) "__init__" = some (some (.builtin "ValueError.__init__")))
    (hk6 : PySem.W.keepIn K (.ref C6) = true)
    (ha7 : PySem.W.nsIn K mainGlobals "Apart" = some (some (.ref C7)))
    (hq7 : PySem.W.excInitIn K C7 [.type "ValueError", .type "Exception", .type "BaseException", .type "object"] "ValueError.__new__" = true)
    (hi7 : PySem.W.findIn K (.ref C7) "__init__" = some (some (.builtin "ValueError.__init__")))
    (hk7 : PySem.W.keepIn K (.ref C7) = true)
    (ha12 : PySem.W.nsIn K mainGlobals "NothingLeft" = some (some (.ref C12)))
    (hq12 : PySem.W.excInitIn K C12 [.type "ValueError", .type "Exception", .type "BaseException", .type "object"] "ValueError.__new__" = true)
    (hi12 : PySem.W.findIn K (.ref C12) "__init__" = some (some (.builtin "ValueError.__init__")))
    (hk12 : PySem.W.keepIn K (.ref C12) = true)
    (hx1 : VkX.ecB K C1 = true)
    (hx2 : VkX.ecB K C2 = true)
    (hx3 : VkX.ecB K C3 = true)
    (hx4 : VkX.ecB K C4 = true)
    (hx5 : VkX.ecB K C5 = true)
    (hx6 : VkX.ecB K C6 = true)
    (hx7 : VkX.ecB K C7 = true)
    (hx8 : VkX.ecB K C8 = true)
    (hx9 : VkX.ecB K C9 = true)
    (hx10 : VkX.ecB K C10 = true)
    (hx11 : VkX.ecB K C11 = true)
    (hx12 : VkX.ecB K C12 = true)
    (hx13 : VkX.ecB K C13 = true)
    (ht : VkX.kitTab K ([C1, C2, C3, C4, C5, C6, C7, C8, C9, C10, C11, C12, C13].map Value.ref) [.ref C1, .ref C2, .ref C3, .ref C4, .ref C5, .ref C6, .ref C7, .ref C8, .ref C9, .ref C10, .ref C11, .ref C12, .ref C13, .ref C14, .type "ValueError", .type "OverflowError"] [[true, false, false, false, false, false, false, false, false, false, false, false, false, true, true, false], [false, true, false, false, false, false, false, false, false, false, false, false, false, true, true, false], [false, false, true, false, false, false, false, false, false, false, false, false, false, true, true, false], [false, false, false, true, false, false, false, false, false, false, false, false, false, true, true, false], [false, false, false, false, true, false, false, false, false, false, false, false, false, true, true, false], [false, false, false, false, false, true, false, false, false, false, false, false, false, true, true, false], [false, false, false, false, false, false, true, false, false, false, false, false, false, true, true, false], [false, false, false, false, false, false, false, true, false, false, false, false, false, true, true, false], [false, false, false, false, false, false, false, false, true, false, false, false, false, true, true, false], [false, false, false, false, false, false, false, false, false, true, false, false, false, true, true, false], [false, false, false, false, false, false, false, false, false, false, true, false, false, true, true, false], [false, false, false, false, false, false, false, false, false, false, false, true, false, true, true, false], [false, false, false, false, false, false, false, false, false, false, false, false, true, false, false, true]] = true)
    (htop : (P.main.scope.names.lookup ("super" : Str)).isSome = false)
    (hno : PySem.W.nsIn K cStatics "thirdparty.any" = some none)
    (hty1 : PySem.W.typeIn K (.ref C1) = some (.type "type"))
    (hty2 : PySem.W.typeIn K (.ref C2) = some (.type "type"))
    (hty13 : PySem.W.typeIn K (.ref C13) = some (.type "type"))
    (hmp : PySem.W.nsIn K mainGlobals "MOST_PLACES" = some (some (.int 2000 tkA)))
    (hmt : PySem.W.nsIn K mainGlobals "MOST_TIES" = some (some (.int 30000 tkB)))
    (hmc : PySem.W.nsIn K mainGlobals "MANY_COLOURS" = some (some (.int 10 tkC)))
    (ha0 : PySem.W.nsIn K mainGlobals "Web" = some (some (.ref C0)))
    (hfaWI : PySem.W.findIn K (.ref C0) "__init__" = some (some (.ref gWI)))
    (hfiWI : PySem.W.isFn K (.ref gWI) = true)
    (hflWI : K.lookup gWI = some ⟨ocgWI, odgWI, .func (PySem.W.fnOf "__init__" "Web.__init__" (defArgs sInit) (defBody sInit) (defScope sInit) .none kVWI dcgWI pmgWI angWI cdgWI ctgWI), slgWI⟩)
    (hfcWI : PySem.W.codeIn K cdgWI "Web.__init__" = true)
    (hfkWI : PySem.W.keepIn K (.ref gWI) = true)
    (hfaWE : PySem.W.findIn K (.ref C0) "__eq__" = some (some (.ref gWE)))
    (hfiWE : PySem.W.isFn K (.ref gWE) = true)
    (hflWE : K.lookup gWE = some ⟨ocgWE, odgWE, .func (PySem.W.fnOf "__eq__" "Web.__eq__" (defArgs sEq) (defBody sEq) (defScope sEq) .none kVWE dcgWE pmgWE angWE cdgWE ctgWE), slgWE⟩)
    (hfcWE : PySem.W.codeIn K cdgWE "Web.__eq__" = true)
    (hfkWE : PySem.W.keepIn K (.ref gWE) = true)
    (hwb : webB K C0 = true)
    (hzsuper : PySem.W.nsIn K mainGlobals "super" = some none)
    (hzisinstance : PySem.W.nsIn K mainGlobals "isinstance" = some none)
    (hzrepr : PySem.W.nsIn K mainGlobals "repr" = some none)
    (hzenumerate : PySem.W.nsIn K mainGlobals "enumerate" = some none)
    (hzrange : PySem.W.nsIn K mainGlobals "range" = some none)
    (hzValueError : PySem.W.nsIn K mainGlobals "ValueError" = some none)
    (hzOverflowError : PySem.W.nsIn K mainGlobals "OverflowError" = some none)
    (hzint : PySem.W.nsIn K mainGlobals "int" = some none)
    (hzlen : PySem.W.nsIn K mainGlobals "len" = some none)
    (hztuple : PySem.W.nsIn K mainGlobals "tuple" = some none)
    (hzbool : PySem.W.nsIn K mainGlobals "bool" = some none)
    (hzlist : PySem.W.nsIn K mainGlobals "list" = some none)
    (hfaWh : PySem.W.nsIn K mainGlobals "is_whole" = some (some (.ref gWh)))
    (hflWh : K.lookup gWh = some ⟨ocgWh, odgWh, .func (PySem.W.fnOf "is_whole" "is_whole" (defArgs sWhole) (defBody sWhole) (defScope sWhole) .none kVWh dcgWh pmgWh angWh cdgWh ctgWh), slgWh⟩)
    (hfcWh : PySem.W.codeIn K cdgWh "is_whole" = true)
    (hfkWh : PySem.W.keepIn K (.ref gWh) = true)
    (hfaBe : PySem.W.nsIn K mainGlobals "is_below" = some (some (.ref gBe)))
    (hflBe : K.lookup gBe = some ⟨ocgBe, odgBe, .func (PySem.W.fnOf "is_below" "is_below" (defArgs sBelow) (defBody sBelow) (defScope sBelow) .none kVBe dcgBe pmgBe angBe cdgBe ctgBe), slgBe⟩)
    (hfcBe : PySem.W.codeIn K cdgBe "is_below" = true)
    (hfkBe : PySem.W.keepIn K (.ref gBe) = true)
    (hfaTi : PySem.W.nsIn K mainGlobals "is_tie" = some (some (.ref gTi)))
    (hflTi : K.lookup gTi = some ⟨ocgTi, odgTi, .func (PySem.W.fnOf "is_tie" "is_tie" (defArgs sIsTie) (defBody sIsTie) (defScope sIsTie) .none kVTi dcgTi pmgTi angTi cdgTi ctgTi), slgTi⟩)
    (hfcTi : PySem.W.codeIn K cdgTi "is_tie" = true)
    (hfkTi : PySem.W.keepIn K (.ref gTi) = true)
    (hfaCC : PySem.W.nsIn K mainGlobals "check_colours" = some (some (.ref gCC)))
    (hflCC : K.lookup gCC = some ⟨ocgCC, odgCC, .func (PySem.W.fnOf "check_colours" "check_colours" (defArgs sCheckC) (defBody sCheckC) (defScope sCheckC) .none kVCC dcgCC pmgCC angCC cdgCC ctgCC), slgCC⟩)
    (hfcCC : PySem.W.codeIn K cdgCC "check_colours" = true)
    (hfkCC : PySem.W.keepIn K (.ref gCC) = true)
    (hfaCT : PySem.W.nsIn K mainGlobals "check_ties" = some (some (.ref gCT)))
    (hflCT : K.lookup gCT = some ⟨ocgCT, odgCT, .func (PySem.W.fnOf "check_ties" "check_ties" (defArgs sCheckT) (defBody sCheckT) (defScope sCheckT) .none kVCT dcgCT pmgCT angCT cdgCT ctgCT), slgCT⟩)
    (hfcCT : PySem.W.codeIn K cdgCT "check_ties" = true)
    (hfkCT : PySem.W.keepIn K (.ref gCT) = true)
    (hfaNR : PySem.W.nsIn K mainGlobals "neighbour_rows" = some (some (.ref gNR)))
    (hflNR : K.lookup gNR = some ⟨ocgNR, odgNR, .func (PySem.W.fnOf "neighbour_rows" "neighbour_rows" (defArgs sRows) (defBody sRows) (defScope sRows) .none kVNR dcgNR pmgNR angNR cdgNR ctgNR), slgNR⟩)
    (hfcNR : PySem.W.codeIn K cdgNR "neighbour_rows" = true)
    (hfkNR : PySem.W.keepIn K (.ref gNR) = true)
    (hfaM : PySem.W.nsIn K mainGlobals "_law_mixed" = some (some (.ref gM)))
    (hflM : K.lookup gM = some ⟨ocgM, odgM, .func (PySem.W.fnOf "_law_mixed" "_law_mixed" (defArgs sMixed) (defBody sMixed) (defScope sMixed) .none kVM dcgM pmgM angM cdgM ctgM), slgM⟩)
    (hfcM : PySem.W.codeIn K cdgM "_law_mixed" = true)
    (hfkM : PySem.W.keepIn K (.ref gM) = true)
    (hfaFo : PySem.W.nsIn K mainGlobals "_law_folded" = some (some (.ref gFo)))
    (hflFo : K.lookup gFo = some ⟨ocgFo, odgFo, .func (PySem.W.fnOf "_law_folded" "_law_folded" (defArgs sFolded) (defBody sFolded) (defScope sFolded) .none kVFo dcgFo pmgFo angFo cdgFo ctgFo), slgFo⟩)
    (hfcFo : PySem.W.codeIn K cdgFo "_law_folded" = true)
    (hfkFo : PySem.W.keepIn K (.ref gFo) = true)
    (hfaD : PySem.W.nsIn K mainGlobals "_law_draw" = some (some (.ref gD)))
    (hflD : K.lookup gD = some ⟨ocgD, odgD, .func (PySem.W.fnOf "_law_draw" "_law_draw" (defArgs sDraw) (defBody sDraw) (defScope sDraw) .none kVD dcgD pmgD angD cdgD ctgD), slgD⟩)
    (hfcD : PySem.W.codeIn K cdgD "_law_draw" = true)
    (hfkD : PySem.W.keepIn K (.ref gD) = true)
    (hfaB : PySem.W.nsIn K mainGlobals "_law_begun" = some (some (.ref gB)))
    (hflB : K.lookup gB = some ⟨ocgB, odgB, .func (PySem.W.fnOf "_law_begun" "_law_begun" (defArgs sBegun) (defBody sBegun) (defScope sBegun) .none kVB dcgB pmgB angB cdgB ctgB), slgB⟩)
    (hfcB : PySem.W.codeIn K cdgB "_law_begun" = true)
    (hfkB : PySem.W.keepIn K (.ref gB) = true)
    (hfaE : PySem.W.nsIn K mainGlobals "_law_class" = some (some (.ref gE)))
    (hflE : K.lookup gE = some ⟨ocgE, odgE, .func (PySem.W.fnOf "_law_class" "_law_class" (defArgs sClass) (defBody sClass) (defScope sClass) .none kVE dcgE pmgE angE cdgE ctgE), slgE⟩)
    (hfcE : PySem.W.codeIn K cdgE "_law_class" = true)
    (hfkE : PySem.W.keepIn K (.ref gE) = true)
    (hfaL : PySem.W.nsIn K mainGlobals "law" = some (some (.ref gL)))
    (hflL : K.lookup gL = some ⟨ocgL, odgL, .func (PySem.W.fnOf "law" "law" (defArgs sLaw) (defBody sLaw) (defScope sLaw) .none kVL dcgL pmgL angL cdgL ctgL), slgL⟩)
    (hfcL : PySem.W.codeIn K cdgL "law" = true)
    (hfkL : PySem.W.keepIn K (.ref gL) = true) :
    ∃ fd : FuncData, (∀ (s : Shared) (v : Value), BindsTo s fd ⟨[v], []⟩ [("script", v)]) ∧ ∀ base : Heap, K.In base → base.Ns mainGlobals mg → FnG P w K mg base CX0 7 fa fd ["script"] (spLaw K) := by
  have e := hfa.symm.trans (PySem.W.mg_of X G hfaL)
  cases e
  obtain ⟨x1, n1⟩ := VkX.xc_mk (qual := "BadColours.__init__") (msg := "these are not the colours of a web") (nm := "BadColours") PySem.W.kxs_ValueError PySem.F.excBase_ValueError PySem.F.store_ValueError VkX.xf_place ⟨_, fun env => rfl⟩ htop (PySem.W.mg_none_of X G hzsuper) hno (PySem.W.mg_of X G ha1) hb1 hl1 hd1 hv1 he1 hc1
  obtain ⟨x2, n2⟩ := VkX.xc_mk (qual := "BadTies.__init__") (msg := "these are not the ties of a web") (nm := "BadTies") PySem.W.kxs_ValueError PySem.F.excBase_ValueError PySem.F.store_ValueError VkX.xf_place ⟨_, fun env => rfl⟩ htop (PySem.W.mg_none_of X G hzsuper) hno (PySem.W.mg_of X G ha2) hb2 hl2 hd2 hv2 he2 hc2
  obtain ⟨x3, n3⟩ := VkX.xc_mk (qual := "BadPlace.__init__") (msg := "this is no place of the web") (nm := "BadPlace") PySem.W.kxs_ValueError PySem.F.excBase_ValueError PySem.F.store_ValueError VkX.xf_value ⟨_, fun env => rfl⟩ htop (PySem.W.mg_none_of X G hzsuper) hno (PySem.W.mg_of X G ha3) hb3 hl3 hd3 hv3 he3 hc3
  obtain ⟨x4, n4⟩ := VkX.xc_mk (qual := "BadNumber.__init__") (msg := "this is no number that may stand here") (nm := "BadNumber") PySem.W.kxs_ValueError PySem.F.excBase_ValueError PySem.F.store_ValueError VkX.xf_value ⟨_, fun env => rfl⟩ htop (PySem.W.mg_none_of X G hzsuper) hno (PySem.W.mg_of X G ha4) hb4 hl4 hd4 hv4 he4 hc4
  obtain ⟨x5, n5⟩ := VkX.xc_mk (qual := "BadOrder.__init__") (msg := "this is no order of the places of the web") (nm := "BadOrder") PySem.W.kxs_ValueError PySem.F.excBase_ValueError PySem.F.store_ValueError VkX.xf_value ⟨_, fun env => rfl⟩ htop (PySem.W.mg_none_of X G hzsuper) hno (PySem.W.mg_of X G ha5) hb5 hl5 hd5 hv5 he5 hc5
  obtain ⟨x8, n8⟩ := VkX.xc_mk (qual := "BadFolding.__init__") (msg := "this is no folding of the one web onto the other one") (nm := "BadFolding") PySem.W.kxs_ValueError PySem.F.excBase_ValueError PySem.F.store_ValueError VkX.xf_value ⟨_, fun env => rfl⟩ htop (PySem.W.mg_none_of X G hzsuper) hno (PySem.W.mg_of X G ha8) hb8 hl8 hd8 hv8 he8 hc8
  obtain ⟨x9, n9⟩ := VkX.xc_mk (qual := "BadOrders.__init__") (msg := "these are not the layer orders of the ties") (nm := "BadOrders") PySem.W.kxs_ValueError PySem.F.excBase_ValueError PySem.F.store_ValueError VkX.xf_place ⟨_, fun env => rfl⟩ htop (PySem.W.mg_none_of X G hzsuper) hno (PySem.W.mg_of X G ha9) hb9 hl9 hd9 hv9 he9 hc9
  obtain ⟨x10, n10⟩ := VkX.xc_mk (qual := "BadText.__init__") (msg := "this is not the text of a web") (nm := "BadText") PySem.W.kxs_ValueError PySem.F.excBase_ValueError PySem.F.store_ValueError VkX.xf_place ⟨_, fun env => rfl⟩ htop (PySem.W.mg_none_of X G hzsuper) hno (PySem.W.mg_of X G ha10) hb10 hl10 hd10 hv10 he10 hc10
  obtain ⟨x11, n11⟩ := VkX.xc_mk (qual := "BadDeed.__init__") (msg := "this is no deed on the web as it is") (nm := "BadDeed") PySem.W.kxs_ValueError PySem.F.excBase_ValueError PySem.F.store_ValueError VkX.xf_place ⟨_, fun env => rfl⟩ htop (PySem.W.mg_none_of X G hzsuper) hno (PySem.W.mg_of X G ha11) hb11 hl11 hd11 hv11 he11 hc11
  obtain ⟨x13, n13⟩ := VkX.xc_mk (qual := "TooGreat.__init__") (msg := "this is more than the package allows") (nm := "TooGreat") PySem.W.kxs_OverflowError PySem.F.excBase_OverflowError PySem.F.store_OverflowError VkX.xf_most ⟨_, fun env => rfl⟩ htop (PySem.W.mg_none_of X G hzsuper) hno (PySem.W.mg_of X G ha13) hb13 hl13 hd13 hv13 he13 hc13
  have ecs : ∀ C ∈ [C1, C2, C3, C4, C5, C6, C7, C8, C9, C10, C11, C12, C13], L2.ExcC K C := by
    intro C hC
    simp only [List.mem_cons, List.not_mem_nil, or_false] at hC
    rcases hC with rfl | rfl | rfl | rfl | rfl | rfl | rfl | rfl | rfl | rfl | rfl | rfl | rfl
    all_goals first | exact VkX.ecB_ok hx1 | exact VkX.ecB_ok hx2 | exact VkX.ecB_ok hx3 | exact VkX.ecB_ok hx4 | exact VkX.ecB_ok hx5 | exact VkX.ecB_ok hx6 | exact VkX.ecB_ok hx7 | exact VkX.ecB_ok hx8 | exact VkX.ecB_ok hx9 | exact VkX.ecB_ok hx10 | exact VkX.ecB_ok hx11 | exact VkX.ecB_ok hx12 | exact VkX.ecB_ok hx13
  have tab : ∀ (i j : Nat) (C : Addr) (t : Value) (r : List Bool) (b : Bool), [C1, C2, C3, C4, C5, C6, C7, C8, C9, C10, C11, C12, C13][i]? = some C → ([.ref C1, .ref C2, .ref C3, .ref C4, .ref C5, .ref C6, .ref C7, .ref C8, .ref C9, .ref C10, .ref C11, .ref C12, .ref C13, .ref C14, .type "ValueError", .type "OverflowError"] : List Value)[j]? = some t → ([[true, false, false, false, false, false, false, false, false, false, false, false, false, true, true, false], [false, true, false, false, false, false, false, false, false, false, false, false, false, true, true, false], [false, false, true, false, false, false, false, false, false, false, false, false, false, true, true, false], [false, false, false, true, false, false, false, false, false, false, false, false, false, true, true, false], [false, false, false, false, true, false, false, false, false, false, false, false, false, true, true, false], [false, false, false, false, false, true, false, false, false, false, false, false, false, true, true, false], [false, false, false, false, false, false, true, false, false, false, false, false, false, true, true, false], [false, false, false, false, false, false, false, true, false, false, false, false, false, true, true, false], [false, false, false, false, false, false, false, false, true, false, false, false, false, true, true, false], [false, false, false, false, false, false, false, false, false, true, false, false, false, true, true, false], [false, false, false, false, false, false, false, false, false, false, true, false, false, true, true, false], [false, false, false, false, false, false, false, false, false, false, false, true, false, true, true, false], [false, false, false, false, false, false, false, false, false, false, false, false, true, false, false, true]] : List (List Bool))[i]? = some r → r[j]? = some b → PySem.W.kitOne K (.ref C) t = some b := fun i j C t r b h1 h2 h3 h4 =>
    VkX.kitTab_at ht (i := i) (j := j) (by rw [List.getElem?_map, h1]; rfl) h2 h3 h4
  have all13 : ∀ {i : Nat} {C : Addr}, [C1, C2, C3, C4, C5, C6, C7, C8, C9, C10, C11, C12, C13][i]? = some C → i < 13 := fun {i C} h => by
    have := (List.getElem?_eq_some_iff.mp h).1
    simpa using this
  have T : T78 P K mg C1 C2 C3 C4 C5 C6 C7 C8 C9 C10 C11 C12 C13 C14 f1 f2 f3 f4 f5 f8 f9 f10 f11 f13 := {
    x1 := x1, n1 := n1, x2 := x2, n2 := n2, x3 := x3, n3 := n3, x4 := x4, n4 := n4, x5 := x5, n5 := n5, x8 := x8, n8 := n8, x9 := x9, n9 := n9, x10 := x10, n10 := n10, x11 := x11, n11 := n11, x13 := x13, n13 := n13, q6 := hq6, i6 := hi6, k6 := hk6, g6 := PySem.W.mg_of X G ha6, q7 := hq7, i7 := hi7, k7 := hk7, g7 := PySem.W.mg_of X G ha7, q12 := hq12, i12 := hi12, k12 := hk12, g12 := PySem.W.mg_of X G ha12, g14 := PySem.W.mg_of X G ha14, ec := ecs
    own := fun i j C D hC hD => by
      have hi := all13 hC
      have hj := all13 hD
      refine tab i j C (.ref D) _ _ hC ?_ (List.getElem?_eq_getElem (by simpa using hi)) ?_
      · rcases j with _ | _ | _ | _ | _ | _ | _ | _ | _ | _ | _ | _ | _ | j
        all_goals first | (cases hD; rfl) | omega
      · rcases i with _ | _ | _ | _ | _ | _ | _ | _ | _ | _ | _ | _ | _ | i
        all_goals first | omega | skip
        all_goals (rcases j with _ | _ | _ | _ | _ | _ | _ | _ | _ | _ | _ | _ | _ | j; all_goals first | omega | rfl)
    isi := PySem.W.mg_none_of X G hzisinstance, len := PySem.W.mg_none_of X G hzlen }
  have LL : TL K mg C1 C2 C3 C4 C5 C6 C7 C8 C9 C10 C11 C12 C13 C14 := {
    rep := PySem.W.mg_none_of X G hzrepr, rng := PySem.W.mg_none_of X G hzrange, ve := PySem.W.mg_none_of X G hzValueError, oe := PySem.W.mg_none_of X G hzOverflowError
    web := fun i C hC => by
      have hi := all13 hC
      rcases i with _ | _ | _ | _ | _ | _ | _ | _ | _ | _ | _ | _ | _ | i
      all_goals first | omega | exact tab _ 13 C (.ref C14) _ _ hC rfl rfl (by decide)
    val := fun i C hC => by
      have hi := all13 hC
      rcases i with _ | _ | _ | _ | _ | _ | _ | _ | _ | _ | _ | _ | _ | i
      all_goals first | omega | exact tab _ 14 C (.type "ValueError") _ _ hC rfl rfl (by decide)
    ovf := fun i C hC => by
      have hi := all13 hC
      rcases i with _ | _ | _ | _ | _ | _ | _ | _ | _ | _ | _ | _ | _ | i
      all_goals first | omega | exact tab _ 15 C (.type "OverflowError") _ _ hC rfl rfl (by decide) }
  have FWh := fun_mk (st := sWhole) hflWh hfcWh hfkWh
  have FBe := fun_mk (st := sBelow) hflBe hfcBe hfkBe
  have FTi := fun_mk (st := sIsTie) hflTi hfcTi hfkTi
  have FCC := fun_mk (st := sCheckC) hflCC hfcCC hfkCC
  have FCT := fun_mk (st := sCheckT) hflCT hfcCT hfkCT
  have FNR := fun_mk (st := sRows) hflNR hfcNR hfkNR
  have FM := fun_mk (st := sMixed) hflM hfcM hfkM
  have FFo := fun_mk (st := sFolded) hflFo hfcFo hfkFo
  have FD := fun_mk (st := sDraw) hflD hfcD hfkD
  have FB := fun_mk (st := sBegun) hflB hfcB hfkB
  have FE := fun_mk (st := sClass) hflE hfcE hfkE
  have FL := fun_mk (st := sLaw) hflL hfcL hfkL
  have bM := FM.binds (ps := ["cell", "n"]) fun _ _ _ _ _ _ us hl => match us, hl with | [_, _], _ => rfl
  have bFo := FFo.binds (ps := ["script"]) fun _ _ _ _ _ _ us hl => match us, hl with | [_], _ => rfl
  have bD := FD.binds (ps := ["m", "limit"]) fun _ _ _ _ _ _ us hl => match us, hl with | [_, _], _ => rfl
  have bB := FB.binds (ps := ["script"]) fun _ _ _ _ _ _ us hl => match us, hl with | [_], _ => rfl
  have bE := FE.binds (ps := ["error"]) fun _ _ _ _ _ _ us hl => match us, hl with | [_], _ => rfl
  have FWI := fun_mk (st := sInit) hflWI hfcWI hfkWI
  have FWE := fun_mk (st := sEq) hflWE hfcWE hfkWE
  have bWh := FWh.binds (ps := ["value"]) fun _ _ _ _ _ _ us hl => match us, hl with | [_], _ => rfl
  have bBe := FBe.binds (ps := ["value", "many"]) fun _ _ _ _ _ _ us hl => match us, hl with | [_, _], _ => rfl
  have bTi := FTi.binds (ps := ["value", "many"]) fun _ _ _ _ _ _ us hl => match us, hl with | [_, _], _ => rfl
  have bCC := FCC.binds (ps := ["colours"]) fun _ _ _ _ _ _ us hl => match us, hl with | [_], _ => rfl
  have bCT := FCT.binds (ps := ["ties", "many"]) fun _ _ _ _ _ _ us hl => match us, hl with | [_, _], _ => rfl
  have bNR := FNR.binds (ps := ["many", "ties"]) fun _ _ _ _ _ _ us hl => match us, hl with | [_, _], _ => rfl
  have bWI := FWI.binds (ps := ["self", "colours", "ties"]) fun _ _ _ _ _ _ us hl => match us, hl with | [_, _, _], _ => rfl
  have bWE := FWE.binds (ps := ["self", "other"]) fun _ _ _ _ _ _ us hl => match us, hl with | [_, _], _ => rfl
  have TT : TW P K mg C1 C2 C13 f1 f2 f13 := { x1 := x1, x2 := x2, x7 := x13, b1 := (VkX.ecB_ok hx1).hs, b2 := (VkX.ecB_ok hx2).hs, b7 := (VkX.ecB_ok hx13).hs, t1 := hty1, t2 := hty2, t7 := hty13, isi := PySem.W.mg_none_of X G hzisinstance, int := PySem.W.mg_none_of X G hzint, bool := PySem.W.mg_none_of X G hzbool, list := PySem.W.mg_none_of X G hzlist, tuple := PySem.W.mg_none_of X G hztuple, len := PySem.W.mg_none_of X G hzlen, enu := PySem.W.mg_none_of X G hzenumerate, rng := PySem.W.mg_none_of X G hzrange, mp := ⟨_, PySem.W.mg_of X G hmp⟩, mt := ⟨_, PySem.W.mg_of X G hmt⟩, mc := ⟨_, PySem.W.mg_of X G hmc⟩ }
  have W := web_mk (mg := mg) hwb (PySem.W.mg_of X G ha0) hfaWI hfiWI hfaWE hfiWE
  refine ⟨PySem.W.fnOf "law" "law" (defArgs sLaw) (defBody sLaw) (defScope sLaw) .none kVL dcgL pmgL angL cdgL ctgL, fun s v => .of_eq rfl, fun base _ _ => ?_⟩
  have GM : FnOk P w K mg base CX0 1 _ _ _ _ := ok_mixed FM (PySem.W.mg_none_of X G hzint)
  have GFo : FnOk P w K mg base CX0 1 _ _ _ _ := ok_folded FFo (PySem.W.mg_none_of X G hzint) (PySem.W.mg_none_of X G hzrange) (PySem.W.mg_none_of X G hzenumerate)
  have GD : FnOk P w K mg base CX0 2 _ _ _ _ := ok_draw FD FM bM (PySem.W.mg_of X G hfaM) GM (PySem.W.mg_none_of X G hzint) (PySem.W.mg_none_of X G hzlen)
  have GB : FnOk P w K mg base CX0 2 _ _ _ _ := ok_begun FB FFo bFo (PySem.W.mg_of X G hfaFo) GFo
  have GE : FnOk P w K mg base CX0 1 _ _ _ _ := ok_class FE T
  have GWh : FnOk P w K mg base CX0 1 _ _ _ _ := ok_whole FWh TT.isi TT.int TT.bool
  have GBe : FnOk P w K mg base CX0 2 _ _ _ _ := ok_below FBe FWh bWh (PySem.W.mg_of X G hfaWh) GWh
  have GTi : FnOk P w K mg base CX0 3 _ _ _ _ := ok_istie TT FTi FBe bBe (PySem.W.mg_of X G hfaBe) GBe
  have GCC : FnOk P w K mg base (L2.CX P w) 3 _ _ _ _ := ok_checkCB TT FCC FBe bBe (PySem.W.mg_of X G hfaBe) GBe
  have GCT : FnOk P w K mg base (L2.CX P w) 4 _ _ _ _ := ok_checkTB TT FCT FTi bTi (PySem.W.mg_of X G hfaTi) GTi
  have GNR : FnOk P w K mg base CX0 1 _ _ _ _ := ok_rowsB TT FNR
  have GWI : FnOk P w K mg base CX0 5 _ _ _ _ := ok_initB TT W FWI FCC bCC (PySem.W.mg_of X G hfaCC) GCC FCT bCT (PySem.W.mg_of X G hfaCT) GCT FNR bNR (PySem.W.mg_of X G hfaNR) GNR
  have GWE : FnOk P w K mg base CX0 1 _ _ _ _ := ok_eq TT W FWE
  exact ok_law FL T LL W FB bB (PySem.W.mg_of X G hfaB) GB FD bD (PySem.W.mg_of X G hfaD) GD FE bE (PySem.W.mg_of X G hfaE) GE bWI GWI bWE GWE
end Vk
open PySem PySem.W PyProof.Rows
set_option maxRecDepth 100000 in
set_option maxHeartbeats 0 in
theorem PySem.Challenge.cw_viewkin_k78_exceptions_of_both_parts_holds : PySem.Challenge.rw_viewkin_k78_exceptions_of_both_parts.Holds := by
  w_on; o_law; k_head; (case hw => w_witness2)
  k_fill
  refine L2.walk_ofG (l := PySem.Challenge.rw_viewkin_k78_exceptions_of_both_parts) (n := 63) (k := 7) (x := "script") (sp := Vk.spLaw) rfl (by decide) rfl ⟨rfl, by decide, by decide⟩ (fun w h Y => PySem.W.kIn_of Y) ?F (fun K H a ns hl _ hS => ⟨a, ns, rfl, hS, hl, fun _ => rfl⟩)
  case F =>
    intro w mg fa h KX G hmg
    refine' Vk.all_mk KX G hmg ?ha1 ?hi1 ?hl1 ?hd1 ?hv1 ?he1 ?hc1 ?hb1 ?ha2 ?hi2 ?hl2 ?hd2 ?hv2 ?he2 ?hc2 ?hb2 ?ha3 ?hi3 ?hl3 ?hd3 ?hv3 ?he3 ?hc3 ?hb3 ?ha4 ?hi4 ?hl4 ?hd4 ?hv4 ?he4 ?hc4 ?hb4 ?ha5 ?hi5 ?hl5 ?hd5 ?hv5 ?he5 ?hc5 ?hb5 ?ha8 ?hi8 ?hl8 ?hd8 ?hv8 ?he8 ?hc8 ?hb8 ?ha9 ?hi9 ?hl9 ?hd9 ?hv9 ?he9 ?hc9 ?hb9 ?ha10 ?hi10 ?hl10 ?hd10 ?hv10 ?he10 ?hc10 ?hb10 ?ha11 ?hi11 ?hl11 ?hd11 ?hv11 ?he11 ?hc11 ?hb11 ?ha13 ?hi13 ?hl13 ?hd13 ?hv13 ?he13 ?hc13 ?hb13 ?ha14 ?ha6 ?hq6 ?hi6 ?hk6 ?ha7 ?hq7 ?hi7 ?hk7 ?ha12 ?hq12 ?hi12 ?hk12 ?hx1 ?hx2 ?hx3 ?hx4 ?hx5 ?hx6 ?hx7 ?hx8 ?hx9 ?hx10 ?hx11 ?hx12 ?hx13 ?ht ?htop ?hno ?hty1 ?hty2 ?hty13 ?hmp ?hmt ?hmc ?ha0 ?hfaWI ?hfiWI ?hflWI ?hfcWI ?hfkWI ?hfaWE ?hfiWE ?hflWE ?hfcWE ?hfkWE ?hwb ?hzsuper ?hzisinstance ?hzrepr ?hzenumerate ?hzrange ?hzValueError ?hzOverflowError ?hzint ?hzlen ?hztuple ?hzbool ?hzlist ?hfaWh ?hflWh ?hfcWh ?hfkWh ?hfaBe ?hflBe ?hfcBe ?hfkBe ?hfaTi ?hflTi ?hfcTi ?hfkTi ?hfaCC ?hflCC ?hfcCC ?hfkCC ?hfaCT ?hflCT ?hfcCT ?hfkCT ?hfaNR ?hflNR ?hfcNR ?hfkNR ?hfaM ?hflM ?hfcM ?hfkM ?hfaFo ?hflFo ?hfcFo ?hfkFo ?hfaD ?hflD ?hfcD ?hfkD ?hfaB ?hflB ?hfcB ?hfkB ?hfaE ?hflE ?hfcE ?hfkE ?hfaL ?hflL ?hfcL ?hfkL
    (case ha1 => k_is)
    (case hi1 => k_is)
    (case hl1 => k_is)
    (case hd1 => k_is)
    (case hv1 => rfl)
    (case he1 => first | rfl | decide +kernel)
    (case hc1 => k_is)
    (case hb1 => kernel_rfl)
    (case ha2 => k_is)
    (case hi2 => k_is)
    (case hl2 => k_is)
    (case hd2 => k_is)
    (case hv2 => rfl)
    (case he2 => first | rfl | decide +kernel)
    (case hc2 => k_is)
    (case hb2 => kernel_rfl)
    (case ha3 => k_is)
    (case hi3 => k_is)
    (case hl3 => k_is)
    (case hd3 => k_is)
    (case hv3 => rfl)
    (case he3 => first | rfl | decide +kernel)
    (case hc3 => k_is)
    (case hb3 => kernel_rfl)
    (case ha4 => k_is)
    (case hi4 => k_is)
    (case hl4 => k_is)
    (case hd4 => k_is)
    (case hv4 => rfl)
    (case he4 => first | rfl | decide +kernel)
    (case hc4 => k_is)
    (case hb4 => kernel_rfl)
    (case ha5 => k_is)
    (case hi5 => k_is)
    (case hl5 => k_is)
    (case hd5 => k_is)
    (case hv5 => rfl)
    (case he5 => first | rfl | decide +kernel)
    (case hc5 => k_is)
    (case hb5 => kernel_rfl)
    (case ha8 => k_is)
    (case hi8 => k_is)
    (case hl8 => k_is)
    (case hd8 => k_is)
    (case hv8 => rfl)
    (case he8 => first | rfl | decide +kernel)
    (case hc8 => k_is)
    (case hb8 => kernel_rfl)
    (case ha9 => k_is)
    (case hi9 => k_is)
    (case hl9 => k_is)
    (case hd9 => k_is)
    (case hv9 => rfl)
    (case he9 => first | rfl | decide +kernel)
    (case hc9 => k_is)
    (case hb9 => kernel_rfl)
    (case ha10 => k_is)
    (case hi10 => k_is)
    (case hl10 => k_is)
    (case hd10 => k_is)
    (case hv10 => rfl)
    (case he10 => first | rfl | decide +kernel)
    (case hc10 => k_is)
    (case hb10 => kernel_rfl)
    (case ha11 => k_is)
    (case hi11 => k_is)
    (case hl11 => k_is)
    (case hd11 => k_is)
    (case hv11 => rfl)
    (case he11 => first | rfl | decide +kernel)
    (case hc11 => k_is)
    (case hb11 => kernel_rfl)
    (case ha13 => k_is)
    (case hi13 => k_is)
    (case hl13 => k_is)
    (case hd13 => k_is)
    (case hv13 => rfl)
    (case he13 => first | rfl | decide +kernel)
    (case hc13 => k_is)
    (case hb13 => kernel_rfl)
    (case ha14 => k_is)
    (case ha6 => k_is)
    (case hq6 => kernel_rfl)
    (case hi6 => k_is)
    (case hk6 => k_is)
    (case ha7 => k_is)
    (case hq7 => kernel_rfl)
    (case hi7 => k_is)
    (case hk7 => k_is)
    (case ha12 => k_is)
    (case hq12 => kernel_rfl)
    (case hi12 => k_is)
    (case hk12 => k_is)
    (case hx1 => kernel_rfl)
    (case hx2 => kernel_rfl)
    (case hx3 => kernel_rfl)
    (case hx4 => kernel_rfl)
    (case hx5 => kernel_rfl)
    (case hx6 => kernel_rfl)
    (case hx7 => kernel_rfl)
    (case hx8 => kernel_rfl)
    (case hx9 => kernel_rfl)
    (case hx10 => kernel_rfl)
    (case hx11 => kernel_rfl)
    (case hx12 => kernel_rfl)
    (case hx13 => kernel_rfl)
    (case ht => kernel_rfl)
    (case htop => first | rfl | decide +kernel)
    (case hno => k_is)
    (case hty1 => k_is)
    (case hty2 => k_is)
    (case hty13 => k_is)
    (case hmp => k_is)
    (case hmt => k_is)
    (case hmc => k_is)
    (case ha0 => k_is)
    (case hfaWI => k_is)
    (case hfiWI => k_is)
    (case hflWI => k_is)
    (case hfcWI => k_is)
    (case hfkWI => k_is)
    (case hfaWE => k_is)
    (case hfiWE => k_is)
    (case hflWE => k_is)
    (case hfcWE => k_is)
    (case hfkWE => k_is)
    (case hwb => kernel_rfl)
    (case hzsuper => k_is)
    (case hzisinstance => k_is)
    (case hzrepr => k_is)
    (case hzenumerate => k_is)
    (case hzrange => k_is)
    (case hzValueError => k_is)
    (case hzOverflowError => k_is)
    (case hzint => k_is)
    (case hzlen => k_is)
    (case hztuple => k_is)
    (case hzbool => k_is)
    (case hzlist => k_is)
    (case hfaWh => k_is)
    (case hflWh => k_is)
    (case hfcWh => k_is)
    (case hfkWh => k_is)
    (case hfaBe => k_is)
    (case hflBe => k_is)
    (case hfcBe => k_is)
    (case hfkBe => k_is)
    (case hfaTi => k_is)
    (case hflTi => k_is)
    (case hfcTi => k_is)
    (case hfkTi => k_is)
    (case hfaCC => k_is)
    (case hflCC => k_is)
    (case hfcCC => k_is)
    (case hfkCC => k_is)
    (case hfaCT => k_is)
    (case hflCT => k_is)
    (case hfcCT => k_is)
    (case hfkCT => k_is)
    (case hfaNR => k_is)
    (case hflNR => k_is)
    (case hfcNR => k_is)
    (case hfkNR => k_is)
    (case hfaM => k_is)
    (case hflM => k_is)
    (case hfcM => k_is)
    (case hfkM => k_is)
    (case hfaFo => k_is)
    (case hflFo => k_is)
    (case hfcFo => k_is)
    (case hfkFo => k_is)
    (case hfaD => k_is)
    (case hflD => k_is)
    (case hfcD => k_is)
    (case hfkD => k_is)
    (case hfaB => k_is)
    (case hflB => k_is)
    (case hfcB => k_is)
    (case hfkB => k_is)
    (case hfaE => k_is)
    (case hflE => k_is)
    (case hfcE => k_is)
    (case hfkE => k_is)
    (case hfaL => k_is)
    (case hflL => k_is)
    (case hfcL => k_is)
    (case hfkL => k_is)
