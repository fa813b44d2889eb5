import PyProof.Rows.All
import Wide.All
import OpenK.AllK
import Wide.FinOn
import PySem.Challenge.RW_partviews_k05_errors_by_hand
import HandS.Base
import HandS.Call
import HandS.List
import HandS.Comp
import HandS.Ends
import HandS.Iter
import HandS.Words
import HandS.WordsList
import HandS.Evl
import HandS.ExcInit
import HandS.ExcValue
import HandS.ExcIs
import HandS.IsInst
import KE.KExcSuper
import KE.KExcIs
import PyProof.Rows.CountFlat
import PyProof.StrOps2
import HandS.Style
set_option Elab.async false
set_option linter.all false
set_option maxRecDepth 100000
/-! The drawing defs of the law: spread, open, anew, take, one. -/
namespace PvK
open PySem PySem.Spec PyProof.Rows L2
def topS (i : Nat) : Stmt := PySem.Challenge.pw_partviews_k05_errors_by_hand.main.body.getD i (.Pass ⟨0, 0, 0, 0⟩)
abbrev sSpread : Stmt := topS 22
abbrev sOpen : Stmt := topS 23
abbrev sAnew : Stmt := topS 24
abbrev sTake : Stmt := topS 25
abbrev sOne : Stmt := topS 26
theorem scSpread : FnScope ["cell", "at", "primes", "mixed", "one", "two", "three"] ["cell", "at"] (defScope sSpread) := ⟨rfl, rfl, rfl, by decide +kernel, rfl, by decide +kernel, by decide +kernel⟩
theorem scOpen : FnScope ["script", "cells", "k", "cell"] ["script"] (defScope sOpen) := ⟨rfl, rfl, rfl, by decide +kernel, rfl, by decide +kernel, by decide +kernel⟩
theorem scAnew : FnScope ["pen"] ["pen"] (defScope sAnew) := ⟨rfl, rfl, rfl, by decide +kernel, rfl, by decide +kernel, by decide +kernel⟩
theorem scTake : FnScope ["pen", "many", "at", "cell", "found"] ["pen", "many"] (defScope sTake) := ⟨rfl, rfl, rfl, by decide +kernel, rfl, by decide +kernel, by decide +kernel⟩
theorem scOne : FnScope ["pen", "some"] ["pen", "some"] (defScope sOne) := ⟨rfl, rfl, rfl, by decide +kernel, rfl, by decide +kernel, by decide +kernel⟩
/-! ### heaps -/
theorem same_upd {H : Hp} {p : Addr} {o : HO} (h : H p = none) : Same H (upd H p o) := fun b x e => by
  rw [upd_ne (ne_of_none e h)]
  exact e
/-- all but what stands at p is as it was -/
def But (p : Addr) (H H' : Hp) : Prop := ∀ b o, b ≠ p → H b = some o → H' b = some o
theorem But.refl (p : Addr) (H : Hp) : But p H H := fun _ _ _ h => h
theorem But.trans {p : Addr} {H H1 H2 : Hp} (a : But p H H1) (b : But p H1 H2) : But p H H2 := fun c o n h => b c o n (a c o n h)
theorem But.of {p : Addr} {H H' : Hp} (a : Same H H') : But p H H' := fun b o _ h => a b o h
theorem But.set {p : Addr} {H : Hp} {o : HO} : But p H (upd H p o) := fun b x n h => by rw [upd_ne n]; exact h
theorem But.new {p q : Addr} {H : Hp} {o : HO} (h : H q = none) : But p H (upd H q o) := .of (same_upd h)
/-! ### spread -/
theorem fmod_in {a b : Int} (h : 0 < b) : 0 ≤ a.fmod b ∧ a.fmod b < b := ⟨Int.fmod_nonneg_of_pos a h, Int.fmod_lt_of_pos a h⟩
section
variable {P : Program} {w : World} {K : PySem.W.Frag} {mg : Str → Option Value} {base : Heap}
def primesL : List Int := [2147483629, 2147483587, 2147483579, 2147483563, 2147483549, 2147483543, 2147483497] ++ [2147483489, 2147483477, 2147483423, 2147483399, 2147483353, 2147483323]
theorem primes_at (x : Int) : ∃ q : Int, atI (primesL.map V.int) (x.fmod 13) = some (.int q) ∧ 2147483323 ≤ q ∧ q ≤ 2147483629 := by
  have h := fmod_in (a := x) (b := 13) (by decide)
  generalize x.fmod 13 = j at h
  obtain ⟨h0, h1⟩ := h
  have : j = 0 ∨ j = 1 ∨ j = 2 ∨ j = 3 ∨ j = 4 ∨ j = 5 ∨ j = 6 ∨ j = 7 ∨ j = 8 ∨ j = 9 ∨ j = 10 ∨ j = 11 ∨ j = 12 := by omega
  rcases this with rfl | rfl | rfl | rfl | rfl | rfl | rfl | rfl | rfl | rfl | rfl | rfl | rfl <;> exact ⟨_, rfl, by decide, by decide⟩
def spSpread : Sp := fun vs H Q _ => ∃ (cell : Int) (n : Nat), vs = [.int cell, .int (n : Int)] ∧ n ≤ 10000 ∧ ∀ H' (r : Int), Same H H' → 0 ≤ r → Q (.int r) H'
theorem ok_spread {f : Addr} {fd : FuncData} {k : Nat} (F : Fun K "_law_spread" "_law_spread" sSpread f fd) : FnOk P w K mg base CX0 (k + 1) f fd ["cell", "at"] spSpread := by
  refine F.ok scSpread (fun vs H Q E h => ?_) (fun cdv A outer s H vs Q E hr h => ?_)
  · obtain ⟨a, ns, rfl, _⟩ := h
    rfl
  · obtain ⟨cell, n, rfl, hn, q⟩ := h
    refine ⟨_, pss_cons (ps_if (pt_cmpR op_ge (pv 0) (pe_op op_pow pe_int pe_int) (nomark _)) (pss_one (ps_ret (pv 0))) pss_nil)
      (pss_cons (ps_set (i := 2) scSpread.nd rfl (.inl rfl) (pe_lst (pa_cons pe_int (pa_cons pe_int (pa_cons pe_int (pa_cons pe_int (pa_cons pe_int (pa_cons pe_int (pa_cons pe_int pa_nil)))))))))
      (pss_cons (ps_set (i := 2) scSpread.nd rfl (.inl rfl) (pe_op op_cat (pv 2) (pe_lst (pa_cons pe_int (pa_cons pe_int (pa_cons pe_int (pa_cons pe_int (pa_cons pe_int (pa_cons pe_int pa_nil)))))))))
      (pss_cons (ps_set (i := 3) scSpread.nd rfl (.inl rfl) (pe_op op_add (pe_op op_add (pe_op op_mul (pe_op op_modN (pv 0) pe_int) (pe_op op_add (pe_op op_mul pe_int (pv 1)) pe_int)) (pe_op op_mul (pv 1) pe_int)) pe_int))
      (pss_cons (ps_set (i := 4) scSpread.nd rfl (.inl rfl) (pe_op op_modN (pe_op op_pow (pv 3) pe_int) (pe_ix ix_list (pv 2) (pe_op op_modN (pv 1) pe_int) (fun _ _ => rfl))))
      (pss_cons (ps_set (i := 5) scSpread.nd rfl (.inl rfl) (pe_op op_modN (pe_op op_pow (pe_op op_add (pe_op op_add (pe_op op_mul (pv 4) (pe_op op_add (pv 1) pe_int)) (pe_op op_modN (pv 0) pe_int)) pe_int) pe_int)
          (pe_ix ix_list (pv 2) (pe_op op_modN (pe_op op_add (pv 1) pe_int) pe_int) (fun _ _ => rfl))))
      (pss_cons (ps_set (i := 6) scSpread.nd rfl (.inl rfl) (pe_op op_modN (pe_op op_pow (pe_op op_add (pe_op op_add (pv 5) (pe_op op_modN (pv 4) pe_int)) (pv 1)) pe_int)
          (pe_ix ix_list (pv 2) (pe_op op_modN (pe_op op_add (pv 1) pe_int) pe_int) (fun _ _ => rfl))))
      (pss_one (ps_ret (pe_op op_add (pe_op op_mul (pe_op op_add (pe_op op_mul (pv 4) pe_int) (pv 5)) pe_int) (pv 6)))))))))), ?_⟩
    refine ⟨_, rfl, 10, 18, rfl, rfl, ⟨by decide, by decide, by decide⟩, _, _, rfl, rfl, _, rfl, ite2 (fun e => ?_) (fun e => ?_)⟩
    · have e1 := of_decide_eq_true e
      refine ⟨_, rfl, q _ _ (.refl _) ?_⟩
      exact Int.le_trans (by decide) e1
    · -- primes = [..]; primes = primes + [..]
      refine ⟨by show 7 ≤ sizeLine; decide, fun p np => ⟨_, rfl, by show 6 ≤ sizeLine; decide, fun p2 np2 => ⟨p, p2, _, _, rfl, rfl, by rw [upd_ne (ne_of_none upd_same np2), upd_same], upd_same, by show 13 ≤ sizeLine; decide, fun p3 np3 => ?_⟩⟩⟩
      generalize hH3 : upd (upd (upd H p _) p2 _) p3 _ = H3
      have s3 : Same H H3 := by rw [← hH3]; exact ((same_upd np).trans (same_upd np2)).trans (same_upd np3)
      have hP : SqL K H3 p3 (primesL.map V.int) := by rw [← hH3]; exact .inl (.inl upd_same)
      -- mixed
      have c7 := fmod_in (a := cell) (b := 1000000007) (by decide)
      have c65 := fmod_in (a := cell) (b := 65537) (by decide)
      have hn' : (n : Int) ≤ 10000 := by omega
      have hn0 : (0 : Int) ≤ n := by omega
      refine ⟨_, rfl, _, _, rfl, rfl, show (1000000007 : Int) ≠ 0 by decide, _, rfl, _, _, rfl, rfl, .inl ⟨by decide, by decide⟩, _, _, rfl, rfl, _, _, rfl, rfl, .inl ⟨by omega, by omega⟩, _, rfl, _, _, rfl, rfl, .inl ⟨by omega, by omega⟩, _, _, rfl, rfl, _, _, rfl, rfl, ?_⟩
      dsimp only
      generalize hm : (cell.fmod 1000000007 * (2 * (n : Int) + 69069) + (n : Int) * 40503 + 977) = mixed
      have hm1 : 0 ≤ mixed ∧ mixed < 9223372036854775808 := by
        have b2 : 2 * (n : Int) + 69069 ≤ 89069 := by omega
        have z1 : cell.fmod 1000000007 * (2 * (n : Int) + 69069) ≤ 1000000007 * 89069 := Int.mul_le_mul (by omega) b2 (by omega) (by omega)
        have z2 := Int.mul_nonneg c7.1 (show 0 ≤ 2 * (n : Int) + 69069 by omega)
        generalize cell.fmod 1000000007 * (2 * (n : Int) + 69069) = zz at z1 z2 hm
        omega
      -- one
      obtain ⟨q1, a1, l1, u1⟩ := primes_at n
      refine ⟨_, rfl, _, _, rfl, rfl, ⟨by decide, by decide, by omega⟩, _, rfl, _, rfl, _, _, rfl, rfl, show (13 : Int) ≠ 0 by decide, p3, _, _, _, rfl, rfl, hP, a1, _, _, rfl, rfl, show q1 ≠ 0 by omega, ?_⟩
      dsimp only
      have ho := fmod_in (a := mixed ^ (3 : Int).toNat) (b := q1) (by omega)
      generalize (mixed ^ (3 : Int).toNat).fmod q1 = one at ho
      -- two
      obtain ⟨q2, a2, l2, u2⟩ := primes_at ((n : Int) + 5)
      have b3 : 0 ≤ one * ((n : Int) + 3) ∧ one * ((n : Int) + 3) ≤ 2147483629 * 10003 := by
        refine ⟨Int.mul_nonneg ho.1 (by omega), Int.mul_le_mul (by omega) (by omega) (by omega) (by decide)⟩
      refine ⟨_, rfl, _, rfl, _, _, rfl, rfl, _, _, rfl, rfl, .inl ⟨by omega, by omega⟩, _, rfl, _, _, rfl, rfl, show (65537 : Int) ≠ 0 by decide, _, _, rfl, rfl, _, _, rfl, rfl, ?_⟩
      dsimp only
      generalize one * ((n : Int) + 3) = o3 at b3
      refine ⟨_, _, rfl, rfl, ⟨by decide, by decide, by omega⟩, _, rfl, _, rfl, _, _, rfl, rfl, _, _, rfl, rfl, show (13 : Int) ≠ 0 by decide, p3, _, _, _, rfl, rfl, hP, a2, _, _, rfl, rfl, show q2 ≠ 0 by omega, ?_⟩
      dsimp only
      generalize ht : ((o3 + cell.fmod 65537 + 5) ^ (5 : Int).toNat).fmod q2 = two
      have ht2 : 0 ≤ two ∧ two < q2 := by
        rw [← ht]
        exact fmod_in (by omega)
      -- three
      obtain ⟨q3, a3, l3, u3⟩ := primes_at ((n : Int) + 7)
      have c1 := fmod_in (a := one) (b := 1009) (by decide)
      refine ⟨_, rfl, _, rfl, _, _, rfl, rfl, show (1009 : Int) ≠ 0 by decide, _, _, rfl, rfl, _, rfl, _, _, rfl, rfl, _, _, rfl, rfl, ⟨by decide, by decide, by omega⟩, _, rfl, _, rfl, _, _, rfl, rfl, _, _, rfl, rfl, show (13 : Int) ≠ 0 by decide, p3, _, _, _, rfl, rfl, hP, a3, _, _, rfl, rfl, show q3 ≠ 0 by omega, ?_⟩
      dsimp only
      generalize hr : ((two + one.fmod 1009 + (n : Int)) ^ (3 : Int).toNat).fmod q3 = three
      have hr2 : 0 ≤ three ∧ three < q3 := by
        rw [← hr]
        exact fmod_in (by omega)
      refine ⟨_, rfl, _, _, rfl, rfl, .inl ⟨by omega, by omega⟩, _, rfl, _, _, rfl, rfl, _, _, rfl, rfl, .inl ⟨by omega, by omega⟩, _, rfl, _, _, rfl, rfl, ?_⟩
      exact q _ _ s3 (by omega)
/-! ### open -/
theorem fmod_nat (i k : Nat) (hk : 0 < k) : ((i : Nat) : Int).fmod (k : Int) = ((i % k : Nat) : Int) := by
  rw [Int.fmod_eq_emod_of_nonneg _ (by omega)]
  exact (Int.natCast_emod i k).symm
theorem ixNat {n j : Nat} (h : j < n) : ixN n (j : Int) = some j := by
  unfold ixN
  rw [if_pos (by omega), if_pos (by omega)]
  rfl
theorem cut_ints (ns : List Int) (lo hi : Option Int) : ∃ ms : List Int, cutV (ns.map V.int) lo hi = ms.map V.int ∧ ms.length = min (HT.sIx ns.length ns.length hi - HT.sIx ns.length 0 lo) (ns.length - HT.sIx ns.length 0 lo) := by
  refine ⟨(ns.drop (HT.sIx ns.length 0 lo)).take (HT.sIx ns.length ns.length hi - HT.sIx ns.length 0 lo), ?_, ?_⟩
  · unfold cutV
    rw [List.length_map, List.map_take, List.map_drop]
  · rw [List.length_take, List.length_drop]
def PenAt (H : Hp) (p c : Addr) (ns : List Int) (n : Nat) (left : Int) : Prop := H p = some (.lst [.ref c, .int (n : Int), .int left]) ∧ H c = some (.lst (ns.map V.int)) ∧ 0 ≤ left
theorem PenAt.ne {H : Hp} {p c : Addr} {ns : List Int} {n : Nat} {left : Int} (h : PenAt H p c ns n left) : c ≠ p := fun e => by
  obtain ⟨h1, h2, _⟩ := h
  rw [e, h1] at h2
  have z := HO.lst.inj (Option.some.inj h2)
  cases ns with
  | nil => cases z
  | cons x r =>
    rw [List.map_cons] at z
    cases (List.cons.inj z).1
def spOpen (K : PySem.W.Frag) : Sp := fun vs H Q _ => ∃ (a : Addr) (ns : List Int), vs = [.ref a] ∧ SqL K H a (ns.map V.int) ∧ ns.length ≤ 63 ∧ ∀ H' p c ms, Same H H' → H p = none → H c = none → PenAt H' p c ms 0 0 → Q (.ref p) H'
theorem ok_open {f : Addr} {fd : FuncData} {k : Nat} (F : Fun K "_law_open" "_law_open" sOpen f fd) (ml : mg "list" = none) (me : mg "enumerate" = none) : FnOk P w K mg base CX0 (k + 1) f fd ["script"] (spOpen K) := by
  refine F.ok scOpen (fun vs H Q E h => ?_) (fun cdv A outer s H vs Q E hr h => ?_)
  · obtain ⟨a, ns, rfl, _⟩ := h
    rfl
  · obtain ⟨a, ns, rfl, hS, hlen, q⟩ := h
    refine ⟨_, pss_cons (ps_set (i := 1) scOpen.nd rfl (.inl rfl) (pe_callTy call_list_of (by rfl) ml (by decide +kernel) (pa_cons (pe_slice sl_list (pv 0) po_none (po_some pe_int)) pa_nil)))
      (pss_cons (ps_for PassesOwn.never rfl (pi_enum (by rfl) me (pa_cons (pe_slice sl_list (pv 0) (po_some pe_int) (po_some pe_int)) pa_nil))
          (pg_tup rfl (pgs_cons (pg_name (i := 2) scOpen.nd rfl (.inl rfl)) (pgs_cons (pg_name (i := 3) scOpen.nd rfl (.inl rfl)) pgs_nil)))
        (pss_one (ps_asg (pe_op op_add (pe_ix ix_list (pv 1) (pe_op op_modN (pv 2) pe_int) (fun _ _ => rfl)) (pv 3)) (pg_sub (pv 1) (pe_op op_modN (pv 2) pe_int) set_list))))
      (pss_one (ps_ret (pe_lst (pa_cons (pv 1) (pa_cons pe_int (pa_cons pe_int pa_nil))))))), ?_⟩
    obtain ⟨m1, e1, l1⟩ := cut_ints ns none (some 12)
    obtain ⟨m2, e2, l2⟩ := cut_ints ns (some 12) (some 63)
    rw [show HT.sIx ns.length ns.length (some 12) = min 12 ns.length from HT.sIx_nat _ _ 12, HT.sIx_none] at l1
    rw [show HT.sIx ns.length ns.length (some 63) = min 63 ns.length from HT.sIx_nat _ _ 63, show HT.sIx ns.length 0 (some 12) = min 12 ns.length from HT.sIx_nat _ _ 12] at l2
    refine ⟨.ref a, rfl, 12, rfl, a, _, rfl, hS, fun c0 nc0 => ⟨c0, _, rfl, .inl (.inl (.inl upd_same)), fun c nc => ?_⟩⟩
    rw [e1]
    have s1 : Same H (upd (upd H c0 (.lst (m1.map V.int))) c (.lst (m1.map V.int))) := by
      rw [e1] at nc
      exact (same_upd nc0).trans (same_upd nc)
    have nc1 : H c = none := Same.free (same_upd (o := .lst (cutV (ns.map V.int) none (some 12))) nc0) nc
    have ec : (upd (upd H c0 (.lst (m1.map V.int))) c (.lst (m1.map V.int))) c = some (.lst (m1.map V.int)) := upd_same
    generalize upd (upd H c0 (.lst (m1.map V.int))) c (.lst (m1.map V.int)) = H1 at s1 ec
    refine ⟨.ref a, rfl, 12, rfl, 63, rfl, a, _, rfl, s1.seq hS, fun d nd => ⟨d, _, rfl, .inl (.inl upd_same), ?_⟩⟩
    rw [e2] at *
    have s2 : Same H1 (upd H1 d (.lst (m2.map V.int))) := same_upd nd
    have ndc : c ≠ d := ne_of_none ec nd
    refine ⟨fun i m σ H3 => ∃ (ms : List Int) (y2 y3 : Option V), σ = [some (.ref a), some (.ref c), y2, y3] ∧ i + m = m2.length ∧ Same H H3 ∧ H3 d = some (.lst (m2.map V.int)) ∧ H3 c = some (.lst (ms.map V.int)) ∧ ms.length = min 12 ns.length,
      ⟨m2.length, m1, none, none, rfl, by omega, s1.trans s2, upd_same, by rw [upd_ne ndc]; exact ec, by omega⟩, fun i m σ H3 hW => ?_⟩
    obtain ⟨ms, y2, y3, rfl, em, sm, ed, ec3, lm⟩ := hW
    have hD : SqL K H3 d (m2.map V.int) := .inl (.inl ed)
    by_cases hi : i < m2.length
    · have g1 : (m2.map V.int)[i]? = some (.int m2[i]) := by
        rw [List.getElem?_map, List.getElem?_eq_getElem hi]
        rfl
      have l12 : ms.length = 12 := by omega
      refine .inr ⟨⟨_, _, hD, g1⟩, fun σ' H' => ∃ (ms' : List Int) (y2 y3 : Option V), σ' = [some (.ref a), some (.ref c), y2, y3] ∧ Same H H' ∧ H' d = some (.lst (m2.map V.int)) ∧ H' c = some (.lst (ms'.map V.int)) ∧ ms'.length = min 12 ns.length, fun σ' H' hN => ?_, fun x H' hy => ?_⟩
      · obtain ⟨ms', z2, z3, e, sm', ed', ec', lm'⟩ := hN
        exact ⟨m - 1, by omega, ms', z2, z3, e, by omega, sm', ed', ec', lm'⟩
      · obtain ⟨T, x1, rfl, nT, rfl, f1⟩ := hy
        have ex1 : x1 = .int m2[i] := Option.some.inj ((f1 _ hD).symm.trans g1)
        subst ex1
        have nTd : d ≠ T := ne_of_none ed nT
        have nTc : c ≠ T := ne_of_none ec3 nT
        have ecT : (upd H3 T (.tup [.int (i : Nat), .int m2[i]])) c = some (.lst (ms.map V.int)) := by
          rw [upd_ne nTc]
          exact ec3
        have ek : ((i : Nat) : Int).fmod 12 = ((i % 12 : Nat) : Int) := fmod_nat i 12 (by decide)
        have hk : i % 12 < ms.length := by omega
        have gk : (ms.map V.int)[i % 12]? = some (.int ms[i % 12]) := by
          rw [List.getElem?_map, List.getElem?_eq_getElem hk]
          rfl
        refine ⟨T, _, rfl, .inl (.inl upd_same), rfl, _, _, rfl, _, [], rfl, rfl, ?_⟩
        refine ⟨_, rfl, _, rfl, _, _, rfl, rfl, show (12 : Int) ≠ 0 by decide, c, ms.map V.int, _, .int ms[i % 12], rfl, rfl, .inl (.inl ecT), by rw [ek]; exact atI_nat gk, _, rfl, _, _, rfl, rfl, _, rfl, _, rfl, _, _, rfl, rfl, show (12 : Int) ≠ 0 by decide,
          c, ms.map V.int, _, i % 12, rfl, rfl, ecT, by rw [ek, List.length_map]; exact ixNat hk, ?_⟩
        refine ⟨ms.set (i % 12) (ms[i % 12] + m2[i]), _, _, rfl, fun b z e => ?_, ?_, ?_, ?_⟩
        · have nb : b ≠ c := ne_of_none e nc1
          rw [upd_ne nb]
          exact same_upd nT _ _ (sm _ _ e)
        · rw [upd_ne ndc.symm, upd_ne nTd]
          exact ed
        · rw [upd_same, List.map_set]
        · rw [List.length_set]
          exact lm
    · refine .inl ⟨⟨_, hD, ?_⟩, ?_⟩
      · rw [List.length_map]
        omega
      · refine ⟨.ref c, rfl, by show 3 ≤ sizeLine; decide, fun p np => ?_⟩
        refine q _ p c ms (sm.trans (same_upd np)) (sm.free np) nc1 ⟨upd_same, ?_, Int.le_refl 0⟩
        rw [upd_ne (ne_of_none ec3 np)]
        exact ec3
/-! ### anew, take, one -/
def spAnew : Sp := fun vs H Q _ => ∃ (p c : Addr) (ns : List Int) (n : Nat) (left : Int), vs = [.ref p] ∧ PenAt H p c ns n left ∧ ∀ H', But p H H' → PenAt H' p c ns n 0 → Q (.ref p) H'
theorem ok_anew {f : Addr} {fd : FuncData} {k : Nat} (F : Fun K "_law_anew" "_law_anew" sAnew f fd) : FnOk P w K mg base CX0 (k + 1) f fd ["pen"] spAnew := by
  refine F.ok scAnew (fun vs H Q E h => ?_) (fun cdv A outer s H vs Q E hr h => ?_)
  · obtain ⟨p, c, ns, n, left, rfl, _⟩ := h
    rfl
  · obtain ⟨p, c, ns, n, left, rfl, hp, q⟩ := h
    refine ⟨_, pss_cons (ps_asg pe_int (pg_sub (pv 0) pe_int set_list)) (pss_one (ps_ret (pv 0))), ?_⟩
    refine ⟨.ref p, rfl, p, _, 2, 2, rfl, rfl, hp.1, rfl, .ref p, rfl, ?_⟩
    refine q _ But.set ⟨upd_same, ?_, Int.le_refl 0⟩
    rw [upd_ne hp.ne]
    exact hp.2.1
def spTake : Sp := fun vs H Q _ => ∃ (p c : Addr) (ns : List Int) (n : Nat) (left many : Int), vs = [.ref p, .int many] ∧ PenAt H p c ns n left ∧ n ≤ 9000 ∧ 1 ≤ many ∧ many < 1073741824 ∧
  ∀ H' n' left' r, But p H H' → PenAt H' p c ns n' left' → n' ≤ n + 1 → 0 ≤ r → r < many → Q (.int r) H'
theorem ok_take {f fS : Addr} {fd fdS : FuncData} (F : Fun K "_law_take" "_law_take" sTake f fd) (FS : Fun K "_law_spread" "_law_spread" sSpread fS fdS) (bS : Binds K fdS ["cell", "at"] []) (gS : mg "_law_spread" = some (.ref fS)) (ml : mg "len" = none) :
    FnOk P w K mg base CX0 2 f fd ["pen", "many"] spTake := by
  have GS : FnOk P w K mg base CX0 1 fS fdS ["cell", "at"] spSpread := ok_spread FS
  refine F.ok scTake (fun vs H Q E h => ?_) (fun cdv A outer s H vs Q E hr h => ?_)
  · obtain ⟨p, c, ns, n, left, many, rfl, _⟩ := h
    rfl
  · obtain ⟨p, c, ns, n, left, many, rfl, hp, hn, hm1, hm2, q⟩ := h
    refine ⟨_, Evl.pss_cut (ps_if (pt_cmpR op_lt (pe_ix ix_list (pv 0) pe_int (fun _ _ => rfl)) (pv 1) (nomark _))
        (pss_cons (ps_set (i := 2) scTake.nd rfl (.inl rfl) (pe_ix ix_list (pv 0) pe_int (fun _ _ => rfl)))
        (pss_cons (ps_set (i := 3) scTake.nd rfl (.inl rfl) pe_int)
        (Evl.pss_cut (ps_if (pt_cmpR op_lt (pv 2) (pe_callB call_len_seq (by rfl) ml PySem.boot_len (pa_cons (pe_ix ix_list (pv 0) pe_int (fun _ _ => rfl)) pa_nil)) (nomark _))
            (pss_one (ps_set (i := 3) scTake.nd rfl (.inl rfl) (pe_ix ix_list (pe_ix ix_list (pv 0) pe_int (fun _ _ => rfl)) (pv 2) (fun _ _ => rfl))))
            (pss_one (ps_if (pt_cmpR op_gt (pe_callB call_len_seq (by rfl) ml PySem.boot_len (pa_cons (pe_ix ix_list (pv 0) pe_int (fun _ _ => rfl)) pa_nil)) pe_int (nomark _))
              (pss_one (ps_set (i := 3) scTake.nd rfl (.inl rfl) (pe_op op_modN (pe_ix ix_list (pe_ix ix_list (pv 0) pe_int (fun _ _ => rfl))
                (pe_op op_modN (pe_op op_add (pe_op op_mul (pv 2) pe_int) pe_int) (pe_callB call_len_seq (by rfl) ml PySem.boot_len (pa_cons (pe_ix ix_list (pv 0) pe_int (fun _ _ => rfl)) pa_nil))) (fun _ _ => rfl))
                (pe_op op_add (pe_op op_pow pe_int pe_int) (pv 2))))) pss_nil)))
        (pss_cons (ps_asg (pe_op op_add (pv 2) pe_int) (pg_sub (pv 0) pe_int set_list))
        (pss_one (ps_asg (pe_call GS hr (by rfl) gS FS.kp bS .nil pass0 (pa_cons (pv 3) (pa_cons (pv 2) pa_nil))) (pg_sub (pv 0) pe_int set_list)))))))
        pss_nil)
      (pss_cons (ps_set (i := 4) scTake.nd rfl (.inl rfl) (pe_op op_modN (pe_ix ix_list (pv 0) pe_int (fun _ _ => rfl)) (pv 1)))
      (pss_cons (ps_asg (pe_op op_fdivN (pe_ix ix_list (pv 0) pe_int (fun _ _ => rfl)) (pv 1)) (pg_sub (pv 0) pe_int set_list))
      (pss_one (ps_ret (pv 4))))), ?_⟩
    have sp : ∀ {H1 : Hp} {n1 : Nat} {l1 : Int}, PenAt H1 p c ns n1 l1 → SqL K H1 p [.ref c, .int (n1 : Int), .int l1] := fun h => .inl (.inl h.1)
    have sc : ∀ {H1 : Hp} {n1 : Nat} {l1 : Int}, PenAt H1 p c ns n1 l1 → SqL K H1 c (ns.map V.int) := fun h => .inl (.inl h.2.1)
    refine ⟨fun σ H1 => ∃ (n' : Nat) (left' : Int) (y2 y3 : Option V), σ = [some (.ref p), some (.int many), y2, y3, none] ∧ But p H H1 ∧ PenAt H1 p c ns n' left' ∧ n' ≤ n + 1, ?_, fun σ' H1 hM => ?_⟩
    · refine ⟨.ref p, rfl, p, _, _, _, rfl, rfl, sp hp, rfl, _, rfl, _, _, rfl, rfl, _, rfl, ite2 (fun e => ?_) (fun e => ?_)⟩
      · refine ⟨.ref p, rfl, p, _, _, _, rfl, rfl, sp hp, rfl, ?_⟩
        refine ⟨fun σ H1 => ∃ cell : Int, σ = [some (.ref p), some (.int many), some (.int (n : Int)), some (.int cell), none] ∧ H1 = H, ?_, fun σ' H1 hM => ?_⟩
        · refine ⟨_, rfl, .ref p, rfl, p, _, _, _, rfl, rfl, sp hp, rfl, c, _, rfl, .inl (sc hp), _, _, rfl, rfl, _, rfl, ite2 (fun e2 => ?_) (fun e2 => ?_)⟩
          · have h2 : (n : Int) < ((ns.map V.int).length : Int) := of_decide_eq_true e2
            have h3 : n < ns.length := by
              rw [List.length_map] at h2
              omega
            have g : (ns.map V.int)[n]? = some (.int ns[n]) := by
              rw [List.getElem?_map, List.getElem?_eq_getElem h3]
              rfl
            exact ⟨.ref p, rfl, p, _, _, _, rfl, rfl, sp hp, rfl, _, rfl, c, _, _, _, rfl, rfl, sc hp, atI_nat g, ns[n], rfl, rfl⟩
          · refine ⟨.ref p, rfl, p, _, _, _, rfl, rfl, sp hp, rfl, c, _, rfl, .inl (sc hp), _, _, rfl, rfl, _, rfl, ite2 (fun e3 => ?_) (fun e3 => ?_)⟩
            · have h2 : (0 : Int) < ((ns.map V.int).length : Int) := of_decide_eq_true e3
              have h3 : 0 < ns.length := by
                rw [List.length_map] at h2
                omega
              have hk : (n * 5 + 3) % ns.length < ns.length := Nat.mod_lt _ h3
              have g : (ns.map V.int)[(n * 5 + 3) % ns.length]? = some (.int ns[(n * 5 + 3) % ns.length]) := by
                rw [List.getElem?_map, List.getElem?_eq_getElem hk]
                rfl
              have ek : ((n : Int) * 5 + 3).fmod ((ns.map V.int).length : Int) = (((n * 5 + 3) % ns.length : Nat) : Int) := by
                rw [List.length_map, ← fmod_nat _ _ h3]
                congr 1
              refine ⟨.ref p, rfl, p, _, _, _, rfl, rfl, sp hp, rfl, _, rfl, _, _, rfl, rfl, .inr ⟨by decide, by decide⟩, _, _, rfl, rfl, .ref p, rfl, p, _, _, _, rfl, rfl, sp hp, rfl, c, _, rfl, .inl (sc hp), _, _, rfl, rfl,
                show (((ns.map V.int).length : Int)) ≠ 0 by omega, c, _, _, _, rfl, rfl, sc hp, by rw [ek]; exact atI_nat g, _, _, rfl, rfl, ⟨by decide, by decide, by decide⟩, _, rfl, _, _, rfl, rfl, _, _, rfl, rfl, ?_, ?_⟩
              · show (10 : Int) ^ (17 : Int).toNat + (n : Int) ≠ 0
                have : (0 : Int) ≤ 10 ^ (17 : Int).toNat - 1 := by decide
                omega
              · exact ⟨_, rfl, rfl⟩
            · exact ⟨0, rfl, rfl⟩
        · obtain ⟨cell, rfl, rfl⟩ := hM
          refine ⟨_, rfl, _, _, rfl, rfl, .ref p, rfl, p, _, _, 1, rfl, rfl, hp.1, rfl, ?_⟩
          refine ⟨_, rfl, _, rfl, cell, n, rfl, by omega, fun H2 r s2 hr0 => ?_⟩
          have e2 : H2 p = some (.lst [.ref c, .int ((n : Int) + 1), .int left]) := s2 _ _ upd_same
          refine ⟨.ref p, rfl, p, _, _, 2, rfl, rfl, e2, rfl, ?_⟩
          refine ⟨n + 1, r, _, _, rfl, ?_, ⟨?_, ?_, hr0⟩, Nat.le_refl _⟩
          · intro b o nb hb
            rw [upd_ne nb]
            exact s2 _ _ (by rw [upd_ne nb]; exact hb)
          · rw [upd_same]
            rfl
          · rw [upd_ne hp.ne]
            exact s2 _ _ (by rw [upd_ne hp.ne]; exact hp.2.1)
      · exact ⟨n, left, none, none, rfl, .refl _ _, hp, by omega⟩
    · obtain ⟨n', left', y2, y3, rfl, sm, hp', hn'⟩ := hM
      refine ⟨.ref p, rfl, p, _, _, _, rfl, rfl, sp hp', rfl, _, rfl, _, _, rfl, rfl, show many ≠ 0 by omega, ?_⟩
      refine ⟨.ref p, rfl, p, _, _, _, rfl, rfl, sp hp', rfl, _, rfl, _, _, rfl, rfl, ⟨by omega, by omega⟩, .ref p, rfl, p, _, _, 2, rfl, rfl, hp'.1, rfl, _, rfl, ?_⟩
      have hm := fmod_in (a := left') (b := many) (by omega)
      refine q _ n' (left'.fdiv many) _ (sm.trans But.set) ⟨upd_same, ?_, ?_⟩ hn' hm.1 hm.2
      · rw [upd_ne hp.ne]
        exact hp'.2.1
      · exact Int.fdiv_nonneg hp'.2.2 (by omega)
def spOne (K : PySem.W.Frag) : Sp := fun vs H Q _ => ∃ (p c l : Addr) (ns : List Int) (n : Nat) (left : Int) (xs : List V), vs = [.ref p, .ref l] ∧ PenAt H p c ns n left ∧ n ≤ 9000 ∧ H l = some (.lst xs) ∧ l ≠ p ∧ xs ≠ [] ∧ xs.length < 1000000 ∧
  ∀ H' n' left' x, But p H H' → PenAt H' p c ns n' left' → n' ≤ n + 1 → x ∈ xs → Q x H'
theorem ok_one {f fT : Addr} {fd fdT : FuncData} (F : Fun K "_law_one" "_law_one" sOne f fd) (GT : FnOk P w K mg base CX0 2 fT fdT ["pen", "many"] spTake) (kT : PySem.W.keepIn K (.ref fT) = true) (bT : Binds K fdT ["pen", "many"] []) (gT : mg "_law_take" = some (.ref fT)) (ml : mg "len" = none) :
    FnOk P w K mg base CX0 3 f fd ["pen", "some"] (spOne K) := by
  refine F.ok scOne (fun vs H Q E h => ?_) (fun cdv A outer s H vs Q E hr h => ?_)
  · obtain ⟨p, c, l, ns, n, left, xs, rfl, _⟩ := h
    rfl
  · obtain ⟨p, c, l, ns, n, left, xs, rfl, hp, hn, hl, hlp, hx, hz, q⟩ := h
    refine ⟨_, pss_one (ps_ret (pe_ix ix_list (pv 1) (pe_call GT hr (by rfl) gT kT bT .nil pass0 (pa_cons (pv 0) (pa_cons (pe_callB call_len_seq (by rfl) ml PySem.boot_len (pa_cons (pv 1) pa_nil)) pa_nil))) (fun _ _ => rfl))), ?_⟩
    have l0 : 0 < xs.length := List.length_pos_iff.mpr hx
    refine ⟨_, rfl, _, rfl, _, rfl, l, xs, rfl, .inl (.inl (.inl hl)), p, c, ns, n, left, _, rfl, hp, hn, by omega, by omega, fun H' n' left' r sm hp' hn' r0 r1 => ?_⟩
    obtain ⟨j, rfl⟩ : ∃ j : Nat, r = (j : Int) := ⟨r.toNat, by omega⟩
    have hj : j < xs.length := by omega
    exact ⟨l, xs, _, xs[j], rfl, rfl, .inl (.inl (sm _ _ hlp hl)), atI_nat (List.getElem?_eq_getElem hj), q H' n' left' _ sm hp' hn' (List.getElem_mem hj)⟩
end
end PvK
set_option maxRecDepth 100000
/-! Defs that are called where no repr is under way; repr of data. -/
namespace PvK
open PySem PySem.Spec PyProof.Rows L2
/-! ### a def's promise where no repr is under way -/
structure FnG (P : Program) (w : World) (K : PySem.W.Frag) (mg : Str → Option Value) (base : Heap) (k : Nat) (f : Addr) (fd : FuncData) (ps : List Str) (sp : Sp) : Prop where
  len : ∀ vs H Q E, sp vs H Q E → vs.length = ps.length
  run : ∀ (A : Around) (outer : List Env) (s : Shared) (H : Hp) (args : Args) (us : List Value) (vs : List V) (Q : VK) (E : XK),
    A.guards = some [] → Room k A → Env0 P w K mg base A outer s H → BindsTo s fd args (ps.zip us) → Vals vs us → sp vs H Q E →
    codeAny (model P w) A (.call (.ref f) args) (CR CX0 outer P w H s Q E) s
section
variable {P : Program} {w : World} {K : PySem.W.Frag} {mg : Str → Option Value} {base : Heap}
theorem okG {x qual : Str} {st : Stmt} {f : Addr} {fd : FuncData} {N ps : List Str} {k : Nat} {sp : Sp} (F : Fun K x qual st f fd) (S : FnScope N ps (defScope st))
    (len : ∀ vs H Q E, sp vs H Q E → vs.length = ps.length)
    (hbody : ∀ (cdv : Value) (A : Around) (outer : List Env) (s : Shared) (H : Hp) (vs : List V) (Q : VK) (E : XK), A.guards = some [] →
      Room k (A.deeper (envOfC qual (defScope st) s.heap.objs.size f cdv)) → sp vs H Q E →
      ∃ t, PSs (cxOf CX0 P w K mg base N qual (defScope st) f cdv A outer s H E).nox (defBody st) t ∧ t { nx := fun _ H' => Q .non H', rt := Q } (start N vs) H) :
    FnG P w K mg base (k + 1) f fd ps sp := by
  obtain ⟨oc, od, kV, doc, pm, an, cdv, ct, osl, rfl, lk, hcd⟩ := F.ex
  refine ⟨len, fun A outer s H args us vs Q E gd hr e0 hb r hsp => ?_⟩
  have hk0 := fun b o e => (e0.bs b o e).1
  have hin : K.In s.heap := e0.mod.kin.keeps hk0
  have hno := e0.mod.nolimit.keeps hk0
  obtain ⟨t, ht, hq⟩ := hbody cdv A outer s H vs Q E gd (hr.deeper _) hsp
  refine codeAny_call_function hr.depth (hin _ _ lk) rfl S.co S.gen rfl
    (PySem.W.codeRec_of hin hcd) (hb _ _ _ _ ?_)
  refine wpAny_newFunctionEnv_cells S.kind (fun y hy => ?_) fun env he s1 x => ?_
  · obtain ⟨n, v⟩ := y
    have hm := (List.of_mem_zip hy).1
    cases S.par n hm with
    | inl q => exact .inl q
    | inr q => exact .inr ⟨q, PySem.W.cellsFrom_some _ _ _ (.inl q)⟩
  · subst he
    have I := inv_start (CX := CX0) (E := E) S hr.hd e0 (len _ _ _ _ hsp) r x
    refine ⟨hno.keeps x.toInCall.keep, codeAny_func (wpAny_mono (ht.nox.run [] s1 (start N vs) H _ I hq)
      (fun fl s' hs => ?_) fun e s' hs => hs)⟩
    cases fl with
    | next => obtain ⟨σ', H', J, q⟩ := hs; exact ⟨V.non, H', J.os, J.bare, J.base, J.hok, rfl, q⟩
    | ret u => obtain ⟨v, σ', H', J, rv, q⟩ := hs; exact ⟨v, H', J.os, J.bare, J.base, J.hok, rv, q⟩
    | brk => obtain ⟨_, _, _, q⟩ := hs; exact q.elim
    | cont => obtain ⟨_, _, _, q⟩ := hs; exact q.elim
end
section
variable {X : Cx} {k : Nat} {f : Addr} {fd : FuncData} {ps : List Str} {sp : Sp} {x : Str} {p pos : Pos} {e : Expr} {es : List Expr} {t : TA}
/-- f(e, ..), f of this kind, called where no repr is under way -/
theorem pe_callG (F : FnG X.prog X.w X.K X.mg X.base k f fd ps sp) (gd : X.A.guards = some []) (hr : Room k X.A) (hg : Gl X x) (hm : X.mg x = some (.ref f)) (hk : PySem.W.keepIn X.K (.ref f) = true) (hb : Binds X.K fd ps []) (ha : PA X (e :: es) t)
    (hdb : (x == ("__debug__" : Str)) = false := by decide) (he : starEach (e :: es) X.env = (false, eval e X.env) :: starEach es X.env := by rfl) (hpl : (backTo pos (starEach es X.env)).any (·.1) = false := by rfl) :
    PE X (.Call (.Name x p) (e :: es) [] pos) (tCall sp [] E0 t) := by
  refine ⟨fun pins s σ H Q I h => wpAny_Call_Name_kw (ld_glob I hg hm (PySem.W.callWith_K (h₀ := X.base) I.ok.mod.kin hk (thn (ha.run pos pins s σ H _ I h) fun us s1 hh => ?_) he hpl) hdb)⟩
  obtain ⟨vs, H1, I1, r1, q1⟩ := hh
  rw [List.append_nil] at q1
  have hl : us.length = ps.length := by rw [← r1.length]; exact F.len _ _ _ _ q1
  have hz : (us ++ []).length = ps.length := by rw [List.append_nil]; exact hl
  have hb' := hb s1 us I1.kIn hz
  rw [List.append_nil] at hb'
  refine ⟨I1.kIn, wpAny_call (codeAny_mono (F.run X.A X.stack s1 H1 ⟨us, []⟩ us vs Q E0 gd hr I1.env0 hb' r1 q1) fun r s' hq => ?_)⟩
  cases r with
  | error _ => exact hq.elim
  | ok fl =>
    cases fl with
    | ret u => exact I1.after hq
    | next => exact hq.elim
    | brk => exact hq.elim
    | cont => exact hq.elim
/-- repr(x), x a list or a tuple -/
def rRepr (K : PySem.W.Frag) : List V → Hp → VK → Prop := fun xs H Q => ∃ (a : Addr) (d : PyData), xs = [.ref a] ∧ Dp K H (.ref a) d ∧ d.showable = true ∧ d.hasDict = false ∧ d.depth ≤ 60 ∧ d.shown.length ≤ sizeLine ∧ Q (.str d.shown) H
theorem call_repr (gd : X.A.guards = some []) (hu : X.A.units + 64 < cLine) : CallR X (.builtin "repr") (rRepr X.K) := by
  intro pins s σ H xs us Q I r h
  obtain ⟨a, d, rfl, hd, hs, hn, hp, hl, q⟩ := h
  obtain ⟨u, rfl, ru⟩ := vals1 r
  cases ru
  obtain ⟨as, hr⟩ := Dp.reads I d _ _ hd rfl
  exact repr_of_reads' hr hs (fun z => by rw [hn] at z; cases z) gd (by omega) (fun _ _ e => e) (fun h' u tk k => ⟨.str d.shown, H, I.kept k, ⟨u, rfl⟩, q⟩) hl
end
end PvK
set_option maxRecDepth 100000
set_option maxHeartbeats 4000000
/-! An own error class whose __init__ says super().__init__(a text) and keeps its argument: made as a value. -/
namespace PvK
open PySem PySem.Spec PySem.W PySem.Calls PyProof.Rows L2
def iAr (ar : Str) (p1 p2 : Pos) : Arguments := { posonlyargs := [], args := [{ arg := "self", annotation := none, pos := p1 }, { arg := ar, annotation := none, pos := p2 }], vararg := none, kwonlyargs := [], kw_defaults := [], kwarg := none, defaults := [] }
def iSup (txt : Str) (j : Nat) (q1 q2 q3 q4 q5 q6 : Pos) : Stmt :=
  .Expr (.Call (.Attribute (.Call (.Name "super" q1) [] [] q2) "__init__" q3) [.Constant (.str txt) j q4] [] q5) q6
def iPut (f ar : Str) (r1 r2 r3 r4 : Pos) : Stmt := .Assign [.Attribute (.Name "self" r1) f r2] (.Name ar r3) r4
def iSc (ar : Str) : Scope := { kind := .function, names := [("self", .local), (ar, .local), ("__class__", .free), ("super", .globalImplicit)], isGenerator := false, isCoroutine := false, more := [] }
/-- what the written part says of such a class, at C, and of its __init__, at fI -/
structure InitTxt (P : Program) (K : Frag) (mg : Str → Option Value) (C fI : Addr) (f : Str) : Prop where
  cls : ∃ nm q N bs bm sn sub ab col dd k0 k1 k2 k3 k5, K.lookup C = some (excClassObj nm q C N bs bm true sn sub ab col dd k0 k1 k2 k3 k5 "ValueError.__new__") ∧ HandSPX.refsVE bm = true
  sa : findIn K (.ref C) "__setattr__" = some (some (.builtin "object.__setattr__"))
  noF : findIn K (.ref C) f = some none
  iC : findIn K (.ref C) "__init__" = some (some (.ref fI))
  tI : typeIn K (.ref fI) = some (.type "function")
  kC : keepIn K (.ref C) = true
  isV : subIn K (.ref C) (.type "ValueError") = some true
  isS : mroIn K C (.ref C) = some true
  sup : ks_superIn K C C "__init__" = some (some (.builtin "ValueError.__init__"))
  opq : nsIn K cStatics "thirdparty.any" = some none
  mS : mg "super" = none
  hfile : ∃ (cda : Addr) (ccl : Value) (cdd : Option Addr) (ccs : Array (Option Value)) (vs : Array Value) (file : Str) (tf : Tok) (cc : Addr) (cl : Value) (cld : Option Addr) (csl : Array (Option Value))
    (oc : Value) (od : Option Addr) (ar txt : Str) (j : Nat) (kV doc pm : Value) (an : Option Addr) (ct : Value) (osl : Array (Option Value)) (qual : Str) (p1 p2 q1 q2 q3 q4 q5 q6 r1 r2 r3 r4 : Pos),
    K.lookup cda = some ⟨ccl, cdd, .fields vs, ccs⟩ ∧ vs[2]? = some (.str file tf) ∧ ((P.main.file : Str) == file) = true ∧
    K.lookup cc = some ⟨cl, cld, .cell (some (.ref C)), csl⟩ ∧
    K.lookup fI = some ⟨oc, od, .func (ksFn "__init__" qual (iAr ar p1 p2) [iSup txt j q1 q2 q3 q4 q5 q6, iPut f ar r1 r2 r3 r4] (iSc ar) .none kV doc pm an (.ref cda) ct cc), osl⟩ ∧
    codeIn K (.ref cda) qual = true ∧ (ar == ("self" : Str)) = false ∧ (ar == ("__debug__" : Str)) = false ∧
    (∀ (s : Shared) (x v : Value), BindsTo s (ksFn "__init__" qual (iAr ar p1 p2) [iSup txt j q1 q2 q3 q4 q5 q6, iPut f ar r1 r2 r3 r4] (iSc ar) .none kV doc pm an (.ref cda) ct cc) ⟨[x, v], []⟩ [("self", x), (ar, v)]) ∧
    (∀ env : Env, ∃ pl : Sem Bool, eval (.Call (.Attribute (.Call (.Name "super" q1) [] [] q2) "__init__" q3) [.Constant (.str txt) j q4] [] q5) env = (do
      let ov ← attributeBase (.Call (.Name "super" q1) [] [] q2) "__init__" env (eval (.Call (.Name "super" q1) [] [] q2) env)
      standAt q3.atName
      let (g, first) ← holding [ov] (getMethod ov "__init__" pl)
      callWith q5 g first (backTo q5 (starEach [.Constant (.str txt) j q4] env)) [])) ∧
    (iSc ar).names.lookup ("super" : Str) = some .globalImplicit ∧ (iSc ar).names.lookup ("__class__" : Str) = some .free ∧ (iSc ar).names.lookup ar = some .local
  htop : (P.main.scope.names.lookup ("super" : Str)).isSome = false
/-- what __init__ leaves of a fresh error at x -/
structure Inited (h h' : Heap) (x C dx : Addr) (f : Str) (v : Value) : Prop where
  keep : ∀ b o, b ≠ x → h.get? b = some o → h'.get? b = some o
  obj : ∃ t1 : Addr, h'.get? x = some { cls := .ref C, dict := some dx, data := .fields #[.ref t1, .none, .none, .none, .bool false, .none] }
  dbig : h.objs.size ≤ dx
  dne : dx ≠ x
  ns : h'.Ns1 dx (fun y => if y = f then some v else none)
section
variable {prog : Program} {w : World} {A : Around} {E : Value → Shared → Prop} {R : Result → Shared → Prop} {s : Shared} {K : Frag} {mg : Str → Option Value} {base : Heap} {C fI : Addr} {f : Str}
theorem own_init (T : InitTxt prog K mg C fI f) (M : Mod K mg base) (hb : ∀ b o, base.get? b = some o → s.heap.get? b = some o) {x t0 : Addr} {v : Value} (hx : s.heap.get? x = some (HandSPX.excO C t0)) (hnx : K.lookup x = none) (hroom : A.depth < recursionLimit)
    (hq : ∀ h' tk dx, Inited s.heap h' x C dx f v → R (.ok (.ret .none)) { s with heap := h', toks := tk }) : codeAny (model prog w) A (.call (.ref fI) ⟨[.ref x, v], []⟩) R s := by
  obtain ⟨cda, ccl, cdd, ccs, vs, file, tf, cc, cl, cld, csl, oc, od, ar, txt, j, kV, doc, pm, an, ct, osl, qual, p1, p2, q1, q2, q3, q4, q5, q6, r1, r2, r3, r4, hcode, hvs, hfile, hcell, hfn, hcd, ns1, ns2, hbind, hev, lk1, lk2, lk3⟩ := T.hfile
  obtain ⟨nm, q, N, bs, bm, sn, sub, ab, col, dd, k0, k1, k2, k3, k5, hC, hbm⟩ := T.cls
  have X : K.In s.heap := M.kin.keeps hb
  have hcl : clsIn K C = some { name := nm, bases := bs, mro := .ref C :: bm, ns := N, qualname := q, hasDict := true, slotNames := sn, subclasses := sub, abstract := ab, collection := col, hasDel := false } := by unfold clsIn; rw [hC] <;> rfl
  refine ks_codeAny_call_defAt (body := [iSup txt j q1 q2 q3 q4 q5 q6, iPut f ar r1 r2 r3 r4]) (binds := [("self", .ref x), (ar, v)]) hroom (X _ _ hfn) rfl (M.nolimit.keeps hb) (codeRec_of X hcd) rfl (hbind _ _ _) ?_ ?_ (fun h₁ hns k => ?_) rfl rfl rfl
  · intro y hy
    simp only [ksFn, iSc, List.mem_cons, List.not_mem_nil, or_false] at hy
    rcases hy with rfl | rfl | rfl | rfl <;> exact fun z => nomatch z
  · intro y hy
    simp only [List.mem_cons, List.not_mem_nil, or_false] at hy
    rcases hy with rfl | rfl
    · rfl
    · exact lk3
  · have X₁ : K.In h₁ := X.keeps k
    have hx₁ := k _ _ hx
    have kb : ∀ b o, base.get? b = some o → h₁.get? b = some o := fun b o e => k b o (hb b o e)
    obtain ⟨mb, hmb, hbt⟩ := M.blt
    have hself : ([(("self" : Str), Value.ref x), (ar, v)].reverse).lookup ("self" : Str) = some (.ref x) := by
      have e : (("self" : Str) == ar) = false := by
        rw [Bool.eq_false_iff] at ns1 ⊢
        exact fun z => ns1 (by rw [beq_iff_eq] at z ⊢; exact z.symm)
      simp [List.lookup, e]
    have har : ([(("self" : Str), Value.ref x), (ar, v)].reverse).lookup ar = some v := by simp [List.lookup]
    have hsize : s.heap.objs.size ≤ h₁.objs.size := Nat.le_of_lt hns.lt
    obtain ⟨oD, hD1, hD2⟩ : ∃ oD, h₁.get? C = some oD ∧ oD.data = .cls { name := nm, bases := bs, mro := .ref C :: bm, ns := N, qualname := q, hasDict := true, slotNames := sn, subclasses := sub, abstract := ab, collection := col, hasDel := false } := ⟨_, X₁ _ _ hC, rfl⟩
    obtain ⟨pl, hev⟩ := hev (callEnv (ksFn "__init__" qual (iAr ar p1 p2) [iSup txt j q1 q2 q3 q4 q5 q6, iPut f ar r1 r2 r3 r4] (iSc ar) .none kV doc pm an (.ref cda) ct cc) s.heap.objs.size fI)
    refine ks_wpAt_execs_cons (ks_wpAt_Expr_any (ks_wpAt_MethodCall ?_ hev) (by rfl) (by rfl))
    refine ks_wpAt_super_base (ar := { arg := "self", annotation := none, pos := p1 }) lk1 lk2 rfl rfl (X₁ _ _ hfn) rfl rfl rfl (X₁ _ _ hcode) rfl hvs hfile T.htop ?_
    refine ks_loadName_global rfl lk1 (loadGlobal_builtin (M.glob.keeps kb) T.mS (hmb.keeps kb) ((hbt _ (by decide +kernel)).trans (by decide +kernel)) ⟨rfl, ?_⟩)
    refine wpAny_loadName_free rfl lk2 rfl ⟨_, X₁ _ _ hcell, rfl⟩ ?_
    refine wpAny_loadName_local rfl (by rfl) hns hself ?_
    refine ks_wpAny_isType_cls hD1 hD2 ⟨rfl, ?_⟩
    refine ks_wpAny_call_super hD1 hD2 hx₁ rfl (fun c e => nomatch e) (looks_mroIn X₁ T.isS) (fun h₂ e₂ k₂ => ?_)
    have X₂ : K.In h₂ := X₁.keeps k₂
    have hx₂ := k₂ _ _ hx₁
    have I₂ : InstAt h₂ x (HandSPX.excO C t0) C none := ⟨hx₂, rfl, rfl, trivial⟩
    have hsup : alongIn K "__init__" (((Value.ref C :: bm).dropWhile (· != .ref C)).drop 1) = some (some (.builtin "ValueError.__init__")) := by
      have z := T.sup
      unfold ks_superIn at z
      rw [hcl] at z
      exact z
    refine kxs_getMethod kxs_ValueError e₂ (looks_opaque X₂ T.opq) (l₀ := Value.ref C :: bm) (fun A Q E s k q => wpAny_bind ((looks_clsIn X₂ hcl) A _ E s k (wpAny_pure q))) rfl X₂ hsup (I₂.type.andThen (looks_subIn X₂ T.isV)) (ks_ne X₂ I₂ hcl) rfl ?_
    have k₃ : ∀ b o, h₂.get? b = some o → (h₂.push (kxs_mw "ValueError.__init__" x)).get? b = some o := fun b o e => Heap.get?_push_of_some _ e
    have hw : (h₂.push (kxs_mw "ValueError.__init__" x)).get? h₂.objs.size = some (kxs_mw "ValueError.__init__" x) := Heap.get?_push_at rfl rfl
    have X₃ := X₂.keeps k₃
    have hx₃ := k₃ _ _ hx₂
    refine kxs_callWith (i := "ValueError.__init__") (x := x) rfl (evalArgs_plain (Calls.spliced_cons (wpAny_Constant_str (k := j) (pos := q4) (Calls.spliced_nil ⟨hw, ?_⟩))))
    refine wpAny_call (codeAny_of_tree ?_)
    show wpAny _ _ (callAny (.ref h₂.objs.size) _) _ _ _
    simp only [callAny]
    refine wpAny_bind (wpAny_load hw ?_)
    simp only [kxs_mw, show (Value.type "method-wrapper" == Value.type "method" || Value.type "method-wrapper" == Value.type "builtin_function_or_method" || Value.type "method-wrapper" == Value.type "method-wrapper") = true by decide, if_true]
    refine KFB.if_so (by decide) ?_
    refine wpAny_bind (check_bound_init F.excBase_ValueError.toExcCallFacts (X₃ _ _ hC) hx₃ rfl ?_)
    refine wpAny_bind (wpAny_pure (wpAny_pure ?_))
    refine ⟨plainId_quiet F.excBase_ValueError.init.plain _, codeAny_builtin F.excBase_ValueError.initEntry ?_⟩
    refine exc_init_tree (cls := .ref C) (t0 := t0) (dv := none) (c2 := .none) (c3 := .none) (b4 := .bool false) hx₃ (by rw [sizeLine_eq]; exact Nat.le_of_ble_eq_true rfl) (fun h₄ k₄ hx₄ _ => ?_)
    have X₄ : K.In h₄ := fun b o e => k₄ b o (fun z => by rw [z, hnx] at e; cases e) (X₃ b o e)
    have hLx : s.heap.objs.size ≠ x := Nat.ne_of_gt (Heap.lt_size hx)
    have hns₄ : h₄.Ns s.heap.objs.size (fun y => ([(("self" : Str), Value.ref x), (ar, v)].reverse).lookup y) := by
      obtain ⟨o, es, ep, ho, hr⟩ := hns
      exact ⟨o, es, ep, k₄ _ _ hLx (k₃ _ _ (k₂ _ _ ho)), hr⟩
    refine ks_wpAt_execs_cons (wpAt_of_wpAny (plainObj_wpAny_Assign_Attribute ?_ rfl))
    refine ldc rfl lk3 hns₄ har (ldc rfl (by rfl) hns₄ hself ?_) ns2
    refine set_plain X₄ (ox := HandSPX.excO C (h₂.push (kxs_mw "ValueError.__init__" x)).objs.size) (od := none) ⟨hx₄, rfl, rfl, trivial⟩ T.sa ?_
    refine HandSPX.exc_osa X₄ hx₄ hcl (show HandSPX.refsVE (.ref C :: bm) = true from hbm) rfl T.noF (fun h₅ tk dx k₅ dn dne hx₅ hn₅ => ?_)
    exact wpAt_of_wpAny (wpAny_execs_nil (hq h₅ tk dx ⟨fun b o nb e => k₅ b o nb (k₄ b o nb (k₃ b o (k₂ b o (k b o e)))), ⟨_, hx₅⟩, Nat.le_trans (Nat.le_of_lt hns₄.lt) dn, dne, hn₅⟩))
/-- C(v) -/
theorem own_made (T : InitTxt prog K mg C fI f) (M : Mod K mg base) (hb : ∀ b o, base.get? b = some o → s.heap.get? b = some o) {v : Value} (hroom : A.depth + 1 < recursionLimit)
    (hq : ∀ h' tk e dx, s.heap.objs.size ≤ e → s.heap.objs.size ≤ dx → dx ≠ e → (∀ b o, s.heap.get? b = some o → h'.get? b = some o) → (∃ t1 : Addr, h'.get? e = some { cls := .ref C, dict := some dx, data := .fields #[.ref t1, .none, .none, .none, .bool false, .none] }) →
      h'.Ns1 dx (fun y => if y = f then some v else none) → R (.ok (.ret (.ref e))) { s with heap := h', toks := tk }) : codeAny (model prog w) A (.call (.ref C) ⟨[v], []⟩) R s := by
  obtain ⟨nm, q, N, bs, bm, sn, sub, ab, col, dd, k0, k1, k2, k3, k5, hC, hbm⟩ := T.cls
  have X : K.In s.heap := M.kin.keeps hb
  obtain ⟨hp, g, d, t, os⟩ := s
  have kk : ∀ b o, hp.get? b = some o → ((hp.push (kdv_tup [v])).push (HandSPX.excO C hp.objs.size)).get? b = some o := fun b o e => Heap.get?_push_of_some _ (Heap.get?_push_of_some _ e)
  have hget : ((hp.push (kdv_tup [v])).push (HandSPX.excO C hp.objs.size)).get? (hp.objs.size + 1) = some (HandSPX.excO C hp.objs.size) := by heap_get
  have hnx : K.lookup (hp.objs.size + 1) = none := by
    cases e : K.lookup (hp.objs.size + 1) with
    | none => rfl
    | some o => exact absurd (Nat.lt_of_succ_lt (Heap.lt_size (X _ _ e))) (Nat.lt_irrefl _)
  refine HandSPX.call_own F.excBase_ValueError (fun Y => HandSPX.refsVE_contains Y bm hbm) (X _ _ hC) (looks_findIn X T.iC) (fun self => bind_fn X self T.tI) (by rw [sizeLine_eq]; exact Nat.le_of_ble_eq_true rfl) ?_
  refine own_init (s := ⟨(hp.push (kdv_tup [v])).push (HandSPX.excO C hp.objs.size), g, d, t, os⟩) T M (fun b o e => kk b o (hb b o e)) hget hnx hroom fun h' tk' dx D => ?_
  have z : hp.objs.size + 1 + 1 ≤ dx := by
    have z1 := D.dbig
    first
      | (simpa only [Heap.size_push] using z1)
      | exact z1
  exact ⟨rfl, hq h' tk' (hp.objs.size + 1) dx (Nat.le_succ _) (show hp.objs.size ≤ dx by omega) D.dne (fun b o e => D.keep b o (Nat.ne_of_lt (Nat.lt_succ_of_lt (Heap.lt_size e))) (kk b o e)) D.obj D.ns⟩
end
end PvK
set_option maxRecDepth 100000
set_option maxHeartbeats 4000000
/-! Errors as values: made, asked by isinstance, their field read. -/
namespace PvK
open PySem PySem.Spec PyProof.Rows L2
/-- what isinstance and a field's reading want of an error's class -/
structure ErrC (K : PySem.W.Frag) (C : Addr) : Prop where
  hc : (PySem.W.clsIn K C).isSome = true
  hd : PySem.W.hasDictIn K C = true
  ga : PySem.W.findIn K (.ref C) "__getattribute__" = some (some (.builtin "BaseException.__getattribute__"))
  gt : PySem.W.findIn K (.ref C) "__getattr__" = some none
  hs : PySem.W.subIn K (.ref C) (.type "BaseException") = some true
  ha : PySem.W.findIn K (.ref C) "__class__" = some (some (.builtin "object.__class__"))
  hm : PySem.W.mroIn K C (.type "object") = some true
structure ErrK (K : PySem.W.Frag) : Prop where
  hn : PySem.W.specialIn K (.builtin "object.__class__") "__get__" = some (some (.builtin "getset_descriptor.__get__"))
  ht : PySem.W.takesIn K (.builtin "object.__class__") = some true
/-- at e: an error of the class at C -/
def IsErr (H : Hp) (C e : Addr) : Prop := H e = some (ExO (.ref C) e) ∨ ∃ d fs, H e = some (exo e C (some d)) ∧ H d = some (exd d fs)
theorem IsErr.same {H H' : Hp} {C e : Addr} (s : Same H H') (h : IsErr H C e) : IsErr H' C e := by
  rcases h with h | ⟨d, fs, h1, h2⟩
  · exact .inl (s _ _ h)
  · exact .inr ⟨d, fs, s _ _ h1, s _ _ h2⟩
theorem IsErr.at_ {P : Program} {w : World} {H : Hp} {h : Heap} {C e : Addr} (ok : HOk P w H h) (z : IsErr H C e) : ∃ oe od, PySem.W.InstAt h e oe C od := by
  rcases z with z | ⟨d, fs, z1, z2⟩
  · obtain ⟨⟨oe, vs, ho, hz, hd, _⟩, _⟩ := ok e _ z
    obtain ⟨oc, odd, oda, osl⟩ := oe
    obtain ⟨h1, h2⟩ := hz
    dsimp only at h1 h2 hd
    subst h1 h2 hd
    exact ⟨_, none, ho, rfl, rfl, trivial⟩
  · obtain ⟨t1, ho⟩ := exo_at ok z1
    obtain ⟨mA, ⟨od, es, ep, hd, _⟩, _⟩ := exd_at ok z2
    exact ⟨_, some od, ho, rfl, rfl, hd⟩
section
variable {X : Cx}
/-- isinstance(e, c), e an error -/
def rIsErr (K : PySem.W.Frag) : List V → Hp → VK → Prop := fun xs H Q => ∃ (e C : Addr) (c : V) (cv : Value) (b : Bool), xs = [.ref e, c] ∧ IsErr H C e ∧ ErrC K C ∧ (∀ u, RelV c u → u = cv) ∧ PySem.W.kitOne K (.ref C) cv = some b ∧ Q (.bl b) H
theorem call_isErr (EK : ErrK X.K) : CallR X (.builtin "isinstance") (rIsErr X.K) := by
  intro pins s σ H xs us Q I r h
  obtain ⟨e, C, c, cv, b, rfl, he, T, hcv, ek, q⟩ := h
  cases r with
  | cons rx rr =>
    cases rr with
    | cons rt rr =>
      cases rr
      cases rx
      have ec := hcv _ rt
      subst ec
      obtain ⟨oe, od, J⟩ := he.at_ I.hok
      exact PySem.W.kia_one (PySem.W.kitx_exc T.hc T.ga T.gt T.hs T.ha EK.hn EK.ht T.hm) I.kIn J ek (fun z => nomatch z) fun tk => ⟨.bl b, H, I.kept (t' := tk) fun _ _ z => z, rfl, q⟩
/-- C(e), C an own error class that keeps its argument in f -/
def tMkE (C : Addr) (f : Str) (ta : TE) : TE := fun σ H Q => ta σ H fun v H1 => ∀ a d, H1 a = none → H1 d = none → d ≠ a → Q (.ref a) (upd (upd H1 d (exd d [(f, v)])) a (exo a C (some d)))
theorem pe_mkErr {C fI : Addr} {f x : Str} {e : Expr} {ta : TE} {p pos : Pos} {k : Nat} (T : InitTxt X.prog X.K X.mg C fI f) (gC : X.mg x = some (.ref C)) (hr : Room k X.A) (he : PE X e ta) (hg : Gl X x := by rfl)
    (hs : starEach [e] X.env = (false, eval e X.env) :: starEach [] X.env := by rfl) (hdb : (x == ("__debug__" : Str)) = false := by decide) :
    PE X (.Call (.Name x p) [e] [] pos) (tMkE C f ta) := by
  refine ⟨fun pins s σ H Q I h => wpAny_Call_Name_kw (ld_glob I hg gC (PySem.W.callWith_K (h₀ := X.base) I.ok.mod.kin T.kC ?_ hs (by rfl)) hdb)⟩
  rw [hs]
  show wpAny _ _ (spliced ((false, eval e X.env) :: backTo pos (starEach [] X.env))) _ _ s
  refine Calls.spliced_cons (thn (he.run pins s σ H _ I h) fun u s1 ⟨v, H1, I1, r1, q1⟩ => Calls.spliced_nil ⟨I1.kIn, ?_⟩)
  show wpAny _ _ (call (.ref C) [u]) _ _ _
  have bs := I1.bs
  obtain ⟨hp, g, dr, tk, os⟩ := s1
  refine wpAny_call (own_made (s := ⟨hp, g, dr, tk, os⟩) T I1.ok.mod (fun b o z => (bs b o z).1) (by have := hr.dp; omega) fun h' tk' a d ha hd nd k ho hns => ?_)
  have ha1 : H1 a = none := I1.hok.fresh ha
  have hd1 : H1 d = none := I1.hok.fresh hd
  obtain ⟨t1, hoe⟩ := ho
  obtain ⟨G, g1, g2⟩ := restrict h' fun b => decide (b ≠ a)
  have gk : ∀ b, b ≠ a → G.get? b = h'.get? b := fun b hb => g1 b (decide_eq_true hb)
  have ge : G.get? a = none := g2 a (by simp)
  have old : ∀ b o, hp.get? b = some o → G.get? b = some o := fun b o z => (gk b (Nat.ne_of_lt (Nat.lt_of_lt_of_le (Heap.lt_size z) ha))).trans (k b o z)
  have rel : ∀ y, RelO (([(f, v)] : List (Str × V)).lookup y) (if y = f then some u else none) := fun y => relO_put (fs := []) (mA := fun _ => none) r1 (fun _ => trivial) y
  have J : Inv X pins σ (upd H1 d (exd d [(f, v)])) ⟨G, g, dr, tk', os⟩ := I1.laid (t' := tk') old hd (exd_ok (hns.at fun o z => (gk d nd).trans z) rel)
  have ha2 : (upd H1 d (exd d [(f, v)])) a = none := by
    rw [upd_ne (Ne.symm nd)]
    exact ha1
  have J2 : Inv X pins σ (upd (upd H1 d (exd d [(f, v)])) a (exo a C (some d))) ⟨h', g, dr, tk', os⟩ :=
    J.laidN (t' := tk') (fun b o z => by
      by_cases hb : b = a
      · have z' : G.get? b = some o := z
        rw [hb, ge] at z'
        cases z'
      · exact (gk b hb).symm.trans z) ge ha2 (exo_ok hoe)
  exact ⟨.ref a, _, J2, rfl, q1 a d ha1 hd1 nd⟩
/-- e.f of such an error -/
def tFldE (K : PySem.W.Frag) (f : Str) (te : TE) : TE := fun σ H Q => te σ H fun x H1 => ∃ (a C d : Addr) (v : V), x = .ref a ∧ H1 a = some (exo a C (some d)) ∧ H1 d = some (exd d [(f, v)]) ∧ ErrC K C ∧ PySem.W.findIn K (.ref C) f = some none ∧ Q v H1
theorem pe_fldErr {f : Str} {e : Expr} {te : TE} {pos : Pos} (he : PE X e te) (hb : attributeBase e f X.env (eval e X.env) = eval e X.env := by rfl) : PE X (.Attribute e f pos) (tFldE X.K f te) := by
  refine ⟨fun pins s σ H Q I h => attr_of hb (thn (he.run pins s σ H _ I h) fun u s1 hh => ?_)⟩
  obtain ⟨x, H1, I1, rx, a, C, d, v, rfl, ea, ed, T, noF, q⟩ := hh
  obtain rfl : u = Value.ref a := rx
  obtain ⟨t1, ho⟩ := exo_at I1.hok ea
  obtain ⟨mA, hns, rel⟩ := exd_at I1.hok ed
  obtain ⟨od, hod, hl⟩ := lookIn_ns hns
  have l : ([(f, v)] : List (Str × V)).lookup f = some v := by simp [List.lookup]
  obtain ⟨w', hu, ru⟩ := RelO.some_of (v := v) (o := mA f) (by rw [← l]; exact rel f)
  have J : PySem.W.InstAt s1.heap a _ C (some od) := ⟨ho, rfl, rfl, hod⟩
  exact HandSPX.exc_get I1.kIn J T.ga T.gt T.hs (PySem.W.findObj_own T.hd noF rfl (by rw [hl, hu])) (handed_of ru) ⟨v, H1, I1.tok _, ru, q⟩
end
end PvK
set_option maxRecDepth 100000
set_option maxHeartbeats 4000000
/-! The word of an error: its one class. -/
namespace PvK
open PySem PySem.Spec PyProof.Rows L2
abbrev sRef : Stmt := topS 27
theorem scRef : FnScope ["caught", "some", "words"] ["caught"] (defScope sRef) := ⟨rfl, rfl, rfl, by decide +kernel, rfl, by decide +kernel, by decide +kernel⟩
section
variable {X : Cx}
/-- bs.count(k), bools -/
def rCntB (K : PySem.W.Frag) : V → List V → Hp → VK → Prop := fun x xs H Q => ∃ (p : Addr) (bs : List Bool) (k : Bool), x = .ref p ∧ xs = [.bl k] ∧ SqL K H p (bs.map V.bl) ∧ Q (.int (bs.count k : Nat)) H
theorem bl_vals : ∀ {bs : List Bool} {its : List Value}, Vals (bs.map V.bl) its → its = bs.map Value.bool
  | [], _, r => by cases r; rfl
  | b :: bs, _, r => by
    cases r with
    | cons r1 r2 =>
      cases r1
      rw [bl_vals r2]
      rfl
theorem countP_bl (k : Bool) : ∀ bs : List Bool, (bs.map Value.bool).countP (PyProof.Rows.isBoolOf k) = bs.count k
  | [] => rfl
  | b :: bs => by
    rw [List.map_cons, List.countP_cons, List.count_cons, countP_bl k bs]
    rfl
theorem mt_countB : MtR X "list.count" (rCntB X.K) := by
  intro pins s σ H x xs v us Q I rx rxs h
  obtain ⟨p, bs, k, rfl, rfl, hs, q⟩ := h
  cases rx
  obtain ⟨u, rfl, ru⟩ := rxs.one
  obtain rfl : u = Value.bool k := ru
  obtain ⟨its, rv, ⟨⟨cls, dd, data, sl⟩, n, ho, hc, hdn, hd⟩, hlen⟩ := I.list hs
  simp only at hc hd
  subst hc hd
  have e := bl_vals rv
  subst e
  refine call_meets PySem.F.slot_list_count ⟨_, ho, rfl⟩ PySem.F.entry_list_count (PySem.F.args_list_count_2 _ _)
    (SeqAt.list_countAt p (bs.map Value.bool).toArray n dd sl (.bool k) (PyProof.Rows.isBoolOf k)) ⟨ho, fun y hy => ?_, ?_⟩
  · have hy' : y ∈ bs.map Value.bool := by simpa using hy
    obtain ⟨b, _, rfl⟩ := List.mem_map.mp hy'
    exact SeqAt.EqAt.bool_bool b k
  · rw [show (bs.map Value.bool).toArray.toList = bs.map Value.bool from rfl, countP_bl]
    exact ⟨.int _, H, I.tok _, ⟨_, rfl⟩, q⟩
end
/-- what the top holds for the errors: their classes C 0 .. C 18, and ViewError, C 19 -/
structure ErrTop (K : PySem.W.Frag) (mg : Str → Option Value) (C : Nat → Addr) : Prop where
  ek : ErrK K
  err : ∀ i, i < 20 → ErrC K (C i)
  kit : ∀ i j, i < 20 → j < 19 → PySem.W.kitOne K (.ref (C i)) (.ref (C j)) = some (decide (i = j))
  kitV : ∀ i, i < 20 → PySem.W.kitOne K (.ref (C i)) (.ref (C 19)) = some true
  kitT : ∀ i, i < 20 → PySem.W.kitOne K (.ref (C i)) (.type "ValueError") = some true
  mi : mg "isinstance" = none
  mV : mg "ValueError" = none
  g0 : mg "InvalidNames" = some (.ref (C 0))
  g1 : mg "InvalidFamily" = some (.ref (C 1))
  g2 : mg "InvalidLog" = some (.ref (C 2))
  g3 : mg "InvalidCase" = some (.ref (C 3))
  g4 : mg "InvalidNumber" = some (.ref (C 4))
  g5 : mg "InvalidRing" = some (.ref (C 5))
  g6 : mg "CountConflict" = some (.ref (C 6))
  g7 : mg "Impossible" = some (.ref (C 7))
  g8 : mg "NotUndecided" = some (.ref (C 8))
  g9 : mg "Contradiction" = some (.ref (C 9))
  g10 : mg "NothingSeen" = some (.ref (C 10))
  g11 : mg "TooLong" = some (.ref (C 11))
  g12 : mg "TooMany" = some (.ref (C 12))
  g13 : mg "NotACertificate" = some (.ref (C 13))
  g14 : mg "UnknownEvent" = some (.ref (C 14))
  g15 : mg "InvalidObserver" = some (.ref (C 15))
  g16 : mg "NotSeen" = some (.ref (C 16))
  g17 : mg "Full" = some (.ref (C 17))
  g18 : mg "InvalidMark" = some (.ref (C 18))
  g19 : mg "ViewError" = some (.ref (C 19))
def wordsL : List Str := [Str.ofString "names", Str.ofString "family", Str.ofString "log", Str.ofString "case", Str.ofString "number", Str.ofString "ring", Str.ofString "count", Str.ofString "impossible", Str.ofString "certain", Str.ofString "contradiction"] ++ [Str.ofString "nothing", Str.ofString "long", Str.ofString "many", Str.ofString "certificate", Str.ofString "event", Str.ofString "observer", Str.ofString "not seen", Str.ofString "full", Str.ofString "mark"]
def wordOf (i : Nat) : Str := if i < 19 then wordsL.getD i "more" else "more"
def bitsOf (i : Nat) : List Bool := [decide (i = 0), decide (i = 1), decide (i = 2), decide (i = 3), decide (i = 4), decide (i = 5), decide (i = 6), decide (i = 7), decide (i = 8), decide (i = 9), decide (i = 10), decide (i = 11), decide (i = 12), decide (i = 13), decide (i = 14), decide (i = 15), decide (i = 16), decide (i = 17), decide (i = 18)]
theorem bits_count : ∀ i, i < 20 → (bitsOf i).count true = if i < 19 then 1 else 0 := by decide
theorem bits_at : ∀ i, i < 19 → (bitsOf i)[i]? = some true ∧ ∀ m, m < i → (bitsOf i)[m]? = some false := by decide
theorem words_at : ∀ i, i < 19 → wordsL[i]? = some (wordOf i) := by decide +kernel
section
variable {P : Program} {w : World} {K : PySem.W.Frag} {mg : Str → Option Value} {base : Heap}
def spRef (C : Nat → Addr) : Sp := fun vs H Q _ => ∃ (e : Addr) (i : Nat), vs = [.ref e] ∧ i < 20 ∧ IsErr H (C i) e ∧ ∀ H', Same H H' → Q (.str (wordOf i)) H'
theorem ok_ref {f : Addr} {fd : FuncData} {k : Nat} {C : Nat → Addr} (F : Fun K "_law_refusal" "_law_refusal" sRef f fd) (T : ErrTop K mg C) : FnOk P w K mg base CX0 (k + 1) f fd ["caught"] (spRef C) := by
  refine F.ok scRef (fun vs H Q E h => ?_) (fun cdv A outer s H vs Q E hr h => ?_)
  · obtain ⟨e, i, rfl, _⟩ := h
    rfl
  · obtain ⟨e, i, rfl, hi, he, q⟩ := h
    refine ⟨_, (pss_cons (ps_set (i := 1) scRef.nd rfl (.inl rfl) (pe_lst (pa_cons (pe_callB (call_isErr T.ek) (by rfl) T.mi boot_isinstance (pa_cons (pv 0) (pa_cons (pe_glob (v := .ref (C 0)) rfl T.g0 rfl) pa_nil))) (pa_cons (pe_callB (call_isErr T.ek) (by rfl) T.mi boot_isinstance (pa_cons (pv 0) (pa_cons (pe_glob (v := .ref (C 1)) rfl T.g1 rfl) pa_nil))) (pa_cons (pe_callB (call_isErr T.ek) (by rfl) T.mi boot_isinstance (pa_cons (pv 0) (pa_cons (pe_glob (v := .ref (C 2)) rfl T.g2 rfl) pa_nil))) pa_nil)))))
      (pss_cons (ps_set (i := 1) scRef.nd rfl (.inl rfl) (pe_op op_cat (pv 1) (pe_lst (pa_cons (pe_callB (call_isErr T.ek) (by rfl) T.mi boot_isinstance (pa_cons (pv 0) (pa_cons (pe_glob (v := .ref (C 3)) rfl T.g3 rfl) pa_nil))) (pa_cons (pe_callB (call_isErr T.ek) (by rfl) T.mi boot_isinstance (pa_cons (pv 0) (pa_cons (pe_glob (v := .ref (C 4)) rfl T.g4 rfl) pa_nil))) (pa_cons (pe_callB (call_isErr T.ek) (by rfl) T.mi boot_isinstance (pa_cons (pv 0) (pa_cons (pe_glob (v := .ref (C 5)) rfl T.g5 rfl) pa_nil))) pa_nil))))))
      (pss_cons (ps_set (i := 1) scRef.nd rfl (.inl rfl) (pe_op op_cat (pv 1) (pe_lst (pa_cons (pe_callB (call_isErr T.ek) (by rfl) T.mi boot_isinstance (pa_cons (pv 0) (pa_cons (pe_glob (v := .ref (C 6)) rfl T.g6 rfl) pa_nil))) (pa_cons (pe_callB (call_isErr T.ek) (by rfl) T.mi boot_isinstance (pa_cons (pv 0) (pa_cons (pe_glob (v := .ref (C 7)) rfl T.g7 rfl) pa_nil))) pa_nil)))))
      (pss_cons (ps_set (i := 1) scRef.nd rfl (.inl rfl) (pe_op op_cat (pv 1) (pe_lst (pa_cons (pe_callB (call_isErr T.ek) (by rfl) T.mi boot_isinstance (pa_cons (pv 0) (pa_cons (pe_glob (v := .ref (C 8)) rfl T.g8 rfl) pa_nil))) (pa_cons (pe_callB (call_isErr T.ek) (by rfl) T.mi boot_isinstance (pa_cons (pv 0) (pa_cons (pe_glob (v := .ref (C 9)) rfl T.g9 rfl) pa_nil))) pa_nil)))))
      (pss_cons (ps_set (i := 1) scRef.nd rfl (.inl rfl) (pe_op op_cat (pv 1) (pe_lst (pa_cons (pe_callB (call_isErr T.ek) (by rfl) T.mi boot_isinstance (pa_cons (pv 0) (pa_cons (pe_glob (v := .ref (C 10)) rfl T.g10 rfl) pa_nil))) (pa_cons (pe_callB (call_isErr T.ek) (by rfl) T.mi boot_isinstance (pa_cons (pv 0) (pa_cons (pe_glob (v := .ref (C 11)) rfl T.g11 rfl) pa_nil))) (pa_cons (pe_callB (call_isErr T.ek) (by rfl) T.mi boot_isinstance (pa_cons (pv 0) (pa_cons (pe_glob (v := .ref (C 12)) rfl T.g12 rfl) pa_nil))) pa_nil))))))
      (pss_cons (ps_set (i := 1) scRef.nd rfl (.inl rfl) (pe_op op_cat (pv 1) (pe_lst (pa_cons (pe_callB (call_isErr T.ek) (by rfl) T.mi boot_isinstance (pa_cons (pv 0) (pa_cons (pe_glob (v := .ref (C 13)) rfl T.g13 rfl) pa_nil))) (pa_cons (pe_callB (call_isErr T.ek) (by rfl) T.mi boot_isinstance (pa_cons (pv 0) (pa_cons (pe_glob (v := .ref (C 14)) rfl T.g14 rfl) pa_nil))) pa_nil)))))
      (pss_cons (ps_set (i := 1) scRef.nd rfl (.inl rfl) (pe_op op_cat (pv 1) (pe_lst (pa_cons (pe_callB (call_isErr T.ek) (by rfl) T.mi boot_isinstance (pa_cons (pv 0) (pa_cons (pe_glob (v := .ref (C 15)) rfl T.g15 rfl) pa_nil))) (pa_cons (pe_callB (call_isErr T.ek) (by rfl) T.mi boot_isinstance (pa_cons (pv 0) (pa_cons (pe_glob (v := .ref (C 16)) rfl T.g16 rfl) pa_nil))) (pa_cons (pe_callB (call_isErr T.ek) (by rfl) T.mi boot_isinstance (pa_cons (pv 0) (pa_cons (pe_glob (v := .ref (C 17)) rfl T.g17 rfl) pa_nil))) pa_nil))))))
      (pss_cons (ps_expr (pe_bm PySem.F.plainAttrs_list PySem.F.slot_list_append PySem.F.type_list_append mt_append (pv 1) (pa_cons (pe_callB (call_isErr T.ek) (by rfl) T.mi boot_isinstance (pa_cons (pv 0) (pa_cons (pe_glob (v := .ref (C 18)) rfl T.g18 rfl) pa_nil))) pa_nil)))
      (pss_cons (ps_if (PW.pt (pw_or (pt_cmpR op_ne (pe_bm PySem.F.plainAttrs_list PySem.F.slot_list_count PySem.F.type_list_count mt_countB (pv 1) (pa_cons pe_bl pa_nil)) pe_int (nomark _)) (pw_or (pt_not (pt_val (pe_callB (call_isErr T.ek) (by rfl) T.mi boot_isinstance (pa_cons (pv 0) (pa_cons (pe_glob (v := .ref (C 19)) rfl T.g19 rfl) pa_nil))))) (pw_or1 (pt_not (pt_val (pe_callB (call_isErr T.ek) (by rfl) T.mi boot_isinstance (pa_cons (pv 0) (pa_cons (pe_bltn (v := .ty "ValueError") (by rfl) T.mV (by decide +kernel) rfl) pa_nil))))))))) (pss_one (ps_ret pe_str)) pss_nil)
      (pss_cons (ps_set (i := 2) scRef.nd rfl (.inl rfl) (pe_lst (pa_cons pe_str (pa_cons pe_str (pa_cons pe_str (pa_cons pe_str (pa_cons pe_str (pa_cons pe_str (pa_cons pe_str (pa_cons pe_str (pa_cons pe_str (pa_cons pe_str pa_nil))))))))))))
      (pss_cons (ps_set (i := 2) scRef.nd rfl (.inl rfl) (pe_op op_cat (pv 2) (pe_lst (pa_cons pe_str (pa_cons pe_str (pa_cons pe_str (pa_cons pe_str (pa_cons pe_str (pa_cons pe_str (pa_cons pe_str (pa_cons pe_str (pa_cons pe_str pa_nil))))))))))))
      (pss_one (ps_ret (pe_ix ix_list (pv 2) (pe_bm PySem.F.plainAttrs_list PySem.F.slot_list_index PySem.F.type_list_index mt_index (pv 1) (pa_cons pe_bl pa_nil)) (fun _ _ => rfl))))))))))))))), ?_⟩
    refine ⟨_, rfl, e, C i, _, _, decide (i = 0), rfl, he.same (.refl _), T.err i hi, (fun _ r => r), T.kit i 0 hi (by decide), _, rfl, e, C i, _, _, decide (i = 1), rfl, he.same (.refl _), T.err i hi, (fun _ r => r), T.kit i 1 hi (by decide), _, rfl, e, C i, _, _, decide (i = 2), rfl, he.same (.refl _), T.err i hi, (fun _ r => r), T.kit i 2 hi (by decide), by show 3 ≤ sizeLine; decide, fun p0 n0 => ?_⟩
    obtain ⟨H0, h0⟩ : ∃ H0, H0 = upd H p0 (.lst [V.bl (decide (i = 0)), V.bl (decide (i = 1)), V.bl (decide (i = 2))]) := ⟨_, rfl⟩
    rw [← h0]
    have s0 : Same H H0 := by rw [h0]; exact same_upd n0
    have e0 : H0 p0 = some (.lst [V.bl (decide (i = 0)), V.bl (decide (i = 1)), V.bl (decide (i = 2))]) := by rw [h0]; exact upd_same
    refine ⟨_, rfl, _, rfl, e, C i, _, _, decide (i = 3), rfl, he.same s0, T.err i hi, (fun _ r => r), T.kit i 3 hi (by decide), _, rfl, e, C i, _, _, decide (i = 4), rfl, he.same s0, T.err i hi, (fun _ r => r), T.kit i 4 hi (by decide), _, rfl, e, C i, _, _, decide (i = 5), rfl, he.same s0, T.err i hi, (fun _ r => r), T.kit i 5 hi (by decide), by show 3 ≤ sizeLine; decide, fun q1 m1 => ⟨p0, q1, _, _, rfl, rfl, by rw [upd_ne (ne_of_none e0 m1)]; exact e0, upd_same, by show 6 ≤ sizeLine; decide, fun p1 n1 => ?_⟩⟩
    obtain ⟨H1, h1⟩ : ∃ H1, H1 = upd (upd H0 q1 (.lst [V.bl (decide (i = 3)), V.bl (decide (i = 4)), V.bl (decide (i = 5))])) p1 (.lst ([V.bl (decide (i = 0)), V.bl (decide (i = 1)), V.bl (decide (i = 2))] ++ [V.bl (decide (i = 3)), V.bl (decide (i = 4)), V.bl (decide (i = 5))])) := ⟨_, rfl⟩
    rw [← h1]
    have s1 : Same H H1 := by rw [h1]; exact (s0.trans (same_upd m1)).trans (same_upd n1)
    have e1 : H1 p1 = some (.lst [V.bl (decide (i = 0)), V.bl (decide (i = 1)), V.bl (decide (i = 2)), V.bl (decide (i = 3)), V.bl (decide (i = 4)), V.bl (decide (i = 5))]) := by rw [h1]; exact upd_same
    refine ⟨_, rfl, _, rfl, e, C i, _, _, decide (i = 6), rfl, he.same s1, T.err i hi, (fun _ r => r), T.kit i 6 hi (by decide), _, rfl, e, C i, _, _, decide (i = 7), rfl, he.same s1, T.err i hi, (fun _ r => r), T.kit i 7 hi (by decide), by show 2 ≤ sizeLine; decide, fun q2 m2 => ⟨p1, q2, _, _, rfl, rfl, by rw [upd_ne (ne_of_none e1 m2)]; exact e1, upd_same, by show 8 ≤ sizeLine; decide, fun p2 n2 => ?_⟩⟩
    obtain ⟨H2, h2⟩ : ∃ H2, H2 = upd (upd H1 q2 (.lst [V.bl (decide (i = 6)), V.bl (decide (i = 7))])) p2 (.lst ([V.bl (decide (i = 0)), V.bl (decide (i = 1)), V.bl (decide (i = 2)), V.bl (decide (i = 3)), V.bl (decide (i = 4)), V.bl (decide (i = 5))] ++ [V.bl (decide (i = 6)), V.bl (decide (i = 7))])) := ⟨_, rfl⟩
    rw [← h2]
    have s2 : Same H H2 := by rw [h2]; exact (s1.trans (same_upd m2)).trans (same_upd n2)
    have e2 : H2 p2 = some (.lst [V.bl (decide (i = 0)), V.bl (decide (i = 1)), V.bl (decide (i = 2)), V.bl (decide (i = 3)), V.bl (decide (i = 4)), V.bl (decide (i = 5)), V.bl (decide (i = 6)), V.bl (decide (i = 7))]) := by rw [h2]; exact upd_same
    refine ⟨_, rfl, _, rfl, e, C i, _, _, decide (i = 8), rfl, he.same s2, T.err i hi, (fun _ r => r), T.kit i 8 hi (by decide), _, rfl, e, C i, _, _, decide (i = 9), rfl, he.same s2, T.err i hi, (fun _ r => r), T.kit i 9 hi (by decide), by show 2 ≤ sizeLine; decide, fun q3 m3 => ⟨p2, q3, _, _, rfl, rfl, by rw [upd_ne (ne_of_none e2 m3)]; exact e2, upd_same, by show 10 ≤ sizeLine; decide, fun p3 n3 => ?_⟩⟩
    obtain ⟨H3, h3⟩ : ∃ H3, H3 = upd (upd H2 q3 (.lst [V.bl (decide (i = 8)), V.bl (decide (i = 9))])) p3 (.lst ([V.bl (decide (i = 0)), V.bl (decide (i = 1)), V.bl (decide (i = 2)), V.bl (decide (i = 3)), V.bl (decide (i = 4)), V.bl (decide (i = 5)), V.bl (decide (i = 6)), V.bl (decide (i = 7))] ++ [V.bl (decide (i = 8)), V.bl (decide (i = 9))])) := ⟨_, rfl⟩
    rw [← h3]
    have s3 : Same H H3 := by rw [h3]; exact (s2.trans (same_upd m3)).trans (same_upd n3)
    have e3 : H3 p3 = some (.lst [V.bl (decide (i = 0)), V.bl (decide (i = 1)), V.bl (decide (i = 2)), V.bl (decide (i = 3)), V.bl (decide (i = 4)), V.bl (decide (i = 5)), V.bl (decide (i = 6)), V.bl (decide (i = 7)), V.bl (decide (i = 8)), V.bl (decide (i = 9))]) := by rw [h3]; exact upd_same
    refine ⟨_, rfl, _, rfl, e, C i, _, _, decide (i = 10), rfl, he.same s3, T.err i hi, (fun _ r => r), T.kit i 10 hi (by decide), _, rfl, e, C i, _, _, decide (i = 11), rfl, he.same s3, T.err i hi, (fun _ r => r), T.kit i 11 hi (by decide), _, rfl, e, C i, _, _, decide (i = 12), rfl, he.same s3, T.err i hi, (fun _ r => r), T.kit i 12 hi (by decide), by show 3 ≤ sizeLine; decide, fun q4 m4 => ⟨p3, q4, _, _, rfl, rfl, by rw [upd_ne (ne_of_none e3 m4)]; exact e3, upd_same, by show 13 ≤ sizeLine; decide, fun p4 n4 => ?_⟩⟩
    obtain ⟨H4, h4⟩ : ∃ H4, H4 = upd (upd H3 q4 (.lst [V.bl (decide (i = 10)), V.bl (decide (i = 11)), V.bl (decide (i = 12))])) p4 (.lst ([V.bl (decide (i = 0)), V.bl (decide (i = 1)), V.bl (decide (i = 2)), V.bl (decide (i = 3)), V.bl (decide (i = 4)), V.bl (decide (i = 5)), V.bl (decide (i = 6)), V.bl (decide (i = 7)), V.bl (decide (i = 8)), V.bl (decide (i = 9))] ++ [V.bl (decide (i = 10)), V.bl (decide (i = 11)), V.bl (decide (i = 12))])) := ⟨_, rfl⟩
    rw [← h4]
    have s4 : Same H H4 := by rw [h4]; exact (s3.trans (same_upd m4)).trans (same_upd n4)
    have e4 : H4 p4 = some (.lst [V.bl (decide (i = 0)), V.bl (decide (i = 1)), V.bl (decide (i = 2)), V.bl (decide (i = 3)), V.bl (decide (i = 4)), V.bl (decide (i = 5)), V.bl (decide (i = 6)), V.bl (decide (i = 7)), V.bl (decide (i = 8)), V.bl (decide (i = 9)), V.bl (decide (i = 10)), V.bl (decide (i = 11)), V.bl (decide (i = 12))]) := by rw [h4]; exact upd_same
    refine ⟨_, rfl, _, rfl, e, C i, _, _, decide (i = 13), rfl, he.same s4, T.err i hi, (fun _ r => r), T.kit i 13 hi (by decide), _, rfl, e, C i, _, _, decide (i = 14), rfl, he.same s4, T.err i hi, (fun _ r => r), T.kit i 14 hi (by decide), by show 2 ≤ sizeLine; decide, fun q5 m5 => ⟨p4, q5, _, _, rfl, rfl, by rw [upd_ne (ne_of_none e4 m5)]; exact e4, upd_same, by show 15 ≤ sizeLine; decide, fun p5 n5 => ?_⟩⟩
    obtain ⟨H5, h5⟩ : ∃ H5, H5 = upd (upd H4 q5 (.lst [V.bl (decide (i = 13)), V.bl (decide (i = 14))])) p5 (.lst ([V.bl (decide (i = 0)), V.bl (decide (i = 1)), V.bl (decide (i = 2)), V.bl (decide (i = 3)), V.bl (decide (i = 4)), V.bl (decide (i = 5)), V.bl (decide (i = 6)), V.bl (decide (i = 7)), V.bl (decide (i = 8)), V.bl (decide (i = 9)), V.bl (decide (i = 10)), V.bl (decide (i = 11)), V.bl (decide (i = 12))] ++ [V.bl (decide (i = 13)), V.bl (decide (i = 14))])) := ⟨_, rfl⟩
    rw [← h5]
    have s5 : Same H H5 := by rw [h5]; exact (s4.trans (same_upd m5)).trans (same_upd n5)
    have e5 : H5 p5 = some (.lst [V.bl (decide (i = 0)), V.bl (decide (i = 1)), V.bl (decide (i = 2)), V.bl (decide (i = 3)), V.bl (decide (i = 4)), V.bl (decide (i = 5)), V.bl (decide (i = 6)), V.bl (decide (i = 7)), V.bl (decide (i = 8)), V.bl (decide (i = 9)), V.bl (decide (i = 10)), V.bl (decide (i = 11)), V.bl (decide (i = 12)), V.bl (decide (i = 13)), V.bl (decide (i = 14))]) := by rw [h5]; exact upd_same
    refine ⟨_, rfl, _, rfl, e, C i, _, _, decide (i = 15), rfl, he.same s5, T.err i hi, (fun _ r => r), T.kit i 15 hi (by decide), _, rfl, e, C i, _, _, decide (i = 16), rfl, he.same s5, T.err i hi, (fun _ r => r), T.kit i 16 hi (by decide), _, rfl, e, C i, _, _, decide (i = 17), rfl, he.same s5, T.err i hi, (fun _ r => r), T.kit i 17 hi (by decide), by show 3 ≤ sizeLine; decide, fun q6 m6 => ⟨p5, q6, _, _, rfl, rfl, by rw [upd_ne (ne_of_none e5 m6)]; exact e5, upd_same, by show 18 ≤ sizeLine; decide, fun p6 n6 => ?_⟩⟩
    obtain ⟨H6, h6⟩ : ∃ H6, H6 = upd (upd H5 q6 (.lst [V.bl (decide (i = 15)), V.bl (decide (i = 16)), V.bl (decide (i = 17))])) p6 (.lst ([V.bl (decide (i = 0)), V.bl (decide (i = 1)), V.bl (decide (i = 2)), V.bl (decide (i = 3)), V.bl (decide (i = 4)), V.bl (decide (i = 5)), V.bl (decide (i = 6)), V.bl (decide (i = 7)), V.bl (decide (i = 8)), V.bl (decide (i = 9)), V.bl (decide (i = 10)), V.bl (decide (i = 11)), V.bl (decide (i = 12)), V.bl (decide (i = 13)), V.bl (decide (i = 14))] ++ [V.bl (decide (i = 15)), V.bl (decide (i = 16)), V.bl (decide (i = 17))])) := ⟨_, rfl⟩
    rw [← h6]
    have s6 : Same H H6 := by rw [h6]; exact (s5.trans (same_upd m6)).trans (same_upd n6)
    have e6 : H6 p6 = some (.lst [V.bl (decide (i = 0)), V.bl (decide (i = 1)), V.bl (decide (i = 2)), V.bl (decide (i = 3)), V.bl (decide (i = 4)), V.bl (decide (i = 5)), V.bl (decide (i = 6)), V.bl (decide (i = 7)), V.bl (decide (i = 8)), V.bl (decide (i = 9)), V.bl (decide (i = 10)), V.bl (decide (i = 11)), V.bl (decide (i = 12)), V.bl (decide (i = 13)), V.bl (decide (i = 14)), V.bl (decide (i = 15)), V.bl (decide (i = 16)), V.bl (decide (i = 17))]) := by rw [h6]; exact upd_same
    refine ⟨.ref p6, rfl, .inl ⟨rfl, _, .inl (.inl e6)⟩, _, rfl, e, C i, _, _, decide (i = 18), rfl, he.same s6, T.err i hi, (fun _ r => r), T.kit i 18 hi (by decide), p6, _, _, rfl, rfl, e6, by show 18 < sizeLine; decide, ?_⟩
    obtain ⟨H7, h7⟩ : ∃ H7, H7 = upd H6 p6 (.lst ([V.bl (decide (i = 0)), V.bl (decide (i = 1)), V.bl (decide (i = 2)), V.bl (decide (i = 3)), V.bl (decide (i = 4)), V.bl (decide (i = 5)), V.bl (decide (i = 6)), V.bl (decide (i = 7)), V.bl (decide (i = 8)), V.bl (decide (i = 9)), V.bl (decide (i = 10)), V.bl (decide (i = 11)), V.bl (decide (i = 12)), V.bl (decide (i = 13)), V.bl (decide (i = 14)), V.bl (decide (i = 15)), V.bl (decide (i = 16)), V.bl (decide (i = 17))] ++ [V.bl (decide (i = 18))])) := ⟨_, rfl⟩
    rw [← h7]
    have np6 : H p6 = none := (s5.trans (same_upd m6)).free n6
    have s7 : Same H H7 := by
      rw [h7]
      intro b o z
      rw [upd_ne (ne_of_none z np6)]
      exact s6 _ _ z
    have e7 : H7 p6 = some (.lst ((bitsOf i).map V.bl)) := by rw [h7]; exact upd_same
    have hq7 : SqL K H7 p6 ((bitsOf i).map V.bl) := .inl (.inl e7)
    refine ⟨.ref p6, rfl, .inl ⟨rfl, _, hq7⟩, p6, bitsOf i, true, rfl, rfl, hq7, rfl, _, rfl, ?_⟩
    have hc := bits_count i hi
    by_cases h19 : i < 19
    · rw [if_pos h19] at hc
      rw [hc]
      refine iteF ?_
      refine ⟨_, rfl, e, C i, _, _, true, rfl, he.same s7, T.err i hi, (fun _ r => r), T.kitV i hi, true, rfl, iteF ?_⟩
      refine ⟨_, rfl, e, C i, _, _, true, rfl, he.same s7, T.err i hi, (fun _ r => r), T.kitT i hi, true, rfl, iteF ?_⟩
      refine ⟨by show 10 ≤ sizeLine; decide, fun w0 nw0 => ⟨_, rfl, by show 9 ≤ sizeLine; decide, fun w1 nw1 => ⟨w0, w1, _, _, rfl, rfl, by rw [upd_ne (ne_of_none upd_same nw1)]; exact upd_same, upd_same, by show 19 ≤ sizeLine; decide, fun w2 nw2 => ?_⟩⟩⟩
      generalize h8 : upd (upd (upd H7 w0 _) w1 _) w2 _ = H8
      have s8 : Same H7 H8 := by rw [← h8]; exact ((same_upd nw0).trans (same_upd nw1)).trans (same_upd nw2)
      have e8 : H8 w2 = some (.lst (wordsL.map V.str)) := by rw [← h8]; exact upd_same
      have hq8 : SqL K H8 p6 ((bitsOf i).map V.bl) := .inl (.inl (s8 _ _ e7))
      obtain ⟨b1, b2⟩ := bits_at i h19
      refine ⟨.ref w2, rfl, .ref p6, rfl, .inl ⟨rfl, _, hq8⟩, p6, (bitsOf i).map V.bl, .bl true, i, .bl true, rfl, rfl, hq8, rfl, rfl, by rw [List.getElem?_map, b1]; rfl, rfl, fun m z hm hz => ?_, w2, wordsL.map V.str, _, .str (wordOf i), rfl, rfl, .inl (.inl e8), atI_nat (by rw [List.getElem?_map, words_at i h19]; rfl), ?_⟩
      · rw [List.getElem?_map, b2 m hm] at hz
        cases hz
        rfl
      · exact q H8 (s7.trans s8)
    · have e19 : i = 19 := by omega
      subst e19
      rw [show (bitsOf 19).count true = 0 from hc]
      refine iteT (iteT ?_)
      exact q H7 s7
end
end PvK
set_option maxRecDepth 100000
set_option maxHeartbeats 4000000
/-! A text times an int; data under a changed pen; a drawn value. -/
namespace PvK
open PySem PySem.Spec PyProof.Rows L2
def repS (a : Str) (k : Nat) : Str := ⟨(List.replicate k a.cps).foldl (· ++ ·) #[]⟩
section
variable {X : Cx}
theorem op_mulStr : OpR X (binaryOp .Mult) (fun x y H Q => ∃ (a : Str) (n : Int), x = .str a ∧ y = .int n ∧ 2 ≤ n ∧ n ≤ 1000 ∧ 0 < a.length ∧ a.length ≤ 1000 ∧ (repS a n.toNat).length ≤ sizeLine ∧ Q (.str (repS a n.toNat)) H) := by
  intro pins s σ H x y v u Q I rx ry h
  obtain ⟨a, n, rfl, rfl, h1, h2, h3, h4, h5, q⟩ := h
  obtain ⟨t, rfl⟩ := rx
  obtain ⟨t', rfl⟩ := ry
  have hn : ¬ n < 1 := by omega
  have e1 : (n == 1 || a.length == 0) = false := by
    rw [Bool.or_eq_false_iff]
    exact ⟨beq_eq_false_iff_ne.mpr (by omega), beq_eq_false_iff_ne.mpr (by omega)⟩
  refine PySem.P.mul_str ?_ (fun _ _ => ?_) (fun _ _ => ?_) ?_
  · rw [decide_eq_false (show ¬ n < -(2 ^ 63 : Int) by omega), decide_eq_false (show ¬ n ≥ 2 ^ 63 by omega)]
    rfl
  · have : (9223372036854775 : Int) ≤ (2 ^ 63 - 1) / n := by
      rw [Int.le_ediv_iff_mul_le (by omega)]
      omega
    omega
  · have hm : a.length * n.toNat ≤ 1000 * 1000 := Nat.mul_le_mul h4 (by omega)
    have : a.length * n.toNat ≤ sizeLine := Nat.le_trans hm (by rw [sizeLine_eq]; decide)
    exact decide_eq_false (by omega)
  · rw [if_neg hn, if_neg (by rw [e1]; decide)]
    exact ⟨h5, .str _, H, I.tok _, ⟨_, rfl⟩, q⟩
end
/-! ### data that leave one address out -/
def rid (p : Addr) (H : Hp) : Hp := fun b => if b = p then none else H b
theorem rid_ne {p b : Addr} {H : Hp} (h : b ≠ p) : rid p H b = H b := if_neg h
theorem rid_some {p b : Addr} {H : Hp} {o : HO} (h : rid p H b = some o) : b ≠ p ∧ H b = some o := by
  unfold rid at h
  by_cases e : b = p
  · rw [if_pos e] at h
    cases h
  · rw [if_neg e] at h
    exact ⟨e, h⟩
theorem rid_same {p : Addr} {H H' : Hp} (s : But p H H') : Same (rid p H) (rid p H') := fun b o h => by
  obtain ⟨n, e⟩ := rid_some h
  rw [rid_ne n]
  exact s b o n e
/-- what stands in H' at places that were free in H -/
def newer (H H' : Hp) : Hp := fun b => if (H b).isNone = true then H' b else none
theorem newer_at {H H' : Hp} {b : Addr} (h : H b = none) : newer H H' b = H' b := if_pos (by rw [h]; rfl)
theorem newer_some {H H' : Hp} {b : Addr} {o : HO} (h : newer H H' b = some o) : H b = none ∧ H' b = some o := by
  unfold newer at h
  cases e : H b with
  | none =>
    rw [e] at h
    exact ⟨rfl, h⟩
  | some u =>
    rw [e] at h
    cases h
theorem newer_but {p : Addr} {H H1 H2 : Hp} {o : HO} (hp : H p = some o) (s : But p H1 H2) : Same (newer H H1) (newer H H2) := fun b u h => by
  obtain ⟨n, e⟩ := newer_some h
  rw [newer_at n]
  exact s b u (fun z => by rw [z, hp] at n; cases n) e
theorem rid_sub {p : Addr} {H : Hp} : Same (rid p H) H := fun b o h => (rid_some h).2
section
variable {K : PySem.W.Frag} {H H' : Hp}
theorem Same.seqT {a : Addr} {xs : List V} (e : Same H H') (h : SqT K H a xs) : SqT K H' a xs := by
  rcases h with (h | ⟨o, h⟩) | h
  · exact .inl (.inl (e _ _ h))
  · exact .inl (.inr ⟨o, e _ _ h⟩)
  · exact .inr h
mutual
theorem Dp.same (e : Same H H') : ∀ {v : V} {d : PyData}, Dp K H v d → Dp K H' v d
  | _, _, .non => .non
  | _, _, .bl b => .bl b
  | _, _, .int i => .int i
  | _, _, .str x => .str x
  | _, _, .lst h1 h2 => .lst (e.seq h1) (DpAll.same e h2)
  | _, _, .tup h1 h2 => .tup (Same.seqT e h1) (DpAll.same e h2)
theorem DpAll.same (e : Same H H') : ∀ {vs : List V} {ds : List PyData}, DpAll K H vs ds → DpAll K H' vs ds
  | _, _, .nil => .nil
  | _, _, .cons h1 h2 => .cons (Dp.same e h1) (DpAll.same e h2)
end
theorem DpAll.mem : ∀ {vs : List V} {ds : List PyData}, DpAll K H vs ds → ∀ v ∈ vs, ∃ d ∈ ds, Dp K H v d
  | _, _, .nil, v, h => absurd h List.not_mem_nil
  | _, _, .cons (d := d) h1 h2, v, h => by
    rcases List.mem_cons.mp h with rfl | h
    · exact ⟨d, List.mem_cons_self, h1⟩
    · obtain ⟨d', m, z⟩ := DpAll.mem h2 v h
      exact ⟨d', List.mem_cons_of_mem _ m, z⟩
theorem DpAll.snoc : ∀ {vs : List V} {ds : List PyData} {v : V} {d : PyData}, DpAll K H vs ds → Dp K H v d → DpAll K H (vs ++ [v]) (ds ++ [d])
  | _, _, _, _, .nil, h => .cons h .nil
  | _, _, _, _, .cons h1 h2, h => .cons h1 (DpAll.snoc h2 h)
end
/-! ### a drawn value -/
abbrev sVal : Stmt := topS 28
theorem scVal : FnScope ["pen"] ["pen"] (defScope sVal) := ⟨rfl, rfl, rfl, by decide +kernel, rfl, by decide +kernel, by decide +kernel⟩
def a50 : Str := repS (Str.ofString "A") 50
def menuD : List PyData := [.none, .bool true, .str (Str.ofString ""), .str (Str.ofString "a"), .int 7, .int (0 - 3), .list [.str (Str.ofString "a"), .list [.int 1]], .tuple [.str (Str.ofString "x"), .none], .list [], .int ((10 : Int) ^ (20 : Int).toNat), .str a50]
section
variable {P : Program} {w : World} {K : PySem.W.Frag} {mg : Str → Option Value} {base : Heap}
def spVal (K : PySem.W.Frag) : Sp := fun vs H Q _ => ∃ (p c : Addr) (ns : List Int) (n : Nat) (left : Int), vs = [.ref p] ∧ PenAt H p c ns n left ∧ n ≤ 9000 ∧
  ∀ H' n' left' v d, But p H H' → PenAt H' p c ns n' left' → n' ≤ n + 1 → d ∈ menuD → Dp K (newer H H') v d → Q v H'
theorem ok_val {f f1 : Addr} {fd fd1 : FuncData} (F : Fun K "_law_value" "_law_value" sVal f fd) (G1 : FnOk P w K mg base CX0 3 f1 fd1 ["pen", "some"] (spOne K)) (k1 : PySem.W.keepIn K (.ref f1) = true) (b1 : Binds K fd1 ["pen", "some"] []) (g1 : mg "_law_one" = some (.ref f1)) :
    FnOk P w K mg base CX0 4 f fd ["pen"] (spVal K) := by
  refine F.ok scVal (fun vs H Q E h => ?_) (fun cdv A outer s H vs Q E hr h => ?_)
  · obtain ⟨p, c, ns, n, left, rfl, _⟩ := h
    rfl
  · obtain ⟨p, c, ns, n, left, rfl, hp, hn, q⟩ := h
    refine ⟨_, pss_one (ps_ret (pe_call G1 hr (by rfl) g1 k1 b1 .nil pass0 (pa_cons (pv 0) (pa_cons (pe_lst
      (pa_cons pe_non (pa_cons pe_bl (pa_cons pe_str (pa_cons pe_str (pa_cons pe_int (pa_cons (pe_op op_sub pe_int pe_int)
      (pa_cons (pe_lst (pa_cons pe_str (pa_cons (pe_lst (pa_cons pe_int pa_nil)) pa_nil)))
      (pa_cons (pe_tup (pa_cons pe_str (pa_cons pe_non pa_nil)))
      (pa_cons (pe_lst pa_nil) (pa_cons (pe_op op_pow pe_int pe_int) (pa_cons (pe_op op_mulStr pe_str pe_int) pa_nil)))))))))))) pa_nil)))), ?_⟩
    refine ⟨.ref p, rfl, _, _, rfl, rfl, by show 1 ≤ sizeLine; decide, fun i1 m1 => ⟨by show 2 ≤ sizeLine; decide, fun i2 m2 => ⟨by show 2 ≤ sizeLine; decide, fun i3 m3 => ⟨by show 0 ≤ sizeLine; decide, fun i4 m4 => ?_⟩⟩⟩⟩
    refine ⟨_, _, rfl, rfl, ⟨by decide, by decide, by decide⟩, _, _, rfl, rfl, by decide, by decide, by decide, by decide, by decide +kernel, by show 11 ≤ sizeLine; decide, fun l m5 => ?_⟩
    generalize h5 : upd (upd (upd (upd (upd H i1 _) i2 _) i3 _) i4 _) l _ = H5
    have s5 : Same H H5 := by rw [← h5]; exact ((((same_upd m1).trans (same_upd m2)).trans (same_upd m3)).trans (same_upd m4)).trans (same_upd m5)
    have el : H5 l = some (.lst [.non, .bl true, .str (Str.ofString ""), .str (Str.ofString "a"), .int 7, .int (0 - 3), .ref i2, .ref i3, .ref i4, .int ((10 : Int) ^ (20 : Int).toNat), .str a50]) := by rw [← h5]; exact upd_same
    have n43 : i3 ≠ i4 := ne_of_none upd_same m4
    have n32 : i2 ≠ i3 := ne_of_none upd_same m3
    have n21 : i1 ≠ i2 := ne_of_none upd_same m2
    have t2 : (upd (upd H i1 (.lst [.int 1])) i2 (.lst [.str (Str.ofString "a"), .ref i1])) i1 = some (.lst [.int 1]) := by rw [upd_ne n21]; exact upd_same
    have n31 : i1 ≠ i3 := ne_of_none t2 m3
    have t3 : (upd (upd (upd H i1 (.lst [.int 1])) i2 (.lst [.str (Str.ofString "a"), .ref i1])) i3 (.tup [.str (Str.ofString "x"), .non])) i1 = some (.lst [.int 1]) := by rw [upd_ne n31]; exact t2
    have t3' : (upd (upd (upd H i1 (.lst [.int 1])) i2 (.lst [.str (Str.ofString "a"), .ref i1])) i3 (.tup [.str (Str.ofString "x"), .non])) i2 = some (.lst [.str (Str.ofString "a"), .ref i1]) := by rw [upd_ne n32]; exact upd_same
    have e1 : H5 i1 = some (.lst [.int 1]) := by rw [← h5]; exact same_upd m5 _ _ (same_upd m4 _ _ t3)
    have e2 : H5 i2 = some (.lst [.str (Str.ofString "a"), .ref i1]) := by rw [← h5]; exact same_upd m5 _ _ (same_upd m4 _ _ t3')
    have e3 : H5 i3 = some (.tup [.str (Str.ofString "x"), .non]) := by rw [← h5]; exact same_upd m5 _ _ (same_upd m4 _ _ upd_same)
    have e4 : H5 i4 = some (.lst []) := by rw [← h5]; exact same_upd m5 _ _ upd_same
    have ep := s5 _ _ hp.1
    have lp : l ≠ p := ne_of el ep (fun z => nomatch z)
    have f1 : H i1 = none := m1
    have f2 : H i2 = none := (same_upd m1).free m2
    have f3 : H i3 = none := ((same_upd m1).trans (same_upd m2)).free m3
    have f4 : H i4 = none := (((same_upd m1).trans (same_upd m2)).trans (same_upd m3)).free m4
    have d1 : Dp K (newer H H5) (.ref i1) (.list [.int 1]) := .lst (.inl (.inl (by rw [newer_at f1]; exact e1))) (.cons (.int _) .nil)
    have d2 : Dp K (newer H H5) (.ref i2) (.list [.str (Str.ofString "a"), .list [.int 1]]) := .lst (.inl (.inl (by rw [newer_at f2]; exact e2))) (.cons (.str _) (.cons d1 .nil))
    have d3 : Dp K (newer H H5) (.ref i3) (.tuple [.str (Str.ofString "x"), .none]) := .tup (.inl (.inl (by rw [newer_at f3]; exact e3))) (.cons (.str _) (.cons .non .nil))
    have d4 : Dp K (newer H H5) (.ref i4) (.list []) := .lst (.inl (.inl (by rw [newer_at f4]; exact e4))) .nil
    have da : DpAll K (newer H H5) [.non, .bl true, .str (Str.ofString ""), .str (Str.ofString "a"), .int 7, .int (0 - 3), .ref i2, .ref i3, .ref i4, .int ((10 : Int) ^ (20 : Int).toNat), .str a50] menuD :=
      .cons .non (.cons (.bl _) (.cons (.str _) (.cons (.str _) (.cons (.int _) (.cons (.int _) (.cons d2 (.cons d3 (.cons d4 (.cons (.int _) (.cons (.str _) .nil))))))))))
    refine ⟨p, c, l, ns, n, left, _, rfl, ⟨ep, s5 _ _ hp.2.1, hp.2.2⟩, hn, el, lp, List.cons_ne_nil _ _, (by show 11 < 1000000; decide), fun H' n' left' x bt hp' hn' hx => ?_⟩
    obtain ⟨d, md, hd⟩ := DpAll.mem da x hx
    exact q H' n' left' x d ((But.of s5).trans bt) hp' hn' md (Dp.same (newer_but hp.1 bt) hd)
end
end PvK
set_option maxRecDepth 100000
set_option maxHeartbeats 4000000
/-! The texts of the drawn values. -/
namespace PvK
open PySem PySem.Spec PyProof.Rows L2
theorem menu_ok : ∀ d ∈ menuD, d.showable = true ∧ d.hasDict = false ∧ d.depth ≤ 3 ∧ d.shown.length ≤ 60 := by
  have h : (menuD.all fun d => d.showable && !d.hasDict && decide (d.depth ≤ 3) && decide (d.shown.length ≤ 60)) = true := by decide +kernel
  intro d hd
  have z := List.all_eq_true.mp h d hd
  simp only [Bool.and_eq_true, Bool.not_eq_true', decide_eq_true_eq] at z
  exact ⟨z.1.1.1, z.1.1.2, z.1.2, z.2⟩
theorem row_dict : ∀ ds : List PyData, (∀ d ∈ ds, d ∈ menuD) → PyData.hasDictAll ds = false
  | [], _ => by simp [PyData.hasDictAll]
  | d :: ds, h => by
    have h1 := (menu_ok d (h d List.mem_cons_self)).2.1
    have h2 := row_dict ds fun x hx => h x (List.mem_cons_of_mem _ hx)
    simp [PyData.hasDictAll, h1, h2]
theorem row_depth : ∀ ds : List PyData, (∀ d ∈ ds, d ∈ menuD) → PyData.depthAll ds ≤ 3
  | [], _ => by simp [PyData.depthAll]
  | d :: ds, h => by
    have h1 := (menu_ok d (h d List.mem_cons_self)).2.2.1
    have h2 := row_depth ds fun x hx => h x (List.mem_cons_of_mem _ hx)
    simp only [PyData.depthAll]
    omega
theorem row_sum : ∀ ds : List PyData, (∀ d ∈ ds, d ∈ menuD) → ((PyData.shownAll ds).map (·.length)).sum ≤ 60 * ds.length
  | [], _ => by simp [PyData.shownAll]
  | d :: ds, h => by
    have h1 := (menu_ok d (h d List.mem_cons_self)).2.2.2
    have h2 := row_sum ds fun x hx => h x (List.mem_cons_of_mem _ hx)
    rw [PyData.shownAll_cons, List.map_cons, List.sum_cons, List.length_cons]
    omega
theorem row_ok (ds : List PyData) (h : ∀ d ∈ ds, d ∈ menuD) (hl : ds.length ≤ 100) :
    (PyData.list ds).showable = true ∧ (PyData.list ds).hasDict = false ∧ (PyData.list ds).depth ≤ 60 ∧ (PyData.list ds).shown.length ≤ sizeLine := by
  refine ⟨?_, ?_, ?_, ?_⟩
  · simp only [PyData.showable]
    exact Spec.showableAll_of fun d hd => (menu_ok d (h d hd)).1
  · simp only [PyData.hasDict]
    exact row_dict ds h
  · simp only [PyData.depth]
    have := row_depth ds h
    omega
  · simp only [PyData.shown]
    have h1 := listText_len_le (PyData.shownAll ds)
    have h2 := row_sum ds h
    have h3 := PyData.shownAll_length ds
    have h4 : 60 * ds.length + 2 * ds.length + 3 ≤ sizeLine := by
      rw [sizeLine_eq]
      omega
    omega
end PvK
set_option maxRecDepth 100000
set_option maxHeartbeats 8000000
/-! Errors that keep their value. -/
namespace PvK
open PySem PySem.Spec PyProof.Rows L2
abbrev sKept : Stmt := topS 29
theorem scKept : FnScope ["pen", "values", "kept", "errors", "found", "step", "error"] ["pen"] (defScope sKept) := ⟨rfl, rfl, rfl, by decide +kernel, rfl, by decide +kernel, by decide +kernel⟩
/-- at a: an error of the class at C that keeps v in f -/
def Keeps (H : Hp) (C a : Addr) (f : Str) (v : V) : Prop := ∃ d, H a = some (exo a C (some d)) ∧ H d = some (exd d [(f, v)])
theorem Keeps.same {H H' : Hp} {C a : Addr} {f : Str} {v : V} (s : Same H H') (h : Keeps H C a f v) : Keeps H' C a f v := by
  obtain ⟨d, h1, h2⟩ := h
  exact ⟨d, s _ _ h1, s _ _ h2⟩
theorem Keeps.isErr {H : Hp} {C a : Addr} {f : Str} {v : V} (h : Keeps H C a f v) : IsErr H C a := by
  obtain ⟨d, h1, h2⟩ := h
  exact .inr ⟨d, _, h1, h2⟩
theorem mk_step {H : Hp} {C a d : Addr} {f : Str} {v : V} (ha : H a = none) (hd : H d = none) (n : d ≠ a) : Same H (upd (upd H d (exd d [(f, v)])) a (exo a C (some d))) ∧ Keeps (upd (upd H d (exd d [(f, v)])) a (exo a C (some d))) C a f v := by
  have h2 : (upd H d (exd d [(f, v)])) a = none := by rw [upd_ne (Ne.symm n)]; exact ha
  refine ⟨(same_upd hd).trans (same_upd h2), d, upd_same, ?_⟩
  rw [upd_ne n]
  exact upd_same
theorem Keeps.setL {H : Hp} {C a E : Addr} {f : Str} {v : V} {xs ys : List V} (h : Keeps H C a f v) (e : H E = some (.lst xs)) : Keeps (upd H E (.lst ys)) C a f v := by
  obtain ⟨d, h1, h2⟩ := h
  have n1 : a ≠ E := ne_of h1 e fun z => by
    have z' : HO.ext _ = HO.lst _ := z
    cases z'
  have n2 : d ≠ E := ne_of h2 e fun z => by
    have z' : HO.ext _ = HO.lst _ := z
    cases z'
  exact ⟨d, by rw [upd_ne n1]; exact h1, by rw [upd_ne n2]; exact h2⟩
/-- what the top holds for the errors that keep a value -/
structure KeepTop (P : Program) (K : PySem.W.Frag) (mg : Str → Option Value) (C : Nat → Addr) : Prop where
  i14 : ∃ f, InitTxt P K mg (C 14) f "event"
  i15 : ∃ f, InitTxt P K mg (C 15) f "number"
  i16 : ∃ f, InitTxt P K mg (C 16) f "name"
  i17 : ∃ f, InitTxt P K mg (C 17) f "limit"
  i18 : ∃ f, InitTxt P K mg (C 18) f "number"
  mr : mg "range" = none
  mrepr : mg "repr" = none
def keptW : List Str := [Str.ofString "event", Str.ofString "observer", Str.ofString "not seen", Str.ofString "full", Str.ofString "mark"]
section
variable {P : Program} {w : World} {K : PySem.W.Frag} {mg : Str → Option Value} {base : Heap}
def spKept : Sp := fun vs H Q _ => ∃ (p c : Addr) (ns : List Int) (n : Nat) (left : Int), vs = [.ref p] ∧ PenAt H p c ns n left ∧ n ≤ 8900 ∧
  ∀ H' q n' left', But p H H' → PenAt H' p c ns n' left' → n' ≤ n + 5 → H' q = some (.lst (keptW.map V.str)) → Q (.ref q) H'
theorem ok_kept {f fV fR : Addr} {fd fdV fdR : FuncData} {C : Nat → Addr} (F : Fun K "_law_kept" "_law_kept" sKept f fd) (T : ErrTop K mg C) (U : KeepTop P K mg C)
    (GV : FnOk P w K mg base CX0 4 fV fdV ["pen"] (spVal K)) (kV : PySem.W.keepIn K (.ref fV) = true) (bV : Binds K fdV ["pen"] []) (gV : mg "_law_value" = some (.ref fV))
    (GR : FnOk P w K mg base CX0 4 fR fdR ["caught"] (spRef C)) (kR : PySem.W.keepIn K (.ref fR) = true) (bR : Binds K fdR ["caught"] []) (gR : mg "_law_refusal" = some (.ref fR)) :
    FnG P w K mg base 5 f fd ["pen"] spKept := by
  refine okG F scKept (fun vs H Q E h => ?_) (fun cdv A outer s H vs Q E gd hr h => ?_)
  · obtain ⟨p, c, ns, n, left, rfl, _⟩ := h
    rfl
  · obtain ⟨p, c, ns, n, left, rfl, hp, hn, q⟩ := h
    obtain ⟨_, j14⟩ := U.i14
    obtain ⟨_, j15⟩ := U.i15
    obtain ⟨_, j16⟩ := U.i16
    obtain ⟨_, j17⟩ := U.i17
    obtain ⟨_, j18⟩ := U.i18
    refine ⟨_, pss_cons (ps_setLc (i := 1) (own := [("step", 5)]) (g := gName 5) (tt := tYes) rfl scKept.nd rfl rfl (sw_true rfl rfl rfl (by decide +kernel)) (pi_range1 rfl U.mr (pa_cons pe_int pa_nil))
          (blkOk_by (N := ["pen", "values", "kept", "errors", "found", "step", "error"]) (sc := defScope sKept) (by decide +kernel)) (fun _ _ _ _ _ => pg_name (i := 5) scKept.nd rfl (Or.inl rfl)) (fun _ _ _ _ _ => pts_nil)
          (fun _ _ _ _ _ => pe_call GV hr (by rfl) gV kV bV .nil pass0 (pa_cons (pv 0) pa_nil)))
      (pss_cons (ps_set (i := 2) scKept.nd rfl (.inl rfl) (pe_callB (call_repr gd hr.units) (by rfl) U.mrepr boot_repr (pa_cons (pv 1) pa_nil)))
      (pss_cons (ps_set (i := 3) scKept.nd rfl (.inl rfl) (pe_lst (pa_cons (pe_mkErr j14 T.g14 hr (pe_ix ix_list (pv 1) pe_int (fun _ _ => rfl))) (pa_cons (pe_mkErr j15 T.g15 hr (pe_ix ix_list (pv 1) pe_int (fun _ _ => rfl)))
        (pa_cons (pe_mkErr j16 T.g16 hr (pe_ix ix_list (pv 1) pe_int (fun _ _ => rfl))) (pa_cons (pe_mkErr j17 T.g17 hr (pe_ix ix_list (pv 1) pe_int (fun _ _ => rfl))) pa_nil))))))
      (pss_cons (ps_expr (pe_bm PySem.F.plainAttrs_list PySem.F.slot_list_append PySem.F.type_list_append mt_append (pv 3) (pa_cons (pe_mkErr j18 T.g18 hr (pe_ix ix_list (pv 1) pe_int (fun _ _ => rfl))) pa_nil)))
      (pss_cons (ps_set (i := 4) scKept.nd rfl (.inl rfl) (pe_lst (pa_cons (pe_fldErr (pe_ix ix_list (pv 3) pe_int (fun _ _ => rfl))) (pa_cons (pe_fldErr (pe_ix ix_list (pv 3) pe_int (fun _ _ => rfl)))
        (pa_cons (pe_fldErr (pe_ix ix_list (pv 3) pe_int (fun _ _ => rfl))) (pa_cons (pe_fldErr (pe_ix ix_list (pv 3) pe_int (fun _ _ => rfl))) (pa_cons (pe_fldErr (pe_ix ix_list (pv 3) pe_int (fun _ _ => rfl))) pa_nil)))))))
      (pss_cons (ps_if (PW.pt (pw_or (pt_cmpR op_ne (pe_callB (call_repr gd hr.units) (by rfl) U.mrepr boot_repr (pa_cons (pv 4) pa_nil)) (pe_callB (call_repr gd hr.units) (by rfl) U.mrepr boot_repr (pa_cons (pv 1) pa_nil)) (nomark _))
          (pw_or1 (pt_cmpR op_ne (pe_callB (call_repr gd hr.units) (by rfl) U.mrepr boot_repr (pa_cons (pv 1) pa_nil)) (pv 2) (nomark _))))) (pss_one (ps_ret (pe_lst (pa_cons pe_str pa_nil)))) pss_nil)
      (pss_one (ps_ret (pe_lc (own := [("error", 6)]) (g := gName 6) (tt := tYes) rfl scKept.nd (pi_list (pv 3))
          (blkOk_by (N := ["pen", "values", "kept", "errors", "found", "step", "error"]) (sc := defScope sKept) (by decide +kernel)) (fun _ _ _ _ _ => pg_name (i := 6) scKept.nd rfl (Or.inl rfl)) (fun _ _ _ _ _ => pts_nil)
          (fun _ _ _ _ _ => pe_call GR hr (by rfl) gR kR bR .nil pass0 (pa_cons (pv 6) pa_nil)))))))))), ?_⟩
    -- values
    refine ⟨5, rfl, by decide, by decide, fun D nD => lc_range (lo := 0) (n := 5) (fun i H1 => ∃ (xs : List V) (ds : List PyData) (n' : Nat) (left' : Int), H1 D = some (.lst xs) ∧ xs.length = i ∧ (∀ d ∈ ds, d ∈ menuD) ∧ DpAll K (rid D (rid p H1)) xs ds ∧ But p H H1 ∧ PenAt H1 p c ns n' left' ∧ n' ≤ n + i)
      ?_ (fun i H1 hi hP => ?_) (fun H1 hP => ?_)⟩
    · have pD : p ≠ D := ne_of_none hp.1 nD
      have cD : c ≠ D := ne_of_none hp.2.1 nD
      exact ⟨[], [], n, left, upd_same, rfl, fun d hd => absurd hd List.not_mem_nil, .nil, But.new nD, ⟨by rw [upd_ne pD]; exact hp.1, by rw [upd_ne cD]; exact hp.2.1, hp.2.2⟩, by omega⟩
    · obtain ⟨xs, ds, n', left', eD, lx, hm, hd, bt, hp', hn'⟩ := hP
      refine ⟨rfl, ?_⟩
      dsimp only [tYes]
      refine iteT ?_
      have pD : p ≠ D := ne_of_none hp.1 nD
      have cD : c ≠ D := ne_of_none hp.2.1 nD
      refine ⟨.ref p, rfl, p, c, ns, n', left', rfl, hp', by omega, fun H' n2 left2 v d bt2 hp2 hn2 md hv => ?_⟩
      have eD2 : H' D = some (.lst xs) := bt2 _ _ (Ne.symm pD) eD
      refine ⟨xs, eD2, by rw [lx]; exact small1000 (by omega), xs ++ [v], ds ++ [d], n2, left2, upd_same, by rw [List.length_append, lx]; rfl, fun d' hd' => ?_, DpAll.snoc (DpAll.same ?_ hd) (Dp.same ?_ hv), ?_, ⟨?_, ?_, hp2.2.2⟩, by omega⟩
      · rcases List.mem_append.mp hd' with z | z
        · exact hm d' z
        · rw [List.mem_singleton.mp z]
          exact md
      · intro b o z
        obtain ⟨n1, z1⟩ := rid_some z
        obtain ⟨n2, z2⟩ := rid_some z1
        rw [rid_ne n1, rid_ne n2, upd_ne n1]
        exact bt2 _ _ n2 z2
      · intro b o z
        obtain ⟨z1, z2⟩ := newer_some z
        have n1 : b ≠ D := fun e => by rw [e, eD] at z1; cases z1
        have n2 : b ≠ p := fun e => by rw [e, hp'.1] at z1; cases z1
        rw [rid_ne n1, rid_ne n2, upd_ne n1]
        exact z2
      · intro b o nb z
        rw [upd_ne (ne_of_none z nD)]
        exact bt2 _ _ nb (bt _ _ nb z)
      · rw [upd_ne pD]
        exact hp2.1
      · rw [upd_ne cD]
        exact hp2.2.1
    · obtain ⟨xs, ds, n1, left1, eD, lx, hm, hd, bt, hp1, hn1⟩ := hP
      have hdA : DpAll K H1 xs ds := DpAll.same (rid_sub.trans rid_sub) hd
      obtain ⟨v0, v1, v2, v3, v4, rfl⟩ : ∃ v0 v1 v2 v3 v4, xs = [v0, v1, v2, v3, v4] := by
        match xs, lx with
        | [v0, v1, v2, v3, v4], _ => exact ⟨v0, v1, v2, v3, v4, rfl⟩
      have hl5 : ds.length = 5 := by
        cases hdA with
        | cons _ t => cases t with
          | cons _ t => cases t with
            | cons _ t => cases t with
              | cons _ t => cases t with
                | cons _ t => cases t; rfl
      obtain ⟨ok1, ok2, ok3, ok4⟩ := row_ok ds hm (by omega)
      have hD : SqL K H1 D [v0, v1, v2, v3, v4] := .inl (.inl eD)
      -- kept = repr(values)
      refine ⟨.ref D, rfl, D, .list ds, rfl, .lst hD hdA, ok1, ok2, ok3, ok4, ?_⟩
      have z0 : Same H1 H1 := .refl _
      refine ⟨.ref D, rfl, D, _, _, v0, rfl, rfl, z0.seq hD, rfl, fun a0 d0 na0 nd0 md0 => ?_⟩
      obtain ⟨y0, k0⟩ := mk_step (C := C 14) (f := "event") (v := v0) na0 nd0 md0
      generalize upd (upd H1 d0 (exd d0 [("event", v0)])) a0 (exo a0 (C 14) (some d0)) = G0 at y0 k0 ⊢
      have z1 : Same H1 G0 := z0.trans y0
      refine ⟨.ref D, rfl, D, _, _, v1, rfl, rfl, z1.seq hD, rfl, fun a1 d1 na1 nd1 md1 => ?_⟩
      obtain ⟨y1, k1⟩ := mk_step (C := C 15) (f := "number") (v := v1) na1 nd1 md1
      generalize upd (upd G0 d1 (exd d1 [("number", v1)])) a1 (exo a1 (C 15) (some d1)) = G1 at y1 k1 ⊢
      have z2 : Same H1 G1 := z1.trans y1
      replace k0 := k0.same y1
      refine ⟨.ref D, rfl, D, _, _, v2, rfl, rfl, z2.seq hD, rfl, fun a2 d2 na2 nd2 md2 => ?_⟩
      obtain ⟨y2, k2⟩ := mk_step (C := C 16) (f := "name") (v := v2) na2 nd2 md2
      generalize upd (upd G1 d2 (exd d2 [("name", v2)])) a2 (exo a2 (C 16) (some d2)) = G2 at y2 k2 ⊢
      have z3 : Same H1 G2 := z2.trans y2
      replace k0 := k0.same y2
      replace k1 := k1.same y2
      refine ⟨.ref D, rfl, D, _, _, v3, rfl, rfl, z3.seq hD, rfl, fun a3 d3 na3 nd3 md3 => ?_⟩
      obtain ⟨y3, k3⟩ := mk_step (C := C 17) (f := "limit") (v := v3) na3 nd3 md3
      generalize upd (upd G2 d3 (exd d3 [("limit", v3)])) a3 (exo a3 (C 17) (some d3)) = G3 at y3 k3 ⊢
      have z4 : Same H1 G3 := z3.trans y3
      replace k0 := k0.same y3
      replace k1 := k1.same y3
      replace k2 := k2.same y3
      refine ⟨by show 4 ≤ sizeLine; decide, fun E nE => ?_⟩
      have yE : Same G3 (upd G3 E (.lst [.ref a0, .ref a1, .ref a2, .ref a3])) := same_upd nE
      have eE : (upd G3 E (.lst [.ref a0, .ref a1, .ref a2, .ref a3])) E = some (.lst [.ref a0, .ref a1, .ref a2, .ref a3]) := upd_same
      generalize upd G3 E (.lst [.ref a0, .ref a1, .ref a2, .ref a3]) = G4 at yE eE ⊢
      have z5 : Same H1 G4 := z4.trans yE
      replace k0 := k0.same yE
      replace k1 := k1.same yE
      replace k2 := k2.same yE
      replace k3 := k3.same yE
      -- errors.append(InvalidMark(values[4]))
      refine ⟨.ref E, rfl, .inl ⟨rfl, _, .inl (.inl eE)⟩, .ref D, rfl, D, _, _, v4, rfl, rfl, z5.seq hD, rfl, fun a4 d4 na4 nd4 md4 => ?_⟩
      obtain ⟨y4, k4⟩ := mk_step (C := C 18) (f := "number") (v := v4) na4 nd4 md4
      generalize upd (upd G4 d4 (exd d4 [("number", v4)])) a4 (exo a4 (C 18) (some d4)) = G5 at y4 k4 ⊢
      have z6 : Same H1 G5 := z5.trans y4
      replace k0 := k0.same y4
      replace k1 := k1.same y4
      replace k2 := k2.same y4
      replace k3 := k3.same y4
      have eE5 := y4 _ _ eE
      refine ⟨E, _, _, rfl, rfl, eE5, by show 4 < sizeLine; decide, ?_⟩
      have nE1 : H1 E = none := z4.free nE
      have z7 : Same H1 (upd G5 E (.lst ([.ref a0, .ref a1, .ref a2, .ref a3] ++ [.ref a4]))) := fun b o z => by
        rw [upd_ne (ne_of_none z nE1)]
        exact z6 _ _ z
      have eE6 : (upd G5 E (.lst ([.ref a0, .ref a1, .ref a2, .ref a3] ++ [.ref a4]))) E = some (.lst [.ref a0, .ref a1, .ref a2, .ref a3, .ref a4]) := upd_same
      replace k0 := k0.setL (ys := [.ref a0, .ref a1, .ref a2, .ref a3] ++ [.ref a4]) eE5
      replace k1 := k1.setL (ys := [.ref a0, .ref a1, .ref a2, .ref a3] ++ [.ref a4]) eE5
      replace k2 := k2.setL (ys := [.ref a0, .ref a1, .ref a2, .ref a3] ++ [.ref a4]) eE5
      replace k3 := k3.setL (ys := [.ref a0, .ref a1, .ref a2, .ref a3] ++ [.ref a4]) eE5
      replace k4 := k4.setL (ys := [.ref a0, .ref a1, .ref a2, .ref a3] ++ [.ref a4]) eE5
      generalize upd G5 E (.lst ([.ref a0, .ref a1, .ref a2, .ref a3] ++ [.ref a4])) = G6 at z7 eE6 k0 k1 k2 k3 k4 ⊢
      have hE6 : SqL K G6 E [.ref a0, .ref a1, .ref a2, .ref a3, .ref a4] := .inl (.inl eE6)
      -- found = [errors[0].event, ..]
      obtain ⟨x0, p0, q0⟩ := id k0
      obtain ⟨x1, p1, q1⟩ := id k1
      obtain ⟨x2, p2, q2⟩ := id k2
      obtain ⟨x3, p3, q3⟩ := id k3
      obtain ⟨x4, p4, q4⟩ := id k4
      refine ⟨.ref E, rfl, E, _, _, .ref a0, rfl, rfl, hE6, rfl, a0, C 14, x0, v0, rfl, p0, q0, T.err 14 (by decide), j14.noF, .ref E, rfl, E, _, _, .ref a1, rfl, rfl, hE6, rfl, a1, C 15, x1, v1, rfl, p1, q1, T.err 15 (by decide), j15.noF, .ref E, rfl, E, _, _, .ref a2, rfl, rfl, hE6, rfl, a2, C 16, x2, v2, rfl, p2, q2, T.err 16 (by decide), j16.noF, .ref E, rfl, E, _, _, .ref a3, rfl, rfl, hE6, rfl, a3, C 17, x3, v3, rfl, p3, q3, T.err 17 (by decide), j17.noF, .ref E, rfl, E, _, _, .ref a4, rfl, rfl, hE6, rfl, a4, C 18, x4, v4, rfl, p4, q4, T.err 18 (by decide), j18.noF, by show 5 ≤ sizeLine; decide, fun Fd nF => ?_⟩
      have yF : Same G6 (upd G6 Fd (.lst [v0, v1, v2, v3, v4])) := same_upd nF
      have eF : (upd G6 Fd (.lst [v0, v1, v2, v3, v4])) Fd = some (.lst [v0, v1, v2, v3, v4]) := upd_same
      generalize upd G6 Fd (.lst [v0, v1, v2, v3, v4]) = G7 at yF eF ⊢
      have z8 : Same H1 G7 := z7.trans yF
      have hd8 : DpAll K G7 [v0, v1, v2, v3, v4] ds := DpAll.same z8 hdA
      have hF : SqL K G7 Fd [v0, v1, v2, v3, v4] := .inl (.inl eF)
      have hE7 : SqL K G7 E [.ref a0, .ref a1, .ref a2, .ref a3, .ref a4] := yF.seq hE6
      refine ⟨.ref Fd, rfl, Fd, .list ds, rfl, .lst hF hd8, ok1, ok2, ok3, ok4, .ref D, rfl, D, .list ds, rfl, .lst (z8.seq hD) hd8, ok1, ok2, ok3, ok4, rfl, _, rfl, iteNS rfl ?_⟩
      refine ⟨.ref D, rfl, D, .list ds, rfl, .lst (z8.seq hD) hd8, ok1, ok2, ok3, ok4, _, rfl, rfl, _, rfl, iteNS rfl ?_⟩
      -- return [_law_refusal(error) for error in errors]
      refine ⟨.ref E, rfl, E, rfl, ⟨_, hE7⟩, fun L nL => lc_list (xs := [.ref a0, .ref a1, .ref a2, .ref a3, .ref a4]) (fun i H' => Same G7 H' ∧ H' L = some (.lst ((keptW.take i).map V.str)))
        ⟨same_upd nL, upd_same⟩ (fun i H' _ hP => hP.1.seq hE7) (fun i x H' hx hP => ?_) (fun H' hP => ?_)⟩
      · obtain ⟨s8, eL⟩ := hP
        have key : ∃ (a : Addr) (idx : Nat), x = .ref a ∧ idx < 20 ∧ IsErr G7 (C idx) a ∧ keptW[i]? = some (wordOf idx) := by
          match i, hx with
          | 0, hx => cases hx; exact ⟨a0, 14, rfl, by decide, (k0.same yF).isErr, rfl⟩
          | 1, hx => cases hx; exact ⟨a1, 15, rfl, by decide, (k1.same yF).isErr, rfl⟩
          | 2, hx => cases hx; exact ⟨a2, 16, rfl, by decide, (k2.same yF).isErr, rfl⟩
          | 3, hx => cases hx; exact ⟨a3, 17, rfl, by decide, (k3.same yF).isErr, rfl⟩
          | 4, hx => cases hx; exact ⟨a4, 18, rfl, by decide, (k4.same yF).isErr, rfl⟩
          | i + 5, hx => cases hx
        obtain ⟨a, idx, rfl, hidx, he, hw⟩ := key
        refine ⟨rfl, ?_⟩
        dsimp only [tYes]
        refine iteT ?_
        refine ⟨_, rfl, a, idx, rfl, hidx, he.same s8, fun H'' s9 => ⟨_, s9 _ _ eL, ?_, ?_, ?_⟩⟩
        · rw [List.length_map, List.length_take]
          exact Nat.lt_of_le_of_lt (Nat.min_le_right _ _) (by show 5 < sizeLine; decide)
        · intro b o z
          rw [upd_ne (ne_of_none z nL)]
          exact s9 _ _ (s8 _ _ z)
        · rw [upd_same, List.take_add_one, hw, List.map_append]
          rfl
      · obtain ⟨s8, eL⟩ := hP
        have s9 : Same H1 H' := z8.trans s8
        exact q H' L n1 left1 (bt.trans (But.of s9)) ⟨s9 _ _ hp1.1, s9 _ _ hp1.2.1, hp1.2.2⟩ hn1 eL
end
end PvK
set_option maxRecDepth 100000
set_option maxHeartbeats 16000000
/-! The law. -/
namespace PvK
open PySem PySem.Spec PyProof.Rows L2
abbrev sLaw : Stmt := topS 30
theorem scLaw : FnScope ["script", "pen", "turn", "text", "some", "due", "base", "error"] ["script"] (defScope sLaw) := ⟨rfl, rfl, rfl, by decide +kernel, rfl, by decide +kernel, by decide +kernel⟩
structure MadeTop (K : PySem.W.Frag) (C : Nat → Addr) : Prop where
  ex : ∀ i, i < 14 ∨ i = 19 → PySem.W.excIn K (C i) HandSPX.veTail "ValueError.__new__" = true
  kp : ∀ i, i < 14 ∨ i = 19 → PySem.W.keepIn K (.ref (C i)) = true
def dueL : List Str := [Str.ofString "names", Str.ofString "family", Str.ofString "log", Str.ofString "case", Str.ofString "number", Str.ofString "ring", Str.ofString "count", Str.ofString "impossible", Str.ofString "certain", Str.ofString "contradiction"] ++ [Str.ofString "nothing", Str.ofString "long", Str.ofString "many", Str.ofString "certificate"]
theorem dpStrs {K : PySem.W.Frag} {H : Hp} : ∀ ys : List Str, DpAll K H (ys.map V.str) (ys.map PyData.str)
  | [] => .nil
  | y :: ys => .cons (.str y) (dpStrs ys)
section
variable {P : Program} {w : World} {K : PySem.W.Frag} {mg : Str → Option Value} {base : Heap}
def spLaw (K : PySem.W.Frag) : Sp := fun vs H Q _ => ∃ (a : Addr) (ns : List Int), vs = [.ref a] ∧ SqL K H a (ns.map V.int) ∧ ns.length ≤ 63 ∧ ∀ H', Q (.bl true) H'
theorem ok_law {f fO fA f1 fR fK : Addr} {fd fdO fdA fd1 fdR fdK : FuncData} {C : Nat → Addr} (F0 : Fun K "law" "law" sLaw f fd) (T : ErrTop K mg C) (U : KeepTop P K mg C) (M : MadeTop K C)
    (GO : FnOk P w K mg base CX0 1 fO fdO ["script"] (spOpen K)) (kO : PySem.W.keepIn K (.ref fO) = true) (bO : Binds K fdO ["script"] []) (gO : mg "_law_open" = some (.ref fO))
    (GA : FnOk P w K mg base CX0 1 fA fdA ["pen"] spAnew) (kA : PySem.W.keepIn K (.ref fA) = true) (bA : Binds K fdA ["pen"] []) (gA : mg "_law_anew" = some (.ref fA))
    (G1 : FnOk P w K mg base CX0 3 f1 fd1 ["pen", "some"] (spOne K)) (k1 : PySem.W.keepIn K (.ref f1) = true) (b1 : Binds K fd1 ["pen", "some"] []) (g1 : mg "_law_one" = some (.ref f1))
    (GR : FnOk P w K mg base CX0 4 fR fdR ["caught"] (spRef C)) (kR : PySem.W.keepIn K (.ref fR) = true) (bR : Binds K fdR ["caught"] []) (gR : mg "_law_refusal" = some (.ref fR))
    (GK : FnG P w K mg base 5 fK fdK ["pen"] spKept) (kK : PySem.W.keepIn K (.ref fK) = true) (bK : Binds K fdK ["pen"] []) (gK : mg "_law_kept" = some (.ref fK)) :
    FnG P w K mg base 6 f fd ["script"] (spLaw K) := by
  refine okG F0 scLaw (fun vs H Q E h => ?_) (fun cdv A outer s H vs Q E gd hr h => ?_)
  · obtain ⟨a, ns, rfl, _⟩ := h
    rfl
  · obtain ⟨a, ns, rfl, hS, hlen, q⟩ := h
    have hr1 : Room 1 _ := hr.mono (by decide)
    have hr3 : Room 3 _ := hr.mono (by decide)
    have hr4 : Room 4 _ := hr.mono (by decide)
    refine ⟨_, pss_cons (ps_set (i := 1) scLaw.nd rfl (.inl rfl) (pe_call GO hr1 (by rfl) gO kO bO .nil pass0 (pa_cons (pv 0) pa_nil)))
      (pss_cons (ps_for PassesOwn.never rfl (pi_range1 rfl U.mr (pa_cons pe_int pa_nil)) (pg_name (i := 2) scLaw.nd rfl (.inl rfl))
        (pss_cons (ps_set (i := 3) scLaw.nd rfl (.inl rfl) (pe_call G1 hr3 (by rfl) g1 k1 b1 .nil pass0 (pa_cons (pe_call GA hr1 (by rfl) gA kA bA .nil pass0 (pa_cons (pv 1) pa_nil)) (pa_cons (pe_lst (pa_cons pe_str (pa_cons pe_str (pa_cons pe_str (pa_cons (pe_op op_mulStr pe_str pe_int) pa_nil))))) pa_nil))))
        (pss_cons (ps_set (i := 4) scLaw.nd rfl (.inl rfl) (pe_lst (pa_cons (pe_exc1 F.excBase_ValueError (M.ex 0 (by decide)) T.g0 (M.kp 0 (by decide)) rfl (pv 3)) (pa_cons (pe_exc1 F.excBase_ValueError (M.ex 1 (by decide)) T.g1 (M.kp 1 (by decide)) rfl (pv 3)) (pa_cons (pe_exc1 F.excBase_ValueError (M.ex 2 (by decide)) T.g2 (M.kp 2 (by decide)) rfl (pv 3)) (pa_cons (pe_exc1 F.excBase_ValueError (M.ex 3 (by decide)) T.g3 (M.kp 3 (by decide)) rfl (pv 3)) (pa_cons (pe_exc1 F.excBase_ValueError (M.ex 4 (by decide)) T.g4 (M.kp 4 (by decide)) rfl (pv 3)) pa_nil)))))))
        (pss_cons (ps_set (i := 4) scLaw.nd rfl (.inl rfl) (pe_op op_cat (pv 4) (pe_lst (pa_cons (pe_exc1 F.excBase_ValueError (M.ex 5 (by decide)) T.g5 (M.kp 5 (by decide)) rfl (pv 3)) (pa_cons (pe_exc1 F.excBase_ValueError (M.ex 6 (by decide)) T.g6 (M.kp 6 (by decide)) rfl (pv 3)) (pa_cons (pe_exc1 F.excBase_ValueError (M.ex 7 (by decide)) T.g7 (M.kp 7 (by decide)) rfl (pv 3)) (pa_cons (pe_exc1 F.excBase_ValueError (M.ex 8 (by decide)) T.g8 (M.kp 8 (by decide)) rfl (pv 3)) pa_nil)))))))
        (pss_cons (ps_set (i := 4) scLaw.nd rfl (.inl rfl) (pe_op op_cat (pv 4) (pe_lst (pa_cons (pe_exc1 F.excBase_ValueError (M.ex 9 (by decide)) T.g9 (M.kp 9 (by decide)) rfl (pv 3)) (pa_cons (pe_exc1 F.excBase_ValueError (M.ex 10 (by decide)) T.g10 (M.kp 10 (by decide)) rfl (pv 3)) (pa_cons (pe_exc1 F.excBase_ValueError (M.ex 11 (by decide)) T.g11 (M.kp 11 (by decide)) rfl (pv 3)) (pa_cons (pe_exc1 F.excBase_ValueError (M.ex 12 (by decide)) T.g12 (M.kp 12 (by decide)) rfl (pv 3)) (pa_cons (pe_exc1 F.excBase_ValueError (M.ex 13 (by decide)) T.g13 (M.kp 13 (by decide)) rfl (pv 3)) pa_nil))))))))
        (pss_cons (ps_set (i := 5) scLaw.nd rfl (.inl rfl) (pe_lst (pa_cons pe_str (pa_cons pe_str (pa_cons pe_str (pa_cons pe_str (pa_cons pe_str (pa_cons pe_str (pa_cons pe_str (pa_cons pe_str (pa_cons pe_str (pa_cons pe_str pa_nil))))))))))))
        (pss_cons (ps_set (i := 5) scLaw.nd rfl (.inl rfl) (pe_op op_cat (pv 5) (pe_lst (pa_cons pe_str (pa_cons pe_str (pa_cons pe_str (pa_cons pe_str pa_nil)))))))
        (pss_cons (ps_if (pt_cmpR (op_neD hr.units) (pe_lc (own := [("error", 7)]) (g := gName 7) (tt := tYes) rfl scLaw.nd (pi_list (pv 4)) (blkOk_by (N := ["script", "pen", "turn", "text", "some", "due", "base", "error"]) (sc := defScope sLaw) (by decide +kernel)) (fun _ _ _ _ _ => pg_name (i := 7) scLaw.nd rfl (Or.inl rfl)) (fun _ _ _ _ _ => pts_nil) (fun _ _ _ _ _ => pe_call GR hr4 (by rfl) gR kR bR .nil pass0 (pa_cons (pv 7) pa_nil))) (pv 5) (nomark _)) (pss_one (ps_ret pe_bl)) pss_nil)
        (pss_cons (ps_if (pt_cmpR (op_neD hr.units) (pe_callG GK gd hr (by rfl) gK kK bK (pa_cons (pv 1) pa_nil)) (pe_lst (pa_cons pe_str (pa_cons pe_str (pa_cons pe_str (pa_cons pe_str (pa_cons pe_str pa_nil)))))) (nomark _)) (pss_one (ps_ret pe_bl)) pss_nil)
        (pss_cons (ps_set (i := 6) scLaw.nd rfl (.inl rfl) (pe_exc1 F.excBase_ValueError (M.ex 19 (by decide)) T.g19 (M.kp 19 (by decide)) rfl (pv 3)))
        (pss_one (ps_if (PW.pt (pw_or (pt_not (pt_val (pe_callB (call_isErr T.ek) (by rfl) T.mi boot_isinstance (pa_cons (pv 6) (pa_cons (pe_bltn (v := .ty "ValueError") (by rfl) T.mV (by decide +kernel) rfl) pa_nil))))) (pw_or1 (pt_cmpR op_ne (pe_call GR hr4 (by rfl) gR kR bR .nil pass0 (pa_cons (pv 6) pa_nil)) pe_str (nomark _))))) (pss_one (ps_ret pe_bl)) pss_nil))))))))))))
      (pss_one (ps_ret pe_bl))), ?_⟩
    refine ⟨.ref a, rfl, a, ns, rfl, hS, hlen, fun H1 p c ms _ _ _ hp => ?_⟩
    refine ⟨4, rfl, by decide, by decide, for_range (lo := 0) (n := 4) (fun i σ H' => ∃ (y2 y3 y4 y5 y6 y7 : Option V) (n' : Nat) (left' : Int), σ = [some (.ref a), some (.ref p), y2, y3, y4, y5, y6, y7] ∧ PenAt H' p c ms n' left' ∧ n' ≤ 6 * i)
      ⟨none, none, none, none, none, none, 0, 0, rfl, hp, Nat.le_refl _⟩ (fun i σ H2 hi hP => ?_) (fun σ H2 hP => ?_)⟩
    · obtain ⟨y2, y3, y4, y5, y6, y7, n2, left2, rfl, hp2, hn2⟩ := hP
      -- text
      refine ⟨.ref p, rfl, p, c, ms, n2, left2, rfl, hp2, fun H3 bt3 hp3 => ⟨_, _, rfl, rfl, by decide, by decide, by decide, by decide, by decide +kernel, by show 4 ≤ sizeLine; decide, fun l nl => ?_⟩⟩
      have lp : p ≠ l := ne_of_none hp3.1 nl
      have lc : c ≠ l := ne_of_none hp3.2.1 nl
      refine ⟨p, c, l, ms, n2, 0, _, rfl, ⟨by rw [upd_ne lp]; exact hp3.1, by rw [upd_ne lc]; exact hp3.2.1, hp3.2.2⟩, by omega, upd_same, Ne.symm lp, List.cons_ne_nil _ _, (by show 4 < 1000000; decide), fun K0 n3 left3 tx bt4 hp4 hn3 _ => ?_⟩
      refine ⟨_, rfl, fun e0 ne0 => ?_⟩
      have y0 : Same K0 (upd K0 e0 (ExO (.ref (C 0)) e0)) := same_upd ne0
      have i0 : IsErr (upd K0 e0 (ExO (.ref (C 0)) e0)) (C 0) e0 := .inl upd_same
      generalize upd K0 e0 (ExO (.ref (C 0)) e0) = E0 at y0 i0 ⊢
      refine ⟨_, rfl, fun e1 ne1 => ?_⟩
      have y1 : Same E0 (upd E0 e1 (ExO (.ref (C 1)) e1)) := same_upd ne1
      have i1 : IsErr (upd E0 e1 (ExO (.ref (C 1)) e1)) (C 1) e1 := .inl upd_same
      generalize upd E0 e1 (ExO (.ref (C 1)) e1) = E1 at y1 i1 ⊢
      refine ⟨_, rfl, fun e2 ne2 => ?_⟩
      have y2 : Same E1 (upd E1 e2 (ExO (.ref (C 2)) e2)) := same_upd ne2
      have i2 : IsErr (upd E1 e2 (ExO (.ref (C 2)) e2)) (C 2) e2 := .inl upd_same
      generalize upd E1 e2 (ExO (.ref (C 2)) e2) = E2 at y2 i2 ⊢
      refine ⟨_, rfl, fun e3 ne3 => ?_⟩
      have y3 : Same E2 (upd E2 e3 (ExO (.ref (C 3)) e3)) := same_upd ne3
      have i3 : IsErr (upd E2 e3 (ExO (.ref (C 3)) e3)) (C 3) e3 := .inl upd_same
      generalize upd E2 e3 (ExO (.ref (C 3)) e3) = E3 at y3 i3 ⊢
      refine ⟨_, rfl, fun e4 ne4 => ?_⟩
      have y4 : Same E3 (upd E3 e4 (ExO (.ref (C 4)) e4)) := same_upd ne4
      have i4 : IsErr (upd E3 e4 (ExO (.ref (C 4)) e4)) (C 4) e4 := .inl upd_same
      generalize upd E3 e4 (ExO (.ref (C 4)) e4) = E4 at y4 i4 ⊢
      refine ⟨by show 5 ≤ sizeLine; decide, fun l0 nl0 => ?_⟩
      have yl0 : Same E4 (upd E4 l0 (.lst [V.ref e0, V.ref e1, V.ref e2, V.ref e3, V.ref e4])) := same_upd nl0
      have el0 : (upd E4 l0 (.lst [V.ref e0, V.ref e1, V.ref e2, V.ref e3, V.ref e4])) l0 = some (.lst [V.ref e0, V.ref e1, V.ref e2, V.ref e3, V.ref e4]) := upd_same
      generalize upd E4 l0 (.lst [V.ref e0, V.ref e1, V.ref e2, V.ref e3, V.ref e4]) = L0 at yl0 el0 ⊢
      refine ⟨.ref l0, rfl, ?_⟩
      refine ⟨_, rfl, fun e5 ne5 => ?_⟩
      have y5 : Same L0 (upd L0 e5 (ExO (.ref (C 5)) e5)) := same_upd ne5
      have i5 : IsErr (upd L0 e5 (ExO (.ref (C 5)) e5)) (C 5) e5 := .inl upd_same
      generalize upd L0 e5 (ExO (.ref (C 5)) e5) = E5 at y5 i5 ⊢
      refine ⟨_, rfl, fun e6 ne6 => ?_⟩
      have y6 : Same E5 (upd E5 e6 (ExO (.ref (C 6)) e6)) := same_upd ne6
      have i6 : IsErr (upd E5 e6 (ExO (.ref (C 6)) e6)) (C 6) e6 := .inl upd_same
      generalize upd E5 e6 (ExO (.ref (C 6)) e6) = E6 at y6 i6 ⊢
      refine ⟨_, rfl, fun e7 ne7 => ?_⟩
      have y7 : Same E6 (upd E6 e7 (ExO (.ref (C 7)) e7)) := same_upd ne7
      have i7 : IsErr (upd E6 e7 (ExO (.ref (C 7)) e7)) (C 7) e7 := .inl upd_same
      generalize upd E6 e7 (ExO (.ref (C 7)) e7) = E7 at y7 i7 ⊢
      refine ⟨_, rfl, fun e8 ne8 => ?_⟩
      have y8 : Same E7 (upd E7 e8 (ExO (.ref (C 8)) e8)) := same_upd ne8
      have i8 : IsErr (upd E7 e8 (ExO (.ref (C 8)) e8)) (C 8) e8 := .inl upd_same
      generalize upd E7 e8 (ExO (.ref (C 8)) e8) = E8 at y8 i8 ⊢
      have fl0 : E8 l0 = some (.lst [V.ref e0, V.ref e1, V.ref e2, V.ref e3, V.ref e4]) := y8 _ _ (y7 _ _ (y6 _ _ (y5 _ _ el0)))
      refine ⟨by show 4 ≤ sizeLine; decide, fun m1 nm1 => ⟨l0, m1, _, _, rfl, rfl, by rw [upd_ne (ne_of_none fl0 nm1)]; exact fl0, upd_same, by show 9 ≤ sizeLine; decide, fun l1 nl1 => ?_⟩⟩
      have yl1 : Same E8 (upd (upd E8 m1 (.lst [V.ref e5, V.ref e6, V.ref e7, V.ref e8])) l1 (.lst ([V.ref e0, V.ref e1, V.ref e2, V.ref e3, V.ref e4] ++ [V.ref e5, V.ref e6, V.ref e7, V.ref e8]))) := (same_upd nm1).trans (same_upd nl1)
      have el1 : (upd (upd E8 m1 (.lst [V.ref e5, V.ref e6, V.ref e7, V.ref e8])) l1 (.lst ([V.ref e0, V.ref e1, V.ref e2, V.ref e3, V.ref e4] ++ [V.ref e5, V.ref e6, V.ref e7, V.ref e8]))) l1 = some (.lst [V.ref e0, V.ref e1, V.ref e2, V.ref e3, V.ref e4, V.ref e5, V.ref e6, V.ref e7, V.ref e8]) := upd_same
      generalize upd (upd E8 m1 (.lst [V.ref e5, V.ref e6, V.ref e7, V.ref e8])) l1 (.lst ([V.ref e0, V.ref e1, V.ref e2, V.ref e3, V.ref e4] ++ [V.ref e5, V.ref e6, V.ref e7, V.ref e8])) = L1 at yl1 el1 ⊢
      refine ⟨.ref l1, rfl, ?_⟩
      refine ⟨_, rfl, fun e9 ne9 => ?_⟩
      have y9 : Same L1 (upd L1 e9 (ExO (.ref (C 9)) e9)) := same_upd ne9
      have i9 : IsErr (upd L1 e9 (ExO (.ref (C 9)) e9)) (C 9) e9 := .inl upd_same
      generalize upd L1 e9 (ExO (.ref (C 9)) e9) = E9 at y9 i9 ⊢
      refine ⟨_, rfl, fun e10 ne10 => ?_⟩
      have y10 : Same E9 (upd E9 e10 (ExO (.ref (C 10)) e10)) := same_upd ne10
      have i10 : IsErr (upd E9 e10 (ExO (.ref (C 10)) e10)) (C 10) e10 := .inl upd_same
      generalize upd E9 e10 (ExO (.ref (C 10)) e10) = E10 at y10 i10 ⊢
      refine ⟨_, rfl, fun e11 ne11 => ?_⟩
      have y11 : Same E10 (upd E10 e11 (ExO (.ref (C 11)) e11)) := same_upd ne11
      have i11 : IsErr (upd E10 e11 (ExO (.ref (C 11)) e11)) (C 11) e11 := .inl upd_same
      generalize upd E10 e11 (ExO (.ref (C 11)) e11) = E11 at y11 i11 ⊢
      refine ⟨_, rfl, fun e12 ne12 => ?_⟩
      have y12 : Same E11 (upd E11 e12 (ExO (.ref (C 12)) e12)) := same_upd ne12
      have i12 : IsErr (upd E11 e12 (ExO (.ref (C 12)) e12)) (C 12) e12 := .inl upd_same
      generalize upd E11 e12 (ExO (.ref (C 12)) e12) = E12 at y12 i12 ⊢
      refine ⟨_, rfl, fun e13 ne13 => ?_⟩
      have y13 : Same E12 (upd E12 e13 (ExO (.ref (C 13)) e13)) := same_upd ne13
      have i13 : IsErr (upd E12 e13 (ExO (.ref (C 13)) e13)) (C 13) e13 := .inl upd_same
      generalize upd E12 e13 (ExO (.ref (C 13)) e13) = E13 at y13 i13 ⊢
      have fl1 : E13 l1 = some (.lst [V.ref e0, V.ref e1, V.ref e2, V.ref e3, V.ref e4, V.ref e5, V.ref e6, V.ref e7, V.ref e8]) := y13 _ _ (y12 _ _ (y11 _ _ (y10 _ _ (y9 _ _ el1))))
      refine ⟨by show 5 ≤ sizeLine; decide, fun m2 nm2 => ⟨l1, m2, _, _, rfl, rfl, by rw [upd_ne (ne_of_none fl1 nm2)]; exact fl1, upd_same, by show 14 ≤ sizeLine; decide, fun l2 nl2 => ?_⟩⟩
      have yl2 : Same E13 (upd (upd E13 m2 (.lst [V.ref e9, V.ref e10, V.ref e11, V.ref e12, V.ref e13])) l2 (.lst ([V.ref e0, V.ref e1, V.ref e2, V.ref e3, V.ref e4, V.ref e5, V.ref e6, V.ref e7, V.ref e8] ++ [V.ref e9, V.ref e10, V.ref e11, V.ref e12, V.ref e13]))) := (same_upd nm2).trans (same_upd nl2)
      have el2 : (upd (upd E13 m2 (.lst [V.ref e9, V.ref e10, V.ref e11, V.ref e12, V.ref e13])) l2 (.lst ([V.ref e0, V.ref e1, V.ref e2, V.ref e3, V.ref e4, V.ref e5, V.ref e6, V.ref e7, V.ref e8] ++ [V.ref e9, V.ref e10, V.ref e11, V.ref e12, V.ref e13]))) l2 = some (.lst [V.ref e0, V.ref e1, V.ref e2, V.ref e3, V.ref e4, V.ref e5, V.ref e6, V.ref e7, V.ref e8, V.ref e9, V.ref e10, V.ref e11, V.ref e12, V.ref e13]) := upd_same
      generalize upd (upd E13 m2 (.lst [V.ref e9, V.ref e10, V.ref e11, V.ref e12, V.ref e13])) l2 (.lst ([V.ref e0, V.ref e1, V.ref e2, V.ref e3, V.ref e4, V.ref e5, V.ref e6, V.ref e7, V.ref e8] ++ [V.ref e9, V.ref e10, V.ref e11, V.ref e12, V.ref e13])) = L2' at yl2 el2 ⊢
      -- due
      refine ⟨by show 10 ≤ sizeLine; decide, fun u0 nu0 => ⟨_, rfl, by show 4 ≤ sizeLine; decide, fun u1 nu1 => ⟨u0, u1, _, _, rfl, rfl, by rw [upd_ne (ne_of_none upd_same nu1)]; exact upd_same, upd_same, by show 14 ≤ sizeLine; decide, fun u2 nu2 => ?_⟩⟩⟩
      generalize hD : upd (upd (upd L2' u0 _) u1 _) u2 _ = DU
      have yD : Same L2' DU := by rw [← hD]; exact ((same_upd nu0).trans (same_upd nu1)).trans (same_upd nu2)
      have eD : DU u2 = some (.lst (dueL.map V.str)) := by rw [← hD]; exact upd_same
      have yK : Same K0 DU := (y0.trans (y1.trans (y2.trans (y3.trans (y4.trans (yl0.trans (y5.trans (y6.trans (y7.trans (y8.trans (yl1.trans (y9.trans (y10.trans (y11.trans (y12.trans (y13.trans (yl2.trans yD)))))))))))))))))
      have w0 : IsErr DU (C 0) e0 := i0.same (y1.trans (y2.trans (y3.trans (y4.trans (yl0.trans (y5.trans (y6.trans (y7.trans (y8.trans (yl1.trans (y9.trans (y10.trans (y11.trans (y12.trans (y13.trans (yl2.trans yD))))))))))))))))
      have w1 : IsErr DU (C 1) e1 := i1.same (y2.trans (y3.trans (y4.trans (yl0.trans (y5.trans (y6.trans (y7.trans (y8.trans (yl1.trans (y9.trans (y10.trans (y11.trans (y12.trans (y13.trans (yl2.trans yD)))))))))))))))
      have w2 : IsErr DU (C 2) e2 := i2.same (y3.trans (y4.trans (yl0.trans (y5.trans (y6.trans (y7.trans (y8.trans (yl1.trans (y9.trans (y10.trans (y11.trans (y12.trans (y13.trans (yl2.trans yD))))))))))))))
      have w3 : IsErr DU (C 3) e3 := i3.same (y4.trans (yl0.trans (y5.trans (y6.trans (y7.trans (y8.trans (yl1.trans (y9.trans (y10.trans (y11.trans (y12.trans (y13.trans (yl2.trans yD)))))))))))))
      have w4 : IsErr DU (C 4) e4 := i4.same (yl0.trans (y5.trans (y6.trans (y7.trans (y8.trans (yl1.trans (y9.trans (y10.trans (y11.trans (y12.trans (y13.trans (yl2.trans yD))))))))))))
      have w5 : IsErr DU (C 5) e5 := i5.same (y6.trans (y7.trans (y8.trans (yl1.trans (y9.trans (y10.trans (y11.trans (y12.trans (y13.trans (yl2.trans yD))))))))))
      have w6 : IsErr DU (C 6) e6 := i6.same (y7.trans (y8.trans (yl1.trans (y9.trans (y10.trans (y11.trans (y12.trans (y13.trans (yl2.trans yD)))))))))
      have w7 : IsErr DU (C 7) e7 := i7.same (y8.trans (yl1.trans (y9.trans (y10.trans (y11.trans (y12.trans (y13.trans (yl2.trans yD))))))))
      have w8 : IsErr DU (C 8) e8 := i8.same (yl1.trans (y9.trans (y10.trans (y11.trans (y12.trans (y13.trans (yl2.trans yD)))))))
      have w9 : IsErr DU (C 9) e9 := i9.same (y10.trans (y11.trans (y12.trans (y13.trans (yl2.trans yD)))))
      have w10 : IsErr DU (C 10) e10 := i10.same (y11.trans (y12.trans (y13.trans (yl2.trans yD))))
      have w11 : IsErr DU (C 11) e11 := i11.same (y12.trans (y13.trans (yl2.trans yD)))
      have w12 : IsErr DU (C 12) e12 := i12.same (y13.trans (yl2.trans yD))
      have w13 : IsErr DU (C 13) e13 := i13.same (yl2.trans yD)
      have hS2 : SqL K DU l2 [V.ref e0, V.ref e1, V.ref e2, V.ref e3, V.ref e4, V.ref e5, V.ref e6, V.ref e7, V.ref e8, V.ref e9, V.ref e10, V.ref e11, V.ref e12, V.ref e13] := .inl (.inl (yD _ _ el2))
      -- [_law_refusal(error) for error in some] != due
      refine ⟨.ref l2, rfl, l2, rfl, ⟨_, hS2⟩, fun L nL => lc_list (xs := [V.ref e0, V.ref e1, V.ref e2, V.ref e3, V.ref e4, V.ref e5, V.ref e6, V.ref e7, V.ref e8, V.ref e9, V.ref e10, V.ref e11, V.ref e12, V.ref e13]) (fun i H' => Same DU H' ∧ H' L = some (.lst ((dueL.take i).map V.str)))
        ⟨same_upd nL, upd_same⟩ (fun i H' _ hQ => hQ.1.seq hS2) (fun i x H' hx hQ => ?_) (fun H' hQ => ?_)⟩
      · obtain ⟨s8, eL⟩ := hQ
        have key : ∃ (e : Addr) (idx : Nat), x = .ref e ∧ idx < 20 ∧ IsErr DU (C idx) e ∧ dueL[i]? = some (wordOf idx) := by
          match i, hx with
          | 0, hx => cases hx; exact ⟨e0, 0, rfl, by decide, w0, rfl⟩
          | 1, hx => cases hx; exact ⟨e1, 1, rfl, by decide, w1, rfl⟩
          | 2, hx => cases hx; exact ⟨e2, 2, rfl, by decide, w2, rfl⟩
          | 3, hx => cases hx; exact ⟨e3, 3, rfl, by decide, w3, rfl⟩
          | 4, hx => cases hx; exact ⟨e4, 4, rfl, by decide, w4, rfl⟩
          | 5, hx => cases hx; exact ⟨e5, 5, rfl, by decide, w5, rfl⟩
          | 6, hx => cases hx; exact ⟨e6, 6, rfl, by decide, w6, rfl⟩
          | 7, hx => cases hx; exact ⟨e7, 7, rfl, by decide, w7, rfl⟩
          | 8, hx => cases hx; exact ⟨e8, 8, rfl, by decide, w8, rfl⟩
          | 9, hx => cases hx; exact ⟨e9, 9, rfl, by decide, w9, rfl⟩
          | 10, hx => cases hx; exact ⟨e10, 10, rfl, by decide, w10, rfl⟩
          | 11, hx => cases hx; exact ⟨e11, 11, rfl, by decide, w11, rfl⟩
          | 12, hx => cases hx; exact ⟨e12, 12, rfl, by decide, w12, rfl⟩
          | 13, hx => cases hx; exact ⟨e13, 13, rfl, by decide, w13, rfl⟩
          | i + 14, hx => cases hx
        obtain ⟨e, idx, rfl, hidx, he, hw⟩ := key
        refine ⟨rfl, ?_⟩
        dsimp only [tYes]
        refine iteT ?_
        refine ⟨_, rfl, e, idx, rfl, hidx, he.same s8, fun H'' s9 => ⟨_, s9 _ _ eL, ?_, ?_, ?_⟩⟩
        · rw [List.length_map, List.length_take]
          exact Nat.lt_of_le_of_lt (Nat.min_le_right _ _) (by show 14 < sizeLine; decide)
        · intro b o z
          rw [upd_ne (ne_of_none z nL)]
          exact s9 _ _ (s8 _ _ z)
        · rw [upd_same, List.take_add_one, hw, List.map_append]
          rfl
      · obtain ⟨s8, eL⟩ := hQ
        have eL' : H' L = some (.lst (dueL.map V.str)) := eL
        refine ⟨_, rfl, .list (dueL.map .str), .list (dueL.map .str), .lst (.inl (.inl eL')) (dpStrs _), .lst (.inl (.inl (s8 _ _ eD))) (dpStrs _), by decide +kernel, by decide +kernel, _, rfl, ?_⟩
        rw [show PyData.eqv (.list (dueL.map .str)) (.list (dueL.map .str)) = true by decide +kernel]
        refine iteF ?_
        -- _law_kept(pen) != [..]
        have s9 : Same K0 H' := yK.trans s8
        have hp5 : PenAt H' p c ms n3 left3 := ⟨s9 _ _ hp4.1, s9 _ _ hp4.2.1, hp4.2.2⟩
        refine ⟨.ref p, rfl, p, c, ms, n3, left3, rfl, hp5, by omega, fun H5 v5 n5 left5 bt5 hp6 hn5 ev5 => ?_⟩
        refine ⟨by show 5 ≤ sizeLine; decide, fun u3 nu3 => ?_⟩
        have y14 := same_upd (o := .lst (keptW.map V.str)) nu3
        refine ⟨.list (keptW.map .str), .list (keptW.map .str), .lst (.inl (.inl (y14 _ _ ev5))) (dpStrs _), .lst (.inl (.inl upd_same)) (dpStrs keptW), by decide +kernel, by decide +kernel, _, rfl, ?_⟩
        rw [show PyData.eqv (.list (keptW.map .str)) (.list (keptW.map .str)) = true by decide +kernel]
        refine iteF ?_
        -- base = ViewError(text)
        refine ⟨_, rfl, fun e19 ne19 => ?_⟩
        have y19 := y14.trans (same_upd (o := ExO (.ref (C 19)) e19) ne19)
        have w19 : IsErr (upd (upd H5 u3 (.lst (keptW.map V.str))) e19 (ExO (.ref (C 19)) e19)) (C 19) e19 := .inl upd_same
        refine ⟨_, rfl, e19, C 19, _, _, true, rfl, w19, T.err 19 (by decide), (fun _ r => r), T.kitT 19 (by decide), true, rfl, iteF ?_⟩
        refine ⟨_, rfl, e19, 19, rfl, by decide, w19, fun H7 s7 => ⟨rfl, _, rfl, iteNS rfl ?_⟩⟩
        have s10 := y19.trans s7
        exact ⟨_, _, _, _, _, _, n5, left5, rfl, ⟨s10 _ _ hp6.1, s10 _ _ hp6.2.1, hp6.2.2⟩, by omega⟩
    · exact q H2
end
end PvK
set_option maxRecDepth 100000
set_option maxHeartbeats 4000000
/-! The end of a row whose law's def is promised where no repr is under way. -/
namespace PvK
open PySem PySem.Spec PyProof.Rows L2
theorem lawG {P : Program} {w : World} {K : PySem.W.Frag} {mg mb : Str → Option Value} {k : Nat} {fa a : Addr} {fd : FuncData} {x : Str} {sp : Sp} {s₁ : Shared} {vs : List Value} {ns : List Int}
    (KX : K.In s₁.heap) (hns : s₁.heap.Ns mainGlobals mg) (hb : s₁.heap.Ns builtinsNs mb) (hbb : ∀ x : Str, x ≠ "__name__" → mb x = bootBuiltins x) (hlim : s₁.heap.NoLimit) (hg : s₁.gens = #[])
    (ha : s₁.heap.get? a = some { cls := .type "list", data := .seq vs.toArray }) (hi : IntsAre vs ns) (hl : ns.length ≤ sizeLine) (hr : Room k callerA)
    (F : ∀ base : Heap, K.In base → base.Ns mainGlobals mg → FnG P w K mg base k fa fd [x] sp) (hbind : ∀ (s : Shared) (u : Value), BindsTo s fd ⟨[u], []⟩ [(x, u)])
    (hsp : ∀ H : Hp, SqL K H a (ns.map V.int) → sp [.ref a] H (fun v _ => v = .bl true) E0) :
    codeAny (model P w) callerA (.call (.ref fa) ⟨[.ref a], []⟩) (fun r s' => r = .ok (.ret (.bool true)) ∧ OldK s₁.heap s'.heap ∧ s'.os = s₁.os ∧ AllBare s'.gens) s₁ := by
  have rv := vals_ints hi
  have lenV := hi.length
  obtain ⟨H, hA, hS, hok⟩ : ∃ H : Hp, (∀ b u, H b = some u → b = a ∧ K.lookup a = none ∧ u = .frz { cls := .type "list", data := .seq vs.toArray } (.lst (ns.map V.int))) ∧ SqL K H a (ns.map V.int) ∧ HOk P w H s₁.heap := by
    by_cases hk : K.lookup a = none
    · refine ⟨fun b => if b = a then some (.frz { cls := .type "list", data := .seq vs.toArray } (.lst (ns.map V.int))) else none, fun b u z => ?_, .inl (.inr ⟨_, if_pos rfl⟩), fun b u z => ?_⟩
      · by_cases h : b = a
        · exact ⟨h, hk, (Option.some.inj ((if_pos h).symm.trans z)).symm⟩
        · have z' := (if_neg h).symm.trans z
          cases z'
      · by_cases h : b = a
        · have z' := Option.some.inj ((if_pos h).symm.trans z)
          subst z' h
          exact ⟨ha, by rw [List.length_map]; exact hl, vs, _, rv, ha⟩
        · have z' := (if_neg h).symm.trans z
          cases z'
    · obtain ⟨o, hk2⟩ := Option.ne_none_iff_exists'.mp hk
      have e := KX a o hk2
      rw [ha] at e
      cases e
      refine ⟨fun _ => none, (fun _ _ z => by cases z), .inr ⟨_, vs.toArray, _, hk2, rfl, rfl, rfl, by rw [List.size_toArray, lenV]; exact hl, by simpa using rv⟩, (fun _ _ z => by cases z)⟩
  -- what is a namespace isn't the script
  have noH : ∀ {b : Addr} {o : Obj}, s₁.heap.get? b = some o → (∀ es ep, o.data ≠ .dict es ep → False) ∨ K.lookup b = some o → H b = none := fun {b o} e z => by
    cases q : H b with
    | none => rfl
    | some u =>
      obtain ⟨rfl, hk, _⟩ := hA b u q
      rcases z with z | z
      · rw [ha] at e
        cases e
        exact (z #[] 0 fun z2 => nomatch z2).elim
      · rw [hk] at z
        cases z
  have nsH : ∀ {b : Addr} {m : Str → Option Value}, s₁.heap.Ns b m → (hidT s₁.heap H).Ns b m := fun {b m} ⟨o, es, ep, e, d, r⟩ => by
    refine ⟨o, es, ep, hidT_get e ?_, d, r⟩
    cases q : H b with
    | none => rfl
    | some u =>
      obtain ⟨rfl, _, _⟩ := hA b u q
      rw [ha] at e
      cases e
      have d' : Data.seq vs.toArray _ = Data.dict es ep := d
      cases d'
  have hKb : K.In (hidT s₁.heap H) := fun b o e => hidT_get (KX b o e) (noH (KX b o e) (.inr e))
  have hM : Mod K mg (hidT s₁.heap H) := ⟨hKb, nsH hns, ⟨mb, nsH hb, hbb⟩, let ⟨mc, h1, h2⟩ := hlim; ⟨mc, nsH h1, h2⟩⟩
  have e0 : Env0 P w K mg (hidT s₁.heap H) callerA [] s₁ H := ⟨rfl, hM, fun b o e => of_hidT e, Nat.le_of_eq (hidT_size _ _), trivial, (fun b z => nomatch z), hok, .of_eq hg⟩
  refine codeAny_mono ((F _ hKb (nsH hns)).run callerA [] s₁ H ⟨[.ref a], []⟩ [.ref a] [.ref a] _ E0 rfl hr e0 (hbind s₁ (.ref a)) (.cons rfl .nil) (hsp H hS)) fun r s' h => ?_
  match r, h with
  | .error _, h => exact h.elim
  | .ok .next, h => exact h.elim
  | .ok .brk, h => exact h.elim
  | .ok .cont, h => exact h.elim
  | .ok (.ret u), ⟨v, H', os, bare, un, hok', r', q⟩ =>
    have q' : v = .bl true := q
    subst q'
    obtain rfl : u = Value.bool true := r'
    refine ⟨rfl, OldK.of_keep fun b o e => ?_, os, bare⟩
    cases q2 : H b with
    | none => exact un.keep b o e q2 (by intro z; cases z) (by intro z; cases z)
    | some u =>
      obtain ⟨rfl, _, rfl⟩ := hA b u q2
      obtain ⟨e2, _⟩ := hok' b _ (un.frzs b _ _ q2)
      rw [ha] at e
      cases e
      exact e2
theorem walkG {l : PySem.W.OpenLaw} {n k : Nat} {q : Program} {loose : List Str} {XP : (Str → Option Value) → Heap → Prop} {YP : World → Heap → Prop} {d : DefRec} {K : Params → PySem.W.Frag} {sp : PySem.W.Frag → Sp} {x : Str}
    (hn : l.most = some n) (hn2 : n ≤ sizeLine) (hdf : d.params.defaults = []) (hr : Room k callerA) (hY : ∀ (w : World) (h : Heap), YP w h → (K w.params).In h)
    (F : ∀ (w : World) (mg : Str → Option Value) (fa : Addr) (h : Heap), (K w.params).In h → h.Ns mainGlobals mg → mg d.name = some (.ref fa) →
      ∃ fd : FuncData, (∀ (s : Shared) (u : Value), BindsTo s fd ⟨[u], []⟩ [(x, u)]) ∧ ∀ base : Heap, (K w.params).In base → base.Ns mainGlobals mg → FnG l.prog w (K w.params) mg base k fa fd [x] (sp (K w.params)))
    (hsp : ∀ (K : PySem.W.Frag) (H : Hp) (a : Addr) (ns : List Int), ns.length ≤ n → SqL K H a (ns.map V.int) → sp K [.ref a] H (fun v _ => v = .bl true) E0) :
    PySem.W.WalkO q loose XP YP l.row.toRowW d [] (fun f vs => PySem.call f vs) := by
  refine Att.attach_call hn hdf fun w s₀ s₁ mg mb fa o pm cd doc a vs ns G Y ho hd hcd hmg hobj hints hlen hg => ?_
  have KX := hY w _ Y
  obtain ⟨fd, hb, hF⟩ := F w mg fa _ KX G.T.g hmg
  exact lawG KX G.T.g G.T.b G.T.builtins G.T.nolimit hg hobj hints (Nat.le_trans hlen hn2) hr hF hb fun H hS => hsp _ H a ns hlen hS
end PvK
set_option maxRecDepth 100000
set_option maxHeartbeats 8000000
/-! What the top leaves, put together. -/
namespace PvK
open PySem PySem.Spec PySem.W PyProof.Rows L2
/-- a class of errors, as the written part has it -/
def clsOk (K : Frag) (C : Addr) (more : List Value) : Bool :=
  (match clsIn K C with | some cd => cd.mro == Value.ref C :: more && cd.hasDict | none => false) && typeIn K (.ref C) == some (.type "type") &&
  findIn K (.ref C) "__getattribute__" == some (some (.builtin "BaseException.__getattribute__")) && findIn K (.ref C) "__getattr__" == some none &&
  findIn K (.ref C) "__class__" == some (some (.builtin "object.__class__")) && keepIn K (.ref C)
structure ClsRow (K : Frag) (C : Addr) (more : List Value) : Prop where
  cl : ∃ cd, clsIn K C = some cd ∧ cd.mro = Value.ref C :: more ∧ cd.hasDict = true
  ty : typeIn K (.ref C) = some (.type "type")
  ga : findIn K (.ref C) "__getattribute__" = some (some (.builtin "BaseException.__getattribute__"))
  gt : findIn K (.ref C) "__getattr__" = some none
  ha : findIn K (.ref C) "__class__" = some (some (.builtin "object.__class__"))
  kp : keepIn K (.ref C) = true
theorem cls_row {K : Frag} {C : Addr} {more : List Value} (h : clsOk K C more = true) : ClsRow K C more := by
  unfold clsOk at h
  simp only [Bool.and_eq_true, beq_iff_eq] at h
  obtain ⟨⟨⟨⟨⟨h1, h2⟩, h3⟩, h4⟩, h5⟩, h6⟩ := h
  refine ⟨?_, h2, h3, h4, h5, h6⟩
  split at h1
  · rename_i cd hc
    simp only [Bool.and_eq_true, beq_iff_eq] at h1
    exact ⟨cd, hc, h1.1, h1.2⟩
  · cases h1
theorem ClsRow.mro {K : Frag} {C : Addr} {more : List Value} (r : ClsRow K C more) (b : Value) : mroIn K C b = some ((Value.ref C :: more).contains b) := by
  obtain ⟨cd, hc, hm, _⟩ := r.cl
  unfold mroIn
  rw [hc, Option.bind_some, hm]
  rfl
theorem ClsRow.errC {K : Frag} {C : Addr} {more : List Value} (r : ClsRow K C more) (h1 : more.contains (.type "BaseException") = true) (h2 : more.contains (.type "object") = true) : ErrC K C := by
  obtain ⟨cd, hc, hm, hd⟩ := r.cl
  refine ⟨by rw [hc]; rfl, ?_, r.ga, r.gt, ?_, r.ha, ?_⟩
  · unfold hasDictIn
    rw [hc]
    exact hd
  · show mroIn K C _ = _
    rw [r.mro, List.contains_cons, h1, Bool.or_true]
  · rw [r.mro, List.contains_cons, h2, Bool.or_true]
theorem ClsRow.kit {K : Frag} {C D : Addr} {more more' : List Value} (r : ClsRow K C more) (q : ClsRow K D more') : kitOne K (.ref C) (.ref D) = some ((Value.ref C :: more).contains (.ref D)) := by
  unfold kitOne
  by_cases h : (Value.ref C == Value.ref D) = true
  · rw [if_pos h, beq_iff_eq.mp h, List.contains_cons, beq_self_eq_true, Bool.true_or]
  · rw [if_neg h]
    obtain ⟨cd, hc, _⟩ := q.cl
    show (if ((clsIn K D).isSome && typeIn K (.ref D) == some (.type "type")) = true then subIn K (.ref C) (.ref D) else none) = _
    rw [hc, q.ty, if_pos (by rw [beq_self_eq_true]; rfl)]
    exact r.mro _
theorem ClsRow.kitT {K : Frag} {C : Addr} {more : List Value} (r : ClsRow K C more) (h : more.contains (.type "ValueError") = true) (hm : kitMeta "ValueError" = true) : kitOne K (.ref C) (.type "ValueError") = some true := by
  unfold kitOne
  rw [if_neg (by intro z; cases beq_iff_eq.mp z)]
  show (if kitMeta "ValueError" = true then subIn K (.ref C) (.type "ValueError") else none) = _
  rw [if_pos hm]
  show mroIn K C _ = _
  rw [r.mro, List.contains_cons, h, Bool.or_true]
/-- what a class whose __init__ keeps its argument must say besides -/
def initOk (K : Frag) (C : Addr) (f : Str) : Bool :=
  findIn K (.ref C) "__setattr__" == some (some (.builtin "object.__setattr__")) && findIn K (.ref C) f == some none && ks_superIn K C C "__init__" == some (some (.builtin "ValueError.__init__"))
abbrev sI14 : Stmt := inClass (topS 16) 0
theorem txt14 : ∃ (txt : Str) (j : Nat) (p1 p2 q1 q2 q3 q4 q5 q6 r1 r2 r3 r4 : Pos), defArgs sI14 = iAr "event" p1 p2 ∧ defBody sI14 = [iSup txt j q1 q2 q3 q4 q5 q6, iPut "event" "event" r1 r2 r3 r4] ∧ defScope sI14 = iSc "event" ∧
    (∀ env : Env, ∃ pl : Sem Bool, eval (.Call (.Attribute (.Call (.Name "super" q1) [] [] q2) "__init__" q3) [.Constant (.str txt) j q4] [] q5) env = (do
      let ov ← attributeBase (.Call (.Name "super" q1) [] [] q2) "__init__" env (eval (.Call (.Name "super" q1) [] [] q2) env)
      standAt q3.atName
      let (g, first) ← holding [ov] (getMethod ov "__init__" pl)
      callWith q5 g first (backTo q5 (starEach [.Constant (.str txt) j q4] env)) [])) :=
  ⟨_, _, _, _, _, _, _, _, _, _, _, _, _, _, rfl, rfl, rfl, fun env => ⟨_, rfl⟩⟩
abbrev sI15 : Stmt := inClass (topS 17) 0
theorem txt15 : ∃ (txt : Str) (j : Nat) (p1 p2 q1 q2 q3 q4 q5 q6 r1 r2 r3 r4 : Pos), defArgs sI15 = iAr "number" p1 p2 ∧ defBody sI15 = [iSup txt j q1 q2 q3 q4 q5 q6, iPut "number" "number" r1 r2 r3 r4] ∧ defScope sI15 = iSc "number" ∧
    (∀ env : Env, ∃ pl : Sem Bool, eval (.Call (.Attribute (.Call (.Name "super" q1) [] [] q2) "__init__" q3) [.Constant (.str txt) j q4] [] q5) env = (do
      let ov ← attributeBase (.Call (.Name "super" q1) [] [] q2) "__init__" env (eval (.Call (.Name "super" q1) [] [] q2) env)
      standAt q3.atName
      let (g, first) ← holding [ov] (getMethod ov "__init__" pl)
      callWith q5 g first (backTo q5 (starEach [.Constant (.str txt) j q4] env)) [])) :=
  ⟨_, _, _, _, _, _, _, _, _, _, _, _, _, _, rfl, rfl, rfl, fun env => ⟨_, rfl⟩⟩
abbrev sI16 : Stmt := inClass (topS 18) 0
theorem txt16 : ∃ (txt : Str) (j : Nat) (p1 p2 q1 q2 q3 q4 q5 q6 r1 r2 r3 r4 : Pos), defArgs sI16 = iAr "name" p1 p2 ∧ defBody sI16 = [iSup txt j q1 q2 q3 q4 q5 q6, iPut "name" "name" r1 r2 r3 r4] ∧ defScope sI16 = iSc "name" ∧
    (∀ env : Env, ∃ pl : Sem Bool, eval (.Call (.Attribute (.Call (.Name "super" q1) [] [] q2) "__init__" q3) [.Constant (.str txt) j q4] [] q5) env = (do
      let ov ← attributeBase (.Call (.Name "super" q1) [] [] q2) "__init__" env (eval (.Call (.Name "super" q1) [] [] q2) env)
      standAt q3.atName
      let (g, first) ← holding [ov] (getMethod ov "__init__" pl)
      callWith q5 g first (backTo q5 (starEach [.Constant (.str txt) j q4] env)) [])) :=
  ⟨_, _, _, _, _, _, _, _, _, _, _, _, _, _, rfl, rfl, rfl, fun env => ⟨_, rfl⟩⟩
abbrev sI17 : Stmt := inClass (topS 19) 0
theorem txt17 : ∃ (txt : Str) (j : Nat) (p1 p2 q1 q2 q3 q4 q5 q6 r1 r2 r3 r4 : Pos), defArgs sI17 = iAr "limit" p1 p2 ∧ defBody sI17 = [iSup txt j q1 q2 q3 q4 q5 q6, iPut "limit" "limit" r1 r2 r3 r4] ∧ defScope sI17 = iSc "limit" ∧
    (∀ env : Env, ∃ pl : Sem Bool, eval (.Call (.Attribute (.Call (.Name "super" q1) [] [] q2) "__init__" q3) [.Constant (.str txt) j q4] [] q5) env = (do
      let ov ← attributeBase (.Call (.Name "super" q1) [] [] q2) "__init__" env (eval (.Call (.Name "super" q1) [] [] q2) env)
      standAt q3.atName
      let (g, first) ← holding [ov] (getMethod ov "__init__" pl)
      callWith q5 g first (backTo q5 (starEach [.Constant (.str txt) j q4] env)) [])) :=
  ⟨_, _, _, _, _, _, _, _, _, _, _, _, _, _, rfl, rfl, rfl, fun env => ⟨_, rfl⟩⟩
abbrev sI18 : Stmt := inClass (topS 20) 0
theorem txt18 : ∃ (txt : Str) (j : Nat) (p1 p2 q1 q2 q3 q4 q5 q6 r1 r2 r3 r4 : Pos), defArgs sI18 = iAr "number" p1 p2 ∧ defBody sI18 = [iSup txt j q1 q2 q3 q4 q5 q6, iPut "number" "number" r1 r2 r3 r4] ∧ defScope sI18 = iSc "number" ∧
    (∀ env : Env, ∃ pl : Sem Bool, eval (.Call (.Attribute (.Call (.Name "super" q1) [] [] q2) "__init__" q3) [.Constant (.str txt) j q4] [] q5) env = (do
      let ov ← attributeBase (.Call (.Name "super" q1) [] [] q2) "__init__" env (eval (.Call (.Name "super" q1) [] [] q2) env)
      standAt q3.atName
      let (g, first) ← holding [ov] (getMethod ov "__init__" pl)
      callWith q5 g first (backTo q5 (starEach [.Constant (.str txt) j q4] env)) [])) :=
  ⟨_, _, _, _, _, _, _, _, _, _, _, _, _, _, rfl, rfl, rfl, fun env => ⟨_, rfl⟩⟩
theorem init_mk {P : Program} {K : Frag} {mg : Str → Option Value} {C fI V : Addr} {f : Str} {st : Stmt} (row : ClsRow K C (.ref V :: HandSPX.veTail)) (ok : initOk K C f = true)
    {nm q : Str} {N : Addr} {bs : List Value} {sn : List Str} {sub : List Value} {ab : Bool} {col : Option Bool} {dd : Option Addr} {k0 k1 k2 k3 k5 : Option Value}
    (xC : K.lookup C = some (excClassObj nm q C N bs (.ref V :: HandSPX.veTail) true sn sub ab col dd k0 k1 k2 k3 k5 "ValueError.__new__"))
    (iC : findIn K (.ref C) "__init__" = some (some (.ref fI))) (tI : typeIn K (.ref fI) = some (.type "function"))
    (opq : nsIn K cStatics "thirdparty.any" = some none) (mS : mg "super" = none) (htop : (P.main.scope.names.lookup ("super" : Str)).isSome = false)
    {cda cc : Addr} {ccl cl oc kV doc pm ct : Value} {cdd cld od an : Option Addr} {ccs csl osl : Array (Option Value)} {vs : Array Value} {file qual : Str} {tf : Tok}
    (lI : K.lookup fI = some ⟨oc, od, .func (ksFn "__init__" qual (defArgs st) (defBody st) (defScope st) .none kV doc pm an (.ref cda) ct cc), osl⟩) (hcd : codeIn K (.ref cda) qual = true)
    (hcode : K.lookup cda = some ⟨ccl, cdd, .fields vs, ccs⟩) (hvs : vs[2]? = some (.str file tf)) (hfile : ((P.main.file : Str) == file) = true)
    (hcell : K.lookup cc = some ⟨cl, cld, .cell (some (.ref C)), csl⟩)
    (E : ∃ (ar txt : Str) (j : Nat) (p1 p2 q1 q2 q3 q4 q5 q6 r1 r2 r3 r4 : Pos), defArgs st = iAr ar p1 p2 ∧ defBody st = [iSup txt j q1 q2 q3 q4 q5 q6, iPut f ar r1 r2 r3 r4] ∧ defScope st = iSc ar ∧
      (∀ env : Env, ∃ pl : Sem Bool, eval (.Call (.Attribute (.Call (.Name "super" q1) [] [] q2) "__init__" q3) [.Constant (.str txt) j q4] [] q5) env = (do
        let ov ← attributeBase (.Call (.Name "super" q1) [] [] q2) "__init__" env (eval (.Call (.Name "super" q1) [] [] q2) env)
        standAt q3.atName
        let (g, first) ← holding [ov] (getMethod ov "__init__" pl)
        callWith q5 g first (backTo q5 (starEach [.Constant (.str txt) j q4] env)) [])) ∧
      (ar == ("self" : Str)) = false ∧ (ar == ("__debug__" : Str)) = false ∧
      (∀ (s : Shared) (x v : Value), BindsTo s (ksFn "__init__" qual (iAr ar p1 p2) [iSup txt j q1 q2 q3 q4 q5 q6, iPut f ar r1 r2 r3 r4] (iSc ar) .none kV doc pm an (.ref cda) ct cc) ⟨[x, v], []⟩ [("self", x), (ar, v)]) ∧
      (iSc ar).names.lookup ("super" : Str) = some .globalImplicit ∧ (iSc ar).names.lookup ("__class__" : Str) = some .free ∧ (iSc ar).names.lookup ar = some .local) : InitTxt P K mg C fI f := by
  unfold initOk at ok
  simp only [Bool.and_eq_true, beq_iff_eq] at ok
  obtain ⟨⟨o1, o2⟩, o3⟩ := ok
  obtain ⟨ar, txt, j, p1, p2, q1, q2, q3, q4, q5, q6, r1, r2, r3, r4, ea, eb, es, hev, n1, n2, hbind, k1', k2', k3'⟩ := E
  rw [ea, eb, es] at lI
  exact {
    cls := ⟨nm, q, N, bs, _, sn, sub, ab, col, dd, k0, k1, k2, k3, k5, xC, (by show HandSPX.refsVE HandSPX.veTail = true; decide +kernel)⟩
    sa := o1, noF := o2, iC := iC, tI := tI, kC := row.kp
    isV := (row.mro _).trans (by rw [List.contains_cons, List.contains_cons, show HandSPX.veTail.contains (Value.type "ValueError") = true by decide +kernel, Bool.or_true, Bool.or_true])
    isS := (row.mro _).trans (by rw [List.contains_cons, beq_self_eq_true, Bool.true_or])
    sup := o3, opq := opq, mS := mS, htop := htop
    hfile := ⟨cda, ccl, cdd, ccs, vs, file, tf, cc, cl, cld, csl, oc, od, ar, txt, j, kV, doc, pm, an, ct, osl, qual, p1, p2, q1, q2, q3, q4, q5, q6, r1, r2, r3, r4, hcode, hvs, hfile, hcell, lI, hcd, n1, n2, hbind, hev, k1', k2', k3'⟩ }
end PvK
set_option maxRecDepth 100000
set_option maxHeartbeats 8000000
namespace PvK
open PySem PySem.Spec PySem.W PyProof.Rows L2
def injOk (cs : List Addr) : Bool := (List.range 20).all fun i => (List.range 20).all fun j => (cs.getD i 0 == cs.getD j 0) == (i == j)
theorem inj_of {cs : List Addr} (h : injOk cs = true) {i j : Nat} (hi : i < 20) (hj : j < 20) : (cs.getD i 0 == cs.getD j 0) = (i == j) := by
  unfold injOk at h
  have h1 := List.all_eq_true.mp h i (List.mem_range.mpr hi)
  have h2 := List.all_eq_true.mp h1 j (List.mem_range.mpr hj)
  exact beq_iff_eq.mp h2
theorem vals_beq (a b : Addr) : (Value.ref a == Value.ref b) = (a == b) := by
  rw [Bool.eq_iff_iff, beq_iff_eq, beq_iff_eq]
  exact ⟨fun h => Value.ref.inj h, fun h => by rw [h]⟩
theorem tail_ref (a : Addr) : HandSPX.veTail.contains (Value.ref a) = false := rfl
theorem all_mk {P : Program} {w : World} {K : Frag} {h : Heap} {mg : Str → Option Value} {fa : Addr} (X : K.In h) (G : h.Ns mainGlobals mg) (hfa : mg "law" = some (.ref fa))
    {c0 c1 c2 c3 c4 c5 c6 c7 c8 c9 c10 c11 c12 c13 c14 c15 c16 c17 c18 c19 : Addr}
    {f0 : Addr} {oc0 kV0 dc0 pm0 cd0 ct0 : Value} {od0 an0 : Option Addr} {sl0 : Array (Option Value)}
    {f1 : Addr} {oc1 kV1 dc1 pm1 cd1 ct1 : Value} {od1 an1 : Option Addr} {sl1 : Array (Option Value)}
    {f2 : Addr} {oc2 kV2 dc2 pm2 cd2 ct2 : Value} {od2 an2 : Option Addr} {sl2 : Array (Option Value)}
    {f3 : Addr} {oc3 kV3 dc3 pm3 cd3 ct3 : Value} {od3 an3 : Option Addr} {sl3 : Array (Option Value)}
    {f4 : Addr} {oc4 kV4 dc4 pm4 cd4 ct4 : Value} {od4 an4 : Option Addr} {sl4 : Array (Option Value)}
    {f5 : Addr} {oc5 kV5 dc5 pm5 cd5 ct5 : Value} {od5 an5 : Option Addr} {sl5 : Array (Option Value)}
    {f6 : Addr} {oc6 kV6 dc6 pm6 cd6 ct6 : Value} {od6 an6 : Option Addr} {sl6 : Array (Option Value)}
    {f7 : Addr} {oc7 kV7 dc7 pm7 cd7 ct7 : Value} {od7 an7 : Option Addr} {sl7 : Array (Option Value)}
    {f8 : Addr} {oc8 kV8 dc8 pm8 cd8 ct8 : Value} {od8 an8 : Option Addr} {sl8 : Array (Option Value)}
    {nm14 q14 : Str} {N14 : Addr} {bs14 : List Value} {sn14 : List Str} {su14 : List Value} {ab14 : Bool} {co14 : Option Bool} {dd14 : Option Addr} {ka14 kb14 kc14 kd14 ke14 : Option Value} {fI14 cda14 cc14 : Addr} {ccl14 cl14 ic14 iV14 ido14 ip14 it14 : Value} {cdd14 cld14 iod14 ian14 : Option Addr} {ccs14 csl14 isl14 : Array (Option Value)} {vs14 : Array Value} {file14 : Str} {tf14 : Tok}
    {nm15 q15 : Str} {N15 : Addr} {bs15 : List Value} {sn15 : List Str} {su15 : List Value} {ab15 : Bool} {co15 : Option Bool} {dd15 : Option Addr} {ka15 kb15 kc15 kd15 ke15 : Option Value} {fI15 cda15 cc15 : Addr} {ccl15 cl15 ic15 iV15 ido15 ip15 it15 : Value} {cdd15 cld15 iod15 ian15 : Option Addr} {ccs15 csl15 isl15 : Array (Option Value)} {vs15 : Array Value} {file15 : Str} {tf15 : Tok}
    {nm16 q16 : Str} {N16 : Addr} {bs16 : List Value} {sn16 : List Str} {su16 : List Value} {ab16 : Bool} {co16 : Option Bool} {dd16 : Option Addr} {ka16 kb16 kc16 kd16 ke16 : Option Value} {fI16 cda16 cc16 : Addr} {ccl16 cl16 ic16 iV16 ido16 ip16 it16 : Value} {cdd16 cld16 iod16 ian16 : Option Addr} {ccs16 csl16 isl16 : Array (Option Value)} {vs16 : Array Value} {file16 : Str} {tf16 : Tok}
    {nm17 q17 : Str} {N17 : Addr} {bs17 : List Value} {sn17 : List Str} {su17 : List Value} {ab17 : Bool} {co17 : Option Bool} {dd17 : Option Addr} {ka17 kb17 kc17 kd17 ke17 : Option Value} {fI17 cda17 cc17 : Addr} {ccl17 cl17 ic17 iV17 ido17 ip17 it17 : Value} {cdd17 cld17 iod17 ian17 : Option Addr} {ccs17 csl17 isl17 : Array (Option Value)} {vs17 : Array Value} {file17 : Str} {tf17 : Tok}
    {nm18 q18 : Str} {N18 : Addr} {bs18 : List Value} {sn18 : List Str} {su18 : List Value} {ab18 : Bool} {co18 : Option Bool} {dd18 : Option Addr} {ka18 kb18 kc18 kd18 ke18 : Option Value} {fI18 cda18 cc18 : Addr} {ccl18 cl18 ic18 iV18 ido18 ip18 it18 : Value} {cdd18 cld18 iod18 ian18 : Option Addr} {ccs18 csl18 isl18 : Array (Option Value)} {vs18 : Array Value} {file18 : Str} {tf18 : Tok}
    (n0 : nsIn K mainGlobals "InvalidNames" = some (some (.ref c0)))
    (n1 : nsIn K mainGlobals "InvalidFamily" = some (some (.ref c1)))
    (n2 : nsIn K mainGlobals "InvalidLog" = some (some (.ref c2)))
    (n3 : nsIn K mainGlobals "InvalidCase" = some (some (.ref c3)))
    (n4 : nsIn K mainGlobals "InvalidNumber" = some (some (.ref c4)))
    (n5 : nsIn K mainGlobals "InvalidRing" = some (some (.ref c5)))
    (n6 : nsIn K mainGlobals "CountConflict" = some (some (.ref c6)))
    (n7 : nsIn K mainGlobals "Impossible" = some (some (.ref c7)))
    (n8 : nsIn K mainGlobals "NotUndecided" = some (some (.ref c8)))
    (n9 : nsIn K mainGlobals "Contradiction" = some (some (.ref c9)))
    (n10 : nsIn K mainGlobals "NothingSeen" = some (some (.ref c10)))
    (n11 : nsIn K mainGlobals "TooLong" = some (some (.ref c11)))
    (n12 : nsIn K mainGlobals "TooMany" = some (some (.ref c12)))
    (n13 : nsIn K mainGlobals "NotACertificate" = some (some (.ref c13)))
    (n14 : nsIn K mainGlobals "UnknownEvent" = some (some (.ref c14)))
    (n15 : nsIn K mainGlobals "InvalidObserver" = some (some (.ref c15)))
    (n16 : nsIn K mainGlobals "NotSeen" = some (some (.ref c16)))
    (n17 : nsIn K mainGlobals "Full" = some (some (.ref c17)))
    (n18 : nsIn K mainGlobals "InvalidMark" = some (some (.ref c18)))
    (n19 : nsIn K mainGlobals "ViewError" = some (some (.ref c19)))
    (r0 : clsOk K c0 (.ref c19 :: HandSPX.veTail) = true)
    (r1 : clsOk K c1 (.ref c19 :: HandSPX.veTail) = true)
    (r2 : clsOk K c2 (.ref c19 :: HandSPX.veTail) = true)
    (r3 : clsOk K c3 (.ref c19 :: HandSPX.veTail) = true)
    (r4 : clsOk K c4 (.ref c19 :: HandSPX.veTail) = true)
    (r5 : clsOk K c5 (.ref c19 :: HandSPX.veTail) = true)
    (r6 : clsOk K c6 (.ref c19 :: HandSPX.veTail) = true)
    (r7 : clsOk K c7 (.ref c19 :: HandSPX.veTail) = true)
    (r8 : clsOk K c8 (.ref c19 :: HandSPX.veTail) = true)
    (r9 : clsOk K c9 (.ref c19 :: HandSPX.veTail) = true)
    (r10 : clsOk K c10 (.ref c19 :: HandSPX.veTail) = true)
    (r11 : clsOk K c11 (.ref c19 :: HandSPX.veTail) = true)
    (r12 : clsOk K c12 (.ref c19 :: HandSPX.veTail) = true)
    (r13 : clsOk K c13 (.ref c19 :: HandSPX.veTail) = true)
    (r14 : clsOk K c14 (.ref c19 :: HandSPX.veTail) = true)
    (r15 : clsOk K c15 (.ref c19 :: HandSPX.veTail) = true)
    (r16 : clsOk K c16 (.ref c19 :: HandSPX.veTail) = true)
    (r17 : clsOk K c17 (.ref c19 :: HandSPX.veTail) = true)
    (r18 : clsOk K c18 (.ref c19 :: HandSPX.veTail) = true)
    (r19 : clsOk K c19 (HandSPX.veTail) = true)
    (x0 : excIn K c0 HandSPX.veTail "ValueError.__new__" = true)
    (x1 : excIn K c1 HandSPX.veTail "ValueError.__new__" = true)
    (x2 : excIn K c2 HandSPX.veTail "ValueError.__new__" = true)
    (x3 : excIn K c3 HandSPX.veTail "ValueError.__new__" = true)
    (x4 : excIn K c4 HandSPX.veTail "ValueError.__new__" = true)
    (x5 : excIn K c5 HandSPX.veTail "ValueError.__new__" = true)
    (x6 : excIn K c6 HandSPX.veTail "ValueError.__new__" = true)
    (x7 : excIn K c7 HandSPX.veTail "ValueError.__new__" = true)
    (x8 : excIn K c8 HandSPX.veTail "ValueError.__new__" = true)
    (x9 : excIn K c9 HandSPX.veTail "ValueError.__new__" = true)
    (x10 : excIn K c10 HandSPX.veTail "ValueError.__new__" = true)
    (x11 : excIn K c11 HandSPX.veTail "ValueError.__new__" = true)
    (x12 : excIn K c12 HandSPX.veTail "ValueError.__new__" = true)
    (x13 : excIn K c13 HandSPX.veTail "ValueError.__new__" = true)
    (x19 : excIn K c19 HandSPX.veTail "ValueError.__new__" = true)
    (inj : injOk [c0, c1, c2, c3, c4, c5, c6, c7, c8, c9, c10, c11, c12, c13, c14, c15, c16, c17, c18, c19] = true)
    (spG : specialIn K (.builtin "object.__class__") "__get__" = some (some (.builtin "getset_descriptor.__get__")))
    (tkG : takesIn K (.builtin "object.__class__") = some true)
    (z_len : nsIn K mainGlobals "len" = some none)
    (z_list : nsIn K mainGlobals "list" = some none)
    (z_enumerate : nsIn K mainGlobals "enumerate" = some none)
    (z_isinstance : nsIn K mainGlobals "isinstance" = some none)
    (z_range : nsIn K mainGlobals "range" = some none)
    (z_repr : nsIn K mainGlobals "repr" = some none)
    (z_ValueError : nsIn K mainGlobals "ValueError" = some none)
    (z_super : nsIn K mainGlobals "super" = some none)
    (opq : nsIn K cStatics "thirdparty.any" = some none)
    (a0 : nsIn K mainGlobals "_law_spread" = some (some (.ref f0)))
    (l0 : K.lookup f0 = some ⟨oc0, od0, .func (fnOf "_law_spread" "_law_spread" (defArgs sSpread) (defBody sSpread) (defScope sSpread) .none kV0 dc0 pm0 an0 cd0 ct0), sl0⟩)
    (d0 : codeIn K cd0 "_law_spread" = true)
    (k0 : keepIn K (.ref f0) = true)
    (a1 : nsIn K mainGlobals "_law_open" = some (some (.ref f1)))
    (l1 : K.lookup f1 = some ⟨oc1, od1, .func (fnOf "_law_open" "_law_open" (defArgs sOpen) (defBody sOpen) (defScope sOpen) .none kV1 dc1 pm1 an1 cd1 ct1), sl1⟩)
    (d1 : codeIn K cd1 "_law_open" = true)
    (k1 : keepIn K (.ref f1) = true)
    (a2 : nsIn K mainGlobals "_law_anew" = some (some (.ref f2)))
    (l2 : K.lookup f2 = some ⟨oc2, od2, .func (fnOf "_law_anew" "_law_anew" (defArgs sAnew) (defBody sAnew) (defScope sAnew) .none kV2 dc2 pm2 an2 cd2 ct2), sl2⟩)
    (d2 : codeIn K cd2 "_law_anew" = true)
    (k2 : keepIn K (.ref f2) = true)
    (a3 : nsIn K mainGlobals "_law_take" = some (some (.ref f3)))
    (l3 : K.lookup f3 = some ⟨oc3, od3, .func (fnOf "_law_take" "_law_take" (defArgs sTake) (defBody sTake) (defScope sTake) .none kV3 dc3 pm3 an3 cd3 ct3), sl3⟩)
    (d3 : codeIn K cd3 "_law_take" = true)
    (k3 : keepIn K (.ref f3) = true)
    (a4 : nsIn K mainGlobals "_law_one" = some (some (.ref f4)))
    (l4 : K.lookup f4 = some ⟨oc4, od4, .func (fnOf "_law_one" "_law_one" (defArgs sOne) (defBody sOne) (defScope sOne) .none kV4 dc4 pm4 an4 cd4 ct4), sl4⟩)
    (d4 : codeIn K cd4 "_law_one" = true)
    (k4 : keepIn K (.ref f4) = true)
    (a5 : nsIn K mainGlobals "_law_refusal" = some (some (.ref f5)))
    (l5 : K.lookup f5 = some ⟨oc5, od5, .func (fnOf "_law_refusal" "_law_refusal" (defArgs sRef) (defBody sRef) (defScope sRef) .none kV5 dc5 pm5 an5 cd5 ct5), sl5⟩)
    (d5 : codeIn K cd5 "_law_refusal" = true)
    (k5 : keepIn K (.ref f5) = true)
    (a6 : nsIn K mainGlobals "_law_value" = some (some (.ref f6)))
    (l6 : K.lookup f6 = some ⟨oc6, od6, .func (fnOf "_law_value" "_law_value" (defArgs sVal) (defBody sVal) (defScope sVal) .none kV6 dc6 pm6 an6 cd6 ct6), sl6⟩)
    (d6 : codeIn K cd6 "_law_value" = true)
    (k6 : keepIn K (.ref f6) = true)
    (a7 : nsIn K mainGlobals "_law_kept" = some (some (.ref f7)))
    (l7 : K.lookup f7 = some ⟨oc7, od7, .func (fnOf "_law_kept" "_law_kept" (defArgs sKept) (defBody sKept) (defScope sKept) .none kV7 dc7 pm7 an7 cd7 ct7), sl7⟩)
    (d7 : codeIn K cd7 "_law_kept" = true)
    (k7 : keepIn K (.ref f7) = true)
    (a8 : nsIn K mainGlobals "law" = some (some (.ref f8)))
    (l8 : K.lookup f8 = some ⟨oc8, od8, .func (fnOf "law" "law" (defArgs sLaw) (defBody sLaw) (defScope sLaw) .none kV8 dc8 pm8 an8 cd8 ct8), sl8⟩)
    (d8 : codeIn K cd8 "law" = true)
    (k8 : keepIn K (.ref f8) = true)
    (w14 : K.lookup c14 = some (excClassObj nm14 q14 c14 N14 bs14 (.ref c19 :: HandSPX.veTail) true sn14 su14 ab14 co14 dd14 ka14 kb14 kc14 kd14 ke14 "ValueError.__new__"))
    (b14 : initOk K c14 "event" = true)
    (e14 : findIn K (.ref c14) "__init__" = some (some (.ref fI14)))
    (t14 : typeIn K (.ref fI14) = some (.type "function"))
    (u14 : K.lookup fI14 = some ⟨ic14, iod14, .func (ksFn "__init__" "UnknownEvent.__init__" (defArgs sI14) (defBody sI14) (defScope sI14) .none iV14 ido14 ip14 ian14 (.ref cda14) it14 cc14), isl14⟩)
    (g14 : codeIn K (.ref cda14) "UnknownEvent.__init__" = true)
    (h14 : K.lookup cda14 = some ⟨ccl14, cdd14, .fields vs14, ccs14⟩)
    (v14 : vs14[2]? = some (.str file14 tf14))
    (m14 : ((P.main.file : Str) == file14) = true)
    (o14 : K.lookup cc14 = some ⟨cl14, cld14, .cell (some (.ref c14)), csl14⟩)
    (w15 : K.lookup c15 = some (excClassObj nm15 q15 c15 N15 bs15 (.ref c19 :: HandSPX.veTail) true sn15 su15 ab15 co15 dd15 ka15 kb15 kc15 kd15 ke15 "ValueError.__new__"))
    (b15 : initOk K c15 "number" = true)
    (e15 : findIn K (.ref c15) "__init__" = some (some (.ref fI15)))
    (t15 : typeIn K (.ref fI15) = some (.type "function"))
    (u15 : K.lookup fI15 = some ⟨ic15, iod15, .func (ksFn "__init__" "InvalidObserver.__init__" (defArgs sI15) (defBody sI15) (defScope sI15) .none iV15 ido15 ip15 ian15 (.ref cda15) it15 cc15), isl15⟩)
    (g15 : codeIn K (.ref cda15) "InvalidObserver.__init__" = true)
    (h15 : K.lookup cda15 = some ⟨ccl15, cdd15, .fields vs15, ccs15⟩)
    (v15 : vs15[2]? = some (.str file15 tf15))
    (m15 : ((P.main.file : Str) == file15) = true)
    (o15 : K.lookup cc15 = some ⟨cl15, cld15, .cell (some (.ref c15)), csl15⟩)
    (w16 : K.lookup c16 = some (excClassObj nm16 q16 c16 N16 bs16 (.ref c19 :: HandSPX.veTail) true sn16 su16 ab16 co16 dd16 ka16 kb16 kc16 kd16 ke16 "ValueError.__new__"))
    (b16 : initOk K c16 "name" = true)
    (e16 : findIn K (.ref c16) "__init__" = some (some (.ref fI16)))
    (t16 : typeIn K (.ref fI16) = some (.type "function"))
    (u16 : K.lookup fI16 = some ⟨ic16, iod16, .func (ksFn "__init__" "NotSeen.__init__" (defArgs sI16) (defBody sI16) (defScope sI16) .none iV16 ido16 ip16 ian16 (.ref cda16) it16 cc16), isl16⟩)
    (g16 : codeIn K (.ref cda16) "NotSeen.__init__" = true)
    (h16 : K.lookup cda16 = some ⟨ccl16, cdd16, .fields vs16, ccs16⟩)
    (v16 : vs16[2]? = some (.str file16 tf16))
    (m16 : ((P.main.file : Str) == file16) = true)
    (o16 : K.lookup cc16 = some ⟨cl16, cld16, .cell (some (.ref c16)), csl16⟩)
    (w17 : K.lookup c17 = some (excClassObj nm17 q17 c17 N17 bs17 (.ref c19 :: HandSPX.veTail) true sn17 su17 ab17 co17 dd17 ka17 kb17 kc17 kd17 ke17 "ValueError.__new__"))
    (b17 : initOk K c17 "limit" = true)
    (e17 : findIn K (.ref c17) "__init__" = some (some (.ref fI17)))
    (t17 : typeIn K (.ref fI17) = some (.type "function"))
    (u17 : K.lookup fI17 = some ⟨ic17, iod17, .func (ksFn "__init__" "Full.__init__" (defArgs sI17) (defBody sI17) (defScope sI17) .none iV17 ido17 ip17 ian17 (.ref cda17) it17 cc17), isl17⟩)
    (g17 : codeIn K (.ref cda17) "Full.__init__" = true)
    (h17 : K.lookup cda17 = some ⟨ccl17, cdd17, .fields vs17, ccs17⟩)
    (v17 : vs17[2]? = some (.str file17 tf17))
    (m17 : ((P.main.file : Str) == file17) = true)
    (o17 : K.lookup cc17 = some ⟨cl17, cld17, .cell (some (.ref c17)), csl17⟩)
    (w18 : K.lookup c18 = some (excClassObj nm18 q18 c18 N18 bs18 (.ref c19 :: HandSPX.veTail) true sn18 su18 ab18 co18 dd18 ka18 kb18 kc18 kd18 ke18 "ValueError.__new__"))
    (b18 : initOk K c18 "number" = true)
    (e18 : findIn K (.ref c18) "__init__" = some (some (.ref fI18)))
    (t18 : typeIn K (.ref fI18) = some (.type "function"))
    (u18 : K.lookup fI18 = some ⟨ic18, iod18, .func (ksFn "__init__" "InvalidMark.__init__" (defArgs sI18) (defBody sI18) (defScope sI18) .none iV18 ido18 ip18 ian18 (.ref cda18) it18 cc18), isl18⟩)
    (g18 : codeIn K (.ref cda18) "InvalidMark.__init__" = true)
    (h18 : K.lookup cda18 = some ⟨ccl18, cdd18, .fields vs18, ccs18⟩)
    (v18 : vs18[2]? = some (.str file18 tf18))
    (m18 : ((P.main.file : Str) == file18) = true)
    (o18 : K.lookup cc18 = some ⟨cl18, cld18, .cell (some (.ref c18)), csl18⟩)
    (htop : (P.main.scope.names.lookup ("super" : Str)).isSome = false)
    : ∃ fd : FuncData, (∀ (s : Shared) (v : Value), BindsTo s fd ⟨[v], []⟩ [("script", v)]) ∧ ∀ base : Heap, K.In base → base.Ns mainGlobals mg → FnG P w K mg base 6 fa fd ["script"] (spLaw K) := by
  have e := hfa.symm.trans (mg_of X G a8)
  cases e
  let C : Nat → Addr := (fun i => [c0, c1, c2, c3, c4, c5, c6, c7, c8, c9, c10, c11, c12, c13, c14, c15, c16, c17, c18, c19].getD i 0)
  have rows : ∀ i, i < 20 → ClsRow K (C i) (if i = 19 then HandSPX.veTail else .ref (C 19) :: HandSPX.veTail) := fun i hi => by
    match i, hi with
    | 0, _ => exact cls_row r0
    | 1, _ => exact cls_row r1
    | 2, _ => exact cls_row r2
    | 3, _ => exact cls_row r3
    | 4, _ => exact cls_row r4
    | 5, _ => exact cls_row r5
    | 6, _ => exact cls_row r6
    | 7, _ => exact cls_row r7
    | 8, _ => exact cls_row r8
    | 9, _ => exact cls_row r9
    | 10, _ => exact cls_row r10
    | 11, _ => exact cls_row r11
    | 12, _ => exact cls_row r12
    | 13, _ => exact cls_row r13
    | 14, _ => exact cls_row r14
    | 15, _ => exact cls_row r15
    | 16, _ => exact cls_row r16
    | 17, _ => exact cls_row r17
    | 18, _ => exact cls_row r18
    | 19, _ => exact cls_row r19
    | i + 20, hi => exact absurd hi (by omega)
  have mgN : ∀ {x : Str}, nsIn K mainGlobals x = some none → mg x = none := fun z => mg_none_of X G z
  have T : ErrTop K mg C := {
    ek := ⟨spG, tkG⟩
    err := fun i hi => by
      have r := rows i hi
      by_cases h : i = 19
      · rw [if_pos h] at r
        exact r.errC (by decide +kernel) (by decide +kernel)
      · rw [if_neg h] at r
        exact r.errC (by rw [List.contains_cons, show HandSPX.veTail.contains (Value.type "BaseException") = true by decide +kernel, Bool.or_true]) (by rw [List.contains_cons, show HandSPX.veTail.contains (Value.type "object") = true by decide +kernel, Bool.or_true])
    kit := fun i j hi hj => by
      have r := (rows i hi).kit (rows j (by omega))
      have ej : (C j == C i) = (j == i) := inj_of inj (by omega) hi
      have e19 : (C j == C 19) = false := (inj_of inj (by omega) (by decide)).trans (beq_eq_false_iff_ne.mpr (by omega))
      rw [r]
      by_cases h : i = 19
      · rw [if_pos h, List.contains_cons, vals_beq, ej, tail_ref, Bool.or_false]
        congr 1
        rw [Bool.eq_iff_iff, beq_iff_eq, decide_eq_true_eq]
        exact eq_comm
      · rw [if_neg h, List.contains_cons, List.contains_cons, vals_beq, vals_beq, ej, e19, tail_ref, Bool.or_false, Bool.or_false]
        congr 1
        rw [Bool.eq_iff_iff, beq_iff_eq, decide_eq_true_eq]
        exact eq_comm
    kitV := fun i hi => by
      have r := (rows i hi).kit (rows 19 (by decide))
      rw [r]
      by_cases h : i = 19
      · rw [if_pos h, List.contains_cons, h, beq_self_eq_true, Bool.true_or]
      · rw [if_neg h, List.contains_cons, List.contains_cons, beq_self_eq_true, Bool.true_or, Bool.or_true]
    kitT := fun i hi => by
      have r := rows i hi
      refine r.kitT ?_ (by decide +kernel)
      by_cases h : i = 19
      · rw [if_pos h]
        decide +kernel
      · rw [if_neg h, List.contains_cons, show HandSPX.veTail.contains (Value.type "ValueError") = true by decide +kernel, Bool.or_true]
    mi := mgN z_isinstance
    mV := mgN z_ValueError
    g0 := mg_of X G n0
    g1 := mg_of X G n1
    g2 := mg_of X G n2
    g3 := mg_of X G n3
    g4 := mg_of X G n4
    g5 := mg_of X G n5
    g6 := mg_of X G n6
    g7 := mg_of X G n7
    g8 := mg_of X G n8
    g9 := mg_of X G n9
    g10 := mg_of X G n10
    g11 := mg_of X G n11
    g12 := mg_of X G n12
    g13 := mg_of X G n13
    g14 := mg_of X G n14
    g15 := mg_of X G n15
    g16 := mg_of X G n16
    g17 := mg_of X G n17
    g18 := mg_of X G n18
    g19 := mg_of X G n19
  }
  have I14 : InitTxt P K mg (C 14) fI14 "event" := by
    obtain ⟨txt, j, p1, p2, q1, q2, q3, q4, q5, q6, s1, s2, s3, s4, ea, eb, es, hev⟩ := txt14
    exact init_mk (cls_row r14) b14 w14 e14 t14 opq (mgN z_super) htop u14 g14 h14 v14 m14 o14
      ⟨"event", txt, j, p1, p2, q1, q2, q3, q4, q5, q6, s1, s2, s3, s4, ea, eb, es, hev, by decide +kernel, by decide +kernel, fun s x v => .of_eq rfl, rfl, rfl, rfl⟩
  have I15 : InitTxt P K mg (C 15) fI15 "number" := by
    obtain ⟨txt, j, p1, p2, q1, q2, q3, q4, q5, q6, s1, s2, s3, s4, ea, eb, es, hev⟩ := txt15
    exact init_mk (cls_row r15) b15 w15 e15 t15 opq (mgN z_super) htop u15 g15 h15 v15 m15 o15
      ⟨"number", txt, j, p1, p2, q1, q2, q3, q4, q5, q6, s1, s2, s3, s4, ea, eb, es, hev, by decide +kernel, by decide +kernel, fun s x v => .of_eq rfl, rfl, rfl, rfl⟩
  have I16 : InitTxt P K mg (C 16) fI16 "name" := by
    obtain ⟨txt, j, p1, p2, q1, q2, q3, q4, q5, q6, s1, s2, s3, s4, ea, eb, es, hev⟩ := txt16
    exact init_mk (cls_row r16) b16 w16 e16 t16 opq (mgN z_super) htop u16 g16 h16 v16 m16 o16
      ⟨"name", txt, j, p1, p2, q1, q2, q3, q4, q5, q6, s1, s2, s3, s4, ea, eb, es, hev, by decide +kernel, by decide +kernel, fun s x v => .of_eq rfl, rfl, rfl, rfl⟩
  have I17 : InitTxt P K mg (C 17) fI17 "limit" := by
    obtain ⟨txt, j, p1, p2, q1, q2, q3, q4, q5, q6, s1, s2, s3, s4, ea, eb, es, hev⟩ := txt17
    exact init_mk (cls_row r17) b17 w17 e17 t17 opq (mgN z_super) htop u17 g17 h17 v17 m17 o17
      ⟨"limit", txt, j, p1, p2, q1, q2, q3, q4, q5, q6, s1, s2, s3, s4, ea, eb, es, hev, by decide +kernel, by decide +kernel, fun s x v => .of_eq rfl, rfl, rfl, rfl⟩
  have I18 : InitTxt P K mg (C 18) fI18 "number" := by
    obtain ⟨txt, j, p1, p2, q1, q2, q3, q4, q5, q6, s1, s2, s3, s4, ea, eb, es, hev⟩ := txt18
    exact init_mk (cls_row r18) b18 w18 e18 t18 opq (mgN z_super) htop u18 g18 h18 v18 m18 o18
      ⟨"number", txt, j, p1, p2, q1, q2, q3, q4, q5, q6, s1, s2, s3, s4, ea, eb, es, hev, by decide +kernel, by decide +kernel, fun s x v => .of_eq rfl, rfl, rfl, rfl⟩
  have U : KeepTop P K mg C := ⟨⟨_, I14⟩, ⟨_, I15⟩, ⟨_, I16⟩, ⟨_, I17⟩, ⟨_, I18⟩, mgN z_range, mgN z_repr⟩
  have M : MadeTop K C := {
    ex := fun i hi => by
      match i, hi with
      | 0, _ => exact x0
      | 1, _ => exact x1
      | 2, _ => exact x2
      | 3, _ => exact x3
      | 4, _ => exact x4
      | 5, _ => exact x5
      | 6, _ => exact x6
      | 7, _ => exact x7
      | 8, _ => exact x8
      | 9, _ => exact x9
      | 10, _ => exact x10
      | 11, _ => exact x11
      | 12, _ => exact x12
      | 13, _ => exact x13
      | 19, _ => exact x19
      | 14, hi => exact absurd hi (by decide)
      | 15, hi => exact absurd hi (by decide)
      | 16, hi => exact absurd hi (by decide)
      | 17, hi => exact absurd hi (by decide)
      | 18, hi => exact absurd hi (by decide)
      | i + 20, hi => exact absurd hi (by omega)
    kp := fun i hi => by
      have h : i < 20 := by omega
      exact (rows i h).kp }
  have F0 := fun_mk (st := sSpread) l0 d0 k0
  have F1 := fun_mk (st := sOpen) l1 d1 k1
  have F2 := fun_mk (st := sAnew) l2 d2 k2
  have F3 := fun_mk (st := sTake) l3 d3 k3
  have F4 := fun_mk (st := sOne) l4 d4 k4
  have F5 := fun_mk (st := sRef) l5 d5 k5
  have F6 := fun_mk (st := sVal) l6 d6 k6
  have F7 := fun_mk (st := sKept) l7 d7 k7
  have F8 := fun_mk (st := sLaw) l8 d8 k8
  have B0 := F0.binds (ps := ["cell", "at"]) fun _ _ _ _ _ _ us hl => match us, hl with | [_, _], _ => rfl
  have B1 := F1.binds (ps := ["script"]) fun _ _ _ _ _ _ us hl => match us, hl with | [_], _ => rfl
  have B2 := F2.binds (ps := ["pen"]) fun _ _ _ _ _ _ us hl => match us, hl with | [_], _ => rfl
  have B3 := F3.binds (ps := ["pen", "many"]) fun _ _ _ _ _ _ us hl => match us, hl with | [_, _], _ => rfl
  have B4 := F4.binds (ps := ["pen", "some"]) fun _ _ _ _ _ _ us hl => match us, hl with | [_, _], _ => rfl
  have B5 := F5.binds (ps := ["caught"]) fun _ _ _ _ _ _ us hl => match us, hl with | [_], _ => rfl
  have B6 := F6.binds (ps := ["pen"]) fun _ _ _ _ _ _ us hl => match us, hl with | [_], _ => rfl
  have B7 := F7.binds (ps := ["pen"]) fun _ _ _ _ _ _ us hl => match us, hl with | [_], _ => rfl
  refine ⟨fnOf "law" "law" (defArgs sLaw) (defBody sLaw) (defScope sLaw) .none kV8 dc8 pm8 an8 cd8 ct8, fun s v => .of_eq rfl, fun base _ _ => ?_⟩
  have GO : FnOk P w K mg base CX0 1 f1 _ ["script"] (spOpen K) := ok_open F1 (mgN z_list) (mgN z_enumerate)
  have GA : FnOk P w K mg base CX0 1 f2 _ ["pen"] spAnew := ok_anew F2
  have GT : FnOk P w K mg base CX0 2 f3 _ ["pen", "many"] spTake := ok_take F3 F0 B0 (mg_of X G a0) (mgN z_len)
  have G1 : FnOk P w K mg base CX0 3 f4 _ ["pen", "some"] (spOne K) := ok_one F4 GT k3 B3 (mg_of X G a3) (mgN z_len)
  have GR : FnOk P w K mg base CX0 4 f5 _ ["caught"] (spRef C) := ok_ref F5 T
  have GV : FnOk P w K mg base CX0 4 f6 _ ["pen"] (spVal K) := ok_val F6 G1 k4 B4 (mg_of X G a4)
  have GK : FnG P w K mg base 5 f7 _ ["pen"] spKept := ok_kept F7 T U GV k6 B6 (mg_of X G a6) GR k5 B5 (mg_of X G a5)
  exact ok_law F8 T U M GO k1 B1 (mg_of X G a1) GA k2 B2 (mg_of X G a2) G1 k4 B4 (mg_of X G a4) GR k5 B5 (mg_of X G a5) GK k7 B7 (mg_of X G a7)
end PvK
open PySem PySem.W PyProof.Rows
set_option maxRecDepth 100000 in
set_option maxHeartbeats 0 in
theorem PySem.Challenge.cw_partviews_k05_errors_by_hand_holds : PySem.Challenge.rw_partviews_k05_errors_by_hand.Holds := by
  w_on; o_law; k_head; (case hw => w_witness2)
  k_fill
  refine PvK.walkG (l := PySem.Challenge.rw_partviews_k05_errors_by_hand) (n := 63) (k := 6) (x := "script") (sp := PvK.spLaw) rfl (by decide) rfl ⟨rfl, by decide, by decide⟩ (fun w h Y => PySem.W.kIn_of Y) ?F (fun _ _ a ns hl hS => ⟨a, ns, rfl, hS, hl, fun _ => rfl⟩)
  case F =>
    intro w mg fa h KX G hmg
    refine' PvK.all_mk KX G hmg ?n0 ?n1 ?n2 ?n3 ?n4 ?n5 ?n6 ?n7 ?n8 ?n9 ?n10 ?n11 ?n12 ?n13 ?n14 ?n15 ?n16 ?n17 ?n18 ?n19 ?r0 ?r1 ?r2 ?r3 ?r4 ?r5 ?r6 ?r7 ?r8 ?r9 ?r10 ?r11 ?r12 ?r13 ?r14 ?r15 ?r16 ?r17 ?r18 ?r19 ?x0 ?x1 ?x2 ?x3 ?x4 ?x5 ?x6 ?x7 ?x8 ?x9 ?x10 ?x11 ?x12 ?x13 ?x19 ?inj ?spG ?tkG ?z_len ?z_list ?z_enumerate ?z_isinstance ?z_range ?z_repr ?z_ValueError ?z_super ?opq ?a0 ?l0 ?d0 ?k0 ?a1 ?l1 ?d1 ?k1 ?a2 ?l2 ?d2 ?k2 ?a3 ?l3 ?d3 ?k3 ?a4 ?l4 ?d4 ?k4 ?a5 ?l5 ?d5 ?k5 ?a6 ?l6 ?d6 ?k6 ?a7 ?l7 ?d7 ?k7 ?a8 ?l8 ?d8 ?k8 ?w14 ?b14 ?e14 ?t14 ?u14 ?g14 ?h14 ?v14 ?m14 ?o14 ?w15 ?b15 ?e15 ?t15 ?u15 ?g15 ?h15 ?v15 ?m15 ?o15 ?w16 ?b16 ?e16 ?t16 ?u16 ?g16 ?h16 ?v16 ?m16 ?o16 ?w17 ?b17 ?e17 ?t17 ?u17 ?g17 ?h17 ?v17 ?m17 ?o17 ?w18 ?b18 ?e18 ?t18 ?u18 ?g18 ?h18 ?v18 ?m18 ?o18 ?htop
    (case n0 => k_is)
    (case n1 => k_is)
    (case n2 => k_is)
    (case n3 => k_is)
    (case n4 => k_is)
    (case n5 => k_is)
    (case n6 => k_is)
    (case n7 => k_is)
    (case n8 => k_is)
    (case n9 => k_is)
    (case n10 => k_is)
    (case n11 => k_is)
    (case n12 => k_is)
    (case n13 => k_is)
    (case n14 => k_is)
    (case n15 => k_is)
    (case n16 => k_is)
    (case n17 => k_is)
    (case n18 => k_is)
    (case n19 => k_is)
    (case r0 => kernel_rfl)
    (case r1 => kernel_rfl)
    (case r2 => kernel_rfl)
    (case r3 => kernel_rfl)
    (case r4 => kernel_rfl)
    (case r5 => kernel_rfl)
    (case r6 => kernel_rfl)
    (case r7 => kernel_rfl)
    (case r8 => kernel_rfl)
    (case r9 => kernel_rfl)
    (case r10 => kernel_rfl)
    (case r11 => kernel_rfl)
    (case r12 => kernel_rfl)
    (case r13 => kernel_rfl)
    (case r14 => kernel_rfl)
    (case r15 => kernel_rfl)
    (case r16 => kernel_rfl)
    (case r17 => kernel_rfl)
    (case r18 => kernel_rfl)
    (case r19 => kernel_rfl)
    (case x0 => k_exc)
    (case x1 => k_exc)
    (case x2 => k_exc)
    (case x3 => k_exc)
    (case x4 => k_exc)
    (case x5 => k_exc)
    (case x6 => k_exc)
    (case x7 => k_exc)
    (case x8 => k_exc)
    (case x9 => k_exc)
    (case x10 => k_exc)
    (case x11 => k_exc)
    (case x12 => k_exc)
    (case x13 => k_exc)
    (case x19 => k_exc)
    (case inj => decide +kernel)
    (case spG => k_is)
    (case tkG => k_is)
    (case z_len => k_is)
    (case z_list => k_is)
    (case z_enumerate => k_is)
    (case z_isinstance => k_is)
    (case z_range => k_is)
    (case z_repr => k_is)
    (case z_ValueError => k_is)
    (case z_super => k_is)
    (case opq => k_is)
    (case a0 => k_is)
    (case l0 => k_is)
    (case d0 => k_is)
    (case k0 => k_is)
    (case a1 => k_is)
    (case l1 => k_is)
    (case d1 => k_is)
    (case k1 => k_is)
    (case a2 => k_is)
    (case l2 => k_is)
    (case d2 => k_is)
    (case k2 => k_is)
    (case a3 => k_is)
    (case l3 => k_is)
    (case d3 => k_is)
    (case k3 => k_is)
    (case a4 => k_is)
    (case l4 => k_is)
    (case d4 => k_is)
    (case k4 => k_is)
    (case a5 => k_is)
    (case l5 => k_is)
    (case d5 => k_is)
    (case k5 => k_is)
    (case a6 => k_is)
    (case l6 => k_is)
    (case d6 => k_is)
    (case k6 => k_is)
    (case a7 => k_is)
    (case l7 => k_is)
    (case d7 => k_is)
    (case k7 => k_is)
    (case a8 => k_is)
    (case l8 => k_is)
    (case d8 => k_is)
    (case k8 => k_is)
    (case w14 => k_is)
    (case b14 => kernel_rfl)
    (case e14 => k_is)
    (case t14 => k_is)
    (case u14 => k_is)
    (case g14 => k_is)
    (case h14 => k_is)
    (case v14 => rfl)
    (case m14 => decide +kernel)
    (case o14 => k_is)
    (case w15 => k_is)
    (case b15 => kernel_rfl)
    (case e15 => k_is)
    (case t15 => k_is)
    (case u15 => k_is)
    (case g15 => k_is)
    (case h15 => k_is)
    (case v15 => rfl)
    (case m15 => decide +kernel)
    (case o15 => k_is)
    (case w16 => k_is)
    (case b16 => kernel_rfl)
    (case e16 => k_is)
    (case t16 => k_is)
    (case u16 => k_is)
    (case g16 => k_is)
    (case h16 => k_is)
    (case v16 => rfl)
    (case m16 => decide +kernel)
    (case o16 => k_is)
    (case w17 => k_is)
    (case b17 => kernel_rfl)
    (case e17 => k_is)
    (case t17 => k_is)
    (case u17 => k_is)
    (case g17 => k_is)
    (case h17 => k_is)
    (case v17 => rfl)
    (case m17 => decide +kernel)
    (case o17 => k_is)
    (case w18 => k_is)
    (case b18 => kernel_rfl)
    (case e18 => k_is)
    (case t18 => k_is)
    (case u18 => k_is)
    (case g18 => k_is)
    (case h18 => k_is)
    (case v18 => rfl)
    (case m18 => decide +kernel)
    (case o18 => k_is)
    (case htop => decide +kernel)
