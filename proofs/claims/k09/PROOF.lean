import PyProof.Rows.All
import Wide.All
import OpenK.AllK
import Wide.FinOn
import HandS.ForMost
import HandS.StrMore
import HandS.SortRule
import HandS.TupLe
import HandS.Conv
import KE.DataFind
import HandS.TryMany
import HandS.Lambda
import HandS.EndTab
import HandS.IsInst
import HandS.Wide
import HandS.WideMore
import HandS.ExcField
import HandS.ExcIs
import HandS.Style
import HandS.WordsExc
import HandS.Deep
import HandS.SetFor
import HandS.Flow
import PyProof.ReprRoads
import KE.KExcSuper
import KE.KNestM
import PySem.Challenge.RW_prefixtable_k09_joins_and_meets
import KE.KRevSl
import PyProof.NeData
import PyProof.ReprBulk
import PyProof.Rows.ReprOcc
import HandS.Walk
import HandS.TupAny
import HandS.TupSets
import HandS.SetKeys
import HandS.DictTup
import KE.KIndexOf
import HandS.TupLen
import HandS.Star
import HandS.Zip
set_option Elab.async false
set_option maxRecDepth 100000
set_option maxHeartbeats 4000000
set_option exponentiation.threshold 3000
/-! Streams made: the text by places, and rules of my own. -/
namespace Vf
open PySem L2
def top (i : Nat) : Stmt := PySem.Challenge.pw_prefixtable_k09_joins_and_meets.main.body.getD i (.Pass ⟨0, 0, 0, 0⟩)
abbrev sIsInt : Stmt := top 7
abbrev sWithin : Stmt := top 8
abbrev sReqNum : Stmt := top 9
abbrev sReqBase : Stmt := top 15
abbrev sWordForm : Stmt := top 16
abbrev sPfxForm : Stmt := top 17
abbrev sStreamForm : Stmt := top 23
abbrev sReqStream : Stmt := top 24
abbrev sShortest : Stmt := top 25
abbrev sLead : Stmt := top 26
abbrev sIsUnder : Stmt := top 27
abbrev sDice : Stmt := top 44
abbrev sPull : Stmt := top 45
abbrev sWord : Stmt := top 46
abbrev sLNormal : Stmt := top 47
abbrev sLStream : Stmt := top 48
abbrev sLBeg : Stmt := top 49
abbrev sLUnder : Stmt := top 50
abbrev sLBase : Stmt := top 55
abbrev sLaw : Stmt := top 61
abbrev sStartB : Stmt := top 30
abbrev sCovers : Stmt := top 31
abbrev sCodeForm : Stmt := top 32
abbrev sIsAbove : Stmt := top 51
abbrev sLonger : Stmt := top 52
abbrev sChildren : Stmt := top 53
abbrev sLCode : Stmt := top 54
abbrev sReqCode : Stmt := top 33
abbrev sCodeRoots : Stmt := top 35
abbrev sLInner : Stmt := top 56
abbrev sByInner : Stmt := top 57
abbrev sPIsAbove : Stmt := top 19
abbrev sLowest : Stmt := top 20
abbrev sHighest : Stmt := top 21
abbrev sReqCodes : Stmt := top 34
abbrev sJoined : Stmt := top 36
abbrev sJoinedAll : Stmt := top 37
abbrev sMet : Stmt := top 38
abbrev sMetAll : Stmt := top 39
abbrev sRefines : Stmt := top 40
abbrev sIsFiner : Stmt := top 41
abbrev sPrefixIn : Stmt := top 42
abbrev sLRefines : Stmt := top 58
abbrev sCodesRight : Stmt := top 59
abbrev sStreamsRight : Stmt := top 60
abbrev sCIN : Stmt := top 4
/-! ### the dice: three ints in a list -/
structure DieV (d0 d1 d2 : Int) : Prop where
  p0 : 0 ≤ d0
  w0 : d0.natAbs < 2 ^ 2300
  p1 : 0 ≤ d1
  p2 : 0 ≤ d2
def dieL (d : Int × Int × Int) : List V := [.int d.1, .int d.2.1, .int d.2.2]
def DieOk (d : Int × Int × Int) : Prop := DieV d.1 d.2.1 d.2.2
/-- everything but a is as before -/
def Kp (a : Addr) (H H' : Hp) : Prop := ∀ b o, b ≠ a → H b = some o → H' b = some o
theorem Kp.refl (a : Addr) (H : Hp) : Kp a H H := fun _ _ _ h => h
theorem Kp.trans {a : Addr} {H H1 H2 : Hp} (x : Kp a H H1) (y : Kp a H1 H2) : Kp a H H2 := fun b o n h => y b o n (x b o n h)
theorem Kp.upd {a : Addr} {H : Hp} {o : HO} : Kp a H (upd H a o) := fun b u n h => by rw [upd_ne n]; exact h
theorem Kp.new {a p : Addr} {H : Hp} {o : HO} (h : H p = none) : Kp a H (L2.upd H p o) := fun b u _ e => by rw [upd_ne (ne_of_none e h)]; exact e
theorem Kp.same {a : Addr} {H H' : Hp} (e : Same H H') : Kp a H H' := fun b o _ h => e b o h
/-- _law_pull: a draw below many -/
def spPull : Sp := fun vs H Q _ => ∃ (a : Addr) (d : Int × Int × Int) (many : Int), vs = [.ref a, .int many] ∧ H a = some (.lst (dieL d)) ∧ DieOk d ∧ 1 ≤ many ∧ many ≤ 5000 ∧
  d.2.2 ≤ 1000000000 ∧ ∀ (r : Int) (d' : Int × Int × Int), DieOk d' → d'.2.2 ≤ d.2.2 + 1 → 0 ≤ r → r < many → Q (.int r) (upd H a (.lst (dieL d')))
theorem pull_bound (d1 d2 : Int) (p1 : 0 ≤ d1) (p2 : 0 ≤ d2) (hc : d2 ≤ 1000000000) :
    0 ≤ (d1 + 3266489917 * (d2 + 1)) % 36028797018963913 ∧ (d1 + 3266489917 * (d2 + 1)) % 36028797018963913 < 36028797018963913 ∧
    0 ≤ (d1 + 3266489917 * (d2 + 1)) % 36028797018963913 * ((d1 + 3266489917 * (d2 + 1)) % 36028797018963913) % 18014398509481951 ∧
    (d1 + 3266489917 * (d2 + 1)) % 36028797018963913 * ((d1 + 3266489917 * (d2 + 1)) % 36028797018963913) % 18014398509481951 < 18014398509481951 ∧
    ((d1 + 3266489917 * (d2 + 1)) % 36028797018963913 * ((d1 + 3266489917 * (d2 + 1)) % 36028797018963913) % 18014398509481951 * ((d1 + 3266489917 * (d2 + 1)) % 36028797018963913) + 668265263 * (d2 + 1) + d1 % 65521).natAbs < 2 ^ 120 := by
  generalize (d1 + 3266489917 * (d2 + 1)) % 36028797018963913 = one, Int.emod_nonneg (d1 + 3266489917 * (d2 + 1)) (show (36028797018963913 : Int) ≠ 0 by decide) = o0, Int.emod_lt_of_pos (d1 + 3266489917 * (d2 + 1)) (show (0 : Int) < 36028797018963913 by decide) = o1
  have t0 : 0 ≤ one * one % 18014398509481951 := Int.emod_nonneg _ (by decide)
  have t1 : one * one % 18014398509481951 < 18014398509481951 := Int.emod_lt_of_pos _ (by decide)
  generalize one * one % 18014398509481951 = two at t0 t1
  refine ⟨o0, o1, t0, t1, ?_⟩
  have b1 : (two * one).natAbs < 2 ^ 110 := wide_lt (a := 55) (b := 55) (by omega) (by omega)
  have b1' : 0 ≤ two * one := Int.mul_nonneg t0 o0
  generalize two * one = three at b1 b1'
  have m0 : 0 ≤ d1 % 65521 := Int.emod_nonneg _ (by decide)
  have m1 : d1 % 65521 < 65521 := Int.emod_lt_of_pos _ (by decide)
  have e : (2 : Nat) ^ 110 = 1298074214633706907132624082305024 := by decide
  have e' : (2 : Nat) ^ 120 = 1329227995784915872903807060280344576 := by decide
  omega
section
variable {P : Program} {w : World} {K : PySem.W.Frag} {mg : Str → Option Value} {base : Heap}
theorem scPull : FnScope ["die", "many", "found", "one", "two"] ["die", "many"] (defScope sPull) := ⟨rfl, rfl, rfl, by decide +kernel, rfl, by decide +kernel, by decide +kernel⟩
theorem ok_pull {f : Addr} {fd : FuncData} (F : Fun K "_law_pull" "_law_pull" sPull f fd) : FnOk P w K mg base CX0 1 f fd ["die", "many"] spPull := by
  refine F.ok scPull (fun vs H Q E h => ?_) (fun cdv A outer s H vs Q E hr h => ?_)
  · obtain ⟨a, d, many, rfl, _⟩ := h
    rfl
  · obtain ⟨a, ⟨d0, d1, d2⟩, many, rfl, ha, hd, h1, h2, hc, k⟩ := h
    have hc : d2 ≤ 1000000000 := hc
    have nd := scPull.nd
    refine ⟨_, pss_cons (ps_if (pt_cmpR op_gt (pe_ix ix_list (pv 0) pe_int (fun _ _ => rfl)) pe_int (nomark _))
        (pss_cons (ps_set (i := 2) nd rfl (Or.inl rfl) (pe_op op_mod (pe_ix ix_list (pv 0) pe_int (fun _ _ => rfl)) (pv 1)))
        (pss_cons (ps_asg (pe_op op_fdivW (pe_ix ix_list (pv 0) pe_int (fun _ _ => rfl)) (pv 1)) (pg_sub (pv 0) pe_int set_list))
        (pss_one (ps_ret (pv 2))))) pss_nil)
      (pss_cons (ps_asg (pe_op op_add (pe_ix ix_list (pv 0) pe_int (fun _ _ => rfl)) pe_int) (pg_sub (pv 0) pe_int set_list))
      (pss_cons (ps_set (i := 3) nd rfl (Or.inl rfl) (pe_op op_mod (pe_op op_add (pe_ix ix_list (pv 0) pe_int (fun _ _ => rfl)) (pe_op op_mul pe_int (pe_ix ix_list (pv 0) pe_int (fun _ _ => rfl)))) pe_int))
      (pss_cons (ps_set (i := 4) nd rfl (Or.inl rfl) (pe_op op_mul (pe_op op_mod (pe_op op_mul (pv 3) (pv 3)) pe_int) (pv 3)))
      (pss_cons (ps_set (i := 4) nd rfl (Or.inl rfl) (pe_op op_add (pe_op op_add (pv 4) (pe_op op_mul pe_int (pe_ix ix_list (pv 0) pe_int (fun _ _ => rfl)))) (pe_op op_mod (pe_ix ix_list (pv 0) pe_int (fun _ _ => rfl)) pe_int)))
      (pss_one (ps_ret (pe_op op_mod (pe_op op_fdiv (pe_op op_mod (pe_op op_mulW (pv 4) (pv 4)) pe_int) pe_int) (pv 1)))))))), ?_⟩
    obtain ⟨hp0, hw0, hp1, hp2⟩ := id hd
    have hp0 : 0 ≤ d0 := hp0
    have hp1 : 0 ≤ d1 := hp1
    have hp2 : 0 ≤ d2 := hp2
    have hw0 : d0.natAbs < 2 ^ 2300 := hw0
    have ix0 : atI (dieL (d0, d1, d2)) 0 = some (.int d0) := rfl
    have ix1 : atI (dieL (d0, d1, d2)) 1 = some (.int d1) := rfl
    have ix2 : atI (dieL (d0, d1, d2)) 2 = some (.int d2) := rfl
    refine ⟨_, rfl, a, _, _, _, rfl, rfl, SqL.of ha, ix0, _, _, rfl, rfl, _, rfl, ?_⟩
    refine ite2 (fun c => ?_) (fun c => ?_)
    · refine ⟨_, rfl, a, _, _, _, rfl, rfl, SqL.of ha, ix0, _, rfl, _, _, rfl, rfl, (by show (0 : Int) < many; omega), ?_⟩
      refine ⟨_, rfl, a, _, _, _, rfl, rfl, SqL.of ha, ix0, _, rfl, _, _, rfl, rfl, (wide_div (b := 13) (by omega) (by omega) (by omega) (by omega)), ?_⟩
      refine ⟨_, rfl, a, _, _, _, rfl, rfl, ha, rfl, ?_⟩
      refine ⟨_, rfl, ?_⟩
      have q := k (d0 % many) (d0 / many, d1, d2) ⟨Int.ediv_nonneg hp0 (by omega), ?_, hp1, hp2⟩ (by show d2 ≤ d2 + 1; omega) (Int.emod_nonneg _ (by omega)) (Int.emod_lt_of_pos _ (by omega))
      · exact q
      · show (d0 / many).natAbs < 2 ^ 2300
        refine wide_le (j := d0) (Int.ediv_nonneg hp0 (by omega)) (Int.ediv_le_self _ hp0) hw0
    · have hb : upd H a (.lst (dieL (d0, d1, d2 + 1))) a = some (.lst (dieL (d0, d1, d2 + 1))) := upd_same
      have jx0 : atI (dieL (d0, d1, d2 + 1)) 0 = some (.int d0) := rfl
      have jx1 : atI (dieL (d0, d1, d2 + 1)) 1 = some (.int d1) := rfl
      have jx2 : atI (dieL (d0, d1, d2 + 1)) 2 = some (.int (d2 + 1)) := rfl
      refine ⟨_, rfl, a, _, _, _, rfl, rfl, SqL.of ha, ix2, _, _, rfl, rfl, ?_⟩
      refine ⟨_, rfl, a, _, _, _, rfl, rfl, ha, rfl, ?_⟩
      have pos1 : (0 : Int) < 36028797018963913 := by decide
      have pos2 : (0 : Int) < 18014398509481951 := by decide
      have pos3 : (0 : Int) < 65521 := by decide
      have pos4 : (0 : Int) < 1125899906842597 := by decide
      refine ⟨_, rfl, a, _, _, _, rfl, rfl, SqL.of hb, jx1, _, rfl, a, _, _, _, rfl, rfl, SqL.of hb, jx2, _, _, rfl, rfl, .inl ⟨by decide, by decide⟩, _, _, rfl, rfl, _, _, rfl, rfl, pos1, ?_⟩
      -- one * one % .. * one
      obtain ⟨o0, o1, t0, t1, b2⟩ := pull_bound d1 d2 hp1 hp2 hc
      have one63 : (d1 + 3266489917 * (d2 + 1)) % 36028797018963913 < 2 ^ 64 := Int.lt_trans o1 (by decide)
      have one63' : -(2 ^ 64) < (d1 + 3266489917 * (d2 + 1)) % 36028797018963913 := Int.lt_of_lt_of_le (by decide) o0
      refine ⟨_, rfl, _, rfl, _, _, rfl, rfl, .inl ⟨one63', one63⟩, _, _, rfl, rfl, pos2, _, rfl, _, _, rfl, rfl, .inr ⟨one63', one63⟩, ?_⟩
      refine ⟨_, rfl, _, rfl, a, _, _, _, rfl, rfl, SqL.of hb, jx2, _, _, rfl, rfl, .inl ⟨by decide, by decide⟩, _, _, rfl, rfl, _, rfl, a, _, _, _, rfl, rfl, SqL.of hb, jx1, _, _, rfl, rfl, pos3, _, _, rfl, rfl, ?_⟩
      refine ⟨_, rfl, _, rfl, _, _, rfl, rfl, wide_mul (a := 120) (b := 120) b2 b2 (by decide) (by decide) (by decide), _, _, rfl, rfl, pos4, _, _, rfl, rfl, ⟨by decide, by decide⟩, _, rfl, _, _, rfl, rfl, (by show (0 : Int) < many; omega), ?_⟩
      exact k _ (d0, d1, d2 + 1) ⟨hp0, hw0, hp1, by show (0 : Int) ≤ d2 + 1; have : (0 : Int) ≤ d2 := hp2; omega⟩ (by show d2 + 1 ≤ d2 + 1; omega) (Int.emod_nonneg _ (by omega)) (Int.emod_lt_of_pos _ (by omega))
end
end Vf


set_option Elab.async false
set_option maxRecDepth 100000
set_option maxHeartbeats 4000000
set_option exponentiation.threshold 3000
namespace Vf
open PySem L2 SX
/-! ### digits as code points -/
/-- a word of the base -/
def IsW (b : Int) (l : List Nat) : Prop := ∀ c ∈ l, 48 ≤ c ∧ (c : Int) < 48 + b
theorem IsW.nil (b : Int) : IsW b [] := fun _ h => by cases h
theorem IsW.app {b : Int} {l m : List Nat} (h1 : IsW b l) (h2 : IsW b m) : IsW b (l ++ m) := fun c h => by
  rcases List.mem_append.mp h with h | h
  · exact h1 c h
  · exact h2 c h
theorem IsW.of {b : Int} {l m : List Nat} (h1 : IsW b l) (h : ∀ c ∈ m, c ∈ l) : IsW b m := fun c hc => h1 c (h c hc)
theorem str_empty : ("" : Str) = S [] := by decide +kernel
theorem s01234 : ("01234" : Str) = S [48, 49, 50, 51, 52] := by decide +kernel
/-- a def of the module as it is called -/
structure Cal (K : PySem.W.Frag) (mg : Str → Option Value) (x : Str) (f : Addr) (fd : FuncData) (ps : List Str) : Prop where
  mg : mg x = some (.ref f)
  kp : PySem.W.keepIn K (.ref f) = true
  b : Binds K fd ps []
def spBase : Sp := fun vs H Q _ => ∃ (a : Addr) (d : Int × Int × Int), vs = [.ref a] ∧ H a = some (.lst (dieL d)) ∧ DieOk d ∧ d.2.2 ≤ 1000000000 ∧
  ∀ (b : Int) (d' : Int × Int × Int) (H' : Hp), DieOk d' → d'.2.2 ≤ d.2.2 + 1 → 2 ≤ b → b ≤ 5 → Kp a H H' → H' a = some (.lst (dieL d')) → Q (.int b) H'
def spWord : Sp := fun vs H Q _ => ∃ (a : Addr) (d : Int × Int × Int) (base high : Int), vs = [.ref a, .int base, .int high] ∧ H a = some (.lst (dieL d)) ∧ DieOk d ∧ d.2.2 ≤ 999000000 ∧ 2 ≤ base ∧ base ≤ 5 ∧ 0 ≤ high ∧ high ≤ 100 ∧
  ∀ (l : List Nat) (d' : Int × Int × Int), DieOk d' → d'.2.2 ≤ d.2.2 + 1 + high → IsW base l → (l.length : Int) ≤ high → Q (.str (S l)) (upd H a (.lst (dieL d')))
section
variable {P : Program} {w : World} {K : PySem.W.Frag} {mg : Str → Option Value} {base : Heap}
theorem scBase : FnScope ["die"] ["die"] (defScope sLBase) := ⟨rfl, rfl, rfl, by decide +kernel, rfl, by decide +kernel, by decide +kernel⟩
theorem ok_base {f fP : Addr} {fd fdP : FuncData} (F : Fun K "_law_base" "_law_base" sLBase f fd) (GP : FnOk P w K mg base CX0 1 fP fdP ["die", "many"] spPull) (cP : Cal K mg "_law_pull" fP fdP ["die", "many"]) : FnOk P w K mg base CX0 2 f fd ["die"] spBase := by
  refine F.ok scBase (fun vs H Q E h => ?_) (fun cdv A outer s H vs Q E hr h => ?_)
  · obtain ⟨a, d, rfl, _⟩ := h
    rfl
  · obtain ⟨a, d, rfl, ha, hd, hc, k⟩ := h
    refine ⟨_, pss_one (ps_ret (pe_ix ix_list (pe_lst (pa_cons pe_int (pa_cons pe_int (pa_cons pe_int (pa_cons pe_int (pa_cons pe_int (pa_cons pe_int (pa_cons pe_int pa_nil))))))))
      (pe_call GP hr rfl cP.mg cP.kp cP.b .nil pass0 (pa_cons (pv 0) (pa_cons pe_int pa_nil))) (fun _ _ => rfl))), ?_⟩
    refine ⟨by decide, fun p hp => ?_⟩
    have npa : a ≠ p := ne_of_none ha hp
    refine ⟨_, rfl, a, d, _, rfl, by rw [upd_ne npa]; exact ha, hd, by decide, by decide, hc, fun r d' hd' hc' r0 r1 => ?_⟩
    obtain ⟨v, hv, v2, v5⟩ : ∃ v : Int, atI ([.int 2, .int 2, .int 2, .int 3, .int 3, .int 4, .int 5] : List V) r = some (.int v) ∧ 2 ≤ v ∧ v ≤ 5 := by
      have : r = 0 ∨ r = 1 ∨ r = 2 ∨ r = 3 ∨ r = 4 ∨ r = 5 ∨ r = 6 := by omega
      rcases this with e | e | e | e | e | e | e <;> subst e <;> exact ⟨_, rfl, by decide, by decide⟩
    refine ⟨p, _, r, _, rfl, rfl, SqL.of (by rw [upd_ne npa.symm, upd_same]), hv, ?_⟩
    exact k v d' _ hd' hc' v2 v5 ((Kp.new hp).trans Kp.upd) upd_same
theorem scWord : FnScope ["die", "base", "high", "word", "turn"] ["die", "base", "high"] (defScope sWord) := ⟨rfl, rfl, rfl, by decide +kernel, rfl, by decide +kernel, by decide +kernel⟩
theorem upd_upd' {H : Hp} {a : Addr} {o o' : HO} : upd (upd H a o) a o' = upd H a o' := by
  funext b
  by_cases h : b = a
  · subst h
    rw [upd_same, upd_same]
  · rw [upd_ne h, upd_ne h, upd_ne h]
theorem ok_word {f fP : Addr} {fd fdP : FuncData} (F : Fun K "_law_word" "_law_word" sWord f fd) (GP : FnOk P w K mg base CX0 1 fP fdP ["die", "many"] spPull) (cP : Cal K mg "_law_pull" fP fdP ["die", "many"]) (mr : mg "range" = none) : FnOk P w K mg base CX0 2 f fd ["die", "base", "high"] spWord := by
  refine F.ok scWord (fun vs H Q E h => ?_) (fun cdv A outer s H vs Q E hr h => ?_)
  · obtain ⟨a, d, b, hi, rfl, _⟩ := h
    rfl
  · obtain ⟨a, d, b, hi, rfl, ha, hd, hc, hb2, hb5, hh0, hh1, k⟩ := h
    have nd := scWord.nd
    refine ⟨_, pss_cons (ps_set (i := 3) nd rfl (.inl rfl) pe_str)
      (pss_cons (ps_for PassesOwn.never rfl (pi_range1 rfl mr (pa_cons (pe_call GP hr rfl cP.mg cP.kp cP.b .nil pass0 (pa_cons (pv 0) (pa_cons (pe_op op_add (pv 2) pe_int) pa_nil))) pa_nil)) (pg_name (i := 4) nd rfl (.inl rfl))
        (pss_one (ps_set (i := 3) nd rfl (.inl rfl) (pe_op op_add_str (pv 3) (pe_ix ix_str pe_str (pe_call GP hr rfl cP.mg cP.kp cP.b .nil pass0 (pa_cons (pv 0) (pa_cons (pv 1) pa_nil))) (fun _ _ => rfl))))))
      (pss_one (ps_ret (pv 3)))), ?_⟩
    refine ⟨_, rfl, _, rfl, _, _, rfl, rfl, a, d, _, rfl, ha, hd, by omega, by omega, by omega, fun r d1 hd1 hc1 r0 r1 => ?_⟩
    refine ⟨r, rfl, by omega, by omega, for_range (n := r.toNat) (fun i σ H2 => ∃ (l : List Nat) (d2 : Int × Int × Int) (t : Option V), σ = [some (.ref a), some (.int b), some (.int hi), some (.str (S l)), t] ∧ H2 = upd H a (.lst (dieL d2)) ∧ DieOk d2 ∧ d2.2.2 ≤ d.2.2 + 1 + i ∧ IsW b l ∧ l.length ≤ i) ?_ ?_ ?_⟩
    · exact ⟨[], d1, none, by rw [← str_empty]; rfl, rfl, hd1, by omega, .nil _, Nat.le_refl _⟩
    · rintro i σ H2 hi2 ⟨l, d2, t, rfl, rfl, hd2, hc2, hw, hl⟩
      have hil : (i : Int) < r := by omega
      refine ⟨_, rfl, _, rfl, _, rfl, a, d2, b, rfl, upd_same, hd2, by omega, by omega, by omega, fun q d3 hd3 hc3 q0 q1 => ?_⟩
      obtain ⟨c, hc', c0, c1⟩ : ∃ c : Nat, atI (("01234" : Str).cps.toList) q = some c ∧ 48 ≤ c ∧ (c : Int) < 48 + b := by
        rw [s01234]
        have : q = 0 ∨ q = 1 ∨ q = 2 ∨ q = 3 ∨ q = 4 := by omega
        rcases this with e | e | e | e | e <;> subst e <;> exact ⟨_, rfl, by decide, by omega⟩
      refine ⟨_, q, c, rfl, rfl, by decide +kernel, hc', S l, S [c], rfl, rfl, ?_, ?_⟩
      · rw [S_len, S_len]
        exact Nat.le_trans (show l.length + 1 ≤ 1000 by omega) (by decide)
      · rw [S_cat, upd_upd']
        refine ⟨l ++ [c], d3, _, rfl, rfl, hd3, by omega, hw.app (fun x hx => ?_), by rw [List.length_append]; show l.length + 1 ≤ i + 1; omega⟩
        rw [List.mem_singleton.mp hx]
        exact ⟨c0, c1⟩
    · rintro σ H2 ⟨l, d2, t, rfl, rfl, hd2, hc2, hw, hl⟩
      exact ⟨_, rfl, k l d2 hd2 (by omega) hw (by omega)⟩
end
end Vf


set_option Elab.async false
set_option maxRecDepth 100000
set_option maxHeartbeats 4000000
set_option exponentiation.threshold 3000
namespace Vf
open PySem L2 SX
section
variable {X : Cx}
def CPowB (i j : Int) : Prop := 0 ≤ j ∧ (Builtin.Int.intBits i : Int) * j ≤ 2 ^ 27
/-- ** of a great base, as the size of the power allows -/
theorem op_powB : OpR X (binaryOp .Pow) (rI CPowB fun i j => .int (i ^ j.toNat)) := opI fun _ _ _ _ _ _ _ hc q => PyProof.Rows.pow_int hc.1 hc.2 q
end
/-- _law_dice: a new die -/
def spDice (K : PySem.W.Frag) : Sp := fun vs H Q _ => ∃ (a : Addr) (ns : List Int) (at' : Nat), vs = [.ref a, .int at'] ∧ SqL K H a (ns.map V.int) ∧ ns.length ≤ 63 ∧ at' ≤ 100 ∧
  ∀ (p : Addr) (d' : Int × Int × Int), DieOk d' → d'.2.2 = 0 → H p = none → Q (.ref p) (upd H p (.lst (dieL d')))
theorem big660 : (((10 : Int) ^ (60 : Int).toNat) ^ (11 : Int).toNat).natAbs < 2 ^ 2300 := by decide +kernel
theorem pos660 : (0 : Int) < ((10 : Int) ^ (60 : Int).toNat) ^ (11 : Int).toNat := by decide +kernel
section
variable {P : Program} {w : World} {K : PySem.W.Frag} {mg : Str → Option Value} {base : Heap}
theorem scDice : FnScope ["script", "at", "cell", "great", "mixed"] ["script", "at"] (defScope sDice) := ⟨rfl, rfl, rfl, by decide +kernel, rfl, by decide +kernel, by decide +kernel⟩
theorem dice_end {g at' : Int} {b : Int} (hg0 : 0 ≤ g) (hg : g < ((10 : Int) ^ (60 : Int).toNat) ^ (11 : Int).toNat) :
    DieOk ((if g - 10 ^ (18 : Int).toNat + 1 > 0 then g - 10 ^ (18 : Int).toNat + 1 else 0), (g * 2862933555777941757 + 3037000493 * at' + 7 * b) % 72057594037927931, 0) := by
  have h18 : (0 : Int) < 10 ^ (18 : Int).toNat := by decide +kernel
  have h1 : (1 : Int) ≤ 10 ^ (18 : Int).toNat := by decide +kernel
  have hbig := big660
  generalize ((10 : Int) ^ (60 : Int).toNat) ^ (11 : Int).toNat = N at hg hbig
  generalize (10 : Int) ^ (18 : Int).toNat = M at h18 h1
  refine ⟨?_, ?_, Int.emod_nonneg _ (by decide), Int.le_refl _⟩
  · show 0 ≤ (if g - M + 1 > 0 then g - M + 1 else 0)
    split <;> omega
  · show (if g - M + 1 > 0 then g - M + 1 else 0).natAbs < 2 ^ 2300
    refine wide_le (j := N) ?_ ?_ hbig
    · split <;> omega
    · split <;> omega
theorem ok_dice {f : Addr} {fd : FuncData} (F : Fun K "_law_dice" "_law_dice" sDice f fd) (ml : mg "len" = none) (ma : mg "abs" = none) (mi : mg "int" = none) (mm : mg "max" = none) : FnOk P w K mg base CX0 1 f fd ["script", "at"] (spDice K) := by
  refine F.ok scDice (fun vs H Q E h => ?_) (fun cdv A outer s H vs Q E hr h => ?_)
  · obtain ⟨a, ns, at', rfl, _⟩ := h
    rfl
  · obtain ⟨a, ns, at', rfl, ha, hl, hat, k⟩ := h
    have nd := scDice.nd
    refine ⟨_, pss_cons (ps_set (i := 2) nd rfl (.inl rfl) (pe_ifExp (pt_cmpR op_lt (pv 1) (pe_callB call_len_seq (by rfl) ml boot_len (pa_cons (pv 0) pa_nil)) (nomark _)) (pe_ix ix_list (pv 0) (pv 1) (fun _ _ => rfl)) (pe_op op_add (pe_op op_mul pe_int (pv 1)) pe_int)))
      (pss_cons (ps_set (i := 3) nd rfl (.inl rfl) (pe_op op_mod (pe_callB call_abs (by rfl) ma PyProof.Rows.boot_abs (pa_cons (pv 2) pa_nil)) (pe_op op_powB (pe_op op_pow pe_int pe_int) pe_int)))
      (pss_cons (ps_set (i := 4) nd rfl (.inl rfl) (pe_op op_mod (pe_op op_add (pe_op op_add (pe_op op_mul (pv 3) pe_int) (pe_op op_mul pe_int (pv 1))) (pe_op op_mul pe_int (pe_callTy call_int1 (by rfl) mi PyProof.Rows.boot_int (pa_cons (pe_cmpR op_lt (pv 2) pe_int (nomark _)) pa_nil)))) pe_int))
      (pss_one (ps_ret (pe_lst (pa_cons (pe_callB (call_max2 rfl) (by rfl) mm PyProof.Rows.boot_max (pa_cons pe_int (pa_cons (pe_op op_add (pe_op op_sub (pv 3) (pe_op op_pow pe_int pe_int)) pe_int) pa_nil))) (pa_cons (pv 4) (pa_cons pe_int pa_nil))))))))
      , ?_⟩
    have pos1 : (0 : Int) < 72057594037927931 := by decide
    refine ⟨_, rfl, _, rfl, a, _, rfl, .inl ha, _, _, rfl, rfl, _, rfl, ?_⟩
    refine ite2 (fun c => ?_) (fun c => ?_)
    · have c' : (at' : Int) < ((ns.map V.int).length : Int) := of_decide_eq_true c
      have c2 : at' < ns.length := by rw [List.length_map] at c'; omega
      refine ⟨_, rfl, _, rfl, a, _, _, V.int ns[at'], rfl, rfl, ha, atI_nat (by rw [List.getElem?_map, List.getElem?_eq_getElem c2]; rfl), ?_⟩
      refine ⟨_, rfl, _, rfl, _, _, rfl, rfl, ⟨by decide, by decide, by decide +kernel⟩, _, _, rfl, rfl, ⟨by decide, by decide +kernel⟩, _, _, rfl, rfl, pos660, ?_⟩
      refine ⟨_, rfl, _, _, rfl, rfl, .inr ⟨by decide, by decide⟩, _, rfl, _, _, rfl, rfl, .inl ⟨by decide, by decide⟩, _, _, rfl, rfl, _, rfl, _, _, rfl, rfl, .inr ⟨_, rfl, _, _, rfl, rfl, .inl ⟨by decide, by decide⟩, _, _, rfl, rfl, _, _, rfl, rfl, pos1, ?_⟩⟩
      refine ⟨_, rfl, _, _, rfl, rfl, ⟨by decide, by decide, by decide +kernel⟩, _, _, rfl, rfl, _, _, rfl, rfl, _, _, rfl, _, rfl, (by show 3 ≤ sizeLine; decide), fun p hp => ?_⟩
      exact k p _ (dice_end (Int.emod_nonneg _ (by have := pos660; omega)) (Int.emod_lt_of_pos _ pos660)) rfl hp
    · refine ⟨_, rfl, _, _, rfl, rfl, .inl ⟨by decide, by decide⟩, _, _, rfl, rfl, ?_⟩
      refine ⟨_, rfl, _, rfl, _, _, rfl, rfl, ⟨by decide, by decide, by decide +kernel⟩, _, _, rfl, rfl, ⟨by decide, by decide +kernel⟩, _, _, rfl, rfl, pos660, ?_⟩
      refine ⟨_, rfl, _, _, rfl, rfl, .inr ⟨by decide, by decide⟩, _, rfl, _, _, rfl, rfl, .inl ⟨by decide, by decide⟩, _, _, rfl, rfl, _, rfl, _, _, rfl, rfl, .inr ⟨_, rfl, _, _, rfl, rfl, .inl ⟨by decide, by decide⟩, _, _, rfl, rfl, _, _, rfl, rfl, pos1, ?_⟩⟩
      refine ⟨_, rfl, _, _, rfl, rfl, ⟨by decide, by decide, by decide +kernel⟩, _, _, rfl, rfl, _, _, rfl, rfl, _, _, rfl, _, rfl, (by show 3 ≤ sizeLine; decide), fun p hp => ?_⟩
      exact k p _ (dice_end (Int.emod_nonneg _ (by have := pos660; omega)) (Int.emod_lt_of_pos _ pos660)) rfl hp
end
end Vf


/-! # Words that repeat, and streams in normal form: the mathematics, over lists of numbers -/
namespace Vm
/-- the i-th of the endless repetition of q -/
def g (q : List Nat) (i : Nat) : Nat := q.getD (i % q.length) 0
/-- the i-th of h and then q again and again -/
def ev (h q : List Nat) (i : Nat) : Nat := if i < h.length then h.getD i 0 else g q (i - h.length)
theorem ev_lt {h q : List Nat} {i : Nat} (hi : i < h.length) : ev h q i = h.getD i 0 := if_pos hi
theorem ev_ge {h q : List Nat} {i : Nat} (hi : h.length ≤ i) : ev h q i = g q (i - h.length) := if_neg (by omega)
theorem g_add (q : List Nat) (i : Nat) : g q (i + q.length) = g q i := by unfold g; rw [Nat.add_mod_right]
theorem g_mul (q : List Nat) (i k : Nat) : g q (i + k * q.length) = g q i := by unfold g; rw [Nat.add_mul_mod_self_right]
theorem g_mod (q : List Nat) (i : Nat) : g q (i % q.length) = g q i := by unfold g; rw [Nat.mod_mod]
theorem g_lt {q : List Nat} {i : Nat} (h : i < q.length) : g q i = q.getD i 0 := by unfold g; rw [Nat.mod_eq_of_lt h]
theorem ext_getD {l m : List Nat} (hl : l.length = m.length) (h : ∀ i, i < l.length → l.getD i 0 = m.getD i 0) : l = m := by
  refine List.ext_getElem hl fun i h1 h2 => ?_
  have q := h i h1
  rw [List.getD_eq_getElem?_getD, List.getD_eq_getElem?_getD, List.getElem?_eq_getElem h1, List.getElem?_eq_getElem h2] at q
  exact q
/-- h and q are the normal form of f -/
structure Nf (f : Nat → Nat) (h q : List Nat) : Prop where
  ne : 0 < q.length
  is : ∀ i, ev h q i = f i
  prim : ∀ s m, 0 < s → s < q.length → ¬ ∀ i, m ≤ i → f (i + s) = f i
  trim : 0 < h.length → f (h.length - 1 + q.length) ≠ f (h.length - 1)
theorem Nf.per {f : Nat → Nat} {h q : List Nat} (n : Nf f h q) {i : Nat} (hi : h.length ≤ i) : f (i + q.length) = f i := by
  rw [← n.is, ← n.is, ev_ge hi, ev_ge (by omega), show i + q.length - h.length = i - h.length + q.length by omega, g_add]
theorem Nf.len {f : Nat → Nat} {h q h' q' : List Nat} (n : Nf f h q) (n' : Nf f h' q') : q.length ≤ q'.length := by
  refine Nat.le_of_not_lt fun hlt => n.prim q'.length h'.length n'.ne hlt fun i hi => n'.per hi
theorem Nf.hlen {f : Nat → Nat} {h q h' q' : List Nat} (n : Nf f h q) (n' : Nf f h' q') : h.length ≤ h'.length := by
  refine Nat.le_of_not_lt fun hlt => ?_
  have e : q.length = q'.length := Nat.le_antisymm (n.len n') (n'.len n)
  have z := n'.per (i := h.length - 1) (by omega)
  rw [← e] at z
  exact n.trim (by omega) z
theorem Nf.unique {f : Nat → Nat} {h q h' q' : List Nat} (n : Nf f h q) (n' : Nf f h' q') : h = h' ∧ q = q' := by
  have e : q.length = q'.length := Nat.le_antisymm (n.len n') (n'.len n)
  have e2 : h.length = h'.length := Nat.le_antisymm (n.hlen n') (n'.hlen n)
  refine ⟨ext_getD e2 fun i hi => ?_, ext_getD e fun i hi => ?_⟩
  · have z := (n.is i).trans (n'.is i).symm
    rw [ev_lt hi, ev_lt (by omega)] at z
    exact z
  · have z := (n.is (i + h.length)).trans (n'.is (i + h.length)).symm
    rw [ev_ge (by omega), ev_ge (by omega), e2, Nat.add_sub_cancel, g_lt hi, g_lt (by omega)] at z
    exact z
/-! ### periods -/
def Per (q : List Nat) (s : Nat) : Prop := ∀ i, g q (i + s) = g q i
theorem per_len (q : List Nat) : Per q q.length := fun i => g_add q i
theorem Per.mul {q : List Nat} {s : Nat} (p : Per q s) : ∀ k i, g q (i + k * s) = g q i
  | 0, i => by rw [Nat.zero_mul]; rfl
  | k + 1, i => by rw [Nat.succ_mul, ← Nat.add_assoc, p, Per.mul p k i]
/-- what holds from some place on holds from the start -/
theorem per_late {q : List Nat} {s m : Nat} (hq : 0 < q.length) (h : ∀ i, m ≤ i → g q (i + s) = g q i) : Per q s := fun i => by
  have z := h (i + m * q.length) (Nat.le_trans (Nat.le_mul_of_pos_right m hq) (Nat.le_add_left _ _))
  rw [show i + m * q.length + s = i + s + m * q.length by omega, g_mul, g_mul] at z
  exact z
theorem per_small {q : List Nat} {s : Nat} (h : ∀ i, i < q.length → g q (i + s) = g q i) (hq : 0 < q.length) : Per q s := fun i => by
  have z := h (i % q.length) (Nat.mod_lt _ hq)
  rw [g_mod] at z
  rw [← z]
  show q.getD ((i + s) % q.length) 0 = q.getD ((i % q.length + s) % q.length) 0
  rw [Nat.mod_add_mod]
/-- s is the least one -/
structure Least (q : List Nat) (s : Nat) : Prop where
  pos : 0 < s
  per : Per q s
  min : ∀ t, 0 < t → t < s → ¬ Per q t
theorem Least.unique {q : List Nat} {s t : Nat} (a : Least q s) (b : Least q t) : s = t := by
  rcases Nat.lt_trichotomy s t with h | h | h
  · exact (b.min s a.pos h a.per).elim
  · exact h
  · exact (a.min t b.pos h b.per).elim
theorem Least.le {q : List Nat} {s : Nat} (a : Least q s) (hq : 0 < q.length) : s ≤ q.length := Nat.le_of_not_lt fun h => a.min _ hq h (per_len q)
theorem Least.dvd {q : List Nat} {s n : Nat} (a : Least q s) (hn : Per q n) : n % s = 0 := by
  refine Classical.byContradiction fun h => ?_
  refine a.min (n % s) (by omega) (Nat.mod_lt _ a.pos) fun i => ?_
  have e : n % s + n / s * s = n := by rw [Nat.mul_comm]; exact Nat.mod_add_div n s
  have z := hn i
  rw [← a.per.mul (n / s) (i + n % s), Nat.add_assoc, e]
  exact z
theorem take_len {q : List Nat} {s : Nat} (h : s ≤ q.length) : (q.take s).length = s := by rw [List.length_take]; omega
theorem getD_take {q : List Nat} {s i : Nat} (h : i < s) : (q.take s).getD i 0 = q.getD i 0 := by
  rw [List.getD_eq_getElem?_getD, List.getD_eq_getElem?_getD, List.getElem?_take_of_lt h]
theorem getD_drop {q : List Nat} {s i : Nat} : (q.drop s).getD i 0 = q.getD (s + i) 0 := by
  rw [List.getD_eq_getElem?_getD, List.getD_eq_getElem?_getD, List.getElem?_drop]
theorem getD_app {l m : List Nat} {i : Nat} (h : i < l.length) : (l ++ m).getD i 0 = l.getD i 0 := by
  rw [List.getD_eq_getElem?_getD, List.getD_eq_getElem?_getD, List.getElem?_append_left h]
theorem getD_app2 {l m : List Nat} {i : Nat} (h : l.length ≤ i) : (l ++ m).getD i 0 = m.getD (i - l.length) 0 := by
  rw [List.getD_eq_getElem?_getD, List.getD_eq_getElem?_getD, List.getElem?_append_right h]
theorem Least.g {q : List Nat} {s : Nat} (a : Least q s) (hq : 0 < q.length) (i : Nat) : g (q.take s) i = g q i := by
  have hl := a.le hq
  have hlt := Nat.mod_lt i a.pos
  have e : i % s + i / s * s = i := by rw [Nat.mul_comm]; exact Nat.mod_add_div i s
  unfold Vm.g
  rw [take_len hl, getD_take hlt]
  have z := a.per.mul (i / s) (i % s)
  rw [e, g_lt (Nat.lt_of_lt_of_le hlt hl)] at z
  exact z.symm
/-- the tail has the least period -/
theorem Least.prim {q h : List Nat} {s : Nat} (a : Least q s) (hq : 0 < q.length) (t m : Nat) (h0 : 0 < t) (ht : t < s) : ¬ ∀ i, m ≤ i → ev h q (i + t) = ev h q i := fun z => by
  refine a.min t h0 ht (per_late (m := m) hq fun i hi => ?_)
  have y := z (i + h.length) (by omega)
  rw [ev_ge (by omega), ev_ge (by omega), Nat.add_sub_cancel, show i + h.length + t - h.length = i + t by omega] at y
  exact y
/-! ### the two searches for the least period -/
/-- by looking for the word in its double -/
theorem find_per {q : List Nat} {k : Nat} (hk : k ≤ q.length) (hq : 0 < q.length) : (((q ++ q).drop k).take q.length = q) ↔ Per q k := by
  have len : (((q ++ q).drop k).take q.length).length = q.length := by rw [List.length_take, List.length_drop, List.length_append]; omega
  have at_ : ∀ i, i < q.length → (((q ++ q).drop k).take q.length).getD i 0 = g q (i + k) := fun i hi => by
    rw [getD_take hi, getD_drop]
    by_cases h : k + i < q.length
    · rw [getD_app h, Nat.add_comm i k, g_lt h]
    · rw [getD_app2 (by omega), show i + k = (k + i - q.length) + q.length by omega, g_add, g_lt (by omega)]
  constructor
  · intro e
    refine per_small (fun i hi => ?_) hq
    rw [← at_ i hi, e, g_lt hi]
  · intro p
    refine ext_getD len fun i hi => ?_
    rw [len] at hi
    rw [at_ i hi, p i, g_lt hi]
/-- by repeating the beginning -/
theorem rep_get {l : List Nat} {k i : Nat} (h : i < k * l.length) : ((List.replicate k l).flatten).getD i 0 = g l i := by
  induction k generalizing i with
  | zero => rw [Nat.zero_mul] at h; omega
  | succ k ih =>
    rw [List.replicate_succ, List.flatten_cons]
    by_cases hl : i < l.length
    · rw [getD_app hl, g_lt hl]
    · have hl' : l.length ≤ i := by omega
      rw [getD_app2 hl', ih (by rw [Nat.succ_mul] at h; omega)]
      have z := g_add l (i - l.length)
      rw [Nat.sub_add_cancel hl'] at z
      exact z.symm
theorem rep_len {l : List Nat} {k : Nat} : ((List.replicate k l).flatten).length = k * l.length := by
  induction k with
  | zero => simp
  | succ k ih => rw [List.replicate_succ, List.flatten_cons, List.length_append, ih, Nat.succ_mul, Nat.add_comm]
theorem rep_per {q : List Nat} {s : Nat} (hs : 0 < s) (hsq : s ≤ q.length) : ((List.replicate (q.length / s) (q.take s)).flatten = q) ↔ (Per q s ∧ q.length % s = 0) := by
  have tl := take_len hsq
  constructor
  · intro e
    have el : q.length / s * s = q.length := by
      have z := congrArg List.length e
      rw [rep_len, tl] at z
      exact z
    have em : q.length % s = 0 := by
      have z := Nat.mod_add_div q.length s
      rw [Nat.mul_comm] at z
      omega
    refine ⟨?_, em⟩
    have at_ : ∀ i, g q i = g (q.take s) i := fun i => by
      have hq : 0 < q.length := by omega
      have hi := Nat.mod_lt i hq
      have z : q.getD (i % q.length) 0 = g (q.take s) (i % q.length) := by
        have y := rep_get (l := q.take s) (k := q.length / s) (i := i % q.length) (by rw [tl, el]; exact hi)
        rw [e] at y
        exact y
      show q.getD (i % q.length) 0 = _
      rw [z]
      unfold g
      rw [tl, Nat.mod_mod_of_dvd _ (Nat.dvd_of_mod_eq_zero em)]
    intro i
    have z := g_add (q.take s) i
    rw [tl] at z
    rw [at_, at_, z]
  · rintro ⟨p, em⟩
    have el : q.length / s * s = q.length := by
      have z := Nat.mod_add_div q.length s
      rw [Nat.mul_comm] at z
      omega
    refine ext_getD (by rw [rep_len, tl, el]) fun i hi => ?_
    rw [rep_len, tl, el] at hi
    rw [rep_get (by rw [tl, el]; exact hi)]
    have hlt := Nat.mod_lt i hs
    have e : i % s + i / s * s = i := by rw [Nat.mul_comm]; exact Nat.mod_add_div i s
    have z := p.mul (i / s) (i % s)
    rw [e, g_lt hi, g_lt (by omega)] at z
    unfold g
    rw [tl, getD_take hlt, z]
/-! ### turning the period -/
theorem g_rot {q : List Nat} {c : Nat} (hc : c ≤ q.length) (i : Nat) : g (q.drop c ++ q.take c) i = g q (i + c) := by
  have hl : (q.drop c ++ q.take c).length = q.length := by rw [List.length_append, List.length_drop, List.length_take]; omega
  by_cases hq : q.length = 0
  · have e : q = [] := List.length_eq_zero_iff.mp hq
    subst e
    simp [g]
  · have hi := Nat.mod_lt i (show 0 < q.length by omega)
    show (q.drop c ++ q.take c).getD (i % (q.drop c ++ q.take c).length) 0 = q.getD ((i + c) % q.length) 0
    rw [hl, ← Nat.mod_add_mod]
    generalize i % q.length = j at hi
    by_cases h : j < q.length - c
    · rw [getD_app (by rw [List.length_drop]; exact h), getD_drop, Nat.add_comm c j, Nat.mod_eq_of_lt (by omega)]
    · rw [getD_app2 (by rw [List.length_drop]; omega), List.length_drop, getD_take (by omega), Nat.mod_eq_sub_mod (by omega), Nat.mod_eq_of_lt (by omega)]
      congr 1
      omega
/-- one digit less in the head: the last of the head goes to the front of the period -/
theorem ev_less (l r : List Nat) (c : Nat) : ∀ i, ev l (c :: r) i = ev (l ++ [c]) (r ++ [c]) i := fun i => by
  have hl : (l ++ [c]).length = l.length + 1 := by simp
  have rot : ∀ j, g (r ++ [c]) j = g (c :: r) (j + 1) := fun j => g_rot (q := c :: r) (c := 1) (by simp) j
  rcases Nat.lt_trichotomy i l.length with h | h | h
  · rw [ev_lt h, ev_lt (by omega), getD_app h]
  · rw [ev_ge (by omega), ev_lt (by omega), getD_app2 (by omega), h, Nat.sub_self]
    unfold g
    rw [Nat.zero_mod]
    rfl
  · rw [ev_ge (by omega), ev_ge (by omega), rot, hl]
    congr 1
    omega
/-- the trimmed head and the turned period, t digits less -/
def trimH (h : List Nat) (t : Nat) : List Nat := h.take (h.length - t)
def turnQ (q : List Nat) (t : Nat) : List Nat := q.drop (q.length - t % q.length) ++ q.take (q.length - t % q.length)
theorem trimH_len {h : List Nat} {t : Nat} : (trimH h t).length = h.length - t := by unfold trimH; rw [List.length_take]; omega
theorem turnQ_len {q : List Nat} {t : Nat} : (turnQ q t).length = q.length := by unfold turnQ; rw [List.length_append, List.length_drop, List.length_take]; omega
theorem turn_g {q : List Nat} {t : Nat} (i : Nat) : g (turnQ q t) i = g q (i + (q.length - t % q.length)) := g_rot (Nat.sub_le _ _) i
/-- the digits that were taken off agree -/
def Agree (h q : List Nat) (t : Nat) : Prop := t ≤ h.length ∧ ∀ j, j < t → h.getD (h.length - 1 - j) 0 = q.getD (q.length - 1 - j % q.length) 0
theorem trim_ev {h q : List Nat} {t : Nat} (hq : 0 < q.length) (a : Agree h q t) (i : Nat) : ev (trimH h t) (turnQ q t) i = ev h q i := by
  obtain ⟨ht, ha⟩ := a
  by_cases h1 : i < h.length - t
  · rw [ev_lt (by rw [trimH_len]; exact h1), ev_lt (by omega)]
    exact getD_take h1
  · rw [ev_ge (by rw [trimH_len]; omega), trimH_len, turn_g]
    have hr := Nat.mod_lt t hq
    have et : t = t / q.length * q.length + t % q.length := by rw [Nat.mul_comm]; exact (Nat.div_add_mod t q.length).symm
    by_cases h2 : i < h.length
    · rw [ev_lt h2]
      have z := ha (h.length - 1 - i) (by omega)
      rw [show h.length - 1 - (h.length - 1 - i) = i by omega] at z
      rw [z]
      have hj := Nat.mod_lt (h.length - 1 - i) hq
      have ej : h.length - 1 - i = (h.length - 1 - i) / q.length * q.length + (h.length - 1 - i) % q.length := by rw [Nat.mul_comm]; exact (Nat.div_add_mod _ q.length).symm
      rw [← g_lt (show q.length - 1 - (h.length - 1 - i) % q.length < q.length by omega)]
      have m2 := g_mul q (q.length - 1 - (h.length - 1 - i) % q.length) (t / q.length - (h.length - 1 - i) / q.length)
      have le : (h.length - 1 - i) / q.length ≤ t / q.length := Nat.div_le_div_right (by omega)
      rw [Nat.sub_mul] at m2
      have le2 : (h.length - 1 - i) / q.length * q.length ≤ t / q.length * q.length := Nat.mul_le_mul_right _ le
      generalize t / q.length * q.length = T at *
      generalize (h.length - 1 - i) / q.length * q.length = J at *
      rw [← m2]
      congr 1
      omega
    · rw [ev_ge (by omega)]
      have m1 := g_mul q (i - (h.length - t) + (q.length - t % q.length)) (t / q.length)
      have m2 := g_mul q (i - h.length) (t / q.length + 1 + 0)
      have m3 : (t / q.length + 1 + 0) * q.length = t / q.length * q.length + q.length := by rw [Nat.add_zero, Nat.succ_mul]
      rw [m3] at m2
      generalize t / q.length * q.length = T at *
      have m4 := g_add q (i - h.length + T)
      have m5 : g q (i - (h.length - t) + (q.length - t % q.length)) = g q (i - h.length + (t + (q.length - t % q.length))) := by congr 1; omega
      rw [m5, show t + (q.length - t % q.length) = T + q.length by omega]
      exact m2
/-- the end of the trimming: a normal form -/
theorem trim_nf {h q : List Nat} {t : Nat} {f : Nat → Nat} (hf : ∀ i, ev h q i = f i) (hq : 0 < q.length) (a : Agree h q t) (stop : t < h.length → h.getD (h.length - 1 - t) 0 ≠ q.getD (q.length - 1 - t % q.length) 0)
    (prim : ∀ s m, 0 < s → s < q.length → ¬ ∀ i, m ≤ i → f (i + s) = f i) : Nf f (trimH h t) (turnQ q t) := by
  refine ⟨by rw [turnQ_len]; exact hq, fun i => (trim_ev hq a i).trans (hf i), by rw [turnQ_len]; exact prim, fun h0 => ?_⟩
  rw [trimH_len] at h0 ⊢
  rw [turnQ_len]
  have ht : t < h.length := by omega
  have e1 : f (h.length - t - 1) = h.getD (h.length - 1 - t) 0 := by
    rw [← hf, ev_lt (by omega)]
    congr 1
    omega
  have e2 : f (h.length - t - 1 + q.length) = q.getD (q.length - 1 - t % q.length) 0 := by
    have hr := Nat.mod_lt t hq
    rw [← hf, ← trim_ev hq a, ev_ge (by rw [trimH_len]; omega), trimH_len, turn_g]
    have z := g_add q (q.length - 1 - t % q.length)
    have y : g q (q.length - 1 - t % q.length) = q.getD (q.length - 1 - t % q.length) 0 := g_lt (by omega)
    rw [← y, ← z]
    congr 1
    omega
  rw [e1, e2]
  exact fun z => stop ht z.symm
/-- the same for the word that is taken off digit by digit -/
theorem last_nf {l r : List Nat} {f : Nat → Nat} (hf : ∀ i, ev l r i = f i) (hr : 0 < r.length) (prim : ∀ s m, 0 < s → s < r.length → ¬ ∀ i, m ≤ i → f (i + s) = f i)
    (stop : 0 < l.length → l.getD (l.length - 1) 0 ≠ r.getD (r.length - 1) 0) : Nf f l r := by
  refine ⟨hr, hf, prim, fun h0 => ?_⟩
  rw [← hf, ← hf, ev_lt (show l.length - 1 < l.length by omega), ev_ge (show l.length ≤ l.length - 1 + r.length by omega), show l.length - 1 + r.length - l.length = r.length - 1 by omega, g_lt (show r.length - 1 < r.length by omega)]
  exact fun z => stop h0 z.symm
/-! ### beginnings -/
def beg (h q : List Nat) (k many : Nat) : List Nat := (h ++ (List.replicate k q).flatten).take many
theorem beg_get {h q : List Nat} {k many i : Nat} (hk : many ≤ h.length + k * q.length) (hi : i < many) : (beg h q k many).getD i 0 = ev h q i := by
  unfold beg
  rw [getD_take hi]
  by_cases h1 : i < h.length
  · rw [getD_app h1, ev_lt h1]
  · rw [getD_app2 (by omega), ev_ge (by omega), rep_get (by omega)]
theorem beg_len {h q : List Nat} {k many : Nat} (hk : many ≤ h.length + k * q.length) : (beg h q k many).length = many := by
  unfold beg
  rw [List.length_take, List.length_append, rep_len]
  omega
theorem beg_eq {h q h' q' : List Nat} {k k' many : Nat} (hk : many ≤ h.length + k * q.length) (hk' : many ≤ h'.length + k' * q'.length) :
    beg h q k many = beg h' q' k' many ↔ ∀ i, i < many → ev h q i = ev h' q' i := by
  constructor
  · intro e i hi
    rw [← beg_get hk hi, ← beg_get hk' hi, e]
  · intro e
    refine ext_getD (by rw [beg_len hk, beg_len hk']) fun i hi => ?_
    rw [beg_len hk] at hi
    rw [beg_get hk hi, beg_get hk' hi, e i hi]
theorem ev_per {h q : List Nat} {i k : Nat} (hi : h.length ≤ i) : ev h q (i + k * q.length) = ev h q i := by
  rw [ev_ge hi, ev_ge (by omega), show i + k * q.length - h.length = i - h.length + k * q.length by omega, g_mul]
/-- what agrees long enough agrees for ever -/
theorem ev_all {h q h' q' : List Nat} {many : Nat} (hm : h.length ≤ many) (hm' : h'.length ≤ many) (hq : 0 < q.length) (hq' : 0 < q'.length) (e : ∀ i, i < many + q.length * q'.length → ev h q i = ev h' q' i) (i : Nat) : ev h q i = ev h' q' i := by
  by_cases hi : i < many
  · exact e i (by omega)
  · have hp : 0 < q.length * q'.length := Nat.mul_pos hq hq'
    have hlt := Nat.mod_lt (i - many) hp
    have ei : many + (i - many) % (q.length * q'.length) + (i - many) / (q.length * q'.length) * (q.length * q'.length) = i := by
      have z := Nat.div_add_mod (i - many) (q.length * q'.length)
      rw [Nat.mul_comm] at z
      omega
    have a1 := ev_per (h := h) (q := q) (i := many + (i - many) % (q.length * q'.length)) (k := (i - many) / (q.length * q'.length) * q'.length) (by omega)
    have a2 := ev_per (h := h') (q := q') (i := many + (i - many) % (q.length * q'.length)) (k := (i - many) / (q.length * q'.length) * q.length) (by omega)
    rw [Nat.mul_assoc, Nat.mul_comm q'.length, ei] at a1
    rw [Nat.mul_assoc, ei] at a2
    rw [a1, a2]
    exact e _ (by omega)
/-- the period told several times over -/
theorem ev_rep {h q : List Nat} {k : Nat} (hk : 0 < k) (i : Nat) : ev h ((List.replicate k q).flatten) i = ev h q i := by
  by_cases h1 : i < h.length
  · rw [ev_lt h1, ev_lt h1]
  · rw [ev_ge (by omega), ev_ge (by omega)]
    generalize i - h.length = j
    by_cases hq : q.length = 0
    · have e : q = [] := List.length_eq_zero_iff.mp hq
      subst e
      simp
    · show ((List.replicate k q).flatten).getD (j % ((List.replicate k q).flatten).length) 0 = _
      rw [rep_len, rep_get (Nat.mod_lt _ (Nat.mul_pos hk (by omega)))]
      unfold g
      rw [Nat.mod_mod_of_dvd _ (Nat.dvd_mul_left _ _)]
/-! ### the normal form that the law finds, and that of the program: one and the same -/
/-- the shorter period told by the least one -/
theorem short_nf {h q : List Nat} {s : Nat} (a : Least q s) (hq : 0 < q.length) (i : Nat) : ev h (q.take s) i = ev h q i := by
  by_cases h1 : i < h.length
  · rw [ev_lt h1, ev_lt h1]
  · rw [ev_ge (by omega), ev_ge (by omega), a.g hq]
end Vm


set_option Elab.async false
set_option maxRecDepth 100000
set_option maxHeartbeats 4000000
set_option exponentiation.threshold 3000
namespace Vf
open PySem L2 SX Vm
theorem find_least {q : List Nat} (hq : 0 < q.length) : ∃ s : Nat, Txt.find3 (S (q ++ q)) (S q) 1 = (s : Int) ∧ Least q s := by
  have e1 : PySem.fromIndex (S (q ++ q)).length 1 = 1 := by
    rw [S_len, List.length_append]
    unfold PySem.fromIndex
    rw [if_neg (by decide)]
    rfl
  have key : ∀ i, 1 ≤ i → (PySem.StrLaws.At (S (q ++ q)) (S q) (S (q ++ q)).length i ↔ i ≤ q.length ∧ Per q i) := fun i hi => by
    unfold PySem.StrLaws.At
    rw [PySem.StrLaws.subAt_eq, S_len, S_len, List.length_append]
    constructor
    · rintro ⟨h1, h2⟩
      have h : i ≤ q.length := by omega
      exact ⟨h, (find_per h hq).mp (beq_iff_eq.mp h2)⟩
    · rintro ⟨h1, h2⟩
      exact ⟨by omega, beq_iff_eq.mpr ((find_per h1 hq).mpr h2)⟩
  rcases PySem.StrLaws.occ_head_from (S (q ++ q)) (S q) 1 1 (Nat.le_refl 1) with ⟨_, hn⟩ | ⟨k, r, h0, hlo, hk, hn⟩
  · exact absurd ((key q.length hq).mpr ⟨Nat.le_refl _, per_len q⟩) (hn q.length hq)
  · refine ⟨k, ?_, hlo, ((key k hlo).mp hk).2, fun t h1 h2 p => hn t h1 h2 ((key t h1).mpr ⟨?_, p⟩)⟩
    · unfold Txt.find3
      rw [e1, h0]
    · have := ((key k hlo).mp hk).1
      omega
theorem cut_take {q : List Nat} {s : Nat} (h : s ≤ q.length) : cutS (S q) none (some (s : Int)) = S (q.take s) := by
  unfold cutS
  rw [S_len, HT.sIx_none, HT.sIx_nat, Nat.min_eq_left h]
  rfl
theorem cut_drop {q : List Nat} {s : Nat} (h : s ≤ q.length) : cutS (S q) (some (s : Int)) none = S (q.drop s) := by
  unfold cutS
  rw [S_len, HT.sIx_none, HT.sIx_nat, Nat.min_eq_left h]
  congr 2
  rw [List.take_of_length_le]
  rw [List.length_drop]
  exact Nat.le_refl _
/-- the shorter period -/
def spShort : Sp := fun vs H Q _ => ∃ q : List Nat, vs = [.str (S q)] ∧ 0 < q.length ∧ q.length ≤ 1000 ∧ ∀ s, Least q s → s ≤ q.length → Q (.str (S (q.take s))) H
section
variable {P : Program} {w : World} {K : PySem.W.Frag} {mg : Str → Option Value} {base : Heap}
theorem scShort : FnScope ["period"] ["period"] (defScope sShortest) := ⟨rfl, rfl, rfl, by decide +kernel, rfl, by decide +kernel, by decide +kernel⟩
theorem ok_short {f : Addr} {fd : FuncData} (F : Fun K "shortest_period" "shortest_period" sShortest f fd) : FnOk P w K mg base CX0 1 f fd ["period"] spShort := by
  refine F.ok scShort (fun vs H Q E h => ?_) (fun cdv A outer s H vs Q E hr h => ?_)
  · obtain ⟨q, rfl, _⟩ := h
    rfl
  · obtain ⟨q, rfl, h0, h1, k⟩ := h
    refine ⟨_, pss_one (ps_ret (pe_slice sl_str (pv 0) po_none (po_some (pe_bm PySem.F.plainAttrs_str PySem.F.slot_str_find PySem.F.type_str_find mt_find3 (pe_op op_add_str (pv 0) (pv 0)) (pa_cons (pv 0) (pa_cons pe_int pa_nil)))))), ?_⟩
    obtain ⟨s0, e, l⟩ := find_least h0
    have hle := l.le h0
    have len1 : (S q).length + (S q).length ≤ sizeLine := by rw [S_len]; exact Nat.le_trans (show q.length + q.length ≤ 2000 by omega) (by decide)
    have len2 : (S q).length ≤ sizeLine := Nat.le_trans (Nat.le_add_right _ _) len1
    refine ⟨_, rfl, _, rfl, _, rfl, _, _, rfl, rfl, len1, rfl, _, rfl, _, _, _, rfl, rfl, _, rfl, _, rfl, len2, ?_⟩
    show Q (.str (cutS (S q) none (some (Txt.find3 (S q ++ S q) (S q) 1)))) H
    rw [S_cat, e, cut_take hle]
    exact k s0 l hle
end
end Vf


set_option Elab.async false
set_option maxRecDepth 100000
set_option maxHeartbeats 4000000
set_option exponentiation.threshold 3000
namespace Vf
open PySem L2 SX Vm
theorem at_back {l : List Nat} {i : Int} {t : Nat} (ht : t < l.length) (hi : i = -1 - (t : Int)) : atI l i = some (l.getD (l.length - 1 - t) 0) := by
  unfold atI ixN
  rw [if_neg (by omega), if_pos (by omega)]
  show l[(i + (l.length : Int)).toNat]? = _
  rw [show (i + (l.length : Int)).toNat = l.length - 1 - t by omega, List.getD_eq_getElem?_getD, List.getElem?_eq_getElem (by omega)]
  rfl
theorem one_eq {a b : Nat} : (V.str ⟨#[a]⟩ = V.str ⟨#[b]⟩) ↔ a = b := by
  constructor
  · intro h
    have h1 := V.str.inj h
    have h2 := congrArg (fun s : Str => s.cps.toList) h1
    exact (List.cons.inj h2).1
  · intro h
    rw [h]
theorem emod_nat {t s : Nat} : ((t : Int) % (s : Int)) = ((t % s : Nat) : Int) := by omega
/-- from a row of digits to what lies in a row of digits -/
def Sub (m l : List Nat) : Prop := ∀ c ∈ m, c ∈ l
theorem sub_trimH {h : List Nat} {t : Nat} : Sub (trimH h t) h := fun _ hc => List.mem_of_mem_take hc
theorem sub_turnQ {q : List Nat} {t : Nat} : Sub (turnQ q t) q := fun c hc => by
  rcases List.mem_append.mp hc with h | h
  · exact List.mem_of_mem_drop h
  · exact List.mem_of_mem_take h
theorem cut_len (l : List Nat) (a b : Option Int) : (cutS (S l) a b).length ≤ l.length := by
  unfold cutS
  rw [S_len, List.length_take, List.length_drop]
  exact Nat.le_trans (Nat.min_le_right _ _) (Nat.sub_le _ _)
theorem fin_len {a b : Option Int} {q : List Nat} (hq : q.length ≤ 1000) : (cutS (S q) a none).length + (cutS (S q) none b).length ≤ sizeLine := by
  have h1 := cut_len q a none
  have h2 := cut_len q none b
  exact Nat.le_trans (show _ ≤ 2000 by omega) (by decide)
theorem val_head {h : List Nat} {t : Nat} (ht : t ≤ h.length) : cutS (S h) none (some (((S h).length : Int) - (t : Int))) = S (trimH h t) := by
  rw [S_len, show ((h.length : Int) - (t : Int)) = ((h.length - t : Nat) : Int) by omega, cut_take (Nat.sub_le _ _)]
  rfl
theorem val_per {q : List Nat} {t s : Nat} (hs : q.length = s) (h0 : 0 < s) :
    cutS (S q) (some ((s : Int) - (t : Int) % (s : Int))) none ++ cutS (S q) none (some ((s : Int) - (t : Int) % (s : Int))) = S (turnQ q t) := by
  have hm := Nat.mod_lt t h0
  rw [show ((s : Int) - (t : Int) % (s : Int)) = ((q.length - t % q.length : Nat) : Int) by rw [emod_nat, hs]; omega, cut_drop (Nat.sub_le _ _), cut_take (Nat.sub_le _ _), S_cat]
  rfl
def spNormal : Sp := fun vs H Q _ => ∃ (r : V) (h q : List Nat), vs = [r, .str (S h), .str (S q)] ∧ 0 < q.length ∧ q.length ≤ 1000 ∧ h.length ≤ 1000 ∧
  ∀ (h' q' : List Nat) (p : Addr), Nf (ev h q) h' q' → h'.length ≤ h.length → q'.length ≤ q.length → Sub h' h → Sub q' q → H p = none → Q (.ref p) (upd H p (.tup [r, .str (S h'), .str (S q')]))
theorem small_len {l : List Nat} (h : l.length ≤ 1000) : (S l).length ≤ sizeLine := by rw [S_len]; exact Nat.le_trans h (by decide)
theorem small_lenG {l : List Nat} (h : l.length ≤ 9000) : (S l).length ≤ sizeLine := by rw [S_len]; exact Nat.le_trans h (by decide)
section
variable {P : Program} {w : World} {K : PySem.W.Frag} {mg : Str → Option Value} {base : Heap}
end
end Vf


set_option Elab.async false
set_option maxRecDepth 100000
set_option maxHeartbeats 4000000
set_option exponentiation.threshold 3000
namespace Vf
open PySem L2 SX Vm
section
variable {X : Cx}
theorem fold_flat (l : List Nat) : ∀ (k : Nat) (acc : Array Nat), ((List.replicate k l.toArray).foldl (· ++ ·) acc) = acc ++ ((List.replicate k l).flatten).toArray
  | 0, acc => by simp
  | k + 1, acc => by
    rw [List.replicate_succ, List.foldl_cons, fold_flat l k, List.replicate_succ, List.flatten_cons]
    simp
/-- a text times a number -/
def rMulS : R2 := fun x y H Q => ∃ (l : List Nat) (k : Nat), x = .str (S l) ∧ y = .int (k : Int) ∧ k ≤ 100000 ∧ l.length ≤ 100000 ∧ k * l.length ≤ 1000000 ∧ Q (.str (S ((List.replicate k l).flatten))) H
theorem op_mul_str : OpR X (binaryOp .Mult) rMulS := by
  intro pins s σ H x y v u Q I rx ry h
  obtain ⟨l, k, rfl, rfl, h1, h2, h3, q⟩ := h
  obtain ⟨t, rfl⟩ := rx
  obtain ⟨t', rfl⟩ := ry
  refine PySem.P.mul_str ?_ (fun a b => ?_) (fun a b => ?_) ?_
  · rw [decide_eq_false (show ¬ ((k : Int) < -(2 ^ 63 : Int)) by omega), decide_eq_false (show ¬ ((k : Int) ≥ 2 ^ 63) by omega)]
    rfl
  · rw [S_len]
    have hk : (0 : Int) < (k : Int) := by omega
    have : (l.length : Int) ≤ (2 ^ 63 - 1) / (k : Int) := by
      rw [Int.le_ediv_iff_mul_le hk]
      have e : ((l.length : Int) * (k : Int)) = ((k * l.length : Nat) : Int) := by rw [Int.natCast_mul, Int.mul_comm]
      rw [e]
      omega
    omega
  · rw [S_len, Int.toNat_natCast, Nat.mul_comm]
    have : k * l.length ≤ sizeLine := Nat.le_trans h3 (by decide)
    unfold Builtin.Str.tooLong
    exact decide_eq_false (by omega)
  · have hlen : ((List.replicate k l).flatten).length ≤ sizeLine := by rw [rep_len]; exact Nat.le_trans h3 (by decide)
    by_cases c1 : (k : Int) < 1
    · have e : k = 0 := by omega
      subst e
      rw [if_pos c1]
      exact ⟨by decide, .str _, H, I.tok _, ⟨_, rfl⟩, q⟩
    · rw [if_neg c1]
      by_cases c2 : ((k : Int) == 1 || (S l).length == 0) = true
      · rw [if_pos c2]
        have e : (List.replicate k l).flatten = l := by
          rw [Bool.or_eq_true, beq_iff_eq, beq_iff_eq, S_len] at c2
          rcases c2 with c | c
          · have e : k = 1 := by omega
            subst e
            simp
          · have e : l = [] := List.length_eq_zero_iff.mp c
            subst e
            simp
        rw [e] at q
        exact ⟨.str _, H, I, ⟨_, rfl⟩, q⟩
      · rw [if_neg c2, Int.toNat_natCast]
        have e : (⟨(List.replicate k (S l).cps).foldl (· ++ ·) #[]⟩ : Str) = S ((List.replicate k l).flatten) := by
          have z := fold_flat l k #[]
          show Str.mk _ = Str.mk _
          rw [z]
          simp
        rw [e]
        exact ⟨by rw [S_len]; exact hlen, .str _, H, I.tok _, ⟨_, rfl⟩, q⟩
end
/-- the first one that passes -/
theorem filter_head {p : Nat → Bool} {s : Nat} (hp : p s = true) : ∀ n a, a ≤ s → s < a + n → (∀ t, a ≤ t → t < s → p t = false) → ((List.range' a n).filter p)[0]? = some s
  | 0, a, h1, h2, _ => absurd h2 (by omega)
  | n + 1, a, h1, h2, h3 => by
    rw [List.range'_succ]
    by_cases e : a = s
    · subst e
      rw [List.filter_cons_of_pos hp]
      rfl
    · rw [List.filter_cons_of_neg (by rw [h3 a (Nat.le_refl _) (by omega)]; exact Bool.false_ne_true)]
      exact filter_head hp n (a + 1) (by omega) (by omega) fun t h4 h5 => h3 t (by omega) h5
def okB (q : List Nat) (m : Nat) : Bool := decide ((List.replicate (q.length / m) (q.take m)).flatten = q)
theorem first_size {q : List Nat} {s : Nat} (h0 : 0 < q.length) (l : Least q s) : ((List.range' 1 q.length).filter (okB q))[0]? = some s := by
  have hle := l.le h0
  have hp := l.pos
  refine filter_head (decide_eq_true ((rep_per hp hle).mpr ⟨l.per, l.dvd (per_len q)⟩)) _ _ hp (by omega) fun t h1 h2 => decide_eq_false fun z => ?_
  exact l.min t h1 h2 ((rep_per h1 (by omega)).mp z).1
theorem filter_snoc {p : Nat → Bool} {i : Nat} : (List.range' 1 (i + 1)).filter p = (List.range' 1 i).filter p ++ (if p (1 + i) = true then [1 + i] else []) := by
  rw [List.range'_concat, List.filter_append, Nat.one_mul]
  congr 1
  by_cases h : p (1 + i) = true
  · rw [if_pos h, List.filter_cons_of_pos h]
    rfl
  · rw [if_neg h, List.filter_cons_of_neg h]
    rfl
theorem str_ne_empty {l : List Nat} : (V.str (S l) = V.str ("" : Str)) ↔ l = [] := by
  rw [str_empty]
  constructor
  · intro h
    exact S_inj (V.str.inj h)
  · intro h
    rw [h]
theorem str_eq {l m : List Nat} : (V.str (S l) = V.str (S m)) ↔ l = m := ⟨fun h => S_inj (V.str.inj h), fun h => by rw [h]⟩
theorem cut_last (l : List Nat) (c : Nat) : cutS (S (l ++ [c])) none (some (-1)) = S l := by
  unfold cutS
  rw [S_len, HT.sIx_none, List.length_append]
  have e : HT.sIx (l.length + [c].length) (l.length + [c].length) (some (-1)) = l.length := by
    show (if (-1 : Int) < 0 then ((-1 : Int) + ((l.length + 1 : Nat) : Int)).toNat else min (-1 : Int).toNat (l.length + 1)) = l.length
    rw [if_pos (by decide)]
    omega
  rw [e]
  show S ((List.drop 0 (l ++ [c])).take (l.length - 0)) = S l
  rw [List.drop_zero, Nat.sub_zero, List.take_left']
  rfl
theorem last_at (l : List Nat) (c : Nat) : atI (S (l ++ [c])).cps.toList (-1) = some c := by
  have z := at_back (l := l ++ [c]) (i := -1) (t := 0) (by simp) (by decide)
  have e : (l ++ [c]).getD ((l ++ [c]).length - 1 - 0) 0 = c := by
    rw [List.getD_eq_getElem?_getD]
    simp
  rw [e] at z
  exact z
theorem last_getD (l : List Nat) (c : Nat) : (l ++ [c]).getD ((l ++ [c]).length - 1) 0 = c := by
  rw [List.getD_eq_getElem?_getD]
  simp
theorem iteTB {c : Bool} {A B : Prop} (hc : c = true) (h : A) : if c = true then A else B := by rw [if_pos hc]; exact h
theorem iteFB {c : Bool} {A B : Prop} (hc : c = false) (h : B) : if c = true then A else B := by rw [hc, if_neg Bool.false_ne_true]; exact h
/-- the law's normal form -/
def spLNormal : Sp := fun vs H Q _ => ∃ (r : V) (h q : List Nat), vs = [r, .str (S h), .str (S q)] ∧ 0 < q.length ∧ q.length ≤ 1000 ∧ h.length ≤ 1000 ∧
  ∀ (h' q' : List Nat) (p : Addr) (H' : Hp), Nf (ev h q) h' q' → h'.length ≤ h.length → q'.length ≤ q.length → Sub h' h → Sub q' q → Same H H' → H p = none → H' p = some (.tup [r, .str (S h'), .str (S q')]) → Q (.ref p) H'
section
variable {P : Program} {w : World} {K : PySem.W.Frag} {mg : Str → Option Value} {base : Heap}
theorem scLNormal : FnScope ["root", "head", "period", "size", "many"] ["root", "head", "period"] (defScope sLNormal) := ⟨rfl, rfl, rfl, by decide +kernel, rfl, by decide +kernel, by decide +kernel⟩
theorem ok_lnormal {f : Addr} {fd : FuncData} (F : Fun K "_law_normal" "_law_normal" sLNormal f fd) (ml : mg "len" = none) (mr : mg "range" = none) :
    FnOk P w K mg base CX0 1 f fd ["root", "head", "period"] spLNormal := by
  refine F.ok scLNormal (fun vs H Q E h => ?_) (fun cdv A outer s H vs Q E hr h => ?_)
  · obtain ⟨r, h, q, rfl, _⟩ := h
    rfl
  · obtain ⟨r, h, q0, rfl, h0, h1, h2, k⟩ := h
    have nd := scLNormal.nd
    refine ⟨_, pss_cons (ps_set (i := 3) nd rfl (.inl rfl) (pe_ix ix_list (pe_lc (own := [("many", 4)]) (g := gName 4) rfl nd
          (pi_range2 rfl mr (pa_cons pe_int (pa_cons (pe_op op_add (pe_callB call_len_str (by rfl) ml boot_len (pa_cons (pv 2) pa_nil)) pe_int) pa_nil)))
          (blkOk_by (N := ["root", "head", "period", "size", "many"]) (sc := defScope sLNormal) (by decide +kernel)) (fun _ _ _ _ _ => pg_name (i := 4) nd rfl (Or.inl rfl))
          (fun _ _ _ _ _ => pts_one (pt_cmpR op_eq (pe_op op_mul_str (pe_slice sl_str (pv 2) po_none (po_some (pv 4))) (pe_op op_fdiv (pe_callB call_len_str (by rfl) ml boot_len (pa_cons (pv 2) pa_nil)) (pv 4))) (pv 2) (nomark _))) (fun _ _ _ _ _ => pv 4)) pe_int (fun _ _ => rfl)))
      (pss_cons (ps_set (i := 2) nd rfl (.inr rfl) (pe_slice sl_str (pv 2) po_none (po_some (pv 3))))
      (pss_cons (ps_while PassesOwn.never (pw_and (pt_cmpR op_ne (pv 1) pe_str (nomark _)) (pw_and1 (pt_cmpR op_eq (pe_ix ix_str (pv 1) (pe_un un_neg pe_int) (fun _ _ => rfl)) (pe_ix ix_str (pv 2) (pe_un un_neg pe_int) (fun _ _ => rfl)) (nomark _)))).pt
        (pss_one (ps_asg (pe_tup (pa_cons (pe_slice sl_str (pv 1) po_none (po_some (pe_un un_neg pe_int))) (pa_cons (pe_op op_add_str (pe_ix ix_str (pv 2) (pe_un un_neg pe_int) (fun _ _ => rfl)) (pe_slice sl_str (pv 2) po_none (po_some (pe_un un_neg pe_int)))) pa_nil)))
          (pg_tup rfl (pgs_cons (pg_name (i := 1) nd rfl (.inl rfl)) (pgs_cons (pg_name (i := 2) nd rfl (.inr rfl)) pgs_nil))))))
      (pss_one (ps_ret (pe_tup (pa_cons (pv 0) (pa_cons (pv 1) (pa_cons (pv 2) pa_nil)))))))), ?_⟩
    have lq : (S q0).length ≤ sizeLine := small_len h1
    refine ⟨_, rfl, _, rfl, lq, _, _, rfl, rfl, _, _, rfl, ⟨by decide, by decide, by rw [S_len]; omega, by rw [S_len]; omega⟩, fun D hD => ?_⟩
    have en : (((S q0).length : Int) + 1 - 1).toNat = q0.length := by rw [S_len]; omega
    rw [en]
    refine lc_range (n := q0.length) (fun i H2 => H2 = upd H D (.lst (((List.range' 1 i).filter (okB q0)).map fun m => V.int (m : Nat)))) rfl ?_ ?_
    · rintro i H2 hi rfl
      refine ⟨rfl, ?_⟩
      have e1 : cutS (S q0) none (some (1 + (i : Int))) = S (q0.take (1 + i)) := by
        rw [show (1 + (i : Int)) = ((1 + i : Nat) : Int) by omega]
        exact cut_take (by omega)
      have e2 : (((S q0).length : Int) / (1 + (i : Int))) = ((q0.length / (1 + i) : Nat) : Int) := by
        rw [S_len, show (1 + (i : Int)) = ((1 + i : Nat) : Int) by omega]
        rfl
      have hm : q0.length / (1 + i) ≤ q0.length := Nat.div_le_self _ _
      have hm2 : q0.length / (1 + i) * (q0.take (1 + i)).length ≤ 1000000 := Nat.le_trans (Nat.mul_le_mul hm (show (q0.take (1 + i)).length ≤ 1000 by rw [List.length_take]; omega)) (by omega)
      refine ⟨_, rfl, _, rfl, _, rfl, _, rfl, lq, _, rfl, _, rfl, lq, _, rfl, _, _, rfl, rfl, ⟨by omega, by omega⟩, q0.take (1 + i), q0.length / (1 + i), congrArg V.str e1, congrArg V.int e2, by omega, by rw [List.length_take]; omega, hm2, _, rfl, rfl, _, rfl, ?_⟩
      rw [filter_snoc]
      by_cases c : okB q0 (1 + i) = true
      · rw [if_pos c]
        refine iteTB (decide_eq_true (str_eq.mpr (of_decide_eq_true c))) ?_
        refine ⟨_, rfl, _, upd_same, ?_, ?_⟩
        · rw [List.length_map]
          exact Nat.lt_of_le_of_lt (Nat.le_trans (List.length_filter_le _ _) (show (List.range' 1 i).length ≤ 1000 by rw [List.length_range']; omega)) (by decide)
        · rw [upd_upd', List.map_append]
          rw [show (1 + (i : Int)) = ((1 + i : Nat) : Int) by omega]
          rfl
      · rw [if_neg c, List.append_nil]
        exact iteFB (decide_eq_false (fun z => c (decide_eq_true (str_eq.mp z)))) rfl
    · rintro H2 rfl
      obtain ⟨s0, e, l⟩ := find_least h0
      have hle := l.le h0
      have sp := l.pos
      have hi : atI (((List.range' 1 q0.length).filter (okB q0)).map fun m => V.int (m : Nat)) 0 = some (.int (s0 : Int)) := by
        refine atI_nat (j := 0) ?_
        rw [List.getElem?_map, first_size h0 l]
        rfl
      have sl : (q0.take s0).length = s0 := take_len hle
      refine ⟨D, _, 0, _, rfl, rfl, SqL.of upd_same, hi, ?_⟩
      refine ⟨_, rfl, _, rfl, _, rfl, _, rfl, lq, ?_⟩
      rw [cut_take hle]
      refine ⟨fun m σ H2 => ∃ l' r' : List Nat, m = l'.length ∧ σ = [some r, some (.str (S l')), some (.str (S r')), some (.int (s0 : Int)), none] ∧ Same H H2 ∧ r'.length = s0 ∧ (∀ i, ev l' r' i = ev h q0 i) ∧ l'.length ≤ h.length ∧ Sub l' h ∧ Sub r' q0,
        ⟨h.length, h, q0.take s0, rfl, rfl, fun b o e => by rw [upd_ne (ne_of_none e hD)]; exact e, sl, fun i => short_nf l h0 i, Nat.le_refl _, fun _ x => x, fun _ x => List.mem_of_mem_take x⟩, ?_⟩
      rintro m σ H2 ⟨l', r', rfl, rfl, s2, lr, hev, hl, sub1, sub2⟩
      have ll : (S l').length ≤ sizeLine := small_len (by omega)
      have lrr : (S r').length ≤ sizeLine := small_len (by omega)
      have done : (0 < l'.length → l'.getD (l'.length - 1) 0 ≠ r'.getD (r'.length - 1) 0) → ∀ p, H2 p = none → Q (.ref p) (upd H2 p (.tup [r, .str (S l'), .str (S r')])) := fun stop p hp =>
        k l' r' p _ (last_nf hev (by omega) (by rw [lr]; exact fun a m x y => l.prim h0 a m x y) stop) hl (by omega) sub1 sub2 (fun b o e => by rw [upd_ne (ne_of_none (s2 b o e) hp)]; exact s2 b o e) (s2.free hp) upd_same
      refine ⟨_, rfl, rfl, _, rfl, ?_⟩
      rcases List.eq_nil_or_concat l' with e | ⟨l0, c, e⟩
      · subst e
        refine iteFB (by rw [decide_eq_true (str_ne_empty.mpr rfl)]; rfl) ?_
        refine iteFB rfl ?_
        exact ⟨_, rfl, _, rfl, _, rfl, (by show 3 ≤ sizeLine; decide), fun p hp => done (fun z => absurd z (Nat.lt_irrefl _)) p hp⟩
      · rw [List.concat_eq_append] at e
        subst e
        refine iteTB (by rw [decide_eq_false (fun z => by have := str_ne_empty.mp z; simp at this)]; rfl) ?_
        rcases List.eq_nil_or_concat r' with e | ⟨r0, c', e⟩
        · subst e
          exact absurd lr (by simp; omega)
        · rw [List.concat_eq_append] at e
          subst e
          refine ⟨_, rfl, _, rfl, _, _, _, rfl, rfl, ll, last_at l0 c, _, rfl, _, rfl, _, _, _, rfl, rfl, lrr, last_at r0 c', rfl, _, rfl, ?_⟩
          refine ite2 (fun z => ?_) (fun z => ?_)
          · have ec : c = c' := one_eq.mp (of_decide_eq_true z)
            subst ec
            have l1 : (S r0).length ≤ sizeLine := small_len (by simp at lr; omega)
            refine ⟨fun σ' H' => ∃ m', m' < (l0 ++ [c]).length ∧ _, fun σ' H' z => z, _, rfl, _, rfl, _, rfl, _, rfl, ll, _, rfl, _, rfl, _, _, _, rfl, rfl, lrr, last_at r0 c, _, rfl, _, rfl, _, rfl, _, rfl, lrr, _, _, rfl, rfl, ?_, (by show 2 ≤ sizeLine; decide), fun p hp => ?_⟩
            · rw [cut_last]
              show 1 + (S r0).length ≤ sizeLine
              rw [S_len]
              exact Nat.le_trans (show 1 + r0.length ≤ 1001 by simp at lr; omega) (by decide)
            · rw [cut_last, cut_last]
              refine ⟨p, _, rfl, SqT.of upd_same, rfl, _, _, rfl, _, _, rfl, rfl, l0.length, by simp, l0, c :: r0, rfl, ?_, fun b o e => by rw [upd_ne (ne_of_none (s2 b o e) hp)]; exact s2 b o e, by simpa using lr, fun i => (ev_less l0 r0 c i).trans (hev i), by simp at hl; omega, fun x hx => sub1 x (List.mem_append_left _ hx), fun x hx => sub2 x (by simp at hx ⊢; exact hx.symm)⟩
              have e : (⟨#[c]⟩ : Str) ++ S r0 = S (c :: r0) := S_cat [c] r0
              rw [← e]
              rfl
          · refine ⟨_, rfl, _, rfl, _, rfl, (by show 3 ≤ sizeLine; decide), fun p hp => done (fun _ y => z (decide_eq_true (one_eq.mpr ?_))) p hp⟩
            rw [last_getD, last_getD] at y
            exact y
end
end Vf

set_option Elab.async false
set_option maxRecDepth 100000
set_option maxHeartbeats 4000000
set_option exponentiation.threshold 3000
namespace Vf
open PySem L2 SX Vm
theorem pos_pull {b q : Int} (h0 : 0 ≤ q) (h1 : q < b) (h5 : b ≤ 5) : ∃ c : Nat, atI (("01234" : Str).cps.toList) q = some c ∧ 48 ≤ c ∧ (c : Int) < 48 + b := by
  rw [s01234]
  have : q = 0 ∨ q = 1 ∨ q = 2 ∨ q = 3 ∨ q = 4 := by omega
  rcases this with e | e | e | e | e <;> subst e <;> exact ⟨_, rfl, by decide, by omega⟩
theorem len5 : ("01234" : Str).length ≤ sizeLine := by decide +kernel
theorem S_one (c : Nat) (l : List Nat) : (⟨#[c]⟩ : Str) ++ S l = S (c :: l) := S_cat [c] l
theorem S_snoc (c : Nat) (l : List Nat) : S l ++ (⟨#[c]⟩ : Str) = S (l ++ [c]) := S_cat l [c]
/-- a drawn stream -/
def spLStream : Sp := fun vs H Q _ => ∃ (a : Addr) (d : Int × Int × Int) (base wide high : Int), vs = [.ref a, .int base, .int wide, .int high] ∧ H a = some (.lst (dieL d)) ∧ DieOk d ∧ d.2.2 ≤ 990000000 ∧ 2 ≤ base ∧ base ≤ 5 ∧ 1 ≤ wide ∧ wide ≤ 5000 ∧ 1 ≤ high ∧ high ≤ 100 ∧
  ∀ (r : Int) (h q : List Nat) (f : Nat → Nat) (d' : Int × Int × Int) (p : Addr) (H' : Hp), 0 ≤ r → r < wide → (h.length : Int) ≤ high → (q.length : Int) ≤ high → Nf f h q → IsW base h → IsW base q → DieOk d' → d'.2.2 ≤ d.2.2 + 3 + 2 * high →
    Kp a H H' → H' a = some (.lst (dieL d')) → H p = none → H' p = some (.tup [.int r, .str (S h), .str (S q)]) → Q (.ref p) H'
/-- the beginning of a stream -/
def spLBeg (K : PySem.W.Frag) : Sp := fun vs H Q _ => ∃ (p : Addr) (r : V) (h q : List Nat) (many : Nat), vs = [.ref p, .int (many : Int)] ∧ SqT K H p [r, .str (S h), .str (S q)] ∧ 0 < q.length ∧ q.length ≤ 1000 ∧ h.length ≤ 1000 ∧ many ≤ 2000 ∧
  Q (.str (S (beg h q (many / q.length + 1) many))) H
/-- the same stream told otherwise -/
def spOther : Sp := fun vs H Q _ => ∃ (a p : Addr) (d : Int × Int × Int) (r : V) (h q : List Nat), vs = [.ref a, .ref p] ∧ H a = some (.lst (dieL d)) ∧ DieOk d ∧ d.2.2 ≤ 990000000 ∧ H p = some (.tup [r, .str (S h), .str (S q)]) ∧ 0 < q.length ∧ q.length ≤ 100 ∧ h.length ≤ 100 ∧
  ∀ (h' q' : List Nat) (d' : Int × Int × Int) (p' : Addr) (H' : Hp), (∀ i, ev h' q' i = ev h q i) → 0 < q'.length → q'.length ≤ 300 → h'.length ≤ 110 → Sub h' (h ++ q) → Sub q' q → DieOk d' → d'.2.2 ≤ d.2.2 + 2 →
    Kp a H H' → H' a = some (.lst (dieL d')) → H p' = none → H' p' = some (.tup [r, .str (S h'), .str (S q')]) → Q (.ref p') H'
section
variable {P : Program} {w : World} {K : PySem.W.Frag} {mg : Str → Option Value} {base : Heap}
theorem scLStream : FnScope ["die", "base", "wide", "high", "root", "head"] ["die", "base", "wide", "high"] (defScope sLStream) := ⟨rfl, rfl, rfl, by decide +kernel, rfl, by decide +kernel, by decide +kernel⟩
theorem ok_lstream {f fP fW fN : Addr} {fd fdP fdW fdN : FuncData} (F : Fun K "_law_stream" "_law_stream" sLStream f fd) (GP : FnOk P w K mg base CX0 1 fP fdP ["die", "many"] spPull) (cP : Cal K mg "_law_pull" fP fdP ["die", "many"])
    (GW : FnOk P w K mg base CX0 2 fW fdW ["die", "base", "high"] spWord) (cW : Cal K mg "_law_word" fW fdW ["die", "base", "high"]) (GN : FnOk P w K mg base CX0 1 fN fdN ["root", "head", "period"] spLNormal) (cN : Cal K mg "_law_normal" fN fdN ["root", "head", "period"]) :
    FnOk P w K mg base CX0 3 f fd ["die", "base", "wide", "high"] spLStream := by
  refine F.ok scLStream (fun vs H Q E h => ?_) (fun cdv A outer s H vs Q E hr h => ?_)
  · obtain ⟨a, d, b, wi, hi, rfl, _⟩ := h
    rfl
  · obtain ⟨a, d, b, wi, hi, rfl, ha, hd, hc, b2, b5, w1, w5, h1, h5, k⟩ := h
    have nd := scLStream.nd
    have hr1 := hr.mono (show 1 ≤ 2 by decide)
    refine ⟨_, pss_cons (ps_par (i := 4) (j := 5) rfl nd rfl rfl (by decide) rfl rfl (pa_cons (pe_call GP hr1 rfl cP.mg cP.kp cP.b .nil pass0 (pa_cons (pv 0) (pa_cons (pv 2) pa_nil))) (pa_cons (pe_call GW hr rfl cW.mg cW.kp cW.b .nil pass0 (pa_cons (pv 0) (pa_cons (pv 1) (pa_cons (pv 3) pa_nil)))) pa_nil)) rfl)
      (pss_one (ps_ret (pe_call GN hr1 rfl cN.mg cN.kp cN.b .nil pass0 (pa_cons (pv 4) (pa_cons (pv 5) (pa_cons (pe_op op_add_str (pe_ix ix_str pe_str (pe_call GP hr1 rfl cP.mg cP.kp cP.b .nil pass0 (pa_cons (pv 0) (pa_cons (pv 1) pa_nil))) (fun _ _ => rfl))
        (pe_call GW hr rfl cW.mg cW.kp cW.b .nil pass0 (pa_cons (pv 0) (pa_cons (pv 1) (pa_cons (pe_op op_sub (pv 3) pe_int) pa_nil))))) pa_nil)))))), ?_⟩
    refine ⟨_, rfl, _, rfl, a, d, wi, rfl, ha, hd, w1, w5, by omega, fun r d1 hd1 hc1 r0 r1 => ?_⟩
    refine ⟨_, rfl, _, rfl, _, rfl, a, d1, b, hi, rfl, upd_same, hd1, by omega, b2, b5, by omega, h5, fun l d2 hd2 hc2 hw hl => ?_⟩
    rw [upd_upd']
    refine ⟨_, _, rfl, ?_⟩
    refine ⟨_, rfl, _, rfl, _, rfl, _, rfl, a, d2, b, rfl, upd_same, hd2, by omega, by omega, by omega, fun q d3 hd3 hc3 q0 q1 => ?_⟩
    obtain ⟨c, hc', c0, c1⟩ := pos_pull q0 q1 b5
    rw [upd_upd']
    refine ⟨_, q, c, rfl, rfl, len5, hc', ?_⟩
    refine ⟨_, rfl, _, rfl, _, rfl, _, _, rfl, rfl, a, d3, b, hi - 1, rfl, upd_same, hd3, by omega, b2, b5, by omega, by omega, fun l2 d4 hd4 hc4 hw2 hl2 => ?_⟩
    rw [upd_upd']
    refine ⟨_, _, rfl, rfl, ?_, ?_⟩
    · rw [S_len]
      show 1 + l2.length ≤ sizeLine
      exact Nat.le_trans (show 1 + l2.length ≤ 200 by omega) (by decide)
    · rw [S_one]
      refine ⟨.int r, l, c :: l2, rfl, by simp, by simp; omega, by omega, fun h' q' p H' nf hl' hq' sh sq sm np hp => ?_⟩
      have nap : p ≠ a := fun z => by rw [z, upd_same] at np; cases np
      have npH : H p = none := by rw [upd_ne nap] at np; exact np
      have wq : IsW b (c :: l2) := fun x hx => by
        rcases List.mem_cons.mp hx with e | e
        · rw [e]
          exact ⟨c0, c1⟩
        · exact hw2 x e
      refine k r h' q' _ d4 p H' r0 r1 (by omega) (by simp at hq'; omega) nf (hw.of sh) (wq.of sq) hd4 (by omega) (fun x o n e => sm x o (by rw [upd_ne n]; exact e)) (sm a _ upd_same) npH hp
theorem scLBeg : FnScope ["stream", "many", "root", "head", "period"] ["stream", "many"] (defScope sLBeg) := ⟨rfl, rfl, rfl, by decide +kernel, rfl, by decide +kernel, by decide +kernel⟩
theorem ok_lbeg {f : Addr} {fd : FuncData} (F : Fun K "_law_beginning" "_law_beginning" sLBeg f fd) (ml : mg "len" = none) : FnOk P w K mg base CX0 1 f fd ["stream", "many"] (spLBeg K) := by
  refine F.ok scLBeg (fun vs H Q E h => ?_) (fun cdv A outer s H vs Q E hr h => ?_)
  · obtain ⟨p, r, h, q, many, rfl, _⟩ := h
    rfl
  · obtain ⟨p, r, h, q, many, rfl, hp, h0, h1, h2, hm, k⟩ := h
    have nd := scLBeg.nd
    refine ⟨_, pss_cons (ps_asg (pv 0) (pg_tup rfl (pgs_cons (pg_name (i := 2) nd rfl (.inl rfl)) (pgs_cons (pg_name (i := 3) nd rfl (.inl rfl)) (pgs_cons (pg_name (i := 4) nd rfl (.inl rfl)) pgs_nil)))))
      (pss_one (ps_ret (pe_slice sl_str (pe_op op_add_str (pv 3) (pe_op op_mul_str (pv 4) (pe_op op_add (pe_op op_fdiv (pv 1) (pe_callB call_len_str (by rfl) ml boot_len (pa_cons (pv 4) pa_nil))) pe_int))) po_none (po_some (pv 1))))), ?_⟩
    refine ⟨_, rfl, p, _, rfl, hp, rfl, _, _, rfl, _, _, rfl, _, _, rfl, rfl, ?_⟩
    have hk : many / q.length + 1 ≤ 2001 := Nat.succ_le_succ (Nat.le_trans (Nat.div_le_self _ _) hm)
    have hmul : (many / q.length + 1) * q.length ≤ 3000 := by
      rw [Nat.succ_mul]
      have := Nat.div_mul_le_self many q.length
      omega
    have ek : ((many : Int) / ((S q).length : Int) + 1) = ((many / q.length + 1 : Nat) : Int) := by
      rw [S_len]
      rfl
    refine ⟨_, rfl, _, rfl, _, rfl, _, rfl, _, rfl, small_len h1, _, _, rfl, rfl, ⟨by rw [S_len]; omega, by rw [S_len]; omega⟩, _, _, rfl, rfl, q, many / q.length + 1, rfl, congrArg V.int ek, by omega, by omega, by omega, _, _, rfl, rfl, ?_, _, rfl, _, rfl, _, rfl, ?_, ?_⟩
    · rw [S_len, S_len, rep_len]
      exact Nat.le_trans (show h.length + (many / q.length + 1) * q.length ≤ 4000 by omega) (by decide)
    · rw [S_cat, S_len, List.length_append, rep_len]
      exact Nat.le_trans (show h.length + (many / q.length + 1) * q.length ≤ 4000 by omega) (by decide)
    · rw [S_cat, cut_take]
      · exact k
      · have := Nat.lt_div_mul_add (a := many) h0
        rw [List.length_append, rep_len, Nat.succ_mul]
        omega
end
end Vf


set_option Elab.async false
set_option maxRecDepth 100000
set_option maxHeartbeats 4000000
/-! An error class over IndexError whose __init__ calls that of its base and keeps a value. -/
namespace VNum
open PySem PySem.W PySem.Calls PyProof.Rows L2
def mainArgs : Arguments := defArgs (inClass (Vf.top 4) 0)
def mainBody : List Stmt := defBody (inClass (Vf.top 4) 0)
def mainScope : Scope := defScope (inClass (Vf.top 4) 0)
abbrev bmI : List Value := [.type "IndexError", .type "LookupError", .type "Exception", .type "BaseException", .type "object"]
/-- what the written part says of the class at C and of its __init__ at fI -/
structure NumTxt (P : Program) (K : Frag) (mg : Str → Option Value) (C fI : Addr) : Prop where
  gC : mg "InvalidNumber" = some (.ref C)
  noSuper : mg "super" = none
  cls : ∃ nm q N bs sn sub ab col dd k0 k1 k2 k3 k5, K.lookup C = some (excClassObj nm q C N bs bmI true sn sub ab col dd k0 k1 k2 k3 k5 "IndexError.__new__")
  sa : findIn K (.ref C) "__setattr__" = some (some (.builtin "object.__setattr__"))
  ga : findIn K (.ref C) "__getattribute__" = some (some (.builtin "BaseException.__getattribute__"))
  gg : findIn K (.ref C) "__getattr__" = some none
  ov : excOver K C bmI = true
  qi : excInitIn K C bmI "IndexError.__new__" = true
  tk : takerIn K C "value" = some none
  noV : findIn K (.ref C) "value" = some none
  hdC : hasDictIn K C = true
  iC : findIn K (.ref C) "__init__" = some (some (.ref fI))
  tC : typeIn K (.ref fI) = some (.type "function")
  any : nsIn K cStatics "thirdparty.any" = some none
  sup : ks_superIn K C C "__init__" = some (some (.builtin "IndexError.__init__"))
  sI : subIn K (.ref C) (.type "IndexError") = some true
  mro : mroIn K C (.ref C) = some true
  kC : keepIn K (.ref C) = true
  exC : subIn K (.ref C) (.type "BaseException") = some true
  tyC : typeIn K (.ref C) = some (.type "type")
  top : (P.main.scope.names.lookup ("super" : Str)).isSome = false
  fn : ∃ (oc : Value) (od : Option Addr) (doc pm : Value) (an : Option Addr) (cda cc : Addr) (ct : Value) (osl : Array (Option Value)) (vs : Array Value) (file : Str) (tf : Tok) (ccl : Value) (cdd : Option Addr) (ccs : Array (Option Value)) (cl : Value) (cld : Option Addr) (csl : Array (Option Value)),
    K.lookup fI = some ⟨oc, od, .func (ksFn "__init__" "InvalidNumber.__init__" mainArgs mainBody mainScope .none .none doc pm an (.ref cda) ct cc), osl⟩ ∧ codeIn K (.ref cda) "InvalidNumber.__init__" = true ∧
    K.lookup cda = some ⟨ccl, cdd, .fields vs, ccs⟩ ∧ vs[2]? = some (.str file tf) ∧ ((P.main.file : Str) == file) = true ∧ K.lookup cc = some ⟨cl, cld, .cell (some (.ref C)), csl⟩
/-- what __init__ leaves of a fresh exception at x -/
structure InitEnd (h h' : Heap) (x C dx t1 : Addr) (v : Value) : Prop where
  keep : ∀ b o, b ≠ x → h.get? b = some o → h'.get? b = some o
  obj : h'.get? x = some { cls := .ref C, dict := some dx, data := .fields #[.ref t1, .none, .none, .none, .bool false, .none] }
  dbig : h.objs.size ≤ dx
  dne : dx ≠ x
  ns : h'.Ns1 dx (fun y => if y = "value" then some v else none)
theorem ns1_one {h : Heap} {dx : Addr} {hs : Int} {t : Tok} {v : Value} {es : List DictEntry} {n : Nat} (e : (putL "value" hs (.str "value" t) v [], putN "value" [] 0) = (es, n)) (hd : h.get? dx = some (dictOf es n)) : h.Ns1 dx (fun y => if y = "value" then some v else none) := by
  obtain ⟨e1, e2⟩ := Prod.mk.inj e
  subst e1
  subst e2
  refine ⟨_, _, _, hd, rfl, ?_, ?_, fun name => ?_⟩
  · intro e he
    have he' : e ∈ [(⟨hs, .str "value" t, v⟩ : DictEntry)] := Array.mem_toList_iff.mpr he
    rw [List.mem_singleton.mp he']
    exact ⟨_, _, rfl⟩
  · exact List.pairwise_singleton _ _
  · show ((#[(⟨hs, .str "value" t, v⟩ : DictEntry)] : Array DictEntry).find? fun e => e.key.isStr name).map (·.val) = if name = "value" then some v else none
    by_cases hn : name = "value"
    · subst hn
      rw [if_pos rfl]
      simp [Value.isStr]
    · rw [if_neg hn]
      have : (("value" : Str) == name) = false := by simpa using (fun z => hn z.symm)
      simp [Value.isStr, this]
section
variable {P : Program} {w : World} {A : Around} {R : Result → Shared → Prop} {s : Shared} {K : Frag} {mg : Str → Option Value} {C fI : Addr}
theorem num_init (T : NumTxt P K mg C fI) {x t0 : Addr} {v : Value} (X : K.In s.heap) (hg : s.heap.Ns mainGlobals mg) {mb : Str → Option Value} (hb : s.heap.Ns builtinsNs mb) (hbb : ∀ x : Str, x ≠ "__name__" → mb x = bootBuiltins x) (hlim : s.heap.NoLimit)
    (hx : s.heap.get? x = some (HandSPX.excO C t0)) (hnx : K.lookup x = none) (hroom : A.depth < recursionLimit) (hq : ∀ h' tk dx t1, InitEnd s.heap h' x C dx t1 v → R (.ok (.ret .none)) { s with heap := h', toks := tk }) :
    codeAny (model P w) A (.call (.ref fI) ⟨[.ref x, v], []⟩) R s := by
  obtain ⟨oc, od, doc, pm, an, cda, cc, ct, osl, vs, file, tf, ccl, cdd, ccs, cl, cld, csl, ho, hcd, hco, hvs, hfile, hcell⟩ := T.fn
  obtain ⟨nm, q, N, bs, sn, sub, ab, col, dd, k0, k1, k2, k3, k5, hC⟩ := T.cls
  refine ks_codeAny_call_defAt (fd := ksFn "__init__" "InvalidNumber.__init__" mainArgs mainBody mainScope .none .none doc pm an (.ref cda) ct cc) (body := mainBody) (binds := [("self", .ref x), ("value", v)]) hroom (X _ _ ho) rfl hlim (codeRec_of X hcd) rfl (BindsTo.of_eq rfl) (show ∀ x ∈ mainScope.names, x.2 ≠ .cell by decide +kernel) (locs rfl) (fun h₁ hns hk₁ => ?_)
  have F0 : Fr (hideAll s.heap [x]) s.heap.objs.size h₁ (fun y => [(("self" : Str), Value.ref x), ("value", v)].reverse.lookup y) := ⟨hns, fun b o e => hk₁ b o (of_hideAll _ e), Nat.le_of_eq (hideAll_size _ _)⟩
  have N0 : News (hideAll s.heap [x]) s.heap.objs.size h₁ [(x, excObj C t0 none .none)] := fun p hp => by
    rw [List.mem_singleton.mp hp]
    exact ⟨hk₁ _ _ hx, Nat.ne_of_lt (Heap.lt_size hx), hideAll_none _ (List.mem_singleton_self _)⟩
  have X₀ : K.In (hideAll s.heap [x]) := fun b o e => hideAll_get _ (X b o e) (fun z => by rw [List.mem_singleton.mp z, hnx] at e; cases e)
  have X₁ : K.In h₁ := X.keeps hk₁
  refine ks_wpAt_execs_cons (ks_wpAt_Expr_any (ks_wpAt_MethodCall ?_))
  refine ks_wpAt_super_base (env := ksEnv "InvalidNumber.__init__" mainScope s.heap.objs.size fI (.ref cda) cc) rfl rfl (by decide +kernel) rfl (X₁ _ _ ho) rfl rfl rfl (X₁ _ _ hco) rfl hvs hfile T.top ?_
  refine ks_loadName_global rfl rfl (loadGlobal_builtin (env := ksEnv "InvalidNumber.__init__" mainScope s.heap.objs.size fI (.ref cda) cc) (hg.keeps hk₁) T.noSuper (hb.keeps hk₁) ((hbb _ (by decide +kernel)).trans (by decide +kernel)) ⟨rfl, ?_⟩)
  refine wpAny_loadName_free rfl rfl rfl ⟨_, X₁ _ _ hcell, rfl⟩ ?_
  refine wpAny_loadName_local rfl rfl hns rfl ?_
  refine ks_wpAny_isType_cls (X₁ _ _ hC) rfl ⟨rfl, ?_⟩
  have I1 : InstAt h₁ x (HandSPX.excO C t0) C none := ⟨hk₁ _ _ hx, rfl, rfl, trivial⟩
  refine ks_wpAny_call_super (X₁ _ _ hC) rfl I1.at_ I1.cls (fun c e => nomatch e) (looks_mroIn X₁ T.mro) (fun h₂ e2 k2 => ?_)
  obtain ⟨F2, N2, l2⟩ := ks_newsPush (s := { s with heap := h₁ }) F0 N0 rfl e2 k2
  refine kxs_method kxs_IndexError F2 X₀ N2 (List.Mem.head _) (InstAt.of_exc0 (t := t0) (c2 := .none) N2 (List.Mem.tail _ (List.Mem.head _))) T.any T.sup T.sI (by decide +kernel) (fun q3 h₃ F3 N3 l3 => ?_)
  refine kxs_callWith1 (i := "IndexError.__init__") (x := x) N3 (List.Mem.head _) ?_
  refine Calls.spliced_cons (Calls.Constant_str (k := 0) (pos := ⟨0, 0, 0, 0⟩) ?_)
  refine Calls.spliced_nil ⟨kxs_at N3 (List.Mem.head _), ?_⟩
  have n1 : x ≠ h₁.objs.size := Nat.ne_of_lt (Heap.lt_size I1.at_)
  have n2 : x ≠ q3 := Nat.ne_of_lt (l3 _ (List.Mem.tail _ (List.Mem.head _)))
  refine kxs_call F3 X₀ N3 PySem.F.excBase_IndexError T.qi (List.Mem.head _) (.tail (Ne.symm n2) (.tail (Ne.symm n1) (.head (fun p hp => by cases hp)))) (by show 1 ≤ sizeLine; decide) (fun t4 h₄ F4 N4 l4 => ?_)
  refine ks_wpAt_execs_cons (ks_wpAt_Assign_Attr ?_)
  refine wpAt_of_wpAny (wpAny_Name (wpAny_loadName_local rfl rfl F4.ns rfl (wpAny_Name (wpAny_loadName_local rfl rfl F4.ns rfl ?_) (by decide))) (by decide))
  obtain ⟨es, n, ee⟩ : ∃ es n, (putL "value" (PyData.keyHash w.params "value") (.str "value" (s.toks + 2 + 1 + 1 + 1)) v [], putN "value" [] 0) = (es, n) := ⟨_, _, rfl⟩
  refine set_exc0 PySem.F.store_IndexError F4 X₀ N4 (List.Mem.tail _ (List.Mem.tail _ (List.Mem.tail _ (List.Mem.head _)))) T.sa T.ov T.tk T.hdC ee (.tail ?_ (.tail (Ne.symm n2) (.tail (Ne.symm n1) (.head (fun p hp => by cases hp))))) ?_ (fun dx h₅ F5 N5 l5 => ?_)
  · exact Nat.ne_of_gt (l4 _ (List.Mem.tail _ (List.Mem.tail _ (List.Mem.head _))))
  · rw [← (Prod.mk.inj ee).1]
    show 1 ≤ 1000
    decide
  · have a1 : t4 < dx := l5 _ (List.Mem.head _)
    have a2 : x < dx := l5 _ (List.Mem.tail _ (List.Mem.tail _ (List.Mem.tail _ (List.Mem.head _))))
    have a3 : h₁.objs.size < t4 := l4 _ (List.Mem.tail _ (List.Mem.head _))
    have a4 : s.heap.objs.size < h₁.objs.size := hns.lt
    refine wpAt_of_wpAny (wpAny_execs_nil (hq h₅ _ dx t4 ⟨fun b o hb e => F5.keep b o (hideAll_get _ e (fun z => hb (List.mem_singleton.mp z))), ?_, Nat.le_of_lt (Nat.lt_trans a4 (Nat.lt_trans a3 a1)), Nat.ne_of_gt a2, ns1_one ee (N5 _ (List.Mem.head _)).1⟩))
    exact (N5 _ (List.Mem.tail _ (List.Mem.tail _ (List.Mem.tail _ (List.Mem.tail _ (List.Mem.head _)))))).1
/-- a made error -/
structure OwnMade (h h' : Heap) (e C d : Addr) (v : Value) : Prop where
  keep : ∀ b o, h.get? b = some o → h'.get? b = some o
  new : h.objs.size ≤ e
  obj : ∃ oe vs, h'.get? e = some oe ∧ oe.cls = .ref C ∧ oe.dict = some d ∧ oe.data = .fields vs ∧ vs[1]? = some .none
  dbig : h.objs.size ≤ d
  dne : d ≠ e
  ns : h'.Ns1 d (fun y => if y = "value" then some v else none)
theorem bmI_contains : ∀ X : String, bmI.contains (.type X) = bmI.contains (.type X) := fun _ => rfl
theorem num_made (T : NumTxt P K mg C fI) {v : Value} (X : K.In s.heap) (hg : s.heap.Ns mainGlobals mg) {mb : Str → Option Value} (hb : s.heap.Ns builtinsNs mb) (hbb : ∀ x : Str, x ≠ "__name__" → mb x = bootBuiltins x) (hlim : s.heap.NoLimit) (hroom : A.depth + 1 < recursionLimit)
    (hq : ∀ h' tk e d, OwnMade s.heap h' e C d v → R (.ok (.ret (.ref e))) { s with heap := h', toks := tk }) : codeAny (model P w) A (.call (.ref C) ⟨[v], []⟩) R s := by
  obtain ⟨nm, q, N, bs, sn, sub, ab, col, dd, k0, k1, k2, k3, k5, hC⟩ := T.cls
  obtain ⟨hp, g, dr, tk, os⟩ := s
  have k : ∀ b o, hp.get? b = some o → ((hp.push (kdv_tup [v])).push (HandSPX.excO C hp.objs.size)).get? b = some o := fun b o e => Heap.get?_push_of_some _ (Heap.get?_push_of_some _ e)
  have hget : ((hp.push (kdv_tup [v])).push (HandSPX.excO C hp.objs.size)).get? (hp.objs.size + 1) = some (HandSPX.excO C hp.objs.size) := by heap_get
  have hnx : K.lookup (hp.objs.size + 1) = none := by
    cases e : K.lookup (hp.objs.size + 1) with
    | none => rfl
    | some o =>
      have z : hp.get? (hp.objs.size + 1) = some o := X _ _ e
      exact absurd (Nat.lt_of_succ_lt (Heap.lt_size z)) (Nat.lt_irrefl _)
  refine HandSPX.call_own PySem.F.excBase_IndexError bmI_contains (X _ _ hC) (looks_findIn X T.iC) (fun self => bind_fn X self T.tC) (by show 1 ≤ sizeLine; decide) ?_
  refine num_init (s := ⟨(hp.push (kdv_tup [v])).push (HandSPX.excO C hp.objs.size), g, dr, tk, os⟩) T (X.keeps k) (hg.keeps k) (hb.keeps k) hbb (hlim.keeps k) hget hnx ?_ fun h' tk' dx t1 M => ?_
  · show A.depth + 1 < recursionLimit
    exact hroom
  · obtain ⟨k', hx, dn, dne, hns⟩ := M
    have old : ∀ b o, hp.get? b = some o → h'.get? b = some o := fun b o e => k' b o (Nat.ne_of_lt (Nat.lt_succ_of_lt (Heap.lt_size e))) (k b o e)
    have z : hp.objs.size + 1 + 1 ≤ dx := by
      first
        | (simpa only [Heap.size_push] using dn)
        | exact dn
    exact ⟨rfl, hq h' tk' (hp.objs.size + 1) dx ⟨old, Nat.le_succ _, ⟨_, _, hx, rfl, rfl, rfl, rfl⟩, Nat.le_trans (Nat.le_trans (Nat.le_succ _) (Nat.le_succ _)) z, dne, hns⟩⟩
end
end VNum
namespace VNum
open PySem PySem.Spec PyProof.Rows L2
theorem relO_num {v : V} {v' : Value} (r : RelV v v') (f : Str) : RelO (List.lookup f [(("value" : Str), v)]) (if f = "value" then some v' else none) := by
  by_cases hw : f = "value"
  · subst hw
    rw [if_pos rfl]
    have q : List.lookup ("value" : Str) [(("value" : Str), v)] = some v := by simp [List.lookup]
    rw [q]
    exact r
  · rw [if_neg hw]
    have qw : (f == ("value" : Str)) = false := by simpa using hw
    have q2 : List.lookup f [(("value" : Str), v)] = none := by simp [List.lookup, qw]
    rw [q2]
    trivial
section
variable {X : Cx} {C fI : Addr}
/-- InvalidNumber(e) -/
def tMkNum (C : Addr) (ta : TA) : L2.St → Hp → XK → Prop := fun σ H Q => ta σ H fun vs H1 => ∃ v, vs = [v] ∧ ∀ d, H1 d = none → Q (.ref C) (some d) (upd H1 d (.xd [(("value" : Str), v)]))
theorem pmk_num {a : Expr} {ta : TA} {p pos : Pos} {k : Nat} (T : NumTxt X.prog X.K X.mg C fI) (hr : Room k X.A) (ha : PA X [a] ta) (hg : Gl X "InvalidNumber" := by rfl)
    (he : starEach (a :: []) X.env = (false, eval a X.env) :: starEach [] X.env := by rfl) (hpl : (backTo pos (starEach [] X.env)).any (·.1) = false := by rfl) :
    PMk X (.Call (.Name "InvalidNumber" p) [a] [] pos) (tMkNum C ta) := by
  intro pins s σ H Q I h
  refine wpAny_Call_Name_kw (ld_glob I hg T.gC ?_)
  refine PySem.W.callWith_K (h₀ := X.base) I.ok.mod.kin T.kC (thn (ha.run pos pins s σ H _ I h) fun us s1 hh => ?_) he hpl
  obtain ⟨vs, H1, I1, r1, v, ev, q1⟩ := hh
  subst ev
  refine ⟨I1.kIn, ?_⟩
  cases r1 with
  | cons rv rn =>
    rename_i v' us'
    cases rn
    show wpAny _ _ (call (.ref C) [v']) _ _ _
    have hlim := I1.nolimit
    have hG := I1.mod.glob.keeps I1.bk
    obtain ⟨mb, hB, hbb⟩ := I1.mod.blt
    have hB' := hB.keeps I1.bk
    obtain ⟨hp, g, dr, tk, os⟩ := s1
    refine wpAny_call (num_made T I1.kIn hG hB' hbb hlim (by have := hr.dp; omega) fun h' tk' e d M => ?_)
    show MkP X pins σ Q (.ref e) ⟨h', g, dr, tk', os⟩
    obtain ⟨oe, fv, hoe, hc, hd, hdat, h1⟩ := M.obj
    have hns := M.ns
    obtain ⟨G', g1, g2⟩ := restrict h' fun b => decide (b ≠ e)
    have gk : ∀ b, b ≠ e → G'.get? b = h'.get? b := fun b hb => g1 b (decide_eq_true hb)
    have ge : G'.get? e = none := g2 e (by simp)
    have old : ∀ b o, hp.get? b = some o → G'.get? b = some o := fun b o q => (gk b (Nat.ne_of_lt (Nat.lt_of_lt_of_le (Heap.lt_size q) M.new))).trans (M.keep b o q)
    have ob : ObjOk X.prog X.w (upd H1 d (.xd [(("value" : Str), v)])) G' d (.xd [(("value" : Str), v)]) :=
      ⟨_, hns.at (fun o q => (gk d M.dne).trans q), fun f => relO_num rv f⟩
    have J : Inv X pins σ (upd H1 d (.xd [(("value" : Str), v)])) ⟨G', g, dr, tk', os⟩ := I1.laid (t' := tk') old M.dbig ob
    refine ⟨e, oe, fv, ⟨G', g, dr, tk', os⟩, _, .ref C, some d, rfl, J, fun b o q => ?_, ge, hoe, ⟨hc, hd⟩, hdat, h1, ?_, rfl, I1.bare, raises_own T.exC T.tyC, q1 d (I1.hok.fresh M.dbig)⟩
    · by_cases hb : b = e
      · have q' : G'.get? b = some o := q
        rw [hb, ge] at q'; cases q'
      · exact (gk b hb).symm.trans q
    · rw [upd_ne (Ne.symm M.dne)]
      exact I1.hok.fresh M.new
end
end VNum


set_option Elab.async false
set_option maxRecDepth 100000
set_option maxHeartbeats 4000000
set_option exponentiation.threshold 3000
namespace Vf
open PySem L2 SX Vm
open PySem.Builtin.Str PySem.StrLaws
/-- a plain value, and its class -/
inductive Pl (H : Hp) : V → Value → Prop where
  | non : Pl H .non (.type "NoneType")
  | bl (b : Bool) : Pl H (.bl b) (.type "bool")
  | int (n : Int) : Pl H (.int n) (.type "int")
  | str (s : Str) (h : s.length ≤ 9000) : Pl H (.str s) (.type "str")
  | lst {p : Addr} {xs : List V} (h : H p = some (.lst xs)) : Pl H (.ref p) (.type "list")
  | tup {p : Addr} {xs : List V} (h : H p = some (.tup xs)) : Pl H (.ref p) (.type "tuple")
  | dct {p : Addr} {kvs : List (Key × V)} (h : H p = some (.dK kvs)) : Pl H (.ref p) (.type "dict")
theorem Pl.tyx {K : PySem.W.Frag} {H : Hp} {v : V} {t : Value} (p : Pl H v t) : TyX K H v t := by
  cases p with
  | non => exact .base .non
  | bl b => exact .base (.bl b)
  | int n => exact .base (.int n)
  | str s _ => exact .base (.str s)
  | lst h => exact .base (.lst h)
  | tup h => exact .base (.tup h)
  | dct h => exact .base (.dK h)
theorem Pl.same {H H' : Hp} {v : V} {t : Value} (p : Pl H v t) (s : ∀ b o, H b = some o → (∃ xs, o = .lst xs ∨ o = .tup xs) ∨ (∃ kvs, o = .dK kvs) → H' b = some o) : Pl H' v t := by
  cases p with
  | non => exact .non
  | bl b => exact .bl b
  | int n => exact .int n
  | str x h => exact .str x h
  | lst h => exact .lst (s _ _ h (.inl ⟨_, .inl rfl⟩))
  | tup h => exact .tup (s _ _ h (.inl ⟨_, .inr rfl⟩))
  | dct h => exact .dct (s _ _ h (.inr ⟨_, rfl⟩))
def isIntV : V → Bool
  | .int _ => true
  | _ => false
def withinV (lo hi : Int) : V → Bool
  | .int n => decide (lo ≤ n) && decide (n ≤ hi)
  | _ => false
/-- the digits of a base -/
def digs (b : Nat) : List Nat := [48, 49, 50, 51, 52].take b
def wordV (b : Nat) : V → Bool
  | .str s => s.cps.toList.all fun c => decide (48 ≤ c) && decide (c < 48 + b)
  | _ => false
theorem strip_empty (l ds : List Nat) : (Txt.stripChars (S l) (S ds) = ("" : Str)) ↔ ∀ c ∈ l, c ∈ ds := by
  rw [str_empty]
  unfold Txt.stripChars
  rw [PyProof.Rows.stripBy_eq]
  obtain ⟨a1, a2, a3⟩ := PyProof.Rows.lo_facts (S ds).cps.contains (S l)
  obtain ⟨b1, b2, b3, b4⟩ := PyProof.Rows.hi_facts (S ds).cps.contains (S l) _ a1
  generalize stripLo (S ds).cps.contains true (S l) = lo at *
  generalize stripHi (S ds).cps.contains true (S l) lo = hi at *
  have gd : ∀ k, k < l.length → (S l).cps.getD k 0 ∈ l := fun k hk => by
    have : (S l).cps.getD k 0 = l[k] := by simp [Array.getD, hk]
    rw [this]
    exact List.getElem_mem hk
  have gc : ∀ c, (S ds).cps.contains c = true ↔ c ∈ ds := fun c => by simp
  rw [S_len] at a1 a3 b2 b3
  constructor
  · intro e
    have sz : hi - lo = 0 := by
      have z := congrArg (fun s : Str => s.cps.size) e
      have z' : hi - lo = 0 ∨ l.length - lo = 0 := by simpa [strSub] using z
      omega
    intro c hc
    obtain ⟨k, hk, rfl⟩ := List.getElem_of_mem hc
    have gk : (S l).cps.getD k 0 = l[k] := by simp [Array.getD, hk]
    rw [← gc, ← gk]
    rcases Nat.lt_or_ge k lo with h | h
    · exact a2 k h
    · exact b3 k (by omega) hk
  · intro e
    have lo_l : lo = l.length := by
      rcases a3 with h | h
      · exact h
      · refine Classical.byContradiction fun hn => ?_
        have hlt : lo < l.length := by omega
        have z := (gc _).mpr (e _ (gd lo hlt))
        rw [z] at h
        cases h
    have : hi = l.length := by omega
    rw [this, lo_l]
    show Str.mk _ = Str.mk _
    simp
theorem digs_mem {b c : Nat} (h5 : b ≤ 5) : c ∈ digs b ↔ 48 ≤ c ∧ c < 48 + b := by
  unfold digs
  have : b = 0 ∨ b = 1 ∨ b = 2 ∨ b = 3 ∨ b = 4 ∨ b = 5 := by omega
  rcases this with e | e | e | e | e | e <;> subst e <;> simp <;> omega
theorem word_strip (s : Str) {b : Nat} (h5 : b ≤ 5) : decide (V.str (Txt.stripChars s (S (digs b))) = V.str ("" : Str)) = wordV b (.str s) := by
  have e : s = S s.cps.toList := (S_tl s).symm
  have key := strip_empty s.cps.toList (digs b)
  rw [← e] at key
  show _ = s.cps.toList.all fun c => decide (48 ≤ c) && decide (c < 48 + b)
  by_cases h : ∀ c ∈ s.cps.toList, c ∈ digs b
  · rw [key.mpr h, decide_eq_true rfl]
    symm
    rw [List.all_eq_true]
    intro c hc
    have := (digs_mem h5).mp (h c hc)
    simp [this.1, this.2]
  · rw [decide_eq_false (fun z => h (key.mp (V.str.inj z)))]
    symm
    rw [List.all_eq_false]
    obtain ⟨c, hc⟩ := Classical.not_forall.mp h
    obtain ⟨h1, h2⟩ := Classical.not_imp.mp hc
    refine ⟨c, h1, fun z => h2 ((digs_mem h5).mpr ?_)⟩
    simpa using z
/-- names that the module has not taken, and its constants -/
structure Nm (mg : Str → Option Value) : Prop where
  isinst : mg "isinstance" = none
  int : mg "int" = none
  bool : mg "bool" = none
  str : mg "str" = none
  tuple : mg "tuple" = none
  len : mg "len" = none
  minB : ∃ t, mg "MIN_BASE" = some (.int 2 t)
  maxB : ∃ t, mg "MAX_BASE" = some (.int 5 t)
  maxR : ∃ t, mg "MAX_ROOTS" = some (.int 5000 t)
  dig : ∃ t, mg "DIGITS" = some (.str "01234" t)
def spIsInt : Sp := fun vs H Q _ => ∃ (v : V) (t : Value), vs = [v] ∧ Pl H v t ∧ Q (.bl (isIntV v)) H
def spWithin : Sp := fun vs H Q _ => ∃ (lo hi : Int) (v : V) (t : Value), vs = [.int lo, .int hi, v] ∧ Pl H v t ∧ Q (.bl (withinV lo hi v)) H
def spReqNum (C : Addr) : Sp := fun vs H Q E => ∃ (lo hi : Int) (v : V) (t : Value), vs = [.int lo, .int hi, v] ∧ Pl H v t ∧ (withinV lo hi v = true → Q .non H) ∧ (withinV lo hi v = false → ∀ d, H d = none → E (.ref C) (some d) (upd H d (.xd [(("value" : Str), v)])))
def spReqB (C : Addr) (lo hi : Int) : Sp := fun vs H Q E => ∃ (v : V) (t : Value), vs = [v] ∧ Pl H v t ∧ (withinV lo hi v = true → Q .non H) ∧ (withinV lo hi v = false → ∀ d, H d = none → E (.ref C) (some d) (upd H d (.xd [(("value" : Str), v)])))
def spWordForm : Sp := fun vs H Q _ => ∃ (b : Nat) (v : V) (t : Value), vs = [.int (b : Int), v] ∧ 2 ≤ b ∧ b ≤ 5 ∧ Pl H v t ∧ Q (.bl (wordV b v)) H
section
variable {P : Program} {w : World} {K : PySem.W.Frag} {mg : Str → Option Value} {base : Heap}
theorem scIsInt : FnScope ["value"] ["value"] (defScope sIsInt) := ⟨rfl, rfl, rfl, by decide +kernel, rfl, by decide +kernel, by decide +kernel⟩
theorem kit_int {H : Hp} {v : V} {t : Value} (p : Pl H v t) : ∃ b1 b2, PySem.W.kitOne K t (.type "int") = some b1 ∧ PySem.W.kitOne K t (.type "bool") = some b2 ∧ (b1 && !b2) = isIntV v := by
  cases p with
  | non => exact ⟨false, false, kit_ty (by decide +kernel), kit_ty (by decide +kernel), rfl⟩
  | bl b => exact ⟨true, true, kit_ty (by decide +kernel), kit_ty (by decide +kernel), rfl⟩
  | int n => exact ⟨true, false, kit_ty (by decide +kernel), kit_ty (by decide +kernel), rfl⟩
  | str s => exact ⟨false, false, kit_ty (by decide +kernel), kit_ty (by decide +kernel), rfl⟩
  | lst h => exact ⟨false, false, kit_ty (by decide +kernel), kit_ty (by decide +kernel), rfl⟩
  | tup h => exact ⟨false, false, kit_ty (by decide +kernel), kit_ty (by decide +kernel), rfl⟩
  | dct h => exact ⟨false, false, kit_ty (by decide +kernel), kit_ty (by decide +kernel), rfl⟩
theorem ok_isint {f : Addr} {fd : FuncData} (F : Fun K "is_integer" "is_integer" sIsInt f fd) (N : Nm mg) : FnOk P w K mg base CX0 1 f fd ["value"] spIsInt := by
  refine F.ok scIsInt (fun vs H Q E h => ?_) (fun cdv A outer s H vs Q E hr h => ?_)
  · obtain ⟨v, t, rfl, _⟩ := h
    rfl
  · obtain ⟨v, t, rfl, pl, k⟩ := h
    refine ⟨_, pss_one (ps_ret (pe_and (pe_callB call_isi (by rfl) N.isinst PyProof.Rows.boot_isinstance (pa_cons (pv 0) (pa_cons (pe_bltn (v := .ty "int") (by rfl) N.int PyProof.Rows.boot_int rfl) pa_nil)))
      (pe_one (pe_not (pe_callB call_isi (by rfl) N.isinst PyProof.Rows.boot_isinstance (pa_cons (pv 0) (pa_cons (pe_bltn (v := .ty "bool") (by rfl) N.bool PyProof.Rows.boot_bool rfl) pa_nil))))))), ?_⟩
    obtain ⟨b1, b2, e1, e2, e3⟩ := kit_int (K := K) pl
    refine ⟨_, rfl, _, _, _, _, b1, rfl, .ty "int", pl.tyx, e1, _, rfl, ?_⟩
    cases b1 with
    | false =>
      refine iteF ?_
      rw [← e3] at k
      exact k
    | true =>
      refine iteT ?_
      refine ⟨_, rfl, _, _, _, _, b2, rfl, .ty "bool", pl.tyx, e2, _, rfl, ?_⟩
      rw [← e3] at k
      exact k
theorem scWithin : FnScope ["low", "high", "value"] ["low", "high", "value"] (defScope sWithin) := ⟨rfl, rfl, rfl, by decide +kernel, rfl, by decide +kernel, by decide +kernel⟩
theorem ok_within {f fI : Addr} {fd fdI : FuncData} (F : Fun K "is_integer_within" "is_integer_within" sWithin f fd) (GI : FnOk P w K mg base CX0 1 fI fdI ["value"] spIsInt) (cI : Cal K mg "is_integer" fI fdI ["value"]) : FnOk P w K mg base CX0 2 f fd ["low", "high", "value"] spWithin := by
  refine F.ok scWithin (fun vs H Q E h => ?_) (fun cdv A outer s H vs Q E hr h => ?_)
  · obtain ⟨lo, hi, v, t, rfl, _⟩ := h
    rfl
  · obtain ⟨lo, hi, v, t, rfl, pl, k⟩ := h
    refine ⟨_, pss_one (ps_ret (pe_and (pe_call GI hr rfl cI.mg cI.kp cI.b .nil pass0 (pa_cons (pv 2) pa_nil)) (pe_one (pe_chain op_le op_le (pv 0) (pv 2) (pv 1))))), ?_⟩
    refine ⟨_, rfl, v, t, rfl, pl, _, rfl, ?_⟩
    cases v with
    | int n =>
      refine iteT ?_
      refine ⟨_, rfl, _, rfl, _, _, rfl, rfl, _, rfl, ?_⟩
      by_cases h1 : lo ≤ n
      · refine iteTB (decide_eq_true h1) ?_
        refine ⟨_, rfl, _, _, rfl, rfl, ?_⟩
        have e : withinV lo hi (.int n) = decide (n ≤ hi) := by
          show (decide (lo ≤ n) && decide (n ≤ hi)) = _
          rw [decide_eq_true h1, Bool.true_and]
        rw [e] at k
        exact k
      · refine iteFB (decide_eq_false h1) ?_
        have e : withinV lo hi (.int n) = false := by
          show (decide (lo ≤ n) && decide (n ≤ hi)) = _
          rw [decide_eq_false h1, Bool.false_and]
        rw [e] at k
        exact k
    | _ => exact iteF k
theorem scReqNum : FnScope ["low", "high", "number"] ["low", "high", "number"] (defScope sReqNum) := ⟨rfl, rfl, rfl, by decide +kernel, rfl, by decide +kernel, by decide +kernel⟩
theorem ok_reqnum {f fI C fC : Addr} {fd fdI : FuncData} (F : Fun K "require_number" "require_number" sReqNum f fd) (GI : FnOk P w K mg base CX0 2 fI fdI ["low", "high", "value"] spWithin) (cI : Cal K mg "is_integer_within" fI fdI ["low", "high", "value"])
    (T : VNum.NumTxt P K mg C fC) : FnOk P w K mg base (L2.CX P w) 3 f fd ["low", "high", "number"] (spReqNum C) := by
  refine F.okX scReqNum (fun vs H Q E h => ?_) (fun cdv A outer s H vs Q E hr h => ?_)
  · obtain ⟨lo, hi, v, t, rfl, _⟩ := h
    rfl
  · obtain ⟨lo, hi, v, t, rfl, pl, k1, k2⟩ := h
    refine ⟨_, pss_one (ps_if (pt_not (pt_val (pe_call GI hr rfl cI.mg cI.kp cI.b .nil pass0 (pa_cons (pv 0) (pa_cons (pv 1) (pa_cons (pv 2) pa_nil))))))
      (pss_one (ps_raise rfl (takes_of rfl rfl rfl rfl) (VNum.pmk_num T hr (pa_cons (pv 2) pa_nil)))) pss_nil), ?_⟩
    refine ⟨_, rfl, _, rfl, _, rfl, lo, hi, v, t, rfl, pl, _, rfl, ?_⟩
    cases e : withinV lo hi v with
    | true => exact iteF (k1 e)
    | false =>
      refine iteT ?_
      exact ⟨_, rfl, v, rfl, fun d hd => k2 e d hd⟩
theorem scReqBase : FnScope ["base"] ["base"] (defScope sReqBase) := ⟨rfl, rfl, rfl, by decide +kernel, rfl, by decide +kernel, by decide +kernel⟩
theorem ok_reqbase {f fN C : Addr} {fd fdN : FuncData} (F : Fun K "require_base" "require_base" sReqBase f fd) (GN : FnOk P w K mg base (L2.CX P w) 3 fN fdN ["low", "high", "number"] (spReqNum C)) (cN : Cal K mg "require_number" fN fdN ["low", "high", "number"]) (N : Nm mg) :
    FnOk P w K mg base (L2.CX P w) 4 f fd ["base"] (spReqB C 2 5) := by
  refine F.okX scReqBase (fun vs H Q E h => ?_) (fun cdv A outer s H vs Q E hr h => ?_)
  · obtain ⟨v, t, rfl, _⟩ := h
    rfl
  · obtain ⟨v, t, rfl, pl, k1, k2⟩ := h
    obtain ⟨t1, m1⟩ := N.minB
    obtain ⟨t2, m2⟩ := N.maxB
    refine ⟨_, pss_one (ps_expr (pe_call GN hr rfl cN.mg cN.kp cN.b .nil (passes_call (takes_of rfl rfl rfl rfl) (fun _ _ _ _ h => h)) (pa_cons (pe_glob (v := .int 2) rfl m1 ⟨_, rfl⟩) (pa_cons (pe_glob (v := .int 5) rfl m2 ⟨_, rfl⟩) (pa_cons (pv 0) pa_nil))))), ?_⟩
    exact ⟨_, rfl, 2, 5, v, t, rfl, pl, k1, k2⟩
theorem scWordForm : FnScope ["base", "value"] ["base", "value"] (defScope sWordForm) := ⟨rfl, rfl, rfl, by decide +kernel, rfl, by decide +kernel, by decide +kernel⟩
theorem kit_str {H : Hp} {v : V} {t : Value} (p : Pl H v t) : (∃ s, v = .str s ∧ s.length ≤ 9000 ∧ PySem.W.kitOne K t (.type "str") = some true) ∨ (PySem.W.kitOne K t (.type "str") = some false ∧ ∀ b, wordV b v = false) := by
  cases p with
  | str s h => exact .inl ⟨s, rfl, h, kit_ty (by decide +kernel)⟩
  | _ => exact .inr ⟨kit_ty (by decide +kernel), fun _ => rfl⟩
theorem ok_wordform {f : Addr} {fd : FuncData} (F : Fun K "has_word_form" "has_word_form" sWordForm f fd) (N : Nm mg) : FnOk P w K mg base CX0 1 f fd ["base", "value"] spWordForm := by
  refine F.ok scWordForm (fun vs H Q E h => ?_) (fun cdv A outer s H vs Q E hr h => ?_)
  · obtain ⟨b, v, t, rfl, _⟩ := h
    rfl
  · obtain ⟨b, v, t, rfl, b2, b5, pl, k⟩ := h
    obtain ⟨td, md⟩ := N.dig
    refine ⟨_, pss_one (ps_ret (pe_and (pe_callB call_isi (by rfl) N.isinst PyProof.Rows.boot_isinstance (pa_cons (pv 1) (pa_cons (pe_bltn (v := .ty "str") (by rfl) N.str PyProof.Rows.boot_str rfl) pa_nil)))
      (pe_one (pe_cmpR op_eq (pe_bm PySem.F.plainAttrs_str PySem.F.slot_str_strip PySem.F.type_str_strip mt_stripChars (pv 1) (pa_cons (pe_slice sl_str (pe_glob (v := .str "01234") rfl md ⟨_, rfl⟩) po_none (po_some (pv 0))) pa_nil)) pe_str (nomark _))))), ?_⟩
    have ed : cutS ("01234" : Str) none (some (b : Int)) = S (digs b) := by
      rw [s01234, cut_take (by simpa using b5)]
      rfl
    rcases kit_str (K := K) pl with ⟨s1, rfl, hs, e⟩ | ⟨e, hw⟩
    · refine ⟨_, rfl, _, _, _, _, true, rfl, .ty "str", pl.tyx, e, _, rfl, ?_⟩
      refine iteT ?_
      refine ⟨_, rfl, rfl, _, rfl, _, rfl, _, rfl, len5, _, _, rfl, rfl, Nat.le_trans hs (by decide), rfl, ?_⟩
      rw [ed, word_strip s1 b5]
      exact k
    · refine ⟨_, rfl, _, _, _, _, false, rfl, .ty "str", pl.tyx, e, _, rfl, ?_⟩
      rw [hw] at k
      exact iteF k
end
end Vf


set_option Elab.async false
set_option maxRecDepth 100000
set_option maxHeartbeats 4000000
set_option exponentiation.threshold 3000
namespace Vf
open PySem L2 SX Vm
open PySem.Builtin.Str PySem.StrLaws
theorem nf_least {f : Nat → Nat} {h q : List Nat} {s : Nat} (n : Nf f h q) (l : Least q s) : s = q.length := by
  rcases Nat.lt_or_ge s q.length with hlt | hge
  · refine absurd (fun i hi => ?_) (n.prim s h.length l.pos hlt)
    rw [← n.is, ← n.is, ev_ge (by omega), ev_ge hi, show i + s - h.length = i - h.length + s by omega]
    exact l.per _
  · exact Nat.le_antisymm (l.le n.ne) hge
theorem nf_ends {f : Nat → Nat} {h q : List Nat} (n : Nf f h q) : Txt.endswith (S h) ⟨#[q.getD (q.length - 1) 0]⟩ = false := by
  have hq := n.ne
  unfold Txt.endswith
  rw [Bool.and_eq_false_iff]
  by_cases h0 : h.length = 0
  · left
    have e : h = [] := List.length_eq_zero_iff.mp h0
    subst e
    rfl
  · right
    refine Bool.eq_false_iff.mpr fun z => ?_
    have key := (subAt_one (S h) (q.getD (q.length - 1) 0) (h.length - 1)).mp ⟨by rw [S_len]; show h.length - 1 + 1 ≤ h.length; omega, by rw [S_len] at z; exact z⟩
    refine n.trim (by omega) ?_
    rw [← n.is, ← n.is, ev_lt (show h.length - 1 < h.length by omega), ev_ge (show h.length ≤ h.length - 1 + q.length by omega), show h.length - 1 + q.length - h.length = q.length - 1 by omega, g_lt (show q.length - 1 < q.length by omega)]
    have key' : h[h.length - 1]? = some (q.getD (q.length - 1) 0) := key
    rw [show h.getD (h.length - 1) 0 = h[h.length - 1]?.getD 0 from List.getD_eq_getElem?_getD, key']
    rfl
theorem wordV_of {b : Nat} {l : List Nat} (w : IsW (b : Int) l) : wordV b (.str (S l)) = true := by
  show l.all _ = true
  rw [List.all_eq_true]
  intro c hc
  obtain ⟨h1, h2⟩ := w c hc
  have h2' : c < 48 + b := by omega
  simp [h1, h2']
theorem of_wordV {b : Nat} {s : Str} (w : wordV b (.str s) = true) : IsW (b : Int) s.cps.toList := fun c hc => by
  have z := (List.all_eq_true.mp (show s.cps.toList.all _ = true from w)) c hc
  simp at z
  omega
noncomputable instance decLeast (y : List Nat) (s : Nat) : Decidable (Least y s) := Classical.propDecidable _
/-- whether words are those of a normal form -/
noncomputable def sfB (x y : List Nat) : Bool := decide (Least y y.length) && !(Txt.endswith (S x) ⟨#[y.getD (y.length - 1) 0]⟩)
theorem sfB_nf {f : Nat → Nat} {x y : List Nat} (n : Nf f x y) : sfB x y = true := by
  unfold sfB
  obtain ⟨s, e, l⟩ := find_least n.ne
  have := nf_least n l
  subst this
  rw [decide_eq_true l, nf_ends n]
  rfl
/-- what has_stream_form says -/
inductive SF (H : Hp) (b : Nat) (R : Int) : V → Bool → Prop where
  | non {v : V} {t : Value} (p : Pl H v t) (n : ∀ q xs, v = .ref q → H q ≠ some (.tup xs)) : SF H b R v false
  | len {p : Addr} {xs : List V} (h : H p = some (.tup xs)) (n : xs.length ≠ 3) : SF H b R (.ref p) false
  | root {p : Addr} {r x y : V} {tr : Value} (h : H p = some (.tup [r, x, y])) (pr : ∀ H0 : Hp, Pl H0 r tr) (n : withinV 0 (R - 1) r = false) : SF H b R (.ref p) false
  | head {p : Addr} {r x y : V} {tr tx : Value} (h : H p = some (.tup [r, x, y])) (pr : ∀ H0 : Hp, Pl H0 r tr) (w : withinV 0 (R - 1) r = true) (px : ∀ H0 : Hp, Pl H0 x tx) (n : wordV b x = false) : SF H b R (.ref p) false
  | per {p : Addr} {r x y : V} {tr tx ty : Value} (h : H p = some (.tup [r, x, y])) (pr : ∀ H0 : Hp, Pl H0 r tr) (w : withinV 0 (R - 1) r = true) (px : ∀ H0 : Hp, Pl H0 x tx) (wx : wordV b x = true) (py : ∀ H0 : Hp, Pl H0 y ty) (n : wordV b y = false ∨ y = .str "") : SF H b R (.ref p) false
  | fin {p : Addr} {r : V} {x y : List Nat} {tr : Value} (h : H p = some (.tup [r, .str (S x), .str (S y)])) (pr : ∀ H0 : Hp, Pl H0 r tr) (w : withinV 0 (R - 1) r = true) (wx : IsW b x) (wy : IsW b y) (y0 : 0 < y.length) (lx : x.length ≤ 9000) (ly : y.length ≤ 1000) : SF H b R (.ref p) (sfB x y)
theorem pl_keep0 {H H' : Hp} {v : V} {t : Value} (h : Pl H v t) (k : ∀ q o, v = .ref q → (∀ ps, o ≠ .tbl ps) → H q = some o → H' q = some o) : Pl H' v t := by
  cases h with
  | non => exact .non
  | bl b => exact .bl b
  | int n => exact .int n
  | str x h => exact .str x h
  | lst e => exact .lst (k _ _ rfl (fun _ z => nomatch z) e)
  | tup e => exact .tup (k _ _ rfl (fun _ z => nomatch z) e)
  | dct e => exact .dct (k _ _ rfl (fun _ z => nomatch z) e)
theorem nt_keep {H H' : Hp} {v : V} {t : Value} (p : Pl H v t) (n : ∀ q xs, v = .ref q → H q ≠ some (.tup xs)) (k : ∀ q o, v = .ref q → (∀ ps, o ≠ .tbl ps) → H q = some o → H' q = some o) : ∀ q xs, v = .ref q → H' q ≠ some (.tup xs) := by
  intro q xs e
  cases p with
  | lst h =>
    cases e
    rw [k _ (.lst _) rfl (fun _ z => nomatch z) h]
    intro z
    cases z
  | tup h =>
    cases e
    exact absurd h (n _ _ rfl)
  | dct h =>
    cases e
    rw [k _ (.dK _) rfl (fun _ z => nomatch z) h]
    intro z
    cases z
  | _ => cases e
theorem SF.keep {H H' : Hp} {b : Nat} {R : Int} {v : V} {res : Bool} (s : SF H b R v res) (k : ∀ q o, v = .ref q → (∀ ps, o ≠ .tbl ps) → H q = some o → H' q = some o) : SF H' b R v res := by
  cases s with
  | non p n => exact .non (pl_keep0 p k) (nt_keep p n k)
  | len h n => exact .len (k _ _ rfl (fun _ z => nomatch z) h) n
  | root h pr n => exact .root (k _ _ rfl (fun _ z => nomatch z) h) pr n
  | head h pr w px n => exact .head (k _ _ rfl (fun _ z => nomatch z) h) pr w px n
  | per h pr w px wx py n => exact .per (k _ _ rfl (fun _ z => nomatch z) h) pr w px wx py n
  | fin h pr w wx wy y0 lx ly => exact .fin (k _ _ rfl (fun _ z => nomatch z) h) pr w wx wy y0 lx ly
def spStreamForm : Sp := fun vs H Q _ => ∃ (b : Nat) (R : Int) (v : V) (res : Bool), vs = [.int (b : Int), .int R, v] ∧ 2 ≤ b ∧ b ≤ 5 ∧ SF H b R v res ∧ Q (.bl res) H
def spIsStream : Sp := fun vs H Q _ => ∃ (b : Nat) (R r : Int) (p : Addr) (h q : List Nat) (f : Nat → Nat), vs = [.int (b : Int), .int R, .ref p] ∧ 2 ≤ b ∧ b ≤ 5 ∧ 1 ≤ R ∧ R ≤ 5000 ∧ 0 ≤ r ∧ r ≤ R - 1 ∧ H p = some (.tup [.int r, .str (S h), .str (S q)]) ∧ Nf f h q ∧ h.length ≤ 1000 ∧ q.length ≤ 1000 ∧ IsW b h ∧ IsW b q ∧ Q (.bl true) H
theorem SF.right {H : Hp} {b : Nat} {R r : Int} {p : Addr} {h q : List Nat} {f : Nat → Nat} (hp : H p = some (.tup [.int r, .str (S h), .str (S q)])) (r0 : 0 ≤ r) (r1 : r ≤ R - 1) (nf : Nf f h q) (hl : h.length ≤ 9000) (ql : q.length ≤ 1000) (wh : IsW b h) (wq : IsW b q) : SF H b R (.ref p) true := by
  have w1 : withinV 0 (R - 1) (.int r) = true := by
    show (decide (0 ≤ r) && decide (r ≤ R - 1)) = true
    rw [decide_eq_true r0, decide_eq_true r1]
    rfl
  rw [← sfB_nf nf]
  exact .fin hp (fun _ => .int r) w1 wh wq nf.ne hl ql
theorem kit_tup {K : PySem.W.Frag} {H : Hp} {v : V} {t : Value} (p : Pl H v t) (n : ∀ q xs, v = .ref q → H q ≠ some (.tup xs)) : PySem.W.kitOne K t (.type "tuple") = some false := by
  cases p with
  | tup h => exact absurd h (n _ _ rfl)
  | _ => exact kit_ty (by decide +kernel)
section
variable {P : Program} {w : World} {K : PySem.W.Frag} {mg : Str → Option Value} {base : Heap}
theorem scStreamForm : FnScope ["base", "roots", "value", "_", "head", "period"] ["base", "roots", "value"] (defScope sStreamForm) := ⟨rfl, rfl, rfl, by decide +kernel, rfl, by decide +kernel, by decide +kernel⟩
theorem ok_streamform {f fI fW fS : Addr} {fd fdI fdW fdS : FuncData} (F : Fun K "has_stream_form" "has_stream_form" sStreamForm f fd) (GI : FnOk P w K mg base CX0 2 fI fdI ["low", "high", "value"] spWithin) (cI : Cal K mg "is_integer_within" fI fdI ["low", "high", "value"])
    (GW : FnOk P w K mg base CX0 1 fW fdW ["base", "value"] spWordForm) (cW : Cal K mg "has_word_form" fW fdW ["base", "value"]) (GS : FnOk P w K mg base CX0 1 fS fdS ["period"] spShort) (cS : Cal K mg "shortest_period" fS fdS ["period"]) (N : Nm mg) :
    FnOk P w K mg base CX0 3 f fd ["base", "roots", "value"] spStreamForm := by
  refine F.ok scStreamForm (fun vs H Q E h => ?_) (fun cdv A outer s H vs Q E hr h => ?_)
  · obtain ⟨b, R, v, res, rfl, _⟩ := h
    rfl
  · obtain ⟨b, R, v, res, rfl, b2, b5, sf, k⟩ := h
    have nd := scStreamForm.nd
    have hr1 := hr.mono (show 1 ≤ 2 by decide)
    refine ⟨_, pss_cons (ps_if (PW.pt (pw_or (pt_not (pt_val (pe_callB call_isi (by rfl) N.isinst PyProof.Rows.boot_isinstance (pa_cons (pv 2) (pa_cons (pe_bltn (v := .ty "tuple") (by rfl) N.tuple PyProof.Rows.boot_tuple rfl) pa_nil)))))
        (pw_or (pt_cmpR op_ne (pe_callB call_len_seq (by rfl) N.len boot_len (pa_cons (pv 2) pa_nil)) pe_int (nomark _))
        (pw_or1 (pt_not (pt_val (pe_call GI hr rfl cI.mg cI.kp cI.b .nil pass0 (pa_cons pe_int (pa_cons (pe_op op_sub (pv 1) pe_int) (pa_cons (pe_ix ix_tup (pv 2) pe_int (fun _ _ => rfl)) pa_nil))))))))))
        (pss_one (ps_ret pe_bl)) pss_nil)
      (pss_cons (ps_asg (pv 2) (pg_tup rfl (pgs_cons (pg_name (i := 3) nd rfl (.inl rfl)) (pgs_cons (pg_name (i := 4) nd rfl (.inl rfl)) (pgs_cons (pg_name (i := 5) nd rfl (.inl rfl)) pgs_nil)))))
      (pss_cons (ps_if (PW.pt (pw_or (pt_not (pt_val (pe_call GW hr1 rfl cW.mg cW.kp cW.b .nil pass0 (pa_cons (pv 0) (pa_cons (pv 4) pa_nil)))))
        (pw_or (pt_not (pt_val (pe_call GW hr1 rfl cW.mg cW.kp cW.b .nil pass0 (pa_cons (pv 0) (pa_cons (pv 5) pa_nil)))))
        (pw_or1 (pt_cmpR op_eq (pv 5) pe_str (nomark _)))))) (pss_one (ps_ret pe_bl)) pss_nil)
      (pss_one (ps_ret (pe_and (pe_cmpR op_eq (pe_call GS hr1 rfl cS.mg cS.kp cS.b .nil pass0 (pa_cons (pv 5) pa_nil)) (pv 5) (nomark _))
        (pe_one (pe_not (pe_bm PySem.F.plainAttrs_str PySem.F.slot_str_endswith PySem.F.type_str_endswith mt_endswith (pv 4) (pa_cons (pe_ix ix_str (pv 5) (pe_un un_neg pe_int) (fun _ _ => rfl)) pa_nil))))))))), ?_⟩
    have at0 : ∀ r x y : V, atI [r, x, y] 0 = some r := fun _ _ _ => rfl
    cases sf with
    | non p n =>
      refine ⟨_, rfl, _, _, _, _, false, rfl, .ty "tuple", p.tyx, kit_tup p n, _, rfl, ?_⟩
      refine iteT ?_
      exact iteT k
    | @len p xs hp n =>
      refine ⟨_, rfl, _, _, _, _, true, rfl, .ty "tuple", (Pl.tup hp).tyx, kit_ty (by decide +kernel), _, rfl, ?_⟩
      refine iteF ?_
      refine ⟨_, rfl, _, _, rfl, .inr (SqT.of hp), rfl, _, rfl, ?_⟩
      have hb : (!decide (V.int ((xs.length : Nat) : Int) = V.int 3)) = true := by
        rw [decide_eq_false (fun z => n (by have := V.int.inj z; omega))]
        rfl
      exact iteTB hb (iteT k)
    | @root p r x y tr hp pr n =>
      refine ⟨_, rfl, _, _, _, _, true, rfl, .ty "tuple", (Pl.tup hp).tyx, kit_ty (by decide +kernel), _, rfl, ?_⟩
      refine iteF ?_
      refine ⟨_, rfl, p, _, rfl, .inr (SqT.of hp), rfl, _, rfl, ?_⟩
      refine iteFB rfl ?_
      refine ⟨_, rfl, _, _, rfl, rfl, _, rfl, p, _, _, _, rfl, rfl, SqT.of hp, at0 _ _ _, 0, R - 1, _, _, rfl, pr _, _, rfl, ?_⟩
      rw [n]
      exact iteT k
    | @head p r x y tr tx hp pr wr px n =>
      refine ⟨_, rfl, _, _, _, _, true, rfl, .ty "tuple", (Pl.tup hp).tyx, kit_ty (by decide +kernel), _, rfl, ?_⟩
      refine iteF ?_
      refine ⟨_, rfl, p, _, rfl, .inr (SqT.of hp), rfl, _, rfl, ?_⟩
      refine iteFB rfl ?_
      refine ⟨_, rfl, _, _, rfl, rfl, _, rfl, p, _, _, _, rfl, rfl, SqT.of hp, at0 _ _ _, 0, R - 1, _, _, rfl, pr _, _, rfl, ?_⟩
      rw [wr]
      refine iteF ?_
      refine ⟨_, rfl, p, _, rfl, SqT.of hp, rfl, _, _, rfl, _, _, rfl, _, _, rfl, rfl, ?_⟩
      refine ⟨_, rfl, _, rfl, b, _, _, rfl, b2, b5, px _, _, rfl, ?_⟩
      rw [n]
      refine iteT ?_
      exact iteT k
    | @per p r x y tr tx ty hp pr wr px wx py n =>
      refine ⟨_, rfl, _, _, _, _, true, rfl, .ty "tuple", (Pl.tup hp).tyx, kit_ty (by decide +kernel), _, rfl, ?_⟩
      refine iteF ?_
      refine ⟨_, rfl, p, _, rfl, .inr (SqT.of hp), rfl, _, rfl, ?_⟩
      refine iteFB rfl ?_
      refine ⟨_, rfl, _, _, rfl, rfl, _, rfl, p, _, _, _, rfl, rfl, SqT.of hp, at0 _ _ _, 0, R - 1, _, _, rfl, pr _, _, rfl, ?_⟩
      rw [wr]
      refine iteF ?_
      refine ⟨_, rfl, p, _, rfl, SqT.of hp, rfl, _, _, rfl, _, _, rfl, _, _, rfl, rfl, ?_⟩
      refine ⟨_, rfl, _, rfl, b, _, _, rfl, b2, b5, px _, _, rfl, ?_⟩
      rw [wx]
      refine iteF ?_
      refine ⟨_, rfl, _, rfl, b, _, _, rfl, b2, b5, py _, _, rfl, ?_⟩
      cases hw : wordV b y with
      | false =>
        refine iteT ?_
        exact iteT k
      | true =>
        rcases n with n | n
        · rw [n] at hw
          cases hw
        · subst n
          refine iteF ?_
          refine ⟨_, rfl, rfl, _, rfl, ?_⟩
          exact iteTB (decide_eq_true rfl) k
    | @fin p r x y tr hp pr wr wx wy y0 lx ly =>
      refine ⟨_, rfl, _, _, _, _, true, rfl, .ty "tuple", (Pl.tup hp).tyx, kit_ty (by decide +kernel), _, rfl, ?_⟩
      refine iteF ?_
      refine ⟨_, rfl, p, _, rfl, .inr (SqT.of hp), rfl, _, rfl, ?_⟩
      refine iteFB rfl ?_
      refine ⟨_, rfl, _, _, rfl, rfl, _, rfl, p, _, _, _, rfl, rfl, SqT.of hp, at0 _ _ _, 0, R - 1, _, _, rfl, pr _, _, rfl, ?_⟩
      rw [wr]
      refine iteF ?_
      refine ⟨_, rfl, p, _, rfl, SqT.of hp, rfl, _, _, rfl, _, _, rfl, _, _, rfl, rfl, ?_⟩
      have ph : Pl H (.str (S x)) (.type "str") := .str _ (by rw [S_len]; exact lx)
      have pq : Pl H (.str (S y)) (.type "str") := .str _ (by rw [S_len]; omega)
      refine ⟨_, rfl, _, rfl, b, _, _, rfl, b2, b5, ph, _, rfl, ?_⟩
      rw [wordV_of wx]
      refine iteF ?_
      refine ⟨_, rfl, _, rfl, b, _, _, rfl, b2, b5, pq, _, rfl, ?_⟩
      rw [wordV_of wy]
      refine iteF ?_
      have qne : y ≠ [] := fun z => by rw [z] at y0; exact absurd y0 (Nat.lt_irrefl _)
      refine ⟨_, rfl, rfl, _, rfl, ?_⟩
      refine iteFB (decide_eq_false (fun z => qne (str_ne_empty.mp z))) ?_
      refine ⟨_, rfl, y, rfl, y0, ly, fun s l hle => ?_⟩
      by_cases es : s = y.length
      · subst es
        rw [List.take_length]
        refine ⟨_, rfl, rfl, _, rfl, ?_⟩
        refine iteTB (decide_eq_true rfl) ?_
        refine ⟨_, rfl, rfl, _, rfl, _, rfl, _, _, _, rfl, rfl, small_len ly, at_back (t := 0) y0 (by decide), _, _, rfl, rfl, _, rfl, ?_⟩
        rw [Nat.sub_zero]
        unfold sfB at k
        rw [decide_eq_true l, Bool.true_and] at k
        exact k
      · refine ⟨_, rfl, rfl, _, rfl, ?_⟩
        have ne : y.take s ≠ y := fun z => es (by
          have := congrArg List.length z
          rw [List.length_take] at this
          omega)
        refine iteFB (decide_eq_false (fun z => ne (by have e := congrArg (fun s : Str => s.cps.toList) (V.str.inj z); simpa using e))) ?_
        unfold sfB at k
        rw [decide_eq_false (fun z => es (l.unique z)), Bool.false_and] at k
        exact k
/-- what is asked of an error class of the program's own without __init__ -/
structure PfxTxt (K : PySem.W.Frag) (mg : Str → Option Value) (x : Str) (C : Addr) : Prop where
  g : mg x = some (.ref C)
  ex : PySem.W.excIn K C [.type "ValueError", .type "Exception", .type "BaseException", .type "object"] "ValueError.__new__" = true
  kp : PySem.W.keepIn K (.ref C) = true
  bs : PySem.W.subIn K (.ref C) (.type "BaseException") = some true
  ty : PySem.W.typeIn K (.ref C) = some (.type "type")
/-- require_stream -/
def spReqStream (CS : Addr) : Sp := fun vs H Q E => ∃ (b : Nat) (R : Int) (v : V) (res : Bool), vs = [.int (b : Int), .int R, v] ∧ 2 ≤ b ∧ b ≤ 5 ∧ SF H b R v res ∧ (res = true → Q .non H) ∧ (res = false → E (.ref CS) none H)
theorem scReqStream : FnScope ["base", "roots", "stream"] ["base", "roots", "stream"] (defScope sReqStream) := ⟨rfl, rfl, rfl, by decide +kernel, rfl, by decide +kernel, by decide +kernel⟩
theorem ok_reqstream {f fF CS : Addr} {fd fdF : FuncData} (F : Fun K "require_stream" "require_stream" sReqStream f fd) (GF : FnOk P w K mg base CX0 3 fF fdF ["base", "roots", "value"] spStreamForm) (cF : Cal K mg "has_stream_form" fF fdF ["base", "roots", "value"])
    (TS : PfxTxt K mg "InvalidStream" CS) : FnOk P w K mg base (L2.CX P w) 4 f fd ["base", "roots", "stream"] (spReqStream CS) := by
  refine F.okX scReqStream (fun vs H Q E h => ?_) (fun cdv A outer s H vs Q E hr h => ?_)
  · obtain ⟨b, R, v, res, rfl, _⟩ := h
    rfl
  · obtain ⟨b, R, v, res, rfl, b2, b5, sf, k1, k2⟩ := h
    refine ⟨_, pss_one (ps_if (pt_not (pt_val (pe_call GF hr rfl cF.mg cF.kp cF.b .nil pass0 (pa_cons (pv 0) (pa_cons (pv 1) (pa_cons (pv 2) pa_nil))))))
      (pss_one (ps_raise rfl (takes_of rfl rfl rfl rfl) (pmk_own PySem.F.excBase_ValueError TS.ex TS.g TS.kp (raises_own TS.bs TS.ty) rfl))) pss_nil), ?_⟩
    refine ⟨_, rfl, _, rfl, _, rfl, b, R, v, res, rfl, b2, b5, sf, _, rfl, ?_⟩
    cases res with
    | true => exact iteF (k1 rfl)
    | false =>
      refine iteT ?_
      exact k2 rfl
/-- what has_prefix_form says -/
inductive PF (H : Hp) (b : Nat) (R : Int) : V → Bool → Prop where
  | non {v : V} {t : Value} (p : Pl H v t) (n : ∀ q xs, v = .ref q → H q ≠ some (.tup xs)) : PF H b R v false
  | len {p : Addr} {xs : List V} (h : H p = some (.tup xs)) (n : xs.length ≠ 2) : PF H b R (.ref p) false
  | fin {p : Addr} {r x : V} {tr tx : Value} (h : H p = some (.tup [r, x])) (pr : ∀ H0 : Hp, Pl H0 r tr) (px : ∀ H0 : Hp, Pl H0 x tx) : PF H b R (.ref p) (withinV 0 (R - 1) r && wordV b x)
theorem PF.keep {H H' : Hp} {b : Nat} {R : Int} {v : V} {res : Bool} (s : PF H b R v res) (k : ∀ q o, v = .ref q → (∀ ps, o ≠ .tbl ps) → H q = some o → H' q = some o) : PF H' b R v res := by
  cases s with
  | non p n => exact .non (pl_keep0 p k) (nt_keep p n k)
  | len h n => exact .len (k _ _ rfl (fun _ z => nomatch z) h) n
  | fin h pr px => exact .fin (k _ _ rfl (fun _ z => nomatch z) h) pr px
def spPfxForm : Sp := fun vs H Q _ => ∃ (b : Nat) (R : Int) (v : V) (res : Bool), vs = [.int (b : Int), .int R, v] ∧ 2 ≤ b ∧ b ≤ 5 ∧ PF H b R v res ∧ Q (.bl res) H
theorem scPfxForm : FnScope ["base", "roots", "value", "root", "word"] ["base", "roots", "value"] (defScope sPfxForm) := ⟨rfl, rfl, rfl, by decide +kernel, rfl, by decide +kernel, by decide +kernel⟩
theorem ok_pfxform {f fI fW : Addr} {fd fdI fdW : FuncData} (F : Fun K "has_prefix_form" "has_prefix_form" sPfxForm f fd) (GI : FnOk P w K mg base CX0 2 fI fdI ["low", "high", "value"] spWithin) (cI : Cal K mg "is_integer_within" fI fdI ["low", "high", "value"])
    (GW : FnOk P w K mg base CX0 1 fW fdW ["base", "value"] spWordForm) (cW : Cal K mg "has_word_form" fW fdW ["base", "value"]) (N : Nm mg) : FnOk P w K mg base CX0 3 f fd ["base", "roots", "value"] spPfxForm := by
  refine F.ok scPfxForm (fun vs H Q E h => ?_) (fun cdv A outer s H vs Q E hr h => ?_)
  · obtain ⟨b, R, v, res, rfl, _⟩ := h
    rfl
  · obtain ⟨b, R, v, res, rfl, b2, b5, sf, k⟩ := h
    have nd := scPfxForm.nd
    have hr1 := hr.mono (show 1 ≤ 2 by decide)
    refine ⟨_, pss_cons (ps_if (PW.pt (pw_or (pt_not (pt_val (pe_callB call_isi (by rfl) N.isinst PyProof.Rows.boot_isinstance (pa_cons (pv 2) (pa_cons (pe_bltn (v := .ty "tuple") (by rfl) N.tuple PyProof.Rows.boot_tuple rfl) pa_nil)))))
        (pw_or1 (pt_cmpR op_ne (pe_callB call_len_seq (by rfl) N.len boot_len (pa_cons (pv 2) pa_nil)) pe_int (nomark _)))))
        (pss_one (ps_ret pe_bl)) pss_nil)
      (pss_cons (ps_asg (pv 2) (pg_tup rfl (pgs_cons (pg_name (i := 3) nd rfl (.inl rfl)) (pgs_cons (pg_name (i := 4) nd rfl (.inl rfl)) pgs_nil))))
      (pss_one (ps_ret (pe_and (pe_call GI hr rfl cI.mg cI.kp cI.b .nil pass0 (pa_cons pe_int (pa_cons (pe_op op_sub (pv 1) pe_int) (pa_cons (pv 3) pa_nil))))
        (pe_one (pe_call GW hr1 rfl cW.mg cW.kp cW.b .nil pass0 (pa_cons (pv 0) (pa_cons (pv 4) pa_nil)))))))), ?_⟩
    cases sf with
    | non p n =>
      refine ⟨_, rfl, _, _, _, _, false, rfl, .ty "tuple", p.tyx, kit_tup p n, _, rfl, ?_⟩
      refine iteT ?_
      exact iteT k
    | @len p xs hp n =>
      refine ⟨_, rfl, _, _, _, _, true, rfl, .ty "tuple", (Pl.tup hp).tyx, kit_ty (by decide +kernel), _, rfl, ?_⟩
      refine iteF ?_
      refine ⟨_, rfl, _, _, rfl, .inr (SqT.of hp), rfl, _, rfl, ?_⟩
      exact iteTB (by rw [decide_eq_false (fun z => n (by have := V.int.inj z; omega))]; rfl) k
    | @fin p r x tr tx hp pr px =>
      refine ⟨_, rfl, _, _, _, _, true, rfl, .ty "tuple", (Pl.tup hp).tyx, kit_ty (by decide +kernel), _, rfl, ?_⟩
      refine iteF ?_
      refine ⟨_, rfl, p, _, rfl, .inr (SqT.of hp), rfl, _, rfl, ?_⟩
      refine iteFB rfl ?_
      refine ⟨_, rfl, p, _, rfl, SqT.of hp, rfl, _, _, rfl, _, _, rfl, rfl, ?_⟩
      refine ⟨_, rfl, _, _, rfl, rfl, _, rfl, 0, R - 1, _, _, rfl, pr _, _, rfl, ?_⟩
      cases hw : withinV 0 (R - 1) r with
      | false =>
        rw [hw] at k
        exact iteF k
      | true =>
        refine iteT ?_
        rw [hw] at k
        exact ⟨_, rfl, _, rfl, b, x, _, rfl, b2, b5, px _, k⟩
/-- require_prefix -/
def spReqPfx (CX : Addr) : Sp := fun vs H Q E => ∃ (b : Nat) (R : Int) (v : V) (res : Bool), vs = [.int (b : Int), .int R, v] ∧ 2 ≤ b ∧ b ≤ 5 ∧ PF H b R v res ∧ (res = true → Q .non H) ∧ (res = false → E (.ref CX) none H)
end
end Vf


set_option Elab.async false
set_option maxRecDepth 100000
set_option maxHeartbeats 4000000
set_option exponentiation.threshold 3000
namespace Vm
/-- the first n digits -/
def begN (h q : List Nat) (n : Nat) : List Nat := (List.range n).map (ev h q)
theorem begN_len {h q : List Nat} {n : Nat} : (begN h q n).length = n := by unfold begN; rw [List.length_map, List.length_range]
theorem begN_get {h q : List Nat} {n i : Nat} (hi : i < n) : (begN h q n).getD i 0 = ev h q i := by
  unfold begN
  rw [List.getD_eq_getElem?_getD, List.getElem?_map, List.getElem?_range hi]
  rfl
theorem beg_N {h q : List Nat} {k many : Nat} (hk : many ≤ h.length + k * q.length) : beg h q k many = begN h q many := by
  refine ext_getD (by rw [beg_len hk, begN_len]) fun i hi => ?_
  rw [beg_len hk] at hi
  rw [beg_get hk hi, begN_get hi]
theorem begN_eq {h q h' q' : List Nat} {n : Nat} : begN h q n = begN h' q' n ↔ ∀ i, i < n → ev h q i = ev h' q' i := by
  constructor
  · intro e i hi
    rw [← begN_get hi, e, begN_get hi]
  · intro e
    refine ext_getD (by rw [begN_len, begN_len]) fun i hi => ?_
    rw [begN_len] at hi
    rw [begN_get hi, begN_get hi, e i hi]
theorem begN_is {h q w : List Nat} : begN h q w.length = w ↔ ∀ i, i < w.length → ev h q i = w.getD i 0 := by
  constructor
  · intro e i hi
    rw [← begN_get hi, e]
  · intro e
    refine ext_getD begN_len fun i hi => ?_
    rw [begN_len] at hi
    rw [begN_get hi, e i hi]
/-- w in the place of the first b digits -/
def shF (w : List Nat) (b : Nat) (f : Nat → Nat) (i : Nat) : Nat := if i < w.length then w.getD i 0 else f (i - w.length + b)
theorem shF_lt {w : List Nat} {b : Nat} {f : Nat → Nat} {i : Nat} (h : i < w.length) : shF w b f i = w.getD i 0 := if_pos h
theorem shF_ge {w : List Nat} {b : Nat} {f : Nat → Nat} {i : Nat} (h : w.length ≤ i) : shF w b f i = f (i - w.length + b) := if_neg (by omega)
theorem ev_sh1 {h q w : List Nat} {b : Nat} (hb : b ≤ h.length) (i : Nat) : ev (w ++ h.drop b) q i = shF w b (ev h q) i := by
  have hl : (w ++ h.drop b).length = w.length + (h.length - b) := by rw [List.length_append, List.length_drop]
  by_cases hi : i < w.length
  · rw [shF_lt hi, ev_lt (by omega), getD_app hi]
  · rw [shF_ge (by omega)]
    by_cases h2 : i - w.length + b < h.length
    · rw [ev_lt h2, ev_lt (by omega), getD_app2 (by omega), getD_drop, Nat.add_comm b]
    · rw [ev_ge (by omega), ev_ge (by omega)]
      congr 1
      omega
theorem ev_sh2 {h q w : List Nat} {b : Nat} (hb : h.length ≤ b) (q0 : 0 < q.length) (i : Nat) : ev w (q.drop ((b - h.length) % q.length) ++ q.take ((b - h.length) % q.length)) i = shF w b (ev h q) i := by
  by_cases hi : i < w.length
  · rw [shF_lt hi, ev_lt hi]
  · have hm := Nat.mod_lt (b - h.length) q0
    rw [shF_ge (by omega), ev_ge (by omega), g_rot (by omega), ev_ge (by omega)]
    unfold g
    rw [Nat.add_mod_mod]
    congr 2
    omega
theorem ev_sh {h q w : List Nat} {b : Nat} (q0 : 0 < q.length) (i : Nat) : ev (w ++ h.drop b) (q.drop ((b - h.length) % q.length) ++ q.take ((b - h.length) % q.length)) i = shF w b (ev h q) i := by
  rcases Nat.le_total b h.length with hb | hb
  · have : b - h.length = 0 := by omega
    rw [this, Nat.zero_mod, List.drop_zero, List.take_zero, List.append_nil]
    exact ev_sh1 hb i
  · rw [List.drop_eq_nil_of_le hb, List.append_nil]
    exact ev_sh2 hb q0 i
/-- twice in the place of one another -/
theorem shF_shF {w v : List Nat} {b : Nat} {f g : Nat → Nat} (hg : ∀ i, g i = shF w b f i) (i : Nat) : shF v w.length g i = shF v b f i := by
  by_cases hi : i < v.length
  · rw [shF_lt hi, shF_lt hi]
  · rw [shF_ge (by omega), shF_ge (by omega), hg, shF_ge (by omega)]
    congr 1
    omega
theorem shF_back {w : List Nat} {f : Nat → Nat} (h : ∀ i, i < w.length → f i = w.getD i 0) (i : Nat) : shF w w.length f i = f i := by
  by_cases hi : i < w.length
  · rw [shF_lt hi, h i hi]
  · rw [shF_ge (by omega)]
    congr 1
    omega
end Vm


set_option Elab.async false
set_option maxRecDepth 100000
set_option maxHeartbeats 4000000
/-! Streams compared: how many digits tell them apart, and their order. -/
namespace Vm
def tell (h q h' q' : List Nat) : Nat := max h.length h'.length + q.length + q'.length
theorem ev_step {h q : List Nat} {i : Nat} (hi : h.length ≤ i) : ev h q (i + q.length) = ev h q i := by
  have := ev_per (q := q) (k := 1) hi
  rw [Nat.one_mul] at this
  exact this
/-- a period that holds for one turn of another one holds for ever -/
theorem per_more {f : Nat → Nat} {m p q : Nat} (p0 : 0 < p) (hf : ∀ i, m ≤ i → f (i + p) = f i) (h : ∀ i, m ≤ i → i < m + p → f (i + q) = f i) (i : Nat) (hi : m ≤ i) : f (i + q) = f i := by
  have mul : ∀ k j, m ≤ j → f (j + k * p) = f j := fun k => by
    induction k with
    | zero => intro j _; rw [Nat.zero_mul, Nat.add_zero]
    | succ k ih => intro j hj; rw [Nat.succ_mul, ← Nat.add_assoc, hf _ (by omega), ih j hj]
  have hr := Nat.mod_lt (i - m) p0
  have e : m + (i - m) % p + (i - m) / p * p = i := by
    have := Nat.mod_add_div (i - m) p
    rw [Nat.mul_comm] at this
    omega
  have a := mul ((i - m) / p) (m + (i - m) % p) (by omega)
  rw [e] at a
  have b := mul ((i - m) / p) (m + (i - m) % p + q) (by omega)
  rw [show m + (i - m) % p + q + (i - m) / p * p = i + q by omega] at b
  rw [b, a, h _ (by omega) (by omega)]
/-- what agrees so long agrees for ever -/
theorem ev_tell {h q h' q' : List Nat} (q0 : 0 < q.length) (q1 : 0 < q'.length) (e : ∀ i, i < tell h q h' q' → ev h q i = ev h' q' i) (i : Nat) : ev h q i = ev h' q' i := by
  unfold tell at e
  generalize hm : max h.length h'.length = m at e
  have m1 : h.length ≤ m := by omega
  have m2 : h'.length ≤ m := by omega
  have pf : ∀ i, m ≤ i → ev h q (i + q.length) = ev h q i := fun i hi => ev_step (by omega)
  have pg : ∀ i, m ≤ i → ev h' q' (i + q'.length) = ev h' q' i := fun i hi => ev_step (by omega)
  have pq : ∀ i, m ≤ i → ev h q (i + q'.length) = ev h q i := per_more q0 pf fun i h1 h2 => by
    rw [e _ (by omega), pg i h1, e i (by omega)]
  by_cases hi : i < m
  · exact e i (by omega)
  · have mulf : ∀ k j, m ≤ j → ev h q (j + k * q'.length) = ev h q j := fun k => by
      induction k with
      | zero => intro j _; rw [Nat.zero_mul, Nat.add_zero]
      | succ k ih => intro j hj; rw [Nat.succ_mul, ← Nat.add_assoc, pq _ (by omega), ih j hj]
    have mulg : ∀ k j, m ≤ j → ev h' q' (j + k * q'.length) = ev h' q' j := fun k => by
      induction k with
      | zero => intro j _; rw [Nat.zero_mul, Nat.add_zero]
      | succ k ih => intro j hj; rw [Nat.succ_mul, ← Nat.add_assoc, pg _ (by omega), ih j hj]
    have hr := Nat.mod_lt (i - m) q1
    have ei : m + (i - m) % q'.length + (i - m) / q'.length * q'.length = i := by
      have := Nat.mod_add_div (i - m) q'.length
      rw [Nat.mul_comm] at this
      omega
    have a := mulf ((i - m) / q'.length) (m + (i - m) % q'.length) (by omega)
    have b := mulg ((i - m) / q'.length) (m + (i - m) % q'.length) (by omega)
    rw [ei] at a b
    rw [a, b]
    exact e _ (by omega)
/-- two normal forms that agree so long are the same -/
theorem nf_tell {h q h' q' : List Nat} (n : Nf (ev h q) h q) (n' : Nf (ev h' q') h' q') (e : ∀ i, i < tell h q h' q' → ev h q i = ev h' q' i) : h = h' ∧ q = q' := by
  have f : ev h q = ev h' q' := funext (ev_tell n.ne n'.ne e)
  rw [← f] at n'
  exact n.unique n'
/-- the first place where they differ -/
theorem first_diff {f g : Nat → Nat} : ∀ n, (∀ i, i < n → f i = g i) ∨ ∃ i, i < n ∧ f i ≠ g i ∧ ∀ j, j < i → f j = g j
  | 0 => .inl fun i h => absurd h (Nat.not_lt_zero _)
  | n + 1 => by
    rcases first_diff (f := f) (g := g) n with h | ⟨i, h1, h2, h3⟩
    · by_cases c : f n = g n
      · left
        intro i hi
        rcases Nat.lt_or_ge i n with h4 | h4
        · exact h i h4
        · have : i = n := by omega
          rw [this, c]
      · exact .inr ⟨n, by omega, c, h⟩
    · exact .inr ⟨i, by omega, h2, h3⟩
/-- f comes first within n digits -/
def Lx (f g : Nat → Nat) (n : Nat) : Prop := ∃ i, i < n ∧ f i < g i ∧ ∀ j, j < i → f j = g j
theorem begN_at {h q : List Nat} {n i : Nat} (hi : i < (begN h q n).length) : (begN h q n)[i] = ev h q i := by
  have hi' : i < n := by rw [begN_len] at hi; exact hi
  have z := begN_get (h := h) (q := q) hi'
  rw [List.getD_eq_getElem?_getD, List.getElem?_eq_getElem hi] at z
  exact z
theorem begN_lt {h q h' q' : List Nat} {n : Nat} : begN h q n < begN h' q' n ↔ Lx (ev h q) (ev h' q') n := by
  rw [List.lt_iff_exists]
  constructor
  · rintro (⟨_, h2⟩ | ⟨i, h1, h2, h3, h4⟩)
    · rw [begN_len, begN_len] at h2
      omega
    · refine ⟨i, by rw [begN_len] at h1; exact h1, ?_, fun j hj => ?_⟩
      · rw [begN_at, begN_at] at h4
        exact h4
      · have := h3 j hj
        rw [begN_at, begN_at] at this
        exact this
  · rintro ⟨i, h1, h2, h3⟩
    refine .inr ⟨i, by rw [begN_len]; exact h1, by rw [begN_len]; exact h1, fun j hj => ?_, ?_⟩
    · rw [begN_at, begN_at]
      exact h3 j hj
    · rw [begN_at, begN_at]
      exact h2
theorem Lx.more {f g : Nat → Nat} {n m : Nat} (all : (∀ i, i < n → f i = g i) → ∀ i, f i = g i) (hm : n ≤ m) : Lx f g m ↔ Lx f g n := by
  constructor
  · rintro ⟨i, h1, h2, h3⟩
    refine ⟨i, Nat.lt_of_not_le fun hn => ?_, h2, h3⟩
    have := all (fun j hj => h3 j (by omega)) i
    omega
  · rintro ⟨i, h1, h2, h3⟩
    exact ⟨i, by omega, h2, h3⟩
/-- the order that is told by enough digits -/
theorem lt_enough {h q h' q' : List Nat} {n : Nat} (q0 : 0 < q.length) (q1 : 0 < q'.length) (hn : tell h q h' q' ≤ n) : begN h q (tell h q h' q') < begN h' q' (tell h q h' q') ↔ begN h q n < begN h' q' n := by
  rw [begN_lt, begN_lt]
  exact (Lx.more (ev_tell q0 q1) hn).symm
theorem lt_irr {h q h' q' : List Nat} {n : Nat} (e : ∀ i, ev h q i = ev h' q' i) : ¬ begN h q n < begN h' q' n := by
  rw [begN_lt]
  rintro ⟨i, _, h2, _⟩
  rw [e i] at h2
  omega
end Vm


set_option Elab.async false
set_option maxRecDepth 100000
set_option maxHeartbeats 4000000
set_option exponentiation.threshold 3000
namespace Vf
open PySem L2 SX Vm
theorem cut_takeG {q : List Nat} {s : Nat} : cutS (S q) none (some (s : Int)) = S (q.take s) := by
  rcases Nat.le_total s q.length with h | h
  · exact cut_take h
  · unfold cutS
    rw [S_len, HT.sIx_none, HT.sIx_nat, Nat.min_eq_right h, List.take_of_length_le h]
    show Str.mk _ = Str.mk _
    simp
theorem cut_dropG {q : List Nat} {s : Nat} : cutS (S q) (some (s : Int)) none = S (q.drop s) := by
  rcases Nat.le_total s q.length with h | h
  · exact cut_drop h
  · unfold cutS
    rw [S_len, HT.sIx_none, HT.sIx_nat, Nat.min_eq_right h, List.drop_eq_nil_of_le h]
    show Str.mk _ = Str.mk _
    simp
/-- the first digits of a stream -/
def spLead (K : PySem.W.Frag) : Sp := fun vs H Q _ => ∃ (p : Addr) (r : V) (h q : List Nat) (n : Nat), vs = [.ref p, .int (n : Int)] ∧ SqT K H p [r, .str (S h), .str (S q)] ∧ 0 < q.length ∧ q.length ≤ 1000 ∧ h.length ≤ 9000 ∧ n ≤ 9000 ∧ Q (.str (S (begN h q n))) H
/-- whether a stream begins with a prefix -/
def underB (r : Int) (h q : List Nat) (r' : Int) (w : List Nat) : Bool := decide (r = r') && decide (begN h q w.length = w)
def spUnder (K : PySem.W.Frag) : Sp := fun vs H Q _ => ∃ (p p2 : Addr) (r r' : Int) (h q w : List Nat), vs = [.ref p, .ref p2] ∧ SqT K H p [.int r, .str (S h), .str (S q)] ∧ SqT K H p2 [.int r', .str (S w)] ∧ 0 < q.length ∧ q.length ≤ 1000 ∧ h.length ≤ 1000 ∧ w.length ≤ 1000 ∧ Q (.bl (underB r h q r' w)) H
theorem S_inj {l m : List Nat} (h : S l = S m) : l = m := by
  have := congrArg (fun s : Str => s.cps.toList) h
  simpa using this
section
variable {P : Program} {w : World} {K : PySem.W.Frag} {mg : Str → Option Value} {base : Heap}
theorem scLead : FnScope ["stream", "count", "_", "head", "missing", "period"] ["stream", "count"] (defScope sLead) := ⟨rfl, rfl, rfl, by decide +kernel, rfl, by decide +kernel, by decide +kernel⟩
theorem ok_lead {f : Addr} {fd : FuncData} (F : Fun K "leading_word" "leading_word" sLead f fd) (ml : mg "len" = none) (mx : mg "max" = none) : FnOk P w K mg base CX0 1 f fd ["stream", "count"] (spLead K) := by
  refine F.ok scLead (fun vs H Q E h => ?_) (fun cdv A outer s H vs Q E hr h => ?_)
  · obtain ⟨p, r, h, q, n, rfl, _⟩ := h
    rfl
  · obtain ⟨p, r, h, q, n, rfl, hp, q0, ql, hl, hn, k⟩ := h
    have nd := scLead.nd
    refine ⟨_, pss_cons (ps_asg (pv 0) (pg_tup rfl (pgs_cons (pg_name (i := 2) nd rfl (.inl rfl)) (pgs_cons (pg_name (i := 3) nd rfl (.inl rfl)) (pgs_cons (pg_name (i := 5) nd rfl (.inl rfl)) pgs_nil)))))
      (pss_cons (ps_set (i := 4) nd rfl (.inl rfl) (pe_callB (call_max2 rfl) (by rfl) mx PyProof.Rows.boot_max (pa_cons pe_int (pa_cons (pe_op op_sub (pv 1) (pe_callB call_len_str (by rfl) ml boot_len (pa_cons (pv 3) pa_nil))) pa_nil))))
      (pss_one (ps_ret (pe_slice sl_str (pe_op op_add_str (pv 3) (pe_op op_mul_str (pv 5) (pe_op op_add (pe_op op_fdiv (pv 4) (pe_callB call_len_str (by rfl) ml boot_len (pa_cons (pv 5) pa_nil))) pe_int))) po_none (po_some (pv 1)))))), ?_⟩
    refine ⟨_, rfl, p, _, rfl, hp, rfl, _, _, rfl, _, _, rfl, _, _, rfl, rfl, ?_⟩
    refine ⟨_, rfl, _, rfl, _, rfl, small_lenG hl, _, _, rfl, rfl, 0, _, rfl, ?_⟩
    obtain ⟨m, em⟩ : ∃ m : Nat, m = n - h.length := ⟨_, rfl⟩
    have e1 : (if (n : Int) - ((S h).length : Int) > 0 then (n : Int) - ((S h).length : Int) else 0) = ((m : Nat) : Int) := by
      rw [S_len]
      split <;> omega
    have hmul : (m / q.length + 1) * q.length ≤ m + q.length := by
      rw [Nat.succ_mul]
      exact Nat.add_le_add_right (Nat.div_mul_le_self m q.length) _
    have hdiv : m / q.length ≤ m := Nat.div_le_self _ _
    refine ⟨_, rfl, _, rfl, _, rfl, _, rfl, _, rfl, small_len ql, _, _, rfl, rfl, ?_, _, _, rfl, rfl, q, m / q.length + 1, rfl, ?_, ?_, ?_, ?_, _, _, rfl, rfl, ?_, _, rfl, _, rfl, _, rfl, ?_, ?_⟩
    · rw [e1]
      exact ⟨by rw [S_len]; omega, by rw [S_len]; omega⟩
    · show V.int (_ / _ + 1) = _
      rw [e1, S_len]
      rfl
    · omega
    · omega
    · omega
    · rw [S_len, S_len, rep_len]
      exact Nat.le_trans (show h.length + (m / q.length + 1) * q.length ≤ 20000 by omega) (by decide)
    · rw [S_cat, S_len, List.length_append, rep_len]
      exact Nat.le_trans (show h.length + (m / q.length + 1) * q.length ≤ 20000 by omega) (by decide)
    · rw [S_cat, cut_takeG]
      have hk : n ≤ h.length + (m / q.length + 1) * q.length := by
        have := Nat.lt_div_mul_add (a := m) q0
        rw [Nat.succ_mul]
        omega
      have e := beg_N hk
      unfold beg at e
      rw [e]
      exact k
theorem scUnder : FnScope ["stream", "prefix", "root", "word"] ["stream", "prefix"] (defScope sIsUnder) := ⟨rfl, rfl, rfl, by decide +kernel, rfl, by decide +kernel, by decide +kernel⟩
theorem ok_under {f fL : Addr} {fd fdL : FuncData} (F : Fun K "is_under" "is_under" sIsUnder f fd) (GL : FnOk P w K mg base CX0 1 fL fdL ["stream", "count"] (spLead K)) (cL : Cal K mg "leading_word" fL fdL ["stream", "count"]) (ml : mg "len" = none) : FnOk P w K mg base CX0 2 f fd ["stream", "prefix"] (spUnder K) := by
  refine F.ok scUnder (fun vs H Q E h => ?_) (fun cdv A outer s H vs Q E hr h => ?_)
  · obtain ⟨p, p2, r, r', h, q, w, rfl, _⟩ := h
    rfl
  · obtain ⟨p, p2, r, r', h, q, w, rfl, hp, hp2, q0, ql, hl, wl, k⟩ := h
    have nd := scUnder.nd
    refine ⟨_, pss_cons (ps_asg (pv 1) (pg_tup rfl (pgs_cons (pg_name (i := 2) nd rfl (.inl rfl)) (pgs_cons (pg_name (i := 3) nd rfl (.inl rfl)) pgs_nil))))
      (pss_one (ps_ret (pe_and (pe_cmpR op_eq (pe_ix ix_tup (pv 0) pe_int (fun _ _ => rfl)) (pv 2) (nomark _))
        (pe_one (pe_cmpR op_eq (pe_call GL hr rfl cL.mg cL.kp cL.b .nil pass0 (pa_cons (pv 0) (pa_cons (pe_callB call_len_str (by rfl) ml boot_len (pa_cons (pv 3) pa_nil)) pa_nil))) (pv 3) (nomark _)))))), ?_⟩
    refine ⟨_, rfl, p2, _, rfl, hp2, rfl, _, _, rfl, _, _, rfl, rfl, ?_⟩
    refine ⟨_, rfl, p, _, _, _, rfl, rfl, hp, rfl, _, rfl, rfl, _, rfl, ?_⟩
    by_cases e : r = r'
    · subst e
      refine iteTB (decide_eq_true rfl) ?_
      refine ⟨_, rfl, _, rfl, _, rfl, small_len wl, p, _, h, q, w.length, rfl, hp, q0, ql, (Nat.le_trans hl (by decide)), by omega, _, rfl, rfl, ?_⟩
      unfold underB at k
      rw [decide_eq_true rfl, Bool.true_and] at k
      have e2 : decide (V.str (S (begN h q w.length)) = V.str (S w)) = decide (begN h q w.length = w) := by
        by_cases c : begN h q w.length = w
        · rw [decide_eq_true c, c]
          exact decide_eq_true rfl
        · rw [decide_eq_false c]
          exact decide_eq_false fun z => c (S_inj (V.str.inj z))
      rw [e2]
      exact k
    · refine iteFB (decide_eq_false fun z => e (V.int.inj z)) ?_
      unfold underB at k
      rw [decide_eq_false e, Bool.false_and] at k
      exact k
/-- the prefix new in the place of old, unasked -/
def spWithBeg (K : PySem.W.Frag) : Sp := fun vs H Q _ => ∃ (p p1 p2 : Addr) (r r1 : V) (r2 : Int) (h q v w : List Nat), vs = [.ref p, .ref p1, .ref p2] ∧ SqT K H p [r, .str (S h), .str (S q)] ∧ SqT K H p1 [r1, .str (S v)] ∧ SqT K H p2 [.int r2, .str (S w)] ∧ 0 < q.length ∧ q.length ≤ 400 ∧ h.length ≤ 400 ∧ v.length ≤ 400 ∧ w.length ≤ 400 ∧
  ∀ (h' q' : List Nat) (p' : Addr), Nf (shF w v.length (ev h q)) h' q' → h'.length ≤ w.length + h.length → q'.length ≤ q.length → (∀ c ∈ h', c ∈ w ∨ c ∈ h) → Sub q' q → H p' = none → Q (.ref p') (upd H p' (.tup [.int r2, .str (S h'), .str (S q')]))
end
end Vf


set_option Elab.async false
set_option maxRecDepth 100000
set_option maxHeartbeats 4000000
set_option exponentiation.threshold 3000
namespace Vf
open PySem L2 SX Vm
/-- begins_with, with its errors -/
def spBegins (K : PySem.W.Frag) (CN CS CX : Addr) : Sp := fun vs H Q E => ∃ (b v x : V) (tb : Value), vs = [b, v, x] ∧ Pl H b tb ∧
  (withinV 2 5 b = false → ∀ d, H d = none → E (.ref CN) (some d) (upd H d (.xd [(("value" : Str), b)]))) ∧
  ∀ n : Nat, b = .int (n : Int) → 2 ≤ n → n ≤ 5 → ∃ res, SF H n 5000 v res ∧ (res = false → E (.ref CS) none H) ∧ (res = true → ∃ res2, PF H n 5000 x res2 ∧ (res2 = false → E (.ref CX) none H) ∧
    (res2 = true → ∃ (p p2 : Addr) (r r' : Int) (h q w : List Nat), v = .ref p ∧ x = .ref p2 ∧ SqT K H p [.int r, .str (S h), .str (S q)] ∧ SqT K H p2 [.int r', .str (S w)] ∧ 0 < q.length ∧ q.length ≤ 1000 ∧ h.length ≤ 1000 ∧ w.length ≤ 1000 ∧ Q (.bl (underB r h q r' w)) H))
/-- replaced, with its errors -/
def spReplaced (K : PySem.W.Frag) (CN CS CX CO : Addr) : Sp := fun vs H Q E => ∃ (b v x y : V) (tb : Value), vs = [b, v, x, y] ∧ Pl H b tb ∧
  (withinV 2 5 b = false → ∀ d, H d = none → E (.ref CN) (some d) (upd H d (.xd [(("value" : Str), b)]))) ∧
  ∀ n : Nat, b = .int (n : Int) → 2 ≤ n → n ≤ 5 → ∃ res, SF H n 5000 v res ∧ (res = false → E (.ref CS) none H) ∧ (res = true → ∃ res2, PF H n 5000 x res2 ∧ (res2 = false → E (.ref CX) none H) ∧
    (res2 = true → ∃ res3, PF H n 5000 y res3 ∧ (res3 = false → E (.ref CX) none H) ∧
    (res3 = true → ∃ (p p1 p2 : Addr) (r r1 r2 : Int) (h q u w : List Nat), v = .ref p ∧ x = .ref p1 ∧ y = .ref p2 ∧ SqT K H p [.int r, .str (S h), .str (S q)] ∧ SqT K H p1 [.int r1, .str (S u)] ∧ SqT K H p2 [.int r2, .str (S w)] ∧ 0 < q.length ∧ q.length ≤ 400 ∧ h.length ≤ 400 ∧ u.length ≤ 400 ∧ w.length ≤ 400 ∧
      (underB r h q r1 u = false → E (.ref CO) none H) ∧ (underB r h q r1 u = true → ∀ (h' q' : List Nat) (p' : Addr), Nf (shF w u.length (ev h q)) h' q' → h'.length ≤ w.length + h.length → q'.length ≤ q.length → (∀ c ∈ h', c ∈ w ∨ c ∈ h) → Sub q' q → H p' = none → Q (.ref p') (upd H p' (.tup [.int r2, .str (S h'), .str (S q')]))))))
section
variable {P : Program} {w : World} {K : PySem.W.Frag} {mg : Str → Option Value} {base : Heap}
theorem within_base {v : V} (h : withinV 2 5 v = true) : ∃ n : Nat, v = .int (n : Int) ∧ 2 ≤ n ∧ n ≤ 5 := by
  cases v with
  | int i =>
    have h' : (decide (2 ≤ i) && decide (i ≤ 5)) = true := h
    simp at h'
    refine ⟨i.toNat, by rw [Int.toNat_of_nonneg (by omega)], by omega, by omega⟩
  | _ => cases h
/-- the law's own -/
theorem scLUnder : FnScope ["stream", "prefix"] ["stream", "prefix"] (defScope sLUnder) := ⟨rfl, rfl, rfl, by decide +kernel, rfl, by decide +kernel, by decide +kernel⟩
theorem ok_lunder {f fL : Addr} {fd fdL : FuncData} (F : Fun K "_law_is_under" "_law_is_under" sLUnder f fd) (GL : FnOk P w K mg base CX0 1 fL fdL ["stream", "many"] (spLBeg K)) (cL : Cal K mg "_law_beginning" fL fdL ["stream", "many"]) (ml : mg "len" = none) : FnOk P w K mg base CX0 2 f fd ["stream", "prefix"] (spUnder K) := by
  refine F.ok scLUnder (fun vs H Q E h => ?_) (fun cdv A outer s H vs Q E hr h => ?_)
  · obtain ⟨p, p2, r, r', h, q, w, rfl, _⟩ := h
    rfl
  · obtain ⟨p, p2, r, r', h, q, w, rfl, hp, hp2, q0, ql, hl, wl, k⟩ := h
    refine ⟨_, pss_one (ps_ret (pe_and (pe_cmpR op_eq (pe_ix ix_tup (pv 0) pe_int (fun _ _ => rfl)) (pe_ix ix_tup (pv 1) pe_int (fun _ _ => rfl)) (nomark _))
        (pe_one (pe_cmpR op_eq (pe_call GL hr rfl cL.mg cL.kp cL.b .nil pass0 (pa_cons (pv 0) (pa_cons (pe_callB call_len_str (by rfl) ml boot_len (pa_cons (pe_ix ix_tup (pv 1) pe_int (fun _ _ => rfl)) pa_nil)) pa_nil))) (pe_ix ix_tup (pv 1) pe_int (fun _ _ => rfl)) (nomark _))))), ?_⟩
    refine ⟨_, rfl, p, _, _, _, rfl, rfl, hp, rfl, _, rfl, p2, _, _, _, rfl, rfl, hp2, rfl, rfl, _, rfl, ?_⟩
    by_cases e : r = r'
    · subst e
      refine iteTB (decide_eq_true rfl) ?_
      refine ⟨_, rfl, _, rfl, p2, _, _, _, rfl, rfl, hp2, rfl, _, rfl, small_len wl, p, _, h, q, w.length, rfl, hp, q0, ql, hl, by omega, _, rfl, p2, _, _, _, rfl, rfl, hp2, rfl, rfl, ?_⟩
      unfold underB at k
      rw [decide_eq_true rfl, Bool.true_and] at k
      have hk : w.length ≤ h.length + (w.length / q.length + 1) * q.length := by
        have := Nat.lt_div_mul_add (a := w.length) q0
        rw [Nat.succ_mul]
        omega
      rw [beg_N hk]
      have e2 : decide (V.str (S (begN h q w.length)) = V.str (S w)) = decide (begN h q w.length = w) := by
        by_cases c : begN h q w.length = w
        · rw [decide_eq_true c, c]
          exact decide_eq_true rfl
        · rw [decide_eq_false c]
          exact decide_eq_false fun z => c (S_inj (V.str.inj z))
      rw [e2]
      exact k
    · refine iteFB (decide_eq_false fun z => e (V.int.inj z)) ?_
      unfold underB at k
      rw [decide_eq_false e, Bool.false_and] at k
      exact k
end
end Vf


set_option Elab.async false
set_option maxRecDepth 100000
set_option maxHeartbeats 4000000
set_option exponentiation.threshold 3000
namespace Vm
theorem ev_app {h q : List Nat} (q0 : 0 < q.length) (i : Nat) : ev (h ++ q) q i = ev h q i := by
  by_cases h1 : i < h.length
  · rw [ev_lt h1, ev_lt (by rw [List.length_append]; omega), getD_app h1]
  · rw [ev_ge (h := h) (by omega)]
    by_cases h2 : i < h.length + q.length
    · rw [ev_lt (by rw [List.length_append]; exact h2), getD_app2 (by omega), g_lt (by omega)]
    · rw [ev_ge (by rw [List.length_append]; omega), List.length_append, show i - h.length = i - (h.length + q.length) + q.length by omega, g_add]
end Vm
namespace Vf
open PySem L2 SX Vm
def spLReplaced (K : PySem.W.Frag) : Sp := fun vs H Q _ => ∃ (p p1 p2 : Addr) (r r1 r2 : V) (h q v w : List Nat), vs = [.ref p, .ref p1, .ref p2] ∧ SqT K H p [r, .str (S h), .str (S q)] ∧ SqT K H p1 [r1, .str (S v)] ∧ SqT K H p2 [r2, .str (S w)] ∧ 0 < q.length ∧ q.length ≤ 100 ∧ h.length ≤ 100 ∧ v.length ≤ 200 ∧ w.length ≤ 200 ∧
  ∀ (h' q' : List Nat) (p' : Addr) (H' : Hp), Nf (shF w v.length (ev h q)) h' q' → Same H H' → H p' = none → H' p' = some (.tup [r2, .str (S h'), .str (S q')]) → Q (.ref p') H'
section
variable {P : Program} {w : World} {K : PySem.W.Frag} {mg : Str → Option Value} {base : Heap}
end
end Vf


set_option Elab.async false
set_option maxRecDepth 100000
set_option maxHeartbeats 4000000
/-! Calls of which it is known that no repr is under way around them; repr of plain data; counting in a list. -/
namespace VG
open PySem PySem.Spec PyProof.Rows L2
/-- a def's promise, where no repr runs around the call -/
structure FnG (P : Program) (w : World) (K : PySem.W.Frag) (mg : Str → Option Value) (base : Heap) (k : Nat) (f : Addr) (fd : FuncData) (ps : List Str) (sp : Sp) : Prop where
  len : ∀ vs H Q E, sp vs H Q E → vs.length = ps.length
  at_ : ∀ {A : Around} {outer : List Env} {s : Shared} {H : Hp} {args : Args} {us : List Value} {vs : List V} {Q : VK} {E : XK}, A.guards = some [] → Room k A → Env0 P w K mg base A outer s H → BindsTo s fd args (ps.zip us) → Vals vs us → sp vs H Q E →
    codeAny (model P w) A (.call (.ref f) args) (CR L2.CX0 outer P w H s Q E) s
section
variable {P : Program} {w : World} {K : PySem.W.Frag} {mg : Str → Option Value} {base : Heap}
theorem FnG.of {x qual : Str} {st : Stmt} {f : Addr} {fd : FuncData} {N ps : List Str} {k : Nat} {sp : Sp} (F : Fun K x qual st f fd) (S : FnScope N ps (defScope st)) (len : ∀ vs H Q E, sp vs H Q E → vs.length = ps.length)
    (body : ∀ (cdv : Value) (A : Around) (outer : List Env) (s : Shared) (H : Hp) (vs : List V) (Q : VK) (E : XK), A.guards = some [] → Room k (A.deeper (envOfC qual (defScope st) s.heap.objs.size f cdv)) → PySem.W.codeIn K cdv qual = true → (∃ (oc : Value) (od : Option Addr) (kV doc pm : Value) (an : Option Addr) (ct : Value) (osl : Array (Option Value)), K.lookup f = some ⟨oc, od, .func (PySem.W.fnOf x qual (defArgs st) (defBody st) (defScope st) .none kV doc pm an cdv ct), osl⟩) → sp vs H Q E →
      ∃ t, PSs (cxOf L2.CX0 P w K mg base N qual (defScope st) f cdv A outer s H E).nox (defBody st) t ∧ t { nx := fun _ H' => Q .non H', rt := Q } (L2.start N vs) H) : FnG P w K mg base (k + 1) f fd ps sp := by
  obtain ⟨oc, od, kV, doc, pm, an, cdv, ct, osl, rfl, lk, hcd⟩ := F.ex
  refine ⟨len, fun {A outer s H args us vs Q E} hg hr e0 hb r hs => LamX.run_ofS lk hcd S hr e0 hb r (len _ _ _ _ hs) fun hr' => ?_⟩
  obtain ⟨t, h1, h2⟩ := body cdv A outer s H vs Q E hg hr' hcd ⟨_, _, _, _, _, _, _, _, lk⟩ hs
  exact ⟨t, h1.nox, h2⟩
end
section
variable {X : Cx} {k : Nat} {f : Addr} {fd : FuncData} {ps : List Str} {sp : Sp} {x : Str} {p pos : Pos} {e : Expr} {es : List Expr} {t : TA}
theorem pe_callG (G : FnG X.prog X.w X.K X.mg X.base k f fd ps sp) (gd : X.A.guards = some []) (hr : Room k X.A) (hg : Gl X x) (hm : X.mg x = some (.ref f)) (hk : PySem.W.keepIn X.K (.ref f) = true) (hb : Binds X.K fd ps [])
    (ha : PA X (e :: es) t) (hdb : (x == ("__debug__" : Str)) = false := by decide) (he : starEach (e :: es) X.env = (false, eval e X.env) :: starEach es X.env := by rfl) (hpl : (backTo pos (starEach es X.env)).any (·.1) = false := by rfl) :
    PE X (.Call (.Name x p) (e :: es) [] pos) (tCall sp [] E0 t) := by
  constructor
  intro pins s σ H Q I h
  refine wpAny_Call_Name_kw (ld_glob I hg hm (PySem.W.callWith_K I.ok.mod.kin hk (thn (ha.run pos pins s σ H _ I h) ?_) he hpl) hdb)
  rintro us s1 ⟨vs, H1, J, rv, q⟩
  refine ⟨J.kIn, ?_⟩
  have q' : sp vs H1 Q E0 := by
    have q0 : sp (vs ++ []) H1 Q E0 := q
    rw [List.append_nil] at q0
    exact q0
  have hz : (us ++ []).length = ps.length := by rw [List.append_nil, ← rv.length, G.len _ _ _ _ q']
  have hbt := hb s1 us J.kIn hz
  rw [List.append_nil] at hbt
  refine wpAny_call (codeAny_mono (G.at_ gd hr J.env0 hbt rv q') fun r s2 z => ?_)
  match r, z with
  | .ok (.ret _), z => exact J.after z
  | .ok .next, z => exact z.elim
  | .ok .brk, z => exact z.elim
  | .ok .cont, z => exact z.elim
  | .error _, z => exact (show False from z).elim
end
end VG


set_option Elab.async false
set_option maxRecDepth 100000
set_option maxHeartbeats 4000000
/-! The end of a law whose def's promise is of the kind FnG, with tables of code objects. -/
namespace VG
open PySem PySem.Spec PyProof.Rows L2
theorem endG {P : Program} {w : World} {K : PySem.W.Frag} {mg mb : Str → Option Value} {k : Nat} {fa a : Addr} {cs : List (Addr × Addr)} {fd : FuncData} {x : Str} {sp : Sp} {s : Shared} {vs : List Value} {ns : List Int}
    (kin : K.In s.heap) (gl : s.heap.Ns mainGlobals mg) (bl : s.heap.Ns builtinsNs mb) (bb : ∀ y : Str, y ≠ "__name__" → mb y = bootBuiltins y) (lim : s.heap.NoLimit) (gens : s.gens = #[])
    (tab : ∀ p ∈ cs, s.heap.get? p.2 = some { cls := .none, data := .fields #[] }) (out : ∀ p ∈ cs, K.lookup p.2 = none) (code : ∀ p ∈ cs, PySem.W.CodeHd s.heap p.1 p.2)
    (bm : ∃ (m : Addr) (o : Obj), mg "__builtins__" = some (.ref m) ∧ m ≠ builtinsNs ∧ s.heap.get? m = some o ∧ o.cls = .type "module" ∧ o.dict = some builtinsNs ∧ o.data = .plain)
    (scr : s.heap.get? a = some { cls := .type "list", data := .seq vs.toArray }) (hia : IntsAre vs ns) (sz : ns.length ≤ sizeLine) (room : Room k callerA)
    (F : ∀ base : Heap, K.In base → base.Ns mainGlobals mg → (∀ p ∈ cs, LamX.TabB base mg p.1 p.2) → FnG P w K mg base k fa fd [x] sp) (bind : ∀ (s : Shared) (u : Value), BindsTo s fd ⟨[u], []⟩ [(x, u)])
    (hsp : ∀ H : Hp, (∀ p ∈ cs, H p.2 = some (.tbl #[])) → SqL K H a (ns.map V.int) → sp [.ref a] H (fun v _ => v = .bl true) fun _ _ _ => False) :
    codeAny (model P w) callerA (.call (.ref fa) ⟨[.ref a], []⟩) (fun r s' => r = .ok (.ret (.bool true)) ∧ OldK s.heap s'.heap ∧ s'.os = s.os ∧ AllBare s'.gens) s := by
  classical
  have rv := vals_ints hia
  -- what is tracked: the tables, and the script unless the module holds it
  obtain ⟨H, hT, hA, hN⟩ : ∃ H : Hp, (∀ p ∈ cs, H p.2 = some (.tbl #[])) ∧ (K.lookup a = none → H a = some (.frz { cls := .type "list", data := .seq vs.toArray } (.lst (ns.map V.int)))) ∧
      ∀ b o, H b = some o → (o = .tbl #[] ∧ ∃ p ∈ cs, p.2 = b) ∨ (o = .frz { cls := .type "list", data := .seq vs.toArray } (.lst (ns.map V.int)) ∧ b = a ∧ K.lookup a = none) := by
    refine ⟨fun b => if ∃ p ∈ cs, p.2 = b then some (.tbl #[]) else if b = a ∧ K.lookup a = none then some (.frz { cls := .type "list", data := .seq vs.toArray } (.lst (ns.map V.int))) else none, fun p hp => if_pos ⟨p, hp, rfl⟩, fun hk => ?_, fun b o e => ?_⟩
    · have no : ¬ ∃ p ∈ cs, p.2 = a := fun ⟨p, hp, e⟩ => by
        have z := tab p hp
        rw [e, scr] at z
        cases z
      exact (if_neg no).trans (if_pos ⟨rfl, hk⟩)
    · by_cases c1 : ∃ p ∈ cs, p.2 = b
      · simp only [if_pos c1] at e
        exact .inl ⟨(Option.some.inj e).symm, c1⟩
      · simp only [if_neg c1] at e
        by_cases c2 : b = a ∧ K.lookup a = none
        · simp only [if_pos c2] at e
          exact .inr ⟨(Option.some.inj e).symm, c2⟩
        · simp only [if_neg c2] at e
          cases e
  have hseq : SqL K H a (ns.map V.int) := by
    cases hk : K.lookup a with
    | none => exact .inl (.inr ⟨_, hA hk⟩)
    | some o =>
      have e := kin a o hk
      rw [scr] at e
      cases e
      exact .inr ⟨_, vs.toArray, _, hk, rfl, rfl, rfl, by rw [List.size_toArray, hia.length]; exact sz, by simpa using rv⟩
  have ok : HOk P w H s.heap := fun b o e => by
    rcases hN b o e with ⟨rfl, p, hp, rfl⟩ | ⟨rfl, rfl, _⟩
    · exact tab p hp
    · exact ⟨scr, by rw [List.length_map]; exact sz, vs, _, rv, scr⟩
  -- an object of another shape is not tracked
  have off : ∀ {b : Addr} {o : Obj}, s.heap.get? b = some o → (∀ z n, o.data ≠ .seq z n) → o.data ≠ .fields #[] → H b = none := fun {b o} e h1 h2 => by
    cases q : H b with
    | none => rfl
    | some u =>
      rcases hN b u q with ⟨_, p, hp, rfl⟩ | ⟨_, rfl, _⟩
      · rw [tab p hp] at e
        cases e
        exact (h2 rfl).elim
      · rw [scr] at e
        cases e
        exact (h1 _ _ rfl).elim
  have offD : ∀ {b : Addr} {m : Str → Option Value}, s.heap.Ns b m → (hidT s.heap H).Ns b m := fun {b m} ⟨o, es, ep, e, d, r⟩ =>
    ⟨o, es, ep, hidT_get e (off e (fun z n y => by rw [d] at y; cases y) (fun y => by rw [d] at y; cases y)), d, r⟩
  have kinB : K.In (hidT s.heap H) := fun b o e => hidT_get (kin b o e) (by
    cases q : H b with
    | none => rfl
    | some u =>
      rcases hN b u q with ⟨_, p, hp, rfl⟩ | ⟨_, rfl, hk⟩
      · rw [out p hp] at e; cases e
      · rw [hk] at e; cases e)
  have md : L2.Mod K mg (hidT s.heap H) := ⟨kinB, offD gl, ⟨mb, offD bl, bb⟩, let ⟨mc, h1, h2⟩ := lim; ⟨mc, offD h1, h2⟩⟩
  have TB : ∀ p ∈ cs, LamX.TabB (hidT s.heap H) mg p.1 p.2 := fun p hp => by
    refine ⟨?_, ?_, fun z => ?_⟩
    · obtain ⟨o, us, file, tf, flags, tg, inF, text, tt, e1, c1, c2, c3, r⟩ := code p hp
      refine ⟨o, us, file, tf, flags, tg, inF, text, tt, hidT_get e1 (off e1 (fun z n y => ?_) (fun y => ?_)), c1, c2, c3, r⟩
      · rw [c2] at y; cases y
      · rw [c2] at y
        cases y
        simp at c3
    · obtain ⟨m, o, b1, b2, b3, b4, b5, b6⟩ := bm
      refine ⟨m, o, b1, b2, fun z => ?_, fun z => ?_, hidT_get b3 (off b3 (fun z n y => by rw [b6] at y; cases y) (fun y => by rw [b6] at y; cases y)), b4, b5, b6⟩
      · obtain ⟨o', es, ep, e, d, _⟩ := gl
        rw [z, e] at b3
        cases b3
        rw [d] at b6
        cases b6
      · rw [z, tab p hp] at b3
        cases b3
        cases b6
    · obtain ⟨o', es, ep, e, d, _⟩ := gl
      rw [z, tab p hp] at e
      cases e
      cases d
  have e0 : Env0 P w K mg (hidT s.heap H) callerA [] s H :=
    ⟨rfl, md, fun _ _ e => of_hidT e, Nat.le_of_eq (hidT_size _ _), trivial, fun _ hb => absurd hb (List.not_mem_nil), ok, .of_eq gens⟩
  refine codeAny_mono ((F _ kinB (offD gl) TB).at_ (args := ⟨[.ref a], []⟩) (us := [.ref a]) (vs := [.ref a]) rfl room e0 (bind s (.ref a)) (.cons rfl .nil) (hsp H hT hseq)) fun r s' z => ?_
  match r, z with
  | .ok .next, z => exact z.elim
  | .ok .brk, z => exact z.elim
  | .ok .cont, z => exact z.elim
  | .error _, z => exact (show False from z).elim
  | .ok (.ret u), z =>
    obtain ⟨v, H', os, bare, un, ok', rel, q⟩ := z
    have q' : v = .bl true := q
    subst q'
    obtain rfl : u = Value.bool true := rel
    -- every object but the tables is as it was; the tables have grown
    have same : ∀ b o, (∀ p ∈ cs, p.2 ≠ b) → s.heap.get? b = some o → s'.heap.get? b = some o := fun b o nb e => by
      cases q : H b with
      | none => exact un.keep b o e q (fun y => absurd y List.not_mem_nil) (fun y => absurd y List.not_mem_nil)
      | some t =>
        rcases hN b t q with ⟨_, p, hp, y⟩ | ⟨rfl, rfl, _⟩
        · exact absurd y (nb p hp)
        · have y := ok' b _ (un.frzs b _ _ q)
          rw [scr] at e
          cases e
          exact y.1
    have grown : ∀ p ∈ cs, ∃ more : Array Value, s'.heap.get? p.2 = some { cls := .none, data := .fields more } := fun p hp => by
      obtain ⟨more, y⟩ := un.tbls p.2 #[] (hT p hp)
      exact ⟨_, ok' p.2 _ y⟩
    refine ⟨rfl, ⟨fun b o e => ?_, fun b o e => ?_⟩, os, bare⟩
    · by_cases c : ∃ p ∈ cs, p.2 = b
      · obtain ⟨p, hp, rfl⟩ := c
        obtain ⟨more, y⟩ := grown p hp
        rw [tab p hp] at e
        cases e
        exact .inr (.inl ⟨((code p hp).tab (tab p hp)).isCodeTable, rfl, #[], more, rfl, by rw [Array.empty_append]; exact y⟩)
      · exact .inl (same b o (fun p hp y => c ⟨p, hp, y⟩) e)
    · by_cases c : ∃ p ∈ cs, p.2 = b
      · obtain ⟨p, hp, rfl⟩ := c
        obtain ⟨more, y⟩ := grown p hp
        exact ⟨_, y⟩
      · exact ⟨o, same b o (fun p hp y => c ⟨p, hp, y⟩) e⟩
/-- what is known of the law's def at the head's heap -/
def LawG (l : PySem.W.OpenLaw) (w : World) (K : PySem.W.Frag) (k n : Nat) (x : Str) (mg : Str → Option Value) (fa : Addr) (h : Heap) : Prop :=
  ∃ (fd : FuncData) (cs : List (Addr × Addr)) (sp : Sp), (∀ p ∈ cs, h.get? p.2 = some { cls := .none, data := .fields #[] }) ∧ (∀ p ∈ cs, K.lookup p.2 = none) ∧ (∀ p ∈ cs, PySem.W.CodeHd h p.1 p.2) ∧ (∀ (s : Shared) (u : Value), BindsTo s fd ⟨[u], []⟩ [(x, u)]) ∧
    (∀ (H : Hp) (a : Addr) (ns : List Int), ns.length ≤ n → (∀ p ∈ cs, H p.2 = some (.tbl #[])) → SqL K H a (ns.map V.int) → sp [.ref a] H (fun v _ => v = .bl true) fun _ _ _ => False) ∧
    ∀ base : Heap, K.In base → base.Ns mainGlobals mg → (∀ p ∈ cs, LamX.TabB base mg p.1 p.2) → FnG l.prog w K mg base k fa fd [x] sp
theorem walkG {l : PySem.W.OpenLaw} {n k : Nat} {q : Program} {loose : List Str} {XP : (Str → Option Value) → Heap → Prop} {YP : World → Heap → Prop} {d : DefRec} {K : Params → PySem.W.Frag} {x : Str}
    (hn : l.most = some n) (hn2 : n ≤ sizeLine) (hdf : d.params.defaults = []) (hr : Room k callerA) (hY : ∀ (w : World) (h : Heap), YP w h → (K w.params).In h)
    (F : ∀ (w : World) (mg : Str → Option Value) (fa : Addr) (h : Heap), YP w h → (K w.params).In h → h.Ns mainGlobals mg → mg d.name = some (.ref fa) → LawG l w (K w.params) k n x mg fa h) :
    PySem.W.WalkO q loose XP YP l.row.toRowW d [] (fun f vs => PySem.call f vs) := by
  refine Att.attach_callB hn hdf fun w s₀ s₁ mg mb fa o pm cd doc a vs ns G Y ho hd hcd hmg hobj hints hlen hbits hg => ?_
  obtain ⟨fd, cs, sp, h1, h2, h3, h4, h5, h6⟩ := F w mg fa _ Y (hY w _ Y) G.T.g hmg
  exact endG (hY w _ Y) G.T.g G.T.b G.T.builtins G.T.nolimit hg h1 h2 h3 G.T.bmain hobj hints (Nat.le_trans hlen hn2) hr h6 h4 fun H t sq => h5 H a ns hlen t sq
end VG


set_option Elab.async false
set_option maxRecDepth 100000
set_option maxHeartbeats 4000000
/-! repr of plain data; how often a value lies in a list. -/
namespace VG
open PySem PySem.Spec PyProof.Rows L2
inductive Fl : V → PyData → Prop where
  | non : Fl .non .none
  | bl (b : Bool) : Fl (.bl b) (.bool b)
  | int (n : Int) : Fl (.int n) (.int n)
  | str (s : Str) : Fl (.str s) (.str s)
inductive Fls : List V → List PyData → Prop where
  | nil : Fls [] []
  | cons {v d vs ds} : Fl v d → Fls vs ds → Fls (v :: vs) (d :: ds)
/-- what a value shows, as the abstract heap tells it -/
inductive Sh (H : Hp) : V → PyData → Prop where
  | fl {v d} (h : Fl v d) : Sh H v d
  | lst {p xs ds} (h : H p = some (.lst xs)) (f : Fls xs ds) : Sh H (.ref p) (.list ds)
  | tup {p xs ds} (h : H p = some (.tup xs)) (f : Fls xs ds) : Sh H (.ref p) (.tuple ds)
  | dct {p} (h : H p = some (.dK [])) : Sh H (.ref p) (.dict [])
theorem Fls.flat : ∀ {vs : List V} {ds : List PyData}, Fls vs ds → PyData.depthAll ds = 0 ∧ PyData.hasDictAll ds = false
  | _, _, .nil => ⟨rfl, rfl⟩
  | _, _, .cons a r => by
    obtain ⟨h1, h2⟩ := r.flat
    cases a <;> exact ⟨by show max _ _ = 0; rw [h1]; rfl, by show (_ || _) = false; rw [h2]; rfl⟩
theorem reads_fl {h : Heap} {v : V} {d : PyData} {u : Value} (f : Fl v d) (r : RelV v u) : Reads h u d [] := by
  cases f with
  | non => cases (show u = Value.none from r); exact .none
  | bl b => cases (show u = Value.bool b from r); exact .bool b
  | int n => obtain ⟨t, rfl⟩ := (show ∃ t, u = Value.int n t from r); exact .int n t
  | str s => obtain ⟨t, rfl⟩ := (show ∃ t, u = Value.str s t from r); exact .str s t
theorem reads_fls {h : Heap} : ∀ {vs : List V} {ds : List PyData} {us : List Value}, Fls vs ds → Vals vs us → ReadsAll h us ds []
  | _, _, _, .nil, .nil => .nil
  | _, _, _, .cons a b, .cons r t => by
    have z := ReadsAll.cons (reads_fl (h := h) a r) (reads_fls b t)
    exact z
section
variable {X : Cx}
/-- repr(v), where no repr is under way -/
def rRepr : List V → Hp → VK → Prop := fun xs H Q => ∃ (v : V) (d : PyData), xs = [v] ∧ Sh H v d ∧ d.showable = true ∧ d.shown.length ≤ sizeLine ∧ Q (.str d.shown) H
theorem call_repr (gd : X.A.guards = some []) (hu : X.A.units + 10 < cLine) : CallR X (.builtin "repr") rRepr := by
  intro pins s σ H xs us Q I r h
  obtain ⟨v, d, rfl, sh, hs, hz, q⟩ := h
  obtain ⟨u, rfl, ru⟩ : ∃ u, us = [u] ∧ RelV v u := by
    cases r with
    | cons a b => cases b; exact ⟨_, rfl, a⟩
  have fin : ∀ (h' : Heap) (t : Tok) (tk : Tok), (∀ b o, s.heap.get? b = some o → h'.get? b = some o) → EP X pins σ Q (.str d.shown t) { s with heap := h', toks := tk } := fun h' t tk k => ⟨.str d.shown, H, I.kept (t' := tk) k, ⟨t, rfl⟩, q⟩
  cases sh with
  | fl f =>
    cases f with
    | non => cases (show u = Value.none from ru); exact PySem.P.repr_of_none (fin s.heap _ _ fun _ _ z => z)
    | bl b => cases (show u = Value.bool b from ru); refine PySem.P.repr_of_bool ?_; cases b <;> exact fin s.heap _ _ fun _ _ z => z
    | int n => obtain ⟨t, rfl⟩ := (show ∃ t, u = Value.int n t from ru); exact PySem.P.repr_of_int (of_decide_eq_true hs) (fin s.heap _ _ fun _ _ z => z)
    | str x => obtain ⟨t, rfl⟩ := (show ∃ t, u = Value.str x t from ru); exact PySem.P.repr_of_str (fin s.heap _ _ fun _ _ z => z) hz
  | @lst p vs ds hp f =>
    cases (show u = Value.ref p from ru)
    obtain ⟨_, its, n, rv, ho⟩ := (show ObjOk X.prog X.w H s.heap p (.lst vs) from I.hok p _ hp)
    obtain ⟨f1, f2⟩ := f.flat
    have rd : Reads s.heap (.ref p) (.list ds) (p :: []) := .list ho rfl rfl (reads_fls f rv)
    refine repr_of_reads' rd hs (PyData.noDict_hsm f2) gd ?_ (fun _ _ e => e) (fun h' t tk k => fin h' t tk k) hz
    show X.A.units + (PyData.depthAll ds + 1 + 1) < cLine
    rw [f1]
    omega
  | @tup p vs ds hp f =>
    cases (show u = Value.ref p from ru)
    obtain ⟨_, its, rv, o, h1, h2, n, h3⟩ := (show ObjOk X.prog X.w H s.heap p (.tup vs) from I.hok p _ hp)
    obtain ⟨f1, f2⟩ := f.flat
    have rd : Reads s.heap (.ref p) (.tuple ds) [] := .tuple h1 h2 h3 (reads_fls f rv)
    refine repr_of_reads' rd hs (PyData.noDict_hsm f2) gd ?_ (fun _ _ e => e) (fun h' t tk k => fin h' t tk k) hz
    show X.A.units + (PyData.depthAll ds + 1 + 1) < cLine
    rw [f1]
    omega
  | @dct p hp =>
    cases (show u = Value.ref p from ru)
    obtain ⟨_, hm, vs, kv, o, es, ep, h1, h2, h3⟩ := (show ObjOk X.prog X.w H s.heap p (.dK []) from I.hok p _ hp)
    cases kv
    obtain ⟨hd, _, hp2, _⟩ := h3
    have he : es.toList = [] := by
      generalize es.toList = l at hp2
      cases hp2
      rfl
    have rd : Reads s.heap (.ref p) (.dict []) (p :: [] ++ []) := .dict h1 h2.1 hd (by rw [he]; exact .nil) (by rw [he]; exact .nil)
    refine repr_of_reads' rd hs (fun _ z => ?_) gd ?_ (fun _ _ e => e) (fun h' t tk k => fin h' t tk k) hz
    · have z' : sysModules = p := by simpa using z
      rw [z'] at hm
      simp at hm
    · show X.A.units + (0 + 1 + 1) < cLine
      omega
/-- how often a plain value lies in a list of such -/
def rCount (K : PySem.W.Frag) : V → List V → Hp → VK → Prop := fun x xs H Q => ∃ (a : Addr) (ys : List V) (y : V), x = .ref a ∧ xs = [y] ∧ SqL K H a ys ∧ flatV y = true ∧ ys.all flatV = true ∧ Q (.int ((ys.countP fun z => eqV z y : Nat) : Int)) H
theorem countP_vals {y : V} : ∀ {ys : List V} {us : List Value}, Vals ys us → ys.all flatV = true → us.countP (eqU y) = ys.countP fun z => eqV z y
  | _, _, .nil, _ => rfl
  | z :: ys, u :: us, .cons r t, f => by
    rw [List.all_cons, Bool.and_eq_true] at f
    rw [List.countP_cons, List.countP_cons, countP_vals t f.2, eqU_of r f.1]
theorem mt_count : MtR X "list.count" (rCount X.K) := by
  intro pins s σ H x xs v us Q I rx rxs h
  obtain ⟨a, ys, y, rfl, rfl, hs, fy, fys, q⟩ := h
  cases (show v = Value.ref a from rx)
  obtain ⟨u, rfl, ru⟩ := rxs.one
  obtain ⟨its, rv, ⟨⟨cls, dd, data, sl⟩, n, ho, hc, hdn, hd⟩, hlen⟩ := I.list hs
  simp only at hc hd
  subst hc hd
  refine call_meets PySem.F.slot_list_count ⟨_, ho, rfl⟩ PySem.F.entry_list_count (PySem.F.args_list_count_2 _ _) (SeqAt.list_countAt a its.toArray n dd sl u (eqU y)) ⟨ho, fun z hz => mem_eqAt ru fy rv fys z (by simpa using hz), ?_⟩
  rw [List.toList_toArray, countP_vals rv fys]
  exact ⟨.int _, H, I.tok _, ⟨_, rfl⟩, q⟩
end
end VG


set_option Elab.async false
set_option maxRecDepth 100000
set_option maxHeartbeats 4000000
/-! try with two clauses that name what they catch; whatever the body raises is caught. -/
namespace VG
open PySem PySem.Spec PyProof.Rows L2
/-- an exception at a, landed: the state is h3's, the slots and the abstract heap as when it was raised -/
structure Down (X : Cx) (pins : List (Addr × Obj)) (a : Addr) (cls : Value) (d : Option Addr) (σ : L2.St) (H : Hp) (sI : Shared) (B h3 : Heap) (s' : Shared) : Prop where
  inv : Inv X pins σ H sI
  nb : ∀ b o, sI.heap.get? b = some o → b ∉ frs X.stack → B.get? b = some o
  fly : HandSPX.FlyingZ B (X.env :: X.outer) a (Zc cls d) h3
  up : sI.heap.UpToSlots h3
  os : s'.os = sI.os
  bare : AllBare s'.gens
  new : H a = none
section
variable {X : Cx} {pins : List (Addr × Obj)} {a : Addr} {cls : Value} {d : Option Addr} {σ : L2.St} {H : Hp} {sI s' : Shared} {B h3 : Heap}
theorem Down.at_ (y : Down X pins a cls d σ H sI B h3 s') : Inv X pins σ H { s' with heap := h3 } := y.inv.landed y.nb y.fly.1 y.up y.os y.bare
/-- as a suite sees it -/
theorem Down.seen (y : Down X pins a cls d σ H sI B h3 s') (hf : X.env.frame = some X.env.locals) : ∃ (oe : Obj) (vs : Array Value), h3.get? a = some oe ∧ Zc cls d oe ∧ oe.data = .fields vs ∧ Inv (X.suite a ((a, oe) :: (X.pn ++ pins))) [] σ H { s' with heap := h3 } := by
  obtain ⟨oe, vs, e1, e2, e3⟩ := y.fly.there
  have out : a ∉ frs (X.env :: X.outer) := fun hm => by
    obtain ⟨_, o, eo, ho⟩ := y.fly.2.2.1.mem hm
    rw [e1] at eo
    cases eo
    exact ho _ e3
  have o1 : a ≠ X.env.locals := fun z => out (List.mem_filterMap.mpr ⟨X.env, .head _, by rw [hf, z]⟩)
  have o2 : a ∉ X.fs := fun hm => out (let ⟨v, hv, q⟩ := List.mem_filterMap.mp hm; List.mem_filterMap.mpr ⟨v, .tail _ hv, q⟩)
  exact ⟨oe, vs, e1, e2, e3, y.at_.suite e1 e3 y.new o1 o2⟩
/-- the clause's class is asked -/
theorem Down.ask (y : Down X pins a cls d σ H sI B h3 s') (hf : X.env.frame = some X.env.locals) {x : Str} {c : Value} {np : Pos} {b : Bool} {E : Value → Shared → Prop} {R : Bool → Shared → Prop} (nm : Names X x c) (m : PySem.W.exmOne X.K cls c = some b)
    (r : R b { s' with heap := h3 }) : wpAny (model X.prog X.w) (X.A.mark (some (.ref a))) (eval (.Name x np) X.env) (fun cv s1 => wpAny (model X.prog X.w) (X.A.mark (some (.ref a))) (excMatches (.ref a) cv) R E s1) E { s' with heap := h3 } := by
  obtain ⟨oe, vs, e1, e2, e3, J⟩ := y.seen hf
  have ty : PySem.W.Looks (model X.prog X.w) h3 (typeOf (.ref a)) cls := fun A Q E s k q => wpAny_typeOf_ref (k _ _ e1) (by rw [e2.1]; exact q)
  have lm := PySem.W.exm_one (M := model X.prog X.w) y.at_.kIn ty m
  obtain ⟨g1, g2, g3⟩ := nm
  rcases g3 with g3 | ⟨g3, g4, g5⟩
  · exact ld_glob (X := X.suite a ((a, oe) :: (X.pn ++ pins))) J g1 g3 (lm.here r) g2
  · exact ld_blt (X := X.suite a ((a, oe) :: (X.pn ++ pins))) J g1 g3 g4 (lm.here r) g5 g2
/-- a clause that does not match -/
theorem Down.skip (y : Down X pins a cls d σ H sI B h3 s') (hf : X.env.frame = some X.env.locals) {x : Str} {c : Value} {np pos : Pos} {nm : Option Str} {body : List Stmt} {rest : List ExceptHandler} {D : Ends} (n : Names X x c) (m : PySem.W.exmOne X.K cls c = some false)
    (h : wpAny (model X.prog X.w) X.A (handleBy (.ref a) X.env rest) (SP X pins D) X.xe { s' with heap := h3 }) :
    wpAny (model X.prog X.w) X.A (handleBy (.ref a) X.env (.ExceptHandler (some (.Name x np)) nm body pos :: rest)) (SP X pins D) X.xe { s' with heap := h3 } :=
  wpAny_handleBy_cons (codeAny_handlers_test (y.ask hf n m h)) fun z => nomatch z
/-- a clause that matches: its suite, then its name goes -/
theorem Down.take (y : Down X pins a cls d σ H sI B h3 s') (hf : X.env.frame = some X.env.locals) {x n : Str} {i : Nat} {c : Value} {np pos : Pos} {b₀ : Stmt} {body : List Stmt} {rest : List ExceptHandler} {D : Ends} {ts : TS} (nm : Names X x c) (m : PySem.W.exmOne X.K cls c = some true)
    (hN : X.N.Nodup) (hi : X.N[i]? = some n) (hl : X.env.kindOf n = some .local)
    (su : ∀ (oe : Obj) (pn : List (Addr × Obj)), Zc cls d oe → (∃ vs, oe.data = .fields vs) → PSs (X.suite a ((a, oe) :: pn)) (b₀ :: body) ts)
    (h : ts { nx := fun σ' H' => D.nx (σ'.set i none) H', rt := D.rt, bk := fun σ' H' => D.bk (σ'.set i none) H', ct := fun σ' H' => D.ct (σ'.set i none) H' } (σ.set i (some (.ref a))) H) :
    wpAny (model X.prog X.w) X.A (handleBy (.ref a) X.env (.ExceptHandler (some (.Name x np)) (some n) (b₀ :: body) pos :: rest)) (SP X pins D) X.xe { s' with heap := h3 } := by
  have ok := y.inv.ok
  refine wpAny_handleBy_cons (codeAny_handlers_test (y.ask hf nm m (codeAny_handlers_suite_as ?_))) fun z => nomatch z
  refine HandSPX.lands_againZ y.fly fun h4 f4 u4 => ?_
  have y4 : Down X pins a cls d σ H sI B h4 s' := ⟨y.inv, y.nb, f4, y.up.trans u4, y.os, y.bare, y.new⟩
  obtain ⟨oe, vs, e1, e2, e3, J⟩ := y4.seen hf
  refine store_ok (X := X.suite a ((a, oe) :: (X.pn ++ pins))) (v := .ref a) J hN hi (.inl hl) rfl (fun s5 J5 => ?_) (.inr hl)
  refine wpAny_mono ((su oe (X.pn ++ pins) e2 ⟨_, e3⟩).run [] s5 _ H _ J5 h) (fun fl s6 z => ?_) fun _ _ z => z.elim
  match fl, z with
  | .next, ⟨_, _, J6, q⟩ => exact gone_ok (J6.unsuite ok) hN hi hl fun _ J7 => ⟨_, _, J7, q⟩
  | .brk, ⟨_, _, J6, q⟩ => exact gone_ok (J6.unsuite ok) hN hi hl fun _ J7 => ⟨_, _, J7, q⟩
  | .cont, ⟨_, _, J6, q⟩ => exact gone_ok (J6.unsuite ok) hN hi hl fun _ J7 => ⟨_, _, J7, q⟩
  | .ret _, ⟨_, _, _, J6, r6, q⟩ => exact gone_ok (J6.unsuite ok) hN hi hl fun _ J7 => ⟨_, _, _, J7, r6, q⟩
end
/-- what two clauses 'except x as n' wish of what the body raises; nothing else is raised -/
def wTwo (K : PySem.W.Frag) (nl i : Nat) (c1 c2 : Value) (t1 t2 : Addr → Value → Option Addr → TS) (D : Ends) : WX := fun cls d σ H => σ.length = nl →
  (PySem.W.exmOne K cls c1 = some true ∧ ∀ a, H a = none → t1 a cls d { nx := fun σ' H' => D.nx (σ'.set i none) H', rt := D.rt, bk := fun σ' H' => D.bk (σ'.set i none) H', ct := fun σ' H' => D.ct (σ'.set i none) H' } (σ.set i (some (.ref a))) H) ∨
  (PySem.W.exmOne K cls c1 = some false ∧ PySem.W.exmOne K cls c2 = some true ∧ ∀ a, H a = none → t2 a cls d { nx := fun σ' H' => D.nx (σ'.set i none) H', rt := D.rt, bk := fun σ' H' => D.bk (σ'.set i none) H', ct := fun σ' H' => D.ct (σ'.set i none) H' } (σ.set i (some (.ref a))) H)
section
variable {X : Cx} {x1 x2 n : Str} {c1 c2 : Value} {i : Nat} {body r1 r2 : List Stmt} {b1 b2 : Stmt} {n1 n2 p1 p2 pos : Pos} {tb : WX → TS} {t1 t2 : Addr → Value → Option Addr → TS}
theorem ps_try_two (hs : X.stack = X.env :: X.outer) (hf : X.env.frame = some X.env.locals) (hN : X.N.Nodup) (hi : X.N[i]? = some n) (hl : X.env.kindOf n = some .local) (m1 : Names X x1 c1) (m2 : Names X x2 c2)
    (hb : ∀ (W : WX) (pn : List (Addr × Obj)) (xe : Value → Shared → Prop), Takes (X.tr pn xe) W → PassesOwn (model X.prog X.w) X.A X.env xe → PSs (X.tr pn xe) body (tb W))
    (s1 : ∀ (a : Addr) (oe : Obj) (cls : Value) (d : Option Addr) (pn : List (Addr × Obj)), Zc cls d oe → (∃ vs, oe.data = .fields vs) → PSs (X.suite a ((a, oe) :: pn)) (b1 :: r1) (t1 a cls d))
    (s2 : ∀ (a : Addr) (oe : Obj) (cls : Value) (d : Option Addr) (pn : List (Addr × Obj)), Zc cls d oe → (∃ vs, oe.data = .fields vs) → PSs (X.suite a ((a, oe) :: pn)) (b2 :: r2) (t2 a cls d)) :
    PS X (.Try body [.ExceptHandler (some (.Name x1 n1)) (some n) (b1 :: r1) p1, .ExceptHandler (some (.Name x2 n2)) (some n) (b2 :: r2) p2] [] [] pos) (fun D σ H => tb (wTwo X.K X.N.length i c1 c2 t1 t2 D) D σ H) := by
  constructor
  intro pins s σ H D I h
  have ok := I.ok
  have fr : X.A.frames = some (X.env :: X.outer) := ok.frames.trans (congrArg some hs)
  refine wpAny_Try_except (wpAny_mono ((hb (wTwo X.K X.N.length i c1 c2 t1 t2 D) (X.pn ++ pins) _ (fun u s2' xx => ?_) PassesOwn.looking).run [] s σ H D (I.toTry _) h) (fun fl s3 z => ?_) fun _ _ z => z)
  · obtain ⟨a, B, sI, pins', σ', H', cls, d, rfl, J', nb, up, sky, na, os, ag, wish⟩ := xx
    have J : Inv X pins σ' H' sI := J'.ofTry ok
    rw [show (X.tr (X.pn ++ pins) _).stack = X.env :: X.outer from hs] at sky
    refine Sky.land Zc.steady fr hf sky fun h3 f3 u3 => ?_
    have y : Down X pins a cls d σ' H' sI B h3 s2' := ⟨J, nb, f3, up.trans u3, os, ag, na⟩
    rcases wish J.len with ⟨w1, w2⟩ | ⟨w1, w2, w3⟩
    · exact y.take hf m1 w1 hN hi hl (fun oe pn z1 z2 => s1 a oe cls d pn z1 z2) (w2 a na)
    · exact y.skip hf m1 w1 (y.take hf m2 w2 hN hi hl (fun oe pn z1 z2 => s2 a oe cls d pn z1 z2) (w3 a na))
  · match fl, z with
    | .next, ⟨_, _, J, q⟩ => exact wpAny_execs_nil ⟨_, _, J.ofTry ok, q⟩
    | .brk, ⟨_, _, J, q⟩ => exact ⟨_, _, J.ofTry ok, q⟩
    | .cont, ⟨_, _, J, q⟩ => exact ⟨_, _, J.ofTry ok, q⟩
    | .ret _, ⟨_, _, _, J, r, q⟩ => exact ⟨_, _, _, J.ofTry ok, r, q⟩
end
end VG


set_option Elab.async false
set_option maxRecDepth 100000
set_option maxHeartbeats 4000000
/-! t[::-1] of tuples and texts; lists that stand behind the start; t != (); data of any depth, and what they show. -/
namespace VG
open PySem PySem.Spec PyProof.Rows L2
section
variable {prog : Program} {w : World} {A : Around} {E : Value → Shared → Prop} {s : Shared}
theorem adjust_rev (n : Nat) : Builtin.Slice.sliceAdjust none none (-1) (n : Int) = ((n : Int) - 1, -1) := by
  unfold Builtin.Slice.sliceAdjust
  rfl
theorem places_rev (n : Nat) : Builtin.Slice.slicePlaces ((n : Int) - 1) (-1) (-1) = n := by
  unfold Builtin.Slice.slicePlaces
  have h1 : ¬ ((-1 : Int) > 0) := by decide
  simp only [h1, if_false]
  rw [show (- -1 : Int) = 1 by decide, Int.ediv_one]
  split <;> omega
theorem sliceApplied_rev {sl : Addr} {vl vu vs : Value} {n : Nat} {Q : Int × Int × Nat → Shared → Prop} (hs : s.heap.IsSliceOf sl vl vu vs) (pl : IsPart vl none) (pu : IsPart vu none) (ps : IsPart vs (some (-1)))
    (h : Q ((n : Int) - 1, -1, n) s) : wpAny (model prog w) A (Builtin.Slice.sliceApplied (.ref sl) (pure (n : Int))) Q E s := by
  obtain ⟨os, hos, hcs, hds⟩ := id hs
  unfold Builtin.Slice.sliceApplied Builtin.Slice.sliceFields
  refine wpAny_bind (wpAny_bind (wpAny_field hos hds (x := vl) rfl (wpAny_bind (wpAny_field hos hds (x := vu) rfl (wpAny_bind (wpAny_field hos hds (x := vs) rfl (wpAny_pure ?_)))))))
  refine wpAny_bind (HT.slicePart_ ps ?_)
  show wpAny _ _ (if ((-1 : Int) == 0) = true then _ else _) _ _ s
  rw [if_neg (by decide)]
  refine wpAny_bind (HT.slicePart_ pl (wpAny_bind (HT.slicePart_ pu (wpAny_bind (wpAny_pure ?_)))))
  show wpAny _ _ (match Builtin.Slice.sliceAdjust none none (-1) (n : Int) with | (lo, hi) => pure (lo, (-1 : Int), Builtin.Slice.slicePlaces lo hi (-1))) _ _ s
  rw [adjust_rev]
  show wpAny _ _ (pure ((n : Int) - 1, (-1 : Int), Builtin.Slice.slicePlaces ((n : Int) - 1) (-1) (-1))) _ _ s
  rw [places_rev]
  exact wpAny_pure h
theorem fm_congr {α β : Type} {f g : α → Option β} : ∀ {l : List α}, (∀ x ∈ l, f x = g x) → l.filterMap f = l.filterMap g
  | [], _ => rfl
  | x :: l, h => by
    rw [List.filterMap_cons, List.filterMap_cons, h x List.mem_cons_self, fm_congr fun y hy => h y (List.mem_cons_of_mem _ hy)]
theorem pick_rev (xs : Array Value) : ((List.range xs.size).filterMap fun (k : Nat) => xs[(((xs.size : Int) - 1) + (k : Int) * (-1)).toNat]?).toArray = xs.toList.reverse.toArray := by
  have h := PySem.W.krv_pick xs
  unfold slicePick at h
  rw [PySem.W.krv_bounds] at h
  have h' : ((sliceRange ((xs.size : Int) - 1) (-1) (-1)).filterMap (xs[·]?)).toArray = xs.toList.reverse.toArray := h
  rw [PySem.W.krv_sliceRange, List.filterMap_map] at h'
  rw [← h']
  congr 1
  refine fm_congr fun k hk => ?_
  have := List.mem_range.mp hk
  show xs[(((xs.size : Int) - 1) + (k : Int) * (-1)).toNat]? = xs[xs.size - 1 - k]?
  congr 1
  omega
theorem getItem_tuple_rev {t sl : Addr} {items : Array Value} {vl vu vs : Value} {Q : Value → Shared → Prop} (ht : IsTup s.heap t items) (hs : s.heap.IsSliceOf sl vl vu vs) (pl : IsPart vl none) (pu : IsPart vu none) (ps : IsPart vs (some (-1)))
    (h : Q (.ref s.heap.objs.size) { s with heap := s.heap.push { cls := .type "tuple", data := .seq items.toList.reverse.toArray } })
    (hsz : items.size ≤ sizeLine) : wpAny (model prog w) A (getItem (.ref t) (.ref sl)) Q E s := by
  have htake : sizeOk (.seq items.toList.reverse.toArray) := by
    show items.toList.reverse.toArray.size ≤ sizeLine
    rw [List.size_toArray, List.length_reverse, Array.length_toList]
    exact hsz
  obtain ⟨os, hos, hcs, hds⟩ := id hs
  have hTs : s.TypeIs (.ref sl) "slice" := ⟨os, hos, hcs⟩
  unfold getItem
  try with_reducible refine wpAny_holding ?_
  first | refine wpAny_bind (wpAny_pure ?_) | skip
  refine wpAny_bind (wpAny_sequenceKey ht.typeIs (by decide) ?_)
  refine wpAny_bind (wpAny_callSpecial?_slot (name := Str.ofString "__getitem__") ht.typeIs PyProof.Rows.slot_tuple_getitem
    (wpAny_call_entry PyProof.Rows.slot_tuple_getitem ht.typeIs entry_tuple_getitem ?_ (args_tuple_getitem _ _)))
  show wpAny _ _ (Builtin.Tuple.tupleItemsOf (.ref t) >>= _) _ _ s
  refine wpAny_bind (tupleItemsOf_ ht ?_)
  refine wpAny_bind (wpAny_typeOf hTs ?_)
  rw [if_pos (by decide)]
  refine wpAny_bind (sliceApplied_rev hs pl pu ps ?_)
  have hno : ¬ ((((items.size : Int) - 1) == 0 && (-1 : Int) == 1 && items.size == items.size) = true) := by
    intro q
    rw [Bool.and_eq_true, Bool.and_eq_true] at q
    exact absurd q.1.2 (by decide)
  show wpAny _ _ (if (((items.size : Int) - 1) == 0 && (-1 : Int) == 1 && items.size == items.size) = true then _ else _) _ _ s
  rw [if_neg hno, pick_rev]
  first
    | exact wpAny_bind (m := Builtin.Tuple.tupleExact _) (wpAny_newObj_type (wpAny_pure ⟨_, rfl, wpAny_pure h⟩) htake)
    | exact wpAny_bind (m := Builtin.Tuple.tupleExact _) (wpAny_newObj_type (wpAny_bind (wpAny_pure (wpAny_pure ⟨_, rfl, wpAny_pure h⟩))) htake)
    | exact wpAny_bind (wpAny_bind (m := Builtin.Tuple.tupleExact _) (wpAny_newObj_type (wpAny_pure (wpAny_pure ⟨_, rfl, wpAny_pure h⟩)) htake))
    | exact wpAny_bind (wpAny_bind (m := Builtin.Tuple.tupleExact _) (wpAny_newObj_type (wpAny_pure ⟨_, rfl, wpAny_pure h⟩) htake))
theorem str_pick_rev (z : Str) : ((Builtin.Str.strSliceIndices none none (-1) z.length).filterMap (z.cps[·]?)).toArray = z.cps.toList.reverse.toArray := by
  have e : Builtin.Str.strSliceIndices none none (-1) z.length = sliceRange ((z.length : Int) - 1) (-1) (-1) := rfl
  rw [e, PySem.W.krv_sliceRange, PySem.W.krv_range, List.filterMap_reverse]
  congr 2
  exact PySem.W.krv_all z.cps
theorem getItem_str_rev {z : Str} {t : Tok} {sl : Addr} {vl vu vs : Value} {Q : Value → Shared → Prop} (hs : s.heap.IsSliceOf sl vl vu vs) (pl : IsPart vl none) (pu : IsPart vu none) (ps : IsPart vs (some (-1)))
    (hz : z.length ≤ sizeLine) (h : ∀ t' tk, Q (.str ⟨z.cps.toList.reverse.toArray⟩ t') { s with toks := tk }) : wpAny (model prog w) A (getItem (.str z t) (.ref sl)) Q E s := by
  obtain ⟨os, hos, hcs, hds⟩ := hs
  cases pl
  cases pu
  cases ps with
  | int i ti =>
    refine wpAny_getItem_str_slice (l := none) (u := none) (st := some (-1, ti)) ⟨os, hos, hcs, hds⟩ rfl ?_
    show Made.post (if ((-1 : Int) == 1 && _) = true then Made.val (.str z t) else Made.str ⟨((Builtin.Str.strSliceIndices none none (-1) z.length).filterMap (z.cps[·]?)).toArray⟩) Q s
    rw [if_neg (by intro q; rw [Bool.and_eq_true] at q; exact absurd q.1 (by decide)), str_pick_rev]
    refine ⟨?_, h _ _⟩
    show (z.cps.toList.reverse.toArray).size ≤ sizeLine
    rw [List.size_toArray, List.length_reverse, Array.length_toList]
    exact hz
end
section
variable {X : Cx} {e : Expr} {te : TE} {k : Nat} {p1 p2 p3 pos : Pos}
/-- e[::-1], e a text or a tuple -/
def tRevA (K : PySem.W.Frag) (te : TE) : TE := fun σ H Q => te σ H fun x H1 => (∃ z : Str, x = .str z ∧ z.length ≤ sizeLine ∧ Q (.str ⟨z.cps.toList.reverse.toArray⟩) H1) ∨ ∃ a xs, x = .ref a ∧ SqT K H1 a xs ∧ ∀ p, H1 p = none → Q (.ref p) (upd H1 p (.tup xs.reverse))
theorem pe_revA (he : PE X e te) : PE X (.Subscript e (.Slice none none (some (.UnaryOp .USub (.Constant (.int 1) k p1) p2)) p3) pos) (tRevA X.K te) := by
  refine ⟨fun pins s σ H Q I h => ?_⟩
  refine Subscript_ (thn (he.run pins s σ H _ I h) fun v s1 ⟨x, H1, I1, r1, q1⟩ => ?_)
  have hst : PO X (some (.UnaryOp .USub (.Constant (.int 1) k p1) p2)) (tPart (tUn (rU fun i => .int (-i)) (tC (.int 1)))) := po_some (pe_un un_neg pe_int)
  refine wpAny_Slice (thn (po_none.run pins s1 σ H1 (fun o H2 => o = none ∧ H2 = H1) I1 ⟨rfl, rfl⟩) fun vl s2 ⟨l, H2, I2, pl, el, e2⟩ => ?_)
  subst el e2
  refine thn (po_none.run pins s2 σ H2 (fun o H3 => o = none ∧ H3 = H2) I2 ⟨rfl, rfl⟩) fun vu s3 ⟨u, H3, I3, pu, eu, e3⟩ => ?_
  subst eu e3
  refine thn (hst.run pins s3 σ H3 (fun o H4 => o = some (-1) ∧ H4 = H3) I3 ⟨1, rfl, -1, rfl, rfl, rfl⟩) fun vs s4 ⟨o, H4, I4, ps, eo, e4⟩ => ?_
  subst eo e4
  have I5 : Inv X pins σ H4 { s4 with heap := s4.heap.push { cls := .type "slice", data := .fields #[vl, vu, vs] } } := I4.kept (t' := s4.toks) fun b ob q => Heap.get?_push_of_some _ q
  rcases q1 with ⟨z, rfl, hz, q⟩ | ⟨a, xs, rfl, hx, q⟩
  · obtain ⟨t, rfl⟩ := r1
    show wpAny (model X.prog X.w) X.A (subscriptTail e (.Slice none none (some (.UnaryOp .USub (.Constant (.int 1) k p1) p2)) p3) (.str z t) (.ref s4.heap.objs.size)) (EP X pins σ Q) X.xe { s4 with heap := s4.heap.push { cls := .type "slice", data := .fields #[vl, vu, vs] } }
    refine tail_any (ops := [.str z t, .ref s4.heap.objs.size]) (typeIs_str _ _ _) (PySem.F.slot_str_getitem.lookup) ?_ (by with_unfolding_all rfl)
    exact getItem_str_rev (Heap.IsSliceOf.new _ vl vu vs) pl pu ps hz fun t' tk => ⟨.str _, H4, I5.tok _, ⟨_, rfl⟩, q⟩
  · cases r1
    obtain ⟨its, r, ht, hz⟩ := I5.tuple hx
    show wpAny (model X.prog X.w) X.A (subscriptTail e (.Slice none none (some (.UnaryOp .USub (.Constant (.int 1) k p1) p2)) p3) (.ref a) (.ref s4.heap.objs.size)) (EP X pins σ Q) X.xe { s4 with heap := s4.heap.push { cls := .type "slice", data := .fields #[vl, vu, vs] } }
    refine tail_any (ops := [.ref a, .ref s4.heap.objs.size]) ht.typeIs (PyProof.Rows.slot_tuple_getitem.lookup) ?_ (by with_unfolding_all rfl)
    have hlen := r.length
    refine getItem_tuple_rev ht (Heap.IsSliceOf.new _ vl vu vs) pl pu ps ?_ (by rw [List.size_toArray]; omega)
    refine ⟨.ref _, _, I5.laid (t' := s4.toks) (o := .tup xs.reverse) (fun b ob q => Heap.get?_push_of_some _ q) (Nat.le_refl _) ?_, rfl, q _ (I5.hok.fresh (Nat.le_refl _))⟩
    exact ⟨by rw [List.length_reverse]; exact hz, _, r.reverse, ⟨_, Heap.get?_push_size _ rfl, rfl, _, rfl⟩⟩
/-- a list display; the list is not the table of modules -/
def tLstB (t : TA) : TE := fun σ H Q => t σ H fun xs H1 => xs.length ≤ sizeLine ∧ ∀ p, sysModules ≠ p → H1 p = none → Q (.ref p) (upd H1 p (.lst xs))
theorem pe_lstB {es : List Expr} {t : TA} (h : PA X es t) : PE X (.List es pos) (tLstB t) := by
  refine ⟨fun pins s σ H Q I hq => ?_⟩
  refine wpAny_List_spliced (thn (h.run pos pins s σ H _ I hq) fun us s1 ⟨xs, H1, I1, r, z, q⟩ => ⟨by rw [← r.length]; exact z, ?_⟩)
  have hf : H1 s1.heap.objs.size = none := I1.hok.fresh (Nat.le_refl _)
  refine ⟨.ref s1.heap.objs.size, upd H1 s1.heap.objs.size (.lst xs), I1.laid (t' := s1.toks) (fun b u e => Heap.get?_push_of_some _ e) (Nat.le_refl _) ?_, rfl, q _ (Nat.ne_of_lt I1.big) hf⟩
  exact ⟨z, us, 0, r, Heap.get?_push_size _ rfl⟩
theorem call_list_ofB : CallR X (.type "list") (fun xs H Q => ∃ p ys, xs = [.ref p] ∧ (SqL X.K H p ys ∨ SqT X.K H p ys) ∧ ∀ l, sysModules ≠ l → H l = none → Q (.ref l) (upd H l (.lst ys))) := by
  intro pins s σ H xs us Q I r h
  obtain ⟨p, ys, rfl, hq, q⟩ := h
  obtain ⟨u, rfl, rx⟩ := vals1 r
  cases rx
  have fin : ∀ (its : List Value), Vals ys its → ys.length ≤ sizeLine → ∀ (h' : Heap) (c' : Nat), (∀ b o', s.heap.get? b = some o' → h'.get? b = some o') →
      h'.get? s.heap.objs.size = some { cls := .type "list", dict := none, data := .seq its.toArray c', slots := #[] } → EP X pins σ Q (.ref s.heap.objs.size) { s with heap := h' } := fun its r' hz h' c' kp e =>
    ⟨.ref s.heap.objs.size, _, I.laid (t' := s.toks) kp (Nat.le_refl _) (show ObjOk X.prog X.w _ h' _ (.lst ys) from ⟨hz, its, c', r', e⟩), rfl, q _ (Nat.ne_of_lt I.big) (I.hok.fresh (Nat.le_refl _))⟩
  rcases hq with hq | hq
  · obtain ⟨its, r', pl, hz⟩ := I.list hq
    have hlen := r'.length
    obtain ⟨o, ho, hc, n, hd⟩ := pl.isList
    exact call_list_seq p (.inl rfl) ho hc hd (fun h' c' kp e => fin its r' hz h' c' kp e) (by simp only [List.size_toArray] <;> omega)
  · obtain ⟨its, r', pl, hz⟩ := I.tuple hq
    have hlen := r'.length
    obtain ⟨o, ho, hc, n, hd⟩ := pl
    exact call_list_seq p (.inr rfl) ho hc hd (fun h' c' kp e => fin its r' hz h' c' kp e) (by simp only [List.size_toArray] <;> omega)
/-- t != (), whatever is in t -/
def rNeT0 (K : PySem.W.Frag) : R2 := fun x y H Q => ∃ (a b : Addr) (xs : List V), x = .ref a ∧ y = .ref b ∧ SqT K H a xs ∧ SqT K H b [] ∧ Q (.bl (decide (xs ≠ []))) H
end
/-! ### data of any depth -/
mutual
inductive Vd (a : Addr) (H : Hp) : V → PyData → Prop
  | non : Vd a H .non .none
  | bl (b : Bool) : Vd a H (.bl b) (.bool b)
  | int (i : Int) : Vd a H (.int i) (.int i)
  | str (x : Str) : Vd a H (.str x) (.str x)
  | lst {p : Addr} {xs : List V} {ds : List PyData} : p ≠ a → sysModules ≠ p → H p = some (.lst xs) → VdAll a H xs ds → Vd a H (.ref p) (.list ds)
  | tup {p : Addr} {xs : List V} {ds : List PyData} : p ≠ a → H p = some (.tup xs) → VdAll a H xs ds → Vd a H (.ref p) (.tuple ds)
  | d0 {p : Addr} : p ≠ a → H p = some (.dK []) → Vd a H (.ref p) (.dict [])
  | d1 {p : Addr} : p ≠ a → H p = some (.dK [(.inl 0, .int 0)]) → Vd a H (.ref p) (.dict [(.int 0, .int 0)])
inductive VdAll (a : Addr) (H : Hp) : List V → List PyData → Prop
  | nil : VdAll a H [] []
  | cons {v : V} {vs : List V} {d : PyData} {ds : List PyData} : Vd a H v d → VdAll a H vs ds → VdAll a H (v :: vs) (d :: ds)
end
section
variable {a : Addr} {H H' : Hp}
mutual
theorem Vd.keep (k : ∀ q o, q ≠ a → (∀ ps, o ≠ .tbl ps) → H q = some o → H' q = some o) : ∀ (d : PyData) (v : V), Vd a H v d → Vd a H' v d
  | .none, _, h => by cases h; exact .non
  | .bool b, _, h => by cases h; exact .bl b
  | .int i, _, h => by cases h; exact .int i
  | .str x, _, h => by cases h; exact .str x
  | .list ds, _, h => by
    cases h with
    | lst n m e r => exact .lst n m (k _ _ n (fun _ z => nomatch z) e) (VdAll.keep k ds _ r)
  | .tuple ds, _, h => by
    cases h with
    | tup n e r => exact .tup n (k _ _ n (fun _ z => nomatch z) e) (VdAll.keep k ds _ r)
  | .dict ds, _, h => by
    cases h with
    | d0 n e => exact .d0 n (k _ _ n (fun _ z => nomatch z) e)
    | d1 n e => exact .d1 n (k _ _ n (fun _ z => nomatch z) e)
theorem VdAll.keep (k : ∀ q o, q ≠ a → (∀ ps, o ≠ .tbl ps) → H q = some o → H' q = some o) : ∀ (ds : List PyData) (vs : List V), VdAll a H vs ds → VdAll a H' vs ds
  | [], _, h => by cases h; exact .nil
  | d :: ds, _, h => by
    cases h with
    | cons h1 h2 => exact .cons (Vd.keep k d _ h1) (VdAll.keep k ds _ h2)
end
theorem VdAll.take : ∀ {vs : List V} {ds : List PyData} (n : Nat), VdAll a H vs ds → VdAll a H (vs.take n) (ds.take n)
  | _, _, 0, _ => .nil
  | _, _, _ + 1, .nil => .nil
  | _, _, n + 1, .cons h r => .cons h (VdAll.take n r)
theorem VdAll.drop : ∀ {vs : List V} {ds : List PyData} (n : Nat), VdAll a H vs ds → VdAll a H (vs.drop n) (ds.drop n)
  | _, _, 0, r => r
  | _, _, _ + 1, .nil => .nil
  | _, _, n + 1, .cons _ r => VdAll.drop n r
theorem VdAll.app : ∀ {vs us : List V} {ds es : List PyData}, VdAll a H vs ds → VdAll a H us es → VdAll a H (vs ++ us) (ds ++ es)
  | _, _, _, _, .nil, s => s
  | _, _, _, _, .cons h r, s => .cons h (VdAll.app r s)
theorem VdAll.rev : ∀ {vs : List V} {ds : List PyData}, VdAll a H vs ds → VdAll a H vs.reverse ds.reverse
  | _, _, .nil => .nil
  | _, _, .cons h r => by
    rw [List.reverse_cons, List.reverse_cons]
    exact (VdAll.rev r).app (.cons h .nil)
theorem VdAll.len : ∀ {vs : List V} {ds : List PyData}, VdAll a H vs ds → vs.length = ds.length
  | _, _, .nil => rfl
  | _, _, .cons _ r => by rw [List.length_cons, List.length_cons, r.len]
theorem VdAll.at_ : ∀ {vs : List V} {ds : List PyData} {i : Nat} {v : V}, VdAll a H vs ds → vs[i]? = some v → ∃ d, ds[i]? = some d ∧ Vd a H v d
  | _, _, _, _, .nil, h => by cases h
  | _, _, 0, _, .cons h _, e => by cases e; exact ⟨_, rfl, h⟩
  | _, _, i + 1, _, .cons _ r, e => VdAll.at_ (i := i) r e
end
section
variable {X : Cx} {a : Addr} {pins : List (Addr × Obj)} {σ : L2.St} {H : Hp} {s : Shared}
mutual
theorem Vd.reads (I : Inv X pins σ H s) : ∀ (d : PyData) (v : V) (u : Value), Vd a H v d → RelV v u → ∃ as, Reads s.heap u d as ∧ sysModules ∉ as
  | .none, _, _, h, r => by
    cases h
    cases r
    exact ⟨_, Reads.none, by simp⟩
  | .bool b, _, _, h, r => by
    cases h
    cases r
    exact ⟨_, Reads.bool b, by simp⟩
  | .int i, _, _, h, r => by
    cases h
    obtain ⟨t, rfl⟩ := r
    exact ⟨_, Reads.int i t, by simp⟩
  | .str x, _, _, h, r => by
    cases h
    obtain ⟨t, rfl⟩ := r
    exact ⟨_, Reads.str x t, by simp⟩
  | .list ds, _, _, h, r => by
    cases h with
    | lst n m e q =>
      cases r
      obtain ⟨z, its, k, rv, ho⟩ := I.hok _ _ e
      obtain ⟨as, hr, ha⟩ := Vd.readsAll I ds _ its q rv
      refine ⟨_, Reads.list ho rfl rfl hr, ?_⟩
      intro hm
      rcases List.mem_cons.mp hm with hm | hm
      · exact m hm
      · exact ha hm
  | .tuple ds, _, _, h, r => by
    cases h with
    | tup n e q =>
      cases r
      obtain ⟨z, its, rv, o, h1, h2, k, h3⟩ := I.hok _ _ e
      obtain ⟨as, hr, ha⟩ := Vd.readsAll I ds _ its q rv
      exact ⟨_, Reads.tuple h1 h2 h3 hr, ha⟩
  | .dict ds, _, _, h, r => by
    cases h with
    | @d0 p n e =>
      cases r
      obtain ⟨_, hm, vs, kv, o, es, ep, h1, h2, h3⟩ := (show ObjOk X.prog X.w H s.heap p (.dK []) from I.hok p _ e)
      cases kv
      obtain ⟨hd, _, hp2, _⟩ := h3
      have he : es.toList = [] := by
        generalize es.toList = l at hp2
        cases hp2
        rfl
      have rd : Reads s.heap (.ref p) (.dict []) (p :: [] ++ []) := .dict h1 h2.1 hd (by rw [he]; exact .nil) (by rw [he]; exact .nil)
      refine ⟨_, rd, fun z => ?_⟩
      have z' : sysModules = p := by simpa using z
      rw [z'] at hm
      simp at hm
    | @d1 p n e =>
      cases r
      obtain ⟨_, hm, vs, kv, o, es, ep, h1, h2, h3⟩ := (show ObjOk X.prog X.w H s.heap p (.dK [(.inl 0, .int 0)]) from I.hok p _ e)
      obtain ⟨hd, _, hp2, _⟩ := h3
      obtain ⟨q, eq, e1, e2⟩ : ∃ q, vs = [q] ∧ (Sum.inl 0 : Key) = q.1 ∧ RelV (.int 0) q.2 := by
        cases kv with
        | cons k1 k2 =>
          cases k2
          exact ⟨_, rfl, k1.1, k1.2⟩
      subst eq
      obtain ⟨t, e3⟩ := (show ∃ t, q.2 = Value.int 0 t from e2)
      obtain ⟨en, ht, hk, hv⟩ : ∃ en, es.toList = [en] ∧ keyIs q.1 en.key = true ∧ en.val = q.2 := by
        generalize es.toList = l at hp2
        cases hp2 with
        | cons a1 a2 a3 =>
          cases a3
          exact ⟨_, rfl, a1, a2⟩
      rw [← e1] at hk
      rcases keyIs_shape hk with ⟨i, t', hi, ek⟩ | ⟨x, t', hi, ek⟩
      · cases hi
        have rd : Reads s.heap (.ref p) (.dict [(.int 0, .int 0)]) (p :: ([] ++ []) ++ ([] ++ [])) := .dict h1 h2.1 hd (by rw [ht]; show ReadsAll s.heap [en.key] [.int 0] _; rw [ek]; exact .cons (.int 0 t') .nil) (by rw [ht]; show ReadsAll s.heap [en.val] [.int 0] _; rw [hv, e3]; exact .cons (.int 0 t) .nil)
        refine ⟨_, rd, fun z => ?_⟩
        have z' : sysModules = p := by simpa using z
        rw [z'] at hm
        simp at hm
      · cases hi
theorem Vd.readsAll (I : Inv X pins σ H s) : ∀ (ds : List PyData) (vs : List V) (us : List Value), VdAll a H vs ds → Vals vs us → ∃ as, ReadsAll s.heap us ds as ∧ sysModules ∉ as
  | [], _, _, h, r => by
    cases h
    cases r
    exact ⟨_, ReadsAll.nil, by simp⟩
  | d :: ds, _, _, h, r => by
    cases h with
    | cons h1 h2 =>
      cases r with
      | cons r1 r2 =>
        obtain ⟨as, q1, n1⟩ := Vd.reads I d _ _ h1 r1
        obtain ⟨bs, q2, n2⟩ := Vd.readsAll I ds _ _ h2 r2
        exact ⟨_, ReadsAll.cons q1 q2, fun z => (List.mem_append.mp z).elim n1 n2⟩
end
/-- repr(v) of data of any depth -/
def rReprV : List V → Hp → VK → Prop := fun xs H Q => ∃ (v : V) (d : PyData) (a : Addr), xs = [v] ∧ Vd a H v d ∧ d.showable = true ∧ d.shown.length ≤ sizeLine ∧ d.depth ≤ 40 ∧ Q (.str d.shown) H
theorem call_reprV (gd : X.A.guards = some []) (hu : X.A.units + 64 < cLine) : CallR X (.builtin "repr") rReprV := by
  intro pins s σ H xs us Q I r h
  obtain ⟨v, d, a, rfl, vd, hs, hz, dp, q⟩ := h
  obtain ⟨u, rfl, ru⟩ : ∃ u, us = [u] ∧ RelV v u := by
    cases r with
    | cons a b => cases b; exact ⟨_, rfl, a⟩
  have fin : ∀ (h' : Heap) (t : Tok) (tk : Tok), (∀ b o, s.heap.get? b = some o → h'.get? b = some o) → EP X pins σ Q (.str d.shown t) { s with heap := h', toks := tk } := fun h' t tk k => ⟨.str d.shown, H, I.kept (t' := tk) k, ⟨t, rfl⟩, q⟩
  obtain ⟨as, rd, ns⟩ := Vd.reads I d v u vd ru
  have ref : ∀ p, u = .ref p → wpAny (model X.prog X.w) X.A (call (.builtin "repr") [u]) (EP X pins σ Q) X.xe s := fun p e => by
    subst e
    exact repr_of_reads' rd hs (fun _ => ns) gd (by omega) (fun _ _ e => e) (fun h' t tk k => fin h' t tk k) hz
  cases vd with
  | non => cases (show u = Value.none from ru); exact PySem.P.repr_of_none (fin s.heap _ _ fun _ _ z => z)
  | bl b => cases (show u = Value.bool b from ru); refine PySem.P.repr_of_bool ?_; cases b <;> exact fin s.heap _ _ fun _ _ z => z
  | int n => obtain ⟨t, rfl⟩ := (show ∃ t, u = Value.int n t from ru); exact PySem.P.repr_of_int (of_decide_eq_true hs) (fin s.heap _ _ fun _ _ z => z)
  | str x => obtain ⟨t, rfl⟩ := (show ∃ t, u = Value.str x t from ru); exact PySem.P.repr_of_str (fin s.heap _ _ fun _ _ z => z) hz
  | lst _ _ _ _ => exact ref _ ru
  | tup _ _ _ => exact ref _ ru
  | d0 _ _ => exact ref _ ru
  | d1 _ _ => exact ref _ ru
theorem op_neT0 (hu : X.A.units < cLine) : OpR X (compareOp .NotEq) (rNeT0 X.K) := by
  intro pins s σ H x y v u Q I rx ry h
  obtain ⟨a, b, xs, rfl, rfl, ha, hb, q⟩ := h
  cases rx
  cases ry
  obtain ⟨its, r1, p1, _⟩ := I.tuple ha
  obtain ⟨its2, r2, p2, _⟩ := I.tuple hb
  cases r2
  refine PySem.SeqAt.RcNeAt.tuples (e := fun _ => true) p1 p2 hu (fun j _ j2 => absurd j2 (Nat.not_lt_zero _)) _ _ _ _ ?_
  have hlen := r1.length
  have e : (!((List.range (min its.toArray.size ([] : List Value).toArray.size)).all (fun _ => true) && its.toArray.size == ([] : List Value).toArray.size)) = decide (xs ≠ []) := by
    cases xs with
    | nil =>
      cases r1
      rfl
    | cons x xs =>
      cases r1
      simp
  rw [e]
  exact ⟨.bl _, H, I, rfl, q⟩
end
end VG


set_option Elab.async false
set_option maxRecDepth 100000
set_option maxHeartbeats 4000000
set_option exponentiation.threshold 3000
/-! how great data of any depth may be -/
namespace VG
open PySem L2
mutual
def okD (N : Nat) : PyData → Prop
  | .none => True
  | .bool _ => True
  | .int i => i.natAbs ≤ N
  | .str x => ∀ c ∈ x.cps.toList, c < 128
  | .list xs => okAll N xs
  | .tuple xs => okAll N xs
  | .dict kvs => kvs = [] ∨ kvs = [(.int 0, .int 0)]
def okAll (N : Nat) : List PyData → Prop
  | [] => True
  | x :: xs => okD N x ∧ okAll N xs
end
theorem okAll_mem {N : Nat} : ∀ {xs : List PyData}, okAll N xs ↔ ∀ x ∈ xs, okD N x
  | [] => by unfold okAll; simp
  | x :: xs => by
    unfold okAll
    rw [okAll_mem (xs := xs)]
    simp
mutual
theorem okD_mono {N M : Nat} (h : N ≤ M) : ∀ d : PyData, okD N d → okD M d
  | .none, q => q
  | .bool _, q => q
  | .int i, q => Nat.le_trans (show i.natAbs ≤ N by unfold okD at q; exact q) h
  | .str x, q => by unfold okD at q ⊢; exact q
  | .list xs, q => by unfold okD at q ⊢; exact okAll_mono h xs q
  | .tuple xs, q => by unfold okD at q ⊢; exact okAll_mono h xs q
  | .dict kvs, q => by unfold okD at q ⊢; exact q
theorem okAll_mono {N M : Nat} (h : N ≤ M) : ∀ ds : List PyData, okAll N ds → okAll M ds
  | [], q => by unfold okAll; exact True.intro
  | d :: ds, q => by
    unfold okAll at q ⊢
    exact ⟨okD_mono h d q.1, okAll_mono h ds q.2⟩
end
theorem int_short {i : Int} (h : i.natAbs ≤ 10 ^ 50) : (PyData.shown (.int i)).length ≤ 60 := by
  have e := int_text_length_le10 (a := i) (k := 51) (by decide) (Nat.lt_of_le_of_lt h (by decide))
  show (Str.ofString (toString i)).length ≤ 60
  rw [ofString_length]
  omega
theorem int_log {i : Int} (h : i.natAbs ≤ 10 ^ 50) : i.natAbs.log2 < 1920 := by
  by_cases h0 : i.natAbs = 0
  · rw [h0]
    decide
  · exact (Nat.log2_lt h0).mpr (Nat.lt_of_le_of_lt h (by decide))
mutual
theorem okD_short {N : Nat} (h : N ≤ 10 ^ 50) : ∀ d : PyData, okD N d → d.leavesShort 60 = true ∧ d.showable = true
  | .none, q => ⟨rfl, rfl⟩
  | .bool _, q => ⟨rfl, rfl⟩
  | .int i, q => by
    unfold okD at q
    exact ⟨decide_eq_true (int_short (Nat.le_trans q h)), decide_eq_true (int_log (Nat.le_trans q h))⟩
  | .str x, q => by
    unfold okD at q
    refine ⟨?_, rfl⟩
    show (x.cps.toList.all fun c => decide (c < 16 ^ 8)) = true
    rw [List.all_eq_true]
    exact fun c hc => decide_eq_true (Nat.lt_of_lt_of_le (q c hc) (by decide))
  | .list xs, q => by unfold okD at q; exact okAll_short h xs q
  | .tuple xs, q => by unfold okD at q; exact okAll_short h xs q
  | .dict kvs, q => by
    unfold okD at q
    rcases q with q | q <;> subst q
    · exact ⟨rfl, rfl⟩
    · exact ⟨by decide +kernel, by decide +kernel⟩
theorem okAll_short {N : Nat} (h : N ≤ 10 ^ 50) : ∀ ds : List PyData, okAll N ds → PyData.leavesShortAll 60 ds = true ∧ PyData.showableAll ds = true
  | [], q => ⟨rfl, rfl⟩
  | d :: ds, q => by
    unfold okAll at q
    obtain ⟨a1, a2⟩ := okD_short h d q.1
    obtain ⟨b1, b2⟩ := okAll_short h ds q.2
    unfold PyData.leavesShortAll PyData.showableAll
    rw [a1, a2, b1, b2]
    exact ⟨rfl, rfl⟩
end
/-- bounds of a value: its integers, how deep it is nested, how long it is -/
structure Fine (N n m : Nat) (d : PyData) : Prop where
  ok : okD N d
  dp : d.depth ≤ n
  bk : d.bulk ≤ m
structure FineL (N n m : Nat) (ds : List PyData) : Prop where
  ok : okAll N ds
  dp : PyData.depthAll ds ≤ n
  bk : PyData.bulkAll ds ≤ m
theorem Fine.up {N n m N' n' m' : Nat} {d : PyData} (f : Fine N n m d) (h1 : N ≤ N') (h2 : n ≤ n') (h3 : m ≤ m') : Fine N' n' m' d := ⟨okD_mono h1 _ f.ok, Nat.le_trans f.dp h2, Nat.le_trans f.bk h3⟩
theorem FineL.up {N n m N' n' m' : Nat} {ds : List PyData} (f : FineL N n m ds) (h1 : N ≤ N') (h2 : n ≤ n') (h3 : m ≤ m') : FineL N' n' m' ds := ⟨okAll_mono h1 _ f.ok, Nat.le_trans f.dp h2, Nat.le_trans f.bk h3⟩
theorem Fine.show {N n m : Nat} {d : PyData} (f : Fine N n m d) (h1 : N ≤ 10 ^ 50) (h2 : n ≤ 40) (h3 : m ≤ 100000) : d.showable = true ∧ d.shown.length ≤ sizeLine ∧ d.depth ≤ 40 := by
  obtain ⟨a, b⟩ := okD_short h1 d f.ok
  refine ⟨b, ?_, Nat.le_trans f.dp h2⟩
  have z := PyData.shown_le_bulk 60 (by decide) d a
  have q := f.bk
  exact Nat.le_trans (show d.shown.length ≤ 62 * 100000 + 60 by omega) (by decide)
theorem fine_tup {N n m : Nat} {ds : List PyData} : Fine N (n + 1) m (.tuple ds) ↔ FineL N n m ds := by
  constructor
  · intro f
    have a := f.ok
    have b := f.dp
    have c := f.bk
    unfold okD at a
    unfold PyData.depth at b
    unfold PyData.bulk at c
    exact ⟨a, by omega, c⟩
  · intro f
    refine ⟨?_, ?_, ?_⟩
    · unfold okD; exact f.ok
    · unfold PyData.depth; have := f.dp; omega
    · unfold PyData.bulk; exact f.bk
theorem fine_lst {N n m : Nat} {ds : List PyData} : Fine N (n + 1) m (.list ds) ↔ FineL N n m ds := by
  constructor
  · intro f
    have a := f.ok
    have b := f.dp
    have c := f.bk
    unfold okD at a
    unfold PyData.depth at b
    unfold PyData.bulk at c
    exact ⟨a, by omega, c⟩
  · intro f
    refine ⟨?_, ?_, ?_⟩
    · unfold okD; exact f.ok
    · unfold PyData.depth; have := f.dp; omega
    · unfold PyData.bulk; exact f.bk
theorem fineL_nil {N n m : Nat} : FineL N n m [] := ⟨by unfold okAll; exact True.intro, Nat.zero_le _, Nat.zero_le _⟩
theorem fineL_cons {N n m k : Nat} {d : PyData} {ds : List PyData} (a : Fine N n m d) (b : FineL N n k ds) : FineL N n (m + 1 + k) (d :: ds) := by
  refine ⟨?_, ?_, ?_⟩
  · unfold okAll; exact ⟨a.ok, b.ok⟩
  · unfold PyData.depthAll; exact Nat.max_le.mpr ⟨a.dp, b.dp⟩
  · unfold PyData.bulkAll; have := a.bk; have := b.bk; omega
theorem FineL.head {N n m : Nat} {d : PyData} {ds : List PyData} (f : FineL N n m (d :: ds)) : ∃ k j, k + 1 + j ≤ m ∧ Fine N n k d ∧ FineL N n j ds := by
  have a := f.ok
  have b := f.dp
  have c := f.bk
  unfold okAll at a
  unfold PyData.depthAll at b
  unfold PyData.bulkAll at c
  exact ⟨d.bulk, PyData.bulkAll ds, c, ⟨a.1, (Nat.max_le.mp b).1, Nat.le_refl _⟩, ⟨a.2, (Nat.max_le.mp b).2, Nat.le_refl _⟩⟩
theorem FineL.app {N n : Nat} : ∀ {m k : Nat} {ds es : List PyData}, FineL N n m ds → FineL N n k es → FineL N n (m + k) (ds ++ es)
  | m, k, [], es, _, g => g.up (Nat.le_refl _) (Nat.le_refl _) (by omega)
  | m, k, d :: ds, es, f, g => by
    obtain ⟨a, b, hm, f1, f2⟩ := f.head
    exact (fineL_cons f1 (FineL.app f2 g)).up (Nat.le_refl _) (Nat.le_refl _) (by omega)
theorem FineL.split {N n : Nat} : ∀ {m : Nat} {ds : List PyData} (i : Nat), FineL N n m ds → ∃ k j, k + j ≤ m ∧ FineL N n k (ds.take i) ∧ FineL N n j (ds.drop i)
  | m, ds, 0, f => ⟨0, m, by omega, fineL_nil, f⟩
  | m, [], i + 1, f => ⟨0, 0, by omega, fineL_nil, fineL_nil⟩
  | m, d :: ds, i + 1, f => by
    obtain ⟨a, b, hm, f1, f2⟩ := f.head
    obtain ⟨k, j, h, g1, g2⟩ := FineL.split i f2
    exact ⟨a + 1 + k, j, by omega, fineL_cons f1 g1, g2⟩
theorem FineL.at_ {N n : Nat} : ∀ {m : Nat} {ds : List PyData} {i : Nat} {d : PyData}, FineL N n m ds → ds[i]? = some d → ∃ k j, k + 1 + j ≤ m ∧ Fine N n k d ∧ (∀ {N' n' k' : Nat} {d' : PyData}, N ≤ N' → n ≤ n' → Fine N' n' k' d' → FineL N' n' (k' + 1 + j) (ds.take i ++ d' :: ds.drop (i + 1)))
  | m, [], i, d, f, e => by cases e
  | m, x :: xs, 0, d, f, e => by
    obtain ⟨a, b, hm, f1, f2⟩ := f.head
    cases e
    exact ⟨a, b, hm, f1, fun h1 h2 q => fineL_cons q (f2.up h1 h2 (Nat.le_refl _))⟩
  | m, x :: xs, i + 1, d, f, e => by
    obtain ⟨a, b, hm, f1, f2⟩ := f.head
    obtain ⟨k, j, h, g1, g2⟩ := FineL.at_ (i := i) f2 e
    exact ⟨k, a + 1 + j, by omega, g1, fun h1 h2 q => (fineL_cons (f1.up h1 h2 (Nat.le_refl _)) (g2 h1 h2 q)).up (Nat.le_refl _) (Nat.le_refl _) (by omega)⟩
theorem FineL.rev {N n : Nat} : ∀ {m : Nat} {ds : List PyData}, FineL N n m ds → FineL N n m ds.reverse
  | m, [], f => f
  | m, d :: ds, f => by
    obtain ⟨a, b, hm, f1, f2⟩ := f.head
    rw [List.reverse_cons]
    exact (FineL.app (FineL.rev f2) (fineL_cons f1 (fineL_nil (m := 0)))).up (Nat.le_refl _) (Nat.le_refl _) (by omega)
theorem FineL.len {N n : Nat} : ∀ {m : Nat} {ds : List PyData}, FineL N n m ds → ds.length ≤ m
  | m, [], f => Nat.zero_le _
  | m, d :: ds, f => by
    obtain ⟨a, b, hm, f1, f2⟩ := f.head
    have := FineL.len f2
    rw [List.length_cons]
    omega
theorem fine_str {N n m : Nat} {x : Str} (h : ∀ c ∈ x.cps.toList, c < 128) (hl : x.length ≤ m) : Fine N n m (.str x) := ⟨by unfold okD; exact h, Nat.zero_le _, hl⟩
theorem fine_int {N n m : Nat} {i : Int} (h : i.natAbs ≤ N) : Fine N n m (.int i) := ⟨by unfold okD; exact h, Nat.zero_le _, Nat.zero_le _⟩
theorem fine_non {N n m : Nat} : Fine N n m .none := ⟨by unfold okD; exact True.intro, Nat.zero_le _, Nat.zero_le _⟩
theorem fine_bl {N n m : Nat} {b : Bool} : Fine N n m (.bool b) := ⟨by unfold okD; exact True.intro, Nat.zero_le _, Nat.zero_le _⟩
theorem Fine.str_ {N n m : Nat} {x : Str} (f : Fine N n m (.str x)) : (∀ c ∈ x.cps.toList, c < 128) ∧ x.length ≤ m := ⟨by have := f.ok; unfold okD at this; exact this, f.bk⟩
theorem Fine.int_ {N n m : Nat} {i : Int} (f : Fine N n m (.int i)) : i.natAbs ≤ N := by have := f.ok; unfold okD at this; exact this
theorem int_chars {i : Int} : ∀ c ∈ (Str.ofString (toString i)).cps.toList, c < 128 := fun c hc => by
  refine Classical.byContradiction fun hn => ?_
  exact PyProof.Rows.shown_int_free' (k := c) ⟨by omega, .inr (by omega)⟩ i hc
/-- a part of a tuple, as data -/
def cutD (n : Nat) (ds : List PyData) (lo hi : Option Int) : List PyData := (ds.drop (HT.sIx n 0 lo)).take (HT.sIx n n hi - HT.sIx n 0 lo)
theorem FineL.cut {N n m k : Nat} {ds : List PyData} {lo hi : Option Int} (f : FineL N n m ds) : FineL N n m (cutD k ds lo hi) := by
  obtain ⟨_, j, h, _, f2⟩ := f.split (HT.sIx k 0 lo)
  obtain ⟨i, _, h2, f3, _⟩ := f2.split (HT.sIx k k hi - HT.sIx k 0 lo)
  exact f3.up (Nat.le_refl _) (Nat.le_refl _) (by omega)
theorem VdAll.cut {a : Addr} {H : Hp} {xs : List V} {ds : List PyData} {lo hi : Option Int} (r : VdAll a H xs ds) : VdAll a H (cutV xs lo hi) (cutD xs.length ds lo hi) := (r.drop _).take _
theorem cutV_take {xs : List V} {k : Nat} (h : k ≤ xs.length) : cutV xs none (some (k : Int)) = xs.take k := by
  unfold cutV
  rw [HT.sIx_none, HT.sIx_nat, Nat.min_eq_left h, List.drop_zero, Nat.sub_zero]
theorem cutV_drop {xs : List V} {k : Nat} (h : k ≤ xs.length) : cutV xs (some (k : Int)) none = xs.drop k := by
  unfold cutV
  rw [HT.sIx_none, HT.sIx_nat, Nat.min_eq_left h, List.take_of_length_le (by rw [List.length_drop]; exact Nat.le_refl _)]
theorem cutS_in {z : Str} {lo hi : Option Int} : (∀ c ∈ (cutS z lo hi).cps.toList, c ∈ z.cps.toList) ∧ (cutS z lo hi).length ≤ z.length := by
  unfold cutS
  constructor
  · intro c hc
    exact List.mem_of_mem_drop (List.mem_of_mem_take (by simpa using hc))
  · show (List.toArray _).size ≤ z.length
    rw [List.size_toArray, List.length_take, List.length_drop, Array.length_toList]
    show min _ (z.length - _) ≤ z.length
    omega
section
variable {a : Addr} {H : Hp}
theorem Vd.up {v : V} {d : PyData} {p : Addr} {o : HO} (hp : H p = none) (r : Vd a H v d) : Vd a (upd H p o) v d := Vd.keep (fun q _ _ _ e => by rw [upd_ne (ne_of_none e hp)]; exact e) d v r
end
end VG


set_option Elab.async false
set_option maxRecDepth 100000
set_option maxHeartbeats 8000000
set_option exponentiation.threshold 3000
namespace Vf
open PySem L2 SX Vm
/-! what the program and the law say of a value of any kind -/
inductive SG (H : Hp) (b : Nat) (R : Int) : V → Bool → Prop where
  | non {v : V} {t : Value} (p : Pl H v t) (n : ∀ q xs, v = .ref q → H q ≠ some (.tup xs)) : SG H b R v false
  | len {p : Addr} {xs : List V} (h : H p = some (.tup xs)) (n : xs.length ≠ 3) : SG H b R (.ref p) false
  | root {p : Addr} {r x y : V} {tr : Value} (h : H p = some (.tup [r, x, y])) (pr : Pl H r tr) (n : withinV 0 (R - 1) r = false) : SG H b R (.ref p) false
  | head {p : Addr} {r x y : V} {tr tx : Value} (h : H p = some (.tup [r, x, y])) (pr : Pl H r tr) (w : withinV 0 (R - 1) r = true) (px : Pl H x tx) (n : wordV b x = false) : SG H b R (.ref p) false
  | per {p : Addr} {r x y : V} {tr tx ty : Value} (h : H p = some (.tup [r, x, y])) (pr : Pl H r tr) (w : withinV 0 (R - 1) r = true) (px : Pl H x tx) (wx : wordV b x = true) (py : Pl H y ty) (n : wordV b y = false ∨ y = .str "") : SG H b R (.ref p) false
  | fin {p : Addr} {r : V} {x y : List Nat} {tr : Value} (h : H p = some (.tup [r, .str (S x), .str (S y)])) (pr : Pl H r tr) (w : withinV 0 (R - 1) r = true) (wx : IsW b x) (wy : IsW b y) (y0 : 0 < y.length) (lx : x.length ≤ 1000) (ly : y.length ≤ 1000) : SG H b R (.ref p) (sfB x y)
inductive PG (H : Hp) (b : Nat) (R : Int) : V → Bool → Prop where
  | non {v : V} {t : Value} (p : Pl H v t) (n : ∀ q xs, v = .ref q → H q ≠ some (.tup xs)) : PG H b R v false
  | len {p : Addr} {xs : List V} (h : H p = some (.tup xs)) (n : xs.length ≠ 2) : PG H b R (.ref p) false
  | fin {p : Addr} {r x : V} {tr tx : Value} (h : H p = some (.tup [r, x])) (pr : Pl H r tr) (px : Pl H x tx) : PG H b R (.ref p) (withinV 0 (R - 1) r && wordV b x)
def spStreamFormG : Sp := fun vs H Q _ => ∃ (b : Nat) (R : Int) (v : V) (res : Bool), vs = [.int (b : Int), .int R, v] ∧ 2 ≤ b ∧ b ≤ 5 ∧ SG H b R v res ∧ Q (.bl res) H
def spPfxFormG : Sp := fun vs H Q _ => ∃ (b : Nat) (R : Int) (v : V) (res : Bool), vs = [.int (b : Int), .int R, v] ∧ 2 ≤ b ∧ b ≤ 5 ∧ PG H b R v res ∧ Q (.bl res) H
section
variable {P : Program} {w : World} {K : PySem.W.Frag} {mg : Str → Option Value} {base : Heap}
theorem ok_streamformG {f fI fW fS : Addr} {fd fdI fdW fdS : FuncData} (F : Fun K "has_stream_form" "has_stream_form" sStreamForm f fd) (GI : FnOk P w K mg base CX0 2 fI fdI ["low", "high", "value"] spWithin) (cI : Cal K mg "is_integer_within" fI fdI ["low", "high", "value"])
    (GW : FnOk P w K mg base CX0 1 fW fdW ["base", "value"] spWordForm) (cW : Cal K mg "has_word_form" fW fdW ["base", "value"]) (GS : FnOk P w K mg base CX0 1 fS fdS ["period"] spShort) (cS : Cal K mg "shortest_period" fS fdS ["period"]) (N : Nm mg) :
    FnOk P w K mg base CX0 3 f fd ["base", "roots", "value"] spStreamFormG := by
  refine F.ok scStreamForm (fun vs H Q E h => ?_) (fun cdv A outer s H vs Q E hr h => ?_)
  · obtain ⟨b, R, v, res, rfl, _⟩ := h
    rfl
  · obtain ⟨b, R, v, res, rfl, b2, b5, sf, k⟩ := h
    have nd := scStreamForm.nd
    have hr1 := hr.mono (show 1 ≤ 2 by decide)
    refine ⟨_, pss_cons (ps_if (PW.pt (pw_or (pt_not (pt_val (pe_callB call_isi (by rfl) N.isinst PyProof.Rows.boot_isinstance (pa_cons (pv 2) (pa_cons (pe_bltn (v := .ty "tuple") (by rfl) N.tuple PyProof.Rows.boot_tuple rfl) pa_nil)))))
        (pw_or (pt_cmpR op_ne (pe_callB call_len_seq (by rfl) N.len boot_len (pa_cons (pv 2) pa_nil)) pe_int (nomark _))
        (pw_or1 (pt_not (pt_val (pe_call GI hr rfl cI.mg cI.kp cI.b .nil pass0 (pa_cons pe_int (pa_cons (pe_op op_sub (pv 1) pe_int) (pa_cons (pe_ix ix_tup (pv 2) pe_int (fun _ _ => rfl)) pa_nil))))))))))
        (pss_one (ps_ret pe_bl)) pss_nil)
      (pss_cons (ps_asg (pv 2) (pg_tup rfl (pgs_cons (pg_name (i := 3) nd rfl (.inl rfl)) (pgs_cons (pg_name (i := 4) nd rfl (.inl rfl)) (pgs_cons (pg_name (i := 5) nd rfl (.inl rfl)) pgs_nil)))))
      (pss_cons (ps_if (PW.pt (pw_or (pt_not (pt_val (pe_call GW hr1 rfl cW.mg cW.kp cW.b .nil pass0 (pa_cons (pv 0) (pa_cons (pv 4) pa_nil)))))
        (pw_or (pt_not (pt_val (pe_call GW hr1 rfl cW.mg cW.kp cW.b .nil pass0 (pa_cons (pv 0) (pa_cons (pv 5) pa_nil)))))
        (pw_or1 (pt_cmpR op_eq (pv 5) pe_str (nomark _)))))) (pss_one (ps_ret pe_bl)) pss_nil)
      (pss_one (ps_ret (pe_and (pe_cmpR op_eq (pe_call GS hr1 rfl cS.mg cS.kp cS.b .nil pass0 (pa_cons (pv 5) pa_nil)) (pv 5) (nomark _))
        (pe_one (pe_not (pe_bm PySem.F.plainAttrs_str PySem.F.slot_str_endswith PySem.F.type_str_endswith mt_endswith (pv 4) (pa_cons (pe_ix ix_str (pv 5) (pe_un un_neg pe_int) (fun _ _ => rfl)) pa_nil))))))))), ?_⟩
    have at0 : ∀ r x y : V, atI [r, x, y] 0 = some r := fun _ _ _ => rfl
    cases sf with
    | non p n =>
      refine ⟨_, rfl, _, _, _, _, false, rfl, .ty "tuple", p.tyx, kit_tup p n, _, rfl, ?_⟩
      refine iteT ?_
      exact iteT k
    | @len p xs hp n =>
      refine ⟨_, rfl, _, _, _, _, true, rfl, .ty "tuple", (Pl.tup hp).tyx, kit_ty (by decide +kernel), _, rfl, ?_⟩
      refine iteF ?_
      refine ⟨_, rfl, _, _, rfl, .inr (SqT.of hp), rfl, _, rfl, ?_⟩
      have hb : (!decide (V.int ((xs.length : Nat) : Int) = V.int 3)) = true := by
        rw [decide_eq_false (fun z => n (by have := V.int.inj z; omega))]
        rfl
      exact iteTB hb (iteT k)
    | @root p r x y tr hp pr n =>
      refine ⟨_, rfl, _, _, _, _, true, rfl, .ty "tuple", (Pl.tup hp).tyx, kit_ty (by decide +kernel), _, rfl, ?_⟩
      refine iteF ?_
      refine ⟨_, rfl, p, _, rfl, .inr (SqT.of hp), rfl, _, rfl, ?_⟩
      refine iteFB rfl ?_
      refine ⟨_, rfl, _, _, rfl, rfl, _, rfl, p, _, _, _, rfl, rfl, SqT.of hp, at0 _ _ _, 0, R - 1, _, _, rfl, pr, _, rfl, ?_⟩
      rw [n]
      exact iteT k
    | @head p r x y tr tx hp pr wr px n =>
      refine ⟨_, rfl, _, _, _, _, true, rfl, .ty "tuple", (Pl.tup hp).tyx, kit_ty (by decide +kernel), _, rfl, ?_⟩
      refine iteF ?_
      refine ⟨_, rfl, p, _, rfl, .inr (SqT.of hp), rfl, _, rfl, ?_⟩
      refine iteFB rfl ?_
      refine ⟨_, rfl, _, _, rfl, rfl, _, rfl, p, _, _, _, rfl, rfl, SqT.of hp, at0 _ _ _, 0, R - 1, _, _, rfl, pr, _, rfl, ?_⟩
      rw [wr]
      refine iteF ?_
      refine ⟨_, rfl, p, _, rfl, SqT.of hp, rfl, _, _, rfl, _, _, rfl, _, _, rfl, rfl, ?_⟩
      refine ⟨_, rfl, _, rfl, b, _, _, rfl, b2, b5, px, _, rfl, ?_⟩
      rw [n]
      refine iteT ?_
      exact iteT k
    | @per p r x y tr tx ty hp pr wr px wx py n =>
      refine ⟨_, rfl, _, _, _, _, true, rfl, .ty "tuple", (Pl.tup hp).tyx, kit_ty (by decide +kernel), _, rfl, ?_⟩
      refine iteF ?_
      refine ⟨_, rfl, p, _, rfl, .inr (SqT.of hp), rfl, _, rfl, ?_⟩
      refine iteFB rfl ?_
      refine ⟨_, rfl, _, _, rfl, rfl, _, rfl, p, _, _, _, rfl, rfl, SqT.of hp, at0 _ _ _, 0, R - 1, _, _, rfl, pr, _, rfl, ?_⟩
      rw [wr]
      refine iteF ?_
      refine ⟨_, rfl, p, _, rfl, SqT.of hp, rfl, _, _, rfl, _, _, rfl, _, _, rfl, rfl, ?_⟩
      refine ⟨_, rfl, _, rfl, b, _, _, rfl, b2, b5, px, _, rfl, ?_⟩
      rw [wx]
      refine iteF ?_
      refine ⟨_, rfl, _, rfl, b, _, _, rfl, b2, b5, py, _, rfl, ?_⟩
      cases hw : wordV b y with
      | false =>
        refine iteT ?_
        exact iteT k
      | true =>
        rcases n with n | n
        · rw [n] at hw
          cases hw
        · subst n
          refine iteF ?_
          refine ⟨_, rfl, rfl, _, rfl, ?_⟩
          exact iteTB (decide_eq_true rfl) k
    | @fin p r x y tr hp pr wr wx wy y0 lx ly =>
      refine ⟨_, rfl, _, _, _, _, true, rfl, .ty "tuple", (Pl.tup hp).tyx, kit_ty (by decide +kernel), _, rfl, ?_⟩
      refine iteF ?_
      refine ⟨_, rfl, p, _, rfl, .inr (SqT.of hp), rfl, _, rfl, ?_⟩
      refine iteFB rfl ?_
      refine ⟨_, rfl, _, _, rfl, rfl, _, rfl, p, _, _, _, rfl, rfl, SqT.of hp, at0 _ _ _, 0, R - 1, _, _, rfl, pr, _, rfl, ?_⟩
      rw [wr]
      refine iteF ?_
      refine ⟨_, rfl, p, _, rfl, SqT.of hp, rfl, _, _, rfl, _, _, rfl, _, _, rfl, rfl, ?_⟩
      have ph : Pl H (.str (S x)) (.type "str") := .str _ (by rw [S_len]; omega)
      have pq : Pl H (.str (S y)) (.type "str") := .str _ (by rw [S_len]; omega)
      refine ⟨_, rfl, _, rfl, b, _, _, rfl, b2, b5, ph, _, rfl, ?_⟩
      rw [wordV_of wx]
      refine iteF ?_
      refine ⟨_, rfl, _, rfl, b, _, _, rfl, b2, b5, pq, _, rfl, ?_⟩
      rw [wordV_of wy]
      refine iteF ?_
      have qne : y ≠ [] := fun z => by rw [z] at y0; exact absurd y0 (Nat.lt_irrefl _)
      refine ⟨_, rfl, rfl, _, rfl, ?_⟩
      refine iteFB (decide_eq_false (fun z => qne (str_ne_empty.mp z))) ?_
      refine ⟨_, rfl, y, rfl, y0, ly, fun s l hle => ?_⟩
      by_cases es : s = y.length
      · subst es
        rw [List.take_length]
        refine ⟨_, rfl, rfl, _, rfl, ?_⟩
        refine iteTB (decide_eq_true rfl) ?_
        refine ⟨_, rfl, rfl, _, rfl, _, rfl, _, _, _, rfl, rfl, small_len ly, at_back (t := 0) y0 (by decide), _, _, rfl, rfl, _, rfl, ?_⟩
        rw [Nat.sub_zero]
        unfold sfB at k
        rw [decide_eq_true l, Bool.true_and] at k
        exact k
      · refine ⟨_, rfl, rfl, _, rfl, ?_⟩
        have ne : y.take s ≠ y := fun z => es (by
          have := congrArg List.length z
          rw [List.length_take] at this
          omega)
        refine iteFB (decide_eq_false (fun z => ne (by have e := congrArg (fun s : Str => s.cps.toList) (V.str.inj z); simpa using e))) ?_
        unfold sfB at k
        rw [decide_eq_false (fun z => es (l.unique z)), Bool.false_and] at k
        exact k
theorem ok_pfxformG {f fI fW : Addr} {fd fdI fdW : FuncData} (F : Fun K "has_prefix_form" "has_prefix_form" sPfxForm f fd) (GI : FnOk P w K mg base CX0 2 fI fdI ["low", "high", "value"] spWithin) (cI : Cal K mg "is_integer_within" fI fdI ["low", "high", "value"])
    (GW : FnOk P w K mg base CX0 1 fW fdW ["base", "value"] spWordForm) (cW : Cal K mg "has_word_form" fW fdW ["base", "value"]) (N : Nm mg) : FnOk P w K mg base CX0 3 f fd ["base", "roots", "value"] spPfxFormG := by
  refine F.ok scPfxForm (fun vs H Q E h => ?_) (fun cdv A outer s H vs Q E hr h => ?_)
  · obtain ⟨b, R, v, res, rfl, _⟩ := h
    rfl
  · obtain ⟨b, R, v, res, rfl, b2, b5, sf, k⟩ := h
    have nd := scPfxForm.nd
    have hr1 := hr.mono (show 1 ≤ 2 by decide)
    refine ⟨_, pss_cons (ps_if (PW.pt (pw_or (pt_not (pt_val (pe_callB call_isi (by rfl) N.isinst PyProof.Rows.boot_isinstance (pa_cons (pv 2) (pa_cons (pe_bltn (v := .ty "tuple") (by rfl) N.tuple PyProof.Rows.boot_tuple rfl) pa_nil)))))
        (pw_or1 (pt_cmpR op_ne (pe_callB call_len_seq (by rfl) N.len boot_len (pa_cons (pv 2) pa_nil)) pe_int (nomark _)))))
        (pss_one (ps_ret pe_bl)) pss_nil)
      (pss_cons (ps_asg (pv 2) (pg_tup rfl (pgs_cons (pg_name (i := 3) nd rfl (.inl rfl)) (pgs_cons (pg_name (i := 4) nd rfl (.inl rfl)) pgs_nil))))
      (pss_one (ps_ret (pe_and (pe_call GI hr rfl cI.mg cI.kp cI.b .nil pass0 (pa_cons pe_int (pa_cons (pe_op op_sub (pv 1) pe_int) (pa_cons (pv 3) pa_nil))))
        (pe_one (pe_call GW hr1 rfl cW.mg cW.kp cW.b .nil pass0 (pa_cons (pv 0) (pa_cons (pv 4) pa_nil)))))))), ?_⟩
    cases sf with
    | non p n =>
      refine ⟨_, rfl, _, _, _, _, false, rfl, .ty "tuple", p.tyx, kit_tup p n, _, rfl, ?_⟩
      refine iteT ?_
      exact iteT k
    | @len p xs hp n =>
      refine ⟨_, rfl, _, _, _, _, true, rfl, .ty "tuple", (Pl.tup hp).tyx, kit_ty (by decide +kernel), _, rfl, ?_⟩
      refine iteF ?_
      refine ⟨_, rfl, _, _, rfl, .inr (SqT.of hp), rfl, _, rfl, ?_⟩
      exact iteTB (by rw [decide_eq_false (fun z => n (by have := V.int.inj z; omega))]; rfl) k
    | @fin p r x tr tx hp pr px =>
      refine ⟨_, rfl, _, _, _, _, true, rfl, .ty "tuple", (Pl.tup hp).tyx, kit_ty (by decide +kernel), _, rfl, ?_⟩
      refine iteF ?_
      refine ⟨_, rfl, p, _, rfl, .inr (SqT.of hp), rfl, _, rfl, ?_⟩
      refine iteFB rfl ?_
      refine ⟨_, rfl, p, _, rfl, SqT.of hp, rfl, _, _, rfl, _, _, rfl, rfl, ?_⟩
      refine ⟨_, rfl, _, _, rfl, rfl, _, rfl, 0, R - 1, _, _, rfl, pr, _, rfl, ?_⟩
      cases hw : withinV 0 (R - 1) r with
      | false =>
        rw [hw] at k
        exact iteF k
      | true =>
        refine iteT ?_
        rw [hw] at k
        exact ⟨_, rfl, _, rfl, b, x, _, rfl, b2, b5, px, k⟩
end
/-! ### the same of data -/
def cntD (lo hi : Int) : PyData → Bool
  | .int n => decide (lo ≤ n) && decide (n ≤ hi)
  | _ => false
def digD (b : Nat) : PyData → Bool
  | .str s => s.cps.toList.all fun c => decide (48 ≤ c) && decide (c < 48 + b)
  | _ => false
def plcD (b : Nat) (R : Int) : PyData → Bool
  | .tuple [r, x] => cntD 0 (R - 1) r && digD b x
  | _ => false
noncomputable def tlD : PyData → PyData → Bool
  | .str x, .str y => decide (y.cps.toList ≠ []) && sfB x.cps.toList y.cps.toList
  | _, _ => false
noncomputable def endD (b : Nat) (R : Int) : PyData → Bool
  | .tuple [r, x, y] => cntD 0 (R - 1) r && (digD b x && (digD b y && tlD x y))
  | _ => false
open VG in
theorem vd_cnt {a : Addr} {H : Hp} {v : V} {d : PyData} {lo hi : Int} (h : Vd a H v d) : withinV lo hi v = cntD lo hi d := by
  cases h <;> rfl
open VG in
theorem vd_dig {a : Addr} {H : Hp} {v : V} {d : PyData} {b : Nat} (h : Vd a H v d) : wordV b v = digD b d := by
  cases h <;> rfl
open VG in
theorem vd_pl {a : Addr} {H : Hp} {v : V} {d : PyData} {N n m : Nat} (h : Vd a H v d) (f : Fine N n m d) (hm : m ≤ 9000) : ∃ t, Pl H v t := by
  cases h with
  | non => exact ⟨_, .non⟩
  | bl b => exact ⟨_, .bl b⟩
  | int i => exact ⟨_, .int i⟩
  | str x => exact ⟨_, .str x (Nat.le_trans f.str_.2 hm)⟩
  | lst _ _ e _ => exact ⟨_, .lst e⟩
  | tup _ e _ => exact ⟨_, .tup e⟩
  | d0 _ e => exact ⟨_, .dct e⟩
  | d1 _ e => exact ⟨_, .dct e⟩
open VG in
theorem vd_nt {a : Addr} {H : Hp} {v : V} {d : PyData} (h : Vd a H v d) (n : ∀ ds, d ≠ .tuple ds) : ∀ q xs, v = .ref q → H q ≠ some (.tup xs) := by
  intro q xs e z
  cases h with
  | lst _ _ e1 _ => cases e; rw [e1] at z; cases z
  | tup _ e1 _ => exact n _ rfl
  | d0 _ e1 => cases e; rw [e1] at z; cases z
  | d1 _ e1 => cases e; rw [e1] at z; cases z
  | _ => cases e
open VG in
theorem vd_two {a : Addr} {H : Hp} {xs : List V} {r x : PyData} (h : VdAll a H xs [r, x]) : ∃ u y, xs = [u, y] ∧ Vd a H u r ∧ Vd a H y x := by
  cases h with
  | cons h1 h => cases h with
    | cons h2 h => cases h; exact ⟨_, _, rfl, h1, h2⟩
open VG in
theorem vd_three {a : Addr} {H : Hp} {xs : List V} {r x z : PyData} (h : VdAll a H xs [r, x, z]) : ∃ u y t, xs = [u, y, t] ∧ Vd a H u r ∧ Vd a H y x ∧ Vd a H t z := by
  cases h with
  | cons h1 h => cases h with
    | cons h2 h => cases h with
      | cons h3 h => cases h; exact ⟨_, _, _, rfl, h1, h2, h3⟩
open VG in
theorem vd_pg {a : Addr} {H : Hp} {v : V} {d : PyData} {N n m : Nat} {b : Nat} {R : Int} (h : Vd a H v d) (f : Fine N n m d) (hm : m ≤ 1000) : PG H b R v (plcD b R d) := by
  obtain ⟨t, pl⟩ := vd_pl h f (Nat.le_trans hm (by decide))
  have other : (∀ ds, d ≠ .tuple ds) → PG H b R v (plcD b R d) := fun nt => by
    have e : plcD b R d = false := by
      cases d with
      | tuple ds => exact absurd rfl (nt ds)
      | _ => rfl
    rw [e]
    exact .non pl (vd_nt h nt)
  cases h with
  | @tup p xs ds n1 e r =>
    by_cases hl : ds.length = 2
    · match ds, hl with
      | [r0, x0], _ =>
        obtain ⟨u, y, rfl, h1, h2⟩ := vd_two r
        have fl := fine_tup.mp (f.up (Nat.le_refl _) (Nat.le_succ _) (Nat.le_refl _))
        obtain ⟨k, j, hk, f1, f2⟩ := fl.head
        obtain ⟨k2, j2, hk2, f3, _⟩ := f2.head
        obtain ⟨t1, p1⟩ := vd_pl h1 f1 (by omega)
        obtain ⟨t2, p2⟩ := vd_pl h2 f3 (by omega)
        show PG H b R (.ref p) (cntD 0 (R - 1) r0 && digD b x0)
        rw [← vd_cnt h1, ← vd_dig h2]
        exact .fin e p1 p2
    · have ee : plcD b R (.tuple ds) = false := by
        match ds, hl with
        | [], _ => rfl
        | [_], _ => rfl
        | [_, _], hl => exact absurd rfl hl
        | _ :: _ :: _ :: _, _ => rfl
      rw [ee]
      exact .len e (by rw [r.len]; exact hl)
  | _ => exact other (fun _ z => nomatch z)
open VG in
theorem vd_sg {a : Addr} {H : Hp} {v : V} {d : PyData} {N n m : Nat} {b : Nat} {R : Int} (h : Vd a H v d) (f : Fine N n m d) (hm : m ≤ 1000) : SG H b R v (endD b R d) := by
  obtain ⟨t, pl⟩ := vd_pl h f (Nat.le_trans hm (by decide))
  have other : (∀ ds, d ≠ .tuple ds) → SG H b R v (endD b R d) := fun nt => by
    have e : endD b R d = false := by
      cases d with
      | tuple ds => exact absurd rfl (nt ds)
      | _ => rfl
    rw [e]
    exact .non pl (vd_nt h nt)
  cases h with
  | @tup p xs ds n1 e r =>
    by_cases hl : ds.length = 3
    · match ds, hl with
      | [r0, x0, y0], _ =>
        obtain ⟨u, y, z, rfl, h1, h2, h3⟩ := vd_three r
        have fl := fine_tup.mp (f.up (Nat.le_refl _) (Nat.le_succ _) (Nat.le_refl _))
        obtain ⟨k, j, hk, f1, f2⟩ := fl.head
        obtain ⟨k2, j2, hk2, f3, f4⟩ := f2.head
        obtain ⟨k3, j3, hk3, f5, _⟩ := f4.head
        obtain ⟨t1, p1⟩ := vd_pl h1 f1 (by omega)
        obtain ⟨t2, p2⟩ := vd_pl h2 f3 (by omega)
        obtain ⟨t3, p3⟩ := vd_pl h3 f5 (by omega)
        show SG H b R (.ref p) (cntD 0 (R - 1) r0 && (digD b x0 && (digD b y0 && tlD x0 y0)))
        cases c1 : cntD 0 (R - 1) r0 with
        | false => exact .root e p1 (by rw [vd_cnt h1]; exact c1)
        | true =>
          have w1 := (vd_cnt h1).trans c1
          cases c2 : digD b x0 with
          | false => exact .head e p1 w1 p2 (by rw [vd_dig h2]; exact c2)
          | true =>
            have w2 := (vd_dig h2).trans c2
            cases c3 : digD b y0 with
            | false => exact .per e p1 w1 p2 w2 p3 (.inl (by rw [vd_dig h3]; exact c3))
            | true =>
              have w3 := (vd_dig h3).trans c3
              cases h2 with
              | str x =>
                cases h3 with
                | str y' =>
                  by_cases hy : y'.cps.toList = []
                  · have ez : y' = "" := by rw [← S_tl y', hy]; exact str_empty.symm
                    have et : tlD (.str x) (.str y') = false := by
                      show (decide (y'.cps.toList ≠ []) && _) = false
                      rw [decide_eq_false (fun z => z hy)]
                      rfl
                    rw [et]
                    exact .per e p1 w1 p2 w2 p3 (.inr (by rw [ez]))
                  · have et : tlD (.str x) (.str y') = sfB x.cps.toList y'.cps.toList := by
                      show (decide (y'.cps.toList ≠ []) && _) = _
                      rw [decide_eq_true hy]
                      rfl
                    rw [et]
                    have e' : H p = some (.tup [u, .str (S x.cps.toList), .str (S y'.cps.toList)]) := by rw [S_tl, S_tl]; exact e
                    have lx : x.cps.toList.length ≤ 1000 := by have := f3.str_.2; rw [Array.length_toList]; exact Nat.le_trans this (by omega)
                    have ly : y'.cps.toList.length ≤ 1000 := by have := f5.str_.2; rw [Array.length_toList]; exact Nat.le_trans this (by omega)
                    exact .fin e' p1 w1 (of_wordV w2) (of_wordV w3) (List.length_pos_iff.mpr hy) lx ly
                | _ => cases c3
              | _ => cases c2
    · have ee : endD b R (.tuple ds) = false := by
        match ds, hl with
        | [], _ => rfl
        | [_], _ => rfl
        | [_, _], _ => rfl
        | [_, _, _], hl => exact absurd rfl hl
        | _ :: _ :: _ :: _ :: _, _ => rfl
      rw [ee]
      exact .len e (by rw [r.len]; exact hl)
  | _ => exact other (fun _ z => nomatch z)
/-! ### the program's judges, whatever stands before -/
def XNum (CN : Addr) (v : V) : XK → Hp → Prop := fun E H => ∀ d, H d = none → E (.ref CN) (some d) (upd H d (.xd [(("value" : Str), v)]))
def spIsBase : Sp := fun vs H Q _ => ∃ (v : V) (t : Value), vs = [v] ∧ Pl H v t ∧ Q (.bl (withinV 2 5 v)) H
def spIsWord (CN : Addr) : Sp := fun vs H Q E => ∃ (vb v : V) (tb : Value), vs = [vb, v] ∧ Pl H vb tb ∧ (withinV 2 5 vb = false → XNum CN vb E H) ∧
  (∀ b : Nat, vb = .int (b : Int) → 2 ≤ b → b ≤ 5 → ∃ t, Pl H v t ∧ Q (.bl (wordV b v)) H)
def spIsPfxG (CN : Addr) : Sp := fun vs H Q E => ∃ (vb vr v : V) (tb tr : Value), vs = [vb, vr, v] ∧ Pl H vb tb ∧ Pl H vr tr ∧ (withinV 2 5 vb = false → XNum CN vb E H) ∧ (withinV 2 5 vb = true → withinV 1 5000 vr = false → XNum CN vr E H) ∧
  (∀ (b : Nat) (R : Int), vb = .int (b : Int) → vr = .int R → 2 ≤ b → b ≤ 5 → 1 ≤ R → R ≤ 5000 → ∃ res, PG H b R v res ∧ Q (.bl res) H)
def spIsStrG (CN : Addr) : Sp := fun vs H Q E => ∃ (vb vr v : V) (tb tr : Value), vs = [vb, vr, v] ∧ Pl H vb tb ∧ Pl H vr tr ∧ (withinV 2 5 vb = false → XNum CN vb E H) ∧ (withinV 2 5 vb = true → withinV 1 5000 vr = false → XNum CN vr E H) ∧
  (∀ (b : Nat) (R : Int), vb = .int (b : Int) → vr = .int R → 2 ≤ b → b ≤ 5 → 1 ≤ R → R ≤ 5000 → ∃ res, SG H b R v res ∧ Q (.bl res) H)
theorem within_int {lo hi : Int} {v : V} (h : withinV lo hi v = true) : ∃ n, v = .int n ∧ lo ≤ n ∧ n ≤ hi := by
  cases v with
  | int n =>
    have h' : (decide (lo ≤ n) && decide (n ≤ hi)) = true := h
    rw [Bool.and_eq_true, decide_eq_true_eq, decide_eq_true_eq] at h'
    exact ⟨n, rfl, h'.1, h'.2⟩
  | _ => cases h
section
variable {P : Program} {w : World} {K : PySem.W.Frag} {mg : Str → Option Value} {base : Heap}
end
end Vf


set_option Elab.async false
set_option maxRecDepth 100000
set_option maxHeartbeats 8000000
set_option exponentiation.threshold 3000
namespace VG
open PySem PySem.Spec PyProof.Rows L2
section
variable {X : Cx}
/-- l == [], whatever is in l -/
def rEqL0 (K : PySem.W.Frag) : R2 := fun x y H Q => ∃ (a b : Addr) (xs : List V), x = .ref a ∧ y = .ref b ∧ SqL K H a xs ∧ SqL K H b [] ∧ Q (.bl (decide (xs = []))) H
theorem op_eqL0 (hu : X.A.units < cLine) : OpR X (compareOp .Eq) (rEqL0 X.K) := by
  intro pins s σ H x y v u Q I rx ry h
  obtain ⟨a, b, xs, rfl, rfl, ha, hb, q⟩ := h
  cases rx
  cases ry
  obtain ⟨its, r1, p1, _⟩ := I.list ha
  obtain ⟨its2, r2, p2, _⟩ := I.list hb
  cases r2
  cases xs with
  | nil =>
    cases r1
    exact PySem.SeqAt.eq_listAt (e := fun _ => true) p1.isList p2.isList rfl hu (fun j _ j2 => absurd j2 (Nat.not_lt_zero _)) ⟨.bl _, H, I, rfl, q⟩
  | cons x xs =>
    cases r1 with
    | cons r r' => exact PySem.SeqAt.eq_list_lengthsAt p1.isList p2.isList (by simp) hu ⟨.bl _, H, I, rfl, q⟩
end
end VG
namespace Vf
open PySem L2 SX Vm
open PySem.Builtin.Str PySem.StrLaws
theorem isW_small' {b : Int} (b5 : b ≤ 5) {l : List Nat} (w : IsW b l) : ∀ c ∈ l, c < 100 := fun c hc => by
  have := (w c hc).2
  omega
theorem lay_S' {l : List Nat} (w : ∀ c ∈ l, c < 100) : PyData.canLay0 (.str (S l)) = true := by
  show (S l).cps.all _ = true
  rw [Array.all_eq_true']
  intro c hc
  exact decide_eq_true (Nat.lt_trans (w c (by simpa using hc)) (by decide))
theorem shaped3' {r : Int} {h q : List Nat} (wh : ∀ c ∈ h, c < 100) (wq : ∀ c ∈ q, c < 100) : SeqAt.shaped (.tuple [.int r, .str (S h), .str (S q)]) = true := by
  unfold SeqAt.shaped
  have e : PyData.canLay0 (.tuple [.int r, .str (S h), .str (S q)]) = true := by
    show (PyData.canLay0 (.int r) && (PyData.canLay0 (.str (S h)) && (PyData.canLay0 (.str (S q)) && true))) = true
    rw [lay_S' wh, lay_S' wq]
    rfl
  rw [e]
  rfl
theorem eqv3' {r : Int} {h q h' q' : List Nat} : PyData.eqv (.tuple [.int r, .str (S h), .str (S q)]) (.tuple [.int r, .str (S h'), .str (S q')]) = decide (h = h' ∧ q = q') := by
  show ((r == r) && ((S h == S h') && ((S q == S q') && true))) = _
  by_cases c1 : h = h'
  · subst c1
    by_cases c2 : q = q'
    · subst c2
      simp
    · have : (S q == S q') = false := by
        refine Bool.eq_false_iff.mpr fun z => c2 (S_inj (eq_of_beq z))
      rw [this]
      simp [c2]
  · have : (S h == S h') = false := by
      refine Bool.eq_false_iff.mpr fun z => c1 (S_inj (eq_of_beq z))
    rw [this]
    simp [c1]
theorem ends_last {x y : List Nat} (_y0 : 0 < y.length) (h : Txt.endswith (S x) ⟨#[y.getD (y.length - 1) 0]⟩ = false) : 0 < x.length → x.getD (x.length - 1) 0 ≠ y.getD (y.length - 1) 0 := fun h0 z => by
  unfold Txt.endswith at h
  have key := (subAt_one (S x) (y.getD (y.length - 1) 0) (x.length - 1)).mpr (by
    show x[x.length - 1]? = some _
    rw [← z, List.getD_eq_getElem?_getD, List.getElem?_eq_getElem (by omega)]
    rfl)
  have e2 : subAt (S x) ⟨#[y.getD (y.length - 1) 0]⟩ ((S x).length - 1) = true := by rw [S_len]; exact key.2
  have e1 : decide (0 + (⟨#[y.getD (y.length - 1) 0]⟩ : Str).length ≤ (S x).length) = true := decide_eq_true (by rw [S_len]; show 0 + 1 ≤ x.length; omega)
  have e3 : (⟨#[y.getD (y.length - 1) 0]⟩ : Str).length = 1 := rfl
  rw [e1, e3, e2] at h
  cases h
/-- the normal form that the law finds is the value itself exactly if the program says so -/
theorem sf_iff {h q h' q' : List Nat} (n : Nf (ev h q) h' q') (q0 : 0 < q.length) : decide (h' = h ∧ q' = q) = sfB h q := by
  cases e : sfB h q with
  | true =>
    unfold sfB at e
    rw [Bool.and_eq_true, decide_eq_true_eq] at e
    have nf : Nf (ev h q) h q := last_nf (fun _ => rfl) q0 (fun s m a b => e.1.prim q0 s m a b) (ends_last q0 (by simpa using e.2))
    obtain ⟨e1, e2⟩ := n.unique nf
    exact decide_eq_true ⟨e1, e2⟩
  | false =>
    refine decide_eq_false fun z => ?_
    obtain ⟨rfl, rfl⟩ := z
    rw [sfB_nf n] at e
    cases e
def badC (b : Nat) (c : Nat) : Bool := !(decide (48 ≤ c) && decide (c < 48 + b))
theorem bad_nil {b : Nat} {l : List Nat} : decide ((l.filter (badC b)) = []) = l.all fun c => decide (48 ≤ c) && decide (c < 48 + b) := by
  rw [Bool.eq_iff_iff, decide_eq_true_eq, List.filter_eq_nil_iff, List.all_eq_true]
  constructor
  · intro h c hc
    have := h c hc
    unfold badC at this
    simpa using this
  · intro h c hc
    have := h c hc
    unfold badC
    simpa using this
theorem notin_digs {b c : Nat} (b5 : b ≤ 5) : (!(!(occurrences (S (digs b)) ⟨#[c]⟩ 0 (S (digs b)).length 1).isEmpty)) = badC b c := by
  have e := in_one (digs b) c
  have e' : (!(occurrences (S (digs b)) ⟨#[c]⟩ 0 (S (digs b)).length 1).isEmpty) = decide (c ∈ digs b) := e
  rw [e']
  unfold badC
  congr 1
  rw [Bool.eq_iff_iff, decide_eq_true_eq, digs_mem b5]
  simp
def spIsCount : Sp := fun vs H Q _ => ∃ (lo hi : Int) (v : V) (t : Value), vs = [v, .int lo, .int hi] ∧ Pl H v t ∧ Q (.bl (withinV lo hi v)) H
def spIsDig : Sp := fun vs H Q _ => ∃ (b : Nat) (v : V) (t : Value), vs = [.int (b : Int), v] ∧ 2 ≤ b ∧ b ≤ 5 ∧ Pl H v t ∧ ∀ H', Same H H' → Q (.bl (wordV b v)) H'
section
variable {P : Program} {w : World} {K : PySem.W.Frag} {mg : Str → Option Value} {base : Heap}
end
end Vf


set_option Elab.async false
set_option maxRecDepth 100000
set_option maxHeartbeats 4000000
/-! Pairs of a number and a text: their order, sorted lists of them; remove by value. -/
namespace VG
open PySem PySem.Spec PyProof.Rows L2
/-- x before y: by the number, then by the text -/
def lexS (p q : Int × Str) : Bool := if p.1 = q.1 then decide (p.2.cps.toList < q.2.cps.toList) else decide (p.1 < q.1)
theorem lexS_iff {p q : Int × Str} : lexS p q = true ↔ p.1 < q.1 ∨ (p.1 = q.1 ∧ p.2.cps.toList < q.2.cps.toList) := by
  unfold lexS
  by_cases e : p.1 = q.1
  · rw [if_pos e, decide_eq_true_eq]
    constructor
    · exact fun h => .inr ⟨e, h⟩
    · rintro (h | h)
      · omega
      · exact h.2
  · rw [if_neg e, decide_eq_true_eq]
    constructor
    · exact fun h => .inl h
    · rintro (h | h)
      · exact h
      · exact absurd h.1 e
theorem lexS_no {p q : Int × Str} : lexS p q = false ↔ ¬ (p.1 < q.1 ∨ (p.1 = q.1 ∧ p.2.cps.toList < q.2.cps.toList)) := by
  rw [← lexS_iff]
  cases lexS p q <;> simp
theorem nat_lt_asymm {l m : List Nat} (h : l < m) : ¬ m < l := fun h2 => List.lt_irrefl l (List.lt_trans h h2)
theorem nat_le_trans {l m n : List Nat} (h : ¬ m < l) (h2 : ¬ n < m) : ¬ n < l := fun h3 => by
  have a : l ≤ m := List.not_lt.mp h
  have b : m ≤ n := List.not_lt.mp h2
  exact List.not_lt.mpr (List.le_trans a b) h3
theorem swo_lexS {α : Type} (k : α → Int × Str) : SrtO.Swo fun v u => lexS (k v) (k u) := by
  refine ⟨fun x y h => ?_, fun x y z h1 h2 => ?_⟩
  · have a := lexS_iff.mp h
    refine lexS_no.mpr ?_
    rintro (c | c)
    · rcases a with a | a
      · omega
      · omega
    · rcases a with a | a
      · omega
      · exact nat_lt_asymm a.2 c.2
  · have a := lexS_no.mp h1
    have b := lexS_no.mp h2
    refine lexS_no.mpr ?_
    rintro (c | c)
    · by_cases e1 : (k y).1 < (k x).1
      · exact a (.inl e1)
      · by_cases e2 : (k z).1 < (k y).1
        · exact b (.inl e2)
        · omega
    · by_cases e1 : (k y).1 < (k x).1
      · exact a (.inl e1)
      · by_cases e2 : (k z).1 < (k y).1
        · exact b (.inl e2)
        · refine nat_le_trans (fun q => a (.inr ⟨by omega, q⟩)) (fun q => b (.inr ⟨by omega, q⟩)) c.2
def IsPS (h : Heap) (v : Value) (x : Int) (y : Str) : Prop := ∃ a o t u n, v = .ref a ∧ h.get? a = some o ∧ o.cls = .type "tuple" ∧ o.data = .seq #[.int x t, .str y u] n
theorem IsPS.keeps {h h' : Heap} {v : Value} {x : Int} {y : Str} (p : IsPS h v x y) (k : ∀ b o, h.get? b = some o → o.cls = .type "tuple" → h'.get? b = some o) : IsPS h' v x y := by
  obtain ⟨a, o, t, u, n, e, ho, hc, hd⟩ := p
  exact ⟨a, o, t, u, n, e, k _ _ ho hc, hc, hd⟩
theorem firstsS {h : Heap} : ∀ {vs : List Value}, (∀ v ∈ vs, ∃ x y, IsPS h v x y) → ∃ fs : List Value, PySem.W.KatTups h vs fs ∧ fs.length = vs.length ∧ ∀ f ∈ fs, ∃ x t, f = Value.int x t
  | [], _ => ⟨[], PySem.W.KatTups.nil, rfl, fun _ hm => by simp at hm⟩
  | v :: vs, hp => by
    obtain ⟨fs, h1, h2, h3⟩ := firstsS (vs := vs) fun v' hm => hp v' (List.mem_cons_of_mem _ hm)
    obtain ⟨x, y, a, o, t, u, n, e, ho, hc, hd⟩ := hp v (List.mem_cons_self ..)
    subst e
    refine ⟨.int x t :: fs, PySem.W.KatTups.cons ho hc hd rfl h1, by rw [List.length_cons, List.length_cons, h2], fun f hm => ?_⟩
    rcases List.mem_cons.mp hm with rfl | hm
    · exact ⟨x, t, rfl⟩
    · exact h3 f hm
section
variable {prog : Program} {w : World} {A : Around} {E : Value → Shared → Prop} {s : Shared}
open SrtO
theorem str_beq {x y : Str} : (x == y) = decide (x = y) := by
  by_cases e : x = y
  · rw [decide_eq_true e]; exact beq_iff_eq.mpr e
  · rw [decide_eq_false e]; exact beq_eq_false_iff_ne.mpr e
theorem cmpS {vs : List Value} {k : Value → Int × Str} (hp : ∀ v ∈ vs, IsPS s.heap v (k v).1 (k v).2) : Cmp prog w A s (tuples' true) (fun p => p.1 ∈ vs) (lt2 fun v u => lexS (k v) (k u)) := by
  intro p q hm hm'
  have h1 := hp _ hm
  have h2 := hp _ hm'
  show wpAny (model prog w) A (keyLt' (tuples' true) p.1 q.1) (fun r s' => s' = s ∧ r = lexS (k p.1) (k q.1)) (fun _ _ => False) s
  unfold lexS
  generalize (k p.1).1 = x at h1 ⊢
  generalize (k p.1).2 = y at h1 ⊢
  generalize (k q.1).1 = x' at h2 ⊢
  generalize (k q.1).2 = y' at h2 ⊢
  obtain ⟨a, o, t, u, n, e, ho, hc, hd⟩ := h1
  obtain ⟨a', o', t', u', n', e', ho', hc', hd'⟩ := h2
  rw [e, e']
  refine PySem.W.kat_lt ho hd ho' hd' ?_
  show PySem.W.KatLex prog w A true (decide (2 < 2)) _ [(.int x t, .int x' t'), (.str y u, .str y' u')] 0 s
  refine PySem.W.kat_cons (SeqAt.EqAt.int_int x t x' t' prog w _ _ ?_)
  refine PySem.W.kat_go (fun e1 => ?_) (fun e1 => ?_)
  · have ex : x = x' := by simpa using e1
    refine PySem.W.kat_yes (PySem.W.kat_cons (SeqAt.EqAt.str_str y u y' u' prog w _ _ ?_))
    refine PySem.W.kat_go (fun e2 => ?_) (fun e2 => ?_)
    · have ey : y = y' := by simpa using e2
      have e3 : (if x = x' then decide (y.cps.toList < y'.cps.toList) else decide (x < x')) = false := by
        rw [if_pos ex, ey]
        exact decide_eq_false (List.lt_irrefl _)
      exact PySem.W.kat_yes (PySem.W.kat_nil ⟨rfl, e3.symm⟩)
    · have e3 : (if x = x' then decide (y.cps.toList < y'.cps.toList) else decide (x < x')) = decide (y.cps.toList < y'.cps.toList) := if_pos ex
      refine PySem.W.kat_no (PySem.W.kat_one _ _ (PyProof.Rows.lt_str ?_))
      exact (show s = s ∧ decide (y.cps.toList < y'.cps.toList) = (if x = x' then decide (y.cps.toList < y'.cps.toList) else decide (x < x')) from ⟨rfl, e3.symm⟩)
  · have ex : ¬ x = x' := by simpa using e1
    have e3 : (if x = x' then decide (y.cps.toList < y'.cps.toList) else decide (x < x')) = decide (x < x') := if_neg ex
    exact PySem.W.kat_no (oneLt_int ⟨rfl, e3.symm⟩)
theorem sortableS {a : Addr} {vs : List Value} {k : Value → Int × Str} (h0 : 0 < vs.length) (hp : ∀ v ∈ vs, IsPS s.heap v (k v).1 (k v).2) (ha : ∀ o, s.heap.get? a = some o → o.cls ≠ .type "tuple") : SortableO prog w A s a vs fun v u => lexS (k v) (k u) := by
  intro h' keep
  have hp' : ∀ v ∈ vs, IsPS h' v (k v).1 (k v).2 := fun v hm => (hp v hm).keeps fun b o e c => keep b o (fun z => by subst z; exact ha o e c) e
  obtain ⟨fs, h1, h2, h3⟩ := firstsS fun v hm => ⟨_, _, hp' v hm⟩
  refine ⟨tuples' true, fun Q E hq => ?_, cmpS hp'⟩
  refine PySem.W.kat_kind (T := .type "int") h1 (by omega) (fun f hm => ?_) (by rfl) ?_
  · obtain ⟨x, t, rfl⟩ := h3 f hm
    exact PySem.W.Looks.now
  · have e : (Value.type "int" != Value.type "tuple") = true := by first | decide +kernel | rfl | decide
    rw [e]
    exact hq
theorem sortedS_run {l : Addr} {vs : List Value} {k : Value → Int × Str} {Q : Value → Shared → Prop} (hl : s.heap.IsList l vs.toArray) (hz : vs.length ≤ sizeLine) (hp : ∀ v ∈ vs, IsPS s.heap v (k v).1 (k v).2)
    (h : ∀ (h' : Heap) (d : Addr) (out : List Value), Srtd (fun v u => lexS (k v) (k u)) out → Stb (fun v u => lexS (k v) (k u)) out vs → (∀ b o, s.heap.get? b = some o → h'.get? b = some o) → s.heap.objs.size ≤ d → (∃ n, h'.get? d = some (seqObj "list" out.toArray n)) → Q (.ref d) { s with heap := h' }) :
    wpAny (model prog w) A (call (.builtin "sorted") [.ref l]) Q E s := by
  refine sorted_ord (swo_lexS k) hl hz (fun h2 h₁ a ha kk => ?_) fun out hs hb => ?_
  · refine sortableS (s := { s with heap := h₁ }) (by omega) (fun v hm => (hp v hm).keeps fun b o e _ => (kk b o e).2) fun o e => ?_
    have e' : some o = some (seqObj "list" vs.toArray 0) := e.symm.trans ha
    cases e'
    intro c
    exact absurd (Value.type.inj c) (by decide)
  · exact h _ _ out hs hb (fun b o e => sortedAll_old e) (Nat.le_succ _) (sortedAll_at s.heap vs out.toArray)
end
/-- by the pairs that k tells -/
abbrev ltS (k : V → Int × Str) (x y : V) : Bool := lexS (k x) (k y)
/-- sorted(xs), xs a list of pairs of a number and a text: a new list, sorted, equal ones in their order -/
def rSortedIS (K : PySem.W.Frag) : List V → Hp → VK → Prop := fun vs H Q => ∃ (a : Addr) (xs : List V) (k : V → Int × Str), vs = [V.ref a] ∧ SqL K H a xs ∧ (∀ x ∈ xs, ∃ t, x = V.ref t ∧ H t = some (.tup [.int (k x).1, .str (k x).2])) ∧
  ∀ ys p, SrtO.Srtd (ltS k) ys → SrtO.Stb (ltS k) ys xs → H p = none → Q (.ref p) (upd H p (.lst ys))
section
variable {X : Cx}
theorem cr_sortedIS : CallR X (.builtin "sorted") (rSortedIS X.K) := by
  intro pins s σ H vs us Q I r h
  obtain ⟨a, xs, k, rfl, hs, hx, q⟩ := h
  obtain ⟨its, rv, hl, hz⟩ := I.list hs
  obtain ⟨u, rfl, ru⟩ := vals1 r
  obtain rfl : u = Value.ref a := ru
  obtain ⟨e1, e2⟩ := refs_back rv fun x m => by
    obtain ⟨t, e, _⟩ := hx x m
    exact ⟨t, e⟩
  refine sortedS_run (k := fun u => k (backV u)) hl.isList (by rw [← rv.length]; exact hz) (fun v hv => ?_) fun h' d out h1 h2 kp hd hn => ?_
  · obtain ⟨t, rfl⟩ := e2 v hv
    have hm : V.ref t ∈ xs := by rw [e1]; exact List.mem_map.mpr ⟨_, hv, rfl⟩
    obtain ⟨t', e, ht⟩ := hx _ hm
    cases e
    obtain ⟨_, its2, r2, o, ho, hc, n, hd⟩ := I.hok _ _ ht
    obtain ⟨u1, u2, rfl, ri, rj⟩ := vals2 r2
    obtain ⟨t1, rfl⟩ := ri
    obtain ⟨t2, rfl⟩ := rj
    exact ⟨t, o, t1, t2, n, rfl, ho, hc, hd⟩
  · have h3 : ∀ u ∈ out, ∃ a, u = Value.ref a := fun u hu => e2 u (h2.perm.mem_iff.mp hu)
    obtain ⟨n, hn⟩ := hn
    have hb : SrtO.Stb (ltS k) (out.map backV) xs := by
      rw [e1]
      exact SrtO.Stb.map (swo_lexS k) backV h2
    refine ⟨.ref d, upd H d (.lst (out.map backV)), I.laid (t' := s.toks) kp hd ⟨?_, out, n, vals_back h3, hn⟩, rfl, q _ d (SrtO.srtd_map h1) hb (I.hok.fresh hd)⟩
    rw [hb.len]
    exact hz
/-- < of two pairs of a number and a text -/
def rLtIS (K : PySem.W.Frag) : R2 := fun x y H Q => ∃ (a b : Addr) (i j : Int) (u v : Str), x = .ref a ∧ y = .ref b ∧ SqT K H a [.int i, .str u] ∧ SqT K H b [.int j, .str v] ∧ Q (.bl (lexS (i, u) (j, v))) H
theorem op_ltIS (hu : X.A.units < cLine) : OpR X (compareOp .Lt) (rLtIS X.K) := by
  intro pins s σ H x y v u Q I rx ry h
  obtain ⟨a, b, i, j, p, q, rfl, rfl, ha, hb, qq⟩ := h
  cases rx
  cases ry
  obtain ⟨its, r1, p1, _⟩ := I.tuple ha
  obtain ⟨its2, r2, p2, _⟩ := I.tuple hb
  obtain ⟨u1, u2, rfl, ri, rj⟩ := vals2 r1
  obtain ⟨t1, rfl⟩ := ri
  obtain ⟨t2, rfl⟩ := rj
  obtain ⟨w1, w2, rfl, ri, rj⟩ := vals2 r2
  obtain ⟨t3, rfl⟩ := ri
  obtain ⟨t4, rfl⟩ := rj
  have R := Ob.RcOp.tuples_lt (A := X.A) (s := s) (e := fun n => if n = 0 then i == j else p == q) (r := fun n => if n = 0 then decide (i < j) else decide (p.cps.toList < q.cps.toList)) p1 p2 hu (fun n h1 h2 => by
    have hn : n = 0 ∨ n = 1 := by simp at h1; omega
    rcases hn with rfl | rfl
    · exact SeqAt.EqAt.int_int _ _ _ _
    · exact SeqAt.EqAt.str_str _ _ _ _) (fun n h1 h2 _ => by
    have hn : n = 0 ∨ n = 1 := by simp at h1; omega
    rcases hn with rfl | rfl
    · exact Ob.RcOp.lt_int _ _ _ _
    · exact fun _ _ _ _ h => PyProof.Rows.lt_str h)
  have e : Ob.lexAt (fun n => if n = 0 then i == j else p == q) (fun n => if n = 0 then decide (i < j) else decide (p.cps.toList < q.cps.toList)) (decide (2 < 2)) 0 2 = lexS (i, p) (j, q) := by
    show (if (i == j) = true then (if (p == q) = true then decide (2 < 2) else decide (p.cps.toList < q.cps.toList)) else decide (i < j)) = (if i = j then decide (p.cps.toList < q.cps.toList) else decide (i < j))
    by_cases c : i = j
    · rw [if_pos (beq_iff_eq.mpr c), if_pos c]
      by_cases c2 : p = q
      · rw [if_pos (beq_iff_eq.mpr c2), c2]
        exact (decide_eq_false (List.lt_irrefl _)).symm
      · rw [if_neg (fun z => c2 (beq_iff_eq.mp z))]
    · rw [if_neg (fun z => c (beq_iff_eq.mp z)), if_neg c]
  have z : wpAny (model X.prog X.w) X.A (compareOp .Lt (.ref a) (.ref b)) (EP X pins σ Q) X.xe s := R X.prog X.w X.xe (EP X pins σ Q) (by
    show EP X pins σ Q (.bool (Ob.lexAt (fun n => if n = 0 then i == j else p == q) (fun n => if n = 0 then decide (i < j) else decide (p.cps.toList < q.cps.toList)) (decide (2 < 2)) 0 2)) s
    rw [e]
    exact ⟨.bl _, H, I, rfl, qq⟩)
  exact z
/-- xs.remove(y): the first place of an equal one goes -/
def rRemD (K : PySem.W.Frag) : V → List V → Hp → VK → Prop := fun x xs H Q => ∃ (a : Addr) (vs : List V) (y : V) (d : PyData) (ds : List PyData) (j : Nat) (z : PyData), x = V.ref a ∧ xs = [y] ∧ H a = some (.lst vs) ∧ DpAll K H vs ds ∧ Dp K H y d ∧
  SeqAt.shaped (.list ds) = true ∧ SeqAt.shaped d = true ∧ ds[j]? = some z ∧ PyData.eqv z d = true ∧ (∀ (m : Nat) (z' : PyData), m < j → ds[m]? = some z' → PyData.eqv z' d = false) ∧ Q .non (upd H a (.lst (vs.eraseIdx j)))
theorem mt_removeD (hu : X.A.units + 65 < cLine) : MtM X "list.remove" (rRemD X.K) := by
  intro pins s σ H x xs v us Q I rx rxs h
  obtain ⟨a, vs, y, d, ds, j, z, rfl, rfl, hl, hd, hy, sl, sd, hz, hzj, hno, q⟩ := h
  cases rx
  obtain ⟨uy, rfl, ry⟩ := rxs.one
  obtain ⟨bs, r1⟩ := Dp.reads I d y uy hy ry
  have hxs : PyData.canLayAll0 ds = true := SeqAt.canLay_of_shaped sl
  have hroom : X.A.units + 1 + min (PyData.depthAll ds) d.depth < cLine := room_in_shaped sd hu
  obtain ⟨hlen, its, n, rv, hvl, ho'⟩ := I.lstM hl
  obtain ⟨as, h4⟩ := Dp.readsAll I ds _ its hd rv
  have hn : its.length = ds.length := SeqAt.ReadsAll.length ds its as h4
  have hmap : its.map (SeqAt.readOf s.heap) = ds := SeqAt.readsAll_map ds its as hxs h4
  have hsl := sizeLine_eq
  obtain ⟨hjd, _⟩ := List.getElem?_eq_some_iff.mp hz
  have hjl : j < its.length := by omega
  have hj : j < its.toArray.size := by simpa using hjl
  have at_ : ∀ (m : Nat) (hm : m < its.toArray.size) (z' : PyData), ds[m]? = some z' → SeqAt.readOf s.heap its.toArray[m] = z' := by
    intro m hm z' hz'
    have hml : m < its.length := by simpa using hm
    rw [← hmap, List.getElem?_map, List.getElem?_eq_getElem hml] at hz'
    have e1 : SeqAt.readOf s.heap its[m] = z' := Option.some.inj (show some (SeqAt.readOf s.heap its[m]) = some z' from hz')
    simpa using e1
  refine call_meets PySem.F.slot_list_remove ⟨_, ho', rfl⟩ PySem.F.entry_list_remove (PySem.F.args_list_remove_2 _ _)
    (SeqAt.list_removeAt a its.toArray n _ _ uy (fun u => PyData.eqv (SeqAt.readOf s.heap u) d) j hj ?_ ?_ (by rw [List.size_toArray]; omega)) ⟨ho', SeqAt.items_eqAt (vs := its.toArray) (show ReadsAll s.heap its.toArray.toList ds as from h4) r1 hxs (SeqAt.canLay_of_shaped sd) hroom, ?_⟩
  · show PyData.eqv (SeqAt.readOf s.heap its.toArray[j]) d = true
    rw [at_ j hj z hz]
    exact hzj
  · intro m hm hmj
    have hmd : m < ds.length := by omega
    have hz' : ds[m]? = some ds[m] := List.getElem?_eq_getElem hmd
    show PyData.eqv (SeqAt.readOf s.heap its.toArray[m]) d = false
    rw [at_ m hm _ hz']
    exact hno m _ hmj hz'
  · refine ⟨.non, _, I.lset (its' := its.eraseIdx j) (t' := s.toks) hl ho' ?_ (rv.eraseIdx j) ?_, rfl, q⟩
    · show its.toArray.eraseIdxIfInBounds j = (its.eraseIdx j).toArray
      rw [List.eraseIdxIfInBounds_toArray]
    · have := List.length_eraseIdx_le vs j
      omega
end
end VG


set_option Elab.async false
set_option maxRecDepth 100000
set_option maxHeartbeats 4000000
/-! Codes: words as intervals. -/
namespace Vf
/-- what a word tells as a number -/
def val (b : Nat) (w : List Nat) : Nat := w.foldl (fun a c => a * b + (c - 48)) 0
theorem foldl_val (b : Nat) : ∀ (w : List Nat) (a : Nat), w.foldl (fun a c => a * b + (c - 48)) a = a * b ^ w.length + val b w
  | [], a => by simp [val]
  | c :: w, a => by
    show w.foldl _ (a * b + (c - 48)) = a * b ^ (w.length + 1) + w.foldl _ (0 * b + (c - 48))
    rw [foldl_val b w, foldl_val b w, Nat.zero_mul, Nat.zero_add, Nat.add_mul, Nat.pow_succ, Nat.mul_assoc, Nat.mul_comm b (b ^ w.length), Nat.add_assoc]
theorem val_app {b : Nat} (u w : List Nat) : val b (u ++ w) = val b u * b ^ w.length + val b w := by
  show (u ++ w).foldl _ 0 = _
  rw [List.foldl_append, foldl_val]
  rfl
theorem val_nil {b : Nat} : val b [] = 0 := rfl
theorem val_one {b c : Nat} : val b [c] = c - 48 := by
  show 0 * b + (c - 48) = _
  omega
theorem val_snoc {b : Nat} (u : List Nat) (c : Nat) : val b (u ++ [c]) = val b u * b + (c - 48) := by
  rw [val_app, val_one]
  show val b u * b ^ 1 + _ = _
  rw [Nat.pow_one]
/-- digits alone -/
def Dg (b : Nat) (w : List Nat) : Prop := ∀ c ∈ w, 48 ≤ c ∧ c < 48 + b
theorem Dg.left {b : Nat} {u w : List Nat} (h : Dg b (u ++ w)) : Dg b u := fun c hc => h c (List.mem_append.mpr (.inl hc))
theorem Dg.right {b : Nat} {u w : List Nat} (h : Dg b (u ++ w)) : Dg b w := fun c hc => h c (List.mem_append.mpr (.inr hc))
theorem Dg.app {b : Nat} {u w : List Nat} (h : Dg b u) (h2 : Dg b w) : Dg b (u ++ w) := fun c hc => (List.mem_append.mp hc).elim (h c) (h2 c)
theorem val_lt {b : Nat} : ∀ {w : List Nat}, Dg b w → val b w < b ^ w.length
  | [], _ => by simp [val]
  | c :: w, h => by
    have h1 := h c List.mem_cons_self
    have h2 := val_lt (w := w) fun x hx => h x (List.mem_cons_of_mem _ hx)
    have e : val b (c :: w) = (c - 48) * b ^ w.length + val b w := by
      have z := val_app (b := b) [c] w
      rw [val_one] at z
      exact z
    rw [e]
    have h3 : (c - 48 + 1) * b ^ w.length ≤ b * b ^ w.length := Nat.mul_le_mul_right _ (by omega)
    rw [Nat.add_mul, Nat.one_mul] at h3
    show _ < b ^ (w.length + 1)
    rw [Nat.pow_succ, Nat.mul_comm (b ^ w.length) b]
    omega
/-- where a word's interval begins and ends -/
def lo (b N : Nat) (w : List Nat) : Nat := val b w * b ^ (N - w.length)
def hi (b N : Nat) (w : List Nat) : Nat := (val b w + 1) * b ^ (N - w.length)
theorem hi_eq {b N : Nat} (w : List Nat) : hi b N w = lo b N w + b ^ (N - w.length) := by
  unfold hi lo
  rw [Nat.add_mul, Nat.one_mul]
theorem lo_lt_hi {b N : Nat} (b0 : 0 < b) (w : List Nat) : lo b N w < hi b N w := by
  rw [hi_eq]
  have := Nat.pow_pos (n := N - w.length) b0
  omega
theorem pow_sub_add {b N n k : Nat} (h : n + k ≤ N) : b ^ k * b ^ (N - (n + k)) = b ^ (N - n) := by
  rw [← Nat.pow_add]
  congr 1
  omega
theorem hi_le {b N : Nat} {w : List Nat} (h : Dg b w) (hN : w.length ≤ N) : hi b N w ≤ b ^ N := by
  have h1 := val_lt h
  have h2 : (val b w + 1) * b ^ (N - w.length) ≤ b ^ w.length * b ^ (N - w.length) := Nat.mul_le_mul_right _ h1
  rw [show b ^ w.length * b ^ (N - w.length) = b ^ N by rw [← Nat.pow_add]; congr 1; omega] at h2
  exact h2
/-- a longer word lies within -/
theorem lo_app {b N : Nat} {u w : List Nat} (hN : (u ++ w).length ≤ N) : lo b N (u ++ w) = lo b N u + val b w * b ^ (N - (u ++ w).length) := by
  unfold lo
  rw [List.length_append] at hN
  rw [val_app, Nat.add_mul, Nat.mul_assoc, List.length_append, pow_sub_add hN]
theorem in_app {b N : Nat} {u w : List Nat} (hw : Dg b w) (hN : (u ++ w).length ≤ N) : lo b N u ≤ lo b N (u ++ w) ∧ hi b N (u ++ w) ≤ hi b N u := by
  have e := lo_app (b := b) hN
  refine ⟨by omega, ?_⟩
  rw [hi_eq, hi_eq, e]
  have h1 := val_lt hw
  have h2 : (val b w + 1) * b ^ (N - (u ++ w).length) ≤ b ^ w.length * b ^ (N - (u ++ w).length) := Nat.mul_le_mul_right _ h1
  rw [Nat.add_mul, Nat.one_mul] at h2
  rw [List.length_append] at hN h2 ⊢
  rw [pow_sub_add hN] at h2
  omega
/-- one word goes on as the other, or they part -/
theorem part : ∀ a b : List Nat, (∃ t, b = a ++ t) ∨ (∃ t, a = b ++ t) ∨ ∃ p c d r s, a = p ++ c :: r ∧ b = p ++ d :: s ∧ c ≠ d
  | [], b => .inl ⟨b, rfl⟩
  | a, [] => .inr (.inl ⟨a, rfl⟩)
  | x :: a, y :: b => by
    by_cases e : x = y
    · subst e
      rcases part a b with ⟨t, h⟩ | ⟨t, h⟩ | ⟨p, c, d, r, s, h1, h2, h3⟩
      · exact .inl ⟨t, by rw [h]; rfl⟩
      · exact .inr (.inl ⟨t, by rw [h]; rfl⟩)
      · exact .inr (.inr ⟨x :: p, c, d, r, s, by rw [h1]; rfl, by rw [h2]; rfl, h3⟩)
    · exact .inr (.inr ⟨[], x, y, a, b, rfl, rfl, e⟩)
theorem part_lt {b N : Nat} {p r s : List Nat} {c d : Nat} (ha : Dg b (p ++ c :: r)) (hb : Dg b (p ++ d :: s)) (na : (p ++ c :: r).length ≤ N) (nb : (p ++ d :: s).length ≤ N) (h : c < d) : hi b N (p ++ c :: r) ≤ lo b N (p ++ d :: s) := by
  have ea : p ++ c :: r = (p ++ [c]) ++ r := by simp
  have eb : p ++ d :: s = (p ++ [d]) ++ s := by simp
  rw [ea] at ha na ⊢
  rw [eb] at hb nb ⊢
  have h1 := (in_app ha.right na).2
  have h2 := (in_app hb.right nb).1
  have hc := ha.left.right c List.mem_cons_self
  have hd := hb.left.right d List.mem_cons_self
  have l1 : (p ++ [c]).length = p.length + 1 := by simp
  have l2 : (p ++ [d]).length = p.length + 1 := by simp
  refine Nat.le_trans h1 (Nat.le_trans ?_ h2)
  unfold hi lo
  rw [val_snoc, val_snoc, l1, l2]
  exact Nat.mul_le_mul_right _ (by omega)
end Vf


set_option Elab.async false
set_option maxRecDepth 100000
set_option maxHeartbeats 4000000
/-! Codes: the order of words, and the word behind one. -/
namespace Vf
theorem lex_part {p r s : List Nat} {c d : Nat} (h : c < d) : p ++ c :: r < p ++ d :: s := by
  induction p with
  | nil => exact List.Lex.rel h
  | cons x p ih => exact List.Lex.cons ih
theorem lex_more (a : List Nat) {t : List Nat} (h : t ≠ []) : a < a ++ t := by
  induction a with
  | nil =>
    cases t with
    | nil => exact absurd rfl h
    | cons c t => exact List.Lex.nil
  | cons x a ih => exact List.Lex.cons ih
/-- a comes before b and is not above it: a's interval lies before b's -/
theorem before_iff {b N : Nat} (b0 : 0 < b) {u w : List Nat} (hu : Dg b u) (hw : Dg b w) (nu : u.length ≤ N) (nw : w.length ≤ N) : (u < w ∧ ¬ ∃ t, w = u ++ t) ↔ hi b N u ≤ lo b N w := by
  rcases part u w with ⟨t, rfl⟩ | ⟨t, rfl⟩ | ⟨p, c, d, r, s, rfl, rfl, ne⟩
  · constructor
    · rintro ⟨_, h⟩
      exact absurd ⟨t, rfl⟩ h
    · intro h
      have h1 := (in_app hw.right nw).2
      have h2 := lo_lt_hi (N := N) b0 (u ++ t)
      omega
  · constructor
    · rintro ⟨h, n⟩
      by_cases e : t = []
      · subst e
        exact absurd ⟨[], by simp⟩ n
      · exact absurd (lex_more w e) (List.lt_asymm h)
    · intro h
      have h1 := (in_app hu.right nu).1
      have h2 := lo_lt_hi (N := N) b0 (w ++ t)
      omega
  · rcases Nat.lt_or_ge c d with h | h
    · refine ⟨fun _ => part_lt hu hw nu nw h, fun _ => ⟨lex_part h, ?_⟩⟩
      rintro ⟨t, e⟩
      rw [List.append_assoc] at e
      have e2 := List.append_cancel_left e
      cases e2
      exact ne rfl
    · have h' : d < c := by omega
      constructor
      · rintro ⟨x, _⟩
        exact absurd (lex_part (p := p) (r := s) (s := r) h') (List.lt_asymm x)
      · intro x
        have h1 := part_lt hw hu nw nu h'
        have h2 := lo_lt_hi (N := N) b0 (p ++ c :: r)
        have h3 := lo_lt_hi (N := N) b0 (p ++ d :: s)
        omega
/-- all of it is the digit zero -/
def Zs (w : List Nat) : Prop := ∀ c ∈ w, c = 48
theorem val_zero {b : Nat} (b0 : 0 < b) : ∀ {w : List Nat}, Dg b w → (val b w = 0 ↔ Zs w)
  | [], _ => ⟨fun _ c h => (by cases h), fun _ => rfl⟩
  | c :: w, h => by
    have e : val b (c :: w) = (c - 48) * b ^ w.length + val b w := by
      have z := val_app (b := b) [c] w
      rw [val_one] at z
      exact z
    have h1 := h c List.mem_cons_self
    have ih := val_zero b0 (w := w) fun x hx => h x (List.mem_cons_of_mem _ hx)
    have pp := Nat.pow_pos (n := w.length) b0
    rw [e]
    constructor
    · intro z x hx
      have z1 : (c - 48) * b ^ w.length = 0 := by omega
      have z2 : val b w = 0 := by omega
      rcases List.mem_cons.mp hx with y | y
      · rcases Nat.mul_eq_zero.mp z1 with q | q
        · omega
        · omega
      · exact ih.mp z2 x y
    · intro z
      have hc := z c List.mem_cons_self
      rw [hc, ih.mpr fun x hx => z x (List.mem_cons_of_mem _ hx)]
      simp
/-- it ends with a digit that is not zero, or is empty -/
def Trim (s : List Nat) : Prop := s = [] ∨ ∃ u c, s = u ++ [c] ∧ 48 < c
theorem start_iff {b N : Nat} (b2 : 2 ≤ b) {s w : List Nat} (hs : Dg b s) (hw : Dg b w) (ns : s.length ≤ N) (nw : w.length ≤ N) (tr : Trim s) : (∃ t, w = s ++ t ∧ Zs t) ↔ lo b N w = lo b N s := by
  have b0 : 0 < b := by omega
  constructor
  · rintro ⟨t, rfl, z⟩
    rw [lo_app nw, (val_zero b0 hw.right).mpr z, Nat.zero_mul, Nat.add_zero]
  · intro e
    rcases part s w with ⟨t, rfl⟩ | ⟨t, rfl⟩ | ⟨p, c, d, r, q, rfl, rfl, ne⟩
    · refine ⟨t, rfl, (val_zero b0 hw.right).mp ?_⟩
      rw [lo_app nw] at e
      have z : val b t * b ^ (N - (s ++ t).length) = 0 := by omega
      rcases Nat.mul_eq_zero.mp z with y | y
      · exact y
      · have := Nat.pow_pos (n := N - (s ++ t).length) b0
        omega
    · rcases tr with z | ⟨u, c, z, hc⟩
      · have : t = [] := (List.append_eq_nil_iff.mp z).2
        subst this
        exact ⟨[], by simp, fun _ h => by cases h⟩
      · rw [lo_app ns] at e
        have y : val b t * b ^ (N - (w ++ t).length) = 0 := by omega
        have pp := Nat.pow_pos (n := N - (w ++ t).length) b0
        have y2 : val b t = 0 := by
          rcases Nat.mul_eq_zero.mp y with y | y
          · exact y
          · omega
        have zt := (val_zero b0 hs.right).mp y2
        by_cases te : t = []
        · subst te
          exact ⟨[], by simp, fun _ h => by cases h⟩
        · obtain ⟨t', x, rfl⟩ : ∃ t' x, t = t' ++ [x] := ⟨t.dropLast, t.getLast te, (List.dropLast_concat_getLast te).symm⟩
          have zx := zt x (by simp)
          rw [← List.append_assoc] at z
          have := (List.append_inj' z rfl).2
          cases this
          omega
    · rcases Nat.lt_or_ge c d with h | h
      · have h1 := part_lt hs hw ns nw h
        have h2 := lo_lt_hi (N := N) b0 (p ++ c :: r)
        omega
      · have h1 := part_lt hw hs nw ns (show d < c by omega)
        have h2 := lo_lt_hi (N := N) b0 (p ++ d :: q)
        omega
/-- the greatest digits at the end -/
theorem val_max {b : Nat} (b0 : 0 < b) : ∀ k, val b (List.replicate k (48 + (b - 1))) + 1 = b ^ k
  | 0 => rfl
  | k + 1 => by
    rw [List.replicate_succ', val_snoc]
    have ih := val_max b0 k
    rw [Nat.pow_succ, ← ih, Nat.add_mul, Nat.one_mul]
    omega
theorem hi_max {b N k : Nat} (b0 : 0 < b) {u : List Nat} (hN : u.length + k ≤ N) : hi b N (u ++ List.replicate k (48 + (b - 1))) = hi b N u := by
  unfold hi
  have m := val_max b0 k
  rw [val_app, List.length_append, List.length_replicate, Nat.add_assoc, m]
  have e : val b u * b ^ k + b ^ k = (val b u + 1) * b ^ k := by rw [Nat.add_mul, Nat.one_mul]
  rw [e, Nat.mul_assoc, pow_sub_add hN]
theorem hi_next {b N : Nat} {v : List Nat} {c : Nat} (hc : 48 ≤ c) : hi b N (v ++ [c]) = lo b N (v ++ [c + 1]) := by
  unfold hi lo
  rw [val_snoc, val_snoc, show (v ++ [c]).length = (v ++ [c + 1]).length by simp]
  congr 1
  omega
theorem hi_nil {b N : Nat} : hi b N [] = b ^ N := by
  unfold hi
  rw [val_nil]
  simp
end Vf


set_option Elab.async false
set_option maxRecDepth 100000
set_option maxHeartbeats 4000000
/-! Codes: rows of prefixes that cover all, told in two ways. -/
namespace Vf
abbrev Pf : Type := Nat × List Nat
/-- one behind the other, with nothing between: the walk of the program -/
def covT (b N roots : Nat) : Nat → Nat → List Pf → Bool
  | root, _, [] => decide (root = roots)
  | root, x, e :: L => if e.1 = root ∧ lo b N e.2 = x then (if hi b N e.2 = b ^ N then covT b N roots (root + 1) 0 L else covT b N roots root (hi b N e.2) L) else false
def Ord (b N : Nat) (x y : Pf) : Prop := x.1 < y.1 ∨ (x.1 = y.1 ∧ hi b N x.2 ≤ lo b N y.2)
def chainO (b N : Nat) : List Pf → Prop
  | [] => True
  | [_] => True
  | x :: y :: L => Ord b N x y ∧ chainO b N (y :: L)
/-- the share of a root -/
def tot (b N r : Nat) : List Pf → Nat
  | [] => 0
  | e :: L => (if e.1 = r then b ^ (N - e.2.length) else 0) + tot b N r L
structure PfOk (b N roots : Nat) (e : Pf) : Prop where
  r : e.1 < roots
  dg : Dg b e.2
  le : e.2.length ≤ N
theorem Ord.trans {b N : Nat} (b0 : 0 < b) {x y z : Pf} (h : Ord b N x y) (h2 : Ord b N y z) : Ord b N x z := by
  have := lo_lt_hi (N := N) b0 y.2
  rcases h with h | ⟨h, h'⟩ <;> rcases h2 with h2 | ⟨h2, h2'⟩
  · exact .inl (by omega)
  · exact .inl (by omega)
  · exact .inl (by omega)
  · exact .inr ⟨by omega, by omega⟩
theorem chainO.tail {b N : Nat} {x : Pf} {L : List Pf} (h : chainO b N (x :: L)) : chainO b N L := by
  cases L with
  | nil => trivial
  | cons y L => exact h.2
theorem chainO.all {b N : Nat} (b0 : 0 < b) {x : Pf} {L : List Pf} (h : chainO b N (x :: L)) : ∀ e ∈ L, Ord b N x e := by
  induction L generalizing x with
  | nil => intro e he; cases he
  | cons y L ih =>
    intro e he
    rcases List.mem_cons.mp he with z | z
    · rw [z]; exact h.1
    · exact h.1.trans b0 (ih h.2 e z)
theorem chainO.mk {b N : Nat} {x : Pf} {L : List Pf} (h : chainO b N L) (h2 : ∀ e ∈ L, Ord b N x e) : chainO b N (x :: L) := by
  cases L with
  | nil => trivial
  | cons y L => exact ⟨h2 y List.mem_cons_self, h⟩
theorem tot_none {b N r : Nat} : ∀ {L : List Pf}, (∀ e ∈ L, e.1 ≠ r) → tot b N r L = 0
  | [], _ => rfl
  | e :: L, h => by
    show (if e.1 = r then _ else 0) + tot b N r L = 0
    rw [if_neg (h e List.mem_cons_self), tot_none fun x hx => h x (List.mem_cons_of_mem _ hx)]
theorem tot_le {b N r roots : Nat} (b0 : 0 < b) : ∀ {L : List Pf} {y : Nat}, chainO b N L → (∀ e ∈ L, PfOk b N roots e) → (∀ e ∈ L, e.1 = r → y ≤ lo b N e.2) → y ≤ b ^ N → tot b N r L + y ≤ b ^ N
  | [], y, _, _, _, hy => by
    show 0 + y ≤ _
    omega
  | e :: L, y, ch, ok, hl, hy => by
    have okL : ∀ x ∈ L, PfOk b N roots x := fun x hx => ok x (List.mem_cons_of_mem _ hx)
    show (if e.1 = r then _ else 0) + tot b N r L + y ≤ _
    by_cases c : e.1 = r
    · rw [if_pos c]
      have h1 := hl e List.mem_cons_self c
      have h2 := tot_le (r := r) b0 (y := hi b N e.2) ch.tail okL (fun x hx hr => by
        rcases ch.all b0 x hx with z | ⟨_, z⟩
        · omega
        · exact z) (hi_le (ok e List.mem_cons_self).dg (ok e List.mem_cons_self).le)
      have h3 := hi_eq (b := b) (N := N) e.2
      omega
    · rw [if_neg c]
      have h2 := tot_le (r := r) b0 (y := y) ch.tail okL (fun x hx hr => hl x (List.mem_cons_of_mem _ hx) hr) hy
      omega
theorem cov_to {b N roots : Nat} (b0 : 0 < b) : ∀ {L : List Pf} {root x : Nat}, (∀ e ∈ L, PfOk b N roots e) → covT b N roots root x L = true →
    chainO b N L ∧ (∀ e ∈ L, root ≤ e.1 ∧ (e.1 = root → x ≤ lo b N e.2)) ∧ root ≤ roots ∧ (root < roots → tot b N root L + x = b ^ N) ∧ ∀ r, root < r → r < roots → tot b N r L = b ^ N
  | [], root, x, _, h => by
    have e : root = roots := of_decide_eq_true h
    exact ⟨trivial, fun e he => (by cases he), by omega, fun z => by omega, fun r h1 h2 => by omega⟩
  | e :: L, root, x, ok, h => by
    have okL : ∀ x ∈ L, PfOk b N roots x := fun x hx => ok x (List.mem_cons_of_mem _ hx)
    have oke := ok e List.mem_cons_self
    unfold covT at h
    by_cases c : e.1 = root ∧ lo b N e.2 = x
    · rw [if_pos c] at h
      obtain ⟨c1, c2⟩ := c
      have h3 := hi_eq (b := b) (N := N) e.2
      have rl := oke.r
      by_cases d : hi b N e.2 = b ^ N
      · rw [if_pos d] at h
        obtain ⟨a1, a2, a3, a4, a5⟩ := cov_to b0 okL h
        have far : ∀ y ∈ L, root < y.1 := fun y hy => by
          have := (a2 y hy).1
          omega
        refine ⟨a1.mk fun y hy => .inl (by have := far y hy; omega), fun y hy => ?_, by omega, fun _ => ?_, fun r h1 h2 => ?_⟩
        · rcases List.mem_cons.mp hy with z | z
          · rw [z]
            exact ⟨by omega, fun _ => by omega⟩
          · have := far y z
            exact ⟨by omega, fun _ => by omega⟩
        · show (if e.1 = root then _ else 0) + tot b N root L + x = _
          rw [if_pos c1, tot_none fun y hy => by have := far y hy; omega]
          omega
        · show (if e.1 = r then _ else 0) + tot b N r L = _
          rw [if_neg (by omega)]
          rcases Nat.lt_or_ge (root + 1) r with q | q
          · have := a5 r q h2
            omega
          · obtain rfl : r = root + 1 := by omega
            have := a4 h2
            omega
      · rw [if_neg d] at h
        obtain ⟨a1, a2, a3, a4, a5⟩ := cov_to b0 okL h
        refine ⟨a1.mk fun y hy => ?_, fun y hy => ?_, a3, fun hr => ?_, fun r h1 h2 => ?_⟩
        · have z := a2 y hy
          rcases Nat.lt_or_ge e.1 y.1 with q | q
          · exact .inl q
          · exact .inr ⟨by omega, z.2 (by omega)⟩
        · rcases List.mem_cons.mp hy with z | z
          · rw [z]
            exact ⟨by omega, fun _ => by omega⟩
          · have q := a2 y z
            exact ⟨q.1, fun w => by have := q.2 w; omega⟩
        · show (if e.1 = root then _ else 0) + tot b N root L + x = _
          rw [if_pos c1]
          have := a4 hr
          omega
        · show (if e.1 = r then _ else 0) + tot b N r L = _
          rw [if_neg (by omega)]
          have := a5 r h1 h2
          omega
    · rw [if_neg c] at h
      cases h
theorem cov_of {b N roots : Nat} (b0 : 0 < b) : ∀ {L : List Pf} {root x : Nat}, (∀ e ∈ L, PfOk b N roots e) → chainO b N L → (∀ e ∈ L, root ≤ e.1 ∧ (e.1 = root → x ≤ lo b N e.2)) → root ≤ roots → x < b ^ N → (root < roots → tot b N root L + x = b ^ N) →
    (∀ r, root < r → r < roots → tot b N r L = b ^ N) → covT b N roots root x L = true
  | [], root, x, _, _, _, hr, hx, ht, _ => by
    have e : root = roots := by
      rcases Nat.lt_or_ge root roots with c | c
      · have h : 0 + x = b ^ N := ht c
        omega
      · omega
    exact decide_eq_true e
  | e :: L, root, x, ok, ch, hl, hr, hx, ht, hts => by
    have okL : ∀ x ∈ L, PfOk b N roots x := fun x hx => ok x (List.mem_cons_of_mem _ hx)
    have oke := ok e List.mem_cons_self
    have rl := oke.r
    have z0 := hl e List.mem_cons_self
    have ht' := ht (by omega)
    have h3 := hi_eq (b := b) (N := N) e.2
    have all := ch.all b0
    have c1 : e.1 = root := by
      rcases Nat.lt_or_ge root e.1 with q | q
      · have none_ : tot b N root (e :: L) = 0 := tot_none fun y hy => by
          rcases List.mem_cons.mp hy with z | z
          · rw [z]; omega
          · rcases all y z with w | ⟨w, _⟩ <;> omega
        omega
      · omega
    have c2 : lo b N e.2 = x := by
      have h4 := tot_le (r := root) (roots := roots) b0 (y := lo b N e.2) ch ok (fun y hy hyr => by
        rcases List.mem_cons.mp hy with z | z
        · rw [z]; exact Nat.le_refl _
        · rcases all y z with w | ⟨_, w⟩
          · omega
          · have := lo_lt_hi (N := N) b0 e.2
            omega) (by
        have := hi_le oke.dg oke.le
        have := lo_lt_hi (N := N) b0 e.2
        omega)
      have := z0.2 c1
      omega
    have tr : tot b N root (e :: L) = b ^ (N - e.2.length) + tot b N root L := by
      show (if e.1 = root then _ else 0) + _ = _
      rw [if_pos c1]
    have to : ∀ r, root < r → tot b N r (e :: L) = tot b N r L := fun r h => by
      show (if e.1 = r then _ else 0) + _ = _
      rw [if_neg (by omega), Nat.zero_add]
    unfold covT
    rw [if_pos ⟨c1, c2⟩]
    by_cases d : hi b N e.2 = b ^ N
    · rw [if_pos d]
      refine cov_of b0 okL ch.tail (fun y hy => ?_) (by omega) (Nat.pow_pos b0) (fun h => ?_) fun r h1 h2 => ?_
      · have oy := okL y hy
        have h5 := hi_le oy.dg oy.le
        have h6 := lo_lt_hi (N := N) b0 y.2
        refine ⟨?_, fun _ => Nat.zero_le _⟩
        rcases all y hy with w | ⟨w, w2⟩
        · omega
        · omega
      · have := hts (root + 1) (by omega) h
        rw [to _ (by omega)] at this
        omega
      · have := hts r (by omega) h2
        rw [to _ (by omega)] at this
        exact this
    · rw [if_neg d]
      refine cov_of b0 okL ch.tail (fun y hy => ⟨?_, fun q => ?_⟩) hr ?_ (fun h => ?_) fun r h1 h2 => ?_
      · rcases all y hy with w | ⟨w, _⟩ <;> omega
      · rcases all y hy with w | ⟨_, w⟩
        · omega
        · exact w
      · have := hi_le oke.dg oke.le
        omega
      · omega
      · have := hts r h1 h2
        rw [to _ h1] at this
        exact this
theorem cov_iff {b N roots : Nat} (b0 : 0 < b) {L : List Pf} (ok : ∀ e ∈ L, PfOk b N roots e) : covT b N roots 0 0 L = true ↔ chainO b N L ∧ ∀ r, r < roots → tot b N r L = b ^ N := by
  constructor
  · intro h
    obtain ⟨a1, _, _, a4, a5⟩ := cov_to b0 ok h
    refine ⟨a1, fun r hr => ?_⟩
    rcases Nat.eq_zero_or_pos r with z | z
    · subst z
      exact a4 hr
    · exact a5 r z hr
  · rintro ⟨ch, ht⟩
    exact cov_of b0 ok ch (fun e _ => ⟨Nat.zero_le _, fun _ => Nat.zero_le _⟩) (Nat.zero_le _) (Nat.pow_pos b0) (fun h => ht 0 h) fun r _ h => ht r h
end Vf


set_option Elab.async false
set_option maxRecDepth 100000
set_option maxHeartbeats 4000000
/-! Tuples that are known to have no dict of their own (for their methods): made by tuple(xs), by a display, by +. -/
namespace Vf
open PySem PySem.Spec PyProof.Rows L2
/-- a tuple with no dict -/
def Fz (H : Hp) (a : Addr) (xs : List V) : Prop := ∃ o : Obj, H a = some (.frz o (.tup xs)) ∧ o.cls = .type "tuple" ∧ o.dict = none
theorem Fz.rd {H : Hp} {a : Addr} {xs : List V} (h : Fz H a xs) : Rd H a (.tup xs) := by
  obtain ⟨o, e, _⟩ := h
  exact .inr ⟨o, e⟩
theorem Fz.same {H H' : Hp} {a : Addr} {xs : List V} (h : Fz H a xs) (s : ∀ b o, H b = some o → H' b = some o) : Fz H' a xs := by
  obtain ⟨o, e, r⟩ := h
  exact ⟨o, s _ _ e, r⟩
theorem rd_same {H H' : Hp} {a : Addr} {u : HO} (h : Rd H a u) (s : ∀ b o, H b = some o → H' b = some o) : Rd H' a u := by
  rcases h with h | ⟨o, h⟩
  · exact .inl (s _ _ h)
  · exact .inr ⟨o, s _ _ h⟩
theorem rd_tyx {K : PySem.W.Frag} {H : Hp} {a : Addr} {xs : List V} (h : Rd H a (.tup xs)) : TyX K H (.ref a) (.type "tuple") := by
  rcases h with h | ⟨o, h⟩
  · exact .base (.tup h)
  · exact .fTuple h
theorem rd_t {K : PySem.W.Frag} {H : Hp} {a : Addr} {xs : List V} (h : Rd H a (.tup xs)) : SqT K H a xs := .inl h
abbrev Keep (H H' : Hp) : Prop := ∀ b o, H b = some o → H' b = some o
section
variable {X : Cx}
theorem laid_fz {pins : List (Addr × Obj)} {σ : L2.St} {H : Hp} {s : Shared} {xs : List V} {its : List Value} {h' : Heap} (I : Inv X pins σ H { s with heap := h' }) (hz : xs.length ≤ sizeLine) (r : Vals xs its) :
    Inv X pins σ (upd H h'.objs.size (.frz { cls := .type "tuple", data := .seq its.toArray } (.tup xs))) { s with heap := h'.push { cls := .type "tuple", data := .seq its.toArray } } ∧ Keep H (upd H h'.objs.size (.frz { cls := .type "tuple", data := .seq its.toArray } (.tup xs))) ∧
    Fz (upd H h'.objs.size (.frz { cls := .type "tuple", data := .seq its.toArray } (.tup xs))) h'.objs.size xs ∧ H h'.objs.size = none := by
  have hn : H h'.objs.size = none := I.hok.fresh (Nat.le_refl _)
  refine ⟨I.laid (t' := s.toks) (fun b o e => Heap.get?_push_of_some _ e) (Nat.le_refl _) ⟨Heap.get?_push_size _ rfl, hz, its, r, IsTup.new _ _⟩, fun b o e => ?_, ⟨_, upd_same, rfl, rfl⟩, hn⟩
  rw [upd_ne (fun z => by rw [z, hn] at e; cases e)]
  exact e
/-- tuple(xs), xs a list -/
def rTupF (K : PySem.W.Frag) : List V → Hp → VK → Prop := fun xs H Q => ∃ p ys, xs = [.ref p] ∧ SqL K H p ys ∧ ∀ l H', Keep H H' → Fz H' l ys → H l = none → Q (.ref l) H'
theorem call_tupleF : CallR X (.type "tuple") (rTupF X.K) := by
  intro pins s σ H xs us Q I r h
  obtain ⟨p, ys, rfl, hq, q⟩ := h
  obtain ⟨u, rfl, rx⟩ := vals1 r
  cases rx
  obtain ⟨its, r', pl, hz⟩ := I.list hq
  have hlen := r'.length
  refine call_tuple_list pl.isList (fun h' kp => ?_) (by simp only [List.size_toArray] <;> omega)
  have I1 : Inv X pins σ H { s with heap := h' } := I.kept (t' := s.toks) kp
  obtain ⟨I2, k, f, n⟩ := laid_fz I1 hz r'
  exact ⟨.ref h'.objs.size, _, I2, rfl, q _ _ k f n⟩
/-- a display -/
def tTupF (t : TA) : TE := fun σ H Q => t σ H fun xs H1 => xs.length ≤ sizeLine ∧ ∀ p H', Keep H1 H' → Fz H' p xs → H1 p = none → Q (.ref p) H'
theorem pe_tupF {es : List Expr} {t : TA} {pos : Pos} {x1} (h : PA X es t) : PE X (.Tuple es x1 pos) (tTupF t) := by
  refine ⟨fun pins s σ H Q I hq => ?_⟩
  refine wpAny_Tuple_spliced (thn (h.run pos pins s σ H _ I hq) fun us s1 ⟨xs, H1, I1, r, z, q⟩ => ⟨by rw [← r.length]; exact z, ?_⟩)
  obtain ⟨I2, k, f, n⟩ := laid_fz I1 z r
  exact ⟨.ref s1.heap.objs.size, _, I2, rfl, q _ _ k f n⟩
/-- t + u -/
def rCatF (K : PySem.W.Frag) : R2 := fun x y H Q => ∃ a b xs ys, x = .ref a ∧ y = .ref b ∧ SqT K H a xs ∧ SqT K H b ys ∧ xs.length + ys.length ≤ sizeLine ∧
  (xs = [] → Q (.ref b) H) ∧ (xs ≠ [] → ys = [] → Q (.ref a) H) ∧ ∀ p H', Keep H H' → Fz H' p (xs ++ ys) → Q (.ref p) H'
theorem op_catF : OpR X (binaryOp .Add) (rCatF X.K) := by
  intro pins s σ H x y v u Q I rx ry h
  obtain ⟨a, b, xs, ys, rfl, rfl, ha, hb, hz, q0, q1, q2⟩ := h
  cases rx
  cases ry
  obtain ⟨its, r1, p1, _⟩ := I.tuple ha
  obtain ⟨its2, r2, p2, _⟩ := I.tuple hb
  by_cases hx : xs = []
  · subst hx
    cases r1
    exact cat_tup0 p1 p2 ⟨.ref b, H, I, rfl, q0 rfl⟩
  · refine HT.cat_tup p1 p2 (fun z => hx (r1.nil_iff.mp z)) (fun z => ⟨.ref a, H, I, rfl, q1 hx (r2.nil_iff.mp z)⟩) (fun z => ?_) (by rw [← r1.length, ← r2.length]; exact hz)
    obtain ⟨I2, k, f, n⟩ := laid_fz (X := X) (H := H) (s := s) (h' := s.heap) (pins := pins) (σ := σ) (xs := xs ++ ys) I (by rw [List.length_append]; exact hz) (r1.append r2)
    exact ⟨.ref s.heap.objs.size, _, I2, rfl, q2 _ _ k f⟩
/-- a method of such a tuple -/
def tBMF (r : V → List V → Hp → VK → Prop) (to : TE) (t : TA) : TE := fun σ H Q => to σ H fun x H1 => (∃ a xs, x = .ref a ∧ Fz H1 a xs) ∧ t σ H1 fun xs H2 => r x xs H2 Q
variable {o e : Expr} {es : List Expr} {to : TE} {t : TA} {name : Str} {apos cpos : Pos} {id : String} {r : V → List V → Hp → VK → Prop}
theorem pe_bmF (pa : PlainAttrs "tuple") (slot : Slot "tuple" name id) (hty : typeOf (.builtin id) = pure (.type "method_descriptor")) (hm : MtR X id r) (ho : PE X o to) (ha : PA X (e :: es) t)
    (hbase : attributeBase o name X.env (eval o X.env) = eval o X.env := by rfl)
    (hfew : ((backTo cpos (starEach (e :: es) X.env)).all (fun x => !x.1) && (backToKw cpos (keywordEach [] X.env)).all (fun x => x.1.isSome)
      && decide ((e :: es).length + ([] : List Keyword).length + (if ([] : List Keyword).isEmpty then 0 else 1) < 30)) = true := by rfl)
    (hline : (apos.endLine == cpos.line) = true := by rfl) (hs : starEach (e :: es) X.env = (false, eval e X.env) :: starEach es X.env := by rfl) (hplain : (backTo cpos (starEach es X.env)).any (·.1) = false := by rfl) :
    PE X (.Call (.Attribute o name apos) (e :: es) [] cpos) (tBMF r to t) := by
  refine ⟨fun pins s σ H Q I h => ?_⟩
  refine wpAny_Call_method_late hbase hfew hline rfl (thn (ho.run pins s σ H _ I h) fun v s1 ⟨x, H1, I1, r1, ty, q1⟩ => ?_)
  obtain ⟨a, xs, rfl, ob, ea, hc, hd⟩ := ty
  obtain rfl : v = Value.ref a := r1
  obtain ⟨g, _⟩ := (show ObjOk X.prog X.w H1 s1.heap a (.frz ob (.tup xs)) from I1.hok a _ ea)
  refine ⟨"tuple", id, pa, slot, hty, ⟨ob, g, hc⟩, fun b e => ?_, ?_⟩
  · cases e
    exact ⟨ob, g, hd⟩
  have hA := ha.run cpos pins s1 σ H1 _ I1 q1
  rw [hs] at hA ⊢
  refine Calls.callWith_builtin (by show (false || (backTo cpos (starEach es X.env)).any (·.1)) = false; rw [hplain] <;> rfl) (Calls.evalArgs_plain ?_)
  exact thn hA fun us s2 ⟨vs, H2, I2, r2, q2⟩ => hm pins s2 σ H2 (.ref a) vs (.ref a) us Q I2 rfl r2 q2
end
end Vf


set_option Elab.async false
set_option maxRecDepth 100000
set_option maxHeartbeats 4000000
/-! sorted of a tuple of pairs. -/
namespace VG
open PySem PySem.Spec PyProof.Rows L2 SrtO
section
variable {prog : Program} {w : World} {A : Around} {E : Value → Shared → Prop} {s : Shared}
/-- what a tuple holds, gathered in a new list -/
theorem gather_tup {l : Addr} {vs : List Value} {Q : List Value → Shared → Prop} (hl : s.heap.IsTuple l vs.toArray) (hsz : vs.length ≤ sizeLine)
    (h : Q vs { s with heap := (s.heap.push (seqObj "list" #[] 0)).update s.heap.objs.size (Obj.mapSeq (· ++ vs.toArray)) }) : wpAny (model prog w) A (collect (.ref l)) Q E s := by
  obtain ⟨o, ho, hc, n, hd⟩ := id hl
  have kept := Heap.get?_push_of_some (seqObj "list" #[] 0) ho
  have made : (s.heap.push (seqObj "list" #[] 0)).get? s.heap.objs.size = some (seqObj "list" #[] 0) := Heap.get?_push_size _ rfl
  unfold collect
  refine wpAny_bind (wpAny_runValue (codeAny_builtin entry_proto_collect' ?_))
  show wpAny _ _ (do again (.builtin "list.__iadd__" ⟨[← newList [], .ref l], []⟩)) _ _ s
  refine wpAny_bind (wpAny_newList (wpAny_pure ⟨Code.quiet_builtin _ (by decide +kernel), codeAny_builtin entry_list_iadd' ?_⟩))
  show wpAny _ _ (Builtin.List.listExtendWith (.ref s.heap.objs.size) (.ref l) (.ref s.heap.objs.size)) _ _ { s with heap := s.heap.push (seqObj "list" #[] 0) }
  unfold Builtin.List.listExtendWith
  refine wpAny_bind (wpAny_typeOf (T := "tuple") ⟨o, kept, hc⟩ ?_)
  rw [if_pos (by rw [show (Value.type "tuple" == Value.type "tuple") = true from rfl]; simp)]
  refine wpAny_bind (listItems_at kept hd (wpAny_bind (listItems_at (xs := #[]) (n := 0) made rfl ?_)))
  rw [if_neg (by simp)]
  refine wpAny_bind (listUpdate_at (xs := #[]) (n := 0) made rfl ?_ (Nat.zero_le _) (by show (#[] ++ vs.toArray).size ≤ sizeLine + 1; simp only [Array.size_append, List.size_toArray, List.length_nil]; omega))
  refine wpAny_pure ?_
  show wpAny (model prog w) A (do let o ← load s.heap.objs.size; match o.data with | .seq xs _ => pure xs.toList | _ => unsupported "internal:collect") Q E { s with heap := (s.heap.push (seqObj "list" #[] 0)).update s.heap.objs.size (Obj.mapSeq (· ++ vs.toArray)) }
  refine wpAny_bind (wpAny_load (get?_update_seq made _) ?_)
  show wpAny _ _ (pure ((#[] : Array Value) ++ vs.toArray).toList) Q E _
  rw [show ((#[] : Array Value) ++ vs.toArray).toList = vs by simp]
  exact wpAny_pure h
theorem sortedS_tup {l : Addr} {vs : List Value} {k : Value → Int × Str} {Q : Value → Shared → Prop} (hl : s.heap.IsTuple l vs.toArray) (hz : vs.length ≤ sizeLine) (hp : ∀ v ∈ vs, IsPS s.heap v (k v).1 (k v).2)
    (h : ∀ (h' : Heap) (d : Addr) (out : List Value), Srtd (fun v u => lexS (k v) (k u)) out → Stb (fun v u => lexS (k v) (k u)) out vs → (∀ b o, s.heap.get? b = some o → h'.get? b = some o) → s.heap.objs.size ≤ d → (∃ n, h'.get? d = some (seqObj "list" out.toArray n)) → Q (.ref d) { s with heap := h' }) :
    wpAny (model prog w) A (call (.builtin "sorted") [.ref l]) Q E s := by
  refine Calls.call_function_entry kind_sorted plain_sorted entry_sorted (args_sorted1 _) ?_
  unfold Builtin.«sorted»
  refine wpAny_bind (m := checkCount "sorted" 1 1 _) (wpAny_pure (wpAny_bind (gather_tup hl hz (wpAny_bind (wpAny_newList ?_ hz)))))
  have size1 : ((s.heap.push (seqObj "list" #[] 0)).update s.heap.objs.size (Obj.mapSeq (· ++ vs.toArray))).objs.size = s.heap.objs.size + 1 := by rw [Heap.size_update, size_push']
  have made : (((s.heap.push (seqObj "list" #[] 0)).update s.heap.objs.size (Obj.mapSeq (· ++ vs.toArray))).push (seqObj "list" vs.toArray 0)).get? (s.heap.objs.size + 1) = some (seqObj "list" vs.toArray 0) := by
    rw [← size1]
    exact Heap.get?_push_size _ rfl
  have old : ∀ b o, s.heap.get? b = some o → b ≠ s.heap.objs.size + 1 ∧ (((s.heap.push (seqObj "list" #[] 0)).update s.heap.objs.size (Obj.mapSeq (· ++ vs.toArray))).push (seqObj "list" vs.toArray 0)).get? b = some o := fun b o q => by
    have lt : b < s.heap.objs.size := Heap.lt_size q
    refine ⟨Nat.ne_of_lt (Nat.lt_succ_of_lt lt), Heap.get?_push_of_some _ ?_⟩
    rw [Heap.get?_update_ne _ _ _ _ (Nat.ne_of_lt lt)]
    exact Heap.get?_push_of_some _ q
  show wpAny _ _ _ _ _ { s with heap := ((s.heap.push (seqObj "list" #[] 0)).update s.heap.objs.size (Obj.mapSeq (· ++ vs.toArray))).push (seqObj "list" vs.toArray 0) }
  rw [size1]
  refine wpAny_bind (wpAny_holding (wpAny_call_entry slot_list_sort ⟨_, made, rfl⟩ entry_list_sort (list_sort_ord (swo_lexS k) made hz (fun h2 => ?_) fun out hs hb => ⟨_, rfl, wpAny_pure ⟨_, rfl, ?_⟩⟩) (args_list_sort _)))
  · refine sortableS (s := { s with heap := ((s.heap.push (seqObj "list" #[] 0)).update s.heap.objs.size (Obj.mapSeq (· ++ vs.toArray))).push (seqObj "list" vs.toArray 0) }) (by omega) (fun v hm => (hp v hm).keeps fun b o e _ => (old b o e).2) fun o e => ?_
    have e' : some o = some (seqObj "list" vs.toArray 0) := e.symm.trans made
    cases e'
    intro c
    exact absurd (Value.type.inj c) (by decide)
  · exact h _ _ out hs hb (fun b o e => sortedAll_old e) (Nat.le_succ _) (sortedAll_at s.heap vs out.toArray)
end
section
variable {X : Cx}
/-- sorted(xs), xs a tuple of pairs of a number and a text -/
def rSortedIST (K : PySem.W.Frag) : List V → Hp → VK → Prop := fun vs H Q => ∃ (a : Addr) (xs : List V) (k : V → Int × Str), vs = [V.ref a] ∧ SqT K H a xs ∧ (∀ x ∈ xs, ∃ t, x = V.ref t ∧ H t = some (.tup [.int (k x).1, .str (k x).2])) ∧
  ∀ ys p, SrtO.Srtd (ltS k) ys → SrtO.Stb (ltS k) ys xs → H p = none → Q (.ref p) (upd H p (.lst ys))
theorem cr_sortedIST : CallR X (.builtin "sorted") (rSortedIST X.K) := by
  intro pins s σ H vs us Q I r h
  obtain ⟨a, xs, k, rfl, hs, hx, q⟩ := h
  obtain ⟨its, rv, hl, hz⟩ := I.tuple hs
  obtain ⟨u, rfl, ru⟩ := vals1 r
  obtain rfl : u = Value.ref a := ru
  obtain ⟨e1, e2⟩ := refs_back rv fun x m => by
    obtain ⟨t, e, _⟩ := hx x m
    exact ⟨t, e⟩
  refine sortedS_tup (k := fun u => k (backV u)) hl (by rw [← rv.length]; exact hz) (fun v hv => ?_) fun h' d out h1 h2 kp hd hn => ?_
  · obtain ⟨t, rfl⟩ := e2 v hv
    obtain ⟨t', e, ht⟩ := hx (V.ref t) (by rw [e1]; exact List.mem_map.mpr ⟨_, hv, rfl⟩)
    cases e
    obtain ⟨_, its2, r2, o, ho, hc, n, hd⟩ := I.hok _ _ ht
    obtain ⟨u1, u2, rfl, ⟨t1, rfl⟩, ⟨t2, rfl⟩⟩ := vals2 r2
    exact ⟨t, o, t1, t2, n, rfl, ho, hc, hd⟩
  · have h3 : ∀ u ∈ out, ∃ a, u = Value.ref a := fun u hu => e2 u (h2.perm.mem_iff.mp hu)
    obtain ⟨n, hn⟩ := hn
    have hb : SrtO.Stb (ltS k) (out.map backV) xs := by
      rw [e1]
      exact SrtO.Stb.map (swo_lexS k) backV h2
    refine ⟨.ref d, upd H d (.lst (out.map backV)), I.laid (t' := s.toks) kp hd ⟨by rw [hb.len]; exact hz, out, n, vals_back h3, hn⟩, rfl, q _ d (SrtO.srtd_map h1) hb (I.hok.fresh hd)⟩
end
end VG


set_option Elab.async false
set_option maxRecDepth 100000
set_option maxHeartbeats 8000000
set_option exponentiation.threshold 3000
/-! The word behind a word. -/
namespace Vf
open PySem L2 SX
theorem rstrip_is (l : List Nat) (m : Nat) : ∃ (u : List Nat) (k : Nat), l = u ++ List.replicate k m ∧ Txt.rstripChars (S l) ⟨#[m]⟩ = S u ∧ (u = [] ∨ ∃ v c, u = v ++ [c] ∧ c ≠ m) := by
  unfold Txt.rstripChars
  rw [PyProof.Rows.stripBy_eq]
  obtain ⟨b1, b2, b3, b4⟩ := PyProof.Rows.hi_facts (⟨#[m]⟩ : Str).cps.contains (S l) 0 (Nat.zero_le _)
  have e0 : stripLo (⟨#[m]⟩ : Str).cps.contains false (S l) = 0 := rfl
  rw [e0]
  generalize stripHi (⟨#[m]⟩ : Str).cps.contains true (S l) 0 = hi at *
  rw [S_len] at b2 b3
  have gd : ∀ k, k < l.length → (S l).cps.getD k 0 = l.getD k 0 := fun k hk => by simp [Array.getD, hk]
  have gc : ∀ c, (⟨#[m]⟩ : Str).cps.contains c = true ↔ c = m := fun c => by simp
  refine ⟨l.take hi, l.length - hi, ?_, ?_, ?_⟩
  · have e : l.drop hi = List.replicate (l.length - hi) m := by
      refine List.eq_replicate_iff.mpr ⟨List.length_drop, fun x hx => ?_⟩
      obtain ⟨k, hk, rfl⟩ := List.getElem_of_mem hx
      rw [List.length_drop] at hk
      have z := (gc _).mp (b3 (hi + k) (by omega) (by omega))
      rw [gd _ (by omega), List.getD_eq_getElem?_getD, List.getElem?_eq_getElem (by omega)] at z
      rw [List.getElem_drop]
      exact z
    rw [← e, List.take_append_drop]
  · show Str.mk _ = Str.mk _
    simp
  · rcases b4 with z | z
    · left
      rw [z]
      rfl
    · rcases Nat.eq_zero_or_pos hi with h0 | h0
      · left
        rw [h0]
        rfl
      · right
        refine ⟨l.take (hi - 1), l.getD (hi - 1) 0, ?_, fun q => ?_⟩
        · have e : hi = hi - 1 + 1 := by omega
          conv => lhs; rw [e, List.take_add_one]
          rw [List.getD_eq_getElem?_getD, List.getElem?_eq_getElem (show hi - 1 < l.length by omega)]
          rfl
        · rw [gd _ (by omega), q] at z
          have := (gc m).mpr rfl
          rw [this] at z
          cases z
/-- what stands behind a word, if anything -/
def Behind (b : Nat) (w : List Nat) : Option (List Nat) → Prop
  | none => ∃ k, w = List.replicate k (48 + (b - 1))
  | some s => ∃ v c k, w = v ++ [c] ++ List.replicate k (48 + (b - 1)) ∧ c ≠ 48 + (b - 1) ∧ s = v ++ [c + 1]
theorem behind_none {b N : Nat} (b0 : 0 < b) {w : List Nat} (h : Behind b w none) (nw : w.length ≤ N) : hi b N w = b ^ N := by
  obtain ⟨k, rfl⟩ := h
  have z := hi_max (N := N) (k := k) b0 (u := []) (by simpa using nw)
  rw [List.nil_append] at z
  rw [z, hi_nil]
theorem behind_some {b N : Nat} (b0 : 0 < b) {w s : List Nat} (hw : Dg b w) (h : Behind b w (some s)) (nw : w.length ≤ N) : hi b N w = lo b N s ∧ Trim s ∧ Dg b s ∧ s.length ≤ N ∧ hi b N w < b ^ N := by
  obtain ⟨v, c, k, rfl, ne, rfl⟩ := h
  have hc := hw.left.right c List.mem_cons_self
  have ln : (v ++ [c]).length + k ≤ N := by
    rw [List.length_append, List.length_replicate] at nw
    exact nw
  have e1 := hi_max (N := N) b0 (u := v ++ [c]) ln
  have e2 := hi_next (b := b) (N := N) (v := v) hc.1
  have dg : Dg b (v ++ [c + 1]) := hw.left.left.app fun x hx => by
    rw [List.mem_singleton.mp hx]
    omega
  have l2 : (v ++ [c + 1]).length ≤ N := by
    rw [List.length_append] at ln ⊢
    simp at ln ⊢
    omega
  refine ⟨e1.trans e2, .inr ⟨v, c + 1, rfl, by omega⟩, dg, l2, ?_⟩
  rw [e1, e2]
  exact Nat.lt_of_lt_of_le (lo_lt_hi b0 _) (hi_le dg l2)
def spStartB : Sp := fun vs H Q _ => ∃ (b : Nat) (w : List Nat), vs = [.int (b : Int), .str (S w)] ∧ 2 ≤ b ∧ b ≤ 5 ∧ Dg b w ∧ w.length ≤ 9000 ∧ (Behind b w none → Q .non H) ∧ ∀ s, Behind b w (some s) → Q (.str (S s)) H
section
variable {P : Program} {w : World} {K : PySem.W.Frag} {mg : Str → Option Value} {base : Heap}
theorem digit_at {b : Nat} (b1 : 1 ≤ b) (b5 : b ≤ 5) : atI (("01234" : Str).cps.toList) ((b : Int) - 1) = some (48 + (b - 1)) := by
  have e : b = 1 ∨ b = 2 ∨ b = 3 ∨ b = 4 ∨ b = 5 := by omega
  rcases e with e | e | e | e | e <;> subst e <;> decide +kernel
theorem digit_next {b c : Nat} (b5 : b ≤ 5) (h0 : 48 ≤ c) (h1 : c < 48 + b) (ne : c ≠ 48 + (b - 1)) : PySem.intText? (⟨#[c]⟩ : Str) = some ((c : Int) - 48) ∧ atI (("01234" : Str).cps.toList) ((c : Int) - 48 + 1) = some (c + 1) := by
  have hc : c = 48 ∨ c = 49 ∨ c = 50 ∨ c = 51 := by omega
  rcases hc with e | e | e | e <;> subst e <;> exact ⟨by decide +kernel, by decide +kernel⟩
theorem scStartB : FnScope ["base", "word", "short"] ["base", "word"] (defScope sStartB) := ⟨rfl, rfl, rfl, by decide +kernel, rfl, by decide +kernel, by decide +kernel⟩
theorem ok_startb {f : Addr} {fd : FuncData} (F : Fun K "start_behind" "start_behind" sStartB f fd) (N : Nm mg) : FnOk P w K mg base CX0 1 f fd ["base", "word"] spStartB := by
  refine F.ok scStartB (fun vs H Q E h => ?_) (fun cdv A outer s H vs Q E hr h => ?_)
  · obtain ⟨b, w, rfl, _⟩ := h
    rfl
  · obtain ⟨b, w, rfl, b2, b5, hw, hl, k1, k2⟩ := h
    have nd := scStartB.nd
    obtain ⟨t2, m2⟩ := N.dig
    refine ⟨_, pss_cons (ps_set (i := 2) nd rfl (.inl rfl) (pe_bm PySem.F.plainAttrs_str PySem.F.slot_str_rstrip PySem.F.type_str_rstrip mt_rstripChars (pv 1) (pa_cons (pe_ix ix_str (pe_glob (v := .str "01234") rfl m2 ⟨_, rfl⟩) (pe_op op_sub (pv 0) pe_int) (fun _ _ => rfl)) pa_nil)))
      (pss_cons (ps_if (pt_cmpR op_eq (pv 2) pe_str (nomark _)) (pss_one (ps_ret pe_non)) pss_nil)
      (pss_one (ps_ret (pe_op op_add_str (pe_slice sl_str (pv 2) po_none (po_some (pe_un un_neg pe_int))) (pe_ix ix_str (pe_glob (v := .str "01234") rfl m2 ⟨_, rfl⟩) (pe_op op_add (pe_callTy call_int_str (by rfl) N.int PyProof.Rows.boot_int (pa_cons (pe_ix ix_str (pv 2) (pe_un un_neg pe_int) (fun _ _ => rfl)) pa_nil)) pe_int) (fun _ _ => rfl)))))), ?_⟩
    obtain ⟨u, n, ew, eu, hu⟩ := rstrip_is w (48 + (b - 1))
    have lu : u.length ≤ w.length := by rw [ew, List.length_append]; omega
    refine ⟨_, rfl, rfl, _, rfl, _, _, rfl, rfl, _, _, _, rfl, rfl, (by decide +kernel), digit_at (by omega) b5, _, _, rfl, rfl, small_lenG hl, ?_⟩
    rw [eu]
    refine ⟨_, rfl, rfl, _, rfl, ?_⟩
    rcases hu with z | ⟨v, c, z, ne⟩
    · subst z
      refine iteTB (decide_eq_true (str_ne_empty.mpr rfl)) ?_
      exact k1 ⟨n, ew⟩
    · subst z
      refine iteFB (decide_eq_false (fun q => by have := str_ne_empty.mp q; simp at this)) ?_
      have hc := hw c (by rw [ew]; simp)
      obtain ⟨d1, d2⟩ := digit_next b5 hc.1 hc.2 ne
      have lv : v.length ≤ 9000 := by
        rw [List.length_append] at lu
        omega
      have ls : (S (v ++ [c])).length ≤ sizeLine := small_lenG (by omega)
      refine ⟨_, rfl, _, rfl, _, rfl, _, rfl, ls, _, rfl, _, rfl, _, _, _, rfl, rfl, ls, last_at v c, _, _, rfl, d1, by show 1 ≤ 640; decide, _, _, rfl, rfl, _, _, _, rfl, rfl, (by decide +kernel), d2, _, _, rfl, rfl, ?_, ?_⟩
      · rw [cut_last, S_len]
        show v.length + 1 ≤ sizeLine
        exact Nat.le_trans (show v.length + 1 ≤ 9001 by omega) (by decide)
      · rw [cut_last, S_snoc]
        exact k2 _ ⟨v, c, n, ew, ne, rfl⟩
end
end Vf


set_option Elab.async false
set_option maxRecDepth 100000
set_option maxHeartbeats 8000000
set_option exponentiation.threshold 3000
/-! The walk over a row of prefixes. -/
namespace Vf
open PySem L2 SX
/-- a row of prefixes, each with its place -/
abbrev Pr : Type := List (Addr × Pf)
abbrev prefs (L : Pr) : List V := L.map fun e => .ref e.1
abbrev pfs (L : Pr) : List Pf := L.map fun e => e.2
abbrev pfO (e : Pf) : HO := .tup [.int (e.1 : Int), .str (S e.2)]
def PGood (b N : Nat) (H : Hp) (L : Pr) : Prop := ∀ e ∈ L, H e.1 = some (pfO e.2) ∧ Dg b e.2.2 ∧ e.2.2.length ≤ N
theorem starts_iff {w s : List Nat} : Txt.startswith (S w) (S s) = true ↔ ∃ t, w = s ++ t := by
  unfold Txt.startswith
  rw [Bool.and_eq_true, decide_eq_true_iff, PySem.StrLaws.subAt_eq, S_len, S_len, beq_iff_eq]
  show 0 + s.length ≤ w.length ∧ (w.drop 0).take s.length = s ↔ _
  rw [List.drop_zero]
  constructor
  · rintro ⟨_, h⟩
    exact ⟨w.drop s.length, by conv => lhs; rw [← List.take_append_drop s.length w, h]⟩
  · rintro ⟨t, rfl⟩
    refine ⟨by rw [List.length_append]; omega, ?_⟩
    rw [List.take_left]
def spCovers : Sp := fun vs H Q _ => ∃ (b N : Nat) (roots : Nat) (a : Addr) (L : Pr), vs = [.int (b : Int), .int (roots : Int), .ref a] ∧ 2 ≤ b ∧ b ≤ 5 ∧ Rd H a (.tup (prefs L)) ∧ PGood b N H L ∧ N ≤ 9000 ∧
  Q (.bl (covT b N roots 0 0 (pfs L))) H
section
variable {P : Program} {w : World} {K : PySem.W.Frag} {mg : Str → Option Value} {base : Heap}
theorem scCovers : FnScope ["base", "roots", "prefixes", "at", "root", "start", "word"] ["base", "roots", "prefixes"] (defScope sCovers) := ⟨rfl, rfl, rfl, by decide +kernel, rfl, by decide +kernel, by decide +kernel⟩
theorem ok_covers {f fS : Addr} {fd fdS : FuncData} (F : Fun K "covers" "covers" sCovers f fd) (GS : FnOk P w K mg base CX0 1 fS fdS ["base", "word"] spStartB) (cS : Cal K mg "start_behind" fS fdS ["base", "word"]) (ml : mg "len" = none) :
    FnOk P w K mg base CX0 2 f fd ["base", "roots", "prefixes"] spCovers := by
  refine F.ok scCovers (fun vs H Q E h => ?_) (fun cdv A outer s H vs Q E hr h => ?_)
  · obtain ⟨b, N, roots, a, L, rfl, _⟩ := h
    rfl
  · obtain ⟨b, N, roots, a, L, rfl, b2, b5, ha, gL, hN, k⟩ := h
    have nd := scCovers.nd
    have b0 : 0 < b := by omega
    have eem : ("" : Str) = S [] := by decide +kernel
    have e0 : ("0" : Str) = S [48] := by decide +kernel
    refine ⟨_, pss_cons (ps_set (i := 4) nd rfl (.inl rfl) pe_int)
      (pss_cons (ps_set (i := 5) nd rfl (.inl rfl) pe_str)
      (pss_cons (ps_for PassesOwn.never rfl (pi_tup (pv 2)) (pg_tup rfl (pgs_cons (pg_name (i := 3) nd rfl (.inl rfl)) (pgs_cons (pg_name (i := 6) nd rfl (.inl rfl)) pgs_nil)))
        (pss_cons (ps_if (PW.pt (pw_or (pt_cmpR op_ne (pv 3) (pv 4) (nomark _)) (pw_or (pt_not (pt_val (pe_bm PySem.F.plainAttrs_str PySem.F.slot_str_startswith PySem.F.type_str_startswith mt_startswith (pv 6) (pa_cons (pv 5) pa_nil))))
          (pw_or1 (pt_cmpR op_ne (pe_bm PySem.F.plainAttrs_str PySem.F.slot_str_strip PySem.F.type_str_strip mt_stripChars (pe_slice sl_str (pv 6) (po_some (pe_callB call_len_str (by rfl) ml boot_len (pa_cons (pv 5) pa_nil))) po_none) (pa_cons pe_str pa_nil)) pe_str (nomark _)))))) (pss_one (ps_ret pe_bl)) pss_nil)
        (pss_cons (ps_set (i := 5) nd rfl (.inl rfl) (pe_call GS hr rfl cS.mg cS.kp cS.b .nil pass0 (pa_cons (pv 0) (pa_cons (pv 6) pa_nil))))
        (pss_one (ps_if (pt_cmpR op_isN (pv 5) pe_non (nomark _)) (pss_cons (ps_aug (i := 4) nd rfl (.inl rfl) pe_int ip_add) (pss_one (ps_set (i := 5) nd rfl (.inl rfl) pe_str))) pss_nil)))))
      (pss_one (ps_ret (pe_cmpR op_eq (pv 4) (pv 1) (nomark _)))))), ?_⟩
    refine ⟨_, rfl, a, rfl, ⟨_, rd_t ha⟩, for_tup (xs := prefs L) (fun i σ Hx => ∃ (u3 u6 : Option V) (root : Nat) (sw : List Nat), σ = [some (.int (b : Int)), some (.int (roots : Int)), some (.ref a), u3, some (.int (root : Int)), some (.str (S sw)), u6] ∧ Hx = H ∧ Trim sw ∧ Dg b sw ∧ sw.length ≤ N ∧ covT b N roots 0 0 (pfs L) = covT b N roots root (lo b N sw) ((pfs L).drop i)) ?_ ?_ ?_ ?_⟩
    · refine ⟨none, none, 0, [], ?_, rfl, .inl rfl, fun c hc => (by cases hc), Nat.zero_le _, ?_⟩
      · rw [← eem]
        rfl
      · rw [show lo b N [] = 0 by unfold lo; rw [val_nil, Nat.zero_mul]]
        rfl
    · rintro i σ Hx _ ⟨u3, u6, root, sw, rfl, rfl, _⟩
      exact rd_t ha
    · rintro i x σ Hx hx ⟨u3, u6, root, sw, rfl, rfl, tr, dg, ls, ec⟩
      obtain ⟨e, he, rfl⟩ : ∃ e, L[i]? = some e ∧ x = .ref e.1 := by
        rw [List.getElem?_map] at hx
        cases z : L[i]? with
        | none => rw [z] at hx; cases hx
        | some y => rw [z] at hx; cases hx; exact ⟨y, rfl, rfl⟩
      obtain ⟨ge, gd, gl⟩ := gL e (List.mem_of_getElem? he)
      obtain ⟨p, r, wd⟩ := e
      have gd : Dg b wd := gd
      have ge : Hx p = some (.tup [.int (r : Int), .str (S wd)]) := ge
      have gl : wd.length ≤ N := gl
      have drop : (pfs L).drop i = (r, wd) :: (pfs L).drop (i + 1) := by
        have hi' : i < (pfs L).length := by
          rw [List.length_map]
          exact (List.getElem?_eq_some_iff.mp he).1
        rw [List.drop_eq_getElem_cons hi']
        congr 1
        rw [List.getElem_map]
        have := (List.getElem?_eq_some_iff.mp he).2
        rw [this]
      rw [drop] at ec
      refine ⟨p, _, rfl, SqT.of ge, rfl, _, _, rfl, _, _, rfl, rfl, ?_⟩
      have lw : (S wd).length ≤ sizeLine := small_lenG (by omega)
      have lsw : (S sw).length ≤ sizeLine := small_lenG (by omega)
      have wrong : ¬ (r = root ∧ lo b N wd = lo b N sw) → Q (.bl false) Hx := fun n => by
        rw [ec] at k
        unfold covT at k
        rw [if_neg n] at k
        exact k
      refine ⟨_, rfl, _, rfl, rfl, _, rfl, ?_⟩
      by_cases cr : r = root
      · refine iteFB (by rw [cr, decide_eq_true rfl]; rfl) ?_
        refine ⟨_, rfl, rfl, _, rfl, _, _, rfl, rfl, _, rfl, ?_⟩
        by_cases cs : Txt.startswith (S wd) (S sw) = true
        · rw [cs]
          refine iteF ?_
          obtain ⟨t, rfl⟩ := starts_iff.mp cs
          refine ⟨_, rfl, _, rfl, _, rfl, lsw, _, rfl, _, rfl, lw, rfl, _, _, rfl, rfl, ?_, ?_⟩
          · exact Nat.le_trans (cut_len _ _ _) (Nat.le_trans (show (sw ++ t).length ≤ 9000 by omega) (by decide))
          rw [S_len, cut_drop (by rw [List.length_append]; omega), List.drop_left, e0]
          refine ⟨rfl, _, rfl, ?_⟩
          by_cases cz : Zs t
          · have z := (strip_empty t [48]).mpr fun c hc => List.mem_singleton.mpr (cz c hc)
            refine iteFB (by rw [z, decide_eq_true rfl]; rfl) ?_
            have cl : lo b N (sw ++ t) = lo b N sw := (start_iff b2 dg gd ls gl tr).mp ⟨t, rfl, cz⟩
            refine ⟨_, rfl, _, rfl, b, sw ++ t, rfl, b2, b5, gd, by omega, fun h => ?_, fun s h => ?_⟩
            · refine ⟨_, rfl, rfl, _, rfl, ?_⟩
              refine iteTB (decide_eq_true rfl) ?_
              refine ⟨_, rfl, _, _, rfl, rfl, ?_⟩
              refine ⟨some (.int (r : Int)), some (.str (S (sw ++ t))), root + 1, [], ?_, rfl, .inl rfl, fun c hc => (by cases hc), Nat.zero_le _, ?_⟩
              · rw [← eem]
                rfl
              · rw [ec]
                conv => lhs; unfold covT
                rw [if_pos ⟨cr, cl⟩, if_pos (behind_none b0 h gl), show lo b N [] = 0 by unfold lo; rw [val_nil, Nat.zero_mul]]
            · obtain ⟨h1, h2, h3, h4, h5⟩ := behind_some b0 gd h gl
              refine ⟨_, rfl, rfl, _, rfl, ?_⟩
              refine iteFB (decide_eq_false (fun z => by cases z)) ?_
              refine ⟨_, _, root, s, rfl, rfl, h2, h3, h4, ?_⟩
              rw [ec]
              conv => lhs; unfold covT
              rw [if_pos ⟨cr, cl⟩, if_neg (by show ¬ hi b N (sw ++ t) = _; omega)]
              show covT b N roots root (hi b N (sw ++ t)) _ = _
              rw [h1]
          · refine iteTB (by rw [decide_eq_false (fun z => cz fun c hc => List.mem_singleton.mp ((strip_empty t [48]).mp (V.str.inj z) c hc))]; rfl) ?_
            refine wrong fun z => cz ?_
            obtain ⟨t', h, hz⟩ := (start_iff b2 dg gd ls gl tr).mpr z.2
            rw [List.append_cancel_left h]
            exact hz
        · rw [Bool.eq_false_iff.mpr cs]
          refine iteT ?_
          refine iteT ?_
          exact wrong fun z => cs (starts_iff.mpr (by
            obtain ⟨t, h, _⟩ := (start_iff b2 dg gd ls gl tr).mpr z.2
            exact ⟨t, h⟩))
      · refine iteTB (by rw [decide_eq_false (fun z => cr (by have := V.int.inj z; omega))]; rfl) ?_
        refine iteT ?_
        exact wrong fun z => cr z.1
    · rintro σ Hx ⟨u3, u6, root, sw, rfl, rfl, _, _, _, ec⟩
      refine ⟨_, rfl, _, rfl, rfl, ?_⟩
      have e2 : (pfs L).drop (prefs L).length = [] := List.drop_eq_nil_iff.mpr (by rw [List.length_map, List.length_map]; exact Nat.le_refl _)
      rw [e2] at ec
      rw [ec] at k
      have e3 : decide (V.int (root : Int) = V.int (roots : Int)) = covT b N roots root (lo b N sw) [] := by
        show _ = decide (root = roots)
        by_cases c : root = roots
        · rw [c, decide_eq_true rfl, decide_eq_true rfl]
        · rw [decide_eq_false c, decide_eq_false (fun z => c (by have := V.int.inj z; omega))]
      rw [e3]
      exact k
end
end Vf


set_option Elab.async false
set_option maxRecDepth 100000
set_option maxHeartbeats 8000000
set_option exponentiation.threshold 3000
/-! Whether a value is a code. -/
namespace Vf
open PySem L2 SX
theorem same_new' {H : Hp} {p : Addr} {o : HO} (n : H p = none) : Same H (upd H p o) := fun b u e => by rw [upd_ne (ne_of_none e n)]; exact e
/-- a row of prefixes that are right -/
structure Row (b R N : Nat) (H : Hp) (a : Addr) (L : Pr) : Prop where
  at_ : Rd H a (.tup (prefs L))
  good : PGood b N H L
  len : L.length ≤ 6000
  rt : ∀ e ∈ L, e.2.1 < R
theorem Row.same {b R N : Nat} {H H' : Hp} {a : Addr} {L : Pr} (r : Row b R N H a L) (s : Same H H') : Row b R N H' a L := ⟨rd_same r.at_ s, fun e he => ⟨s _ _ (r.good e he).1, (r.good e he).2⟩, r.len, r.rt⟩
def spCodeForm : Sp := fun vs H Q _ => ∃ (b R N : Nat) (a : Addr) (L : Pr), vs = [.int (b : Int), .int (R : Int), .ref a] ∧ 2 ≤ b ∧ b ≤ 5 ∧ Row b R N H a L ∧ L.length ≤ 5000 ∧ N ≤ 9000 ∧ ∀ H', Same H H' → Q (.bl (covT b N R 0 0 (pfs L))) H'
theorem pg_same {H H' : Hp} {b : Nat} {R : Int} {v : V} {r : Bool} (g : PG H b R v r) (s : Same H H') : PG H' b R v r := by
  cases g with
  | non p n =>
    rename_i t
    exact .non (pl_keep0 p fun q o _ _ e => s _ _ e) (nt_keep p n fun q o _ _ e => s _ _ e)
  | len h n => exact .len (s _ _ h) n
  | fin h pr px => exact .fin (s _ _ h) (pl_keep0 pr fun q o _ _ e => s _ _ e) (pl_keep0 px fun q o _ _ e => s _ _ e)
theorem pg_right {H : Hp} {b R : Nat} {p : Addr} {e : Pf} (h : H p = some (pfO e)) (dg : Dg b e.2) (hl : e.2.length ≤ 9000) (hr : e.1 < R) : PG H b (R : Int) (.ref p) true := by
  have w : (withinV 0 ((R : Int) - 1) (.int (e.1 : Int)) && wordV b (.str (S e.2))) = true := by
    have a1 : withinV 0 ((R : Int) - 1) (.int (e.1 : Int)) = true := by
      show (decide ((0 : Int) ≤ (e.1 : Int)) && decide ((e.1 : Int) ≤ (R : Int) - 1)) = true
      rw [decide_eq_true (by omega), decide_eq_true (by omega)]
      rfl
    rw [a1, wordV_of fun c hc => by have := dg c hc; omega]
    rfl
  rw [← w]
  exact .fin h (.int _) (.str _ (by rw [S_len]; exact hl))
section
variable {P : Program} {w : World} {K : PySem.W.Frag} {mg : Str → Option Value} {base : Heap}
theorem scCodeForm : FnScope ["base", "roots", "value", "prefix"] ["base", "roots", "value"] (defScope sCodeForm) := ⟨rfl, rfl, rfl, by decide +kernel, rfl, by decide +kernel, by decide +kernel⟩
theorem ok_codeform {f fP fC : Addr} {fd fdP fdC : FuncData} (F : Fun K "has_code_form" "has_code_form" sCodeForm f fd) (GP : FnOk P w K mg base CX0 3 fP fdP ["base", "roots", "value"] spPfxFormG) (cP : Cal K mg "has_prefix_form" fP fdP ["base", "roots", "value"])
    (GC : FnOk P w K mg base CX0 2 fC fdC ["base", "roots", "prefixes"] spCovers) (cC : Cal K mg "covers" fC fdC ["base", "roots", "prefixes"]) (N : Nm mg) (mall : mg "all" = none) (mr : ∃ t, mg "MAX_ROWS" = some (.int 5000 t)) :
    FnOk P w K mg base CX0 4 f fd ["base", "roots", "value"] spCodeForm := by
  refine F.ok scCodeForm (fun vs H Q E h => ?_) (fun cdv A outer s H vs Q E hr h => ?_)
  · obtain ⟨b, R, M, a, L, rfl, _⟩ := h
    rfl
  · obtain ⟨b, R, M, p, L, rfl, b2, b5, row, n, hM, k⟩ := h
    have nd := scCodeForm.nd
    have hr2 := hr.mono (show 2 ≤ 3 by decide)
    obtain ⟨t2, m2⟩ := mr
    refine ⟨_, pss_cons (ps_if (PW.pt (pw_or (pt_not (pt_val (pe_callB call_isi (by rfl) N.isinst PyProof.Rows.boot_isinstance (pa_cons (pv 2) (pa_cons (pe_bltn (v := .ty "tuple") (by rfl) N.tuple PyProof.Rows.boot_tuple rfl) pa_nil)))))
        (pw_or1 (pt_cmpR op_gt (pe_callB call_len_seq (by rfl) N.len boot_len (pa_cons (pv 2) pa_nil)) (pe_glob (v := .int 5000) rfl m2 ⟨_, rfl⟩) (nomark _)))))
        (pss_one (ps_ret pe_bl)) pss_nil)
      (pss_one (ps_ret (pe_and (pe_callB (cr_all rfl) (by rfl) mall PyProof.Rows.boot_all (pa_cons (pe_lc (own := [("prefix", 3)]) (g := gName 3) rfl nd (pi_tup (pv 2))
          (blkOk_by (N := ["base", "roots", "value", "prefix"]) (sc := defScope sCodeForm) (by decide +kernel)) (fun _ _ _ _ _ => pg_name (i := 3) nd rfl (Or.inl rfl))
          (fun _ _ _ _ _ => pts_nil) (fun _ _ _ _ _ => pe_call GP hr rfl cP.mg cP.kp cP.b .nil pass0 (pa_cons (pv 0) (pa_cons (pv 1) (pa_cons (pv 3) pa_nil))))) pa_nil))
        (pe_one (pe_call GC hr2 rfl cC.mg cC.kp cC.b .nil pass0 (pa_cons (pv 0) (pa_cons (pv 1) (pa_cons (pv 2) pa_nil)))))))), ?_⟩
    have hp := row.at_
    have lp : (prefs L).length = L.length := List.length_map ..
    refine ⟨_, rfl, _, _, _, _, true, rfl, .ty "tuple", rd_tyx hp, kit_ty (by decide +kernel), _, rfl, ?_⟩
    refine iteF ?_
    refine ⟨_, rfl, _, _, rfl, .inr (rd_t hp), _, _, rfl, rfl, _, rfl, ?_⟩
    refine iteFB (decide_eq_false (by rw [lp]; omega)) ?_
    refine ⟨_, rfl, p, rfl, ⟨_, rd_t hp⟩, fun D hD => ?_⟩
    have sD : ∀ o, Same H (upd H D o) := fun o => same_new' hD
    refine lc_tup (xs := prefs L) (fun i Hy => Hy = upd H D (.lst (List.replicate i (V.bl true)))) rfl ?_ ?_ ?_
    · rintro i Hy _ rfl
      exact rd_t (rd_same hp (sD _))
    · rintro i x Hy hx rfl
      obtain ⟨e, he, rfl⟩ : ∃ e, L[i]? = some e ∧ x = .ref e.1 := by
        rw [List.getElem?_map] at hx
        cases z : L[i]? with
        | none => rw [z] at hx; cases hx
        | some y => rw [z] at hx; cases hx; exact ⟨y, rfl, rfl⟩
      have em := List.mem_of_getElem? he
      have hi : i < L.length := (List.getElem?_eq_some_iff.mp he).1
      obtain ⟨g1, g2, g3⟩ := row.good e em
      refine ⟨rfl, _, rfl, _, rfl, _, rfl, b, (R : Int), _, true, rfl, b2, b5, pg_right (sD _ _ _ g1) g2 (by omega) (row.rt e em), _, upd_same, ?_, ?_⟩
      · rw [List.length_replicate]
        exact Nat.lt_of_lt_of_le (show i < 6000 by omega) (by decide)
      · rw [upd_upd', List.replicate_succ']
    · rintro Hy rfl
      refine ⟨D, List.replicate (prefs L).length true, rfl, SqL.of (by rw [upd_same, List.map_replicate]), _, rfl, ?_⟩
      refine iteTB (by rw [List.all_replicate]; simp) ?_
      exact ⟨_, rfl, _, rfl, _, rfl, b, M, R, p, L, rfl, b2, b5, rd_same hp (sD _), fun e he => ⟨sD _ _ _ (row.good e he).1, (row.good e he).2⟩, hM, k _ (sD _)⟩
end
end Vf


set_option Elab.async false
set_option maxRecDepth 100000
set_option maxHeartbeats 8000000
set_option exponentiation.threshold 3000
/-! Codes made. -/
namespace Vf
open PySem L2 SX
theorem within_b {b : Nat} (b2 : 2 ≤ b) (b5 : b ≤ 5) : withinV 2 5 (.int (b : Int)) = true := by
  show (decide ((2 : Int) ≤ b) && decide ((b : Int) ≤ 5)) = true
  rw [decide_eq_true (by omega), decide_eq_true (by omega)]
  rfl
theorem within_r {R : Nat} (r1 : 1 ≤ R) (r5 : R ≤ 5000) : withinV 1 5000 (.int (R : Int)) = true := by
  show (decide ((1 : Int) ≤ R) && decide ((R : Int) ≤ 5000)) = true
  rw [decide_eq_true (by omega), decide_eq_true (by omega)]
  rfl
theorem takes0 {X : Cx} : Takes X (fun _ _ _ _ => False) := fun _ _ x => by
  obtain ⟨a, B, sI, pins', σ', H', cls, d, rfl, J', nb, up, sky, na, os, ag, wish⟩ := x
  exact wish.elim
def spReqPfxs : Sp := fun vs H Q _ => ∃ (b R N : Nat) (a : Addr) (L : Pr), vs = [.int (b : Int), .int (R : Int), .ref a] ∧ 2 ≤ b ∧ b ≤ 5 ∧ Row b R N H a L ∧ N ≤ 1000 ∧ Q .non H
def spRootCode : Sp := fun vs H Q _ => ∃ R : Nat, vs = [.int (R : Int)] ∧ 1 ≤ R ∧ R ≤ 5000 ∧ ∀ (L : Pr) (p : Addr) (H' : Hp), pfs L = (List.range R).map (fun r => (r, [])) → Same H H' → (∀ e ∈ L, H' e.1 = some (pfO e.2)) → H' p = some (.tup (prefs L)) → H p = none → Q (.ref p) H'
section
variable {P : Program} {w : World} {K : PySem.W.Frag} {mg : Str → Option Value} {base : Heap}
theorem pf_right {H : Hp} {b R : Nat} {p : Addr} {e : Pf} (h : H p = some (pfO e)) (dg : Dg b e.2) (hl : e.2.length ≤ 9000) (hr : e.1 < R) : PF H b (R : Int) (.ref p) true := by
  have a1 : (withinV 0 ((R : Int) - 1) (.int (e.1 : Int)) && wordV b (.str (S e.2))) = true := by
    have a1 : withinV 0 ((R : Int) - 1) (.int (e.1 : Int)) = true := by
      show (decide ((0 : Int) ≤ (e.1 : Int)) && decide ((e.1 : Int) ≤ (R : Int) - 1)) = true
      rw [decide_eq_true (by omega), decide_eq_true (by omega)]
      rfl
    rw [a1, wordV_of fun c hc => by have := dg c hc; omega]
    rfl
  rw [← a1]
  exact .fin h (fun _ => .int _) (fun _ => .str _ (by rw [S_len]; exact hl))
end
end Vf


set_option Elab.async false
set_option maxRecDepth 100000
set_option maxHeartbeats 8000000
set_option exponentiation.threshold 3000
/-! Codes made of prefixes in any order. -/
namespace Vf
open PySem L2 SX
def kP (e : Pf) : Int × Str := ((e.1 : Int), S e.2)
theorem perm_lift {α β : Type} (f : α → β) : ∀ (L : List α) {ys : List β}, ys.Perm (L.map f) → ∃ L' : List α, L'.Perm L ∧ L'.map f = ys
  | [], ys, h => ⟨[], List.Perm.refl _, (List.Perm.eq_nil h).symm⟩
  | x :: L, ys, h => by
    have m : f x ∈ ys := h.mem_iff.mpr List.mem_cons_self
    obtain ⟨a, b, rfl⟩ := List.append_of_mem m
    have h2 : (a ++ b).Perm (L.map f) := (List.perm_middle.symm.trans h).cons_inv
    obtain ⟨L', p, e⟩ := perm_lift f L h2
    refine ⟨L'.take a.length ++ x :: L'.drop a.length, ?_, ?_⟩
    · refine List.perm_middle.trans ((List.Perm.cons x ?_))
      rw [List.take_append_drop]
      exact p
    · rw [List.map_append, List.map_cons, List.map_take, List.map_drop, e, List.take_left, List.drop_left]
/-- what a place tells -/
def keyAt (H : Hp) : V → Int × Str
  | .ref c => match H c with
    | some (.tup [.int i, .str s]) => (i, s)
    | _ => (0, "")
  | _ => (0, "")
theorem keyAt_of {H : Hp} {c : Addr} {i : Int} {s : Str} (h : H c = some (.tup [.int i, .str s])) : keyAt H (.ref c) = (i, s) := by
  unfold keyAt
  simp only [h]
def SrtP (L : List Pf) : Prop := SrtO.Srtd VG.lexS (L.map kP)
theorem lexS_anti {p q : Int × Str} (h1 : VG.lexS p q = false) (h2 : VG.lexS q p = false) : p = q := by
  have a := VG.lexS_no.mp h1
  have b := VG.lexS_no.mp h2
  have e1 : p.1 = q.1 := by
    rcases Int.lt_trichotomy p.1 q.1 with z | z | z
    · exact absurd (.inl z) a
    · exact z
    · exact absurd (.inl z) b
  have c1 : ¬ p.2.cps.toList < q.2.cps.toList := fun z => a (.inr ⟨e1, z⟩)
  have c2 : ¬ q.2.cps.toList < p.2.cps.toList := fun z => b (.inr ⟨e1.symm, z⟩)
  have e2 : p.2.cps.toList = q.2.cps.toList := List.le_antisymm (List.not_lt.mp c2) (List.not_lt.mp c1)
  obtain ⟨i, ⟨u⟩⟩ := p
  obtain ⟨j, ⟨v⟩⟩ := q
  have e3 : u = v := Array.toList_inj.mp e2
  have e1' : i = j := e1
  rw [e1', e3]
theorem key_uniq : ∀ {l m : List (Int × Str)}, SrtO.Srtd VG.lexS l → SrtO.Srtd VG.lexS m → l.Perm m → l = m
  | [], m, _, _, h => (List.Perm.eq_nil h.symm).symm
  | x :: l, [], _, _, h => absurd h.length_eq (by simp)
  | x :: l, y :: m, hl, hm, h => by
    have O := VG.swo_lexS (α := Int × Str) id
    have h1 : VG.lexS x y = false := by
      rcases List.mem_cons.mp (h.mem_iff.mp (List.mem_cons_self (a := x) (l := l))) with e | hx
      · rw [e]
        exact O.refl y
      · exact SrtO.srtd_head hm x hx
    have h2 : VG.lexS y x = false := by
      rcases List.mem_cons.mp (h.mem_iff.mpr (List.mem_cons_self (a := y) (l := m))) with e | hy
      · rw [e]
        exact O.refl x
      · exact SrtO.srtd_head hl y hy
    have e := lexS_anti h1 h2
    subst e
    rw [key_uniq (List.pairwise_cons.mp hl).2 (List.pairwise_cons.mp hm).2 h.cons_inv]
theorem kP_inj {a b : Pf} (h : kP a = kP b) : a = b := by
  obtain ⟨r, x⟩ := a
  obtain ⟨q, y⟩ := b
  have h1 : (r : Int) = q := congrArg Prod.fst h
  have h2 : S x = S y := congrArg Prod.snd h
  have h3 : x = y := by
    have := congrArg (fun s : Str => s.cps.toList) h2
    simpa using this
  rw [h3, show r = q by omega]
theorem map_inj {α β : Type} {f : α → β} (i : ∀ a b, f a = f b → a = b) : ∀ {l m : List α}, l.map f = m.map f → l = m
  | [], [], _ => rfl
  | [], _ :: _, h => by cases h
  | _ :: _, [], h => by cases h
  | x :: l, y :: m, h => by
    rw [List.map_cons, List.map_cons] at h
    injection h with h1 h2
    rw [i _ _ h1, map_inj i h2]
/-- a sorted row is told by what it holds -/
theorem srt_uniq {l m : List Pf} (a : SrtP l) (b : SrtP m) (p : l.Perm m) : l = m := map_inj (fun _ _ => kP_inj) (key_uniq a b (p.map kP))
def codeB (b R N : Nat) (L : List Pf) : Bool := decide (L.length ≤ 5000) && covT b N R 0 0 L
def spCodeFrom (CI : Addr) : Sp := fun vs H Q E => ∃ (b R N : Nat) (a : Addr) (L : Pr), vs = [.int (b : Int), .int (R : Int), .ref a] ∧ 2 ≤ b ∧ b ≤ 5 ∧ 1 ≤ R ∧ R ≤ 5000 ∧ Row b R N H a L ∧ N ≤ 1000 ∧
  ∀ (L' : Pr) (p : Addr) (H' : Hp), SrtP (pfs L') → L'.Perm L → Same H H' → Row b R N H' p L' → H p = none → (codeB b R N (pfs L') = true → Q (.ref p) H') ∧ (codeB b R N (pfs L') = false → E (.ref CI) none H')
theorem srtd_of_map {f : V → Int × Str} : ∀ {ys : List V}, SrtO.Srtd (VG.ltS f) ys → SrtO.Srtd VG.lexS (ys.map f) := fun {ys} h => List.pairwise_map.mpr h
section
variable {P : Program} {w : World} {K : PySem.W.Frag} {mg : Str → Option Value} {base : Heap}
end
end Vf


set_option Elab.async false
set_option maxRecDepth 100000
set_option maxHeartbeats 8000000
set_option exponentiation.threshold 3000
/-! The law's ways with prefixes. -/
namespace Vf
open PySem L2 SX
def kids (b : Nat) (e : Pf) : List Pf := (List.range b).map fun i => (e.1, e.2 ++ [48 + i])
def spLonger : Sp := fun vs H Q _ => ∃ (p : Addr) (e : Pf) (wd : List Nat), vs = [.ref p, .str (S wd)] ∧ H p = some (pfO e) ∧ e.2.length + wd.length ≤ 9000 ∧ ∀ t, H t = none → Q (.ref t) (upd H t (pfO (e.1, e.2 ++ wd)))
def spChildren : Sp := fun vs H Q _ => ∃ (b : Nat) (p : Addr) (e : Pf), vs = [.int (b : Int), .ref p] ∧ 2 ≤ b ∧ b ≤ 5 ∧ H p = some (pfO e) ∧ e.2.length ≤ 8000 ∧
  ∀ (L : Pr) (D : Addr) (H' : Hp), pfs L = kids b e → Same H H' → (∀ x ∈ L, H' x.1 = some (pfO x.2)) → H' D = some (.lst (prefs L)) → H D = none → Q (.ref D) H'
section
variable {P : Program} {w : World} {K : PySem.W.Frag} {mg : Str → Option Value} {base : Heap}
theorem scLonger : FnScope ["prefix", "word"] ["prefix", "word"] (defScope sLonger) := ⟨rfl, rfl, rfl, by decide +kernel, rfl, by decide +kernel, by decide +kernel⟩
theorem ok_longer {f : Addr} {fd : FuncData} (F : Fun K "_law_longer" "_law_longer" sLonger f fd) : FnOk P w K mg base CX0 1 f fd ["prefix", "word"] spLonger := by
  refine F.ok scLonger (fun vs H Q E h => ?_) (fun cdv A outer s H vs Q E hr h => ?_)
  · obtain ⟨p, e, wd, rfl, _⟩ := h
    rfl
  · obtain ⟨p, e, wd, rfl, hp, hl, k⟩ := h
    refine ⟨_, pss_one (ps_ret (pe_tup (pa_cons (pe_ix ix_tup (pv 0) pe_int (fun _ _ => rfl)) (pa_cons (pe_op op_add_str (pe_ix ix_tup (pv 0) pe_int (fun _ _ => rfl)) (pv 1)) pa_nil)))), ?_⟩
    refine ⟨_, rfl, p, _, _, _, rfl, rfl, SqT.of hp, rfl, _, rfl, p, _, _, _, rfl, rfl, SqT.of hp, rfl, _, rfl, _, _, rfl, rfl, ?_, (by show 2 ≤ sizeLine; decide), fun t nt => ?_⟩
    · rw [S_len, S_len]
      exact Nat.le_trans hl (by decide)
    · rw [S_cat]
      exact k t nt
theorem scChildren : FnScope ["base", "prefix", "digit"] ["base", "prefix"] (defScope sChildren) := ⟨rfl, rfl, rfl, by decide +kernel, rfl, by decide +kernel, by decide +kernel⟩
theorem digs_at {b i c : Nat} (b5 : b ≤ 5) (h : (digs b)[i]? = some c) : i < b ∧ c = 48 + i := by
  unfold digs at h
  rw [List.getElem?_take] at h
  by_cases hi : i < b
  · rw [if_pos hi] at h
    have e : i = 0 ∨ i = 1 ∨ i = 2 ∨ i = 3 ∨ i = 4 := by omega
    rcases e with e | e | e | e | e <;> subst e <;> exact ⟨hi, (Option.some.inj h).symm⟩
  · rw [if_neg hi] at h
    cases h
theorem digs_len {b : Nat} (b5 : b ≤ 5) : (digs b).length = b := by
  unfold digs
  rw [List.length_take]
  show min b 5 = b
  omega
theorem ok_children {f fL : Addr} {fd fdL : FuncData} (F : Fun K "_law_children" "_law_children" sChildren f fd) (GL : FnOk P w K mg base CX0 1 fL fdL ["prefix", "word"] spLonger) (cL : Cal K mg "_law_longer" fL fdL ["prefix", "word"]) :
    FnOk P w K mg base CX0 2 f fd ["base", "prefix"] spChildren := by
  refine F.ok scChildren (fun vs H Q E h => ?_) (fun cdv A outer s H vs Q E hr h => ?_)
  · obtain ⟨b, p, e, rfl, _⟩ := h
    rfl
  · obtain ⟨b, p, e, rfl, b2, b5, hp, hl, k⟩ := h
    have nd := scChildren.nd
    refine ⟨_, pss_one (ps_ret (pe_lc (own := [("digit", 2)]) (g := gName 2) rfl nd (pi_str (pe_slice sl_str pe_str po_none (po_some (pv 0))))
          (blkOk_by (N := ["base", "prefix", "digit"]) (sc := defScope sChildren) (by decide +kernel)) (fun _ _ _ _ _ => pg_name (i := 2) nd rfl (Or.inl rfl))
          (fun _ _ _ _ _ => pts_nil) (fun _ _ _ _ _ => pe_call GL hr rfl cL.mg cL.kp cL.b .nil pass0 (pa_cons (pv 1) (pa_cons (pv 2) pa_nil))))), ?_⟩
    have ed : cutS ("01234" : Str) none (some (b : Int)) = S (digs b) := by
      rw [s01234, cut_take (by simpa using b5)]
      rfl
    refine ⟨_, rfl, _, rfl, _, rfl, len5, ?_⟩
    rw [ed]
    refine ⟨_, rfl, fun D hD => ?_⟩
    refine lc_it (walk_str (z := S (digs b))) (fun i Hy => ∃ L : Pr, pfs L = (List.range i).map (fun i => (e.1, e.2 ++ [48 + i])) ∧ Hy D = some (.lst (prefs L)) ∧ (∀ x ∈ L, Hy x.1 = some (pfO x.2)) ∧ ∀ c o, H c = some o → Hy c = some o) ?_ (fun _ _ _ _ => True.intro) ?_ ?_
    · exact ⟨[], rfl, upd_same, fun x hx => (by cases hx), fun c o e => by rw [upd_ne (ne_of_none e hD)]; exact e⟩
    · rintro i x Hy H' hi ⟨L, e1, e2, e3, e4⟩ ⟨rfl, c, hc, rfl⟩
      obtain ⟨hi', rfl⟩ := digs_at b5 (show (digs b)[i]? = some c by simpa using hc)
      have lL : L.length = i := by
        have z := congrArg List.length e1
        rw [List.length_map, List.length_map, List.length_range] at z
        exact z
      refine ⟨rfl, _, rfl, _, rfl, p, e, [48 + i], rfl, e4 _ _ hp, by show e.2.length + 1 ≤ 9000; omega, fun t nt => ?_⟩
      have nD : D ≠ t := ne_of_none e2 nt
      refine ⟨_, by rw [upd_ne nD]; exact e2, ?_, L ++ [(t, (e.1, e.2 ++ [48 + i]))], ?_, ?_, fun z hz => ?_, fun c o ec => ?_⟩
      · rw [List.length_map, lL]
        exact Nat.lt_of_lt_of_le (show i < 6 by omega) (by decide)
      · rw [show pfs (L ++ [(t, (e.1, e.2 ++ [48 + i]))]) = pfs L ++ [(e.1, e.2 ++ [48 + i])] from List.map_append, e1, List.range_succ, List.map_append]
        rfl
      · rw [upd_same]
        show some (HO.lst (prefs L ++ [V.ref t])) = some (HO.lst (prefs (L ++ [(t, (e.1, e.2 ++ [48 + i]))])))
        rw [show prefs (L ++ [(t, (e.1, e.2 ++ [48 + i]))]) = prefs L ++ [V.ref t] from List.map_append]
      · rcases List.mem_append.mp hz with y | y
        · have g := e3 z y
          rw [upd_ne (fun w => by rw [w, e2] at g; cases g), upd_ne (ne_of_none g nt)]
          exact g
        · rw [List.mem_singleton.mp y, upd_ne nD.symm, upd_same]
      · rw [upd_ne (ne_of_none ec hD), upd_ne (ne_of_none (e4 _ _ ec) nt)]
        exact e4 _ _ ec
    · rintro Hy ⟨L, e1, e2, e3, e4⟩
      have el : (S (digs b)).cps.size = b := by
        show (digs b).toArray.size = b
        rw [List.size_toArray, digs_len b5]
      rw [el] at e1
      exact k L D Hy e1 e4 e3 e2 hD
end
end Vf


set_option Elab.async false
set_option maxRecDepth 100000
set_option maxHeartbeats 4000000
/-! Codes: rows in any order. -/
namespace Vf
open PySem L2 SX
def Disj (b N : Nat) (x y : Pf) : Prop := x.1 ≠ y.1 ∨ hi b N x.2 ≤ lo b N y.2 ∨ hi b N y.2 ≤ lo b N x.2
theorem Disj.symm {b N : Nat} {x y : Pf} (h : Disj b N x y) : Disj b N y x := by
  rcases h with h | h | h
  · exact .inl fun z => h z.symm
  · exact .inr (.inr h)
  · exact .inr (.inl h)
structure Leaf (b N R : Nat) (L : List Pf) : Prop where
  ok : ∀ e ∈ L, PfOk b N R e
  dj : L.Pairwise (Disj b N)
  tt : ∀ r, r < R → tot b N r L = b ^ N
theorem tot_app {b N r : Nat} : ∀ (A B : List Pf), tot b N r (A ++ B) = tot b N r A + tot b N r B
  | [], B => (Nat.zero_add _).symm
  | e :: A, B => by
    show (if e.1 = r then _ else 0) + tot b N r (A ++ B) = (if e.1 = r then _ else 0) + tot b N r A + tot b N r B
    rw [tot_app A B, Nat.add_assoc]
theorem tot_perm {b N r : Nat} {A B : List Pf} (h : A.Perm B) : tot b N r A = tot b N r B := by
  induction h with
  | nil => rfl
  | cons x _ ih =>
    show (if x.1 = r then _ else 0) + _ = (if x.1 = r then _ else 0) + _
    rw [ih]
  | swap x y l =>
    show (if y.1 = r then _ else 0) + ((if x.1 = r then _ else 0) + tot b N r l) = (if x.1 = r then _ else 0) + ((if y.1 = r then _ else 0) + tot b N r l)
    omega
  | trans _ _ h1 h2 => exact h1.trans h2
theorem Leaf.perm {b N R : Nat} {A B : List Pf} (h : Leaf b N R A) (p : A.Perm B) : Leaf b N R B :=
  ⟨fun e he => h.ok e (p.mem_iff.mpr he), p.pairwise h.dj fun h => h.symm, fun r hr => by rw [← tot_perm p]; exact h.tt r hr⟩
theorem leaf_root {b N R : Nat} : Leaf b N R ((List.range R).map fun r => (r, [])) := by
  refine ⟨fun e he => ?_, ?_, ?_⟩
  · obtain ⟨r, hr, rfl⟩ := List.mem_map.mp he
    exact ⟨List.mem_range.mp hr, fun c hc => (by cases hc), Nat.zero_le _⟩
  · rw [List.pairwise_map]
    exact List.pairwise_lt_range.imp fun h => .inl (Nat.ne_of_lt h)
  · have key : ∀ (n r : Nat), tot b N r ((List.range n).map fun r => (r, [])) = if r < n then b ^ N else 0 := fun n r => by
      induction n with
      | zero => rfl
      | succ n ih =>
        rw [List.range_succ, List.map_append, tot_app, ih]
        show _ + ((if n = r then b ^ (N - 0) else 0) + 0) = _
        rcases Nat.lt_trichotomy r n with c | c | c
        · rw [if_pos c, if_neg (by omega), if_pos (by omega)]
          omega
        · rw [if_neg (by omega), if_pos c.symm, if_pos (by omega), Nat.sub_zero]
          omega
        · rw [if_neg (by omega), if_neg (by omega), if_neg (by omega)]
    intro r hr
    rw [key, if_pos hr]
theorem kid_mem {b : Nat} {e x : Pf} (h : x ∈ kids b e) : ∃ i, i < b ∧ x = (e.1, e.2 ++ [48 + i]) := by
  obtain ⟨i, hi, rfl⟩ := List.mem_map.mp h
  exact ⟨i, List.mem_range.mp hi, rfl⟩
theorem kid_ok {b N R : Nat} {e x : Pf} (ok : PfOk b N R e) (hN : e.2.length < N) (h : x ∈ kids b e) : PfOk b N R x ∧ x.1 = e.1 ∧ lo b N e.2 ≤ lo b N x.2 ∧ hi b N x.2 ≤ hi b N e.2 := by
  obtain ⟨i, hi, rfl⟩ := kid_mem h
  have d : Dg b [48 + i] := fun c hc => by rw [List.mem_singleton.mp hc]; omega
  have l : (e.2 ++ [48 + i]).length ≤ N := by rw [List.length_append]; show e.2.length + 1 ≤ N; omega
  have z := in_app (b := b) (u := e.2) d l
  exact ⟨⟨ok.r, ok.dg.app d, l⟩, rfl, z.1, z.2⟩
theorem kids_tot {b N r : Nat} {e : Pf} (hN : e.2.length < N) : tot b N r (kids b e) = if e.1 = r then b ^ (N - e.2.length) else 0 := by
  have key : ∀ n, tot b N r ((List.range n).map fun i => (e.1, e.2 ++ [48 + i])) = if e.1 = r then n * b ^ (N - (e.2.length + 1)) else 0 := fun n => by
    induction n with
    | zero => show 0 = _; split <;> simp
    | succ n ih =>
      rw [List.range_succ, List.map_append, tot_app, ih]
      show _ + ((if e.1 = r then b ^ (N - (e.2 ++ [48 + n]).length) else 0) + 0) = _
      rw [show (e.2 ++ [48 + n]).length = e.2.length + 1 by simp]
      by_cases c : e.1 = r
      · rw [if_pos c, if_pos c, if_pos c, Nat.add_mul, Nat.one_mul]
        rfl
      · rw [if_neg c, if_neg c, if_neg c]
  unfold kids
  rw [key]
  by_cases c : e.1 = r
  · rw [if_pos c, if_pos c, show N - e.2.length = N - (e.2.length + 1) + 1 by omega, Nat.pow_succ, Nat.mul_comm]
  · rw [if_neg c, if_neg c]
theorem Leaf.split {b N R : Nat} {A B : List Pf} {e : Pf} (h : Leaf b N R (A ++ e :: B)) (hN : e.2.length < N) : Leaf b N R (A ++ B ++ kids b e) := by
  have pm : (A ++ e :: B).Perm (e :: (A ++ B)) := List.perm_middle
  have h2 := h.perm pm
  have oke := h2.ok e List.mem_cons_self
  obtain ⟨d1, d2⟩ := List.pairwise_cons.mp h2.dj
  refine ⟨fun x hx => ?_, ?_, fun r hr => ?_⟩
  · rcases List.mem_append.mp hx with z | z
    · exact h2.ok x (List.mem_cons_of_mem _ z)
    · exact (kid_ok oke hN z).1
  · refine List.pairwise_append.mpr ⟨d2, ?_, fun x hx y hy => ?_⟩
    · unfold kids
      rw [List.pairwise_map]
      refine List.Pairwise.imp_of_mem (fun {i j} hi hj lt => ?_) List.pairwise_lt_range
      have hi' := List.mem_range.mp hi
      have hj' := List.mem_range.mp hj
      have dg : ∀ k, k < b → Dg b (e.2 ++ [48 + k]) := fun k hk => oke.dg.app fun c hc => by rw [List.mem_singleton.mp hc]; omega
      have ln : ∀ k, (e.2 ++ [48 + k]).length ≤ N := fun k => by rw [List.length_append]; show e.2.length + 1 ≤ N; omega
      exact .inr (.inl (part_lt (dg i hi') (dg j hj') (ln i) (ln j) (by omega)))
    · obtain ⟨_, k1, k2, k3⟩ := kid_ok oke hN hy
      rcases d1 x hx with z | z | z
      · exact .inl fun q => z (by rw [q, k1])
      · exact .inr (.inr (by omega))
      · exact .inr (.inl (by omega))
  · have z := h2.tt r hr
    rw [tot_app, kids_tot hN]
    have z : (if e.1 = r then b ^ (N - e.2.length) else 0) + tot b N r (A ++ B) = b ^ N := z
    omega
theorem chain_of_pairs {b N : Nat} : ∀ {L : List Pf}, L.Pairwise (Ord b N) → chainO b N L
  | [], _ => trivial
  | x :: L, h => (chain_of_pairs (List.pairwise_cons.mp h).2).mk (List.pairwise_cons.mp h).1
theorem Leaf.cov {b N R : Nat} (b0 : 0 < b) {L : List Pf} (h : Leaf b N R L) (s : SrtP L) : covT b N R 0 0 L = true := by
  refine (cov_iff b0 h.ok).mpr ⟨chain_of_pairs ?_, h.tt⟩
  have s' : L.Pairwise fun x y => VG.lexS (kP y) (kP x) = false := List.pairwise_map.mp s
  refine List.Pairwise.imp_of_mem (fun {x y} hx hy z => ?_) (List.pairwise_and_iff.mpr ⟨s', h.dj⟩)
  have no := VG.lexS_no.mp z.1
  have ox := h.ok x hx
  have oy := h.ok y hy
  have c0 : ¬ y.1 < x.1 := fun q => no (.inl (by show (y.1 : Int) < x.1; omega))
  rcases Nat.lt_or_ge x.1 y.1 with c | c
  · exact .inl c
  · have e : x.1 = y.1 := by omega
    refine .inr ⟨e, ?_⟩
    rcases z.2 with q | q | q
    · exact absurd e q
    · exact q
    · have bf := (before_iff b0 oy.dg ox.dg oy.le ox.le).mpr q
      exact absurd (.inr ⟨by show (y.1 : Int) = x.1; omega, by show (S y.2).cps.toList < (S x.2).cps.toList; simpa using bf.1⟩) no
end Vf


set_option Elab.async false
set_option maxRecDepth 100000
set_option maxHeartbeats 8000000
set_option exponentiation.threshold 3000
/-! A code drawn. -/
namespace Vf
open PySem L2 SX
/-- a row in a list -/
structure RowL (H : Hp) (D : Addr) (L : Pr) : Prop where
  at_ : H D = some (.lst (prefs L))
  good : ∀ e ∈ L, H e.1 = some (pfO e.2)
theorem RowL.add {Hy : Hp} {D t : Addr} {L : Pr} {e : Pf} (r : RowL Hy D L) (nt : Hy t = none) : RowL (upd (upd Hy t (pfO e)) D (.lst (prefs L ++ [.ref t]))) D (L ++ [(t, e)]) := by
  have nD : D ≠ t := ne_of_none r.at_ nt
  refine ⟨?_, fun z hz => ?_⟩
  · rw [upd_same]
    show some (HO.lst (prefs L ++ [V.ref t])) = some (HO.lst (prefs (L ++ [(t, e)])))
    rw [show prefs (L ++ [(t, e)]) = prefs L ++ [V.ref t] from List.map_append]
  · rcases List.mem_append.mp hz with y | y
    · have g := r.good z y
      rw [upd_ne (fun w => by rw [w, r.at_] at g; cases g), upd_ne (ne_of_none g nt)]
      exact g
    · rw [List.mem_singleton.mp y, upd_ne nD.symm, upd_same]
def spLCode : Sp := fun vs H Q _ => ∃ (a : Addr) (d : Int × Int × Int) (b R inner : Nat), vs = [.ref a, .int (b : Int), .int (R : Int), .int (inner : Int)] ∧ H a = some (.lst (dieL d)) ∧ DieOk d ∧ d.2.2 ≤ 980000000 ∧ 2 ≤ b ∧ b ≤ 5 ∧ 1 ≤ R ∧ R ≤ 100 ∧ inner ≤ 100 ∧
  ∀ (L : Pr) (p : Addr) (d' : Int × Int × Int) (H' : Hp), Leaf b inner R (pfs L) → SrtP (pfs L) → L.length = R + (b - 1) * inner → DieOk d' → d'.2.2 ≤ d.2.2 + 1 + 2 * (inner : Int) → Kp a H H' → H' a = some (.lst (dieL d')) → Row b R inner H' p L → Fz H' p (prefs L) → p ≠ a → Q (.ref p) H'
section
variable {P : Program} {w : World} {K : PySem.W.Frag} {mg : Str → Option Value} {base : Heap}
theorem scLCode : FnScope ["die", "base", "wide", "inner", "found", "way", "turn", "at", "root"] ["die", "base", "wide", "inner"] (defScope sLCode) := ⟨rfl, rfl, rfl, by decide +kernel, rfl, by decide +kernel, by decide +kernel⟩
theorem ok_lcode {f fP fC : Addr} {fd fdP fdC : FuncData} (F : Fun K "_law_code" "_law_code" sLCode f fd) (GP : FnOk P w K mg base CX0 1 fP fdP ["die", "many"] spPull) (cP : Cal K mg "_law_pull" fP fdP ["die", "many"])
    (GC : FnOk P w K mg base CX0 2 fC fdC ["base", "prefix"] spChildren) (cC : Cal K mg "_law_children" fC fdC ["base", "prefix"]) (N : Nm mg) (nr : mg "range" = none) (nn : mg "min" = none) (mso : mg "sorted" = none) :
    FnOk P w K mg base CX0 3 f fd ["die", "base", "wide", "inner"] spLCode := by
  refine F.ok scLCode (fun vs H Q E h => ?_) (fun cdv A outer s H vs Q E hr h => ?_)
  · obtain ⟨a, d, b, R, inner, rfl, _⟩ := h
    rfl
  · obtain ⟨a, d, b, R, inner, rfl, ha, hd, hc, b2, b5, r1, r5, hi, k⟩ := h
    have nd := scLCode.nd
    have hr1 := hr.mono (show 1 ≤ 2 by decide)
    have eem : ("" : Str) = S [] := by decide +kernel
    refine ⟨_, pss_cons (ps_par (i := 4) (j := 5) rfl nd rfl rfl (by decide) rfl rfl (pa_cons (pe_lc (own := [("root", 8)]) (g := gName 8) rfl nd (pi_range1 rfl nr (pa_cons (pv 2) pa_nil))
          (blkOk_by (N := ["die", "base", "wide", "inner", "found", "way", "turn", "at", "root"]) (sc := defScope sLCode) (by decide +kernel)) (fun _ _ _ _ _ => pg_name (i := 8) nd rfl (Or.inl rfl))
          (fun _ _ _ _ _ => pts_nil) (fun _ _ _ _ _ => pe_tup (pa_cons (pv 8) (pa_cons pe_str pa_nil)))) (pa_cons (pe_call GP hr1 rfl cP.mg cP.kp cP.b .nil pass0 (pa_cons (pv 0) (pa_cons pe_int pa_nil))) pa_nil)) rfl)
      (pss_cons (ps_for PassesOwn.never rfl (pi_range1 rfl nr (pa_cons (pv 3) pa_nil)) (pg_name (i := 6) nd rfl (.inl rfl))
        (pss_cons (ps_set (i := 7) nd rfl (.inl rfl) (pe_ix ix_list (pe_lst (pa_cons (pe_call GP hr1 rfl cP.mg cP.kp cP.b .nil pass0 (pa_cons (pv 0) (pa_cons (pe_callB call_len_seq (by rfl) N.len boot_len (pa_cons (pv 4) pa_nil)) pa_nil)))
            (pa_cons (pe_op op_sub (pe_callB call_len_seq (by rfl) N.len boot_len (pa_cons (pv 4) pa_nil)) pe_int)
            (pa_cons (pe_op op_sub (pe_op op_sub (pe_callB call_len_seq (by rfl) N.len boot_len (pa_cons (pv 4) pa_nil)) pe_int) (pe_call GP hr1 rfl cP.mg cP.kp cP.b .nil pass0 (pa_cons (pv 0) (pa_cons (pe_callB (call_min2 rfl) (by rfl) nn PyProof.Rows.boot_min (pa_cons (pv 1) (pa_cons (pe_callB call_len_seq (by rfl) N.len boot_len (pa_cons (pv 4) pa_nil)) pa_nil))) pa_nil)))) pa_nil)))) (pv 5) (fun _ _ => rfl)))
        (pss_one (ps_set (i := 4) nd rfl (.inl rfl) (pe_op op_cat (pe_op op_cat (pe_slice sl_list (pv 4) po_none (po_some (pv 7))) (pe_slice sl_list (pv 4) (po_some (pe_op op_add (pv 7) pe_int)) po_none))
            (pe_call GC hr rfl cC.mg cC.kp cC.b .nil pass0 (pa_cons (pv 1) (pa_cons (pe_ix ix_list (pv 4) (pv 7) (fun _ _ => rfl)) pa_nil))))))))
      (pss_one (ps_ret (pe_callTy call_tupleF (by rfl) N.tuple PyProof.Rows.boot_tuple (pa_cons (pe_callB VG.cr_sortedIS (by rfl) mso PyProof.Rows.boot_sorted (pa_cons (pv 4) pa_nil)) pa_nil))))), ?_⟩
    refine ⟨_, rfl, _, rfl, by omega, by omega, fun D hD => ?_⟩
    refine lc_range (n := R) (fun i Hy => ∃ L : Pr, pfs L = (List.range i).map (fun r => (r, [])) ∧ RowL Hy D L ∧ ∀ c o, H c = some o → Hy c = some o) ?_ ?_ ?_
    · exact ⟨[], rfl, ⟨upd_same, fun e he => (by cases he)⟩, fun c o e => by rw [upd_ne (ne_of_none e hD)]; exact e⟩
    · rintro i Hy hi ⟨L, e1, ⟨e2, e3⟩, e4⟩
      have lL : L.length = i := by
        have z := congrArg List.length e1
        rw [List.length_map, List.length_map, List.length_range] at z
        exact z
      refine ⟨rfl, ?_⟩
      refine ⟨_, rfl, (by show 2 ≤ sizeLine; decide), fun t nt => ?_⟩
      rw [Int.zero_add, eem]
      refine ⟨_, by rw [upd_ne (ne_of_none e2 nt)]; exact e2, ?_, L ++ [(t, (i, []))], ?_, RowL.add (e := (i, [])) ⟨e2, e3⟩ nt, fun c o ec => ?_⟩
      · rw [List.length_map, lL]
        exact Nat.lt_of_lt_of_le (show i < 6000 by omega) (by decide)
      · rw [show pfs (L ++ [(t, (i, []))]) = pfs L ++ [(i, [])] from List.map_append, e1, List.range_succ, List.map_append]
        rfl
      · rw [upd_ne (ne_of_none ec hD), upd_ne (ne_of_none (e4 _ _ ec) nt)]
        exact e4 _ _ ec
    · rintro Hy ⟨L0, e1, row0, e4⟩
      have ay := e4 _ _ ha
      have nDa : D ≠ a := (ne_of_none ha hD).symm
      refine ⟨_, rfl, a, d, _, rfl, ay, hd, by decide, by decide, by omega, fun way d1 hd1 hc1 w0 w3 => ?_⟩
      have w3 : way < 3 := w3
      have nA : ∀ {J : Hp} {c : Addr} {dd : Int × Int × Int} {x : List V}, J a = some (.lst (dieL dd)) → J c = some (.tup x) → c ≠ a := fun h1 h2 z => by rw [z, h1] at h2; cases h2
      have row1 : RowL (upd Hy a (.lst (dieL d1))) D L0 := ⟨by rw [upd_ne nDa]; exact row0.at_, fun e he => by rw [upd_ne (nA ay (row0.good e he))]; exact row0.good e he⟩
      have lL0 : L0.length = R := by
        have z := congrArg List.length e1
        rw [List.length_map, List.length_map, List.length_range] at z
        exact z
      refine ⟨_, _, rfl, ?_⟩
      refine ⟨_, rfl, _, rfl, by omega, by omega, for_range (n := inner) (fun i σ Hx => ∃ (u6 u7 u8 : Option V) (D' : Addr) (L : Pr) (dx : Int × Int × Int), σ = [some (.ref a), some (.int (b : Int)), some (.int (R : Int)), some (.int (inner : Int)), some (.ref D'), some (.int way), u6, u7, u8] ∧ Kp a H Hx ∧ Hx a = some (.lst (dieL dx)) ∧ DieOk dx ∧ dx.2.2 ≤ d.2.2 + 1 + 2 * (i : Int) ∧
          RowL Hx D' L ∧ D' ≠ a ∧ Leaf b inner R (pfs L) ∧ (∀ e ∈ L, e.2.2.length ≤ i) ∧ L.length = R + (b - 1) * i) ?_ ?_ ?_⟩
      · refine ⟨_, _, _, D, L0, d1, rfl, fun c o n e => by rw [upd_ne n]; exact e4 _ _ e, upd_same, hd1, by omega, row1, nDa, ?_, fun e he => ?_, by rw [lL0]; omega⟩
        · rw [e1]
          exact leaf_root
        · have z : e.2 ∈ pfs L0 := List.mem_map.mpr ⟨e, he, rfl⟩
          rw [e1] at z
          obtain ⟨r, _, z⟩ := List.mem_map.mp z
          rw [← z]
          exact Nat.zero_le _
      · rintro i σ Hx hi' ⟨u6, u7, u8, D', L, dx, rfl, kx, ax, hdx, hcx, row, nD', leaf, shrt, lL⟩
        have hi' : i < inner := hi'
        have big : (b - 1) * i ≤ 400 := Nat.le_trans (Nat.mul_le_mul (show b - 1 ≤ 4 by omega) (show i ≤ 100 by omega)) (by decide)
        have lR : (prefs L).length = L.length := List.length_map ..
        have sq := SqL.of (K := K) row.at_
        refine ⟨_, rfl, _, rfl, D', _, rfl, .inl sq, a, dx, _, rfl, ax, hdx, ?_, ?_, by omega, fun y0 d2 hd2 hc2 y00 y01 => ?_⟩
        · rw [lR]; omega
        · rw [lR]; omega
        rw [lR] at y01
        have y01 : y0 < (L.length : Int) := y01
        have k2 : Kp a H (upd Hx a (.lst (dieL d2))) := kx.trans Kp.upd
        have a2 : upd Hx a (.lst (dieL d2)) a = some (.lst (dieL d2)) := upd_same
        have row2 : RowL (upd Hx a (.lst (dieL d2))) D' L := ⟨by rw [upd_ne nD']; exact row.at_, fun e he => by rw [upd_ne (nA ax (row.good e he))]; exact row.good e he⟩
        generalize upd Hx a (.lst (dieL d2)) = J2 at k2 a2 row2 ⊢
        have sq2 := SqL.of (K := K) row2.at_
        refine ⟨_, rfl, D', _, rfl, .inl sq2, _, _, rfl, rfl, ?_⟩
        refine ⟨_, rfl, D', _, rfl, .inl sq2, _, _, rfl, rfl, _, rfl, _, rfl, _, rfl, D', _, rfl, .inl sq2, _, _, rfl, a, d2, _, rfl, a2, hd2, ?_, ?_, by omega, fun y1 d3 hd3 hc3 y10 y11 => ?_⟩
        · rw [lR]
          show 1 ≤ (if ((L.length : Nat) : Int) < (b : Int) then ((L.length : Nat) : Int) else (b : Int))
          split <;> omega
        · rw [lR]
          show (if ((L.length : Nat) : Int) < (b : Int) then ((L.length : Nat) : Int) else (b : Int)) ≤ 5000
          split <;> omega
        rw [lR] at y11
        have y11 : y1 < (if ((L.length : Nat) : Int) < (b : Int) then ((L.length : Nat) : Int) else (b : Int)) := y11
        have y12 : y1 < (L.length : Int) := by
          revert y11
          split <;> omega
        have k3 : Kp a H (upd J2 a (.lst (dieL d3))) := k2.trans Kp.upd
        have a3 : upd J2 a (.lst (dieL d3)) a = some (.lst (dieL d3)) := upd_same
        have row3 : RowL (upd J2 a (.lst (dieL d3))) D' L := ⟨by rw [upd_ne nD']; exact row2.at_, fun e he => by rw [upd_ne (nA a2 (row2.good e he))]; exact row2.good e he⟩
        generalize upd J2 a (.lst (dieL d3)) = J3 at k3 a3 row3 ⊢
        rw [lR]
        refine ⟨_, _, rfl, rfl, (by show 3 ≤ sizeLine; decide), fun l nl => ?_⟩
        obtain ⟨x, hx, x0, x1⟩ : ∃ x : Int, atI [V.int y0, .int ((L.length : Int) - 1), .int ((L.length : Int) - 1 - y1)] way = some (.int x) ∧ 0 ≤ x ∧ x < (L.length : Int) := by
          obtain rfl | rfl | rfl : way = 0 ∨ way = 1 ∨ way = 2 := by omega
          · exact ⟨_, rfl, y00, y01⟩
          · exact ⟨_, rfl, by omega, by omega⟩
          · exact ⟨_, rfl, by omega, by omega⟩
        have s4 : Same J3 (upd J3 l (.lst [.int y0, .int ((L.length : Int) - 1), .int ((L.length : Int) - 1 - y1)])) := same_new' nl
        have g4 : upd J3 l (.lst [.int y0, .int ((L.length : Int) - 1), .int ((L.length : Int) - 1 - y1)]) l = some (.lst [.int y0, .int ((L.length : Int) - 1), .int ((L.length : Int) - 1 - y1)]) := upd_same
        refine ⟨_, rfl, l, _, way, _, rfl, rfl, SqL.of g4, hx, ?_⟩
        generalize upd J3 l (.lst [.int y0, .int ((L.length : Int) - 1), .int ((L.length : Int) - 1 - y1)]) = J4 at s4 g4 ⊢
        obtain ⟨n, rfl⟩ := Int.eq_ofNat_of_zero_le x0
        have hn : n < L.length := by omega
        have rowS : ∀ {J J' : Hp}, RowL J D' L → Same J J' → RowL J' D' L := fun r s => ⟨s _ _ r.at_, fun e he => s _ _ (r.good e he)⟩
        have row4 := rowS row3 s4
        have a4 := s4 _ _ a3
        have k4 : Kp a H J4 := k3.trans (Kp.same s4)
        clear g4 s4 nl row3 a3 k3 row2 a2 k2 sq2
        refine ⟨_, rfl, _, rfl, _, rfl, D', _, rfl, SqL.of row4.at_, fun p1 n1 => ?_⟩
        rw [VG.cutV_take (by rw [lR]; omega)]
        have s5 : Same J4 (upd J4 p1 (.lst ((prefs L).take n))) := same_new' n1
        have g5 : upd J4 p1 (.lst ((prefs L).take n)) p1 = some (.lst ((prefs L).take n)) := upd_same
        generalize upd J4 p1 (.lst ((prefs L).take n)) = J5 at s5 g5 ⊢
        have row5 := rowS row4 s5
        refine ⟨_, rfl, _, rfl, _, _, rfl, rfl, _, rfl, D', _, rfl, SqL.of row5.at_, fun p2 n2 => ?_⟩
        rw [show ((n : Int) + 1) = ((n + 1 : Nat) : Int) by omega, VG.cutV_drop (by rw [lR]; omega)]
        have s6 : Same J5 (upd J5 p2 (.lst ((prefs L).drop (n + 1)))) := same_new' n2
        have g6 : upd J5 p2 (.lst ((prefs L).drop (n + 1))) p2 = some (.lst ((prefs L).drop (n + 1))) := upd_same
        generalize upd J5 p2 (.lst ((prefs L).drop (n + 1))) = J6 at s6 g6 ⊢
        refine ⟨p1, p2, _, _, rfl, rfl, s6 _ _ g5, g6, ?_, fun p3 n3 => ?_⟩
        · rw [List.length_take, List.length_drop, lR]
          exact Nat.le_trans (show min n L.length + (L.length - (n + 1)) ≤ 6000 by omega) (by decide)
        have s7 : Same J6 (upd J6 p3 (.lst ((prefs L).take n ++ (prefs L).drop (n + 1)))) := same_new' n3
        have g7 : upd J6 p3 (.lst ((prefs L).take n ++ (prefs L).drop (n + 1))) p3 = some (.lst ((prefs L).take n ++ (prefs L).drop (n + 1))) := upd_same
        generalize upd J6 p3 (.lst ((prefs L).take n ++ (prefs L).drop (n + 1))) = J7 at s7 g7 ⊢
        have row7 := rowS row5 fun _ _ e => s7 _ _ (s6 _ _ e)
        have S47 : Same J4 J7 := fun _ _ e => s7 _ _ (s6 _ _ (s5 _ _ e))
        have hLn : L[n]? = some L[n] := List.getElem?_eq_getElem hn
        have hrn : atI (prefs L) ((n : Nat) : Int) = some (.ref (L[n]).1) := atI_nat (by rw [List.getElem?_map, hLn]; rfl)
        have em : L[n] ∈ L := List.getElem_mem hn
        have gn := row7.good _ em
        have ln := shrt _ em
        refine ⟨_, rfl, _, rfl, _, rfl, D', _, _, _, rfl, rfl, SqL.of row7.at_, hrn, b, _, _, rfl, b2, b5, gn, by omega, fun Kd Dk H8 ek sk gk atk nk => ?_⟩
        have lK : Kd.length = b := by
          have z := congrArg List.length ek
          rw [List.length_map] at z
          rw [z]
          unfold kids
          rw [List.length_map, List.length_range]
        refine ⟨p3, Dk, _, _, rfl, rfl, sk _ _ g7, atk, ?_, fun p4 n4 => ?_⟩
        · rw [List.length_append, List.length_take, List.length_drop, lR, List.length_map, lK]
          exact Nat.le_trans (show min n L.length + (L.length - (n + 1)) + b ≤ 6000 by omega) (by decide)
        have eP : (prefs L).take n ++ (prefs L).drop (n + 1) ++ prefs Kd = prefs (L.take n ++ L.drop (n + 1) ++ Kd) := by
          simp only [prefs, List.map_append, List.map_take, List.map_drop]
        rw [eP]
        have s9 : Same H8 (upd H8 p4 (.lst (prefs (L.take n ++ L.drop (n + 1) ++ Kd)))) := same_new' n4
        have g9 : upd H8 p4 (.lst (prefs (L.take n ++ L.drop (n + 1) ++ Kd))) p4 = some (.lst (prefs (L.take n ++ L.drop (n + 1) ++ Kd))) := upd_same
        generalize upd H8 p4 (.lst (prefs (L.take n ++ L.drop (n + 1) ++ Kd))) = J9 at s9 g9 ⊢
        have S49 : Same J4 J9 := fun _ _ e => s9 _ _ (sk _ _ (S47 _ _ e))
        have a9 := S49 _ _ a4
        have split : L = L.take n ++ L[n] :: L.drop (n + 1) := by
          rw [List.getElem_cons_drop, List.take_append_drop]
        refine ⟨_, _, _, p4, _, d3, rfl, k4.trans (Kp.same S49), a9, hd3, by omega, ⟨g9, fun e he => ?_⟩, (ne_of_none (sk _ _ (S47 _ _ a4)) n4).symm, ?_, fun e he => ?_, ?_⟩
        · rcases List.mem_append.mp he with z | z
          · have mL : e ∈ L := by
              rcases List.mem_append.mp z with y | y
              · exact List.mem_of_mem_take y
              · exact List.mem_of_mem_drop y
            exact S49 _ _ (row4.good e mL)
          · exact s9 _ _ (gk e z)
        · have e1 : pfs L = pfs (L.take n) ++ (L[n]).2 :: pfs (L.drop (n + 1)) := by
            conv => lhs; rw [split]
            simp only [pfs, List.map_append, List.map_cons]
          rw [e1] at leaf
          have z := leaf.split (by omega)
          have e2 : pfs (L.take n ++ L.drop (n + 1) ++ Kd) = pfs (L.take n) ++ pfs (L.drop (n + 1)) ++ kids b (L[n]).2 := by
            simp only [pfs, List.map_append]
            rw [← ek]
          rw [e2]
          exact z
        · rcases List.mem_append.mp he with z | z
          · have mL : e ∈ L := by
              rcases List.mem_append.mp z with y | y
              · exact List.mem_of_mem_take y
              · exact List.mem_of_mem_drop y
            have := shrt e mL
            omega
          · have mk : e.2 ∈ kids b (L[n]).2 := by
              rw [← ek]
              exact List.mem_map.mpr ⟨e, z, rfl⟩
            obtain ⟨j, _, q⟩ := kid_mem mk
            rw [q, List.length_append]
            show (L[n]).2.2.length + 1 ≤ i + 1
            omega
        · rw [List.length_append, List.length_append, List.length_take, List.length_drop, lK, Nat.mul_succ]
          omega
      · rintro σ Hx ⟨u6, u7, u8, D', L, dx, rfl, kx, ax, hdx, hcx, row, nD', leaf, shrt, lL⟩
        have big : (b - 1) * inner ≤ 400 := Nat.le_trans (Nat.mul_le_mul (show b - 1 ≤ 4 by omega) (show inner ≤ 100 by omega)) (by decide)
        refine ⟨_, rfl, D', prefs L, keyAt Hx, rfl, SqL.of row.at_, fun x hx => ?_, fun ys l hs hb nl => ?_⟩
        · obtain ⟨e, he, rfl⟩ := List.mem_map.mp hx
          have g := row.good e he
          refine ⟨e.1, rfl, ?_⟩
          rw [keyAt_of g]
          exact g
        · obtain ⟨L', pm, ey⟩ := perm_lift (fun e : Addr × Pf => V.ref e.1) L hb.perm
          subst ey
          have s1 : Same Hx (upd Hx l (.lst (prefs L'))) := same_new' nl
          have g1 : upd Hx l (.lst (prefs L')) l = some (.lst (prefs L')) := upd_same
          generalize upd Hx l (.lst (prefs L')) = H1 at s1 g1 ⊢
          refine ⟨l, _, rfl, SqL.of g1, fun p H2 s2 f2 np => ?_⟩
          have S12 : Same Hx H2 := fun _ _ e => s2 _ _ (s1 _ _ e)
          have srt : SrtP (pfs L') := by
            have z := srtd_of_map hs
            have e : (prefs L').map (keyAt Hx) = (pfs L').map kP := by
              rw [List.map_map, List.map_map]
              refine List.map_congr_left fun e he => ?_
              exact keyAt_of (row.good e (pm.mem_iff.mp he))
            rw [e] at z
            exact z
          have leaf' : Leaf b inner R (pfs L') := leaf.perm (pm.symm.map _)
          have a2 := S12 _ _ ax
          refine k L' p dx H2 leaf' srt (by rw [pm.length_eq, lL]) hdx (by omega) (kx.trans (Kp.same S12)) a2 ⟨f2.rd, fun e he => ?_, by rw [pm.length_eq, lL]; omega, fun e he => ?_⟩ f2 (fun z => by obtain ⟨o, q, _⟩ := f2; rw [z, a2] at q; cases q)
          · have ok := leaf'.ok e.2 (List.mem_map.mpr ⟨e, he, rfl⟩)
            exact ⟨S12 _ _ (row.good e (pm.mem_iff.mp he)), ok.dg, ok.le⟩
          · exact (leaf'.ok e.2 (List.mem_map.mpr ⟨e, he, rfl⟩)).r
end
end Vf


set_option Elab.async false
set_option maxRecDepth 100000
set_option maxHeartbeats 4000000
/-! Sets of tuples of numbers and texts: what the model asks of one such tuple. -/
namespace Sq
open PySem PySem.Spec PyProof.Rows L2
def Leaf1 (v : Value) : Prop := (∃ i t, v = Value.int i t) ∨ ∃ x t, v = Value.str x t
abbrev IsM (P : Program) (w : World) (h : Heap) (k : List Key) (c : Addr) : Prop := IsTupleKey (mixKind P w) h k c
abbrev kh (P : Program) (w : World) (k : List Key) : Int := tupleKeyHash (mixKind P w) k
section
variable {P : Program} {w : World} {A : Around} {E : Value → Shared → Prop} {s : Shared} {k : List Key} {c : Addr}
theorem leaves {vs : List Value} (h : PySem.ItemsAre (mixKind P w) k vs) : ∀ v ∈ vs, Leaf1 v := by
  induction h with
  | nil => exact fun v hv => nomatch hv
  | cons q _ ih =>
    refine List.forall_mem_cons.mpr ⟨?_, ih⟩
    rcases keyIs_shape q with ⟨i, t, _, e⟩ | ⟨x, t, _, e⟩
    · exact .inl ⟨i, t, e⟩
    · exact .inr ⟨x, t, e⟩
theorem leaf_class (n : Nat) {v : Value} (h : Leaf1 v) : ofAClassStatement n v = pure false := by
  rcases h with ⟨i, t, rfl⟩ | ⟨x, t, rfl⟩ <;> cases n <;> rfl
/-- a loop over a tuple's items that none of them ends -/
theorem all_pass {β : Type} {f : Value → β → Sem (ForInStep β)} {r0 : β} {Q : β → Shared → Prop}
    (turn : ∀ v, Leaf1 v → ∀ (q : Shared) (Q' : ForInStep β → Shared → Prop), Q' (.yield r0) q → wpAny (model P w) A (f v r0) Q' E q) (fin : Q r0 s) (vs : Array Value) (hv : ∀ v ∈ vs.toList, Leaf1 v) :
    wpAny (model P w) A (forIn vs r0 f) Q E s := by
  rw [← Array.forIn_toList]
  refine wpAny_forIn_list f (fun left r q => (r = r0 ∧ q = s) ∧ ∀ v ∈ left, Leaf1 v) Q (fun v left r q z => ?_) (fun r q z => ?_) _ _ ⟨⟨rfl, rfl⟩, hv⟩
  · obtain ⟨⟨e1, e2⟩, l⟩ := z
    rw [e1, e2]
    exact turn v (l v (.head _)) s _ ⟨⟨rfl, rfl⟩, fun u hu => l u (.tail _ hu)⟩
  · rw [z.1.1, z.1.2]
    exact fin
theorem class_ask {Q : Bool → Shared → Prop} (hk : IsM P w s.heap k c) (h : Q false s) : wpAny (model P w) A (ofAClassStatement 8 (.ref c)) Q E s := by
  have ty := hk.typeIs
  obtain ⟨ob, its, n, g1, _, g2, g3⟩ := hk
  have lv := leaves g3
  unfold ofAClassStatement
  refine wpAny_bind (wpAny_typeOf ty ?_)
  dsimp only
  rw [show (("tuple" : String) == "tuple") = true from by decide]
  refine wp_if_pos rfl ?_
  refine wpAny_bind (wpAny_pure ?_)
  refine wp_if_neg (by decide) ?_
  refine wpAny_bind (wpAny_seqItems g1 g2 ?_)
  dsimp only
  refine wpAny_bind (all_pass (fun v l q Q' z => ?_) ?_ its lv)
  · rw [leaf_class _ l]
    exact wpAny_bind (wpAny_pure (wp_if_neg (by decide) (wpAny_pure z)))
  · exact wpAny_pure h
theorem hash_ask {Q : Bool → Shared → Prop} (hk : IsM P w s.heap k c) (h : ∀ b, Q b s) : wpAny (model P w) A (hashByValue 8 (.ref c)) Q E s := by
  have ty := hk.typeIs
  obtain ⟨ob, its, n, g1, _, g2, g3⟩ := hk
  have lv := leaves g3
  unfold hashByValue
  refine wpAny_bind (wpAny_specialOf ty F.slot_tuple_hash.lookup ?_)
  dsimp only
  refine wpAny_bind (wpAny_seqItems g1 g2 ?_)
  dsimp only [Option.getD]
  refine wpAny_bind ?_
  rw [← Array.forIn_toList]
  refine wpAny_forIn_list _ (fun left r q => (r = (none, PUnit.unit) ∧ q = s) ∧ ∀ v ∈ left, Leaf1 v) _ (fun v left r q z => ?_) (fun r q z => ?_) _ _ ⟨⟨rfl, rfl⟩, lv⟩
  · obtain ⟨⟨_, e2⟩, l⟩ := z
    subst e2
    rcases l v (.head _) with ⟨i, t, rfl⟩ | ⟨x, t, rfl⟩
    · exact wpAny_bind (wpAny_pure (wp_if_neg (by decide) (wpAny_pure ⟨⟨rfl, rfl⟩, fun u hu => l u (.tail _ hu)⟩)))
    · exact wpAny_bind (wpAny_pure (wp_if_pos (by decide) (wpAny_pure (wpAny_pure (h false)))))
  · rw [z.1.1, z.1.2]
    exact wpAny_pure (h true)
/-- a search among such tuples shows nothing -/
theorem shows_nothing {Q : Bool → Shared → Prop} (hk : IsM P w s.heap k c) {ys : List Value} (hy : ∀ y ∈ ys, ∃ k' d, y = Value.ref d ∧ IsM P w s.heap k' d) (h : Q false s) : wpAny (model P w) A (searchCouldBeSeen (.ref c) ys) Q E s := by
  unfold searchCouldBeSeen
  refine wpAny_bind (wpAny_forIn_list _ (fun left r q => (r = (none, PUnit.unit) ∧ q = s) ∧ ∀ y ∈ left, ∃ k' d, y = Value.ref d ∧ IsM P w s.heap k' d) _ (fun v left r q z => ?_) (fun r q z => ?_) _ _ ⟨⟨rfl, rfl⟩, hy⟩)
  · obtain ⟨⟨_, e2⟩, l⟩ := z
    subst e2
    obtain ⟨k', d, rfl, hd⟩ := l v (.head _)
    have fin := (⟨⟨rfl, rfl⟩, fun u hu => l u (.tail _ hu)⟩ : ((((none, PUnit.unit) : Option Bool × PUnit) = (none, PUnit.unit)) ∧ q = q) ∧ (∀ y ∈ left, ∃ k' d, y = Value.ref d ∧ IsM P w q.heap k' d))
    dsimp only
    by_cases same : (c == d || (carriedByValue (.ref c) && carriedByValue (.ref d))) = true
    · exact wp_if_pos same (wpAny_pure (fin))
    refine wp_if_neg same (wpAny_bind (wpAny_eqIsQuiet_tuple hk (wp_if_neg (by decide) (wpAny_bind (wpAny_eqIsQuiet_tuple hd (wp_if_neg (by decide) ?_))))))
    exact wpAny_bind (class_ask hk (wp_if_neg (by decide) (wpAny_bind (class_ask hd (wp_if_neg (by decide) (wpAny_pure (fin)))))))
  · rw [z.1.1, z.1.2]
    exact wpAny_pure h
end
end Sq


set_option Elab.async false
set_option maxRecDepth 100000
set_option maxHeartbeats 4000000
/-! The walk i to 5 i + 1 meets each slot of a table whose size is a power of two. -/
namespace Sq
/-- the walk from 0, not cut -/
def fiv : Nat → Nat
  | 0 => 0
  | k + 1 => 5 * fiv k + 1
theorem fiv_add (k : Nat) : ∀ n, fiv (k + n) = fiv k * 5 ^ n + fiv n
  | 0 => by show fiv k = fiv k * 5 ^ 0 + 0; rw [Nat.pow_zero]; omega
  | n + 1 => by
    show 5 * fiv (k + n) + 1 = fiv k * 5 ^ (n + 1) + (5 * fiv n + 1)
    rw [fiv_add k n, Nat.pow_succ, Nat.mul_add, ← Nat.mul_assoc (fiv k), Nat.mul_comm 5 (fiv k * 5 ^ n)]
    omega
theorem pow5_mod (n : Nat) : 5 ^ n % 4 = 1 := by
  induction n with
  | zero => rfl
  | succ n ih =>
    rw [Nat.pow_succ, Nat.mul_mod, ih]
/-- after 2^j steps it stands at 2^j times something odd -/
theorem fiv_round : ∀ j, ∃ q, fiv (2 ^ j) = 2 ^ j * (2 * q + 1)
  | 0 => ⟨0, rfl⟩
  | j + 1 => by
    obtain ⟨q, e⟩ := fiv_round j
    have h := fiv_add (2 ^ j) (2 ^ j)
    rw [← Nat.two_mul, ← Nat.pow_succ'] at h
    obtain ⟨r, hr⟩ : ∃ r, 5 ^ (2 ^ j) = 4 * r + 1 := ⟨5 ^ (2 ^ j) / 4, by have := pow5_mod (2 ^ j); omega⟩
    refine ⟨(2 * r + 1) * q + r, ?_⟩
    have e2 : fiv (2 ^ (j + 1)) = fiv (2 ^ j) * (2 * (2 * r + 1)) := by
      rw [h, hr, Nat.mul_add, Nat.mul_one]
      have : fiv (2 ^ j) * (2 * (2 * r + 1)) = fiv (2 ^ j) * (4 * r) + fiv (2 ^ j) * 2 := by
        rw [← Nat.mul_add]
        congr 1
        omega
      omega
    rw [e2, e, Nat.pow_succ, Nat.mul_assoc, Nat.mul_assoc]
    congr 1
    have : (2 * q + 1) * (2 * (2 * r + 1)) = 2 * (2 * ((2 * r + 1) * q + r) + 1) := by
      have h1 : (2 * q + 1) * (2 * (2 * r + 1)) = 2 * ((2 * q + 1) * (2 * r + 1)) := by
        rw [← Nat.mul_assoc, Nat.mul_comm (2 * q + 1) 2, Nat.mul_assoc]
      rw [h1]
      congr 1
      rw [Nat.add_mul, Nat.one_mul, Nat.mul_assoc, Nat.mul_comm q, Nat.mul_add]
      omega
    exact this
theorem fiv_shift (j k : Nat) : ∃ q, fiv (k + 2 ^ j) = fiv k + 2 ^ j * (2 * q + 1) := by
  obtain ⟨q, e⟩ := fiv_round j
  -- from k: fiv (2^j + k) = fiv (2^j) * 5^k + fiv k
  have h := fiv_add (2 ^ j) k
  obtain ⟨r, hr⟩ : ∃ r, 5 ^ k = 2 * r + 1 := ⟨5 ^ k / 2, by have := pow5_mod k; omega⟩
  refine ⟨(2 * q + 1) * r + q, ?_⟩
  rw [Nat.add_comm k, h, e, hr, Nat.mul_assoc]
  have : (2 * q + 1) * (2 * r + 1) = 2 * ((2 * q + 1) * r + q) + 1 := by
    rw [Nat.mul_add, Nat.mul_one, ← Nat.mul_assoc, Nat.mul_comm (2 * q + 1) 2, Nat.mul_assoc]
    omega
  rw [this, Nat.add_comm]
theorem par {u v : Nat} (h : v < 2) (c : ¬ u % 2 = v) : u + 1 = 2 * (u / 2 + u % 2) + v := by omega
theorem fiv_all : ∀ (j t : Nat), t < 2 ^ j → ∃ k, k < 2 ^ j ∧ fiv k % 2 ^ j = t
  | 0, t, h => ⟨0, by decide, by have h : t < 1 := h; show fiv 0 % 1 = t; rw [Nat.mod_one]; omega⟩
  | j + 1, t, h => by
    have p0 : 0 < 2 ^ j := Nat.pow_pos (by decide)
    have hp : 2 ^ (j + 1) = 2 * 2 ^ j := by rw [Nat.pow_succ, Nat.mul_comm]
    obtain ⟨k, hk, ek⟩ := fiv_all j (t % 2 ^ j) (Nat.mod_lt _ p0)
    obtain ⟨q, eq⟩ := fiv_shift j k
    have d1 := Nat.div_add_mod (fiv k) (2 ^ j)
    have d2 := Nat.div_add_mod t (2 ^ j)
    have t2 : t / 2 ^ j < 2 := Nat.div_lt_of_lt_mul (by rw [Nat.mul_comm, ← hp]; exact h)
    rw [ek] at d1
    -- fiv k = 2^j * u + (t mod 2^j)
    by_cases c : fiv k / 2 ^ j % 2 = t / 2 ^ j
    · refine ⟨k, by omega, ?_⟩
      rw [← d1, hp]
      have du := Nat.div_add_mod (fiv k / 2 ^ j) 2
      rw [c] at du
      have e2 : 2 ^ j * (fiv k / 2 ^ j) + t % 2 ^ j = t + 2 * 2 ^ j * (fiv k / 2 ^ j / 2) := by
        conv => lhs; rw [← du]
        rw [Nat.mul_add, Nat.mul_left_comm, ← Nat.mul_assoc]
        generalize 2 * 2 ^ j * (fiv k / 2 ^ j / 2) = x
        generalize 2 ^ j * (t / 2 ^ j) = z at d2 ⊢
        generalize t % 2 ^ j = r at d2 ⊢
        omega
      rw [e2, Nat.add_mul_mod_self_left, Nat.mod_eq_of_lt (by rw [← hp]; exact h)]
    · refine ⟨k + 2 ^ j, by omega, ?_⟩
      rw [eq, ← d1, hp]
      have du := Nat.div_add_mod (fiv k / 2 ^ j) 2
      have m2 : fiv k / 2 ^ j % 2 < 2 := Nat.mod_lt _ (by decide)
      have e3 : fiv k / 2 ^ j + 1 = 2 * (fiv k / 2 ^ j / 2 + fiv k / 2 ^ j % 2) + t / 2 ^ j := par t2 c
      have e2 : 2 ^ j * (fiv k / 2 ^ j) + t % 2 ^ j + 2 ^ j * (2 * q + 1) = t + 2 * 2 ^ j * (fiv k / 2 ^ j / 2 + fiv k / 2 ^ j % 2 + q) := by
        have s1 : 2 ^ j * (fiv k / 2 ^ j) + 2 ^ j * (2 * q + 1) = 2 ^ j * (fiv k / 2 ^ j + 1) + 2 ^ j * (2 * q) := by
          rw [← Nat.mul_add, ← Nat.mul_add]
          congr 1
          omega
        have s2 : 2 ^ j * (fiv k / 2 ^ j + 1) = 2 * 2 ^ j * (fiv k / 2 ^ j / 2 + fiv k / 2 ^ j % 2) + 2 ^ j * (t / 2 ^ j) := by
          rw [e3, Nat.mul_add, Nat.mul_left_comm, ← Nat.mul_assoc]
        have s3 : 2 ^ j * (2 * q) = 2 * 2 ^ j * q := by
          rw [Nat.mul_left_comm, ← Nat.mul_assoc]
        rw [Nat.add_right_comm, s1, s2, s3, Nat.mul_add (2 * 2 ^ j) _ q]
        generalize 2 * 2 ^ j * (fiv k / 2 ^ j / 2 + fiv k / 2 ^ j % 2) = x
        generalize 2 * 2 ^ j * q = y
        generalize 2 ^ j * (t / 2 ^ j) = z at d2 ⊢
        generalize t % 2 ^ j = r at d2 ⊢
        omega
      rw [e2, Nat.add_mul_mod_self_left, Nat.mod_eq_of_lt (by rw [← hp]; exact h)]
end Sq


set_option Elab.async false
set_option maxRecDepth 100000
set_option maxHeartbeats 4000000
/-! Tables of any size that is a power of two: each slot is met. -/
namespace Sq
open PySem PySem.Spec PyProof.Rows L2
/-- the masks of all tables -/
def MaskA (m : Nat) : Prop := ∃ e, 3 ≤ e ∧ m + 1 = 2 ^ e
theorem MaskA.odd {m : Nat} (h : MaskA m) : m % 2 = 1 := by
  obtain ⟨e, h3, he⟩ := h
  obtain ⟨k, rfl⟩ : ∃ k, e = k + 1 := ⟨e - 1, by omega⟩
  rw [Nat.pow_succ] at he
  omega
theorem lcg_fiv (m a : Nat) : ∀ k, lcgI m (fiv a % (m + 1)) k = fiv (a + k) % (m + 1)
  | 0 => rfl
  | k + 1 => by
    show (lcgI m (fiv a % (m + 1)) k * 5 + 1) % (m + 1) = (5 * fiv (a + k) + 1) % (m + 1)
    rw [lcg_fiv m a k, Nat.mul_comm, Nat.add_mod, Nat.mul_mod, Nat.mod_mod, ← Nat.mul_mod, ← Nat.add_mod]
theorem lcg_any {m : Nat} (hm : MaskA m) {i j : Nat} (hi : i ≤ m) (hj : j ≤ m) : ∃ k, k ≤ m ∧ lcgI m i k = j := by
  obtain ⟨e, _, he⟩ := hm
  obtain ⟨a, ha, ea⟩ := fiv_all e i (by omega)
  obtain ⟨b, hb, eb⟩ := fiv_all e j (by omega)
  rw [← he] at ea eb
  rw [← ea]
  rcases Nat.lt_or_ge b a with c | c
  · refine ⟨b + (m + 1) - a, by omega, ?_⟩
    rw [lcg_fiv, show a + (b + (m + 1) - a) = b + (m + 1) by omega]
    obtain ⟨q, eq⟩ := fiv_shift e b
    rw [he, eq, Nat.add_mul_mod_self_left, ← he]
    exact eb
  · refine ⟨b - a, by omega, ?_⟩
    rw [lcg_fiv, show a + (b - a) = b by omega]
    exact eb
theorem run_any {m : Nat} (hm : MaskA m) (h : Int) {j : Nat} (hj : j ≤ m) : ∃ n, n ≤ m + 12 ∧ runI m (SetTable.bits h) n = j := by
  obtain ⟨k, hk, e⟩ := lcg_any hm (runI_le m (SetTable.bits h) 12) hj
  exact ⟨12 + k, by omega, by rw [runI_tail (bits_lt h)]; exact e⟩
theorem nth_any {m : Nat} (hm : MaskA m) (h : Int) {j : Nat} (hj : j ≤ m) : ∃ k, k < 10 * SetTable.turns m ∧ way m h k = j := by
  obtain ⟨n, hn, e⟩ := run_any hm h hj
  obtain ⟨k, hk, e2⟩ := run_nth m (SetTable.bits h) n
  refine ⟨k, by unfold SetTable.turns; omega, ?_⟩
  show (nth m (runAt m (SetTable.bits h % (m + 1)) (SetTable.bits h)) k).j = j
  rw [e2]
  exact e
/-- a table that holds the hashes hs, of any size -/
structure TabA (t : SetTable) (hs : List Int) : Prop where
  ris : Ris t.place.toList
  dm : t.dummies = #[]
  sz : t.place.size = hs.length
  mok : MaskA t.mask
  bd : ∀ x ∈ t.place.toList, x ≤ t.mask
  reach : ∀ (i : Nat) (h : Int) (j : Nat), hs[i]? = some h → t.place.toList[i]? = some j → ∃ k, way t.mask h k = j ∧ ∀ k', k' < k → way t.mask h k' ∈ t.place.toList
theorem TabA.free {t : SetTable} {hs : List Int} (T : TabA t hs) (hl : hs.length ≤ t.mask) (h : Int) : ∃ K, K < 10 * SetTable.turns t.mask ∧ way t.mask h K ∉ t.place.toList ∧ ∀ k, k < K → way t.mask h k ∈ t.place.toList := by
  obtain ⟨j, hj, hn⟩ := st_missing t.place.toList (t.mask + 1) (by rw [Array.length_toList, T.sz]; omega)
  obtain ⟨k, hk, e⟩ := nth_any T.mok h (Nat.le_of_lt_succ hj)
  obtain ⟨K, h1, h2, h3⟩ := st_least (p := fun k => way t.mask h k ∉ t.place.toList) k (by show way t.mask h k ∉ _; rw [e]; exact hn)
  exact ⟨K, Nat.lt_of_le_of_lt h1 hk, h2, fun k' hk' => Classical.byContradiction fun c => h3 k' hk' c⟩
theorem TabA.ahead {t : SetTable} {hs : List Int} (T : TabA t hs) {h : Int} {K i j : Nat} (hK : way t.mask h K ∉ t.place.toList) (hi : hs[i]? = some h) (hj : t.place.toList[i]? = some j) : ∃ k, k < K ∧ way t.mask h k = j := by
  obtain ⟨k, e, hb⟩ := T.reach i h j hi hj
  refine ⟨k, Nat.lt_of_not_le fun c => ?_, e⟩
  rcases Nat.lt_or_eq_of_le c with c | c
  · exact hK (hb K c)
  · rw [c, e] at hK
    exact hK (List.mem_of_getElem? hj)
end Sq


set_option Elab.async false
set_option maxRecDepth 100000
set_option maxHeartbeats 4000000
/-! A table of any size is laid anew. -/
namespace Sq
open PySem PySem.Spec PyProof.Rows L2
theorem way_in (m : Nat) (h : Int) (k : Nat) : way m h k ≤ m := by
  have b : SetTable.bits h % (m + 1) ≤ m := Nat.le_of_lt_succ (Nat.mod_lt _ (Nat.succ_pos _))
  have r := runEnd_bd b
  have z := nth_in (m := m) k (runAt m (SetTable.bits h % (m + 1)) (SetTable.bits h)) (by
    show SetTable.bits h % (m + 1) + (SetTable.runEnd m (SetTable.bits h % (m + 1)) - SetTable.bits h % (m + 1)) ≤ m
    omega)
  exact Nat.le_trans (Nat.le_add_right _ _) z
section
variable {m : Nat} {owner : Array (Option Nat)} {done : List Int}
theorem free_any (hm : MaskA m) (h : Int) {j : Nat} (hj : j ≤ m) (hf : oAt owner j = none) :
    ∃ K, SetTable.layClean.free m owner (SetTable.turns m) (SetTable.bits h % (m + 1)) (SetTable.bits h) = some (way m h K) ∧ oAt owner (way m h K) = none ∧ ∀ k, k < K → oAt owner (way m h k) ≠ none := by
  obtain ⟨n, hn, e⟩ := run_any hm h hj
  generalize hO : off m (SetTable.bits h % (m + 1)) (SetTable.bits h) n = o
  have at_o : way m h o = j := by
    rw [← hO]
    show (nth m (runAt m (SetTable.bits h % (m + 1)) (SetTable.bits h)) (off m (SetTable.bits h % (m + 1)) (SetTable.bits h) n)).j = j
    rw [nth_off, itL_run]
    exact e
  obtain ⟨K, k1, k2, k3⟩ := st_least (p := fun k => oAt owner (way m h k) = none) o (by rw [at_o]; exact hf)
  refine ⟨K, free_spec m owner (SetTable.turns m) n _ _ K (by unfold SetTable.turns; omega) (by rw [hO]; exact k1) (fun k hk => ?_) ?_, k2, k3⟩
  · have q : oAt owner (nth m (runAt m (SetTable.bits h % (m + 1)) (SetTable.bits h)) k).j ≠ none := k3 k hk
    exact Option.isNone_eq_false_iff.mpr (Option.ne_none_iff_isSome.mp q)
  · have q : oAt owner (nth m (runAt m (SetTable.bits h % (m + 1)) (SetTable.bits h)) K).j = none := k2
    rw [q]
    rfl
theorem one_more (hm : MaskA m) (W : Own m done owner) (hl : done.length ≤ m) (h : Int) :
    ∃ j, SetTable.layClean.free m owner (SetTable.turns m) (SetTable.bits h % (m + 1)) (SetTable.bits h) = some j ∧ Own m (done ++ [h]) (owner.setIfInBounds j (some done.length)) := by
  obtain ⟨ps, lps, inp⟩ := W.ps
  obtain ⟨j0, l0, n0⟩ := st_missing ps (m + 1) (by omega)
  have f0 : oAt owner j0 = none := Classical.byContradiction fun c => n0 (inp j0 (by omega) c)
  obtain ⟨K, e1, e2, e3⟩ := free_any hm h (Nat.le_of_lt_succ l0) f0
  have jm := way_in m h K
  generalize hJ : way m h K = J at e1 e2 jm
  have js : J < owner.size := by rw [W.sz]; omega
  have self := oAt_set_self (some done.length) js
  have grow : ∀ i, oAt owner i ≠ none → oAt (owner.setIfInBounds J (some done.length)) i ≠ none := fun i hi => by
    by_cases c : i = J
    · rw [c, self]
      exact Option.some_ne_none _
    · rw [oAt_set_ne _ c]
      exact hi
  have len1 : (done ++ [h]).length = done.length + 1 := by rw [List.length_append]; rfl
  refine ⟨J, e1, ?_, ?_, ?_, ?_⟩
  · rw [Array.size_setIfInBounds, W.sz]
  · intro j k hj e
    by_cases c : j = J
    · rw [c, self] at e
      obtain rfl := Option.some.inj e
      exact ⟨h, K, List.getElem?_concat_length, by rw [c, hJ], fun k' hk' => grow _ (e3 k' hk')⟩
    · rw [oAt_set_ne _ c] at e
      obtain ⟨h', K', a1, a2, a3⟩ := W.at_ j k hj e
      exact ⟨h', K', by rw [List.getElem?_append_left (List.getElem?_eq_some_iff.mp a1).1]; exact a1, a2, fun k' hk' => grow _ (a3 k' hk')⟩
  · intro k hk
    rcases Nat.lt_or_ge k done.length with c | c
    · obtain ⟨j, hj, e⟩ := W.all k c
      exact ⟨j, hj, by rw [oAt_set_ne _ (fun z => by rw [z, e2] at e; cases e)]; exact e⟩
    · obtain rfl : k = done.length := by omega
      exact ⟨J, jm, self⟩
  · refine ⟨J :: ps, by rw [List.length_cons, lps, len1], fun j hj e => ?_⟩
    by_cases c : j = J
    · rw [c]
      exact List.mem_cons_self
    · rw [oAt_set_ne _ c] at e
      exact List.mem_cons_of_mem _ (inp j hj e)
theorem all_more (hm : MaskA m) : ∀ (rest done : List Int) (owner : Array (Option Nat)), Own m done owner → done.length + rest.length ≤ m →
    ∃ o', rest.foldl (stepF m) (some (owner, done.length)) = some (o', (done ++ rest).length) ∧ Own m (done ++ rest) o'
  | [], done, owner, W, _ => ⟨owner, by rw [List.append_nil]; rfl, by rw [List.append_nil]; exact W⟩
  | h :: rest, done, owner, W, hl => by
    rw [List.length_cons] at hl
    obtain ⟨j, e, W1⟩ := one_more hm W (by omega) h
    have l1 : (done ++ [h]).length = done.length + 1 := by rw [List.length_append]; rfl
    obtain ⟨o', f, W2⟩ := all_more hm rest (done ++ [h]) _ W1 (by omega)
    rw [l1, List.append_assoc] at f
    rw [List.append_assoc] at W2
    exact ⟨o', by rw [List.foldl_cons, stepF_some e]; exact f, W2⟩
theorem lay_any (hm : MaskA m) {hs : Array Int} (hn : hs.size ≤ m) : ∃ owner, SetTable.layClean m hs = some owner ∧ Own m hs.toList owner := by
  obtain ⟨o', f, W⟩ := all_more hm hs.toList [] _ (Own.init m) (by rw [Array.length_toList]; simpa using hn)
  refine ⟨o', ?_, W⟩
  have f' : hs.toList.foldl (stepF m) (some (Array.replicate (m + 1) none, 0)) = some (o', ([] ++ hs.toList).length) := f
  rw [layClean_eq, f']
  rfl
end
/-- the new table holds the same hashes, in another order -/
theorem relaid_any (t : SetTable) {hs : Array Int} {want M : Nat} (hw : SetTable.sizeAbove want - 1 = M) (hM : MaskA M) (hn : hs.size ≤ M) :
    ∃ t' order, t.relaid hs want = some (t', order) ∧ order.toList.Perm (List.range hs.size) ∧ TabA t' (order.toList.map fun i => hs.getD i 0) ∧ t'.mask = M ∧ t'.led = t.led := by
  obtain ⟨owner, e, W⟩ := lay_any hM hn
  have hr : t.relaid hs want = some (tabOf t M owner, ((liveOf M owner).map (·.2)).toArray) := by
    rw [relaid_eq, hw, e]
    rfl
  have ris := ris_live (fun j => owner.getD j none) (List.range (M + 1)) (by
    unfold Ris
    first | exact List.pairwise_lt_range | exact List.pairwise_lt_range _)
  have r1 : Ris ((liveOf M owner).map (·.1)) := ris.1
  have r2 : ∀ x ∈ (liveOf M owner).map (·.1), x ∈ List.range (M + 1) := ris.2
  have nd : ((liveOf M owner).map (·.1)).Nodup := List.Pairwise.imp (fun h => Nat.ne_of_lt h) r1
  have all : ∀ k, k < hs.size → k ∈ (liveOf M owner).map (·.2) := fun k hk => by
    obtain ⟨j, b1, b2⟩ := W.all k (by rw [Array.length_toList]; exact hk)
    exact List.mem_map.mpr ⟨(j, k), (mem_live W.sz).2 ⟨b1, b2⟩, rfl⟩
  have len : (liveOf M owner).length = hs.size := by
    obtain ⟨ps, p1, p2⟩ := W.ps
    have up := nat_nodup_len ((liveOf M owner).map (·.1)) ps nd fun x hx => by
      obtain ⟨⟨y, k⟩, hq, rfl⟩ := List.mem_map.mp hx
      obtain ⟨b1, b2⟩ := (mem_live W.sz).1 hq
      exact p2 y b1 (by rw [b2]; exact Option.some_ne_none _)
    have down := nat_nodup_len (List.range hs.size) ((liveOf M owner).map (·.2)) List.nodup_range fun k hk => all k (List.mem_range.mp hk)
    rw [List.length_map, p1] at up
    rw [List.length_map, List.length_range] at down
    have hz : hs.toList.length = hs.size := rfl
    omega
  refine ⟨tabOf t M owner, ((liveOf M owner).map (·.2)).toArray, hr, ?_, ⟨r1, rfl, ?_, hM, fun x hx => ?_, fun i h j h1 h2 => ?_⟩, rfl, rfl⟩
  · exact perm_range hs.size _ (by show ((liveOf M owner).map (·.2)).length = hs.size; rw [List.length_map]; exact len) all
  · show ((liveOf M owner).map (·.1)).toArray.size = (((liveOf M owner).map (·.2)).map fun i => hs.getD i 0).length
    rw [List.size_toArray, List.length_map, List.length_map, List.length_map]
  · exact Nat.le_of_lt_succ (List.mem_range.mp (r2 x hx))
  · have h1 : (((liveOf M owner).map (·.2)).map fun i => hs.getD i 0)[i]? = some h := h1
    have h2 : ((liveOf M owner).map (·.1))[i]? = some j := h2
    rw [List.getElem?_map, List.getElem?_map] at h1
    rw [List.getElem?_map] at h2
    cases hq : (liveOf M owner)[i]? with
    | none =>
      rw [hq] at h2
      cases h2
    | some q =>
      rw [hq] at h1 h2
      obtain ⟨y, k⟩ := q
      obtain rfl : y = j := Option.some.inj h2
      have eh : hs.getD k 0 = h := Option.some.inj h1
      obtain ⟨b1, b2⟩ := (mem_live W.sz).1 (List.mem_of_getElem? hq)
      obtain ⟨h0, K, a1, a2, a3⟩ := W.at_ y k b1 b2
      have e0 : hs.getD k 0 = h0 := by
        rw [Array.getD_eq_getD_getElem?, ← Array.getElem?_toList, a1]
        rfl
      obtain rfl : h0 = h := e0.symm.trans eh
      refine ⟨K, a2, fun k' hk' => ?_⟩
      obtain ⟨k2, z⟩ := Option.ne_none_iff_exists'.mp (a3 k' hk')
      exact List.mem_map.mpr ⟨(way M h0 k', k2), (mem_live W.sz).2 ⟨way_in M h0 k', z⟩, rfl⟩
end Sq


set_option Elab.async false
set_option maxRecDepth 100000
set_option maxHeartbeats 4000000
/-! One more hash in a table of any size; the sizes that come. -/
namespace Sq
open PySem PySem.Spec PyProof.Rows L2
/-- the masks of sets of fewer than 1229 -/
def MaskF (m : Nat) : Prop := m = 7 ∨ m = 31 ∨ m = 127 ∨ m = 511 ∨ m = 2047
theorem MaskF.any {m : Nat} (h : MaskF m) : MaskA m := by
  rcases h with e | e | e | e | e <;> subst e
  · exact ⟨3, by decide, rfl⟩
  · exact ⟨5, by decide, rfl⟩
  · exact ⟨7, by decide, rfl⟩
  · exact ⟨9, by decide, rfl⟩
  · exact ⟨11, by decide, rfl⟩
theorem size_308 : SetTable.sizeAbove (SetTable.grown 77) = 512 := by decide +kernel
theorem size_1228 : SetTable.sizeAbove (SetTable.grown 307) = 2048 := by decide +kernel
theorem TabA.more {t : SetTable} {hs : List Int} (T : TabA t hs) {h : Int} {K : Nat} (hK : way t.mask h K ∉ t.place.toList) (hb : ∀ k, k < K → way t.mask h k ∈ t.place.toList) :
    (t.put (way t.mask h K)).2 = SetTable.below t.place (way t.mask h K) ∧ TabA (t.put (way t.mask h K)).1 (hs.take (SetTable.below t.place (way t.mask h K)) ++ h :: hs.drop (SetTable.below t.place (way t.mask h K))) ∧
    (t.put (way t.mask h K)).1.mask = t.mask ∧ (t.put (way t.mask h K)).1.led = t.led ∧ (t.put (way t.mask h K)).1.fill = hs.length + 1 := by
  have jm := way_in t.mask h K
  generalize hJ : way t.mask h K = J at hK jm ⊢
  obtain ⟨cut, _, _⟩ := below_cut T.ris J
  have pl : SetTable.below t.place J ≤ t.place.toList.length := by rw [Array.length_toList]; exact cut
  have ph : SetTable.below t.place J ≤ hs.length := by rw [← T.sz]; exact cut
  have fresh : t.place[SetTable.below t.place J]? ≠ some J := fun e => hK (List.mem_of_getElem? (by rw [Array.getElem?_toList]; exact e))
  have pp := put_place t J
  have size : (t.put J).1.place.size = hs.length + 1 := by
    rw [← Array.length_toList, pp, len_ins _ pl, Array.length_toList, T.sz]
  have old : ∀ x, x ∈ t.place.toList → x ∈ (t.put J).1.place.toList := fun x hx => by
    rw [pp]
    exact mem_ins.2 (.inr hx)
  refine ⟨rfl, ⟨ris_insert T.ris fresh, put_dm T.dm J, by rw [len_ins _ ph]; exact size, T.mok, fun x hx => ?_, fun i h' j' h1 h2 => ?_⟩, rfl, rfl, ?_⟩
  · rw [pp] at hx
    rcases mem_ins.1 hx with z | z
    · rw [z]
      exact jm
    · exact T.bd x z
  · show ∃ k, way t.mask h' k = j' ∧ ∀ k', k' < k → way t.mask h' k' ∈ (t.put J).1.place.toList
    have tell : ∀ q, hs[q]? = some h' → t.place.toList[q]? = some j' → ∃ k, way t.mask h' k = j' ∧ ∀ k', k' < k → way t.mask h' k' ∈ (t.put J).1.place.toList := fun q a1 a2 => by
      obtain ⟨k, e, z⟩ := T.reach q h' j' a1 a2
      exact ⟨k, e, fun k' hk' => old _ (z k' hk')⟩
    rw [tins_get hs ph] at h1
    rw [pp, tins_get _ pl] at h2
    rcases Nat.lt_trichotomy i (SetTable.below t.place J) with c | c | c
    · rw [if_pos c] at h1 h2
      exact tell i h1 h2
    · have nc : ¬ i < SetTable.below t.place J := by omega
      rw [if_neg nc, if_pos c] at h1 h2
      obtain rfl := Option.some.inj h1
      obtain rfl := Option.some.inj h2
      exact ⟨K, hJ, fun k' hk' => old _ (hb k' hk')⟩
    · have nc : ¬ i < SetTable.below t.place J := by omega
      have nd : ¬ i = SetTable.below t.place J := by omega
      rw [if_neg nc, if_neg nd] at h1 h2
      exact tell (i - 1) h1 h2
  · show (t.put J).1.place.size + (t.put J).1.dummies.size = hs.length + 1
    rw [size, put_dm T.dm J]
    rfl
end Sq


set_option Elab.async false
set_option maxRecDepth 100000
set_option maxHeartbeats 4000000
/-! Sets of tuples of numbers and texts: the search. -/
namespace Sq
open PySem PySem.Spec PyProof.Rows L2
abbrev Rw := List (Addr × List Key)
/-- the set at a: its rows as the table has them -/
structure Tb (P : Program) (w : World) (h : Heap) (a : Addr) (L : Rw) (es : Array (Int × Value)) (ep : Nat) (t : SetTable) : Prop where
  at_ : ∃ o, h.get? a = some o ∧ o.ExactSet ∧ o.data = .set es ep t
  es_ : es.toList = L.map fun e => (kh P w e.2, Value.ref e.1)
  tab : TabA t (L.map fun e => kh P w e.2)
  msk : MaskF t.mask
  uniq : (L.map (·.2)).Nodup
  keys : ∀ e ∈ L, IsM P w h e.2 e.1
  led : w.params.followText "set-order" = true ∨ t.led = true
  gap : L.length * 5 < t.mask * 3
  few : L.length < 1200
section
variable {P : Program} {w : World} {A : Around} {E : Value → Shared → Prop} {s : Shared} {h : Heap} {a : Addr} {L : Rw} {es : Array (Int × Value)} {ep : Nat} {t : SetTable}
theorem sz_of (e : es.toList = L.map fun e => (kh P w e.2, Value.ref e.1)) : es.size = L.length := by
  rw [← Array.length_toList, e, List.length_map]
theorem Tb.sz (R : Tb P w h a L es ep t) : es.size = L.length := sz_of R.es_
theorem Tb.fits (R : Tb P w h a L es ep t) : t.fits es.size = true := by
  have g := R.gap
  have z : t.place.size = L.length := R.tab.sz.trans (List.length_map ..)
  rw [R.sz]
  unfold SetTable.fits SetTable.fill
  rw [R.tab.dm, z, Bool.and_eq_true]
  exact ⟨beq_self_eq_true _, decide_eq_true (by show L.length + 0 ≤ t.mask; omega)⟩
theorem Tb.ent (R : Tb P w h a L es ep t) {i : Nat} {e : Addr × List Key} (he : L[i]? = some e) : es[i]? = some (kh P w e.2, Value.ref e.1) := by
  have z : es.toList[i]? = some (kh P w e.2, Value.ref e.1) := by rw [R.es_, List.getElem?_map, he]; rfl
  rw [Array.getElem?_toList] at z
  exact z
theorem Tb.row (R : Tb P w h a L es ep t) {i j : Nat} (hj : t.place.toList[i]? = some j) : ∃ e, L[i]? = some e ∧ e ∈ L := by
  have z : t.place.toList.length = L.length := by rw [Array.length_toList, R.tab.sz, List.length_map]
  obtain ⟨q, _⟩ := List.getElem?_eq_some_iff.mp hj
  exact ⟨L[i], List.getElem?_eq_getElem (z ▸ q), List.getElem_mem _⟩
/-- the steps of a search for what has the hash H -/
abbrev st (m : Nat) (H : Int) : SetTable.Probe := runAt m (SetTable.bits H % (m + 1)) (SetTable.bits H)
theorem plain_step (m : Nat) : ∀ (n : Nat) (p : SetTable.Probe), p.dummy = none → (nth m p n).dummy = none
  | 0, _, q => q
  | n + 1, p, q => plain_step m n (adv m p) (by unfold adv; split <;> exact q)
theorem seek (R : Tb P w s.heap a L es ep t) {x : Addr} {k : List Key} (hx : IsM P w s.heap k x) (hu : A.units < cLine) {K : Nat} (lim : K < 10 * SetTable.turns t.mask) (free : way t.mask (kh P w k) K ∉ t.place.toList)
    (busy : ∀ c, c < K → way t.mask (kh P w k) c ∈ t.place.toList) {Q : SetFound → Shared → Prop} (yes : k ∈ L.map (·.2) → Q (.there none) s) (no : k ∉ L.map (·.2) → Q (.free (way t.mask (kh P w k) K) false) s) :
    ∀ (f c : Nat) (stand : Option SetTable.Probe), stand.getD (t.probeStart (kh P w k)) = nth t.mask (st t.mask (kh P w k)) c → c ≤ K → K - c < f →
      (∀ (i : Nat) (e : Addr × List Key), L[i]? = some e → e.2 = k → ∃ c', (c ≤ c' ∧ c' < K) ∧ t.place.toList[i]? = some (way t.mask (kh P w k) c')) → wpAny (model P w) A (setSearchFrom a (.ref x) (kh P w k) true f stand) Q E s := by
  intro f
  induction f with
  | zero => exact fun c stand _ _ z _ => absurd z (Nat.not_lt_zero _)
  | succ f again =>
    intro c stand hst hc hf ahead
    obtain ⟨ob, g1, gx, g2⟩ := R.at_
    have odd : ¬ t.gaveWay = true := by
      unfold SetTable.gaveWay
      rw [MaskA.odd R.tab.mok]
      decide
    have to : ∀ q, (nth t.mask (nth t.mask (st t.mask (kh P w k)) c) q).j = way t.mask (kh P w k) (c + q) := fun q => by rw [← nth_add]
    have hash : ∀ {i : Nat} {e : Addr × List Key}, L[i]? = some e → (es[i]?.map (·.1)).getD 0 = kh P w e.2 := fun he => by rw [R.ent he]; rfl
    have go := go_spec t R.tab.ris R.tab.dm (fun i => (es[i]?.map (·.1)).getD 0) (kh P w k) (10 * SetTable.turns t.mask) (K - c) (nth t.mask (st t.mask (kh P w k)) c) (plain_step _ _ _ rfl) (by omega)
      (fun q hq => by rw [to]; exact busy _ (by omega)) (by rw [to, Nat.add_sub_cancel' hc]; exact free)
    rw [setSearchFrom_succ]
    refine wpAny_bind (wpAny_setState_of g1 g2 R.fits ?_)
    dsimp only
    refine wp_if_neg odd ?_
    rcases go with ⟨q, i, hq, hi, hh, none_yet, pr⟩ | ⟨none_yet, pr⟩
    · have pr : t.probe (fun i => (es[i]?.map (·.1)).getD 0) (kh P w k) (stand.getD (t.probeStart (kh P w k))) = some (.candidate (way t.mask (kh P w k) (c + q)) i (nth t.mask (st t.mask (kh P w k)) (c + (q + 1)))) := by
        rw [hst, ← to, nth_add]
        exact pr
      rw [pr]
      dsimp only
      rw [to] at hi
      obtain ⟨e, he, me⟩ := R.row hi
      have live : t.slot (way t.mask (kh P w k) (c + q)) = .live i := slot_live R.tab.ris hi
      have rest : wpAny (model P w) A (searchRest a (.ref x) (kh P w k) true f es t (way t.mask (kh P w k) (c + q)) i (nth t.mask (st t.mask (kh P w k)) (c + (q + 1)))) Q E s := by
        unfold searchRest
        rw [R.ent he]
        dsimp only
        refine wpAny_bind (wpAny_holding (wpAny_eqBool_tuple hu (R.keys e me) hx (wpAny_bind (wpAny_setState_of g1 g2 R.fits ?_))))
        dsimp only
        by_cases ek : e.2 = k
        · exact wp_if_pos (by rw [decide_eq_true ek]; rfl) (wpAny_pure (yes (List.mem_map.mpr ⟨e, me, ek⟩)))
        refine wp_if_neg (by rw [decide_eq_false ek]; decide) ?_
        rw [sameMem]
        dsimp only
        rw [if_pos rfl, live]
        dsimp only
        rw [R.ent he]
        dsimp only
        refine wpAny_bind (wpAny_isSame_ref_self (wpAny_bind (wpAny_pure ?_)))
        rw [if_pos rfl]
        dsimp only
        refine wp_if_neg (by rw [decide_eq_false ek]; decide) ?_
        refine again (c + (q + 1)) _ rfl (by omega) (by omega) fun j d hd ed => ?_
        obtain ⟨c', ⟨l1, l2⟩, l3⟩ := ahead j d hd ed
        refine ⟨c', ⟨?_, l2⟩, l3⟩
        rcases Nat.lt_trichotomy c' (c + q) with z | z | z
        · refine absurd ?_ (none_yet (c' - c) j (by omega) (by rw [to, Nat.add_sub_cancel' l1]; exact l3))
          rw [hash hd, ed]
        · rw [z] at l3
          have y := slot_live R.tab.ris l3
          rw [live] at y
          injection y with y
          rw [← y, he] at hd
          exact absurd (by rw [Option.some.inj hd]; exact ed) ek
        · exact z
      by_cases led : t.led = true
      · exact wp_if_neg (by rw [led]; decide) rest
      refine wp_if_pos (by rw [Bool.eq_false_iff.mpr led]; rfl) (wpAny_bind (shows_nothing hx (fun y hy => ?_) (wp_if_neg (by decide) rest)))
      obtain ⟨r, hr, rfl⟩ := List.mem_map.mp hy
      have hr : r ∈ es.toList := by
        have z := Array.mem_toList_iff.mp hr
        exact Array.mem_toList_iff.mpr (Array.mem_filter.mp z).1
      rw [R.es_] at hr
      obtain ⟨d, hd, rfl⟩ := List.mem_map.mp hr
      exact ⟨d.2, d.1, rfl, R.keys d hd⟩
    · have pr : t.probe (fun i => (es[i]?.map (·.1)).getD 0) (kh P w k) (stand.getD (t.probeStart (kh P w k))) = some (.empty (way t.mask (kh P w k) K) none) := by
        have z := to (K - c)
        rw [Nat.add_sub_cancel' hc] at z
        rw [hst, ← z]
        exact pr
      rw [pr]
      dsimp only
      refine wpAny_pure (no fun m => ?_)
      obtain ⟨d, md, ed⟩ := List.mem_map.mp m
      obtain ⟨j, lj, ej⟩ := List.getElem_of_mem md
      have hd : L[j]? = some d := by rw [List.getElem?_eq_getElem lj, ej]
      obtain ⟨c', ⟨l1, l2⟩, l3⟩ := ahead j d hd ed
      refine none_yet (c' - c) j (by omega) (by rw [to, Nat.add_sub_cancel' l1]; exact l3) ?_
      rw [hash hd, ed]
/-- the search of one who wants to put k in -/
theorem seek_all (R : Tb P w s.heap a L es ep t) {x : Addr} {k : List Key} (hx : IsM P w s.heap k x) (hu : A.units < cLine) {Q : SetFound → Shared → Prop} (yes : k ∈ L.map (·.2) → Q (.there none) s)
    (no : ∀ K, k ∉ L.map (·.2) → way t.mask (kh P w k) K ∉ t.place.toList → (∀ c, c < K → way t.mask (kh P w k) c ∈ t.place.toList) → Q (.free (way t.mask (kh P w k) K) false) s) :
    wpAny (model P w) A (setSearch a (.ref x) (kh P w k) true) Q E s := by
  have g := R.gap
  obtain ⟨K, lim, free, busy⟩ := R.tab.free (by rw [List.length_map]; omega) (kh P w k)
  have top : 10 * SetTable.turns t.mask ≤ 21000 := by
    unfold SetTable.turns
    rcases R.msk with z | z | z | z | z <;> omega
  unfold setSearch
  refine seek R hx hu lim free busy yes (fun n => no K n free busy) 100000 0 none rfl (Nat.zero_le _) (by omega) fun i e he ek => ?_
  have hH : (L.map fun e => kh P w e.2)[i]? = some (kh P w k) := by rw [List.getElem?_map, he, ← ek]; rfl
  have li : i < t.place.toList.length := by
    rw [Array.length_toList, R.tab.sz, List.length_map]
    exact (List.getElem?_eq_some_iff.mp he).1
  obtain ⟨c, l, q⟩ := R.tab.ahead free hH (List.getElem?_eq_getElem li)
  exact ⟨c, ⟨Nat.zero_le _, l⟩, by rw [q]; exact List.getElem?_eq_getElem li⟩
end
end Sq


set_option Elab.async false
set_option maxRecDepth 100000
set_option maxHeartbeats 4000000
/-! Sets of tuples of numbers and texts: one more is put in. -/
namespace Sq
open PySem PySem.Spec PyProof.Rows L2
section
variable {P : Program} {w : World} {A : Around} {E : Value → Shared → Prop} {s : Shared} {h h' : Heap} {a : Addr} {L : Rw} {es : Array (Int × Value)} {ep : Nat} {t : SetTable}
/-- such a tuple is not the set -/
theorem isM_but {k : List Key} {c : Addr} {o : Obj} (hk : IsM P w h k c) (g1 : h.get? a = some o) (g2 : o.data = .set es ep t) (sb : Heap.SameBut a h h') : IsM P w h' k c := by
  obtain ⟨ob, its, n, e1, e2, e3, e4⟩ := hk
  refine ⟨ob, its, n, ?_, e2, e3, e4⟩
  rw [sb.2 c fun z => ?_]
  · exact e1
  · rw [z, g1] at e1
    rw [← Option.some.inj e1, g2] at e3
    cases e3
/-- the rows that an order of places picks -/
theorem picked (e : es.toList = L.map fun e => (kh P w e.2, Value.ref e.1)) : ∀ l : List Nat, (∀ i ∈ l, i < L.length) → ∃ M : Rw, M = l.filterMap (fun i => L[i]?) ∧ l.filterMap (fun i => es[i]?) = M.map (fun e => (kh P w e.2, Value.ref e.1)) ∧ (M.map fun e => kh P w e.2) = l.map fun i => (es.map (·.1)).getD i 0
  | [], _ => ⟨[], rfl, rfl, rfl⟩
  | i :: l, b => by
    obtain ⟨M, m1, m2, m3⟩ := picked e l fun j hj => b j (.tail _ hj)
    have hi : i < L.length := b i (.head _)
    have q : es[i]? = some (kh P w L[i].2, Value.ref L[i].1) := by
      rw [← Array.getElem?_toList, e, List.getElem?_map, List.getElem?_eq_getElem hi]
      rfl
    refine ⟨L[i] :: M, ?_, ?_, ?_⟩
    · rw [List.filterMap_cons_some (List.getElem?_eq_getElem hi), m1]
    · rw [List.filterMap_cons_some q, m2, List.map_cons]
    · rw [List.map_cons, List.map_cons, m3]
      congr 1
      rw [Array.getD_eq_getD_getElem?, Array.getElem?_map, q]
      rfl
theorem all_picked : ∀ (L : Rw), (List.range L.length).filterMap (fun i => L[i]?) = L := by
  intro L
  have key : ∀ n, n ≤ L.length → (List.range n).filterMap (fun i => L[i]?) = L.take n := by
    intro n hn
    induction n with
    | zero => simp
    | succ n ih =>
      rw [List.range_succ, List.filterMap_append, ih (by omega), List.take_succ, List.getElem?_eq_getElem (by omega), List.filterMap_cons_some (b := L[n]) (List.getElem?_eq_getElem (by omega))]
      rfl
  rw [key _ (Nat.le_refl _), List.take_length]
/-- the table is laid anew -/
theorem relay {o : Obj} (g1 : s.heap.get? a = some o) (gx : o.ExactSet) (g2 : o.data = .set es ep t) (e : es.toList = L.map fun e => (kh P w e.2, Value.ref e.1)) (pz : t.place.size = es.size) (dm : t.dummies = #[]) (fl : es.size ≤ t.mask)
    (uniq : (L.map (·.2)).Nodup) (keys : ∀ e ∈ L, IsM P w s.heap e.2 e.1) (led : w.params.followText "set-order" = true ∨ t.led = true) (few : L.length < 1200) {want M : Nat} (hw : SetTable.sizeAbove want - 1 = M) (hM : MaskF M) (big : SetTable.sizeAbove want ≤ 2048)
    (gap : L.length * 5 < M * 3) {Q : Unit → Shared → Prop} (k : ∀ h' L' es' ep' t', Heap.SameBut a s.heap h' → Tb P w h' a L' es' ep' t' → L'.Perm L → Q () { s with heap := h' }) : wpAny (model P w) A (setRelay a want) Q E s := by
  have z := sz_of e
  have fit : t.fits es.size = true := by
    unfold SetTable.fits SetTable.fill
    rw [dm, pz, Bool.and_eq_true]
    exact ⟨beq_self_eq_true _, decide_eq_true (by show es.size + 0 ≤ t.mask; omega)⟩
  obtain ⟨t', order, r1, r2, r3, r4, r5⟩ := relaid_any t (hs := es.map (·.1)) hw hM.any (by rw [Array.size_map, z]; omega)
  rw [Array.size_map, z] at r2
  obtain ⟨M', m1, m2, m3⟩ := picked e order.toList fun i hi => List.mem_range.mp (r2.mem_iff.mp hi)
  have pm : M'.Perm L := by
    rw [m1]
    have y := r2.filterMap (fun i => L[i]?)
    rw [all_picked] at y
    exact y
  have m2 : (order.filterMap (es[·]?)).toList = M'.map fun e => (kh P w e.2, Value.ref e.1) := by rw [Array.toList_filterMap]; exact m2
  have z2 : (order.filterMap (es[·]?)).size = es.size := by rw [sz_of m2, pm.length_eq, z]
  rw [setRelay_eq]
  refine wpAny_bind (wpAny_setState_of g1 g2 fit ?_)
  dsimp only
  refine wp_if_neg (by rw [sizeLine_eq]; omega) ?_
  rw [r1]
  dsimp only
  refine wpAny_bind (wp_if_neg (by rw [z2]; simp) (wpAny_pure ?_))
  dsimp only
  refine wpAny_storeSet_of g1 g2 ?_ (by rw [z2, z, sizeLine_eq]; omega)
  have sb : Heap.SameBut a s.heap (s.heap.update a (Obj.putSet (order.filterMap (es[·]?)) t')) := Heap.SameBut.update ..
  exact k _ M' _ (ep + 1) t' sb ⟨⟨_, store_at g1 g2, ⟨gx.1, gx.2.1, gx.2.2⟩, rfl⟩, m2, by rw [m3]; exact r3, by rw [r4]; exact hM, (pm.map (·.2)).nodup_iff.mpr uniq, fun e he => isM_but (keys e (pm.mem_iff.mp he)) g1 g2 sb, by rw [r5]; exact led,
    by rw [pm.length_eq, r4]; exact gap, by rw [pm.length_eq]; exact few⟩ pm
end
end Sq


set_option Elab.async false
set_option maxRecDepth 100000
set_option maxHeartbeats 4000000
/-! Sets of tuples of numbers and texts: adding. -/
namespace Sq
open PySem PySem.Spec PyProof.Rows L2
section
variable {P : Program} {w : World} {A : Around} {E : Value → Shared → Prop} {s : Shared} {h h' : Heap} {a : Addr} {L : Rw} {es : Array (Int × Value)} {ep : Nat} {t : SetTable}
theorem stored {o : Obj} (g1 : s.heap.get? a = some o) (gx : o.ExactSet) (g2 : o.data = .set es ep t) {M : Rw} {es1 : Array (Int × Value)} {t2 : SetTable} (e : es1.toList = M.map fun e => (kh P w e.2, Value.ref e.1)) (T : TabA t2 (M.map fun e => kh P w e.2)) (mf : MaskF t2.mask) (led : w.params.followText "set-order" = true ∨ t2.led = true)
    (fill : t2.fill = M.length) (uniq : (M.map (·.2)).Nodup) (keys : ∀ e ∈ M, IsM P w s.heap e.2 e.1) (few : M.length < 1200) (was : (M.length - 1) * 5 < t2.mask * 3) {n : Nat} (hn : n = M.length) {Q : Bool → Shared → Prop}
    (q : ∀ h' L' es' ep' t', Heap.SameBut a s.heap h' → Tb P w h' a L' es' ep' t' → L'.Perm M → Q true { s with heap := h' }) :
    wpAny (model P w) A (do storeSet a es1 t2; if (!false && t2.tooFull) = true then do setRelay a (SetTable.grown n); pure true else pure true) Q E s := by
  subst hn
  have z := sz_of e
  refine wpAny_bind (wpAny_storeSet_of g1 g2 ?_ (by rw [z, sizeLine_eq]; omega))
  have sb : Heap.SameBut a s.heap (s.heap.update a (Obj.putSet es1 t2)) := Heap.SameBut.update ..
  have g3 := store_at (es' := es1) (t' := t2) g1 g2
  generalize s.heap.update a (Obj.putSet es1 t2) = h1 at sb g3 ⊢
  have keys1 : ∀ e ∈ M, IsM P w h1 e.2 e.1 := fun e he => isM_but (keys e he) g1 g2 sb
  cases full : t2.tooFull with
  | false =>
    refine wp_if_neg (by decide) (wpAny_pure (q h1 M es1 (ep + 1) t2 sb ⟨⟨_, g3, ⟨gx.1, gx.2.1, gx.2.2⟩, rfl⟩, e, T, mf, uniq, keys1, led, ?_, few⟩ (List.Perm.refl _)))
    unfold SetTable.tooFull at full
    rw [fill] at full
    exact Nat.lt_of_not_le (of_decide_eq_false full)
  | true =>
    unfold SetTable.tooFull at full
    rw [fill] at full
    have full := of_decide_eq_true full
    have pz : t2.place.size = es1.size := by rw [T.sz, List.length_map, z]
    have on : ∀ N, SetTable.sizeAbove (SetTable.grown M.length) - 1 = N → MaskF N → SetTable.sizeAbove (SetTable.grown M.length) ≤ 2048 → M.length * 5 < N * 3 → M.length ≤ t2.mask →
        wpAny (model P w) A (do setRelay a (SetTable.grown M.length); pure true) Q E { s with heap := h1 } := fun N n1 n2 n3 n4 n5 => by
      refine wpAny_bind (relay (s := { s with heap := h1 }) g3 ⟨gx.1, gx.2.1, gx.2.2⟩ rfl e pz T.dm (by omega) uniq keys1 led few n1 n2 n3 n4 fun h2 M2 es2 ep2 t3 sb2 R2 pm => ?_)
      exact wpAny_pure (q h2 M2 es2 ep2 t3 (sb.trans sb2) R2 pm)
    refine wp_if_pos (by decide) ?_
    rcases mf with m | m | m | m | m
    · have l : M.length = 5 := by omega
      rw [l] at on ⊢
      exact on 31 (by rw [size_20]) (.inr (.inl rfl)) (by rw [size_20]; decide) (by decide) (by omega)
    · have l : M.length = 19 := by omega
      rw [l] at on ⊢
      exact on 127 (by rw [size_76]) (.inr (.inr (.inl rfl))) (by rw [size_76]; decide) (by decide) (by omega)
    · have l : M.length = 77 := by omega
      rw [l] at on ⊢
      exact on 511 (by rw [size_308]) (.inr (.inr (.inr (.inl rfl)))) (by rw [size_308]; decide) (by decide) (by omega)
    · have l : M.length = 307 := by omega
      rw [l] at on ⊢
      exact on 2047 (by rw [size_1228]) (.inr (.inr (.inr (.inr rfl)))) (by rw [size_1228]; decide) (by decide) (by omega)
    · omega
theorem put_in (R : Tb P w s.heap a L es ep t) {x : Addr} {k : List Key} (hx : IsM P w s.heap k x) (hu : A.units < cLine) (more : L.length + 1 < 1200) {Q : Bool → Shared → Prop}
    (q : ∀ b h' L' es' ep' t', Heap.SameBut a s.heap h' → Tb P w h' a L' es' ep' t' → (k ∈ L.map (·.2) → L' = L) → (k ∉ L.map (·.2) → L'.Perm ((x, k) :: L)) → Q b { s with heap := h' }) :
    wpAny (model P w) A (setAddHashed a (.ref x) (kh P w k)) Q E s := by
  obtain ⟨o, g1, gx, g2⟩ := R.at_
  have z := R.sz
  have gap := R.gap
  unfold setAddHashed
  rw [show (100000 : Nat) = 99999 + 1 from rfl, setAddHashedIn_succ]
  refine wpAny_holding (wpAny_bind (wpAny_setState_of g1 g2 R.fits ?_))
  dsimp only
  refine wp_if_neg (by simp [byScan, Value.scannable]) (wpAny_bind (seek_all R hx hu (fun m => ?_) fun K m free busy => ?_))
  · exact wpAny_pure (q false s.heap L es ep t (Heap.SameBut.refl a s.heap) R (fun _ => rfl) fun n => absurd m n)
  dsimp only
  refine wpAny_bind (wpAny_setState_of g1 g2 R.fits ?_)
  dsimp only
  obtain ⟨p1, p3, p4, p5, p9⟩ := R.tab.more free busy
  generalize t.put (way t.mask (kh P w k) K) = pt at p1 p3 p4 p5 p9 ⊢
  obtain ⟨t1, p⟩ := pt
  dsimp only at p1 p3 p4 p5 p9 ⊢
  subst p1
  have hin : (SetTable.insertAt es (SetTable.below t.place (way t.mask (kh P w k) K)) (kh P w k, Value.ref x)).toList = (L.take (SetTable.below t.place (way t.mask (kh P w k) K)) ++ (x, k) :: L.drop (SetTable.below t.place (way t.mask (kh P w k) K))).map fun e => (kh P w e.2, Value.ref e.1) := by
    rw [SetTable.toList_insertAt, R.es_, List.map_append, List.map_cons, List.map_take, List.map_drop]
  have hh : (L.take (SetTable.below t.place (way t.mask (kh P w k) K)) ++ (x, k) :: L.drop (SetTable.below t.place (way t.mask (kh P w k) K))).map (fun e => kh P w e.2) = (L.map fun e => kh P w e.2).take (SetTable.below t.place (way t.mask (kh P w k) K)) ++ kh P w k :: (L.map fun e => kh P w e.2).drop (SetTable.below t.place (way t.mask (kh P w k) K)) := by
    rw [List.map_append, List.map_cons, List.map_take, List.map_drop]
  rw [← hh] at p3
  have pm := put_perm L (SetTable.below t.place (way t.mask (kh P w k) K)) (x, k)
  generalize SetTable.insertAt es (SetTable.below t.place (way t.mask (kh P w k) K)) (kh P w k, Value.ref x) = es1 at hin ⊢
  generalize L.take (SetTable.below t.place (way t.mask (kh P w k) K)) ++ (x, k) :: L.drop (SetTable.below t.place (way t.mask (kh P w k) K)) = M at hin p3 pm
  have lM : M.length = L.length + 1 := pm.length_eq
  have uniq : (M.map (·.2)).Nodup := (pm.map (·.2)).nodup_iff.mpr (List.nodup_cons.mpr ⟨m, R.uniq⟩)
  have keys : ∀ e ∈ M, IsM P w s.heap e.2 e.1 := fun e he => by
    rcases List.mem_cons.mp (pm.mem_iff.mp he) with y | y
    · rw [y]; exact hx
    · exact R.keys e y
  have fin : ∀ t2 : SetTable, TabA t2 (M.map fun e => kh P w e.2) → t2.mask = t1.mask → t2.led = t1.led → t2.fill = t1.fill →
      wpAny (model P w) A (do storeSet a es1 t2; if (!false && t2.tooFull) = true then do setRelay a (SetTable.grown (es.size + 1)); pure true else pure true) Q E s := fun t2 T m1 m2 m3 =>
    stored g1 gx g2 hin T (by rw [m1, p4]; exact R.msk) (by rw [m2, p5]; exact R.led) (by rw [m3, p9, List.length_map, lM]) uniq keys (by omega) (by rw [m1, p4, lM]; exact gap) (by rw [z, lM]) fun h' L' es' ep' t' sb R' pm' => q true h' L' es' ep' t' sb R' (fun n => absurd n m) fun _ => pm'.trans pm
  have both : ∀ b : Bool, wpAny (model P w) A (do storeSet a es1 (if b = true then t1 else { t1 with plain := false }); if (!false && (if b = true then t1 else { t1 with plain := false }).tooFull) = true then do setRelay a (SetTable.grown (es.size + 1)); pure true else pure true) Q E s := fun b => by
    cases b with
    | true => exact fin t1 p3 rfl rfl rfl
    | false => exact fin { t1 with plain := false } ⟨p3.ris, p3.dm, p3.sz, p3.mok, p3.bd, p3.reach⟩ rfl rfl rfl
  cases pl : t1.plain with
  | true => exact wp_if_pos rfl (wpAny_bind (hash_ask hx fun b => both b))
  | false => exact wp_if_neg (by decide) (wpAny_bind (wpAny_pure (both true)))
end
end Sq


set_option Elab.async false
set_option maxRecDepth 100000
set_option maxHeartbeats 4000000
/-! set(xs) of a list of tuples of numbers and texts. -/
namespace Sq
open PySem PySem.Spec PyProof.Rows L2
theorem nodup_len {α : Type} [DecidableEq α] : ∀ {l B : List α}, l.Nodup → (∀ x ∈ l, x ∈ B) → l.length ≤ B.length
  | [], _, _, _ => Nat.zero_le _
  | x :: l, B, n, b => by
    have m := b x (.head _)
    obtain ⟨n1, n2⟩ := List.nodup_cons.mp n
    have ih := nodup_len n2 (B := B.erase x) fun y hy => (List.mem_erase_of_ne (fun e => n1 (by rw [← e]; exact hy))).mpr (b y (.tail _ hy))
    rw [List.length_erase_of_mem m] at ih
    have := List.length_pos_of_mem m
    rw [List.length_cons]
    omega
/-- what the set holds once the first i of ks are in -/
structure Up (ks : Rw) (i : Nat) (L : Rw) : Prop where
  of_ : ∀ e ∈ L, e ∈ ks.take i
  has : ∀ e ∈ ks.take i, e.2 ∈ L.map (·.2)
theorem Up.next {ks L L' : Rw} {i : Nat} {e : Addr × List Key} (u : Up ks i L) (he : ks[i]? = some e) (o1 : e.2 ∈ L.map (·.2) → L' = L) (o2 : e.2 ∉ L.map (·.2) → L'.Perm (e :: L)) : Up ks (i + 1) L' := by
  have tk : ks.take (i + 1) = ks.take i ++ [e] := by rw [List.take_succ, he]; rfl
  by_cases c : e.2 ∈ L.map (·.2)
  · rw [o1 c]
    refine ⟨fun d hd => ?_, fun d hd => ?_⟩
    · rw [tk]; exact List.mem_append_left _ (u.of_ d hd)
    · rw [tk] at hd
      rcases List.mem_append.mp hd with z | z
      · exact u.has d z
      · rw [List.mem_singleton.mp z]; exact c
  · have pm := o2 c
    refine ⟨fun d hd => ?_, fun d hd => ?_⟩
    · rw [tk]
      rcases List.mem_cons.mp (pm.mem_iff.mp hd) with z | z
      · rw [z]; exact List.mem_append_right _ (.head _)
      · exact List.mem_append_left _ (u.of_ d z)
    · refine (pm.map (·.2)).mem_iff.mpr ?_
      rw [tk] at hd
      rcases List.mem_append.mp hd with z | z
      · exact .tail _ (u.has d z)
      · rw [List.mem_singleton.mp z]; exact .head _
section
variable {P : Program} {w : World} {A : Around} {E : Value → Shared → Prop} {s : Shared} {h h' : Heap} {a : Addr} {L : Rw} {es : Array (Int × Value)} {ep : Nat} {t : SetTable}
theorem isM_on {k : List Key} {c : Addr} (hk : IsM P w h k c) (k1 : ∀ b o, h.get? b = some o → h'.get? b = some o) : IsM P w h' k c := let ⟨o, its, n, g, r⟩ := hk; ⟨o, its, n, k1 _ _ g, r⟩
theorem Tb.on (R : Tb P w h a L es ep t) (ka : ∀ o, h.get? a = some o → h'.get? a = some o) (kk : ∀ e ∈ L, IsM P w h' e.2 e.1) : Tb P w h' a L es ep t := by
  obtain ⟨o, g, r⟩ := R.at_
  exact ⟨⟨o, ka o g, r⟩, R.es_, R.tab, R.msk, R.uniq, kk, R.led, R.gap, R.few⟩
theorem Tb.fresh (g : h.get? a = some { cls := .type "set", dict := none, data := .set #[] 0 (.fresh 0 0 (!w.params.followText "set-order")) }) : Tb P w h a [] #[] 0 (.fresh 0 0 (!w.params.followText "set-order")) :=
  ⟨⟨_, g, ⟨rfl, rfl, rfl⟩, rfl⟩, rfl, ⟨List.Pairwise.nil, rfl, rfl, MaskF.any (.inl rfl), (fun x hx => by cases hx), (fun i h j hi => by cases hi)⟩, .inl rfl, List.nodup_nil, (fun e he => by cases he), (by
    cases w.params.followText "set-order"
    · exact .inr rfl
    · exact .inl rfl), (by show 0 * 5 < 7 * 3; decide), (by show 0 < 1200; decide)⟩
/-- the loop of set.update -/
theorem fill_up {I : Addr} {fp wr : List Addr} {G : Array GenState → Array GenState → Prop} {n : Nat} {Pv : Nat → Value → Prop} {St : Nat → Shared → Prop} {R : Result → Shared → Prop} (W : WalksS P w A.in1 I fp wr G n Pv St) (S : Addr) (nS : S ∉ fp) (ks : Rw) (hn : n = ks.length)
    {B : List (List Key)} (bB : ∀ e ∈ ks, e.2 ∈ B) (lB : B.length < 1199) (val : ∀ i v, Pv i v → ∃ e, ks[i]? = some e ∧ v = .ref e.1) (h0 : Heap) (hk : ∀ e ∈ ks, IsM P w h0 e.2 e.1) (S0 : h0.get? S = none) (w0 : ∀ b ∈ wr, h0.get? b = none) (hu : A.in1.units < cLine)
    (fin : ∀ s0 s' L es ep t, Moved (S :: wr) G s0 s' → Tb P w s'.heap S L es ep t → Up ks n L → (∀ b o, h0.get? b = some o → s'.heap.get? b = some o) → s0 = s → R (.ok (.ret .none)) s') :
    ∀ (j i : Nat) (s1 : Shared), n - i = j → i ≤ n → St i s1 → Moved (S :: wr) G s s1 → (∀ b o, h0.get? b = some o → s1.heap.get? b = some o) → (∃ L es ep t, Tb P w s1.heap S L es ep t ∧ Up ks i L) →
      codeAny (model P w) A (.builtin "set.update.loop" ⟨[.ref S, .ref I], []⟩) R s1 := by
  have nw : S ∉ wr := fun z => nS (W.sub _ z)
  have up : ∀ b ∈ wr, b ∈ S :: wr := fun b hb => .tail _ hb
  have on0 : ∀ {q q' : Shared}, Moved wr G q q' → (∀ b o, h0.get? b = some o → q.heap.get? b = some o) → ∀ b o, h0.get? b = some o → q'.heap.get? b = some o := fun m k b o e => m.heap b o (fun z => by rw [w0 b z] at e; cases e) (k b o e)
  intro j
  induction j with
  | zero =>
    intro i s1 hj hi hst mv k0 ⟨L, es, ep, t, T, u⟩
    have e : i = n := by omega
    rw [e] at hst u
    refine codeAny_builtin F.entry_set_update_loop ?_
    rw [Around.under_plainId F.plain_set_update_loop _]
    show wpAny _ A.in1 (pyNext (.ref I) >>= _) _ _ s1
    refine wpAny_bind (W.done s1 _ _ hst fun s2 m2 => ?_)
    show wpAny _ A.in1 (ret Value.none) _ _ s2
    have k2 := on0 m2 k0
    exact wpAny_pure (fin s s2 L es ep t (Moved.trans W.gtrans mv (m2.mono up)) (T.on (fun o e => m2.heap S o nw e) fun e he => isM_on (hk e (List.mem_of_mem_take (u.of_ e he))) k2) u k2 rfl)
  | succ j ih =>
    intro i s1 hj hi hst mv k0 ⟨L, es, ep, t, T, u⟩
    refine codeAny_builtin F.entry_set_update_loop ?_
    rw [Around.under_plainId F.plain_set_update_loop _]
    show wpAny _ A.in1 (pyNext (.ref I) >>= _) _ _ s1
    refine wpAny_bind (W.item i s1 _ _ (by omega) hst fun v s2 pv hst2 m2 => ?_)
    obtain ⟨e, he, rfl⟩ := val i v pv
    have k2 := on0 m2 k0
    have inks : ∀ d ∈ L, d ∈ ks := fun d hd => List.mem_of_mem_take (u.of_ d hd)
    have T2 : Tb P w s2.heap S L es ep t := T.on (fun o e => m2.heap S o nw e) fun d hd => isM_on (hk d (inks d hd)) k2
    have he2 := isM_on (hk e (List.mem_of_getElem? he)) k2
    have lL : L.length ≤ B.length := by
      have z := nodup_len T.uniq (B := B) fun x hx => by
        obtain ⟨d, hd, rfl⟩ := List.mem_map.mp hx
        exact bB d (inks d hd)
      rw [List.length_map] at z
      exact z
    show wpAny _ A.in1 (holding [Value.ref e.1] (setAdd S (.ref e.1)) >>= _) _ _ s2
    refine wpAny_bind (wpAny_holding ?_)
    unfold setAdd
    refine wpAny_holding (wpAny_bind (wpAny_pyHash_tuple hu he2 (put_in (s := { s2 with toks := s2.toks + (e.2.length + 1) }) T2 he2 hu (by omega) fun b h3 L3 es3 ep3 t3 sb T3 o1 o2 => ?_)))
    have k3 : ∀ b o, h0.get? b = some o → h3.get? b = some o := fun b o q => (sb.2 b (fun z => by rw [z, S0] at q; cases q)).trans (k2 b o q)
    refine wpAny_pure ⟨plainId_quiet F.plain_set_update_loop _, ih (i + 1) _ (by omega) (by omega) (W.frame _ s2 _ _ hst2 (Nat.le_add_right _ _) fun b hb o q => ?_) (Moved.trans W.gtrans mv ((m2.mono up).then_heap (Nat.le_add_right _ _) fun b o hb q => ?_)) k3 ⟨L3, es3, ep3, t3, T3, u.next he o1 o2⟩⟩
    · rw [sb.2 b (fun z : b = S => nS (by rw [← z]; exact hb))]; exact q
    · rw [sb.2 b (fun z : b = S => hb (by rw [z]; exact .head _))]; exact q
end
end Sq


set_option Elab.async false
set_option maxRecDepth 100000
set_option maxHeartbeats 8000000
/-! set(xs): the call. -/
namespace Sq
open PySem PySem.Spec PyProof.Rows L2
abbrev newSetO (w : World) : Obj := { cls := .type "set", dict := none, data := .set #[] 0 (.fresh 0 0 (!w.params.followText "set-order")) }
section
variable {P : Program} {w : World} {A : Around} {E : Value → Shared → Prop} {s : Shared}
theorem call_set_list {l : Addr} {items : Array Value} (ks : Rw) {B : List (List Key)} (bB : ∀ e ∈ ks, e.2 ∈ B) (lB : B.length < 1199) {Q : Value → Shared → Prop} (hh : A.handled = none) (hl : s.heap.IsList l items) (hi : items.toList = ks.map fun e => Value.ref e.1)
    (hk : ∀ e ∈ ks, IsM P w s.heap e.2 e.1) (hu : A.units + 3 < cLine)
    (q : ∀ (h' : Heap) (tk : Nat) L es ep t, Tb P w h' s.heap.objs.size L es ep t → Up ks ks.length L → (∀ b o, s.heap.get? b = some o → h'.get? b = some o) → Q (.ref s.heap.objs.size) { s with heap := h', toks := tk }) :
    wpAny (model P w) A (call (.type "set") [.ref l]) Q E s := by
  have zi : items.size = ks.length := by rw [← Array.length_toList, hi, List.length_map]
  have grow : ∀ (o : Obj) b u, s.heap.get? b = some u → (s.heap.push o).get? b = some u := fun o b u e => Heap.get?_push_of_some _ e
  obtain ⟨c, tl, hmro⟩ := F.called_set.mro
  have hmade := F.called_set.made
  have hsub := F.called_set.sub
  have h1 := F.called_set.notType
  have h2 := F.called_set.canCreate
  have hct := F.typeCall_set_1 (.ref l)
  refine wpAny_call (codeAny_of_tree ?_)
  show wpAny _ _ (callAny (.type "set") _) _ _ _
  refine wpAny_pure ⟨Code.quiet_builtin _ (by decide +kernel), codeAny_builtin F.entry_type_call ?_⟩
  rw [Around.under_plain (weight_type_call_type "set" [.ref l] []) rfl]
  repeat (any_goals (first | assumption | wp_step))
  refine codeAny_mono (code_set_led1 (.ref l) (E := E) (Q₁ := fun u s1 => u = .ref s.heap.objs.size ∧ s1 = { s with heap := s.heap.push (newSetO w) }) ⟨rfl, rfl⟩) fun r s1 hr => ?_
  match r, hr with
  | .error _, hr => exact hr
  | .ok .next, hr => exact hr.elim
  | .ok .brk, hr => exact hr.elim
  | .ok .cont, hr => exact hr.elim
  | .ok (.ret u), ⟨e1, e2⟩ =>
    subst e1 e2
    have gS : (s.heap.push (newSetO w)).get? s.heap.objs.size = some (newSetO w) := Heap.get?_push_size _ rfl
    have hT : Shared.TypeIs { s with heap := s.heap.push (newSetO w) } (.ref s.heap.objs.size) "set" := ⟨_, gS, rfl⟩
    have hli := F.called_set.init.lookup
    have hbi := F.called_set.init.bind (.ref s.heap.objs.size)
    repeat (any_goals (first | assumption | wp_step))
    refine codeAny_mono (codeAny_call_builtin (R := wants (fun r s2 => r = .none ∧ ∃ h' tk L es ep t, s2 = { s with heap := h', toks := tk } ∧ Tb P w h' s.heap.objs.size L es ep t ∧ Up ks ks.length L ∧ ∀ b o, s.heap.get? b = some o → h'.get? b = some o) E) F.called_set.init.plain F.entry_set_init (check_set_init_1 hT ?_)) fun r2 s2 hr2 => ?_
    · obtain ⟨ol, gl, cl, nl, dl⟩ := hl
      obtain ⟨lc, ld, lda, ls⟩ := ol
      simp only at cl dl
      subst cl dl
      have ll : l < s.heap.objs.size := Heap.lt_size gl
      have gl' := grow (newSetO w) l _ gl
      have il : (s.heap.push (newSetO w)).IsList l items := ⟨_, gl', rfl, nl, rfl⟩
      have hsls := F.sub_list_set
      have hslf := F.sub_list_frozenset
      have hne : (Value.type "list" == Value.type "dict") = false := by decide
      unfold Builtin.«set.__init__» noKeywords Builtin.Frozenset.updateFrom
      generalize hPI : pyIter = PI
      wp_walk
      subst hPI
      refine wpAny_pyIter_list il (wpAny_bind (wpAny_runValue ?_))
      have h3 : A.in1.in1.in1.handled = none := by simp [hh]
      have sz : (s.heap.push (newSetO w)).objs.size = s.heap.objs.size + 1 := Heap.size_push ..
      have nI : l ≠ (s.heap.push (newSetO w)).objs.size := by rw [sz]; exact Nat.ne_of_lt (Nat.lt_succ_of_lt ll)
      have nS : s.heap.objs.size ∉ [(s.heap.push (newSetO w)).objs.size, l] := by
        rw [sz]
        simp only [List.mem_cons, List.not_mem_nil, or_false, not_or]
        exact ⟨Nat.ne_of_lt (Nat.lt_succ_self _), Nat.ne_of_gt ll⟩
      have out : ∀ b, s.heap.objs.size ≤ b → s.heap.get? b = none := fun b hb => Heap.get?_none_of_le hb
      refine fill_up ((Walks.list h3 _ l nI items).toS) s.heap.objs.size nS ks zi bB lB (fun i v hv => ?_) s.heap hk (out _ (Nat.le_refl _)) (fun b hb => out b (by rw [List.mem_singleton.mp hb, sz]; exact Nat.le_succ _)) hu (s := { s with heap := (s.heap.push (newSetO w)).push { cls := .type "list_iterator", data := .fields #[.ref l, .int 0 0] } }) ?fin
        (items.size - 0) 0 _ (by omega) (Nat.zero_le _) ⟨⟨_, Heap.get?_push_size _ rfl, rfl, rfl⟩, il.push _⟩ ?mv (fun b o e => Heap.get?_push_of_some _ (grow _ b o e)) ⟨[], #[], 0, _, Tb.fresh (Heap.get?_push_of_some _ gS), ⟨fun e he => (by cases he), fun e he => (by cases he)⟩⟩
      · have e : items.toList[i]? = some v := by rw [Array.getElem?_toList]; exact hv
        rw [hi, List.getElem?_map] at e
        cases z : ks[i]? with
        | none => rw [z] at e; cases e
        | some d => rw [z] at e; exact ⟨d, rfl, (Option.some.inj e).symm⟩
      case mv => exact ⟨fun b o _ e => e, ((Walks.list h3 _ l nI items).toS (prog := P) (w := w)).grefl _, rfl, rfl, Nat.le_refl _⟩
      case fin =>
        intro s0 s' L es ep t mv T u k1 e0
        subst e0
        obtain ⟨h', g2, d', tk', os'⟩ := s'
        obtain rfl : g2 = s.gens := mv.gens
        obtain rfl : d' = s.drawn := mv.drawn
        obtain rfl : os' = s.os := mv.os
        show wpAny _ _ _ _ _ _
        refine wpAny_pure ?_
        show wpAny _ _ (ret Value.none) _ _ _
        rw [zi] at u
        exact wpAny_pure ⟨rfl, h', tk', L, es, ep, t, rfl, T, u, k1⟩
    · match r2, hr2 with
      | .error _, z => exact z
      | .ok .next, z => exact z.elim
      | .ok .brk, z => exact z.elim
      | .ok .cont, z => exact z.elim
      | .ok (.ret v), ⟨e1, h', tk, L, es, ep, t, e2, T, u, k1⟩ =>
        subst e1 e2
        repeat (any_goals (first | assumption | wp_step))
        exact q h' tk L es ep t T u k1
end
end Sq


set_option Elab.async false
set_option maxRecDepth 100000
set_option maxHeartbeats 4000000
/-! A set of pairs as a value: set(xs), sorted of such a set. -/
namespace VG
open PySem PySem.Spec PyProof.Rows L2 SrtO
section
variable {P : Program} {w : World} {A : Around} {E : Value → Shared → Prop} {s : Shared}
theorem sortedS_set {a : Addr} {L : Sq.Rw} {es : Array (Int × Value)} {ep : Nat} {t : SetTable} {k : Value → Int × Str} {Q : Value → Shared → Prop} (R : Sq.Tb P w s.heap a L es ep t) (hh : A.handled = none)
    (hp : ∀ e ∈ L, IsPS s.heap (Value.ref e.1) (k (Value.ref e.1)).1 (k (Value.ref e.1)).2)
    (hQ : ∀ s' p (out : List Value) (c : Nat), Srtd (fun v u => lexS (k v) (k u)) out → out.Perm (L.map fun e => Value.ref e.1) → (∀ b o, s.heap.get? b = some o → s'.heap.get? b = some o) → s'.gens = s.gens → s'.os = s.os → s.heap.objs.size ≤ p →
      s'.heap.get? p = some (seqObj "list" out.toArray c) → Q (.ref p) s') :
    wpAny (model P w) A (call (.builtin "sorted") [.ref a]) Q E s := by
  obtain ⟨o, ho, hex, hd⟩ := R.at_
  have hsz := R.sz
  have hfew := R.few
  refine Calls.call_function_entry kind_sorted plain_sorted entry_sorted (args_sorted1 _) ?_
  unfold Builtin.«sorted»
  refine wpAny_bind (m := checkCount "sorted" 1 1 _) (wpAny_pure ?_)
  refine wpAny_bind (collect_set (A := A.in1) hh ⟨o, ho, hex.1, hd⟩ R.fits (by unfold scanBound; omega) R.tab.ris R.led fun s1 vs k1 hz g1 o1 pm => ?_)
  have hes : es.toList.map (·.2) = L.map fun q => Value.ref q.1 := by
    rw [R.es_, List.map_map] <;> rfl
  rw [hes] at pm
  have hvl : vs.length < 1200 := by rw [pm.length_eq, List.length_map]; exact hfew
  have hvz : vs.length ≤ sizeLine := by rw [sizeLine_eq]; omega
  refine wpAny_bind (wpAny_newList ?_ hvz)
  have hoL : (s1.heap.push (seqObj "list" vs.toArray 0)).get? s1.heap.objs.size = some (seqObj "list" vs.toArray 0) := Heap.get?_push_size _ rfl
  have old : ∀ b o, s.heap.get? b = some o → b ≠ s1.heap.objs.size ∧ (s1.heap.push (seqObj "list" vs.toArray 0)).get? b = some o := fun b o q => by
    have lt : b < s1.heap.objs.size := Heap.lt_size (k1 b o q)
    exact ⟨Nat.ne_of_lt lt, Heap.get?_push_of_some _ (k1 b o q)⟩
  refine wpAny_bind (wpAny_holding (wpAny_call_entry slot_list_sort ⟨_, hoL, rfl⟩ entry_list_sort (list_sort_ord (swo_lexS k) hoL hvz (fun h2 => ?_) fun out hs hb => ⟨_, rfl, wpAny_pure ⟨_, rfl, ?_⟩⟩) (args_list_sort _)))
  · refine sortableS (s := { s1 with heap := s1.heap.push (seqObj "list" vs.toArray 0) }) (by omega) (fun v hm => ?_) fun o e => ?_
    · obtain ⟨e, he, q⟩ := List.mem_map.mp (pm.mem_iff.mp hm)
      rw [← q]
      exact (hp e he).keeps fun b o e _ => (old b o e).2
    · have e' : some o = some (seqObj "list" vs.toArray 0) := e.symm.trans hoL
      cases e'
      intro c
      exact absurd (Value.type.inj c) (by decide)
  · obtain ⟨c, hc⟩ := sortedHeap_at (vs := vs) (out := out.toArray) hoL
    refine hQ _ s1.heap.objs.size out c hs (hb.perm.trans pm) (fun b u e => ?_) g1 o1 hz hc
    have q := k1 b u e
    have hlt := Heap.lt_size q
    show (sortedHeap (s1.heap.push (seqObj "list" vs.toArray 0)) s1.heap.objs.size vs out.toArray).get? b = some u
    rw [sortedHeap_old (Nat.ne_of_lt hlt) (by rw [size_push']; exact Nat.lt_succ_of_lt hlt)]
    exact Heap.get?_push_of_some _ q
end
/-- the set at a, without the tuples themselves -/
def SetP0 (P : Program) (w : World) (L : Sq.Rw) (a : Addr) (h : Heap) : Prop :=
  ∃ (es : Array (Int × Value)) (ep : Nat) (t : SetTable), (∃ o, h.get? a = some o ∧ o.ExactSet ∧ o.data = .set es ep t) ∧ es.toList = (L.map fun e => (Sq.kh P w e.2, Value.ref e.1)) ∧ Sq.TabA t (L.map fun e => Sq.kh P w e.2) ∧ Sq.MaskF t.mask ∧ (L.map (·.2)).Nodup ∧
    (w.params.followText "set-order" = true ∨ t.led = true) ∧ L.length * 5 < t.mask * 3 ∧ L.length < 1200
def SetPO (P : Program) (w : World) (a : Addr) (L : Sq.Rw) : HO := .ext (SetP0 P w L a)
theorem Tb_p0 {P : Program} {w : World} {h : Heap} {a : Addr} {L : Sq.Rw} {es ep t} (R : Sq.Tb P w h a L es ep t) : SetP0 P w L a h := ⟨es, ep, t, R.at_, R.es_, R.tab, R.msk, R.uniq, R.led, R.gap, R.few⟩
theorem p0_Tb {P : Program} {w : World} {h : Heap} {a : Addr} {L : Sq.Rw} (R : SetP0 P w L a h) (hk : ∀ e ∈ L, Sq.IsM P w h e.2 e.1) : ∃ es ep t, Sq.Tb P w h a L es ep t := by
  obtain ⟨es, ep, t, h1, h2, h3, hm, h4, h6, h7, h8⟩ := R
  exact ⟨es, ep, t, h1, h2, h3, hm, h4, hk, h6, h7, h8⟩
theorem setPO_new {P : Program} {w : World} {H : Hp} {h : Heap} {a : Addr} {L : Sq.Rw} (R : SetP0 P w L a h) : ObjOk P w H h a (SetPO P w a L) := by
  have ⟨es, ep, t, ⟨o, ho, r⟩, q⟩ := R
  refine ⟨R, ⟨o, ho⟩, fun h1 h2 p k => ?_⟩
  have ⟨es', ep', t', ⟨o', ho', r'⟩, q'⟩ := p
  exact ⟨es', ep', t', ⟨o', k o' ho', r'⟩, q'⟩
theorem sq_refs : ∀ {ks : Sq.Rw} {us : List Value}, Vals (ks.map fun p => V.ref p.1) us → us = ks.map fun p => Value.ref p.1
  | [], _, .nil => rfl
  | p :: ks, _, .cons r t => by
    cases r
    rw [sq_refs t] <;> rfl
section
variable {X : Cx}
/-- set(xs), xs a list of tuples of numbers and texts, fewer than 63 distinct ones -/
def rSetOfP (K : PySem.W.Frag) (P : Program) (w : World) : List V → Hp → VK → Prop := fun xs H Q => ∃ (l : Addr) (ks : Sq.Rw) (B : List (List Key)), xs = [V.ref l] ∧ SqL K H l (ks.map fun p => V.ref p.1) ∧ (∀ p ∈ ks, H p.1 = some (.tup (p.2.map kV))) ∧
  (∀ p ∈ ks, p.2 ∈ B) ∧ B.length < 1199 ∧ ∀ a L, H a = none → (∀ p ∈ L, p ∈ ks) → (∀ p ∈ ks, p.2 ∈ L.map (·.2)) → (L.map (·.2)).Nodup → Q (.ref a) (upd H a (SetPO P w a L))
theorem cr_setOfP (hc : X.calm = true) (hu : X.A.units + 64 < cLine) : CallR X (.type "set") (rSetOfP X.K X.prog X.w) := by
  intro pins s σ H xs us Q I r h
  obtain ⟨l, ks, B, rfl, hl, hk, hb, hf, q⟩ := h
  rw [Vals.ref1 r]
  obtain ⟨its, rv, pl, hz⟩ := I.list hl
  have hn : H s.heap.objs.size = none := I.hok.fresh (Nat.le_refl _)
  refine Sq.call_set_list (P := X.prog) (w := X.w) ks hb hf (I.ok.hd hc) pl.isList (by simpa using sq_refs rv) (fun p hp => key_of I.hok (hk p hp)) (by omega) fun h' tk L es ep t R g k => ?_
  refine ⟨.ref s.heap.objs.size, upd H s.heap.objs.size (SetPO X.prog X.w s.heap.objs.size L), I.laid (t' := tk) k (Nat.le_refl _) (setPO_new (Tb_p0 R)), rfl, q _ L hn (fun p hp => ?_) (fun p hp => ?_) R.uniq⟩
  · exact List.mem_of_mem_take (g.of_ p hp)
  · exact g.has p (by rw [List.take_length]; exact hp)
/-- sorted(set) -/
def rSortedSP (P : Program) (w : World) : List V → Hp → VK → Prop := fun vs H Q => ∃ (a : Addr) (L : Sq.Rw) (k : V → Int × Str), vs = [V.ref a] ∧ H a = some (SetPO P w a L) ∧
  (∀ p ∈ L, p.2 = [.inl (k (.ref p.1)).1, .inr (k (.ref p.1)).2] ∧ H p.1 = some (.tup [.int (k (.ref p.1)).1, .str (k (.ref p.1)).2])) ∧
  ∀ ys p, Srtd (ltS k) ys → ys.Perm (L.map fun e => V.ref e.1) → H p = none → Q (.ref p) (upd H p (.lst ys))
theorem cr_sortedSP (hc : X.calm = true) : CallR X (.builtin "sorted") (rSortedSP X.prog X.w) := by
  intro pins s σ H vs us Q I r h
  obtain ⟨a, L, k, rfl, ha, hk, q⟩ := h
  have R0 : SetP0 X.prog X.w L a s.heap := (I.hok a _ ha).1
  obtain ⟨es, ep, t, R⟩ := p0_Tb R0 fun e he => by
    obtain ⟨e1, e2⟩ := hk e he
    rw [e1]
    exact key_of I.hok e2
  rw [Vals.ref1 r]
  refine sortedS_set (k := fun u => k (backV u)) R (I.ok.hd hc) (fun e he => ?_) fun s' p out c hs pm kp g o hp hg => ?_
  · obtain ⟨_, ht⟩ := hk e he
    obtain ⟨_, its2, r2, o, ho, hc, n, hd⟩ := I.hok _ _ ht
    obtain ⟨u1, u2, rfl, ⟨t1, rfl⟩, ⟨t2, rfl⟩⟩ := vals2 r2
    exact ⟨e.1, o, t1, t2, n, rfl, ho, hc, hd⟩
  · have h3 : ∀ u ∈ out, ∃ a, u = Value.ref a := fun u hu => by
      obtain ⟨e, _, q⟩ := List.mem_map.mp (pm.mem_iff.mp hu)
      exact ⟨e.1, q.symm⟩
    have hb : (out.map backV).Perm (L.map fun e => V.ref e.1) := by
      have z := pm.map backV
      rw [List.map_map] at z
      exact z
    have hn : H p = none := I.hok.fresh hp
    have hlen : (out.map backV).length ≤ sizeLine := by
      rw [List.length_map, pm.length_eq, List.length_map, sizeLine_eq]
      have := R.few
      omega
    have J : Inv X pins σ (upd H p (.lst (out.map backV))) { s with heap := s'.heap, gens := s'.gens, drawn := s'.drawn, toks := s'.toks } :=
      I.call (ch := []) (Un.laid kp hp hn) (I.hok.laid kp hp ⟨hlen, out, c, vals_back h3, hg⟩) (by rw [g]; exact I.bare) (fun _ z => nomatch z)
    have e : s' = { s with heap := s'.heap, gens := s'.gens, drawn := s'.drawn, toks := s'.toks } := by
      cases s'
      cases s
      cases o
      rfl
    rw [e]
    exact ⟨.ref p, _, J, rfl, q _ p (srtd_map hs) hb hn⟩
end
end VG


set_option Elab.async false
set_option maxRecDepth 100000
set_option maxHeartbeats 8000000
/-! set(xs), xs a tuple; sorted(set(xs)). -/
namespace Sq
open PySem PySem.Spec PyProof.Rows L2
section
variable {P : Program} {w : World} {A : Around} {E : Value → Shared → Prop} {s : Shared}
theorem call_set_tup {l : Addr} {items : Array Value} (ks : Rw) {B : List (List Key)} (bB : ∀ e ∈ ks, e.2 ∈ B) (lB : B.length < 1199) {Q : Value → Shared → Prop} (hh : A.handled = none) (hl : s.heap.IsTuple l items) (hi : items.toList = ks.map fun e => Value.ref e.1)
    (hk : ∀ e ∈ ks, IsM P w s.heap e.2 e.1) (hu : A.units + 3 < cLine)
    (q : ∀ (h' : Heap) (tk : Nat) L es ep t, Tb P w h' s.heap.objs.size L es ep t → Up ks ks.length L → (∀ b o, s.heap.get? b = some o → h'.get? b = some o) → Q (.ref s.heap.objs.size) { s with heap := h', toks := tk }) :
    wpAny (model P w) A (call (.type "set") [.ref l]) Q E s := by
  have zi : items.size = ks.length := by rw [← Array.length_toList, hi, List.length_map]
  have grow : ∀ (o : Obj) b u, s.heap.get? b = some u → (s.heap.push o).get? b = some u := fun o b u e => Heap.get?_push_of_some _ e
  obtain ⟨c, tl, hmro⟩ := F.called_set.mro
  have hmade := F.called_set.made
  have hsub := F.called_set.sub
  have h1 := F.called_set.notType
  have h2 := F.called_set.canCreate
  have hct := F.typeCall_set_1 (.ref l)
  refine wpAny_call (codeAny_of_tree ?_)
  show wpAny _ _ (callAny (.type "set") _) _ _ _
  refine wpAny_pure ⟨Code.quiet_builtin _ (by decide +kernel), codeAny_builtin F.entry_type_call ?_⟩
  rw [Around.under_plain (weight_type_call_type "set" [.ref l] []) rfl]
  repeat (any_goals (first | assumption | wp_step))
  refine codeAny_mono (code_set_led1 (.ref l) (E := E) (Q₁ := fun u s1 => u = .ref s.heap.objs.size ∧ s1 = { s with heap := s.heap.push (newSetO w) }) ⟨rfl, rfl⟩) fun r s1 hr => ?_
  match r, hr with
  | .error _, hr => exact hr
  | .ok .next, hr => exact hr.elim
  | .ok .brk, hr => exact hr.elim
  | .ok .cont, hr => exact hr.elim
  | .ok (.ret u), ⟨e1, e2⟩ =>
    subst e1 e2
    have gS : (s.heap.push (newSetO w)).get? s.heap.objs.size = some (newSetO w) := Heap.get?_push_size _ rfl
    have hT : Shared.TypeIs { s with heap := s.heap.push (newSetO w) } (.ref s.heap.objs.size) "set" := ⟨_, gS, rfl⟩
    have hli := F.called_set.init.lookup
    have hbi := F.called_set.init.bind (.ref s.heap.objs.size)
    repeat (any_goals (first | assumption | wp_step))
    refine codeAny_mono (codeAny_call_builtin (R := wants (fun r s2 => r = .none ∧ ∃ h' tk L es ep t, s2 = { s with heap := h', toks := tk } ∧ Tb P w h' s.heap.objs.size L es ep t ∧ Up ks ks.length L ∧ ∀ b o, s.heap.get? b = some o → h'.get? b = some o) E) F.called_set.init.plain F.entry_set_init (check_set_init_1 hT ?_)) fun r2 s2 hr2 => ?_
    · obtain ⟨ol, gl, cl, nl, dl⟩ := hl
      obtain ⟨lc, ld, lda, ls⟩ := ol
      simp only at cl dl
      subst cl dl
      have ll : l < s.heap.objs.size := Heap.lt_size gl
      have gl' := grow (newSetO w) l _ gl
      have il : (s.heap.push (newSetO w)).IsTuple l items := ⟨_, gl', rfl, nl, rfl⟩
      have hsls := F.sub_tuple_set
      have hslf := F.sub_tuple_frozenset
      have hne : (Value.type "tuple" == Value.type "dict") = false := by decide
      unfold Builtin.«set.__init__» noKeywords Builtin.Frozenset.updateFrom
      generalize hPI : pyIter = PI
      wp_walk
      subst hPI
      refine wpAny_pyIter_tuple il (wpAny_bind (wpAny_runValue ?_))
      have h3 : A.in1.in1.in1.handled = none := by simp [hh]
      have sz : (s.heap.push (newSetO w)).objs.size = s.heap.objs.size + 1 := Heap.size_push ..
      have nI : l ≠ (s.heap.push (newSetO w)).objs.size := by rw [sz]; exact Nat.ne_of_lt (Nat.lt_succ_of_lt ll)
      have nS : s.heap.objs.size ∉ [(s.heap.push (newSetO w)).objs.size, l] := by
        rw [sz]
        simp only [List.mem_cons, List.not_mem_nil, or_false, not_or]
        exact ⟨Nat.ne_of_lt (Nat.lt_succ_self _), Nat.ne_of_gt ll⟩
      have out : ∀ b, s.heap.objs.size ≤ b → s.heap.get? b = none := fun b hb => Heap.get?_none_of_le hb
      refine fill_up ((Walks.tuple h3 _ l nI items).toS) s.heap.objs.size nS ks zi bB lB (fun i v hv => ?_) s.heap hk (out _ (Nat.le_refl _)) (fun b hb => out b (by rw [List.mem_singleton.mp hb, sz]; exact Nat.le_succ _)) hu (s := { s with heap := (s.heap.push (newSetO w)).push { cls := .type "tuple_iterator", data := .fields #[.ref l, .int 0 0] } }) ?fin
        (items.size - 0) 0 _ (by omega) (Nat.zero_le _) ⟨⟨_, Heap.get?_push_size _ rfl, rfl, rfl⟩, il.push _⟩ ?mv (fun b o e => Heap.get?_push_of_some _ (grow _ b o e)) ⟨[], #[], 0, _, Tb.fresh (Heap.get?_push_of_some _ gS), ⟨fun e he => (by cases he), fun e he => (by cases he)⟩⟩
      · have e : items.toList[i]? = some v := by rw [Array.getElem?_toList]; exact hv
        rw [hi, List.getElem?_map] at e
        cases z : ks[i]? with
        | none => rw [z] at e; cases e
        | some d => rw [z] at e; exact ⟨d, rfl, (Option.some.inj e).symm⟩
      case mv => exact ⟨fun b o _ e => e, ((Walks.tuple h3 _ l nI items).toS (prog := P) (w := w)).grefl _, rfl, rfl, Nat.le_refl _⟩
      case fin =>
        intro s0 s' L es ep t mv T u k1 e0
        subst e0
        obtain ⟨h', g2, d', tk', os'⟩ := s'
        obtain rfl : g2 = s.gens := mv.gens
        obtain rfl : d' = s.drawn := mv.drawn
        obtain rfl : os' = s.os := mv.os
        show wpAny _ _ _ _ _ _
        refine wpAny_pure ?_
        show wpAny _ _ (ret Value.none) _ _ _
        rw [zi] at u
        exact wpAny_pure ⟨rfl, h', tk', L, es, ep, t, rfl, T, u, k1⟩
    · match r2, hr2 with
      | .error _, z => exact z
      | .ok .next, z => exact z.elim
      | .ok .brk, z => exact z.elim
      | .ok .cont, z => exact z.elim
      | .ok (.ret v), ⟨e1, h', tk, L, es, ep, t, e2, T, u, k1⟩ =>
        subst e1 e2
        repeat (any_goals (first | assumption | wp_step))
        exact q h' tk L es ep t T u k1
end
end Sq
namespace VG
open PySem PySem.Spec PyProof.Rows L2 SrtO
section
variable {X : Cx}
/-- set(xs), xs a list or a tuple of tuples of numbers and texts -/
def rSetOfA (K : PySem.W.Frag) (P : Program) (w : World) : List V → Hp → VK → Prop := fun xs H Q => ∃ (l : Addr) (ks : Sq.Rw) (B : List (List Key)), xs = [V.ref l] ∧ (SqL K H l (ks.map fun p => V.ref p.1) ∨ SqT K H l (ks.map fun p => V.ref p.1)) ∧ (∀ p ∈ ks, H p.1 = some (.tup (p.2.map kV))) ∧
  (∀ p ∈ ks, p.2 ∈ B) ∧ B.length < 1199 ∧ ∀ a L, H a = none → (∀ p ∈ L, p ∈ ks) → (∀ p ∈ ks, p.2 ∈ L.map (·.2)) → (L.map (·.2)).Nodup → Q (.ref a) (upd H a (SetPO P w a L))
theorem cr_setOfA (hc : X.calm = true) (hu : X.A.units + 64 < cLine) : CallR X (.type "set") (rSetOfA X.K X.prog X.w) := by
  intro pins s σ H xs us Q I r h
  obtain ⟨l, ks, B, rfl, hl, hk, hb, hf, q⟩ := h
  have hn : H s.heap.objs.size = none := I.hok.fresh (Nat.le_refl _)
  rcases hl with hl | hl
  · rw [Vals.ref1 r]
    obtain ⟨its, rv, pl, hz⟩ := I.list hl
    refine Sq.call_set_list (P := X.prog) (w := X.w) ks hb hf (I.ok.hd hc) pl.isList (by simpa using sq_refs rv) (fun p hp => key_of I.hok (hk p hp)) (by omega) fun h' tk L es ep t R g k => ?_
    refine ⟨.ref s.heap.objs.size, upd H s.heap.objs.size (SetPO X.prog X.w s.heap.objs.size L), I.laid (t' := tk) k (Nat.le_refl _) (setPO_new (Tb_p0 R)), rfl, q _ L hn (fun p hp => ?_) (fun p hp => ?_) R.uniq⟩
    · exact List.mem_of_mem_take (g.of_ p hp)
    · exact g.has p (by rw [List.take_length]; exact hp)
  · rw [Vals.ref1 r]
    obtain ⟨its, rv, pl, hz⟩ := I.tuple hl
    refine Sq.call_set_tup (P := X.prog) (w := X.w) ks hb hf (I.ok.hd hc) pl (by simpa using sq_refs rv) (fun p hp => key_of I.hok (hk p hp)) (by omega) fun h' tk L es ep t R g k => ?_
    refine ⟨.ref s.heap.objs.size, upd H s.heap.objs.size (SetPO X.prog X.w s.heap.objs.size L), I.laid (t' := tk) k (Nat.le_refl _) (setPO_new (Tb_p0 R)), rfl, q _ L hn (fun p hp => ?_) (fun p hp => ?_) R.uniq⟩
    · exact List.mem_of_mem_take (g.of_ p hp)
    · exact g.has p (by rw [List.take_length]; exact hp)
end
end VG


set_option Elab.async false
set_option maxRecDepth 100000
set_option maxHeartbeats 4000000
set_option exponentiation.threshold 3000
/-! Codes and their inner nodes. -/
namespace Vf
open PySem L2 SX
/-- x is above y, and not y -/
def Above (x y : Pf) : Prop := x.1 = y.1 ∧ ∃ t, t ≠ [] ∧ y.2 = x.2 ++ t
def Inn (L : List Pf) (x : Pf) : Prop := ∃ e ∈ L, Above x e
theorem Above.trans {x y z : Pf} (h : Above x y) (h2 : Above y z) : Above x z := by
  obtain ⟨r, t, n, e⟩ := h
  obtain ⟨r2, t2, n2, e2⟩ := h2
  exact ⟨r.trans r2, t ++ t2, by simp [n], by rw [e2, e, List.append_assoc]⟩
theorem Above.len {x y : Pf} (h : Above x y) : x.2.length < y.2.length := by
  obtain ⟨_, t, n, e⟩ := h
  rw [e, List.length_append]
  have := List.length_pos_iff.mpr n
  omega
theorem pw_mem {α : Type} {Q : α → α → Prop} (sy : ∀ {a b}, Q a b → Q b a) : ∀ {l : List α}, l.Pairwise Q → ∀ {x y}, x ∈ l → y ∈ l → x = y ∨ Q x y
  | [], _, _, _, hx, _ => absurd hx List.not_mem_nil
  | a :: l, h, x, y, hx, hy => by
    obtain ⟨h1, h2⟩ := List.pairwise_cons.mp h
    rcases List.mem_cons.mp hx with e1 | mx
    · rcases List.mem_cons.mp hy with e2 | my
      · exact .inl (e1.trans e2.symm)
      · exact .inr (by rw [e1]; exact h1 _ my)
    · rcases List.mem_cons.mp hy with e2 | my
      · exact .inr (by rw [e2]; exact sy (h1 _ mx))
      · exact pw_mem sy h2 mx my
theorem dj_below {b N : Nat} (b0 : 0 < b) {x y : Pf} (d : Disj b N x y) (dy : Dg b y.2) (ny : y.2.length ≤ N) (r : x.1 = y.1) {t : List Nat} (e : y.2 = x.2 ++ t) : False := by
  have h := in_app (b := b) (N := N) (u := x.2) (w := t) (by rw [e] at dy; exact dy.right) (by rw [← e]; exact ny)
  rw [← e] at h
  have := lo_lt_hi (N := N) b0 x.2
  have := lo_lt_hi (N := N) b0 y.2
  rcases d with d | d | d
  · exact d r
  · omega
  · omega
section
variable {b N R : Nat} {L : List Pf}
theorem Leaf.alone (b0 : 0 < b) (h : Leaf b N R L) {x y : Pf} (hx : x ∈ L) (hy : y ∈ L) : ¬ Above x y := by
  rintro ⟨r, t, n, e⟩
  rcases pw_mem (fun d => Disj.symm d) h.dj hx hy with z | d
  · subst z
    exact n (by simpa using e)
  · exact dj_below b0 d (h.ok y hy).dg (h.ok y hy).le r e
theorem Leaf.nodup (b0 : 0 < b) (h : Leaf b N R L) : L.Nodup := by
  refine List.Pairwise.imp_of_mem (fun {x y} hx hy d e => ?_) h.dj
  subst e
  exact dj_below b0 d (h.ok x hx).dg (h.ok x hx).le rfl (t := []) (by simp)
theorem cov_at : ∀ {L : List Pf} {root x r y : Nat}, covT b N R root x L = true → r < R → (root < r ∨ (root = r ∧ x ≤ y)) → y < b ^ N → ∃ e ∈ L, e.1 = r ∧ lo b N e.2 ≤ y ∧ y < hi b N e.2
  | [], root, x, r, y, h, hr, hx, _ => by
    have e : root = R := of_decide_eq_true h
    omega
  | e :: L, root, x, r, y, h, hr, hx, hy => by
    unfold covT at h
    split at h
    · rename_i c
      obtain ⟨c1, c2⟩ := c
      split at h
      · rename_i c3
        by_cases z : root = r
        · refine ⟨e, List.mem_cons_self, by omega, ?_, by omega⟩
          rw [c2]
          omega
        · obtain ⟨f, h1, h2⟩ := cov_at h hr (by omega) hy
          exact ⟨f, List.mem_cons_of_mem _ h1, h2⟩
      · by_cases z : root = r ∧ y < hi b N e.2
        · refine ⟨e, List.mem_cons_self, by omega, ?_, z.2⟩
          rw [c2]
          omega
        · obtain ⟨f, h1, h2⟩ := cov_at h hr (by omega) hy
          exact ⟨f, List.mem_cons_of_mem _ h1, h2⟩
    · cases h
/-- what stands at the beginning of x's share -/
theorem Leaf.at_ (b0 : 0 < b) (h : Leaf b N R L) (s : SrtP L) {x : Pf} (ox : PfOk b N R x) : ∃ e ∈ L, (e.1 = x.1 ∧ ∃ t, e.2 = x.2 ++ t ∧ Zs t) ∨ Above e x := by
  have lx := lo_lt_hi (N := N) b0 x.2
  have hx := hi_le ox.dg ox.le
  obtain ⟨e, he, er, e1, e2⟩ := cov_at (h.cov b0 s) ox.r (y := lo b N x.2) (by omega) (by omega)
  have oe := h.ok e he
  refine ⟨e, he, ?_⟩
  rcases part e.2 x.2 with ⟨t, z⟩ | ⟨t, z⟩ | ⟨p, c, d, r, q, z1, z2, ne⟩
  · by_cases n : t = []
    · exact .inl ⟨er, [], by rw [z, n]; simp, fun c hc => (by cases hc)⟩
    · exact .inr ⟨er, t, n, z⟩
  · refine .inl ⟨er, t, z, ?_⟩
    have le := oe.le
    have dt : Dg b t := by have := oe.dg; rw [z] at this; exact this.right
    rw [z] at le e1
    rw [lo_app le] at e1
    refine (val_zero b0 dt).mp ?_
    have p0 := Nat.pow_pos (n := N - (x.2 ++ t).length) b0
    rcases Nat.eq_zero_or_pos (val b t) with q | q
    · exact q
    · have := Nat.mul_pos q p0
      omega
  · have dg := oe.dg
    have le := oe.le
    have dx := ox.dg
    have nx := ox.le
    rw [z1] at dg le e1 e2
    rw [z2] at dx nx e1 e2 lx
    have l2 := lo_lt_hi (N := N) b0 (p ++ c :: r)
    rcases Nat.lt_or_ge c d with g | g
    · have := part_lt dg dx le nx g
      omega
    · have := part_lt dx dg nx le (by omega : d < c)
      omega
theorem inn_ok (h : Leaf b N R L) {x : Pf} (hx : Inn L x) : PfOk b N R x ∧ x.2.length < N := by
  obtain ⟨f, hf, r, t, n, e⟩ := hx
  have o := h.ok f hf
  have dg := o.dg
  have le := o.le
  rw [e] at dg le
  rw [List.length_append] at le
  have := List.length_pos_iff.mpr n
  exact ⟨⟨by rw [r]; exact o.r, dg.left, by omega⟩, by omega⟩
theorem zs_rep : ∀ {t : List Nat}, Zs t → t = List.replicate t.length 48 := fun {t} h => List.eq_replicate_iff.mpr ⟨rfl, h⟩
/-- below each inner node one leaf goes on with zeros alone -/
theorem Leaf.zeros (b0 : 0 < b) (h : Leaf b N R L) (s : SrtP L) {x : Pf} (hx : Inn L x) : ∃ k, (x.1, x.2 ++ List.replicate (k + 1) 48) ∈ L := by
  obtain ⟨e, he, z⟩ := h.at_ b0 s (inn_ok h hx).1
  obtain ⟨f, hf, ab⟩ := hx
  rcases z with ⟨r, t, e1, zt⟩ | z
  · cases t with
    | nil =>
      rw [List.append_nil] at e1
      have ex : e = x := Prod.ext r e1
      subst ex
      exact absurd ab (h.alone b0 he hf)
    | cons c t =>
      refine ⟨t.length, ?_⟩
      have q := zs_rep zt
      have ee : e = (x.1, x.2 ++ List.replicate (t.length + 1) 48) := Prod.ext r (by rw [e1, q]; simp)
      rw [← ee]
      exact he
  · exact absurd (z.trans ab) (h.alone b0 he hf)
/-! ### the rows that the inner nodes make -/
def cand (b R : Nat) (I : List Pf) : List Pf := (List.range R).map (fun r => (r, [])) ++ I.flatMap (kids b)
def byI (b R : Nat) (I : List Pf) : List Pf := (cand b R I).filter fun y => decide (y ∉ I)
theorem kid_above {e x : Pf} (h : x ∈ kids b e) : Above e x := by
  obtain ⟨i, _, rfl⟩ := kid_mem h
  exact ⟨rfl, [48 + i], by simp, rfl⟩
theorem kids_nodup {e : Pf} : (kids b e).Nodup := by
  refine List.pairwise_map.mpr (List.Pairwise.imp (fun {i j} h z => ?_) (List.nodup_range (n := b)))
  have z2 := congrArg Prod.snd z
  have z3 : ([48 + i] : List Nat) = [48 + j] := List.append_cancel_left z2
  injection z3 with z4 _
  omega
theorem kid_parent {e f x : Pf} (h : x ∈ kids b e) (h2 : x ∈ kids b f) : e = f := by
  obtain ⟨i, _, rfl⟩ := kid_mem h
  obtain ⟨j, _, z⟩ := kid_mem h2
  have z1 := congrArg Prod.fst z
  have z2 : e.2 ++ [48 + i] = f.2 ++ [48 + j] := congrArg Prod.snd z
  have z3 := congrArg List.dropLast z2
  simp at z3
  exact Prod.ext z1 z3
theorem cand_nodup {I : List Pf} (nd : I.Nodup) : (cand b R I).Nodup := by
  refine List.nodup_append.mpr ⟨?_, ?_, ?_⟩
  · refine List.pairwise_map.mpr (List.Pairwise.imp (fun {i j} h z => ?_) (List.nodup_range (n := R)))
    injection z with z1 _
    exact h z1
  · refine List.pairwise_flatMap.mpr ⟨fun e _ => kids_nodup, List.Pairwise.imp (fun {e f} ne x hx y hy z => ?_) nd⟩
    subst z
    exact ne (kid_parent hx hy)
  · rintro x hx y hy z
    subst z
    obtain ⟨r, _, rfl⟩ := List.mem_map.mp hx
    obtain ⟨e, _, he⟩ := List.mem_flatMap.mp hy
    obtain ⟨i, _, z⟩ := kid_mem he
    have z2 : ([] : List Nat) = e.2 ++ [48 + i] := congrArg Prod.snd z
    simp at z2
theorem byI_nodup {I : List Pf} (nd : I.Nodup) : (byI b R I).Nodup := (cand_nodup nd).filter _
theorem mem_byI {I : List Pf} {y : Pf} : y ∈ byI b R I ↔ y ∈ cand b R I ∧ y ∉ I := by
  unfold byI
  rw [List.mem_filter, decide_eq_true_iff]
theorem mem_cand {I : List Pf} {y : Pf} : y ∈ cand b R I ↔ (y.1 < R ∧ y.2 = []) ∨ ∃ e ∈ I, y ∈ kids b e := by
  unfold cand
  rw [List.mem_append, List.mem_flatMap]
  refine or_congr ⟨fun h => ?_, fun h => ?_⟩ Iff.rfl
  · obtain ⟨r, hr, rfl⟩ := List.mem_map.mp h
    exact ⟨List.mem_range.mp hr, rfl⟩
  · exact List.mem_map.mpr ⟨y.1, List.mem_range.mpr h.1, Prod.ext rfl h.2.symm⟩
theorem kid_of {z : List Nat} {r c : Nat} (h : 48 ≤ c ∧ c < 48 + b) : ((r, z ++ [c]) : Pf) ∈ kids b (r, z) := by
  refine List.mem_map.mpr ⟨c - 48, List.mem_range.mpr (by omega), ?_⟩
  show (r, z ++ [48 + (c - 48)]) = _
  rw [show 48 + (c - 48) = c by omega]
theorem snoc_of : ∀ {l : List Nat}, l ≠ [] → ∃ z c, l = z ++ [c] := fun {l} h => ⟨l.dropLast, l.getLast h, (List.dropLast_concat_getLast h).symm⟩
/-- a code is told by its inner nodes -/
theorem Leaf.byI (b0 : 0 < b) (h : Leaf b N R L) (s : SrtP L) {I : List Pf} (nd : I.Nodup) (hI : ∀ x, x ∈ I ↔ Inn L x) : (byI b R I).Perm L := by
  refine (List.perm_ext_iff_of_nodup (byI_nodup nd) (h.nodup b0)).mpr fun y => ?_
  rw [mem_byI, mem_cand, hI y]
  constructor
  · rintro ⟨hy, no⟩
    have oy : PfOk b N R y ∧ ∀ e ∈ L, ¬ Above e y := by
      rcases hy with ⟨y1, y2⟩ | ⟨e, he, hk⟩
      · refine ⟨⟨y1, by rw [y2]; exact fun c hc => (by cases hc), by rw [y2]; exact Nat.zero_le _⟩, fun e he z => ?_⟩
        have := z.len
        rw [y2] at this
        exact absurd this (Nat.not_lt_zero _)
      · obtain ⟨oe, le⟩ := inn_ok h ((hI e).mp he)
        refine ⟨(kid_ok oe le hk).1, fun f hf z => ?_⟩
        obtain ⟨g, hg, ab⟩ := (hI e).mp he
        obtain ⟨i, _, rfl⟩ := kid_mem hk
        obtain ⟨zr, t, n, ze⟩ := z
        obtain ⟨t0, c, rfl⟩ := snoc_of n
        have z3 : e.2 = f.2 ++ t0 := by
          have q := congrArg List.dropLast ze
          rw [← List.append_assoc] at q
          simpa using q
        by_cases c0 : t0 = []
        · subst c0
          rw [List.append_nil] at z3
          exact h.alone b0 hf hg (by rw [show f = e from Prod.ext zr z3.symm]; exact ab)
        · exact h.alone b0 hf hg (Above.trans (y := e) ⟨zr, t0, c0, z3⟩ ab)
    obtain ⟨e, he, z⟩ := h.at_ b0 s oy.1
    rcases z with ⟨r, t, e1, _⟩ | z
    · by_cases c : t = []
      · rw [show y = e from Prod.ext r.symm (by rw [e1, c, List.append_nil])]
        exact he
      · exact absurd ⟨e, he, r.symm, t, c, e1⟩ no
    · exact absurd z (oy.2 e he)
  · intro hy
    refine ⟨?_, ?_⟩
    · by_cases c : y.2 = []
      · exact .inl ⟨(h.ok y hy).r, c⟩
      · obtain ⟨z, d, e⟩ := snoc_of c
        have dg := (h.ok y hy).dg
        rw [e] at dg
        refine .inr ⟨(y.1, z), (hI _).mpr ⟨y, hy, rfl, [d], by simp, e⟩, ?_⟩
        have k := kid_of (b := b) (z := z) (r := y.1) (dg d (by simp))
        rw [← e] at k
        exact k
    · rintro ⟨f, hf, ab⟩
      exact h.alone b0 hy hf ab
end
end Vf


set_option Elab.async false
set_option maxRecDepth 100000
set_option maxHeartbeats 4000000
set_option exponentiation.threshold 3000
/-! Codes: a row split, rows joined. -/
namespace Vf
open PySem L2 SX
section
variable {b N R : Nat} {L : List Pf}
theorem Leaf.ord (b0 : 0 < b) (h : Leaf b N R L) (s : SrtP L) : L.Pairwise (Ord b N) := by
  have s' : L.Pairwise fun x y => VG.lexS (kP y) (kP x) = false := List.pairwise_map.mp s
  refine List.Pairwise.imp_of_mem (fun {x y} hx hy z => ?_) (List.pairwise_and_iff.mpr ⟨s', h.dj⟩)
  have no := VG.lexS_no.mp z.1
  have ox := h.ok x hx
  have oy := h.ok y hy
  have c0 : ¬ y.1 < x.1 := fun q => no (.inl (by show (y.1 : Int) < x.1; omega))
  rcases Nat.lt_or_ge x.1 y.1 with c | c
  · exact .inl c
  · have e : x.1 = y.1 := by omega
    refine .inr ⟨e, ?_⟩
    rcases z.2 with q | q | q
    · exact absurd e q
    · exact q
    · have bf := (before_iff b0 oy.dg ox.dg oy.le ox.le).mpr q
      exact absurd (.inr ⟨by show (y.1 : Int) = x.1; omega, by show (S y.2).cps.toList < (S x.2).cps.toList; simpa using bf.1⟩) no
/-- strictly one behind the other -/
def Lt (x y : Pf) : Prop := x.1 < y.1 ∨ (x.1 = y.1 ∧ x.2 < y.2)
theorem lt_srt {I : List Pf} (h : I.Pairwise Lt) : SrtP I := by
  unfold SrtP
  refine List.pairwise_map.mpr (h.imp fun {x y} z => ?_)
  refine VG.lexS_no.mpr fun q => ?_
  have q' : (y.1 : Int) < x.1 ∨ ((y.1 : Int) = x.1 ∧ y.2 < x.2) := by
    rcases q with q | ⟨q1, q2⟩
    · exact .inl q
    · exact .inr ⟨q1, by have q2 : (S y.2).cps.toList < (S x.2).cps.toList := q2; simpa using q2⟩
  rcases z with z | ⟨z1, z2⟩
  · omega
  · rcases q' with q | ⟨_, q⟩
    · omega
    · exact absurd q (List.lt_asymm z2)
theorem lt_nodup {I : List Pf} (h : I.Pairwise Lt) : I.Nodup := h.imp fun {x y} z e => by
  subst e
  rcases z with z | ⟨_, z⟩
  · omega
  · exact List.lt_irrefl _ z
theorem ord_lt (b0 : 0 < b) {x y : Pf} (ox : PfOk b N R x) (oy : PfOk b N R y) (o : Ord b N x y) : Lt x y := by
  rcases o with o | ⟨o1, o2⟩
  · exact .inl o
  · exact .inr ⟨o1, ((before_iff b0 ox.dg oy.dg ox.le oy.le).mpr o2).1⟩
theorem ord_srt (b0 : 0 < b) (ok : ∀ e ∈ L, PfOk b N R e) (o : L.Pairwise (Ord b N)) : SrtP L :=
  lt_srt (List.Pairwise.imp_of_mem (fun {_ _} hx hy z => ord_lt b0 (ok _ hx) (ok _ hy) z) o)
theorem kids_ord {e : Pf} (oe : PfOk b N R e) (hN : e.2.length < N) : (kids b e).Pairwise (Ord b N) := by
  refine List.pairwise_map.mpr (List.Pairwise.imp_of_mem (fun {i j} hi hj h => .inr ⟨rfl, ?_⟩) (List.pairwise_lt_range (n := b)))
  have k : ∀ i, i ∈ List.range b → PfOk b N R (e.1, e.2 ++ [48 + i]) := fun i hi => (kid_ok oe hN (List.mem_map.mpr ⟨i, hi, rfl⟩)).1
  exact part_lt (k i hi).dg (k j hj).dg (k i hi).le (k j hj).le (by omega)
theorem Leaf.split_srt (b0 : 0 < b) {A B : List Pf} {e : Pf} (h : Leaf b N R (A ++ e :: B)) (s : SrtP (A ++ e :: B)) (hN : e.2.length < N) : Leaf b N R (A ++ kids b e ++ B) ∧ SrtP (A ++ kids b e ++ B) := by
  have oe := h.ok e (List.mem_append_right _ List.mem_cons_self)
  have pm : (A ++ B ++ kids b e).Perm (A ++ kids b e ++ B) := by
    rw [List.append_assoc, List.append_assoc]
    exact List.Perm.append_left A List.perm_append_comm
  have lf := (h.split hN).perm pm
  refine ⟨lf, ord_srt b0 lf.ok ?_⟩
  obtain ⟨o1, o2, o3⟩ := List.pairwise_append.mp (h.ord b0 s)
  obtain ⟨o4, o5⟩ := List.pairwise_cons.mp o2
  refine List.pairwise_append.mpr ⟨List.pairwise_append.mpr ⟨o1, kids_ord oe hN, fun a ha x hx => ?_⟩, o5, fun x hx c hc => ?_⟩
  · obtain ⟨_, k2, k3, k4⟩ := kid_ok oe hN hx
    rcases o3 a ha e List.mem_cons_self with q | ⟨q1, q2⟩
    · exact .inl (by omega)
    · exact .inr ⟨by omega, by omega⟩
  · rcases List.mem_append.mp hx with hx | hx
    · exact o3 x hx c (List.mem_cons_of_mem _ hc)
    · obtain ⟨_, k2, k3, k4⟩ := kid_ok oe hN hx
      rcases o4 c hc with q | ⟨q1, q2⟩
      · exact .inl (by omega)
      · exact .inr ⟨by omega, by omega⟩
theorem above_kid {x e k : Pf} (hk : k ∈ kids b e) (h : Above x k) : x = e ∨ Above x e := by
  obtain ⟨i, _, rfl⟩ := kid_mem hk
  obtain ⟨zr, t, n, ze⟩ := h
  obtain ⟨t0, c, rfl⟩ := snoc_of n
  have z3 : e.2 = x.2 ++ t0 := by
    have q := congrArg List.dropLast ze
    rw [← List.append_assoc] at q
    simpa using q
  by_cases c0 : t0 = []
  · subst c0
    rw [List.append_nil] at z3
    exact .inl (Prod.ext zr z3.symm)
  · exact .inr ⟨zr, t0, c0, z3⟩
theorem kid0 (b0 : 0 < b) {e : Pf} : ((e.1, e.2 ++ [48]) : Pf) ∈ kids b e := List.mem_map.mpr ⟨0, List.mem_range.mpr b0, rfl⟩
theorem inn_split (b0 : 0 < b) {A B : List Pf} {e : Pf} {x : Pf} : Inn (A ++ kids b e ++ B) x ↔ Inn (A ++ e :: B) x ∨ x = e := by
  constructor
  · rintro ⟨f, hf, ab⟩
    rcases List.mem_append.mp hf with hf | hf
    · rcases List.mem_append.mp hf with hf | hf
      · exact .inl ⟨f, List.mem_append_left _ hf, ab⟩
      · rcases above_kid hf ab with z | z
        · exact .inr z
        · exact .inl ⟨e, List.mem_append_right _ List.mem_cons_self, z⟩
    · exact .inl ⟨f, List.mem_append_right _ (List.mem_cons_of_mem _ hf), ab⟩
  · have k0 : ((e.1, e.2 ++ [48]) : Pf) ∈ A ++ kids b e ++ B := List.mem_append_left _ (List.mem_append_right _ (kid0 b0))
    rintro (⟨f, hf, ab⟩ | z)
    · rcases List.mem_append.mp hf with hf | hf
      · exact ⟨f, List.mem_append_left _ (List.mem_append_left _ hf), ab⟩
      · rcases List.mem_cons.mp hf with z | hf
        · rw [z] at ab
          exact ⟨_, k0, ab.trans (kid_above (kid0 b0))⟩
        · exact ⟨f, List.mem_append_right _ hf, ab⟩
    · rw [z]
      exact ⟨_, k0, kid_above (kid0 b0)⟩
theorem Leaf.join (b0 : 0 < b) {M : List Pf} {e : Pf} (h : Leaf b N R (kids b e ++ M)) : Leaf b N R (e :: M) ∧ e.2.length < N := by
  have ok0 := h.ok _ (List.mem_append_left _ (kid0 (b := b) b0 (e := e)))
  have len : e.2.length < N := by
    have := ok0.le
    rw [List.length_append] at this
    exact this
  have oe : PfOk b N R e := ⟨ok0.r, ok0.dg.left, by omega⟩
  obtain ⟨_, d2, d3⟩ := List.pairwise_append.mp h.dj
  refine ⟨⟨fun x hx => ?_, List.pairwise_cons.mpr ⟨fun m hm => ?_, d2⟩, fun r hr => ?_⟩, len⟩
  · rcases List.mem_cons.mp hx with z | hx
    · rw [z]
      exact oe
    · exact h.ok x (List.mem_append_right _ hx)
  · have om := h.ok m (List.mem_append_right _ hm)
    by_cases c : e.1 = m.1
    · rcases part e.2 m.2 with ⟨t, z⟩ | ⟨t, z⟩ | ⟨p, c1, d1, r, q, z1, z2, ne⟩
      · exfalso
        cases t with
        | nil =>
          rw [List.append_nil] at z
          exact dj_below b0 (d3 _ (kid0 b0) m hm).symm ok0.dg ok0.le c.symm (t := [48]) (by rw [z])
        | cons c1 t =>
          have dm := om.dg
          rw [z] at dm
          exact dj_below b0 (d3 _ (kid_of (r := e.1) (z := e.2) (dm.right c1 List.mem_cons_self)) m hm) om.dg om.le c (t := t) (by rw [z]; simp)
      · exact (dj_below b0 (d3 _ (kid0 b0) m hm).symm ok0.dg ok0.le c.symm (t := t ++ [48]) (by show e.2 ++ [48] = _; rw [z, List.append_assoc])).elim
      · have de := oe.dg
        have le := oe.le
        have dm := om.dg
        have lm := om.le
        rw [z1] at de le
        rw [z2] at dm lm
        unfold Disj
        rw [z1, z2]
        rcases Nat.lt_or_ge c1 d1 with g | g
        · exact .inr (.inl (part_lt de dm le lm g))
        · exact .inr (.inr (part_lt dm de lm le (by omega)))
    · exact .inl c
  · have t := h.tt r hr
    rw [tot_app, kids_tot len] at t
    exact t
/-- sorted rows -/
theorem sort_ex (M : List Pf) : ∃ L : List Pf, L.Perm M ∧ SrtP L := by
  have O := VG.swo_lexS (α := Int × Str) id
  refine ⟨M.mergeSort fun x y => !VG.lexS (kP y) (kP x), List.mergeSort_perm _ _, List.pairwise_map.mpr ((List.pairwise_mergeSort (fun a c d h1 h2 => ?_) (fun a c => ?_) M).imp fun {x y} h => by simpa using h)⟩
  · simp only [Bool.not_eq_true'] at h1 h2 ⊢
    rw [VG.lexS_no] at h1 h2 ⊢
    intro h3
    have a1 : ¬ ((c.1 : Int) < a.1 ∨ ((c.1 : Int) = a.1 ∧ (S c.2).cps.toList < (S a.2).cps.toList)) := h1
    have a2 : ¬ ((d.1 : Int) < c.1 ∨ ((d.1 : Int) = c.1 ∧ (S d.2).cps.toList < (S c.2).cps.toList)) := h2
    have a3 : (d.1 : Int) < a.1 ∨ ((d.1 : Int) = a.1 ∧ (S d.2).cps.toList < (S a.2).cps.toList) := h3
    have b1 : ¬ ((c.1 : Int) < a.1) := fun z => a1 (.inl z)
    have b2 : ¬ ((d.1 : Int) < c.1) := fun z => a2 (.inl z)
    rcases a3 with z | ⟨z1, z2⟩
    · omega
    · have e1 : (c.1 : Int) = a.1 := by omega
      have e2 : (d.1 : Int) = c.1 := by omega
      exact VG.nat_le_trans (fun z => a1 (.inr ⟨e1, z⟩)) (fun z => a2 (.inr ⟨e2, z⟩)) z2
  · simp only [Bool.or_eq_true, Bool.not_eq_true']
    cases z : VG.lexS (kP c) (kP a) with
    | false => exact .inl rfl
    | true =>
      refine .inr (VG.lexS_no.mpr fun q => ?_)
      have z' := VG.lexS_iff.mp z
      have z1 : (c.1 : Int) < a.1 ∨ ((c.1 : Int) = a.1 ∧ (S c.2).cps.toList < (S a.2).cps.toList) := z'
      have q1 : (a.1 : Int) < c.1 ∨ ((a.1 : Int) = c.1 ∧ (S a.2).cps.toList < (S c.2).cps.toList) := q
      rcases z1 with z1 | ⟨z1, z2⟩
      · rcases q1 with q1 | ⟨q1, q2⟩ <;> omega
      · rcases q1 with q1 | ⟨q1, q2⟩
        · omega
        · exact VG.nat_lt_asymm z2 q2
/-- a code that has all that follow e by one digit has them one behind the other -/
theorem Leaf.gather (b0 : 0 < b) (h : Leaf b N R L) (s : SrtP L) {e : Pf} (hk : ∀ x ∈ kids b e, x ∈ L) : ∃ A B, L = A ++ kids b e ++ B ∧ Leaf b N R (A ++ e :: B) ∧ SrtP (A ++ e :: B) ∧ e.2.length < N := by
  have pm : (kids b e ++ L.filter fun x => decide (x ∉ kids b e)).Perm L := by
    refine (List.perm_ext_iff_of_nodup (List.nodup_append.mpr ⟨kids_nodup, (h.nodup b0).filter _, fun x hx y hy z => ?_⟩) (h.nodup b0)).mpr fun y => ?_
    · subst z
      exact of_decide_eq_true (List.mem_filter.mp hy).2 hx
    · rw [List.mem_append, List.mem_filter, decide_eq_true_iff]
      constructor
      · rintro (z | z)
        · exact hk y z
        · exact z.1
      · intro z
        by_cases c : y ∈ kids b e
        · exact .inl c
        · exact .inr ⟨z, c⟩
  generalize (L.filter fun x => decide (x ∉ kids b e)) = M at pm
  obtain ⟨j, len⟩ := (h.perm pm.symm).join b0
  obtain ⟨L', p', s'⟩ := sort_ex (e :: M)
  obtain ⟨A, B, rfl⟩ := List.append_of_mem (p'.mem_iff.mpr List.mem_cons_self)
  have j' := j.perm p'.symm
  obtain ⟨_, s2⟩ := j'.split_srt b0 s' len
  refine ⟨A, B, ?_, j', s', len⟩
  refine srt_uniq s s2 (pm.symm.trans ?_)
  have q : M.Perm (A ++ B) := (p'.symm.trans List.perm_middle).cons_inv
  refine (q.append_left _).trans ?_
  rw [← List.append_assoc]
  exact List.Perm.append_right B List.perm_append_comm
end
end Vf


set_option Elab.async false
set_option maxRecDepth 100000
set_option maxHeartbeats 4000000
set_option exponentiation.threshold 3000
/-! The inner nodes, as the program lists them; codes made of inner nodes. -/
namespace Vf
open PySem L2 SX
section
variable {b N R : Nat} {L : List Pf}
/-- how long the word is without its last zeros -/
def cutZ (w : List Nat) : Nat := (Txt.rstripChars (S w) ⟨#[48]⟩).cps.size
def nodesOf (e : Pf) : List Pf := ((List.range (e.2.length - cutZ e.2)).map fun j => (e.1, e.2.take (cutZ e.2 + j)))
theorem cutZ_is (w : List Nat) : ∃ u k, w = u ++ List.replicate k 48 ∧ cutZ w = u.length ∧ (u = [] ∨ ∃ v c, u = v ++ [c] ∧ c ≠ 48) := by
  obtain ⟨u, k, h1, h2, h3⟩ := rstrip_is w 48
  refine ⟨u, k, h1, ?_, h3⟩
  unfold cutZ
  rw [h2]
  exact List.size_toArray ..
theorem cutZ_le (w : List Nat) : cutZ w ≤ w.length := by
  obtain ⟨u, k, h1, h2, _⟩ := cutZ_is w
  rw [h2, h1, List.length_append]
  omega
theorem mem_nodes {e x : Pf} : x ∈ nodesOf e ↔ x.1 = e.1 ∧ ∃ k, e.2 = x.2 ++ List.replicate (k + 1) 48 := by
  obtain ⟨u, k, h1, h2, h3⟩ := cutZ_is e.2
  have le : e.2.length = u.length + k := by rw [h1, List.length_append, List.length_replicate]
  unfold nodesOf
  rw [h2, List.mem_map]
  constructor
  · rintro ⟨j, hj, rfl⟩
    have hj := List.mem_range.mp hj
    refine ⟨rfl, k - j - 1, ?_⟩
    show e.2 = e.2.take (u.length + j) ++ _
    rw [h1, List.take_length_add_append, List.take_replicate, List.append_assoc, List.replicate_append_replicate]
    congr 2
    omega
  · rintro ⟨hx, q, h4⟩
    have l4 : e.2.length = x.2.length + (q + 1) := by rw [h4, List.length_append, List.length_replicate]
    have ge : u.length ≤ x.2.length := by
      rcases h3 with rfl | ⟨v, c, rfl, ne⟩
      · exact Nat.zero_le _
      · rcases Nat.lt_or_ge x.2.length (v ++ [c]).length with g | g
        · exfalso
          have g : x.2.length ≤ v.length := by rw [List.length_append] at g; exact Nat.le_of_lt_succ g
          have a1 : e.2[v.length]? = some c := by rw [h1]; simp
          rw [h4, List.getElem?_append_right g, List.getElem?_replicate] at a1
          split at a1
          · exact ne (Option.some.inj a1).symm
          · cases a1
        · exact g
    refine ⟨x.2.length - u.length, List.mem_range.mpr (by omega), Prod.ext hx.symm ?_⟩
    show e.2.take (u.length + (x.2.length - u.length)) = x.2
    rw [show u.length + (x.2.length - u.length) = x.2.length by omega, h4, List.take_left]
theorem node_lo {e x : Pf} (oe : PfOk b N R e) (h : x ∈ nodesOf e) (b0 : 0 < b) : PfOk b N R x ∧ x.1 = e.1 ∧ lo b N x.2 = lo b N e.2 := by
  obtain ⟨h1, k, h2⟩ := mem_nodes.mp h
  have dg := oe.dg
  have le := oe.le
  rw [h2] at dg le
  refine ⟨⟨by rw [h1]; exact oe.r, dg.left, by rw [List.length_append] at le; omega⟩, h1, ?_⟩
  rw [h2, lo_app le, (val_zero b0 dg.right).mpr fun c hc => List.eq_of_mem_replicate hc, Nat.zero_mul, Nat.add_zero]
theorem nodes_lt (b0 : 0 < b) {x y : Pf} (ox : PfOk b N R x) (oy : PfOk b N R y) (h : x.1 < y.1 ∨ (x.1 = y.1 ∧ lo b N x.2 < lo b N y.2)) : Lt x y := by
  rcases h with h | ⟨h1, h2⟩
  · exact .inl h
  · refine .inr ⟨h1, ?_⟩
    have dx := ox.dg
    have lx := ox.le
    have dy := oy.dg
    have ly := oy.le
    rcases part x.2 y.2 with ⟨t, z⟩ | ⟨t, z⟩ | ⟨p, c, d, r, q, z1, z2, ne⟩
    · rw [z]
      refine lex_more _ fun e => ?_
      rw [z, e, List.append_nil] at h2
      omega
    · exfalso
      rw [z] at h2 lx dx
      have := (in_app (b := b) dx.right lx).1
      omega
    · rw [z1] at dx lx h2 ⊢
      rw [z2] at dy ly h2 ⊢
      rcases Nat.lt_or_ge c d with g | g
      · exact lex_part g
      · exfalso
        have := part_lt dy dx ly lx (by omega : d < c)
        have := lo_lt_hi (N := N) b0 (p ++ d :: q)
        omega
theorem Leaf.nodes (b0 : 0 < b) (h : Leaf b N R L) (s : SrtP L) : (L.flatMap nodesOf).Pairwise Lt ∧ ∀ x, x ∈ L.flatMap nodesOf ↔ Inn L x := by
  constructor
  · refine List.pairwise_flatMap.mpr ⟨fun e he => ?_, List.Pairwise.imp_of_mem (fun {e f} he hf o x hx y hy => ?_) (h.ord b0 s)⟩
    · refine List.pairwise_map.mpr (List.Pairwise.imp_of_mem (fun {i j} hi hj hij => .inr ⟨rfl, ?_⟩) List.pairwise_lt_range)
      have hj := List.mem_range.mp hj
      show e.2.take (cutZ e.2 + i) < e.2.take (cutZ e.2 + j)
      have z : e.2.take (cutZ e.2 + j) = e.2.take (cutZ e.2 + i) ++ (e.2.drop (cutZ e.2 + i)).take (j - i) := by
        rw [← List.take_add]
        congr 1
        omega
      rw [z]
      refine lex_more _ fun q => ?_
      have := congrArg List.length q
      rw [List.length_take, List.length_drop] at this
      simp only [List.length_nil] at this
      omega
    · obtain ⟨o1, o2, o3⟩ := node_lo (h.ok e he) hx b0
      obtain ⟨p1, p2, p3⟩ := node_lo (h.ok f hf) hy b0
      refine nodes_lt b0 o1 p1 ?_
      rcases o with o | ⟨o4, o5⟩
      · exact .inl (by omega)
      · have := lo_lt_hi (N := N) b0 e.2
        exact .inr ⟨by omega, by omega⟩
  · intro x
    rw [List.mem_flatMap]
    constructor
    · rintro ⟨e, he, hx⟩
      obtain ⟨h1, k, h2⟩ := mem_nodes.mp hx
      exact ⟨e, he, h1, List.replicate (k + 1) 48, by simp, h2⟩
    · intro hx
      obtain ⟨k, hk⟩ := h.zeros b0 s hx
      exact ⟨_, hk, mem_nodes.mpr ⟨rfl, k, rfl⟩⟩
/-- a sorted list of the inner nodes is the program's -/
theorem Leaf.nodes_eq (b0 : 0 < b) (h : Leaf b N R L) (s : SrtP L) {I : List Pf} (si : SrtP I) (nd : I.Nodup) (hI : ∀ x, x ∈ I ↔ Inn L x) : L.flatMap nodesOf = I := by
  obtain ⟨h1, h2⟩ := h.nodes b0 s
  exact srt_uniq (lt_srt h1) si ((List.perm_ext_iff_of_nodup (lt_nodup h1) nd).mpr fun x => by rw [h2, hI])
/-! ### codes made of inner nodes -/
theorem inn_up {I : List Pf} (cl : ∀ x ∈ I, ∀ y, Above y x → y ∈ I) {x y : Pf} {t : List Nat} (hx : x ∈ I) (r : y.1 = x.1) (e : x.2 = y.2 ++ t) : y ∈ I := by
  by_cases c : t = []
  · rw [show y = x from Prod.ext r (by rw [e, c, List.append_nil])]
    exact hx
  · exact cl x hx y ⟨r, t, c, e⟩
theorem max_mem : ∀ {I : List Pf}, I ≠ [] → ∃ x ∈ I, ∀ y ∈ I, y.2.length ≤ x.2.length
  | [], h => absurd rfl h
  | [a], _ => ⟨a, List.mem_cons_self, fun y hy => by rw [List.mem_singleton.mp hy]; exact Nat.le_refl _⟩
  | a :: c :: I, _ => by
    obtain ⟨x, hx, h⟩ := max_mem (I := c :: I) (by simp)
    rcases Nat.lt_or_ge x.2.length a.2.length with g | g
    · refine ⟨a, List.mem_cons_self, fun y hy => ?_⟩
      rcases List.mem_cons.mp hy with z | z
      · rw [z]; exact Nat.le_refl _
      · have := h y z
        omega
    · refine ⟨x, List.mem_cons_of_mem _ hx, fun y hy => ?_⟩
      rcases List.mem_cons.mp hy with z | z
      · rw [z]; exact g
      · exact h y z
theorem made (b0 : 0 < b) : ∀ (n : Nat) {I : List Pf}, I.length = n → I.Nodup → (∀ x ∈ I, PfOk b N R x ∧ x.2.length < N) → (∀ x ∈ I, ∀ y, Above y x → y ∈ I) → ∃ L, Leaf b N R L ∧ L.Perm (byI b R I) ∧ L.length = R + (b - 1) * n
  | 0, I, hn, _, _, _ => by
    rw [List.eq_nil_of_length_eq_zero hn]
    refine ⟨_, leaf_root, ?_⟩
    unfold byI
    rw [List.filter_eq_self.mpr fun y _ => decide_eq_true List.not_mem_nil]
    unfold cand
    rw [List.flatMap_nil, List.append_nil]
    exact ⟨List.Perm.refl _, by rw [List.length_map, List.length_range]; omega⟩
  | n + 1, I, hn, nd, ok, cl => by
    obtain ⟨x, hx, mx⟩ := max_mem (I := I) (fun z => by rw [z] at hn; cases hn)
    have pI : I.Perm (x :: I.erase x) := List.perm_cons_erase hx
    have nd2 := pI.nodup_iff.mp nd
    obtain ⟨nx, nd3⟩ := List.nodup_cons.mp nd2
    have mI : ∀ y, y ∈ I ↔ y = x ∨ y ∈ I.erase x := fun y => by rw [pI.mem_iff, List.mem_cons]
    obtain ⟨L, lf, pm, ln⟩ := made b0 n (I := I.erase x) (by rw [List.length_erase_of_mem hx, hn]; rfl) nd3 (fun y hy => ok y ((mI y).mpr (.inr hy))) (fun y hy z ab => by
      rcases (mI z).mp (cl y ((mI y).mpr (.inr hy)) z ab) with q | q
      · subst q
        have := mx y ((mI y).mpr (.inr hy))
        have := ab.len
        omega
      · exact q)
    obtain ⟨ox, lx⟩ := ok x hx
    have xc : x ∈ byI b R (I.erase x) := by
      rw [mem_byI, mem_cand]
      refine ⟨?_, nx⟩
      by_cases c : x.2 = []
      · exact .inl ⟨ox.r, c⟩
      · obtain ⟨z, d, e⟩ := snoc_of c
        have dg := ox.dg
        rw [e] at dg
        have ab : Above (x.1, z) x := ⟨rfl, [d], by simp, e⟩
        have m := cl x hx _ ab
        rcases (mI _).mp m with q | q
        · have := ab.len
          rw [← q] at this
          exact absurd this (Nat.lt_irrefl _)
        · refine .inr ⟨_, q, ?_⟩
          have k := kid_of (b := b) (z := z) (r := x.1) (dg d (by simp))
          rw [← e] at k
          exact k
    obtain ⟨A, B, e⟩ := List.append_of_mem (pm.mem_iff.mpr xc)
    subst e
    refine ⟨A ++ B ++ kids b x, lf.split lx, ?_, ?_⟩
    rotate_left
    · rw [List.length_append, List.length_cons] at ln
      rw [List.length_append, List.length_append, show (kids b x).length = b by unfold kids; rw [List.length_map, List.length_range], Nat.mul_succ]
      omega
    have pAB : (x :: (A ++ B)).Perm (byI b R (I.erase x)) := List.perm_middle.symm.trans pm
    have nAB := pAB.nodup_iff.mpr (byI_nodup nd3)
    obtain ⟨nxAB, nAB2⟩ := List.nodup_cons.mp nAB
    have kn : ∀ y ∈ kids b x, y ∉ I := fun y hy z => by
      have := mx y z
      have := (kid_above hy).len
      omega
    have knr : ∀ y ∈ kids b x, y ∉ A ++ B := fun y hy z => by
      have m := pAB.mem_iff.mp (List.mem_cons_of_mem _ z)
      rw [mem_byI, mem_cand] at m
      rcases m.1 with ⟨_, q⟩ | ⟨e, he, q⟩
      · have := (kid_above hy).len
        rw [q] at this
        exact absurd this (Nat.not_lt_zero _)
      · have z := kid_parent hy q
        subst z
        exact nx he
    refine (List.perm_ext_iff_of_nodup (List.nodup_append.mpr ⟨nAB2, kids_nodup, fun y hy z hz q => knr z hz (q ▸ hy)⟩) (byI_nodup nd)).mpr fun y => ?_
    have mAB : y ∈ byI b R (I.erase x) ↔ y = x ∨ y ∈ A ++ B := by rw [← pAB.mem_iff, List.mem_cons]
    rw [List.mem_append, mem_byI, mem_cand, mI y]
    rw [mem_byI, mem_cand] at mAB
    constructor
    · rintro (h | h)
      · have q := mAB.mpr (.inr h)
        refine ⟨?_, fun z => ?_⟩
        · rcases q.1 with q | ⟨e, he, q⟩
          · exact .inl q
          · exact .inr ⟨e, (mI e).mpr (.inr he), q⟩
        · rcases z with z | z
          · exact nxAB (z ▸ h)
          · exact q.2 z
      · refine ⟨.inr ⟨x, hx, h⟩, fun z => kn y h ((mI y).mpr z)⟩
    · rintro ⟨h, no⟩
      have no1 : y ≠ x := fun z => no (.inl z)
      have no2 : y ∉ I.erase x := fun z => no (.inr z)
      rcases h with h | ⟨e, he, h⟩
      · exact .inl ((mAB.mp ⟨.inl h, no2⟩).resolve_left no1)
      · rcases (mI e).mp he with z | z
        · rw [z] at h
          exact .inr h
        · exact .inl ((mAB.mp ⟨.inr ⟨e, z, h⟩, no2⟩).resolve_left no1)
end
end Vf


set_option Elab.async false
set_option maxRecDepth 100000
set_option maxHeartbeats 4000000
set_option exponentiation.threshold 3000
/-! Codes through given prefixes. -/
namespace Vf
open PySem L2 SX
section
variable {b N R : Nat} {L : List Pf}
theorem mem_cand_iff {I I' : List Pf} (h : ∀ x, x ∈ I ↔ x ∈ I') {y : Pf} : y ∈ byI b R I ↔ y ∈ byI b R I' := by
  rw [mem_byI, mem_byI, mem_cand, mem_cand, h y]
  refine and_congr_left fun _ => or_congr Iff.rfl ⟨fun ⟨e, a, c⟩ => ⟨e, (h e).mp a, c⟩, fun ⟨e, a, c⟩ => ⟨e, (h e).mpr a, c⟩⟩
theorem byI_perm {I I' D : List Pf} (nd : I.Nodup) (nD : D.Nodup) (h : ∀ x, x ∈ I ↔ x ∈ I') (h1 : ∀ y ∈ D, y ∈ byI b R I') (h2 : ∀ y ∈ byI b R I', y ∈ D) : (byI b R I).Perm D :=
  (List.perm_ext_iff_of_nodup (byI_nodup nd) nD).mpr fun y => by
    rw [mem_cand_iff h]
    exact ⟨h2 y, h1 y⟩
theorem byI_same {I I' : List Pf} (nd : I.Nodup) (nd2 : I'.Nodup) (h : ∀ x, x ∈ I ↔ x ∈ I') : (byI b R I).Perm (byI b R I') :=
  (List.perm_ext_iff_of_nodup (byI_nodup nd) (byI_nodup nd2)).mpr fun y => mem_cand_iff h
/-- all proper beginnings of a prefix -/
def preL (e : Pf) : List Pf := (List.range e.2.length).map fun n => (e.1, e.2.take n)
theorem mem_preL {e x : Pf} : x ∈ preL e ↔ Above x e := by
  unfold preL
  rw [List.mem_map]
  constructor
  · rintro ⟨n, hn, rfl⟩
    have hn := List.mem_range.mp hn
    refine ⟨rfl, e.2.drop n, fun z => ?_, (List.take_append_drop n e.2).symm⟩
    have := congrArg List.length z
    rw [List.length_drop] at this
    simp only [List.length_nil] at this
    omega
  · rintro ⟨r, t, n, z⟩
    have := List.length_pos_iff.mpr n
    refine ⟨x.2.length, List.mem_range.mpr (by rw [z, List.length_append]; omega), Prod.ext r.symm ?_⟩
    show e.2.take x.2.length = x.2
    rw [z, List.take_left]
theorem mem_pre {M : List Pf} {x : Pf} : x ∈ M.flatMap preL ↔ Inn M x := by
  rw [List.mem_flatMap]
  exact ⟨fun ⟨e, h1, h2⟩ => ⟨e, h1, mem_preL.mp h2⟩, fun ⟨e, h1, h2⟩ => ⟨e, h1, mem_preL.mpr h2⟩⟩
theorem preL_lt {e : Pf} : (preL e).Pairwise Lt := by
  refine List.pairwise_map.mpr (List.Pairwise.imp_of_mem (fun {i j} hi hj hij => .inr ⟨rfl, ?_⟩) List.pairwise_lt_range)
  have hj := List.mem_range.mp hj
  show e.2.take i < e.2.take j
  have z : e.2.take j = e.2.take i ++ (e.2.drop i).take (j - i) := by
    rw [← List.take_add]
    congr 1
    omega
  rw [z]
  refine lex_more _ fun q => ?_
  have := congrArg List.length q
  rw [List.length_take, List.length_drop] at this
  simp only [List.length_nil] at this
  omega
theorem inn_closed {M I : List Pf} (hI : ∀ x, x ∈ I ↔ Inn M x) : ∀ x ∈ I, ∀ y, Above y x → y ∈ I := fun x hx y ab => by
  obtain ⟨e, he, z⟩ := (hI x).mp hx
  exact (hI y).mpr ⟨e, he, ab.trans z⟩
theorem inn_ok' {M : List Pf} (ok : ∀ e ∈ M, PfOk b N R e) {x : Pf} (hx : Inn M x) : PfOk b N R x ∧ x.2.length < N := by
  obtain ⟨f, hf, r, t, n, e⟩ := hx
  have o := ok f hf
  have dg := o.dg
  have le := o.le
  rw [e] at dg le
  rw [List.length_append] at le
  have := List.length_pos_iff.mpr n
  exact ⟨⟨by rw [r]; exact o.r, dg.left, by omega⟩, by omega⟩
/-- the inner nodes of what a closed set of nodes makes are these nodes -/
theorem inn_made (b0 : 0 < b) {I L : List Pf} (cl : ∀ x ∈ I, ∀ y, Above y x → y ∈ I) (pm : L.Perm (byI b R I)) (x : Pf) : Inn L x ↔ x ∈ I := by
  constructor
  · rintro ⟨f, hf, ab⟩
    have m := pm.mem_iff.mp hf
    rw [mem_byI, mem_cand] at m
    rcases m.1 with ⟨_, q⟩ | ⟨e, he, q⟩
    · have := ab.len
      rw [q] at this
      exact absurd this (Nat.not_lt_zero _)
    · rcases above_kid q ab with z | z
      · rw [z]
        exact he
      · exact cl e he x z
  · intro hx
    have ne : I.filter (fun z => z.1 == x.1 && x.2.isPrefixOf z.2) ≠ [] := fun z => by
      have m : x ∈ I.filter (fun z => z.1 == x.1 && x.2.isPrefixOf z.2) := List.mem_filter.mpr ⟨hx, by simp⟩
      rw [z] at m
      cases m
    obtain ⟨z, hz, mz⟩ := max_mem ne
    obtain ⟨z1, z2⟩ := List.mem_filter.mp hz
    rw [Bool.and_eq_true, beq_iff_eq, List.isPrefixOf_iff_prefix] at z2
    obtain ⟨t, zt⟩ := z2.2
    have k0 := kid0 (b := b) b0 (e := z)
    refine ⟨_, pm.mem_iff.mpr (mem_byI.mpr ⟨mem_cand.mpr (.inr ⟨z, z1, k0⟩), fun q => ?_⟩), z2.1.symm, t ++ [48], by simp, by show z.2 ++ [48] = _; rw [← zt, List.append_assoc]⟩
    have := mz (z.1, z.2 ++ [48]) (List.mem_filter.mpr ⟨q, by rw [Bool.and_eq_true, beq_iff_eq, List.isPrefixOf_iff_prefix]; exact ⟨z2.1, t ++ [48], by show _ = z.2 ++ [48]; rw [← zt, List.append_assoc]⟩⟩)
    rw [List.length_append] at this
    have : z.2.length + 1 ≤ z.2.length := this
    omega
/-- the code through the prefixes of M -/
theorem through (b0 : 0 < b) {M I D : List Pf} (ok : ∀ e ∈ M, PfOk b N R e) (nd : I.Nodup) (hI : ∀ x, x ∈ I ↔ Inn M x) (pm : D.Perm (byI b R I)) :
    Leaf b N R D ∧ (∀ x, Inn D x ↔ x ∈ I) ∧ D.length = R + (b - 1) * I.length ∧ ∀ e ∈ M, e ∈ D ∨ Inn D e := by
  have cl := inn_closed hI
  obtain ⟨L, lf, pL, ln⟩ := made b0 I.length rfl nd (fun x hx => inn_ok' ok ((hI x).mp hx)) cl
  have inn := inn_made b0 cl pm
  refine ⟨lf.perm (pL.trans pm.symm), inn, by rw [pm.length_eq, ← pL.length_eq, ln], fun e he => ?_⟩
  by_cases c : e ∈ I
  · exact .inr ((inn e).mpr c)
  · refine .inl (pm.mem_iff.mpr (mem_byI.mpr ⟨mem_cand.mpr ?_, c⟩))
    by_cases q : e.2 = []
    · exact .inl ⟨(ok e he).r, q⟩
    · obtain ⟨z, d, ez⟩ := snoc_of q
      have dg := (ok e he).dg
      rw [ez] at dg
      refine .inr ⟨(e.1, z), (hI _).mpr ⟨e, he, rfl, [d], by simp, ez⟩, ?_⟩
      have k := kid_of (b := b) (z := z) (r := e.1) (dg d (by simp))
      rw [← ez] at k
      exact k
end
end Vf


set_option Elab.async false
set_option maxRecDepth 100000
set_option maxHeartbeats 4000000
set_option exponentiation.threshold 3000
/-! Joins and meets of codes: rows and inner nodes. -/
namespace Vf
open PySem L2 SX
section
variable {b N R : Nat}
/-- codes of one kind -/
def AllC (b N R : Nat) (Cs : List (List Pf)) : Prop := ∀ C ∈ Cs, Leaf b N R C ∧ SrtP C
/-- what stands in a code at a node that is no inner node of it, and of which all above are -/
theorem Leaf.here (b0 : 0 < b) {C : List Pf} (h : Leaf b N R C) (s : SrtP C) {y : Pf} (oy : PfOk b N R y) (no : ¬ Inn C y) (up : ∀ z, Above z y → Inn C z) : y ∈ C := by
  obtain ⟨e, he, z⟩ := h.at_ b0 s oy
  rcases z with ⟨r, t, e1, _⟩ | z
  · by_cases c : t = []
    · rw [show y = e from Prod.ext r.symm (by rw [e1, c, List.append_nil])]
      exact he
    · exact absurd ⟨e, he, r.symm, t, c, e1⟩ no
  · obtain ⟨f, hf, ab⟩ := up e z
    exact absurd ab (h.alone b0 he hf)
/-- all above a kid of a node are the node and what is above it -/
theorem kid_up {z e y : Pf} (hk : y ∈ kids b e) (h : Above z y) : z = e ∨ Above z e := above_kid hk h
theorem inn_above {C : List Pf} {z e : Pf} (h : Inn C e) (a : z = e ∨ Above z e) : Inn C z := by
  rcases a with rfl | a
  · exact h
  · obtain ⟨f, hf, ab⟩ := h
    exact ⟨f, hf, a.trans ab⟩
theorem par_of {y : Pf} (dy : Dg b y.2) (ne : y.2 ≠ []) : ∃ z, y ∈ kids b z ∧ Above z y := by
  obtain ⟨w, d, e⟩ := snoc_of ne
  rw [e] at dy
  have k := kid_of (b := b) (z := w) (r := y.1) (dy d (by simp))
  rw [← e] at k
  exact ⟨(y.1, w), k, rfl, [d], by simp, e⟩
/-- the rows that are above no other are those that the union of the inner nodes makes -/
theorem mem_join (b0 : 0 < b) {Cs : List (List Pf)} (hC : AllC b N R Cs) (n0 : Cs ≠ []) {U : List Pf} (hU : ∀ x, x ∈ U ↔ ∃ C ∈ Cs, Inn C x) (y : Pf) :
    y ∈ byI b R U ↔ (∃ C ∈ Cs, y ∈ C) ∧ ∀ C ∈ Cs, ¬ Inn C y := by
  rw [mem_byI, mem_cand]
  constructor
  · rintro ⟨hy, no⟩
    have nI : ∀ C ∈ Cs, ¬ Inn C y := fun C hc q => no ((hU y).mpr ⟨C, hc, q⟩)
    refine ⟨?_, nI⟩
    rcases hy with ⟨y1, y2⟩ | ⟨e, he, hk⟩
    · obtain ⟨C, hc⟩ := List.exists_mem_of_ne_nil _ n0
      refine ⟨C, hc, (hC C hc).1.here b0 (hC C hc).2 ⟨y1, by rw [y2]; exact fun c hc => (by cases hc), by rw [y2]; exact Nat.zero_le _⟩ (nI C hc) fun z a => ?_⟩
      have := a.len
      rw [y2] at this
      exact absurd this (Nat.not_lt_zero _)
    · obtain ⟨C, hc, hi⟩ := (hU e).mp he
      obtain ⟨oe, le⟩ := inn_ok (hC C hc).1 hi
      exact ⟨C, hc, (hC C hc).1.here b0 (hC C hc).2 (kid_ok oe le hk).1 (nI C hc) fun z a => inn_above hi (kid_up hk a)⟩
  · rintro ⟨⟨C, hc, hy⟩, nI⟩
    refine ⟨?_, fun q => by
      obtain ⟨C', hc', q'⟩ := (hU y).mp q
      exact nI C' hc' q'⟩
    have oy := (hC C hc).1.ok y hy
    by_cases c : y.2 = []
    · exact .inl ⟨oy.r, c⟩
    · obtain ⟨z, hk, ab⟩ := par_of oy.dg c
      exact .inr ⟨z, (hU z).mpr ⟨C, hc, y, hy, ab⟩, hk⟩
/-- the rows that are under no other are those that the common inner nodes make -/
theorem mem_meet (b0 : 0 < b) {Cs : List (List Pf)} (hC : AllC b N R Cs) (n0 : Cs ≠ []) {V : List Pf} (hV : ∀ x, x ∈ V ↔ ∀ C ∈ Cs, Inn C x) (y : Pf) :
    y ∈ byI b R V ↔ (∃ C ∈ Cs, y ∈ C) ∧ ∀ C ∈ Cs, ∀ f ∈ C, ¬ Above f y := by
  rw [mem_byI, mem_cand]
  constructor
  · rintro ⟨hy, no⟩
    obtain ⟨C, hc, nI⟩ : ∃ C ∈ Cs, ¬ Inn C y := Classical.byContradiction fun q => no ((hV y).mpr fun C hc => Classical.byContradiction fun q2 => q ⟨C, hc, q2⟩)
    rcases hy with ⟨y1, y2⟩ | ⟨e, he, hk⟩
    · have top : ∀ z, ¬ Above z y := fun z a => by
        have := a.len
        rw [y2] at this
        exact absurd this (Nat.not_lt_zero _)
      exact ⟨⟨C, hc, (hC C hc).1.here b0 (hC C hc).2 ⟨y1, by rw [y2]; exact fun c hc => (by cases hc), by rw [y2]; exact Nat.zero_le _⟩ nI fun z a => absurd a (top z)⟩, fun _ _ f _ => top f⟩
    · have hi := (hV e).mp he
      obtain ⟨oe, le⟩ := inn_ok (hC C hc).1 (hi C hc)
      refine ⟨⟨C, hc, (hC C hc).1.here b0 (hC C hc).2 (kid_ok oe le hk).1 nI fun z a => inn_above (hi C hc) (kid_up hk a)⟩, fun C' hc' f hf a => ?_⟩
      obtain ⟨g, hg, ab⟩ := inn_above (hi C' hc') (kid_up hk a)
      exact (hC C' hc').1.alone b0 hf hg ab
  · rintro ⟨⟨C, hc, hy⟩, nA⟩
    have oy := (hC C hc).1.ok y hy
    refine ⟨?_, fun q => by
      obtain ⟨f, hf, ab⟩ := (hV y).mp q C hc
      exact (hC C hc).1.alone b0 hy hf ab⟩
    by_cases c : y.2 = []
    · exact .inl ⟨oy.r, c⟩
    · obtain ⟨z, hk, ab⟩ := par_of oy.dg c
      refine .inr ⟨z, (hV z).mpr fun C' hc' => ?_, hk⟩
      obtain ⟨e, he, q⟩ := (hC C' hc').1.at_ b0 (hC C' hc').2 oy
      rcases q with ⟨r, t, e1, _⟩ | q
      · by_cases ct : t = []
        · exact ⟨e, he, by rw [show e = y from Prod.ext r (by rw [e1, ct, List.append_nil])]; exact ab⟩
        · exact ⟨e, he, ab.trans ⟨r.symm, t, ct, e1⟩⟩
      · exact absurd q (nA C' hc' e he)
end
end Vf


set_option Elab.async false
set_option maxRecDepth 100000
set_option maxHeartbeats 4000000
set_option exponentiation.threshold 3000
/-! The lowest and the highest of rows in order. -/
namespace Vf
open PySem L2 SX
theorem between : ∀ {x y t : List Nat}, ¬ y < x → ¬ x ++ t < y → ∃ s, y = x ++ s
  | [], y, _, _, _ => ⟨y, rfl⟩
  | c :: x, [], _, h, _ => absurd (List.nil_lt_cons c x) h
  | c :: x, d :: y, t, h, h2 => by
    rw [List.cons_lt_cons_iff] at h
    rw [List.cons_append, List.cons_lt_cons_iff] at h2
    have e : c = d := by
      rcases Nat.lt_trichotomy c d with q | q | q
      · exact absurd (.inl q) h2
      · exact q
      · exact absurd (.inl q) h
    subst e
    obtain ⟨s, es⟩ := between (x := x) (y := y) (t := t) (fun q => h (.inr ⟨rfl, q⟩)) (fun q => h2 (.inr ⟨rfl, q⟩))
    exact ⟨s, by rw [es]; rfl⟩
theorem above_lt {x y : Pf} (h : Above x y) : Lt x y := by
  obtain ⟨r, t, n, e⟩ := h
  exact .inr ⟨r, by rw [e]; exact lex_more _ n⟩
theorem lt_asymm {x y : Pf} (h : Lt x y) (h2 : Lt y x) : False := by
  rcases h with h | ⟨h, h'⟩ <;> rcases h2 with h2 | ⟨h2, h2'⟩
  · omega
  · omega
  · omega
  · exact List.lt_asymm h' h2'
/-- what lies between x and what x is above is under x -/
theorem above_mid {x y z : Pf} (a : Above x z) (h : Lt x y) (h2 : Lt y z ∨ y = z) : Above x y := by
  rcases h2 with h2 | h2
  · obtain ⟨r, t, n, e⟩ := a
    have r1 : x.1 = y.1 := by
      rcases h with h | ⟨h, _⟩
      · rcases h2 with h2 | ⟨h2, _⟩ <;> omega
      · exact h
    have l1 : x.2 < y.2 := by
      rcases h with h | ⟨_, h⟩
      · omega
      · exact h
    have l2 : y.2 < z.2 := by
      rcases h2 with h2 | ⟨_, h2⟩
      · omega
      · exact h2
    rw [e] at l2
    obtain ⟨s, es⟩ := between (List.lt_asymm l1) (List.lt_asymm l2)
    refine ⟨r1, s, fun q => ?_, es⟩
    rw [es, q, List.append_nil] at l1
    exact List.lt_irrefl _ l1
  · rw [h2]
    exact a
/-- u is above l, or l itself -/
def isUp (u l : Pf) : Bool := decide (u.1 = l.1) && u.2.isPrefixOf l.2
theorem isUp_iff {u l : Pf} (h : Lt u l) : isUp u l = true ↔ Above u l := by
  unfold isUp
  rw [Bool.and_eq_true, decide_eq_true_iff, List.isPrefixOf_iff_prefix]
  constructor
  · rintro ⟨r, t, e⟩
    refine ⟨r, t, fun q => ?_, e.symm⟩
    rw [q, List.append_nil] at e
    rcases h with h | ⟨_, h⟩
    · omega
    · rw [e] at h
      exact List.lt_irrefl _ h
  · rintro ⟨r, t, _, e⟩
    exact ⟨r, t, e.symm⟩
def lowL : List Pf → List Pf
  | [] => []
  | [x] => [x]
  | x :: y :: r => if isUp x y = true then lowL (y :: r) else x :: lowL (y :: r)
theorem lowL_sub : ∀ (row : List Pf), (lowL row).Sublist row
  | [] => List.Sublist.refl _
  | [x] => List.Sublist.refl _
  | x :: y :: r => by
    unfold lowL
    split
    · exact (lowL_sub (y :: r)).cons _
    · exact (lowL_sub (y :: r)).cons_cons _
theorem mem_lowL : ∀ {row : List Pf}, row.Pairwise Lt → ∀ x, x ∈ lowL row ↔ x ∈ row ∧ ∀ z ∈ row, ¬ Above x z
  | [], _, x => ⟨fun h => (by cases h), fun h => (by cases h.1)⟩
  | [a], _, x => by
    unfold lowL
    refine ⟨fun h => ⟨h, fun z hz ab => ?_⟩, fun h => h.1⟩
    rw [List.mem_singleton.mp h, List.mem_singleton.mp hz] at ab
    exact absurd ab.len (Nat.lt_irrefl _)
  | a :: b :: r, pw, x => by
    obtain ⟨p1, p2⟩ := List.pairwise_cons.mp pw
    have ih := mem_lowL p2
    have ab := p1 b List.mem_cons_self
    -- x among the later ones is above nothing before
    have back : ∀ x ∈ b :: r, ¬ Above x a := fun x hx q => lt_asymm (above_lt q) (p1 x hx)
    have next : (∃ z ∈ b :: r, Above a z) ↔ Above a b := by
      constructor
      · rintro ⟨z, hz, q⟩
        refine above_mid q ab ?_
        rcases List.mem_cons.mp hz with e | e
        · exact .inr e.symm
        · exact .inl ((List.pairwise_cons.mp p2).1 z e)
      · exact fun q => ⟨b, List.mem_cons_self, q⟩
    have self : ¬ Above a a := fun q => absurd q.len (Nat.lt_irrefl _)
    unfold lowL
    by_cases c : isUp a b = true
    · rw [if_pos c, ih x]
      have q := (isUp_iff ab).mp c
      constructor
      · rintro ⟨h1, h2⟩
        refine ⟨List.mem_cons_of_mem _ h1, fun z hz => ?_⟩
        rcases List.mem_cons.mp hz with e | e
        · rw [e]
          exact back x h1
        · exact h2 z e
      · rintro ⟨h1, h2⟩
        rcases List.mem_cons.mp h1 with e | e
        · rw [e] at h2
          exact absurd q (h2 b (List.mem_cons_of_mem _ List.mem_cons_self))
        · exact ⟨e, fun z hz => h2 z (List.mem_cons_of_mem _ hz)⟩
    · rw [if_neg c, List.mem_cons, ih x]
      have q : ¬ Above a b := fun z => c ((isUp_iff ab).mpr z)
      constructor
      · rintro (e | ⟨h1, h2⟩)
        · rw [e]
          refine ⟨List.mem_cons_self, fun z hz w => ?_⟩
          rcases List.mem_cons.mp hz with v | v
          · rw [v] at w
            exact self w
          · exact q (next.mp ⟨z, v, w⟩)
        · refine ⟨List.mem_cons_of_mem _ h1, fun z hz => ?_⟩
          rcases List.mem_cons.mp hz with e | e
          · rw [e]
            exact back x h1
          · exact h2 z e
      · rintro ⟨h1, h2⟩
        rcases List.mem_cons.mp h1 with e | e
        · exact .inl e
        · exact .inr ⟨e, fun z hz => h2 z (List.mem_cons_of_mem _ hz)⟩
/-- the walk of highest: what is kept so far -/
def hiStep (kept : List Pf) (x : Pf) : List Pf := match kept.getLast? with
  | none => kept ++ [x]
  | some k => if isUp k x = true then kept else kept ++ [x]
structure Kept (row kept : List Pf) : Prop where
  sub : kept.Sublist row
  mem : ∀ x, x ∈ kept ↔ x ∈ row ∧ ∀ z ∈ row, ¬ Above z x
/-- the last one that is kept has all behind it under itself -/
theorem Kept.last {row kept : List Pf} {k : Pf} (K : Kept row kept) (pw : row.Pairwise Lt) (h : kept.getLast? = some k) : ∀ z ∈ row, Lt k z → Above k z := by
  intro z hz lt
  -- z is under some row of which nothing is above
  have top : ∀ (n : Nat) (z : Pf), z.2.length = n → z ∈ row → ∃ y ∈ kept, y = z ∨ Above y z := by
    intro n
    induction n using Nat.strongRecOn with
    | ind n ih =>
      intro z e hz
      by_cases c : ∃ y ∈ row, Above y z
      · obtain ⟨y, hy, ab⟩ := c
        obtain ⟨u, hu, q⟩ := ih y.2.length (by have := ab.len; omega) y rfl hy
        refine ⟨u, hu, .inr ?_⟩
        rcases q with q | q
        · rw [q]; exact ab
        · exact q.trans ab
      · exact ⟨z, (K.mem z).mpr ⟨hz, fun y hy ab => c ⟨y, hy, ab⟩⟩, .inl rfl⟩
  obtain ⟨y, hy, q⟩ := top _ z rfl hz
  have km : k ∈ kept := List.mem_of_getLast? h
  have pk : kept.Pairwise Lt := pw.sublist K.sub
  -- y is k, or stands before k
  have le : y = k ∨ Lt y k := by
    obtain ⟨l, rfl⟩ : ∃ l, kept = l ++ [k] := by
      have ne : kept ≠ [] := fun w => by rw [w] at h; cases h
      refine ⟨kept.dropLast, ?_⟩
      rw [List.getLast?_eq_some_getLast ne] at h
      rw [← Option.some.inj h, List.dropLast_concat_getLast]
    rcases List.mem_append.mp hy with w | w
    · exact .inr ((List.pairwise_append.mp pk).2.2 y w k (List.mem_singleton.mpr rfl))
    · exact .inl (List.mem_singleton.mp w)
  rcases le with e | l
  · rw [e] at q
    rcases q with q | q
    · rw [q] at lt
      exact (lt_asymm lt lt).elim
    · exact q
  · rcases q with q | q
    · rw [q] at l
      exact (lt_asymm lt l).elim
    · have := above_mid q l (.inl lt)
      exact absurd this (((K.mem k).mp km).2 y (K.sub.subset hy))
theorem Kept.step {row kept : List Pf} {x : Pf} (K : Kept row kept) (pw : (row ++ [x]).Pairwise Lt) : Kept (row ++ [x]) (hiStep kept x) := by
  obtain ⟨p1, _, p3⟩ := List.pairwise_append.mp pw
  have lx : ∀ z ∈ row, Lt z x := fun z hz => p3 z hz x (List.mem_singleton.mpr rfl)
  have self : ¬ Above x x := fun q => absurd q.len (Nat.lt_irrefl _)
  have back : ∀ z ∈ row, ¬ Above x z := fun z hz q => lt_asymm (above_lt q) (lx z hz)
  -- who is kept of the whole
  have all : ∀ z, (z ∈ row ++ [x] ∧ ∀ y ∈ row ++ [x], ¬ Above y z) ↔ z ∈ kept ∨ (z = x ∧ ∀ y ∈ row, ¬ Above y x) := fun z => by
    rw [K.mem]
    constructor
    · rintro ⟨h1, h2⟩
      rcases List.mem_append.mp h1 with e | e
      · exact .inl ⟨e, fun y hy => h2 y (List.mem_append_left _ hy)⟩
      · have e := List.mem_singleton.mp e
        rw [e] at h2
        exact .inr ⟨e, fun y hy => h2 y (List.mem_append_left _ hy)⟩
    · rintro (⟨h1, h2⟩ | ⟨e, h2⟩)
      · refine ⟨List.mem_append_left _ h1, fun y hy => ?_⟩
        rcases List.mem_append.mp hy with e | e
        · exact h2 y e
        · rw [List.mem_singleton.mp e]
          exact back z h1
      · rw [e]
        refine ⟨List.mem_append_right _ (List.mem_singleton.mpr rfl), fun y hy => ?_⟩
        rcases List.mem_append.mp hy with w | w
        · exact h2 y w
        · rw [List.mem_singleton.mp w]
          exact self
  unfold hiStep
  cases hk : kept.getLast? with
  | none =>
    have e : kept = [] := List.getLast?_eq_none_iff.mp hk
    have er : row = [] := by
      cases row with
      | nil => rfl
      | cons a r =>
        exfalso
        have z := (K.mem a).mpr ⟨List.mem_cons_self, fun y hy q => ?_⟩
        · rw [e] at z
          cases z
        · rcases List.mem_cons.mp hy with w | w
          · rw [w] at q
            exact absurd q.len (Nat.lt_irrefl _)
          · exact lt_asymm (above_lt q) ((List.pairwise_cons.mp p1).1 y w)
    subst e er
    refine ⟨List.Sublist.refl _, fun z => ?_⟩
    rw [all z]
    constructor
    · intro h
      exact .inr ⟨List.mem_singleton.mp h, fun y hy => (by cases hy)⟩
    · rintro (h | ⟨h, _⟩)
      · cases h
      · exact List.mem_singleton.mpr h
  | some k =>
    have km : k ∈ kept := List.mem_of_getLast? hk
    have kx := lx k (K.sub.subset km)
    have any : (∃ y ∈ row, Above y x) ↔ Above k x := by
      constructor
      · rintro ⟨y, hy, q⟩
        by_cases c : y = k
        · rw [← c]
          exact q
        · by_cases l : Lt k y
          · exact (K.last p1 hk y hy l).trans q
          · -- y stands before k
            have l2 : Lt y k := by
              rcases pw_mem (Q := fun a b => Lt a b ∨ Lt b a) (fun h => h.symm) (p1.imp fun h => .inl h) hy (K.sub.subset km) with e | e | e
              · exact absurd e c
              · exact e
              · exact absurd e l
            exact absurd (above_mid q l2 (.inl kx)) (((K.mem k).mp km).2 y hy)
      · exact fun q => ⟨k, K.sub.subset km, q⟩
    show Kept (row ++ [x]) (if isUp k x = true then kept else kept ++ [x])
    by_cases c : isUp k x = true
    · rw [if_pos c]
      refine ⟨K.sub.trans (List.sublist_append_left _ _), fun z => ?_⟩
      rw [all z]
      refine ⟨.inl, fun h => h.elim id fun ⟨_, q⟩ => ?_⟩
      obtain ⟨y, hy, w⟩ := any.mpr ((isUp_iff kx).mp c)
      exact absurd w (q y hy)
    · rw [if_neg c]
      refine ⟨K.sub.append (List.Sublist.refl _), fun z => ?_⟩
      rw [all z, List.mem_append, List.mem_singleton]
      refine or_congr Iff.rfl ⟨fun e => ⟨e, fun y hy w => c ((isUp_iff kx).mpr (any.mp ⟨y, hy, w⟩))⟩, fun h => h.1⟩
theorem kept_all : ∀ (rest row kept : List Pf), Kept row kept → (row ++ rest).Pairwise Lt → Kept (row ++ rest) (rest.foldl hiStep kept)
  | [], row, kept, K, _ => by rw [List.append_nil]; exact K
  | x :: rest, row, kept, K, pw => by
    have e : row ++ x :: rest = row ++ [x] ++ rest := by rw [List.append_assoc]; rfl
    rw [e] at pw ⊢
    exact kept_all rest (row ++ [x]) (hiStep kept x) (K.step (List.pairwise_append.mp pw).1) pw
end Vf


set_option Elab.async false
set_option maxRecDepth 100000
set_option maxHeartbeats 4000000
set_option exponentiation.threshold 3000
/-! Joins and meets are codes; when a code refines another. -/
namespace Vf
open PySem L2 SX
theorem nd_of : ∀ l : List Pf, ∃ l' : List Pf, l'.Nodup ∧ ∀ x, x ∈ l' ↔ x ∈ l
  | [] => ⟨[], List.nodup_nil, fun _ => Iff.rfl⟩
  | a :: l => by
    obtain ⟨l', n, h⟩ := nd_of l
    by_cases c : a ∈ l
    · refine ⟨l', n, fun x => ?_⟩
      rw [h, List.mem_cons]
      exact ⟨.inr, fun q => q.elim (fun e => e ▸ c) id⟩
    · refine ⟨a :: l', List.nodup_cons.mpr ⟨fun q => c ((h a).mp q), n⟩, fun x => ?_⟩
      rw [List.mem_cons, List.mem_cons, h]
section
variable {b N R : Nat}
/-- rows that a closed set of inner nodes makes -/
theorem code_by (b0 : 0 < b) {U L : List Pf} (nd : U.Nodup) (ok : ∀ x ∈ U, PfOk b N R x ∧ x.2.length < N) (cl : ∀ x ∈ U, ∀ y, Above y x → y ∈ U) (nL : L.Nodup) (hL : ∀ y, y ∈ L ↔ y ∈ byI b R U) :
    Leaf b N R L ∧ ∀ x, Inn L x ↔ x ∈ U := by
  obtain ⟨L0, l0, p0, _⟩ := made b0 U.length rfl nd ok cl
  have pm : L.Perm (byI b R U) := (List.perm_ext_iff_of_nodup nL (byI_nodup nd)).mpr hL
  exact ⟨l0.perm (p0.trans pm.symm), fun x => inn_made b0 cl pm x⟩
theorem join_code (b0 : 0 < b) {Cs : List (List Pf)} (hC : AllC b N R Cs) (n0 : Cs ≠ []) {L : List Pf} (pw : L.Pairwise Lt) (hL : ∀ x, x ∈ L ↔ (∃ C ∈ Cs, x ∈ C) ∧ ∀ C ∈ Cs, ¬ Inn C x) :
    Leaf b N R L ∧ SrtP L ∧ ∀ x, Inn L x ↔ ∃ C ∈ Cs, Inn C x := by
  obtain ⟨U, nd, hU⟩ := nd_of (Cs.flatMap fun C => C.flatMap nodesOf)
  have hU : ∀ x, x ∈ U ↔ ∃ C ∈ Cs, Inn C x := fun x => by
    rw [hU, List.mem_flatMap]
    exact ⟨fun ⟨C, hc, h⟩ => ⟨C, hc, ((hC C hc).1.nodes b0 (hC C hc).2).2 x |>.mp h⟩, fun ⟨C, hc, h⟩ => ⟨C, hc, ((hC C hc).1.nodes b0 (hC C hc).2).2 x |>.mpr h⟩⟩
  obtain ⟨lf, q⟩ := code_by (R := R) (N := N) b0 nd (fun x hx => by
    obtain ⟨C, hc, h⟩ := (hU x).mp hx
    exact inn_ok (hC C hc).1 h) (fun x hx y ab => by
    obtain ⟨C, hc, h⟩ := (hU x).mp hx
    exact (hU y).mpr ⟨C, hc, inn_above h (.inr ab)⟩) (lt_nodup pw) (fun y => by rw [hL, mem_join b0 hC n0 hU])
  exact ⟨lf, lt_srt pw, fun x => (q x).trans (hU x)⟩
theorem meet_code (b0 : 0 < b) {Cs : List (List Pf)} (hC : AllC b N R Cs) (n0 : Cs ≠ []) {L : List Pf} (pw : L.Pairwise Lt) (hL : ∀ x, x ∈ L ↔ (∃ C ∈ Cs, x ∈ C) ∧ ∀ C ∈ Cs, ∀ f ∈ C, ¬ Above f x) :
    Leaf b N R L ∧ SrtP L ∧ ∀ x, Inn L x ↔ ∀ C ∈ Cs, Inn C x := by
  classical
  obtain ⟨C0, hc0⟩ := List.exists_mem_of_ne_nil _ n0
  obtain ⟨U, nd, hU⟩ := nd_of ((C0.flatMap nodesOf).filter fun x => decide (∀ C ∈ Cs, Inn C x))
  have hU : ∀ x, x ∈ U ↔ ∀ C ∈ Cs, Inn C x := fun x => by
    rw [hU, List.mem_filter, decide_eq_true_iff]
    exact ⟨fun h => h.2, fun h => ⟨((hC C0 hc0).1.nodes b0 (hC C0 hc0).2).2 x |>.mpr (h C0 hc0), h⟩⟩
  obtain ⟨lf, q⟩ := code_by (R := R) (N := N) b0 nd (fun x hx => inn_ok (hC C0 hc0).1 ((hU x).mp hx C0 hc0)) (fun x hx y ab => (hU y).mpr fun C hc => inn_above ((hU x).mp hx C hc) (.inr ab)) (lt_nodup pw) (fun y => by rw [hL, mem_meet b0 hC n0 hU])
  exact ⟨lf, lt_srt pw, fun x => (q x).trans (hU x)⟩
theorem code_same (b0 : 0 < b) {A B : List Pf} (h1 : Leaf b N R A) (s1 : SrtP A) (h2 : Leaf b N R B) (s2 : SrtP B) (e : ∀ x, Inn A x ↔ Inn B x) : A = B := by
  obtain ⟨n1, m1⟩ := h1.nodes b0 s1
  exact srt_uniq s1 s2 ((h1.byI b0 s1 (lt_nodup n1) m1).symm.trans (h2.byI b0 s2 (lt_nodup n1) fun x => (m1 x).trans (e x)))
theorem isUp_up {u l : Pf} : isUp u l = true ↔ u = l ∨ Above u l := by
  unfold isUp
  rw [Bool.and_eq_true, decide_eq_true_iff, List.isPrefixOf_iff_prefix]
  constructor
  · rintro ⟨r, t, e⟩
    by_cases c : t = []
    · rw [c, List.append_nil] at e
      exact .inl (Prod.ext r e)
    · exact .inr ⟨r, t, c, e.symm⟩
  · rintro (e | ⟨r, t, _, e⟩)
    · rw [e]
      exact ⟨rfl, [], List.append_nil _⟩
    · exact ⟨r, t, e.symm⟩
def finerB (A B : List Pf) : Bool := A.all fun a => B.any fun e => isUp e a
theorem finer_iff {A B : List Pf} : finerB A B = true ↔ ∀ a ∈ A, ∃ e ∈ B, e = a ∨ Above e a := by
  unfold finerB
  rw [List.all_eq_true]
  refine forall_congr' fun a => forall_congr' fun _ => ?_
  rw [List.any_eq_true]
  exact ⟨fun ⟨e, he, h⟩ => ⟨e, he, isUp_up.mp h⟩, fun ⟨e, he, h⟩ => ⟨e, he, isUp_up.mpr h⟩⟩
theorem refines_iff (b0 : 0 < b) {A B : List Pf} (hA : Leaf b N R A) (sA : SrtP A) (hB : Leaf b N R B) (sB : SrtP B) : (∀ x, Inn B x → Inn A x) ↔ finerB A B = true := by
  rw [finer_iff]
  constructor
  · intro h a ha
    obtain ⟨e, he, q⟩ := hB.at_ b0 sB (hA.ok a ha)
    refine ⟨e, he, ?_⟩
    rcases q with ⟨r, t, e1, _⟩ | q
    · by_cases c : t = []
      · exact .inl (Prod.ext r (by rw [e1, c, List.append_nil]))
      · obtain ⟨f, hf, ab⟩ := h a ⟨e, he, r.symm, t, c, e1⟩
        exact absurd ab (hA.alone b0 ha hf)
    · exact .inr q
  · rintro h x ⟨f, hf, ab⟩
    have low : ∀ a ∈ A, a = x ∨ Above a x → False := fun a ha q => by
      obtain ⟨e, he, z⟩ := h a ha
      have : Above e f := by
        have ax : e = x ∨ Above e x := by
          rcases z with z | z
          · rw [z]
            exact q
          · rcases q with q | q
            · rw [← q]
              exact .inr z
            · exact .inr (z.trans q)
        rcases ax with z | z
        · rw [z]
          exact ab
        · exact z.trans ab
      exact hB.alone b0 he hf this
    obtain ⟨a, ha, q⟩ := hA.at_ b0 sA (inn_ok hB ⟨f, hf, ab⟩).1
    rcases q with ⟨r, t, e1, _⟩ | q
    · by_cases c : t = []
      · exact (low a ha (.inl (Prod.ext r (by rw [e1, c, List.append_nil])))).elim
      · exact ⟨a, ha, r.symm, t, c, e1⟩
    · exact (low a ha (.inr q)).elim
theorem finer_join (b0 : 0 < b) {A B L : List Pf} (hA : Leaf b N R A) (sA : SrtP A) (hB : Leaf b N R B) (sB : SrtP B) (hL : Leaf b N R L) (sL : SrtP L) (e : ∀ x, Inn L x ↔ Inn A x ∨ Inn B x) : decide (L = A) = finerB A B := by
  rw [Bool.eq_iff_iff, decide_eq_true_iff, ← refines_iff b0 hA sA hB sB]
  constructor
  · intro h x hx
    rw [← h]
    exact (e x).mpr (.inr hx)
  · intro h
    exact code_same b0 hL sL hA sA fun x => (e x).trans ⟨fun q => q.elim id (h x), .inl⟩
end
end Vf


set_option Elab.async false
set_option maxRecDepth 100000
set_option maxHeartbeats 4000000
set_option exponentiation.threshold 3000
/-! A stream begins with exactly one prefix of a code. -/
namespace Vf
open PySem L2 SX Vm
def undP (r : Nat) (h q : List Nat) (e : Pf) : Bool := underB (r : Int) h q (e.1 : Int) e.2
theorem und_iff {r : Nat} {h q : List Nat} {e : Pf} : undP r h q e = true ↔ e.1 = r ∧ begN h q e.2.length = e.2 := by
  unfold undP underB
  rw [Bool.and_eq_true, decide_eq_true_iff, decide_eq_true_iff]
  exact and_congr ⟨fun z => by omega, fun z => by rw [z]⟩ Iff.rfl
theorem begN_take {h q : List Nat} {n m : Nat} (hm : m ≤ n) : (begN h q n).take m = begN h q m := by
  unfold begN
  rw [← List.map_take, List.take_range, Nat.min_eq_left hm]
theorem begN_dg {b : Nat} {h q : List Nat} {n : Nat} (wh : IsW (b : Int) h) (wq : IsW (b : Int) q) (q0 : 0 < q.length) : IsW (b : Int) (begN h q n) := fun c hc => by
  unfold begN at hc
  obtain ⟨i, _, e⟩ := List.mem_map.mp hc
  subst e
  by_cases hi : i < h.length
  · rw [ev_lt hi, List.getD_eq_getElem?_getD, List.getElem?_eq_getElem hi]
    exact wh _ (List.getElem_mem hi)
  · rw [ev_ge (Nat.le_of_not_lt hi)]
    have hm := Nat.mod_lt (i - h.length) q0
    rw [← g_mod, g_lt hm, List.getD_eq_getElem?_getD, List.getElem?_eq_getElem hm]
    exact wq _ (List.getElem_mem hm)
theorem und_cmp {r : Nat} {h q : List Nat} {e f : Pf} (he : undP r h q e = true) (hf : undP r h q f = true) (le : e.2.length ≤ f.2.length) : e = f ∨ Above e f := by
  obtain ⟨e1, e2⟩ := und_iff.mp he
  obtain ⟨f1, f2⟩ := und_iff.mp hf
  have z : f.2.take e.2.length = e.2 := by
    conv => lhs; rw [← f2]
    rw [begN_take le, e2]
  refine isUp_up.mp ?_
  unfold isUp
  rw [Bool.and_eq_true, decide_eq_true_iff, List.isPrefixOf_iff_prefix, List.prefix_iff_eq_take]
  exact ⟨e1.trans f1.symm, z.symm⟩
section
variable {b N R : Nat}
theorem one_under (b0 : 0 < b) {L : List Pf} (hL : Leaf b N R L) (s : SrtP L) {r : Nat} {h q : List Nat} (hr : r < R) (wh : IsW (b : Int) h) (wq : IsW (b : Int) q) (q0 : 0 < q.length) :
    ∃ e ∈ L, undP r h q e = true ∧ ∀ f ∈ L, undP r h q f = true → f = e := by
  have ok : PfOk b N R ((r, begN h q N) : Pf) := ⟨hr, fun c hc => by
    have z := begN_dg wh wq q0 c hc
    omega, Nat.le_of_eq begN_len⟩
  obtain ⟨e, he, z⟩ := hL.at_ b0 s ok
  have oe := (hL.ok e he).le
  have up : undP r h q e = true := by
    rw [und_iff]
    rcases z with ⟨z1, t, z2, _⟩ | ⟨z1, t, _, z2⟩
    · refine ⟨z1, ?_⟩
      have z2 : e.2 = begN h q N ++ t := z2
      have l := congrArg List.length z2
      rw [List.length_append, begN_len] at l
      have t0 : t = [] := List.length_eq_zero_iff.mp (by omega)
      rw [t0, List.append_nil] at z2
      rw [z2, begN_len]
    · refine ⟨z1, ?_⟩
      have z2 : begN h q N = e.2 ++ t := z2
      rw [← begN_take oe, z2, List.take_left]
  refine ⟨e, he, up, fun f hf uf => ?_⟩
  rcases Nat.le_total f.2.length e.2.length with c | c
  · rcases und_cmp uf up c with y | y
    · exact y
    · exact absurd y (hL.alone b0 hf he)
  · rcases und_cmp up uf c with y | y
    · exact y.symm
    · exact absurd y (hL.alone b0 he hf)
theorem filter_one {L : List Pf} {e : Pf} {p : Pf → Bool} (nd : L.Nodup) (m : e ∈ L) (pe : p e = true) (u : ∀ f ∈ L, p f = true → f = e) : L.filter p = [e] := by
  obtain ⟨A, B, rfl⟩ := List.append_of_mem m
  have n2 := List.nodup_append.mp nd
  have nA : ∀ x ∈ A, x ≠ e := fun x hx => n2.2.2 x hx e List.mem_cons_self
  have nB : ∀ x ∈ B, x ≠ e := fun x hx z => (List.nodup_cons.mp n2.2.1).1 (z ▸ hx)
  rw [List.filter_append, List.filter_cons_of_pos pe, List.filter_eq_nil_iff.mpr fun x hx z => nA x hx (u x (List.mem_append_left _ hx) z),
    List.filter_eq_nil_iff.mpr fun x hx z => nB x hx (u x (List.mem_append_right _ (List.mem_cons_of_mem _ hx)) z)]
  rfl
/-- of a finer code, the prefix of a stream lies below that of the coarser one -/
theorem under_finer {A B : List Pf} {r : Nat} {h q : List Nat} (b0 : 0 < b) (hA : Leaf b N R A) {a e : Pf} (ha : a ∈ A) (he : e ∈ B) (ua : undP r h q a = true) (ue : undP r h q e = true) (up : ∀ x, Inn B x → Inn A x) : isUp e a = true := by
  refine isUp_up.mpr ?_
  rcases Nat.le_total e.2.length a.2.length with c | c
  · exact und_cmp ue ua c
  · rcases und_cmp ua ue c with y | y
    · exact .inl y.symm
    · obtain ⟨f, hf, ab⟩ := up a ⟨e, he, y⟩
      exact absurd ab (hA.alone b0 ha hf)
end
end Vf


set_option Elab.async false
set_option maxRecDepth 100000
set_option maxHeartbeats 4000000
set_option exponentiation.threshold 3000
/-! The law's own codes: two small ones and a deep one. -/
namespace Vf
open PySem L2 SX Vm
def lowR : List Pf := [(0, [48]), (0, [49])]
def highR : List Pf := [(0, [48, 48]), (0, [48, 49]), (0, [49])]
theorem root1 {N : Nat} : Leaf 2 N 1 [(0, [])] ∧ SrtP [(0, [])] := ⟨leaf_root (b := 2) (N := N) (R := 1), lt_srt (List.pairwise_singleton _ _)⟩
theorem lowR_code : Leaf 2 2 1 lowR ∧ SrtP lowR := by
  have z := (root1 (N := 2)).1.split_srt (A := []) (B := []) (by decide) (root1 (N := 2)).2 (by decide)
  exact z
theorem highR_code : Leaf 2 2 1 highR ∧ SrtP highR := by
  have z := lowR_code.1.split_srt (A := []) (B := [(0, [49])]) (by decide) lowR_code.2 (by decide)
  exact z
theorem high_low : ∀ x, Inn lowR x → Inn highR x := (refines_iff (by decide) highR_code.1 highR_code.2 lowR_code.1 lowR_code.2).mpr (by decide)
def combL (n : Nat) : List Pf := (List.range n).map (fun i => ((0, List.replicate i 49 ++ [48]) : Pf)) ++ [(0, List.replicate n 49)]
theorem comb_code : ∀ n, n ≤ 41 → Leaf 2 41 1 (combL n) ∧ SrtP (combL n)
  | 0, _ => root1
  | n + 1, h => by
    obtain ⟨l, s⟩ := comb_code n (by omega)
    have z := l.split_srt (A := (List.range n).map (fun i => ((0, List.replicate i 49 ++ [48]) : Pf))) (B := []) (by decide) s (by show (List.replicate n 49).length < 41; rw [List.length_replicate]; omega)
    have e : (List.range n).map (fun i => ((0, List.replicate i 49 ++ [48]) : Pf)) ++ kids 2 (0, List.replicate n 49) ++ [] = combL (n + 1) := by
      unfold combL
      rw [List.range_succ, List.map_append, List.append_nil, List.append_assoc]
      congr 1
      show [(0, List.replicate n 49 ++ [48]), (0, List.replicate n 49 ++ [49])] = [(0, List.replicate n 49 ++ [48]), (0, List.replicate (n + 1) 49)]
      rw [List.replicate_succ']
    rw [e] at z
    exact z
/-- the last two of the deep code -/
def deep0 : Pf := (0, List.replicate 40 49 ++ [48])
def deep1 : Pf := (0, List.replicate 41 49)
theorem comb_is : combL 41 = (List.range 40).map (fun i => ((0, List.replicate i 49 ++ [48]) : Pf)) ++ [deep0, deep1] := by decide +kernel
theorem deep0_in : deep0 ∈ combL 41 := by rw [comb_is]; simp
theorem deep1_in : deep1 ∈ combL 41 := by rw [comb_is]; simp
theorem deep0_und : undP 0 (List.replicate 40 49) [48] deep0 = true := by decide +kernel
theorem deep1_und : undP 0 [] [49] deep1 = true := by decide +kernel
theorem str0_nf : Nf (ev (List.replicate 40 49) [48]) (List.replicate 40 49) [48] :=
  ⟨by decide, fun _ => rfl, fun s m h1 h2 => by have : s < 1 := h2; omega, fun _ => by decide +kernel⟩
theorem str1_nf : Nf (ev [] [49]) [] [49] := ⟨by decide, fun _ => rfl, fun s m h1 h2 => by have : s < 1 := h2; omega, fun h => absurd h (by decide)⟩
theorem rep_ones (n : Nat) : (List.replicate n [49]).flatten = List.replicate n 49 := by
  induction n with
  | zero => rfl
  | succ n ih => rw [List.replicate_succ, List.flatten_cons, ih, List.replicate_succ]; rfl
end Vf


set_option Elab.async false
set_option maxRecDepth 100000
set_option maxHeartbeats 8000000
set_option exponentiation.threshold 3000
/-! Rows as data: what is asked of them. -/
namespace Vf
open PySem PySem.Spec PyProof.Rows L2 SX
abbrev pfD (e : Pf) : PyData := .tuple [.int (e.1 : Int), .str (S e.2)]
abbrev Low (l : List Nat) : Prop := ∀ c ∈ l, c < 100
theorem lay_S {l : List Nat} (w : Low l) : PyData.canLay0 (.str (S l)) = true := by
  show (S l).cps.all _ = true
  rw [Array.all_eq_true']
  intro c hc
  exact decide_eq_true (Nat.lt_trans (w c (by simpa using hc)) (by decide))
theorem pfs_perm {A B : Pr} (h : A.Perm B) : (pfs A).Perm (pfs B) := h.map _
theorem row_dp {K : PySem.W.Frag} {H : Hp} {p : Addr} {e : Pf} (h : H p = some (pfO e)) : Dp K H (.ref p) (pfD e) := .tup (SqT.of h) (.cons (.int _) (.cons (.str _) .nil))
theorem rows_dp {K : PySem.W.Frag} {H : Hp} : ∀ {L : Pr}, (∀ e ∈ L, H e.1 = some (pfO e.2)) → DpAll K H (prefs L) ((pfs L).map pfD)
  | [], _ => .nil
  | e :: L, g => .cons (row_dp (g e List.mem_cons_self)) (rows_dp fun x hx => g x (List.mem_cons_of_mem _ hx))
theorem row_lay {e : Pf} (g : Low e.2) : PyData.canLay0 (pfD e) = true := by
  show (PyData.canLay0 (.int (e.1 : Int)) && (PyData.canLay0 (.str (S e.2)) && true)) = true
  rw [lay_S g]
  rfl
theorem rows_lay : ∀ {L : List Pf}, (∀ e ∈ L, Low e.2) → PyData.canLayAll0 (L.map pfD) = true
  | [], _ => rfl
  | e :: L, g => by
    show (PyData.canLay0 (pfD e) && PyData.canLayAll0 (L.map pfD)) = true
    rw [rows_lay fun x hx => g x (List.mem_cons_of_mem _ hx), Bool.and_true]
    exact row_lay (g e List.mem_cons_self)
theorem rows_depth : ∀ {L : List Pf}, PyData.depthAll (L.map pfD) ≤ 1
  | [] => Nat.zero_le _
  | e :: L => by
    show max (PyData.depth (pfD e)) (PyData.depthAll (L.map pfD)) ≤ 1
    exact Nat.max_le.mpr ⟨Nat.le_refl 1, rows_depth⟩
theorem rows_shaped {L : List Pf} (g : ∀ e ∈ L, Low e.2) : PyData.canLay0 (.tuple (L.map pfD)) = true ∧ SeqAt.shaped (.tuple (L.map pfD)) = true := by
  have h : PyData.canLay0 (.tuple (L.map pfD)) = true := rows_lay g
  refine ⟨h, ?_⟩
  unfold SeqAt.shaped
  rw [h, Bool.true_and]
  refine decide_eq_true ?_
  have := rows_depth (L := L)
  show PyData.depthAll (L.map pfD) + 1 ≤ 64
  omega
theorem rows_shapedL {L : List Pf} (g : ∀ e ∈ L, Low e.2) : SeqAt.shaped (.list (L.map pfD)) = true := by
  have h : PyData.canLay0 (.list (L.map pfD)) = true := rows_lay g
  unfold SeqAt.shaped
  rw [h, Bool.true_and]
  refine decide_eq_true ?_
  have := rows_depth (L := L)
  show PyData.depthAll (L.map pfD) + 1 ≤ 64
  omega
theorem row_shaped {e : Pf} (g : Low e.2) : SeqAt.shaped (pfD e) = true := by
  unfold SeqAt.shaped
  rw [row_lay g, Bool.true_and]
  exact decide_eq_true (by show (1 : Nat) ≤ 64; decide)
theorem S_in1 {x y : List Nat} (h : S x = S y) : x = y := by
  have := congrArg (fun s : Str => s.cps.toList) h
  simpa using this
theorem pfD_eqv (e f : Pf) : PyData.eqv (pfD e) (pfD f) = decide (e = f) := by
  have z : PyData.eqv (pfD e) (pfD f) = (((e.1 : Int) == (f.1 : Int)) && ((S e.2 == S f.2) && true)) := by simp only [pfD, PyData.eqv, PyData.eqvAll]
  rw [z]
  by_cases h : e = f
  · subst h
    simp
  · rw [decide_eq_false h]
    by_cases h1 : e.1 = f.1
    · have h2 : ¬ S e.2 = S f.2 := fun q => h (Prod.ext h1 (S_in1 q))
      rw [show (S e.2 == S f.2) = false by simpa using h2]
      simp
    · have h2 : ¬ (e.1 : Int) = f.1 := fun z => h1 (by omega)
      rw [beq_eq_false_iff_ne.mpr h2]
      simp
theorem any_eqv {L : List Pf} {e : Pf} : ((L.map pfD).any fun z => PyData.eqv z (pfD e)) = decide (e ∈ L) := by
  rw [List.any_map]
  by_cases h : e ∈ L
  · rw [decide_eq_true h, List.any_eq_true]
    exact ⟨e, h, by show PyData.eqv (pfD e) (pfD e) = true; rw [pfD_eqv]; exact decide_eq_true rfl⟩
  · rw [decide_eq_false h, List.any_eq_false]
    intro x hx
    show ¬ PyData.eqv (pfD x) (pfD e) = true
    rw [pfD_eqv, decide_eq_true_iff]
    exact fun z => h (z ▸ hx)
theorem idx_facts {α : Type} [DecidableEq α] {l : List α} {e : α} (m : e ∈ l) : l[l.idxOf e]? = some e ∧ ∀ i, i < l.idxOf e → l[i]? ≠ some e := by
  refine ⟨by rw [List.getElem?_eq_getElem (List.idxOf_lt_length_iff.mpr m), List.getElem_idxOf], fun i hi hz => ?_⟩
  obtain ⟨h1, h2⟩ := List.getElem?_eq_some_iff.mp hz
  exact SeqAt.lt_idxOf_ne hi h1 h2
section
variable {X : Cx}
def rInP (K : PySem.W.Frag) (neg : Bool) : R2 := fun x y H Q => ∃ (p q : Addr) (e : Pf) (L : Pr), x = .ref p ∧ y = .ref q ∧ H p = some (pfO e) ∧ (SqT K H q (prefs L) ∨ SqL K H q (prefs L)) ∧ (∀ e ∈ L, H e.1 = some (pfO e.2)) ∧ Low e.2 ∧ (∀ f ∈ pfs L, Low f.2) ∧
  Q (.bl (neg ^^ decide (e ∈ pfs L))) H
theorem op_inP (hu : X.A.units + 65 < cLine) : OpR X (compareOp .In) (rInP X.K false) := by
  intro pins s σ H x y v u Q I rx ry h
  obtain ⟨p, q, e, L, rfl, rfl, hp, hq, g, le, lL, k⟩ := h
  rw [Bool.false_xor, ← any_eqv] at k
  obtain ⟨as, r1⟩ := Dp.reads I (pfD e) (.ref p) v (row_dp hp) rx
  rcases hq with hq | hq
  · obtain ⟨bs, r2⟩ := Dp.reads I (.tuple ((pfs L).map pfD)) (.ref q) u (.tup hq (rows_dp g)) ry
    exact SeqAt.in_tuple_reads r2 r1 (rows_lay lL) (row_lay le) (room_in_shaped (row_shaped le) hu) ⟨.bl _, H, I, rfl, k⟩
  · obtain ⟨bs, r2⟩ := Dp.reads I (.list ((pfs L).map pfD)) (.ref q) u (.lst hq (rows_dp g)) ry
    exact SeqAt.in_list_reads r2 r1 (rows_lay lL) (row_lay le) (room_in_shaped (row_shaped le) hu) ⟨.bl _, H, I, rfl, k⟩
theorem op_notInP (hu : X.A.units + 65 < cLine) : OpR X (compareOp .NotIn) (rInP X.K true) := by
  intro pins s σ H x y v u Q I rx ry h
  obtain ⟨p, q, e, L, rfl, rfl, hp, hq, g, le, lL, k⟩ := h
  rw [Bool.true_xor, ← any_eqv] at k
  obtain ⟨as, r1⟩ := Dp.reads I (pfD e) (.ref p) v (row_dp hp) rx
  rcases hq with hq | hq
  · obtain ⟨bs, r2⟩ := Dp.reads I (.tuple ((pfs L).map pfD)) (.ref q) u (.tup hq (rows_dp g)) ry
    exact SeqAt.notIn_tuple_reads r2 r1 (rows_lay lL) (row_lay le) (room_in_shaped (row_shaped le) hu) ⟨.bl _, H, I, rfl, k⟩
  · obtain ⟨bs, r2⟩ := Dp.reads I (.list ((pfs L).map pfD)) (.ref q) u (.lst hq (rows_dp g)) ry
    exact SeqAt.notIn_list_reads r2 r1 (rows_lay lL) (row_lay le) (room_in_shaped (row_shaped le) hu) ⟨.bl _, H, I, rfl, k⟩
/-- t.index(x), there -/
def rIndexP (K : PySem.W.Frag) : V → List V → Hp → VK → Prop := fun x xs H Q => ∃ (p q : Addr) (e : Pf) (L : Pr), x = .ref q ∧ xs = [.ref p] ∧ H p = some (pfO e) ∧ SqT K H q (prefs L) ∧ (∀ e ∈ L, H e.1 = some (pfO e.2)) ∧ Low e.2 ∧ (∀ f ∈ pfs L, Low f.2) ∧ e ∈ pfs L ∧
  ∀ j : Nat, (pfs L)[j]? = some e → (∀ m, m < j → (pfs L)[m]? ≠ some e) → Q (.int (j : Int)) H
theorem mt_indexP (hu : X.A.units + 65 < cLine) : MtR X "tuple.index" (rIndexP X.K) := by
  intro pins s σ H x xs v us Q I rx rxs h
  obtain ⟨p, q, e, L, rfl, rfl, hp, hq, g, le, lL, m, k⟩ := h
  obtain ⟨u, rfl, ru⟩ := vals1 rxs
  obtain ⟨as, r1⟩ := Dp.reads I (pfD e) (.ref p) u (row_dp hp) ru
  obtain rfl : v = Value.ref q := rx
  obtain ⟨its, rv, pt, hz⟩ := I.tuple hq
  obtain ⟨bs, r4⟩ := Dp.readsAll I ((pfs L).map pfD) _ its (rows_dp g) rv
  have hl : its.length = L.length := by rw [← rv.length, List.length_map]
  have hmap : its.map (SeqAt.readOf s.heap) = (pfs L).map pfD := SeqAt.readsAll_map _ its bs (rows_lay lL) r4
  have en := SeqAt.items_eqAt (A := X.A) (vs := its.toArray) (show ReadsAll s.heap its.toArray.toList _ bs from r4) r1 (rows_lay lL) (row_lay le) (room_in_shaped (row_shaped le) hu)
  refine SeqAt.call_tuple_index (ks := pfs L) (k := e) (vs := its) pt ⟨by rw [hl, List.length_map], fun j h1 h2 => ?_⟩ m ⟨.int _, H, I.tok _, ⟨_, rfl⟩, k _ ?_ ?_⟩
  · have q1 : SeqAt.readOf s.heap its[j] = pfD (pfs L)[j] := by
      have z : (its.map (SeqAt.readOf s.heap))[j]? = ((pfs L).map pfD)[j]? := by rw [hmap]
      rw [List.getElem?_map, List.getElem?_map, List.getElem?_eq_getElem h1, List.getElem?_eq_getElem h2] at z
      exact Option.some.inj z
    have z := en its[j] (by simp)
    rw [q1, pfD_eqv] at z
    exact z
  · exact (idx_facts m).1
  · exact (idx_facts m).2
end
/-! ### tuple(sorted(x)), x a list -/
theorem pe_imp {X : Cx} {e : Expr} {te te' : TE} (h : PE X e te) (i : ∀ σ H Q, te' σ H Q → te σ H Q) : PE X e te' := ⟨fun pins s σ H Q I q => h.run pins s σ H Q I (i σ H Q q)⟩
theorem slA_s {K : PySem.W.Frag} {p : Addr} {J : Hp} {xs : List V} {Q : VK} {lo hi : Option Int} (hp : Rd J p (.tup xs)) (h : ∀ q J', Same J J' → Rd J' q (.tup (cutV xs lo hi)) → Q (.ref q) J') : rSlA K (.ref p) lo hi J Q := by
  refine ⟨p, xs, rfl, rd_t hp, fun hw => ?_, fun _ r nr => ?_⟩
  · refine h p J (Same.refl _) ?_
    have e : cutV xs lo hi = xs := by
      unfold cutV
      rw [hw.1, hw.2, List.drop_zero, Nat.sub_zero, List.take_length]
    rw [e]
    exact hp
  · exact h r _ (same_new' nr) (.inl upd_same)
theorem catF_s {K : PySem.W.Frag} {p q : Addr} {J : Hp} {xs ys : List V} {Q : VK} (hp : Rd J p (.tup xs)) (hq : Rd J q (.tup ys)) (hz : xs.length + ys.length ≤ sizeLine) (fy : xs = [] → Fz J q ys) (fx : ys = [] → Fz J p xs)
    (h : ∀ r J', Same J J' → Fz J' r (xs ++ ys) → Q (.ref r) J') : rCatF K (.ref p) (.ref q) J Q := by
  refine ⟨p, q, xs, ys, rfl, rfl, rd_t hp, rd_t hq, hz, fun e => ?_, fun _ e => ?_, fun r J' k f => h r J' k f⟩
  · have f := fy e
    subst e
    exact h q J (Same.refl _) f
  · have f := fx e
    subst e
    exact h p J (Same.refl _) (by rw [List.append_nil]; exact f)
/-- two rows that hold the same, and any two -/
theorem eq_rows {K : PySem.W.Frag} {H : Hp} {p q : Addr} {A B : Pr} {Q : VK} (ha : Rd H p (.tup (prefs A))) (hb : Rd H q (.tup (prefs B))) (ga : ∀ e ∈ A, H e.1 = some (pfO e.2)) (gb : ∀ e ∈ B, H e.1 = some (pfO e.2)) (e : pfs A = pfs B)
    (c : ∀ e ∈ pfs A, Low e.2) (k : Q (.bl true) H) : rEqD K (.ref p) (.ref q) H Q := by
  obtain ⟨l, s⟩ := rows_shaped c
  refine ⟨_, _, .tup (rd_t ha) (rows_dp ga), .tup (rd_t hb) (rows_dp gb), s, by rw [← e]; exact s, ?_⟩
  rw [← e, PySem.SeqAt.eqv_refl _ l]
  exact k
theorem ne_rows {K : PySem.W.Frag} {H : Hp} {p q : Addr} {A B : Pr} {Q : VK} (ha : Rd H p (.tup (prefs A))) (hb : Rd H q (.tup (prefs B))) (ga : ∀ e ∈ A, H e.1 = some (pfO e.2)) (gb : ∀ e ∈ B, H e.1 = some (pfO e.2)) (e : pfs A = pfs B)
    (c : ∀ e ∈ pfs A, Low e.2) (k : Q (.bl false) H) : rNeD K (.ref p) (.ref q) H Q := by
  obtain ⟨l, s⟩ := rows_shaped c
  refine ⟨_, _, .tup (rd_t ha) (rows_dp ga), .tup (rd_t hb) (rows_dp gb), s, by rw [← e]; exact s, ?_⟩
  rw [← e, PySem.SeqAt.eqv_refl _ l]
  exact k
/-- two single prefixes -/
theorem ne_one {K : PySem.W.Frag} {H : Hp} {p q : Addr} {e f : Pf} {Q : VK} (ha : H p = some (pfO e)) (hb : H q = some (pfO f)) (c : Low e.2) (d : Low f.2) (k : Q (.bl (!decide (e = f))) H) : rNeD K (.ref p) (.ref q) H Q := by
  refine ⟨_, _, row_dp ha, row_dp hb, row_shaped c, row_shaped d, ?_⟩
  rw [pfD_eqv]
  exact k
theorem sort_list {K : PySem.W.Frag} {H : Hp} {p : Addr} {L : Pr} {Q : VK} (hp : SqL K H p (prefs L)) (g : ∀ e ∈ L, H e.1 = some (pfO e.2))
    (k : ∀ (L' : Pr) (t : Addr) (H' : Hp), SrtP (pfs L') → L'.Perm L → Same H H' → (∀ e ∈ L', H' e.1 = some (pfO e.2)) → Fz H' t (prefs L') → Q (.ref t) H') :
    VG.rSortedIS K [.ref p] H (fun x H1 => rTupF K [x] H1 Q) := by
  refine ⟨p, prefs L, keyAt H, rfl, hp, fun x hx => ?_, fun ys l hs hb nl => ?_⟩
  · obtain ⟨e, he, rfl⟩ := List.mem_map.mp hx
    have g := g e he
    refine ⟨e.1, rfl, ?_⟩
    rw [keyAt_of g]
    exact g
  · obtain ⟨L', pm, ey⟩ := perm_lift (fun e : Addr × Pf => V.ref e.1) L hb.perm
    subst ey
    have s1 : Same H (upd H l (.lst (prefs L'))) := same_new' nl
    have g1 : upd H l (.lst (prefs L')) l = some (.lst (prefs L')) := upd_same
    generalize upd H l (.lst (prefs L')) = H1 at s1 g1 ⊢
    refine ⟨l, _, rfl, SqL.of g1, fun t H2 s2 f2 _ => ?_⟩
    have S12 : Same H H2 := fun _ _ e => s2 _ _ (s1 _ _ e)
    refine k L' t _ ?_ pm S12 (fun e he => S12 _ _ (g e (pm.mem_iff.mp he))) f2
    have z := srtd_of_map hs
    have e : (prefs L').map (keyAt H) = (pfs L').map kP := by
      rw [List.map_map, List.map_map]
      refine List.map_congr_left fun e he => ?_
      exact keyAt_of (g e (pm.mem_iff.mp he))
    rw [e] at z
    exact z
end Vf


set_option Elab.async false
set_option maxRecDepth 100000
set_option maxHeartbeats 8000000
set_option exponentiation.threshold 3000
/-! The program's ways with codes: what follows a prefix by one digit; the roots of a code. -/
namespace Vf
open PySem L2 SX
section
variable {J : It} {n : Nat} {G : Hp → Prop} {Y : Nat → Hp → V → Hp → Prop}
/-- the outer of two loops of a comprehension -/
theorem lc2_it (w : Walk J n G Y) {g : TG} {tt : TT} {Bd : L2.St → Hp → (Hp → Prop) → Prop} {vs : List Nat} {σ : L2.St} {H1 : Hp} {D : Addr} {Qd : Hp → Prop} (Pv : Nat → Hp → Prop) (h0 : Pv 0 (upd H1 D (.lst []))) (hG : ∀ i H, i ≤ n → Pv i H → G H)
    (hs : ∀ i x H H', i < n → Pv i H → Y i H x H' → g x (wipe σ vs) H' fun σ2 H2 => wipe σ2 vs = wipe σ vs ∧ tt σ2 H2 fun b H3 => if b = true then Bd σ2 H3 (Pv (i + 1)) else Pv (i + 1) H3) (hd : ∀ H, Pv n H → Qd H) :
    ∃ W : Nat → Nat → Hp → Prop, (∃ m, W 0 m (upd H1 D (.lst []))) ∧ ∀ i m H, W i m H →
      (J.stop i H ∧ Qd H) ∨ (J.go i H ∧ ∃ Nx : Hp → Prop, (∀ H', Nx H' → ∃ m', m' < m ∧ W (i + 1) m' H') ∧ ∀ x H', J.yld i H x H' → g x (wipe σ vs) H' fun σ2 H2 => wipe σ2 vs = wipe σ vs ∧ tt σ2 H2 fun b H3 =>
        if b = true then Bd σ2 H3 Nx else Nx H3) := by
  refine ⟨fun i m H => m = n - i ∧ i ≤ n ∧ Pv i H, ⟨n, by simp, Nat.zero_le _, h0⟩, ?_⟩
  rintro i m H ⟨rfl, hi, p⟩
  have q := hG i H hi p
  by_cases hlt : i < n
  · refine .inr ⟨w.goes i H hlt q, Pv (i + 1), fun H' p' => ⟨n - (i + 1), by omega, rfl, hlt, p'⟩, fun x H' y => hs i x H H' hlt p (w.yields i H x H' hlt q y)⟩
  · have e : i = n := by omega
    subst e
    exact .inl ⟨w.stops H q, hd H p⟩
/-- the inner one -/
theorem lc2_in (w : Walk J n G Y) {g : TG} {tt : TT} {te : TE} {vs : List Nat} {σ : L2.St} {H1 : Hp} {D : Addr} {Qd : Hp → Prop} (Pv : Nat → Hp → Prop) (h0 : Pv 0 H1) (hG : ∀ i H, i ≤ n → Pv i H → G H)
    (hs : ∀ i x H H', i < n → Pv i H → Y i H x H' → g x (wipe σ vs) H' fun σ2 H2 => wipe σ2 vs = wipe σ vs ∧ tt σ2 H2 fun b H3 =>
      if b = true then te σ2 H3 fun y H4 => ∃ acc, H4 D = some (.lst acc) ∧ acc.length < sizeLine ∧ Pv (i + 1) (upd H4 D (.lst (acc ++ [y]))) else Pv (i + 1) H3) (hd : ∀ H, Pv n H → Qd H) :
    ∃ W : Nat → Nat → Hp → Prop, (∃ m, W 0 m H1) ∧ ∀ i m H, W i m H →
      (J.stop i H ∧ Qd H) ∨ (J.go i H ∧ ∃ Nx : Hp → Prop, (∀ H', Nx H' → ∃ m', m' < m ∧ W (i + 1) m' H') ∧ ∀ x H', J.yld i H x H' → g x (wipe σ vs) H' fun σ2 H2 => wipe σ2 vs = wipe σ vs ∧ tt σ2 H2 fun b H3 =>
        if b = true then te σ2 H3 fun y H4 => ∃ acc, H4 D = some (.lst acc) ∧ acc.length < sizeLine ∧ Nx (upd H4 D (.lst (acc ++ [y]))) else Nx H3) := by
  refine ⟨fun i m H => m = n - i ∧ i ≤ n ∧ Pv i H, ⟨n, by simp, Nat.zero_le _, h0⟩, ?_⟩
  rintro i m H ⟨rfl, hi, p⟩
  have q := hG i H hi p
  by_cases hlt : i < n
  · refine .inr ⟨w.goes i H hlt q, Pv (i + 1), fun H' p' => ⟨n - (i + 1), by omega, rfl, hlt, p'⟩, fun x H' y => hs i x H H' hlt p (w.yields i H x H' hlt q y)⟩
  · have e : i = n := by omega
    subst e
    exact .inl ⟨w.stops H q, hd H p⟩
end
def spCodeRoots : Sp := fun vs H Q _ => ∃ (a : Addr) (L : Pr) (x : Addr × Pf), vs = [.ref a] ∧ Rd H a (.tup (prefs (L ++ [x]))) ∧ H x.1 = some (pfO x.2) ∧ Q (.int ((x.2.1 : Int) + 1)) H
section
variable {P : Program} {w : World} {K : PySem.W.Frag} {mg : Str → Option Value} {base : Heap}
theorem atI_last {α : Type} (L : List α) (x : α) : atI (L ++ [x]) (-1) = some x := by
  unfold atI ixN
  rw [if_neg (by decide), if_pos (by rw [List.length_append]; show -((L.length + 1 : Nat) : Int) ≤ -1; omega)]
  show (L ++ [x])[((-1 : Int) + ((L ++ [x]).length : Int)).toNat]? = some x
  rw [show ((-1 : Int) + ((L ++ [x]).length : Int)).toNat = L.length by rw [List.length_append]; show ((-1 : Int) + ((L.length + 1 : Nat) : Int)).toNat = L.length; omega]
  simp
theorem scCodeRoots : FnScope ["code"] ["code"] (defScope sCodeRoots) := ⟨rfl, rfl, rfl, by decide +kernel, rfl, by decide +kernel, by decide +kernel⟩
theorem ok_coderoots {f : Addr} {fd : FuncData} (F : Fun K "code_roots" "code_roots" sCodeRoots f fd) : FnOk P w K mg base CX0 1 f fd ["code"] spCodeRoots := by
  refine F.ok scCodeRoots (fun vs H Q E h => ?_) (fun cdv A outer s H vs Q E hr h => ?_)
  · obtain ⟨a, L, x, rfl, _⟩ := h
    rfl
  · obtain ⟨a, L, x, rfl, ha, hx, k⟩ := h
    refine ⟨_, pss_one (ps_ret (pe_op op_add (pe_ix ix_tup (pe_ix ix_tup (pv 0) (pe_un un_neg pe_int) (fun _ _ => rfl)) pe_int (fun _ _ => rfl)) pe_int)), ?_⟩
    have el : prefs (L ++ [x]) = prefs L ++ [V.ref x.1] := List.map_append
    refine ⟨_, rfl, _, rfl, a, _, _, _, rfl, rfl, rd_t ha, by rw [el]; exact atI_last _ _, x.1, _, _, _, rfl, rfl, SqT.of hx, rfl, _, _, rfl, rfl, k⟩
end
end Vf


set_option Elab.async false
set_option maxRecDepth 100000
set_option maxHeartbeats 8000000
set_option exponentiation.threshold 3000
/-! Codes required; their inner nodes. -/
namespace Vf
open PySem L2 SX
section
variable {b N R : Nat} {L : List Pf}
theorem Leaf.last (b0 : 0 < b) (h : Leaf b N R L) (s : SrtP L) (r1 : 1 ≤ R) : ∃ L0 x, L = L0 ++ [x] ∧ x.1 + 1 = R := by
  obtain ⟨e, he, z⟩ := h.at_ b0 s (x := (R - 1, [])) ⟨by show R - 1 < R; omega, fun c hc => (by cases hc), Nat.zero_le _⟩
  have er : e.1 = R - 1 := by
    rcases z with ⟨z, _⟩ | z
    · exact z
    · have := z.len
      exact absurd this (Nat.not_lt_zero _)
  have ne : L ≠ [] := fun z => by rw [z] at he; cases he
  refine ⟨L.dropLast, L.getLast ne, (List.dropLast_concat_getLast ne).symm, ?_⟩
  have ml := List.getLast_mem ne
  have lt := (h.ok _ ml).r
  have o := h.ord b0 s
  rw [← List.dropLast_concat_getLast ne] at he o
  rcases List.mem_append.mp he with q | q
  · have := (List.pairwise_append.mp o).2.2 e q _ (List.mem_singleton.mpr rfl)
    rcases this with u | ⟨u, _⟩ <;> omega
  · have := List.mem_singleton.mp q
    rw [← this]
    omega
end
/-- a row that is a code -/
structure CodeR (b R N : Nat) (H : Hp) (a : Addr) (L : Pr) : Prop where
  row : Row b R N H a L
  fz : Fz H a (prefs L)
  lf : Leaf b N R (pfs L)
  st : SrtP (pfs L)
  le : L.length ≤ 5000
theorem CodeR.same {b R N : Nat} {H H' : Hp} {a : Addr} {L : Pr} (r : CodeR b R N H a L) (s : Same H H') : CodeR b R N H' a L := ⟨r.row.same s, r.fz.same s, r.lf, r.st, r.le⟩
theorem CodeR.low {b R N : Nat} {H : Hp} {a : Addr} {L : Pr} (r : CodeR b R N H a L) (b5 : b ≤ 5) : ∀ e ∈ pfs L, Low e.2 := fun e he c hc => by
  have := (r.lf.ok e he).dg c hc
  omega
theorem CodeR.good {b R N : Nat} {H : Hp} {a : Addr} {L : Pr} (r : CodeR b R N H a L) : ∀ e ∈ L, H e.1 = some (pfO e.2) := fun e he => (r.row.good e he).1
theorem CodeR.cut {b R N : Nat} {H : Hp} {a : Addr} {L : Pr} (r : CodeR b R N H a L) (b0 : 0 < b) (r1 : 1 ≤ R) : ∃ L0 x, L = L0 ++ [x] ∧ x.2.1 + 1 = R := by
  obtain ⟨L0, x, e, z⟩ := r.lf.last b0 r.st r1
  have ne : L ≠ [] := fun q => by rw [q] at e; simp at e
  refine ⟨L.dropLast, L.getLast ne, (List.dropLast_concat_getLast ne).symm, ?_⟩
  have e2 : pfs L = pfs L.dropLast ++ [(L.getLast ne).2] := by
    conv => lhs; rw [← List.dropLast_concat_getLast ne]
    exact List.map_append
  rw [e] at e2
  have := List.append_inj_right' e2 rfl
  injection this with q _
  rw [← q]
  exact z
def spReqCode : Sp := fun vs H Q _ => ∃ (b R N : Nat) (a : Addr) (L : Pr), vs = [.int (b : Int), .ref a] ∧ 2 ≤ b ∧ b ≤ 5 ∧ 1 ≤ R ∧ R ≤ 5000 ∧ N ≤ 1000 ∧ CodeR b R N H a L ∧ ∀ H', Same H H' → Q .non H'
/-- what stands in L, a tuple of pairs that is new -/
structure NewT (H H' : Hp) (p : Addr) (L : Pr) : Prop where
  same : Same H H'
  at_ : Fz H' p (prefs L)
  good : ∀ e ∈ L, H' e.1 = some (pfO e.2)
def spNodes : Sp := fun vs H Q _ => ∃ (a : Addr) (L : Pr), vs = [.ref a] ∧ Rd H a (.tup (prefs L)) ∧ (∀ e ∈ L, H e.1 = some (pfO e.2)) ∧ (∀ e ∈ pfs L, e.2.length ≤ 9000) ∧ ((pfs L).flatMap nodesOf).length ≤ 6000 ∧
  ∀ (L' : Pr) (p : Addr) (H' : Hp), pfs L' = (pfs L).flatMap nodesOf → NewT H H' p L' → Q (.ref p) H'
def spInnerN : Sp := fun vs H Q _ => ∃ (b R N : Nat) (a : Addr) (L : Pr), vs = [.int (b : Int), .ref a] ∧ 2 ≤ b ∧ b ≤ 5 ∧ 1 ≤ R ∧ R ≤ 5000 ∧ N ≤ 1000 ∧ CodeR b R N H a L ∧ ((pfs L).flatMap nodesOf).length ≤ 6000 ∧
  ∀ (L' : Pr) (p : Addr) (H' : Hp), pfs L' = (pfs L).flatMap nodesOf → NewT H H' p L' → Q (.ref p) H'
section
variable {P : Program} {w : World} {K : PySem.W.Frag} {mg : Str → Option Value} {base : Heap}
theorem pg_row {H : Hp} {b R : Nat} {p : Addr} {e : Pf} (h : H p = some (pfO e)) (dg : Dg b e.2) (hl : e.2.length ≤ 9000) (hr : e.1 < R) : PG H b (R : Int) (.ref p) true := pg_right h dg hl hr
theorem scReqCode : FnScope ["base", "code"] ["base", "code"] (defScope sReqCode) := ⟨rfl, rfl, rfl, by decide +kernel, rfl, by decide +kernel, by decide +kernel⟩
theorem ok_reqcode {f fP fR fC CI : Addr} {fd fdP fdR fdC : FuncData} (F : Fun K "require_code" "require_code" sReqCode f fd) (GP : FnOk P w K mg base CX0 3 fP fdP ["base", "roots", "value"] spPfxFormG) (cP : Cal K mg "has_prefix_form" fP fdP ["base", "roots", "value"])
    (GR : FnOk P w K mg base CX0 1 fR fdR ["code"] spCodeRoots) (cR : Cal K mg "code_roots" fR fdR ["code"]) (GC : FnOk P w K mg base CX0 4 fC fdC ["base", "roots", "value"] spCodeForm) (cC : Cal K mg "has_code_form" fC fdC ["base", "roots", "value"])
    (TX : PfxTxt K mg "InvalidCode" CI) (N : Nm mg) : FnOk P w K mg base CX0 5 f fd ["base", "code"] spReqCode := by
  refine F.ok scReqCode (fun vs H Q E h => ?_) (fun cdv A outer s H vs Q E hr h => ?_)
  · obtain ⟨b, R, M, a, L, rfl, _⟩ := h
    rfl
  · obtain ⟨b, R, M, a, L, rfl, b2, b5, r1, r5, hM, c, k⟩ := h
    have nd := scReqCode.nd
    have hr3 := hr.mono (show 3 ≤ 4 by decide)
    have hr1 := hr.mono (show 1 ≤ 4 by decide)
    obtain ⟨t2, m2⟩ := N.maxR
    refine ⟨_, pss_cons (ps_if (PW.pt (pw_or (pt_not (pt_val (pe_callB call_isi (by rfl) N.isinst PyProof.Rows.boot_isinstance (pa_cons (pv 1) (pa_cons (pe_bltn (v := .ty "tuple") (by rfl) N.tuple PyProof.Rows.boot_tuple rfl) pa_nil)))))
          (pw_or (pt_cmpR op_eq (pe_callB call_len_seq (by rfl) N.len boot_len (pa_cons (pv 1) pa_nil)) pe_int (nomark _))
          (pw_or1 (pt_not (pt_val (pe_call GP hr3 rfl cP.mg cP.kp cP.b .nil pass0 (pa_cons (pv 0) (pa_cons (pe_glob (v := .int 5000) rfl m2 ⟨_, rfl⟩) (pa_cons (pe_ix ix_tup (pv 1) (pe_un un_neg pe_int) (fun _ _ => rfl)) pa_nil))))))))))
        (pss_one (ps_raise rfl takes0 (pmk_own PySem.F.excBase_ValueError TX.ex TX.g TX.kp (raises_own TX.bs TX.ty) rfl))) pss_nil)
      (pss_one (ps_if (pt_not (pt_val (pe_call GC hr rfl cC.mg cC.kp cC.b .nil pass0 (pa_cons (pv 0) (pa_cons (pe_call GR hr1 rfl cR.mg cR.kp cR.b .nil pass0 (pa_cons (pv 1) pa_nil)) (pa_cons (pv 1) pa_nil))))))
        (pss_one (ps_raise rfl takes0 (pmk_own PySem.F.excBase_ValueError TX.ex TX.g TX.kp (raises_own TX.bs TX.ty) rfl))) pss_nil)), ?_⟩
    obtain ⟨L0, x, rfl, ex⟩ := c.cut (by omega) r1
    have hx : x ∈ L0 ++ [x] := List.mem_append_right _ (List.mem_singleton.mpr rfl)
    obtain ⟨g1, g2, g3⟩ := c.row.good x hx
    have el : prefs (L0 ++ [x]) = prefs L0 ++ [V.ref x.1] := List.map_append
    refine ⟨_, rfl, _, _, _, _, true, rfl, .ty "tuple", rd_tyx c.row.at_, kit_ty (by decide +kernel), _, rfl, ?_⟩
    refine iteF ?_
    refine ⟨_, rfl, _, _, rfl, .inr (rd_t c.row.at_), rfl, _, rfl, ?_⟩
    refine iteFB (decide_eq_false fun z => ?_) ?_
    · have z := V.int.inj z
      rw [List.length_map, List.length_append] at z
      have : ([x] : Pr).length = 1 := rfl
      omega
    refine ⟨_, rfl, _, rfl, _, rfl, a, _, _, _, rfl, rfl, rd_t c.row.at_, by rw [el]; exact atI_last _ _, b, 5000, _, true, rfl, b2, b5, pg_right (R := 5000) g1 g2 (by omega) (by omega), _, rfl, ?_⟩
    refine iteF ?_
    refine ⟨_, rfl, _, rfl, a, L0, x, rfl, c.row.at_, g1, _, rfl, b, R, M, a, _, ?_, b2, b5, c.row, c.le, by omega, fun H' s' => ?_⟩
    · show [V.int (b : Int), .int ((x.2.1 : Int) + 1), .ref a] = [V.int (b : Int), .int (R : Int), .ref a]
      rw [show ((x.2.1 : Int) + 1) = (R : Int) by omega]
    · rw [c.lf.cov (by omega) c.st]
      exact ⟨_, rfl, iteF (k H' s')⟩
end
end Vf


set_option Elab.async false
set_option maxRecDepth 100000
set_option maxHeartbeats 8000000
set_option exponentiation.threshold 3000
/-! Codes expanded and contracted. -/
namespace Vf
open PySem L2 SX
theorem ps_no {X : Cx} {st : Stmt} : PS X st (fun _ _ _ => False) := ⟨fun _ _ _ _ _ _ h => h.elim⟩
theorem idx_at {A B : List Pf} {e : Pf} {j : Nat} (na : e ∉ A) (h : (A ++ e :: B)[j]? = some e) (mn : ∀ m, m < j → (A ++ e :: B)[m]? ≠ some e) : j = A.length := by
  rcases Nat.lt_trichotomy j A.length with c | c | c
  · rw [List.getElem?_append_left c] at h
    exact absurd (List.mem_of_getElem? h) na
  · exact c
  · exact absurd (by rw [List.getElem?_append_right (Nat.le_refl _), Nat.sub_self]; rfl) (mn _ c)
theorem slNA {K : PySem.W.Frag} {σ : L2.St} {x : V} {lo : Option Int} {J : Hp} {Q : VK} (h : rSlA K x lo none J Q) : tNoPart σ J (fun u H3 => rSlA K x lo u H3 Q) := h
theorem pfs_take {L : Pr} {n : Nat} : pfs (L.take n) = (pfs L).take n := List.map_take
theorem pfs_drop {L : Pr} {n : Nat} : pfs (L.drop n) = (pfs L).drop n := List.map_drop
theorem pfs_app {L M : Pr} : pfs (L ++ M) = pfs L ++ pfs M := List.map_append
theorem prefs_app {L M : Pr} : prefs (L ++ M) = prefs L ++ prefs M := List.map_append
def spWithExp : Sp := fun vs H Q _ => ∃ (b : Nat) (a q : Addr) (L : Pr) (A B : List Pf) (e : Pf), vs = [.int (b : Int), .ref a, .ref q] ∧ 2 ≤ b ∧ b ≤ 5 ∧ Fz H a (prefs L) ∧ (∀ x ∈ L, H x.1 = some (pfO x.2)) ∧ (∀ x ∈ pfs L, Low x.2) ∧ pfs L = A ++ e :: B ∧ e ∉ A ∧
  H q = some (pfO e) ∧ e.2.length ≤ 8000 ∧ L.length ≤ 6000 ∧ ∀ (L' : Pr) (p : Addr) (H' : Hp), pfs L' = A ++ kids b e ++ B → NewT H H' p L' → Q (.ref p) H'
def spExpanded : Sp := fun vs H Q _ => ∃ (b R N : Nat) (a q : Addr) (L : Pr) (A B : List Pf) (e : Pf), vs = [.int (b : Int), .ref a, .ref q] ∧ 2 ≤ b ∧ b ≤ 5 ∧ 1 ≤ R ∧ R ≤ 5000 ∧ N ≤ 1000 ∧ CodeR b R N H a L ∧ pfs L = A ++ e :: B ∧ H q = some (pfO e) ∧ L.length + b ≤ 5001 ∧
  ∀ (L' : Pr) (p : Addr) (H' : Hp), pfs L' = A ++ kids b e ++ B → NewT H H' p L' → Q (.ref p) H'
def spContr : Sp := fun vs H Q _ => ∃ (b R N : Nat) (a q : Addr) (L : Pr) (A B : List Pf) (e : Pf), vs = [.int (b : Int), .ref a, .ref q] ∧ 2 ≤ b ∧ b ≤ 5 ∧ 1 ≤ R ∧ R ≤ 5000 ∧ N ≤ 1000 ∧ CodeR b R N H a L ∧ pfs L = A ++ kids b e ++ B ∧ H q = some (pfO e) ∧
  ∀ (L' : Pr) (p : Addr) (H' : Hp), pfs L' = A ++ e :: B → NewT H H' p L' → Q (.ref p) H'
section
variable {P : Program} {w : World} {K : PySem.W.Frag} {mg : Str → Option Value} {base : Heap}
end
end Vf


set_option Elab.async false
set_option maxRecDepth 100000
set_option maxHeartbeats 8000000
set_option exponentiation.threshold 3000
/-! Codes contracted. -/
namespace Vf
open PySem L2 SX
section
variable {P : Program} {w : World} {K : PySem.W.Frag} {mg : Str → Option Value} {base : Heap}
theorem kids_cons {b : Nat} {e : Pf} (b1 : 1 ≤ b) : kids b e = (e.1, e.2 ++ [48]) :: (kids b e).tail := by
  obtain ⟨n, rfl⟩ : ∃ n, b = n + 1 := ⟨b - 1, by omega⟩
  unfold kids
  rw [List.range_succ_eq_map]
  rfl
theorem kids_len {b : Nat} {e : Pf} : (kids b e).length = b := by
  unfold kids
  rw [List.length_map, List.length_range]
theorem row_at {L : Pr} {i : Nat} {x : V} (hx : (prefs L)[i]? = some x) : ∃ e, L[i]? = some e ∧ x = .ref e.1 := by
  rw [List.getElem?_map] at hx
  cases z : L[i]? with
  | none => rw [z] at hx; cases hx
  | some y => rw [z] at hx; cases hx; exact ⟨y, rfl, rfl⟩
end
end Vf


set_option Elab.async false
set_option maxRecDepth 100000
set_option maxHeartbeats 8000000
set_option exponentiation.threshold 3000
/-! The nodes above given prefixes. -/
namespace Vf
open PySem L2 SX
abbrev kOf (e : Pf) : List Key := [.inl (e.1 : Int), .inr (S e.2)]
theorem kOf_inj {e f : Pf} (h : kOf e = kOf f) : e = f := by
  injection h with h1 h2
  injection h2 with h3 _
  have a1 : (e.1 : Int) = f.1 := Sum.inl.inj h1
  exact Prod.ext (by omega) (S_in1 (Sum.inr.inj h3))
def kvsD (I : List Pf) : List (List Key × V) := I.map fun x => (kOf x, V.bl true)
theorem kvsD_val {x : Pf} : ∀ {I : List Pf}, (valV (kvsD I) (kOf x)).isSome = decide (x ∈ I)
  | [] => by
    show (valV ([] : List (List Key × V)) (kOf x)).isSome = _
    rw [valV_nil, decide_eq_false List.not_mem_nil]
    rfl
  | y :: I => by
    show (valV ((kOf y, V.bl true) :: kvsD I) (kOf x)).isSome = _
    by_cases h : kOf y = kOf x
    · rw [valV_pos h, decide_eq_true (by rw [kOf_inj h]; exact List.mem_cons_self)]
      rfl
    · rw [valV_neg h, kvsD_val]
      have h2 : ¬ x = y := fun z => h (by rw [z])
      by_cases m : x ∈ I
      · rw [decide_eq_true m, decide_eq_true (List.mem_cons_of_mem _ m)]
      · rw [decide_eq_false m, decide_eq_false (fun q => (List.mem_cons.mp q).elim h2 m)]
theorem kvsD_put {x : Pf} {I : List Pf} (h : x ∉ I) : putK (kvsD I) (kOf x) (V.bl true) = kvsD (I ++ [x]) := by
  unfold putK
  rw [valV_any, kvsD_val, decide_eq_false h, if_neg (by decide)]
  unfold kvsD
  rw [List.map_append]
  rfl
/-- what the walk over one prefix has put in, down to the size s -/
structure Down (I : List Pf) (e : Pf) (s : Nat) (I' : List Pf) : Prop where
  nd : I'.Nodup
  mem : ∀ x, x ∈ I' ↔ x ∈ I ∨ (x.1 = e.1 ∧ ∃ j, s ≤ j ∧ j < e.2.length ∧ x.2 = e.2.take j)
  len : I'.length + s = I.length + e.2.length
theorem Down.step {I I' : List Pf} {e : Pf} {s : Nat} (d : Down I e (s + 1) I') (hs : s + 1 ≤ e.2.length) (h : (e.1, e.2.take s) ∉ I') : Down I e s (I' ++ [(e.1, e.2.take s)]) := by
  refine ⟨List.nodup_append.mpr ⟨d.nd, List.nodup_cons.mpr ⟨List.not_mem_nil, List.nodup_nil⟩, fun x hx y hy z => ?_⟩, fun x => ?_, ?_⟩
  · rw [List.mem_singleton.mp hy] at z
    exact h (z ▸ hx)
  · rw [List.mem_append, d.mem, List.mem_singleton]
    constructor
    · rintro ((z | ⟨z1, j, j1, j2, j3⟩) | z)
      · exact .inl z
      · exact .inr ⟨z1, j, by omega, j2, j3⟩
      · rw [z]
        exact .inr ⟨rfl, s, Nat.le_refl _, by omega, rfl⟩
    · rintro (z | ⟨z1, j, j1, j2, j3⟩)
      · exact .inl (.inl z)
      · by_cases c : j = s
        · exact .inr (Prod.ext z1 (by rw [j3, c]))
        · exact .inl (.inr ⟨z1, j, by omega, j2, j3⟩)
  · have := d.len
    rw [List.length_append]
    show I'.length + 1 + s = _
    omega
theorem Down.done {M I I' : List Pf} {e : Pf} {s : Nat} (hI : ∀ x, x ∈ I ↔ Inn M x) (d : Down I e s I') (hs : s ≤ e.2.length) (h : s = 0 ∨ (e.1, e.2.take (s - 1)) ∈ I') : ∀ x, x ∈ I' ↔ Inn (M ++ [e]) x := by
  have cl := inn_closed hI
  have up : ∀ j, j < s → j < e.2.length → (e.1, e.2.take j) ∈ I := fun j hj hl => by
    rcases h with h | h
    · omega
    · rcases (d.mem _).mp h with z | ⟨_, k, k1, k2, k3⟩
      · by_cases c : j = s - 1
        · rw [c]
          exact z
        · refine cl _ z _ ⟨rfl, (e.2.drop j).take (s - 1 - j), fun q => ?_, ?_⟩
          · have := congrArg List.length q
            rw [List.length_take, List.length_drop] at this
            simp only [List.length_nil] at this
            omega
          · show e.2.take (s - 1) = e.2.take j ++ _
            rw [← List.take_add]
            congr 1
            omega
      · have := congrArg List.length k3
        rw [List.length_take, List.length_take] at this
        omega
  intro x
  rw [d.mem]
  constructor
  · rintro (z | ⟨z1, j, j1, j2, j3⟩)
    · obtain ⟨f, hf, ab⟩ := (hI x).mp z
      exact ⟨f, List.mem_append_left _ hf, ab⟩
    · refine ⟨e, List.mem_append_right _ (List.mem_singleton.mpr rfl), mem_preL.mp ?_⟩
      exact List.mem_map.mpr ⟨j, List.mem_range.mpr j2, Prod.ext z1.symm j3.symm⟩
  · rintro ⟨f, hf, ab⟩
    rcases List.mem_append.mp hf with q | q
    · exact .inl ((hI x).mpr ⟨f, q, ab⟩)
    · rw [List.mem_singleton.mp q] at ab
      obtain ⟨j, hj, rfl⟩ := List.mem_map.mp (mem_preL.mpr ab)
      have hj := List.mem_range.mp hj
      by_cases c : j < s
      · exact .inl (up j c hj)
      · exact .inr ⟨rfl, j, by omega, hj, rfl⟩
def spAbove : Sp := fun vs H Q _ => ∃ (b R N : Nat) (a : Addr) (L : Pr), vs = [.int (b : Int), .int (R : Int), .ref a] ∧ 2 ≤ b ∧ b ≤ 5 ∧ R ≤ 900 ∧ Row b R N H a L ∧ ((pfs L).flatMap preL).length ≤ 1000 ∧
  ∀ (I : List Pf) (d : Addr) (H' : Hp), I.Nodup → (∀ x, x ∈ I ↔ Inn (pfs L) x) → I.length ≤ ((pfs L).flatMap preL).length → Same H H' → H d = none → H' d = some (.dT (kvsD I)) → Q (.ref d) H'
section
variable {P : Program} {w : World} {K : PySem.W.Frag} {mg : Str → Option Value} {base : Heap}
theorem most_is {b R : Nat} (b2 : 2 ≤ b) (b5 : b ≤ 5) (hR : R ≤ 900) : 1000 ≤ (5000 - (R : Int)) / ((b : Int) - 1) := by
  have e : b = 2 ∨ b = 3 ∨ b = 4 ∨ b = 5 := by omega
  rcases e with e | e | e | e <;> subst e
  · show 1000 ≤ (5000 - (R : Int)) / 1
    omega
  · show 1000 ≤ (5000 - (R : Int)) / 2
    omega
  · show 1000 ≤ (5000 - (R : Int)) / 3
    omega
  · show 1000 ≤ (5000 - (R : Int)) / 4
    omega
end
end Vf


set_option Elab.async false
set_option maxRecDepth 100000
set_option maxHeartbeats 8000000
set_option exponentiation.threshold 3000
/-! Codes through given prefixes. -/
namespace Vf
open PySem L2 SX
def spThroughAll : Sp := fun vs H Q _ => ∃ (b R N : Nat) (a : Addr) (L : Pr), vs = [.int (b : Int), .int (R : Int), .ref a] ∧ 2 ≤ b ∧ b ≤ 5 ∧ 1 ≤ R ∧ R ≤ 900 ∧ N ≤ 1000 ∧ Row b R N H a L ∧ ((pfs L).flatMap preL).length ≤ 1000 ∧
  ∀ (I : List Pf) (L' : Pr) (p : Addr) (H' : Hp), I.Nodup → (∀ x, x ∈ I ↔ Inn (pfs L) x) → I.length ≤ ((pfs L).flatMap preL).length → SrtP (pfs L') → (pfs L').Perm (byI b R I) → NewT H H' p L' → Q (.ref p) H'
section
variable {P : Program} {w : World} {K : PySem.W.Frag} {mg : Str → Option Value} {base : Heap}
end
end Vf


set_option Elab.async false
set_option maxRecDepth 100000
set_option maxHeartbeats 8000000
set_option exponentiation.threshold 3000
/-! code_through; the law's inner nodes and the code that they make. -/
namespace Vf
open PySem PySem.Spec PyProof.Rows L2 SX
section
variable {X : Cx} {CX : CXT} {k : Nat} {f : Addr} {sp : Sp} {E : XK} {x : Str} {e : Expr} {es : List Expr} {t : TA} {p pos : Pos}
/-- x(e, ..), x a def of any kind of parameters -/
theorem pe_callR (F : FnR X.prog X.w X.K X.mg X.base CX k f sp) (hr : Room k X.A) (hg : Gl X x) (hm : X.mg x = some (.ref f)) (hk : PySem.W.keepIn X.K (.ref f) = true) (hx : Passes CX X E) (ha : PA X (e :: es) t) (hd : (x == ("__debug__" : Str)) = false := by decide)
    (he : starEach (e :: es) X.env = (false, eval e X.env) :: starEach es X.env := by rfl) (hpl : (backTo pos (starEach es X.env)).any (·.1) = false := by rfl) :
    PE X (.Call (.Name x p) (e :: es) [] pos) (fun σ H Q => t σ H fun vs H1 => sp vs H1 Q E) := by
  refine ⟨fun pins s σ H Q I h => ?_⟩
  refine wpAny_Call_Name_kw (ld_glob I hg hm (PySem.W.callWith_K I.ok.mod.kin hk (thn (ha.run pos pins s σ H _ I h) fun us s1 ⟨vs, H1, I1, r, q⟩ => ⟨I1.kIn, ?_⟩) he hpl) hd)
  exact wpAny_call (run_fnR F hr hx I1 r q)
end
def spThrough : Sp := fun vs H Q E => ∃ ws rest, vs = ws ++ rest ∧ ws.length = ["base", "roots"].length ∧ rest.length ≤ sizeLine ∧ ∀ p, H p = Option.none → spThroughAll (ws ++ [V.ref p]) (upd H p (.tup rest)) Q E
def spLInner : Sp := fun vs H Q _ => ∃ (a : Addr) (L : Pr) (B : List Pf), vs = [.ref a] ∧ Rd H a (.tup (prefs L)) ∧ (∀ e ∈ L, H e.1 = some (pfO e.2)) ∧ (∀ e ∈ pfs L, e.2.length ≤ 9000) ∧ ((pfs L).flatMap preL).length ≤ 6000 ∧ (∀ x, Inn (pfs L) x → x ∈ B) ∧ B.length < 1199 ∧
  ∀ (I : Pr) (D : Addr) (H' : Hp), SrtP (pfs I) → (pfs I).Nodup → (∀ x, x ∈ pfs I ↔ Inn (pfs L) x) → Same H H' → RowL H' D I → H D = none → Q (.ref D) H'
def spByInner : Sp := fun vs H Q _ => ∃ (b R : Nat) (a : Addr) (I : Pr), vs = [.int (b : Int), .int (R : Int), .ref a] ∧ 2 ≤ b ∧ b ≤ 5 ∧ R ≤ 100 ∧ RowL H a I ∧ I.length ≤ 500 ∧ (∀ e ∈ pfs I, Low e.2) ∧ (∀ e ∈ pfs I, e.2.length ≤ 8000) ∧
  ∀ (L : Pr) (p : Addr) (H' : Hp), SrtP (pfs L) → (pfs L).Perm (byI b R (pfs I)) → NewT H H' p L → Q (.ref p) H'
section
variable {P : Program} {w : World} {K : PySem.W.Frag} {mg : Str → Option Value} {base : Heap}
theorem choose_rows {L2 : Pr} : ∀ {L : Sq.Rw}, (∀ p ∈ L, p ∈ L2.map fun e => (e.1, kOf e.2)) → ∃ L' : Pr, L = (L'.map fun e => (e.1, kOf e.2)) ∧ ∀ e ∈ L', e ∈ L2
  | [], _ => ⟨[], rfl, fun e he => (by cases he)⟩
  | p :: L, h => by
    obtain ⟨L', e1, e2⟩ := choose_rows fun q hq => h q (List.mem_cons_of_mem _ hq)
    obtain ⟨e, he, ep⟩ := List.mem_map.mp (h p List.mem_cons_self)
    refine ⟨e :: L', by rw [List.map_cons, ep, e1], fun x hx => ?_⟩
    rcases List.mem_cons.mp hx with z | z
    · rw [z]; exact he
    · exact e2 x z
theorem scLInner : FnScope ["code", "found", "root", "word", "at"] ["code"] (defScope sLInner) := ⟨rfl, rfl, rfl, by decide +kernel, rfl, by decide +kernel, by decide +kernel⟩
theorem ok_linner {f : Addr} {fd : FuncData} (F : Fun K "_law_inner" "_law_inner" sLInner f fd) (N : Nm mg) (nr : mg "range" = none) (mse : mg "set" = none) (mso : mg "sorted" = none) : FnOk P w K mg base CX0 1 f fd ["code"] spLInner := by
  refine F.ok scLInner (fun vs H Q E h => ?_) (fun cdv A outer s H vs Q E hr h => ?_)
  · obtain ⟨a, L, B, rfl, _⟩ := h
    rfl
  · obtain ⟨a, L, B, rfl, ha, g, sm, hz, hB, lB, k⟩ := h
    have nd := scLInner.nd
    have hun : A.units + 3 + 64 < cLine := hr.units
    refine ⟨_, pss_cons (ps_set (i := 1) nd rfl (.inl rfl) (pe_lst pa_nil))
      (pss_cons (ps_for PassesOwn.never rfl (pi_tup (pv 0)) (pg_tup rfl (pgs_cons (pg_name (i := 2) nd rfl (.inr rfl)) (pgs_cons (pg_name (i := 3) nd rfl (.inr rfl)) pgs_nil)))
        (pss_one (ps_expr (pe_bm PySem.F.plainAttrs_list PySem.F.slot_list_extend PySem.F.type_list_extend mt_extend (pv 1) (pa_cons
          (pe_lc (own := [("at", 4)]) (g := gName 4) rfl nd (pi_range1 (by rfl) nr (pa_cons (pe_callB call_len_str (by rfl) N.len boot_len (pa_cons (pv 3) pa_nil)) pa_nil))
            (blkOk_by (N := ["code", "found", "root", "word", "at"]) (sc := defScope sLInner) (by decide +kernel)) (fun _ _ _ _ _ => pg_name (i := 4) nd rfl (Or.inl rfl)) (fun _ _ _ _ _ => pts_nil)
            (fun _ _ _ _ _ => pe_tup (pa_cons (pv 2) (pa_cons (pe_slice sl_str (pv 3) po_none (po_some (pv 4))) pa_nil)))) pa_nil)))))
      (pss_one (ps_ret (pe_callB (VG.cr_sortedSP rfl) (by rfl) mso PyProof.Rows.boot_sorted (pa_cons (pe_callTy (VG.cr_setOfP rfl hun) (by rfl) mse PyProof.Rows.boot_set (pa_cons (pv 1) pa_nil)) pa_nil))))), ?_⟩
    refine ⟨by show 0 ≤ sizeLine; decide, fun D hD => ?_⟩
    refine ⟨_, rfl, a, rfl, ⟨_, rd_t (rd_same ha (same_new' hD))⟩, for_tup (xs := prefs L) (fun i σ Hx => ∃ (u2 u3 u4 : Option V) (L2 : Pr), σ = [some (.ref a), some (.ref D), u2, u3, u4] ∧ RowL Hx D L2 ∧ pfs L2 = ((pfs L).take i).flatMap preL ∧ ∀ c o, H c = some o → Hx c = some o) ?_ ?_ ?_ ?_⟩
    · exact ⟨none, none, none, [], rfl, ⟨upd_same, fun e he => (by cases he)⟩, rfl, fun c o z => by rw [upd_ne (ne_of_none z hD)]; exact z⟩
    · rintro i σ Hx _ ⟨u2, u3, u4, L2, rfl, _, _, s1⟩
      exact rd_t (rd_same ha s1)
    · rintro i x σ Hx hx ⟨u2, u3, u4, L2, rfl, row, e1, s1⟩
      obtain ⟨e, he, rfl⟩ := row_at hx
      have em := List.mem_of_getElem? he
      have ge := s1 _ _ (g e em)
      have lw := sm e.2 (List.mem_map.mpr ⟨e, em, rfl⟩)
      have tk : ((pfs L).take (i + 1)).flatMap preL = ((pfs L).take i).flatMap preL ++ preL e.2 := by
        rw [List.take_add_one, List.getElem?_map, he, List.flatMap_append]
        show _ ++ [e.2].flatMap preL = _
        rw [List.flatMap_singleton]
      have lp : (preL e.2).length = e.2.2.length := by
        unfold preL
        rw [List.length_map, List.length_range]
      have tot : ((pfs L).take (i + 1)).flatMap preL ++ ((pfs L).drop (i + 1)).flatMap preL = (pfs L).flatMap preL := by rw [← List.flatMap_append, List.take_append_drop]
      have tl := congrArg List.length tot
      rw [tk, List.length_append, List.length_append, lp] at tl
      have lL2 : L2.length = (((pfs L).take i).flatMap preL).length := by
        have z := congrArg List.length e1
        rw [List.length_map] at z
        exact z
      obtain ⟨p, r, wd⟩ := e
      have ge : Hx p = some (.tup [.int (r : Int), .str (S wd)]) := ge
      have lw : wd.length ≤ 9000 := lw
      have tl : (((pfs L).take i).flatMap preL).length + wd.length + (((pfs L).drop (i + 1)).flatMap preL).length = ((pfs L).flatMap preL).length := tl
      have tk : ((pfs L).take (i + 1)).flatMap preL = ((pfs L).take i).flatMap preL ++ preL (r, wd) := tk
      have sw : (S wd).length ≤ sizeLine := small_lenG lw
      refine ⟨p, _, rfl, SqT.of ge, rfl, _, _, rfl, _, _, rfl, rfl, ?_⟩
      refine ⟨_, rfl, .inl ⟨rfl, _, SqL.of row.at_⟩, _, rfl, _, rfl, sw, _, rfl, ?_, ?_, fun D2 hD2 => ?_⟩
      · rw [S_len]; omega
      · rw [S_len]; omega
      rw [S_len]
      refine lc_range (n := wd.length) (fun j Hy => ∃ L3 : Pr, pfs L3 = (List.range j).map (fun n => (r, wd.take n)) ∧ RowL Hy D2 L3 ∧ ∀ c o, Hx c = some o → Hy c = some o) ?_ ?_ ?_
      · exact ⟨[], rfl, ⟨upd_same, fun e he => (by cases he)⟩, fun c o z => by rw [upd_ne (ne_of_none z hD2)]; exact z⟩
      · rintro j Hy hj ⟨L3, f1, row3, f4⟩
        have lL3 : L3.length = j := by
          have z := congrArg List.length f1
          rw [List.length_map, List.length_map, List.length_range] at z
          exact z
        refine ⟨rfl, _, rfl, _, rfl, _, rfl, _, rfl, _, rfl, sw, (by show 2 ≤ sizeLine; decide), fun t nt => ?_⟩
        rw [Int.zero_add, cut_take (by omega)]
        refine ⟨_, by rw [upd_ne (ne_of_none row3.at_ nt)]; exact row3.at_, ?_, L3 ++ [(t, (r, wd.take j))], ?_, RowL.add (e := (r, wd.take j)) row3 nt, fun c o z => ?_⟩
        · rw [List.length_map, lL3]
          exact Nat.lt_of_lt_of_le (show j < 9001 by omega) (by decide)
        · rw [pfs_app, f1, List.range_succ, List.map_append]
          rfl
        · rw [upd_ne (ne_of_none z hD2), upd_ne (ne_of_none (f4 _ _ z) nt)]
          exact f4 _ _ z
      · rintro Hy ⟨L3, f1, row3, f4⟩
        have l3 : L3.length = wd.length := by
          have z := congrArg List.length f1
          rw [List.length_map, List.length_map, List.length_range] at z
          exact z
        refine ⟨D, D2, _, _, rfl, rfl, f4 _ _ row.at_, row3.at_, ?_, ?_⟩
        · rw [List.length_map, List.length_map]
          exact Nat.le_trans (show L2.length + L3.length ≤ 6000 by omega) (by decide)
        have hDy := f4 _ _ row.at_
        refine ⟨_, _, _, L2 ++ L3, rfl, ⟨by rw [upd_same, prefs_app], fun y hy => ?_⟩, by rw [pfs_app, e1, f1, tk]; rfl, fun c o z => ?_⟩
        · have g2 : Hy y.1 = some (pfO y.2) := by
            rcases List.mem_append.mp hy with q | q
            · exact f4 _ _ (row.good y q)
            · exact row3.good y q
          rw [upd_ne (fun w => by rw [w, hDy] at g2; cases g2)]
          exact g2
        · rw [upd_ne (ne_of_none z hD)]
          exact f4 _ _ (s1 _ _ z)
    · rintro σ Hx ⟨u2, u3, u4, L2, rfl, row, e1, s1⟩
      rw [show (prefs L).length = (pfs L).length by rw [List.length_map, List.length_map], List.take_length] at e1
      have m2 : ∀ x, x ∈ pfs L2 ↔ Inn (pfs L) x := fun x => by rw [e1]; exact mem_pre
      refine ⟨_, rfl, D, L2.map (fun e => (e.1, kOf e.2)), B.map kOf, rfl, ?_, fun p hp => ?_, fun p hp => ?_, by rw [List.length_map]; exact lB, fun st Lr nst sub all ndk => ?_⟩
      · rw [List.map_map]
        exact SqL.of row.at_
      · obtain ⟨e, he, rfl⟩ := List.mem_map.mp hp
        exact row.good e he
      · obtain ⟨e, he, rfl⟩ := List.mem_map.mp hp
        exact List.mem_map.mpr ⟨e.2, hB _ ((m2 _).mp (List.mem_map.mpr ⟨e, he, rfl⟩)), rfl⟩
      obtain ⟨L', rfl, sub'⟩ := choose_rows sub
      have s5 : Same Hx (upd Hx st (VG.SetPO P w st (L'.map fun e => (e.1, kOf e.2)))) := same_new' nst
      have h5 : upd Hx st (VG.SetPO P w st (L'.map fun e => (e.1, kOf e.2))) st = some (VG.SetPO P w st (L'.map fun e => (e.1, kOf e.2))) := upd_same
      refine ⟨st, _, keyAt Hx, rfl, h5, fun p hp => ?_, fun ys t hs pm nt => ?_⟩
      · obtain ⟨e, he, rfl⟩ := List.mem_map.mp hp
        have ge := row.good e (sub' e he)
        have kk : keyAt Hx (.ref e.1) = ((e.2.1 : Int), S e.2.2) := keyAt_of ge
        show kOf e.2 = [.inl (keyAt Hx (.ref e.1)).1, .inr (keyAt Hx (.ref e.1)).2] ∧ _ = some (HO.tup [.int (keyAt Hx (.ref e.1)).1, .str (keyAt Hx (.ref e.1)).2])
        rw [kk]
        exact ⟨rfl, s5 _ _ ge⟩
      · have pm2 : ys.Perm (L'.map fun e : Addr × Pf => V.ref e.1) := by
          have z := pm
          rw [List.map_map] at z
          exact z
        obtain ⟨I', pI, rfl⟩ := perm_lift (fun e : Addr × Pf => V.ref e.1) L' pm2
        have nt : upd Hx st (VG.SetPO P w st (L'.map fun e => (e.1, kOf e.2))) t = none := nt
        refine (show Q (.ref t) (upd (upd Hx st (VG.SetPO P w st (L'.map fun e => (e.1, kOf e.2)))) t (.lst (prefs I'))) from ?_)
        generalize upd Hx st (VG.SetPO P w st (L'.map fun e => (e.1, kOf e.2))) = H5 at s5 nt ⊢
        have s6 : Same H5 (upd H5 t (.lst (prefs I'))) := same_new' nt
        have S06 : Same H (upd H5 t (.lst (prefs I'))) := fun _ _ z => s6 _ _ (s5 _ _ (s1 _ _ z))
        have ndI : (pfs L').Nodup := by
          have z : ((pfs L').map kOf).Nodup := by
            have z := ndk
            rw [List.map_map] at z
            rw [List.map_map]
            exact z
          exact nodup_of_map z
        have np : H t = none := by
          cases z : H t with
          | none => rfl
          | some o => rw [s5 _ _ (s1 _ _ z)] at nt; cases nt
        refine k I' t _ ?_ ((pfs_perm pI).nodup_iff.mpr ndI) (fun x => ?_) S06 ⟨upd_same, fun e he => s6 _ _ (s5 _ _ (row.good e (sub' e (pI.mem_iff.mp he))))⟩ np
        · have z := srtd_of_map hs
          have e : (prefs I').map (keyAt Hx) = (pfs I').map kP := by
            rw [List.map_map, List.map_map]
            refine List.map_congr_left fun e he => ?_
            exact keyAt_of (row.good e (sub' e (pI.mem_iff.mp he)))
          rw [e] at z
          exact z
        · rw [(pfs_perm pI).mem_iff, ← m2 x]
          constructor
          · intro hx
            obtain ⟨e, he, rfl⟩ := List.mem_map.mp hx
            exact List.mem_map.mpr ⟨e, sub' e he, rfl⟩
          · intro hx
            obtain ⟨e, he, rfl⟩ := List.mem_map.mp hx
            have z := all (e.1, kOf e.2) (List.mem_map.mpr ⟨e, he, rfl⟩)
            rw [List.map_map] at z
            obtain ⟨e', he', q⟩ := List.mem_map.mp z
            have q' : kOf e'.2 = kOf e.2 := q
            exact List.mem_map.mpr ⟨e', he', kOf_inj q'⟩
theorem scByInner : FnScope ["base", "wide", "inner", "found", "node", "root"] ["base", "wide", "inner"] (defScope sByInner) := ⟨rfl, rfl, rfl, by decide +kernel, rfl, by decide +kernel, by decide +kernel⟩
theorem ok_byinner {f fC : Addr} {fd fdC : FuncData} (F : Fun K "_law_by_inner" "_law_by_inner" sByInner f fd) (GC : FnOk P w K mg base CX0 2 fC fdC ["base", "prefix"] spChildren) (cC : Cal K mg "_law_children" fC fdC ["base", "prefix"]) (N : Nm mg) (nr : mg "range" = none) (mso : mg "sorted" = none) :
    FnOk P w K mg base CX0 3 f fd ["base", "wide", "inner"] spByInner := by
  refine F.ok scByInner (fun vs H Q E h => ?_) (fun cdv A outer s H vs Q E hr h => ?_)
  · obtain ⟨b, R, a, I, rfl, _⟩ := h
    rfl
  · obtain ⟨b, R, a, I, rfl, b2, b5, hR, row, lI, low, sm, k⟩ := h
    have nd := scByInner.nd
    have hun1 : A.units + 3 + 65 < cLine := by have := hr.un; show A.units + 3 + 65 < cLine; have h2 : A.units + 3 + 16 * 2 + 200 < cLine := this; omega
    refine ⟨_, pss_cons (ps_setLc (i := 3) (own := [("root", 5)]) (g := gName 5) rfl nd rfl rfl rfl (pi_range1 rfl nr (pa_cons (pv 1) pa_nil))
          (blkOk_by (N := ["base", "wide", "inner", "found", "node", "root"]) (sc := defScope sByInner) (by decide +kernel)) (fun _ _ _ _ _ => pg_name (i := 5) nd rfl (Or.inl rfl))
          (fun _ _ _ _ _ => pts_nil) (fun _ _ _ _ _ => pe_tup (pa_cons (pv 5) (pa_cons pe_str pa_nil))))
      (pss_cons (ps_for PassesOwn.never rfl (pi_list (pv 2)) (pg_name (i := 4) nd rfl (.inl rfl))
        (pss_one (ps_expr (pe_bm PySem.F.plainAttrs_list PySem.F.slot_list_extend PySem.F.type_list_extend mt_extend (pv 3) (pa_cons (pe_call GC hr rfl cC.mg cC.kp cC.b .nil pass0 (pa_cons (pv 0) (pa_cons (pv 4) pa_nil))) pa_nil)))))
      (pss_one (ps_ret (pe_callTy call_tupleF (by rfl) N.tuple PyProof.Rows.boot_tuple (pa_cons (pe_callB VG.cr_sortedIS (by rfl) mso PyProof.Rows.boot_sorted (pa_cons
          (pe_lc (own := [("node", 4)]) (g := gName 4) rfl nd (pi_list (pv 3)) (blkOk_by (N := ["base", "wide", "inner", "found", "node", "root"]) (sc := defScope sByInner) (by decide +kernel)) (fun _ _ _ _ _ => pg_name (i := 4) nd rfl (Or.inl rfl))
            (fun _ _ _ _ _ => pts_one (pt_cmpR (show OpR _ _ (rInP K true) from op_notInP hun1) (pv 4) (pv 2) (by rfl))) (fun _ _ _ _ _ => pv 4)) pa_nil)) pa_nil))))), ?_⟩
    have eem : ("" : Str) = S [] := by decide +kernel
    refine ⟨_, rfl, _, rfl, by omega, by omega, fun D hD => ?_⟩
    refine lc_range (n := R) (fun i Hy => ∃ L : Pr, pfs L = (List.range i).map (fun r => (r, [])) ∧ RowL Hy D L ∧ ∀ c o, H c = some o → Hy c = some o) ?_ ?_ ?_
    · exact ⟨[], rfl, ⟨upd_same, fun e he => (by cases he)⟩, fun c o e => by rw [upd_ne (ne_of_none e hD)]; exact e⟩
    · rintro i Hy hi ⟨L, e1, row0, e4⟩
      have lL : L.length = i := by
        have z := congrArg List.length e1
        rw [List.length_map, List.length_map, List.length_range] at z
        exact z
      refine ⟨rfl, ?_⟩
      refine ⟨_, rfl, (by show 2 ≤ sizeLine; decide), fun t nt => ?_⟩
      rw [Int.zero_add, eem]
      refine ⟨_, by rw [upd_ne (ne_of_none row0.at_ nt)]; exact row0.at_, ?_, L ++ [(t, (i, []))], ?_, RowL.add (e := (i, [])) row0 nt, fun c o ec => ?_⟩
      · rw [List.length_map, lL]
        exact Nat.lt_of_lt_of_le (show i < 6000 by omega) (by decide)
      · rw [pfs_app, e1, List.range_succ, List.map_append]
        rfl
      · rw [upd_ne (ne_of_none ec hD), upd_ne (ne_of_none (e4 _ _ ec) nt)]
        exact e4 _ _ ec
    rintro Hy ⟨L0, e0, row0, s0⟩
    have l0 : L0.length = R := by
      have z := congrArg List.length e0
      rw [List.length_map, List.length_map, List.length_range] at z
      exact z
    have fml : ∀ i, i ≤ I.length → (((pfs I).take i).flatMap (kids b)).length ≤ 2500 := fun i hi => by
      rw [List.length_flatMap]
      have q2 : (((pfs I).take i).map fun e => (kids b e).length) = List.replicate ((pfs I).take i).length b := List.eq_replicate_iff.mpr ⟨List.length_map _, fun n hn => by
        obtain ⟨y, _, rfl⟩ := List.mem_map.mp hn
        exact kids_len⟩
      rw [q2, List.sum_replicate_nat, List.length_take, List.length_map]
      calc min i I.length * b ≤ 500 * 5 := Nat.mul_le_mul (by omega) b5
        _ = 2500 := rfl
    refine ⟨_, rfl, a, rfl, ⟨_, SqL.of (s0 _ _ row.at_)⟩, for_list (xs := prefs I) (fun i σ Hx => ∃ (u4 u5 : Option V) (L2 : Pr), σ = [some (.int (b : Int)), some (.int (R : Int)), some (.ref a), some (.ref D), u4, u5] ∧ RowL Hx D L2 ∧ pfs L2 = (List.range R).map (fun r => (r, [])) ++ ((pfs I).take i).flatMap (kids b) ∧ ∀ c o, H c = some o → Hx c = some o) ?_ ?_ ?_ ?_⟩
    · exact ⟨_, _, L0, rfl, row0, by rw [e0, List.take_zero, List.flatMap_nil, List.append_nil], s0⟩
    · rintro i σ Hx _ ⟨u4, u5, L2, rfl, _, _, s1⟩
      exact SqL.of (s1 _ _ row.at_)
    · rintro i x σ Hx hx ⟨u4, u5, L2, rfl, row2, e1, s1⟩
      obtain ⟨e, he, rfl⟩ := row_at hx
      have em := List.mem_of_getElem? he
      have hi := (List.getElem?_eq_some_iff.mp he).1
      have me : e.2 ∈ pfs I := List.mem_map.mpr ⟨e, em, rfl⟩
      have tk : ((pfs I).take (i + 1)).flatMap (kids b) = ((pfs I).take i).flatMap (kids b) ++ kids b e.2 := by
        rw [List.take_add_one, List.getElem?_map, he, List.flatMap_append]
        show _ ++ [e.2].flatMap (kids b) = _
        rw [List.flatMap_singleton]
      have lL2 : L2.length ≤ 2600 := by
        have z := congrArg List.length e1
        rw [List.length_map, List.length_append, List.length_map, List.length_range] at z
        have := fml i (by omega)
        omega
      refine ⟨_, rfl, .inl ⟨rfl, _, SqL.of row2.at_⟩, _, rfl, _, rfl, b, e.1, e.2, rfl, b2, b5, s1 _ _ (row.good e em), sm _ me, fun Kd Dk H5 ek s5 gk atk nk => ?_⟩
      have lK : Kd.length = b := by
        have z := congrArg List.length ek
        rw [List.length_map, kids_len] at z
        exact z
      have hD5 := s5 _ _ row2.at_
      refine ⟨D, Dk, _, _, rfl, rfl, hD5, atk, ?_, ?_⟩
      · rw [List.length_map, List.length_map]
        exact Nat.le_trans (show L2.length + Kd.length ≤ 6000 by omega) (by decide)
      refine ⟨_, _, L2 ++ Kd, rfl, ⟨by rw [upd_same, prefs_app], fun y hy => ?_⟩, by rw [pfs_app, e1, ek, tk, List.append_assoc], fun c o z => ?_⟩
      · have g2 : H5 y.1 = some (pfO y.2) := by
          rcases List.mem_append.mp hy with q | q
          · exact s5 _ _ (row2.good y q)
          · exact gk y q
        rw [upd_ne (fun w => by rw [w, hD5] at g2; cases g2)]
        exact g2
      · rw [upd_ne (ne_of_none z hD)]
        exact s5 _ _ (s1 _ _ z)
    · rintro σ H8 ⟨u4, u5, Cs, rfl, rowC, eC, S08⟩
      rw [show (prefs I).length = (pfs I).length by rw [List.length_map, List.length_map], List.take_length] at eC
      have eC : pfs Cs = cand b R (pfs I) := eC
      have lC : Cs.length ≤ 2600 := by
        have z := congrArg List.length eC
        unfold cand at z
        rw [List.length_map, List.length_append, List.length_map, List.length_range] at z
        have q := fml I.length (Nat.le_refl _)
        rw [show (pfs I).take I.length = pfs I by rw [show I.length = (pfs I).length by rw [List.length_map], List.take_length]] at q
        omega
      have lowC : ∀ y ∈ pfs Cs, Low y.2 := fun y hy => by
        rw [eC, mem_cand] at hy
        rcases hy with ⟨_, q⟩ | ⟨e, he, q⟩
        · rw [q]
          exact fun c hc => (by cases hc)
        · obtain ⟨j, hj, rfl⟩ := kid_mem q
          intro c hc
          rcases List.mem_append.mp hc with z | z
          · exact low e he c z
          · rw [List.mem_singleton.mp z]
            omega
      refine ⟨_, rfl, D, rfl, ⟨_, SqL.of rowC.at_⟩, fun D2 hD2 => ?_⟩
      refine lc_list (xs := prefs Cs) (fun i Hz => ∃ L3 : Pr, pfs L3 = ((pfs Cs).take i).filter (fun y => decide (y ∉ pfs I)) ∧ Hz D2 = some (.lst (prefs L3)) ∧ (∀ y ∈ L3, y ∈ Cs) ∧ L3.length ≤ i ∧ ∀ c o, H8 c = some o → Hz c = some o) ?_ ?_ ?_ ?_
      · exact ⟨[], rfl, upd_same, fun y hy => (by cases hy), Nat.le_refl _, fun c o z => by rw [upd_ne (ne_of_none z hD2)]; exact z⟩
      · rintro i Hz _ ⟨L3, _, _, _, _, f4⟩
        exact SqL.of (f4 _ _ rowC.at_)
      · rintro i x Hz hx ⟨L3, f1, f2, f3, f5, f4⟩
        obtain ⟨y, hy, rfl⟩ := row_at hx
        have ym := List.mem_of_getElem? hy
        have yi : i < Cs.length := (List.getElem?_eq_some_iff.mp hy).1
        have tk : ((pfs Cs).take (i + 1)).filter (fun y => decide (y ∉ pfs I)) = ((pfs Cs).take i).filter (fun y => decide (y ∉ pfs I)) ++ [y.2].filter (fun y => decide (y ∉ pfs I)) := by
          rw [List.take_add_one, List.getElem?_map, hy, List.filter_append]
          rfl
        refine ⟨rfl, ?_⟩
        refine ⟨_, rfl, _, rfl, y.1, a, y.2, I, rfl, rfl, f4 _ _ (rowC.good y ym), .inr (SqL.of (f4 _ _ (S08 _ _ row.at_))), fun e he => f4 _ _ (S08 _ _ (row.good e he)), lowC _ (List.mem_map.mpr ⟨y, ym, rfl⟩), low, _, rfl, ?_⟩
        rw [Bool.true_xor]
        by_cases c : y.2 ∈ pfs I
        · rw [decide_eq_true c]
          refine iteF ?_
          refine ⟨L3, ?_, f2, f3, by omega, f4⟩
          rw [f1, tk, List.filter_cons_of_neg (by simpa using c), List.filter_nil, List.append_nil]
        · rw [decide_eq_false c]
          refine iteTB rfl ?_
          refine ⟨_, rfl, _, f2, ?_, L3 ++ [y], ?_, ?_, fun z hz => ?_, ?_, fun c o z => ?_⟩
          · rw [List.length_map]
            exact Nat.lt_of_lt_of_le (show L3.length < 6001 by omega) (by decide)
          · rw [pfs_app, f1, tk, List.filter_cons_of_pos (by simpa using c), List.filter_nil]
            rfl
          · rw [upd_same, prefs_app]
            rfl
          · rcases List.mem_append.mp hz with q | q
            · exact f3 z q
            · rw [List.mem_singleton.mp q]
              exact ym
          · rw [List.length_append]
            show L3.length + 1 ≤ i + 1
            omega
          · rw [upd_ne (ne_of_none z hD2)]
            exact f4 _ _ z
      · rintro Hz ⟨L3, f1, f2, f3, f5, f4⟩
        rw [show (prefs Cs).length = (pfs Cs).length by rw [List.length_map, List.length_map], List.take_length, eC] at f1
        refine sort_list (SqL.of f2) (fun y hy => f4 _ _ (rowC.good y (f3 y hy))) fun L' t H9 srt pm s9 g9 f9 => ?_
        refine k L' t H9 srt ?_ ⟨fun _ _ z => s9 _ _ (f4 _ _ (S08 _ _ z)), f9, g9⟩
        have z := pfs_perm pm
        rw [f1] at z
        exact z
end
end Vf


set_option Elab.async false
set_option maxRecDepth 100000
set_option maxHeartbeats 8000000
set_option exponentiation.threshold 3000
/-! repr of rows; the law's look at the nodes of a code. -/
namespace Vf
open PySem PySem.Spec PyProof.Rows L2 SX
def rowsT (L : List Pf) : Str := (PyData.tuple (L.map pfD)).shown
structure Sml (L : List Pf) : Prop where
  e : ∀ x ∈ L, x.1 ≤ 200 ∧ x.2.length ≤ 500 ∧ Low x.2
  n : L.length ≤ 150
theorem sml_fine : ∀ {L : List Pf}, (∀ x ∈ L, x.1 ≤ 200 ∧ x.2.length ≤ 500 ∧ Low x.2) → VG.FineL (10 ^ 50) 1 (L.length * 503) (L.map pfD)
  | [], _ => VG.fineL_nil
  | e :: L, g => by
    obtain ⟨h1, h2, h3⟩ := g e List.mem_cons_self
    have f1 : VG.Fine (10 ^ 50) 0 0 (.int (e.1 : Int)) := VG.fine_int (by rw [Int.natAbs_natCast]; exact Nat.le_trans h1 (by decide))
    have f2 : VG.Fine (10 ^ 50) 0 500 (.str (S e.2)) := VG.fine_str (fun c hc => Nat.lt_trans (h3 c (by simpa using hc)) (by decide)) (by rw [S_len]; exact h2)
    have f3 : VG.Fine (10 ^ 50) 1 502 (pfD e) := (VG.fine_tup.mpr (VG.fineL_cons f1 (VG.fineL_cons f2 VG.fineL_nil (k := 0)))).up (Nat.le_refl _) (Nat.le_refl _) (by omega)
    refine (VG.fineL_cons f3 (sml_fine fun x hx => g x (List.mem_cons_of_mem _ hx))).up (Nat.le_refl _) (Nat.le_refl _) ?_
    rw [List.length_cons, Nat.add_mul]
    omega
theorem sml_show {L : List Pf} (s : Sml L) : (PyData.tuple (L.map pfD)).showable = true ∧ (PyData.tuple (L.map pfD)).shown.length ≤ sizeLine :=
  let z := (VG.fine_tup.mpr (sml_fine s.e)).show (Nat.le_refl _) (by decide) (by have := s.n; omega)
  ⟨z.1, z.2.1⟩
theorem rows_nodict : ∀ {L : List Pf}, PyData.hasDictAll (L.map pfD) = false
  | [] => rfl
  | e :: L => by
    show (PyData.hasDict (pfD e) || PyData.hasDictAll (L.map pfD)) = false
    rw [rows_nodict (L := L)]
    rfl
section
variable {X : Cx}
def rReprR (K : PySem.W.Frag) : List V → Hp → VK → Prop := fun xs H Q => ∃ (p : Addr) (L : Pr), xs = [.ref p] ∧ SqT K H p (prefs L) ∧ (∀ e ∈ L, H e.1 = some (pfO e.2)) ∧ Sml (pfs L) ∧ Q (.str (rowsT (pfs L))) H
theorem call_reprR (gd : X.A.guards = some []) (hu : X.A.units + 64 < cLine) : CallR X (.builtin "repr") (rReprR X.K) := by
  intro pins s σ H xs us Q I r h
  obtain ⟨p, L, rfl, hp, g, sm, q⟩ := h
  obtain ⟨u, rfl, ru⟩ := vals1 r
  obtain rfl : u = Value.ref p := ru
  have fin : ∀ (h' : Heap) (t : Tok) (tk : Tok), (∀ b o, s.heap.get? b = some o → h'.get? b = some o) → EP X pins σ Q (.str (rowsT (pfs L)) t) { s with heap := h', toks := tk } := fun h' t tk k => ⟨.str (rowsT (pfs L)), H, I.kept (t' := tk) k, ⟨t, rfl⟩, q⟩
  obtain ⟨as, rd⟩ := Dp.reads I (.tuple ((pfs L).map pfD)) (.ref p) (.ref p) (.tup hp (rows_dp g)) rfl
  obtain ⟨h1, h2⟩ := sml_show sm
  refine repr_of_reads' rd h1 (PyData.noDict_hsm (by show PyData.hasDictAll _ = false; exact rows_nodict)) gd ?_ (fun _ _ e => e) (fun h' t tk k => fin h' t tk k) h2
  have := rows_depth (L := pfs L)
  show X.A.units + (PyData.depthAll ((pfs L).map pfD) + 1 + 1) < cLine
  omega
end
theorem lo_up {b N N' : Nat} {w : List Nat} (h : w.length ≤ N) (h2 : N ≤ N') : lo b N' w = lo b N w * b ^ (N' - N) := by
  unfold lo
  rw [Nat.mul_assoc, ← Nat.pow_add]
  congr 2
  omega
theorem hi_up {b N N' : Nat} {w : List Nat} (h : w.length ≤ N) (h2 : N ≤ N') : hi b N' w = hi b N w * b ^ (N' - N) := by
  unfold hi
  rw [Nat.mul_assoc, ← Nat.pow_add]
  congr 2
  omega
theorem Leaf.up {b N N' R : Nat} {L : List Pf} (h : Leaf b N R L) (h2 : N ≤ N') : Leaf b N' R L := by
  refine ⟨fun e he => ⟨(h.ok e he).r, (h.ok e he).dg, Nat.le_trans (h.ok e he).le h2⟩, List.Pairwise.imp_of_mem (fun {x y} hx hy d => ?_) h.dj, fun r hr => ?_⟩
  · have lx := (h.ok x hx).le
    have ly := (h.ok y hy).le
    rcases d with d | d | d
    · exact .inl d
    · exact .inr (.inl (by rw [hi_up lx h2, lo_up ly h2]; exact Nat.mul_le_mul_right _ d))
    · exact .inr (.inr (by rw [hi_up ly h2, lo_up lx h2]; exact Nat.mul_le_mul_right _ d))
  · have key : ∀ M : List Pf, (∀ e ∈ M, e.2.length ≤ N) → tot b N' r M = tot b N r M * b ^ (N' - N) := fun M => by
      induction M with
      | nil => intro _; show 0 = 0 * _; rw [Nat.zero_mul]
      | cons e M ih =>
        intro hM
        show (if e.1 = r then b ^ (N' - e.2.length) else 0) + tot b N' r M = ((if e.1 = r then b ^ (N - e.2.length) else 0) + tot b N r M) * _
        rw [ih fun x hx => hM x (List.mem_cons_of_mem _ hx), Nat.add_mul]
        congr 1
        split
        · rw [← Nat.pow_add]
          congr 1
          have := hM e List.mem_cons_self
          omega
        · rw [Nat.zero_mul]
    rw [key L fun e he => (h.ok e he).le, h.tt r hr, ← Nat.pow_add]
    congr 1
    omega
theorem CodeR.up {b R N N' : Nat} {H : Hp} {a : Addr} {L : Pr} (c : CodeR b R N H a L) (h : N ≤ N') : CodeR b R N' H a L :=
  ⟨⟨c.row.at_, fun e he => ⟨(c.row.good e he).1, (c.row.good e he).2.1, Nat.le_trans (c.row.good e he).2.2 h⟩, c.row.len, c.row.rt⟩, c.fz, c.lf.up h, c.st, c.le⟩
theorem mkCode {b R N : Nat} {H H' : Hp} {p : Addr} {L : Pr} (lf : Leaf b N R (pfs L)) (st : SrtP (pfs L)) (le : L.length ≤ 5000) (n : NewT H H' p L) : CodeR b R N H' p L :=
  ⟨⟨n.at_.rd, fun e he => ⟨n.good e he, (lf.ok e.2 (List.mem_map.mpr ⟨e, he, rfl⟩)).dg, (lf.ok e.2 (List.mem_map.mpr ⟨e, he, rfl⟩)).le⟩, by omega, fun e he => (lf.ok e.2 (List.mem_map.mpr ⟨e, he, rfl⟩)).r⟩, n.at_, lf, st, le⟩
def spNodesRight : Sp := fun vs H Q _ => ∃ (b R N : Nat) (a : Addr) (L : Pr) (B : List Pf), vs = [.int (b : Int), .int (R : Int), .ref a] ∧ 2 ≤ b ∧ b ≤ 5 ∧ 1 ≤ R ∧ R ≤ 100 ∧ N ≤ 100 ∧ CodeR b R N H a L ∧ L.length ≤ 50 ∧ (∀ x, Inn (pfs L) x → x ∈ B) ∧ B.length < 63 ∧ ∀ H', Same H H' → Q (.bl true) H'
section
variable {P : Program} {w : World} {K : PySem.W.Frag} {mg : Str → Option Value} {base : Heap}
end
end Vf


set_option Elab.async false
set_option maxRecDepth 100000
set_option maxHeartbeats 8000000
set_option exponentiation.threshold 3000
/-! Distinct rows in order; a prefix above another. -/
namespace Vf
open PySem PySem.Spec PyProof.Rows L2 SX
theorem srt_lt {L : List Pf} (s : SrtP L) (n : L.Nodup) : L.Pairwise Lt := by
  have s' : L.Pairwise fun x y => VG.lexS (kP y) (kP x) = false := List.pairwise_map.mp s
  refine List.Pairwise.imp (fun {x y} z => ?_) (List.pairwise_and_iff.mpr ⟨s', n⟩)
  have no := VG.lexS_no.mp z.1
  have c0 : ¬ y.1 < x.1 := fun q => no (.inl (by show (y.1 : Int) < x.1; omega))
  rcases Nat.lt_or_ge x.1 y.1 with c | c
  · exact .inl c
  · have e : x.1 = y.1 := by omega
    refine .inr ⟨e, ?_⟩
    have c1 : ¬ y.2 < x.2 := fun q => no (.inr ⟨by show (y.1 : Int) = x.1; omega, by show (S y.2).cps.toList < (S x.2).cps.toList; simpa using q⟩)
    have c2 : ¬ y.2 = x.2 := fun q => z.2 (Prod.ext e q.symm)
    exact Classical.byContradiction fun q => c2 (List.le_antisymm (List.not_lt.mp q) (List.not_lt.mp c1))
theorem nodup_ofMap {α β : Type} {f : α → β} {l : List α} (h : (l.map f).Nodup) : l.Nodup := (List.pairwise_map.mp h).imp fun z e => z (by rw [e])
/-- sorted(set(x)) -/
theorem sset {K : PySem.W.Frag} {P : Program} {w : World} {H : Hp} {p : Addr} {L : Pr} {Q : VK} (hp : SqL K H p (prefs L) ∨ SqT K H p (prefs L)) (g : ∀ e ∈ L, H e.1 = some (pfO e.2)) (lB : L.length < 1199)
    (k : ∀ (I : Pr) (D : Addr) (H' : Hp), (pfs I).Pairwise Lt → (∀ x, x ∈ pfs I ↔ x ∈ pfs L) → (∀ e ∈ I, e ∈ L) → Same H H' → RowL H' D I → H D = none → Q (.ref D) H') :
    VG.rSetOfA K P w [.ref p] H (fun x H1 => VG.rSortedSP P w [x] H1 Q) := by
  refine ⟨p, L.map (fun e => (e.1, kOf e.2)), (pfs L).map kOf, rfl, ?_, fun q hq => ?_, fun q hq => ?_, by rw [List.length_map, List.length_map]; exact lB, fun st Lr nst sub all ndk => ?_⟩
  · rw [List.map_map]
    exact hp
  · obtain ⟨e, he, rfl⟩ := List.mem_map.mp hq
    exact g e he
  · obtain ⟨e, he, rfl⟩ := List.mem_map.mp hq
    exact List.mem_map.mpr ⟨e.2, List.mem_map.mpr ⟨e, he, rfl⟩, rfl⟩
  obtain ⟨L', rfl, sub'⟩ := choose_rows sub
  have s5 : Same H (upd H st (VG.SetPO P w st (L'.map fun e => (e.1, kOf e.2)))) := same_new' nst
  have h5 : upd H st (VG.SetPO P w st (L'.map fun e => (e.1, kOf e.2))) st = some (VG.SetPO P w st (L'.map fun e => (e.1, kOf e.2))) := upd_same
  refine ⟨st, _, keyAt H, rfl, h5, fun q hq => ?_, fun ys t hs pm nt => ?_⟩
  · obtain ⟨e, he, rfl⟩ := List.mem_map.mp hq
    have ge := g e (sub' e he)
    have kk : keyAt H (.ref e.1) = ((e.2.1 : Int), S e.2.2) := keyAt_of ge
    show kOf e.2 = [.inl (keyAt H (.ref e.1)).1, .inr (keyAt H (.ref e.1)).2] ∧ _ = some (HO.tup [.int (keyAt H (.ref e.1)).1, .str (keyAt H (.ref e.1)).2])
    rw [kk]
    exact ⟨rfl, s5 _ _ ge⟩
  · have pm2 : ys.Perm (L'.map fun e : Addr × Pf => V.ref e.1) := by
      have z := pm
      rw [List.map_map] at z
      exact z
    obtain ⟨I', pI, rfl⟩ := perm_lift (fun e : Addr × Pf => V.ref e.1) L' pm2
    have nt : upd H st (VG.SetPO P w st (L'.map fun e => (e.1, kOf e.2))) t = none := nt
    refine (show Q (.ref t) (upd (upd H st (VG.SetPO P w st (L'.map fun e => (e.1, kOf e.2)))) t (.lst (prefs I'))) from ?_)
    generalize upd H st (VG.SetPO P w st (L'.map fun e => (e.1, kOf e.2))) = H5 at s5 nt ⊢
    have s6 : Same H5 (upd H5 t (.lst (prefs I'))) := same_new' nt
    have S06 : Same H (upd H5 t (.lst (prefs I'))) := fun _ _ z => s6 _ _ (s5 _ _ z)
    have ndI : (pfs L').Nodup := by
      have z : ((pfs L').map kOf).Nodup := by
        have z := ndk
        rw [List.map_map] at z
        rw [List.map_map]
        exact z
      exact nodup_ofMap z
    have np : H t = none := by
      cases z : H t with
      | none => rfl
      | some o => rw [s5 _ _ z] at nt; cases nt
    have srt : SrtP (pfs I') := by
      have z := srtd_of_map hs
      have e : (prefs I').map (keyAt H) = (pfs I').map kP := by
        rw [List.map_map, List.map_map]
        refine List.map_congr_left fun e he => ?_
        exact keyAt_of (g e (sub' e (pI.mem_iff.mp he)))
      rw [e] at z
      exact z
    refine k I' t _ (srt_lt srt ((pfs_perm pI).nodup_iff.mpr ndI)) (fun x => ?_) (fun e he => sub' e (pI.mem_iff.mp he)) S06 ⟨upd_same, fun e he => s6 _ _ (s5 _ _ (g e (sub' e (pI.mem_iff.mp he))))⟩ np
    rw [(pfs_perm pI).mem_iff]
    constructor
    · intro hx
      obtain ⟨e, he, rfl⟩ := List.mem_map.mp hx
      exact List.mem_map.mpr ⟨e, sub' e he, rfl⟩
    · intro hx
      obtain ⟨e, he, rfl⟩ := List.mem_map.mp hx
      have z := all (e.1, kOf e.2) (List.mem_map.mpr ⟨e, he, rfl⟩)
      rw [List.map_map] at z
      obtain ⟨e', he', q⟩ := List.mem_map.mp z
      have q' : kOf e'.2 = kOf e.2 := q
      exact List.mem_map.mpr ⟨e', he', kOf_inj q'⟩
/-- sorted(set(x)), as a rule -/
def rSSet (K : PySem.W.Frag) : V → Hp → VK → Prop := fun x H Q => ∃ (p : Addr) (L : Pr), x = .ref p ∧ (SqL K H p (prefs L) ∨ SqT K H p (prefs L)) ∧ (∀ e ∈ L, H e.1 = some (pfO e.2)) ∧ L.length < 1199 ∧
  ∀ (I : Pr) (D : Addr) (H' : Hp), (pfs I).Pairwise Lt → (∀ x, x ∈ pfs I ↔ x ∈ pfs L) → (∀ e ∈ I, e ∈ L) → Same H H' → RowL H' D I → H D = none → Q (.ref D) H'
section
variable {X : Cx} {e : Expr} {te : TE} {p1 p2 q1 q2 : Pos}
theorem pe_mono (he : PE X e te) : PE X e (fun σ H Q => ∃ Q0 : VK, te σ H Q0 ∧ ∀ x H', Q0 x H' → Q x H') := ⟨fun pins s σ H Q I ⟨Q0, h, m⟩ => thn (he.run pins s σ H Q0 I h) fun v s1 ⟨x, H1, I1, r1, k1⟩ => ⟨x, H1, I1, r1, m x H1 k1⟩⟩
theorem pe_sset (hc : X.calm = true) (hu : X.A.units + 64 < cLine) (g1 : Gl X "sorted") (m1 : X.mg "sorted" = none) (g2 : Gl X "set") (m2 : X.mg "set" = none) (he : PE X e te)
    (hs : starEach [e] X.env = (false, eval e X.env) :: starEach [] X.env := by rfl) :
    PE X (.Call (.Name "sorted" p1) [.Call (.Name "set" p2) [e] [] q2] [] q1) (fun σ H Q => te σ H fun x H1 => rSSet X.K x H1 Q) := by
  refine pe_imp (pe_callB (VG.cr_sortedSP hc) g1 m1 PyProof.Rows.boot_sorted (pa_cons (pe_callTy (VG.cr_setOfA hc hu) g2 m2 PyProof.Rows.boot_set (pa_cons (pe_mono he) pa_nil hs) (he := hs)) pa_nil)) fun σ H Q h => ?_
  refine ⟨_, h, fun x H' q => ?_⟩
  obtain ⟨p, L, rfl, hp, g, lL, k⟩ := q
  exact sset (K := X.K) (P := X.prog) (w := X.w) hp g lL k
end
/-- tuple(sorted(x)), x a list, as a rule -/
def rSortT (K : PySem.W.Frag) : V → Hp → VK → Prop := fun x H Q => ∃ (p : Addr) (L : Pr), x = .ref p ∧ SqL K H p (prefs L) ∧ (∀ e ∈ L, H e.1 = some (pfO e.2)) ∧
  ∀ (L' : Pr) (t : Addr) (H' : Hp), SrtP (pfs L') → L'.Perm L → Same H H' → (∀ e ∈ L', H' e.1 = some (pfO e.2)) → Fz H' t (prefs L') → Q (.ref t) H'
theorem pe_sortT {X : Cx} {e : Expr} {te : TE} {p1 p2 q1 q2 : Pos} (g1 : Gl X "tuple") (m1 : X.mg "tuple" = none) (g2 : Gl X "sorted") (m2 : X.mg "sorted" = none) (he : PE X e te)
    (hs : starEach [e] X.env = (false, eval e X.env) :: starEach [] X.env := by rfl) :
    PE X (.Call (.Name "tuple" p1) [.Call (.Name "sorted" p2) [e] [] q2] [] q1) (fun σ H Q => te σ H fun x H1 => rSortT X.K x H1 Q) := by
  refine pe_imp (pe_callTy call_tupleF g1 m1 PyProof.Rows.boot_tuple (pa_cons (pe_callB VG.cr_sortedIS g2 m2 PyProof.Rows.boot_sorted (pa_cons (pe_mono he) pa_nil hs) (he := hs)) pa_nil)) fun σ H Q h => ?_
  refine ⟨_, h, fun x H' q => ?_⟩
  obtain ⟨p, L, rfl, hp, g, k⟩ := q
  exact sort_list (K := X.K) hp g k
theorem starts_up {u l : List Nat} : Txt.startswith (S l) (S u) = u.isPrefixOf l := by
  rw [Bool.eq_iff_iff, starts_iff, List.isPrefixOf_iff_prefix]
  exact ⟨fun ⟨t, e⟩ => ⟨t, e.symm⟩, fun ⟨t, e⟩ => ⟨t, e.symm⟩⟩
theorem take_up {u l : List Nat} : decide (V.str (S (l.take u.length)) = V.str (S u)) = u.isPrefixOf l := by
  rw [Bool.eq_iff_iff, decide_eq_true_iff, List.isPrefixOf_iff_prefix, List.prefix_iff_eq_take]
  exact ⟨fun h => (S_inj (V.str.inj h)).symm, fun h => by rw [← h]⟩
/-- whether a prefix is above another one -/
def spAbv : Sp := fun vs H Q _ => ∃ (p q : Addr) (e f : Pf), vs = [.ref p, .ref q] ∧ H p = some (pfO e) ∧ H q = some (pfO f) ∧ e.2.length ≤ 9000 ∧ f.2.length ≤ 9000 ∧ Q (.bl (isUp e f)) H
section
variable {P : Program} {w : World} {K : PySem.W.Frag} {mg : Str → Option Value} {base : Heap}
theorem scPIsAbove : FnScope ["upper", "lower"] ["upper", "lower"] (defScope sPIsAbove) := ⟨rfl, rfl, rfl, by decide +kernel, rfl, by decide +kernel, by decide +kernel⟩
theorem ok_pisabove {f : Addr} {fd : FuncData} (F : Fun K "is_above" "is_above" sPIsAbove f fd) : FnOk P w K mg base CX0 1 f fd ["upper", "lower"] spAbv := by
  refine F.ok scPIsAbove (fun vs H Q E h => ?_) (fun cdv A outer s H vs Q E hr h => ?_)
  · obtain ⟨p, q, e, f, rfl, _⟩ := h
    rfl
  · obtain ⟨p, q, e, f, rfl, hp, hq, le, lf, k⟩ := h
    refine ⟨_, pss_one (ps_ret (pe_and (pe_cmpR op_eq (pe_ix ix_tup (pv 0) pe_int (fun _ _ => rfl)) (pe_ix ix_tup (pv 1) pe_int (fun _ _ => rfl)) (nomark _))
        (pe_one (pe_bm PySem.F.plainAttrs_str PySem.F.slot_str_startswith PySem.F.type_str_startswith mt_startswith (pe_ix ix_tup (pv 1) pe_int (fun _ _ => rfl)) (pa_cons (pe_ix ix_tup (pv 0) pe_int (fun _ _ => rfl)) pa_nil))))), ?_⟩
    refine ⟨_, rfl, p, _, _, _, rfl, rfl, SqT.of hp, rfl, _, rfl, q, _, _, _, rfl, rfl, SqT.of hq, rfl, rfl, _, rfl, ?_⟩
    unfold isUp at k
    by_cases c : e.1 = f.1
    · refine iteTB (decide_eq_true (by rw [c])) ?_
      refine ⟨_, rfl, q, _, _, _, rfl, rfl, SqT.of hq, rfl, rfl, _, rfl, p, _, _, _, rfl, rfl, SqT.of hp, rfl, _, _, rfl, rfl, ?_⟩
      rw [decide_eq_true c, Bool.true_and] at k
      rw [starts_up]
      exact k
    · refine iteFB (decide_eq_false fun z => c (by have := V.int.inj z; omega)) ?_
      rw [decide_eq_false c, Bool.false_and] at k
      exact k
theorem scIsAbove : FnScope ["one", "other"] ["one", "other"] (defScope sIsAbove) := ⟨rfl, rfl, rfl, by decide +kernel, rfl, by decide +kernel, by decide +kernel⟩
theorem ok_lisabove {f : Addr} {fd : FuncData} (F : Fun K "_law_is_above" "_law_is_above" sIsAbove f fd) (ml : mg "len" = none) : FnOk P w K mg base CX0 1 f fd ["one", "other"] spAbv := by
  refine F.ok scIsAbove (fun vs H Q E h => ?_) (fun cdv A outer s H vs Q E hr h => ?_)
  · obtain ⟨p, q, e, f, rfl, _⟩ := h
    rfl
  · obtain ⟨p, q, e, f, rfl, hp, hq, le, lf, k⟩ := h
    refine ⟨_, pss_one (ps_ret (pe_and (pe_cmpR op_eq (pe_ix ix_tup (pv 0) pe_int (fun _ _ => rfl)) (pe_ix ix_tup (pv 1) pe_int (fun _ _ => rfl)) (nomark _))
        (pe_one (pe_cmpR op_eq (pe_slice sl_str (pe_ix ix_tup (pv 1) pe_int (fun _ _ => rfl)) po_none (po_some (pe_callB call_len_str (by rfl) ml boot_len (pa_cons (pe_ix ix_tup (pv 0) pe_int (fun _ _ => rfl)) pa_nil))))
          (pe_ix ix_tup (pv 0) pe_int (fun _ _ => rfl)) (nomark _))))), ?_⟩
    refine ⟨_, rfl, p, _, _, _, rfl, rfl, SqT.of hp, rfl, _, rfl, q, _, _, _, rfl, rfl, SqT.of hq, rfl, rfl, _, rfl, ?_⟩
    unfold isUp at k
    by_cases c : e.1 = f.1
    · refine iteTB (decide_eq_true (by rw [c])) ?_
      refine ⟨_, rfl, q, _, _, _, rfl, rfl, SqT.of hq, rfl, _, rfl, p, _, _, _, rfl, rfl, SqT.of hp, rfl, _, rfl, small_lenG le, _, rfl, _, rfl, small_lenG lf, _, rfl, p, _, _, _, rfl, rfl, SqT.of hp, rfl, rfl, ?_⟩
      rw [decide_eq_true c, Bool.true_and] at k
      rw [S_len, cut_takeG, take_up]
      exact k
    · refine iteFB (decide_eq_false fun z => c (by have := V.int.inj z; omega)) ?_
      rw [decide_eq_false c, Bool.false_and] at k
      exact k
end
end Vf


set_option Elab.async false
set_option maxRecDepth 100000
set_option maxHeartbeats 8000000
set_option exponentiation.threshold 3000
/-! lowest and highest. -/
namespace Vf
open PySem PySem.Spec PyProof.Rows L2 SX
theorem slNL {K : PySem.W.Frag} {σ : L2.St} {x : V} {lo : Option Int} {J : Hp} {Q : VK} (h : rSlL K x lo none J Q) : tNoPart σ J (fun u H3 => rSlL K x lo u H3 Q) := h
theorem cutV_dropG {xs : List V} {s : Nat} : cutV xs (some (s : Int)) none = xs.drop s := by
  rcases Nat.le_total s xs.length with h | h
  · exact VG.cutV_drop h
  · unfold cutV
    rw [HT.sIx_none, HT.sIx_nat, Nat.min_eq_right h, List.drop_eq_nil_of_le h, Nat.sub_self, List.take_zero]
theorem cutV_last (xs : List V) (x : V) : cutV (xs ++ [x]) (some (-1)) none = [x] := by
  unfold cutV
  have e : HT.sIx (xs ++ [x]).length 0 (some (-1)) = xs.length := by
    show (if (-1 : Int) < 0 then ((-1 : Int) + (((xs ++ [x]).length : Nat) : Int)).toNat else min (-1 : Int).toNat (xs ++ [x]).length) = xs.length
    rw [if_pos (by decide), List.length_append]
    show ((-1 : Int) + ((xs.length + 1 : Nat) : Int)).toNat = xs.length
    omega
  rw [e, HT.sIx_none, List.drop_left, List.length_append]
  show List.take (xs.length + 1 - xs.length) [x] = [x]
  rw [show xs.length + 1 - xs.length = 1 by omega]
  rfl
theorem lowL_step {I : List Pf} {i : Nat} {x y : Pf} (hx : I[i]? = some x) (hy : I[i + 1]? = some y) : lowL (I.drop i) = (if isUp x y = true then [] else [x]) ++ lowL (I.drop (i + 1)) := by
  obtain ⟨h1, e1⟩ := List.getElem?_eq_some_iff.mp hx
  obtain ⟨h2, e2⟩ := List.getElem?_eq_some_iff.mp hy
  rw [List.drop_eq_getElem_cons h1, List.drop_eq_getElem_cons h2, e1, e2]
  conv => lhs; unfold lowL
  by_cases c : isUp x y = true
  · rw [if_pos c, if_pos c]
    rfl
  · rw [if_neg c, if_neg c]
    rfl
/-- rows in a list or in a tuple -/
def spLowest : Sp := fun vs H Q _ => ∃ (a : Addr) (L : Pr), vs = [.ref a] ∧ (H a = some (.lst (prefs L)) ∨ Rd H a (.tup (prefs L))) ∧ (∀ e ∈ L, H e.1 = some (pfO e.2)) ∧ (∀ e ∈ pfs L, e.2.length ≤ 9000) ∧ L.length < 1199 ∧ L ≠ [] ∧
  ∀ (L' : Pr) (p : Addr) (H' : Hp), (pfs L').Pairwise Lt → (∀ x, x ∈ pfs L' ↔ x ∈ pfs L ∧ ∀ z ∈ pfs L, ¬ Above x z) → L'.length ≤ L.length → NewT H H' p L' → Q (.ref p) H'
def spHighest : Sp := fun vs H Q _ => ∃ (a : Addr) (L : Pr), vs = [.ref a] ∧ (H a = some (.lst (prefs L)) ∨ Rd H a (.tup (prefs L))) ∧ (∀ e ∈ L, H e.1 = some (pfO e.2)) ∧ (∀ e ∈ pfs L, e.2.length ≤ 9000) ∧ L.length < 1199 ∧ L ≠ [] ∧
  ∀ (L' : Pr) (p : Addr) (H' : Hp), (pfs L').Pairwise Lt → (∀ x, x ∈ pfs L' ↔ x ∈ pfs L ∧ ∀ z ∈ pfs L, ¬ Above z x) → L'.length ≤ L.length → NewT H H' p L' → Q (.ref p) H'
section
variable {P : Program} {w : World} {K : PySem.W.Frag} {mg : Str → Option Value} {base : Heap}
theorem scLowest : FnScope ["prefixes", "row", "kept", "upper", "lower"] ["prefixes"] (defScope sLowest) := ⟨rfl, rfl, rfl, by decide +kernel, rfl, by decide +kernel, by decide +kernel⟩
theorem ok_lowest {f fA : Addr} {fd fdA : FuncData} (F : Fun K "lowest" "lowest" sLowest f fd) (GA : FnOk P w K mg base CX0 1 fA fdA ["upper", "lower"] spAbv) (cA : Cal K mg "is_above" fA fdA ["upper", "lower"]) (N : Nm mg) (mz : mg "zip" = none) (mse : mg "set" = none) (mso : mg "sorted" = none) :
    FnOk P w K mg base CX0 2 f fd ["prefixes"] spLowest := by
  refine F.ok scLowest (fun vs H Q E h => ?_) (fun cdv A outer s H vs Q E hr h => ?_)
  · obtain ⟨a, L, rfl, _⟩ := h
    rfl
  · obtain ⟨a, L, rfl, ha, g, sm, lL, ne, k⟩ := h
    have nd := scLowest.nd
    have hun : A.units + 3 + 64 < cLine := hr.units
    refine ⟨_, pss_cons (ps_set (i := 1) nd rfl (.inl rfl) (pe_sset rfl hun (by rfl) mso (by rfl) mse (pv 0)))
      (pss_cons (ps_setLc (i := 2) (own := [("upper", 3), ("lower", 4)]) (g := gTup K 2 (gCons (gName 3) (gCons (gName 4) gNil))) rfl nd rfl rfl rfl (RZ.pi_zipA rfl mz (pa_cons (pv 1) (pa_cons (pe_slice sl_list (pv 1) (po_some pe_int) po_none) pa_nil)))
          (blkOk_by (N := ["prefixes", "row", "kept", "upper", "lower"]) (sc := defScope sLowest) (by decide +kernel)) (fun _ _ _ _ _ => pg_tup rfl (pgs_cons (pg_name (i := 3) nd rfl (Or.inl rfl)) (pgs_cons (pg_name (i := 4) nd rfl (Or.inl rfl)) pgs_nil)))
          (fun _ _ _ _ _ => pts_one (pt_not (pt_val (pe_call GA hr rfl cA.mg cA.kp cA.b .nil pass0 (pa_cons (pv 3) (pa_cons (pv 4) pa_nil)))))) (fun _ _ _ _ _ => pv 3))
      (pss_one (ps_ret (pe_callTy call_tupleF (by rfl) N.tuple PyProof.Rows.boot_tuple (pa_cons (pe_op op_cat (pv 2) (pe_slice sl_list (pv 1) (po_some (pe_un un_neg pe_int)) po_none)) pa_nil))))), ?_⟩
    have ha' : SqL K H a (prefs L) ∨ SqT K H a (prefs L) := ha.imp SqL.of rd_t
    refine ⟨_, rfl, a, L, rfl, ha', g, lL, fun I D H1 pw mI sub s1 rowI n0 => ?_⟩
    have gI : ∀ e ∈ I, e.2.2.length ≤ 9000 := fun e he => sm _ (List.mem_map.mpr ⟨e, sub e he, rfl⟩)
    have lI : I.length ≤ L.length := by
      have z := Sq.nodup_len (lt_nodup pw) (B := pfs L) fun x hx => (mI x).mp hx
      rw [List.length_map, List.length_map] at z
      exact z
    have neI : I ≠ [] := fun z => by
      obtain ⟨e, he⟩ := List.exists_mem_of_ne_nil _ ne
      have := (mI e.2).mpr (List.mem_map.mpr ⟨e, he, rfl⟩)
      rw [z] at this
      cases this
    obtain ⟨I0, l, rfl⟩ : ∃ I0 l, I = I0 ++ [l] := ⟨I.dropLast, I.getLast neI, (List.dropLast_concat_getLast neI).symm⟩
    have eP : prefs (I0 ++ [l]) = prefs I0 ++ [V.ref l.1] := prefs_app
    refine ⟨_, rfl, _, rfl, _, rfl, slNL ⟨D, _, rfl, SqL.of rowI.at_, fun p np => ?_⟩⟩
    have s2 : Same H1 (upd H1 p (.lst (cutV (prefs (I0 ++ [l])) (some 1) none))) := same_new' np
    have g2 : upd H1 p (.lst (cutV (prefs (I0 ++ [l])) (some 1) none)) p = some (.lst ((prefs (I0 ++ [l])).drop 1)) := by
      rw [upd_same, show (1 : Int) = ((1 : Nat) : Int) from rfl, cutV_dropG]
    generalize upd H1 p (.lst (cutV (prefs (I0 ++ [l])) (some 1) none)) = H2 at s2 g2 ⊢
    refine ⟨D, p, _, _, rfl, .inl ⟨SqL.of (s2 _ _ rowI.at_), SqL.of g2, fun D2 hD2 => ?_⟩⟩
    refine lc_it (walk_zip (K := K) (a := D) (b := p) (xs := prefs (I0 ++ [l])) (ys := (prefs (I0 ++ [l])).drop 1) (n := I0.length) (by rw [List.length_drop, List.length_map, List.length_append]; show I0.length = min (I0.length + 1) (I0.length + 1 - 1); omega))
      (fun i Hy => ∃ K3 : Pr, pfs K3 ++ lowL ((pfs (I0 ++ [l])).drop i) = lowL (pfs (I0 ++ [l])) ∧ Hy D2 = some (.lst (prefs K3)) ∧ (∀ y ∈ K3, y ∈ I0 ++ [l]) ∧ K3.length ≤ i ∧ ∀ c o, H2 c = some o → Hy c = some o) ?_ ?_ ?_ ?_
    · exact ⟨[], rfl, upd_same, fun y hy => (by cases hy), Nat.le_refl _, fun c o z => by rw [upd_ne (ne_of_none z hD2)]; exact z⟩
    · rintro i Hy _ ⟨K3, _, _, _, _, f4⟩
      exact ⟨SqL.of (f4 _ _ (s2 _ _ rowI.at_)), SqL.of (f4 _ _ g2)⟩
    · rintro i x Hy H' hi ⟨K3, f1, f2, f3, f5, f4⟩ ⟨T, x1, y1, rfl, nT, rfl, hx, hy⟩
      obtain ⟨e, he, rfl⟩ := row_at hx
      have hy : (prefs (I0 ++ [l]))[i + 1]? = some y1 := by
        have hy : ((prefs (I0 ++ [l])).drop 1)[i]? = some y1 := hy
        rw [List.getElem?_drop] at hy
        rw [Nat.add_comm]
        exact hy
      obtain ⟨e', he', rfl⟩ := row_at hy
      have em := List.mem_of_getElem? he
      have em' := List.mem_of_getElem? he'
      have sT : Same Hy (upd Hy T (.tup [.ref e.1, .ref e'.1])) := same_new' nT
      have gT : upd Hy T (.tup [.ref e.1, .ref e'.1]) T = some (.tup [.ref e.1, .ref e'.1]) := upd_same
      generalize upd Hy T (.tup [.ref e.1, .ref e'.1]) = Hz at sT gT ⊢
      have S1z : Same H1 Hz := fun _ _ z => sT _ _ (f4 _ _ (s2 _ _ z))
      have st := lowL_step (I := pfs (I0 ++ [l])) (i := i) (x := e.2) (y := e'.2) (by rw [List.getElem?_map, he]; rfl) (by rw [List.getElem?_map, he']; rfl)
      refine ⟨T, _, rfl, SqT.of gT, rfl, _, _, rfl, _, _, rfl, rfl, rfl, ?_⟩
      refine ⟨_, rfl, _, rfl, e.1, e'.1, e.2, e'.2, rfl, S1z _ _ (rowI.good e em), S1z _ _ (rowI.good e' em'), gI e em, gI e' em', _, rfl, ?_⟩
      by_cases c : isUp e.2 e'.2 = true
      · rw [c]
        refine iteF ?_
        rw [if_pos c] at st
        refine ⟨K3, by rw [← f1, st]; rfl, sT _ _ f2, f3, by omega, fun _ _ z => sT _ _ (f4 _ _ z)⟩
      · rw [if_neg c] at st
        rw [Bool.not_eq_true] at c
        rw [c]
        refine iteTB rfl ?_
        refine ⟨_, rfl, _, sT _ _ f2, ?_, K3 ++ [e], ?_, ?_, fun z hz => ?_, ?_, fun c o z => ?_⟩
        · rw [List.length_map]
          exact Nat.lt_of_lt_of_le (show K3.length < 6001 by rw [List.length_append] at lI; omega) (by decide)
        · rw [pfs_app, ← f1, st, List.append_assoc]
          rfl
        · rw [upd_same, prefs_app]
          rfl
        · rcases List.mem_append.mp hz with q | q
          · exact f3 z q
          · rw [List.mem_singleton.mp q]
            exact em
        · rw [List.length_append]
          show K3.length + 1 ≤ i + 1
          omega
        · rw [upd_ne (ne_of_none z hD2)]
          exact sT _ _ (f4 _ _ z)
    · rintro Hy ⟨K3, f1, f2, f3, f5, f4⟩
      have S1y : Same H1 Hy := fun _ _ z => f4 _ _ (s2 _ _ z)
      have ed : (pfs (I0 ++ [l])).drop I0.length = [l.2] := by
        rw [pfs_app, List.drop_append_of_le_length (by rw [List.length_map]; exact Nat.le_refl _), List.drop_eq_nil_of_le (by rw [List.length_map]; exact Nat.le_refl _)]
        rfl
      rw [ed] at f1
      have f1 : pfs K3 ++ [l.2] = lowL (pfs (I0 ++ [l])) := f1
      refine ⟨_, rfl, _, rfl, _, rfl, _, rfl, slNL ⟨D, _, rfl, SqL.of (S1y _ _ rowI.at_), fun p2 np2 => ?_⟩⟩
      rw [eP, cutV_last]
      have s3 : Same Hy (upd Hy p2 (.lst [V.ref l.1])) := same_new' np2
      have g3 : upd Hy p2 (.lst [V.ref l.1]) p2 = some (.lst [V.ref l.1]) := upd_same
      generalize upd Hy p2 (.lst [V.ref l.1]) = H4 at s3 g3 ⊢
      refine ⟨D2, p2, _, _, rfl, rfl, s3 _ _ f2, g3, ?_, fun p5 np5 => ?_⟩
      · rw [List.length_map]
        exact Nat.le_trans (show K3.length + 1 ≤ 6000 by rw [List.length_append] at lI; omega) (by decide)
      have s5 : Same H4 (upd H4 p5 (.lst (prefs K3 ++ [V.ref l.1]))) := same_new' np5
      have g5 : upd H4 p5 (.lst (prefs K3 ++ [V.ref l.1])) p5 = some (.lst (prefs K3 ++ [V.ref l.1])) := upd_same
      generalize upd H4 p5 (.lst (prefs K3 ++ [V.ref l.1])) = H5 at s5 g5 ⊢
      refine ⟨p5, _, rfl, SqL.of g5, fun t H6 s6 f6 _ => ?_⟩
      have S16 : Same H1 H6 := fun _ _ z => s6 _ _ (s5 _ _ (s3 _ _ (S1y _ _ z)))
      have eL' : pfs (K3 ++ [l]) = lowL (pfs (I0 ++ [l])) := by
        rw [pfs_app, ← f1]
        rfl
      have pw' : (pfs (K3 ++ [l])).Pairwise Lt := by
        rw [eL']
        exact pw.sublist (lowL_sub _)
      have mem' : ∀ x, x ∈ pfs (K3 ++ [l]) ↔ x ∈ pfs L ∧ ∀ z ∈ pfs L, ¬ Above x z := fun x => by
        rw [eL', mem_lowL pw, mI]
        exact and_congr Iff.rfl ⟨fun h z hz => h z ((mI z).mpr hz), fun h z hz => h z ((mI z).mp hz)⟩
      refine k (K3 ++ [l]) t H6 pw' mem' ?_ ⟨fun _ _ z => S16 _ _ (s1 _ _ z), by rw [prefs_app]; exact f6, fun e he => ?_⟩
      · rw [List.length_append] at lI ⊢
        have : ([l] : Pr).length = 1 := rfl
        omega
      · refine S16 _ _ (rowI.good e ?_)
        rcases List.mem_append.mp he with q | q
        · exact f3 e q
        · exact List.mem_append_right _ q
theorem scHighest : FnScope ["prefixes", "kept", "prefix"] ["prefixes"] (defScope sHighest) := ⟨rfl, rfl, rfl, by decide +kernel, rfl, by decide +kernel, by decide +kernel⟩
theorem ok_highest {f fA : Addr} {fd fdA : FuncData} (F : Fun K "highest" "highest" sHighest f fd) (GA : FnOk P w K mg base CX0 1 fA fdA ["upper", "lower"] spAbv) (cA : Cal K mg "is_above" fA fdA ["upper", "lower"]) (N : Nm mg) (mse : mg "set" = none) (mso : mg "sorted" = none) :
    FnOk P w K mg base CX0 2 f fd ["prefixes"] spHighest := by
  refine F.ok scHighest (fun vs H Q E h => ?_) (fun cdv A outer s H vs Q E hr h => ?_)
  · obtain ⟨a, L, rfl, _⟩ := h
    rfl
  · obtain ⟨a, L, rfl, ha, g, sm, lL, ne, k⟩ := h
    have nd := scHighest.nd
    have hun : A.units + 3 + 64 < cLine := hr.units
    refine ⟨_, pss_cons (ps_set (i := 1) nd rfl (.inl rfl) (pe_lst pa_nil))
      (pss_cons (ps_for PassesOwn.never rfl (pi_list (pe_sset rfl hun (by rfl) mso (by rfl) mse (pv 0))) (pg_name (i := 2) nd rfl (.inl rfl))
        (pss_one (ps_if (PW.pt (pw_or (pt_not (pt_truth (pv 1) (fun _ => rfl))) (pw_or1 (pt_not (pt_val (pe_call GA hr rfl cA.mg cA.kp cA.b .nil pass0 (pa_cons (pe_ix ix_list (pv 1) (pe_un un_neg pe_int) (fun _ _ => rfl)) (pa_cons (pv 2) pa_nil))))))))
          (pss_one (ps_expr (pe_bm PySem.F.plainAttrs_list PySem.F.slot_list_append PySem.F.type_list_append mt_append (pv 1) (pa_cons (pv 2) pa_nil)))) pss_nil)))
      (pss_one (ps_ret (pe_callTy call_tupleF (by rfl) N.tuple PyProof.Rows.boot_tuple (pa_cons (pv 1) pa_nil))))), ?_⟩
    refine ⟨by show 0 ≤ sizeLine; decide, fun D hD => ?_⟩
    have s0 : Same H (upd H D (.lst [])) := same_new' hD
    have g0 : upd H D (.lst []) D = some (.lst []) := upd_same
    generalize upd H D (.lst []) = H0 at s0 g0 ⊢
    have ha' : SqL K H0 a (prefs L) ∨ SqT K H0 a (prefs L) := ha.imp (fun z => SqL.of (s0 _ _ z)) fun z => rd_t (rd_same z s0)
    refine ⟨_, rfl, a, L, rfl, ha', fun e he => s0 _ _ (g e he), lL, fun I D1 H1 pw mI sub s1 rowI n0 => ?_⟩
    have gI : ∀ e ∈ I, e.2.2.length ≤ 9000 := fun e he => sm _ (List.mem_map.mpr ⟨e, sub e he, rfl⟩)
    have lI : I.length ≤ L.length := by
      have z := Sq.nodup_len (lt_nodup pw) (B := pfs L) fun x hx => (mI x).mp hx
      rw [List.length_map, List.length_map] at z
      exact z
    have g1 := s1 _ _ g0
    refine ⟨D1, rfl, ⟨_, SqL.of rowI.at_⟩, for_list (xs := prefs I) (fun i σ Hx => ∃ (u2 : Option V) (K3 : Pr), σ = [some (.ref a), some (.ref D), u2] ∧ pfs K3 = ((pfs I).take i).foldl hiStep [] ∧ Hx D = some (.lst (prefs K3)) ∧ (∀ y ∈ K3, y ∈ I) ∧ K3.length ≤ i ∧ ∀ c o, c ≠ D → H1 c = some o → Hx c = some o) ?_ ?_ ?_ ?_⟩
    · exact ⟨none, [], rfl, rfl, g1, fun y hy => (by cases hy), Nat.le_refl _, fun _ _ _ z => z⟩
    · rintro i σ Hx _ ⟨u2, K3, rfl, _, _, _, _, f4⟩
      refine SqL.of (f4 _ _ (fun z => ?_) rowI.at_)
      rw [z] at n0
      rw [g0] at n0
      cases n0
    · rintro i x σ Hx hx ⟨u2, K3, rfl, f1, f2, f3, f5, f4⟩
      obtain ⟨e, he, rfl⟩ := row_at hx
      have em := List.mem_of_getElem? he
      have hi : i < I.length := (List.getElem?_eq_some_iff.mp he).1
      have notD : ∀ y ∈ I, y.1 ≠ D := fun y hy z => by
        have q := rowI.good y hy
        rw [z, g1] at q
        cases q
      have gd : ∀ y ∈ I, Hx y.1 = some (pfO y.2) := fun y hy => f4 _ _ (notD y hy) (rowI.good y hy)
      have tk : ((pfs I).take (i + 1)).foldl hiStep [] = hiStep (pfs K3) e.2 := by
        rw [List.take_add_one, List.getElem?_map, he, List.foldl_append, f1]
        rfl
      have app : hiStep (pfs K3) e.2 = pfs K3 ++ [e.2] → ∃ (u2 : Option V) (K4 : Pr), [some (V.ref a), some (.ref D), some (.ref e.1)] = [some (.ref a), some (.ref D), u2] ∧ pfs K4 = ((pfs I).take (i + 1)).foldl hiStep [] ∧ (upd Hx D (.lst (prefs K3 ++ [V.ref e.1]))) D = some (.lst (prefs K4)) ∧ (∀ y ∈ K4, y ∈ I) ∧ K4.length ≤ i + 1 ∧ ∀ c o, c ≠ D → H1 c = some o → (upd Hx D (.lst (prefs K3 ++ [V.ref e.1]))) c = some o := fun h => by
        refine ⟨_, K3 ++ [e], rfl, by rw [tk, h, pfs_app]; rfl, by rw [upd_same, prefs_app]; rfl, fun z hz => ?_, by rw [List.length_append]; show K3.length + 1 ≤ i + 1; omega, fun c o n z => by rw [upd_ne n]; exact f4 _ _ n z⟩
        rcases List.mem_append.mp hz with q | q
        · exact f3 z q
        · rw [List.mem_singleton.mp q]
          exact em
      have lK : (prefs K3).length < sizeLine := by
        rw [List.length_map]
        exact Nat.lt_of_lt_of_le (show K3.length < 6001 by omega) (by decide)
      refine ⟨_, rfl, _, .inl ⟨_, SqL.of f2, rfl⟩, ?_⟩
      rcases List.eq_nil_or_concat K3 with z | ⟨K0, y, z⟩
      · subst z
        refine iteTB rfl ?_
        refine ⟨_, rfl, .inl ⟨rfl, _, SqL.of f2⟩, _, rfl, D, _, _, rfl, rfl, f2, lK, ?_⟩
        exact app rfl
      · rw [List.concat_eq_append] at z
        subst z
        have eP : prefs (K0 ++ [y]) = prefs K0 ++ [V.ref y.1] := prefs_app
        have hst : hiStep (pfs (K0 ++ [y])) e.2 = if isUp y.2 e.2 = true then pfs (K0 ++ [y]) else pfs (K0 ++ [y]) ++ [e.2] := by
          unfold hiStep
          rw [show (pfs (K0 ++ [y])).getLast? = some y.2 by rw [pfs_app]; simp]
        have ym : y ∈ I := f3 y (List.mem_append_right _ (List.mem_singleton.mpr rfl))
        refine iteFB (by rw [eP]; simp) ?_
        refine ⟨_, rfl, _, rfl, D, _, _, _, rfl, rfl, SqL.of f2, by rw [eP]; exact atI_last _ _, _, rfl, y.1, e.1, y.2, e.2, rfl, gd y ym, gd e em, gI y ym, gI e em, _, rfl, ?_⟩
        by_cases c : isUp y.2 e.2 = true
        · rw [c]
          refine iteF ?_
          rw [if_pos c] at hst
          exact ⟨_, K0 ++ [y], rfl, by rw [tk, hst], f2, f3, by omega, f4⟩
        · rw [if_neg c] at hst
          rw [Bool.not_eq_true] at c
          rw [c]
          refine iteTB rfl ?_
          refine ⟨_, rfl, .inl ⟨rfl, _, SqL.of f2⟩, _, rfl, D, _, _, rfl, rfl, f2, lK, ?_⟩
          exact app hst
    · rintro σ Hx ⟨u2, K3, rfl, f1, f2, f3, f5, f4⟩
      rw [show (prefs I).length = (pfs I).length by rw [List.length_map, List.length_map], List.take_length] at f1
      have KK := kept_all (pfs I) [] [] ⟨List.Sublist.refl _, fun x => ⟨fun h => (by cases h), fun h => h.1⟩⟩ pw
      rw [List.nil_append, ← f1] at KK
      refine ⟨_, rfl, D, _, rfl, SqL.of f2, fun t H6 s6 f6 _ => ?_⟩
      have mem' : ∀ x, x ∈ pfs K3 ↔ x ∈ pfs L ∧ ∀ z ∈ pfs L, ¬ Above z x := fun x => by
        rw [KK.mem, mI]
        exact and_congr Iff.rfl ⟨fun h z hz => h z ((mI z).mpr hz), fun h z hz => h z ((mI z).mp hz)⟩
      refine k K3 t H6 (pw.sublist KK.sub) mem' (by rw [show (prefs I).length = I.length by rw [List.length_map]] at f5; omega) ⟨fun c o z => s6 _ _ (f4 _ _ (ne_of_none z hD) (s1 _ _ (s0 _ _ z))), f6, fun e he => ?_⟩
      refine s6 _ _ (f4 _ _ (fun z => ?_) (rowI.good e (f3 e he)))
      have q := rowI.good e (f3 e he)
      rw [z, g1] at q
      cases q
end
end Vf


set_option Elab.async false
set_option maxRecDepth 100000
set_option maxHeartbeats 8000000
set_option exponentiation.threshold 3000
/-! Tuples of codes; their join and their meet. -/
namespace Vf
open PySem PySem.Spec PyProof.Rows L2 SX
abbrev Cd : Type := List (Addr × Pr)
abbrev crefs (Cs : Cd) : List V := Cs.map fun c => .ref c.1
abbrev cfs (Cs : Cd) : List (List Pf) := Cs.map fun c => pfs c.2
/-- a tuple of codes -/
structure Codes (b R N : Nat) (H : Hp) (a : Addr) (Cs : Cd) : Prop where
  at_ : Rd H a (.tup (crefs Cs))
  ok : ∀ c ∈ Cs, CodeR b R N H c.1 c.2
theorem Codes.same {b R N : Nat} {H H' : Hp} {a : Addr} {Cs : Cd} (r : Codes b R N H a Cs) (s : Same H H') : Codes b R N H' a Cs := ⟨rd_same r.at_ s, fun c hc => (r.ok c hc).same s⟩
theorem Codes.all {b R N : Nat} {H : Hp} {a : Addr} {Cs : Cd} (r : Codes b R N H a Cs) : AllC b N R (cfs Cs) := fun C hC => by
  obtain ⟨c, hc, rfl⟩ := List.mem_map.mp hC
  exact ⟨(r.ok c hc).lf, (r.ok c hc).st⟩
theorem crow_at {Cs : Cd} {i : Nat} {x : V} (hx : (crefs Cs)[i]? = some x) : ∃ c, Cs[i]? = some c ∧ x = .ref c.1 := by
  rw [List.getElem?_map] at hx
  cases z : Cs[i]? with
  | none => rw [z] at hx; cases hx
  | some c => rw [z] at hx; cases hx; exact ⟨c, rfl, rfl⟩
theorem CodeR.tail {b R N : Nat} {H : Hp} {a : Addr} {L : Pr} (c : CodeR b R N H a L) (b0 : 0 < b) (r1 : 1 ≤ R) : ∃ L0 x, Rd H a (.tup (prefs (L0 ++ [x]))) ∧ H x.1 = some (pfO x.2) ∧ ((x.2.1 : Int) + 1) = (R : Int) := by
  obtain ⟨L0, x, e, ex⟩ := c.cut b0 r1
  refine ⟨L0, x, by rw [← e]; exact c.row.at_, (c.row.good x (by rw [e]; exact List.mem_append_right _ (List.mem_singleton.mpr rfl))).1, by omega⟩
abbrev rowsAll (Cs : Cd) : Pr := Cs.flatMap fun c => c.2
theorem mem_all {Cs : Cd} {x : Pf} : x ∈ pfs (rowsAll Cs) ↔ ∃ C ∈ cfs Cs, x ∈ C := by
  constructor
  · intro h
    obtain ⟨e, he, rfl⟩ := List.mem_map.mp h
    obtain ⟨c, hc, h⟩ := List.mem_flatMap.mp he
    exact ⟨_, List.mem_map.mpr ⟨c, hc, rfl⟩, List.mem_map.mpr ⟨e, h, rfl⟩⟩
  · rintro ⟨C, hC, h⟩
    obtain ⟨c, hc, rfl⟩ := List.mem_map.mp hC
    obtain ⟨e, he, rfl⟩ := List.mem_map.mp h
    exact List.mem_map.mpr ⟨e, List.mem_flatMap.mpr ⟨c, hc, he⟩, rfl⟩
def spReqCodes : Sp := fun vs H Q _ => ∃ (b R N : Nat) (a : Addr) (Cs : Cd), vs = [.int (b : Int), .ref a] ∧ 2 ≤ b ∧ b ≤ 5 ∧ 1 ≤ R ∧ R ≤ 5000 ∧ N ≤ 1000 ∧ Codes b R N H a Cs ∧ Cs ≠ [] ∧ ∀ H', Same H H' → Q .non H'
def spJoinedAll : Sp := fun vs H Q _ => ∃ (b R N : Nat) (a : Addr) (Cs : Cd), vs = [.int (b : Int), .ref a] ∧ 2 ≤ b ∧ b ≤ 5 ∧ 1 ≤ R ∧ R ≤ 5000 ∧ N ≤ 1000 ∧ Codes b R N H a Cs ∧ Cs ≠ [] ∧ (rowsAll Cs).length < 1199 ∧
  ∀ (L : Pr) (p : Addr) (H' : Hp), CodeR b R N H' p L → (∀ x, Inn (pfs L) x ↔ ∃ C ∈ cfs Cs, Inn C x) → L.length ≤ (rowsAll Cs).length → Same H H' → Q (.ref p) H'
def spMetAll : Sp := fun vs H Q _ => ∃ (b R N : Nat) (a : Addr) (Cs : Cd), vs = [.int (b : Int), .ref a] ∧ 2 ≤ b ∧ b ≤ 5 ∧ 1 ≤ R ∧ R ≤ 5000 ∧ N ≤ 1000 ∧ Codes b R N H a Cs ∧ Cs ≠ [] ∧ (rowsAll Cs).length < 1199 ∧
  ∀ (L : Pr) (p : Addr) (H' : Hp), CodeR b R N H' p L → (∀ x, Inn (pfs L) x ↔ ∀ C ∈ cfs Cs, Inn C x) → L.length ≤ (rowsAll Cs).length → Same H H' → Q (.ref p) H'
def spJoined : Sp := fun vs H Q E => ∃ ws rest, vs = ws ++ rest ∧ ws.length = ["base"].length ∧ rest.length ≤ sizeLine ∧ ∀ p, H p = Option.none → spJoinedAll (ws ++ [V.ref p]) (upd H p (.tup rest)) Q E
def spMet : Sp := fun vs H Q E => ∃ ws rest, vs = ws ++ rest ∧ ws.length = ["base"].length ∧ rest.length ≤ sizeLine ∧ ∀ p, H p = Option.none → spMetAll (ws ++ [V.ref p]) (upd H p (.tup rest)) Q E
theorem rowsAll_ne {b R N : Nat} {H : Hp} {a : Addr} {Cs : Cd} (c : Codes b R N H a Cs) (n : Cs ≠ []) (b0 : 0 < b) (r1 : 1 ≤ R) : rowsAll Cs ≠ [] := fun z => by
  obtain ⟨x, hx⟩ := List.exists_mem_of_ne_nil _ n
  obtain ⟨L0, y, e, _⟩ := (c.ok x hx).cut b0 r1
  have : y ∈ rowsAll Cs := List.mem_flatMap.mpr ⟨x, hx, by rw [e]; exact List.mem_append_right _ (List.mem_singleton.mpr rfl)⟩
  rw [z] at this
  cases this
theorem rowsAll_good {b R N : Nat} {H : Hp} {a : Addr} {Cs : Cd} (c : Codes b R N H a Cs) : ∀ e ∈ rowsAll Cs, H e.1 = some (pfO e.2) ∧ e.2.2.length ≤ N := fun e he => by
  obtain ⟨x, hx, h⟩ := List.mem_flatMap.mp he
  exact ⟨(c.ok x hx).good e h, ((c.ok x hx).lf.ok e.2 (List.mem_map.mpr ⟨e, h, rfl⟩)).le⟩
section
variable {P : Program} {w : World} {K : PySem.W.Frag} {mg : Str → Option Value} {base : Heap}
theorem scReqCodes : FnScope ["base", "codes", "code"] ["base", "codes"] (defScope sReqCodes) := ⟨rfl, rfl, rfl, by decide +kernel, rfl, by decide +kernel, by decide +kernel⟩
theorem ok_reqcodes {f fC fR : Addr} {fd fdC fdR : FuncData} (F : Fun K "require_codes" "require_codes" sReqCodes f fd) (GC : FnOk P w K mg base CX0 5 fC fdC ["base", "code"] spReqCode) (cC : Cal K mg "require_code" fC fdC ["base", "code"])
    (GR : FnOk P w K mg base CX0 1 fR fdR ["code"] spCodeRoots) (cR : Cal K mg "code_roots" fR fdR ["code"]) (N : Nm mg) : FnOk P w K mg base CX0 6 f fd ["base", "codes"] spReqCodes := by
  refine F.ok scReqCodes (fun vs H Q E h => ?_) (fun cdv A outer s H vs Q E hr h => ?_)
  · obtain ⟨b, R, M, a, Cs, rfl, _⟩ := h
    rfl
  · obtain ⟨b, R, M, a, Cs, rfl, b2, b5, r1, r5, hM, c, ne, k⟩ := h
    have nd := scReqCodes.nd
    have hr1 := hr.mono (show 1 ≤ 5 by decide)
    refine ⟨_, pss_cons (ps_if (PW.pt (pw_or (pt_not (pt_val (pe_callB call_isi (by rfl) N.isinst PyProof.Rows.boot_isinstance (pa_cons (pv 1) (pa_cons (pe_bltn (v := .ty "tuple") (by rfl) N.tuple PyProof.Rows.boot_tuple rfl) pa_nil)))))
          (pw_or1 (pt_cmpR op_eq (pe_callB call_len_seq (by rfl) N.len boot_len (pa_cons (pv 1) pa_nil)) pe_int (nomark _))))) (pss_one ps_no) pss_nil)
      (pss_one (ps_for PassesOwn.never rfl (pi_tup (pv 1)) (pg_name (i := 2) nd rfl (.inl rfl))
        (pss_cons (ps_expr (pe_call GC hr rfl cC.mg cC.kp cC.b .nil pass0 (pa_cons (pv 0) (pa_cons (pv 2) pa_nil))))
        (pss_one (ps_if (pt_cmpR op_ne (pe_call GR hr1 rfl cR.mg cR.kp cR.b .nil pass0 (pa_cons (pv 2) pa_nil)) (pe_call GR hr1 rfl cR.mg cR.kp cR.b .nil pass0 (pa_cons (pe_ix ix_tup (pv 1) pe_int (fun _ _ => rfl)) pa_nil)) (nomark _)) (pss_one ps_no) pss_nil))))), ?_⟩
    obtain ⟨c0, Ct, rfl⟩ : ∃ c0 Ct, Cs = c0 :: Ct := by
      cases Cs with
      | nil => exact absurd rfl ne
      | cons c0 Ct => exact ⟨c0, Ct, rfl⟩
    refine ⟨_, rfl, _, _, _, _, true, rfl, .ty "tuple", rd_tyx c.at_, kit_ty (by decide +kernel), _, rfl, ?_⟩
    refine iteF ?_
    refine ⟨_, rfl, _, _, rfl, .inr (rd_t c.at_), rfl, _, rfl, ?_⟩
    refine iteFB (decide_eq_false fun z => ?_) ?_
    · have z := V.int.inj z
      rw [List.length_map, List.length_cons] at z
      omega
    refine ⟨_, rfl, a, rfl, ⟨_, rd_t c.at_⟩, for_tup (xs := crefs (c0 :: Ct)) (fun i σ Hx => ∃ u2 : Option V, σ = [some (.int (b : Int)), some (.ref a), u2] ∧ Same H Hx) ?_ ?_ ?_ ?_⟩
    · exact ⟨none, rfl, Same.refl H⟩
    · rintro i σ Hx _ ⟨u2, rfl, s1⟩
      exact rd_t (rd_same c.at_ s1)
    · rintro i x σ Hx hx ⟨u2, rfl, s1⟩
      obtain ⟨e, he, rfl⟩ := crow_at hx
      have em := List.mem_of_getElem? he
      refine ⟨_, rfl, _, rfl, b, R, M, e.1, e.2, rfl, b2, b5, r1, r5, hM, (c.ok e em).same s1, fun H1 s2 => ?_⟩
      have S2 : Same H H1 := fun _ _ z => s2 _ _ (s1 _ _ z)
      have cs := c.same S2
      obtain ⟨L0, x, t1, t2, t3⟩ := (cs.ok e em).tail (by omega) r1
      obtain ⟨L1, y, v1, v2, v3⟩ := (cs.ok c0 List.mem_cons_self).tail (by omega) r1
      refine ⟨_, rfl, e.1, L0, x, rfl, t1, t2, _, rfl, a, _, _, _, rfl, rfl, rd_t cs.at_, (show atI (crefs (c0 :: Ct)) ((0 : Nat) : Int) = some (V.ref c0.1) from atI_nat rfl), c0.1, L1, y, rfl, v1, v2, rfl, _, rfl, ?_⟩
      rw [t3, v3]
      refine iteFB (by rw [decide_eq_true rfl]; rfl) ?_
      exact ⟨_, rfl, S2⟩
    · rintro σ Hx ⟨u2, rfl, s1⟩
      exact k Hx s1
theorem scJoinedAll : FnScope ["base", "codes", "join", "code", "prefix"] ["base", "codes"] (defScope sJoinedAll) := ⟨rfl, rfl, rfl, by decide +kernel, rfl, by decide +kernel, by decide +kernel⟩
theorem ok_joinedall {f fB fC fL C : Addr} {fd fdB fdC fdL : FuncData} (F : Fun K "joined_all" "joined_all" sJoinedAll f fd) (GB : FnOk P w K mg base (L2.CX P w) 4 fB fdB ["base"] (spReqB C 2 5)) (cB : Cal K mg "require_base" fB fdB ["base"])
    (GC : FnOk P w K mg base CX0 6 fC fdC ["base", "codes"] spReqCodes) (cC : Cal K mg "require_codes" fC fdC ["base", "codes"]) (GL : FnOk P w K mg base CX0 2 fL fdL ["prefixes"] spLowest) (cL : Cal K mg "lowest" fL fdL ["prefixes"]) (N : Nm mg) (mr : ∃ t, mg "MAX_ROWS" = some (.int 5000 t)) :
    FnOk P w K mg base CX0 7 f fd ["base", "codes"] spJoinedAll := by
  refine F.ok scJoinedAll (fun vs H Q E h => ?_) (fun cdv A outer s H vs Q E hr h => ?_)
  · obtain ⟨b, R, M, a, Cs, rfl, _⟩ := h
    rfl
  · obtain ⟨b, R, M, a, Cs, rfl, b2, b5, r1, r5, hM, c, ne, lC, k⟩ := h
    have nd := scJoinedAll.nd
    have hr4 := hr.mono (show 4 ≤ 6 by decide)
    have hr2 := hr.mono (show 2 ≤ 6 by decide)
    obtain ⟨t3, m3⟩ := mr
    refine ⟨_, pss_cons (ps_expr (pe_call GB hr4 rfl cB.mg cB.kp cB.b .nil (passes_call takes0 (fun _ _ _ _ h => h)) (pa_cons (pv 0) pa_nil)))
      (pss_cons (ps_expr (pe_call GC hr rfl cC.mg cC.kp cC.b .nil pass0 (pa_cons (pv 0) (pa_cons (pv 1) pa_nil))))
      (pss_cons (ps_set (i := 2) nd rfl (.inl rfl) (pe_call GL hr2 rfl cL.mg cL.kp cL.b .nil pass0 (pa_cons (pe_lc2 (own := [("code", 3), ("prefix", 4)]) (vs1 := [4]) (g := gName 3) (g1 := gName 4) (wi1 := iTup K (tVar 3)) rfl nd (pi_tup (pv 1))
          (blkOk_by (N := ["base", "codes", "join", "code", "prefix"]) (sc := defScope sJoinedAll) (by decide +kernel)) (by decide) (fun _ _ _ _ _ => pg_name (i := 3) nd rfl (Or.inl rfl))
          (fun _ _ _ _ _ => pts_nil) (fun _ _ _ _ _ => pi_tup (pv 3)) (fun _ _ _ _ _ => pg_name (i := 4) nd rfl (Or.inl rfl)) (fun _ _ _ _ _ => pts_nil) (fun _ _ _ _ _ => pv 4)) pa_nil)))
      (pss_cons (ps_if (pt_cmpR op_gt (pe_callB call_len_seq (by rfl) N.len boot_len (pa_cons (pv 2) pa_nil)) (pe_glob (v := .int 5000) rfl m3 ⟨_, rfl⟩) (nomark _)) (pss_one ps_no) pss_nil)
      (pss_one (ps_ret (pv 2)))))), ?_⟩
    have b0 : 0 < b := by omega
    refine ⟨_, rfl, _, _, rfl, .int _, fun _ => ?_, fun z => absurd z (by rw [within_b b2 b5]; decide)⟩
    refine ⟨_, rfl, _, rfl, b, R, M, a, Cs, rfl, b2, b5, r1, r5, hM, c, ne, fun H1 s1 => ?_⟩
    have c1 := c.same s1
    refine ⟨_, rfl, a, rfl, ⟨_, rd_t c1.at_⟩, fun D hD => ?_⟩
    refine lc2_it (walk_tup (xs := crefs Cs)) (fun i Hy => RowL Hy D (rowsAll (Cs.take i)) ∧ ∀ c o, H1 c = some o → Hy c = some o) ?_ ?_ ?_ ?_
    · exact ⟨⟨upd_same, fun e he => (by cases he)⟩, fun c o e => by rw [upd_ne (ne_of_none e hD)]; exact e⟩
    · rintro i Hy _ ⟨_, e4⟩
      exact rd_t (rd_same c1.at_ e4)
    · rintro i x Hy H' hi ⟨row, e4⟩ ⟨rfl, hx⟩
      obtain ⟨e, he, rfl⟩ := crow_at hx
      have em := List.mem_of_getElem? he
      have ce := (c1.ok e em).same e4
      have tk : rowsAll (Cs.take (i + 1)) = rowsAll (Cs.take i) ++ e.2 := by
        rw [List.take_add_one, he]
        show List.flatMap _ (_ ++ [e]) = _
        rw [List.flatMap_append, List.flatMap_singleton]
      have tot : rowsAll (Cs.take (i + 1)) ++ rowsAll (Cs.drop (i + 1)) = rowsAll Cs := by
        show List.flatMap _ _ ++ List.flatMap _ _ = _
        rw [← List.flatMap_append, List.take_append_drop]
      have tl := congrArg List.length tot
      rw [tk, List.length_append, List.length_append] at tl
      refine ⟨rfl, _, rfl, e.1, rfl, ⟨_, rd_t ce.row.at_⟩, ?_⟩
      refine lc2_in (walk_tup (xs := prefs e.2)) (fun j Hz => RowL Hz D (rowsAll (Cs.take i) ++ e.2.take j) ∧ ∀ c o, H1 c = some o → Hz c = some o) ?_ ?_ ?_ ?_
      · exact ⟨by rw [List.take_zero, List.append_nil]; exact row, e4⟩
      · rintro j Hz _ ⟨_, f4⟩
        exact rd_t (rd_same (c1.ok e em).row.at_ f4)
      · rintro j x Hz H2 hj ⟨row2, f4⟩ ⟨rfl, hx⟩
        obtain ⟨y, hy, rfl⟩ := row_at hx
        have ym := List.mem_of_getElem? hy
        have yj : j < e.2.length := (List.getElem?_eq_some_iff.mp hy).1
        have tj : e.2.take (j + 1) = e.2.take j ++ [y] := by
          rw [List.take_add_one, hy]
          rfl
        have gy := f4 _ _ ((c1.ok e em).good y ym)
        refine ⟨rfl, _, rfl, _, row2.at_, ?_, ⟨?_, fun z hz => ?_⟩, fun c o z => ?_⟩
        · rw [List.length_map, List.length_append, List.length_take]
          exact Nat.lt_of_lt_of_le (show (rowsAll (Cs.take i)).length + min j e.2.length < 6001 by omega) (by decide)
        · rw [upd_same, tj, ← List.append_assoc, prefs_app (M := [y])]
          rfl
        · rw [tj, ← List.append_assoc] at hz
          have gz : H2 z.1 = some (pfO z.2) := by
            rcases List.mem_append.mp hz with q | q
            · exact row2.good z q
            · rw [List.mem_singleton.mp q]
              exact gy
          rw [upd_ne (fun q => by rw [q, row2.at_] at gz; cases gz)]
          exact gz
        · rw [upd_ne (ne_of_none z hD)]
          exact f4 _ _ z
      · rintro Hz ⟨row2, f4⟩
        refine ⟨?_, f4⟩
        rw [tk, ← List.take_length (l := e.2), ← show (prefs e.2).length = e.2.length from List.length_map _]
        exact row2
    · rintro Hy ⟨row, e4⟩
      rw [show (crefs Cs).length = Cs.length from List.length_map _, List.take_length] at row
      have cy := c1.same e4
      refine ⟨D, rowsAll Cs, rfl, .inl row.at_, row.good, fun e he => ?_, lC, rowsAll_ne c ne b0 r1, fun L' p H2 pw mem le nt => ?_⟩
      · obtain ⟨y, hy, rfl⟩ := List.mem_map.mp he
        have := (rowsAll_good c y hy).2
        omega
      have S2 : Same H H2 := fun _ _ z => nt.same _ _ (e4 _ _ (s1 _ _ z))
      obtain ⟨lf, st, inn⟩ := join_code b0 c.all (by cases Cs with | nil => exact absurd rfl ne | cons x y => exact fun z => by cases z) pw (fun x => by
        rw [mem, mem_all]
        refine and_congr Iff.rfl ⟨fun h C hC => fun ⟨f, hf, ab⟩ => h f (mem_all.mpr ⟨C, hC, hf⟩) ab, fun h z hz ab => ?_⟩
        obtain ⟨C, hC, h2⟩ := mem_all.mp hz
        exact h C hC ⟨z, h2, ab⟩)
      have cR : CodeR b R M H2 p L' := mkCode lf st (by omega) nt
      refine ⟨_, rfl, _, _, rfl, .inr (rd_t cR.row.at_), _, _, rfl, rfl, _, rfl, ?_⟩
      refine iteFB (decide_eq_false (by rw [List.length_map]; omega)) ?_
      exact ⟨_, rfl, k L' p H2 cR inn le S2⟩
theorem scMetAll : FnScope ["base", "codes", "code", "prefix"] ["base", "codes"] (defScope sMetAll) := ⟨rfl, rfl, rfl, by decide +kernel, rfl, by decide +kernel, by decide +kernel⟩
theorem ok_metall {f fB fC fL C : Addr} {fd fdB fdC fdL : FuncData} (F : Fun K "met_all" "met_all" sMetAll f fd) (GB : FnOk P w K mg base (L2.CX P w) 4 fB fdB ["base"] (spReqB C 2 5)) (cB : Cal K mg "require_base" fB fdB ["base"])
    (GC : FnOk P w K mg base CX0 6 fC fdC ["base", "codes"] spReqCodes) (cC : Cal K mg "require_codes" fC fdC ["base", "codes"]) (GL : FnOk P w K mg base CX0 2 fL fdL ["prefixes"] spHighest) (cL : Cal K mg "highest" fL fdL ["prefixes"]) :
    FnOk P w K mg base CX0 7 f fd ["base", "codes"] spMetAll := by
  refine F.ok scMetAll (fun vs H Q E h => ?_) (fun cdv A outer s H vs Q E hr h => ?_)
  · obtain ⟨b, R, M, a, Cs, rfl, _⟩ := h
    rfl
  · obtain ⟨b, R, M, a, Cs, rfl, b2, b5, r1, r5, hM, c, ne, lC, k⟩ := h
    have nd := scMetAll.nd
    have hr4 := hr.mono (show 4 ≤ 6 by decide)
    have hr2 := hr.mono (show 2 ≤ 6 by decide)
    refine ⟨_, pss_cons (ps_expr (pe_call GB hr4 rfl cB.mg cB.kp cB.b .nil (passes_call takes0 (fun _ _ _ _ h => h)) (pa_cons (pv 0) pa_nil)))
      (pss_cons (ps_expr (pe_call GC hr rfl cC.mg cC.kp cC.b .nil pass0 (pa_cons (pv 0) (pa_cons (pv 1) pa_nil))))
      (pss_one (ps_ret (pe_call GL hr2 rfl cL.mg cL.kp cL.b .nil pass0 (pa_cons (pe_lc2 (own := [("code", 2), ("prefix", 3)]) (vs1 := [3]) (g := gName 2) (g1 := gName 3) (wi1 := iTup K (tVar 2)) rfl nd (pi_tup (pv 1))
          (blkOk_by (N := ["base", "codes", "code", "prefix"]) (sc := defScope sMetAll) (by decide +kernel)) (by decide) (fun _ _ _ _ _ => pg_name (i := 2) nd rfl (Or.inl rfl))
          (fun _ _ _ _ _ => pts_nil) (fun _ _ _ _ _ => pi_tup (pv 2)) (fun _ _ _ _ _ => pg_name (i := 3) nd rfl (Or.inl rfl)) (fun _ _ _ _ _ => pts_nil) (fun _ _ _ _ _ => pv 3)) pa_nil))))), ?_⟩
    have b0 : 0 < b := by omega
    refine ⟨_, rfl, _, _, rfl, .int _, fun _ => ?_, fun z => absurd z (by rw [within_b b2 b5]; decide)⟩
    refine ⟨_, rfl, _, rfl, b, R, M, a, Cs, rfl, b2, b5, r1, r5, hM, c, ne, fun H1 s1 => ?_⟩
    have c1 := c.same s1
    refine ⟨_, rfl, a, rfl, ⟨_, rd_t c1.at_⟩, fun D hD => ?_⟩
    refine lc2_it (walk_tup (xs := crefs Cs)) (fun i Hy => RowL Hy D (rowsAll (Cs.take i)) ∧ ∀ c o, H1 c = some o → Hy c = some o) ?_ ?_ ?_ ?_
    · exact ⟨⟨upd_same, fun e he => (by cases he)⟩, fun c o e => by rw [upd_ne (ne_of_none e hD)]; exact e⟩
    · rintro i Hy _ ⟨_, e4⟩
      exact rd_t (rd_same c1.at_ e4)
    · rintro i x Hy H' hi ⟨row, e4⟩ ⟨rfl, hx⟩
      obtain ⟨e, he, rfl⟩ := crow_at hx
      have em := List.mem_of_getElem? he
      have ce := (c1.ok e em).same e4
      have tk : rowsAll (Cs.take (i + 1)) = rowsAll (Cs.take i) ++ e.2 := by
        rw [List.take_add_one, he]
        show List.flatMap _ (_ ++ [e]) = _
        rw [List.flatMap_append, List.flatMap_singleton]
      have tot : rowsAll (Cs.take (i + 1)) ++ rowsAll (Cs.drop (i + 1)) = rowsAll Cs := by
        show List.flatMap _ _ ++ List.flatMap _ _ = _
        rw [← List.flatMap_append, List.take_append_drop]
      have tl := congrArg List.length tot
      rw [tk, List.length_append, List.length_append] at tl
      refine ⟨rfl, _, rfl, e.1, rfl, ⟨_, rd_t ce.row.at_⟩, ?_⟩
      refine lc2_in (walk_tup (xs := prefs e.2)) (fun j Hz => RowL Hz D (rowsAll (Cs.take i) ++ e.2.take j) ∧ ∀ c o, H1 c = some o → Hz c = some o) ?_ ?_ ?_ ?_
      · exact ⟨by rw [List.take_zero, List.append_nil]; exact row, e4⟩
      · rintro j Hz _ ⟨_, f4⟩
        exact rd_t (rd_same (c1.ok e em).row.at_ f4)
      · rintro j x Hz H2 hj ⟨row2, f4⟩ ⟨rfl, hx⟩
        obtain ⟨y, hy, rfl⟩ := row_at hx
        have ym := List.mem_of_getElem? hy
        have yj : j < e.2.length := (List.getElem?_eq_some_iff.mp hy).1
        have tj : e.2.take (j + 1) = e.2.take j ++ [y] := by
          rw [List.take_add_one, hy]
          rfl
        have gy := f4 _ _ ((c1.ok e em).good y ym)
        refine ⟨rfl, _, rfl, _, row2.at_, ?_, ⟨?_, fun z hz => ?_⟩, fun c o z => ?_⟩
        · rw [List.length_map, List.length_append, List.length_take]
          exact Nat.lt_of_lt_of_le (show (rowsAll (Cs.take i)).length + min j e.2.length < 6001 by omega) (by decide)
        · rw [upd_same, tj, ← List.append_assoc, prefs_app (M := [y])]
          rfl
        · rw [tj, ← List.append_assoc] at hz
          have gz : H2 z.1 = some (pfO z.2) := by
            rcases List.mem_append.mp hz with q | q
            · exact row2.good z q
            · rw [List.mem_singleton.mp q]
              exact gy
          rw [upd_ne (fun q => by rw [q, row2.at_] at gz; cases gz)]
          exact gz
        · rw [upd_ne (ne_of_none z hD)]
          exact f4 _ _ z
      · rintro Hz ⟨row2, f4⟩
        refine ⟨?_, f4⟩
        rw [tk, ← List.take_length (l := e.2), ← show (prefs e.2).length = e.2.length from List.length_map _]
        exact row2
    · rintro Hy ⟨row, e4⟩
      rw [show (crefs Cs).length = Cs.length from List.length_map _, List.take_length] at row
      have cy := c1.same e4
      refine ⟨D, rowsAll Cs, rfl, .inl row.at_, row.good, fun e he => ?_, lC, rowsAll_ne c ne b0 r1, fun L' p H2 pw mem le nt => ?_⟩
      · obtain ⟨y, hy, rfl⟩ := List.mem_map.mp he
        have := (rowsAll_good c y hy).2
        omega
      have S2 : Same H H2 := fun _ _ z => nt.same _ _ (e4 _ _ (s1 _ _ z))
      obtain ⟨lf, st, inn⟩ := meet_code b0 c.all (by cases Cs with | nil => exact absurd rfl ne | cons x y => exact fun z => by cases z) pw (fun x => by
        rw [mem, mem_all]
        refine and_congr Iff.rfl ⟨fun h C hC f hf ab => h f (mem_all.mpr ⟨C, hC, hf⟩) ab, fun h z hz ab => ?_⟩
        obtain ⟨C, hC, h2⟩ := mem_all.mp hz
        exact h C hC z h2 ab)
      have cR : CodeR b R M H2 p L' := mkCode lf st (by omega) nt
      exact k L' p H2 cR inn le S2
theorem scJoined : FnScope ["base", "codes"] ["base", "codes"] (defScope sJoined) := ⟨rfl, rfl, rfl, by decide +kernel, rfl, by decide +kernel, by decide +kernel⟩
theorem ok_joined {f fC : Addr} {fd fdC : FuncData} (F : Fun K "joined" "joined" sJoined f fd) (GC : FnOk P w K mg base CX0 7 fC fdC ["base", "codes"] spJoinedAll) (cC : Cal K mg "joined_all" fC fdC ["base", "codes"]) :
    FnR P w K mg base CX0 8 f spJoined := by
  obtain ⟨oc, od, kV, doc, pm, an, cdv, ct, osl, rfl, lk, hcd⟩ := F.ex
  refine StX.fn_star (ps := ["base"]) (pv := "codes") lk hcd scJoined StX.cxUp_none (StX.bind_star1 (B := fun us => bindArgs _ ⟨us, []⟩) (fun a => rfl) (fun a r rs => rfl)) fun A outer s H vs Q E hr h => ?_
  have hl : ∃ a b, vs = [a, b] := by
    obtain ⟨_, _, _, _, _, e, _⟩ := h
    exact ⟨_, _, e⟩
  obtain ⟨a, b, rfl⟩ := hl
  refine ⟨_, pss_one (ps_ret (pe_call GC hr rfl cC.mg cC.kp cC.b .nil pass0 (pa_cons (pv 0) (pa_cons (pv 1) pa_nil)))), ?_⟩
  exact ⟨_, rfl, _, rfl, h⟩
theorem scMet : FnScope ["base", "codes"] ["base", "codes"] (defScope sMet) := ⟨rfl, rfl, rfl, by decide +kernel, rfl, by decide +kernel, by decide +kernel⟩
theorem ok_met {f fC : Addr} {fd fdC : FuncData} (F : Fun K "met" "met" sMet f fd) (GC : FnOk P w K mg base CX0 7 fC fdC ["base", "codes"] spMetAll) (cC : Cal K mg "met_all" fC fdC ["base", "codes"]) :
    FnR P w K mg base CX0 8 f spMet := by
  obtain ⟨oc, od, kV, doc, pm, an, cdv, ct, osl, rfl, lk, hcd⟩ := F.ex
  refine StX.fn_star (ps := ["base"]) (pv := "codes") lk hcd scMet StX.cxUp_none (StX.bind_star1 (B := fun us => bindArgs _ ⟨us, []⟩) (fun a => rfl) (fun a r rs => rfl)) fun A outer s H vs Q E hr h => ?_
  have hl : ∃ a b, vs = [a, b] := by
    obtain ⟨_, _, _, _, _, e, _⟩ := h
    exact ⟨_, _, e⟩
  obtain ⟨a, b, rfl⟩ := hl
  refine ⟨_, pss_one (ps_ret (pe_call GC hr rfl cC.mg cC.kp cC.b .nil pass0 (pa_cons (pv 0) (pa_cons (pv 1) pa_nil)))), ?_⟩
  exact ⟨_, rfl, _, rfl, h⟩
end
end Vf


set_option Elab.async false
set_option maxRecDepth 100000
set_option maxHeartbeats 8000000
set_option exponentiation.threshold 3000
/-! refines; the law's own look; prefix_in. -/
namespace Vf
open PySem PySem.Spec PyProof.Rows L2 SX
theorem rows_eqv : ∀ {A B : List Pf}, PyData.eqvAll (A.map pfD) (B.map pfD) = decide (A = B)
  | [], [] => by rw [decide_eq_true rfl]; simp only [List.map_nil, PyData.eqvAll]
  | [], b :: B => by rw [decide_eq_false (by simp)]; simp only [List.map_nil, List.map_cons, PyData.eqvAll]
  | a :: A, [] => by rw [decide_eq_false (by simp)]; simp only [List.map_nil, List.map_cons, PyData.eqvAll]
  | a :: A, b :: B => by
    have z : PyData.eqvAll ((a :: A).map pfD) ((b :: B).map pfD) = (PyData.eqv (pfD a) (pfD b) && PyData.eqvAll (A.map pfD) (B.map pfD)) := by rw [List.map_cons, List.map_cons]; conv => lhs; unfold PyData.eqvAll
    rw [z, pfD_eqv, rows_eqv, Bool.eq_iff_iff, Bool.and_eq_true, decide_eq_true_iff, decide_eq_true_iff, decide_eq_true_iff, List.cons.injEq]
/-- rows that may differ -/
theorem eq_rowsG {K : PySem.W.Frag} {H : Hp} {p q : Addr} {A B : Pr} {Q : VK} (ha : Rd H p (.tup (prefs A))) (hb : Rd H q (.tup (prefs B))) (ga : ∀ e ∈ A, H e.1 = some (pfO e.2)) (gb : ∀ e ∈ B, H e.1 = some (pfO e.2))
    (c : ∀ e ∈ pfs A, Low e.2) (d : ∀ e ∈ pfs B, Low e.2) (k : Q (.bl (decide (pfs A = pfs B))) H) : rEqD K (.ref p) (.ref q) H Q := by
  refine ⟨_, _, .tup (rd_t ha) (rows_dp ga), .tup (rd_t hb) (rows_dp gb), (rows_shaped c).2, (rows_shaped d).2, ?_⟩
  have z : PyData.eqv (.tuple ((pfs A).map pfD)) (.tuple ((pfs B).map pfD)) = PyData.eqvAll ((pfs A).map pfD) ((pfs B).map pfD) := by conv => lhs; unfold PyData.eqv
  rw [z, rows_eqv]
  exact k
/-- a stream in normal form -/
structure Strm (b R : Nat) (H : Hp) (s : Addr) (r : Nat) (h q : List Nat) : Prop where
  at_ : H s = some (.tup [.int (r : Int), .str (S h), .str (S q)])
  r : r < R
  nf : ∃ f, Vm.Nf f h q
  hl : h.length ≤ 500
  ql : q.length ≤ 500
  wh : IsW (b : Int) h
  wq : IsW (b : Int) q
theorem Strm.same {b R : Nat} {H H' : Hp} {s : Addr} {r : Nat} {h q : List Nat} (t : Strm b R H s r h q) (k : Same H H') : Strm b R H' s r h q := ⟨k _ _ t.at_, t.r, t.nf, t.hl, t.ql, t.wh, t.wq⟩
theorem Strm.q0 {b R : Nat} {H : Hp} {s : Addr} {r : Nat} {h q : List Nat} (t : Strm b R H s r h q) : 0 < q.length := by
  obtain ⟨f, n⟩ := t.nf
  exact n.ne
def spFiner : Sp := fun vs H Q _ => ∃ (b R N : Nat) (a1 a2 : Addr) (A B : Pr), vs = [.ref a1, .ref a2] ∧ 2 ≤ b ∧ b ≤ 5 ∧ 1 ≤ R ∧ R ≤ 5000 ∧ N ≤ 1000 ∧ CodeR b R N H a1 A ∧ CodeR b R N H a2 B ∧ A.length + B.length < 1199 ∧ ∀ H', Same H H' → Q (.bl (finerB (pfs A) (pfs B))) H'
def spRefines : Sp := fun vs H Q _ => ∃ (b R N : Nat) (a1 a2 : Addr) (A B : Pr), vs = [.int (b : Int), .ref a1, .ref a2] ∧ 2 ≤ b ∧ b ≤ 5 ∧ 1 ≤ R ∧ R ≤ 5000 ∧ N ≤ 1000 ∧ CodeR b R N H a1 A ∧ CodeR b R N H a2 B ∧ A.length + B.length < 1199 ∧ ∀ H', Same H H' → Q (.bl (finerB (pfs A) (pfs B))) H'
def spPrefixIn : Sp := fun vs H Q _ => ∃ (b R N : Nat) (a s : Addr) (L : Pr) (r : Nat) (h q : List Nat), vs = [.int (b : Int), .ref a, .ref s] ∧ 2 ≤ b ∧ b ≤ 5 ∧ 1 ≤ R ∧ R ≤ 5000 ∧ N ≤ 1000 ∧ CodeR b R N H a L ∧ Strm b R H s r h q ∧
  ∀ (e : Addr × Pf) (H' : Hp), e ∈ L → undP r h q e.2 = true → (∀ f ∈ pfs L, undP r h q f = true → f = e.2) → Same H H' → Q (.ref e.1) H'
section
variable {P : Program} {w : World} {K : PySem.W.Frag} {mg : Str → Option Value} {base : Heap}
theorem scIsFiner : FnScope ["first", "second"] ["first", "second"] (defScope sIsFiner) := ⟨rfl, rfl, rfl, by decide +kernel, rfl, by decide +kernel, by decide +kernel⟩
theorem ok_isfiner {f fL : Addr} {fd fdL : FuncData} (F : Fun K "is_finer" "is_finer" sIsFiner f fd) (GL : FnOk P w K mg base CX0 2 fL fdL ["prefixes"] spLowest) (cL : Cal K mg "lowest" fL fdL ["prefixes"]) :
    FnOk P w K mg base CX0 3 f fd ["first", "second"] spFiner := by
  refine F.ok scIsFiner (fun vs H Q E h => ?_) (fun cdv A outer s H vs Q E hr h => ?_)
  · obtain ⟨b, R, M, a1, a2, A, B, rfl, _⟩ := h
    rfl
  · obtain ⟨b, R, M, a1, a2, A1, B, rfl, b2, b5, r1, r5, hM, c1, c2, ll, k⟩ := h
    have hun : A.units + 3 + 64 < cLine := hr.units
    refine ⟨_, pss_one (ps_ret (pe_cmpR (op_eqD hun) (pe_call GL hr rfl cL.mg cL.kp cL.b .nil pass0 (pa_cons (pe_op op_catF (pv 0) (pv 1)) pa_nil)) (pv 0) (nomark _))), ?_⟩
    have b0 : 0 < b := by omega
    have bnd : ∀ {x : Addr} {L : Pr}, CodeR b R M H x L → ∀ e ∈ pfs L, e.2.length ≤ 9000 := fun c e he => by
      have := (c.lf.ok e he).le
      omega
    refine ⟨_, rfl, _, rfl, catF_s c1.row.at_ c2.row.at_ ?_ (fun _ => c2.fz) (fun _ => c1.fz) fun p J s1 f1 => ?_⟩
    · rw [List.length_map, List.length_map]
      exact Nat.le_trans (show A1.length + B.length ≤ 6000 by omega) (by decide)
    have ne : A1 ++ B ≠ [] := fun z => by
      obtain ⟨L0, x, e, _⟩ := c1.cut b0 r1
      rw [e] at z
      simp at z
    refine ⟨p, A1 ++ B, rfl, .inr (by rw [prefs_app]; exact f1.rd), fun e he => ?_, fun e he => ?_, by rw [List.length_append]; exact ll, ne, fun L' p2 H2 pw mem le nt => ?_⟩
    · rcases List.mem_append.mp he with z | z
      · exact s1 _ _ (c1.good e z)
      · exact s1 _ _ (c2.good e z)
    · rw [pfs_app] at he
      rcases List.mem_append.mp he with z | z
      · exact bnd c1 e z
      · exact bnd c2 e z
    have S2 : Same H H2 := fun _ _ z => nt.same _ _ (s1 _ _ z)
    have allC : AllC b M R [pfs A1, pfs B] := fun C hC => by
      rcases List.mem_cons.mp hC with z | z
      · rw [z]
        exact ⟨c1.lf, c1.st⟩
      · rw [List.mem_singleton.mp z]
        exact ⟨c2.lf, c2.st⟩
    have memA : ∀ x, (∃ C ∈ [pfs A1, pfs B], x ∈ C) ↔ x ∈ pfs (A1 ++ B) := fun x => by
      rw [pfs_app, List.mem_append]
      constructor
      · rintro ⟨C, hC, h⟩
        rcases List.mem_cons.mp hC with z | z
        · exact .inl (z ▸ h)
        · exact .inr (List.mem_singleton.mp z ▸ h)
      · rintro (h | h)
        · exact ⟨_, List.mem_cons_self, h⟩
        · exact ⟨_, List.mem_cons_of_mem _ (List.mem_singleton.mpr rfl), h⟩
    obtain ⟨lf, st, inn⟩ := join_code b0 allC (by simp) pw (fun x => by
      rw [mem, memA]
      refine and_congr Iff.rfl ⟨fun h C hC => fun ⟨f, hf, ab⟩ => h f ((memA f).mp ⟨C, hC, hf⟩) ab, fun h z hz ab => ?_⟩
      obtain ⟨C, hC, h2⟩ := (memA z).mpr hz
      exact h C hC ⟨z, h2, ab⟩)
    have fj := finer_join b0 c1.lf c1.st c2.lf c2.st lf st fun x => by
      rw [inn]
      constructor
      · rintro ⟨C, hC, h⟩
        rcases List.mem_cons.mp hC with z | z
        · exact .inl (z ▸ h)
        · exact .inr (List.mem_singleton.mp z ▸ h)
      · rintro (h | h)
        · exact ⟨_, List.mem_cons_self, h⟩
        · exact ⟨_, List.mem_cons_of_mem _ (List.mem_singleton.mpr rfl), h⟩
    refine ⟨_, rfl, eq_rowsG nt.at_.rd (c1.same S2).row.at_ nt.good (c1.same S2).good (fun e he c hc => ?_) (c1.low b5) ?_⟩
    · have := (lf.ok e he).dg c hc
      omega
    · rw [fj]
      exact k H2 S2
theorem scRefines : FnScope ["base", "first", "second"] ["base", "first", "second"] (defScope sRefines) := ⟨rfl, rfl, rfl, by decide +kernel, rfl, by decide +kernel, by decide +kernel⟩
theorem ok_refines {f fB fC fF C : Addr} {fd fdB fdC fdF : FuncData} (F : Fun K "refines" "refines" sRefines f fd) (GB : FnOk P w K mg base (L2.CX P w) 4 fB fdB ["base"] (spReqB C 2 5)) (cB : Cal K mg "require_base" fB fdB ["base"])
    (GC : FnOk P w K mg base CX0 6 fC fdC ["base", "codes"] spReqCodes) (cC : Cal K mg "require_codes" fC fdC ["base", "codes"]) (GF : FnOk P w K mg base CX0 3 fF fdF ["first", "second"] spFiner) (cF : Cal K mg "is_finer" fF fdF ["first", "second"]) :
    FnOk P w K mg base CX0 7 f fd ["base", "first", "second"] spRefines := by
  refine F.ok scRefines (fun vs H Q E h => ?_) (fun cdv A outer s H vs Q E hr h => ?_)
  · obtain ⟨b, R, M, a1, a2, A, B, rfl, _⟩ := h
    rfl
  · obtain ⟨b, R, M, a1, a2, A1, B, rfl, b2, b5, r1, r5, hM, c1, c2, ll, k⟩ := h
    have hr4 := hr.mono (show 4 ≤ 6 by decide)
    have hr3 := hr.mono (show 3 ≤ 6 by decide)
    refine ⟨_, pss_cons (ps_expr (pe_call GB hr4 rfl cB.mg cB.kp cB.b .nil (passes_call takes0 (fun _ _ _ _ h => h)) (pa_cons (pv 0) pa_nil)))
      (pss_cons (ps_expr (pe_call GC hr rfl cC.mg cC.kp cC.b .nil pass0 (pa_cons (pv 0) (pa_cons (pe_tup (pa_cons (pv 1) (pa_cons (pv 2) pa_nil))) pa_nil))))
      (pss_one (ps_ret (pe_call GF hr3 rfl cF.mg cF.kp cF.b .nil pass0 (pa_cons (pv 1) (pa_cons (pv 2) pa_nil)))))), ?_⟩
    refine ⟨_, rfl, _, _, rfl, .int _, fun _ => ?_, fun z => absurd z (by rw [within_b b2 b5]; decide)⟩
    refine ⟨_, rfl, _, rfl, _, rfl, by show 2 ≤ sizeLine; decide, fun p np => ?_⟩
    have s1 : Same H (upd H p (.tup [.ref a1, .ref a2])) := same_new' np
    have g1 : upd H p (.tup [.ref a1, .ref a2]) p = some (.tup (crefs [(a1, A1), (a2, B)])) := upd_same
    generalize upd H p (.tup [.ref a1, .ref a2]) = H1 at s1 g1 ⊢
    refine ⟨b, R, M, p, [(a1, A1), (a2, B)], rfl, b2, b5, r1, r5, hM, ⟨.inl g1, fun c hc => ?_⟩, by simp, fun H2 s2 => ?_⟩
    · rcases List.mem_cons.mp hc with z | z
      · rw [z]
        exact c1.same s1
      · rw [List.mem_singleton.mp z]
        exact c2.same s1
    have S2 : Same H H2 := fun _ _ z => s2 _ _ (s1 _ _ z)
    exact ⟨_, rfl, _, rfl, b, R, M, a1, a2, A1, B, rfl, b2, b5, r1, r5, hM, c1.same S2, c2.same S2, ll, fun H3 s3 => k H3 fun _ _ z => s3 _ _ (S2 _ _ z)⟩
/-- the scope of the outer comprehension -/
def lrScope : Scope := { kind := ScopeKind.function, names := [(Str.ofString ".0", NameKind.local), (Str.ofString "one", NameKind.cell), (Str.ofString "second", NameKind.cell)], isGenerator := false, isCoroutine := false, more := [] }
theorem scLRefines : FnScope ["first", "second", "one", "other"] ["first", "second"] (defScope sLRefines) := ⟨rfl, rfl, rfl, by decide +kernel, rfl, by decide +kernel, by decide +kernel⟩
theorem ok_lrefines {f fA : Addr} {fd fdA : FuncData} (F : Fun K "_law_refines" "_law_refines" sLRefines f fd) (GA : FnOk P w K mg base CX0 1 fA fdA ["one", "other"] spAbv) (cA : Cal K mg "_law_is_above" fA fdA ["one", "other"]) :
    FnOk P w K mg base CX0 2 f fd ["first", "second"] spFiner := by
  refine F.ok scLRefines (fun vs H Q E h => ?_) (fun cdv A outer s H vs Q E hr h => ?_)
  · obtain ⟨b, R, M, a1, a2, A, B, rfl, _⟩ := h
    rfl
  · obtain ⟨b, R, M, a1, a2, A1, B, rfl, b2, b5, r1, r5, hM, c1, c2, ll, k⟩ := h
    have nd := scLRefines.nd
    have hun : A.units + 3 + 64 < cLine := hr.units
    have hun0 : A.units + 3 < cLine := by omega
    refine ⟨_, pss_one (ps_ret (pe_cmpR (VG.op_eqL0 hun0) (pe_lc (own := [("one", 2)]) (g := gName 2) rfl nd (pi_tup (pv 0)) (blkOk_by (N := ["first", "second", "one", "other"]) (sc := defScope sLRefines) (by decide +kernel))
        (fun _ _ _ _ _ => pg_name (i := 2) nd rfl (.inr rfl))
        (fun _ _ _ _ _ => pts_one (pt_cmpR (show OpR _ _ (VG.rEqL0 K) from VG.op_eqL0 hun0) (pe_lc (own := [("other", 3)]) (wi := iTup K (tVar 1)) (g := gName 3) rfl nd (pi_tup (pv 1)) (blkOk_by (N := ["first", "second", "one", "other"]) (sc := lrScope) (by decide +kernel))
          (fun _ _ _ _ _ => pg_name (i := 3) nd rfl (.inl rfl)) (fun _ _ _ _ _ => pts_one (pt_val (pe_call GA hr rfl cA.mg cA.kp cA.b .nil pass0 (pa_cons (pv 3) (pa_cons (pv 2) pa_nil))))) (fun _ _ _ _ _ => pe_int)) (pe_lst pa_nil) (nomark _)))
        (fun _ _ _ _ _ => pe_int)) (pe_lst pa_nil) (nomark _))), ?_⟩
    have bnd : ∀ {x : Addr} {L : Pr}, CodeR b R M H x L → ∀ e ∈ L, e.2.2.length ≤ 9000 := fun c e he => by
      have := (c.lf.ok e.2 (List.mem_map.mpr ⟨e, he, rfl⟩)).le
      omega
    refine ⟨_, rfl, a1, rfl, ⟨_, rd_t c1.row.at_⟩, fun D hD => ?_⟩
    refine lc_tup (xs := prefs A1) (fun i Hy => ∃ m : Nat, Hy D = some (.lst (List.replicate m (V.int 1))) ∧ m ≤ i ∧ (m = 0 ↔ ∀ y ∈ (pfs A1).take i, (pfs B).any (fun e => isUp e y) = true) ∧ ∀ z o, H z = some o → Hy z = some o) ?_ ?_ ?_ ?_
    · exact ⟨0, upd_same, Nat.le_refl _, ⟨fun _ y hy => (by rw [List.take_zero] at hy; cases hy), fun _ => rfl⟩, fun z o q => by rw [upd_ne (ne_of_none q hD)]; exact q⟩
    · rintro i Hy _ ⟨m, _, _, _, f4⟩
      exact rd_t (rd_same c1.row.at_ f4)
    · rintro i x Hy hx ⟨m, f1, f2, f3, f4⟩
      obtain ⟨y, hy, rfl⟩ := row_at hx
      have ym := List.mem_of_getElem? hy
      have yi : i < A1.length := (List.getElem?_eq_some_iff.mp hy).1
      have tk : (pfs A1).take (i + 1) = (pfs A1).take i ++ [y.2] := by
        rw [List.take_add_one, List.getElem?_map, hy]
        rfl
      refine ⟨rfl, ?_⟩
      refine ⟨_, rfl, a2, rfl, ⟨_, rd_t (rd_same c2.row.at_ f4)⟩, fun D2 hD2 => ?_⟩
      refine lc_tup (xs := prefs B) (fun j Hz => ∃ m2 : Nat, Hz D2 = some (.lst (List.replicate m2 (V.int 1))) ∧ m2 ≤ j ∧ (m2 = 0 ↔ ∀ e ∈ (pfs B).take j, isUp e y.2 = false) ∧ ∀ z o, Hy z = some o → Hz z = some o) ?_ ?_ ?_ ?_
      · exact ⟨0, upd_same, Nat.le_refl _, ⟨fun _ y hy => (by rw [List.take_zero] at hy; cases hy), fun _ => rfl⟩, fun z o q => by rw [upd_ne (ne_of_none q hD2)]; exact q⟩
      · rintro j Hz _ ⟨m2, _, _, _, g4⟩
        exact rd_t (rd_same c2.row.at_ fun _ _ z => g4 _ _ (f4 _ _ z))
      · rintro j x Hz hx ⟨m2, g1, g2, g3, g4⟩
        obtain ⟨e, he, rfl⟩ := row_at hx
        have em := List.mem_of_getElem? he
        have ej : j < B.length := (List.getElem?_eq_some_iff.mp he).1
        have tj : (pfs B).take (j + 1) = (pfs B).take j ++ [e.2] := by
          rw [List.take_add_one, List.getElem?_map, he]
          rfl
        refine ⟨rfl, ?_⟩
        refine ⟨_, rfl, _, rfl, e.1, y.1, e.2, y.2, rfl, g4 _ _ (f4 _ _ (c2.good e em)), g4 _ _ (f4 _ _ (c1.good y ym)), bnd c2 e em, bnd c1 y ym, _, rfl, ?_⟩
        by_cases c : isUp e.2 y.2 = true
        · refine iteTB c ?_
          refine ⟨_, g1, ?_, m2 + 1, ?_, by omega, ⟨fun z => absurd z (Nat.succ_ne_zero m2), fun z => ?_⟩, fun z o w => ?_⟩
          · rw [List.length_replicate]
            exact Nat.lt_of_lt_of_le (show m2 < 6000 by omega) (by decide)
          · rw [upd_same, List.replicate_succ']
          · have q := z e.2 (by rw [tj]; exact List.mem_append_right _ (List.mem_singleton.mpr rfl))
            rw [c] at q
            cases q
          · rw [upd_ne (ne_of_none w hD2)]
            exact g4 _ _ w
        · rw [Bool.not_eq_true] at c
          refine iteFB c ?_
          refine ⟨m2, g1, by omega, ⟨fun z w hw => ?_, fun z => g3.mpr fun w hw => z w (by rw [tj]; exact List.mem_append_left _ hw)⟩, g4⟩
          rw [tj] at hw
          rcases List.mem_append.mp hw with v | v
          · exact g3.mp z w v
          · rw [List.mem_singleton.mp v]
            exact c
      · rintro Hz ⟨m2, g1, g2, g3, g4⟩
        rw [show (prefs B).length = (pfs B).length by rw [List.length_map, List.length_map], List.take_length] at g3
        refine ⟨by show 0 ≤ sizeLine; decide, fun l nl => ?_⟩
        have s8 : Same Hz (upd Hz l (.lst [])) := same_new' nl
        have g8 : upd Hz l (.lst []) l = some (.lst []) := upd_same
        generalize upd Hz l (.lst []) = H8 at s8 g8 ⊢
        have S8 : Same Hy H8 := fun _ _ z => s8 _ _ (g4 _ _ z)
        have any : (m2 = 0) ↔ (pfs B).any (fun e => isUp e y.2) = false := by
          rw [g3, List.any_eq_false]
          exact forall_congr' fun e => forall_congr' fun _ => by rw [Bool.not_eq_true]
        refine ⟨D2, l, _, rfl, rfl, SqL.of (s8 _ _ g1), SqL.of g8, _, rfl, ?_⟩
        by_cases c : m2 = 0
        · refine iteTB (by rw [c]; rfl) ?_
          have no := any.mp c
          refine ⟨_, S8 _ _ f1, ?_, m + 1, ?_, by omega, ⟨fun z => absurd z (Nat.succ_ne_zero m), fun z => ?_⟩, fun z o w => ?_⟩
          · rw [List.length_replicate]
            exact Nat.lt_of_lt_of_le (show m < 6000 by omega) (by decide)
          · rw [upd_same, List.replicate_succ']
          · have q := z y.2 (by rw [tk]; exact List.mem_append_right _ (List.mem_singleton.mpr rfl))
            rw [no] at q
            cases q
          · rw [upd_ne (ne_of_none w hD)]
            exact S8 _ _ (f4 _ _ w)
        · refine iteFB (decide_eq_false fun z => c (by have := congrArg List.length z; rw [List.length_replicate] at this; exact this)) ?_
          have yes : (pfs B).any (fun e => isUp e y.2) = true := by
            cases q : (pfs B).any (fun e => isUp e y.2) with
            | true => rfl
            | false => exact absurd (any.mpr q) c
          refine ⟨m, S8 _ _ f1, by omega, ⟨fun z w hw => ?_, fun z => f3.mpr fun w hw => z w (by rw [tk]; exact List.mem_append_left _ hw)⟩, fun z o w => S8 _ _ (f4 _ _ w)⟩
          rw [tk] at hw
          rcases List.mem_append.mp hw with v | v
          · exact f3.mp z w v
          · rw [List.mem_singleton.mp v]
            exact yes
    · rintro Hy ⟨m, f1, f2, f3, f4⟩
      rw [show (prefs A1).length = (pfs A1).length by rw [List.length_map, List.length_map], List.take_length] at f3
      refine ⟨by show 0 ≤ sizeLine; decide, fun l nl => ?_⟩
      have s8 : Same Hy (upd Hy l (.lst [])) := same_new' nl
      have g8 : upd Hy l (.lst []) l = some (.lst []) := upd_same
      generalize upd Hy l (.lst []) = H8 at s8 g8 ⊢
      refine ⟨D, l, _, rfl, rfl, SqL.of (s8 _ _ f1), SqL.of g8, ?_⟩
      have e : decide (List.replicate m (V.int 1) = []) = finerB (pfs A1) (pfs B) := by
        rw [Bool.eq_iff_iff, decide_eq_true_iff]
        unfold finerB
        rw [List.all_eq_true, ← f3]
        exact ⟨fun z => by have := congrArg List.length z; rw [List.length_replicate] at this; exact this, fun z => by rw [z]; rfl⟩
      rw [e]
      exact k H8 fun _ _ z => s8 _ _ (f4 _ _ z)
theorem scPrefixIn : FnScope ["base", "code", "stream", "prefix"] ["base", "code", "stream"] (defScope sPrefixIn) := ⟨rfl, rfl, rfl, by decide +kernel, rfl, by decide +kernel, by decide +kernel⟩
theorem ok_prefixin {f fB fC fR fS fU C CS : Addr} {fd fdB fdC fdR fdS fdU : FuncData} (F : Fun K "prefix_in" "prefix_in" sPrefixIn f fd) (GB : FnOk P w K mg base (L2.CX P w) 4 fB fdB ["base"] (spReqB C 2 5)) (cB : Cal K mg "require_base" fB fdB ["base"])
    (GC : FnOk P w K mg base CX0 5 fC fdC ["base", "code"] spReqCode) (cC : Cal K mg "require_code" fC fdC ["base", "code"]) (GR : FnOk P w K mg base CX0 1 fR fdR ["code"] spCodeRoots) (cR : Cal K mg "code_roots" fR fdR ["code"])
    (GS : FnOk P w K mg base (L2.CX P w) 4 fS fdS ["base", "roots", "stream"] (spReqStream CS)) (cS : Cal K mg "require_stream" fS fdS ["base", "roots", "stream"]) (GU : FnOk P w K mg base CX0 2 fU fdU ["stream", "prefix"] (spUnder K)) (cU : Cal K mg "is_under" fU fdU ["stream", "prefix"]) :
    FnOk P w K mg base CX0 6 f fd ["base", "code", "stream"] spPrefixIn := by
  refine F.ok scPrefixIn (fun vs H Q E h => ?_) (fun cdv A outer s H vs Q E hr h => ?_)
  · obtain ⟨b, R, M, a, t, L, r, h, q, rfl, _⟩ := h
    rfl
  · obtain ⟨b, R, M, a, t, L, r, h, q, rfl, b2, b5, r1, r5, hM, c, sm, k⟩ := h
    have nd := scPrefixIn.nd
    have hr4 := hr.mono (show 4 ≤ 5 by decide)
    have hr2 := hr.mono (show 2 ≤ 5 by decide)
    have hr1 := hr.mono (show 1 ≤ 5 by decide)
    refine ⟨_, pss_cons (ps_expr (pe_call GB hr4 rfl cB.mg cB.kp cB.b .nil (passes_call takes0 (fun _ _ _ _ h => h)) (pa_cons (pv 0) pa_nil)))
      (pss_cons (ps_expr (pe_call GC hr rfl cC.mg cC.kp cC.b .nil pass0 (pa_cons (pv 0) (pa_cons (pv 1) pa_nil))))
      (pss_cons (ps_expr (pe_call GS hr4 rfl cS.mg cS.kp cS.b .nil (passes_call takes0 (fun _ _ _ _ h => h)) (pa_cons (pv 0) (pa_cons (pe_call GR hr1 rfl cR.mg cR.kp cR.b .nil pass0 (pa_cons (pv 1) pa_nil)) (pa_cons (pv 2) pa_nil)))))
      (pss_one (ps_ret (pe_ix ix_list (pe_lc (own := [("prefix", 3)]) (g := gName 3) rfl nd (pi_tup (pv 1)) (blkOk_by (N := ["base", "code", "stream", "prefix"]) (sc := defScope sPrefixIn) (by decide +kernel))
        (fun _ _ _ _ _ => pg_name (i := 3) nd rfl (Or.inl rfl)) (fun _ _ _ _ _ => pts_one (pt_val (pe_call GU hr2 rfl cU.mg cU.kp cU.b .nil pass0 (pa_cons (pv 2) (pa_cons (pv 3) pa_nil))))) (fun _ _ _ _ _ => pv 3)) pe_int (fun _ _ => rfl)))))), ?_⟩
    have b0 : 0 < b := by omega
    obtain ⟨e0, m0, u0, un⟩ := one_under b0 c.lf c.st sm.r sm.wh sm.wq sm.q0
    have fil := filter_one (c.lf.nodup b0) m0 u0 un
    obtain ⟨nff, nf⟩ := sm.nf
    refine ⟨_, rfl, _, _, rfl, .int _, fun _ => ?_, fun z => absurd z (by rw [within_b b2 b5]; decide)⟩
    refine ⟨_, rfl, _, rfl, b, R, M, a, L, rfl, b2, b5, r1, r5, hM, c, fun H1 s1 => ?_⟩
    have c1 := c.same s1
    have t1 := sm.same s1
    obtain ⟨L0, x, v1, v2, v3⟩ := c1.tail b0 r1
    refine ⟨_, rfl, _, rfl, a, L0, x, rfl, v1, v2, _, rfl, b, (R : Int), .ref t, true, ?_, b2, b5, SF.right t1.at_ (by omega) (by have := t1.r; omega) nf (by have := t1.hl; omega) (by have := t1.ql; omega) t1.wh t1.wq, fun _ => ?_, fun z => (by cases z)⟩
    · show [V.int (b : Int), .int ((x.2.1 : Int) + 1), .ref t] = [V.int (b : Int), .int (R : Int), .ref t]
      rw [v3]
    refine ⟨_, rfl, a, rfl, ⟨_, rd_t c1.row.at_⟩, fun D hD => ?_⟩
    refine lc_tup (xs := prefs L) (fun i Hy => ∃ K3 : Pr, pfs K3 = ((pfs L).take i).filter (undP r h q) ∧ Hy D = some (.lst (prefs K3)) ∧ (∀ y ∈ K3, y ∈ L) ∧ K3.length ≤ i ∧ ∀ z o, H1 z = some o → Hy z = some o) ?_ ?_ ?_ ?_
    · exact ⟨[], rfl, upd_same, fun y hy => (by cases hy), Nat.le_refl _, fun z o w => by rw [upd_ne (ne_of_none w hD)]; exact w⟩
    · rintro i Hy _ ⟨K3, _, _, _, _, f4⟩
      exact rd_t (rd_same c1.row.at_ f4)
    · rintro i x Hy hx ⟨K3, f1, f2, f3, f5, f4⟩
      obtain ⟨y, hy, rfl⟩ := row_at hx
      have ym := List.mem_of_getElem? hy
      have yi : i < L.length := (List.getElem?_eq_some_iff.mp hy).1
      have hle := c.le
      have tk : ((pfs L).take (i + 1)).filter (undP r h q) = ((pfs L).take i).filter (undP r h q) ++ [y.2].filter (undP r h q) := by
        rw [List.take_add_one, List.getElem?_map, hy, List.filter_append]
        rfl
      refine ⟨rfl, ?_⟩
      refine ⟨_, rfl, _, rfl, t, y.1, (r : Int), (y.2.1 : Int), h, q, y.2.2, rfl, SqT.of (f4 _ _ t1.at_), SqT.of (f4 _ _ (c1.good y ym)), t1.q0, by have := t1.ql; omega, by have := t1.hl; omega, by have := (c.lf.ok y.2 (List.mem_map.mpr ⟨y, ym, rfl⟩)).le; omega, _, rfl, ?_⟩
      by_cases cu : undP r h q y.2 = true
      · refine iteTB cu ?_
        refine ⟨_, rfl, _, f2, ?_, K3 ++ [y], ?_, ?_, fun z hz => ?_, ?_, fun z o w => ?_⟩
        · rw [List.length_map]
          exact Nat.lt_of_lt_of_le (show K3.length < 6001 by omega) (by decide)
        · rw [pfs_app, f1, tk, List.filter_cons_of_pos cu]
          rfl
        · rw [upd_same, prefs_app]
          rfl
        · rcases List.mem_append.mp hz with v | v
          · exact f3 z v
          · rw [List.mem_singleton.mp v]
            exact ym
        · rw [List.length_append]
          show K3.length + 1 ≤ i + 1
          omega
        · rw [upd_ne (ne_of_none w hD)]
          exact f4 _ _ w
      · rw [Bool.not_eq_true] at cu
        refine iteFB cu ?_
        refine ⟨K3, ?_, f2, f3, by omega, f4⟩
        rw [f1, tk, List.filter_cons_of_neg (by rw [cu]; decide), List.filter_nil, List.append_nil]
    · rintro Hy ⟨K3, f1, f2, f3, f5, f4⟩
      rw [show (prefs L).length = (pfs L).length by rw [List.length_map, List.length_map], List.take_length, fil] at f1
      obtain ⟨y, rfl⟩ : ∃ y, K3 = [y] := by
        have z := congrArg List.length f1
        rw [List.length_map] at z
        exact List.length_eq_one_iff.mp z
      have ey : y.2 = e0 := (List.cons.inj f1).1
      refine ⟨D, _, _, _, rfl, rfl, SqL.of f2, (show atI (prefs [y]) ((0 : Nat) : Int) = some (V.ref y.1) from atI_nat rfl), ?_⟩
      exact k y Hy (f3 y (List.mem_singleton.mpr rfl)) (by rw [ey]; exact u0) (by rw [ey]; exact un) fun _ _ z => f4 _ _ (s1 _ _ z)
end
end Vf


set_option Elab.async false
set_option maxRecDepth 100000
set_option maxHeartbeats 8000000
set_option exponentiation.threshold 3000
/-! repr of codes; what the law's own ways give of codes. -/
namespace Vf
open PySem PySem.Spec PyProof.Rows L2 SX
abbrev codeD (C : List Pf) : PyData := .tuple (C.map pfD)
def codesT (Cs : List (List Pf)) : Str := (PyData.tuple (Cs.map codeD)).shown
structure SmlC (Cs : List (List Pf)) : Prop where
  e : ∀ C ∈ Cs, ∀ x ∈ C, x.1 ≤ 200 ∧ x.2.length ≤ 100 ∧ Low x.2
  n : ∀ C ∈ Cs, C.length ≤ 130
  k : Cs.length ≤ 5
theorem sml_fineG : ∀ {L : List Pf}, (∀ x ∈ L, x.1 ≤ 200 ∧ x.2.length ≤ 100 ∧ Low x.2) → VG.FineL (10 ^ 50) 1 (L.length * 103) (L.map pfD)
  | [], _ => VG.fineL_nil
  | e :: L, g => by
    obtain ⟨h1, h2, h3⟩ := g e List.mem_cons_self
    have f1 : VG.Fine (10 ^ 50) 0 0 (.int (e.1 : Int)) := VG.fine_int (by rw [Int.natAbs_natCast]; exact Nat.le_trans h1 (by decide))
    have f2 : VG.Fine (10 ^ 50) 0 100 (.str (S e.2)) := VG.fine_str (fun c hc => Nat.lt_trans (h3 c (by simpa using hc)) (by decide)) (by rw [S_len]; exact h2)
    have f3 : VG.Fine (10 ^ 50) 1 102 (pfD e) := (VG.fine_tup.mpr (VG.fineL_cons f1 (VG.fineL_cons f2 VG.fineL_nil (k := 0)))).up (Nat.le_refl _) (Nat.le_refl _) (by omega)
    refine (VG.fineL_cons f3 (sml_fineG fun x hx => g x (List.mem_cons_of_mem _ hx))).up (Nat.le_refl _) (Nat.le_refl _) ?_
    rw [List.length_cons, Nat.add_mul]
    omega
theorem cml_fine : ∀ {Cs : List (List Pf)}, (∀ C ∈ Cs, ∀ x ∈ C, x.1 ≤ 200 ∧ x.2.length ≤ 100 ∧ Low x.2) → (∀ C ∈ Cs, C.length ≤ 130) → VG.FineL (10 ^ 50) 2 (Cs.length * 13391) (Cs.map codeD)
  | [], _, _ => VG.fineL_nil
  | C :: Cs, g, h => by
    have f3 : VG.Fine (10 ^ 50) 2 13390 (codeD C) := (VG.fine_tup.mpr (sml_fineG (g C List.mem_cons_self))).up (Nat.le_refl _) (Nat.le_refl _) (by have := h C List.mem_cons_self; omega)
    refine (VG.fineL_cons f3 (cml_fine (fun x hx => g x (List.mem_cons_of_mem _ hx)) fun x hx => h x (List.mem_cons_of_mem _ hx))).up (Nat.le_refl _) (Nat.le_refl _) ?_
    rw [List.length_cons, Nat.add_mul]
    omega
theorem cml_show {Cs : List (List Pf)} (s : SmlC Cs) : (PyData.tuple (Cs.map codeD)).showable = true ∧ (PyData.tuple (Cs.map codeD)).shown.length ≤ sizeLine :=
  let z := (VG.fine_tup.mpr (cml_fine s.e s.n)).show (Nat.le_refl _) (by decide) (by have := s.k; omega)
  ⟨z.1, z.2.1⟩
theorem codes_nodict : ∀ {Cs : List (List Pf)}, PyData.hasDictAll (Cs.map codeD) = false
  | [] => rfl
  | C :: Cs => by
    show (PyData.hasDictAll (C.map pfD) || PyData.hasDictAll (Cs.map codeD)) = false
    rw [codes_nodict (Cs := Cs), rows_nodict (L := C)]
    rfl
theorem codes_depth : ∀ {Cs : List (List Pf)}, PyData.depthAll (Cs.map codeD) ≤ 2
  | [] => Nat.zero_le _
  | C :: Cs => by
    show max (PyData.depthAll (C.map pfD) + 1) (PyData.depthAll (Cs.map codeD)) ≤ 2
    have := rows_depth (L := C)
    exact Nat.max_le.mpr ⟨by omega, codes_depth⟩
theorem codes_dp {K : PySem.W.Frag} {H : Hp} : ∀ {Cs : Cd}, (∀ c ∈ Cs, Rd H c.1 (.tup (prefs c.2)) ∧ ∀ e ∈ c.2, H e.1 = some (pfO e.2)) → DpAll K H (crefs Cs) ((cfs Cs).map codeD)
  | [], _ => .nil
  | c :: Cs, g => .cons (.tup (rd_t (g c List.mem_cons_self).1) (rows_dp (g c List.mem_cons_self).2)) (codes_dp fun x hx => g x (List.mem_cons_of_mem _ hx))
section
variable {X : Cx}
def rReprC (K : PySem.W.Frag) : List V → Hp → VK → Prop := fun xs H Q => ∃ (p : Addr) (Cs : Cd), xs = [.ref p] ∧ Rd H p (.tup (crefs Cs)) ∧ (∀ c ∈ Cs, Rd H c.1 (.tup (prefs c.2)) ∧ ∀ e ∈ c.2, H e.1 = some (pfO e.2)) ∧ SmlC (cfs Cs) ∧ Q (.str (codesT (cfs Cs))) H
theorem call_reprC (gd : X.A.guards = some []) (hu : X.A.units + 64 < cLine) : CallR X (.builtin "repr") (rReprC X.K) := by
  intro pins s σ H xs us Q I r h
  obtain ⟨p, Cs, rfl, hp, g, sm, q⟩ := h
  obtain ⟨u, rfl, ru⟩ := vals1 r
  obtain rfl : u = Value.ref p := ru
  have fin : ∀ (h' : Heap) (t : Tok) (tk : Tok), (∀ b o, s.heap.get? b = some o → h'.get? b = some o) → EP X pins σ Q (.str (codesT (cfs Cs)) t) { s with heap := h', toks := tk } := fun h' t tk k => ⟨.str (codesT (cfs Cs)), H, I.kept (t' := tk) k, ⟨t, rfl⟩, q⟩
  obtain ⟨as, rd⟩ := Dp.reads I (.tuple ((cfs Cs).map codeD)) (.ref p) (.ref p) (.tup (rd_t hp) (codes_dp g)) rfl
  obtain ⟨h1, h2⟩ := cml_show sm
  refine repr_of_reads' rd h1 (PyData.noDict_hsm (by show PyData.hasDictAll _ = false; exact codes_nodict)) gd ?_ (fun _ _ e => e) (fun h' t tk k => fin h' t tk k) h2
  have := codes_depth (Cs := cfs Cs)
  show X.A.units + (PyData.depthAll ((cfs Cs).map codeD) + 1 + 1) < cLine
  omega
end
theorem bool_show (v : Bool) : (PyData.bool v).showable = true ∧ (PyData.bool v).shown.length ≤ sizeLine := by
  cases v <;> exact ⟨rfl, by decide +kernel⟩
theorem fm_lenC {q : Nat} : ∀ {M : List Pf}, (∀ e ∈ M, e.2.length ≤ q) → (M.flatMap preL).length ≤ M.length * q
  | [], _ => Nat.zero_le _
  | e :: M, h => by
    have ih := fm_lenC (M := M) fun x hx => h x (List.mem_cons_of_mem _ hx)
    have h2 := h e List.mem_cons_self
    have h3 : (preL e).length = e.2.length := by
      unfold preL
      rw [List.length_map, List.length_range]
    rw [List.flatMap_cons, List.length_append, List.length_cons, Nat.add_mul, h3]
    omega
theorem inn_len {b N R : Nat} (b2 : 2 ≤ b) {C : List Pf} (h : Leaf b N R C) (s : SrtP C) {I : List Pf} (nd : I.Nodup) (hI : ∀ x, x ∈ I ↔ Inn C x) : I.length ≤ C.length := by
  have z := (through (by omega) h.ok nd hI (h.byI (by omega) s nd hI).symm).2.2.1
  have : 1 * I.length ≤ (b - 1) * I.length := Nat.mul_le_mul_right _ (by omega)
  omega
theorem innC {b R N : Nat} {J : Hp} {q : Addr} {M : Pr} {Q : VK} {E : XK} (b2 : 2 ≤ b) (c : CodeR b R N J q M) (hN : N ≤ 20) (hM : M.length ≤ 130)
    (k : ∀ (I : Pr) (D : Addr) (J' : Hp), (pfs I).Pairwise Lt → (∀ x, x ∈ pfs I ↔ Inn (pfs M) x) → I.length ≤ M.length → Same J J' → RowL J' D I → J D = none → Q (.ref D) J') : spLInner [.ref q] J Q E := by
  have b0 : 0 < b := by omega
  obtain ⟨n1, m1⟩ := c.lf.nodes b0 c.st
  have l1 := inn_len b2 c.lf c.st (lt_nodup n1) m1
  rw [List.length_map] at l1
  refine ⟨q, M, (pfs M).flatMap nodesOf, rfl, c.row.at_, c.good, fun e he => by have := (c.lf.ok e he).le; omega, ?_, fun x hx => (m1 x).mpr hx, by omega, fun I D J' sI nI mI s' rowI n0 => ?_⟩
  · refine Nat.le_trans (fm_lenC (q := 20) fun e he => by have := (c.lf.ok e he).le; omega) ?_
    rw [List.length_map]
    omega
  · have l2 := inn_len b2 c.lf c.st nI mI
    rw [List.length_map, List.length_map] at l2
    exact k I D J' (srt_lt sI nI) mI l2 s' rowI n0
theorem byC {b R N : Nat} {J : Hp} {q : Addr} {I : Pr} {Q : VK} {E : XK} (b2 : 2 ≤ b) (b5 : b ≤ 5) (hR : R ≤ 100) (hN : N ≤ 1000) (nd : (pfs I).Nodup) (ok : ∀ x ∈ pfs I, PfOk b N R x ∧ x.2.length < N) (cl : ∀ x ∈ pfs I, ∀ y, Above y x → y ∈ pfs I) (row : RowL J q I) (lI : I.length ≤ 500)
    (k : ∀ (L : Pr) (p : Addr) (J' : Hp), CodeR b R N J' p L → (∀ x, Inn (pfs L) x ↔ x ∈ pfs I) → Same J J' → L.length = R + (b - 1) * I.length → Q (.ref p) J') : spByInner [.int (b : Int), .int (R : Int), .ref q] J Q E := by
  have b0 : 0 < b := by omega
  refine ⟨b, R, q, I, rfl, b2, b5, hR, row, lI, fun e he z hz => ?_, fun e he => ?_, fun L p J' sL pL nt => ?_⟩
  · have := (ok e he).1.dg z hz
    omega
  · have := (ok e he).1.le
    omega
  · obtain ⟨L0, l0, p0, e0⟩ := made b0 (pfs I).length rfl nd ok cl
    have pm := p0.trans pL.symm
    have lf : Leaf b N R (pfs L) := l0.perm pm
    have len : L.length = R + (b - 1) * I.length := by
      have z := pm.length_eq
      rw [e0, List.length_map, List.length_map] at z
      exact z.symm
    have big : (b - 1) * I.length ≤ 4 * 500 := Nat.mul_le_mul (by omega) lI
    exact k L p J' (mkCode lf sL (by omega) nt) (fun x => inn_made b0 cl pL x) nt.same len
theorem ne_code {K : PySem.W.Frag} {b R N : Nat} {J : Hp} {p q : Addr} {A B : Pr} {Q : VK} (b0 : 0 < b) (b5 : b ≤ 5) (ca : CodeR b R N J p A) (cb : CodeR b R N J q B) (e : ∀ x, Inn (pfs A) x ↔ Inn (pfs B) x) (k : Q (.bl false) J) : rNeD K (.ref p) (.ref q) J Q :=
  ne_rows ca.row.at_ cb.row.at_ ca.good cb.good (code_same b0 ca.lf ca.st cb.lf cb.st e) (ca.low b5) k
theorem two_of {Cs : Cd} (l2 : 2 ≤ Cs.length) : ∃ c0 c1 cl, c0 ∈ Cs ∧ c1 ∈ Cs ∧ cl ∈ Cs ∧ atI (crefs Cs) 0 = some (V.ref c0.1) ∧ atI (crefs Cs) 1 = some (V.ref c1.1) ∧ atI (crefs Cs) (-1) = some (V.ref cl.1) ∧ Cs.take 2 = [c0, c1] ∧ Cs[0]? = some c0 := by
  obtain ⟨c0, c1, Ct, rfl⟩ : ∃ c0 c1 Ct, Cs = c0 :: c1 :: Ct := by
    match Cs, l2 with
    | [_], h => exact absurd h (by show ¬ (2 ≤ 1); decide)
    | c0 :: c1 :: Ct, _ => exact ⟨c0, c1, Ct, rfl⟩
  have ne : c0 :: c1 :: Ct ≠ [] := fun z => by cases z
  refine ⟨c0, c1, (c0 :: c1 :: Ct).getLast ne, List.mem_cons_self, List.mem_cons_of_mem _ List.mem_cons_self, List.getLast_mem ne, (show atI (crefs (c0 :: c1 :: Ct)) ((0 : Nat) : Int) = _ from atI_nat rfl), (show atI (crefs (c0 :: c1 :: Ct)) ((1 : Nat) : Int) = _ from atI_nat rfl), ?_, rfl, rfl⟩
  have e : crefs (c0 :: c1 :: Ct) = crefs (c0 :: c1 :: Ct).dropLast ++ [V.ref ((c0 :: c1 :: Ct).getLast ne).1] := by
    conv => lhs; rw [← List.dropLast_concat_getLast ne]
    exact List.map_append
  rw [e]
  exact atI_last _ _
/-- how many nodes a union has -/
theorem union_len {b N R : Nat} (b2 : 2 ≤ b) : ∀ {Cs : List (List Pf)}, AllC b N R Cs → ∀ {U : List Pf}, U.Nodup → (∀ x ∈ U, ∃ C ∈ Cs, Inn C x) → U.length ≤ (Cs.map List.length).sum := fun {Cs} hC {U} nd h => by
  have z := Sq.nodup_len nd (B := Cs.flatMap fun C => C.flatMap nodesOf) fun x hx => by
    obtain ⟨C, hc, hi⟩ := h x hx
    exact List.mem_flatMap.mpr ⟨C, hc, ((hC C hc).1.nodes (by omega) (hC C hc).2).2 x |>.mpr hi⟩
  refine Nat.le_trans z ?_
  clear z h nd
  induction Cs with
  | nil => exact Nat.le_refl _
  | cons C Cs ih =>
    obtain ⟨n1, m1⟩ := (hC C List.mem_cons_self).1.nodes (by omega) (hC C List.mem_cons_self).2
    have l1 := inn_len b2 (hC C List.mem_cons_self).1 (hC C List.mem_cons_self).2 (lt_nodup n1) m1
    have i2 := ih fun x hx => hC x (List.mem_cons_of_mem _ hx)
    rw [List.flatMap_cons, List.length_append, List.map_cons, List.sum_cons]
    omega
theorem sum_rows : ∀ {Cs : Cd}, ((cfs Cs).map List.length).sum = (rowsAll Cs).length
  | [] => rfl
  | c :: Cs => by
    show (pfs c.2).length + ((cfs Cs).map List.length).sum = (c.2 ++ rowsAll Cs).length
    rw [sum_rows, List.length_append, List.length_map]
end Vf


set_option Elab.async false
set_option maxRecDepth 100000
set_option maxHeartbeats 16000000
set_option exponentiation.threshold 3000
/-! The law's look at joins and meets. -/
namespace Vf
open PySem PySem.Spec PyProof.Rows L2 SX
def spCodesRight : Sp := fun vs H Q _ => ∃ (b R N : Nat) (a : Addr) (Cs : Cd), vs = [.int (b : Int), .int (R : Int), .ref a] ∧ 2 ≤ b ∧ b ≤ 5 ∧ 1 ≤ R ∧ R ≤ 100 ∧ N ≤ 20 ∧ Codes b R N H a Cs ∧ 2 ≤ Cs.length ∧ Cs.length ≤ 5 ∧ (∀ c ∈ Cs, c.2.length ≤ 130) ∧ (rowsAll Cs).length ≤ 400 ∧
  ∀ H', Same H H' → Q (.bl true) H'
theorem RowL.same {H H' : Hp} {D : Addr} {L : Pr} (r : RowL H D L) (s : Same H H') : RowL H' D L := ⟨s _ _ r.at_, fun e he => s _ _ (r.good e he)⟩
theorem RowL.app {H : Hp} {D E : Addr} {L : Pr} {xs ys : List V} (r : RowL H E L) (n : E ≠ D) (hD : H D = some (.lst xs)) : RowL (upd H D (.lst ys)) E L :=
  ⟨by rw [upd_ne n]; exact r.at_, fun e he => by
    have g := r.good e he
    rw [upd_ne (fun w => by rw [w, hD] at g; cases g)]
    exact g⟩
/-- what the look knows of the inner nodes that it found -/
structure Inns (H : Hp) (D : Addr) (Cs Is : Cd) : Prop where
  len : Is.length ≤ Cs.length
  at_ : ∀ (j : Nat) (y : Addr × Pr), Is[j]? = some y → y.1 ≠ D ∧ RowL H y.1 y.2 ∧ (pfs y.2).Pairwise Lt ∧ y.2.length ≤ 130 ∧ ∃ x : Addr × Pr, Cs[j]? = some x ∧ ∀ z, z ∈ pfs y.2 ↔ Inn (pfs x.2) z
section
variable {P : Program} {w : World} {K : PySem.W.Frag} {mg : Str → Option Value} {base : Heap}
theorem scCodesRight : FnScope ["base", "wide", "codes", "code", "kept", "inners", "some", "both", "inner", "high", "low", "node"] ["base", "wide", "codes"] (defScope sCodesRight) := ⟨rfl, rfl, rfl, by decide +kernel, rfl, by decide +kernel, by decide +kernel⟩
theorem ok_codesright {f fI fB fJ fM fR fL fX fY : Addr} {fd fdI fdB fdJ fdM fdR fdL : FuncData} (F : Fun K "_law_codes_right" "_law_codes_right" sCodesRight f fd) (GI : FnOk P w K mg base CX0 1 fI fdI ["code"] spLInner) (cI : Cal K mg "_law_inner" fI fdI ["code"])
    (GB : FnOk P w K mg base CX0 3 fB fdB ["base", "wide", "inner"] spByInner) (cB : Cal K mg "_law_by_inner" fB fdB ["base", "wide", "inner"]) (GJ : FnOk P w K mg base CX0 7 fJ fdJ ["base", "codes"] spJoinedAll) (cJ : Cal K mg "joined_all" fJ fdJ ["base", "codes"])
    (GM : FnOk P w K mg base CX0 7 fM fdM ["base", "codes"] spMetAll) (cM : Cal K mg "met_all" fM fdM ["base", "codes"]) (GR : FnOk P w K mg base CX0 7 fR fdR ["base", "first", "second"] spRefines) (cR : Cal K mg "refines" fR fdR ["base", "first", "second"])
    (GL : FnOk P w K mg base CX0 2 fL fdL ["first", "second"] spFiner) (cL : Cal K mg "_law_refines" fL fdL ["first", "second"])
    (GX : FnR P w K mg base CX0 8 fX spJoined) (mX : mg "joined" = some (.ref fX)) (kX : PySem.W.keepIn K (.ref fX) = true) (GY : FnR P w K mg base CX0 8 fY spMet) (mY : mg "met" = some (.ref fY)) (kY : PySem.W.keepIn K (.ref fY) = true)
    (N : Nm mg) (rep : mg "repr" = none) (mse : mg "set" = none) (mso : mg "sorted" = none) : VG.FnG P w K mg base 9 f fd ["base", "wide", "codes"] spCodesRight := by
  refine VG.FnG.of F scCodesRight (fun vs H Q E h => ?_) (fun cdv A outer s H vs Q E gd hr _ _ h => ?_)
  · obtain ⟨b, R, M, a, Cs, rfl, _⟩ := h
    rfl
  · obtain ⟨b, R, M, a, Cs, rfl, b2, b5, r1, r5, hM, c, l2, l5, lc, la, k⟩ := h
    have nd := scCodesRight.nd
    have hr1 := hr.mono (show 1 ≤ 8 by decide)
    have hr2 := hr.mono (show 2 ≤ 8 by decide)
    have hr3 := hr.mono (show 3 ≤ 8 by decide)
    have hr7 := hr.mono (show 7 ≤ 8 by decide)
    have hun : A.units + 3 + 64 < cLine := hr.units
    have hunR : A.units + 3 + 10 < cLine := by omega
    have hun1 : A.units + 3 + 65 < cLine := by have := hr.un; show A.units + 3 + 65 < cLine; have h2 : A.units + 3 + 16 * 8 + 200 < cLine := this; omega
    refine ⟨_, pss_cons (ps_par (i := 4) (j := 5) rfl nd rfl rfl (by decide) rfl rfl (pa_cons (pe_callB (call_reprC gd hun) (by rfl) rep PyProof.Rows.boot_repr (pa_cons (pv 2) pa_nil))
          (pa_cons (pe_lc (own := [("code", 3)]) (g := gName 3) rfl nd (pi_tup (pv 2)) (blkOk_by (N := ["base", "wide", "codes", "code", "kept", "inners", "some", "both", "inner", "high", "low", "node"]) (sc := defScope sCodesRight) (by decide +kernel))
            (fun _ _ _ _ _ => pg_name (i := 3) nd rfl (Or.inl rfl)) (fun _ _ _ _ _ => pts_nil) (fun _ _ _ _ _ => pe_call GI hr1 rfl cI.mg cI.kp cI.b .nil pass0 (pa_cons (pv 3) pa_nil))) pa_nil)) rfl)
      (pss_cons (ps_par (i := 6) (j := 7) rfl nd rfl rfl (by decide) rfl rfl (pa_cons (pe_lst pa_nil) (pa_cons (pe_ix ix_list (pv 5) pe_int (fun _ _ => rfl)) pa_nil)) rfl)
      (pss_cons (ps_for PassesOwn.never rfl (pi_list (pv 5)) (pg_name (i := 8) nd rfl (.inr rfl))
        (pss_cons (ps_set (i := 6) nd rfl (.inl rfl) (pe_sset rfl hun (by rfl) mso (by rfl) mse (pe_op op_cat (pv 6) (pv 8))))
        (pss_one (ps_setLc (i := 7) (own := [("node", 11)]) (g := gName 11) rfl nd rfl rfl rfl (pi_list (pv 7)) (blkOk_by (N := ["base", "wide", "codes", "code", "kept", "inners", "some", "both", "inner", "high", "low", "node"]) (sc := defScope sCodesRight) (by decide +kernel))
          (fun _ _ _ _ _ => pg_name (i := 11) nd rfl (Or.inl rfl)) (fun _ _ _ _ _ => pts_one (pt_cmpR (show OpR _ _ (rInP K false) from op_inP hun1) (pv 11) (pv 8) (by rfl))) (fun _ _ _ _ _ => pv 11)))))
      (pss_cons (ps_par (i := 9) (j := 10) rfl nd rfl rfl (by decide) rfl rfl (pa_cons (pe_call GB hr3 rfl cB.mg cB.kp cB.b .nil pass0 (pa_cons (pv 0) (pa_cons (pv 1) (pa_cons (pv 6) pa_nil)))) (pa_cons (pe_call GB hr3 rfl cB.mg cB.kp cB.b .nil pass0 (pa_cons (pv 0) (pa_cons (pv 1) (pa_cons (pv 7) pa_nil)))) pa_nil)) rfl)
      (pss_cons (ps_if (PW.pt (pw_or (pt_cmpR (op_neD hun) (pe_call GJ hr7 rfl cJ.mg cJ.kp cJ.b .nil pass0 (pa_cons (pv 0) (pa_cons (pv 2) pa_nil))) (pv 9) (nomark _))
          (pw_or1 (pt_cmpR (op_neD hun) (pe_call GM hr7 rfl cM.mg cM.kp cM.b .nil pass0 (pa_cons (pv 0) (pa_cons (pv 2) pa_nil))) (pv 10) (nomark _))))) (pss_one (ps_ret pe_bl)) pss_nil)
      (pss_cons (ps_if (PW.pt (pw_or (pt_cmpR (op_neD hun) (pe_call GJ hr7 rfl cJ.mg cJ.kp cJ.b .nil pass0 (pa_cons (pv 0) (pa_cons (pe_op op_catF (VG.pe_revA (pv 2)) (pv 2)) pa_nil))) (pv 9) (nomark _))
          (pw_or1 (pt_cmpR (op_neD hun) (pe_call GM hr7 rfl cM.mg cM.kp cM.b .nil pass0 (pa_cons (pv 0) (pa_cons (pe_op op_catF (VG.pe_revA (pv 2)) (pv 2)) pa_nil))) (pv 10) (nomark _))))) (pss_one (ps_ret pe_bl)) pss_nil)
      (pss_cons (ps_if (pt_cmpR (op_neD hun) (pe_callR GX hr rfl mX kX pass0 (pa_cons (pv 0) (pa_cons (pe_ix ix_tup (pv 2) pe_int (fun _ _ => rfl)) (pa_cons (pe_ix ix_tup (pv 2) (pe_un un_neg pe_int) (fun _ _ => rfl)) (pa_cons (pe_ix ix_tup (pv 2) pe_int (fun _ _ => rfl)) pa_nil)))))
          (pe_call GJ hr7 rfl cJ.mg cJ.kp cJ.b .nil pass0 (pa_cons (pv 0) (pa_cons (pe_tup (pa_cons (pe_ix ix_tup (pv 2) pe_int (fun _ _ => rfl)) (pa_cons (pe_ix ix_tup (pv 2) (pe_un un_neg pe_int) (fun _ _ => rfl)) (pa_cons (pe_ix ix_tup (pv 2) pe_int (fun _ _ => rfl)) pa_nil)))) pa_nil))) (nomark _)) (pss_one (ps_ret pe_bl)) pss_nil)
      (pss_cons (ps_if (PW.pt (pw_or (pt_cmpR (op_neD hun) (pe_callR GY hr rfl mY kY pass0 (pa_cons (pv 0) (pa_cons (pe_ix ix_tup (pv 2) pe_int (fun _ _ => rfl)) (pa_cons (pe_ix ix_tup (pv 2) pe_int (fun _ _ => rfl)) pa_nil))))
            (pe_call GM hr7 rfl cM.mg cM.kp cM.b .nil pass0 (pa_cons (pv 0) (pa_cons (pe_slice sl_tupA (pv 2) po_none (po_some pe_int)) pa_nil))) (nomark _))
          (pw_or1 (pt_cmpR (op_neD hun) (pe_callR GY hr rfl mY kY pass0 (pa_cons (pv 0) (pa_cons (pe_ix ix_tup (pv 2) pe_int (fun _ _ => rfl)) pa_nil))) (pe_ix ix_tup (pv 2) pe_int (fun _ _ => rfl)) (nomark _))))) (pss_one (ps_ret pe_bl)) pss_nil)
      (pss_cons (ps_for PassesOwn.never rfl (pi_tup (pv 2)) (pg_name (i := 3) nd rfl (.inl rfl))
        (pss_cons (ps_if (PW.pt (pw_or (pt_cmpR op_notBl (pe_call GR hr7 rfl cR.mg cR.kp cR.b .nil pass0 (pa_cons (pv 0) (pa_cons (pv 9) (pa_cons (pv 3) pa_nil)))) pe_bl (nomark _))
            (pw_or1 (pt_cmpR op_notBl (pe_call GR hr7 rfl cR.mg cR.kp cR.b .nil pass0 (pa_cons (pv 0) (pa_cons (pv 3) (pa_cons (pv 10) pa_nil)))) pe_bl (nomark _))))) (pss_one (ps_ret pe_bl)) pss_nil)
        (pss_one (ps_if (pt_cmpR op_ne (pe_callB (VG.call_repr gd hunR) (by rfl) rep PyProof.Rows.boot_repr (pa_cons (pe_call GR hr7 rfl cR.mg cR.kp cR.b .nil pass0 (pa_cons (pv 0) (pa_cons (pv 3) (pa_cons (pe_ix ix_tup (pv 2) pe_int (fun _ _ => rfl)) pa_nil)))) pa_nil))
            (pe_callB (VG.call_repr gd hunR) (by rfl) rep PyProof.Rows.boot_repr (pa_cons (pe_call GL hr2 rfl cL.mg cL.kp cL.b .nil pass0 (pa_cons (pv 3) (pa_cons (pe_ix ix_tup (pv 2) pe_int (fun _ _ => rfl)) pa_nil))) pa_nil)) (nomark _)) (pss_one (ps_ret pe_bl)) pss_nil))))
      (pss_one (ps_ret (pe_cmpR op_eq (pe_callB (call_reprC gd hun) (by rfl) rep PyProof.Rows.boot_repr (pa_cons (pv 2) pa_nil)) (pv 4) (nomark _)))))))))))), ?_⟩
    have b0 : 0 < b := by omega
    obtain ⟨c0, c1, cl, m0, m1, ml, at0, at1, atl, t2, g0⟩ := two_of l2
    have sml : SmlC (cfs Cs) := ⟨fun C hC x hx => by
      obtain ⟨y, hy, rfl⟩ := List.mem_map.mp hC
      have o := (c.ok y hy).lf.ok x hx
      exact ⟨by have := o.r; omega, by have := o.le; omega, (c.ok y hy).low b5 x hx⟩, fun C hC => by
      obtain ⟨y, hy, rfl⟩ := List.mem_map.mp hC
      rw [List.length_map]
      exact lc y hy, by rw [List.length_map]; exact l5⟩
    have shows : ∀ {J : Hp}, Same H J → ∀ x ∈ Cs, Rd J x.1 (.tup (prefs x.2)) ∧ ∀ e ∈ x.2, J e.1 = some (pfO e.2) := fun s x hx => ⟨((c.ok x hx).same s).row.at_, ((c.ok x hx).same s).good⟩
    have all : AllC b M R (cfs Cs) := c.all
    have mem0 : pfs c0.2 ∈ cfs Cs := List.mem_map.mpr ⟨c0, m0, rfl⟩
    refine ⟨_, rfl, a, Cs, rfl, c.at_, shows (Same.refl H), sml, ?_⟩
    refine ⟨_, rfl, a, rfl, ⟨_, rd_t c.at_⟩, fun D hD => ?_⟩
    refine lc_tup (xs := crefs Cs) (fun i Hy => ∃ Is : Cd, Is.length = i ∧ Hy D = some (.lst (crefs Is)) ∧ Inns Hy D Cs Is ∧ ∀ z o, H z = some o → Hy z = some o) ?_ ?_ ?_ ?_
    · exact ⟨[], rfl, upd_same, ⟨Nat.zero_le _, fun j y hy => (by cases hy)⟩, fun z o q => by rw [upd_ne (ne_of_none q hD)]; exact q⟩
    · rintro i Hy _ ⟨Is, _, _, _, f4⟩
      exact rd_t (rd_same c.at_ f4)
    · rintro i x Hy hx ⟨Is, f0, f1, f2, f4⟩
      obtain ⟨y, hy, rfl⟩ := crow_at hx
      have ym := List.mem_of_getElem? hy
      have yi : i < Cs.length := (List.getElem?_eq_some_iff.mp hy).1
      refine ⟨rfl, ?_⟩
      refine ⟨_, rfl, ?_⟩
      try unfold tNil
      show spLInner [.ref y.1] Hy _ _
      refine innC b2 ((c.ok y ym).same f4) hM (lc y ym) fun I D2 J' pw mI lI s' rowI n0 => ?_
      have gD := s' _ _ f1
      have nD : D2 ≠ D := fun z => by rw [z, f1] at n0; cases n0
      refine ⟨_, gD, ?_, Is ++ [(D2, I)], by rw [List.length_append, f0]; rfl, ?_, ⟨?_, fun j z hz => ?_⟩, fun z o q => ?_⟩
      · rw [List.length_map, f0]
        exact Nat.lt_of_lt_of_le (show i < 6 by omega) (by decide)
      · rw [upd_same]
        show some (HO.lst (crefs Is ++ [V.ref D2])) = some (HO.lst (crefs (Is ++ [(D2, I)])))
        rw [show crefs (Is ++ [(D2, I)]) = crefs Is ++ [V.ref D2] from List.map_append]
      · rw [List.length_append, f0]
        exact yi
      · by_cases hj : j < Is.length
        · rw [List.getElem?_append_left hj] at hz
          obtain ⟨z1, z2, z3, z4, z5⟩ := f2.at_ j z hz
          exact ⟨z1, (z2.same s').app z1 gD, z3, z4, z5⟩
        · rw [List.getElem?_append_right (Nat.le_of_not_lt hj)] at hz
          have e0 : j - Is.length = 0 := by
            have := (List.getElem?_eq_some_iff.mp hz).1
            have l1 : ([(D2, I)] : Cd).length = 1 := rfl
            omega
          rw [e0] at hz
          have ez : z = (D2, I) := (Option.some.inj hz).symm
          subst ez
          have ej : j = i := by omega
          subst ej
          refine ⟨nD, rowI.app nD gD, pw, ?_, y, hy, mI⟩
          have := lc y ym
          show I.length ≤ 130
          omega
      · rw [upd_ne (ne_of_none q hD)]
        exact s' _ _ (f4 _ _ q)
    rintro H1 ⟨Is, f0, f1, f2, f4⟩
    rw [show (crefs Cs).length = Cs.length from List.length_map _] at f0
    refine ⟨_, _, rfl, ?_⟩
    refine ⟨by show 0 ≤ sizeLine; decide, fun D3 hD3 => ?_⟩
    have s2 : Same H1 (upd H1 D3 (.lst [])) := same_new' hD3
    have g2 : upd H1 D3 (.lst []) D3 = some (.lst (prefs [])) := upd_same
    generalize upd H1 D3 (.lst []) = H2 at s2 g2 ⊢
    obtain ⟨i0, hi0⟩ : ∃ i0, Is[0]? = some i0 := ⟨Is[0], List.getElem?_eq_getElem (by omega)⟩
    obtain ⟨_, rw0, pw0, ln0, x0, hx0, mi0⟩ := f2.at_ 0 i0 hi0
    rw [g0] at hx0
    obtain rfl := Option.some.inj hx0
    refine ⟨_, rfl, D, _, _, _, rfl, rfl, SqL.of (s2 _ _ f1), (show atI (crefs Is) ((0 : Nat) : Int) = some (V.ref i0.1) from atI_nat (by rw [List.getElem?_map, hi0]; rfl)), _, _, rfl, ?_⟩
    refine ⟨_, rfl, D, rfl, ⟨_, SqL.of (s2 _ _ f1)⟩, for_list (xs := crefs Is) (fun i σ Hx => ∃ (u3 u8 u11 : Option V) (Sm Bo : Pr) (pS pB : Addr), σ = [some (.int (b : Int)), some (.int (R : Int)), some (.ref a), u3, some (.str (codesT (cfs Cs))), some (.ref D), some (.ref pS), some (.ref pB), u8, none, none, u11] ∧
        RowL Hx pS Sm ∧ (pfs Sm).Pairwise Lt ∧ (∀ x, x ∈ pfs Sm ↔ ∃ C ∈ (cfs Cs).take i, Inn C x) ∧ RowL Hx pB Bo ∧ (pfs Bo).Pairwise Lt ∧ (∀ x, x ∈ pfs Bo ↔ Inn (pfs c0.2) x ∧ ∀ C ∈ (cfs Cs).take i, Inn C x) ∧ Bo.length ≤ 130 ∧ Same H1 Hx) ?_ ?_ ?_ ?_⟩
    · refine ⟨_, _, _, [], i0.2, D3, i0.1, rfl, ⟨g2, fun e he => (by cases he)⟩, List.Pairwise.nil, fun x => ⟨fun h => (by cases h), fun ⟨C, hC, _⟩ => (by rw [List.take_zero] at hC; cases hC)⟩, rw0.same s2, pw0, fun x => ?_, ln0, s2⟩
      rw [mi0]
      exact ⟨fun h => ⟨h, fun C hC => (by rw [List.take_zero] at hC; cases hC)⟩, fun h => h.1⟩
    · rintro i σ Hx _ ⟨u3, u8, u11, Sm, Bo, pS, pB, rfl, _, _, _, _, _, _, _, s3⟩
      exact SqL.of (s3 _ _ f1)
    · rintro i x σ Hx hx ⟨u3, u8, u11, Sm, Bo, pS, pB, rfl, rowS, pwS, mS, rowB, pwB, mB, lB, s3⟩
      obtain ⟨y, hy, rfl⟩ := crow_at hx
      obtain ⟨_, rwy, pwy, lny, z, hz, mz⟩ := f2.at_ i y hy
      have zm := List.mem_of_getElem? hz
      have tk : (cfs Cs).take (i + 1) = (cfs Cs).take i ++ [pfs z.2] := by
        rw [List.take_add_one, List.getElem?_map, hz]
        rfl
      have rwx := rwy.same s3
      have lS : Sm.length ≤ 400 := by
        have q := union_len b2 (Cs := cfs Cs) all (lt_nodup pwS) fun x hx => by
          obtain ⟨C, hC, h⟩ := (mS x).mp hx
          exact ⟨C, List.mem_of_mem_take hC, h⟩
        rw [sum_rows, List.length_map] at q
        omega
      refine ⟨_, rfl, _, rfl, pS, y.1, _, _, rfl, rfl, rowS.at_, rwx.at_, ?_, fun p np => ?_⟩
      · rw [List.length_map, List.length_map]
        exact Nat.le_trans (show Sm.length + y.2.length ≤ 6000 by omega) (by decide)
      have s4 : Same Hx (upd Hx p (.lst (prefs Sm ++ prefs y.2))) := same_new' np
      have g4 : upd Hx p (.lst (prefs Sm ++ prefs y.2)) p = some (.lst (prefs (Sm ++ y.2))) := by rw [upd_same, prefs_app]
      generalize upd Hx p (.lst (prefs Sm ++ prefs y.2)) = H4 at s4 g4 ⊢
      refine ⟨p, Sm ++ y.2, rfl, .inl (SqL.of g4), fun e he => ?_, by rw [List.length_append]; omega, fun U D5 H5 pwU mU _ s5 rowU n5 => ?_⟩
      · rcases List.mem_append.mp he with q | q
        · exact s4 _ _ (rowS.good e q)
        · exact s4 _ _ (rwx.good e q)
      have S5 : Same Hx H5 := fun _ _ q => s5 _ _ (s4 _ _ q)
      have rowB5 := rowB.same S5
      refine ⟨_, rfl, pB, rfl, ⟨_, SqL.of rowB5.at_⟩, fun D6 hD6 => ?_⟩
      refine lc_list (xs := prefs Bo) (fun j Hz => ∃ L3 : Pr, pfs L3 = ((pfs Bo).take j).filter (fun x => decide (x ∈ pfs y.2)) ∧ Hz D6 = some (.lst (prefs L3)) ∧ (∀ x ∈ L3, x ∈ Bo) ∧ L3.length ≤ j ∧ ∀ c o, H5 c = some o → Hz c = some o) ?_ ?_ ?_ ?_
      · exact ⟨[], rfl, upd_same, fun y hy => (by cases hy), Nat.le_refl _, fun c o z => by rw [upd_ne (ne_of_none z hD6)]; exact z⟩
      · rintro j Hz _ ⟨L3, _, _, _, _, w4⟩
        exact SqL.of (w4 _ _ rowB5.at_)
      · rintro j x Hz hx ⟨L3, w1, w2, w3, w5, w4⟩
        obtain ⟨e, he, rfl⟩ := row_at hx
        have em := List.mem_of_getElem? he
        have ej : j < Bo.length := (List.getElem?_eq_some_iff.mp he).1
        have tj : ((pfs Bo).take (j + 1)).filter (fun x => decide (x ∈ pfs y.2)) = ((pfs Bo).take j).filter (fun x => decide (x ∈ pfs y.2)) ++ [e.2].filter (fun x => decide (x ∈ pfs y.2)) := by
          rw [List.take_add_one, List.getElem?_map, he, List.filter_append]
          rfl
        have lowI : ∀ {C : List Pf}, C ∈ cfs Cs → ∀ x, Inn C x → Low x.2 := fun hC x hx c hc => by
          have := (inn_ok (all _ hC).1 hx).1.dg c hc
          omega
        have mz' : pfs z.2 ∈ cfs Cs := List.mem_map.mpr ⟨z, zm, rfl⟩
        refine ⟨rfl, ?_⟩
        refine ⟨_, rfl, _, rfl, e.1, y.1, e.2, y.2, rfl, rfl, w4 _ _ (rowB5.good e em), .inr (SqL.of (w4 _ _ (S5 _ _ rwx.at_))), fun x hx => w4 _ _ (S5 _ _ (rwx.good x hx)), lowI mem0 e.2 ((mB e.2).mp (List.mem_map.mpr ⟨e, em, rfl⟩)).1, fun x hx => lowI mz' x ((mz x).mp hx), _, rfl, ?_⟩
        rw [Bool.false_xor]
        by_cases q : e.2 ∈ pfs y.2
        · rw [decide_eq_true q]
          refine iteTB rfl ?_
          refine ⟨_, rfl, _, w2, ?_, L3 ++ [e], ?_, ?_, fun z hz => ?_, ?_, fun c o z => ?_⟩
          · rw [List.length_map]
            exact Nat.lt_of_lt_of_le (show L3.length < 6001 by omega) (by decide)
          · rw [pfs_app, w1, tj, List.filter_cons_of_pos (by simpa using q), List.filter_nil]
            rfl
          · rw [upd_same, prefs_app]
            rfl
          · rcases List.mem_append.mp hz with v | v
            · exact w3 z v
            · rw [List.mem_singleton.mp v]
              exact em
          · rw [List.length_append]
            show L3.length + 1 ≤ j + 1
            omega
          · rw [upd_ne (ne_of_none z hD6)]
            exact w4 _ _ z
        · rw [decide_eq_false q]
          refine iteF ?_
          refine ⟨L3, ?_, w2, w3, by omega, w4⟩
          rw [w1, tj, List.filter_cons_of_neg (by simpa using q), List.filter_nil, List.append_nil]
      · rintro Hz ⟨L3, w1, w2, w3, w5, w4⟩
        rw [show (prefs Bo).length = (pfs Bo).length by rw [List.length_map, List.length_map], List.take_length] at w1
        rw [show (prefs Bo).length = Bo.length from List.length_map _] at w5
        refine ⟨_, _, _, U, L3, D5, D6, rfl, rowU.same w4, pwU, fun x => ?_, ⟨w2, fun e he => w4 _ _ (rowB5.good e (w3 e he))⟩, by rw [w1]; exact pwB.sublist List.filter_sublist, fun x => ?_, by omega, fun _ _ q => w4 _ _ (S5 _ _ (s3 _ _ q))⟩
        · rw [mU, pfs_app, List.mem_append, mS, mz, tk]
          constructor
          · rintro (⟨C, hC, h⟩ | h)
            · exact ⟨C, List.mem_append_left _ hC, h⟩
            · exact ⟨_, List.mem_append_right _ (List.mem_singleton.mpr rfl), h⟩
          · rintro ⟨C, hC, h⟩
            rcases List.mem_append.mp hC with q | q
            · exact .inl ⟨C, q, h⟩
            · exact .inr (List.mem_singleton.mp q ▸ h)
        · rw [w1, List.mem_filter, decide_eq_true_iff, mB, mz, tk]
          constructor
          · rintro ⟨⟨h1, h2⟩, h3⟩
            refine ⟨h1, fun C hC => ?_⟩
            rcases List.mem_append.mp hC with q | q
            · exact h2 C q
            · exact List.mem_singleton.mp q ▸ h3
          · rintro ⟨h1, h2⟩
            exact ⟨⟨h1, fun C hC => h2 C (List.mem_append_left _ hC)⟩, h2 _ (List.mem_append_right _ (List.mem_singleton.mpr rfl))⟩
    rintro σ Hx ⟨u3, u8, u11, Sm, Bo, pS, pB, rfl, rowS, pwS, mS, rowB, pwB, mB, lB, s3⟩
    rw [show (crefs Is).length = (cfs Cs).length by rw [List.length_map, List.length_map, f0], List.take_length] at mS mB
    have mB' : ∀ x, x ∈ pfs Bo ↔ ∀ C ∈ cfs Cs, Inn C x := fun x => (mB x).trans ⟨fun h => h.2, fun h => ⟨h _ mem0, h⟩⟩
    have lS : Sm.length ≤ 400 := by
      have q := union_len b2 (Cs := cfs Cs) all (lt_nodup pwS) fun x hx => (mS x).mp hx
      rw [sum_rows, List.length_map] at q
      omega
    have S0x : Same H Hx := fun _ _ q => s3 _ _ (f4 _ _ q)
    refine ⟨_, rfl, _, rfl, _, rfl, ?_⟩
    try unfold tNil
    show spByInner [.int (b : Int), .int (R : Int), .ref pS] Hx _ _
    refine byC b2 b5 r5 (by omega) (N := M) (lt_nodup pwS) (fun x hx => ?_) (fun x hx y ab => ?_) rowS (by omega) fun Lh ph Ha ch ih sa lenh => ?_
    · obtain ⟨C, hC, h⟩ := (mS x).mp hx
      exact inn_ok (all C hC).1 h
    · obtain ⟨C, hC, h⟩ := (mS x).mp hx
      exact (mS y).mpr ⟨C, hC, inn_above h (.inr ab)⟩
    refine ⟨_, rfl, _, rfl, _, rfl, ?_⟩
    try unfold tNil
    show spByInner [.int (b : Int), .int (R : Int), .ref pB] Ha _ _
    refine byC b2 b5 r5 (by omega) (N := M) (lt_nodup pwB) (fun x hx => ?_) (fun x hx y ab => ?_) (rowB.same sa) (by omega) fun Ll pl Hb cl' il sb lenl => ?_
    · exact inn_ok (all _ mem0).1 ((mB' x).mp hx _ mem0)
    · exact (mB' y).mpr fun C hC => inn_above ((mB' x).mp hx C hC) (.inr ab)
    have ch' := ch.same sb
    have S0b : Same H Hb := fun _ _ q => sb _ _ (sa _ _ (S0x _ _ q))
    have ihC : ∀ x, Inn (pfs Lh) x ↔ ∃ C ∈ cfs Cs, Inn C x := fun x => (ih x).trans (mS x)
    have ilC : ∀ x, Inn (pfs Ll) x ↔ ∀ C ∈ cfs Cs, Inn C x := fun x => (il x).trans (mB' x)
    have ne : Cs ≠ [] := fun z => by rw [z] at l2; exact absurd l2 (by decide)
    refine ⟨_, _, rfl, ?_⟩
    -- joined_all, met_all
    refine ⟨_, rfl, _, rfl, b, R, M, a, Cs, rfl, b2, b5, r1, by omega, by omega, c.same S0b, ne, by omega, fun L1 p1 J1 k1 i1 _ t1 => ?_⟩
    refine ⟨_, rfl, ne_code b0 b5 k1 (ch'.same t1) (fun x => (i1 x).trans (ihC x).symm) ⟨_, rfl, ?_⟩⟩
    refine iteF ?_
    have T1 : Same H J1 := fun _ _ q => t1 _ _ (S0b _ _ q)
    refine ⟨_, rfl, _, rfl, b, R, M, a, Cs, rfl, b2, b5, r1, by omega, by omega, c.same T1, ne, by omega, fun L2 p2 J2 k2 i2 _ t2' => ?_⟩
    refine ⟨_, rfl, ne_code b0 b5 k2 ((cl'.same t1).same t2') (fun x => (i2 x).trans (ilC x).symm) ⟨_, rfl, ?_⟩⟩
    refine iteF ?_
    have T2 : Same H J2 := fun _ _ q => t2' _ _ (T1 _ _ q)
    have B2 : Same Hb J2 := fun _ _ q => t2' _ _ (t1 _ _ q)
    -- the same reversed and twice
    have memR : ∀ C, C ∈ cfs (Cs.reverse ++ Cs) ↔ C ∈ cfs Cs := fun C => by
      show C ∈ List.map _ _ ↔ _
      rw [List.map_append, List.mem_append, List.map_reverse, List.mem_reverse]
      exact ⟨fun h => h.elim id id, .inl⟩
    have lenR : (rowsAll (Cs.reverse ++ Cs)).length ≤ 800 := by
      have e1 : (rowsAll Cs.reverse).length = (rowsAll Cs).length := by
        rw [← sum_rows, ← sum_rows]
        exact ((List.reverse_perm Cs).map fun c => pfs c.2).map List.length |>.sum_nat
      show (List.flatMap _ _).length ≤ 800
      rw [List.flatMap_append, List.length_append]
      show (rowsAll Cs.reverse).length + (rowsAll Cs).length ≤ 800
      omega
    have neR : Cs.reverse ++ Cs ≠ [] := fun z => ne (List.append_eq_nil_iff.mp z).2
    have revC : ∀ {J J' : Hp} {r : Addr}, Same H J → Same J J' → Fz J' r ((crefs Cs).reverse ++ crefs Cs) → Codes b R M J' r (Cs.reverse ++ Cs) := fun {J J' r} h1 h2 h3 => by
      refine ⟨?_, fun x hx => (c.ok x ?_).same fun _ _ q => h2 _ _ (h1 _ _ q)⟩
      · have z := h3.rd
        rw [← List.map_reverse, ← List.map_append] at z
        exact z
      · rcases List.mem_append.mp hx with q | q
        · exact List.mem_reverse.mp q
        · exact q
    have szR : (crefs Cs).reverse.length + (crefs Cs).length ≤ sizeLine := by
      rw [List.length_reverse, List.length_map]
      exact Nat.le_trans (show Cs.length + Cs.length ≤ 6000 by omega) (by decide)
    have nz1 : (crefs Cs).reverse ≠ [] := fun z => ne (List.map_eq_nil_iff.mp (List.reverse_eq_nil_iff.mp z))
    have nz2 : crefs Cs ≠ [] := fun z => ne (List.map_eq_nil_iff.mp z)
    refine ⟨_, rfl, _, rfl, .inr ⟨a, _, rfl, rd_t (c.same T2).at_, fun q1 n1 => ?_⟩⟩
    have v1 : Same J2 (upd J2 q1 (.tup (crefs Cs).reverse)) := same_new' n1
    have w1 : upd J2 q1 (.tup (crefs Cs).reverse) q1 = some (.tup (crefs Cs).reverse) := upd_same
    generalize upd J2 q1 (.tup (crefs Cs).reverse) = J3 at v1 w1 ⊢
    refine ⟨_, rfl, catF_s (.inl w1) (rd_same (c.same T2).at_ v1) szR (fun z => absurd z nz1) (fun z => absurd z nz2) fun q2 J4 v2 w2 => ?_⟩
    have V4 : Same J2 J4 := fun _ _ q => v2 _ _ (v1 _ _ q)
    refine ⟨b, R, M, q2, Cs.reverse ++ Cs, rfl, b2, b5, r1, by omega, by omega, revC T2 V4 w2, neR, by omega, fun L3 p3 J5 k3 i3 _ t3 => ?_⟩
    have V5 : Same Hb J5 := fun _ _ q => t3 _ _ (V4 _ _ (B2 _ _ q))
    refine ⟨_, rfl, ne_code b0 b5 k3 (ch'.same V5) (fun x => (i3 x).trans (Iff.trans ⟨fun ⟨C, hC, h⟩ => ⟨C, (memR C).mp hC, h⟩, fun ⟨C, hC, h⟩ => ⟨C, (memR C).mpr hC, h⟩⟩ (ihC x).symm)) ⟨_, rfl, ?_⟩⟩
    refine iteF ?_
    have T5 : Same H J5 := fun _ _ q => V5 _ _ (S0b _ _ q)
    refine ⟨_, rfl, _, rfl, .inr ⟨a, _, rfl, rd_t (c.same T5).at_, fun q1 n1 => ?_⟩⟩
    have v3 : Same J5 (upd J5 q1 (.tup (crefs Cs).reverse)) := same_new' n1
    have w3 : upd J5 q1 (.tup (crefs Cs).reverse) q1 = some (.tup (crefs Cs).reverse) := upd_same
    generalize upd J5 q1 (.tup (crefs Cs).reverse) = J6 at v3 w3 ⊢
    refine ⟨_, rfl, catF_s (.inl w3) (rd_same (c.same T5).at_ v3) szR (fun z => absurd z nz1) (fun z => absurd z nz2) fun q4 J7 v4 w4 => ?_⟩
    have V7 : Same J5 J7 := fun _ _ q => v4 _ _ (v3 _ _ q)
    refine ⟨b, R, M, q4, Cs.reverse ++ Cs, rfl, b2, b5, r1, by omega, by omega, revC T5 V7 w4, neR, by omega, fun L4 p4 J8 k4 i4 _ t4 => ?_⟩
    have V8 : Same Hb J8 := fun _ _ q => t4 _ _ (V7 _ _ (V5 _ _ q))
    refine ⟨_, rfl, ne_code b0 b5 k4 (cl'.same V8) (fun x => (i4 x).trans (Iff.trans ⟨fun h C hC => h C ((memR C).mpr hC), fun h C hC => h C ((memR C).mp hC)⟩ (ilC x).symm)) ⟨_, rfl, ?_⟩⟩
    refine iteF ?_
    have T8 : Same H J8 := fun _ _ q => V8 _ _ (S0b _ _ q)
    -- joined of three
    have c8 := c.same T8
    have three : ∀ {J : Hp} {p : Addr}, Same H J → J p = some (.tup [.ref c0.1, .ref cl.1, .ref c1.1]) → Codes b R M J p [c0, cl, c1] := fun {J p} h1 h2 => ⟨.inl h2, fun x hx => by
      rcases List.mem_cons.mp hx with q | hx
      · rw [q]; exact (c.ok c0 m0).same h1
      rcases List.mem_cons.mp hx with q | hx
      · rw [q]; exact (c.ok cl ml).same h1
      · rw [List.mem_singleton.mp hx]; exact (c.ok c1 m1).same h1⟩
    have len3 : (rowsAll [c0, cl, c1]).length < 1199 := by
      have := lc c0 m0
      have := lc cl ml
      have := lc c1 m1
      show (c0.2 ++ (cl.2 ++ (c1.2 ++ []))).length < 1199
      rw [List.length_append, List.length_append, List.length_append]
      simp only [List.length_nil]
      omega
    refine ⟨_, rfl, _, rfl, a, _, _, _, rfl, rfl, rd_t c8.at_, at0, _, rfl, _, rfl, a, _, _, _, rfl, rfl, rd_t c8.at_, atl, _, rfl, a, _, _, _, rfl, rfl, rd_t c8.at_, at1, [.int (b : Int)], [.ref c0.1, .ref cl.1, .ref c1.1], rfl, rfl, by show 3 ≤ sizeLine; decide, fun p5 n5 => ?_⟩
    have v5 : Same J8 (upd J8 p5 (.tup [.ref c0.1, .ref cl.1, .ref c1.1])) := same_new' n5
    have w5 : upd J8 p5 (.tup [.ref c0.1, .ref cl.1, .ref c1.1]) p5 = some (.tup [.ref c0.1, .ref cl.1, .ref c1.1]) := upd_same
    generalize upd J8 p5 (.tup [.ref c0.1, .ref cl.1, .ref c1.1]) = J9 at v5 w5 ⊢
    have T9 : Same H J9 := fun _ _ q => v5 _ _ (T8 _ _ q)
    refine ⟨b, R, M, p5, [c0, cl, c1], rfl, b2, b5, r1, by omega, by omega, three T9 w5, (fun z => by cases z), len3, fun L5 p6 J10 k5 i5 _ t5 => ?_⟩
    have T10 : Same H J10 := fun _ _ q => t5 _ _ (T9 _ _ q)
    have c10 := c.same T10
    refine ⟨_, rfl, _, rfl, a, _, _, _, rfl, rfl, rd_t c10.at_, at0, _, rfl, _, rfl, a, _, _, _, rfl, rfl, rd_t c10.at_, atl, _, rfl, a, _, _, _, rfl, rfl, rd_t c10.at_, at1, by show 3 ≤ sizeLine; decide, fun p7 n7 => ?_⟩
    have v7 : Same J10 (upd J10 p7 (.tup [.ref c0.1, .ref cl.1, .ref c1.1])) := same_new' n7
    have w7 : upd J10 p7 (.tup [.ref c0.1, .ref cl.1, .ref c1.1]) p7 = some (.tup [.ref c0.1, .ref cl.1, .ref c1.1]) := upd_same
    generalize upd J10 p7 (.tup [.ref c0.1, .ref cl.1, .ref c1.1]) = J11 at v7 w7 ⊢
    have T11 : Same H J11 := fun _ _ q => v7 _ _ (T10 _ _ q)
    refine ⟨b, R, M, p7, [c0, cl, c1], rfl, b2, b5, r1, by omega, by omega, three T11 w7, (fun z => by cases z), len3, fun L6 p8 J12 k6 i6 _ t6 => ?_⟩
    refine ne_code b0 b5 (k5.same fun _ _ q => t6 _ _ (v7 _ _ q)) k6 (fun x => (i5 x).trans (i6 x).symm) ⟨_, rfl, ?_⟩
    refine iteF ?_
    have T12 : Same H J12 := fun _ _ q => t6 _ _ (T11 _ _ q)
    have V12 : Same Hb J12 := fun _ _ q => t6 _ _ (v7 _ _ (t5 _ _ (v5 _ _ (V8 _ _ q))))
    -- met of two and of one
    have c12 := c.same T12
    have two : ∀ {J : Hp} {p : Addr}, Same H J → Rd J p (.tup (crefs [c0, c1])) → Codes b R M J p [c0, c1] := fun {J p} h1 h2 => ⟨h2, fun x hx => by
      rcases List.mem_cons.mp hx with q | hx
      · rw [q]; exact (c.ok c0 m0).same h1
      · rw [List.mem_singleton.mp hx]; exact (c.ok c1 m1).same h1⟩
    have len2 : (rowsAll [c0, c1]).length < 1199 := by
      have := lc c0 m0
      have := lc c1 m1
      show (c0.2 ++ (c1.2 ++ [])).length < 1199
      rw [List.length_append, List.length_append]
      simp only [List.length_nil]
      omega
    refine ⟨_, rfl, _, rfl, a, _, _, _, rfl, rfl, rd_t c12.at_, at0, _, rfl, a, _, _, _, rfl, rfl, rd_t c12.at_, at1, [.int (b : Int)], [.ref c0.1, .ref c1.1], rfl, rfl, by show 2 ≤ sizeLine; decide, fun p9 n9 => ?_⟩
    have v9 : Same J12 (upd J12 p9 (.tup [.ref c0.1, .ref c1.1])) := same_new' n9
    have w9 : upd J12 p9 (.tup [.ref c0.1, .ref c1.1]) p9 = some (.tup (crefs [c0, c1])) := upd_same
    generalize upd J12 p9 (.tup [.ref c0.1, .ref c1.1]) = J13 at v9 w9 ⊢
    have T13 : Same H J13 := fun _ _ q => v9 _ _ (T12 _ _ q)
    refine ⟨b, R, M, p9, [c0, c1], rfl, b2, b5, r1, by omega, by omega, two T13 (.inl w9), (fun z => by cases z), len2, fun L7 p10 J14 k7 i7 _ t7 => ?_⟩
    have T14 : Same H J14 := fun _ _ q => t7 _ _ (T13 _ _ q)
    refine ⟨_, rfl, _, rfl, _, rfl, slA_s (c.same T14).at_ fun p11 J15 v11 w11 => ?_⟩
    have w11 : Rd J15 p11 (.tup (crefs [c0, c1])) := by
      rw [show (2 : Int) = ((2 : Nat) : Int) from rfl, VG.cutV_take (by rw [List.length_map]; exact l2), ← List.map_take, t2] at w11
      exact w11
    have T15 : Same H J15 := fun _ _ q => v11 _ _ (T14 _ _ q)
    refine ⟨b, R, M, p11, [c0, c1], rfl, b2, b5, r1, by omega, by omega, two T15 w11, (fun z => by cases z), len2, fun L8 p12 J16 k8 i8 _ t8 => ?_⟩
    refine ne_code b0 b5 (k7.same fun _ _ q => t8 _ _ (v11 _ _ q)) k8 (fun x => (i7 x).trans (i8 x).symm) ⟨_, rfl, ?_⟩
    refine iteF ?_
    have T16 : Same H J16 := fun _ _ q => t8 _ _ (T15 _ _ q)
    have c16 := c.same T16
    refine ⟨_, rfl, _, rfl, a, _, _, _, rfl, rfl, rd_t c16.at_, at0, [.int (b : Int)], [.ref c0.1], rfl, rfl, by show 1 ≤ sizeLine; decide, fun p13 n13 => ?_⟩
    have v13 : Same J16 (upd J16 p13 (.tup [.ref c0.1])) := same_new' n13
    have w13 : upd J16 p13 (.tup [.ref c0.1]) p13 = some (.tup (crefs [c0])) := upd_same
    generalize upd J16 p13 (.tup [.ref c0.1]) = J17 at v13 w13 ⊢
    have T17 : Same H J17 := fun _ _ q => v13 _ _ (T16 _ _ q)
    refine ⟨b, R, M, p13, [c0], rfl, b2, b5, r1, by omega, by omega, ⟨.inl w13, fun x hx => by rw [List.mem_singleton.mp hx]; exact (c.ok c0 m0).same T17⟩, (fun z => by cases z), ?_, fun L9 p14 J18 k9 i9 _ t9 => ?_⟩
    · have := lc c0 m0
      show (c0.2 ++ []).length < 1199
      rw [List.append_nil]
      omega
    have T18 : Same H J18 := fun _ _ q => t9 _ _ (T17 _ _ q)
    refine ⟨_, rfl, a, _, _, _, rfl, rfl, rd_t (c.same T18).at_, at0, ne_code b0 b5 k9 ((c.ok c0 m0).same T18) (fun x => (i9 x).trans ⟨fun h => h _ (List.mem_singleton.mpr rfl), fun h C hC => List.mem_singleton.mp hC ▸ h⟩) ⟨_, rfl, ?_⟩⟩
    refine iteF ?_
    have V18 : Same Hb J18 := fun _ _ q => t9 _ _ (v13 _ _ (t8 _ _ (v11 _ _ (t7 _ _ (v9 _ _ (V12 _ _ q))))))
    have lenh' : Lh.length ≤ 1005 := by
      have big : (b - 1) * Sm.length ≤ 4 * 400 := Nat.mul_le_mul (by omega) lS
      have le : Lh.length ≤ (rowsAll Cs).length := by
        have e := code_same b0 ch'.lf ch'.st (k1).lf k1.st fun x => (ihC x).trans (i1 x).symm
        have z := congrArg List.length e
        rw [List.length_map, List.length_map] at z
        omega
      omega
    have lenl' : Ll.length ≤ 620 := by
      have big : (b - 1) * Bo.length ≤ 4 * 130 := Nat.mul_le_mul (by omega) lB
      omega
    -- who refines whom
    refine ⟨_, rfl, a, rfl, ⟨_, rd_t (c.same T18).at_⟩, for_tup (xs := crefs Cs) (fun i σ Hx => ∃ (u3 u8 u11 : Option V), σ = [some (.int (b : Int)), some (.int (R : Int)), some (.ref a), u3, some (.str (codesT (cfs Cs))), some (.ref D), some (.ref pS), some (.ref pB), u8, some (.ref ph), some (.ref pl), u11] ∧ Same Hb Hx) ?_ ?_ ?_ ?_⟩
    · exact ⟨_, _, _, rfl, V18⟩
    · rintro i σ Hy _ ⟨u3, u8, u11, rfl, s5⟩
      exact rd_t ((c.same S0b).same s5).at_
    · rintro i x σ Hy hx ⟨u3, u8, u11, rfl, s5⟩
      obtain ⟨y, hy, rfl⟩ := crow_at hx
      have ym := List.mem_of_getElem? hy
      have yc : pfs y.2 ∈ cfs Cs := List.mem_map.mpr ⟨y, ym, rfl⟩
      have S5 : Same H Hy := fun _ _ q => s5 _ _ (S0b _ _ q)
      have ly := lc y ym
      have l0 := lc c0 m0
      have f1 : finerB (pfs Lh) (pfs y.2) = true := (refines_iff b0 ch.lf ch.st (c.ok y ym).lf (c.ok y ym).st).mp fun x hx => (ihC x).mpr ⟨_, yc, hx⟩
      have f2 : finerB (pfs y.2) (pfs Ll) = true := (refines_iff b0 (c.ok y ym).lf (c.ok y ym).st cl'.lf cl'.st).mp fun x hx => (ilC x).mp hx _ yc
      refine ⟨_, rfl, _, rfl, _, rfl, b, R, M, ph, y.1, Lh, y.2, rfl, b2, b5, r1, by omega, by omega, ch'.same s5, (c.ok y ym).same S5, by omega, fun J19 t19 => ⟨_, _, rfl, rfl, _, rfl, ?_⟩⟩
      rw [f1]
      refine iteF ?_
      have S19 : Same Hb J19 := fun _ _ q => t19 _ _ (s5 _ _ q)
      have H19 : Same H J19 := fun _ _ q => S19 _ _ (S0b _ _ q)
      refine ⟨_, rfl, _, rfl, _, rfl, b, R, M, y.1, pl, y.2, Ll, rfl, b2, b5, r1, by omega, by omega, (c.ok y ym).same H19, cl'.same S19, by omega, fun J20 t20 => ⟨_, _, rfl, rfl, _, rfl, ?_⟩⟩
      rw [f2]
      refine iteF ?_
      have S20 : Same Hb J20 := fun _ _ q => t20 _ _ (S19 _ _ q)
      have H20 : Same H J20 := fun _ _ q => S20 _ _ (S0b _ _ q)
      refine ⟨_, rfl, _, rfl, _, rfl, a, _, _, _, rfl, rfl, rd_t (c.same H20).at_, at0, b, R, M, y.1, c0.1, y.2, c0.2, rfl, b2, b5, r1, by omega, by omega, (c.ok y ym).same H20, (c.ok c0 m0).same H20, by omega, fun J21 t21 => ?_⟩
      have H21 : Same H J21 := fun _ _ q => t21 _ _ (H20 _ _ q)
      refine ⟨_, .bool _, rfl, .fl (.bl _), (bool_show _).1, (bool_show _).2, ?_⟩
      refine ⟨_, rfl, _, rfl, a, _, _, _, rfl, rfl, rd_t (c.same H21).at_, at0, b, R, M, y.1, c0.1, y.2, c0.2, rfl, b2, b5, r1, by omega, by omega, (c.ok y ym).same H21, (c.ok c0 m0).same H21, by omega, fun J22 t22 => ?_⟩
      refine ⟨_, .bool _, rfl, .fl (.bl _), (bool_show _).1, (bool_show _).2, rfl, _, rfl, ?_⟩
      refine iteFB (by rw [decide_eq_true rfl]; rfl) ?_
      exact ⟨_, _, _, rfl, fun _ _ q => t22 _ _ (t21 _ _ (S20 _ _ q))⟩
    · rintro σ Hy ⟨u3, u8, u11, rfl, s5⟩
      have S5 : Same H Hy := fun _ _ q => s5 _ _ (S0b _ _ q)
      refine ⟨_, rfl, a, Cs, rfl, (c.same S5).at_, shows S5, sml, _, rfl, rfl, ?_⟩
      rw [decide_eq_true rfl]
      exact k Hy S5
end
end Vf


set_option Elab.async false
set_option maxRecDepth 100000
set_option maxHeartbeats 16000000
set_option exponentiation.threshold 3000
/-! Codes beside the die; the law's look at streams. -/
namespace Vf
open PySem PySem.Spec PyProof.Rows L2 SX
/-- all but a -/
def off (a : Addr) (H : Hp) : Hp := fun x => if x = a then none else H x
theorem off_at {a x : Addr} {H : Hp} {o : HO} (n : x ≠ a) (h : H x = some o) : off a H x = some o := by
  unfold off
  rw [if_neg n]
  exact h
theorem off_same {a : Addr} {H H' : Hp} (k : Kp a H H') : Same (off a H) H' := fun x o h => by
  unfold off at h
  split at h
  · cases h
  · rename_i n
    exact k x o n h
theorem rd_off {a x : Addr} {H : Hp} {xs ys : List V} (ha : H a = some (.lst xs)) (h : Rd H x (.tup ys)) : Rd (off a H) x (.tup ys) := by
  have n : x ≠ a := fun z => by
    rw [z] at h
    rcases h with h | ⟨o, h⟩
    · rw [ha] at h; cases h
    · rw [ha] at h; cases h
  rcases h with h | ⟨o, h⟩
  · exact .inl (off_at n h)
  · exact .inr ⟨o, off_at n h⟩
theorem pf_off {a x : Addr} {H : Hp} {xs : List V} {e : Pf} (ha : H a = some (.lst xs)) (h : H x = some (pfO e)) : off a H x = some (pfO e) := off_at (fun z => by rw [z, ha] at h; cases h) h
theorem fz_off {a x : Addr} {H : Hp} {xs ys : List V} (ha : H a = some (.lst xs)) (h : Fz H x ys) : Fz (off a H) x ys := by
  obtain ⟨o, h1, h2⟩ := h
  exact ⟨o, off_at (fun z => by rw [z, ha] at h1; cases h1) h1, h2⟩
theorem CodeR.off {b R N : Nat} {H : Hp} {a x : Addr} {xs : List V} {L : Pr} (c : CodeR b R N H x L) (ha : H a = some (.lst xs)) : CodeR b R N (off a H) x L :=
  ⟨⟨rd_off ha c.row.at_, fun e he => ⟨pf_off ha (c.row.good e he).1, (c.row.good e he).2⟩, c.row.len, c.row.rt⟩, fz_off ha c.fz, c.lf, c.st, c.le⟩
theorem CodeR.kp {b R N : Nat} {H H' : Hp} {a x : Addr} {xs : List V} {L : Pr} (c : CodeR b R N H x L) (ha : H a = some (.lst xs)) (k : Kp a H H') : CodeR b R N H' x L := (c.off ha).same (off_same k)
theorem Codes.kp {b R N : Nat} {H H' : Hp} {a x : Addr} {xs : List V} {Cs : Cd} (c : Codes b R N H x Cs) (ha : H a = some (.lst xs)) (k : Kp a H H') : Codes b R N H' x Cs :=
  ⟨rd_same (rd_off ha c.at_) (off_same k), fun y hy => (c.ok y hy).kp ha k⟩
theorem ne_lst {K : PySem.W.Frag} {H : Hp} {p q : Addr} {A B : Pr} {Q : VK} (ha : SqL K H p (prefs A)) (hb : SqL K H q (prefs B)) (ga : ∀ e ∈ A, H e.1 = some (pfO e.2)) (gb : ∀ e ∈ B, H e.1 = some (pfO e.2)) (e : pfs A = pfs B)
    (c : ∀ e ∈ pfs A, Low e.2) (k : Q (.bl false) H) : rNeD K (.ref p) (.ref q) H Q := by
  have s := rows_shapedL c
  refine ⟨_, _, .lst ha (rows_dp ga), .lst hb (rows_dp gb), s, by rw [← e]; exact s, ?_⟩
  rw [← e, PySem.SeqAt.eqv_refl _ (show PyData.canLay0 (.list ((pfs A).map pfD)) = true from rows_lay c)]
  exact k
def spStreamsRight : Sp := fun vs H Q _ => ∃ (a : Addr) (d : Int × Int × Int) (b R N : Nat) (pc : Addr) (Cs : Cd), vs = [.ref a, .int (b : Int), .int (R : Int), .ref pc] ∧ H a = some (.lst (dieL d)) ∧ DieOk d ∧ d.2.2 ≤ 900000000 ∧ 2 ≤ b ∧ b ≤ 5 ∧ 1 ≤ R ∧ R ≤ 100 ∧ N ≤ 20 ∧
  Codes b R N H pc Cs ∧ Cs ≠ [] ∧ (rowsAll Cs).length < 1199 ∧ ∀ (d' : Int × Int × Int) (H' : Hp), DieOk d' → d'.2.2 ≤ d.2.2 + 100 → Kp a H H' → H' a = some (.lst (dieL d')) → Q (.bl true) H'
section
variable {P : Program} {w : World} {K : PySem.W.Frag} {mg : Str → Option Value} {base : Heap}
theorem scStreamsRight : FnScope ["die", "base", "wide", "codes", "high", "turn", "stream", "code", "due", "one"] ["die", "base", "wide", "codes"] (defScope sStreamsRight) := ⟨rfl, rfl, rfl, by decide +kernel, rfl, by decide +kernel, by decide +kernel⟩
theorem ok_streamsright {f fJ fS fU fP fA : Addr} {fd fdJ fdS fdU fdP fdA : FuncData} (F : Fun K "_law_streams_right" "_law_streams_right" sStreamsRight f fd) (GJ : FnOk P w K mg base CX0 7 fJ fdJ ["base", "codes"] spJoinedAll) (cJ : Cal K mg "joined_all" fJ fdJ ["base", "codes"])
    (GS : FnOk P w K mg base CX0 3 fS fdS ["die", "base", "wide", "high"] spLStream) (cS : Cal K mg "_law_stream" fS fdS ["die", "base", "wide", "high"]) (GU : FnOk P w K mg base CX0 2 fU fdU ["stream", "prefix"] (spUnder K)) (cU : Cal K mg "_law_is_under" fU fdU ["stream", "prefix"])
    (GP : FnOk P w K mg base CX0 6 fP fdP ["base", "code", "stream"] spPrefixIn) (cP : Cal K mg "prefix_in" fP fdP ["base", "code", "stream"]) (GA : FnOk P w K mg base CX0 1 fA fdA ["one", "other"] spAbv) (cA : Cal K mg "_law_is_above" fA fdA ["one", "other"]) (nr : mg "range" = none) :
    FnOk P w K mg base CX0 8 f fd ["die", "base", "wide", "codes"] spStreamsRight := by
  refine F.ok scStreamsRight (fun vs H Q E h => ?_) (fun cdv A outer s H vs Q E hr h => ?_)
  · obtain ⟨a, d, b, R, M, pc, Cs, rfl, _⟩ := h
    rfl
  · obtain ⟨a, d, b, R, M, pc, Cs, rfl, ha, hd, hc, b2, b5, r1, r5, hM, c, ne, lC, k⟩ := h
    have nd := scStreamsRight.nd
    have hr1 := hr.mono (show 1 ≤ 7 by decide)
    have hr2 := hr.mono (show 2 ≤ 7 by decide)
    have hr3 := hr.mono (show 3 ≤ 7 by decide)
    have hr6 := hr.mono (show 6 ≤ 7 by decide)
    have hun : A.units + 3 + 64 < cLine := hr.units
    refine ⟨_, pss_cons (ps_set (i := 4) nd rfl (.inl rfl) (pe_call GJ hr rfl cJ.mg cJ.kp cJ.b .nil pass0 (pa_cons (pv 1) (pa_cons (pv 3) pa_nil))))
      (pss_cons (ps_for PassesOwn.never rfl (pi_range1 rfl nr (pa_cons pe_int pa_nil)) (pg_name (i := 5) nd rfl (.inl rfl))
        (pss_cons (ps_set (i := 6) nd rfl (.inr rfl) (pe_call GS hr3 rfl cS.mg cS.kp cS.b .nil pass0 (pa_cons (pv 0) (pa_cons (pv 1) (pa_cons (pv 2) (pa_cons pe_int pa_nil))))))
        (pss_one (ps_for PassesOwn.never rfl (pi_tup (pv 3)) (pg_name (i := 7) nd rfl (.inl rfl))
          (pss_cons (ps_setLc (i := 8) (own := [("one", 9)]) (g := gName 9) rfl nd rfl rfl rfl (pi_tup (pv 7)) (blkOk_by (N := ["die", "base", "wide", "codes", "high", "turn", "stream", "code", "due", "one"]) (sc := defScope sStreamsRight) (by decide +kernel))
            (fun _ _ _ _ _ => pg_name (i := 9) nd rfl (Or.inl rfl)) (fun _ _ _ _ _ => pts_one (pt_val (pe_call GU hr2 rfl cU.mg cU.kp cU.b .nil pass0 (pa_cons (pv 6) (pa_cons (pv 9) pa_nil))))) (fun _ _ _ _ _ => pv 9))
          (pss_one (ps_if (PW.pt (pw_or (pt_cmpR (op_neD hun) (pe_lst (pa_cons (pe_call GP hr6 rfl cP.mg cP.kp cP.b .nil pass0 (pa_cons (pv 1) (pa_cons (pv 7) (pa_cons (pv 6) pa_nil)))) pa_nil)) (pv 8) (nomark _))
              (pw_or1 (pt_not (pt_val (pe_call GA hr1 rfl cA.mg cA.kp cA.b .nil pass0 (pa_cons (pe_ix ix_list (pv 8) pe_int (fun _ _ => rfl)) (pa_cons (pe_call GP hr6 rfl cP.mg cP.kp cP.b .nil pass0 (pa_cons (pv 1) (pa_cons (pv 4) (pa_cons (pv 6) pa_nil)))) pa_nil))))))))
            (pss_one (ps_ret pe_bl)) pss_nil)))))))
      (pss_one (ps_ret pe_bl))), ?_⟩
    have b0 : 0 < b := by omega
    refine ⟨_, rfl, _, rfl, b, R, M, pc, Cs, rfl, b2, b5, r1, by omega, by omega, c, ne, lC, fun Lh ph H1 ch ih _ s1 => ?_⟩
    refine ⟨4, rfl, by decide, by decide, for_range (n := 4) (fun j σ Hx => ∃ (u5 u6 u7 u8 u9 : Option V) (d8 : Int × Int × Int), σ = [some (.ref a), some (.int (b : Int)), some (.int (R : Int)), some (.ref pc), some (.ref ph), u5, u6, u7, u8, u9] ∧ Codes b R M Hx pc Cs ∧ CodeR b R M Hx ph Lh ∧ Kp a H Hx ∧ Hx a = some (.lst (dieL d8)) ∧ DieOk d8 ∧ d8.2.2 ≤ d.2.2 + 21 * (j : Int)) ?_ ?_ ?_⟩
    · exact ⟨none, none, none, none, none, d, rfl, c.same s1, ch, Kp.same s1, s1 _ _ ha, hd, by omega⟩
    · rintro j σ Hx hj ⟨u5, u6, u7, u8, u9, d8, rfl, cx, hx, kx, ax, hd8, hc8⟩
      have hj : j < 4 := hj
      refine ⟨_, rfl, _, rfl, _, rfl, a, d8, (b : Int), (R : Int), 9, rfl, ax, hd8, by omega, by omega, by omega, by omega, by omega, by decide, by decide, fun r0 h q fe d9 p J r00 r0R hl ql nf wh wq hd9 hc9 kJ aJ np gp => ?_⟩
      obtain ⟨r, rfl⟩ := Int.eq_ofNat_of_zero_le r00
      have cJ' := cx.kp ax kJ
      have hJ := hx.kp ax kJ
      have sm : Strm b R J p r h q := ⟨gp, by omega, ⟨fe, nf⟩, by omega, by omega, wh, wq⟩
      have K0 : Kp a H J := kx.trans kJ
      refine ⟨_, rfl, pc, rfl, ⟨_, rd_t cJ'.at_⟩, for_tup (xs := crefs Cs) (fun i σ Hy => ∃ (u7 u8 u9 : Option V), σ = [some (.ref a), some (.int (b : Int)), some (.int (R : Int)), some (.ref pc), some (.ref ph), some (.int (0 + (j : Int))), some (.ref p), u7, u8, u9] ∧ Same J Hy) ?_ ?_ ?_ ?_⟩
      · exact ⟨_, _, _, rfl, Same.refl J⟩
      · rintro i σ Hy _ ⟨u7, u8, u9, rfl, s5⟩
        exact rd_t (cJ'.same s5).at_
      · rintro i x σ Hy hx' ⟨u7, u8, u9, rfl, s5⟩
        obtain ⟨y, hy, rfl⟩ := crow_at hx'
        have ym := List.mem_of_getElem? hy
        have cy := (cJ'.ok y ym).same s5
        have sy := sm.same s5
        obtain ⟨e0, m0, u0, un⟩ := one_under b0 cy.lf cy.st sy.r sy.wh sy.wq sy.q0
        have fil := filter_one (cy.lf.nodup b0) m0 u0 un
        refine ⟨_, rfl, y.1, rfl, ⟨_, rd_t cy.row.at_⟩, fun D hD => ?_⟩
        refine lc_tup (xs := prefs y.2) (fun i Hz => ∃ K3 : Pr, pfs K3 = ((pfs y.2).take i).filter (undP r h q) ∧ Hz D = some (.lst (prefs K3)) ∧ (∀ x ∈ K3, x ∈ y.2) ∧ K3.length ≤ i ∧ ∀ z o, Hy z = some o → Hz z = some o) ?_ ?_ ?_ ?_
        · exact ⟨[], rfl, upd_same, fun y hy => (by cases hy), Nat.le_refl _, fun z o w => by rw [upd_ne (ne_of_none w hD)]; exact w⟩
        · rintro i Hz _ ⟨K3, _, _, _, _, f4⟩
          exact rd_t (rd_same cy.row.at_ f4)
        · rintro i x Hz hx ⟨K3, f1, f2, f3, f5, f4⟩
          obtain ⟨e, he, rfl⟩ := row_at hx
          have em := List.mem_of_getElem? he
          have ei : i < y.2.length := (List.getElem?_eq_some_iff.mp he).1
          have hle := cy.le
          have tk : ((pfs y.2).take (i + 1)).filter (undP r h q) = ((pfs y.2).take i).filter (undP r h q) ++ [e.2].filter (undP r h q) := by
            rw [List.take_add_one, List.getElem?_map, he, List.filter_append]
            rfl
          refine ⟨rfl, ?_⟩
          refine ⟨_, rfl, _, rfl, p, e.1, (r : Int), (e.2.1 : Int), h, q, e.2.2, rfl, SqT.of (f4 _ _ sy.at_), SqT.of (f4 _ _ (cy.good e em)), sy.q0, by omega, by omega, by have := (cy.lf.ok e.2 (List.mem_map.mpr ⟨e, em, rfl⟩)).le; omega, _, rfl, ?_⟩
          by_cases cu : undP r h q e.2 = true
          · refine iteTB cu ?_
            refine ⟨_, rfl, _, f2, ?_, K3 ++ [e], ?_, ?_, fun z hz => ?_, ?_, fun z o w => ?_⟩
            · rw [List.length_map]
              exact Nat.lt_of_lt_of_le (show K3.length < 6001 by omega) (by decide)
            · rw [pfs_app, f1, tk, List.filter_cons_of_pos cu]
              rfl
            · rw [upd_same, prefs_app]
              rfl
            · rcases List.mem_append.mp hz with v | v
              · exact f3 z v
              · rw [List.mem_singleton.mp v]
                exact em
            · rw [List.length_append]
              show K3.length + 1 ≤ i + 1
              omega
            · rw [upd_ne (ne_of_none w hD)]
              exact f4 _ _ w
          · rw [Bool.not_eq_true] at cu
            refine iteFB cu ?_
            refine ⟨K3, ?_, f2, f3, by omega, f4⟩
            rw [f1, tk, List.filter_cons_of_neg (by rw [cu]; decide), List.filter_nil, List.append_nil]
        · rintro Hz ⟨K3, f1, f2, f3, f5, f4⟩
          rw [show (prefs y.2).length = (pfs y.2).length by rw [List.length_map, List.length_map], List.take_length, fil] at f1
          obtain ⟨z, rfl⟩ : ∃ z, K3 = [z] := by
            have l := congrArg List.length f1
            rw [List.length_map] at l
            exact List.length_eq_one_iff.mp l
          have ez : z.2 = e0 := (List.cons.inj f1).1
          have zm : z ∈ y.2 := f3 z (List.mem_singleton.mpr rfl)
          have SZ : Same J Hz := fun _ _ v => f4 _ _ (s5 _ _ v)
          have cz := cy.same f4
          refine ⟨_, rfl, _, rfl, _, rfl, b, R, M, y.1, p, y.2, r, h, q, rfl, b2, b5, r1, by omega, by omega, cz, sm.same SZ, fun e H2 me ue une s2 => ?_⟩
          have S2 : Same J H2 := fun _ _ v => s2 _ _ (SZ _ _ v)
          have ee : e.2 = e0 := un e.2 (List.mem_map.mpr ⟨e, me, rfl⟩) ue
          refine ⟨by show 1 ≤ sizeLine; decide, fun l nl => ?_⟩
          have s3 : Same H2 (upd H2 l (.lst [.ref e.1])) := same_new' nl
          have g3 : upd H2 l (.lst [.ref e.1]) l = some (.lst (prefs [e])) := upd_same
          generalize upd H2 l (.lst [.ref e.1]) = H3 at s3 g3 ⊢
          have Z3 : Same Hz H3 := fun _ _ v => s3 _ _ (s2 _ _ v)
          have S3 : Same J H3 := fun _ _ v => Z3 _ _ (SZ _ _ v)
          have c3 := cz.same Z3
          refine ⟨_, rfl, ne_lst (SqL.of g3) (SqL.of (Z3 _ _ f2)) (fun x hx => by rw [List.mem_singleton.mp hx]; exact c3.good e me) (fun x hx => by rw [List.mem_singleton.mp hx]; exact c3.good z zm) (by show [e.2] = [z.2]; rw [ee, ez]) (fun x hx => by
            have : x = e.2 := List.mem_singleton.mp hx
            rw [this]
            exact c3.low b5 e.2 (List.mem_map.mpr ⟨e, me, rfl⟩)) ⟨_, rfl, ?_⟩⟩
          refine iteF ?_
          have h3 := hJ.same S3
          refine ⟨_, rfl, D, _, _, _, rfl, rfl, SqL.of (Z3 _ _ f2), (show atI (prefs [z]) ((0 : Nat) : Int) = some (V.ref z.1) from atI_nat rfl), _, rfl, _, rfl, _, rfl, b, R, M, ph, p, Lh, r, h, q, rfl, b2, b5, r1, by omega, by omega, h3, sm.same S3, fun e' H4 me' ue' une' s4 => ?_⟩
          have S4 : Same J H4 := fun _ _ v => s4 _ _ (S3 _ _ v)
          have c4 := (cJ'.ok y ym).same S4
          have h4 := hJ.same S4
          refine ⟨z.1, e'.1, z.2, e'.2, rfl, c4.good z zm, h4.good e' me', by have := (c4.lf.ok z.2 (List.mem_map.mpr ⟨z, zm, rfl⟩)).le; omega, by have := (h4.lf.ok e'.2 (List.mem_map.mpr ⟨e', me', rfl⟩)).le; omega, _, rfl, ?_⟩
          have fine : isUp z.2 e'.2 = true := under_finer b0 h4.lf (List.mem_map.mpr ⟨e', me', rfl⟩) (List.mem_map.mpr ⟨z, zm, rfl⟩) ue' (by rw [ez]; exact u0) fun x hx => (ih x).mpr ⟨_, List.mem_map.mpr ⟨y, ym, rfl⟩, hx⟩
          rw [fine]
          refine iteF ?_
          exact ⟨_, _, _, rfl, S4⟩
      · rintro σ Hy ⟨u7, u8, u9, rfl, s5⟩
        have hc9 : d9.2.2 ≤ d8.2.2 + 3 + 2 * 9 := hc9
        exact ⟨_, _, _, _, _, d9, rfl, cJ'.same s5, hJ.same s5, K0.trans (Kp.same s5), s5 _ _ aJ, hd9, by omega⟩
    · rintro σ Hx ⟨u5, u6, u7, u8, u9, d8, rfl, cx, hx, kx, ax, hd8, hc8⟩
      exact k d8 Hx hd8 (by omega) kx ax
end
end Vf


set_option Elab.async false
set_option maxRecDepth 100000
set_option maxHeartbeats 16000000
set_option exponentiation.threshold 3000
/-! The law. -/
namespace Vf
open PySem PySem.Spec PyProof.Rows L2 SX
def spLaw (K : PySem.W.Frag) : Sp := fun vs H Q _ => ∃ (a : Addr) (ns : List Int), vs = [.ref a] ∧ SqL K H a (ns.map V.int) ∧ ns.length ≤ 63 ∧ ∀ H', Q (.bl true) H'
theorem sql_same {K : PySem.W.Frag} {H H' : Hp} {a : Addr} {xs : List V} (h : SqL K H a xs) (e : Same H H') : SqL K H' a xs := by
  rcases h with (h | ⟨o, h⟩) | h
  · exact .inl (.inl (e _ _ h))
  · exact .inl (.inr ⟨o, e _ _ h⟩)
  · exact .inr h
theorem eq_one {K : PySem.W.Frag} {H : Hp} {p q : Addr} {e f : Pf} {Q : VK} (ha : H p = some (pfO e)) (hb : H q = some (pfO f)) (c : Low e.2) (d : Low f.2) (k : Q (.bl (decide (e = f))) H) : rEqD K (.ref p) (.ref q) H Q := by
  refine ⟨_, _, row_dp ha, row_dp hb, row_shaped c, row_shaped d, ?_⟩
  rw [pfD_eqv]
  exact k
theorem rows_le {m : Nat} : ∀ {Cs : Cd}, (∀ c ∈ Cs, c.2.length ≤ m) → (rowsAll Cs).length ≤ Cs.length * m
  | [], _ => Nat.zero_le _
  | c :: Cs, h => by
    have ih := rows_le (Cs := Cs) fun x hx => h x (List.mem_cons_of_mem _ hx)
    have h2 := h c List.mem_cons_self
    show (c.2 ++ rowsAll Cs).length ≤ _
    rw [List.length_append, List.length_cons, Nat.add_mul]
    omega
theorem join4 (x : Pf) : (∃ C ∈ [lowR, lowR, lowR, highR], Inn C x) ↔ Inn highR x := by
  constructor
  · rintro ⟨C, hC, h⟩
    rcases List.mem_cons.mp hC with z | hC
    · exact high_low x (z ▸ h)
    rcases List.mem_cons.mp hC with z | hC
    · exact high_low x (z ▸ h)
    rcases List.mem_cons.mp hC with z | hC
    · exact high_low x (z ▸ h)
    · exact List.mem_singleton.mp hC ▸ h
  · exact fun h => ⟨highR, by simp, h⟩
theorem meet4 (x : Pf) : (∀ C ∈ [highR, highR, highR, lowR], Inn C x) ↔ Inn lowR x := by
  constructor
  · exact fun h => h lowR (by simp)
  · intro h C hC
    rcases List.mem_cons.mp hC with z | hC
    · exact z ▸ high_low x h
    rcases List.mem_cons.mp hC with z | hC
    · exact z ▸ high_low x h
    rcases List.mem_cons.mp hC with z | hC
    · exact z ▸ high_low x h
    · exact List.mem_singleton.mp hC ▸ h
theorem fourC {b R N : Nat} {J : Hp} {p : Addr} {x y : Addr × Pr} (h : J p = some (.tup [.ref x.1, .ref x.1, .ref x.1, .ref y.1])) (hx : CodeR b R N J x.1 x.2) (hy : CodeR b R N J y.1 y.2) : Codes b R N J p [x, x, x, y] := ⟨.inl h, fun c hc => by
  rcases List.mem_cons.mp hc with z | hc
  · rw [z]; exact hx
  rcases List.mem_cons.mp hc with z | hc
  · rw [z]; exact hx
  rcases List.mem_cons.mp hc with z | hc
  · rw [z]; exact hx
  · rw [List.mem_singleton.mp hc]; exact hy⟩
theorem lowDeep : Low deep0.2 ∧ Low deep1.2 := by
  have z : (deep0.2.all fun c => decide (c < 100)) = true ∧ (deep1.2.all fun c => decide (c < 100)) = true := by decide +kernel
  exact ⟨fun c hc => of_decide_eq_true (List.all_eq_true.mp z.1 c hc), fun c hc => of_decide_eq_true (List.all_eq_true.mp z.2 c hc)⟩
section
variable {P : Program} {w : World} {K : PySem.W.Frag} {mg : Str → Option Value} {base : Heap}
theorem scLaw : FnScope ["script", "k", "die", "base", "wide", "codes", "low", "high", "deep", "stream", "code", "turn", "at"] ["script"] (defScope sLaw) := ⟨rfl, rfl, rfl, by decide +kernel, rfl, by decide +kernel, by decide +kernel⟩
theorem ok_law {f fD fB fP fL fC fS fI fX fY : Addr} {fd fdD fdB fdP fdL fdC fdS fdI : FuncData} (F : Fun K "law" "law" sLaw f fd)
    (GD : FnOk P w K mg base CX0 1 fD fdD ["script", "at"] (spDice K)) (cD : Cal K mg "_law_dice" fD fdD ["script", "at"])
    (GB : FnOk P w K mg base CX0 2 fB fdB ["die"] spBase) (cB : Cal K mg "_law_base" fB fdB ["die"])
    (GP : FnOk P w K mg base CX0 1 fP fdP ["die", "many"] spPull) (cP : Cal K mg "_law_pull" fP fdP ["die", "many"])
    (GL : FnOk P w K mg base CX0 3 fL fdL ["die", "base", "wide", "inner"] spLCode) (cL : Cal K mg "_law_code" fL fdL ["die", "base", "wide", "inner"])
    (GC : VG.FnG P w K mg base 9 fC fdC ["base", "wide", "codes"] spCodesRight) (cC : Cal K mg "_law_codes_right" fC fdC ["base", "wide", "codes"])
    (GS : FnOk P w K mg base CX0 8 fS fdS ["die", "base", "wide", "codes"] spStreamsRight) (cS : Cal K mg "_law_streams_right" fS fdS ["die", "base", "wide", "codes"])
    (GI : FnOk P w K mg base CX0 6 fI fdI ["base", "code", "stream"] spPrefixIn) (cI : Cal K mg "prefix_in" fI fdI ["base", "code", "stream"])
    (GX : FnR P w K mg base CX0 8 fX spJoined) (mX : mg "joined" = some (.ref fX)) (kX : PySem.W.keepIn K (.ref fX) = true) (GY : FnR P w K mg base CX0 8 fY spMet) (mY : mg "met" = some (.ref fY)) (kY : PySem.W.keepIn K (.ref fY) = true)
    (N : Nm mg) (nr : mg "range" = none) (nx : mg "max" = none) (nn : mg "min" = none) (mso : mg "sorted" = none) (mli : mg "list" = none) : VG.FnG P w K mg base 10 f fd ["script"] (spLaw K) := by
  refine VG.FnG.of F scLaw (fun vs H Q E h => ?_) (fun cdv A outer s H vs Q E gd hr _ _ h => ?_)
  · obtain ⟨a, ns, rfl, _⟩ := h
    rfl
  · obtain ⟨a, ns, rfl, hs, hn, k⟩ := h
    have nd := scLaw.nd
    have hr1 := hr.mono (show 1 ≤ 9 by decide)
    have hr2 := hr.mono (show 2 ≤ 9 by decide)
    have hr3 := hr.mono (show 3 ≤ 9 by decide)
    have hr6 := hr.mono (show 6 ≤ 9 by decide)
    have hr8 := hr.mono (show 8 ≤ 9 by decide)
    have hun : A.units + 3 + 64 < cLine := hr.units
    refine ⟨_, pss_cons (ps_for PassesOwn.never rfl (pi_range1 rfl nr (pa_cons (pe_callB (call_max2 rfl) (by rfl) nx PyProof.Rows.boot_max (pa_cons pe_int (pa_cons (pe_callB (call_min2 rfl) (by rfl) nn PyProof.Rows.boot_min (pa_cons pe_int (pa_cons (pe_callB call_len_seq (by rfl) N.len boot_len (pa_cons (pv 0) pa_nil)) pa_nil))) pa_nil))) pa_nil)) (pg_name (i := 1) nd rfl (.inl rfl))
        (pss_cons (ps_set (i := 2) nd rfl (.inr rfl) (pe_call GD hr1 rfl cD.mg cD.kp cD.b .nil pass0 (pa_cons (pv 0) (pa_cons (pv 1) pa_nil))))
        (pss_cons (ps_asg (pe_tup (pa_cons (pe_call GB hr2 rfl cB.mg cB.kp cB.b .nil pass0 (pa_cons (pv 2) pa_nil)) (pa_cons (pe_op op_add pe_int (pe_call GP hr1 rfl cP.mg cP.kp cP.b .nil pass0 (pa_cons (pv 2) (pa_cons pe_int pa_nil)))) pa_nil))) (pg_tup rfl (pgs_cons (pg_name (i := 3) nd rfl (.inr rfl)) (pgs_cons (pg_name (i := 4) nd rfl (.inr rfl)) pgs_nil))))
        (pss_cons (ps_set (i := 5) nd rfl (.inl rfl) (pe_callTy call_tupleF (by rfl) N.tuple PyProof.Rows.boot_tuple (pa_cons (pe_lc (own := [("turn", 11)]) (g := gName 11) rfl nd (pi_range1 (by rfl) nr (pa_cons (pe_op op_add pe_int (pe_call GP hr1 rfl cP.mg cP.kp cP.b .nil pass0 (pa_cons (pv 2) (pa_cons pe_int pa_nil)))) pa_nil))
            (blkOk_by (N := ["script", "k", "die", "base", "wide", "codes", "low", "high", "deep", "stream", "code", "turn", "at"]) (sc := defScope sLaw) (by decide +kernel)) (fun _ _ _ _ _ => pg_name (i := 11) nd rfl (Or.inl rfl)) (fun _ _ _ _ _ => pts_nil)
            (fun _ _ _ _ _ => pe_call GL hr3 rfl cL.mg cL.kp cL.b .nil pass0 (pa_cons (pv 2) (pa_cons (pv 3) (pa_cons (pv 4) (pa_cons (pe_call GP hr1 rfl cP.mg cP.kp cP.b .nil pass0 (pa_cons (pv 2) (pa_cons pe_int pa_nil))) pa_nil)))))) pa_nil)))
        (pss_cons (ps_if (PW.pt (pw_or (pt_not (pt_val (VG.pe_callG GC gd hr rfl cC.mg cC.kp cC.b (pa_cons (pv 3) (pa_cons (pv 4) (pa_cons (pv 5) pa_nil)))))) (pw_or1 (pt_not (pt_val (pe_call GS hr8 rfl cS.mg cS.kp cS.b .nil pass0 (pa_cons (pv 2) (pa_cons (pv 3) (pa_cons (pv 4) (pa_cons (pv 5) pa_nil)))))))))) (pss_one (ps_ret pe_bl)) pss_nil)
        (pss_one (ps_if (pt_not (pt_val (VG.pe_callG GC gd hr rfl cC.mg cC.kp cC.b (pa_cons (pv 3) (pa_cons (pv 4) (pa_cons (pe_tup (pa_cons (pe_ix ix_tup (pv 5) pe_int (fun _ _ => rfl)) (pa_cons (pe_callR GX hr8 rfl mX kX pass0 (pa_cons (pv 3) (pa_cons (pe_ix ix_tup (pv 5) pe_int (fun _ _ => rfl)) (pa_cons (pe_ix ix_tup (pv 5) pe_int (fun _ _ => rfl)) pa_nil))))
            (pa_cons (pe_ix ix_tup (pv 5) pe_int (fun _ _ => rfl)) pa_nil)))) pa_nil)))))) (pss_one (ps_ret pe_bl)) pss_nil)))))))
      (pss_cons (ps_asg (pe_tup (pa_cons (pe_tupF (pa_cons (pe_tup (pa_cons pe_int (pa_cons pe_str pa_nil))) (pa_cons (pe_tup (pa_cons pe_int (pa_cons pe_str pa_nil))) pa_nil)))
            (pa_cons (pe_tupF (pa_cons (pe_tup (pa_cons pe_int (pa_cons pe_str pa_nil))) (pa_cons (pe_tup (pa_cons pe_int (pa_cons pe_str pa_nil))) (pa_cons (pe_tup (pa_cons pe_int (pa_cons pe_str pa_nil))) pa_nil)))) pa_nil)))
          (pg_tup rfl (pgs_cons (pg_name (i := 6) nd rfl (.inl rfl)) (pgs_cons (pg_name (i := 7) nd rfl (.inl rfl)) pgs_nil))))
      (pss_cons (ps_if (PW.pt (pw_or (pt_cmpR (op_neD hun) (pe_callR GX hr8 rfl mX kX pass0 (pa_cons pe_int (pa_cons (pv 6) (pa_cons (pv 6) (pa_cons (pv 6) (pa_cons (pv 7) pa_nil)))))) (pv 7) (nomark _))
          (pw_or1 (pt_cmpR (op_neD hun) (pe_callR GY hr8 rfl mY kY pass0 (pa_cons pe_int (pa_cons (pv 7) (pa_cons (pv 7) (pa_cons (pv 7) (pa_cons (pv 6) pa_nil)))))) (pv 6) (nomark _))))) (pss_one (ps_ret pe_bl)) pss_nil)
      (pss_cons (ps_set (i := 8) nd rfl (.inl rfl) (pe_tup (pa_cons pe_int (pa_cons (pe_tup (pa_cons (pe_tup (pa_cons pe_int (pa_cons (pe_op op_add_str (pe_op op_mul_str pe_str pe_int) pe_str) pa_nil)))
          (pa_cons (pe_tup (pa_cons pe_int (pa_cons (pe_op op_add_str (pe_op op_mul_str pe_str pe_int) pe_str) pa_nil))) pa_nil))) pa_nil))))
      (pss_cons (ps_set (i := 9) nd rfl (.inl rfl) (pe_tup (pa_cons pe_int (pa_cons (pe_op op_mul_str pe_str pe_int) (pa_cons pe_str pa_nil)))))
      (pss_cons (ps_set (i := 10) nd rfl (.inl rfl) (pe_sortT (by rfl) N.tuple (by rfl) mso (pe_op op_cat
          (pe_lc (own := [("at", 12)]) (g := gName 12) rfl nd (pi_range1 (by rfl) nr (pa_cons pe_int pa_nil)) (blkOk_by (N := ["script", "k", "die", "base", "wide", "codes", "low", "high", "deep", "stream", "code", "turn", "at"]) (sc := defScope sLaw) (by decide +kernel))
            (fun _ _ _ _ _ => pg_name (i := 12) nd rfl (Or.inl rfl)) (fun _ _ _ _ _ => pts_nil) (fun _ _ _ _ _ => pe_tup (pa_cons pe_int (pa_cons (pe_op op_add_str (pe_op op_mul_str pe_str (pv 12)) pe_str) pa_nil))))
          (pe_callTy call_list_of (by rfl) mli PyProof.Rows.boot_list (pa_cons (pe_ix ix_tup (pv 8) pe_int (fun _ _ => rfl)) pa_nil)))))
      (pss_one (ps_ret (pe_and (pe_cmpR (op_eqD hun) (pe_call GI hr6 rfl cI.mg cI.kp cI.b .nil pass0 (pa_cons pe_int (pa_cons (pv 10) (pa_cons (pv 9) pa_nil)))) (pe_ix ix_tup (pe_ix ix_tup (pv 8) pe_int (fun _ _ => rfl)) pe_int (fun _ _ => rfl)) (nomark _))
        (pe_one (pe_cmpR (op_eqD hun) (pe_call GI hr6 rfl cI.mg cI.kp cI.b .nil pass0 (pa_cons pe_int (pa_cons (pv 10) (pa_cons (pe_tup (pa_cons pe_int (pa_cons pe_str (pa_cons pe_str pa_nil)))) pa_nil)))) (pe_ix ix_tup (pe_ix ix_tup (pv 8) pe_int (fun _ _ => rfl)) pe_int (fun _ _ => rfl)) (nomark _))))))))))), ?_⟩
    refine ⟨_, rfl, a, _, rfl, .inl hs, 8, _, rfl, 1, _, rfl, ?_⟩
    refine ⟨_, rfl, ?_, ?_, for_range (fun _ σ H2 => ∃ u1 u2 u3 u4 u5 u11 : Option V, σ = [some (.ref a), u1, u2, u3, u4, u5, none, none, none, none, none, u11, none] ∧ Same H H2) ?_ ?_ ?_⟩
    · split <;> split <;> omega
    · split <;> split <;> omega
    · exact ⟨none, none, none, none, none, none, rfl, Same.refl H⟩
    · rintro i σ H2 hi ⟨u1, u2, u3, u4, u5, u11, rfl, s2⟩
      have hi8 : i < 8 := by
        revert hi
        split <;> split <;> omega
      refine ⟨_, rfl, _, rfl, a, ns, i, by rw [Int.zero_add]; rfl, sql_same hs s2, hn, by omega, fun p d0 hd0 hz0 np => ?_⟩
      have x1 : Same H2 (upd H2 p (.lst (dieL d0))) := same_new' np
      have x2 : upd H2 p (.lst (dieL d0)) p = some (.lst (dieL d0)) := upd_same
      generalize upd H2 p (.lst (dieL d0)) = Ha at x1 x2 ⊢
      have kS : ∀ {J J' : Hp}, Same H2 J → Kp p J J' → Same H2 J' := fun h1 h2 c o e => h2 c o (ne_of_none e np) (h1 c o e)
      refine ⟨_, rfl, p, d0, rfl, x2, hd0, by omega, fun b0 d1 H3 hd1 hc1 b2' b5' kp3 a3 => ?_⟩
      obtain ⟨b, rfl⟩ := Int.eq_ofNat_of_zero_le (show 0 ≤ b0 by omega)
      have b2 : 2 ≤ b := by omega
      have b5 : b ≤ 5 := by omega
      have bp : 0 < b := by omega
      have S3 := kS x1 kp3
      refine ⟨_, rfl, p, d1, _, rfl, a3, hd1, by decide, by decide, by omega, fun w0 d2 hd2 hc2 w00 w03 => ⟨_, _, rfl, rfl, ?_⟩⟩
      have w03 : w0 < 3 := w03
      obtain ⟨R, eR⟩ : ∃ R : Nat, (1 : Int) + w0 = (R : Int) := ⟨(1 + w0).toNat, by omega⟩
      dsimp only
      rw [eR]
      have r1 : 1 ≤ R := by omega
      have r3 : R ≤ 3 := by omega
      have a4 : upd H3 p (.lst (dieL d2)) p = some (.lst (dieL d2)) := upd_same
      have S4 : Same H2 (upd H3 p (.lst (dieL d2))) := kS S3 Kp.upd
      generalize upd H3 p (.lst (dieL d2)) = H4 at a4 S4 ⊢
      refine ⟨by show 2 ≤ sizeLine; decide, fun tt nt => ?_⟩
      have s5 : Same H4 (upd H4 tt (.tup [.int (b : Int), .int (R : Int)])) := same_new' nt
      have g5 : upd H4 tt (.tup [.int (b : Int), .int (R : Int)]) tt = some (.tup [.int (b : Int), .int (R : Int)]) := upd_same
      generalize upd H4 tt (.tup [.int (b : Int), .int (R : Int)]) = H5 at s5 g5 ⊢
      have a5 := s5 _ _ a4
      have S5 : Same H2 H5 := fun _ _ z => s5 _ _ (S4 _ _ z)
      refine ⟨tt, _, rfl, SqT.of g5, rfl, _, _, rfl, _, _, rfl, rfl, ?_⟩
      refine ⟨_, rfl, p, d2, _, rfl, a5, hd2, by decide, by decide, by omega, fun m0 d3 hd3 hc3 m00 m03 => ⟨_, _, rfl, rfl, ?_⟩⟩
      have m03 : m0 < 3 := m03
      obtain ⟨m, em⟩ : ∃ m : Nat, (2 : Int) + m0 = (m : Int) := ⟨(2 + m0).toNat, by omega⟩
      dsimp only
      rw [em]
      have m2 : 2 ≤ m := by omega
      have m4 : m ≤ 4 := by omega
      have a6 : upd H5 p (.lst (dieL d3)) p = some (.lst (dieL d3)) := upd_same
      have S6 : Same H2 (upd H5 p (.lst (dieL d3))) := kS S5 Kp.upd
      generalize upd H5 p (.lst (dieL d3)) = H6 at a6 S6 ⊢
      refine ⟨_, rfl, by omega, by omega, fun D hD => ?_⟩
      have nDp : D ≠ p := fun z => by rw [z, a6] at hD; cases hD
      refine lc_range (n := m) (fun j Hy => ∃ (Cs : Cd) (d8 : Int × Int × Int), Cs.length = j ∧ Hy D = some (.lst (crefs Cs)) ∧ Hy p = some (.lst (dieL d8)) ∧ DieOk d8 ∧ d8.2.2 ≤ d3.2.2 + 20 * (j : Int) ∧ (∀ c ∈ Cs, CodeR b R 7 Hy c.1 c.2 ∧ c.2.length ≤ 31) ∧ Same H2 Hy) ?_ ?_ ?_
      · refine ⟨[], d3, rfl, upd_same, by rw [upd_ne nDp.symm]; exact a6, hd3, by omega, fun c hc => (by cases hc), fun z o q => by rw [upd_ne (ne_of_none (S6 _ _ q) hD)]; exact S6 _ _ q⟩
      · rintro j Hy hj ⟨Cs, d8, f0, f1, a8, hd8, hc8, f2, s8⟩
        refine ⟨rfl, ?_⟩
        refine ⟨_, rfl, _, rfl, _, rfl, _, rfl, p, d8, _, rfl, a8, hd8, by decide, by decide, by omega, fun q d9 hd9 hc9 q0 q8 => ?_⟩
        have q8 : q < 8 := q8
        obtain ⟨inner, rfl⟩ := Int.eq_ofNat_of_zero_le q0
        have hin : inner ≤ 7 := by omega
        have a9 : upd Hy p (.lst (dieL d9)) p = some (.lst (dieL d9)) := upd_same
        have k9 : Kp p Hy (upd Hy p (.lst (dieL d9))) := Kp.upd
        generalize upd Hy p (.lst (dieL d9)) = H9 at a9 k9 ⊢
        refine ⟨p, d9, b, R, inner, rfl, a9, hd9, by omega, b2, b5, r1, by omega, by omega, fun L pc d10 H10 lf st ln hd10 hc10 kp10 a10 row fz npc => ?_⟩
        have k10 : Kp p Hy H10 := k9.trans kp10
        have big : (b - 1) * inner ≤ 4 * 7 := Nat.mul_le_mul (by omega) hin
        have cR : CodeR b R 7 H10 pc L := (show CodeR b R inner H10 pc L from ⟨row, fz, lf, st, by omega⟩).up hin
        have gD := k10 _ _ nDp f1
        have kD : Kp D H10 (upd H10 D (.lst (crefs Cs ++ [V.ref pc]))) := Kp.upd
        refine ⟨_, gD, ?_, Cs ++ [(pc, L)], d10, by rw [List.length_append, f0]; rfl, ?_, by rw [upd_ne nDp.symm]; exact a10, hd10, by omega, fun c hc => ?_, fun z o q => ?_⟩
        · rw [List.length_map, f0]
          exact Nat.lt_of_lt_of_le (show j < 6 by omega) (by decide)
        · rw [upd_same]
          show some (HO.lst (crefs Cs ++ [V.ref pc])) = some (HO.lst (crefs (Cs ++ [(pc, L)])))
          rw [show crefs (Cs ++ [(pc, L)]) = crefs Cs ++ [V.ref pc] from List.map_append]
        · rcases List.mem_append.mp hc with z | z
          · exact ⟨((f2 c z).1.kp a8 k10).kp gD kD, (f2 c z).2⟩
          · rw [List.mem_singleton.mp z]
            exact ⟨cR.kp gD kD, by show L.length ≤ 31; omega⟩
        · rw [upd_ne (ne_of_none (S6 _ _ q) hD)]
          exact kS s8 k10 _ _ q
      rintro Hy ⟨Cs, d8, f0, f1, a8, hd8, hc8, f2, s8⟩
      refine ⟨D, _, rfl, SqL.of f1, fun t J sJ fJ _ => ?_⟩
      have aJ := sJ _ _ a8
      have SJ : Same H2 J := fun _ _ z => sJ _ _ (s8 _ _ z)
      have cT : Codes b R 7 J t Cs := ⟨fJ.rd, fun c hc => (f2 c hc).1.same sJ⟩
      have lc : ∀ c ∈ Cs, c.2.length ≤ 130 := fun c hc => by have := (f2 c hc).2; omega
      have la : (rowsAll Cs).length ≤ 124 := Nat.le_trans (rows_le fun c hc => (f2 c hc).2) (by omega)
      have ne : Cs ≠ [] := fun z => by rw [z] at f0; simp at f0; omega
      refine ⟨_, rfl, _, rfl, _, rfl, b, R, 7, t, Cs, rfl, b2, b5, r1, by omega, by decide, cT, by omega, by omega, lc, by omega, fun J1 t1 => ⟨_, rfl, ?_⟩⟩
      refine iteF ?_
      refine ⟨_, rfl, _, rfl, _, rfl, _, rfl, p, d8, b, R, 7, t, Cs, rfl, t1 _ _ aJ, hd8, by omega, b2, b5, r1, by omega, by decide, cT.same t1, ne, by omega, fun d11 J2 hd11 hc11 kp2 aJ2 => ⟨_, rfl, ?_⟩⟩
      refine iteF ?_
      have c2 := (cT.same t1).kp (t1 _ _ aJ) kp2
      have SJ2 : Same H2 J2 := kS (fun _ _ z => t1 _ _ (SJ _ _ z)) kp2
      obtain ⟨c0, c1, cl, mm0, mm1, _, at0, at1, _, _, _⟩ := two_of (Cs := Cs) (by omega)
      refine ⟨_, rfl, _, rfl, _, rfl, t, _, _, _, rfl, rfl, rd_t c2.at_, at0, _, rfl, _, rfl, t, _, _, _, rfl, rfl, rd_t c2.at_, at0, _, rfl, t, _, _, _, rfl, rfl, rd_t c2.at_, at1, [.int (b : Int)], [.ref c0.1, .ref c1.1], rfl, rfl, by show 2 ≤ sizeLine; decide, fun p2 n2 => ?_⟩
      have s3 : Same J2 (upd J2 p2 (.tup [.ref c0.1, .ref c1.1])) := same_new' n2
      have g3 : upd J2 p2 (.tup [.ref c0.1, .ref c1.1]) p2 = some (.tup (crefs [c0, c1])) := upd_same
      generalize upd J2 p2 (.tup [.ref c0.1, .ref c1.1]) = J3 at s3 g3 ⊢
      have l0 := (f2 c0 mm0).2
      have l1 := (f2 c1 mm1).2
      have len2 : (rowsAll [c0, c1]).length ≤ 62 := by
        show (c0.2 ++ (c1.2 ++ [])).length ≤ 62
        rw [List.length_append, List.length_append]
        simp only [List.length_nil]
        omega
      refine ⟨b, R, 7, p2, [c0, c1], rfl, b2, b5, r1, by omega, by decide, ⟨.inl g3, fun x hx => ?_⟩, (fun z => by cases z), by omega, fun L4 p4 J4 k4 _ l4 t4 => ?_⟩
      · rcases List.mem_cons.mp hx with q | hx
        · rw [q]; exact (c2.ok c0 mm0).same s3
        · rw [List.mem_singleton.mp hx]; exact (c2.ok c1 mm1).same s3
      have T4 : Same J2 J4 := fun _ _ z => t4 _ _ (s3 _ _ z)
      have c4 := c2.same T4
      refine ⟨_, rfl, t, _, _, _, rfl, rfl, rd_t c4.at_, at1, by show 3 ≤ sizeLine; decide, fun p5 n5 => ?_⟩
      have s6 : Same J4 (upd J4 p5 (.tup [.ref c0.1, .ref p4, .ref c1.1])) := same_new' n5
      have g6 : upd J4 p5 (.tup [.ref c0.1, .ref p4, .ref c1.1]) p5 = some (.tup (crefs [c0, (p4, L4), c1])) := upd_same
      generalize upd J4 p5 (.tup [.ref c0.1, .ref p4, .ref c1.1]) = J5 at s6 g6 ⊢
      refine ⟨b, R, 7, p5, [c0, (p4, L4), c1], rfl, b2, b5, r1, by omega, by decide, ⟨.inl g6, fun x hx => ?_⟩, by show 2 ≤ 3; decide, by show 3 ≤ 5; decide, fun x hx => ?_, ?_, fun J6 t6 => ⟨_, rfl, ?_⟩⟩
      · rcases List.mem_cons.mp hx with q | hx
        · rw [q]; exact (c4.ok c0 mm0).same s6
        rcases List.mem_cons.mp hx with q | hx
        · rw [q]; exact k4.same s6
        · rw [List.mem_singleton.mp hx]; exact (c4.ok c1 mm1).same s6
      · rcases List.mem_cons.mp hx with q | hx
        · rw [q]; omega
        rcases List.mem_cons.mp hx with q | hx
        · rw [q]; show L4.length ≤ 130; omega
        · rw [List.mem_singleton.mp hx]; omega
      · show (c0.2 ++ (L4 ++ (c1.2 ++ []))).length ≤ 400
        rw [List.length_append, List.length_append, List.length_append]
        simp only [List.length_nil]
        omega
      refine iteF ?_
      exact ⟨_, _, _, _, _, _, rfl, fun _ _ z => t6 _ _ (s6 _ _ (T4 _ _ (SJ2 _ _ (s2 _ _ z) |> fun q => q)))⟩
    · rintro σ H2 ⟨u1, u2, u3, u4, u5, u11, rfl, s2⟩
      have eem : ("" : Str) = S [] := by decide +kernel
      have e0 : ("0" : Str) = S [48] := by decide +kernel
      have e1 : ("1" : Str) = S [49] := by decide +kernel
      have e00 : ("00" : Str) = S [48, 48] := by decide +kernel
      have e01 : ("01" : Str) = S [48, 49] := by decide +kernel
      -- low
      refine ⟨by show 2 ≤ sizeLine; decide, fun t1 n1 => ?_⟩
      have s3 : Same H2 (upd H2 t1 (.tup [.int 0, .str "0"])) := same_new' n1
      have g1 : upd H2 t1 (.tup [.int 0, .str "0"]) t1 = some (pfO (0, [48])) := by rw [upd_same, e0]; rfl
      generalize upd H2 t1 (.tup [.int 0, .str "0"]) = H3 at s3 g1 ⊢
      refine ⟨by show 2 ≤ sizeLine; decide, fun t2 n2 => ?_⟩
      have s4 : Same H3 (upd H3 t2 (.tup [.int 0, .str "1"])) := same_new' n2
      have g2 : upd H3 t2 (.tup [.int 0, .str "1"]) t2 = some (pfO (0, [49])) := by rw [upd_same, e1]; rfl
      generalize upd H3 t2 (.tup [.int 0, .str "1"]) = H4 at s4 g2 ⊢
      refine ⟨by show 2 ≤ sizeLine; decide, fun pl H5 s5 fl _ => ?_⟩
      have nl : NewT H4 H5 pl [(t1, (0, [48])), (t2, (0, [49]))] := ⟨s5, fl, fun e he => by
        rcases List.mem_cons.mp he with z | he
        · rw [z]; exact s5 _ _ (s4 _ _ g1)
        · rw [List.mem_singleton.mp he]; exact s5 _ _ g2⟩
      have cl : CodeR 2 1 2 H5 pl [(t1, (0, [48])), (t2, (0, [49]))] := mkCode lowR_code.1 lowR_code.2 (by show 2 ≤ 5000; decide) nl
      -- high
      refine ⟨by show 2 ≤ sizeLine; decide, fun t3 n3 => ?_⟩
      have s6 : Same H5 (upd H5 t3 (.tup [.int 0, .str "00"])) := same_new' n3
      have g3 : upd H5 t3 (.tup [.int 0, .str "00"]) t3 = some (pfO (0, [48, 48])) := by rw [upd_same, e00]; rfl
      generalize upd H5 t3 (.tup [.int 0, .str "00"]) = H6 at s6 g3 ⊢
      refine ⟨by show 2 ≤ sizeLine; decide, fun t4 n4 => ?_⟩
      have s7 : Same H6 (upd H6 t4 (.tup [.int 0, .str "01"])) := same_new' n4
      have g4 : upd H6 t4 (.tup [.int 0, .str "01"]) t4 = some (pfO (0, [48, 49])) := by rw [upd_same, e01]; rfl
      generalize upd H6 t4 (.tup [.int 0, .str "01"]) = H7 at s7 g4 ⊢
      refine ⟨by show 2 ≤ sizeLine; decide, fun t5 n5 => ?_⟩
      have s8 : Same H7 (upd H7 t5 (.tup [.int 0, .str "1"])) := same_new' n5
      have g5 : upd H7 t5 (.tup [.int 0, .str "1"]) t5 = some (pfO (0, [49])) := by rw [upd_same, e1]; rfl
      generalize upd H7 t5 (.tup [.int 0, .str "1"]) = H8 at s8 g5 ⊢
      refine ⟨by show 3 ≤ sizeLine; decide, fun ph H9 s9 fh _ => ?_⟩
      have nh : NewT H8 H9 ph [(t3, (0, [48, 48])), (t4, (0, [48, 49])), (t5, (0, [49]))] := ⟨s9, fh, fun e he => by
        rcases List.mem_cons.mp he with z | he
        · rw [z]; exact s9 _ _ (s8 _ _ (s7 _ _ g3))
        rcases List.mem_cons.mp he with z | he
        · rw [z]; exact s9 _ _ (s8 _ _ g4)
        · rw [List.mem_singleton.mp he]; exact s9 _ _ g5⟩
      have ch : CodeR 2 1 2 H9 ph [(t3, (0, [48, 48])), (t4, (0, [48, 49])), (t5, (0, [49]))] := mkCode highR_code.1 highR_code.2 (by show 3 ≤ 5000; decide) nh
      have cl9 := cl.same fun _ _ z => s9 _ _ (s8 _ _ (s7 _ _ (s6 _ _ z)))
      refine ⟨by show 2 ≤ sizeLine; decide, fun tp np => ?_⟩
      have s10 : Same H9 (upd H9 tp (.tup [.ref pl, .ref ph])) := same_new' np
      have g10 : upd H9 tp (.tup [.ref pl, .ref ph]) tp = some (.tup [.ref pl, .ref ph]) := upd_same
      generalize upd H9 tp (.tup [.ref pl, .ref ph]) = H10 at s10 g10 ⊢
      refine ⟨tp, _, rfl, SqT.of g10, rfl, _, _, rfl, _, _, rfl, rfl, ?_⟩
      have ch10 := ch.same s10
      have cl10 := cl9.same s10
      -- joined, met
      refine ⟨_, rfl, _, rfl, _, rfl, _, rfl, [.int 2], [.ref pl, .ref pl, .ref pl, .ref ph], rfl, rfl, by show 4 ≤ sizeLine; decide, fun p1 m1 => ?_⟩
      have v1 : Same H10 (upd H10 p1 (.tup [.ref pl, .ref pl, .ref pl, .ref ph])) := same_new' m1
      have w1 : upd H10 p1 (.tup [.ref pl, .ref pl, .ref pl, .ref ph]) p1 = some (.tup [.ref pl, .ref pl, .ref pl, .ref ph]) := upd_same
      generalize upd H10 p1 (.tup [.ref pl, .ref pl, .ref pl, .ref ph]) = J1 at v1 w1 ⊢
      refine ⟨2, 1, 2, p1, [(pl, [(t1, (0, [48])), (t2, (0, [49]))]), (pl, [(t1, (0, [48])), (t2, (0, [49]))]), (pl, [(t1, (0, [48])), (t2, (0, [49]))]), (ph, [(t3, (0, [48, 48])), (t4, (0, [48, 49])), (t5, (0, [49]))])], rfl, by decide, by decide, by decide, by decide, by decide,
        fourC (x := (pl, [(t1, (0, [48])), (t2, (0, [49]))])) (y := (ph, [(t3, (0, [48, 48])), (t4, (0, [48, 49])), (t5, (0, [49]))])) w1 (cl10.same v1) (ch10.same v1), (fun z => by cases z), by show 9 < 1199; decide, fun L1 q1 J2 k1 i1 _ x1 => ?_⟩
      have V2 : Same H10 J2 := fun _ _ z => x1 _ _ (v1 _ _ z)
      refine ⟨_, rfl, ne_code (by decide) (by decide) k1 (ch10.same V2) (fun x => (i1 x).trans (join4 x)) ⟨_, rfl, ?_⟩⟩
      refine iteF ?_
      refine ⟨_, rfl, _, rfl, _, rfl, _, rfl, [.int 2], [.ref ph, .ref ph, .ref ph, .ref pl], rfl, rfl, by show 4 ≤ sizeLine; decide, fun p2 m2 => ?_⟩
      have v3 : Same J2 (upd J2 p2 (.tup [.ref ph, .ref ph, .ref ph, .ref pl])) := same_new' m2
      have w3 : upd J2 p2 (.tup [.ref ph, .ref ph, .ref ph, .ref pl]) p2 = some (.tup [.ref ph, .ref ph, .ref ph, .ref pl]) := upd_same
      generalize upd J2 p2 (.tup [.ref ph, .ref ph, .ref ph, .ref pl]) = J3 at v3 w3 ⊢
      have V3 : Same H10 J3 := fun _ _ z => v3 _ _ (V2 _ _ z)
      refine ⟨2, 1, 2, p2, [(ph, [(t3, (0, [48, 48])), (t4, (0, [48, 49])), (t5, (0, [49]))]), (ph, [(t3, (0, [48, 48])), (t4, (0, [48, 49])), (t5, (0, [49]))]), (ph, [(t3, (0, [48, 48])), (t4, (0, [48, 49])), (t5, (0, [49]))]), (pl, [(t1, (0, [48])), (t2, (0, [49]))])], rfl, by decide, by decide, by decide, by decide, by decide,
        fourC (y := (pl, [(t1, (0, [48])), (t2, (0, [49]))])) (x := (ph, [(t3, (0, [48, 48])), (t4, (0, [48, 49])), (t5, (0, [49]))])) w3 (ch10.same V3) (cl10.same V3), (fun z => by cases z), by show 11 < 1199; decide, fun L2 q2 J4 k2 i2 _ x2 => ?_⟩
      have V4 : Same H10 J4 := fun _ _ z => x2 _ _ (V3 _ _ z)
      refine ⟨_, rfl, ne_code (by decide) (by decide) k2 (cl10.same V4) (fun x => (i2 x).trans (meet4 x)) ⟨_, rfl, ?_⟩⟩
      refine iteF ?_
      -- deep
      have sz : ∀ {x : Str}, x.length = 1 → (S ((List.replicate 40 [49]).flatten)).length + x.length ≤ sizeLine := fun {x} h => by
        rw [S_len, h]
        have : ((List.replicate 40 [49]).flatten).length = 40 := by decide +kernel
        rw [this]
        decide
      refine ⟨[49], 40, by rw [e1], rfl, by decide, by decide, by decide, _, _, rfl, rfl, sz (by decide +kernel), by show 2 ≤ sizeLine; decide, fun ta ma => ?_⟩
      have v5 : Same J4 (upd J4 ta (.tup [.int 0, .str (S ((List.replicate 40 [49]).flatten) ++ "0")])) := same_new' ma
      have w5 : upd J4 ta (.tup [.int 0, .str (S ((List.replicate 40 [49]).flatten) ++ "0")]) ta = some (pfO deep0) := by
        rw [upd_same, e0, S_cat, rep_ones]
        rfl
      generalize upd J4 ta (.tup [.int 0, .str (S ((List.replicate 40 [49]).flatten) ++ "0")]) = J5 at v5 w5 ⊢
      refine ⟨[49], 40, by rw [e1], rfl, by decide, by decide, by decide, _, _, rfl, rfl, sz (by decide +kernel), by show 2 ≤ sizeLine; decide, fun tb mb => ?_⟩
      have v6 : Same J5 (upd J5 tb (.tup [.int 0, .str (S ((List.replicate 40 [49]).flatten) ++ "1")])) := same_new' mb
      have w6 : upd J5 tb (.tup [.int 0, .str (S ((List.replicate 40 [49]).flatten) ++ "1")]) tb = some (pfO deep1) := by
        rw [upd_same, e1, S_cat, rep_ones, show List.replicate 40 49 ++ [49] = List.replicate 41 49 from rfl]
        rfl
      generalize upd J5 tb (.tup [.int 0, .str (S ((List.replicate 40 [49]).flatten) ++ "1")]) = J6 at v6 w6 ⊢
      refine ⟨by show 2 ≤ sizeLine; decide, fun ti mi => ?_⟩
      have v7 : Same J6 (upd J6 ti (.tup [.ref ta, .ref tb])) := same_new' mi
      have w7 : upd J6 ti (.tup [.ref ta, .ref tb]) ti = some (.tup [.ref ta, .ref tb]) := upd_same
      generalize upd J6 ti (.tup [.ref ta, .ref tb]) = J7 at v7 w7 ⊢
      refine ⟨by show 2 ≤ sizeLine; decide, fun td md => ?_⟩
      have v8 : Same J7 (upd J7 td (.tup [.int 2, .ref ti])) := same_new' md
      have w8 : upd J7 td (.tup [.int 2, .ref ti]) td = some (.tup [.int 2, .ref ti]) := upd_same
      generalize upd J7 td (.tup [.int 2, .ref ti]) = J8 at v8 w8 ⊢
      -- stream
      refine ⟨[49], 40, by rw [e1], rfl, by decide, by decide, by decide, by show 3 ≤ sizeLine; decide, fun ts ms => ?_⟩
      have v9 : Same J8 (upd J8 ts (.tup [.int 0, .str (S ((List.replicate 40 [49]).flatten)), .str "0"])) := same_new' ms
      have w9 : upd J8 ts (.tup [.int 0, .str (S ((List.replicate 40 [49]).flatten)), .str "0"]) ts = some (.tup [.int ((0 : Nat) : Int), .str (S (List.replicate 40 49)), .str (S [48])]) := by
        rw [upd_same, e0, rep_ones]
        rfl
      generalize upd J8 ts (.tup [.int 0, .str (S ((List.replicate 40 [49]).flatten)), .str "0"]) = J9 at v9 w9 ⊢
      have ga : J9 ta = some (pfO deep0) := v9 _ _ (v8 _ _ (v7 _ _ (v6 _ _ w5)))
      have gb : J9 tb = some (pfO deep1) := v9 _ _ (v8 _ _ (v7 _ _ w6))
      have gi : J9 ti = some (.tup [.ref ta, .ref tb]) := v9 _ _ (v8 _ _ w7)
      have gdp : J9 td = some (.tup [.int 2, .ref ti]) := v9 _ _ w8
      -- code
      refine ⟨40, rfl, by decide, by decide, fun D hD => ?_⟩
      refine lc_range (n := 40) (fun i Hy => ∃ L3 : Pr, pfs L3 = (List.range i).map (fun i => ((0, List.replicate i 49 ++ [48]) : Pf)) ∧ RowL Hy D L3 ∧ ∀ c o, J9 c = some o → Hy c = some o) ?_ ?_ ?_
      · exact ⟨[], rfl, ⟨upd_same, fun e he => (by cases he)⟩, fun c o z => by rw [upd_ne (ne_of_none z hD)]; exact z⟩
      · rintro i Hy hi ⟨L3, f1, row3, f4⟩
        have lL3 : L3.length = i := by
          have z := congrArg List.length f1
          rw [List.length_map, List.length_map, List.length_range] at z
          exact z
        refine ⟨rfl, ?_⟩
        refine ⟨_, rfl, [49], i, by rw [e1], by rw [Int.zero_add], by omega, by decide, by show i * 1 ≤ 1000000; omega, _, _, rfl, rfl, ?_, by show 2 ≤ sizeLine; decide, fun t nt => ?_⟩
        · rw [S_len, rep_ones, List.length_replicate, e0, S_len]
          exact Nat.le_trans (show i + 1 ≤ 6000 by omega) (by decide)
        have eP : (HO.tup [.int 0, .str (S ((List.replicate i [49]).flatten) ++ "0")]) = pfO (0, List.replicate i 49 ++ [48]) := by
          rw [e0, S_cat, rep_ones]
          rfl
        rw [eP]
        refine ⟨_, by rw [upd_ne (ne_of_none row3.at_ nt)]; exact row3.at_, ?_, L3 ++ [(t, (0, List.replicate i 49 ++ [48]))], ?_, RowL.add (e := (0, List.replicate i 49 ++ [48])) row3 nt, fun c o z => ?_⟩
        · rw [List.length_map, lL3]
          exact Nat.lt_of_lt_of_le (show i < 6000 by omega) (by decide)
        · rw [pfs_app, f1, List.range_succ, List.map_append]
          rfl
        · rw [upd_ne (ne_of_none z hD), upd_ne (ne_of_none (f4 _ _ z) nt)]
          exact f4 _ _ z
      rintro Hy ⟨L3, f1, row3, f4⟩
      have lL3 : L3.length = 40 := by
        have z := congrArg List.length f1
        rw [List.length_map, List.length_map, List.length_range] at z
        exact z
      refine ⟨_, rfl, td, _, _, _, rfl, rfl, SqT.of (f4 _ _ gdp), rfl, ti, _, rfl, .inr (SqT.of (f4 _ _ gi)), fun l nl => ?_⟩
      have s11 : Same Hy (upd Hy l (.lst [.ref ta, .ref tb])) := same_new' nl
      have g11 : upd Hy l (.lst [.ref ta, .ref tb]) l = some (.lst [.ref ta, .ref tb]) := upd_same
      generalize upd Hy l (.lst [.ref ta, .ref tb]) = H11 at s11 g11 ⊢
      refine ⟨D, l, _, _, rfl, rfl, s11 _ _ row3.at_, g11, ?_, fun p3 np3 => ?_⟩
      · rw [List.length_map, lL3]
        exact Nat.le_trans (show 40 + 2 ≤ 6000 by omega) (by decide)
      have s12 : Same H11 (upd H11 p3 (.lst (prefs L3 ++ [.ref ta, .ref tb]))) := same_new' np3
      have g12 : upd H11 p3 (.lst (prefs L3 ++ [.ref ta, .ref tb])) p3 = some (.lst (prefs (L3 ++ [(ta, deep0), (tb, deep1)]))) := by rw [upd_same, prefs_app]; rfl
      generalize upd H11 p3 (.lst (prefs L3 ++ [.ref ta, .ref tb])) = H12 at s12 g12 ⊢
      have Y12 : Same Hy H12 := fun _ _ z => s12 _ _ (s11 _ _ z)
      refine ⟨p3, L3 ++ [(ta, deep0), (tb, deep1)], rfl, SqL.of g12, fun e he => ?_, fun Lc pc H13 srt pm s13 good fc => ?_⟩
      · rcases List.mem_append.mp he with z | he
        · exact Y12 _ _ (row3.good e z)
        rcases List.mem_cons.mp he with z | he
        · rw [z]; exact Y12 _ _ (f4 _ _ ga)
        · rw [List.mem_singleton.mp he]; exact Y12 _ _ (f4 _ _ gb)
      obtain ⟨lfc, stc⟩ := comb_code 41 (Nat.le_refl _)
      have eL : pfs Lc = combL 41 := by
        refine srt_uniq srt stc ?_
        have z := pfs_perm pm
        rw [pfs_app, f1] at z
        rw [comb_is]
        exact z
      have lc : Lc.length = 42 := by
        have z := pm.length_eq
        rw [List.length_append, lL3] at z
        exact z
      have cR : CodeR 2 1 41 H13 pc Lc := mkCode (by rw [eL]; exact lfc) (by rw [eL]; exact stc) (by omega) ⟨s13, fc, good⟩
      have Y13 : Same J9 H13 := fun _ _ z => s13 _ _ (Y12 _ _ (f4 _ _ z))
      have sm : Strm 2 1 H13 ts 0 (List.replicate 40 49) [48] := ⟨Y13 _ _ w9, by decide, ⟨_, str0_nf⟩, by decide +kernel, by decide +kernel, fun c hc => by rw [List.eq_of_mem_replicate hc]; decide, fun c hc => by rw [List.mem_singleton.mp hc]; decide⟩
      refine ⟨_, rfl, _, rfl, 2, 1, 41, pc, ts, Lc, 0, List.replicate 40 49, [48], rfl, by decide, by decide, by decide, by decide, by decide, cR, sm, fun e H14 me ue une s14 => ?_⟩
      have ee : e.2 = deep0 := (une deep0 (by rw [eL]; exact deep0_in) deep0_und).symm
      have Y14 : Same J9 H14 := fun _ _ z => s14 _ _ (Y13 _ _ z)
      have c14 := cR.same s14
      refine ⟨_, rfl, td, _, _, _, rfl, rfl, SqT.of (Y14 _ _ gdp), rfl, ti, _, _, _, rfl, rfl, SqT.of (Y14 _ _ gi), rfl, eq_one (c14.good e me) (Y14 _ _ ga) (by rw [ee]; exact lowDeep.1) lowDeep.1 ⟨_, rfl, ?_⟩⟩
      refine iteTB (decide_eq_true ee) ?_
      refine ⟨_, rfl, by show 3 ≤ sizeLine; decide, fun tz mz => ?_⟩
      have s15 : Same H14 (upd H14 tz (.tup [.int 0, .str "", .str "1"])) := same_new' mz
      have g15 : upd H14 tz (.tup [.int 0, .str "", .str "1"]) tz = some (.tup [.int ((0 : Nat) : Int), .str (S []), .str (S [49])]) := by
        rw [upd_same, eem, e1]
        rfl
      generalize upd H14 tz (.tup [.int 0, .str "", .str "1"]) = H15 at s15 g15 ⊢
      have sm2 : Strm 2 1 H15 tz 0 [] [49] := ⟨g15, by decide, ⟨_, str1_nf⟩, by decide, by decide, fun c hc => (by cases hc), fun c hc => by rw [List.mem_singleton.mp hc]; decide⟩
      refine ⟨2, 1, 41, pc, tz, Lc, 0, [], [49], rfl, by decide, by decide, by decide, by decide, by decide, c14.same s15, sm2, fun e2 H16 me2 ue2 une2 s16 => ?_⟩
      have ee2 : e2.2 = deep1 := (une2 deep1 (by rw [eL]; exact deep1_in) deep1_und).symm
      have Y16 : Same J9 H16 := fun _ _ z => s16 _ _ (s15 _ _ (Y14 _ _ z))
      have c16 := (c14.same s15).same s16
      refine ⟨_, rfl, td, _, _, _, rfl, rfl, SqT.of (Y16 _ _ gdp), rfl, ti, _, _, _, rfl, rfl, SqT.of (Y16 _ _ gi), rfl, eq_one (c16.good e2 me2) (Y16 _ _ gb) (by rw [ee2]; exact lowDeep.2) lowDeep.2 ?_⟩
      rw [decide_eq_true ee2]
      exact k H16
end
end Vf


set_option Elab.async false
set_option maxRecDepth 100000
set_option maxHeartbeats 8000000
set_option exponentiation.threshold 3000
namespace Vf
open PySem L2 SX
/-! ### what the top has written -/
section
variable {K : PySem.W.Frag} {mg : Str → Option Value} {h : Heap}
theorem def_mk {x : Str} {st : Stmt} {ps : List Str} {f : Addr} {oc kV doc pm cd ct : Value} {od an : Option Addr} {sl : Array (Option Value)} (X : K.In h) (G : h.Ns mainGlobals mg)
    (a : PySem.W.nsIn K mainGlobals x = some (some (.ref f))) (l : K.lookup f = some ⟨oc, od, .func (PySem.W.fnOf x x (defArgs st) (defBody st) (defScope st) .none kV doc pm an cd ct), sl⟩) (c : PySem.W.codeIn K cd x = true) (k : PySem.W.keepIn K (.ref f) = true)
    (b : ∀ fd, Fun K x x st f fd → Binds K fd ps []) : ∃ (f : Addr) (fd : FuncData), Fun K x x st f fd ∧ Cal K mg x f fd ps :=
  ⟨f, _, fun_mk (st := st) l c k, PySem.W.mg_of X G a, k, b _ (fun_mk (st := st) l c k)⟩
theorem pfx_mk {x : Str} {C : Addr} (X : K.In h) (G : h.Ns mainGlobals mg) (gS : PySem.W.nsIn K mainGlobals x = some (some (.ref C))) (exS : PySem.W.excIn K C [.type "ValueError", .type "Exception", .type "BaseException", .type "object"] "ValueError.__new__" = true) (kS : PySem.W.keepIn K (.ref C) = true) (bS : PySem.W.subIn K (.ref C) (.type "BaseException") = some true) (tS : PySem.W.typeIn K (.ref C) = some (.type "type")) : PfxTxt K mg x C := ⟨PySem.W.mg_of X G gS, exS, kS, bS, tS⟩
theorem cls_mk {P : Program} {C fI cda cc : Addr} {nm q N : _} {bs : List Value} {sn : List Str} {sub : List Value} {ab : Bool} {col : Option Bool} {dd : Option Addr} {k0 k1 k2 k3 k5 : Option Value}
    {oc doc pm ct ccl cl : Value} {od an cdd cld : Option Addr} {osl ccs csl : Array (Option Value)} {vs : Array Value} {file : Str} {tf : Tok} (X : K.In h) (G : h.Ns mainGlobals mg)
    (gC : PySem.W.nsIn K mainGlobals "InvalidNumber" = some (some (.ref C))) (noSuper : PySem.W.nsIn K mainGlobals "super" = some none)
    (cls : K.lookup C = some (excClassObj nm q C N bs VNum.bmI true sn sub ab col dd k0 k1 k2 k3 k5 "IndexError.__new__"))
    (sa : PySem.W.findIn K (.ref C) "__setattr__" = some (some (.builtin "object.__setattr__"))) (ga : PySem.W.findIn K (.ref C) "__getattribute__" = some (some (.builtin "BaseException.__getattribute__"))) (gg : PySem.W.findIn K (.ref C) "__getattr__" = some none)
    (ov : PySem.W.excOver K C VNum.bmI = true) (qi : PySem.W.excInitIn K C VNum.bmI "IndexError.__new__" = true) (tk : PySem.W.takerIn K C "value" = some none) (noV : PySem.W.findIn K (.ref C) "value" = some none) (hdC : PySem.W.hasDictIn K C = true)
    (iC : PySem.W.findIn K (.ref C) "__init__" = some (some (.ref fI))) (tC : PySem.W.typeIn K (.ref fI) = some (.type "function")) (any : PySem.W.nsIn K PySem.cStatics "thirdparty.any" = some none) (sup : PySem.W.ks_superIn K C C "__init__" = some (some (.builtin "IndexError.__init__")))
    (sI : PySem.W.subIn K (.ref C) (.type "IndexError") = some true) (mro : PySem.W.mroIn K C (.ref C) = some true) (kC : PySem.W.keepIn K (.ref C) = true) (exC : PySem.W.subIn K (.ref C) (.type "BaseException") = some true) (tyC : PySem.W.typeIn K (.ref C) = some (.type "type"))
    (top : (P.main.scope.names.lookup ("super" : Str)).isSome = false)
    (l1 : K.lookup fI = some ⟨oc, od, .func (PySem.W.ksFn "__init__" "InvalidNumber.__init__" VNum.mainArgs VNum.mainBody VNum.mainScope .none .none doc pm an (.ref cda) ct cc), osl⟩) (c1 : PySem.W.codeIn K (.ref cda) "InvalidNumber.__init__" = true)
    (l2 : K.lookup cda = some ⟨ccl, cdd, .fields vs, ccs⟩) (fl : vs[2]? = some (.str file tf)) (fm : ((P.main.file : Str) == file) = true) (l3 : K.lookup cc = some ⟨cl, cld, .cell (some (.ref C)), csl⟩) :
    ∃ CN f : Addr, VNum.NumTxt P K mg CN f :=
  ⟨C, fI,
    { gC := PySem.W.mg_of X G gC, noSuper := PySem.W.mg_none_of X G noSuper, cls := ⟨nm, q, N, bs, sn, sub, ab, col, dd, k0, k1, k2, k3, k5, cls⟩, sa := sa, ga := ga, gg := gg, ov := ov, qi := qi, tk := tk, noV := noV, hdC := hdC, iC := iC, tC := tC, any := any, sup := sup, sI := sI, mro := mro, kC := kC, exC := exC, tyC := tyC, top := top,
      fn := ⟨oc, od, doc, pm, an, cda, cc, ct, osl, vs, file, tf, ccl, cdd, ccs, cl, cld, csl, l1, c1, l2, fl, fm, l3⟩ }⟩
theorem nm_mk {t1 t2 t3 t4 t5 : Tok} (X : K.In h) (G : h.Ns mainGlobals mg) (z1 : PySem.W.nsIn K mainGlobals "isinstance" = some none) (z2 : PySem.W.nsIn K mainGlobals "int" = some none) (z3 : PySem.W.nsIn K mainGlobals "bool" = some none) (z4 : PySem.W.nsIn K mainGlobals "str" = some none) (z5 : PySem.W.nsIn K mainGlobals "tuple" = some none) (z6 : PySem.W.nsIn K mainGlobals "len" = some none) (z7 : PySem.W.nsIn K mainGlobals "range" = some none) (z8 : PySem.W.nsIn K mainGlobals "max" = some none) (z9 : PySem.W.nsIn K mainGlobals "min" = some none) (z10 : PySem.W.nsIn K mainGlobals "abs" = some none) (z11 : PySem.W.nsIn K mainGlobals "list" = some none) (z12 : PySem.W.nsIn K mainGlobals "repr" = some none) (z13 : PySem.W.nsIn K mainGlobals "set" = some none) (z14 : PySem.W.nsIn K mainGlobals "sorted" = some none) (z15 : PySem.W.nsIn K mainGlobals "all" = some none) (z16 : PySem.W.nsIn K mainGlobals "zip" = some none)
    (y1 : PySem.W.nsIn K mainGlobals "MIN_BASE" = some (some (.int 2 t1))) (y2 : PySem.W.nsIn K mainGlobals "MAX_BASE" = some (some (.int 5 t2))) (y3 : PySem.W.nsIn K mainGlobals "MAX_ROOTS" = some (some (.int 5000 t3)))
    (y4 : PySem.W.nsIn K mainGlobals "DIGITS" = some (some (.str "01234" t4))) (y5 : PySem.W.nsIn K mainGlobals "MAX_ROWS" = some (some (.int 5000 t5))) :
    Nm mg ∧ mg "range" = none ∧ mg "max" = none ∧ mg "min" = none ∧ mg "abs" = none ∧ mg "list" = none ∧ mg "repr" = none ∧ mg "set" = none ∧ mg "sorted" = none ∧ mg "all" = none ∧ mg "zip" = none ∧ ∃ t, mg "MAX_ROWS" = some (.int 5000 t) :=
  ⟨⟨PySem.W.mg_none_of X G z1, PySem.W.mg_none_of X G z2, PySem.W.mg_none_of X G z3, PySem.W.mg_none_of X G z4, PySem.W.mg_none_of X G z5, PySem.W.mg_none_of X G z6, ⟨t1, PySem.W.mg_of X G y1⟩, ⟨t2, PySem.W.mg_of X G y2⟩, ⟨t3, PySem.W.mg_of X G y3⟩, ⟨t4, PySem.W.mg_of X G y4⟩⟩,
    PySem.W.mg_none_of X G z7, PySem.W.mg_none_of X G z8, PySem.W.mg_none_of X G z9, PySem.W.mg_none_of X G z10, PySem.W.mg_none_of X G z11, PySem.W.mg_none_of X G z12, PySem.W.mg_none_of X G z13, PySem.W.mg_none_of X G z14, PySem.W.mg_none_of X G z15, PySem.W.mg_none_of X G z16, t5, PySem.W.mg_of X G y5⟩
/-- the defs, joined -/
theorem law_mk {l : PySem.W.OpenLaw} {w : World} {fa CN fI CI CS fJ fM fW fIsInt fWithin fReqNum fReqBase fWordForm fPfxForm fPAbove fLowest fHighest fStreamForm fReqStream fShort fLead fUnder fStartB fCovers fCodeForm fReqCode fReqCodes fCodeRoots fJoinedAll fMetAll fRefines fFiner fPrefixIn fDice fPull fWord fLNormal fLStream fLBeg fLUnder fLAbove fLonger fChildren fLCode fLBase fLInner fByInner fLRefines fCodesRight fStreamsRight : Addr} {fdIsInt fdWithin fdReqNum fdReqBase fdWordForm fdPfxForm fdPAbove fdLowest fdHighest fdStreamForm fdReqStream fdShort fdLead fdUnder fdStartB fdCovers fdCodeForm fdReqCode fdReqCodes fdCodeRoots fdJoinedAll fdMetAll fdRefines fdFiner fdPrefixIn fdDice fdPull fdWord fdLNormal fdLStream fdLBeg fdLUnder fdLAbove fdLonger fdChildren fdLCode fdLBase fdLInner fdByInner fdLRefines fdCodesRight fdStreamsRight : FuncData} {cdJ ocJ kVJ docJ pmJ ctJ cdM ocM kVM docM pmM ctM cdW ocW kVW docW pmW ctW : Value} {odJ anJ odM anM odW anW : Option Addr} {slJ slM slW : Array (Option Value)} (X : K.In h) (G : h.Ns mainGlobals mg) (hfa : mg "law" = some (.ref fa))
    (aJ : PySem.W.nsIn K mainGlobals "joined" = some (some (.ref fJ))) (lJ : K.lookup fJ = some ⟨ocJ, odJ, .func (PySem.W.fnOf "joined" "joined" (defArgs sJoined) (defBody sJoined) (defScope sJoined) .none kVJ docJ pmJ anJ cdJ ctJ), slJ⟩) (cJ : PySem.W.codeIn K cdJ "joined" = true) (kJ : PySem.W.keepIn K (.ref fJ) = true)
    (aM : PySem.W.nsIn K mainGlobals "met" = some (some (.ref fM))) (lM : K.lookup fM = some ⟨ocM, odM, .func (PySem.W.fnOf "met" "met" (defArgs sMet) (defBody sMet) (defScope sMet) .none kVM docM pmM anM cdM ctM), slM⟩) (cM : PySem.W.codeIn K cdM "met" = true) (kM : PySem.W.keepIn K (.ref fM) = true)
    (aW : PySem.W.nsIn K mainGlobals "law" = some (some (.ref fW))) (lW : K.lookup fW = some ⟨ocW, odW, .func (PySem.W.fnOf "law" "law" (defArgs sLaw) (defBody sLaw) (defScope sLaw) .none kVW docW pmW anW cdW ctW), slW⟩) (cW : PySem.W.codeIn K cdW "law" = true) (kW : PySem.W.keepIn K (.ref fW) = true)
    (num : VNum.NumTxt l.prog K mg CN fI) (pfI : PfxTxt K mg "InvalidCode" CI) (pfS : PfxTxt K mg "InvalidStream" CS) (NN : Nm mg ∧ mg "range" = none ∧ mg "max" = none ∧ mg "min" = none ∧ mg "abs" = none ∧ mg "list" = none ∧ mg "repr" = none ∧ mg "set" = none ∧ mg "sorted" = none ∧ mg "all" = none ∧ mg "zip" = none ∧ ∃ t, mg "MAX_ROWS" = some (.int 5000 t))
    (FIsInt : Fun K "is_integer" "is_integer" sIsInt fIsInt fdIsInt) (cIsInt : Cal K mg "is_integer" fIsInt fdIsInt ["value"])
    (FWithin : Fun K "is_integer_within" "is_integer_within" sWithin fWithin fdWithin) (cWithin : Cal K mg "is_integer_within" fWithin fdWithin ["low", "high", "value"])
    (FReqNum : Fun K "require_number" "require_number" sReqNum fReqNum fdReqNum) (cReqNum : Cal K mg "require_number" fReqNum fdReqNum ["low", "high", "number"])
    (FReqBase : Fun K "require_base" "require_base" sReqBase fReqBase fdReqBase) (cReqBase : Cal K mg "require_base" fReqBase fdReqBase ["base"])
    (FWordForm : Fun K "has_word_form" "has_word_form" sWordForm fWordForm fdWordForm) (cWordForm : Cal K mg "has_word_form" fWordForm fdWordForm ["base", "value"])
    (FPfxForm : Fun K "has_prefix_form" "has_prefix_form" sPfxForm fPfxForm fdPfxForm) (cPfxForm : Cal K mg "has_prefix_form" fPfxForm fdPfxForm ["base", "roots", "value"])
    (FPAbove : Fun K "is_above" "is_above" sPIsAbove fPAbove fdPAbove) (cPAbove : Cal K mg "is_above" fPAbove fdPAbove ["upper", "lower"])
    (FLowest : Fun K "lowest" "lowest" sLowest fLowest fdLowest) (cLowest : Cal K mg "lowest" fLowest fdLowest ["prefixes"])
    (FHighest : Fun K "highest" "highest" sHighest fHighest fdHighest) (cHighest : Cal K mg "highest" fHighest fdHighest ["prefixes"])
    (FStreamForm : Fun K "has_stream_form" "has_stream_form" sStreamForm fStreamForm fdStreamForm) (cStreamForm : Cal K mg "has_stream_form" fStreamForm fdStreamForm ["base", "roots", "value"])
    (FReqStream : Fun K "require_stream" "require_stream" sReqStream fReqStream fdReqStream) (cReqStream : Cal K mg "require_stream" fReqStream fdReqStream ["base", "roots", "stream"])
    (FShort : Fun K "shortest_period" "shortest_period" sShortest fShort fdShort) (cShort : Cal K mg "shortest_period" fShort fdShort ["period"])
    (FLead : Fun K "leading_word" "leading_word" sLead fLead fdLead) (cLead : Cal K mg "leading_word" fLead fdLead ["stream", "count"])
    (FUnder : Fun K "is_under" "is_under" sIsUnder fUnder fdUnder) (cUnder : Cal K mg "is_under" fUnder fdUnder ["stream", "prefix"])
    (FStartB : Fun K "start_behind" "start_behind" sStartB fStartB fdStartB) (cStartB : Cal K mg "start_behind" fStartB fdStartB ["base", "word"])
    (FCovers : Fun K "covers" "covers" sCovers fCovers fdCovers) (cCovers : Cal K mg "covers" fCovers fdCovers ["base", "roots", "prefixes"])
    (FCodeForm : Fun K "has_code_form" "has_code_form" sCodeForm fCodeForm fdCodeForm) (cCodeForm : Cal K mg "has_code_form" fCodeForm fdCodeForm ["base", "roots", "value"])
    (FReqCode : Fun K "require_code" "require_code" sReqCode fReqCode fdReqCode) (cReqCode : Cal K mg "require_code" fReqCode fdReqCode ["base", "code"])
    (FReqCodes : Fun K "require_codes" "require_codes" sReqCodes fReqCodes fdReqCodes) (cReqCodes : Cal K mg "require_codes" fReqCodes fdReqCodes ["base", "codes"])
    (FCodeRoots : Fun K "code_roots" "code_roots" sCodeRoots fCodeRoots fdCodeRoots) (cCodeRoots : Cal K mg "code_roots" fCodeRoots fdCodeRoots ["code"])
    (FJoinedAll : Fun K "joined_all" "joined_all" sJoinedAll fJoinedAll fdJoinedAll) (cJoinedAll : Cal K mg "joined_all" fJoinedAll fdJoinedAll ["base", "codes"])
    (FMetAll : Fun K "met_all" "met_all" sMetAll fMetAll fdMetAll) (cMetAll : Cal K mg "met_all" fMetAll fdMetAll ["base", "codes"])
    (FRefines : Fun K "refines" "refines" sRefines fRefines fdRefines) (cRefines : Cal K mg "refines" fRefines fdRefines ["base", "first", "second"])
    (FFiner : Fun K "is_finer" "is_finer" sIsFiner fFiner fdFiner) (cFiner : Cal K mg "is_finer" fFiner fdFiner ["first", "second"])
    (FPrefixIn : Fun K "prefix_in" "prefix_in" sPrefixIn fPrefixIn fdPrefixIn) (cPrefixIn : Cal K mg "prefix_in" fPrefixIn fdPrefixIn ["base", "code", "stream"])
    (FDice : Fun K "_law_dice" "_law_dice" sDice fDice fdDice) (cDice : Cal K mg "_law_dice" fDice fdDice ["script", "at"])
    (FPull : Fun K "_law_pull" "_law_pull" sPull fPull fdPull) (cPull : Cal K mg "_law_pull" fPull fdPull ["die", "many"])
    (FWord : Fun K "_law_word" "_law_word" sWord fWord fdWord) (cWord : Cal K mg "_law_word" fWord fdWord ["die", "base", "high"])
    (FLNormal : Fun K "_law_normal" "_law_normal" sLNormal fLNormal fdLNormal) (cLNormal : Cal K mg "_law_normal" fLNormal fdLNormal ["root", "head", "period"])
    (FLStream : Fun K "_law_stream" "_law_stream" sLStream fLStream fdLStream) (cLStream : Cal K mg "_law_stream" fLStream fdLStream ["die", "base", "wide", "high"])
    (FLBeg : Fun K "_law_beginning" "_law_beginning" sLBeg fLBeg fdLBeg) (cLBeg : Cal K mg "_law_beginning" fLBeg fdLBeg ["stream", "many"])
    (FLUnder : Fun K "_law_is_under" "_law_is_under" sLUnder fLUnder fdLUnder) (cLUnder : Cal K mg "_law_is_under" fLUnder fdLUnder ["stream", "prefix"])
    (FLAbove : Fun K "_law_is_above" "_law_is_above" sIsAbove fLAbove fdLAbove) (cLAbove : Cal K mg "_law_is_above" fLAbove fdLAbove ["one", "other"])
    (FLonger : Fun K "_law_longer" "_law_longer" sLonger fLonger fdLonger) (cLonger : Cal K mg "_law_longer" fLonger fdLonger ["prefix", "word"])
    (FChildren : Fun K "_law_children" "_law_children" sChildren fChildren fdChildren) (cChildren : Cal K mg "_law_children" fChildren fdChildren ["base", "prefix"])
    (FLCode : Fun K "_law_code" "_law_code" sLCode fLCode fdLCode) (cLCode : Cal K mg "_law_code" fLCode fdLCode ["die", "base", "wide", "inner"])
    (FLBase : Fun K "_law_base" "_law_base" sLBase fLBase fdLBase) (cLBase : Cal K mg "_law_base" fLBase fdLBase ["die"])
    (FLInner : Fun K "_law_inner" "_law_inner" sLInner fLInner fdLInner) (cLInner : Cal K mg "_law_inner" fLInner fdLInner ["code"])
    (FByInner : Fun K "_law_by_inner" "_law_by_inner" sByInner fByInner fdByInner) (cByInner : Cal K mg "_law_by_inner" fByInner fdByInner ["base", "wide", "inner"])
    (FLRefines : Fun K "_law_refines" "_law_refines" sLRefines fLRefines fdLRefines) (cLRefines : Cal K mg "_law_refines" fLRefines fdLRefines ["first", "second"])
    (FCodesRight : Fun K "_law_codes_right" "_law_codes_right" sCodesRight fCodesRight fdCodesRight) (cCodesRight : Cal K mg "_law_codes_right" fCodesRight fdCodesRight ["base", "wide", "codes"])
    (FStreamsRight : Fun K "_law_streams_right" "_law_streams_right" sStreamsRight fStreamsRight fdStreamsRight) (cStreamsRight : Cal K mg "_law_streams_right" fStreamsRight fdStreamsRight ["die", "base", "wide", "codes"]) :
    VG.LawG l w K 10 63 "script" mg fa h := by
  obtain ⟨N, m_range, m_max, m_min, m_abs, m_list, m_repr, m_set, m_sorted, m_all, m_zip, mr⟩ := NN
  have e := hfa.symm.trans (PySem.W.mg_of X G aW)
  cases e
  refine ⟨PySem.W.fnOf "law" "law" (defArgs sLaw) (defBody sLaw) (defScope sLaw) .none kVW docW pmW anW cdW ctW, [], spLaw K, fun p hp => absurd hp List.not_mem_nil, fun p hp => absurd hp List.not_mem_nil, fun p hp => absurd hp List.not_mem_nil, fun s v => .of_eq rfl, fun H a ns hl ht hs => ⟨a, ns, rfl, hs, hl, fun _ => rfl⟩, fun base KB GB TB => ?_⟩
  have GIsInt := ok_isint (P := l.prog) (w := w) (base := base) FIsInt N
  have GWithin := ok_within FWithin GIsInt cIsInt
  have GReqNum := ok_reqnum FReqNum GWithin cWithin num
  have GReqBase := ok_reqbase FReqBase GReqNum cReqNum N
  have GWordForm := ok_wordform (P := l.prog) (w := w) (base := base) FWordForm N
  have GPfxForm := ok_pfxformG FPfxForm GWithin cWithin GWordForm cWordForm N
  have GPAbove := ok_pisabove (P := l.prog) (w := w) (mg := mg) (base := base) FPAbove
  have GLowest := ok_lowest FLowest GPAbove cPAbove N m_zip m_set m_sorted
  have GHighest := ok_highest FHighest GPAbove cPAbove N m_set m_sorted
  have GShort := ok_short (P := l.prog) (w := w) (mg := mg) (base := base) FShort
  have GStreamForm := ok_streamform FStreamForm GWithin cWithin GWordForm cWordForm GShort cShort N
  have GReqStream := ok_reqstream FReqStream GStreamForm cStreamForm pfS
  have GLead := ok_lead (P := l.prog) (w := w) (base := base) FLead N.len m_max
  have GUnder := ok_under FUnder GLead cLead N.len
  have GStartB := ok_startb (P := l.prog) (w := w) (base := base) FStartB N
  have GCovers := ok_covers FCovers GStartB cStartB N.len
  have GCodeForm := ok_codeform FCodeForm GPfxForm cPfxForm GCovers cCovers N m_all mr
  have GCodeRoots := ok_coderoots (P := l.prog) (w := w) (mg := mg) (base := base) FCodeRoots
  have GReqCode := ok_reqcode FReqCode GPfxForm cPfxForm GCodeRoots cCodeRoots GCodeForm cCodeForm pfI N
  have GReqCodes := ok_reqcodes FReqCodes GReqCode cReqCode GCodeRoots cCodeRoots N
  have GJoinedAll := ok_joinedall FJoinedAll GReqBase cReqBase GReqCodes cReqCodes GLowest cLowest N mr
  have GMetAll := ok_metall FMetAll GReqBase cReqBase GReqCodes cReqCodes GHighest cHighest
  have GFiner := ok_isfiner FFiner GLowest cLowest
  have GRefines := ok_refines FRefines GReqBase cReqBase GReqCodes cReqCodes GFiner cFiner
  have GPrefixIn := ok_prefixin FPrefixIn GReqBase cReqBase GReqCode cReqCode GCodeRoots cCodeRoots GReqStream cReqStream GUnder cUnder
  have GJoined := ok_joined (fun_mk (st := sJoined) lJ cJ kJ) GJoinedAll cJoinedAll
  have GMet := ok_met (fun_mk (st := sMet) lM cM kM) GMetAll cMetAll
  have mJ := PySem.W.mg_of X G aJ
  have mM := PySem.W.mg_of X G aM
  have GDice := ok_dice (P := l.prog) (w := w) (base := base) FDice N.len m_abs N.int m_max
  have GPull := ok_pull (P := l.prog) (w := w) (mg := mg) (base := base) FPull
  have GWord := ok_word FWord GPull cPull m_range
  have GLNormal := ok_lnormal (P := l.prog) (w := w) (base := base) FLNormal N.len m_range
  have GLStream := ok_lstream FLStream GPull cPull GWord cWord GLNormal cLNormal
  have GLBeg := ok_lbeg (P := l.prog) (w := w) (base := base) FLBeg N.len
  have GLUnder := ok_lunder FLUnder GLBeg cLBeg N.len
  have GLAbove := ok_lisabove (P := l.prog) (w := w) (base := base) FLAbove N.len
  have GLonger := ok_longer (P := l.prog) (w := w) (mg := mg) (base := base) FLonger
  have GChildren := ok_children FChildren GLonger cLonger
  have GLCode := ok_lcode FLCode GPull cPull GChildren cChildren N m_range m_min m_sorted
  have GLBase := ok_base FLBase GPull cPull
  have GLInner := ok_linner (P := l.prog) (w := w) (base := base) FLInner N m_range m_set m_sorted
  have GByInner := ok_byinner FByInner GChildren cChildren N m_range m_sorted
  have GLRefines := ok_lrefines FLRefines GLAbove cLAbove
  have GCodesRight := ok_codesright FCodesRight GLInner cLInner GByInner cByInner GJoinedAll cJoinedAll GMetAll cMetAll GRefines cRefines GLRefines cLRefines GJoined mJ kJ GMet mM kM N m_repr m_set m_sorted
  have GStreamsRight := ok_streamsright FStreamsRight GJoinedAll cJoinedAll GLStream cLStream GLUnder cLUnder GPrefixIn cPrefixIn GLAbove cLAbove m_range
  exact ok_law (fun_mk (st := sLaw) lW cW kW) GDice cDice GLBase cLBase GPull cPull GLCode cLCode GCodesRight cCodesRight GStreamsRight cStreamsRight GPrefixIn cPrefixIn GJoined mJ kJ GMet mM kM N m_range m_max m_min m_sorted m_list
end
end Vf


set_option Elab.async false
open PySem PySem.W PyProof.Rows
set_option maxRecDepth 100000 in
set_option maxHeartbeats 0 in
theorem PySem.Challenge.cw_prefixtable_k09_joins_and_meets_holds : PySem.Challenge.rw_prefixtable_k09_joins_and_meets.Holds := by
  w_on; o_law; k_head; (case hw => w_witness2)
  k_fill
  refine VG.walkG (l := PySem.Challenge.rw_prefixtable_k09_joins_and_meets) (n := 63) (k := 10) (x := "script") rfl (by decide) rfl ⟨rfl, by decide, by decide⟩ (fun w h Y => PySem.W.kIn_of Y) ?F
  case F =>
    intro w mg fa h Y KX G hmg
    refine' Exists.elim (Vf.def_mk (x := "is_integer") (st := Vf.sIsInt) (ps := ["value"]) KX G ?aIsInt ?lIsInt ?cIsInt ?kIsInt ?bIsInt) ?_
    (case aIsInt => k_is); (case lIsInt => k_is); (case cIsInt => k_is); (case kIsInt => k_is)
    (case bIsInt => exact fun fd F => F.binds fun _ _ _ _ _ _ us hl => match us, hl with | [_], _ => rfl)
    rintro fIsInt ⟨fdIsInt, FIsInt, cIsInt⟩
    refine' Exists.elim (Vf.def_mk (x := "is_integer_within") (st := Vf.sWithin) (ps := ["low", "high", "value"]) KX G ?aWithin ?lWithin ?cWithin ?kWithin ?bWithin) ?_
    (case aWithin => k_is); (case lWithin => k_is); (case cWithin => k_is); (case kWithin => k_is)
    (case bWithin => exact fun fd F => F.binds fun _ _ _ _ _ _ us hl => match us, hl with | [_, _, _], _ => rfl)
    rintro fWithin ⟨fdWithin, FWithin, cWithin⟩
    refine' Exists.elim (Vf.def_mk (x := "require_number") (st := Vf.sReqNum) (ps := ["low", "high", "number"]) KX G ?aReqNum ?lReqNum ?cReqNum ?kReqNum ?bReqNum) ?_
    (case aReqNum => k_is); (case lReqNum => k_is); (case cReqNum => k_is); (case kReqNum => k_is)
    (case bReqNum => exact fun fd F => F.binds fun _ _ _ _ _ _ us hl => match us, hl with | [_, _, _], _ => rfl)
    rintro fReqNum ⟨fdReqNum, FReqNum, cReqNum⟩
    refine' Exists.elim (Vf.def_mk (x := "require_base") (st := Vf.sReqBase) (ps := ["base"]) KX G ?aReqBase ?lReqBase ?cReqBase ?kReqBase ?bReqBase) ?_
    (case aReqBase => k_is); (case lReqBase => k_is); (case cReqBase => k_is); (case kReqBase => k_is)
    (case bReqBase => exact fun fd F => F.binds fun _ _ _ _ _ _ us hl => match us, hl with | [_], _ => rfl)
    rintro fReqBase ⟨fdReqBase, FReqBase, cReqBase⟩
    refine' Exists.elim (Vf.def_mk (x := "has_word_form") (st := Vf.sWordForm) (ps := ["base", "value"]) KX G ?aWordForm ?lWordForm ?cWordForm ?kWordForm ?bWordForm) ?_
    (case aWordForm => k_is); (case lWordForm => k_is); (case cWordForm => k_is); (case kWordForm => k_is)
    (case bWordForm => exact fun fd F => F.binds fun _ _ _ _ _ _ us hl => match us, hl with | [_, _], _ => rfl)
    rintro fWordForm ⟨fdWordForm, FWordForm, cWordForm⟩
    refine' Exists.elim (Vf.def_mk (x := "has_prefix_form") (st := Vf.sPfxForm) (ps := ["base", "roots", "value"]) KX G ?aPfxForm ?lPfxForm ?cPfxForm ?kPfxForm ?bPfxForm) ?_
    (case aPfxForm => k_is); (case lPfxForm => k_is); (case cPfxForm => k_is); (case kPfxForm => k_is)
    (case bPfxForm => exact fun fd F => F.binds fun _ _ _ _ _ _ us hl => match us, hl with | [_, _, _], _ => rfl)
    rintro fPfxForm ⟨fdPfxForm, FPfxForm, cPfxForm⟩
    refine' Exists.elim (Vf.def_mk (x := "is_above") (st := Vf.sPIsAbove) (ps := ["upper", "lower"]) KX G ?aPAbove ?lPAbove ?cPAbove ?kPAbove ?bPAbove) ?_
    (case aPAbove => k_is); (case lPAbove => k_is); (case cPAbove => k_is); (case kPAbove => k_is)
    (case bPAbove => exact fun fd F => F.binds fun _ _ _ _ _ _ us hl => match us, hl with | [_, _], _ => rfl)
    rintro fPAbove ⟨fdPAbove, FPAbove, cPAbove⟩
    refine' Exists.elim (Vf.def_mk (x := "lowest") (st := Vf.sLowest) (ps := ["prefixes"]) KX G ?aLowest ?lLowest ?cLowest ?kLowest ?bLowest) ?_
    (case aLowest => k_is); (case lLowest => k_is); (case cLowest => k_is); (case kLowest => k_is)
    (case bLowest => exact fun fd F => F.binds fun _ _ _ _ _ _ us hl => match us, hl with | [_], _ => rfl)
    rintro fLowest ⟨fdLowest, FLowest, cLowest⟩
    refine' Exists.elim (Vf.def_mk (x := "highest") (st := Vf.sHighest) (ps := ["prefixes"]) KX G ?aHighest ?lHighest ?cHighest ?kHighest ?bHighest) ?_
    (case aHighest => k_is); (case lHighest => k_is); (case cHighest => k_is); (case kHighest => k_is)
    (case bHighest => exact fun fd F => F.binds fun _ _ _ _ _ _ us hl => match us, hl with | [_], _ => rfl)
    rintro fHighest ⟨fdHighest, FHighest, cHighest⟩
    refine' Exists.elim (Vf.def_mk (x := "has_stream_form") (st := Vf.sStreamForm) (ps := ["base", "roots", "value"]) KX G ?aStreamForm ?lStreamForm ?cStreamForm ?kStreamForm ?bStreamForm) ?_
    (case aStreamForm => k_is); (case lStreamForm => k_is); (case cStreamForm => k_is); (case kStreamForm => k_is)
    (case bStreamForm => exact fun fd F => F.binds fun _ _ _ _ _ _ us hl => match us, hl with | [_, _, _], _ => rfl)
    rintro fStreamForm ⟨fdStreamForm, FStreamForm, cStreamForm⟩
    refine' Exists.elim (Vf.def_mk (x := "require_stream") (st := Vf.sReqStream) (ps := ["base", "roots", "stream"]) KX G ?aReqStream ?lReqStream ?cReqStream ?kReqStream ?bReqStream) ?_
    (case aReqStream => k_is); (case lReqStream => k_is); (case cReqStream => k_is); (case kReqStream => k_is)
    (case bReqStream => exact fun fd F => F.binds fun _ _ _ _ _ _ us hl => match us, hl with | [_, _, _], _ => rfl)
    rintro fReqStream ⟨fdReqStream, FReqStream, cReqStream⟩
    refine' Exists.elim (Vf.def_mk (x := "shortest_period") (st := Vf.sShortest) (ps := ["period"]) KX G ?aShort ?lShort ?cShort ?kShort ?bShort) ?_
    (case aShort => k_is); (case lShort => k_is); (case cShort => k_is); (case kShort => k_is)
    (case bShort => exact fun fd F => F.binds fun _ _ _ _ _ _ us hl => match us, hl with | [_], _ => rfl)
    rintro fShort ⟨fdShort, FShort, cShort⟩
    refine' Exists.elim (Vf.def_mk (x := "leading_word") (st := Vf.sLead) (ps := ["stream", "count"]) KX G ?aLead ?lLead ?cLead ?kLead ?bLead) ?_
    (case aLead => k_is); (case lLead => k_is); (case cLead => k_is); (case kLead => k_is)
    (case bLead => exact fun fd F => F.binds fun _ _ _ _ _ _ us hl => match us, hl with | [_, _], _ => rfl)
    rintro fLead ⟨fdLead, FLead, cLead⟩
    refine' Exists.elim (Vf.def_mk (x := "is_under") (st := Vf.sIsUnder) (ps := ["stream", "prefix"]) KX G ?aUnder ?lUnder ?cUnder ?kUnder ?bUnder) ?_
    (case aUnder => k_is); (case lUnder => k_is); (case cUnder => k_is); (case kUnder => k_is)
    (case bUnder => exact fun fd F => F.binds fun _ _ _ _ _ _ us hl => match us, hl with | [_, _], _ => rfl)
    rintro fUnder ⟨fdUnder, FUnder, cUnder⟩
    refine' Exists.elim (Vf.def_mk (x := "start_behind") (st := Vf.sStartB) (ps := ["base", "word"]) KX G ?aStartB ?lStartB ?cStartB ?kStartB ?bStartB) ?_
    (case aStartB => k_is); (case lStartB => k_is); (case cStartB => k_is); (case kStartB => k_is)
    (case bStartB => exact fun fd F => F.binds fun _ _ _ _ _ _ us hl => match us, hl with | [_, _], _ => rfl)
    rintro fStartB ⟨fdStartB, FStartB, cStartB⟩
    refine' Exists.elim (Vf.def_mk (x := "covers") (st := Vf.sCovers) (ps := ["base", "roots", "prefixes"]) KX G ?aCovers ?lCovers ?cCovers ?kCovers ?bCovers) ?_
    (case aCovers => k_is); (case lCovers => k_is); (case cCovers => k_is); (case kCovers => k_is)
    (case bCovers => exact fun fd F => F.binds fun _ _ _ _ _ _ us hl => match us, hl with | [_, _, _], _ => rfl)
    rintro fCovers ⟨fdCovers, FCovers, cCovers⟩
    refine' Exists.elim (Vf.def_mk (x := "has_code_form") (st := Vf.sCodeForm) (ps := ["base", "roots", "value"]) KX G ?aCodeForm ?lCodeForm ?cCodeForm ?kCodeForm ?bCodeForm) ?_
    (case aCodeForm => k_is); (case lCodeForm => k_is); (case cCodeForm => k_is); (case kCodeForm => k_is)
    (case bCodeForm => exact fun fd F => F.binds fun _ _ _ _ _ _ us hl => match us, hl with | [_, _, _], _ => rfl)
    rintro fCodeForm ⟨fdCodeForm, FCodeForm, cCodeForm⟩
    refine' Exists.elim (Vf.def_mk (x := "require_code") (st := Vf.sReqCode) (ps := ["base", "code"]) KX G ?aReqCode ?lReqCode ?cReqCode ?kReqCode ?bReqCode) ?_
    (case aReqCode => k_is); (case lReqCode => k_is); (case cReqCode => k_is); (case kReqCode => k_is)
    (case bReqCode => exact fun fd F => F.binds fun _ _ _ _ _ _ us hl => match us, hl with | [_, _], _ => rfl)
    rintro fReqCode ⟨fdReqCode, FReqCode, cReqCode⟩
    refine' Exists.elim (Vf.def_mk (x := "require_codes") (st := Vf.sReqCodes) (ps := ["base", "codes"]) KX G ?aReqCodes ?lReqCodes ?cReqCodes ?kReqCodes ?bReqCodes) ?_
    (case aReqCodes => k_is); (case lReqCodes => k_is); (case cReqCodes => k_is); (case kReqCodes => k_is)
    (case bReqCodes => exact fun fd F => F.binds fun _ _ _ _ _ _ us hl => match us, hl with | [_, _], _ => rfl)
    rintro fReqCodes ⟨fdReqCodes, FReqCodes, cReqCodes⟩
    refine' Exists.elim (Vf.def_mk (x := "code_roots") (st := Vf.sCodeRoots) (ps := ["code"]) KX G ?aCodeRoots ?lCodeRoots ?cCodeRoots ?kCodeRoots ?bCodeRoots) ?_
    (case aCodeRoots => k_is); (case lCodeRoots => k_is); (case cCodeRoots => k_is); (case kCodeRoots => k_is)
    (case bCodeRoots => exact fun fd F => F.binds fun _ _ _ _ _ _ us hl => match us, hl with | [_], _ => rfl)
    rintro fCodeRoots ⟨fdCodeRoots, FCodeRoots, cCodeRoots⟩
    refine' Exists.elim (Vf.def_mk (x := "joined_all") (st := Vf.sJoinedAll) (ps := ["base", "codes"]) KX G ?aJoinedAll ?lJoinedAll ?cJoinedAll ?kJoinedAll ?bJoinedAll) ?_
    (case aJoinedAll => k_is); (case lJoinedAll => k_is); (case cJoinedAll => k_is); (case kJoinedAll => k_is)
    (case bJoinedAll => exact fun fd F => F.binds fun _ _ _ _ _ _ us hl => match us, hl with | [_, _], _ => rfl)
    rintro fJoinedAll ⟨fdJoinedAll, FJoinedAll, cJoinedAll⟩
    refine' Exists.elim (Vf.def_mk (x := "met_all") (st := Vf.sMetAll) (ps := ["base", "codes"]) KX G ?aMetAll ?lMetAll ?cMetAll ?kMetAll ?bMetAll) ?_
    (case aMetAll => k_is); (case lMetAll => k_is); (case cMetAll => k_is); (case kMetAll => k_is)
    (case bMetAll => exact fun fd F => F.binds fun _ _ _ _ _ _ us hl => match us, hl with | [_, _], _ => rfl)
    rintro fMetAll ⟨fdMetAll, FMetAll, cMetAll⟩
    refine' Exists.elim (Vf.def_mk (x := "refines") (st := Vf.sRefines) (ps := ["base", "first", "second"]) KX G ?aRefines ?lRefines ?cRefines ?kRefines ?bRefines) ?_
    (case aRefines => k_is); (case lRefines => k_is); (case cRefines => k_is); (case kRefines => k_is)
    (case bRefines => exact fun fd F => F.binds fun _ _ _ _ _ _ us hl => match us, hl with | [_, _, _], _ => rfl)
    rintro fRefines ⟨fdRefines, FRefines, cRefines⟩
    refine' Exists.elim (Vf.def_mk (x := "is_finer") (st := Vf.sIsFiner) (ps := ["first", "second"]) KX G ?aFiner ?lFiner ?cFiner ?kFiner ?bFiner) ?_
    (case aFiner => k_is); (case lFiner => k_is); (case cFiner => k_is); (case kFiner => k_is)
    (case bFiner => exact fun fd F => F.binds fun _ _ _ _ _ _ us hl => match us, hl with | [_, _], _ => rfl)
    rintro fFiner ⟨fdFiner, FFiner, cFiner⟩
    refine' Exists.elim (Vf.def_mk (x := "prefix_in") (st := Vf.sPrefixIn) (ps := ["base", "code", "stream"]) KX G ?aPrefixIn ?lPrefixIn ?cPrefixIn ?kPrefixIn ?bPrefixIn) ?_
    (case aPrefixIn => k_is); (case lPrefixIn => k_is); (case cPrefixIn => k_is); (case kPrefixIn => k_is)
    (case bPrefixIn => exact fun fd F => F.binds fun _ _ _ _ _ _ us hl => match us, hl with | [_, _, _], _ => rfl)
    rintro fPrefixIn ⟨fdPrefixIn, FPrefixIn, cPrefixIn⟩
    refine' Exists.elim (Vf.def_mk (x := "_law_dice") (st := Vf.sDice) (ps := ["script", "at"]) KX G ?aDice ?lDice ?cDice ?kDice ?bDice) ?_
    (case aDice => k_is); (case lDice => k_is); (case cDice => k_is); (case kDice => k_is)
    (case bDice => exact fun fd F => F.binds fun _ _ _ _ _ _ us hl => match us, hl with | [_, _], _ => rfl)
    rintro fDice ⟨fdDice, FDice, cDice⟩
    refine' Exists.elim (Vf.def_mk (x := "_law_pull") (st := Vf.sPull) (ps := ["die", "many"]) KX G ?aPull ?lPull ?cPull ?kPull ?bPull) ?_
    (case aPull => k_is); (case lPull => k_is); (case cPull => k_is); (case kPull => k_is)
    (case bPull => exact fun fd F => F.binds fun _ _ _ _ _ _ us hl => match us, hl with | [_, _], _ => rfl)
    rintro fPull ⟨fdPull, FPull, cPull⟩
    refine' Exists.elim (Vf.def_mk (x := "_law_word") (st := Vf.sWord) (ps := ["die", "base", "high"]) KX G ?aWord ?lWord ?cWord ?kWord ?bWord) ?_
    (case aWord => k_is); (case lWord => k_is); (case cWord => k_is); (case kWord => k_is)
    (case bWord => exact fun fd F => F.binds fun _ _ _ _ _ _ us hl => match us, hl with | [_, _, _], _ => rfl)
    rintro fWord ⟨fdWord, FWord, cWord⟩
    refine' Exists.elim (Vf.def_mk (x := "_law_normal") (st := Vf.sLNormal) (ps := ["root", "head", "period"]) KX G ?aLNormal ?lLNormal ?cLNormal ?kLNormal ?bLNormal) ?_
    (case aLNormal => k_is); (case lLNormal => k_is); (case cLNormal => k_is); (case kLNormal => k_is)
    (case bLNormal => exact fun fd F => F.binds fun _ _ _ _ _ _ us hl => match us, hl with | [_, _, _], _ => rfl)
    rintro fLNormal ⟨fdLNormal, FLNormal, cLNormal⟩
    refine' Exists.elim (Vf.def_mk (x := "_law_stream") (st := Vf.sLStream) (ps := ["die", "base", "wide", "high"]) KX G ?aLStream ?lLStream ?cLStream ?kLStream ?bLStream) ?_
    (case aLStream => k_is); (case lLStream => k_is); (case cLStream => k_is); (case kLStream => k_is)
    (case bLStream => exact fun fd F => F.binds fun _ _ _ _ _ _ us hl => match us, hl with | [_, _, _, _], _ => rfl)
    rintro fLStream ⟨fdLStream, FLStream, cLStream⟩
    refine' Exists.elim (Vf.def_mk (x := "_law_beginning") (st := Vf.sLBeg) (ps := ["stream", "many"]) KX G ?aLBeg ?lLBeg ?cLBeg ?kLBeg ?bLBeg) ?_
    (case aLBeg => k_is); (case lLBeg => k_is); (case cLBeg => k_is); (case kLBeg => k_is)
    (case bLBeg => exact fun fd F => F.binds fun _ _ _ _ _ _ us hl => match us, hl with | [_, _], _ => rfl)
    rintro fLBeg ⟨fdLBeg, FLBeg, cLBeg⟩
    refine' Exists.elim (Vf.def_mk (x := "_law_is_under") (st := Vf.sLUnder) (ps := ["stream", "prefix"]) KX G ?aLUnder ?lLUnder ?cLUnder ?kLUnder ?bLUnder) ?_
    (case aLUnder => k_is); (case lLUnder => k_is); (case cLUnder => k_is); (case kLUnder => k_is)
    (case bLUnder => exact fun fd F => F.binds fun _ _ _ _ _ _ us hl => match us, hl with | [_, _], _ => rfl)
    rintro fLUnder ⟨fdLUnder, FLUnder, cLUnder⟩
    refine' Exists.elim (Vf.def_mk (x := "_law_is_above") (st := Vf.sIsAbove) (ps := ["one", "other"]) KX G ?aLAbove ?lLAbove ?cLAbove ?kLAbove ?bLAbove) ?_
    (case aLAbove => k_is); (case lLAbove => k_is); (case cLAbove => k_is); (case kLAbove => k_is)
    (case bLAbove => exact fun fd F => F.binds fun _ _ _ _ _ _ us hl => match us, hl with | [_, _], _ => rfl)
    rintro fLAbove ⟨fdLAbove, FLAbove, cLAbove⟩
    refine' Exists.elim (Vf.def_mk (x := "_law_longer") (st := Vf.sLonger) (ps := ["prefix", "word"]) KX G ?aLonger ?lLonger ?cLonger ?kLonger ?bLonger) ?_
    (case aLonger => k_is); (case lLonger => k_is); (case cLonger => k_is); (case kLonger => k_is)
    (case bLonger => exact fun fd F => F.binds fun _ _ _ _ _ _ us hl => match us, hl with | [_, _], _ => rfl)
    rintro fLonger ⟨fdLonger, FLonger, cLonger⟩
    refine' Exists.elim (Vf.def_mk (x := "_law_children") (st := Vf.sChildren) (ps := ["base", "prefix"]) KX G ?aChildren ?lChildren ?cChildren ?kChildren ?bChildren) ?_
    (case aChildren => k_is); (case lChildren => k_is); (case cChildren => k_is); (case kChildren => k_is)
    (case bChildren => exact fun fd F => F.binds fun _ _ _ _ _ _ us hl => match us, hl with | [_, _], _ => rfl)
    rintro fChildren ⟨fdChildren, FChildren, cChildren⟩
    refine' Exists.elim (Vf.def_mk (x := "_law_code") (st := Vf.sLCode) (ps := ["die", "base", "wide", "inner"]) KX G ?aLCode ?lLCode ?cLCode ?kLCode ?bLCode) ?_
    (case aLCode => k_is); (case lLCode => k_is); (case cLCode => k_is); (case kLCode => k_is)
    (case bLCode => exact fun fd F => F.binds fun _ _ _ _ _ _ us hl => match us, hl with | [_, _, _, _], _ => rfl)
    rintro fLCode ⟨fdLCode, FLCode, cLCode⟩
    refine' Exists.elim (Vf.def_mk (x := "_law_base") (st := Vf.sLBase) (ps := ["die"]) KX G ?aLBase ?lLBase ?cLBase ?kLBase ?bLBase) ?_
    (case aLBase => k_is); (case lLBase => k_is); (case cLBase => k_is); (case kLBase => k_is)
    (case bLBase => exact fun fd F => F.binds fun _ _ _ _ _ _ us hl => match us, hl with | [_], _ => rfl)
    rintro fLBase ⟨fdLBase, FLBase, cLBase⟩
    refine' Exists.elim (Vf.def_mk (x := "_law_inner") (st := Vf.sLInner) (ps := ["code"]) KX G ?aLInner ?lLInner ?cLInner ?kLInner ?bLInner) ?_
    (case aLInner => k_is); (case lLInner => k_is); (case cLInner => k_is); (case kLInner => k_is)
    (case bLInner => exact fun fd F => F.binds fun _ _ _ _ _ _ us hl => match us, hl with | [_], _ => rfl)
    rintro fLInner ⟨fdLInner, FLInner, cLInner⟩
    refine' Exists.elim (Vf.def_mk (x := "_law_by_inner") (st := Vf.sByInner) (ps := ["base", "wide", "inner"]) KX G ?aByInner ?lByInner ?cByInner ?kByInner ?bByInner) ?_
    (case aByInner => k_is); (case lByInner => k_is); (case cByInner => k_is); (case kByInner => k_is)
    (case bByInner => exact fun fd F => F.binds fun _ _ _ _ _ _ us hl => match us, hl with | [_, _, _], _ => rfl)
    rintro fByInner ⟨fdByInner, FByInner, cByInner⟩
    refine' Exists.elim (Vf.def_mk (x := "_law_refines") (st := Vf.sLRefines) (ps := ["first", "second"]) KX G ?aLRefines ?lLRefines ?cLRefines ?kLRefines ?bLRefines) ?_
    (case aLRefines => k_is); (case lLRefines => k_is); (case cLRefines => k_is); (case kLRefines => k_is)
    (case bLRefines => exact fun fd F => F.binds fun _ _ _ _ _ _ us hl => match us, hl with | [_, _], _ => rfl)
    rintro fLRefines ⟨fdLRefines, FLRefines, cLRefines⟩
    refine' Exists.elim (Vf.def_mk (x := "_law_codes_right") (st := Vf.sCodesRight) (ps := ["base", "wide", "codes"]) KX G ?aCodesRight ?lCodesRight ?cCodesRight ?kCodesRight ?bCodesRight) ?_
    (case aCodesRight => k_is); (case lCodesRight => k_is); (case cCodesRight => k_is); (case kCodesRight => k_is)
    (case bCodesRight => exact fun fd F => F.binds fun _ _ _ _ _ _ us hl => match us, hl with | [_, _, _], _ => rfl)
    rintro fCodesRight ⟨fdCodesRight, FCodesRight, cCodesRight⟩
    refine' Exists.elim (Vf.def_mk (x := "_law_streams_right") (st := Vf.sStreamsRight) (ps := ["die", "base", "wide", "codes"]) KX G ?aStreamsRight ?lStreamsRight ?cStreamsRight ?kStreamsRight ?bStreamsRight) ?_
    (case aStreamsRight => k_is); (case lStreamsRight => k_is); (case cStreamsRight => k_is); (case kStreamsRight => k_is)
    (case bStreamsRight => exact fun fd F => F.binds fun _ _ _ _ _ _ us hl => match us, hl with | [_, _, _, _], _ => rfl)
    rintro fStreamsRight ⟨fdStreamsRight, FStreamsRight, cStreamsRight⟩
    refine' Exists.elim (Vf.cls_mk (P := PySem.Challenge.rw_prefixtable_k09_joins_and_meets.prog) KX G ?j_gC ?j_noSuper ?j_cls ?j_sa ?j_ga ?j_gg ?j_ov ?j_qi ?j_tk ?j_noV ?j_hdC ?j_iC ?j_tC ?j_any ?j_sup ?j_sI ?j_mro ?j_kC ?j_exC ?j_tyC ?j_top ?j_l1 ?j_c1 ?j_l2 ?j_fl ?j_fm ?j_l3) ?_
    (case j_gC => k_is)
    (case j_noSuper => k_is)
    (case j_cls => k_is)
    (case j_sa => k_is)
    (case j_ga => k_is)
    (case j_gg => k_is)
    (case j_ov => first | rfl | kernel_rfl)
    (case j_qi => first | rfl | kernel_rfl)
    (case j_tk => k_is)
    (case j_noV => k_is)
    (case j_hdC => k_is)
    (case j_iC => k_is)
    (case j_tC => k_is)
    (case j_any => k_is)
    (case j_sup => first | ks_is | rfl | kernel_rfl)
    (case j_sI => k_is)
    (case j_mro => k_is)
    (case j_kC => k_is)
    (case j_exC => k_is)
    (case j_tyC => k_is)
    (case j_top => decide +kernel)
    (case j_l1 => k_is)
    (case j_c1 => k_is)
    (case j_l2 => k_is)
    (case j_fl => rfl)
    (case j_fm => first | rfl | decide +kernel)
    (case j_l3 => k_is)
    rintro CN ⟨fI, num⟩
    refine' Exists.elim (⟨_, Vf.pfx_mk KX G ?gI ?eI ?kI ?bI ?tI⟩ : ∃ C, Vf.PfxTxt _ mg "InvalidCode" C) ?_
    (case gI => k_is); (case eI => first | rfl | kernel_rfl); (case kI => k_is); (case bI => k_is); (case tI => k_is)
    rintro CI pfI
    refine' Exists.elim (⟨_, Vf.pfx_mk KX G ?gS ?eS ?kS ?bS ?tS⟩ : ∃ C, Vf.PfxTxt _ mg "InvalidStream" C) ?_
    (case gS => k_is); (case eS => first | rfl | kernel_rfl); (case kS => k_is); (case bS => k_is); (case tS => k_is)
    rintro CS pfS
    have NN : Vf.Nm mg ∧ mg "range" = none ∧ mg "max" = none ∧ mg "min" = none ∧ mg "abs" = none ∧ mg "list" = none ∧ mg "repr" = none ∧ mg "set" = none ∧ mg "sorted" = none ∧ mg "all" = none ∧ mg "zip" = none ∧ ∃ t, mg "MAX_ROWS" = some (.int 5000 t) := by
      refine' Vf.nm_mk KX G ?z1 ?z2 ?z3 ?z4 ?z5 ?z6 ?z7 ?z8 ?z9 ?z10 ?z11 ?z12 ?z13 ?z14 ?z15 ?z16 ?y1 ?y2 ?y3 ?y4 ?y5
      (case z1 => k_is)
      (case z2 => k_is)
      (case z3 => k_is)
      (case z4 => k_is)
      (case z5 => k_is)
      (case z6 => k_is)
      (case z7 => k_is)
      (case z8 => k_is)
      (case z9 => k_is)
      (case z10 => k_is)
      (case z11 => k_is)
      (case z12 => k_is)
      (case z13 => k_is)
      (case z14 => k_is)
      (case z15 => k_is)
      (case z16 => k_is)
      (case y1 => k_is)
      (case y2 => k_is)
      (case y3 => k_is)
      (case y4 => k_is)
      (case y5 => k_is)
    refine' Vf.law_mk KX G hmg ?aJ ?lJ ?cJ ?kJ ?aM ?lM ?cM ?kM ?aW ?lW ?cW ?kW num pfI pfS NN FIsInt cIsInt FWithin cWithin FReqNum cReqNum FReqBase cReqBase FWordForm cWordForm FPfxForm cPfxForm FPAbove cPAbove FLowest cLowest FHighest cHighest FStreamForm cStreamForm FReqStream cReqStream FShort cShort FLead cLead FUnder cUnder FStartB cStartB FCovers cCovers FCodeForm cCodeForm FReqCode cReqCode FReqCodes cReqCodes FCodeRoots cCodeRoots FJoinedAll cJoinedAll FMetAll cMetAll FRefines cRefines FFiner cFiner FPrefixIn cPrefixIn FDice cDice FPull cPull FWord cWord FLNormal cLNormal FLStream cLStream FLBeg cLBeg FLUnder cLUnder FLAbove cLAbove FLonger cLonger FChildren cChildren FLCode cLCode FLBase cLBase FLInner cLInner FByInner cByInner FLRefines cLRefines FCodesRight cCodesRight FStreamsRight cStreamsRight
    (case aJ => k_is); (case lJ => k_is); (case cJ => k_is); (case kJ => k_is)
    (case aM => k_is); (case lM => k_is); (case cM => k_is); (case kM => k_is)
    (case aW => k_is); (case lW => k_is); (case cW => k_is); (case kW => k_is)


