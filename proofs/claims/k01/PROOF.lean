import PyProof.Rows.All
import Wide.All
import OpenK.AllK
import Wide.FinOn
import HandS.ForMost
import HandS.StrMore
import HandS.SortRule
import HandS.TupLe
import HandS.Conv
import KE.DataFind
import HandS.TryMany
import HandS.Lambda
import HandS.EndTab
import HandS.IsInst
import HandS.Wide
import HandS.WideMore
import HandS.ExcField
import HandS.ExcIs
import HandS.Style
import HandS.WordsExc
import HandS.Deep
import HandS.SetFor
import HandS.Flow
import PyProof.ReprRoads
import KE.KExcSuper
import KE.KNestM
import PySem.Challenge.RW_prefixtable_k01_digits_prefixes_streams
import KE.KRevSl
import PyProof.NeData
import PyProof.ReprBulk
import PyProof.Rows.ReprOcc
import HandS.Walk
import HandS.TupAny
set_option Elab.async false
set_option maxRecDepth 100000
set_option maxHeartbeats 4000000
set_option exponentiation.threshold 3000
/-! Streams made: the text by places, and rules of my own. -/
namespace Vf
open PySem L2
def top (i : Nat) : Stmt := PySem.Challenge.pw_prefixtable_k01_digits_prefixes_streams.main.body.getD i (.Pass ⟨0, 0, 0, 0⟩)
abbrev sIsInt : Stmt := top 3
abbrev sWithin : Stmt := top 4
abbrev sReqNum : Stmt := top 5
abbrev sReqBase : Stmt := top 12
abbrev sReqRoots : Stmt := top 13
abbrev sWordForm : Stmt := top 15
abbrev sPfxForm : Stmt := top 17
abbrev sIsStream : Stmt := top 19
abbrev sStreamForm : Stmt := top 20
abbrev sShortest : Stmt := top 21
abbrev sDice : Stmt := top 23
abbrev sPull : Stmt := top 24
abbrev sWord : Stmt := top 25
abbrev sLNormal : Stmt := top 26
abbrev sLStream : Stmt := top 27
abbrev sLBase : Stmt := top 28
abbrev sNoBase : Stmt := top 35
abbrev sErr : Stmt := top 38
abbrev sLaw : Stmt := top 40
abbrev sIsBase : Stmt := top 11
abbrev sIsWord : Stmt := top 14
abbrev sIsPrefix : Stmt := top 16
abbrev sOdd : Stmt := top 29
abbrev sBent : Stmt := top 30
abbrev sIsCount : Stmt := top 31
abbrev sIsDig : Stmt := top 32
abbrev sIsPlace : Stmt := top 33
abbrev sIsEnd : Stmt := top 34
abbrev sJudged : Stmt := top 36
abbrev sRefused : Stmt := top 37
abbrev sWritten : Stmt := top 39
abbrev sCIN : Stmt := top 1
/-! ### the dice: three ints in a list -/
structure DieV (d0 d1 d2 : Int) : Prop where
  p0 : 0 ≤ d0
  w0 : d0.natAbs < 2 ^ 2300
  p1 : 0 ≤ d1
  p2 : 0 ≤ d2
def dieL (d : Int × Int × Int) : List V := [.int d.1, .int d.2.1, .int d.2.2]
def DieOk (d : Int × Int × Int) : Prop := DieV d.1 d.2.1 d.2.2
/-- everything but a is as before -/
def Kp (a : Addr) (H H' : Hp) : Prop := ∀ b o, b ≠ a → H b = some o → H' b = some o
theorem Kp.refl (a : Addr) (H : Hp) : Kp a H H := fun _ _ _ h => h
theorem Kp.trans {a : Addr} {H H1 H2 : Hp} (x : Kp a H H1) (y : Kp a H1 H2) : Kp a H H2 := fun b o n h => y b o n (x b o n h)
theorem Kp.upd {a : Addr} {H : Hp} {o : HO} : Kp a H (upd H a o) := fun b u n h => by rw [upd_ne n]; exact h
theorem Kp.new {a p : Addr} {H : Hp} {o : HO} (h : H p = none) : Kp a H (L2.upd H p o) := fun b u _ e => by rw [upd_ne (ne_of_none e h)]; exact e
theorem Kp.same {a : Addr} {H H' : Hp} (e : Same H H') : Kp a H H' := fun b o _ h => e b o h
/-- _law_pull: a draw below many -/
def spPull : Sp := fun vs H Q _ => ∃ (a : Addr) (d : Int × Int × Int) (many : Int), vs = [.ref a, .int many] ∧ H a = some (.lst (dieL d)) ∧ DieOk d ∧ 1 ≤ many ∧ many ≤ 5000 ∧
  d.2.2 ≤ 1000000000 ∧ ∀ (r : Int) (d' : Int × Int × Int), DieOk d' → d'.2.2 ≤ d.2.2 + 1 → 0 ≤ r → r < many → Q (.int r) (upd H a (.lst (dieL d')))
theorem pull_bound (d1 d2 : Int) (p1 : 0 ≤ d1) (p2 : 0 ≤ d2) (hc : d2 ≤ 1000000000) :
    0 ≤ (d1 + 3266489917 * (d2 + 1)) % 36028797018963913 ∧ (d1 + 3266489917 * (d2 + 1)) % 36028797018963913 < 36028797018963913 ∧
    0 ≤ (d1 + 3266489917 * (d2 + 1)) % 36028797018963913 * ((d1 + 3266489917 * (d2 + 1)) % 36028797018963913) % 18014398509481951 ∧
    (d1 + 3266489917 * (d2 + 1)) % 36028797018963913 * ((d1 + 3266489917 * (d2 + 1)) % 36028797018963913) % 18014398509481951 < 18014398509481951 ∧
    ((d1 + 3266489917 * (d2 + 1)) % 36028797018963913 * ((d1 + 3266489917 * (d2 + 1)) % 36028797018963913) % 18014398509481951 * ((d1 + 3266489917 * (d2 + 1)) % 36028797018963913) + 668265263 * (d2 + 1) + d1 % 65521).natAbs < 2 ^ 120 := by
  generalize (d1 + 3266489917 * (d2 + 1)) % 36028797018963913 = one, Int.emod_nonneg (d1 + 3266489917 * (d2 + 1)) (show (36028797018963913 : Int) ≠ 0 by decide) = o0, Int.emod_lt_of_pos (d1 + 3266489917 * (d2 + 1)) (show (0 : Int) < 36028797018963913 by decide) = o1
  have t0 : 0 ≤ one * one % 18014398509481951 := Int.emod_nonneg _ (by decide)
  have t1 : one * one % 18014398509481951 < 18014398509481951 := Int.emod_lt_of_pos _ (by decide)
  generalize one * one % 18014398509481951 = two at t0 t1
  refine ⟨o0, o1, t0, t1, ?_⟩
  have b1 : (two * one).natAbs < 2 ^ 110 := wide_lt (a := 55) (b := 55) (by omega) (by omega)
  have b1' : 0 ≤ two * one := Int.mul_nonneg t0 o0
  generalize two * one = three at b1 b1'
  have m0 : 0 ≤ d1 % 65521 := Int.emod_nonneg _ (by decide)
  have m1 : d1 % 65521 < 65521 := Int.emod_lt_of_pos _ (by decide)
  have e : (2 : Nat) ^ 110 = 1298074214633706907132624082305024 := by decide
  have e' : (2 : Nat) ^ 120 = 1329227995784915872903807060280344576 := by decide
  omega
section
variable {P : Program} {w : World} {K : PySem.W.Frag} {mg : Str → Option Value} {base : Heap}
theorem scPull : FnScope ["die", "many", "found", "one", "two"] ["die", "many"] (defScope sPull) := ⟨rfl, rfl, rfl, by decide +kernel, rfl, by decide +kernel, by decide +kernel⟩
theorem ok_pull {f : Addr} {fd : FuncData} (F : Fun K "_law_pull" "_law_pull" sPull f fd) : FnOk P w K mg base CX0 1 f fd ["die", "many"] spPull := by
  refine F.ok scPull (fun vs H Q E h => ?_) (fun cdv A outer s H vs Q E hr h => ?_)
  · obtain ⟨a, d, many, rfl, _⟩ := h
    rfl
  · obtain ⟨a, ⟨d0, d1, d2⟩, many, rfl, ha, hd, h1, h2, hc, k⟩ := h
    have hc : d2 ≤ 1000000000 := hc
    have nd := scPull.nd
    refine ⟨_, pss_cons (ps_if (pt_cmpR op_gt (pe_ix ix_list (pv 0) pe_int (fun _ _ => rfl)) pe_int (nomark _))
        (pss_cons (ps_set (i := 2) nd rfl (Or.inl rfl) (pe_op op_mod (pe_ix ix_list (pv 0) pe_int (fun _ _ => rfl)) (pv 1)))
        (pss_cons (ps_asg (pe_op op_fdivW (pe_ix ix_list (pv 0) pe_int (fun _ _ => rfl)) (pv 1)) (pg_sub (pv 0) pe_int set_list))
        (pss_one (ps_ret (pv 2))))) pss_nil)
      (pss_cons (ps_asg (pe_op op_add (pe_ix ix_list (pv 0) pe_int (fun _ _ => rfl)) pe_int) (pg_sub (pv 0) pe_int set_list))
      (pss_cons (ps_set (i := 3) nd rfl (Or.inl rfl) (pe_op op_mod (pe_op op_add (pe_ix ix_list (pv 0) pe_int (fun _ _ => rfl)) (pe_op op_mul pe_int (pe_ix ix_list (pv 0) pe_int (fun _ _ => rfl)))) pe_int))
      (pss_cons (ps_set (i := 4) nd rfl (Or.inl rfl) (pe_op op_mul (pe_op op_mod (pe_op op_mul (pv 3) (pv 3)) pe_int) (pv 3)))
      (pss_cons (ps_set (i := 4) nd rfl (Or.inl rfl) (pe_op op_add (pe_op op_add (pv 4) (pe_op op_mul pe_int (pe_ix ix_list (pv 0) pe_int (fun _ _ => rfl)))) (pe_op op_mod (pe_ix ix_list (pv 0) pe_int (fun _ _ => rfl)) pe_int)))
      (pss_one (ps_ret (pe_op op_mod (pe_op op_fdiv (pe_op op_mod (pe_op op_mulW (pv 4) (pv 4)) pe_int) pe_int) (pv 1)))))))), ?_⟩
    obtain ⟨hp0, hw0, hp1, hp2⟩ := id hd
    have hp0 : 0 ≤ d0 := hp0
    have hp1 : 0 ≤ d1 := hp1
    have hp2 : 0 ≤ d2 := hp2
    have hw0 : d0.natAbs < 2 ^ 2300 := hw0
    have ix0 : atI (dieL (d0, d1, d2)) 0 = some (.int d0) := rfl
    have ix1 : atI (dieL (d0, d1, d2)) 1 = some (.int d1) := rfl
    have ix2 : atI (dieL (d0, d1, d2)) 2 = some (.int d2) := rfl
    refine ⟨_, rfl, a, _, _, _, rfl, rfl, SqL.of ha, ix0, _, _, rfl, rfl, _, rfl, ?_⟩
    refine ite2 (fun c => ?_) (fun c => ?_)
    · refine ⟨_, rfl, a, _, _, _, rfl, rfl, SqL.of ha, ix0, _, rfl, _, _, rfl, rfl, (by show (0 : Int) < many; omega), ?_⟩
      refine ⟨_, rfl, a, _, _, _, rfl, rfl, SqL.of ha, ix0, _, rfl, _, _, rfl, rfl, (wide_div (b := 13) (by omega) (by omega) (by omega) (by omega)), ?_⟩
      refine ⟨_, rfl, a, _, _, _, rfl, rfl, ha, rfl, ?_⟩
      refine ⟨_, rfl, ?_⟩
      have q := k (d0 % many) (d0 / many, d1, d2) ⟨Int.ediv_nonneg hp0 (by omega), ?_, hp1, hp2⟩ (by show d2 ≤ d2 + 1; omega) (Int.emod_nonneg _ (by omega)) (Int.emod_lt_of_pos _ (by omega))
      · exact q
      · show (d0 / many).natAbs < 2 ^ 2300
        refine wide_le (j := d0) (Int.ediv_nonneg hp0 (by omega)) (Int.ediv_le_self _ hp0) hw0
    · have hb : upd H a (.lst (dieL (d0, d1, d2 + 1))) a = some (.lst (dieL (d0, d1, d2 + 1))) := upd_same
      have jx0 : atI (dieL (d0, d1, d2 + 1)) 0 = some (.int d0) := rfl
      have jx1 : atI (dieL (d0, d1, d2 + 1)) 1 = some (.int d1) := rfl
      have jx2 : atI (dieL (d0, d1, d2 + 1)) 2 = some (.int (d2 + 1)) := rfl
      refine ⟨_, rfl, a, _, _, _, rfl, rfl, SqL.of ha, ix2, _, _, rfl, rfl, ?_⟩
      refine ⟨_, rfl, a, _, _, _, rfl, rfl, ha, rfl, ?_⟩
      have pos1 : (0 : Int) < 36028797018963913 := by decide
      have pos2 : (0 : Int) < 18014398509481951 := by decide
      have pos3 : (0 : Int) < 65521 := by decide
      have pos4 : (0 : Int) < 1125899906842597 := by decide
      refine ⟨_, rfl, a, _, _, _, rfl, rfl, SqL.of hb, jx1, _, rfl, a, _, _, _, rfl, rfl, SqL.of hb, jx2, _, _, rfl, rfl, .inl ⟨by decide, by decide⟩, _, _, rfl, rfl, _, _, rfl, rfl, pos1, ?_⟩
      -- one * one % .. * one
      obtain ⟨o0, o1, t0, t1, b2⟩ := pull_bound d1 d2 hp1 hp2 hc
      have one63 : (d1 + 3266489917 * (d2 + 1)) % 36028797018963913 < 2 ^ 64 := Int.lt_trans o1 (by decide)
      have one63' : -(2 ^ 64) < (d1 + 3266489917 * (d2 + 1)) % 36028797018963913 := Int.lt_of_lt_of_le (by decide) o0
      refine ⟨_, rfl, _, rfl, _, _, rfl, rfl, .inl ⟨one63', one63⟩, _, _, rfl, rfl, pos2, _, rfl, _, _, rfl, rfl, .inr ⟨one63', one63⟩, ?_⟩
      refine ⟨_, rfl, _, rfl, a, _, _, _, rfl, rfl, SqL.of hb, jx2, _, _, rfl, rfl, .inl ⟨by decide, by decide⟩, _, _, rfl, rfl, _, rfl, a, _, _, _, rfl, rfl, SqL.of hb, jx1, _, _, rfl, rfl, pos3, _, _, rfl, rfl, ?_⟩
      refine ⟨_, rfl, _, rfl, _, _, rfl, rfl, wide_mul (a := 120) (b := 120) b2 b2 (by decide) (by decide) (by decide), _, _, rfl, rfl, pos4, _, _, rfl, rfl, ⟨by decide, by decide⟩, _, rfl, _, _, rfl, rfl, (by show (0 : Int) < many; omega), ?_⟩
      exact k _ (d0, d1, d2 + 1) ⟨hp0, hw0, hp1, by show (0 : Int) ≤ d2 + 1; have : (0 : Int) ≤ d2 := hp2; omega⟩ (by show d2 + 1 ≤ d2 + 1; omega) (Int.emod_nonneg _ (by omega)) (Int.emod_lt_of_pos _ (by omega))
end
end Vf


set_option Elab.async false
set_option maxRecDepth 100000
set_option maxHeartbeats 4000000
set_option exponentiation.threshold 3000
namespace Vf
open PySem L2 SX
/-! ### digits as code points -/
/-- a word of the base -/
def IsW (b : Int) (l : List Nat) : Prop := ∀ c ∈ l, 48 ≤ c ∧ (c : Int) < 48 + b
theorem IsW.nil (b : Int) : IsW b [] := fun _ h => by cases h
theorem IsW.app {b : Int} {l m : List Nat} (h1 : IsW b l) (h2 : IsW b m) : IsW b (l ++ m) := fun c h => by
  rcases List.mem_append.mp h with h | h
  · exact h1 c h
  · exact h2 c h
theorem IsW.of {b : Int} {l m : List Nat} (h1 : IsW b l) (h : ∀ c ∈ m, c ∈ l) : IsW b m := fun c hc => h1 c (h c hc)
theorem str_empty : ("" : Str) = S [] := by decide +kernel
theorem s01234 : ("01234" : Str) = S [48, 49, 50, 51, 52] := by decide +kernel
/-- a def of the module as it is called -/
structure Cal (K : PySem.W.Frag) (mg : Str → Option Value) (x : Str) (f : Addr) (fd : FuncData) (ps : List Str) : Prop where
  mg : mg x = some (.ref f)
  kp : PySem.W.keepIn K (.ref f) = true
  b : Binds K fd ps []
def spBase : Sp := fun vs H Q _ => ∃ (a : Addr) (d : Int × Int × Int), vs = [.ref a] ∧ H a = some (.lst (dieL d)) ∧ DieOk d ∧ d.2.2 ≤ 1000000000 ∧
  ∀ (b : Int) (d' : Int × Int × Int) (H' : Hp), DieOk d' → d'.2.2 ≤ d.2.2 + 1 → 2 ≤ b → b ≤ 5 → Kp a H H' → H' a = some (.lst (dieL d')) → Q (.int b) H'
def spWord : Sp := fun vs H Q _ => ∃ (a : Addr) (d : Int × Int × Int) (base high : Int), vs = [.ref a, .int base, .int high] ∧ H a = some (.lst (dieL d)) ∧ DieOk d ∧ d.2.2 ≤ 999000000 ∧ 2 ≤ base ∧ base ≤ 5 ∧ 0 ≤ high ∧ high ≤ 100 ∧
  ∀ (l : List Nat) (d' : Int × Int × Int), DieOk d' → d'.2.2 ≤ d.2.2 + 1 + high → IsW base l → (l.length : Int) ≤ high → Q (.str (S l)) (upd H a (.lst (dieL d')))
section
variable {P : Program} {w : World} {K : PySem.W.Frag} {mg : Str → Option Value} {base : Heap}
theorem scBase : FnScope ["die"] ["die"] (defScope sLBase) := ⟨rfl, rfl, rfl, by decide +kernel, rfl, by decide +kernel, by decide +kernel⟩
theorem ok_base {f fP : Addr} {fd fdP : FuncData} (F : Fun K "_law_base" "_law_base" sLBase f fd) (GP : FnOk P w K mg base CX0 1 fP fdP ["die", "many"] spPull) (cP : Cal K mg "_law_pull" fP fdP ["die", "many"]) : FnOk P w K mg base CX0 2 f fd ["die"] spBase := by
  refine F.ok scBase (fun vs H Q E h => ?_) (fun cdv A outer s H vs Q E hr h => ?_)
  · obtain ⟨a, d, rfl, _⟩ := h
    rfl
  · obtain ⟨a, d, rfl, ha, hd, hc, k⟩ := h
    refine ⟨_, pss_one (ps_ret (pe_ix ix_list (pe_lst (pa_cons pe_int (pa_cons pe_int (pa_cons pe_int (pa_cons pe_int (pa_cons pe_int (pa_cons pe_int (pa_cons pe_int pa_nil))))))))
      (pe_call GP hr rfl cP.mg cP.kp cP.b .nil pass0 (pa_cons (pv 0) (pa_cons pe_int pa_nil))) (fun _ _ => rfl))), ?_⟩
    refine ⟨by decide, fun p hp => ?_⟩
    have npa : a ≠ p := ne_of_none ha hp
    refine ⟨_, rfl, a, d, _, rfl, by rw [upd_ne npa]; exact ha, hd, by decide, by decide, hc, fun r d' hd' hc' r0 r1 => ?_⟩
    obtain ⟨v, hv, v2, v5⟩ : ∃ v : Int, atI ([.int 2, .int 2, .int 2, .int 3, .int 3, .int 4, .int 5] : List V) r = some (.int v) ∧ 2 ≤ v ∧ v ≤ 5 := by
      have : r = 0 ∨ r = 1 ∨ r = 2 ∨ r = 3 ∨ r = 4 ∨ r = 5 ∨ r = 6 := by omega
      rcases this with e | e | e | e | e | e | e <;> subst e <;> exact ⟨_, rfl, by decide, by decide⟩
    refine ⟨p, _, r, _, rfl, rfl, SqL.of (by rw [upd_ne npa.symm, upd_same]), hv, ?_⟩
    exact k v d' _ hd' hc' v2 v5 ((Kp.new hp).trans Kp.upd) upd_same
theorem scWord : FnScope ["die", "base", "high", "word", "turn"] ["die", "base", "high"] (defScope sWord) := ⟨rfl, rfl, rfl, by decide +kernel, rfl, by decide +kernel, by decide +kernel⟩
theorem upd_upd' {H : Hp} {a : Addr} {o o' : HO} : upd (upd H a o) a o' = upd H a o' := by
  funext b
  by_cases h : b = a
  · subst h
    rw [upd_same, upd_same]
  · rw [upd_ne h, upd_ne h, upd_ne h]
theorem ok_word {f fP : Addr} {fd fdP : FuncData} (F : Fun K "_law_word" "_law_word" sWord f fd) (GP : FnOk P w K mg base CX0 1 fP fdP ["die", "many"] spPull) (cP : Cal K mg "_law_pull" fP fdP ["die", "many"]) (mr : mg "range" = none) : FnOk P w K mg base CX0 2 f fd ["die", "base", "high"] spWord := by
  refine F.ok scWord (fun vs H Q E h => ?_) (fun cdv A outer s H vs Q E hr h => ?_)
  · obtain ⟨a, d, b, hi, rfl, _⟩ := h
    rfl
  · obtain ⟨a, d, b, hi, rfl, ha, hd, hc, hb2, hb5, hh0, hh1, k⟩ := h
    have nd := scWord.nd
    refine ⟨_, pss_cons (ps_set (i := 3) nd rfl (.inl rfl) pe_str)
      (pss_cons (ps_for PassesOwn.never rfl (pi_range1 rfl mr (pa_cons (pe_call GP hr rfl cP.mg cP.kp cP.b .nil pass0 (pa_cons (pv 0) (pa_cons (pe_op op_add (pv 2) pe_int) pa_nil))) pa_nil)) (pg_name (i := 4) nd rfl (.inl rfl))
        (pss_one (ps_set (i := 3) nd rfl (.inl rfl) (pe_op op_add_str (pv 3) (pe_ix ix_str pe_str (pe_call GP hr rfl cP.mg cP.kp cP.b .nil pass0 (pa_cons (pv 0) (pa_cons (pv 1) pa_nil))) (fun _ _ => rfl))))))
      (pss_one (ps_ret (pv 3)))), ?_⟩
    refine ⟨_, rfl, _, rfl, _, _, rfl, rfl, a, d, _, rfl, ha, hd, by omega, by omega, by omega, fun r d1 hd1 hc1 r0 r1 => ?_⟩
    refine ⟨r, rfl, by omega, by omega, for_range (n := r.toNat) (fun i σ H2 => ∃ (l : List Nat) (d2 : Int × Int × Int) (t : Option V), σ = [some (.ref a), some (.int b), some (.int hi), some (.str (S l)), t] ∧ H2 = upd H a (.lst (dieL d2)) ∧ DieOk d2 ∧ d2.2.2 ≤ d.2.2 + 1 + i ∧ IsW b l ∧ l.length ≤ i) ?_ ?_ ?_⟩
    · exact ⟨[], d1, none, by rw [← str_empty]; rfl, rfl, hd1, by omega, .nil _, Nat.le_refl _⟩
    · rintro i σ H2 hi2 ⟨l, d2, t, rfl, rfl, hd2, hc2, hw, hl⟩
      have hil : (i : Int) < r := by omega
      refine ⟨_, rfl, _, rfl, _, rfl, a, d2, b, rfl, upd_same, hd2, by omega, by omega, by omega, fun q d3 hd3 hc3 q0 q1 => ?_⟩
      obtain ⟨c, hc', c0, c1⟩ : ∃ c : Nat, atI (("01234" : Str).cps.toList) q = some c ∧ 48 ≤ c ∧ (c : Int) < 48 + b := by
        rw [s01234]
        have : q = 0 ∨ q = 1 ∨ q = 2 ∨ q = 3 ∨ q = 4 := by omega
        rcases this with e | e | e | e | e <;> subst e <;> exact ⟨_, rfl, by decide, by omega⟩
      refine ⟨_, q, c, rfl, rfl, by decide +kernel, hc', S l, S [c], rfl, rfl, ?_, ?_⟩
      · rw [S_len, S_len]
        exact Nat.le_trans (show l.length + 1 ≤ 1000 by omega) (by decide)
      · rw [S_cat, upd_upd']
        refine ⟨l ++ [c], d3, _, rfl, rfl, hd3, by omega, hw.app (fun x hx => ?_), by rw [List.length_append]; show l.length + 1 ≤ i + 1; omega⟩
        rw [List.mem_singleton.mp hx]
        exact ⟨c0, c1⟩
    · rintro σ H2 ⟨l, d2, t, rfl, rfl, hd2, hc2, hw, hl⟩
      exact ⟨_, rfl, k l d2 hd2 (by omega) hw (by omega)⟩
end
end Vf


set_option Elab.async false
set_option maxRecDepth 100000
set_option maxHeartbeats 4000000
set_option exponentiation.threshold 3000
namespace Vf
open PySem L2 SX
section
variable {X : Cx}
def CPowB (i j : Int) : Prop := 0 ≤ j ∧ (Builtin.Int.intBits i : Int) * j ≤ 2 ^ 27
/-- ** of a great base, as the size of the power allows -/
theorem op_powB : OpR X (binaryOp .Pow) (rI CPowB fun i j => .int (i ^ j.toNat)) := opI fun _ _ _ _ _ _ _ hc q => PyProof.Rows.pow_int hc.1 hc.2 q
end
/-- _law_dice: a new die -/
def spDice (K : PySem.W.Frag) : Sp := fun vs H Q _ => ∃ (a : Addr) (ns : List Int) (at' : Nat), vs = [.ref a, .int at'] ∧ SqL K H a (ns.map V.int) ∧ ns.length ≤ 63 ∧ at' ≤ 100 ∧
  ∀ (p : Addr) (d' : Int × Int × Int), DieOk d' → d'.2.2 = 0 → H p = none → Q (.ref p) (upd H p (.lst (dieL d')))
theorem big660 : (((10 : Int) ^ (60 : Int).toNat) ^ (11 : Int).toNat).natAbs < 2 ^ 2300 := by decide +kernel
theorem pos660 : (0 : Int) < ((10 : Int) ^ (60 : Int).toNat) ^ (11 : Int).toNat := by decide +kernel
section
variable {P : Program} {w : World} {K : PySem.W.Frag} {mg : Str → Option Value} {base : Heap}
theorem scDice : FnScope ["script", "at", "cell", "great", "mixed"] ["script", "at"] (defScope sDice) := ⟨rfl, rfl, rfl, by decide +kernel, rfl, by decide +kernel, by decide +kernel⟩
theorem dice_end {g at' : Int} {b : Int} (hg0 : 0 ≤ g) (hg : g < ((10 : Int) ^ (60 : Int).toNat) ^ (11 : Int).toNat) :
    DieOk ((if g - 10 ^ (18 : Int).toNat + 1 > 0 then g - 10 ^ (18 : Int).toNat + 1 else 0), (g * 2862933555777941757 + 3037000493 * at' + 7 * b) % 72057594037927931, 0) := by
  have h18 : (0 : Int) < 10 ^ (18 : Int).toNat := by decide +kernel
  have h1 : (1 : Int) ≤ 10 ^ (18 : Int).toNat := by decide +kernel
  have hbig := big660
  generalize ((10 : Int) ^ (60 : Int).toNat) ^ (11 : Int).toNat = N at hg hbig
  generalize (10 : Int) ^ (18 : Int).toNat = M at h18 h1
  refine ⟨?_, ?_, Int.emod_nonneg _ (by decide), Int.le_refl _⟩
  · show 0 ≤ (if g - M + 1 > 0 then g - M + 1 else 0)
    split <;> omega
  · show (if g - M + 1 > 0 then g - M + 1 else 0).natAbs < 2 ^ 2300
    refine wide_le (j := N) ?_ ?_ hbig
    · split <;> omega
    · split <;> omega
theorem ok_dice {f : Addr} {fd : FuncData} (F : Fun K "_law_dice" "_law_dice" sDice f fd) (ml : mg "len" = none) (ma : mg "abs" = none) (mi : mg "int" = none) (mm : mg "max" = none) : FnOk P w K mg base CX0 1 f fd ["script", "at"] (spDice K) := by
  refine F.ok scDice (fun vs H Q E h => ?_) (fun cdv A outer s H vs Q E hr h => ?_)
  · obtain ⟨a, ns, at', rfl, _⟩ := h
    rfl
  · obtain ⟨a, ns, at', rfl, ha, hl, hat, k⟩ := h
    have nd := scDice.nd
    refine ⟨_, pss_cons (ps_set (i := 2) nd rfl (.inl rfl) (pe_ifExp (pt_cmpR op_lt (pv 1) (pe_callB call_len_seq (by rfl) ml boot_len (pa_cons (pv 0) pa_nil)) (nomark _)) (pe_ix ix_list (pv 0) (pv 1) (fun _ _ => rfl)) (pe_op op_add (pe_op op_mul pe_int (pv 1)) pe_int)))
      (pss_cons (ps_set (i := 3) nd rfl (.inl rfl) (pe_op op_mod (pe_callB call_abs (by rfl) ma PyProof.Rows.boot_abs (pa_cons (pv 2) pa_nil)) (pe_op op_powB (pe_op op_pow pe_int pe_int) pe_int)))
      (pss_cons (ps_set (i := 4) nd rfl (.inl rfl) (pe_op op_mod (pe_op op_add (pe_op op_add (pe_op op_mul (pv 3) pe_int) (pe_op op_mul pe_int (pv 1))) (pe_op op_mul pe_int (pe_callTy call_int1 (by rfl) mi PyProof.Rows.boot_int (pa_cons (pe_cmpR op_lt (pv 2) pe_int (nomark _)) pa_nil)))) pe_int))
      (pss_one (ps_ret (pe_lst (pa_cons (pe_callB (call_max2 rfl) (by rfl) mm PyProof.Rows.boot_max (pa_cons pe_int (pa_cons (pe_op op_add (pe_op op_sub (pv 3) (pe_op op_pow pe_int pe_int)) pe_int) pa_nil))) (pa_cons (pv 4) (pa_cons pe_int pa_nil))))))))
      , ?_⟩
    have pos1 : (0 : Int) < 72057594037927931 := by decide
    refine ⟨_, rfl, _, rfl, a, _, rfl, .inl ha, _, _, rfl, rfl, _, rfl, ?_⟩
    refine ite2 (fun c => ?_) (fun c => ?_)
    · have c' : (at' : Int) < ((ns.map V.int).length : Int) := of_decide_eq_true c
      have c2 : at' < ns.length := by rw [List.length_map] at c'; omega
      refine ⟨_, rfl, _, rfl, a, _, _, V.int ns[at'], rfl, rfl, ha, atI_nat (by rw [List.getElem?_map, List.getElem?_eq_getElem c2]; rfl), ?_⟩
      refine ⟨_, rfl, _, rfl, _, _, rfl, rfl, ⟨by decide, by decide, by decide +kernel⟩, _, _, rfl, rfl, ⟨by decide, by decide +kernel⟩, _, _, rfl, rfl, pos660, ?_⟩
      refine ⟨_, rfl, _, _, rfl, rfl, .inr ⟨by decide, by decide⟩, _, rfl, _, _, rfl, rfl, .inl ⟨by decide, by decide⟩, _, _, rfl, rfl, _, rfl, _, _, rfl, rfl, .inr ⟨_, rfl, _, _, rfl, rfl, .inl ⟨by decide, by decide⟩, _, _, rfl, rfl, _, _, rfl, rfl, pos1, ?_⟩⟩
      refine ⟨_, rfl, _, _, rfl, rfl, ⟨by decide, by decide, by decide +kernel⟩, _, _, rfl, rfl, _, _, rfl, rfl, _, _, rfl, _, rfl, (by show 3 ≤ sizeLine; decide), fun p hp => ?_⟩
      exact k p _ (dice_end (Int.emod_nonneg _ (by have := pos660; omega)) (Int.emod_lt_of_pos _ pos660)) rfl hp
    · refine ⟨_, rfl, _, _, rfl, rfl, .inl ⟨by decide, by decide⟩, _, _, rfl, rfl, ?_⟩
      refine ⟨_, rfl, _, rfl, _, _, rfl, rfl, ⟨by decide, by decide, by decide +kernel⟩, _, _, rfl, rfl, ⟨by decide, by decide +kernel⟩, _, _, rfl, rfl, pos660, ?_⟩
      refine ⟨_, rfl, _, _, rfl, rfl, .inr ⟨by decide, by decide⟩, _, rfl, _, _, rfl, rfl, .inl ⟨by decide, by decide⟩, _, _, rfl, rfl, _, rfl, _, _, rfl, rfl, .inr ⟨_, rfl, _, _, rfl, rfl, .inl ⟨by decide, by decide⟩, _, _, rfl, rfl, _, _, rfl, rfl, pos1, ?_⟩⟩
      refine ⟨_, rfl, _, _, rfl, rfl, ⟨by decide, by decide, by decide +kernel⟩, _, _, rfl, rfl, _, _, rfl, rfl, _, _, rfl, _, rfl, (by show 3 ≤ sizeLine; decide), fun p hp => ?_⟩
      exact k p _ (dice_end (Int.emod_nonneg _ (by have := pos660; omega)) (Int.emod_lt_of_pos _ pos660)) rfl hp
end
end Vf


/-! # Words that repeat, and streams in normal form: the mathematics, over lists of numbers -/
namespace Vm
/-- the i-th of the endless repetition of q -/
def g (q : List Nat) (i : Nat) : Nat := q.getD (i % q.length) 0
/-- the i-th of h and then q again and again -/
def ev (h q : List Nat) (i : Nat) : Nat := if i < h.length then h.getD i 0 else g q (i - h.length)
theorem ev_lt {h q : List Nat} {i : Nat} (hi : i < h.length) : ev h q i = h.getD i 0 := if_pos hi
theorem ev_ge {h q : List Nat} {i : Nat} (hi : h.length ≤ i) : ev h q i = g q (i - h.length) := if_neg (by omega)
theorem g_add (q : List Nat) (i : Nat) : g q (i + q.length) = g q i := by unfold g; rw [Nat.add_mod_right]
theorem g_mul (q : List Nat) (i k : Nat) : g q (i + k * q.length) = g q i := by unfold g; rw [Nat.add_mul_mod_self_right]
theorem g_mod (q : List Nat) (i : Nat) : g q (i % q.length) = g q i := by unfold g; rw [Nat.mod_mod]
theorem g_lt {q : List Nat} {i : Nat} (h : i < q.length) : g q i = q.getD i 0 := by unfold g; rw [Nat.mod_eq_of_lt h]
theorem ext_getD {l m : List Nat} (hl : l.length = m.length) (h : ∀ i, i < l.length → l.getD i 0 = m.getD i 0) : l = m := by
  refine List.ext_getElem hl fun i h1 h2 => ?_
  have q := h i h1
  rw [List.getD_eq_getElem?_getD, List.getD_eq_getElem?_getD, List.getElem?_eq_getElem h1, List.getElem?_eq_getElem h2] at q
  exact q
/-- h and q are the normal form of f -/
structure Nf (f : Nat → Nat) (h q : List Nat) : Prop where
  ne : 0 < q.length
  is : ∀ i, ev h q i = f i
  prim : ∀ s m, 0 < s → s < q.length → ¬ ∀ i, m ≤ i → f (i + s) = f i
  trim : 0 < h.length → f (h.length - 1 + q.length) ≠ f (h.length - 1)
theorem Nf.per {f : Nat → Nat} {h q : List Nat} (n : Nf f h q) {i : Nat} (hi : h.length ≤ i) : f (i + q.length) = f i := by
  rw [← n.is, ← n.is, ev_ge hi, ev_ge (by omega), show i + q.length - h.length = i - h.length + q.length by omega, g_add]
theorem Nf.len {f : Nat → Nat} {h q h' q' : List Nat} (n : Nf f h q) (n' : Nf f h' q') : q.length ≤ q'.length := by
  refine Nat.le_of_not_lt fun hlt => n.prim q'.length h'.length n'.ne hlt fun i hi => n'.per hi
theorem Nf.hlen {f : Nat → Nat} {h q h' q' : List Nat} (n : Nf f h q) (n' : Nf f h' q') : h.length ≤ h'.length := by
  refine Nat.le_of_not_lt fun hlt => ?_
  have e : q.length = q'.length := Nat.le_antisymm (n.len n') (n'.len n)
  have z := n'.per (i := h.length - 1) (by omega)
  rw [← e] at z
  exact n.trim (by omega) z
theorem Nf.unique {f : Nat → Nat} {h q h' q' : List Nat} (n : Nf f h q) (n' : Nf f h' q') : h = h' ∧ q = q' := by
  have e : q.length = q'.length := Nat.le_antisymm (n.len n') (n'.len n)
  have e2 : h.length = h'.length := Nat.le_antisymm (n.hlen n') (n'.hlen n)
  refine ⟨ext_getD e2 fun i hi => ?_, ext_getD e fun i hi => ?_⟩
  · have z := (n.is i).trans (n'.is i).symm
    rw [ev_lt hi, ev_lt (by omega)] at z
    exact z
  · have z := (n.is (i + h.length)).trans (n'.is (i + h.length)).symm
    rw [ev_ge (by omega), ev_ge (by omega), e2, Nat.add_sub_cancel, g_lt hi, g_lt (by omega)] at z
    exact z
/-! ### periods -/
def Per (q : List Nat) (s : Nat) : Prop := ∀ i, g q (i + s) = g q i
theorem per_len (q : List Nat) : Per q q.length := fun i => g_add q i
theorem Per.mul {q : List Nat} {s : Nat} (p : Per q s) : ∀ k i, g q (i + k * s) = g q i
  | 0, i => by rw [Nat.zero_mul]; rfl
  | k + 1, i => by rw [Nat.succ_mul, ← Nat.add_assoc, p, Per.mul p k i]
/-- what holds from some place on holds from the start -/
theorem per_late {q : List Nat} {s m : Nat} (hq : 0 < q.length) (h : ∀ i, m ≤ i → g q (i + s) = g q i) : Per q s := fun i => by
  have z := h (i + m * q.length) (Nat.le_trans (Nat.le_mul_of_pos_right m hq) (Nat.le_add_left _ _))
  rw [show i + m * q.length + s = i + s + m * q.length by omega, g_mul, g_mul] at z
  exact z
theorem per_small {q : List Nat} {s : Nat} (h : ∀ i, i < q.length → g q (i + s) = g q i) (hq : 0 < q.length) : Per q s := fun i => by
  have z := h (i % q.length) (Nat.mod_lt _ hq)
  rw [g_mod] at z
  rw [← z]
  show q.getD ((i + s) % q.length) 0 = q.getD ((i % q.length + s) % q.length) 0
  rw [Nat.mod_add_mod]
/-- s is the least one -/
structure Least (q : List Nat) (s : Nat) : Prop where
  pos : 0 < s
  per : Per q s
  min : ∀ t, 0 < t → t < s → ¬ Per q t
theorem Least.unique {q : List Nat} {s t : Nat} (a : Least q s) (b : Least q t) : s = t := by
  rcases Nat.lt_trichotomy s t with h | h | h
  · exact (b.min s a.pos h a.per).elim
  · exact h
  · exact (a.min t b.pos h b.per).elim
theorem Least.le {q : List Nat} {s : Nat} (a : Least q s) (hq : 0 < q.length) : s ≤ q.length := Nat.le_of_not_lt fun h => a.min _ hq h (per_len q)
theorem Least.dvd {q : List Nat} {s n : Nat} (a : Least q s) (hn : Per q n) : n % s = 0 := by
  refine Classical.byContradiction fun h => ?_
  refine a.min (n % s) (by omega) (Nat.mod_lt _ a.pos) fun i => ?_
  have e : n % s + n / s * s = n := by rw [Nat.mul_comm]; exact Nat.mod_add_div n s
  have z := hn i
  rw [← a.per.mul (n / s) (i + n % s), Nat.add_assoc, e]
  exact z
theorem take_len {q : List Nat} {s : Nat} (h : s ≤ q.length) : (q.take s).length = s := by rw [List.length_take]; omega
theorem getD_take {q : List Nat} {s i : Nat} (h : i < s) : (q.take s).getD i 0 = q.getD i 0 := by
  rw [List.getD_eq_getElem?_getD, List.getD_eq_getElem?_getD, List.getElem?_take_of_lt h]
theorem getD_drop {q : List Nat} {s i : Nat} : (q.drop s).getD i 0 = q.getD (s + i) 0 := by
  rw [List.getD_eq_getElem?_getD, List.getD_eq_getElem?_getD, List.getElem?_drop]
theorem getD_app {l m : List Nat} {i : Nat} (h : i < l.length) : (l ++ m).getD i 0 = l.getD i 0 := by
  rw [List.getD_eq_getElem?_getD, List.getD_eq_getElem?_getD, List.getElem?_append_left h]
theorem getD_app2 {l m : List Nat} {i : Nat} (h : l.length ≤ i) : (l ++ m).getD i 0 = m.getD (i - l.length) 0 := by
  rw [List.getD_eq_getElem?_getD, List.getD_eq_getElem?_getD, List.getElem?_append_right h]
theorem Least.g {q : List Nat} {s : Nat} (a : Least q s) (hq : 0 < q.length) (i : Nat) : g (q.take s) i = g q i := by
  have hl := a.le hq
  have hlt := Nat.mod_lt i a.pos
  have e : i % s + i / s * s = i := by rw [Nat.mul_comm]; exact Nat.mod_add_div i s
  unfold Vm.g
  rw [take_len hl, getD_take hlt]
  have z := a.per.mul (i / s) (i % s)
  rw [e, g_lt (Nat.lt_of_lt_of_le hlt hl)] at z
  exact z.symm
/-- the tail has the least period -/
theorem Least.prim {q h : List Nat} {s : Nat} (a : Least q s) (hq : 0 < q.length) (t m : Nat) (h0 : 0 < t) (ht : t < s) : ¬ ∀ i, m ≤ i → ev h q (i + t) = ev h q i := fun z => by
  refine a.min t h0 ht (per_late (m := m) hq fun i hi => ?_)
  have y := z (i + h.length) (by omega)
  rw [ev_ge (by omega), ev_ge (by omega), Nat.add_sub_cancel, show i + h.length + t - h.length = i + t by omega] at y
  exact y
/-! ### the two searches for the least period -/
/-- by looking for the word in its double -/
theorem find_per {q : List Nat} {k : Nat} (hk : k ≤ q.length) (hq : 0 < q.length) : (((q ++ q).drop k).take q.length = q) ↔ Per q k := by
  have len : (((q ++ q).drop k).take q.length).length = q.length := by rw [List.length_take, List.length_drop, List.length_append]; omega
  have at_ : ∀ i, i < q.length → (((q ++ q).drop k).take q.length).getD i 0 = g q (i + k) := fun i hi => by
    rw [getD_take hi, getD_drop]
    by_cases h : k + i < q.length
    · rw [getD_app h, Nat.add_comm i k, g_lt h]
    · rw [getD_app2 (by omega), show i + k = (k + i - q.length) + q.length by omega, g_add, g_lt (by omega)]
  constructor
  · intro e
    refine per_small (fun i hi => ?_) hq
    rw [← at_ i hi, e, g_lt hi]
  · intro p
    refine ext_getD len fun i hi => ?_
    rw [len] at hi
    rw [at_ i hi, p i, g_lt hi]
/-- by repeating the beginning -/
theorem rep_get {l : List Nat} {k i : Nat} (h : i < k * l.length) : ((List.replicate k l).flatten).getD i 0 = g l i := by
  induction k generalizing i with
  | zero => rw [Nat.zero_mul] at h; omega
  | succ k ih =>
    rw [List.replicate_succ, List.flatten_cons]
    by_cases hl : i < l.length
    · rw [getD_app hl, g_lt hl]
    · have hl' : l.length ≤ i := by omega
      rw [getD_app2 hl', ih (by rw [Nat.succ_mul] at h; omega)]
      have z := g_add l (i - l.length)
      rw [Nat.sub_add_cancel hl'] at z
      exact z.symm
theorem rep_len {l : List Nat} {k : Nat} : ((List.replicate k l).flatten).length = k * l.length := by
  induction k with
  | zero => simp
  | succ k ih => rw [List.replicate_succ, List.flatten_cons, List.length_append, ih, Nat.succ_mul, Nat.add_comm]
theorem rep_per {q : List Nat} {s : Nat} (hs : 0 < s) (hsq : s ≤ q.length) : ((List.replicate (q.length / s) (q.take s)).flatten = q) ↔ (Per q s ∧ q.length % s = 0) := by
  have tl := take_len hsq
  constructor
  · intro e
    have el : q.length / s * s = q.length := by
      have z := congrArg List.length e
      rw [rep_len, tl] at z
      exact z
    have em : q.length % s = 0 := by
      have z := Nat.mod_add_div q.length s
      rw [Nat.mul_comm] at z
      omega
    refine ⟨?_, em⟩
    have at_ : ∀ i, g q i = g (q.take s) i := fun i => by
      have hq : 0 < q.length := by omega
      have hi := Nat.mod_lt i hq
      have z : q.getD (i % q.length) 0 = g (q.take s) (i % q.length) := by
        have y := rep_get (l := q.take s) (k := q.length / s) (i := i % q.length) (by rw [tl, el]; exact hi)
        rw [e] at y
        exact y
      show q.getD (i % q.length) 0 = _
      rw [z]
      unfold g
      rw [tl, Nat.mod_mod_of_dvd _ (Nat.dvd_of_mod_eq_zero em)]
    intro i
    have z := g_add (q.take s) i
    rw [tl] at z
    rw [at_, at_, z]
  · rintro ⟨p, em⟩
    have el : q.length / s * s = q.length := by
      have z := Nat.mod_add_div q.length s
      rw [Nat.mul_comm] at z
      omega
    refine ext_getD (by rw [rep_len, tl, el]) fun i hi => ?_
    rw [rep_len, tl, el] at hi
    rw [rep_get (by rw [tl, el]; exact hi)]
    have hlt := Nat.mod_lt i hs
    have e : i % s + i / s * s = i := by rw [Nat.mul_comm]; exact Nat.mod_add_div i s
    have z := p.mul (i / s) (i % s)
    rw [e, g_lt hi, g_lt (by omega)] at z
    unfold g
    rw [tl, getD_take hlt, z]
/-! ### turning the period -/
theorem g_rot {q : List Nat} {c : Nat} (hc : c ≤ q.length) (i : Nat) : g (q.drop c ++ q.take c) i = g q (i + c) := by
  have hl : (q.drop c ++ q.take c).length = q.length := by rw [List.length_append, List.length_drop, List.length_take]; omega
  by_cases hq : q.length = 0
  · have e : q = [] := List.length_eq_zero_iff.mp hq
    subst e
    simp [g]
  · have hi := Nat.mod_lt i (show 0 < q.length by omega)
    show (q.drop c ++ q.take c).getD (i % (q.drop c ++ q.take c).length) 0 = q.getD ((i + c) % q.length) 0
    rw [hl, ← Nat.mod_add_mod]
    generalize i % q.length = j at hi
    by_cases h : j < q.length - c
    · rw [getD_app (by rw [List.length_drop]; exact h), getD_drop, Nat.add_comm c j, Nat.mod_eq_of_lt (by omega)]
    · rw [getD_app2 (by rw [List.length_drop]; omega), List.length_drop, getD_take (by omega), Nat.mod_eq_sub_mod (by omega), Nat.mod_eq_of_lt (by omega)]
      congr 1
      omega
/-- one digit less in the head: the last of the head goes to the front of the period -/
theorem ev_less (l r : List Nat) (c : Nat) : ∀ i, ev l (c :: r) i = ev (l ++ [c]) (r ++ [c]) i := fun i => by
  have hl : (l ++ [c]).length = l.length + 1 := by simp
  have rot : ∀ j, g (r ++ [c]) j = g (c :: r) (j + 1) := fun j => g_rot (q := c :: r) (c := 1) (by simp) j
  rcases Nat.lt_trichotomy i l.length with h | h | h
  · rw [ev_lt h, ev_lt (by omega), getD_app h]
  · rw [ev_ge (by omega), ev_lt (by omega), getD_app2 (by omega), h, Nat.sub_self]
    unfold g
    rw [Nat.zero_mod]
    rfl
  · rw [ev_ge (by omega), ev_ge (by omega), rot, hl]
    congr 1
    omega
/-- the trimmed head and the turned period, t digits less -/
def trimH (h : List Nat) (t : Nat) : List Nat := h.take (h.length - t)
def turnQ (q : List Nat) (t : Nat) : List Nat := q.drop (q.length - t % q.length) ++ q.take (q.length - t % q.length)
theorem trimH_len {h : List Nat} {t : Nat} : (trimH h t).length = h.length - t := by unfold trimH; rw [List.length_take]; omega
theorem turnQ_len {q : List Nat} {t : Nat} : (turnQ q t).length = q.length := by unfold turnQ; rw [List.length_append, List.length_drop, List.length_take]; omega
theorem turn_g {q : List Nat} {t : Nat} (i : Nat) : g (turnQ q t) i = g q (i + (q.length - t % q.length)) := g_rot (Nat.sub_le _ _) i
/-- the digits that were taken off agree -/
def Agree (h q : List Nat) (t : Nat) : Prop := t ≤ h.length ∧ ∀ j, j < t → h.getD (h.length - 1 - j) 0 = q.getD (q.length - 1 - j % q.length) 0
theorem trim_ev {h q : List Nat} {t : Nat} (hq : 0 < q.length) (a : Agree h q t) (i : Nat) : ev (trimH h t) (turnQ q t) i = ev h q i := by
  obtain ⟨ht, ha⟩ := a
  by_cases h1 : i < h.length - t
  · rw [ev_lt (by rw [trimH_len]; exact h1), ev_lt (by omega)]
    exact getD_take h1
  · rw [ev_ge (by rw [trimH_len]; omega), trimH_len, turn_g]
    have hr := Nat.mod_lt t hq
    have et : t = t / q.length * q.length + t % q.length := by rw [Nat.mul_comm]; exact (Nat.div_add_mod t q.length).symm
    by_cases h2 : i < h.length
    · rw [ev_lt h2]
      have z := ha (h.length - 1 - i) (by omega)
      rw [show h.length - 1 - (h.length - 1 - i) = i by omega] at z
      rw [z]
      have hj := Nat.mod_lt (h.length - 1 - i) hq
      have ej : h.length - 1 - i = (h.length - 1 - i) / q.length * q.length + (h.length - 1 - i) % q.length := by rw [Nat.mul_comm]; exact (Nat.div_add_mod _ q.length).symm
      rw [← g_lt (show q.length - 1 - (h.length - 1 - i) % q.length < q.length by omega)]
      have m2 := g_mul q (q.length - 1 - (h.length - 1 - i) % q.length) (t / q.length - (h.length - 1 - i) / q.length)
      have le : (h.length - 1 - i) / q.length ≤ t / q.length := Nat.div_le_div_right (by omega)
      rw [Nat.sub_mul] at m2
      have le2 : (h.length - 1 - i) / q.length * q.length ≤ t / q.length * q.length := Nat.mul_le_mul_right _ le
      generalize t / q.length * q.length = T at *
      generalize (h.length - 1 - i) / q.length * q.length = J at *
      rw [← m2]
      congr 1
      omega
    · rw [ev_ge (by omega)]
      have m1 := g_mul q (i - (h.length - t) + (q.length - t % q.length)) (t / q.length)
      have m2 := g_mul q (i - h.length) (t / q.length + 1 + 0)
      have m3 : (t / q.length + 1 + 0) * q.length = t / q.length * q.length + q.length := by rw [Nat.add_zero, Nat.succ_mul]
      rw [m3] at m2
      generalize t / q.length * q.length = T at *
      have m4 := g_add q (i - h.length + T)
      have m5 : g q (i - (h.length - t) + (q.length - t % q.length)) = g q (i - h.length + (t + (q.length - t % q.length))) := by congr 1; omega
      rw [m5, show t + (q.length - t % q.length) = T + q.length by omega]
      exact m2
/-- the end of the trimming: a normal form -/
theorem trim_nf {h q : List Nat} {t : Nat} {f : Nat → Nat} (hf : ∀ i, ev h q i = f i) (hq : 0 < q.length) (a : Agree h q t) (stop : t < h.length → h.getD (h.length - 1 - t) 0 ≠ q.getD (q.length - 1 - t % q.length) 0)
    (prim : ∀ s m, 0 < s → s < q.length → ¬ ∀ i, m ≤ i → f (i + s) = f i) : Nf f (trimH h t) (turnQ q t) := by
  refine ⟨by rw [turnQ_len]; exact hq, fun i => (trim_ev hq a i).trans (hf i), by rw [turnQ_len]; exact prim, fun h0 => ?_⟩
  rw [trimH_len] at h0 ⊢
  rw [turnQ_len]
  have ht : t < h.length := by omega
  have e1 : f (h.length - t - 1) = h.getD (h.length - 1 - t) 0 := by
    rw [← hf, ev_lt (by omega)]
    congr 1
    omega
  have e2 : f (h.length - t - 1 + q.length) = q.getD (q.length - 1 - t % q.length) 0 := by
    have hr := Nat.mod_lt t hq
    rw [← hf, ← trim_ev hq a, ev_ge (by rw [trimH_len]; omega), trimH_len, turn_g]
    have z := g_add q (q.length - 1 - t % q.length)
    have y : g q (q.length - 1 - t % q.length) = q.getD (q.length - 1 - t % q.length) 0 := g_lt (by omega)
    rw [← y, ← z]
    congr 1
    omega
  rw [e1, e2]
  exact fun z => stop ht z.symm
/-- the same for the word that is taken off digit by digit -/
theorem last_nf {l r : List Nat} {f : Nat → Nat} (hf : ∀ i, ev l r i = f i) (hr : 0 < r.length) (prim : ∀ s m, 0 < s → s < r.length → ¬ ∀ i, m ≤ i → f (i + s) = f i)
    (stop : 0 < l.length → l.getD (l.length - 1) 0 ≠ r.getD (r.length - 1) 0) : Nf f l r := by
  refine ⟨hr, hf, prim, fun h0 => ?_⟩
  rw [← hf, ← hf, ev_lt (show l.length - 1 < l.length by omega), ev_ge (show l.length ≤ l.length - 1 + r.length by omega), show l.length - 1 + r.length - l.length = r.length - 1 by omega, g_lt (show r.length - 1 < r.length by omega)]
  exact fun z => stop h0 z.symm
/-! ### beginnings -/
def beg (h q : List Nat) (k many : Nat) : List Nat := (h ++ (List.replicate k q).flatten).take many
theorem beg_get {h q : List Nat} {k many i : Nat} (hk : many ≤ h.length + k * q.length) (hi : i < many) : (beg h q k many).getD i 0 = ev h q i := by
  unfold beg
  rw [getD_take hi]
  by_cases h1 : i < h.length
  · rw [getD_app h1, ev_lt h1]
  · rw [getD_app2 (by omega), ev_ge (by omega), rep_get (by omega)]
theorem beg_len {h q : List Nat} {k many : Nat} (hk : many ≤ h.length + k * q.length) : (beg h q k many).length = many := by
  unfold beg
  rw [List.length_take, List.length_append, rep_len]
  omega
theorem beg_eq {h q h' q' : List Nat} {k k' many : Nat} (hk : many ≤ h.length + k * q.length) (hk' : many ≤ h'.length + k' * q'.length) :
    beg h q k many = beg h' q' k' many ↔ ∀ i, i < many → ev h q i = ev h' q' i := by
  constructor
  · intro e i hi
    rw [← beg_get hk hi, ← beg_get hk' hi, e]
  · intro e
    refine ext_getD (by rw [beg_len hk, beg_len hk']) fun i hi => ?_
    rw [beg_len hk] at hi
    rw [beg_get hk hi, beg_get hk' hi, e i hi]
theorem ev_per {h q : List Nat} {i k : Nat} (hi : h.length ≤ i) : ev h q (i + k * q.length) = ev h q i := by
  rw [ev_ge hi, ev_ge (by omega), show i + k * q.length - h.length = i - h.length + k * q.length by omega, g_mul]
/-- what agrees long enough agrees for ever -/
theorem ev_all {h q h' q' : List Nat} {many : Nat} (hm : h.length ≤ many) (hm' : h'.length ≤ many) (hq : 0 < q.length) (hq' : 0 < q'.length) (e : ∀ i, i < many + q.length * q'.length → ev h q i = ev h' q' i) (i : Nat) : ev h q i = ev h' q' i := by
  by_cases hi : i < many
  · exact e i (by omega)
  · have hp : 0 < q.length * q'.length := Nat.mul_pos hq hq'
    have hlt := Nat.mod_lt (i - many) hp
    have ei : many + (i - many) % (q.length * q'.length) + (i - many) / (q.length * q'.length) * (q.length * q'.length) = i := by
      have z := Nat.div_add_mod (i - many) (q.length * q'.length)
      rw [Nat.mul_comm] at z
      omega
    have a1 := ev_per (h := h) (q := q) (i := many + (i - many) % (q.length * q'.length)) (k := (i - many) / (q.length * q'.length) * q'.length) (by omega)
    have a2 := ev_per (h := h') (q := q') (i := many + (i - many) % (q.length * q'.length)) (k := (i - many) / (q.length * q'.length) * q.length) (by omega)
    rw [Nat.mul_assoc, Nat.mul_comm q'.length, ei] at a1
    rw [Nat.mul_assoc, ei] at a2
    rw [a1, a2]
    exact e _ (by omega)
/-- the period told several times over -/
theorem ev_rep {h q : List Nat} {k : Nat} (hk : 0 < k) (i : Nat) : ev h ((List.replicate k q).flatten) i = ev h q i := by
  by_cases h1 : i < h.length
  · rw [ev_lt h1, ev_lt h1]
  · rw [ev_ge (by omega), ev_ge (by omega)]
    generalize i - h.length = j
    by_cases hq : q.length = 0
    · have e : q = [] := List.length_eq_zero_iff.mp hq
      subst e
      simp
    · show ((List.replicate k q).flatten).getD (j % ((List.replicate k q).flatten).length) 0 = _
      rw [rep_len, rep_get (Nat.mod_lt _ (Nat.mul_pos hk (by omega)))]
      unfold g
      rw [Nat.mod_mod_of_dvd _ (Nat.dvd_mul_left _ _)]
/-! ### the normal form that the law finds, and that of the program: one and the same -/
/-- the shorter period told by the least one -/
theorem short_nf {h q : List Nat} {s : Nat} (a : Least q s) (hq : 0 < q.length) (i : Nat) : ev h (q.take s) i = ev h q i := by
  by_cases h1 : i < h.length
  · rw [ev_lt h1, ev_lt h1]
  · rw [ev_ge (by omega), ev_ge (by omega), a.g hq]
end Vm


set_option Elab.async false
set_option maxRecDepth 100000
set_option maxHeartbeats 4000000
set_option exponentiation.threshold 3000
namespace Vf
open PySem L2 SX Vm
theorem find_least {q : List Nat} (hq : 0 < q.length) : ∃ s : Nat, Txt.find3 (S (q ++ q)) (S q) 1 = (s : Int) ∧ Least q s := by
  have e1 : PySem.fromIndex (S (q ++ q)).length 1 = 1 := by
    rw [S_len, List.length_append]
    unfold PySem.fromIndex
    rw [if_neg (by decide)]
    rfl
  have key : ∀ i, 1 ≤ i → (PySem.StrLaws.At (S (q ++ q)) (S q) (S (q ++ q)).length i ↔ i ≤ q.length ∧ Per q i) := fun i hi => by
    unfold PySem.StrLaws.At
    rw [PySem.StrLaws.subAt_eq, S_len, S_len, List.length_append]
    constructor
    · rintro ⟨h1, h2⟩
      have h : i ≤ q.length := by omega
      exact ⟨h, (find_per h hq).mp (beq_iff_eq.mp h2)⟩
    · rintro ⟨h1, h2⟩
      exact ⟨by omega, beq_iff_eq.mpr ((find_per h1 hq).mpr h2)⟩
  rcases PySem.StrLaws.occ_head_from (S (q ++ q)) (S q) 1 1 (Nat.le_refl 1) with ⟨_, hn⟩ | ⟨k, r, h0, hlo, hk, hn⟩
  · exact absurd ((key q.length hq).mpr ⟨Nat.le_refl _, per_len q⟩) (hn q.length hq)
  · refine ⟨k, ?_, hlo, ((key k hlo).mp hk).2, fun t h1 h2 p => hn t h1 h2 ((key t h1).mpr ⟨?_, p⟩)⟩
    · unfold Txt.find3
      rw [e1, h0]
    · have := ((key k hlo).mp hk).1
      omega
theorem cut_take {q : List Nat} {s : Nat} (h : s ≤ q.length) : cutS (S q) none (some (s : Int)) = S (q.take s) := by
  unfold cutS
  rw [S_len, HT.sIx_none, HT.sIx_nat, Nat.min_eq_left h]
  rfl
theorem cut_drop {q : List Nat} {s : Nat} (h : s ≤ q.length) : cutS (S q) (some (s : Int)) none = S (q.drop s) := by
  unfold cutS
  rw [S_len, HT.sIx_none, HT.sIx_nat, Nat.min_eq_left h]
  congr 2
  rw [List.take_of_length_le]
  rw [List.length_drop]
  exact Nat.le_refl _
/-- the shorter period -/
def spShort : Sp := fun vs H Q _ => ∃ q : List Nat, vs = [.str (S q)] ∧ 0 < q.length ∧ q.length ≤ 1000 ∧ ∀ s, Least q s → s ≤ q.length → Q (.str (S (q.take s))) H
section
variable {P : Program} {w : World} {K : PySem.W.Frag} {mg : Str → Option Value} {base : Heap}
theorem scShort : FnScope ["period"] ["period"] (defScope sShortest) := ⟨rfl, rfl, rfl, by decide +kernel, rfl, by decide +kernel, by decide +kernel⟩
theorem ok_short {f : Addr} {fd : FuncData} (F : Fun K "shortest_period" "shortest_period" sShortest f fd) : FnOk P w K mg base CX0 1 f fd ["period"] spShort := by
  refine F.ok scShort (fun vs H Q E h => ?_) (fun cdv A outer s H vs Q E hr h => ?_)
  · obtain ⟨q, rfl, _⟩ := h
    rfl
  · obtain ⟨q, rfl, h0, h1, k⟩ := h
    refine ⟨_, pss_one (ps_ret (pe_slice sl_str (pv 0) po_none (po_some (pe_bm PySem.F.plainAttrs_str PySem.F.slot_str_find PySem.F.type_str_find mt_find3 (pe_op op_add_str (pv 0) (pv 0)) (pa_cons (pv 0) (pa_cons pe_int pa_nil)))))), ?_⟩
    obtain ⟨s0, e, l⟩ := find_least h0
    have hle := l.le h0
    have len1 : (S q).length + (S q).length ≤ sizeLine := by rw [S_len]; exact Nat.le_trans (show q.length + q.length ≤ 2000 by omega) (by decide)
    have len2 : (S q).length ≤ sizeLine := Nat.le_trans (Nat.le_add_right _ _) len1
    refine ⟨_, rfl, _, rfl, _, rfl, _, _, rfl, rfl, len1, rfl, _, rfl, _, _, _, rfl, rfl, _, rfl, _, rfl, len2, ?_⟩
    show Q (.str (cutS (S q) none (some (Txt.find3 (S q ++ S q) (S q) 1)))) H
    rw [S_cat, e, cut_take hle]
    exact k s0 l hle
end
end Vf


set_option Elab.async false
set_option maxRecDepth 100000
set_option maxHeartbeats 4000000
set_option exponentiation.threshold 3000
namespace Vf
open PySem L2 SX Vm
theorem at_back {l : List Nat} {i : Int} {t : Nat} (ht : t < l.length) (hi : i = -1 - (t : Int)) : atI l i = some (l.getD (l.length - 1 - t) 0) := by
  unfold atI ixN
  rw [if_neg (by omega), if_pos (by omega)]
  show l[(i + (l.length : Int)).toNat]? = _
  rw [show (i + (l.length : Int)).toNat = l.length - 1 - t by omega, List.getD_eq_getElem?_getD, List.getElem?_eq_getElem (by omega)]
  rfl
theorem one_eq {a b : Nat} : (V.str ⟨#[a]⟩ = V.str ⟨#[b]⟩) ↔ a = b := by
  constructor
  · intro h
    have h1 := V.str.inj h
    have h2 := congrArg (fun s : Str => s.cps.toList) h1
    exact (List.cons.inj h2).1
  · intro h
    rw [h]
theorem emod_nat {t s : Nat} : ((t : Int) % (s : Int)) = ((t % s : Nat) : Int) := by omega
/-- from a row of digits to what lies in a row of digits -/
def Sub (m l : List Nat) : Prop := ∀ c ∈ m, c ∈ l
theorem sub_trimH {h : List Nat} {t : Nat} : Sub (trimH h t) h := fun _ hc => List.mem_of_mem_take hc
theorem sub_turnQ {q : List Nat} {t : Nat} : Sub (turnQ q t) q := fun c hc => by
  rcases List.mem_append.mp hc with h | h
  · exact List.mem_of_mem_drop h
  · exact List.mem_of_mem_take h
theorem cut_len (l : List Nat) (a b : Option Int) : (cutS (S l) a b).length ≤ l.length := by
  unfold cutS
  rw [S_len, List.length_take, List.length_drop]
  exact Nat.le_trans (Nat.min_le_right _ _) (Nat.sub_le _ _)
theorem fin_len {a b : Option Int} {q : List Nat} (hq : q.length ≤ 1000) : (cutS (S q) a none).length + (cutS (S q) none b).length ≤ sizeLine := by
  have h1 := cut_len q a none
  have h2 := cut_len q none b
  exact Nat.le_trans (show _ ≤ 2000 by omega) (by decide)
theorem val_head {h : List Nat} {t : Nat} (ht : t ≤ h.length) : cutS (S h) none (some (((S h).length : Int) - (t : Int))) = S (trimH h t) := by
  rw [S_len, show ((h.length : Int) - (t : Int)) = ((h.length - t : Nat) : Int) by omega, cut_take (Nat.sub_le _ _)]
  rfl
theorem val_per {q : List Nat} {t s : Nat} (hs : q.length = s) (h0 : 0 < s) :
    cutS (S q) (some ((s : Int) - (t : Int) % (s : Int))) none ++ cutS (S q) none (some ((s : Int) - (t : Int) % (s : Int))) = S (turnQ q t) := by
  have hm := Nat.mod_lt t h0
  rw [show ((s : Int) - (t : Int) % (s : Int)) = ((q.length - t % q.length : Nat) : Int) by rw [emod_nat, hs]; omega, cut_drop (Nat.sub_le _ _), cut_take (Nat.sub_le _ _), S_cat]
  rfl
def spNormal : Sp := fun vs H Q _ => ∃ (r : V) (h q : List Nat), vs = [r, .str (S h), .str (S q)] ∧ 0 < q.length ∧ q.length ≤ 1000 ∧ h.length ≤ 1000 ∧
  ∀ (h' q' : List Nat) (p : Addr), Nf (ev h q) h' q' → h'.length ≤ h.length → q'.length ≤ q.length → Sub h' h → Sub q' q → H p = none → Q (.ref p) (upd H p (.tup [r, .str (S h'), .str (S q')]))
theorem small_len {l : List Nat} (h : l.length ≤ 1000) : (S l).length ≤ sizeLine := by rw [S_len]; exact Nat.le_trans h (by decide)
theorem small_lenG {l : List Nat} (h : l.length ≤ 9000) : (S l).length ≤ sizeLine := by rw [S_len]; exact Nat.le_trans h (by decide)
section
variable {P : Program} {w : World} {K : PySem.W.Frag} {mg : Str → Option Value} {base : Heap}
end
end Vf


set_option Elab.async false
set_option maxRecDepth 100000
set_option maxHeartbeats 4000000
set_option exponentiation.threshold 3000
namespace Vf
open PySem L2 SX Vm
section
variable {X : Cx}
theorem fold_flat (l : List Nat) : ∀ (k : Nat) (acc : Array Nat), ((List.replicate k l.toArray).foldl (· ++ ·) acc) = acc ++ ((List.replicate k l).flatten).toArray
  | 0, acc => by simp
  | k + 1, acc => by
    rw [List.replicate_succ, List.foldl_cons, fold_flat l k, List.replicate_succ, List.flatten_cons]
    simp
/-- a text times a number -/
def rMulS : R2 := fun x y H Q => ∃ (l : List Nat) (k : Nat), x = .str (S l) ∧ y = .int (k : Int) ∧ k ≤ 100000 ∧ l.length ≤ 100000 ∧ k * l.length ≤ 1000000 ∧ Q (.str (S ((List.replicate k l).flatten))) H
theorem op_mul_str : OpR X (binaryOp .Mult) rMulS := by
  intro pins s σ H x y v u Q I rx ry h
  obtain ⟨l, k, rfl, rfl, h1, h2, h3, q⟩ := h
  obtain ⟨t, rfl⟩ := rx
  obtain ⟨t', rfl⟩ := ry
  refine PySem.P.mul_str ?_ (fun a b => ?_) (fun a b => ?_) ?_
  · rw [decide_eq_false (show ¬ ((k : Int) < -(2 ^ 63 : Int)) by omega), decide_eq_false (show ¬ ((k : Int) ≥ 2 ^ 63) by omega)]
    rfl
  · rw [S_len]
    have hk : (0 : Int) < (k : Int) := by omega
    have : (l.length : Int) ≤ (2 ^ 63 - 1) / (k : Int) := by
      rw [Int.le_ediv_iff_mul_le hk]
      have e : ((l.length : Int) * (k : Int)) = ((k * l.length : Nat) : Int) := by rw [Int.natCast_mul, Int.mul_comm]
      rw [e]
      omega
    omega
  · rw [S_len, Int.toNat_natCast, Nat.mul_comm]
    have : k * l.length ≤ sizeLine := Nat.le_trans h3 (by decide)
    unfold Builtin.Str.tooLong
    exact decide_eq_false (by omega)
  · have hlen : ((List.replicate k l).flatten).length ≤ sizeLine := by rw [rep_len]; exact Nat.le_trans h3 (by decide)
    by_cases c1 : (k : Int) < 1
    · have e : k = 0 := by omega
      subst e
      rw [if_pos c1]
      exact ⟨by decide, .str _, H, I.tok _, ⟨_, rfl⟩, q⟩
    · rw [if_neg c1]
      by_cases c2 : ((k : Int) == 1 || (S l).length == 0) = true
      · rw [if_pos c2]
        have e : (List.replicate k l).flatten = l := by
          rw [Bool.or_eq_true, beq_iff_eq, beq_iff_eq, S_len] at c2
          rcases c2 with c | c
          · have e : k = 1 := by omega
            subst e
            simp
          · have e : l = [] := List.length_eq_zero_iff.mp c
            subst e
            simp
        rw [e] at q
        exact ⟨.str _, H, I, ⟨_, rfl⟩, q⟩
      · rw [if_neg c2, Int.toNat_natCast]
        have e : (⟨(List.replicate k (S l).cps).foldl (· ++ ·) #[]⟩ : Str) = S ((List.replicate k l).flatten) := by
          have z := fold_flat l k #[]
          show Str.mk _ = Str.mk _
          rw [z]
          simp
        rw [e]
        exact ⟨by rw [S_len]; exact hlen, .str _, H, I.tok _, ⟨_, rfl⟩, q⟩
end
/-- the first one that passes -/
theorem filter_head {p : Nat → Bool} {s : Nat} (hp : p s = true) : ∀ n a, a ≤ s → s < a + n → (∀ t, a ≤ t → t < s → p t = false) → ((List.range' a n).filter p)[0]? = some s
  | 0, a, h1, h2, _ => absurd h2 (by omega)
  | n + 1, a, h1, h2, h3 => by
    rw [List.range'_succ]
    by_cases e : a = s
    · subst e
      rw [List.filter_cons_of_pos hp]
      rfl
    · rw [List.filter_cons_of_neg (by rw [h3 a (Nat.le_refl _) (by omega)]; exact Bool.false_ne_true)]
      exact filter_head hp n (a + 1) (by omega) (by omega) fun t h4 h5 => h3 t (by omega) h5
def okB (q : List Nat) (m : Nat) : Bool := decide ((List.replicate (q.length / m) (q.take m)).flatten = q)
theorem first_size {q : List Nat} {s : Nat} (h0 : 0 < q.length) (l : Least q s) : ((List.range' 1 q.length).filter (okB q))[0]? = some s := by
  have hle := l.le h0
  have hp := l.pos
  refine filter_head (decide_eq_true ((rep_per hp hle).mpr ⟨l.per, l.dvd (per_len q)⟩)) _ _ hp (by omega) fun t h1 h2 => decide_eq_false fun z => ?_
  exact l.min t h1 h2 ((rep_per h1 (by omega)).mp z).1
theorem filter_snoc {p : Nat → Bool} {i : Nat} : (List.range' 1 (i + 1)).filter p = (List.range' 1 i).filter p ++ (if p (1 + i) = true then [1 + i] else []) := by
  rw [List.range'_concat, List.filter_append, Nat.one_mul]
  congr 1
  by_cases h : p (1 + i) = true
  · rw [if_pos h, List.filter_cons_of_pos h]
    rfl
  · rw [if_neg h, List.filter_cons_of_neg h]
    rfl
theorem str_ne_empty {l : List Nat} : (V.str (S l) = V.str ("" : Str)) ↔ l = [] := by
  rw [str_empty]
  constructor
  · intro h
    exact S_inj (V.str.inj h)
  · intro h
    rw [h]
theorem str_eq {l m : List Nat} : (V.str (S l) = V.str (S m)) ↔ l = m := ⟨fun h => S_inj (V.str.inj h), fun h => by rw [h]⟩
theorem cut_last (l : List Nat) (c : Nat) : cutS (S (l ++ [c])) none (some (-1)) = S l := by
  unfold cutS
  rw [S_len, HT.sIx_none, List.length_append]
  have e : HT.sIx (l.length + [c].length) (l.length + [c].length) (some (-1)) = l.length := by
    show (if (-1 : Int) < 0 then ((-1 : Int) + ((l.length + 1 : Nat) : Int)).toNat else min (-1 : Int).toNat (l.length + 1)) = l.length
    rw [if_pos (by decide)]
    omega
  rw [e]
  show S ((List.drop 0 (l ++ [c])).take (l.length - 0)) = S l
  rw [List.drop_zero, Nat.sub_zero, List.take_left']
  rfl
theorem last_at (l : List Nat) (c : Nat) : atI (S (l ++ [c])).cps.toList (-1) = some c := by
  have z := at_back (l := l ++ [c]) (i := -1) (t := 0) (by simp) (by decide)
  have e : (l ++ [c]).getD ((l ++ [c]).length - 1 - 0) 0 = c := by
    rw [List.getD_eq_getElem?_getD]
    simp
  rw [e] at z
  exact z
theorem last_getD (l : List Nat) (c : Nat) : (l ++ [c]).getD ((l ++ [c]).length - 1) 0 = c := by
  rw [List.getD_eq_getElem?_getD]
  simp
theorem iteTB {c : Bool} {A B : Prop} (hc : c = true) (h : A) : if c = true then A else B := by rw [if_pos hc]; exact h
theorem iteFB {c : Bool} {A B : Prop} (hc : c = false) (h : B) : if c = true then A else B := by rw [hc, if_neg Bool.false_ne_true]; exact h
/-- the law's normal form -/
def spLNormal : Sp := fun vs H Q _ => ∃ (r : V) (h q : List Nat), vs = [r, .str (S h), .str (S q)] ∧ 0 < q.length ∧ q.length ≤ 1000 ∧ h.length ≤ 1000 ∧
  ∀ (h' q' : List Nat) (p : Addr) (H' : Hp), Nf (ev h q) h' q' → h'.length ≤ h.length → q'.length ≤ q.length → Sub h' h → Sub q' q → Same H H' → H p = none → H' p = some (.tup [r, .str (S h'), .str (S q')]) → Q (.ref p) H'
section
variable {P : Program} {w : World} {K : PySem.W.Frag} {mg : Str → Option Value} {base : Heap}
theorem scLNormal : FnScope ["root", "head", "period", "size", "many"] ["root", "head", "period"] (defScope sLNormal) := ⟨rfl, rfl, rfl, by decide +kernel, rfl, by decide +kernel, by decide +kernel⟩
theorem ok_lnormal {f : Addr} {fd : FuncData} (F : Fun K "_law_normal" "_law_normal" sLNormal f fd) (ml : mg "len" = none) (mr : mg "range" = none) :
    FnOk P w K mg base CX0 1 f fd ["root", "head", "period"] spLNormal := by
  refine F.ok scLNormal (fun vs H Q E h => ?_) (fun cdv A outer s H vs Q E hr h => ?_)
  · obtain ⟨r, h, q, rfl, _⟩ := h
    rfl
  · obtain ⟨r, h, q0, rfl, h0, h1, h2, k⟩ := h
    have nd := scLNormal.nd
    refine ⟨_, pss_cons (ps_set (i := 3) nd rfl (.inl rfl) (pe_ix ix_list (pe_lc (own := [("many", 4)]) (g := gName 4) rfl nd
          (pi_range2 rfl mr (pa_cons pe_int (pa_cons (pe_op op_add (pe_callB call_len_str (by rfl) ml boot_len (pa_cons (pv 2) pa_nil)) pe_int) pa_nil)))
          (blkOk_by (N := ["root", "head", "period", "size", "many"]) (sc := defScope sLNormal) (by decide +kernel)) (fun _ _ _ _ _ => pg_name (i := 4) nd rfl (Or.inl rfl))
          (fun _ _ _ _ _ => pts_one (pt_cmpR op_eq (pe_op op_mul_str (pe_slice sl_str (pv 2) po_none (po_some (pv 4))) (pe_op op_fdiv (pe_callB call_len_str (by rfl) ml boot_len (pa_cons (pv 2) pa_nil)) (pv 4))) (pv 2) (nomark _))) (fun _ _ _ _ _ => pv 4)) pe_int (fun _ _ => rfl)))
      (pss_cons (ps_set (i := 2) nd rfl (.inr rfl) (pe_slice sl_str (pv 2) po_none (po_some (pv 3))))
      (pss_cons (ps_while PassesOwn.never (pw_and (pt_cmpR op_ne (pv 1) pe_str (nomark _)) (pw_and1 (pt_cmpR op_eq (pe_ix ix_str (pv 1) (pe_un un_neg pe_int) (fun _ _ => rfl)) (pe_ix ix_str (pv 2) (pe_un un_neg pe_int) (fun _ _ => rfl)) (nomark _)))).pt
        (pss_one (ps_asg (pe_tup (pa_cons (pe_slice sl_str (pv 1) po_none (po_some (pe_un un_neg pe_int))) (pa_cons (pe_op op_add_str (pe_ix ix_str (pv 2) (pe_un un_neg pe_int) (fun _ _ => rfl)) (pe_slice sl_str (pv 2) po_none (po_some (pe_un un_neg pe_int)))) pa_nil)))
          (pg_tup rfl (pgs_cons (pg_name (i := 1) nd rfl (.inl rfl)) (pgs_cons (pg_name (i := 2) nd rfl (.inr rfl)) pgs_nil))))))
      (pss_one (ps_ret (pe_tup (pa_cons (pv 0) (pa_cons (pv 1) (pa_cons (pv 2) pa_nil)))))))), ?_⟩
    have lq : (S q0).length ≤ sizeLine := small_len h1
    refine ⟨_, rfl, _, rfl, lq, _, _, rfl, rfl, _, _, rfl, ⟨by decide, by decide, by rw [S_len]; omega, by rw [S_len]; omega⟩, fun D hD => ?_⟩
    have en : (((S q0).length : Int) + 1 - 1).toNat = q0.length := by rw [S_len]; omega
    rw [en]
    refine lc_range (n := q0.length) (fun i H2 => H2 = upd H D (.lst (((List.range' 1 i).filter (okB q0)).map fun m => V.int (m : Nat)))) rfl ?_ ?_
    · rintro i H2 hi rfl
      refine ⟨rfl, ?_⟩
      have e1 : cutS (S q0) none (some (1 + (i : Int))) = S (q0.take (1 + i)) := by
        rw [show (1 + (i : Int)) = ((1 + i : Nat) : Int) by omega]
        exact cut_take (by omega)
      have e2 : (((S q0).length : Int) / (1 + (i : Int))) = ((q0.length / (1 + i) : Nat) : Int) := by
        rw [S_len, show (1 + (i : Int)) = ((1 + i : Nat) : Int) by omega]
        rfl
      have hm : q0.length / (1 + i) ≤ q0.length := Nat.div_le_self _ _
      have hm2 : q0.length / (1 + i) * (q0.take (1 + i)).length ≤ 1000000 := Nat.le_trans (Nat.mul_le_mul hm (show (q0.take (1 + i)).length ≤ 1000 by rw [List.length_take]; omega)) (by omega)
      refine ⟨_, rfl, _, rfl, _, rfl, _, rfl, lq, _, rfl, _, rfl, lq, _, rfl, _, _, rfl, rfl, ⟨by omega, by omega⟩, q0.take (1 + i), q0.length / (1 + i), congrArg V.str e1, congrArg V.int e2, by omega, by rw [List.length_take]; omega, hm2, _, rfl, rfl, _, rfl, ?_⟩
      rw [filter_snoc]
      by_cases c : okB q0 (1 + i) = true
      · rw [if_pos c]
        refine iteTB (decide_eq_true (str_eq.mpr (of_decide_eq_true c))) ?_
        refine ⟨_, rfl, _, upd_same, ?_, ?_⟩
        · rw [List.length_map]
          exact Nat.lt_of_le_of_lt (Nat.le_trans (List.length_filter_le _ _) (show (List.range' 1 i).length ≤ 1000 by rw [List.length_range']; omega)) (by decide)
        · rw [upd_upd', List.map_append]
          rw [show (1 + (i : Int)) = ((1 + i : Nat) : Int) by omega]
          rfl
      · rw [if_neg c, List.append_nil]
        exact iteFB (decide_eq_false (fun z => c (decide_eq_true (str_eq.mp z)))) rfl
    · rintro H2 rfl
      obtain ⟨s0, e, l⟩ := find_least h0
      have hle := l.le h0
      have sp := l.pos
      have hi : atI (((List.range' 1 q0.length).filter (okB q0)).map fun m => V.int (m : Nat)) 0 = some (.int (s0 : Int)) := by
        refine atI_nat (j := 0) ?_
        rw [List.getElem?_map, first_size h0 l]
        rfl
      have sl : (q0.take s0).length = s0 := take_len hle
      refine ⟨D, _, 0, _, rfl, rfl, SqL.of upd_same, hi, ?_⟩
      refine ⟨_, rfl, _, rfl, _, rfl, _, rfl, lq, ?_⟩
      rw [cut_take hle]
      refine ⟨fun m σ H2 => ∃ l' r' : List Nat, m = l'.length ∧ σ = [some r, some (.str (S l')), some (.str (S r')), some (.int (s0 : Int)), none] ∧ Same H H2 ∧ r'.length = s0 ∧ (∀ i, ev l' r' i = ev h q0 i) ∧ l'.length ≤ h.length ∧ Sub l' h ∧ Sub r' q0,
        ⟨h.length, h, q0.take s0, rfl, rfl, fun b o e => by rw [upd_ne (ne_of_none e hD)]; exact e, sl, fun i => short_nf l h0 i, Nat.le_refl _, fun _ x => x, fun _ x => List.mem_of_mem_take x⟩, ?_⟩
      rintro m σ H2 ⟨l', r', rfl, rfl, s2, lr, hev, hl, sub1, sub2⟩
      have ll : (S l').length ≤ sizeLine := small_len (by omega)
      have lrr : (S r').length ≤ sizeLine := small_len (by omega)
      have done : (0 < l'.length → l'.getD (l'.length - 1) 0 ≠ r'.getD (r'.length - 1) 0) → ∀ p, H2 p = none → Q (.ref p) (upd H2 p (.tup [r, .str (S l'), .str (S r')])) := fun stop p hp =>
        k l' r' p _ (last_nf hev (by omega) (by rw [lr]; exact fun a m x y => l.prim h0 a m x y) stop) hl (by omega) sub1 sub2 (fun b o e => by rw [upd_ne (ne_of_none (s2 b o e) hp)]; exact s2 b o e) (s2.free hp) upd_same
      refine ⟨_, rfl, rfl, _, rfl, ?_⟩
      rcases List.eq_nil_or_concat l' with e | ⟨l0, c, e⟩
      · subst e
        refine iteFB (by rw [decide_eq_true (str_ne_empty.mpr rfl)]; rfl) ?_
        refine iteFB rfl ?_
        exact ⟨_, rfl, _, rfl, _, rfl, (by show 3 ≤ sizeLine; decide), fun p hp => done (fun z => absurd z (Nat.lt_irrefl _)) p hp⟩
      · rw [List.concat_eq_append] at e
        subst e
        refine iteTB (by rw [decide_eq_false (fun z => by have := str_ne_empty.mp z; simp at this)]; rfl) ?_
        rcases List.eq_nil_or_concat r' with e | ⟨r0, c', e⟩
        · subst e
          exact absurd lr (by simp; omega)
        · rw [List.concat_eq_append] at e
          subst e
          refine ⟨_, rfl, _, rfl, _, _, _, rfl, rfl, ll, last_at l0 c, _, rfl, _, rfl, _, _, _, rfl, rfl, lrr, last_at r0 c', rfl, _, rfl, ?_⟩
          refine ite2 (fun z => ?_) (fun z => ?_)
          · have ec : c = c' := one_eq.mp (of_decide_eq_true z)
            subst ec
            have l1 : (S r0).length ≤ sizeLine := small_len (by simp at lr; omega)
            refine ⟨fun σ' H' => ∃ m', m' < (l0 ++ [c]).length ∧ _, fun σ' H' z => z, _, rfl, _, rfl, _, rfl, _, rfl, ll, _, rfl, _, rfl, _, _, _, rfl, rfl, lrr, last_at r0 c, _, rfl, _, rfl, _, rfl, _, rfl, lrr, _, _, rfl, rfl, ?_, (by show 2 ≤ sizeLine; decide), fun p hp => ?_⟩
            · rw [cut_last]
              show 1 + (S r0).length ≤ sizeLine
              rw [S_len]
              exact Nat.le_trans (show 1 + r0.length ≤ 1001 by simp at lr; omega) (by decide)
            · rw [cut_last, cut_last]
              refine ⟨p, _, rfl, SqT.of upd_same, rfl, _, _, rfl, _, _, rfl, rfl, l0.length, by simp, l0, c :: r0, rfl, ?_, fun b o e => by rw [upd_ne (ne_of_none (s2 b o e) hp)]; exact s2 b o e, by simpa using lr, fun i => (ev_less l0 r0 c i).trans (hev i), by simp at hl; omega, fun x hx => sub1 x (List.mem_append_left _ hx), fun x hx => sub2 x (by simp at hx ⊢; exact hx.symm)⟩
              have e : (⟨#[c]⟩ : Str) ++ S r0 = S (c :: r0) := S_cat [c] r0
              rw [← e]
              rfl
          · refine ⟨_, rfl, _, rfl, _, rfl, (by show 3 ≤ sizeLine; decide), fun p hp => done (fun _ y => z (decide_eq_true (one_eq.mpr ?_))) p hp⟩
            rw [last_getD, last_getD] at y
            exact y
end
end Vf

set_option Elab.async false
set_option maxRecDepth 100000
set_option maxHeartbeats 4000000
set_option exponentiation.threshold 3000
namespace Vf
open PySem L2 SX Vm
theorem pos_pull {b q : Int} (h0 : 0 ≤ q) (h1 : q < b) (h5 : b ≤ 5) : ∃ c : Nat, atI (("01234" : Str).cps.toList) q = some c ∧ 48 ≤ c ∧ (c : Int) < 48 + b := by
  rw [s01234]
  have : q = 0 ∨ q = 1 ∨ q = 2 ∨ q = 3 ∨ q = 4 := by omega
  rcases this with e | e | e | e | e <;> subst e <;> exact ⟨_, rfl, by decide, by omega⟩
theorem len5 : ("01234" : Str).length ≤ sizeLine := by decide +kernel
theorem S_one (c : Nat) (l : List Nat) : (⟨#[c]⟩ : Str) ++ S l = S (c :: l) := S_cat [c] l
theorem S_snoc (c : Nat) (l : List Nat) : S l ++ (⟨#[c]⟩ : Str) = S (l ++ [c]) := S_cat l [c]
/-- a drawn stream -/
def spLStream : Sp := fun vs H Q _ => ∃ (a : Addr) (d : Int × Int × Int) (base wide high : Int), vs = [.ref a, .int base, .int wide, .int high] ∧ H a = some (.lst (dieL d)) ∧ DieOk d ∧ d.2.2 ≤ 990000000 ∧ 2 ≤ base ∧ base ≤ 5 ∧ 1 ≤ wide ∧ wide ≤ 5000 ∧ 1 ≤ high ∧ high ≤ 100 ∧
  ∀ (r : Int) (h q : List Nat) (f : Nat → Nat) (d' : Int × Int × Int) (p : Addr) (H' : Hp), 0 ≤ r → r < wide → (h.length : Int) ≤ high → (q.length : Int) ≤ high → Nf f h q → IsW base h → IsW base q → DieOk d' → d'.2.2 ≤ d.2.2 + 3 + 2 * high →
    Kp a H H' → H' a = some (.lst (dieL d')) → H p = none → H' p = some (.tup [.int r, .str (S h), .str (S q)]) → Q (.ref p) H'
/-- the beginning of a stream -/
def spLBeg (K : PySem.W.Frag) : Sp := fun vs H Q _ => ∃ (p : Addr) (r : V) (h q : List Nat) (many : Nat), vs = [.ref p, .int (many : Int)] ∧ SqT K H p [r, .str (S h), .str (S q)] ∧ 0 < q.length ∧ q.length ≤ 1000 ∧ h.length ≤ 1000 ∧ many ≤ 2000 ∧
  Q (.str (S (beg h q (many / q.length + 1) many))) H
/-- the same stream told otherwise -/
def spOther : Sp := fun vs H Q _ => ∃ (a p : Addr) (d : Int × Int × Int) (r : V) (h q : List Nat), vs = [.ref a, .ref p] ∧ H a = some (.lst (dieL d)) ∧ DieOk d ∧ d.2.2 ≤ 990000000 ∧ H p = some (.tup [r, .str (S h), .str (S q)]) ∧ 0 < q.length ∧ q.length ≤ 100 ∧ h.length ≤ 100 ∧
  ∀ (h' q' : List Nat) (d' : Int × Int × Int) (p' : Addr) (H' : Hp), (∀ i, ev h' q' i = ev h q i) → 0 < q'.length → q'.length ≤ 300 → h'.length ≤ 110 → Sub h' (h ++ q) → Sub q' q → DieOk d' → d'.2.2 ≤ d.2.2 + 2 →
    Kp a H H' → H' a = some (.lst (dieL d')) → H p' = none → H' p' = some (.tup [r, .str (S h'), .str (S q')]) → Q (.ref p') H'
section
variable {P : Program} {w : World} {K : PySem.W.Frag} {mg : Str → Option Value} {base : Heap}
theorem scLStream : FnScope ["die", "base", "wide", "high", "root", "head"] ["die", "base", "wide", "high"] (defScope sLStream) := ⟨rfl, rfl, rfl, by decide +kernel, rfl, by decide +kernel, by decide +kernel⟩
theorem ok_lstream {f fP fW fN : Addr} {fd fdP fdW fdN : FuncData} (F : Fun K "_law_stream" "_law_stream" sLStream f fd) (GP : FnOk P w K mg base CX0 1 fP fdP ["die", "many"] spPull) (cP : Cal K mg "_law_pull" fP fdP ["die", "many"])
    (GW : FnOk P w K mg base CX0 2 fW fdW ["die", "base", "high"] spWord) (cW : Cal K mg "_law_word" fW fdW ["die", "base", "high"]) (GN : FnOk P w K mg base CX0 1 fN fdN ["root", "head", "period"] spLNormal) (cN : Cal K mg "_law_normal" fN fdN ["root", "head", "period"]) :
    FnOk P w K mg base CX0 3 f fd ["die", "base", "wide", "high"] spLStream := by
  refine F.ok scLStream (fun vs H Q E h => ?_) (fun cdv A outer s H vs Q E hr h => ?_)
  · obtain ⟨a, d, b, wi, hi, rfl, _⟩ := h
    rfl
  · obtain ⟨a, d, b, wi, hi, rfl, ha, hd, hc, b2, b5, w1, w5, h1, h5, k⟩ := h
    have nd := scLStream.nd
    have hr1 := hr.mono (show 1 ≤ 2 by decide)
    refine ⟨_, pss_cons (ps_par (i := 4) (j := 5) rfl nd rfl rfl (by decide) rfl rfl (pa_cons (pe_call GP hr1 rfl cP.mg cP.kp cP.b .nil pass0 (pa_cons (pv 0) (pa_cons (pv 2) pa_nil))) (pa_cons (pe_call GW hr rfl cW.mg cW.kp cW.b .nil pass0 (pa_cons (pv 0) (pa_cons (pv 1) (pa_cons (pv 3) pa_nil)))) pa_nil)) rfl)
      (pss_one (ps_ret (pe_call GN hr1 rfl cN.mg cN.kp cN.b .nil pass0 (pa_cons (pv 4) (pa_cons (pv 5) (pa_cons (pe_op op_add_str (pe_ix ix_str pe_str (pe_call GP hr1 rfl cP.mg cP.kp cP.b .nil pass0 (pa_cons (pv 0) (pa_cons (pv 1) pa_nil))) (fun _ _ => rfl))
        (pe_call GW hr rfl cW.mg cW.kp cW.b .nil pass0 (pa_cons (pv 0) (pa_cons (pv 1) (pa_cons (pe_op op_sub (pv 3) pe_int) pa_nil))))) pa_nil)))))), ?_⟩
    refine ⟨_, rfl, _, rfl, a, d, wi, rfl, ha, hd, w1, w5, by omega, fun r d1 hd1 hc1 r0 r1 => ?_⟩
    refine ⟨_, rfl, _, rfl, _, rfl, a, d1, b, hi, rfl, upd_same, hd1, by omega, b2, b5, by omega, h5, fun l d2 hd2 hc2 hw hl => ?_⟩
    rw [upd_upd']
    refine ⟨_, _, rfl, ?_⟩
    refine ⟨_, rfl, _, rfl, _, rfl, _, rfl, a, d2, b, rfl, upd_same, hd2, by omega, by omega, by omega, fun q d3 hd3 hc3 q0 q1 => ?_⟩
    obtain ⟨c, hc', c0, c1⟩ := pos_pull q0 q1 b5
    rw [upd_upd']
    refine ⟨_, q, c, rfl, rfl, len5, hc', ?_⟩
    refine ⟨_, rfl, _, rfl, _, rfl, _, _, rfl, rfl, a, d3, b, hi - 1, rfl, upd_same, hd3, by omega, b2, b5, by omega, by omega, fun l2 d4 hd4 hc4 hw2 hl2 => ?_⟩
    rw [upd_upd']
    refine ⟨_, _, rfl, rfl, ?_, ?_⟩
    · rw [S_len]
      show 1 + l2.length ≤ sizeLine
      exact Nat.le_trans (show 1 + l2.length ≤ 200 by omega) (by decide)
    · rw [S_one]
      refine ⟨.int r, l, c :: l2, rfl, by simp, by simp; omega, by omega, fun h' q' p H' nf hl' hq' sh sq sm np hp => ?_⟩
      have nap : p ≠ a := fun z => by rw [z, upd_same] at np; cases np
      have npH : H p = none := by rw [upd_ne nap] at np; exact np
      have wq : IsW b (c :: l2) := fun x hx => by
        rcases List.mem_cons.mp hx with e | e
        · rw [e]
          exact ⟨c0, c1⟩
        · exact hw2 x e
      refine k r h' q' _ d4 p H' r0 r1 (by omega) (by simp at hq'; omega) nf (hw.of sh) (wq.of sq) hd4 (by omega) (fun x o n e => sm x o (by rw [upd_ne n]; exact e)) (sm a _ upd_same) npH hp
end
end Vf


set_option Elab.async false
set_option maxRecDepth 100000
set_option maxHeartbeats 4000000
/-! An error class over IndexError whose __init__ calls that of its base and keeps a value. -/
namespace VNum
open PySem PySem.W PySem.Calls PyProof.Rows L2
def mainArgs : Arguments := defArgs (inClass (Vf.top 1) 0)
def mainBody : List Stmt := defBody (inClass (Vf.top 1) 0)
def mainScope : Scope := defScope (inClass (Vf.top 1) 0)
abbrev bmI : List Value := [.type "IndexError", .type "LookupError", .type "Exception", .type "BaseException", .type "object"]
/-- what the written part says of the class at C and of its __init__ at fI -/
structure NumTxt (P : Program) (K : Frag) (mg : Str → Option Value) (C fI : Addr) : Prop where
  gC : mg "InvalidNumber" = some (.ref C)
  noSuper : mg "super" = none
  cls : ∃ nm q N bs sn sub ab col dd k0 k1 k2 k3 k5, K.lookup C = some (excClassObj nm q C N bs bmI true sn sub ab col dd k0 k1 k2 k3 k5 "IndexError.__new__")
  sa : findIn K (.ref C) "__setattr__" = some (some (.builtin "object.__setattr__"))
  ga : findIn K (.ref C) "__getattribute__" = some (some (.builtin "BaseException.__getattribute__"))
  gg : findIn K (.ref C) "__getattr__" = some none
  ov : excOver K C bmI = true
  qi : excInitIn K C bmI "IndexError.__new__" = true
  tk : takerIn K C "value" = some none
  noV : findIn K (.ref C) "value" = some none
  hdC : hasDictIn K C = true
  iC : findIn K (.ref C) "__init__" = some (some (.ref fI))
  tC : typeIn K (.ref fI) = some (.type "function")
  any : nsIn K cStatics "thirdparty.any" = some none
  sup : ks_superIn K C C "__init__" = some (some (.builtin "IndexError.__init__"))
  sI : subIn K (.ref C) (.type "IndexError") = some true
  mro : mroIn K C (.ref C) = some true
  kC : keepIn K (.ref C) = true
  exC : subIn K (.ref C) (.type "BaseException") = some true
  tyC : typeIn K (.ref C) = some (.type "type")
  top : (P.main.scope.names.lookup ("super" : Str)).isSome = false
  fn : ∃ (oc : Value) (od : Option Addr) (doc pm : Value) (an : Option Addr) (cda cc : Addr) (ct : Value) (osl : Array (Option Value)) (vs : Array Value) (file : Str) (tf : Tok) (ccl : Value) (cdd : Option Addr) (ccs : Array (Option Value)) (cl : Value) (cld : Option Addr) (csl : Array (Option Value)),
    K.lookup fI = some ⟨oc, od, .func (ksFn "__init__" "InvalidNumber.__init__" mainArgs mainBody mainScope .none .none doc pm an (.ref cda) ct cc), osl⟩ ∧ codeIn K (.ref cda) "InvalidNumber.__init__" = true ∧
    K.lookup cda = some ⟨ccl, cdd, .fields vs, ccs⟩ ∧ vs[2]? = some (.str file tf) ∧ ((P.main.file : Str) == file) = true ∧ K.lookup cc = some ⟨cl, cld, .cell (some (.ref C)), csl⟩
/-- what __init__ leaves of a fresh exception at x -/
structure InitEnd (h h' : Heap) (x C dx t1 : Addr) (v : Value) : Prop where
  keep : ∀ b o, b ≠ x → h.get? b = some o → h'.get? b = some o
  obj : h'.get? x = some { cls := .ref C, dict := some dx, data := .fields #[.ref t1, .none, .none, .none, .bool false, .none] }
  dbig : h.objs.size ≤ dx
  dne : dx ≠ x
  ns : h'.Ns1 dx (fun y => if y = "value" then some v else none)
theorem ns1_one {h : Heap} {dx : Addr} {hs : Int} {t : Tok} {v : Value} {es : List DictEntry} {n : Nat} (e : (putL "value" hs (.str "value" t) v [], putN "value" [] 0) = (es, n)) (hd : h.get? dx = some (dictOf es n)) : h.Ns1 dx (fun y => if y = "value" then some v else none) := by
  obtain ⟨e1, e2⟩ := Prod.mk.inj e
  subst e1
  subst e2
  refine ⟨_, _, _, hd, rfl, ?_, ?_, fun name => ?_⟩
  · intro e he
    have he' : e ∈ [(⟨hs, .str "value" t, v⟩ : DictEntry)] := Array.mem_toList_iff.mpr he
    rw [List.mem_singleton.mp he']
    exact ⟨_, _, rfl⟩
  · exact List.pairwise_singleton _ _
  · show ((#[(⟨hs, .str "value" t, v⟩ : DictEntry)] : Array DictEntry).find? fun e => e.key.isStr name).map (·.val) = if name = "value" then some v else none
    by_cases hn : name = "value"
    · subst hn
      rw [if_pos rfl]
      simp [Value.isStr]
    · rw [if_neg hn]
      have : (("value" : Str) == name) = false := by simpa using (fun z => hn z.symm)
      simp [Value.isStr, this]
section
variable {P : Program} {w : World} {A : Around} {R : Result → Shared → Prop} {s : Shared} {K : Frag} {mg : Str → Option Value} {C fI : Addr}
theorem num_init (T : NumTxt P K mg C fI) {x t0 : Addr} {v : Value} (X : K.In s.heap) (hg : s.heap.Ns mainGlobals mg) {mb : Str → Option Value} (hb : s.heap.Ns builtinsNs mb) (hbb : ∀ x : Str, x ≠ "__name__" → mb x = bootBuiltins x) (hlim : s.heap.NoLimit)
    (hx : s.heap.get? x = some (HandSPX.excO C t0)) (hnx : K.lookup x = none) (hroom : A.depth < recursionLimit) (hq : ∀ h' tk dx t1, InitEnd s.heap h' x C dx t1 v → R (.ok (.ret .none)) { s with heap := h', toks := tk }) :
    codeAny (model P w) A (.call (.ref fI) ⟨[.ref x, v], []⟩) R s := by
  obtain ⟨oc, od, doc, pm, an, cda, cc, ct, osl, vs, file, tf, ccl, cdd, ccs, cl, cld, csl, ho, hcd, hco, hvs, hfile, hcell⟩ := T.fn
  obtain ⟨nm, q, N, bs, sn, sub, ab, col, dd, k0, k1, k2, k3, k5, hC⟩ := T.cls
  refine ks_codeAny_call_defAt (fd := ksFn "__init__" "InvalidNumber.__init__" mainArgs mainBody mainScope .none .none doc pm an (.ref cda) ct cc) (body := mainBody) (binds := [("self", .ref x), ("value", v)]) hroom (X _ _ ho) rfl hlim (codeRec_of X hcd) rfl (BindsTo.of_eq rfl) (show ∀ x ∈ mainScope.names, x.2 ≠ .cell by decide +kernel) (locs rfl) (fun h₁ hns hk₁ => ?_)
  have F0 : Fr (hideAll s.heap [x]) s.heap.objs.size h₁ (fun y => [(("self" : Str), Value.ref x), ("value", v)].reverse.lookup y) := ⟨hns, fun b o e => hk₁ b o (of_hideAll _ e), Nat.le_of_eq (hideAll_size _ _)⟩
  have N0 : News (hideAll s.heap [x]) s.heap.objs.size h₁ [(x, excObj C t0 none .none)] := fun p hp => by
    rw [List.mem_singleton.mp hp]
    exact ⟨hk₁ _ _ hx, Nat.ne_of_lt (Heap.lt_size hx), hideAll_none _ (List.mem_singleton_self _)⟩
  have X₀ : K.In (hideAll s.heap [x]) := fun b o e => hideAll_get _ (X b o e) (fun z => by rw [List.mem_singleton.mp z, hnx] at e; cases e)
  have X₁ : K.In h₁ := X.keeps hk₁
  refine ks_wpAt_execs_cons (ks_wpAt_Expr_any (ks_wpAt_MethodCall ?_))
  refine ks_wpAt_super_base (env := ksEnv "InvalidNumber.__init__" mainScope s.heap.objs.size fI (.ref cda) cc) rfl rfl (by decide +kernel) rfl (X₁ _ _ ho) rfl rfl rfl (X₁ _ _ hco) rfl hvs hfile T.top ?_
  refine ks_loadName_global rfl rfl (loadGlobal_builtin (env := ksEnv "InvalidNumber.__init__" mainScope s.heap.objs.size fI (.ref cda) cc) (hg.keeps hk₁) T.noSuper (hb.keeps hk₁) ((hbb _ (by decide +kernel)).trans (by decide +kernel)) ⟨rfl, ?_⟩)
  refine wpAny_loadName_free rfl rfl rfl ⟨_, X₁ _ _ hcell, rfl⟩ ?_
  refine wpAny_loadName_local rfl rfl hns rfl ?_
  refine ks_wpAny_isType_cls (X₁ _ _ hC) rfl ⟨rfl, ?_⟩
  have I1 : InstAt h₁ x (HandSPX.excO C t0) C none := ⟨hk₁ _ _ hx, rfl, rfl, trivial⟩
  refine ks_wpAny_call_super (X₁ _ _ hC) rfl I1.at_ I1.cls (fun c e => nomatch e) (looks_mroIn X₁ T.mro) (fun h₂ e2 k2 => ?_)
  obtain ⟨F2, N2, l2⟩ := ks_newsPush (s := { s with heap := h₁ }) F0 N0 rfl e2 k2
  refine kxs_method kxs_IndexError F2 X₀ N2 (List.Mem.head _) (InstAt.of_exc0 (t := t0) (c2 := .none) N2 (List.Mem.tail _ (List.Mem.head _))) T.any T.sup T.sI (by decide +kernel) (fun q3 h₃ F3 N3 l3 => ?_)
  refine kxs_callWith1 (i := "IndexError.__init__") (x := x) N3 (List.Mem.head _) ?_
  refine Calls.spliced_cons (Calls.Constant_str (k := 0) (pos := ⟨0, 0, 0, 0⟩) ?_)
  refine Calls.spliced_nil ⟨kxs_at N3 (List.Mem.head _), ?_⟩
  have n1 : x ≠ h₁.objs.size := Nat.ne_of_lt (Heap.lt_size I1.at_)
  have n2 : x ≠ q3 := Nat.ne_of_lt (l3 _ (List.Mem.tail _ (List.Mem.head _)))
  refine kxs_call F3 X₀ N3 PySem.F.excBase_IndexError T.qi (List.Mem.head _) (.tail (Ne.symm n2) (.tail (Ne.symm n1) (.head (fun p hp => by cases hp)))) (by show 1 ≤ sizeLine; decide) (fun t4 h₄ F4 N4 l4 => ?_)
  refine ks_wpAt_execs_cons (ks_wpAt_Assign_Attr ?_)
  refine wpAt_of_wpAny (wpAny_Name (wpAny_loadName_local rfl rfl F4.ns rfl (wpAny_Name (wpAny_loadName_local rfl rfl F4.ns rfl ?_) (by decide))) (by decide))
  obtain ⟨es, n, ee⟩ : ∃ es n, (putL "value" (PyData.keyHash w.params "value") (.str "value" (s.toks + 2 + 1 + 1 + 1)) v [], putN "value" [] 0) = (es, n) := ⟨_, _, rfl⟩
  refine set_exc0 PySem.F.store_IndexError F4 X₀ N4 (List.Mem.tail _ (List.Mem.tail _ (List.Mem.tail _ (List.Mem.head _)))) T.sa T.ov T.tk T.hdC ee (.tail ?_ (.tail (Ne.symm n2) (.tail (Ne.symm n1) (.head (fun p hp => by cases hp))))) ?_ (fun dx h₅ F5 N5 l5 => ?_)
  · exact Nat.ne_of_gt (l4 _ (List.Mem.tail _ (List.Mem.tail _ (List.Mem.head _))))
  · rw [← (Prod.mk.inj ee).1]
    show 1 ≤ 1000
    decide
  · have a1 : t4 < dx := l5 _ (List.Mem.head _)
    have a2 : x < dx := l5 _ (List.Mem.tail _ (List.Mem.tail _ (List.Mem.tail _ (List.Mem.head _))))
    have a3 : h₁.objs.size < t4 := l4 _ (List.Mem.tail _ (List.Mem.head _))
    have a4 : s.heap.objs.size < h₁.objs.size := hns.lt
    refine wpAt_of_wpAny (wpAny_execs_nil (hq h₅ _ dx t4 ⟨fun b o hb e => F5.keep b o (hideAll_get _ e (fun z => hb (List.mem_singleton.mp z))), ?_, Nat.le_of_lt (Nat.lt_trans a4 (Nat.lt_trans a3 a1)), Nat.ne_of_gt a2, ns1_one ee (N5 _ (List.Mem.head _)).1⟩))
    exact (N5 _ (List.Mem.tail _ (List.Mem.tail _ (List.Mem.tail _ (List.Mem.tail _ (List.Mem.head _)))))).1
/-- a made error -/
structure OwnMade (h h' : Heap) (e C d : Addr) (v : Value) : Prop where
  keep : ∀ b o, h.get? b = some o → h'.get? b = some o
  new : h.objs.size ≤ e
  obj : ∃ oe vs, h'.get? e = some oe ∧ oe.cls = .ref C ∧ oe.dict = some d ∧ oe.data = .fields vs ∧ vs[1]? = some .none
  dbig : h.objs.size ≤ d
  dne : d ≠ e
  ns : h'.Ns1 d (fun y => if y = "value" then some v else none)
theorem bmI_contains : ∀ X : String, bmI.contains (.type X) = bmI.contains (.type X) := fun _ => rfl
theorem num_made (T : NumTxt P K mg C fI) {v : Value} (X : K.In s.heap) (hg : s.heap.Ns mainGlobals mg) {mb : Str → Option Value} (hb : s.heap.Ns builtinsNs mb) (hbb : ∀ x : Str, x ≠ "__name__" → mb x = bootBuiltins x) (hlim : s.heap.NoLimit) (hroom : A.depth + 1 < recursionLimit)
    (hq : ∀ h' tk e d, OwnMade s.heap h' e C d v → R (.ok (.ret (.ref e))) { s with heap := h', toks := tk }) : codeAny (model P w) A (.call (.ref C) ⟨[v], []⟩) R s := by
  obtain ⟨nm, q, N, bs, sn, sub, ab, col, dd, k0, k1, k2, k3, k5, hC⟩ := T.cls
  obtain ⟨hp, g, dr, tk, os⟩ := s
  have k : ∀ b o, hp.get? b = some o → ((hp.push (kdv_tup [v])).push (HandSPX.excO C hp.objs.size)).get? b = some o := fun b o e => Heap.get?_push_of_some _ (Heap.get?_push_of_some _ e)
  have hget : ((hp.push (kdv_tup [v])).push (HandSPX.excO C hp.objs.size)).get? (hp.objs.size + 1) = some (HandSPX.excO C hp.objs.size) := by heap_get
  have hnx : K.lookup (hp.objs.size + 1) = none := by
    cases e : K.lookup (hp.objs.size + 1) with
    | none => rfl
    | some o =>
      have z : hp.get? (hp.objs.size + 1) = some o := X _ _ e
      exact absurd (Nat.lt_of_succ_lt (Heap.lt_size z)) (Nat.lt_irrefl _)
  refine HandSPX.call_own PySem.F.excBase_IndexError bmI_contains (X _ _ hC) (looks_findIn X T.iC) (fun self => bind_fn X self T.tC) (by show 1 ≤ sizeLine; decide) ?_
  refine num_init (s := ⟨(hp.push (kdv_tup [v])).push (HandSPX.excO C hp.objs.size), g, dr, tk, os⟩) T (X.keeps k) (hg.keeps k) (hb.keeps k) hbb (hlim.keeps k) hget hnx ?_ fun h' tk' dx t1 M => ?_
  · show A.depth + 1 < recursionLimit
    exact hroom
  · obtain ⟨k', hx, dn, dne, hns⟩ := M
    have old : ∀ b o, hp.get? b = some o → h'.get? b = some o := fun b o e => k' b o (Nat.ne_of_lt (Nat.lt_succ_of_lt (Heap.lt_size e))) (k b o e)
    have z : hp.objs.size + 1 + 1 ≤ dx := by
      first
        | (simpa only [Heap.size_push] using dn)
        | exact dn
    exact ⟨rfl, hq h' tk' (hp.objs.size + 1) dx ⟨old, Nat.le_succ _, ⟨_, _, hx, rfl, rfl, rfl, rfl⟩, Nat.le_trans (Nat.le_trans (Nat.le_succ _) (Nat.le_succ _)) z, dne, hns⟩⟩
end
end VNum
namespace VNum
open PySem PySem.Spec PyProof.Rows L2
theorem relO_num {v : V} {v' : Value} (r : RelV v v') (f : Str) : RelO (List.lookup f [(("value" : Str), v)]) (if f = "value" then some v' else none) := by
  by_cases hw : f = "value"
  · subst hw
    rw [if_pos rfl]
    have q : List.lookup ("value" : Str) [(("value" : Str), v)] = some v := by simp [List.lookup]
    rw [q]
    exact r
  · rw [if_neg hw]
    have qw : (f == ("value" : Str)) = false := by simpa using hw
    have q2 : List.lookup f [(("value" : Str), v)] = none := by simp [List.lookup, qw]
    rw [q2]
    trivial
section
variable {X : Cx} {C fI : Addr}
/-- InvalidNumber(e) -/
def tMkNum (C : Addr) (ta : TA) : L2.St → Hp → XK → Prop := fun σ H Q => ta σ H fun vs H1 => ∃ v, vs = [v] ∧ ∀ d, H1 d = none → Q (.ref C) (some d) (upd H1 d (.xd [(("value" : Str), v)]))
theorem pmk_num {a : Expr} {ta : TA} {p pos : Pos} {k : Nat} (T : NumTxt X.prog X.K X.mg C fI) (hr : Room k X.A) (ha : PA X [a] ta) (hg : Gl X "InvalidNumber" := by rfl)
    (he : starEach (a :: []) X.env = (false, eval a X.env) :: starEach [] X.env := by rfl) (hpl : (backTo pos (starEach [] X.env)).any (·.1) = false := by rfl) :
    PMk X (.Call (.Name "InvalidNumber" p) [a] [] pos) (tMkNum C ta) := by
  intro pins s σ H Q I h
  refine wpAny_Call_Name_kw (ld_glob I hg T.gC ?_)
  refine PySem.W.callWith_K (h₀ := X.base) I.ok.mod.kin T.kC (thn (ha.run pos pins s σ H _ I h) fun us s1 hh => ?_) he hpl
  obtain ⟨vs, H1, I1, r1, v, ev, q1⟩ := hh
  subst ev
  refine ⟨I1.kIn, ?_⟩
  cases r1 with
  | cons rv rn =>
    rename_i v' us'
    cases rn
    show wpAny _ _ (call (.ref C) [v']) _ _ _
    have hlim := I1.nolimit
    have hG := I1.mod.glob.keeps I1.bk
    obtain ⟨mb, hB, hbb⟩ := I1.mod.blt
    have hB' := hB.keeps I1.bk
    obtain ⟨hp, g, dr, tk, os⟩ := s1
    refine wpAny_call (num_made T I1.kIn hG hB' hbb hlim (by have := hr.dp; omega) fun h' tk' e d M => ?_)
    show MkP X pins σ Q (.ref e) ⟨h', g, dr, tk', os⟩
    obtain ⟨oe, fv, hoe, hc, hd, hdat, h1⟩ := M.obj
    have hns := M.ns
    obtain ⟨G', g1, g2⟩ := restrict h' fun b => decide (b ≠ e)
    have gk : ∀ b, b ≠ e → G'.get? b = h'.get? b := fun b hb => g1 b (decide_eq_true hb)
    have ge : G'.get? e = none := g2 e (by simp)
    have old : ∀ b o, hp.get? b = some o → G'.get? b = some o := fun b o q => (gk b (Nat.ne_of_lt (Nat.lt_of_lt_of_le (Heap.lt_size q) M.new))).trans (M.keep b o q)
    have ob : ObjOk X.prog X.w (upd H1 d (.xd [(("value" : Str), v)])) G' d (.xd [(("value" : Str), v)]) :=
      ⟨_, hns.at (fun o q => (gk d M.dne).trans q), fun f => relO_num rv f⟩
    have J : Inv X pins σ (upd H1 d (.xd [(("value" : Str), v)])) ⟨G', g, dr, tk', os⟩ := I1.laid (t' := tk') old M.dbig ob
    refine ⟨e, oe, fv, ⟨G', g, dr, tk', os⟩, _, .ref C, some d, rfl, J, fun b o q => ?_, ge, hoe, ⟨hc, hd⟩, hdat, h1, ?_, rfl, I1.bare, raises_own T.exC T.tyC, q1 d (I1.hok.fresh M.dbig)⟩
    · by_cases hb : b = e
      · have q' : G'.get? b = some o := q
        rw [hb, ge] at q'; cases q'
      · exact (gk b hb).symm.trans q
    · rw [upd_ne (Ne.symm M.dne)]
      exact I1.hok.fresh M.new
end
end VNum


set_option Elab.async false
set_option maxRecDepth 100000
set_option maxHeartbeats 4000000
set_option exponentiation.threshold 3000
namespace Vf
open PySem L2 SX Vm
open PySem.Builtin.Str PySem.StrLaws
/-- a plain value, and its class -/
inductive Pl (H : Hp) : V → Value → Prop where
  | non : Pl H .non (.type "NoneType")
  | bl (b : Bool) : Pl H (.bl b) (.type "bool")
  | int (n : Int) : Pl H (.int n) (.type "int")
  | str (s : Str) (h : s.length ≤ 9000) : Pl H (.str s) (.type "str")
  | lst {p : Addr} {xs : List V} (h : H p = some (.lst xs)) : Pl H (.ref p) (.type "list")
  | tup {p : Addr} {xs : List V} (h : H p = some (.tup xs)) : Pl H (.ref p) (.type "tuple")
  | dct {p : Addr} {kvs : List (Key × V)} (h : H p = some (.dK kvs)) : Pl H (.ref p) (.type "dict")
theorem Pl.tyx {K : PySem.W.Frag} {H : Hp} {v : V} {t : Value} (p : Pl H v t) : TyX K H v t := by
  cases p with
  | non => exact .base .non
  | bl b => exact .base (.bl b)
  | int n => exact .base (.int n)
  | str s _ => exact .base (.str s)
  | lst h => exact .base (.lst h)
  | tup h => exact .base (.tup h)
  | dct h => exact .base (.dK h)
theorem Pl.same {H H' : Hp} {v : V} {t : Value} (p : Pl H v t) (s : ∀ b o, H b = some o → (∃ xs, o = .lst xs ∨ o = .tup xs) ∨ (∃ kvs, o = .dK kvs) → H' b = some o) : Pl H' v t := by
  cases p with
  | non => exact .non
  | bl b => exact .bl b
  | int n => exact .int n
  | str x h => exact .str x h
  | lst h => exact .lst (s _ _ h (.inl ⟨_, .inl rfl⟩))
  | tup h => exact .tup (s _ _ h (.inl ⟨_, .inr rfl⟩))
  | dct h => exact .dct (s _ _ h (.inr ⟨_, rfl⟩))
def isIntV : V → Bool
  | .int _ => true
  | _ => false
def withinV (lo hi : Int) : V → Bool
  | .int n => decide (lo ≤ n) && decide (n ≤ hi)
  | _ => false
/-- the digits of a base -/
def digs (b : Nat) : List Nat := [48, 49, 50, 51, 52].take b
def wordV (b : Nat) : V → Bool
  | .str s => s.cps.toList.all fun c => decide (48 ≤ c) && decide (c < 48 + b)
  | _ => false
theorem strip_empty (l ds : List Nat) : (Txt.stripChars (S l) (S ds) = ("" : Str)) ↔ ∀ c ∈ l, c ∈ ds := by
  rw [str_empty]
  unfold Txt.stripChars
  rw [PyProof.Rows.stripBy_eq]
  obtain ⟨a1, a2, a3⟩ := PyProof.Rows.lo_facts (S ds).cps.contains (S l)
  obtain ⟨b1, b2, b3, b4⟩ := PyProof.Rows.hi_facts (S ds).cps.contains (S l) _ a1
  generalize stripLo (S ds).cps.contains true (S l) = lo at *
  generalize stripHi (S ds).cps.contains true (S l) lo = hi at *
  have gd : ∀ k, k < l.length → (S l).cps.getD k 0 ∈ l := fun k hk => by
    have : (S l).cps.getD k 0 = l[k] := by simp [Array.getD, hk]
    rw [this]
    exact List.getElem_mem hk
  have gc : ∀ c, (S ds).cps.contains c = true ↔ c ∈ ds := fun c => by simp
  rw [S_len] at a1 a3 b2 b3
  constructor
  · intro e
    have sz : hi - lo = 0 := by
      have z := congrArg (fun s : Str => s.cps.size) e
      have z' : hi - lo = 0 ∨ l.length - lo = 0 := by simpa [strSub] using z
      omega
    intro c hc
    obtain ⟨k, hk, rfl⟩ := List.getElem_of_mem hc
    have gk : (S l).cps.getD k 0 = l[k] := by simp [Array.getD, hk]
    rw [← gc, ← gk]
    rcases Nat.lt_or_ge k lo with h | h
    · exact a2 k h
    · exact b3 k (by omega) hk
  · intro e
    have lo_l : lo = l.length := by
      rcases a3 with h | h
      · exact h
      · refine Classical.byContradiction fun hn => ?_
        have hlt : lo < l.length := by omega
        have z := (gc _).mpr (e _ (gd lo hlt))
        rw [z] at h
        cases h
    have : hi = l.length := by omega
    rw [this, lo_l]
    show Str.mk _ = Str.mk _
    simp
theorem digs_mem {b c : Nat} (h5 : b ≤ 5) : c ∈ digs b ↔ 48 ≤ c ∧ c < 48 + b := by
  unfold digs
  have : b = 0 ∨ b = 1 ∨ b = 2 ∨ b = 3 ∨ b = 4 ∨ b = 5 := by omega
  rcases this with e | e | e | e | e | e <;> subst e <;> simp <;> omega
theorem word_strip (s : Str) {b : Nat} (h5 : b ≤ 5) : decide (V.str (Txt.stripChars s (S (digs b))) = V.str ("" : Str)) = wordV b (.str s) := by
  have e : s = S s.cps.toList := (S_tl s).symm
  have key := strip_empty s.cps.toList (digs b)
  rw [← e] at key
  show _ = s.cps.toList.all fun c => decide (48 ≤ c) && decide (c < 48 + b)
  by_cases h : ∀ c ∈ s.cps.toList, c ∈ digs b
  · rw [key.mpr h, decide_eq_true rfl]
    symm
    rw [List.all_eq_true]
    intro c hc
    have := (digs_mem h5).mp (h c hc)
    simp [this.1, this.2]
  · rw [decide_eq_false (fun z => h (key.mp (V.str.inj z)))]
    symm
    rw [List.all_eq_false]
    obtain ⟨c, hc⟩ := Classical.not_forall.mp h
    obtain ⟨h1, h2⟩ := Classical.not_imp.mp hc
    refine ⟨c, h1, fun z => h2 ((digs_mem h5).mpr ?_)⟩
    simpa using z
/-- names that the module has not taken, and its constants -/
structure Nm (mg : Str → Option Value) : Prop where
  isinst : mg "isinstance" = none
  int : mg "int" = none
  bool : mg "bool" = none
  str : mg "str" = none
  tuple : mg "tuple" = none
  len : mg "len" = none
  minB : ∃ t, mg "MIN_BASE" = some (.int 2 t)
  maxB : ∃ t, mg "MAX_BASE" = some (.int 5 t)
  maxR : ∃ t, mg "MAX_ROOTS" = some (.int 5000 t)
  dig : ∃ t, mg "DIGITS" = some (.str "01234" t)
def spIsInt : Sp := fun vs H Q _ => ∃ (v : V) (t : Value), vs = [v] ∧ Pl H v t ∧ Q (.bl (isIntV v)) H
def spWithin : Sp := fun vs H Q _ => ∃ (lo hi : Int) (v : V) (t : Value), vs = [.int lo, .int hi, v] ∧ Pl H v t ∧ Q (.bl (withinV lo hi v)) H
def spReqNum (C : Addr) : Sp := fun vs H Q E => ∃ (lo hi : Int) (v : V) (t : Value), vs = [.int lo, .int hi, v] ∧ Pl H v t ∧ (withinV lo hi v = true → Q .non H) ∧ (withinV lo hi v = false → ∀ d, H d = none → E (.ref C) (some d) (upd H d (.xd [(("value" : Str), v)])))
def spReqB (C : Addr) (lo hi : Int) : Sp := fun vs H Q E => ∃ (v : V) (t : Value), vs = [v] ∧ Pl H v t ∧ (withinV lo hi v = true → Q .non H) ∧ (withinV lo hi v = false → ∀ d, H d = none → E (.ref C) (some d) (upd H d (.xd [(("value" : Str), v)])))
def spWordForm : Sp := fun vs H Q _ => ∃ (b : Nat) (v : V) (t : Value), vs = [.int (b : Int), v] ∧ 2 ≤ b ∧ b ≤ 5 ∧ Pl H v t ∧ Q (.bl (wordV b v)) H
section
variable {P : Program} {w : World} {K : PySem.W.Frag} {mg : Str → Option Value} {base : Heap}
theorem scIsInt : FnScope ["value"] ["value"] (defScope sIsInt) := ⟨rfl, rfl, rfl, by decide +kernel, rfl, by decide +kernel, by decide +kernel⟩
theorem kit_int {H : Hp} {v : V} {t : Value} (p : Pl H v t) : ∃ b1 b2, PySem.W.kitOne K t (.type "int") = some b1 ∧ PySem.W.kitOne K t (.type "bool") = some b2 ∧ (b1 && !b2) = isIntV v := by
  cases p with
  | non => exact ⟨false, false, kit_ty (by decide +kernel), kit_ty (by decide +kernel), rfl⟩
  | bl b => exact ⟨true, true, kit_ty (by decide +kernel), kit_ty (by decide +kernel), rfl⟩
  | int n => exact ⟨true, false, kit_ty (by decide +kernel), kit_ty (by decide +kernel), rfl⟩
  | str s => exact ⟨false, false, kit_ty (by decide +kernel), kit_ty (by decide +kernel), rfl⟩
  | lst h => exact ⟨false, false, kit_ty (by decide +kernel), kit_ty (by decide +kernel), rfl⟩
  | tup h => exact ⟨false, false, kit_ty (by decide +kernel), kit_ty (by decide +kernel), rfl⟩
  | dct h => exact ⟨false, false, kit_ty (by decide +kernel), kit_ty (by decide +kernel), rfl⟩
theorem ok_isint {f : Addr} {fd : FuncData} (F : Fun K "is_integer" "is_integer" sIsInt f fd) (N : Nm mg) : FnOk P w K mg base CX0 1 f fd ["value"] spIsInt := by
  refine F.ok scIsInt (fun vs H Q E h => ?_) (fun cdv A outer s H vs Q E hr h => ?_)
  · obtain ⟨v, t, rfl, _⟩ := h
    rfl
  · obtain ⟨v, t, rfl, pl, k⟩ := h
    refine ⟨_, pss_one (ps_ret (pe_and (pe_callB call_isi (by rfl) N.isinst PyProof.Rows.boot_isinstance (pa_cons (pv 0) (pa_cons (pe_bltn (v := .ty "int") (by rfl) N.int PyProof.Rows.boot_int rfl) pa_nil)))
      (pe_one (pe_not (pe_callB call_isi (by rfl) N.isinst PyProof.Rows.boot_isinstance (pa_cons (pv 0) (pa_cons (pe_bltn (v := .ty "bool") (by rfl) N.bool PyProof.Rows.boot_bool rfl) pa_nil))))))), ?_⟩
    obtain ⟨b1, b2, e1, e2, e3⟩ := kit_int (K := K) pl
    refine ⟨_, rfl, _, _, _, _, b1, rfl, .ty "int", pl.tyx, e1, _, rfl, ?_⟩
    cases b1 with
    | false =>
      refine iteF ?_
      rw [← e3] at k
      exact k
    | true =>
      refine iteT ?_
      refine ⟨_, rfl, _, _, _, _, b2, rfl, .ty "bool", pl.tyx, e2, _, rfl, ?_⟩
      rw [← e3] at k
      exact k
theorem scWithin : FnScope ["low", "high", "value"] ["low", "high", "value"] (defScope sWithin) := ⟨rfl, rfl, rfl, by decide +kernel, rfl, by decide +kernel, by decide +kernel⟩
theorem ok_within {f fI : Addr} {fd fdI : FuncData} (F : Fun K "is_integer_within" "is_integer_within" sWithin f fd) (GI : FnOk P w K mg base CX0 1 fI fdI ["value"] spIsInt) (cI : Cal K mg "is_integer" fI fdI ["value"]) : FnOk P w K mg base CX0 2 f fd ["low", "high", "value"] spWithin := by
  refine F.ok scWithin (fun vs H Q E h => ?_) (fun cdv A outer s H vs Q E hr h => ?_)
  · obtain ⟨lo, hi, v, t, rfl, _⟩ := h
    rfl
  · obtain ⟨lo, hi, v, t, rfl, pl, k⟩ := h
    refine ⟨_, pss_one (ps_ret (pe_and (pe_call GI hr rfl cI.mg cI.kp cI.b .nil pass0 (pa_cons (pv 2) pa_nil)) (pe_one (pe_chain op_le op_le (pv 0) (pv 2) (pv 1))))), ?_⟩
    refine ⟨_, rfl, v, t, rfl, pl, _, rfl, ?_⟩
    cases v with
    | int n =>
      refine iteT ?_
      refine ⟨_, rfl, _, rfl, _, _, rfl, rfl, _, rfl, ?_⟩
      by_cases h1 : lo ≤ n
      · refine iteTB (decide_eq_true h1) ?_
        refine ⟨_, rfl, _, _, rfl, rfl, ?_⟩
        have e : withinV lo hi (.int n) = decide (n ≤ hi) := by
          show (decide (lo ≤ n) && decide (n ≤ hi)) = _
          rw [decide_eq_true h1, Bool.true_and]
        rw [e] at k
        exact k
      · refine iteFB (decide_eq_false h1) ?_
        have e : withinV lo hi (.int n) = false := by
          show (decide (lo ≤ n) && decide (n ≤ hi)) = _
          rw [decide_eq_false h1, Bool.false_and]
        rw [e] at k
        exact k
    | _ => exact iteF k
theorem scReqNum : FnScope ["low", "high", "number"] ["low", "high", "number"] (defScope sReqNum) := ⟨rfl, rfl, rfl, by decide +kernel, rfl, by decide +kernel, by decide +kernel⟩
theorem ok_reqnum {f fI C fC : Addr} {fd fdI : FuncData} (F : Fun K "require_number" "require_number" sReqNum f fd) (GI : FnOk P w K mg base CX0 2 fI fdI ["low", "high", "value"] spWithin) (cI : Cal K mg "is_integer_within" fI fdI ["low", "high", "value"])
    (T : VNum.NumTxt P K mg C fC) : FnOk P w K mg base (L2.CX P w) 3 f fd ["low", "high", "number"] (spReqNum C) := by
  refine F.okX scReqNum (fun vs H Q E h => ?_) (fun cdv A outer s H vs Q E hr h => ?_)
  · obtain ⟨lo, hi, v, t, rfl, _⟩ := h
    rfl
  · obtain ⟨lo, hi, v, t, rfl, pl, k1, k2⟩ := h
    refine ⟨_, pss_one (ps_if (pt_not (pt_val (pe_call GI hr rfl cI.mg cI.kp cI.b .nil pass0 (pa_cons (pv 0) (pa_cons (pv 1) (pa_cons (pv 2) pa_nil))))))
      (pss_one (ps_raise rfl (takes_of rfl rfl rfl rfl) (VNum.pmk_num T hr (pa_cons (pv 2) pa_nil)))) pss_nil), ?_⟩
    refine ⟨_, rfl, _, rfl, _, rfl, lo, hi, v, t, rfl, pl, _, rfl, ?_⟩
    cases e : withinV lo hi v with
    | true => exact iteF (k1 e)
    | false =>
      refine iteT ?_
      exact ⟨_, rfl, v, rfl, fun d hd => k2 e d hd⟩
theorem scReqBase : FnScope ["base"] ["base"] (defScope sReqBase) := ⟨rfl, rfl, rfl, by decide +kernel, rfl, by decide +kernel, by decide +kernel⟩
theorem ok_reqbase {f fN C : Addr} {fd fdN : FuncData} (F : Fun K "require_base" "require_base" sReqBase f fd) (GN : FnOk P w K mg base (L2.CX P w) 3 fN fdN ["low", "high", "number"] (spReqNum C)) (cN : Cal K mg "require_number" fN fdN ["low", "high", "number"]) (N : Nm mg) :
    FnOk P w K mg base (L2.CX P w) 4 f fd ["base"] (spReqB C 2 5) := by
  refine F.okX scReqBase (fun vs H Q E h => ?_) (fun cdv A outer s H vs Q E hr h => ?_)
  · obtain ⟨v, t, rfl, _⟩ := h
    rfl
  · obtain ⟨v, t, rfl, pl, k1, k2⟩ := h
    obtain ⟨t1, m1⟩ := N.minB
    obtain ⟨t2, m2⟩ := N.maxB
    refine ⟨_, pss_one (ps_expr (pe_call GN hr rfl cN.mg cN.kp cN.b .nil (passes_call (takes_of rfl rfl rfl rfl) (fun _ _ _ _ h => h)) (pa_cons (pe_glob (v := .int 2) rfl m1 ⟨_, rfl⟩) (pa_cons (pe_glob (v := .int 5) rfl m2 ⟨_, rfl⟩) (pa_cons (pv 0) pa_nil))))), ?_⟩
    exact ⟨_, rfl, 2, 5, v, t, rfl, pl, k1, k2⟩
theorem scReqRoots : FnScope ["roots"] ["roots"] (defScope sReqRoots) := ⟨rfl, rfl, rfl, by decide +kernel, rfl, by decide +kernel, by decide +kernel⟩
theorem ok_reqroots {f fN C : Addr} {fd fdN : FuncData} (F : Fun K "require_roots" "require_roots" sReqRoots f fd) (GN : FnOk P w K mg base (L2.CX P w) 3 fN fdN ["low", "high", "number"] (spReqNum C)) (cN : Cal K mg "require_number" fN fdN ["low", "high", "number"]) (N : Nm mg) :
    FnOk P w K mg base (L2.CX P w) 4 f fd ["roots"] (spReqB C 1 5000) := by
  refine F.okX scReqRoots (fun vs H Q E h => ?_) (fun cdv A outer s H vs Q E hr h => ?_)
  · obtain ⟨v, t, rfl, _⟩ := h
    rfl
  · obtain ⟨v, t, rfl, pl, k1, k2⟩ := h
    obtain ⟨t2, m2⟩ := N.maxR
    refine ⟨_, pss_one (ps_expr (pe_call GN hr rfl cN.mg cN.kp cN.b .nil (passes_call (takes_of rfl rfl rfl rfl) (fun _ _ _ _ h => h)) (pa_cons pe_int (pa_cons (pe_glob (v := .int 5000) rfl m2 ⟨_, rfl⟩) (pa_cons (pv 0) pa_nil))))), ?_⟩
    exact ⟨_, rfl, 1, 5000, v, t, rfl, pl, k1, k2⟩
theorem scWordForm : FnScope ["base", "value"] ["base", "value"] (defScope sWordForm) := ⟨rfl, rfl, rfl, by decide +kernel, rfl, by decide +kernel, by decide +kernel⟩
theorem kit_str {H : Hp} {v : V} {t : Value} (p : Pl H v t) : (∃ s, v = .str s ∧ s.length ≤ 9000 ∧ PySem.W.kitOne K t (.type "str") = some true) ∨ (PySem.W.kitOne K t (.type "str") = some false ∧ ∀ b, wordV b v = false) := by
  cases p with
  | str s h => exact .inl ⟨s, rfl, h, kit_ty (by decide +kernel)⟩
  | _ => exact .inr ⟨kit_ty (by decide +kernel), fun _ => rfl⟩
theorem ok_wordform {f : Addr} {fd : FuncData} (F : Fun K "has_word_form" "has_word_form" sWordForm f fd) (N : Nm mg) : FnOk P w K mg base CX0 1 f fd ["base", "value"] spWordForm := by
  refine F.ok scWordForm (fun vs H Q E h => ?_) (fun cdv A outer s H vs Q E hr h => ?_)
  · obtain ⟨b, v, t, rfl, _⟩ := h
    rfl
  · obtain ⟨b, v, t, rfl, b2, b5, pl, k⟩ := h
    obtain ⟨td, md⟩ := N.dig
    refine ⟨_, pss_one (ps_ret (pe_and (pe_callB call_isi (by rfl) N.isinst PyProof.Rows.boot_isinstance (pa_cons (pv 1) (pa_cons (pe_bltn (v := .ty "str") (by rfl) N.str PyProof.Rows.boot_str rfl) pa_nil)))
      (pe_one (pe_cmpR op_eq (pe_bm PySem.F.plainAttrs_str PySem.F.slot_str_strip PySem.F.type_str_strip mt_stripChars (pv 1) (pa_cons (pe_slice sl_str (pe_glob (v := .str "01234") rfl md ⟨_, rfl⟩) po_none (po_some (pv 0))) pa_nil)) pe_str (nomark _))))), ?_⟩
    have ed : cutS ("01234" : Str) none (some (b : Int)) = S (digs b) := by
      rw [s01234, cut_take (by simpa using b5)]
      rfl
    rcases kit_str (K := K) pl with ⟨s1, rfl, hs, e⟩ | ⟨e, hw⟩
    · refine ⟨_, rfl, _, _, _, _, true, rfl, .ty "str", pl.tyx, e, _, rfl, ?_⟩
      refine iteT ?_
      refine ⟨_, rfl, rfl, _, rfl, _, rfl, _, rfl, len5, _, _, rfl, rfl, Nat.le_trans hs (by decide), rfl, ?_⟩
      rw [ed, word_strip s1 b5]
      exact k
    · refine ⟨_, rfl, _, _, _, _, false, rfl, .ty "str", pl.tyx, e, _, rfl, ?_⟩
      rw [hw] at k
      exact iteF k
end
end Vf


set_option Elab.async false
set_option maxRecDepth 100000
set_option maxHeartbeats 4000000
set_option exponentiation.threshold 3000
namespace Vf
open PySem L2 SX Vm
open PySem.Builtin.Str PySem.StrLaws
theorem nf_least {f : Nat → Nat} {h q : List Nat} {s : Nat} (n : Nf f h q) (l : Least q s) : s = q.length := by
  rcases Nat.lt_or_ge s q.length with hlt | hge
  · refine absurd (fun i hi => ?_) (n.prim s h.length l.pos hlt)
    rw [← n.is, ← n.is, ev_ge (by omega), ev_ge hi, show i + s - h.length = i - h.length + s by omega]
    exact l.per _
  · exact Nat.le_antisymm (l.le n.ne) hge
theorem nf_ends {f : Nat → Nat} {h q : List Nat} (n : Nf f h q) : Txt.endswith (S h) ⟨#[q.getD (q.length - 1) 0]⟩ = false := by
  have hq := n.ne
  unfold Txt.endswith
  rw [Bool.and_eq_false_iff]
  by_cases h0 : h.length = 0
  · left
    have e : h = [] := List.length_eq_zero_iff.mp h0
    subst e
    rfl
  · right
    refine Bool.eq_false_iff.mpr fun z => ?_
    have key := (subAt_one (S h) (q.getD (q.length - 1) 0) (h.length - 1)).mp ⟨by rw [S_len]; show h.length - 1 + 1 ≤ h.length; omega, by rw [S_len] at z; exact z⟩
    refine n.trim (by omega) ?_
    rw [← n.is, ← n.is, ev_lt (show h.length - 1 < h.length by omega), ev_ge (show h.length ≤ h.length - 1 + q.length by omega), show h.length - 1 + q.length - h.length = q.length - 1 by omega, g_lt (show q.length - 1 < q.length by omega)]
    have key' : h[h.length - 1]? = some (q.getD (q.length - 1) 0) := key
    rw [show h.getD (h.length - 1) 0 = h[h.length - 1]?.getD 0 from List.getD_eq_getElem?_getD, key']
    rfl
theorem wordV_of {b : Nat} {l : List Nat} (w : IsW (b : Int) l) : wordV b (.str (S l)) = true := by
  show l.all _ = true
  rw [List.all_eq_true]
  intro c hc
  obtain ⟨h1, h2⟩ := w c hc
  have h2' : c < 48 + b := by omega
  simp [h1, h2']
theorem of_wordV {b : Nat} {s : Str} (w : wordV b (.str s) = true) : IsW (b : Int) s.cps.toList := fun c hc => by
  have z := (List.all_eq_true.mp (show s.cps.toList.all _ = true from w)) c hc
  simp at z
  omega
noncomputable instance decLeast (y : List Nat) (s : Nat) : Decidable (Least y s) := Classical.propDecidable _
/-- whether words are those of a normal form -/
noncomputable def sfB (x y : List Nat) : Bool := decide (Least y y.length) && !(Txt.endswith (S x) ⟨#[y.getD (y.length - 1) 0]⟩)
theorem sfB_nf {f : Nat → Nat} {x y : List Nat} (n : Nf f x y) : sfB x y = true := by
  unfold sfB
  obtain ⟨s, e, l⟩ := find_least n.ne
  have := nf_least n l
  subst this
  rw [decide_eq_true l, nf_ends n]
  rfl
/-- what has_stream_form says -/
inductive SF (H : Hp) (b : Nat) (R : Int) : V → Bool → Prop where
  | non {v : V} {t : Value} (p : Pl H v t) (n : ∀ q xs, v = .ref q → H q ≠ some (.tup xs)) : SF H b R v false
  | len {p : Addr} {xs : List V} (h : H p = some (.tup xs)) (n : xs.length ≠ 3) : SF H b R (.ref p) false
  | root {p : Addr} {r x y : V} {tr : Value} (h : H p = some (.tup [r, x, y])) (pr : ∀ H0 : Hp, Pl H0 r tr) (n : withinV 0 (R - 1) r = false) : SF H b R (.ref p) false
  | head {p : Addr} {r x y : V} {tr tx : Value} (h : H p = some (.tup [r, x, y])) (pr : ∀ H0 : Hp, Pl H0 r tr) (w : withinV 0 (R - 1) r = true) (px : ∀ H0 : Hp, Pl H0 x tx) (n : wordV b x = false) : SF H b R (.ref p) false
  | per {p : Addr} {r x y : V} {tr tx ty : Value} (h : H p = some (.tup [r, x, y])) (pr : ∀ H0 : Hp, Pl H0 r tr) (w : withinV 0 (R - 1) r = true) (px : ∀ H0 : Hp, Pl H0 x tx) (wx : wordV b x = true) (py : ∀ H0 : Hp, Pl H0 y ty) (n : wordV b y = false ∨ y = .str "") : SF H b R (.ref p) false
  | fin {p : Addr} {r : V} {x y : List Nat} {tr : Value} (h : H p = some (.tup [r, .str (S x), .str (S y)])) (pr : ∀ H0 : Hp, Pl H0 r tr) (w : withinV 0 (R - 1) r = true) (wx : IsW b x) (wy : IsW b y) (y0 : 0 < y.length) (lx : x.length ≤ 9000) (ly : y.length ≤ 1000) : SF H b R (.ref p) (sfB x y)
theorem pl_keep0 {H H' : Hp} {v : V} {t : Value} (h : Pl H v t) (k : ∀ q o, v = .ref q → (∀ ps, o ≠ .tbl ps) → H q = some o → H' q = some o) : Pl H' v t := by
  cases h with
  | non => exact .non
  | bl b => exact .bl b
  | int n => exact .int n
  | str x h => exact .str x h
  | lst e => exact .lst (k _ _ rfl (fun _ z => nomatch z) e)
  | tup e => exact .tup (k _ _ rfl (fun _ z => nomatch z) e)
  | dct e => exact .dct (k _ _ rfl (fun _ z => nomatch z) e)
theorem nt_keep {H H' : Hp} {v : V} {t : Value} (p : Pl H v t) (n : ∀ q xs, v = .ref q → H q ≠ some (.tup xs)) (k : ∀ q o, v = .ref q → (∀ ps, o ≠ .tbl ps) → H q = some o → H' q = some o) : ∀ q xs, v = .ref q → H' q ≠ some (.tup xs) := by
  intro q xs e
  cases p with
  | lst h =>
    cases e
    rw [k _ (.lst _) rfl (fun _ z => nomatch z) h]
    intro z
    cases z
  | tup h =>
    cases e
    exact absurd h (n _ _ rfl)
  | dct h =>
    cases e
    rw [k _ (.dK _) rfl (fun _ z => nomatch z) h]
    intro z
    cases z
  | _ => cases e
theorem SF.keep {H H' : Hp} {b : Nat} {R : Int} {v : V} {res : Bool} (s : SF H b R v res) (k : ∀ q o, v = .ref q → (∀ ps, o ≠ .tbl ps) → H q = some o → H' q = some o) : SF H' b R v res := by
  cases s with
  | non p n => exact .non (pl_keep0 p k) (nt_keep p n k)
  | len h n => exact .len (k _ _ rfl (fun _ z => nomatch z) h) n
  | root h pr n => exact .root (k _ _ rfl (fun _ z => nomatch z) h) pr n
  | head h pr w px n => exact .head (k _ _ rfl (fun _ z => nomatch z) h) pr w px n
  | per h pr w px wx py n => exact .per (k _ _ rfl (fun _ z => nomatch z) h) pr w px wx py n
  | fin h pr w wx wy y0 lx ly => exact .fin (k _ _ rfl (fun _ z => nomatch z) h) pr w wx wy y0 lx ly
def spStreamForm : Sp := fun vs H Q _ => ∃ (b : Nat) (R : Int) (v : V) (res : Bool), vs = [.int (b : Int), .int R, v] ∧ 2 ≤ b ∧ b ≤ 5 ∧ SF H b R v res ∧ Q (.bl res) H
def spIsStream : Sp := fun vs H Q _ => ∃ (b : Nat) (R r : Int) (p : Addr) (h q : List Nat) (f : Nat → Nat), vs = [.int (b : Int), .int R, .ref p] ∧ 2 ≤ b ∧ b ≤ 5 ∧ 1 ≤ R ∧ R ≤ 5000 ∧ 0 ≤ r ∧ r ≤ R - 1 ∧ H p = some (.tup [.int r, .str (S h), .str (S q)]) ∧ Nf f h q ∧ h.length ≤ 1000 ∧ q.length ≤ 1000 ∧ IsW b h ∧ IsW b q ∧ Q (.bl true) H
theorem SF.right {H : Hp} {b : Nat} {R r : Int} {p : Addr} {h q : List Nat} {f : Nat → Nat} (hp : H p = some (.tup [.int r, .str (S h), .str (S q)])) (r0 : 0 ≤ r) (r1 : r ≤ R - 1) (nf : Nf f h q) (hl : h.length ≤ 9000) (ql : q.length ≤ 1000) (wh : IsW b h) (wq : IsW b q) : SF H b R (.ref p) true := by
  have w1 : withinV 0 (R - 1) (.int r) = true := by
    show (decide (0 ≤ r) && decide (r ≤ R - 1)) = true
    rw [decide_eq_true r0, decide_eq_true r1]
    rfl
  rw [← sfB_nf nf]
  exact .fin hp (fun _ => .int r) w1 wh wq nf.ne hl ql
theorem kit_tup {K : PySem.W.Frag} {H : Hp} {v : V} {t : Value} (p : Pl H v t) (n : ∀ q xs, v = .ref q → H q ≠ some (.tup xs)) : PySem.W.kitOne K t (.type "tuple") = some false := by
  cases p with
  | tup h => exact absurd h (n _ _ rfl)
  | _ => exact kit_ty (by decide +kernel)
section
variable {P : Program} {w : World} {K : PySem.W.Frag} {mg : Str → Option Value} {base : Heap}
theorem scStreamForm : FnScope ["base", "roots", "value", "_", "head", "period"] ["base", "roots", "value"] (defScope sStreamForm) := ⟨rfl, rfl, rfl, by decide +kernel, rfl, by decide +kernel, by decide +kernel⟩
theorem ok_streamform {f fI fW fS : Addr} {fd fdI fdW fdS : FuncData} (F : Fun K "has_stream_form" "has_stream_form" sStreamForm f fd) (GI : FnOk P w K mg base CX0 2 fI fdI ["low", "high", "value"] spWithin) (cI : Cal K mg "is_integer_within" fI fdI ["low", "high", "value"])
    (GW : FnOk P w K mg base CX0 1 fW fdW ["base", "value"] spWordForm) (cW : Cal K mg "has_word_form" fW fdW ["base", "value"]) (GS : FnOk P w K mg base CX0 1 fS fdS ["period"] spShort) (cS : Cal K mg "shortest_period" fS fdS ["period"]) (N : Nm mg) :
    FnOk P w K mg base CX0 3 f fd ["base", "roots", "value"] spStreamForm := by
  refine F.ok scStreamForm (fun vs H Q E h => ?_) (fun cdv A outer s H vs Q E hr h => ?_)
  · obtain ⟨b, R, v, res, rfl, _⟩ := h
    rfl
  · obtain ⟨b, R, v, res, rfl, b2, b5, sf, k⟩ := h
    have nd := scStreamForm.nd
    have hr1 := hr.mono (show 1 ≤ 2 by decide)
    refine ⟨_, pss_cons (ps_if (PW.pt (pw_or (pt_not (pt_val (pe_callB call_isi (by rfl) N.isinst PyProof.Rows.boot_isinstance (pa_cons (pv 2) (pa_cons (pe_bltn (v := .ty "tuple") (by rfl) N.tuple PyProof.Rows.boot_tuple rfl) pa_nil)))))
        (pw_or (pt_cmpR op_ne (pe_callB call_len_seq (by rfl) N.len boot_len (pa_cons (pv 2) pa_nil)) pe_int (nomark _))
        (pw_or1 (pt_not (pt_val (pe_call GI hr rfl cI.mg cI.kp cI.b .nil pass0 (pa_cons pe_int (pa_cons (pe_op op_sub (pv 1) pe_int) (pa_cons (pe_ix ix_tup (pv 2) pe_int (fun _ _ => rfl)) pa_nil))))))))))
        (pss_one (ps_ret pe_bl)) pss_nil)
      (pss_cons (ps_asg (pv 2) (pg_tup rfl (pgs_cons (pg_name (i := 3) nd rfl (.inl rfl)) (pgs_cons (pg_name (i := 4) nd rfl (.inl rfl)) (pgs_cons (pg_name (i := 5) nd rfl (.inl rfl)) pgs_nil)))))
      (pss_cons (ps_if (PW.pt (pw_or (pt_not (pt_val (pe_call GW hr1 rfl cW.mg cW.kp cW.b .nil pass0 (pa_cons (pv 0) (pa_cons (pv 4) pa_nil)))))
        (pw_or (pt_not (pt_val (pe_call GW hr1 rfl cW.mg cW.kp cW.b .nil pass0 (pa_cons (pv 0) (pa_cons (pv 5) pa_nil)))))
        (pw_or1 (pt_cmpR op_eq (pv 5) pe_str (nomark _)))))) (pss_one (ps_ret pe_bl)) pss_nil)
      (pss_one (ps_ret (pe_and (pe_cmpR op_eq (pe_call GS hr1 rfl cS.mg cS.kp cS.b .nil pass0 (pa_cons (pv 5) pa_nil)) (pv 5) (nomark _))
        (pe_one (pe_not (pe_bm PySem.F.plainAttrs_str PySem.F.slot_str_endswith PySem.F.type_str_endswith mt_endswith (pv 4) (pa_cons (pe_ix ix_str (pv 5) (pe_un un_neg pe_int) (fun _ _ => rfl)) pa_nil))))))))), ?_⟩
    have at0 : ∀ r x y : V, atI [r, x, y] 0 = some r := fun _ _ _ => rfl
    cases sf with
    | non p n =>
      refine ⟨_, rfl, _, _, _, _, false, rfl, .ty "tuple", p.tyx, kit_tup p n, _, rfl, ?_⟩
      refine iteT ?_
      exact iteT k
    | @len p xs hp n =>
      refine ⟨_, rfl, _, _, _, _, true, rfl, .ty "tuple", (Pl.tup hp).tyx, kit_ty (by decide +kernel), _, rfl, ?_⟩
      refine iteF ?_
      refine ⟨_, rfl, _, _, rfl, .inr (SqT.of hp), rfl, _, rfl, ?_⟩
      have hb : (!decide (V.int ((xs.length : Nat) : Int) = V.int 3)) = true := by
        rw [decide_eq_false (fun z => n (by have := V.int.inj z; omega))]
        rfl
      exact iteTB hb (iteT k)
    | @root p r x y tr hp pr n =>
      refine ⟨_, rfl, _, _, _, _, true, rfl, .ty "tuple", (Pl.tup hp).tyx, kit_ty (by decide +kernel), _, rfl, ?_⟩
      refine iteF ?_
      refine ⟨_, rfl, p, _, rfl, .inr (SqT.of hp), rfl, _, rfl, ?_⟩
      refine iteFB rfl ?_
      refine ⟨_, rfl, _, _, rfl, rfl, _, rfl, p, _, _, _, rfl, rfl, SqT.of hp, at0 _ _ _, 0, R - 1, _, _, rfl, pr _, _, rfl, ?_⟩
      rw [n]
      exact iteT k
    | @head p r x y tr tx hp pr wr px n =>
      refine ⟨_, rfl, _, _, _, _, true, rfl, .ty "tuple", (Pl.tup hp).tyx, kit_ty (by decide +kernel), _, rfl, ?_⟩
      refine iteF ?_
      refine ⟨_, rfl, p, _, rfl, .inr (SqT.of hp), rfl, _, rfl, ?_⟩
      refine iteFB rfl ?_
      refine ⟨_, rfl, _, _, rfl, rfl, _, rfl, p, _, _, _, rfl, rfl, SqT.of hp, at0 _ _ _, 0, R - 1, _, _, rfl, pr _, _, rfl, ?_⟩
      rw [wr]
      refine iteF ?_
      refine ⟨_, rfl, p, _, rfl, SqT.of hp, rfl, _, _, rfl, _, _, rfl, _, _, rfl, rfl, ?_⟩
      refine ⟨_, rfl, _, rfl, b, _, _, rfl, b2, b5, px _, _, rfl, ?_⟩
      rw [n]
      refine iteT ?_
      exact iteT k
    | @per p r x y tr tx ty hp pr wr px wx py n =>
      refine ⟨_, rfl, _, _, _, _, true, rfl, .ty "tuple", (Pl.tup hp).tyx, kit_ty (by decide +kernel), _, rfl, ?_⟩
      refine iteF ?_
      refine ⟨_, rfl, p, _, rfl, .inr (SqT.of hp), rfl, _, rfl, ?_⟩
      refine iteFB rfl ?_
      refine ⟨_, rfl, _, _, rfl, rfl, _, rfl, p, _, _, _, rfl, rfl, SqT.of hp, at0 _ _ _, 0, R - 1, _, _, rfl, pr _, _, rfl, ?_⟩
      rw [wr]
      refine iteF ?_
      refine ⟨_, rfl, p, _, rfl, SqT.of hp, rfl, _, _, rfl, _, _, rfl, _, _, rfl, rfl, ?_⟩
      refine ⟨_, rfl, _, rfl, b, _, _, rfl, b2, b5, px _, _, rfl, ?_⟩
      rw [wx]
      refine iteF ?_
      refine ⟨_, rfl, _, rfl, b, _, _, rfl, b2, b5, py _, _, rfl, ?_⟩
      cases hw : wordV b y with
      | false =>
        refine iteT ?_
        exact iteT k
      | true =>
        rcases n with n | n
        · rw [n] at hw
          cases hw
        · subst n
          refine iteF ?_
          refine ⟨_, rfl, rfl, _, rfl, ?_⟩
          exact iteTB (decide_eq_true rfl) k
    | @fin p r x y tr hp pr wr wx wy y0 lx ly =>
      refine ⟨_, rfl, _, _, _, _, true, rfl, .ty "tuple", (Pl.tup hp).tyx, kit_ty (by decide +kernel), _, rfl, ?_⟩
      refine iteF ?_
      refine ⟨_, rfl, p, _, rfl, .inr (SqT.of hp), rfl, _, rfl, ?_⟩
      refine iteFB rfl ?_
      refine ⟨_, rfl, _, _, rfl, rfl, _, rfl, p, _, _, _, rfl, rfl, SqT.of hp, at0 _ _ _, 0, R - 1, _, _, rfl, pr _, _, rfl, ?_⟩
      rw [wr]
      refine iteF ?_
      refine ⟨_, rfl, p, _, rfl, SqT.of hp, rfl, _, _, rfl, _, _, rfl, _, _, rfl, rfl, ?_⟩
      have ph : Pl H (.str (S x)) (.type "str") := .str _ (by rw [S_len]; exact lx)
      have pq : Pl H (.str (S y)) (.type "str") := .str _ (by rw [S_len]; omega)
      refine ⟨_, rfl, _, rfl, b, _, _, rfl, b2, b5, ph, _, rfl, ?_⟩
      rw [wordV_of wx]
      refine iteF ?_
      refine ⟨_, rfl, _, rfl, b, _, _, rfl, b2, b5, pq, _, rfl, ?_⟩
      rw [wordV_of wy]
      refine iteF ?_
      have qne : y ≠ [] := fun z => by rw [z] at y0; exact absurd y0 (Nat.lt_irrefl _)
      refine ⟨_, rfl, rfl, _, rfl, ?_⟩
      refine iteFB (decide_eq_false (fun z => qne (str_ne_empty.mp z))) ?_
      refine ⟨_, rfl, y, rfl, y0, ly, fun s l hle => ?_⟩
      by_cases es : s = y.length
      · subst es
        rw [List.take_length]
        refine ⟨_, rfl, rfl, _, rfl, ?_⟩
        refine iteTB (decide_eq_true rfl) ?_
        refine ⟨_, rfl, rfl, _, rfl, _, rfl, _, _, _, rfl, rfl, small_len ly, at_back (t := 0) y0 (by decide), _, _, rfl, rfl, _, rfl, ?_⟩
        rw [Nat.sub_zero]
        unfold sfB at k
        rw [decide_eq_true l, Bool.true_and] at k
        exact k
      · refine ⟨_, rfl, rfl, _, rfl, ?_⟩
        have ne : y.take s ≠ y := fun z => es (by
          have := congrArg List.length z
          rw [List.length_take] at this
          omega)
        refine iteFB (decide_eq_false (fun z => ne (by have e := congrArg (fun s : Str => s.cps.toList) (V.str.inj z); simpa using e))) ?_
        unfold sfB at k
        rw [decide_eq_false (fun z => es (l.unique z)), Bool.false_and] at k
        exact k
/-- what is asked of an error class of the program's own without __init__ -/
structure PfxTxt (K : PySem.W.Frag) (mg : Str → Option Value) (x : Str) (C : Addr) : Prop where
  g : mg x = some (.ref C)
  ex : PySem.W.excIn K C [.type "ValueError", .type "Exception", .type "BaseException", .type "object"] "ValueError.__new__" = true
  kp : PySem.W.keepIn K (.ref C) = true
  bs : PySem.W.subIn K (.ref C) (.type "BaseException") = some true
  ty : PySem.W.typeIn K (.ref C) = some (.type "type")
theorem scIsStream : FnScope ["base", "roots", "value"] ["base", "roots", "value"] (defScope sIsStream) := ⟨rfl, rfl, rfl, by decide +kernel, rfl, by decide +kernel, by decide +kernel⟩
theorem ok_isstream {f fB fR fF CN : Addr} {fd fdB fdR fdF : FuncData} (F : Fun K "is_stream" "is_stream" sIsStream f fd) (GB : FnOk P w K mg base (L2.CX P w) 4 fB fdB ["base"] (spReqB CN 2 5)) (cB : Cal K mg "require_base" fB fdB ["base"])
    (GR : FnOk P w K mg base (L2.CX P w) 4 fR fdR ["roots"] (spReqB CN 1 5000)) (cR : Cal K mg "require_roots" fR fdR ["roots"]) (GF : FnOk P w K mg base CX0 3 fF fdF ["base", "roots", "value"] spStreamForm) (cF : Cal K mg "has_stream_form" fF fdF ["base", "roots", "value"]) :
    FnOk P w K mg base (L2.CX P w) 5 f fd ["base", "roots", "value"] spIsStream := by
  refine F.okX scIsStream (fun vs H Q E h => ?_) (fun cdv A outer s H vs Q E hr h => ?_)
  · obtain ⟨b, R, r, p, h, q, f, rfl, _⟩ := h
    rfl
  · obtain ⟨b, R, r, p, h, q, ff, rfl, b2, b5, R1, R5, r0, r1, hp, nf, hl, ql, wh, wq, k⟩ := h
    have tk := takes_of (X := cxOf (L2.CX P w) P w K mg base ["base", "roots", "value"] "is_stream" (defScope sIsStream) f cdv A outer s H E) (E := E) rfl rfl rfl rfl
    refine ⟨_, pss_cons (ps_expr (pe_call GB hr rfl cB.mg cB.kp cB.b .nil (passes_call (takes_of rfl rfl rfl rfl) (fun _ _ _ _ h => h)) (pa_cons (pv 0) pa_nil)))
      (pss_cons (ps_expr (pe_call GR hr rfl cR.mg cR.kp cR.b .nil (passes_call (takes_of rfl rfl rfl rfl) (fun _ _ _ _ h => h)) (pa_cons (pv 1) pa_nil)))
      (pss_one (ps_ret (pe_call GF (hr.mono (by decide)) rfl cF.mg cF.kp cF.b .nil pass0 (pa_cons (pv 0) (pa_cons (pv 1) (pa_cons (pv 2) pa_nil))))))), ?_⟩
    have w1 : withinV 2 5 (.int (b : Int)) = true := by
      show (decide ((2 : Int) ≤ b) && decide ((b : Int) ≤ 5)) = true
      rw [decide_eq_true (by omega), decide_eq_true (by omega)]
      rfl
    have w2 : withinV 1 5000 (.int R) = true := by
      show (decide ((1 : Int) ≤ R) && decide (R ≤ 5000)) = true
      rw [decide_eq_true R1, decide_eq_true R5]
      rfl
    refine ⟨_, rfl, _, _, rfl, .int b, fun _ => ?_, fun z => by rw [w1] at z; cases z⟩
    refine ⟨_, rfl, _, _, rfl, .int R, fun _ => ?_, fun z => by rw [w2] at z; cases z⟩
    exact ⟨_, rfl, _, rfl, _, rfl, b, R, _, true, rfl, b2, b5, SF.right hp r0 r1 nf (Nat.le_trans hl (by decide)) ql wh wq, k⟩
/-- require_stream -/
def spReqStream (CS : Addr) : Sp := fun vs H Q E => ∃ (b : Nat) (R : Int) (v : V) (res : Bool), vs = [.int (b : Int), .int R, v] ∧ 2 ≤ b ∧ b ≤ 5 ∧ SF H b R v res ∧ (res = true → Q .non H) ∧ (res = false → E (.ref CS) none H)
/-- what has_prefix_form says -/
inductive PF (H : Hp) (b : Nat) (R : Int) : V → Bool → Prop where
  | non {v : V} {t : Value} (p : Pl H v t) (n : ∀ q xs, v = .ref q → H q ≠ some (.tup xs)) : PF H b R v false
  | len {p : Addr} {xs : List V} (h : H p = some (.tup xs)) (n : xs.length ≠ 2) : PF H b R (.ref p) false
  | fin {p : Addr} {r x : V} {tr tx : Value} (h : H p = some (.tup [r, x])) (pr : ∀ H0 : Hp, Pl H0 r tr) (px : ∀ H0 : Hp, Pl H0 x tx) : PF H b R (.ref p) (withinV 0 (R - 1) r && wordV b x)
theorem PF.keep {H H' : Hp} {b : Nat} {R : Int} {v : V} {res : Bool} (s : PF H b R v res) (k : ∀ q o, v = .ref q → (∀ ps, o ≠ .tbl ps) → H q = some o → H' q = some o) : PF H' b R v res := by
  cases s with
  | non p n => exact .non (pl_keep0 p k) (nt_keep p n k)
  | len h n => exact .len (k _ _ rfl (fun _ z => nomatch z) h) n
  | fin h pr px => exact .fin (k _ _ rfl (fun _ z => nomatch z) h) pr px
def spPfxForm : Sp := fun vs H Q _ => ∃ (b : Nat) (R : Int) (v : V) (res : Bool), vs = [.int (b : Int), .int R, v] ∧ 2 ≤ b ∧ b ≤ 5 ∧ PF H b R v res ∧ Q (.bl res) H
theorem scPfxForm : FnScope ["base", "roots", "value", "root", "word"] ["base", "roots", "value"] (defScope sPfxForm) := ⟨rfl, rfl, rfl, by decide +kernel, rfl, by decide +kernel, by decide +kernel⟩
theorem ok_pfxform {f fI fW : Addr} {fd fdI fdW : FuncData} (F : Fun K "has_prefix_form" "has_prefix_form" sPfxForm f fd) (GI : FnOk P w K mg base CX0 2 fI fdI ["low", "high", "value"] spWithin) (cI : Cal K mg "is_integer_within" fI fdI ["low", "high", "value"])
    (GW : FnOk P w K mg base CX0 1 fW fdW ["base", "value"] spWordForm) (cW : Cal K mg "has_word_form" fW fdW ["base", "value"]) (N : Nm mg) : FnOk P w K mg base CX0 3 f fd ["base", "roots", "value"] spPfxForm := by
  refine F.ok scPfxForm (fun vs H Q E h => ?_) (fun cdv A outer s H vs Q E hr h => ?_)
  · obtain ⟨b, R, v, res, rfl, _⟩ := h
    rfl
  · obtain ⟨b, R, v, res, rfl, b2, b5, sf, k⟩ := h
    have nd := scPfxForm.nd
    have hr1 := hr.mono (show 1 ≤ 2 by decide)
    refine ⟨_, pss_cons (ps_if (PW.pt (pw_or (pt_not (pt_val (pe_callB call_isi (by rfl) N.isinst PyProof.Rows.boot_isinstance (pa_cons (pv 2) (pa_cons (pe_bltn (v := .ty "tuple") (by rfl) N.tuple PyProof.Rows.boot_tuple rfl) pa_nil)))))
        (pw_or1 (pt_cmpR op_ne (pe_callB call_len_seq (by rfl) N.len boot_len (pa_cons (pv 2) pa_nil)) pe_int (nomark _)))))
        (pss_one (ps_ret pe_bl)) pss_nil)
      (pss_cons (ps_asg (pv 2) (pg_tup rfl (pgs_cons (pg_name (i := 3) nd rfl (.inl rfl)) (pgs_cons (pg_name (i := 4) nd rfl (.inl rfl)) pgs_nil))))
      (pss_one (ps_ret (pe_and (pe_call GI hr rfl cI.mg cI.kp cI.b .nil pass0 (pa_cons pe_int (pa_cons (pe_op op_sub (pv 1) pe_int) (pa_cons (pv 3) pa_nil))))
        (pe_one (pe_call GW hr1 rfl cW.mg cW.kp cW.b .nil pass0 (pa_cons (pv 0) (pa_cons (pv 4) pa_nil)))))))), ?_⟩
    cases sf with
    | non p n =>
      refine ⟨_, rfl, _, _, _, _, false, rfl, .ty "tuple", p.tyx, kit_tup p n, _, rfl, ?_⟩
      refine iteT ?_
      exact iteT k
    | @len p xs hp n =>
      refine ⟨_, rfl, _, _, _, _, true, rfl, .ty "tuple", (Pl.tup hp).tyx, kit_ty (by decide +kernel), _, rfl, ?_⟩
      refine iteF ?_
      refine ⟨_, rfl, _, _, rfl, .inr (SqT.of hp), rfl, _, rfl, ?_⟩
      exact iteTB (by rw [decide_eq_false (fun z => n (by have := V.int.inj z; omega))]; rfl) k
    | @fin p r x tr tx hp pr px =>
      refine ⟨_, rfl, _, _, _, _, true, rfl, .ty "tuple", (Pl.tup hp).tyx, kit_ty (by decide +kernel), _, rfl, ?_⟩
      refine iteF ?_
      refine ⟨_, rfl, p, _, rfl, .inr (SqT.of hp), rfl, _, rfl, ?_⟩
      refine iteFB rfl ?_
      refine ⟨_, rfl, p, _, rfl, SqT.of hp, rfl, _, _, rfl, _, _, rfl, rfl, ?_⟩
      refine ⟨_, rfl, _, _, rfl, rfl, _, rfl, 0, R - 1, _, _, rfl, pr _, _, rfl, ?_⟩
      cases hw : withinV 0 (R - 1) r with
      | false =>
        rw [hw] at k
        exact iteF k
      | true =>
        refine iteT ?_
        rw [hw] at k
        exact ⟨_, rfl, _, rfl, b, x, _, rfl, b2, b5, px _, k⟩
/-- require_prefix -/
def spReqPfx (CX : Addr) : Sp := fun vs H Q E => ∃ (b : Nat) (R : Int) (v : V) (res : Bool), vs = [.int (b : Int), .int R, v] ∧ 2 ≤ b ∧ b ≤ 5 ∧ PF H b R v res ∧ (res = true → Q .non H) ∧ (res = false → E (.ref CX) none H)
end
end Vf


set_option Elab.async false
set_option maxRecDepth 100000
set_option maxHeartbeats 4000000
set_option exponentiation.threshold 3000
namespace Vm
/-- the first n digits -/
def begN (h q : List Nat) (n : Nat) : List Nat := (List.range n).map (ev h q)
theorem begN_len {h q : List Nat} {n : Nat} : (begN h q n).length = n := by unfold begN; rw [List.length_map, List.length_range]
theorem begN_get {h q : List Nat} {n i : Nat} (hi : i < n) : (begN h q n).getD i 0 = ev h q i := by
  unfold begN
  rw [List.getD_eq_getElem?_getD, List.getElem?_map, List.getElem?_range hi]
  rfl
theorem beg_N {h q : List Nat} {k many : Nat} (hk : many ≤ h.length + k * q.length) : beg h q k many = begN h q many := by
  refine ext_getD (by rw [beg_len hk, begN_len]) fun i hi => ?_
  rw [beg_len hk] at hi
  rw [beg_get hk hi, begN_get hi]
theorem begN_eq {h q h' q' : List Nat} {n : Nat} : begN h q n = begN h' q' n ↔ ∀ i, i < n → ev h q i = ev h' q' i := by
  constructor
  · intro e i hi
    rw [← begN_get hi, e, begN_get hi]
  · intro e
    refine ext_getD (by rw [begN_len, begN_len]) fun i hi => ?_
    rw [begN_len] at hi
    rw [begN_get hi, begN_get hi, e i hi]
theorem begN_is {h q w : List Nat} : begN h q w.length = w ↔ ∀ i, i < w.length → ev h q i = w.getD i 0 := by
  constructor
  · intro e i hi
    rw [← begN_get hi, e]
  · intro e
    refine ext_getD begN_len fun i hi => ?_
    rw [begN_len] at hi
    rw [begN_get hi, e i hi]
/-- w in the place of the first b digits -/
def shF (w : List Nat) (b : Nat) (f : Nat → Nat) (i : Nat) : Nat := if i < w.length then w.getD i 0 else f (i - w.length + b)
theorem shF_lt {w : List Nat} {b : Nat} {f : Nat → Nat} {i : Nat} (h : i < w.length) : shF w b f i = w.getD i 0 := if_pos h
theorem shF_ge {w : List Nat} {b : Nat} {f : Nat → Nat} {i : Nat} (h : w.length ≤ i) : shF w b f i = f (i - w.length + b) := if_neg (by omega)
theorem ev_sh1 {h q w : List Nat} {b : Nat} (hb : b ≤ h.length) (i : Nat) : ev (w ++ h.drop b) q i = shF w b (ev h q) i := by
  have hl : (w ++ h.drop b).length = w.length + (h.length - b) := by rw [List.length_append, List.length_drop]
  by_cases hi : i < w.length
  · rw [shF_lt hi, ev_lt (by omega), getD_app hi]
  · rw [shF_ge (by omega)]
    by_cases h2 : i - w.length + b < h.length
    · rw [ev_lt h2, ev_lt (by omega), getD_app2 (by omega), getD_drop, Nat.add_comm b]
    · rw [ev_ge (by omega), ev_ge (by omega)]
      congr 1
      omega
theorem ev_sh2 {h q w : List Nat} {b : Nat} (hb : h.length ≤ b) (q0 : 0 < q.length) (i : Nat) : ev w (q.drop ((b - h.length) % q.length) ++ q.take ((b - h.length) % q.length)) i = shF w b (ev h q) i := by
  by_cases hi : i < w.length
  · rw [shF_lt hi, ev_lt hi]
  · have hm := Nat.mod_lt (b - h.length) q0
    rw [shF_ge (by omega), ev_ge (by omega), g_rot (by omega), ev_ge (by omega)]
    unfold g
    rw [Nat.add_mod_mod]
    congr 2
    omega
theorem ev_sh {h q w : List Nat} {b : Nat} (q0 : 0 < q.length) (i : Nat) : ev (w ++ h.drop b) (q.drop ((b - h.length) % q.length) ++ q.take ((b - h.length) % q.length)) i = shF w b (ev h q) i := by
  rcases Nat.le_total b h.length with hb | hb
  · have : b - h.length = 0 := by omega
    rw [this, Nat.zero_mod, List.drop_zero, List.take_zero, List.append_nil]
    exact ev_sh1 hb i
  · rw [List.drop_eq_nil_of_le hb, List.append_nil]
    exact ev_sh2 hb q0 i
/-- twice in the place of one another -/
theorem shF_shF {w v : List Nat} {b : Nat} {f g : Nat → Nat} (hg : ∀ i, g i = shF w b f i) (i : Nat) : shF v w.length g i = shF v b f i := by
  by_cases hi : i < v.length
  · rw [shF_lt hi, shF_lt hi]
  · rw [shF_ge (by omega), shF_ge (by omega), hg, shF_ge (by omega)]
    congr 1
    omega
theorem shF_back {w : List Nat} {f : Nat → Nat} (h : ∀ i, i < w.length → f i = w.getD i 0) (i : Nat) : shF w w.length f i = f i := by
  by_cases hi : i < w.length
  · rw [shF_lt hi, h i hi]
  · rw [shF_ge (by omega)]
    congr 1
    omega
end Vm


set_option Elab.async false
set_option maxRecDepth 100000
set_option maxHeartbeats 4000000
/-! Calls of which it is known that no repr is under way around them; repr of plain data; counting in a list. -/
namespace VG
open PySem PySem.Spec PyProof.Rows L2
/-- a def's promise, where no repr runs around the call -/
structure FnG (P : Program) (w : World) (K : PySem.W.Frag) (mg : Str → Option Value) (base : Heap) (k : Nat) (f : Addr) (fd : FuncData) (ps : List Str) (sp : Sp) : Prop where
  len : ∀ vs H Q E, sp vs H Q E → vs.length = ps.length
  at_ : ∀ {A : Around} {outer : List Env} {s : Shared} {H : Hp} {args : Args} {us : List Value} {vs : List V} {Q : VK} {E : XK}, A.guards = some [] → Room k A → Env0 P w K mg base A outer s H → BindsTo s fd args (ps.zip us) → Vals vs us → sp vs H Q E →
    codeAny (model P w) A (.call (.ref f) args) (CR L2.CX0 outer P w H s Q E) s
section
variable {P : Program} {w : World} {K : PySem.W.Frag} {mg : Str → Option Value} {base : Heap}
theorem FnG.of {x qual : Str} {st : Stmt} {f : Addr} {fd : FuncData} {N ps : List Str} {k : Nat} {sp : Sp} (F : Fun K x qual st f fd) (S : FnScope N ps (defScope st)) (len : ∀ vs H Q E, sp vs H Q E → vs.length = ps.length)
    (body : ∀ (cdv : Value) (A : Around) (outer : List Env) (s : Shared) (H : Hp) (vs : List V) (Q : VK) (E : XK), A.guards = some [] → Room k (A.deeper (envOfC qual (defScope st) s.heap.objs.size f cdv)) → PySem.W.codeIn K cdv qual = true → (∃ (oc : Value) (od : Option Addr) (kV doc pm : Value) (an : Option Addr) (ct : Value) (osl : Array (Option Value)), K.lookup f = some ⟨oc, od, .func (PySem.W.fnOf x qual (defArgs st) (defBody st) (defScope st) .none kV doc pm an cdv ct), osl⟩) → sp vs H Q E →
      ∃ t, PSs (cxOf L2.CX0 P w K mg base N qual (defScope st) f cdv A outer s H E).nox (defBody st) t ∧ t { nx := fun _ H' => Q .non H', rt := Q } (L2.start N vs) H) : FnG P w K mg base (k + 1) f fd ps sp := by
  obtain ⟨oc, od, kV, doc, pm, an, cdv, ct, osl, rfl, lk, hcd⟩ := F.ex
  refine ⟨len, fun {A outer s H args us vs Q E} hg hr e0 hb r hs => LamX.run_ofS lk hcd S hr e0 hb r (len _ _ _ _ hs) fun hr' => ?_⟩
  obtain ⟨t, h1, h2⟩ := body cdv A outer s H vs Q E hg hr' hcd ⟨_, _, _, _, _, _, _, _, lk⟩ hs
  exact ⟨t, h1.nox, h2⟩
end
section
variable {X : Cx} {k : Nat} {f : Addr} {fd : FuncData} {ps : List Str} {sp : Sp} {x : Str} {p pos : Pos} {e : Expr} {es : List Expr} {t : TA}
theorem pe_callG (G : FnG X.prog X.w X.K X.mg X.base k f fd ps sp) (gd : X.A.guards = some []) (hr : Room k X.A) (hg : Gl X x) (hm : X.mg x = some (.ref f)) (hk : PySem.W.keepIn X.K (.ref f) = true) (hb : Binds X.K fd ps [])
    (ha : PA X (e :: es) t) (hdb : (x == ("__debug__" : Str)) = false := by decide) (he : starEach (e :: es) X.env = (false, eval e X.env) :: starEach es X.env := by rfl) (hpl : (backTo pos (starEach es X.env)).any (·.1) = false := by rfl) :
    PE X (.Call (.Name x p) (e :: es) [] pos) (tCall sp [] E0 t) := by
  constructor
  intro pins s σ H Q I h
  refine wpAny_Call_Name_kw (ld_glob I hg hm (PySem.W.callWith_K I.ok.mod.kin hk (thn (ha.run pos pins s σ H _ I h) ?_) he hpl) hdb)
  rintro us s1 ⟨vs, H1, J, rv, q⟩
  refine ⟨J.kIn, ?_⟩
  have q' : sp vs H1 Q E0 := by
    have q0 : sp (vs ++ []) H1 Q E0 := q
    rw [List.append_nil] at q0
    exact q0
  have hz : (us ++ []).length = ps.length := by rw [List.append_nil, ← rv.length, G.len _ _ _ _ q']
  have hbt := hb s1 us J.kIn hz
  rw [List.append_nil] at hbt
  refine wpAny_call (codeAny_mono (G.at_ gd hr J.env0 hbt rv q') fun r s2 z => ?_)
  match r, z with
  | .ok (.ret _), z => exact J.after z
  | .ok .next, z => exact z.elim
  | .ok .brk, z => exact z.elim
  | .ok .cont, z => exact z.elim
  | .error _, z => exact (show False from z).elim
end
end VG


set_option Elab.async false
set_option maxRecDepth 100000
set_option maxHeartbeats 4000000
/-! The end of a law whose def's promise is of the kind FnG, with tables of code objects. -/
namespace VG
open PySem PySem.Spec PyProof.Rows L2
theorem endG {P : Program} {w : World} {K : PySem.W.Frag} {mg mb : Str → Option Value} {k : Nat} {fa a : Addr} {cs : List (Addr × Addr)} {fd : FuncData} {x : Str} {sp : Sp} {s : Shared} {vs : List Value} {ns : List Int}
    (kin : K.In s.heap) (gl : s.heap.Ns mainGlobals mg) (bl : s.heap.Ns builtinsNs mb) (bb : ∀ y : Str, y ≠ "__name__" → mb y = bootBuiltins y) (lim : s.heap.NoLimit) (gens : s.gens = #[])
    (tab : ∀ p ∈ cs, s.heap.get? p.2 = some { cls := .none, data := .fields #[] }) (out : ∀ p ∈ cs, K.lookup p.2 = none) (code : ∀ p ∈ cs, PySem.W.CodeHd s.heap p.1 p.2)
    (bm : ∃ (m : Addr) (o : Obj), mg "__builtins__" = some (.ref m) ∧ m ≠ builtinsNs ∧ s.heap.get? m = some o ∧ o.cls = .type "module" ∧ o.dict = some builtinsNs ∧ o.data = .plain)
    (scr : s.heap.get? a = some { cls := .type "list", data := .seq vs.toArray }) (hia : IntsAre vs ns) (sz : ns.length ≤ sizeLine) (room : Room k callerA)
    (F : ∀ base : Heap, K.In base → base.Ns mainGlobals mg → (∀ p ∈ cs, LamX.TabB base mg p.1 p.2) → FnG P w K mg base k fa fd [x] sp) (bind : ∀ (s : Shared) (u : Value), BindsTo s fd ⟨[u], []⟩ [(x, u)])
    (hsp : ∀ H : Hp, (∀ p ∈ cs, H p.2 = some (.tbl #[])) → SqL K H a (ns.map V.int) → sp [.ref a] H (fun v _ => v = .bl true) fun _ _ _ => False) :
    codeAny (model P w) callerA (.call (.ref fa) ⟨[.ref a], []⟩) (fun r s' => r = .ok (.ret (.bool true)) ∧ OldK s.heap s'.heap ∧ s'.os = s.os ∧ AllBare s'.gens) s := by
  classical
  have rv := vals_ints hia
  -- what is tracked: the tables, and the script unless the module holds it
  obtain ⟨H, hT, hA, hN⟩ : ∃ H : Hp, (∀ p ∈ cs, H p.2 = some (.tbl #[])) ∧ (K.lookup a = none → H a = some (.frz { cls := .type "list", data := .seq vs.toArray } (.lst (ns.map V.int)))) ∧
      ∀ b o, H b = some o → (o = .tbl #[] ∧ ∃ p ∈ cs, p.2 = b) ∨ (o = .frz { cls := .type "list", data := .seq vs.toArray } (.lst (ns.map V.int)) ∧ b = a ∧ K.lookup a = none) := by
    refine ⟨fun b => if ∃ p ∈ cs, p.2 = b then some (.tbl #[]) else if b = a ∧ K.lookup a = none then some (.frz { cls := .type "list", data := .seq vs.toArray } (.lst (ns.map V.int))) else none, fun p hp => if_pos ⟨p, hp, rfl⟩, fun hk => ?_, fun b o e => ?_⟩
    · have no : ¬ ∃ p ∈ cs, p.2 = a := fun ⟨p, hp, e⟩ => by
        have z := tab p hp
        rw [e, scr] at z
        cases z
      exact (if_neg no).trans (if_pos ⟨rfl, hk⟩)
    · by_cases c1 : ∃ p ∈ cs, p.2 = b
      · simp only [if_pos c1] at e
        exact .inl ⟨(Option.some.inj e).symm, c1⟩
      · simp only [if_neg c1] at e
        by_cases c2 : b = a ∧ K.lookup a = none
        · simp only [if_pos c2] at e
          exact .inr ⟨(Option.some.inj e).symm, c2⟩
        · simp only [if_neg c2] at e
          cases e
  have hseq : SqL K H a (ns.map V.int) := by
    cases hk : K.lookup a with
    | none => exact .inl (.inr ⟨_, hA hk⟩)
    | some o =>
      have e := kin a o hk
      rw [scr] at e
      cases e
      exact .inr ⟨_, vs.toArray, _, hk, rfl, rfl, rfl, by rw [List.size_toArray, hia.length]; exact sz, by simpa using rv⟩
  have ok : HOk P w H s.heap := fun b o e => by
    rcases hN b o e with ⟨rfl, p, hp, rfl⟩ | ⟨rfl, rfl, _⟩
    · exact tab p hp
    · exact ⟨scr, by rw [List.length_map]; exact sz, vs, _, rv, scr⟩
  -- an object of another shape is not tracked
  have off : ∀ {b : Addr} {o : Obj}, s.heap.get? b = some o → (∀ z n, o.data ≠ .seq z n) → o.data ≠ .fields #[] → H b = none := fun {b o} e h1 h2 => by
    cases q : H b with
    | none => rfl
    | some u =>
      rcases hN b u q with ⟨_, p, hp, rfl⟩ | ⟨_, rfl, _⟩
      · rw [tab p hp] at e
        cases e
        exact (h2 rfl).elim
      · rw [scr] at e
        cases e
        exact (h1 _ _ rfl).elim
  have offD : ∀ {b : Addr} {m : Str → Option Value}, s.heap.Ns b m → (hidT s.heap H).Ns b m := fun {b m} ⟨o, es, ep, e, d, r⟩ =>
    ⟨o, es, ep, hidT_get e (off e (fun z n y => by rw [d] at y; cases y) (fun y => by rw [d] at y; cases y)), d, r⟩
  have kinB : K.In (hidT s.heap H) := fun b o e => hidT_get (kin b o e) (by
    cases q : H b with
    | none => rfl
    | some u =>
      rcases hN b u q with ⟨_, p, hp, rfl⟩ | ⟨_, rfl, hk⟩
      · rw [out p hp] at e; cases e
      · rw [hk] at e; cases e)
  have md : L2.Mod K mg (hidT s.heap H) := ⟨kinB, offD gl, ⟨mb, offD bl, bb⟩, let ⟨mc, h1, h2⟩ := lim; ⟨mc, offD h1, h2⟩⟩
  have TB : ∀ p ∈ cs, LamX.TabB (hidT s.heap H) mg p.1 p.2 := fun p hp => by
    refine ⟨?_, ?_, fun z => ?_⟩
    · obtain ⟨o, us, file, tf, flags, tg, inF, text, tt, e1, c1, c2, c3, r⟩ := code p hp
      refine ⟨o, us, file, tf, flags, tg, inF, text, tt, hidT_get e1 (off e1 (fun z n y => ?_) (fun y => ?_)), c1, c2, c3, r⟩
      · rw [c2] at y; cases y
      · rw [c2] at y
        cases y
        simp at c3
    · obtain ⟨m, o, b1, b2, b3, b4, b5, b6⟩ := bm
      refine ⟨m, o, b1, b2, fun z => ?_, fun z => ?_, hidT_get b3 (off b3 (fun z n y => by rw [b6] at y; cases y) (fun y => by rw [b6] at y; cases y)), b4, b5, b6⟩
      · obtain ⟨o', es, ep, e, d, _⟩ := gl
        rw [z, e] at b3
        cases b3
        rw [d] at b6
        cases b6
      · rw [z, tab p hp] at b3
        cases b3
        cases b6
    · obtain ⟨o', es, ep, e, d, _⟩ := gl
      rw [z, tab p hp] at e
      cases e
      cases d
  have e0 : Env0 P w K mg (hidT s.heap H) callerA [] s H :=
    ⟨rfl, md, fun _ _ e => of_hidT e, Nat.le_of_eq (hidT_size _ _), trivial, fun _ hb => absurd hb (List.not_mem_nil), ok, .of_eq gens⟩
  refine codeAny_mono ((F _ kinB (offD gl) TB).at_ (args := ⟨[.ref a], []⟩) (us := [.ref a]) (vs := [.ref a]) rfl room e0 (bind s (.ref a)) (.cons rfl .nil) (hsp H hT hseq)) fun r s' z => ?_
  match r, z with
  | .ok .next, z => exact z.elim
  | .ok .brk, z => exact z.elim
  | .ok .cont, z => exact z.elim
  | .error _, z => exact (show False from z).elim
  | .ok (.ret u), z =>
    obtain ⟨v, H', os, bare, un, ok', rel, q⟩ := z
    have q' : v = .bl true := q
    subst q'
    obtain rfl : u = Value.bool true := rel
    -- every object but the tables is as it was; the tables have grown
    have same : ∀ b o, (∀ p ∈ cs, p.2 ≠ b) → s.heap.get? b = some o → s'.heap.get? b = some o := fun b o nb e => by
      cases q : H b with
      | none => exact un.keep b o e q (fun y => absurd y List.not_mem_nil) (fun y => absurd y List.not_mem_nil)
      | some t =>
        rcases hN b t q with ⟨_, p, hp, y⟩ | ⟨rfl, rfl, _⟩
        · exact absurd y (nb p hp)
        · have y := ok' b _ (un.frzs b _ _ q)
          rw [scr] at e
          cases e
          exact y.1
    have grown : ∀ p ∈ cs, ∃ more : Array Value, s'.heap.get? p.2 = some { cls := .none, data := .fields more } := fun p hp => by
      obtain ⟨more, y⟩ := un.tbls p.2 #[] (hT p hp)
      exact ⟨_, ok' p.2 _ y⟩
    refine ⟨rfl, ⟨fun b o e => ?_, fun b o e => ?_⟩, os, bare⟩
    · by_cases c : ∃ p ∈ cs, p.2 = b
      · obtain ⟨p, hp, rfl⟩ := c
        obtain ⟨more, y⟩ := grown p hp
        rw [tab p hp] at e
        cases e
        exact .inr (.inl ⟨((code p hp).tab (tab p hp)).isCodeTable, rfl, #[], more, rfl, by rw [Array.empty_append]; exact y⟩)
      · exact .inl (same b o (fun p hp y => c ⟨p, hp, y⟩) e)
    · by_cases c : ∃ p ∈ cs, p.2 = b
      · obtain ⟨p, hp, rfl⟩ := c
        obtain ⟨more, y⟩ := grown p hp
        exact ⟨_, y⟩
      · exact ⟨o, same b o (fun p hp y => c ⟨p, hp, y⟩) e⟩
/-- what is known of the law's def at the head's heap -/
def LawG (l : PySem.W.OpenLaw) (w : World) (K : PySem.W.Frag) (k n : Nat) (x : Str) (mg : Str → Option Value) (fa : Addr) (h : Heap) : Prop :=
  ∃ (fd : FuncData) (cs : List (Addr × Addr)) (sp : Sp), (∀ p ∈ cs, h.get? p.2 = some { cls := .none, data := .fields #[] }) ∧ (∀ p ∈ cs, K.lookup p.2 = none) ∧ (∀ p ∈ cs, PySem.W.CodeHd h p.1 p.2) ∧ (∀ (s : Shared) (u : Value), BindsTo s fd ⟨[u], []⟩ [(x, u)]) ∧
    (∀ (H : Hp) (a : Addr) (ns : List Int), ns.length ≤ n → (∀ p ∈ cs, H p.2 = some (.tbl #[])) → SqL K H a (ns.map V.int) → sp [.ref a] H (fun v _ => v = .bl true) fun _ _ _ => False) ∧
    ∀ base : Heap, K.In base → base.Ns mainGlobals mg → (∀ p ∈ cs, LamX.TabB base mg p.1 p.2) → FnG l.prog w K mg base k fa fd [x] sp
theorem walkG {l : PySem.W.OpenLaw} {n k : Nat} {q : Program} {loose : List Str} {XP : (Str → Option Value) → Heap → Prop} {YP : World → Heap → Prop} {d : DefRec} {K : Params → PySem.W.Frag} {x : Str}
    (hn : l.most = some n) (hn2 : n ≤ sizeLine) (hdf : d.params.defaults = []) (hr : Room k callerA) (hY : ∀ (w : World) (h : Heap), YP w h → (K w.params).In h)
    (F : ∀ (w : World) (mg : Str → Option Value) (fa : Addr) (h : Heap), YP w h → (K w.params).In h → h.Ns mainGlobals mg → mg d.name = some (.ref fa) → LawG l w (K w.params) k n x mg fa h) :
    PySem.W.WalkO q loose XP YP l.row.toRowW d [] (fun f vs => PySem.call f vs) := by
  refine Att.attach_callB hn hdf fun w s₀ s₁ mg mb fa o pm cd doc a vs ns G Y ho hd hcd hmg hobj hints hlen hbits hg => ?_
  obtain ⟨fd, cs, sp, h1, h2, h3, h4, h5, h6⟩ := F w mg fa _ Y (hY w _ Y) G.T.g hmg
  exact endG (hY w _ Y) G.T.g G.T.b G.T.builtins G.T.nolimit hg h1 h2 h3 G.T.bmain hobj hints (Nat.le_trans hlen hn2) hr h6 h4 fun H t sq => h5 H a ns hlen t sq
end VG


set_option Elab.async false
set_option maxRecDepth 100000
set_option maxHeartbeats 4000000
/-! repr of plain data; how often a value lies in a list. -/
namespace VG
open PySem PySem.Spec PyProof.Rows L2
inductive Fl : V → PyData → Prop where
  | non : Fl .non .none
  | bl (b : Bool) : Fl (.bl b) (.bool b)
  | int (n : Int) : Fl (.int n) (.int n)
  | str (s : Str) : Fl (.str s) (.str s)
inductive Fls : List V → List PyData → Prop where
  | nil : Fls [] []
  | cons {v d vs ds} : Fl v d → Fls vs ds → Fls (v :: vs) (d :: ds)
/-- what a value shows, as the abstract heap tells it -/
inductive Sh (H : Hp) : V → PyData → Prop where
  | fl {v d} (h : Fl v d) : Sh H v d
  | lst {p xs ds} (h : H p = some (.lst xs)) (f : Fls xs ds) : Sh H (.ref p) (.list ds)
  | tup {p xs ds} (h : H p = some (.tup xs)) (f : Fls xs ds) : Sh H (.ref p) (.tuple ds)
  | dct {p} (h : H p = some (.dK [])) : Sh H (.ref p) (.dict [])
theorem Fls.flat : ∀ {vs : List V} {ds : List PyData}, Fls vs ds → PyData.depthAll ds = 0 ∧ PyData.hasDictAll ds = false
  | _, _, .nil => ⟨rfl, rfl⟩
  | _, _, .cons a r => by
    obtain ⟨h1, h2⟩ := r.flat
    cases a <;> exact ⟨by show max _ _ = 0; rw [h1]; rfl, by show (_ || _) = false; rw [h2]; rfl⟩
theorem reads_fl {h : Heap} {v : V} {d : PyData} {u : Value} (f : Fl v d) (r : RelV v u) : Reads h u d [] := by
  cases f with
  | non => cases (show u = Value.none from r); exact .none
  | bl b => cases (show u = Value.bool b from r); exact .bool b
  | int n => obtain ⟨t, rfl⟩ := (show ∃ t, u = Value.int n t from r); exact .int n t
  | str s => obtain ⟨t, rfl⟩ := (show ∃ t, u = Value.str s t from r); exact .str s t
theorem reads_fls {h : Heap} : ∀ {vs : List V} {ds : List PyData} {us : List Value}, Fls vs ds → Vals vs us → ReadsAll h us ds []
  | _, _, _, .nil, .nil => .nil
  | _, _, _, .cons a b, .cons r t => by
    have z := ReadsAll.cons (reads_fl (h := h) a r) (reads_fls b t)
    exact z
section
variable {X : Cx}
/-- repr(v), where no repr is under way -/
def rRepr : List V → Hp → VK → Prop := fun xs H Q => ∃ (v : V) (d : PyData), xs = [v] ∧ Sh H v d ∧ d.showable = true ∧ d.shown.length ≤ sizeLine ∧ Q (.str d.shown) H
theorem call_repr (gd : X.A.guards = some []) (hu : X.A.units + 10 < cLine) : CallR X (.builtin "repr") rRepr := by
  intro pins s σ H xs us Q I r h
  obtain ⟨v, d, rfl, sh, hs, hz, q⟩ := h
  obtain ⟨u, rfl, ru⟩ : ∃ u, us = [u] ∧ RelV v u := by
    cases r with
    | cons a b => cases b; exact ⟨_, rfl, a⟩
  have fin : ∀ (h' : Heap) (t : Tok) (tk : Tok), (∀ b o, s.heap.get? b = some o → h'.get? b = some o) → EP X pins σ Q (.str d.shown t) { s with heap := h', toks := tk } := fun h' t tk k => ⟨.str d.shown, H, I.kept (t' := tk) k, ⟨t, rfl⟩, q⟩
  cases sh with
  | fl f =>
    cases f with
    | non => cases (show u = Value.none from ru); exact PySem.P.repr_of_none (fin s.heap _ _ fun _ _ z => z)
    | bl b => cases (show u = Value.bool b from ru); refine PySem.P.repr_of_bool ?_; cases b <;> exact fin s.heap _ _ fun _ _ z => z
    | int n => obtain ⟨t, rfl⟩ := (show ∃ t, u = Value.int n t from ru); exact PySem.P.repr_of_int (of_decide_eq_true hs) (fin s.heap _ _ fun _ _ z => z)
    | str x => obtain ⟨t, rfl⟩ := (show ∃ t, u = Value.str x t from ru); exact PySem.P.repr_of_str (fin s.heap _ _ fun _ _ z => z) hz
  | @lst p vs ds hp f =>
    cases (show u = Value.ref p from ru)
    obtain ⟨_, its, n, rv, ho⟩ := (show ObjOk X.prog X.w H s.heap p (.lst vs) from I.hok p _ hp)
    obtain ⟨f1, f2⟩ := f.flat
    have rd : Reads s.heap (.ref p) (.list ds) (p :: []) := .list ho rfl rfl (reads_fls f rv)
    refine repr_of_reads' rd hs (PyData.noDict_hsm f2) gd ?_ (fun _ _ e => e) (fun h' t tk k => fin h' t tk k) hz
    show X.A.units + (PyData.depthAll ds + 1 + 1) < cLine
    rw [f1]
    omega
  | @tup p vs ds hp f =>
    cases (show u = Value.ref p from ru)
    obtain ⟨_, its, rv, o, h1, h2, n, h3⟩ := (show ObjOk X.prog X.w H s.heap p (.tup vs) from I.hok p _ hp)
    obtain ⟨f1, f2⟩ := f.flat
    have rd : Reads s.heap (.ref p) (.tuple ds) [] := .tuple h1 h2 h3 (reads_fls f rv)
    refine repr_of_reads' rd hs (PyData.noDict_hsm f2) gd ?_ (fun _ _ e => e) (fun h' t tk k => fin h' t tk k) hz
    show X.A.units + (PyData.depthAll ds + 1 + 1) < cLine
    rw [f1]
    omega
  | @dct p hp =>
    cases (show u = Value.ref p from ru)
    obtain ⟨_, hm, vs, kv, o, es, ep, h1, h2, h3⟩ := (show ObjOk X.prog X.w H s.heap p (.dK []) from I.hok p _ hp)
    cases kv
    obtain ⟨hd, _, hp2, _⟩ := h3
    have he : es.toList = [] := by
      generalize es.toList = l at hp2
      cases hp2
      rfl
    have rd : Reads s.heap (.ref p) (.dict []) (p :: [] ++ []) := .dict h1 h2.1 hd (by rw [he]; exact .nil) (by rw [he]; exact .nil)
    refine repr_of_reads' rd hs (fun _ z => ?_) gd ?_ (fun _ _ e => e) (fun h' t tk k => fin h' t tk k) hz
    · have z' : sysModules = p := by simpa using z
      rw [z'] at hm
      simp at hm
    · show X.A.units + (0 + 1 + 1) < cLine
      omega
/-- how often a plain value lies in a list of such -/
def rCount (K : PySem.W.Frag) : V → List V → Hp → VK → Prop := fun x xs H Q => ∃ (a : Addr) (ys : List V) (y : V), x = .ref a ∧ xs = [y] ∧ SqL K H a ys ∧ flatV y = true ∧ ys.all flatV = true ∧ Q (.int ((ys.countP fun z => eqV z y : Nat) : Int)) H
theorem countP_vals {y : V} : ∀ {ys : List V} {us : List Value}, Vals ys us → ys.all flatV = true → us.countP (eqU y) = ys.countP fun z => eqV z y
  | _, _, .nil, _ => rfl
  | z :: ys, u :: us, .cons r t, f => by
    rw [List.all_cons, Bool.and_eq_true] at f
    rw [List.countP_cons, List.countP_cons, countP_vals t f.2, eqU_of r f.1]
theorem mt_count : MtR X "list.count" (rCount X.K) := by
  intro pins s σ H x xs v us Q I rx rxs h
  obtain ⟨a, ys, y, rfl, rfl, hs, fy, fys, q⟩ := h
  cases (show v = Value.ref a from rx)
  obtain ⟨u, rfl, ru⟩ := rxs.one
  obtain ⟨its, rv, ⟨⟨cls, dd, data, sl⟩, n, ho, hc, hdn, hd⟩, hlen⟩ := I.list hs
  simp only at hc hd
  subst hc hd
  refine call_meets PySem.F.slot_list_count ⟨_, ho, rfl⟩ PySem.F.entry_list_count (PySem.F.args_list_count_2 _ _) (SeqAt.list_countAt a its.toArray n dd sl u (eqU y)) ⟨ho, fun z hz => mem_eqAt ru fy rv fys z (by simpa using hz), ?_⟩
  rw [List.toList_toArray, countP_vals rv fys]
  exact ⟨.int _, H, I.tok _, ⟨_, rfl⟩, q⟩
end
end VG


set_option Elab.async false
set_option maxRecDepth 100000
set_option maxHeartbeats 4000000
/-! try with two clauses that name what they catch; whatever the body raises is caught. -/
namespace VG
open PySem PySem.Spec PyProof.Rows L2
/-- an exception at a, landed: the state is h3's, the slots and the abstract heap as when it was raised -/
structure Down (X : Cx) (pins : List (Addr × Obj)) (a : Addr) (cls : Value) (d : Option Addr) (σ : L2.St) (H : Hp) (sI : Shared) (B h3 : Heap) (s' : Shared) : Prop where
  inv : Inv X pins σ H sI
  nb : ∀ b o, sI.heap.get? b = some o → b ∉ frs X.stack → B.get? b = some o
  fly : HandSPX.FlyingZ B (X.env :: X.outer) a (Zc cls d) h3
  up : sI.heap.UpToSlots h3
  os : s'.os = sI.os
  bare : AllBare s'.gens
  new : H a = none
section
variable {X : Cx} {pins : List (Addr × Obj)} {a : Addr} {cls : Value} {d : Option Addr} {σ : L2.St} {H : Hp} {sI s' : Shared} {B h3 : Heap}
theorem Down.at_ (y : Down X pins a cls d σ H sI B h3 s') : Inv X pins σ H { s' with heap := h3 } := y.inv.landed y.nb y.fly.1 y.up y.os y.bare
/-- as a suite sees it -/
theorem Down.seen (y : Down X pins a cls d σ H sI B h3 s') (hf : X.env.frame = some X.env.locals) : ∃ (oe : Obj) (vs : Array Value), h3.get? a = some oe ∧ Zc cls d oe ∧ oe.data = .fields vs ∧ Inv (X.suite a ((a, oe) :: (X.pn ++ pins))) [] σ H { s' with heap := h3 } := by
  obtain ⟨oe, vs, e1, e2, e3⟩ := y.fly.there
  have out : a ∉ frs (X.env :: X.outer) := fun hm => by
    obtain ⟨_, o, eo, ho⟩ := y.fly.2.2.1.mem hm
    rw [e1] at eo
    cases eo
    exact ho _ e3
  have o1 : a ≠ X.env.locals := fun z => out (List.mem_filterMap.mpr ⟨X.env, .head _, by rw [hf, z]⟩)
  have o2 : a ∉ X.fs := fun hm => out (let ⟨v, hv, q⟩ := List.mem_filterMap.mp hm; List.mem_filterMap.mpr ⟨v, .tail _ hv, q⟩)
  exact ⟨oe, vs, e1, e2, e3, y.at_.suite e1 e3 y.new o1 o2⟩
/-- the clause's class is asked -/
theorem Down.ask (y : Down X pins a cls d σ H sI B h3 s') (hf : X.env.frame = some X.env.locals) {x : Str} {c : Value} {np : Pos} {b : Bool} {E : Value → Shared → Prop} {R : Bool → Shared → Prop} (nm : Names X x c) (m : PySem.W.exmOne X.K cls c = some b)
    (r : R b { s' with heap := h3 }) : wpAny (model X.prog X.w) (X.A.mark (some (.ref a))) (eval (.Name x np) X.env) (fun cv s1 => wpAny (model X.prog X.w) (X.A.mark (some (.ref a))) (excMatches (.ref a) cv) R E s1) E { s' with heap := h3 } := by
  obtain ⟨oe, vs, e1, e2, e3, J⟩ := y.seen hf
  have ty : PySem.W.Looks (model X.prog X.w) h3 (typeOf (.ref a)) cls := fun A Q E s k q => wpAny_typeOf_ref (k _ _ e1) (by rw [e2.1]; exact q)
  have lm := PySem.W.exm_one (M := model X.prog X.w) y.at_.kIn ty m
  obtain ⟨g1, g2, g3⟩ := nm
  rcases g3 with g3 | ⟨g3, g4, g5⟩
  · exact ld_glob (X := X.suite a ((a, oe) :: (X.pn ++ pins))) J g1 g3 (lm.here r) g2
  · exact ld_blt (X := X.suite a ((a, oe) :: (X.pn ++ pins))) J g1 g3 g4 (lm.here r) g5 g2
/-- a clause that does not match -/
theorem Down.skip (y : Down X pins a cls d σ H sI B h3 s') (hf : X.env.frame = some X.env.locals) {x : Str} {c : Value} {np pos : Pos} {nm : Option Str} {body : List Stmt} {rest : List ExceptHandler} {D : Ends} (n : Names X x c) (m : PySem.W.exmOne X.K cls c = some false)
    (h : wpAny (model X.prog X.w) X.A (handleBy (.ref a) X.env rest) (SP X pins D) X.xe { s' with heap := h3 }) :
    wpAny (model X.prog X.w) X.A (handleBy (.ref a) X.env (.ExceptHandler (some (.Name x np)) nm body pos :: rest)) (SP X pins D) X.xe { s' with heap := h3 } :=
  wpAny_handleBy_cons (codeAny_handlers_test (y.ask hf n m h)) fun z => nomatch z
/-- a clause that matches: its suite, then its name goes -/
theorem Down.take (y : Down X pins a cls d σ H sI B h3 s') (hf : X.env.frame = some X.env.locals) {x n : Str} {i : Nat} {c : Value} {np pos : Pos} {b₀ : Stmt} {body : List Stmt} {rest : List ExceptHandler} {D : Ends} {ts : TS} (nm : Names X x c) (m : PySem.W.exmOne X.K cls c = some true)
    (hN : X.N.Nodup) (hi : X.N[i]? = some n) (hl : X.env.kindOf n = some .local)
    (su : ∀ (oe : Obj) (pn : List (Addr × Obj)), Zc cls d oe → (∃ vs, oe.data = .fields vs) → PSs (X.suite a ((a, oe) :: pn)) (b₀ :: body) ts)
    (h : ts { nx := fun σ' H' => D.nx (σ'.set i none) H', rt := D.rt, bk := fun σ' H' => D.bk (σ'.set i none) H', ct := fun σ' H' => D.ct (σ'.set i none) H' } (σ.set i (some (.ref a))) H) :
    wpAny (model X.prog X.w) X.A (handleBy (.ref a) X.env (.ExceptHandler (some (.Name x np)) (some n) (b₀ :: body) pos :: rest)) (SP X pins D) X.xe { s' with heap := h3 } := by
  have ok := y.inv.ok
  refine wpAny_handleBy_cons (codeAny_handlers_test (y.ask hf nm m (codeAny_handlers_suite_as ?_))) fun z => nomatch z
  refine HandSPX.lands_againZ y.fly fun h4 f4 u4 => ?_
  have y4 : Down X pins a cls d σ H sI B h4 s' := ⟨y.inv, y.nb, f4, y.up.trans u4, y.os, y.bare, y.new⟩
  obtain ⟨oe, vs, e1, e2, e3, J⟩ := y4.seen hf
  refine store_ok (X := X.suite a ((a, oe) :: (X.pn ++ pins))) (v := .ref a) J hN hi (.inl hl) rfl (fun s5 J5 => ?_) (.inr hl)
  refine wpAny_mono ((su oe (X.pn ++ pins) e2 ⟨_, e3⟩).run [] s5 _ H _ J5 h) (fun fl s6 z => ?_) fun _ _ z => z.elim
  match fl, z with
  | .next, ⟨_, _, J6, q⟩ => exact gone_ok (J6.unsuite ok) hN hi hl fun _ J7 => ⟨_, _, J7, q⟩
  | .brk, ⟨_, _, J6, q⟩ => exact gone_ok (J6.unsuite ok) hN hi hl fun _ J7 => ⟨_, _, J7, q⟩
  | .cont, ⟨_, _, J6, q⟩ => exact gone_ok (J6.unsuite ok) hN hi hl fun _ J7 => ⟨_, _, J7, q⟩
  | .ret _, ⟨_, _, _, J6, r6, q⟩ => exact gone_ok (J6.unsuite ok) hN hi hl fun _ J7 => ⟨_, _, _, J7, r6, q⟩
end
/-- what two clauses 'except x as n' wish of what the body raises; nothing else is raised -/
def wTwo (K : PySem.W.Frag) (nl i : Nat) (c1 c2 : Value) (t1 t2 : Addr → Value → Option Addr → TS) (D : Ends) : WX := fun cls d σ H => σ.length = nl →
  (PySem.W.exmOne K cls c1 = some true ∧ ∀ a, H a = none → t1 a cls d { nx := fun σ' H' => D.nx (σ'.set i none) H', rt := D.rt, bk := fun σ' H' => D.bk (σ'.set i none) H', ct := fun σ' H' => D.ct (σ'.set i none) H' } (σ.set i (some (.ref a))) H) ∨
  (PySem.W.exmOne K cls c1 = some false ∧ PySem.W.exmOne K cls c2 = some true ∧ ∀ a, H a = none → t2 a cls d { nx := fun σ' H' => D.nx (σ'.set i none) H', rt := D.rt, bk := fun σ' H' => D.bk (σ'.set i none) H', ct := fun σ' H' => D.ct (σ'.set i none) H' } (σ.set i (some (.ref a))) H)
section
variable {X : Cx} {x1 x2 n : Str} {c1 c2 : Value} {i : Nat} {body r1 r2 : List Stmt} {b1 b2 : Stmt} {n1 n2 p1 p2 pos : Pos} {tb : WX → TS} {t1 t2 : Addr → Value → Option Addr → TS}
theorem ps_try_two (hs : X.stack = X.env :: X.outer) (hf : X.env.frame = some X.env.locals) (hN : X.N.Nodup) (hi : X.N[i]? = some n) (hl : X.env.kindOf n = some .local) (m1 : Names X x1 c1) (m2 : Names X x2 c2)
    (hb : ∀ (W : WX) (pn : List (Addr × Obj)) (xe : Value → Shared → Prop), Takes (X.tr pn xe) W → PassesOwn (model X.prog X.w) X.A X.env xe → PSs (X.tr pn xe) body (tb W))
    (s1 : ∀ (a : Addr) (oe : Obj) (cls : Value) (d : Option Addr) (pn : List (Addr × Obj)), Zc cls d oe → (∃ vs, oe.data = .fields vs) → PSs (X.suite a ((a, oe) :: pn)) (b1 :: r1) (t1 a cls d))
    (s2 : ∀ (a : Addr) (oe : Obj) (cls : Value) (d : Option Addr) (pn : List (Addr × Obj)), Zc cls d oe → (∃ vs, oe.data = .fields vs) → PSs (X.suite a ((a, oe) :: pn)) (b2 :: r2) (t2 a cls d)) :
    PS X (.Try body [.ExceptHandler (some (.Name x1 n1)) (some n) (b1 :: r1) p1, .ExceptHandler (some (.Name x2 n2)) (some n) (b2 :: r2) p2] [] [] pos) (fun D σ H => tb (wTwo X.K X.N.length i c1 c2 t1 t2 D) D σ H) := by
  constructor
  intro pins s σ H D I h
  have ok := I.ok
  have fr : X.A.frames = some (X.env :: X.outer) := ok.frames.trans (congrArg some hs)
  refine wpAny_Try_except (wpAny_mono ((hb (wTwo X.K X.N.length i c1 c2 t1 t2 D) (X.pn ++ pins) _ (fun u s2' xx => ?_) PassesOwn.looking).run [] s σ H D (I.toTry _) h) (fun fl s3 z => ?_) fun _ _ z => z)
  · obtain ⟨a, B, sI, pins', σ', H', cls, d, rfl, J', nb, up, sky, na, os, ag, wish⟩ := xx
    have J : Inv X pins σ' H' sI := J'.ofTry ok
    rw [show (X.tr (X.pn ++ pins) _).stack = X.env :: X.outer from hs] at sky
    refine Sky.land Zc.steady fr hf sky fun h3 f3 u3 => ?_
    have y : Down X pins a cls d σ' H' sI B h3 s2' := ⟨J, nb, f3, up.trans u3, os, ag, na⟩
    rcases wish J.len with ⟨w1, w2⟩ | ⟨w1, w2, w3⟩
    · exact y.take hf m1 w1 hN hi hl (fun oe pn z1 z2 => s1 a oe cls d pn z1 z2) (w2 a na)
    · exact y.skip hf m1 w1 (y.take hf m2 w2 hN hi hl (fun oe pn z1 z2 => s2 a oe cls d pn z1 z2) (w3 a na))
  · match fl, z with
    | .next, ⟨_, _, J, q⟩ => exact wpAny_execs_nil ⟨_, _, J.ofTry ok, q⟩
    | .brk, ⟨_, _, J, q⟩ => exact ⟨_, _, J.ofTry ok, q⟩
    | .cont, ⟨_, _, J, q⟩ => exact ⟨_, _, J.ofTry ok, q⟩
    | .ret _, ⟨_, _, _, J, r, q⟩ => exact ⟨_, _, _, J.ofTry ok, r, q⟩
end
end VG


set_option Elab.async false
set_option maxRecDepth 100000
set_option maxHeartbeats 4000000
/-! t[::-1] of tuples and texts; lists that stand behind the start; t != (); data of any depth, and what they show. -/
namespace VG
open PySem PySem.Spec PyProof.Rows L2
section
variable {prog : Program} {w : World} {A : Around} {E : Value → Shared → Prop} {s : Shared}
theorem adjust_rev (n : Nat) : Builtin.Slice.sliceAdjust none none (-1) (n : Int) = ((n : Int) - 1, -1) := by
  unfold Builtin.Slice.sliceAdjust
  rfl
theorem places_rev (n : Nat) : Builtin.Slice.slicePlaces ((n : Int) - 1) (-1) (-1) = n := by
  unfold Builtin.Slice.slicePlaces
  have h1 : ¬ ((-1 : Int) > 0) := by decide
  simp only [h1, if_false]
  rw [show (- -1 : Int) = 1 by decide, Int.ediv_one]
  split <;> omega
theorem sliceApplied_rev {sl : Addr} {vl vu vs : Value} {n : Nat} {Q : Int × Int × Nat → Shared → Prop} (hs : s.heap.IsSliceOf sl vl vu vs) (pl : IsPart vl none) (pu : IsPart vu none) (ps : IsPart vs (some (-1)))
    (h : Q ((n : Int) - 1, -1, n) s) : wpAny (model prog w) A (Builtin.Slice.sliceApplied (.ref sl) (pure (n : Int))) Q E s := by
  obtain ⟨os, hos, hcs, hds⟩ := id hs
  unfold Builtin.Slice.sliceApplied Builtin.Slice.sliceFields
  refine wpAny_bind (wpAny_bind (wpAny_field hos hds (x := vl) rfl (wpAny_bind (wpAny_field hos hds (x := vu) rfl (wpAny_bind (wpAny_field hos hds (x := vs) rfl (wpAny_pure ?_)))))))
  refine wpAny_bind (HT.slicePart_ ps ?_)
  show wpAny _ _ (if ((-1 : Int) == 0) = true then _ else _) _ _ s
  rw [if_neg (by decide)]
  refine wpAny_bind (HT.slicePart_ pl (wpAny_bind (HT.slicePart_ pu (wpAny_bind (wpAny_pure ?_)))))
  show wpAny _ _ (match Builtin.Slice.sliceAdjust none none (-1) (n : Int) with | (lo, hi) => pure (lo, (-1 : Int), Builtin.Slice.slicePlaces lo hi (-1))) _ _ s
  rw [adjust_rev]
  show wpAny _ _ (pure ((n : Int) - 1, (-1 : Int), Builtin.Slice.slicePlaces ((n : Int) - 1) (-1) (-1))) _ _ s
  rw [places_rev]
  exact wpAny_pure h
theorem fm_congr {α β : Type} {f g : α → Option β} : ∀ {l : List α}, (∀ x ∈ l, f x = g x) → l.filterMap f = l.filterMap g
  | [], _ => rfl
  | x :: l, h => by
    rw [List.filterMap_cons, List.filterMap_cons, h x List.mem_cons_self, fm_congr fun y hy => h y (List.mem_cons_of_mem _ hy)]
theorem pick_rev (xs : Array Value) : ((List.range xs.size).filterMap fun (k : Nat) => xs[(((xs.size : Int) - 1) + (k : Int) * (-1)).toNat]?).toArray = xs.toList.reverse.toArray := by
  have h := PySem.W.krv_pick xs
  unfold slicePick at h
  rw [PySem.W.krv_bounds] at h
  have h' : ((sliceRange ((xs.size : Int) - 1) (-1) (-1)).filterMap (xs[·]?)).toArray = xs.toList.reverse.toArray := h
  rw [PySem.W.krv_sliceRange, List.filterMap_map] at h'
  rw [← h']
  congr 1
  refine fm_congr fun k hk => ?_
  have := List.mem_range.mp hk
  show xs[(((xs.size : Int) - 1) + (k : Int) * (-1)).toNat]? = xs[xs.size - 1 - k]?
  congr 1
  omega
theorem getItem_tuple_rev {t sl : Addr} {items : Array Value} {vl vu vs : Value} {Q : Value → Shared → Prop} (ht : IsTup s.heap t items) (hs : s.heap.IsSliceOf sl vl vu vs) (pl : IsPart vl none) (pu : IsPart vu none) (ps : IsPart vs (some (-1)))
    (h : Q (.ref s.heap.objs.size) { s with heap := s.heap.push { cls := .type "tuple", data := .seq items.toList.reverse.toArray } })
    (hsz : items.size ≤ sizeLine) : wpAny (model prog w) A (getItem (.ref t) (.ref sl)) Q E s := by
  have htake : sizeOk (.seq items.toList.reverse.toArray) := by
    show items.toList.reverse.toArray.size ≤ sizeLine
    rw [List.size_toArray, List.length_reverse, Array.length_toList]
    exact hsz
  obtain ⟨os, hos, hcs, hds⟩ := id hs
  have hTs : s.TypeIs (.ref sl) "slice" := ⟨os, hos, hcs⟩
  unfold getItem
  try with_reducible refine wpAny_holding ?_
  first | refine wpAny_bind (wpAny_pure ?_) | skip
  refine wpAny_bind (wpAny_sequenceKey ht.typeIs (by decide) ?_)
  refine wpAny_bind (wpAny_callSpecial?_slot (name := Str.ofString "__getitem__") ht.typeIs PyProof.Rows.slot_tuple_getitem
    (wpAny_call_entry PyProof.Rows.slot_tuple_getitem ht.typeIs entry_tuple_getitem ?_ (args_tuple_getitem _ _)))
  show wpAny _ _ (Builtin.Tuple.tupleItemsOf (.ref t) >>= _) _ _ s
  refine wpAny_bind (tupleItemsOf_ ht ?_)
  refine wpAny_bind (wpAny_typeOf hTs ?_)
  rw [if_pos (by decide)]
  refine wpAny_bind (sliceApplied_rev hs pl pu ps ?_)
  have hno : ¬ ((((items.size : Int) - 1) == 0 && (-1 : Int) == 1 && items.size == items.size) = true) := by
    intro q
    rw [Bool.and_eq_true, Bool.and_eq_true] at q
    exact absurd q.1.2 (by decide)
  show wpAny _ _ (if (((items.size : Int) - 1) == 0 && (-1 : Int) == 1 && items.size == items.size) = true then _ else _) _ _ s
  rw [if_neg hno, pick_rev]
  first
    | exact wpAny_bind (m := Builtin.Tuple.tupleExact _) (wpAny_newObj_type (wpAny_pure ⟨_, rfl, wpAny_pure h⟩) htake)
    | exact wpAny_bind (m := Builtin.Tuple.tupleExact _) (wpAny_newObj_type (wpAny_bind (wpAny_pure (wpAny_pure ⟨_, rfl, wpAny_pure h⟩))) htake)
    | exact wpAny_bind (wpAny_bind (m := Builtin.Tuple.tupleExact _) (wpAny_newObj_type (wpAny_pure (wpAny_pure ⟨_, rfl, wpAny_pure h⟩)) htake))
    | exact wpAny_bind (wpAny_bind (m := Builtin.Tuple.tupleExact _) (wpAny_newObj_type (wpAny_pure ⟨_, rfl, wpAny_pure h⟩) htake))
theorem str_pick_rev (z : Str) : ((Builtin.Str.strSliceIndices none none (-1) z.length).filterMap (z.cps[·]?)).toArray = z.cps.toList.reverse.toArray := by
  have e : Builtin.Str.strSliceIndices none none (-1) z.length = sliceRange ((z.length : Int) - 1) (-1) (-1) := rfl
  rw [e, PySem.W.krv_sliceRange, PySem.W.krv_range, List.filterMap_reverse]
  congr 2
  exact PySem.W.krv_all z.cps
theorem getItem_str_rev {z : Str} {t : Tok} {sl : Addr} {vl vu vs : Value} {Q : Value → Shared → Prop} (hs : s.heap.IsSliceOf sl vl vu vs) (pl : IsPart vl none) (pu : IsPart vu none) (ps : IsPart vs (some (-1)))
    (hz : z.length ≤ sizeLine) (h : ∀ t' tk, Q (.str ⟨z.cps.toList.reverse.toArray⟩ t') { s with toks := tk }) : wpAny (model prog w) A (getItem (.str z t) (.ref sl)) Q E s := by
  obtain ⟨os, hos, hcs, hds⟩ := hs
  cases pl
  cases pu
  cases ps with
  | int i ti =>
    refine wpAny_getItem_str_slice (l := none) (u := none) (st := some (-1, ti)) ⟨os, hos, hcs, hds⟩ rfl ?_
    show Made.post (if ((-1 : Int) == 1 && _) = true then Made.val (.str z t) else Made.str ⟨((Builtin.Str.strSliceIndices none none (-1) z.length).filterMap (z.cps[·]?)).toArray⟩) Q s
    rw [if_neg (by intro q; rw [Bool.and_eq_true] at q; exact absurd q.1 (by decide)), str_pick_rev]
    refine ⟨?_, h _ _⟩
    show (z.cps.toList.reverse.toArray).size ≤ sizeLine
    rw [List.size_toArray, List.length_reverse, Array.length_toList]
    exact hz
end
section
variable {X : Cx} {e : Expr} {te : TE} {k : Nat} {p1 p2 p3 pos : Pos}
/-- e[::-1], e a text or a tuple -/
def tRevA (K : PySem.W.Frag) (te : TE) : TE := fun σ H Q => te σ H fun x H1 => (∃ z : Str, x = .str z ∧ z.length ≤ sizeLine ∧ Q (.str ⟨z.cps.toList.reverse.toArray⟩) H1) ∨ ∃ a xs, x = .ref a ∧ SqT K H1 a xs ∧ ∀ p, H1 p = none → Q (.ref p) (upd H1 p (.tup xs.reverse))
theorem pe_revA (he : PE X e te) : PE X (.Subscript e (.Slice none none (some (.UnaryOp .USub (.Constant (.int 1) k p1) p2)) p3) pos) (tRevA X.K te) := by
  refine ⟨fun pins s σ H Q I h => ?_⟩
  refine Subscript_ (thn (he.run pins s σ H _ I h) fun v s1 ⟨x, H1, I1, r1, q1⟩ => ?_)
  have hst : PO X (some (.UnaryOp .USub (.Constant (.int 1) k p1) p2)) (tPart (tUn (rU fun i => .int (-i)) (tC (.int 1)))) := po_some (pe_un un_neg pe_int)
  refine wpAny_Slice (thn (po_none.run pins s1 σ H1 (fun o H2 => o = none ∧ H2 = H1) I1 ⟨rfl, rfl⟩) fun vl s2 ⟨l, H2, I2, pl, el, e2⟩ => ?_)
  subst el e2
  refine thn (po_none.run pins s2 σ H2 (fun o H3 => o = none ∧ H3 = H2) I2 ⟨rfl, rfl⟩) fun vu s3 ⟨u, H3, I3, pu, eu, e3⟩ => ?_
  subst eu e3
  refine thn (hst.run pins s3 σ H3 (fun o H4 => o = some (-1) ∧ H4 = H3) I3 ⟨1, rfl, -1, rfl, rfl, rfl⟩) fun vs s4 ⟨o, H4, I4, ps, eo, e4⟩ => ?_
  subst eo e4
  have I5 : Inv X pins σ H4 { s4 with heap := s4.heap.push { cls := .type "slice", data := .fields #[vl, vu, vs] } } := I4.kept (t' := s4.toks) fun b ob q => Heap.get?_push_of_some _ q
  rcases q1 with ⟨z, rfl, hz, q⟩ | ⟨a, xs, rfl, hx, q⟩
  · obtain ⟨t, rfl⟩ := r1
    show wpAny (model X.prog X.w) X.A (subscriptTail e (.Slice none none (some (.UnaryOp .USub (.Constant (.int 1) k p1) p2)) p3) (.str z t) (.ref s4.heap.objs.size)) (EP X pins σ Q) X.xe { s4 with heap := s4.heap.push { cls := .type "slice", data := .fields #[vl, vu, vs] } }
    refine tail_any (ops := [.str z t, .ref s4.heap.objs.size]) (typeIs_str _ _ _) (PySem.F.slot_str_getitem.lookup) ?_ (by with_unfolding_all rfl)
    exact getItem_str_rev (Heap.IsSliceOf.new _ vl vu vs) pl pu ps hz fun t' tk => ⟨.str _, H4, I5.tok _, ⟨_, rfl⟩, q⟩
  · cases r1
    obtain ⟨its, r, ht, hz⟩ := I5.tuple hx
    show wpAny (model X.prog X.w) X.A (subscriptTail e (.Slice none none (some (.UnaryOp .USub (.Constant (.int 1) k p1) p2)) p3) (.ref a) (.ref s4.heap.objs.size)) (EP X pins σ Q) X.xe { s4 with heap := s4.heap.push { cls := .type "slice", data := .fields #[vl, vu, vs] } }
    refine tail_any (ops := [.ref a, .ref s4.heap.objs.size]) ht.typeIs (PyProof.Rows.slot_tuple_getitem.lookup) ?_ (by with_unfolding_all rfl)
    have hlen := r.length
    refine getItem_tuple_rev ht (Heap.IsSliceOf.new _ vl vu vs) pl pu ps ?_ (by rw [List.size_toArray]; omega)
    refine ⟨.ref _, _, I5.laid (t' := s4.toks) (o := .tup xs.reverse) (fun b ob q => Heap.get?_push_of_some _ q) (Nat.le_refl _) ?_, rfl, q _ (I5.hok.fresh (Nat.le_refl _))⟩
    exact ⟨by rw [List.length_reverse]; exact hz, _, r.reverse, ⟨_, Heap.get?_push_size _ rfl, rfl, _, rfl⟩⟩
/-- a list display; the list is not the table of modules -/
def tLstB (t : TA) : TE := fun σ H Q => t σ H fun xs H1 => xs.length ≤ sizeLine ∧ ∀ p, sysModules ≠ p → H1 p = none → Q (.ref p) (upd H1 p (.lst xs))
theorem pe_lstB {es : List Expr} {t : TA} (h : PA X es t) : PE X (.List es pos) (tLstB t) := by
  refine ⟨fun pins s σ H Q I hq => ?_⟩
  refine wpAny_List_spliced (thn (h.run pos pins s σ H _ I hq) fun us s1 ⟨xs, H1, I1, r, z, q⟩ => ⟨by rw [← r.length]; exact z, ?_⟩)
  have hf : H1 s1.heap.objs.size = none := I1.hok.fresh (Nat.le_refl _)
  refine ⟨.ref s1.heap.objs.size, upd H1 s1.heap.objs.size (.lst xs), I1.laid (t' := s1.toks) (fun b u e => Heap.get?_push_of_some _ e) (Nat.le_refl _) ?_, rfl, q _ (Nat.ne_of_lt I1.big) hf⟩
  exact ⟨z, us, 0, r, Heap.get?_push_size _ rfl⟩
theorem call_list_ofB : CallR X (.type "list") (fun xs H Q => ∃ p ys, xs = [.ref p] ∧ (SqL X.K H p ys ∨ SqT X.K H p ys) ∧ ∀ l, sysModules ≠ l → H l = none → Q (.ref l) (upd H l (.lst ys))) := by
  intro pins s σ H xs us Q I r h
  obtain ⟨p, ys, rfl, hq, q⟩ := h
  obtain ⟨u, rfl, rx⟩ := vals1 r
  cases rx
  have fin : ∀ (its : List Value), Vals ys its → ys.length ≤ sizeLine → ∀ (h' : Heap) (c' : Nat), (∀ b o', s.heap.get? b = some o' → h'.get? b = some o') →
      h'.get? s.heap.objs.size = some { cls := .type "list", dict := none, data := .seq its.toArray c', slots := #[] } → EP X pins σ Q (.ref s.heap.objs.size) { s with heap := h' } := fun its r' hz h' c' kp e =>
    ⟨.ref s.heap.objs.size, _, I.laid (t' := s.toks) kp (Nat.le_refl _) (show ObjOk X.prog X.w _ h' _ (.lst ys) from ⟨hz, its, c', r', e⟩), rfl, q _ (Nat.ne_of_lt I.big) (I.hok.fresh (Nat.le_refl _))⟩
  rcases hq with hq | hq
  · obtain ⟨its, r', pl, hz⟩ := I.list hq
    have hlen := r'.length
    obtain ⟨o, ho, hc, n, hd⟩ := pl.isList
    exact call_list_seq p (.inl rfl) ho hc hd (fun h' c' kp e => fin its r' hz h' c' kp e) (by simp only [List.size_toArray] <;> omega)
  · obtain ⟨its, r', pl, hz⟩ := I.tuple hq
    have hlen := r'.length
    obtain ⟨o, ho, hc, n, hd⟩ := pl
    exact call_list_seq p (.inr rfl) ho hc hd (fun h' c' kp e => fin its r' hz h' c' kp e) (by simp only [List.size_toArray] <;> omega)
/-- t != (), whatever is in t -/
def rNeT0 (K : PySem.W.Frag) : R2 := fun x y H Q => ∃ (a b : Addr) (xs : List V), x = .ref a ∧ y = .ref b ∧ SqT K H a xs ∧ SqT K H b [] ∧ Q (.bl (decide (xs ≠ []))) H
end
/-! ### data of any depth -/
mutual
inductive Vd (a : Addr) (H : Hp) : V → PyData → Prop
  | non : Vd a H .non .none
  | bl (b : Bool) : Vd a H (.bl b) (.bool b)
  | int (i : Int) : Vd a H (.int i) (.int i)
  | str (x : Str) : Vd a H (.str x) (.str x)
  | lst {p : Addr} {xs : List V} {ds : List PyData} : p ≠ a → sysModules ≠ p → H p = some (.lst xs) → VdAll a H xs ds → Vd a H (.ref p) (.list ds)
  | tup {p : Addr} {xs : List V} {ds : List PyData} : p ≠ a → H p = some (.tup xs) → VdAll a H xs ds → Vd a H (.ref p) (.tuple ds)
  | d0 {p : Addr} : p ≠ a → H p = some (.dK []) → Vd a H (.ref p) (.dict [])
  | d1 {p : Addr} : p ≠ a → H p = some (.dK [(.inl 0, .int 0)]) → Vd a H (.ref p) (.dict [(.int 0, .int 0)])
inductive VdAll (a : Addr) (H : Hp) : List V → List PyData → Prop
  | nil : VdAll a H [] []
  | cons {v : V} {vs : List V} {d : PyData} {ds : List PyData} : Vd a H v d → VdAll a H vs ds → VdAll a H (v :: vs) (d :: ds)
end
section
variable {a : Addr} {H H' : Hp}
mutual
theorem Vd.keep (k : ∀ q o, q ≠ a → (∀ ps, o ≠ .tbl ps) → H q = some o → H' q = some o) : ∀ (d : PyData) (v : V), Vd a H v d → Vd a H' v d
  | .none, _, h => by cases h; exact .non
  | .bool b, _, h => by cases h; exact .bl b
  | .int i, _, h => by cases h; exact .int i
  | .str x, _, h => by cases h; exact .str x
  | .list ds, _, h => by
    cases h with
    | lst n m e r => exact .lst n m (k _ _ n (fun _ z => nomatch z) e) (VdAll.keep k ds _ r)
  | .tuple ds, _, h => by
    cases h with
    | tup n e r => exact .tup n (k _ _ n (fun _ z => nomatch z) e) (VdAll.keep k ds _ r)
  | .dict ds, _, h => by
    cases h with
    | d0 n e => exact .d0 n (k _ _ n (fun _ z => nomatch z) e)
    | d1 n e => exact .d1 n (k _ _ n (fun _ z => nomatch z) e)
theorem VdAll.keep (k : ∀ q o, q ≠ a → (∀ ps, o ≠ .tbl ps) → H q = some o → H' q = some o) : ∀ (ds : List PyData) (vs : List V), VdAll a H vs ds → VdAll a H' vs ds
  | [], _, h => by cases h; exact .nil
  | d :: ds, _, h => by
    cases h with
    | cons h1 h2 => exact .cons (Vd.keep k d _ h1) (VdAll.keep k ds _ h2)
end
theorem VdAll.take : ∀ {vs : List V} {ds : List PyData} (n : Nat), VdAll a H vs ds → VdAll a H (vs.take n) (ds.take n)
  | _, _, 0, _ => .nil
  | _, _, _ + 1, .nil => .nil
  | _, _, n + 1, .cons h r => .cons h (VdAll.take n r)
theorem VdAll.drop : ∀ {vs : List V} {ds : List PyData} (n : Nat), VdAll a H vs ds → VdAll a H (vs.drop n) (ds.drop n)
  | _, _, 0, r => r
  | _, _, _ + 1, .nil => .nil
  | _, _, n + 1, .cons _ r => VdAll.drop n r
theorem VdAll.app : ∀ {vs us : List V} {ds es : List PyData}, VdAll a H vs ds → VdAll a H us es → VdAll a H (vs ++ us) (ds ++ es)
  | _, _, _, _, .nil, s => s
  | _, _, _, _, .cons h r, s => .cons h (VdAll.app r s)
theorem VdAll.rev : ∀ {vs : List V} {ds : List PyData}, VdAll a H vs ds → VdAll a H vs.reverse ds.reverse
  | _, _, .nil => .nil
  | _, _, .cons h r => by
    rw [List.reverse_cons, List.reverse_cons]
    exact (VdAll.rev r).app (.cons h .nil)
theorem VdAll.len : ∀ {vs : List V} {ds : List PyData}, VdAll a H vs ds → vs.length = ds.length
  | _, _, .nil => rfl
  | _, _, .cons _ r => by rw [List.length_cons, List.length_cons, r.len]
theorem VdAll.at_ : ∀ {vs : List V} {ds : List PyData} {i : Nat} {v : V}, VdAll a H vs ds → vs[i]? = some v → ∃ d, ds[i]? = some d ∧ Vd a H v d
  | _, _, _, _, .nil, h => by cases h
  | _, _, 0, _, .cons h _, e => by cases e; exact ⟨_, rfl, h⟩
  | _, _, i + 1, _, .cons _ r, e => VdAll.at_ (i := i) r e
end
section
variable {X : Cx} {a : Addr} {pins : List (Addr × Obj)} {σ : L2.St} {H : Hp} {s : Shared}
mutual
theorem Vd.reads (I : Inv X pins σ H s) : ∀ (d : PyData) (v : V) (u : Value), Vd a H v d → RelV v u → ∃ as, Reads s.heap u d as ∧ sysModules ∉ as
  | .none, _, _, h, r => by
    cases h
    cases r
    exact ⟨_, Reads.none, by simp⟩
  | .bool b, _, _, h, r => by
    cases h
    cases r
    exact ⟨_, Reads.bool b, by simp⟩
  | .int i, _, _, h, r => by
    cases h
    obtain ⟨t, rfl⟩ := r
    exact ⟨_, Reads.int i t, by simp⟩
  | .str x, _, _, h, r => by
    cases h
    obtain ⟨t, rfl⟩ := r
    exact ⟨_, Reads.str x t, by simp⟩
  | .list ds, _, _, h, r => by
    cases h with
    | lst n m e q =>
      cases r
      obtain ⟨z, its, k, rv, ho⟩ := I.hok _ _ e
      obtain ⟨as, hr, ha⟩ := Vd.readsAll I ds _ its q rv
      refine ⟨_, Reads.list ho rfl rfl hr, ?_⟩
      intro hm
      rcases List.mem_cons.mp hm with hm | hm
      · exact m hm
      · exact ha hm
  | .tuple ds, _, _, h, r => by
    cases h with
    | tup n e q =>
      cases r
      obtain ⟨z, its, rv, o, h1, h2, k, h3⟩ := I.hok _ _ e
      obtain ⟨as, hr, ha⟩ := Vd.readsAll I ds _ its q rv
      exact ⟨_, Reads.tuple h1 h2 h3 hr, ha⟩
  | .dict ds, _, _, h, r => by
    cases h with
    | @d0 p n e =>
      cases r
      obtain ⟨_, hm, vs, kv, o, es, ep, h1, h2, h3⟩ := (show ObjOk X.prog X.w H s.heap p (.dK []) from I.hok p _ e)
      cases kv
      obtain ⟨hd, _, hp2, _⟩ := h3
      have he : es.toList = [] := by
        generalize es.toList = l at hp2
        cases hp2
        rfl
      have rd : Reads s.heap (.ref p) (.dict []) (p :: [] ++ []) := .dict h1 h2.1 hd (by rw [he]; exact .nil) (by rw [he]; exact .nil)
      refine ⟨_, rd, fun z => ?_⟩
      have z' : sysModules = p := by simpa using z
      rw [z'] at hm
      simp at hm
    | @d1 p n e =>
      cases r
      obtain ⟨_, hm, vs, kv, o, es, ep, h1, h2, h3⟩ := (show ObjOk X.prog X.w H s.heap p (.dK [(.inl 0, .int 0)]) from I.hok p _ e)
      obtain ⟨hd, _, hp2, _⟩ := h3
      obtain ⟨q, eq, e1, e2⟩ : ∃ q, vs = [q] ∧ (Sum.inl 0 : Key) = q.1 ∧ RelV (.int 0) q.2 := by
        cases kv with
        | cons k1 k2 =>
          cases k2
          exact ⟨_, rfl, k1.1, k1.2⟩
      subst eq
      obtain ⟨t, e3⟩ := (show ∃ t, q.2 = Value.int 0 t from e2)
      obtain ⟨en, ht, hk, hv⟩ : ∃ en, es.toList = [en] ∧ keyIs q.1 en.key = true ∧ en.val = q.2 := by
        generalize es.toList = l at hp2
        cases hp2 with
        | cons a1 a2 a3 =>
          cases a3
          exact ⟨_, rfl, a1, a2⟩
      rw [← e1] at hk
      rcases keyIs_shape hk with ⟨i, t', hi, ek⟩ | ⟨x, t', hi, ek⟩
      · cases hi
        have rd : Reads s.heap (.ref p) (.dict [(.int 0, .int 0)]) (p :: ([] ++ []) ++ ([] ++ [])) := .dict h1 h2.1 hd (by rw [ht]; show ReadsAll s.heap [en.key] [.int 0] _; rw [ek]; exact .cons (.int 0 t') .nil) (by rw [ht]; show ReadsAll s.heap [en.val] [.int 0] _; rw [hv, e3]; exact .cons (.int 0 t) .nil)
        refine ⟨_, rd, fun z => ?_⟩
        have z' : sysModules = p := by simpa using z
        rw [z'] at hm
        simp at hm
      · cases hi
theorem Vd.readsAll (I : Inv X pins σ H s) : ∀ (ds : List PyData) (vs : List V) (us : List Value), VdAll a H vs ds → Vals vs us → ∃ as, ReadsAll s.heap us ds as ∧ sysModules ∉ as
  | [], _, _, h, r => by
    cases h
    cases r
    exact ⟨_, ReadsAll.nil, by simp⟩
  | d :: ds, _, _, h, r => by
    cases h with
    | cons h1 h2 =>
      cases r with
      | cons r1 r2 =>
        obtain ⟨as, q1, n1⟩ := Vd.reads I d _ _ h1 r1
        obtain ⟨bs, q2, n2⟩ := Vd.readsAll I ds _ _ h2 r2
        exact ⟨_, ReadsAll.cons q1 q2, fun z => (List.mem_append.mp z).elim n1 n2⟩
end
/-- repr(v) of data of any depth -/
def rReprV : List V → Hp → VK → Prop := fun xs H Q => ∃ (v : V) (d : PyData) (a : Addr), xs = [v] ∧ Vd a H v d ∧ d.showable = true ∧ d.shown.length ≤ sizeLine ∧ d.depth ≤ 40 ∧ Q (.str d.shown) H
theorem call_reprV (gd : X.A.guards = some []) (hu : X.A.units + 64 < cLine) : CallR X (.builtin "repr") rReprV := by
  intro pins s σ H xs us Q I r h
  obtain ⟨v, d, a, rfl, vd, hs, hz, dp, q⟩ := h
  obtain ⟨u, rfl, ru⟩ : ∃ u, us = [u] ∧ RelV v u := by
    cases r with
    | cons a b => cases b; exact ⟨_, rfl, a⟩
  have fin : ∀ (h' : Heap) (t : Tok) (tk : Tok), (∀ b o, s.heap.get? b = some o → h'.get? b = some o) → EP X pins σ Q (.str d.shown t) { s with heap := h', toks := tk } := fun h' t tk k => ⟨.str d.shown, H, I.kept (t' := tk) k, ⟨t, rfl⟩, q⟩
  obtain ⟨as, rd, ns⟩ := Vd.reads I d v u vd ru
  have ref : ∀ p, u = .ref p → wpAny (model X.prog X.w) X.A (call (.builtin "repr") [u]) (EP X pins σ Q) X.xe s := fun p e => by
    subst e
    exact repr_of_reads' rd hs (fun _ => ns) gd (by omega) (fun _ _ e => e) (fun h' t tk k => fin h' t tk k) hz
  cases vd with
  | non => cases (show u = Value.none from ru); exact PySem.P.repr_of_none (fin s.heap _ _ fun _ _ z => z)
  | bl b => cases (show u = Value.bool b from ru); refine PySem.P.repr_of_bool ?_; cases b <;> exact fin s.heap _ _ fun _ _ z => z
  | int n => obtain ⟨t, rfl⟩ := (show ∃ t, u = Value.int n t from ru); exact PySem.P.repr_of_int (of_decide_eq_true hs) (fin s.heap _ _ fun _ _ z => z)
  | str x => obtain ⟨t, rfl⟩ := (show ∃ t, u = Value.str x t from ru); exact PySem.P.repr_of_str (fin s.heap _ _ fun _ _ z => z) hz
  | lst _ _ _ _ => exact ref _ ru
  | tup _ _ _ => exact ref _ ru
  | d0 _ _ => exact ref _ ru
  | d1 _ _ => exact ref _ ru
theorem op_neT0 (hu : X.A.units < cLine) : OpR X (compareOp .NotEq) (rNeT0 X.K) := by
  intro pins s σ H x y v u Q I rx ry h
  obtain ⟨a, b, xs, rfl, rfl, ha, hb, q⟩ := h
  cases rx
  cases ry
  obtain ⟨its, r1, p1, _⟩ := I.tuple ha
  obtain ⟨its2, r2, p2, _⟩ := I.tuple hb
  cases r2
  refine PySem.SeqAt.RcNeAt.tuples (e := fun _ => true) p1 p2 hu (fun j _ j2 => absurd j2 (Nat.not_lt_zero _)) _ _ _ _ ?_
  have hlen := r1.length
  have e : (!((List.range (min its.toArray.size ([] : List Value).toArray.size)).all (fun _ => true) && its.toArray.size == ([] : List Value).toArray.size)) = decide (xs ≠ []) := by
    cases xs with
    | nil =>
      cases r1
      rfl
    | cons x xs =>
      cases r1
      simp
  rw [e]
  exact ⟨.bl _, H, I, rfl, q⟩
end
end VG


set_option Elab.async false
set_option maxRecDepth 100000
set_option maxHeartbeats 4000000
set_option exponentiation.threshold 3000
/-! how great data of any depth may be -/
namespace VG
open PySem L2
mutual
def okD (N : Nat) : PyData → Prop
  | .none => True
  | .bool _ => True
  | .int i => i.natAbs ≤ N
  | .str x => ∀ c ∈ x.cps.toList, c < 128
  | .list xs => okAll N xs
  | .tuple xs => okAll N xs
  | .dict kvs => kvs = [] ∨ kvs = [(.int 0, .int 0)]
def okAll (N : Nat) : List PyData → Prop
  | [] => True
  | x :: xs => okD N x ∧ okAll N xs
end
theorem okAll_mem {N : Nat} : ∀ {xs : List PyData}, okAll N xs ↔ ∀ x ∈ xs, okD N x
  | [] => by unfold okAll; simp
  | x :: xs => by
    unfold okAll
    rw [okAll_mem (xs := xs)]
    simp
mutual
theorem okD_mono {N M : Nat} (h : N ≤ M) : ∀ d : PyData, okD N d → okD M d
  | .none, q => q
  | .bool _, q => q
  | .int i, q => Nat.le_trans (show i.natAbs ≤ N by unfold okD at q; exact q) h
  | .str x, q => by unfold okD at q ⊢; exact q
  | .list xs, q => by unfold okD at q ⊢; exact okAll_mono h xs q
  | .tuple xs, q => by unfold okD at q ⊢; exact okAll_mono h xs q
  | .dict kvs, q => by unfold okD at q ⊢; exact q
theorem okAll_mono {N M : Nat} (h : N ≤ M) : ∀ ds : List PyData, okAll N ds → okAll M ds
  | [], q => by unfold okAll; exact True.intro
  | d :: ds, q => by
    unfold okAll at q ⊢
    exact ⟨okD_mono h d q.1, okAll_mono h ds q.2⟩
end
theorem int_short {i : Int} (h : i.natAbs ≤ 10 ^ 50) : (PyData.shown (.int i)).length ≤ 60 := by
  have e := int_text_length_le10 (a := i) (k := 51) (by decide) (Nat.lt_of_le_of_lt h (by decide))
  show (Str.ofString (toString i)).length ≤ 60
  rw [ofString_length]
  omega
theorem int_log {i : Int} (h : i.natAbs ≤ 10 ^ 50) : i.natAbs.log2 < 1920 := by
  by_cases h0 : i.natAbs = 0
  · rw [h0]
    decide
  · exact (Nat.log2_lt h0).mpr (Nat.lt_of_le_of_lt h (by decide))
mutual
theorem okD_short {N : Nat} (h : N ≤ 10 ^ 50) : ∀ d : PyData, okD N d → d.leavesShort 60 = true ∧ d.showable = true
  | .none, q => ⟨rfl, rfl⟩
  | .bool _, q => ⟨rfl, rfl⟩
  | .int i, q => by
    unfold okD at q
    exact ⟨decide_eq_true (int_short (Nat.le_trans q h)), decide_eq_true (int_log (Nat.le_trans q h))⟩
  | .str x, q => by
    unfold okD at q
    refine ⟨?_, rfl⟩
    show (x.cps.toList.all fun c => decide (c < 16 ^ 8)) = true
    rw [List.all_eq_true]
    exact fun c hc => decide_eq_true (Nat.lt_of_lt_of_le (q c hc) (by decide))
  | .list xs, q => by unfold okD at q; exact okAll_short h xs q
  | .tuple xs, q => by unfold okD at q; exact okAll_short h xs q
  | .dict kvs, q => by
    unfold okD at q
    rcases q with q | q <;> subst q
    · exact ⟨rfl, rfl⟩
    · exact ⟨by decide +kernel, by decide +kernel⟩
theorem okAll_short {N : Nat} (h : N ≤ 10 ^ 50) : ∀ ds : List PyData, okAll N ds → PyData.leavesShortAll 60 ds = true ∧ PyData.showableAll ds = true
  | [], q => ⟨rfl, rfl⟩
  | d :: ds, q => by
    unfold okAll at q
    obtain ⟨a1, a2⟩ := okD_short h d q.1
    obtain ⟨b1, b2⟩ := okAll_short h ds q.2
    unfold PyData.leavesShortAll PyData.showableAll
    rw [a1, a2, b1, b2]
    exact ⟨rfl, rfl⟩
end
/-- bounds of a value: its integers, how deep it is nested, how long it is -/
structure Fine (N n m : Nat) (d : PyData) : Prop where
  ok : okD N d
  dp : d.depth ≤ n
  bk : d.bulk ≤ m
structure FineL (N n m : Nat) (ds : List PyData) : Prop where
  ok : okAll N ds
  dp : PyData.depthAll ds ≤ n
  bk : PyData.bulkAll ds ≤ m
theorem Fine.up {N n m N' n' m' : Nat} {d : PyData} (f : Fine N n m d) (h1 : N ≤ N') (h2 : n ≤ n') (h3 : m ≤ m') : Fine N' n' m' d := ⟨okD_mono h1 _ f.ok, Nat.le_trans f.dp h2, Nat.le_trans f.bk h3⟩
theorem FineL.up {N n m N' n' m' : Nat} {ds : List PyData} (f : FineL N n m ds) (h1 : N ≤ N') (h2 : n ≤ n') (h3 : m ≤ m') : FineL N' n' m' ds := ⟨okAll_mono h1 _ f.ok, Nat.le_trans f.dp h2, Nat.le_trans f.bk h3⟩
theorem Fine.show {N n m : Nat} {d : PyData} (f : Fine N n m d) (h1 : N ≤ 10 ^ 50) (h2 : n ≤ 40) (h3 : m ≤ 100000) : d.showable = true ∧ d.shown.length ≤ sizeLine ∧ d.depth ≤ 40 := by
  obtain ⟨a, b⟩ := okD_short h1 d f.ok
  refine ⟨b, ?_, Nat.le_trans f.dp h2⟩
  have z := PyData.shown_le_bulk 60 (by decide) d a
  have q := f.bk
  exact Nat.le_trans (show d.shown.length ≤ 62 * 100000 + 60 by omega) (by decide)
theorem fine_tup {N n m : Nat} {ds : List PyData} : Fine N (n + 1) m (.tuple ds) ↔ FineL N n m ds := by
  constructor
  · intro f
    have a := f.ok
    have b := f.dp
    have c := f.bk
    unfold okD at a
    unfold PyData.depth at b
    unfold PyData.bulk at c
    exact ⟨a, by omega, c⟩
  · intro f
    refine ⟨?_, ?_, ?_⟩
    · unfold okD; exact f.ok
    · unfold PyData.depth; have := f.dp; omega
    · unfold PyData.bulk; exact f.bk
theorem fine_lst {N n m : Nat} {ds : List PyData} : Fine N (n + 1) m (.list ds) ↔ FineL N n m ds := by
  constructor
  · intro f
    have a := f.ok
    have b := f.dp
    have c := f.bk
    unfold okD at a
    unfold PyData.depth at b
    unfold PyData.bulk at c
    exact ⟨a, by omega, c⟩
  · intro f
    refine ⟨?_, ?_, ?_⟩
    · unfold okD; exact f.ok
    · unfold PyData.depth; have := f.dp; omega
    · unfold PyData.bulk; exact f.bk
theorem fineL_nil {N n m : Nat} : FineL N n m [] := ⟨by unfold okAll; exact True.intro, Nat.zero_le _, Nat.zero_le _⟩
theorem fineL_cons {N n m k : Nat} {d : PyData} {ds : List PyData} (a : Fine N n m d) (b : FineL N n k ds) : FineL N n (m + 1 + k) (d :: ds) := by
  refine ⟨?_, ?_, ?_⟩
  · unfold okAll; exact ⟨a.ok, b.ok⟩
  · unfold PyData.depthAll; exact Nat.max_le.mpr ⟨a.dp, b.dp⟩
  · unfold PyData.bulkAll; have := a.bk; have := b.bk; omega
theorem FineL.head {N n m : Nat} {d : PyData} {ds : List PyData} (f : FineL N n m (d :: ds)) : ∃ k j, k + 1 + j ≤ m ∧ Fine N n k d ∧ FineL N n j ds := by
  have a := f.ok
  have b := f.dp
  have c := f.bk
  unfold okAll at a
  unfold PyData.depthAll at b
  unfold PyData.bulkAll at c
  exact ⟨d.bulk, PyData.bulkAll ds, c, ⟨a.1, (Nat.max_le.mp b).1, Nat.le_refl _⟩, ⟨a.2, (Nat.max_le.mp b).2, Nat.le_refl _⟩⟩
theorem FineL.app {N n : Nat} : ∀ {m k : Nat} {ds es : List PyData}, FineL N n m ds → FineL N n k es → FineL N n (m + k) (ds ++ es)
  | m, k, [], es, _, g => g.up (Nat.le_refl _) (Nat.le_refl _) (by omega)
  | m, k, d :: ds, es, f, g => by
    obtain ⟨a, b, hm, f1, f2⟩ := f.head
    exact (fineL_cons f1 (FineL.app f2 g)).up (Nat.le_refl _) (Nat.le_refl _) (by omega)
theorem FineL.split {N n : Nat} : ∀ {m : Nat} {ds : List PyData} (i : Nat), FineL N n m ds → ∃ k j, k + j ≤ m ∧ FineL N n k (ds.take i) ∧ FineL N n j (ds.drop i)
  | m, ds, 0, f => ⟨0, m, by omega, fineL_nil, f⟩
  | m, [], i + 1, f => ⟨0, 0, by omega, fineL_nil, fineL_nil⟩
  | m, d :: ds, i + 1, f => by
    obtain ⟨a, b, hm, f1, f2⟩ := f.head
    obtain ⟨k, j, h, g1, g2⟩ := FineL.split i f2
    exact ⟨a + 1 + k, j, by omega, fineL_cons f1 g1, g2⟩
theorem FineL.at_ {N n : Nat} : ∀ {m : Nat} {ds : List PyData} {i : Nat} {d : PyData}, FineL N n m ds → ds[i]? = some d → ∃ k j, k + 1 + j ≤ m ∧ Fine N n k d ∧ (∀ {N' n' k' : Nat} {d' : PyData}, N ≤ N' → n ≤ n' → Fine N' n' k' d' → FineL N' n' (k' + 1 + j) (ds.take i ++ d' :: ds.drop (i + 1)))
  | m, [], i, d, f, e => by cases e
  | m, x :: xs, 0, d, f, e => by
    obtain ⟨a, b, hm, f1, f2⟩ := f.head
    cases e
    exact ⟨a, b, hm, f1, fun h1 h2 q => fineL_cons q (f2.up h1 h2 (Nat.le_refl _))⟩
  | m, x :: xs, i + 1, d, f, e => by
    obtain ⟨a, b, hm, f1, f2⟩ := f.head
    obtain ⟨k, j, h, g1, g2⟩ := FineL.at_ (i := i) f2 e
    exact ⟨k, a + 1 + j, by omega, g1, fun h1 h2 q => (fineL_cons (f1.up h1 h2 (Nat.le_refl _)) (g2 h1 h2 q)).up (Nat.le_refl _) (Nat.le_refl _) (by omega)⟩
theorem FineL.rev {N n : Nat} : ∀ {m : Nat} {ds : List PyData}, FineL N n m ds → FineL N n m ds.reverse
  | m, [], f => f
  | m, d :: ds, f => by
    obtain ⟨a, b, hm, f1, f2⟩ := f.head
    rw [List.reverse_cons]
    exact (FineL.app (FineL.rev f2) (fineL_cons f1 (fineL_nil (m := 0)))).up (Nat.le_refl _) (Nat.le_refl _) (by omega)
theorem FineL.len {N n : Nat} : ∀ {m : Nat} {ds : List PyData}, FineL N n m ds → ds.length ≤ m
  | m, [], f => Nat.zero_le _
  | m, d :: ds, f => by
    obtain ⟨a, b, hm, f1, f2⟩ := f.head
    have := FineL.len f2
    rw [List.length_cons]
    omega
theorem fine_str {N n m : Nat} {x : Str} (h : ∀ c ∈ x.cps.toList, c < 128) (hl : x.length ≤ m) : Fine N n m (.str x) := ⟨by unfold okD; exact h, Nat.zero_le _, hl⟩
theorem fine_int {N n m : Nat} {i : Int} (h : i.natAbs ≤ N) : Fine N n m (.int i) := ⟨by unfold okD; exact h, Nat.zero_le _, Nat.zero_le _⟩
theorem fine_non {N n m : Nat} : Fine N n m .none := ⟨by unfold okD; exact True.intro, Nat.zero_le _, Nat.zero_le _⟩
theorem fine_bl {N n m : Nat} {b : Bool} : Fine N n m (.bool b) := ⟨by unfold okD; exact True.intro, Nat.zero_le _, Nat.zero_le _⟩
theorem Fine.str_ {N n m : Nat} {x : Str} (f : Fine N n m (.str x)) : (∀ c ∈ x.cps.toList, c < 128) ∧ x.length ≤ m := ⟨by have := f.ok; unfold okD at this; exact this, f.bk⟩
theorem Fine.int_ {N n m : Nat} {i : Int} (f : Fine N n m (.int i)) : i.natAbs ≤ N := by have := f.ok; unfold okD at this; exact this
theorem int_chars {i : Int} : ∀ c ∈ (Str.ofString (toString i)).cps.toList, c < 128 := fun c hc => by
  refine Classical.byContradiction fun hn => ?_
  exact PyProof.Rows.shown_int_free' (k := c) ⟨by omega, .inr (by omega)⟩ i hc
/-- a part of a tuple, as data -/
def cutD (n : Nat) (ds : List PyData) (lo hi : Option Int) : List PyData := (ds.drop (HT.sIx n 0 lo)).take (HT.sIx n n hi - HT.sIx n 0 lo)
theorem FineL.cut {N n m k : Nat} {ds : List PyData} {lo hi : Option Int} (f : FineL N n m ds) : FineL N n m (cutD k ds lo hi) := by
  obtain ⟨_, j, h, _, f2⟩ := f.split (HT.sIx k 0 lo)
  obtain ⟨i, _, h2, f3, _⟩ := f2.split (HT.sIx k k hi - HT.sIx k 0 lo)
  exact f3.up (Nat.le_refl _) (Nat.le_refl _) (by omega)
theorem VdAll.cut {a : Addr} {H : Hp} {xs : List V} {ds : List PyData} {lo hi : Option Int} (r : VdAll a H xs ds) : VdAll a H (cutV xs lo hi) (cutD xs.length ds lo hi) := (r.drop _).take _
theorem cutV_take {xs : List V} {k : Nat} (h : k ≤ xs.length) : cutV xs none (some (k : Int)) = xs.take k := by
  unfold cutV
  rw [HT.sIx_none, HT.sIx_nat, Nat.min_eq_left h, List.drop_zero, Nat.sub_zero]
theorem cutV_drop {xs : List V} {k : Nat} (h : k ≤ xs.length) : cutV xs (some (k : Int)) none = xs.drop k := by
  unfold cutV
  rw [HT.sIx_none, HT.sIx_nat, Nat.min_eq_left h, List.take_of_length_le (by rw [List.length_drop]; exact Nat.le_refl _)]
theorem cutS_in {z : Str} {lo hi : Option Int} : (∀ c ∈ (cutS z lo hi).cps.toList, c ∈ z.cps.toList) ∧ (cutS z lo hi).length ≤ z.length := by
  unfold cutS
  constructor
  · intro c hc
    exact List.mem_of_mem_drop (List.mem_of_mem_take (by simpa using hc))
  · show (List.toArray _).size ≤ z.length
    rw [List.size_toArray, List.length_take, List.length_drop, Array.length_toList]
    show min _ (z.length - _) ≤ z.length
    omega
section
variable {a : Addr} {H : Hp}
theorem Vd.up {v : V} {d : PyData} {p : Addr} {o : HO} (hp : H p = none) (r : Vd a H v d) : Vd a (upd H p o) v d := Vd.keep (fun q _ _ _ e => by rw [upd_ne (ne_of_none e hp)]; exact e) d v r
end
end VG


set_option Elab.async false
set_option maxRecDepth 100000
set_option maxHeartbeats 8000000
set_option exponentiation.threshold 3000
namespace Vf
open PySem L2 SX Vm
/-! what the program and the law say of a value of any kind -/
inductive SG (H : Hp) (b : Nat) (R : Int) : V → Bool → Prop where
  | non {v : V} {t : Value} (p : Pl H v t) (n : ∀ q xs, v = .ref q → H q ≠ some (.tup xs)) : SG H b R v false
  | len {p : Addr} {xs : List V} (h : H p = some (.tup xs)) (n : xs.length ≠ 3) : SG H b R (.ref p) false
  | root {p : Addr} {r x y : V} {tr : Value} (h : H p = some (.tup [r, x, y])) (pr : Pl H r tr) (n : withinV 0 (R - 1) r = false) : SG H b R (.ref p) false
  | head {p : Addr} {r x y : V} {tr tx : Value} (h : H p = some (.tup [r, x, y])) (pr : Pl H r tr) (w : withinV 0 (R - 1) r = true) (px : Pl H x tx) (n : wordV b x = false) : SG H b R (.ref p) false
  | per {p : Addr} {r x y : V} {tr tx ty : Value} (h : H p = some (.tup [r, x, y])) (pr : Pl H r tr) (w : withinV 0 (R - 1) r = true) (px : Pl H x tx) (wx : wordV b x = true) (py : Pl H y ty) (n : wordV b y = false ∨ y = .str "") : SG H b R (.ref p) false
  | fin {p : Addr} {r : V} {x y : List Nat} {tr : Value} (h : H p = some (.tup [r, .str (S x), .str (S y)])) (pr : Pl H r tr) (w : withinV 0 (R - 1) r = true) (wx : IsW b x) (wy : IsW b y) (y0 : 0 < y.length) (lx : x.length ≤ 1000) (ly : y.length ≤ 1000) : SG H b R (.ref p) (sfB x y)
inductive PG (H : Hp) (b : Nat) (R : Int) : V → Bool → Prop where
  | non {v : V} {t : Value} (p : Pl H v t) (n : ∀ q xs, v = .ref q → H q ≠ some (.tup xs)) : PG H b R v false
  | len {p : Addr} {xs : List V} (h : H p = some (.tup xs)) (n : xs.length ≠ 2) : PG H b R (.ref p) false
  | fin {p : Addr} {r x : V} {tr tx : Value} (h : H p = some (.tup [r, x])) (pr : Pl H r tr) (px : Pl H x tx) : PG H b R (.ref p) (withinV 0 (R - 1) r && wordV b x)
def spStreamFormG : Sp := fun vs H Q _ => ∃ (b : Nat) (R : Int) (v : V) (res : Bool), vs = [.int (b : Int), .int R, v] ∧ 2 ≤ b ∧ b ≤ 5 ∧ SG H b R v res ∧ Q (.bl res) H
def spPfxFormG : Sp := fun vs H Q _ => ∃ (b : Nat) (R : Int) (v : V) (res : Bool), vs = [.int (b : Int), .int R, v] ∧ 2 ≤ b ∧ b ≤ 5 ∧ PG H b R v res ∧ Q (.bl res) H
section
variable {P : Program} {w : World} {K : PySem.W.Frag} {mg : Str → Option Value} {base : Heap}
theorem ok_streamformG {f fI fW fS : Addr} {fd fdI fdW fdS : FuncData} (F : Fun K "has_stream_form" "has_stream_form" sStreamForm f fd) (GI : FnOk P w K mg base CX0 2 fI fdI ["low", "high", "value"] spWithin) (cI : Cal K mg "is_integer_within" fI fdI ["low", "high", "value"])
    (GW : FnOk P w K mg base CX0 1 fW fdW ["base", "value"] spWordForm) (cW : Cal K mg "has_word_form" fW fdW ["base", "value"]) (GS : FnOk P w K mg base CX0 1 fS fdS ["period"] spShort) (cS : Cal K mg "shortest_period" fS fdS ["period"]) (N : Nm mg) :
    FnOk P w K mg base CX0 3 f fd ["base", "roots", "value"] spStreamFormG := by
  refine F.ok scStreamForm (fun vs H Q E h => ?_) (fun cdv A outer s H vs Q E hr h => ?_)
  · obtain ⟨b, R, v, res, rfl, _⟩ := h
    rfl
  · obtain ⟨b, R, v, res, rfl, b2, b5, sf, k⟩ := h
    have nd := scStreamForm.nd
    have hr1 := hr.mono (show 1 ≤ 2 by decide)
    refine ⟨_, pss_cons (ps_if (PW.pt (pw_or (pt_not (pt_val (pe_callB call_isi (by rfl) N.isinst PyProof.Rows.boot_isinstance (pa_cons (pv 2) (pa_cons (pe_bltn (v := .ty "tuple") (by rfl) N.tuple PyProof.Rows.boot_tuple rfl) pa_nil)))))
        (pw_or (pt_cmpR op_ne (pe_callB call_len_seq (by rfl) N.len boot_len (pa_cons (pv 2) pa_nil)) pe_int (nomark _))
        (pw_or1 (pt_not (pt_val (pe_call GI hr rfl cI.mg cI.kp cI.b .nil pass0 (pa_cons pe_int (pa_cons (pe_op op_sub (pv 1) pe_int) (pa_cons (pe_ix ix_tup (pv 2) pe_int (fun _ _ => rfl)) pa_nil))))))))))
        (pss_one (ps_ret pe_bl)) pss_nil)
      (pss_cons (ps_asg (pv 2) (pg_tup rfl (pgs_cons (pg_name (i := 3) nd rfl (.inl rfl)) (pgs_cons (pg_name (i := 4) nd rfl (.inl rfl)) (pgs_cons (pg_name (i := 5) nd rfl (.inl rfl)) pgs_nil)))))
      (pss_cons (ps_if (PW.pt (pw_or (pt_not (pt_val (pe_call GW hr1 rfl cW.mg cW.kp cW.b .nil pass0 (pa_cons (pv 0) (pa_cons (pv 4) pa_nil)))))
        (pw_or (pt_not (pt_val (pe_call GW hr1 rfl cW.mg cW.kp cW.b .nil pass0 (pa_cons (pv 0) (pa_cons (pv 5) pa_nil)))))
        (pw_or1 (pt_cmpR op_eq (pv 5) pe_str (nomark _)))))) (pss_one (ps_ret pe_bl)) pss_nil)
      (pss_one (ps_ret (pe_and (pe_cmpR op_eq (pe_call GS hr1 rfl cS.mg cS.kp cS.b .nil pass0 (pa_cons (pv 5) pa_nil)) (pv 5) (nomark _))
        (pe_one (pe_not (pe_bm PySem.F.plainAttrs_str PySem.F.slot_str_endswith PySem.F.type_str_endswith mt_endswith (pv 4) (pa_cons (pe_ix ix_str (pv 5) (pe_un un_neg pe_int) (fun _ _ => rfl)) pa_nil))))))))), ?_⟩
    have at0 : ∀ r x y : V, atI [r, x, y] 0 = some r := fun _ _ _ => rfl
    cases sf with
    | non p n =>
      refine ⟨_, rfl, _, _, _, _, false, rfl, .ty "tuple", p.tyx, kit_tup p n, _, rfl, ?_⟩
      refine iteT ?_
      exact iteT k
    | @len p xs hp n =>
      refine ⟨_, rfl, _, _, _, _, true, rfl, .ty "tuple", (Pl.tup hp).tyx, kit_ty (by decide +kernel), _, rfl, ?_⟩
      refine iteF ?_
      refine ⟨_, rfl, _, _, rfl, .inr (SqT.of hp), rfl, _, rfl, ?_⟩
      have hb : (!decide (V.int ((xs.length : Nat) : Int) = V.int 3)) = true := by
        rw [decide_eq_false (fun z => n (by have := V.int.inj z; omega))]
        rfl
      exact iteTB hb (iteT k)
    | @root p r x y tr hp pr n =>
      refine ⟨_, rfl, _, _, _, _, true, rfl, .ty "tuple", (Pl.tup hp).tyx, kit_ty (by decide +kernel), _, rfl, ?_⟩
      refine iteF ?_
      refine ⟨_, rfl, p, _, rfl, .inr (SqT.of hp), rfl, _, rfl, ?_⟩
      refine iteFB rfl ?_
      refine ⟨_, rfl, _, _, rfl, rfl, _, rfl, p, _, _, _, rfl, rfl, SqT.of hp, at0 _ _ _, 0, R - 1, _, _, rfl, pr, _, rfl, ?_⟩
      rw [n]
      exact iteT k
    | @head p r x y tr tx hp pr wr px n =>
      refine ⟨_, rfl, _, _, _, _, true, rfl, .ty "tuple", (Pl.tup hp).tyx, kit_ty (by decide +kernel), _, rfl, ?_⟩
      refine iteF ?_
      refine ⟨_, rfl, p, _, rfl, .inr (SqT.of hp), rfl, _, rfl, ?_⟩
      refine iteFB rfl ?_
      refine ⟨_, rfl, _, _, rfl, rfl, _, rfl, p, _, _, _, rfl, rfl, SqT.of hp, at0 _ _ _, 0, R - 1, _, _, rfl, pr, _, rfl, ?_⟩
      rw [wr]
      refine iteF ?_
      refine ⟨_, rfl, p, _, rfl, SqT.of hp, rfl, _, _, rfl, _, _, rfl, _, _, rfl, rfl, ?_⟩
      refine ⟨_, rfl, _, rfl, b, _, _, rfl, b2, b5, px, _, rfl, ?_⟩
      rw [n]
      refine iteT ?_
      exact iteT k
    | @per p r x y tr tx ty hp pr wr px wx py n =>
      refine ⟨_, rfl, _, _, _, _, true, rfl, .ty "tuple", (Pl.tup hp).tyx, kit_ty (by decide +kernel), _, rfl, ?_⟩
      refine iteF ?_
      refine ⟨_, rfl, p, _, rfl, .inr (SqT.of hp), rfl, _, rfl, ?_⟩
      refine iteFB rfl ?_
      refine ⟨_, rfl, _, _, rfl, rfl, _, rfl, p, _, _, _, rfl, rfl, SqT.of hp, at0 _ _ _, 0, R - 1, _, _, rfl, pr, _, rfl, ?_⟩
      rw [wr]
      refine iteF ?_
      refine ⟨_, rfl, p, _, rfl, SqT.of hp, rfl, _, _, rfl, _, _, rfl, _, _, rfl, rfl, ?_⟩
      refine ⟨_, rfl, _, rfl, b, _, _, rfl, b2, b5, px, _, rfl, ?_⟩
      rw [wx]
      refine iteF ?_
      refine ⟨_, rfl, _, rfl, b, _, _, rfl, b2, b5, py, _, rfl, ?_⟩
      cases hw : wordV b y with
      | false =>
        refine iteT ?_
        exact iteT k
      | true =>
        rcases n with n | n
        · rw [n] at hw
          cases hw
        · subst n
          refine iteF ?_
          refine ⟨_, rfl, rfl, _, rfl, ?_⟩
          exact iteTB (decide_eq_true rfl) k
    | @fin p r x y tr hp pr wr wx wy y0 lx ly =>
      refine ⟨_, rfl, _, _, _, _, true, rfl, .ty "tuple", (Pl.tup hp).tyx, kit_ty (by decide +kernel), _, rfl, ?_⟩
      refine iteF ?_
      refine ⟨_, rfl, p, _, rfl, .inr (SqT.of hp), rfl, _, rfl, ?_⟩
      refine iteFB rfl ?_
      refine ⟨_, rfl, _, _, rfl, rfl, _, rfl, p, _, _, _, rfl, rfl, SqT.of hp, at0 _ _ _, 0, R - 1, _, _, rfl, pr, _, rfl, ?_⟩
      rw [wr]
      refine iteF ?_
      refine ⟨_, rfl, p, _, rfl, SqT.of hp, rfl, _, _, rfl, _, _, rfl, _, _, rfl, rfl, ?_⟩
      have ph : Pl H (.str (S x)) (.type "str") := .str _ (by rw [S_len]; omega)
      have pq : Pl H (.str (S y)) (.type "str") := .str _ (by rw [S_len]; omega)
      refine ⟨_, rfl, _, rfl, b, _, _, rfl, b2, b5, ph, _, rfl, ?_⟩
      rw [wordV_of wx]
      refine iteF ?_
      refine ⟨_, rfl, _, rfl, b, _, _, rfl, b2, b5, pq, _, rfl, ?_⟩
      rw [wordV_of wy]
      refine iteF ?_
      have qne : y ≠ [] := fun z => by rw [z] at y0; exact absurd y0 (Nat.lt_irrefl _)
      refine ⟨_, rfl, rfl, _, rfl, ?_⟩
      refine iteFB (decide_eq_false (fun z => qne (str_ne_empty.mp z))) ?_
      refine ⟨_, rfl, y, rfl, y0, ly, fun s l hle => ?_⟩
      by_cases es : s = y.length
      · subst es
        rw [List.take_length]
        refine ⟨_, rfl, rfl, _, rfl, ?_⟩
        refine iteTB (decide_eq_true rfl) ?_
        refine ⟨_, rfl, rfl, _, rfl, _, rfl, _, _, _, rfl, rfl, small_len ly, at_back (t := 0) y0 (by decide), _, _, rfl, rfl, _, rfl, ?_⟩
        rw [Nat.sub_zero]
        unfold sfB at k
        rw [decide_eq_true l, Bool.true_and] at k
        exact k
      · refine ⟨_, rfl, rfl, _, rfl, ?_⟩
        have ne : y.take s ≠ y := fun z => es (by
          have := congrArg List.length z
          rw [List.length_take] at this
          omega)
        refine iteFB (decide_eq_false (fun z => ne (by have e := congrArg (fun s : Str => s.cps.toList) (V.str.inj z); simpa using e))) ?_
        unfold sfB at k
        rw [decide_eq_false (fun z => es (l.unique z)), Bool.false_and] at k
        exact k
theorem ok_pfxformG {f fI fW : Addr} {fd fdI fdW : FuncData} (F : Fun K "has_prefix_form" "has_prefix_form" sPfxForm f fd) (GI : FnOk P w K mg base CX0 2 fI fdI ["low", "high", "value"] spWithin) (cI : Cal K mg "is_integer_within" fI fdI ["low", "high", "value"])
    (GW : FnOk P w K mg base CX0 1 fW fdW ["base", "value"] spWordForm) (cW : Cal K mg "has_word_form" fW fdW ["base", "value"]) (N : Nm mg) : FnOk P w K mg base CX0 3 f fd ["base", "roots", "value"] spPfxFormG := by
  refine F.ok scPfxForm (fun vs H Q E h => ?_) (fun cdv A outer s H vs Q E hr h => ?_)
  · obtain ⟨b, R, v, res, rfl, _⟩ := h
    rfl
  · obtain ⟨b, R, v, res, rfl, b2, b5, sf, k⟩ := h
    have nd := scPfxForm.nd
    have hr1 := hr.mono (show 1 ≤ 2 by decide)
    refine ⟨_, pss_cons (ps_if (PW.pt (pw_or (pt_not (pt_val (pe_callB call_isi (by rfl) N.isinst PyProof.Rows.boot_isinstance (pa_cons (pv 2) (pa_cons (pe_bltn (v := .ty "tuple") (by rfl) N.tuple PyProof.Rows.boot_tuple rfl) pa_nil)))))
        (pw_or1 (pt_cmpR op_ne (pe_callB call_len_seq (by rfl) N.len boot_len (pa_cons (pv 2) pa_nil)) pe_int (nomark _)))))
        (pss_one (ps_ret pe_bl)) pss_nil)
      (pss_cons (ps_asg (pv 2) (pg_tup rfl (pgs_cons (pg_name (i := 3) nd rfl (.inl rfl)) (pgs_cons (pg_name (i := 4) nd rfl (.inl rfl)) pgs_nil))))
      (pss_one (ps_ret (pe_and (pe_call GI hr rfl cI.mg cI.kp cI.b .nil pass0 (pa_cons pe_int (pa_cons (pe_op op_sub (pv 1) pe_int) (pa_cons (pv 3) pa_nil))))
        (pe_one (pe_call GW hr1 rfl cW.mg cW.kp cW.b .nil pass0 (pa_cons (pv 0) (pa_cons (pv 4) pa_nil)))))))), ?_⟩
    cases sf with
    | non p n =>
      refine ⟨_, rfl, _, _, _, _, false, rfl, .ty "tuple", p.tyx, kit_tup p n, _, rfl, ?_⟩
      refine iteT ?_
      exact iteT k
    | @len p xs hp n =>
      refine ⟨_, rfl, _, _, _, _, true, rfl, .ty "tuple", (Pl.tup hp).tyx, kit_ty (by decide +kernel), _, rfl, ?_⟩
      refine iteF ?_
      refine ⟨_, rfl, _, _, rfl, .inr (SqT.of hp), rfl, _, rfl, ?_⟩
      exact iteTB (by rw [decide_eq_false (fun z => n (by have := V.int.inj z; omega))]; rfl) k
    | @fin p r x tr tx hp pr px =>
      refine ⟨_, rfl, _, _, _, _, true, rfl, .ty "tuple", (Pl.tup hp).tyx, kit_ty (by decide +kernel), _, rfl, ?_⟩
      refine iteF ?_
      refine ⟨_, rfl, p, _, rfl, .inr (SqT.of hp), rfl, _, rfl, ?_⟩
      refine iteFB rfl ?_
      refine ⟨_, rfl, p, _, rfl, SqT.of hp, rfl, _, _, rfl, _, _, rfl, rfl, ?_⟩
      refine ⟨_, rfl, _, _, rfl, rfl, _, rfl, 0, R - 1, _, _, rfl, pr, _, rfl, ?_⟩
      cases hw : withinV 0 (R - 1) r with
      | false =>
        rw [hw] at k
        exact iteF k
      | true =>
        refine iteT ?_
        rw [hw] at k
        exact ⟨_, rfl, _, rfl, b, x, _, rfl, b2, b5, px, k⟩
end
/-! ### the same of data -/
def cntD (lo hi : Int) : PyData → Bool
  | .int n => decide (lo ≤ n) && decide (n ≤ hi)
  | _ => false
def digD (b : Nat) : PyData → Bool
  | .str s => s.cps.toList.all fun c => decide (48 ≤ c) && decide (c < 48 + b)
  | _ => false
def plcD (b : Nat) (R : Int) : PyData → Bool
  | .tuple [r, x] => cntD 0 (R - 1) r && digD b x
  | _ => false
noncomputable def tlD : PyData → PyData → Bool
  | .str x, .str y => decide (y.cps.toList ≠ []) && sfB x.cps.toList y.cps.toList
  | _, _ => false
noncomputable def endD (b : Nat) (R : Int) : PyData → Bool
  | .tuple [r, x, y] => cntD 0 (R - 1) r && (digD b x && (digD b y && tlD x y))
  | _ => false
open VG in
theorem vd_cnt {a : Addr} {H : Hp} {v : V} {d : PyData} {lo hi : Int} (h : Vd a H v d) : withinV lo hi v = cntD lo hi d := by
  cases h <;> rfl
open VG in
theorem vd_dig {a : Addr} {H : Hp} {v : V} {d : PyData} {b : Nat} (h : Vd a H v d) : wordV b v = digD b d := by
  cases h <;> rfl
open VG in
theorem vd_pl {a : Addr} {H : Hp} {v : V} {d : PyData} {N n m : Nat} (h : Vd a H v d) (f : Fine N n m d) (hm : m ≤ 9000) : ∃ t, Pl H v t := by
  cases h with
  | non => exact ⟨_, .non⟩
  | bl b => exact ⟨_, .bl b⟩
  | int i => exact ⟨_, .int i⟩
  | str x => exact ⟨_, .str x (Nat.le_trans f.str_.2 hm)⟩
  | lst _ _ e _ => exact ⟨_, .lst e⟩
  | tup _ e _ => exact ⟨_, .tup e⟩
  | d0 _ e => exact ⟨_, .dct e⟩
  | d1 _ e => exact ⟨_, .dct e⟩
open VG in
theorem vd_nt {a : Addr} {H : Hp} {v : V} {d : PyData} (h : Vd a H v d) (n : ∀ ds, d ≠ .tuple ds) : ∀ q xs, v = .ref q → H q ≠ some (.tup xs) := by
  intro q xs e z
  cases h with
  | lst _ _ e1 _ => cases e; rw [e1] at z; cases z
  | tup _ e1 _ => exact n _ rfl
  | d0 _ e1 => cases e; rw [e1] at z; cases z
  | d1 _ e1 => cases e; rw [e1] at z; cases z
  | _ => cases e
open VG in
theorem vd_two {a : Addr} {H : Hp} {xs : List V} {r x : PyData} (h : VdAll a H xs [r, x]) : ∃ u y, xs = [u, y] ∧ Vd a H u r ∧ Vd a H y x := by
  cases h with
  | cons h1 h => cases h with
    | cons h2 h => cases h; exact ⟨_, _, rfl, h1, h2⟩
open VG in
theorem vd_three {a : Addr} {H : Hp} {xs : List V} {r x z : PyData} (h : VdAll a H xs [r, x, z]) : ∃ u y t, xs = [u, y, t] ∧ Vd a H u r ∧ Vd a H y x ∧ Vd a H t z := by
  cases h with
  | cons h1 h => cases h with
    | cons h2 h => cases h with
      | cons h3 h => cases h; exact ⟨_, _, _, rfl, h1, h2, h3⟩
open VG in
theorem vd_pg {a : Addr} {H : Hp} {v : V} {d : PyData} {N n m : Nat} {b : Nat} {R : Int} (h : Vd a H v d) (f : Fine N n m d) (hm : m ≤ 1000) : PG H b R v (plcD b R d) := by
  obtain ⟨t, pl⟩ := vd_pl h f (Nat.le_trans hm (by decide))
  have other : (∀ ds, d ≠ .tuple ds) → PG H b R v (plcD b R d) := fun nt => by
    have e : plcD b R d = false := by
      cases d with
      | tuple ds => exact absurd rfl (nt ds)
      | _ => rfl
    rw [e]
    exact .non pl (vd_nt h nt)
  cases h with
  | @tup p xs ds n1 e r =>
    by_cases hl : ds.length = 2
    · match ds, hl with
      | [r0, x0], _ =>
        obtain ⟨u, y, rfl, h1, h2⟩ := vd_two r
        have fl := fine_tup.mp (f.up (Nat.le_refl _) (Nat.le_succ _) (Nat.le_refl _))
        obtain ⟨k, j, hk, f1, f2⟩ := fl.head
        obtain ⟨k2, j2, hk2, f3, _⟩ := f2.head
        obtain ⟨t1, p1⟩ := vd_pl h1 f1 (by omega)
        obtain ⟨t2, p2⟩ := vd_pl h2 f3 (by omega)
        show PG H b R (.ref p) (cntD 0 (R - 1) r0 && digD b x0)
        rw [← vd_cnt h1, ← vd_dig h2]
        exact .fin e p1 p2
    · have ee : plcD b R (.tuple ds) = false := by
        match ds, hl with
        | [], _ => rfl
        | [_], _ => rfl
        | [_, _], hl => exact absurd rfl hl
        | _ :: _ :: _ :: _, _ => rfl
      rw [ee]
      exact .len e (by rw [r.len]; exact hl)
  | _ => exact other (fun _ z => nomatch z)
open VG in
theorem vd_sg {a : Addr} {H : Hp} {v : V} {d : PyData} {N n m : Nat} {b : Nat} {R : Int} (h : Vd a H v d) (f : Fine N n m d) (hm : m ≤ 1000) : SG H b R v (endD b R d) := by
  obtain ⟨t, pl⟩ := vd_pl h f (Nat.le_trans hm (by decide))
  have other : (∀ ds, d ≠ .tuple ds) → SG H b R v (endD b R d) := fun nt => by
    have e : endD b R d = false := by
      cases d with
      | tuple ds => exact absurd rfl (nt ds)
      | _ => rfl
    rw [e]
    exact .non pl (vd_nt h nt)
  cases h with
  | @tup p xs ds n1 e r =>
    by_cases hl : ds.length = 3
    · match ds, hl with
      | [r0, x0, y0], _ =>
        obtain ⟨u, y, z, rfl, h1, h2, h3⟩ := vd_three r
        have fl := fine_tup.mp (f.up (Nat.le_refl _) (Nat.le_succ _) (Nat.le_refl _))
        obtain ⟨k, j, hk, f1, f2⟩ := fl.head
        obtain ⟨k2, j2, hk2, f3, f4⟩ := f2.head
        obtain ⟨k3, j3, hk3, f5, _⟩ := f4.head
        obtain ⟨t1, p1⟩ := vd_pl h1 f1 (by omega)
        obtain ⟨t2, p2⟩ := vd_pl h2 f3 (by omega)
        obtain ⟨t3, p3⟩ := vd_pl h3 f5 (by omega)
        show SG H b R (.ref p) (cntD 0 (R - 1) r0 && (digD b x0 && (digD b y0 && tlD x0 y0)))
        cases c1 : cntD 0 (R - 1) r0 with
        | false => exact .root e p1 (by rw [vd_cnt h1]; exact c1)
        | true =>
          have w1 := (vd_cnt h1).trans c1
          cases c2 : digD b x0 with
          | false => exact .head e p1 w1 p2 (by rw [vd_dig h2]; exact c2)
          | true =>
            have w2 := (vd_dig h2).trans c2
            cases c3 : digD b y0 with
            | false => exact .per e p1 w1 p2 w2 p3 (.inl (by rw [vd_dig h3]; exact c3))
            | true =>
              have w3 := (vd_dig h3).trans c3
              cases h2 with
              | str x =>
                cases h3 with
                | str y' =>
                  by_cases hy : y'.cps.toList = []
                  · have ez : y' = "" := by rw [← S_tl y', hy]; exact str_empty.symm
                    have et : tlD (.str x) (.str y') = false := by
                      show (decide (y'.cps.toList ≠ []) && _) = false
                      rw [decide_eq_false (fun z => z hy)]
                      rfl
                    rw [et]
                    exact .per e p1 w1 p2 w2 p3 (.inr (by rw [ez]))
                  · have et : tlD (.str x) (.str y') = sfB x.cps.toList y'.cps.toList := by
                      show (decide (y'.cps.toList ≠ []) && _) = _
                      rw [decide_eq_true hy]
                      rfl
                    rw [et]
                    have e' : H p = some (.tup [u, .str (S x.cps.toList), .str (S y'.cps.toList)]) := by rw [S_tl, S_tl]; exact e
                    have lx : x.cps.toList.length ≤ 1000 := by have := f3.str_.2; rw [Array.length_toList]; exact Nat.le_trans this (by omega)
                    have ly : y'.cps.toList.length ≤ 1000 := by have := f5.str_.2; rw [Array.length_toList]; exact Nat.le_trans this (by omega)
                    exact .fin e' p1 w1 (of_wordV w2) (of_wordV w3) (List.length_pos_iff.mpr hy) lx ly
                | _ => cases c3
              | _ => cases c2
    · have ee : endD b R (.tuple ds) = false := by
        match ds, hl with
        | [], _ => rfl
        | [_], _ => rfl
        | [_, _], _ => rfl
        | [_, _, _], hl => exact absurd rfl hl
        | _ :: _ :: _ :: _ :: _, _ => rfl
      rw [ee]
      exact .len e (by rw [r.len]; exact hl)
  | _ => exact other (fun _ z => nomatch z)
/-! ### the program's judges, whatever stands before -/
def XNum (CN : Addr) (v : V) : XK → Hp → Prop := fun E H => ∀ d, H d = none → E (.ref CN) (some d) (upd H d (.xd [(("value" : Str), v)]))
def spIsBase : Sp := fun vs H Q _ => ∃ (v : V) (t : Value), vs = [v] ∧ Pl H v t ∧ Q (.bl (withinV 2 5 v)) H
def spIsWord (CN : Addr) : Sp := fun vs H Q E => ∃ (vb v : V) (tb : Value), vs = [vb, v] ∧ Pl H vb tb ∧ (withinV 2 5 vb = false → XNum CN vb E H) ∧
  (∀ b : Nat, vb = .int (b : Int) → 2 ≤ b → b ≤ 5 → ∃ t, Pl H v t ∧ Q (.bl (wordV b v)) H)
def spIsPfxG (CN : Addr) : Sp := fun vs H Q E => ∃ (vb vr v : V) (tb tr : Value), vs = [vb, vr, v] ∧ Pl H vb tb ∧ Pl H vr tr ∧ (withinV 2 5 vb = false → XNum CN vb E H) ∧ (withinV 2 5 vb = true → withinV 1 5000 vr = false → XNum CN vr E H) ∧
  (∀ (b : Nat) (R : Int), vb = .int (b : Int) → vr = .int R → 2 ≤ b → b ≤ 5 → 1 ≤ R → R ≤ 5000 → ∃ res, PG H b R v res ∧ Q (.bl res) H)
def spIsStrG (CN : Addr) : Sp := fun vs H Q E => ∃ (vb vr v : V) (tb tr : Value), vs = [vb, vr, v] ∧ Pl H vb tb ∧ Pl H vr tr ∧ (withinV 2 5 vb = false → XNum CN vb E H) ∧ (withinV 2 5 vb = true → withinV 1 5000 vr = false → XNum CN vr E H) ∧
  (∀ (b : Nat) (R : Int), vb = .int (b : Int) → vr = .int R → 2 ≤ b → b ≤ 5 → 1 ≤ R → R ≤ 5000 → ∃ res, SG H b R v res ∧ Q (.bl res) H)
theorem within_int {lo hi : Int} {v : V} (h : withinV lo hi v = true) : ∃ n, v = .int n ∧ lo ≤ n ∧ n ≤ hi := by
  cases v with
  | int n =>
    have h' : (decide (lo ≤ n) && decide (n ≤ hi)) = true := h
    rw [Bool.and_eq_true, decide_eq_true_eq, decide_eq_true_eq] at h'
    exact ⟨n, rfl, h'.1, h'.2⟩
  | _ => cases h
section
variable {P : Program} {w : World} {K : PySem.W.Frag} {mg : Str → Option Value} {base : Heap}
theorem scIsBase : FnScope ["value"] ["value"] (defScope sIsBase) := ⟨rfl, rfl, rfl, by decide +kernel, rfl, by decide +kernel, by decide +kernel⟩
theorem ok_isbase {f fI : Addr} {fd fdI : FuncData} (F : Fun K "is_base" "is_base" sIsBase f fd) (GI : FnOk P w K mg base CX0 2 fI fdI ["low", "high", "value"] spWithin) (cI : Cal K mg "is_integer_within" fI fdI ["low", "high", "value"]) (N : Nm mg) :
    FnOk P w K mg base CX0 3 f fd ["value"] spIsBase := by
  refine F.ok scIsBase (fun vs H Q E h => ?_) (fun cdv A outer s H vs Q E hr h => ?_)
  · obtain ⟨v, t, rfl, _⟩ := h
    rfl
  · obtain ⟨v, t, rfl, pl, k⟩ := h
    obtain ⟨t1, m1⟩ := N.minB
    obtain ⟨t2, m2⟩ := N.maxB
    refine ⟨_, pss_one (ps_ret (pe_call GI hr rfl cI.mg cI.kp cI.b .nil pass0 (pa_cons (pe_glob (v := .int 2) rfl m1 ⟨_, rfl⟩) (pa_cons (pe_glob (v := .int 5) rfl m2 ⟨_, rfl⟩) (pa_cons (pv 0) pa_nil))))), ?_⟩
    exact ⟨_, rfl, 2, 5, v, t, rfl, pl, k⟩
theorem scIsWord : FnScope ["base", "value"] ["base", "value"] (defScope sIsWord) := ⟨rfl, rfl, rfl, by decide +kernel, rfl, by decide +kernel, by decide +kernel⟩
theorem ok_isword {f fB fW CN : Addr} {fd fdB fdW : FuncData} (F : Fun K "is_word" "is_word" sIsWord f fd) (GB : FnOk P w K mg base (L2.CX P w) 4 fB fdB ["base"] (spReqB CN 2 5)) (cB : Cal K mg "require_base" fB fdB ["base"])
    (GW : FnOk P w K mg base CX0 1 fW fdW ["base", "value"] spWordForm) (cW : Cal K mg "has_word_form" fW fdW ["base", "value"]) :
    FnOk P w K mg base (L2.CX P w) 5 f fd ["base", "value"] (spIsWord CN) := by
  refine F.okX scIsWord (fun vs H Q E h => ?_) (fun cdv A outer s H vs Q E hr h => ?_)
  · obtain ⟨vb, v, tb, rfl, _⟩ := h
    rfl
  · obtain ⟨vb, v, tb, rfl, pb, k1, k2⟩ := h
    refine ⟨_, pss_cons (ps_expr (pe_call GB hr rfl cB.mg cB.kp cB.b .nil (passes_call (takes_of rfl rfl rfl rfl) (fun _ _ _ _ h => h)) (pa_cons (pv 0) pa_nil)))
      (pss_one (ps_ret (pe_call GW (hr.mono (by decide)) rfl cW.mg cW.kp cW.b .nil pass0 (pa_cons (pv 0) (pa_cons (pv 1) pa_nil))))), ?_⟩
    refine ⟨_, rfl, vb, tb, rfl, pb, fun wb => ?_, k1⟩
    obtain ⟨n, rfl, n2, n5⟩ := within_int wb
    obtain ⟨b, rfl⟩ : ∃ b : Nat, n = (b : Int) := ⟨n.toNat, by omega⟩
    obtain ⟨t, pl, k⟩ := k2 b rfl (by omega) (by omega)
    exact ⟨_, rfl, _, rfl, b, v, t, rfl, by omega, by omega, pl, k⟩
theorem scIsPfxG : FnScope ["base", "roots", "value"] ["base", "roots", "value"] (defScope sIsPrefix) := ⟨rfl, rfl, rfl, by decide +kernel, rfl, by decide +kernel, by decide +kernel⟩
theorem ok_ispfxG {f fB fR fF CN : Addr} {fd fdB fdR fdF : FuncData} (F : Fun K "is_prefix" "is_prefix" sIsPrefix f fd) (GB : FnOk P w K mg base (L2.CX P w) 4 fB fdB ["base"] (spReqB CN 2 5)) (cB : Cal K mg "require_base" fB fdB ["base"])
    (GR : FnOk P w K mg base (L2.CX P w) 4 fR fdR ["roots"] (spReqB CN 1 5000)) (cR : Cal K mg "require_roots" fR fdR ["roots"]) (GF : FnOk P w K mg base CX0 3 fF fdF ["base", "roots", "value"] spPfxFormG) (cF : Cal K mg "has_prefix_form" fF fdF ["base", "roots", "value"]) :
    FnOk P w K mg base (L2.CX P w) 5 f fd ["base", "roots", "value"] (spIsPfxG CN) := by
  refine F.okX scIsPfxG (fun vs H Q E h => ?_) (fun cdv A outer s H vs Q E hr h => ?_)
  · obtain ⟨vb, vr, v, tb, tr, rfl, _⟩ := h
    rfl
  · obtain ⟨vb, vr, v, tb, tr, rfl, pb, pr, k1, k2, k3⟩ := h
    refine ⟨_, pss_cons (ps_expr (pe_call GB hr rfl cB.mg cB.kp cB.b .nil (passes_call (takes_of rfl rfl rfl rfl) (fun _ _ _ _ h => h)) (pa_cons (pv 0) pa_nil)))
      (pss_cons (ps_expr (pe_call GR hr rfl cR.mg cR.kp cR.b .nil (passes_call (takes_of rfl rfl rfl rfl) (fun _ _ _ _ h => h)) (pa_cons (pv 1) pa_nil)))
      (pss_one (ps_ret (pe_call GF (hr.mono (by decide)) rfl cF.mg cF.kp cF.b .nil pass0 (pa_cons (pv 0) (pa_cons (pv 1) (pa_cons (pv 2) pa_nil))))))), ?_⟩
    refine ⟨_, rfl, vb, tb, rfl, pb, fun wb => ?_, k1⟩
    refine ⟨_, rfl, vr, tr, rfl, pr, fun wr => ?_, k2 wb⟩
    obtain ⟨n, rfl, n2, n5⟩ := within_int wb
    obtain ⟨R, rfl, r1, r2⟩ := within_int wr
    obtain ⟨b, rfl⟩ : ∃ b : Nat, n = (b : Int) := ⟨n.toNat, by omega⟩
    obtain ⟨res, pl, k⟩ := k3 b R rfl rfl (by omega) (by omega) r1 r2
    exact ⟨_, rfl, _, rfl, _, rfl, b, R, v, res, rfl, by omega, by omega, pl, k⟩
theorem scIsStrG : FnScope ["base", "roots", "value"] ["base", "roots", "value"] (defScope sIsStream) := ⟨rfl, rfl, rfl, by decide +kernel, rfl, by decide +kernel, by decide +kernel⟩
theorem ok_isstrG {f fB fR fF CN : Addr} {fd fdB fdR fdF : FuncData} (F : Fun K "is_stream" "is_stream" sIsStream f fd) (GB : FnOk P w K mg base (L2.CX P w) 4 fB fdB ["base"] (spReqB CN 2 5)) (cB : Cal K mg "require_base" fB fdB ["base"])
    (GR : FnOk P w K mg base (L2.CX P w) 4 fR fdR ["roots"] (spReqB CN 1 5000)) (cR : Cal K mg "require_roots" fR fdR ["roots"]) (GF : FnOk P w K mg base CX0 3 fF fdF ["base", "roots", "value"] spStreamFormG) (cF : Cal K mg "has_stream_form" fF fdF ["base", "roots", "value"]) :
    FnOk P w K mg base (L2.CX P w) 5 f fd ["base", "roots", "value"] (spIsStrG CN) := by
  refine F.okX scIsStrG (fun vs H Q E h => ?_) (fun cdv A outer s H vs Q E hr h => ?_)
  · obtain ⟨vb, vr, v, tb, tr, rfl, _⟩ := h
    rfl
  · obtain ⟨vb, vr, v, tb, tr, rfl, pb, pr, k1, k2, k3⟩ := h
    refine ⟨_, pss_cons (ps_expr (pe_call GB hr rfl cB.mg cB.kp cB.b .nil (passes_call (takes_of rfl rfl rfl rfl) (fun _ _ _ _ h => h)) (pa_cons (pv 0) pa_nil)))
      (pss_cons (ps_expr (pe_call GR hr rfl cR.mg cR.kp cR.b .nil (passes_call (takes_of rfl rfl rfl rfl) (fun _ _ _ _ h => h)) (pa_cons (pv 1) pa_nil)))
      (pss_one (ps_ret (pe_call GF (hr.mono (by decide)) rfl cF.mg cF.kp cF.b .nil pass0 (pa_cons (pv 0) (pa_cons (pv 1) (pa_cons (pv 2) pa_nil))))))), ?_⟩
    refine ⟨_, rfl, vb, tb, rfl, pb, fun wb => ?_, k1⟩
    refine ⟨_, rfl, vr, tr, rfl, pr, fun wr => ?_, k2 wb⟩
    obtain ⟨n, rfl, n2, n5⟩ := within_int wb
    obtain ⟨R, rfl, r1, r2⟩ := within_int wr
    obtain ⟨b, rfl⟩ : ∃ b : Nat, n = (b : Int) := ⟨n.toNat, by omega⟩
    obtain ⟨res, pl, k⟩ := k3 b R rfl rfl (by omega) (by omega) r1 r2
    exact ⟨_, rfl, _, rfl, _, rfl, b, R, v, res, rfl, by omega, by omega, pl, k⟩
end
end Vf


set_option Elab.async false
set_option maxRecDepth 100000
set_option maxHeartbeats 8000000
set_option exponentiation.threshold 3000
namespace VG
open PySem PySem.Spec PyProof.Rows L2
section
variable {X : Cx}
/-- l == [], whatever is in l -/
def rEqL0 (K : PySem.W.Frag) : R2 := fun x y H Q => ∃ (a b : Addr) (xs : List V), x = .ref a ∧ y = .ref b ∧ SqL K H a xs ∧ SqL K H b [] ∧ Q (.bl (decide (xs = []))) H
theorem op_eqL0 (hu : X.A.units < cLine) : OpR X (compareOp .Eq) (rEqL0 X.K) := by
  intro pins s σ H x y v u Q I rx ry h
  obtain ⟨a, b, xs, rfl, rfl, ha, hb, q⟩ := h
  cases rx
  cases ry
  obtain ⟨its, r1, p1, _⟩ := I.list ha
  obtain ⟨its2, r2, p2, _⟩ := I.list hb
  cases r2
  cases xs with
  | nil =>
    cases r1
    exact PySem.SeqAt.eq_listAt (e := fun _ => true) p1.isList p2.isList rfl hu (fun j _ j2 => absurd j2 (Nat.not_lt_zero _)) ⟨.bl _, H, I, rfl, q⟩
  | cons x xs =>
    cases r1 with
    | cons r r' => exact PySem.SeqAt.eq_list_lengthsAt p1.isList p2.isList (by simp) hu ⟨.bl _, H, I, rfl, q⟩
end
end VG
namespace Vf
open PySem L2 SX Vm
open PySem.Builtin.Str PySem.StrLaws
theorem isW_small' {b : Int} (b5 : b ≤ 5) {l : List Nat} (w : IsW b l) : ∀ c ∈ l, c < 100 := fun c hc => by
  have := (w c hc).2
  omega
theorem lay_S' {l : List Nat} (w : ∀ c ∈ l, c < 100) : PyData.canLay0 (.str (S l)) = true := by
  show (S l).cps.all _ = true
  rw [Array.all_eq_true']
  intro c hc
  exact decide_eq_true (Nat.lt_trans (w c (by simpa using hc)) (by decide))
theorem shaped3' {r : Int} {h q : List Nat} (wh : ∀ c ∈ h, c < 100) (wq : ∀ c ∈ q, c < 100) : SeqAt.shaped (.tuple [.int r, .str (S h), .str (S q)]) = true := by
  unfold SeqAt.shaped
  have e : PyData.canLay0 (.tuple [.int r, .str (S h), .str (S q)]) = true := by
    show (PyData.canLay0 (.int r) && (PyData.canLay0 (.str (S h)) && (PyData.canLay0 (.str (S q)) && true))) = true
    rw [lay_S' wh, lay_S' wq]
    rfl
  rw [e]
  rfl
theorem eqv3' {r : Int} {h q h' q' : List Nat} : PyData.eqv (.tuple [.int r, .str (S h), .str (S q)]) (.tuple [.int r, .str (S h'), .str (S q')]) = decide (h = h' ∧ q = q') := by
  show ((r == r) && ((S h == S h') && ((S q == S q') && true))) = _
  by_cases c1 : h = h'
  · subst c1
    by_cases c2 : q = q'
    · subst c2
      simp
    · have : (S q == S q') = false := by
        refine Bool.eq_false_iff.mpr fun z => c2 (S_inj (eq_of_beq z))
      rw [this]
      simp [c2]
  · have : (S h == S h') = false := by
      refine Bool.eq_false_iff.mpr fun z => c1 (S_inj (eq_of_beq z))
    rw [this]
    simp [c1]
theorem ends_last {x y : List Nat} (_y0 : 0 < y.length) (h : Txt.endswith (S x) ⟨#[y.getD (y.length - 1) 0]⟩ = false) : 0 < x.length → x.getD (x.length - 1) 0 ≠ y.getD (y.length - 1) 0 := fun h0 z => by
  unfold Txt.endswith at h
  have key := (subAt_one (S x) (y.getD (y.length - 1) 0) (x.length - 1)).mpr (by
    show x[x.length - 1]? = some _
    rw [← z, List.getD_eq_getElem?_getD, List.getElem?_eq_getElem (by omega)]
    rfl)
  have e2 : subAt (S x) ⟨#[y.getD (y.length - 1) 0]⟩ ((S x).length - 1) = true := by rw [S_len]; exact key.2
  have e1 : decide (0 + (⟨#[y.getD (y.length - 1) 0]⟩ : Str).length ≤ (S x).length) = true := decide_eq_true (by rw [S_len]; show 0 + 1 ≤ x.length; omega)
  have e3 : (⟨#[y.getD (y.length - 1) 0]⟩ : Str).length = 1 := rfl
  rw [e1, e3, e2] at h
  cases h
/-- the normal form that the law finds is the value itself exactly if the program says so -/
theorem sf_iff {h q h' q' : List Nat} (n : Nf (ev h q) h' q') (q0 : 0 < q.length) : decide (h' = h ∧ q' = q) = sfB h q := by
  cases e : sfB h q with
  | true =>
    unfold sfB at e
    rw [Bool.and_eq_true, decide_eq_true_eq] at e
    have nf : Nf (ev h q) h q := last_nf (fun _ => rfl) q0 (fun s m a b => e.1.prim q0 s m a b) (ends_last q0 (by simpa using e.2))
    obtain ⟨e1, e2⟩ := n.unique nf
    exact decide_eq_true ⟨e1, e2⟩
  | false =>
    refine decide_eq_false fun z => ?_
    obtain ⟨rfl, rfl⟩ := z
    rw [sfB_nf n] at e
    cases e
def badC (b : Nat) (c : Nat) : Bool := !(decide (48 ≤ c) && decide (c < 48 + b))
theorem bad_nil {b : Nat} {l : List Nat} : decide ((l.filter (badC b)) = []) = l.all fun c => decide (48 ≤ c) && decide (c < 48 + b) := by
  rw [Bool.eq_iff_iff, decide_eq_true_eq, List.filter_eq_nil_iff, List.all_eq_true]
  constructor
  · intro h c hc
    have := h c hc
    unfold badC at this
    simpa using this
  · intro h c hc
    have := h c hc
    unfold badC
    simpa using this
theorem notin_digs {b c : Nat} (b5 : b ≤ 5) : (!(!(occurrences (S (digs b)) ⟨#[c]⟩ 0 (S (digs b)).length 1).isEmpty)) = badC b c := by
  have e := in_one (digs b) c
  have e' : (!(occurrences (S (digs b)) ⟨#[c]⟩ 0 (S (digs b)).length 1).isEmpty) = decide (c ∈ digs b) := e
  rw [e']
  unfold badC
  congr 1
  rw [Bool.eq_iff_iff, decide_eq_true_eq, digs_mem b5]
  simp
def spIsCount : Sp := fun vs H Q _ => ∃ (lo hi : Int) (v : V) (t : Value), vs = [v, .int lo, .int hi] ∧ Pl H v t ∧ Q (.bl (withinV lo hi v)) H
def spIsDig : Sp := fun vs H Q _ => ∃ (b : Nat) (v : V) (t : Value), vs = [.int (b : Int), v] ∧ 2 ≤ b ∧ b ≤ 5 ∧ Pl H v t ∧ ∀ H', Same H H' → Q (.bl (wordV b v)) H'
section
variable {P : Program} {w : World} {K : PySem.W.Frag} {mg : Str → Option Value} {base : Heap}
theorem scIsCount : FnScope ["value", "low", "high"] ["value", "low", "high"] (defScope sIsCount) := ⟨rfl, rfl, rfl, by decide +kernel, rfl, by decide +kernel, by decide +kernel⟩
theorem ok_iscount {f : Addr} {fd : FuncData} (F : Fun K "_law_is_count" "_law_is_count" sIsCount f fd) (mi : mg "isinstance" = none) (m1 : mg "int" = none) (m2 : mg "bool" = none) : FnOk P w K mg base CX0 1 f fd ["value", "low", "high"] spIsCount := by
  refine F.ok scIsCount (fun vs H Q E h => ?_) (fun cdv A outer s H vs Q E hr h => ?_)
  · obtain ⟨lo, hi, v, t, rfl, _⟩ := h
    rfl
  · obtain ⟨lo, hi, v, t, rfl, pl, k⟩ := h
    refine ⟨_, pss_one (ps_ret (pe_and (pe_callB call_isi (by rfl) mi PyProof.Rows.boot_isinstance (pa_cons (pv 0) (pa_cons (pe_bltn (v := .ty "int") (by rfl) m1 PyProof.Rows.boot_int rfl) pa_nil)))
      (pe_and (pe_not (pe_callB call_isi (by rfl) mi PyProof.Rows.boot_isinstance (pa_cons (pv 0) (pa_cons (pe_bltn (v := .ty "bool") (by rfl) m2 PyProof.Rows.boot_bool rfl) pa_nil))))
      (pe_and (pe_cmpR op_le (pv 1) (pv 0) (nomark _)) (pe_one (pe_cmpR op_le (pv 0) (pv 2) (nomark _))))))), ?_⟩
    obtain ⟨b1, b2, e1, e2, e3⟩ := kit_int (K := K) pl
    refine ⟨_, rfl, _, _, _, _, b1, rfl, .ty "int", pl.tyx, e1, _, rfl, ?_⟩
    cases b1 with
    | false =>
      refine iteF ?_
      have : withinV lo hi v = false := by
        cases v with
        | int n => cases e3
        | _ => rfl
      rw [this] at k
      exact k
    | true =>
      refine iteT ?_
      refine ⟨_, rfl, _, _, _, _, b2, rfl, .ty "bool", pl.tyx, e2, _, rfl, _, rfl, ?_⟩
      cases b2 with
      | true =>
        refine iteF ?_
        have : withinV lo hi v = false := by
          cases v with
          | int n => cases e3
          | _ => rfl
        rw [this] at k
        exact k
      | false =>
        refine iteT ?_
        cases v with
        | int n =>
          refine ⟨_, rfl, _, rfl, _, _, rfl, rfl, _, rfl, ?_⟩
          by_cases h1 : lo ≤ n
          · refine iteTB (decide_eq_true h1) ?_
            refine ⟨_, rfl, _, rfl, _, _, rfl, rfl, ?_⟩
            have e : withinV lo hi (.int n) = decide (n ≤ hi) := by
              show (decide (lo ≤ n) && decide (n ≤ hi)) = _
              rw [decide_eq_true h1, Bool.true_and]
            rw [e] at k
            exact k
          · refine iteFB (decide_eq_false h1) ?_
            have e : withinV lo hi (.int n) = false := by
              show (decide (lo ≤ n) && decide (n ≤ hi)) = _
              rw [decide_eq_false h1, Bool.false_and]
            rw [e] at k
            exact k
        | _ => cases e3
theorem scIsDig : FnScope ["base", "value", "one"] ["base", "value"] (defScope sIsDig) := ⟨rfl, rfl, rfl, by decide +kernel, rfl, by decide +kernel, by decide +kernel⟩
theorem ok_isdig {f : Addr} {fd : FuncData} (F : Fun K "_law_is_digits" "_law_is_digits" sIsDig f fd) (mi : mg "isinstance" = none) (m1 : mg "str" = none) : FnOk P w K mg base CX0 1 f fd ["base", "value"] spIsDig := by
  refine F.ok scIsDig (fun vs H Q E h => ?_) (fun cdv A outer s H vs Q E hr h => ?_)
  · obtain ⟨b, v, t, rfl, _⟩ := h
    rfl
  · obtain ⟨b, v, t, rfl, b2, b5, pl, k⟩ := h
    have nd := scIsDig.nd
    have hun := Nat.lt_of_le_of_lt (Nat.le_add_right _ 64) hr.units
    refine ⟨_, pss_one (ps_ret (pe_and (pe_callB call_isi (by rfl) mi PyProof.Rows.boot_isinstance (pa_cons (pv 1) (pa_cons (pe_bltn (v := .ty "str") (by rfl) m1 PyProof.Rows.boot_str rfl) pa_nil)))
      (pe_one (pe_cmpR (VG.op_eqL0 hun) (pe_lc (own := [("one", 2)]) (g := gName 2) rfl nd (pi_str (pv 1))
          (blkOk_by (N := ["base", "value", "one"]) (sc := defScope sIsDig) (by decide +kernel)) (fun _ _ _ _ _ => pg_name (i := 2) nd rfl (Or.inl rfl))
          (fun _ _ _ _ _ => pts_one (pt_cmpR op_notIn_str (pv 2) (pe_slice sl_str pe_str po_none (po_some (pv 0))) (by rfl))) (fun _ _ _ _ _ => pv 2)) (pe_lst pa_nil) (nomark _))))), ?_⟩
    have ed : cutS ("01234" : Str) none (some (b : Int)) = S (digs b) := by
      rw [s01234, cut_take (by simpa using b5)]
      rfl
    rcases kit_str (K := K) pl with ⟨z, rfl, hs, e⟩ | ⟨e, hw⟩
    · refine ⟨_, rfl, _, _, _, _, true, rfl, .ty "str", pl.tyx, e, _, rfl, ?_⟩
      refine iteT ?_
      refine ⟨_, rfl, _, rfl, fun D hD => ?_⟩
      refine lc_it (walk_str (z := z)) (fun i H2 => H2 = upd H D (.lst (((z.cps.toList.take i).filter (badC b)).map fun c => V.str ⟨#[c]⟩))) rfl (fun _ _ _ _ => True.intro) ?_ ?_
      · rintro i x H2 H' hi rfl ⟨rfl, c, hc, rfl⟩
        have ht : z.cps.toList.take (i + 1) = z.cps.toList.take i ++ [c] := by
          rw [List.take_add_one]
          have : z.cps.toList[i]? = some c := by simpa using hc
          rw [this]
          rfl
        refine ⟨rfl, _, rfl, _, rfl, _, rfl, _, rfl, len5, _, _, rfl, rfl, _, rfl, ?_⟩
        rw [ed, notin_digs b5, ht, List.filter_append]
        cases hb : badC b c with
        | true =>
          refine iteT ?_
          refine ⟨_, rfl, _, upd_same, ?_, ?_⟩
          · rw [List.length_map]
            exact Nat.lt_of_le_of_lt (Nat.le_trans (List.length_filter_le _ _) (Nat.le_trans (List.length_take_le' _ _) (show z.cps.toList.length ≤ 9000 by rw [Array.length_toList]; exact hs))) (by decide)
          · rw [upd_upd', List.filter_cons_of_pos hb, List.map_append]
            rfl
        | false =>
          refine iteF ?_
          rw [List.filter_cons_of_neg (by rw [hb]; exact Bool.false_ne_true), List.filter_nil, List.append_nil]
      · rintro H2 rfl
        have hfull : z.cps.toList.take z.cps.size = z.cps.toList := List.take_of_length_le (by rw [Array.length_toList]; exact Nat.le_refl _)
        rw [hfull]
        refine ⟨(by show 0 ≤ sizeLine; exact Nat.zero_le _), fun p hp => ?_⟩
        have ne : D ≠ p := fun zz => by rw [← zz, upd_same] at hp; cases hp
        refine ⟨D, p, _, rfl, rfl, SqL.of (by rw [upd_ne ne]; exact upd_same), SqL.of upd_same, ?_⟩
        have eb : decide ((((z.cps.toList).filter (badC b)).map fun c => V.str ⟨#[c]⟩) = []) = wordV b (.str z) := by
          show _ = z.cps.toList.all fun c => decide (48 ≤ c) && decide (c < 48 + b)
          rw [← bad_nil (b := b) (l := z.cps.toList)]
          rw [Bool.eq_iff_iff, decide_eq_true_eq, decide_eq_true_eq, List.map_eq_nil_iff]
        rw [eb]
        refine k _ fun q o eq => ?_
        rw [upd_ne (ne_of_none (show upd H D _ q = some o by rw [upd_ne (ne_of_none eq hD)]; exact eq) hp), upd_ne (ne_of_none eq hD)]
        exact eq
    · refine ⟨_, rfl, _, _, _, _, false, rfl, .ty "str", pl.tyx, e, _, rfl, ?_⟩
      have k' := k H (Same.refl H)
      rw [hw] at k'
      exact iteF k'
end
end Vf


set_option Elab.async false
set_option maxRecDepth 100000
set_option maxHeartbeats 8000000
set_option exponentiation.threshold 3000
namespace Vf
open PySem L2 SX Vm
def spIsPlace : Sp := fun vs H Q _ => ∃ (b : Nat) (R : Int) (v : V) (res : Bool), vs = [.int (b : Int), .int R, v] ∧ 2 ≤ b ∧ b ≤ 5 ∧ PG H b R v res ∧ ∀ H', Same H H' → Q (.bl res) H'
def spIsEnd : Sp := fun vs H Q _ => ∃ (b : Nat) (R : Int) (v : V) (res : Bool), vs = [.int (b : Int), .int R, v] ∧ 2 ≤ b ∧ b ≤ 5 ∧ SG H b R v res ∧ ∀ H', Same H H' → Q (.bl res) H'
theorem pl_same {H H' : Hp} {v : V} {t : Value} (p : Pl H v t) (s : Same H H') : Pl H' v t := p.same fun b o e _ => s b o e
section
variable {P : Program} {w : World} {K : PySem.W.Frag} {mg : Str → Option Value} {base : Heap}
theorem scIsPlace : FnScope ["base", "wide", "value"] ["base", "wide", "value"] (defScope sIsPlace) := ⟨rfl, rfl, rfl, by decide +kernel, rfl, by decide +kernel, by decide +kernel⟩
theorem ok_isplace {f fC fD : Addr} {fd fdC fdD : FuncData} (F : Fun K "_law_is_place" "_law_is_place" sIsPlace f fd) (GC : FnOk P w K mg base CX0 1 fC fdC ["value", "low", "high"] spIsCount) (cC : Cal K mg "_law_is_count" fC fdC ["value", "low", "high"])
    (GD : FnOk P w K mg base CX0 1 fD fdD ["base", "value"] spIsDig) (cD : Cal K mg "_law_is_digits" fD fdD ["base", "value"]) (mi : mg "isinstance" = none) (mt : mg "tuple" = none) (ml : mg "len" = none) :
    FnOk P w K mg base CX0 2 f fd ["base", "wide", "value"] spIsPlace := by
  refine F.ok scIsPlace (fun vs H Q E h => ?_) (fun cdv A outer s H vs Q E hr h => ?_)
  · obtain ⟨b, R, v, res, rfl, _⟩ := h
    rfl
  · obtain ⟨b, R, v, res, rfl, b2, b5, pg, k⟩ := h
    have k0 := k H (Same.refl H)
    refine ⟨_, pss_cons (ps_if (PW.pt (pw_or (pt_not (pt_val (pe_callB call_isi (by rfl) mi PyProof.Rows.boot_isinstance (pa_cons (pv 2) (pa_cons (pe_bltn (v := .ty "tuple") (by rfl) mt PyProof.Rows.boot_tuple rfl) pa_nil)))))
        (pw_or1 (pt_cmpR op_ne (pe_callB call_len_seq (by rfl) ml boot_len (pa_cons (pv 2) pa_nil)) pe_int (nomark _)))))
        (pss_one (ps_ret pe_bl)) pss_nil)
      (pss_one (ps_ret (pe_and (pe_call GC hr rfl cC.mg cC.kp cC.b .nil pass0 (pa_cons (pe_ix ix_tup (pv 2) pe_int (fun _ _ => rfl)) (pa_cons pe_int (pa_cons (pe_op op_sub (pv 1) pe_int) pa_nil))))
        (pe_one (pe_call GD hr rfl cD.mg cD.kp cD.b .nil pass0 (pa_cons (pv 0) (pa_cons (pe_ix ix_tup (pv 2) pe_int (fun _ _ => rfl)) pa_nil))))))), ?_⟩
    cases pg with
    | non p n =>
      refine ⟨_, rfl, _, _, _, _, false, rfl, .ty "tuple", p.tyx, kit_tup p n, _, rfl, ?_⟩
      refine iteT ?_
      exact iteT k0
    | @len p xs hp n =>
      refine ⟨_, rfl, _, _, _, _, true, rfl, .ty "tuple", (Pl.tup hp).tyx, kit_ty (by decide +kernel), _, rfl, ?_⟩
      refine iteF ?_
      refine ⟨_, rfl, _, _, rfl, .inr (SqT.of hp), rfl, _, rfl, ?_⟩
      exact iteTB (by rw [decide_eq_false (fun z => n (by have := V.int.inj z; omega))]; rfl) k0
    | @fin p r x tr tx hp pr px =>
      refine ⟨_, rfl, _, _, _, _, true, rfl, .ty "tuple", (Pl.tup hp).tyx, kit_ty (by decide +kernel), _, rfl, ?_⟩
      refine iteF ?_
      refine ⟨_, rfl, p, _, rfl, .inr (SqT.of hp), rfl, _, rfl, ?_⟩
      refine iteFB rfl ?_
      refine ⟨_, rfl, p, [r, x], 0, r, rfl, rfl, SqT.of hp, rfl, _, rfl, _, _, rfl, rfl, 0, R - 1, r, tr, rfl, pr, _, rfl, ?_⟩
      cases hw : withinV 0 (R - 1) r with
      | false =>
        rw [hw] at k0
        exact iteF k0
      | true =>
        refine iteT ?_
        rw [hw] at k
        exact ⟨_, rfl, _, rfl, p, [r, x], 1, x, rfl, rfl, SqT.of hp, rfl, b, x, tx, rfl, b2, b5, px, k⟩
theorem scIsEnd : FnScope ["base", "wide", "value"] ["base", "wide", "value"] (defScope sIsEnd) := ⟨rfl, rfl, rfl, by decide +kernel, rfl, by decide +kernel, by decide +kernel⟩
theorem ok_isend {f fC fD fN : Addr} {fd fdC fdD fdN : FuncData} (F : Fun K "_law_is_endless" "_law_is_endless" sIsEnd f fd) (GC : FnOk P w K mg base CX0 1 fC fdC ["value", "low", "high"] spIsCount) (cC : Cal K mg "_law_is_count" fC fdC ["value", "low", "high"])
    (GD : FnOk P w K mg base CX0 1 fD fdD ["base", "value"] spIsDig) (cD : Cal K mg "_law_is_digits" fD fdD ["base", "value"]) (GN : FnOk P w K mg base CX0 1 fN fdN ["root", "head", "period"] spLNormal) (cN : Cal K mg "_law_normal" fN fdN ["root", "head", "period"])
    (mi : mg "isinstance" = none) (mt : mg "tuple" = none) (ml : mg "len" = none) :
    FnOk P w K mg base CX0 2 f fd ["base", "wide", "value"] spIsEnd := by
  refine F.ok scIsEnd (fun vs H Q E h => ?_) (fun cdv A outer s H vs Q E hr h => ?_)
  · obtain ⟨b, R, v, res, rfl, _⟩ := h
    rfl
  · obtain ⟨b, R, v, res, rfl, b2, b5, sg, k⟩ := h
    have hun : A.units + 3 + 64 < cLine := hr.units
    refine ⟨_, pss_cons (ps_if (PW.pt (pw_or (pt_not (pt_val (pe_callB call_isi (by rfl) mi PyProof.Rows.boot_isinstance (pa_cons (pv 2) (pa_cons (pe_bltn (v := .ty "tuple") (by rfl) mt PyProof.Rows.boot_tuple rfl) pa_nil)))))
        (pw_or (pt_cmpR op_ne (pe_callB call_len_seq (by rfl) ml boot_len (pa_cons (pv 2) pa_nil)) pe_int (nomark _))
        (pw_or1 (pt_not (pt_val (pe_call GC hr rfl cC.mg cC.kp cC.b .nil pass0 (pa_cons (pe_ix ix_tup (pv 2) pe_int (fun _ _ => rfl)) (pa_cons pe_int (pa_cons (pe_op op_sub (pv 1) pe_int) pa_nil))))))))))
        (pss_one (ps_ret pe_bl)) pss_nil)
      (pss_cons (ps_if (PW.pt (pw_or (pt_not (pt_val (pe_call GD hr rfl cD.mg cD.kp cD.b .nil pass0 (pa_cons (pv 0) (pa_cons (pe_ix ix_tup (pv 2) pe_int (fun _ _ => rfl)) pa_nil)))))
        (pw_or (pt_not (pt_val (pe_call GD hr rfl cD.mg cD.kp cD.b .nil pass0 (pa_cons (pv 0) (pa_cons (pe_ix ix_tup (pv 2) pe_int (fun _ _ => rfl)) pa_nil)))))
        (pw_or1 (pt_cmpR op_eq (pe_ix ix_tup (pv 2) pe_int (fun _ _ => rfl)) pe_str (nomark _))))))
        (pss_one (ps_ret pe_bl)) pss_nil)
      (pss_one (ps_ret (pe_cmpR (op_eqD hun) (pe_call GN hr rfl cN.mg cN.kp cN.b .nil pass0 (pa_cons (pe_ix ix_tup (pv 2) pe_int (fun _ _ => rfl)) (pa_cons (pe_ix ix_tup (pv 2) pe_int (fun _ _ => rfl)) (pa_cons (pe_ix ix_tup (pv 2) pe_int (fun _ _ => rfl)) pa_nil)))) (pv 2) (nomark _))))), ?_⟩
    cases sg with
    | non p n =>
      refine ⟨_, rfl, _, _, _, _, false, rfl, .ty "tuple", p.tyx, kit_tup p n, _, rfl, ?_⟩
      refine iteT ?_
      exact iteT (k H (Same.refl H))
    | @len p xs hp n =>
      refine ⟨_, rfl, _, _, _, _, true, rfl, .ty "tuple", (Pl.tup hp).tyx, kit_ty (by decide +kernel), _, rfl, ?_⟩
      refine iteF ?_
      refine ⟨_, rfl, _, _, rfl, .inr (SqT.of hp), rfl, _, rfl, ?_⟩
      have hb : (!decide (V.int ((xs.length : Nat) : Int) = V.int 3)) = true := by
        rw [decide_eq_false (fun z => n (by have := V.int.inj z; omega))]
        rfl
      exact iteTB hb (iteT (k H (Same.refl H)))
    | @root p r x y tr hp pr n =>
      refine ⟨_, rfl, _, _, _, _, true, rfl, .ty "tuple", (Pl.tup hp).tyx, kit_ty (by decide +kernel), _, rfl, ?_⟩
      refine iteF ?_
      refine ⟨_, rfl, p, _, rfl, .inr (SqT.of hp), rfl, _, rfl, ?_⟩
      refine iteFB rfl ?_
      refine ⟨_, rfl, p, [r, x, y], 0, r, rfl, rfl, SqT.of hp, rfl, _, rfl, _, _, rfl, rfl, 0, R - 1, r, tr, rfl, pr, _, rfl, ?_⟩
      rw [n]
      exact iteT (k H (Same.refl H))
    | @head p r x y tr tx hp pr wr px n =>
      refine ⟨_, rfl, _, _, _, _, true, rfl, .ty "tuple", (Pl.tup hp).tyx, kit_ty (by decide +kernel), _, rfl, ?_⟩
      refine iteF ?_
      refine ⟨_, rfl, p, _, rfl, .inr (SqT.of hp), rfl, _, rfl, ?_⟩
      refine iteFB rfl ?_
      refine ⟨_, rfl, p, [r, x, y], 0, r, rfl, rfl, SqT.of hp, rfl, _, rfl, _, _, rfl, rfl, 0, R - 1, r, tr, rfl, pr, _, rfl, ?_⟩
      rw [wr]
      refine iteF ?_
      refine ⟨_, rfl, _, rfl, p, [r, x, y], 1, x, rfl, rfl, SqT.of hp, rfl, b, x, tx, rfl, b2, b5, px, fun H1 s1 => ⟨_, rfl, ?_⟩⟩
      rw [n]
      exact iteT (iteT (k H1 s1))
    | @per p r x y tr tx ty hp pr wr px wx py n =>
      refine ⟨_, rfl, _, _, _, _, true, rfl, .ty "tuple", (Pl.tup hp).tyx, kit_ty (by decide +kernel), _, rfl, ?_⟩
      refine iteF ?_
      refine ⟨_, rfl, p, _, rfl, .inr (SqT.of hp), rfl, _, rfl, ?_⟩
      refine iteFB rfl ?_
      refine ⟨_, rfl, p, [r, x, y], 0, r, rfl, rfl, SqT.of hp, rfl, _, rfl, _, _, rfl, rfl, 0, R - 1, r, tr, rfl, pr, _, rfl, ?_⟩
      rw [wr]
      refine iteF ?_
      refine ⟨_, rfl, _, rfl, p, [r, x, y], 1, x, rfl, rfl, SqT.of hp, rfl, b, x, tx, rfl, b2, b5, px, fun H1 s1 => ⟨_, rfl, ?_⟩⟩
      rw [wx]
      refine iteF ?_
      refine ⟨_, rfl, _, rfl, p, [r, x, y], 2, y, rfl, rfl, SqT.of (s1 _ _ hp), rfl, b, y, ty, rfl, b2, b5, pl_same py s1, fun H2 s2 => ⟨_, rfl, ?_⟩⟩
      have s12 := s1.trans s2
      cases hw : wordV b y with
      | false =>
        refine iteT ?_
        exact iteT (k H2 s12)
      | true =>
        rcases n with n | n
        · rw [n] at hw
          cases hw
        · subst n
          refine iteF ?_
          refine ⟨_, rfl, p, _, 2, _, rfl, rfl, SqT.of (s12 _ _ hp), rfl, rfl, _, rfl, ?_⟩
          exact iteTB (decide_eq_true rfl) (k H2 s12)
    | @fin p r x y tr hp pr wr wx wy y0 lx ly =>
      obtain ⟨n, rfl, _, _⟩ := within_int wr
      refine ⟨_, rfl, _, _, _, _, true, rfl, .ty "tuple", (Pl.tup hp).tyx, kit_ty (by decide +kernel), _, rfl, ?_⟩
      refine iteF ?_
      refine ⟨_, rfl, p, _, rfl, .inr (SqT.of hp), rfl, _, rfl, ?_⟩
      refine iteFB rfl ?_
      refine ⟨_, rfl, p, [.int n, .str (S x), .str (S y)], 0, .int n, rfl, rfl, SqT.of hp, rfl, _, rfl, _, _, rfl, rfl, 0, R - 1, .int n, tr, rfl, pr, _, rfl, ?_⟩
      rw [wr]
      refine iteF ?_
      have ph : Pl H (.str (S x)) (.type "str") := .str _ (by rw [S_len]; omega)
      refine ⟨_, rfl, _, rfl, p, [.int n, .str (S x), .str (S y)], 1, .str (S x), rfl, rfl, SqT.of hp, rfl, b, _, _, rfl, b2, b5, ph, fun H1 s1 => ⟨_, rfl, ?_⟩⟩
      rw [wordV_of wx]
      refine iteF ?_
      have pq : Pl H1 (.str (S y)) (.type "str") := .str _ (by rw [S_len]; omega)
      refine ⟨_, rfl, _, rfl, p, [.int n, .str (S x), .str (S y)], 2, .str (S y), rfl, rfl, SqT.of (s1 _ _ hp), rfl, b, _, _, rfl, b2, b5, pq, fun H2 s2 => ⟨_, rfl, ?_⟩⟩
      rw [wordV_of wy]
      refine iteF ?_
      have s12 := s1.trans s2
      have qne : y ≠ [] := fun z => by rw [z] at y0; exact absurd y0 (Nat.lt_irrefl _)
      refine ⟨_, rfl, p, [.int n, .str (S x), .str (S y)], 2, .str (S y), rfl, rfl, SqT.of (s12 _ _ hp), rfl, rfl, _, rfl, ?_⟩
      refine iteFB (decide_eq_false (fun z => qne (str_ne_empty.mp z))) ?_
      refine ⟨_, rfl, p, [.int n, .str (S x), .str (S y)], 0, .int n, rfl, rfl, SqT.of (s12 _ _ hp), rfl, _, rfl, p, [.int n, .str (S x), .str (S y)], 1, .str (S x), rfl, rfl, SqT.of (s12 _ _ hp), rfl, _, rfl, p, [.int n, .str (S x), .str (S y)], 2, .str (S y), rfl, rfl, SqT.of (s12 _ _ hp), rfl, ?_⟩
      refine ⟨.int n, x, y, rfl, y0, ly, lx, fun h' q' p' H3 nf hl ql sh sq s3 np hp' => ?_⟩
      have s13 := s12.trans s3
      have bI : (b : Int) ≤ 5 := by omega
      refine ⟨_, rfl, .tuple [.int n, .str (S h'), .str (S q')], .tuple [.int n, .str (S x), .str (S y)], .tup (SqT.of hp') (.cons (.int n) (.cons (.str _) (.cons (.str _) .nil))), .tup (SqT.of (s13 _ _ hp)) (.cons (.int n) (.cons (.str _) (.cons (.str _) .nil))), shaped3' (isW_small' bI (wx.of sh)) (isW_small' bI (wy.of sq)), shaped3' (isW_small' bI wx) (isW_small' bI wy), ?_⟩
      rw [eqv3', sf_iff nf y0]
      exact k H3 s13
end
end Vf


set_option Elab.async false
set_option maxRecDepth 100000
set_option maxHeartbeats 16000000
set_option exponentiation.threshold 3000
namespace Vf
open PySem L2 SX Vm VG
/-- the greatest number among the odd values, and some room -/
def N0 : Nat := 10 ^ 41 + 10
theorem fine_d0 {N n m : Nat} : Fine N (n + 1) m (.dict []) := ⟨by unfold okD; exact .inl rfl, Nat.succ_le_succ (Nat.zero_le _), Nat.zero_le _⟩
theorem fine_d1 {N n m : Nat} : Fine N (n + 1) (m + 2) (.dict [(.int 0, .int 0)]) := ⟨by unfold okD; exact .inr rfl, Nat.succ_le_succ (Nat.zero_le _), (by show 2 ≤ m + 2; omega)⟩
theorem ne_die {H : Hp} {a p : Addr} {l : List V} (h : H a = some (.lst l)) (n : H p = none) : p ≠ a := fun z => by rw [z, h] at n; cases n
theorem VdAll.kp {a : Addr} {H H' : Hp} {vs : List V} {ds : List PyData} (r : VdAll a H vs ds) (k : Kp a H H') : VdAll a H' vs ds := VG.VdAll.keep (fun q o n _ e => k q o n e) ds vs r
theorem Vd.kp {a : Addr} {H H' : Hp} {v : V} {d : PyData} (r : Vd a H v d) (k : Kp a H H') : Vd a H' v d := VG.Vd.keep (fun q o n _ e => k q o n e) d v r
theorem VdAll.up {a p : Addr} {H : Hp} {o : HO} {vs : List V} {ds : List PyData} (n : H p = none) (r : VdAll a H vs ds) : VdAll a (upd H p o) vs ds := VdAll.kp r (Kp.new n)
/-- what has grown since H0: all that was is kept, the dice, and the values made -/
structure Gr (a : Addr) (D : List V) (H0 J : Hp) (vs : List V) (ds : List PyData) : Prop where
  kp : Kp a H0 J
  da : J a = some (.lst D)
  r : VdAll a J vs ds
section
variable {a p : Addr} {D : List V} {H0 J J2 : Hp} {vs us : List V} {ds es : List PyData}
theorem Gr.new (g : Gr a D H0 J vs ds) (n : J p = none) {o : HO} : Gr a D H0 (upd J p o) vs ds := ⟨g.kp.trans (Kp.new n), by rw [upd_ne (ne_die g.da n).symm]; exact g.da, VdAll.up n g.r⟩
theorem Gr.add (g : Gr a D H0 J vs ds) {v : V} {d : PyData} (h : Vd a J v d) : Gr a D H0 J (vs ++ [v]) (ds ++ [d]) := ⟨g.kp, g.da, g.r.app (.cons h .nil)⟩
theorem Gr.here (g : Gr a D H0 J vs ds) : Gr a D J J [] [] := ⟨Kp.refl _ _, g.da, .nil⟩
theorem Gr.join (g : Gr a D H0 J vs ds) (f : Gr a D J J2 us es) : Gr a D H0 J2 (vs ++ us) (ds ++ es) := ⟨g.kp.trans f.kp, f.da, (VdAll.kp g.r f.kp).app f.r⟩
end
def oddL : List PyData := [.none, .bool true, .bool false, .int (-1), .int 0, .int 1, .int 2, .int 9, .int (10 ^ (40 : Int).toNat), .int (1 - 10 ^ (41 : Int).toNat), .str "", .str "0", .str "01", .str "a", .tuple [], .tuple [.int 0], .tuple [.int 0, .str ""], .tuple [.int 0, .str "0"], .list [], .list [.int 0], .dict [], .tuple [.tuple [.int 0, .str ""]], .tuple [.int 0, .str "", .str "0"], .tuple [.int 0, .str "0", .str "10"], .tuple [.int 1, .str "", .str ""], .tuple [.bool true, .str ""], .dict [(.int 0, .int 0)], .tuple [.int 0, .int 0], .tuple [.str "", .int 0]]
theorem odd_fine : ∀ d ∈ oddL, Fine N0 2 12 d := by
  unfold oddL
  exact (List.forall_mem_cons.mpr ⟨VG.fine_non, (List.forall_mem_cons.mpr ⟨VG.fine_bl, (List.forall_mem_cons.mpr ⟨VG.fine_bl, (List.forall_mem_cons.mpr ⟨(VG.Fine.up (n := 2) (m := 0) (VG.fine_int (N := N0) (i := ((-1))) (by decide +kernel)) (Nat.le_refl _) (Nat.le_refl 2) (by decide)), (List.forall_mem_cons.mpr ⟨(VG.Fine.up (n := 2) (m := 0) (VG.fine_int (N := N0) (i := (0)) (by decide +kernel)) (Nat.le_refl _) (Nat.le_refl 2) (by decide)), (List.forall_mem_cons.mpr ⟨(VG.Fine.up (n := 2) (m := 0) (VG.fine_int (N := N0) (i := (1)) (by decide +kernel)) (Nat.le_refl _) (Nat.le_refl 2) (by decide)), (List.forall_mem_cons.mpr ⟨(VG.Fine.up (n := 2) (m := 0) (VG.fine_int (N := N0) (i := (2)) (by decide +kernel)) (Nat.le_refl _) (Nat.le_refl 2) (by decide)), (List.forall_mem_cons.mpr ⟨(VG.Fine.up (n := 2) (m := 0) (VG.fine_int (N := N0) (i := (9)) (by decide +kernel)) (Nat.le_refl _) (Nat.le_refl 2) (by decide)), (List.forall_mem_cons.mpr ⟨(VG.Fine.up (n := 2) (m := 0) (VG.fine_int (N := N0) (i := ((10 ^ (40 : Int).toNat))) (by decide +kernel)) (Nat.le_refl _) (Nat.le_refl 2) (by decide)), (List.forall_mem_cons.mpr ⟨(VG.Fine.up (n := 2) (m := 0) (VG.fine_int (N := N0) (i := ((1 - 10 ^ (41 : Int).toNat))) (by decide +kernel)) (Nat.le_refl _) (Nat.le_refl 2) (by decide)), (List.forall_mem_cons.mpr ⟨(VG.Fine.up (n := 2) (m := 0) (VG.fine_str (N := N0) (x := "") (by decide +kernel) (by decide +kernel)) (Nat.le_refl _) (Nat.le_refl 2) (by decide)), (List.forall_mem_cons.mpr ⟨(VG.Fine.up (n := 2) (m := 1) (VG.fine_str (N := N0) (x := "0") (by decide +kernel) (by decide +kernel)) (Nat.le_refl _) (Nat.le_refl 2) (by decide)), (List.forall_mem_cons.mpr ⟨(VG.Fine.up (n := 2) (m := 2) (VG.fine_str (N := N0) (x := "01") (by decide +kernel) (by decide +kernel)) (Nat.le_refl _) (Nat.le_refl 2) (by decide)), (List.forall_mem_cons.mpr ⟨(VG.Fine.up (n := 2) (m := 1) (VG.fine_str (N := N0) (x := "a") (by decide +kernel) (by decide +kernel)) (Nat.le_refl _) (Nat.le_refl 2) (by decide)), (List.forall_mem_cons.mpr ⟨(VG.Fine.up (((VG.fine_tup (N := N0) (n := 1) (m := 0)).mpr (VG.fineL_nil (N := N0) (n := 1) (m := 0)))) (Nat.le_refl _) (Nat.le_refl 2) (by decide)), (List.forall_mem_cons.mpr ⟨(VG.Fine.up (((VG.fine_tup (N := N0) (n := 1) (m := 1)).mpr (VG.fineL_cons (N := N0) (n := 1) (m := 0) (k := 0) (VG.fine_int (N := N0) (i := (0)) (by decide +kernel)) (VG.fineL_nil (N := N0) (n := 1) (m := 0))))) (Nat.le_refl _) (Nat.le_refl 2) (by decide)), (List.forall_mem_cons.mpr ⟨(VG.Fine.up (((VG.fine_tup (N := N0) (n := 1) (m := 2)).mpr (VG.fineL_cons (N := N0) (n := 1) (m := 0) (k := 1) (VG.fine_int (N := N0) (i := (0)) (by decide +kernel)) (VG.fineL_cons (N := N0) (n := 1) (m := 0) (k := 0) (VG.fine_str (N := N0) (x := "") (by decide +kernel) (by decide +kernel)) (VG.fineL_nil (N := N0) (n := 1) (m := 0)))))) (Nat.le_refl _) (Nat.le_refl 2) (by decide)), (List.forall_mem_cons.mpr ⟨(VG.Fine.up (((VG.fine_tup (N := N0) (n := 1) (m := 3)).mpr (VG.fineL_cons (N := N0) (n := 1) (m := 0) (k := 2) (VG.fine_int (N := N0) (i := (0)) (by decide +kernel)) (VG.fineL_cons (N := N0) (n := 1) (m := 1) (k := 0) (VG.fine_str (N := N0) (x := "0") (by decide +kernel) (by decide +kernel)) (VG.fineL_nil (N := N0) (n := 1) (m := 0)))))) (Nat.le_refl _) (Nat.le_refl 2) (by decide)), (List.forall_mem_cons.mpr ⟨(VG.Fine.up (((VG.fine_lst (N := N0) (n := 1) (m := 0)).mpr (VG.fineL_nil (N := N0) (n := 1) (m := 0)))) (Nat.le_refl _) (Nat.le_refl 2) (by decide)), (List.forall_mem_cons.mpr ⟨(VG.Fine.up (((VG.fine_lst (N := N0) (n := 1) (m := 1)).mpr (VG.fineL_cons (N := N0) (n := 1) (m := 0) (k := 0) (VG.fine_int (N := N0) (i := (0)) (by decide +kernel)) (VG.fineL_nil (N := N0) (n := 1) (m := 0))))) (Nat.le_refl _) (Nat.le_refl 2) (by decide)), (List.forall_mem_cons.mpr ⟨fine_d0, (List.forall_mem_cons.mpr ⟨(VG.Fine.up (((VG.fine_tup (N := N0) (n := 1) (m := 3)).mpr (VG.fineL_cons (N := N0) (n := 1) (m := 2) (k := 0) ((VG.fine_tup (N := N0) (n := 0) (m := 2)).mpr (VG.fineL_cons (N := N0) (n := 0) (m := 0) (k := 1) (VG.fine_int (N := N0) (i := (0)) (by decide +kernel)) (VG.fineL_cons (N := N0) (n := 0) (m := 0) (k := 0) (VG.fine_str (N := N0) (x := "") (by decide +kernel) (by decide +kernel)) (VG.fineL_nil (N := N0) (n := 0) (m := 0))))) (VG.fineL_nil (N := N0) (n := 1) (m := 0))))) (Nat.le_refl _) (Nat.le_refl 2) (by decide)), (List.forall_mem_cons.mpr ⟨(VG.Fine.up (((VG.fine_tup (N := N0) (n := 1) (m := 4)).mpr (VG.fineL_cons (N := N0) (n := 1) (m := 0) (k := 3) (VG.fine_int (N := N0) (i := (0)) (by decide +kernel)) (VG.fineL_cons (N := N0) (n := 1) (m := 0) (k := 2) (VG.fine_str (N := N0) (x := "") (by decide +kernel) (by decide +kernel)) (VG.fineL_cons (N := N0) (n := 1) (m := 1) (k := 0) (VG.fine_str (N := N0) (x := "0") (by decide +kernel) (by decide +kernel)) (VG.fineL_nil (N := N0) (n := 1) (m := 0))))))) (Nat.le_refl _) (Nat.le_refl 2) (by decide)), (List.forall_mem_cons.mpr ⟨(VG.Fine.up (((VG.fine_tup (N := N0) (n := 1) (m := 6)).mpr (VG.fineL_cons (N := N0) (n := 1) (m := 0) (k := 5) (VG.fine_int (N := N0) (i := (0)) (by decide +kernel)) (VG.fineL_cons (N := N0) (n := 1) (m := 1) (k := 3) (VG.fine_str (N := N0) (x := "0") (by decide +kernel) (by decide +kernel)) (VG.fineL_cons (N := N0) (n := 1) (m := 2) (k := 0) (VG.fine_str (N := N0) (x := "10") (by decide +kernel) (by decide +kernel)) (VG.fineL_nil (N := N0) (n := 1) (m := 0))))))) (Nat.le_refl _) (Nat.le_refl 2) (by decide)), (List.forall_mem_cons.mpr ⟨(VG.Fine.up (((VG.fine_tup (N := N0) (n := 1) (m := 3)).mpr (VG.fineL_cons (N := N0) (n := 1) (m := 0) (k := 2) (VG.fine_int (N := N0) (i := (1)) (by decide +kernel)) (VG.fineL_cons (N := N0) (n := 1) (m := 0) (k := 1) (VG.fine_str (N := N0) (x := "") (by decide +kernel) (by decide +kernel)) (VG.fineL_cons (N := N0) (n := 1) (m := 0) (k := 0) (VG.fine_str (N := N0) (x := "") (by decide +kernel) (by decide +kernel)) (VG.fineL_nil (N := N0) (n := 1) (m := 0))))))) (Nat.le_refl _) (Nat.le_refl 2) (by decide)), (List.forall_mem_cons.mpr ⟨(VG.Fine.up (((VG.fine_tup (N := N0) (n := 1) (m := 2)).mpr (VG.fineL_cons (N := N0) (n := 1) (m := 0) (k := 1) VG.fine_bl (VG.fineL_cons (N := N0) (n := 1) (m := 0) (k := 0) (VG.fine_str (N := N0) (x := "") (by decide +kernel) (by decide +kernel)) (VG.fineL_nil (N := N0) (n := 1) (m := 0)))))) (Nat.le_refl _) (Nat.le_refl 2) (by decide)), (List.forall_mem_cons.mpr ⟨fine_d1, (List.forall_mem_cons.mpr ⟨(VG.Fine.up (((VG.fine_tup (N := N0) (n := 1) (m := 2)).mpr (VG.fineL_cons (N := N0) (n := 1) (m := 0) (k := 1) (VG.fine_int (N := N0) (i := (0)) (by decide +kernel)) (VG.fineL_cons (N := N0) (n := 1) (m := 0) (k := 0) (VG.fine_int (N := N0) (i := (0)) (by decide +kernel)) (VG.fineL_nil (N := N0) (n := 1) (m := 0)))))) (Nat.le_refl _) (Nat.le_refl 2) (by decide)), (List.forall_mem_cons.mpr ⟨(VG.Fine.up (((VG.fine_tup (N := N0) (n := 1) (m := 2)).mpr (VG.fineL_cons (N := N0) (n := 1) (m := 0) (k := 1) (VG.fine_str (N := N0) (x := "") (by decide +kernel) (by decide +kernel)) (VG.fineL_cons (N := N0) (n := 1) (m := 0) (k := 0) (VG.fine_int (N := N0) (i := (0)) (by decide +kernel)) (VG.fineL_nil (N := N0) (n := 1) (m := 0)))))) (Nat.le_refl _) (Nat.le_refl 2) (by decide)), (by intro _ z; cases z)⟩)⟩)⟩)⟩)⟩)⟩)⟩)⟩)⟩)⟩)⟩)⟩)⟩)⟩)⟩)⟩)⟩)⟩)⟩)⟩)⟩)⟩)⟩)⟩)⟩)⟩)⟩)⟩)⟩)
def spOdd : Sp := fun vs H Q _ => ∃ (a : Addr) (d : Int × Int × Int), vs = [.ref a] ∧ H a = some (.lst (dieL d)) ∧ DieOk d ∧ d.2.2 ≤ 990000000 ∧
  ∀ (v : V) (pd : PyData) (d' : Int × Int × Int) (H' : Hp), Vd a H' v pd → Fine N0 2 12 pd → DieOk d' → d'.2.2 ≤ d.2.2 + 1 → Kp a H H' → H' a = some (.lst (dieL d')) → Q v H'
section
variable {P : Program} {w : World} {K : PySem.W.Frag} {mg : Str → Option Value} {base : Heap}
theorem scOdd : FnScope ["die", "some"] ["die"] (defScope sOdd) := ⟨rfl, rfl, rfl, by decide +kernel, rfl, by decide +kernel, by decide +kernel⟩
theorem ok_odd {f fP : Addr} {fd fdP : FuncData} (F : Fun K "_law_odd" "_law_odd" sOdd f fd) (GP : FnOk P w K mg base CX0 1 fP fdP ["die", "many"] spPull) (cP : Cal K mg "_law_pull" fP fdP ["die", "many"]) : FnOk P w K mg base CX0 2 f fd ["die"] spOdd := by
  refine F.ok scOdd (fun vs H Q E h => ?_) (fun cdv A outer s H vs Q E hr h => ?_)
  · obtain ⟨a, d, rfl, _⟩ := h
    rfl
  · obtain ⟨a, d, rfl, ha, hd, hc, k⟩ := h
    have nd := scOdd.nd
    refine ⟨_, pss_cons (ps_set (i := 1) nd rfl (.inl rfl) (pe_lst (pa_cons pe_non (pa_cons pe_bl (pa_cons pe_bl (pa_cons (pe_un un_neg pe_int) (pa_cons pe_int (pa_cons pe_int (pa_cons pe_int (pa_cons pe_int (pa_cons (pe_op op_pow pe_int pe_int) (pa_cons (pe_op op_sub pe_int (pe_op op_pow pe_int pe_int)) (pa_cons pe_str (pa_cons pe_str (pa_cons pe_str (pa_cons pe_str (pa_cons (pe_tup pa_nil) (pa_cons (pe_tup (pa_cons pe_int pa_nil)) (pa_cons (pe_tup (pa_cons pe_int (pa_cons pe_str pa_nil))) (pa_cons (pe_tup (pa_cons pe_int (pa_cons pe_str pa_nil))) pa_nil))))))))))))))))))))
      (pss_cons (ps_set (i := 1) nd rfl (.inl rfl) (pe_op op_cat (pv 1) (pe_lst (pa_cons (VG.pe_lstB pa_nil) (pa_cons (VG.pe_lstB (pa_cons pe_int pa_nil)) (pa_cons pe_dnewK (pa_cons (pe_tup (pa_cons (pe_tup (pa_cons pe_int (pa_cons pe_str pa_nil))) pa_nil)) (pa_cons (pe_tup (pa_cons pe_int (pa_cons pe_str (pa_cons pe_str pa_nil)))) (pa_cons (pe_tup (pa_cons pe_int (pa_cons pe_str (pa_cons pe_str pa_nil)))) (pa_cons (pe_tup (pa_cons pe_int (pa_cons pe_str (pa_cons pe_str pa_nil)))) (pa_cons (pe_tup (pa_cons pe_bl (pa_cons pe_str pa_nil))) (pa_cons (pe_disp (pps_cons pe_int pe_int pps_nil) rfl rfl (by decide) (by decide)) pa_nil))))))))))))
      (pss_cons (ps_set (i := 1) nd rfl (.inl rfl) (pe_op op_cat (pv 1) (pe_lst (pa_cons (pe_tup (pa_cons pe_int (pa_cons pe_int pa_nil))) (pa_cons (pe_tup (pa_cons pe_str (pa_cons pe_int pa_nil))) pa_nil)))))
      (pss_one (ps_ret (pe_ix ix_list (pv 1) (pe_call GP hr rfl cP.mg cP.kp cP.b .nil pass0 (pa_cons (pv 0) (pa_cons pe_int pa_nil))) (fun _ _ => rfl)))))), ?_⟩
    have g0 : Gr a (dieL d) H H [] [] := ⟨Kp.refl _ _, ha, .nil⟩
    have g1 := g0.add .non
    have g2 := g1.add (.bl true)
    have g3 := g2.add (.bl false)
    have g4 := g3.add (.int ((-1)))
    have g5 := g4.add (.int (0))
    have g6 := g5.add (.int (1))
    have g7 := g6.add (.int (2))
    have g8 := g7.add (.int (9))
    have g9 := g8.add (.int ((10 ^ (40 : Int).toNat)))
    have g10 := g9.add (.int ((1 - 10 ^ (41 : Int).toNat)))
    have g11 := g10.add (.str "")
    have g12 := g11.add (.str "0")
    have g13 := g12.add (.str "01")
    have g14 := g13.add (.str "a")
    refine ⟨_, rfl, _, _, rfl, rfl, ⟨by decide, by decide, by decide +kernel⟩, _, _, rfl, rfl, ⟨by decide, by decide, by decide +kernel⟩, _, _, rfl, rfl, (by show 0 ≤ sizeLine; decide), fun p15 n15 => ?_⟩
    have ne15 : p15 ≠ a := ne_die g14.da n15
    have v15 : Vd a (upd H p15 (.tup [])) (.ref p15) (.tuple []) := .tup ne15 upd_same (VdAll.up n15 .nil)
    have g15 := g14.new n15 (o := (.tup []))
    generalize upd H p15 (.tup []) = J15 at v15 g15 ⊢
    have g16 := g15.add v15
    refine ⟨(by show 1 ≤ sizeLine; decide), fun p17 n17 => ?_⟩
    have ne17 : p17 ≠ a := ne_die g16.da n17
    have v17 : Vd a (upd J15 p17 (.tup [V.int 0])) (.ref p17) (.tuple [.int 0]) := .tup ne17 upd_same (VdAll.up n17 (.cons (.int (0)) .nil))
    have g17 := g16.new n17 (o := (.tup [V.int 0]))
    generalize upd J15 p17 (.tup [V.int 0]) = J17 at v17 g17 ⊢
    have g18 := g17.add v17
    refine ⟨(by show 2 ≤ sizeLine; decide), fun p19 n19 => ?_⟩
    have ne19 : p19 ≠ a := ne_die g18.da n19
    have v19 : Vd a (upd J17 p19 (.tup [V.int 0, V.str ""])) (.ref p19) (.tuple [.int 0, .str ""]) := .tup ne19 upd_same (VdAll.up n19 (.cons (.int (0)) (.cons (.str "") .nil)))
    have g19 := g18.new n19 (o := (.tup [V.int 0, V.str ""]))
    generalize upd J17 p19 (.tup [V.int 0, V.str ""]) = J19 at v19 g19 ⊢
    have g20 := g19.add v19
    refine ⟨(by show 2 ≤ sizeLine; decide), fun p21 n21 => ?_⟩
    have ne21 : p21 ≠ a := ne_die g20.da n21
    have v21 : Vd a (upd J19 p21 (.tup [V.int 0, V.str "0"])) (.ref p21) (.tuple [.int 0, .str "0"]) := .tup ne21 upd_same (VdAll.up n21 (.cons (.int (0)) (.cons (.str "0") .nil)))
    have g21 := g20.new n21 (o := (.tup [V.int 0, V.str "0"]))
    generalize upd J19 p21 (.tup [V.int 0, V.str "0"]) = J21 at v21 g21 ⊢
    have g22 := g21.add v21
    refine ⟨(by show 18 ≤ sizeLine; decide), fun l1 nl1 => ?_⟩
    have r1 := g22.new nl1 (o := .lst [V.non, V.bl true, V.bl false, V.int (-1), V.int 0, V.int 1, V.int 2, V.int 9, V.int (10 ^ (40 : Int).toNat), V.int (1 - 10 ^ (41 : Int).toNat), V.str "", V.str "0", V.str "01", V.str "a", V.ref p15, V.ref p17, V.ref p19, V.ref p21])
    have w1 : l1 ≠ a := ne_die g22.da nl1
    have e1 : upd J21 l1 (.lst [V.non, V.bl true, V.bl false, V.int (-1), V.int 0, V.int 1, V.int 2, V.int 9, V.int (10 ^ (40 : Int).toNat), V.int (1 - 10 ^ (41 : Int).toNat), V.str "", V.str "0", V.str "01", V.str "a", V.ref p15, V.ref p17, V.ref p19, V.ref p21]) l1 = some (.lst [V.non, V.bl true, V.bl false, V.int (-1), V.int 0, V.int 1, V.int 2, V.int 9, V.int (10 ^ (40 : Int).toNat), V.int (1 - 10 ^ (41 : Int).toNat), V.str "", V.str "0", V.str "01", V.str "a", V.ref p15, V.ref p17, V.ref p19, V.ref p21]) := upd_same
    generalize upd J21 l1 (.lst [V.non, V.bl true, V.bl false, V.int (-1), V.int 0, V.int 1, V.int 2, V.int 9, V.int (10 ^ (40 : Int).toNat), V.int (1 - 10 ^ (41 : Int).toNat), V.str "", V.str "0", V.str "01", V.str "a", V.ref p15, V.ref p17, V.ref p19, V.ref p21]) = A1 at r1 e1 ⊢
    have h1 := r1.here
    refine ⟨_, rfl, (by show 0 ≤ sizeLine; decide), fun p23 s23 n23 => ?_⟩
    have ne23 : p23 ≠ a := ne_die h1.da n23
    have v23 : Vd a (upd A1 p23 (.lst [])) (.ref p23) (.list []) := .lst ne23 s23 upd_same (VdAll.up n23 .nil)
    have g23 := h1.new n23 (o := (.lst []))
    generalize upd A1 p23 (.lst []) = J23 at v23 g23 ⊢
    have g24 := g23.add v23
    refine ⟨(by show 1 ≤ sizeLine; decide), fun p25 s25 n25 => ?_⟩
    have ne25 : p25 ≠ a := ne_die g24.da n25
    have v25 : Vd a (upd J23 p25 (.lst [V.int 0])) (.ref p25) (.list [.int 0]) := .lst ne25 s25 upd_same (VdAll.up n25 (.cons (.int (0)) .nil))
    have g25 := g24.new n25 (o := (.lst [V.int 0]))
    generalize upd J23 p25 (.lst [V.int 0]) = J25 at v25 g25 ⊢
    have g26 := g25.add v25
    refine fun p27 n27 => ?_
    have ne27 : p27 ≠ a := ne_die g26.da n27
    have v27 : Vd a (upd J25 p27 (.dK [])) (.ref p27) (.dict []) := .d0 ne27 upd_same
    have g27 := g26.new n27 (o := .dK [])
    generalize upd J25 p27 (.dK []) = J27 at v27 g27 ⊢
    have g28 := g27.add v27
    refine ⟨(by show 2 ≤ sizeLine; decide), fun p29 n29 => ?_⟩
    have ne29 : p29 ≠ a := ne_die g28.da n29
    have v29 : Vd a (upd J27 p29 (.tup [V.int 0, V.str ""])) (.ref p29) (.tuple [.int 0, .str ""]) := .tup ne29 upd_same (VdAll.up n29 (.cons (.int (0)) (.cons (.str "") .nil)))
    have g29 := g28.new n29 (o := (.tup [V.int 0, V.str ""]))
    generalize upd J27 p29 (.tup [V.int 0, V.str ""]) = J29 at v29 g29 ⊢
    refine ⟨(by show 1 ≤ sizeLine; decide), fun p30 n30 => ?_⟩
    have ne30 : p30 ≠ a := ne_die g29.da n30
    have v30 : Vd a (upd J29 p30 (.tup [V.ref p29])) (.ref p30) (.tuple [.tuple [.int 0, .str ""]]) := .tup ne30 upd_same (VdAll.up n30 (.cons v29 .nil))
    have g30 := g29.new n30 (o := (.tup [V.ref p29]))
    generalize upd J29 p30 (.tup [V.ref p29]) = J30 at v30 g30 ⊢
    have g31 := g30.add v30
    refine ⟨(by show 3 ≤ sizeLine; decide), fun p32 n32 => ?_⟩
    have ne32 : p32 ≠ a := ne_die g31.da n32
    have v32 : Vd a (upd J30 p32 (.tup [V.int 0, V.str "", V.str "0"])) (.ref p32) (.tuple [.int 0, .str "", .str "0"]) := .tup ne32 upd_same (VdAll.up n32 (.cons (.int (0)) (.cons (.str "") (.cons (.str "0") .nil))))
    have g32 := g31.new n32 (o := (.tup [V.int 0, V.str "", V.str "0"]))
    generalize upd J30 p32 (.tup [V.int 0, V.str "", V.str "0"]) = J32 at v32 g32 ⊢
    have g33 := g32.add v32
    refine ⟨(by show 3 ≤ sizeLine; decide), fun p34 n34 => ?_⟩
    have ne34 : p34 ≠ a := ne_die g33.da n34
    have v34 : Vd a (upd J32 p34 (.tup [V.int 0, V.str "0", V.str "10"])) (.ref p34) (.tuple [.int 0, .str "0", .str "10"]) := .tup ne34 upd_same (VdAll.up n34 (.cons (.int (0)) (.cons (.str "0") (.cons (.str "10") .nil))))
    have g34 := g33.new n34 (o := (.tup [V.int 0, V.str "0", V.str "10"]))
    generalize upd J32 p34 (.tup [V.int 0, V.str "0", V.str "10"]) = J34 at v34 g34 ⊢
    have g35 := g34.add v34
    refine ⟨(by show 3 ≤ sizeLine; decide), fun p36 n36 => ?_⟩
    have ne36 : p36 ≠ a := ne_die g35.da n36
    have v36 : Vd a (upd J34 p36 (.tup [V.int 1, V.str "", V.str ""])) (.ref p36) (.tuple [.int 1, .str "", .str ""]) := .tup ne36 upd_same (VdAll.up n36 (.cons (.int (1)) (.cons (.str "") (.cons (.str "") .nil))))
    have g36 := g35.new n36 (o := (.tup [V.int 1, V.str "", V.str ""]))
    generalize upd J34 p36 (.tup [V.int 1, V.str "", V.str ""]) = J36 at v36 g36 ⊢
    have g37 := g36.add v36
    refine ⟨(by show 2 ≤ sizeLine; decide), fun p38 n38 => ?_⟩
    have ne38 : p38 ≠ a := ne_die g37.da n38
    have v38 : Vd a (upd J36 p38 (.tup [V.bl true, V.str ""])) (.ref p38) (.tuple [.bool true, .str ""]) := .tup ne38 upd_same (VdAll.up n38 (.cons (.bl true) (.cons (.str "") .nil)))
    have g38 := g37.new n38 (o := (.tup [V.bl true, V.str ""]))
    generalize upd J36 p38 (.tup [V.bl true, V.str ""]) = J38 at v38 g38 ⊢
    have g39 := g38.add v38
    refine fun p40 n40 => ?_
    refine ⟨upd_same, [(.inl 0, .int 0)], rfl, by decide, ?_⟩
    rw [upd_upd', show mergeK [] [(Sum.inl 0, V.int 0)] = [(Sum.inl 0, V.int 0)] from rfl]
    have ne40 : p40 ≠ a := ne_die g39.da n40
    have v40 : Vd a (upd J38 p40 (.dK [(.inl 0, .int 0)])) (.ref p40) (.dict [(.int 0, .int 0)]) := .d1 ne40 upd_same
    have g40 := g39.new n40 (o := .dK [(.inl 0, .int 0)])
    generalize upd J38 p40 (.dK [(.inl 0, .int 0)]) = J40 at v40 g40 ⊢
    have g41 := g40.add v40
    refine ⟨(by show 9 ≤ sizeLine; decide), fun l2 nl2 => ?_⟩
    have r2 := g41.new nl2 (o := .lst [V.ref p23, V.ref p25, V.ref p27, V.ref p30, V.ref p32, V.ref p34, V.ref p36, V.ref p38, V.ref p40])
    have e2 : upd J40 l2 (.lst [V.ref p23, V.ref p25, V.ref p27, V.ref p30, V.ref p32, V.ref p34, V.ref p36, V.ref p38, V.ref p40]) l2 = some (.lst [V.ref p23, V.ref p25, V.ref p27, V.ref p30, V.ref p32, V.ref p34, V.ref p36, V.ref p38, V.ref p40]) := upd_same
    generalize upd J40 l2 (.lst [V.ref p23, V.ref p25, V.ref p27, V.ref p30, V.ref p32, V.ref p34, V.ref p36, V.ref p38, V.ref p40]) = A2 at r2 e2 ⊢
    have h2 := r1.join r2
    refine ⟨l1, l2, _, _, rfl, rfl, r2.kp _ _ w1 e1, e2, (by show 27 ≤ sizeLine; decide), fun l3 nl3 => ?_⟩
    have r3 := h2.new nl3 (o := .lst ([V.non, V.bl true, V.bl false, V.int (-1), V.int 0, V.int 1, V.int 2, V.int 9, V.int (10 ^ (40 : Int).toNat), V.int (1 - 10 ^ (41 : Int).toNat), V.str "", V.str "0", V.str "01", V.str "a", V.ref p15, V.ref p17, V.ref p19, V.ref p21] ++ [V.ref p23, V.ref p25, V.ref p27, V.ref p30, V.ref p32, V.ref p34, V.ref p36, V.ref p38, V.ref p40]))
    have w3 : l3 ≠ a := ne_die h2.da nl3
    have e3 : upd A2 l3 (.lst ([V.non, V.bl true, V.bl false, V.int (-1), V.int 0, V.int 1, V.int 2, V.int 9, V.int (10 ^ (40 : Int).toNat), V.int (1 - 10 ^ (41 : Int).toNat), V.str "", V.str "0", V.str "01", V.str "a", V.ref p15, V.ref p17, V.ref p19, V.ref p21] ++ [V.ref p23, V.ref p25, V.ref p27, V.ref p30, V.ref p32, V.ref p34, V.ref p36, V.ref p38, V.ref p40])) l3 = some (.lst ([V.non, V.bl true, V.bl false, V.int (-1), V.int 0, V.int 1, V.int 2, V.int 9, V.int (10 ^ (40 : Int).toNat), V.int (1 - 10 ^ (41 : Int).toNat), V.str "", V.str "0", V.str "01", V.str "a", V.ref p15, V.ref p17, V.ref p19, V.ref p21] ++ [V.ref p23, V.ref p25, V.ref p27, V.ref p30, V.ref p32, V.ref p34, V.ref p36, V.ref p38, V.ref p40])) := upd_same
    generalize upd A2 l3 (.lst ([V.non, V.bl true, V.bl false, V.int (-1), V.int 0, V.int 1, V.int 2, V.int 9, V.int (10 ^ (40 : Int).toNat), V.int (1 - 10 ^ (41 : Int).toNat), V.str "", V.str "0", V.str "01", V.str "a", V.ref p15, V.ref p17, V.ref p19, V.ref p21] ++ [V.ref p23, V.ref p25, V.ref p27, V.ref p30, V.ref p32, V.ref p34, V.ref p36, V.ref p38, V.ref p40])) = A3 at r3 e3 ⊢
    have h3 := r3.here
    refine ⟨_, rfl, (by show 2 ≤ sizeLine; decide), fun p42 n42 => ?_⟩
    have ne42 : p42 ≠ a := ne_die h3.da n42
    have v42 : Vd a (upd A3 p42 (.tup [V.int 0, V.int 0])) (.ref p42) (.tuple [.int 0, .int 0]) := .tup ne42 upd_same (VdAll.up n42 (.cons (.int (0)) (.cons (.int (0)) .nil)))
    have g42 := h3.new n42 (o := (.tup [V.int 0, V.int 0]))
    generalize upd A3 p42 (.tup [V.int 0, V.int 0]) = J42 at v42 g42 ⊢
    have g43 := g42.add v42
    refine ⟨(by show 2 ≤ sizeLine; decide), fun p44 n44 => ?_⟩
    have ne44 : p44 ≠ a := ne_die g43.da n44
    have v44 : Vd a (upd J42 p44 (.tup [V.str "", V.int 0])) (.ref p44) (.tuple [.str "", .int 0]) := .tup ne44 upd_same (VdAll.up n44 (.cons (.str "") (.cons (.int (0)) .nil)))
    have g44 := g43.new n44 (o := (.tup [V.str "", V.int 0]))
    generalize upd J42 p44 (.tup [V.str "", V.int 0]) = J44 at v44 g44 ⊢
    have g45 := g44.add v44
    refine ⟨(by show 2 ≤ sizeLine; decide), fun l4 nl4 => ?_⟩
    have r4 := g45.new nl4 (o := .lst [V.ref p42, V.ref p44])
    have e4 : upd J44 l4 (.lst [V.ref p42, V.ref p44]) l4 = some (.lst [V.ref p42, V.ref p44]) := upd_same
    generalize upd J44 l4 (.lst [V.ref p42, V.ref p44]) = A4 at r4 e4 ⊢
    have h4 := r3.join r4
    refine ⟨l3, l4, _, _, rfl, rfl, r4.kp _ _ w3 e3, e4, (by show 29 ≤ sizeLine; decide), fun l5 nl5 => ?_⟩
    have r5 := h4.new nl5 (o := .lst (([V.non, V.bl true, V.bl false, V.int (-1), V.int 0, V.int 1, V.int 2, V.int 9, V.int (10 ^ (40 : Int).toNat), V.int (1 - 10 ^ (41 : Int).toNat), V.str "", V.str "0", V.str "01", V.str "a", V.ref p15, V.ref p17, V.ref p19, V.ref p21] ++ [V.ref p23, V.ref p25, V.ref p27, V.ref p30, V.ref p32, V.ref p34, V.ref p36, V.ref p38, V.ref p40]) ++ [V.ref p42, V.ref p44]))
    have w5 : l5 ≠ a := ne_die h4.da nl5
    have e5 : upd A4 l5 (.lst (([V.non, V.bl true, V.bl false, V.int (-1), V.int 0, V.int 1, V.int 2, V.int 9, V.int (10 ^ (40 : Int).toNat), V.int (1 - 10 ^ (41 : Int).toNat), V.str "", V.str "0", V.str "01", V.str "a", V.ref p15, V.ref p17, V.ref p19, V.ref p21] ++ [V.ref p23, V.ref p25, V.ref p27, V.ref p30, V.ref p32, V.ref p34, V.ref p36, V.ref p38, V.ref p40]) ++ [V.ref p42, V.ref p44])) l5 = some (.lst (([V.non, V.bl true, V.bl false, V.int (-1), V.int 0, V.int 1, V.int 2, V.int 9, V.int (10 ^ (40 : Int).toNat), V.int (1 - 10 ^ (41 : Int).toNat), V.str "", V.str "0", V.str "01", V.str "a", V.ref p15, V.ref p17, V.ref p19, V.ref p21] ++ [V.ref p23, V.ref p25, V.ref p27, V.ref p30, V.ref p32, V.ref p34, V.ref p36, V.ref p38, V.ref p40]) ++ [V.ref p42, V.ref p44])) := upd_same
    generalize upd A4 l5 (.lst (([V.non, V.bl true, V.bl false, V.int (-1), V.int 0, V.int 1, V.int 2, V.int 9, V.int (10 ^ (40 : Int).toNat), V.int (1 - 10 ^ (41 : Int).toNat), V.str "", V.str "0", V.str "01", V.str "a", V.ref p15, V.ref p17, V.ref p19, V.ref p21] ++ [V.ref p23, V.ref p25, V.ref p27, V.ref p30, V.ref p32, V.ref p34, V.ref p36, V.ref p38, V.ref p40]) ++ [V.ref p42, V.ref p44])) = A5 at r5 e5 ⊢
    refine ⟨_, rfl, _, rfl, a, d, 29, rfl, r5.da, hd, by decide, by decide, by omega, fun r d' hd' hc' r0 r29 => ?_⟩
    obtain ⟨j, rfl⟩ : ∃ j : Nat, r = (j : Int) := ⟨r.toNat, by omega⟩
    have kf : Kp a A5 (upd A5 a (.lst (dieL d'))) := Kp.upd
    have rf := VdAll.kp r5.r kf
    obtain ⟨v, hv⟩ : ∃ v, ((([V.non, V.bl true, V.bl false, V.int (-1), V.int 0, V.int 1, V.int 2, V.int 9, V.int (10 ^ (40 : Int).toNat), V.int (1 - 10 ^ (41 : Int).toNat), V.str "", V.str "0", V.str "01", V.str "a", V.ref p15, V.ref p17, V.ref p19, V.ref p21] ++ [V.ref p23, V.ref p25, V.ref p27, V.ref p30, V.ref p32, V.ref p34, V.ref p36, V.ref p38, V.ref p40]) ++ [V.ref p42, V.ref p44]) : List V)[j]? = some v := ⟨_, List.getElem?_eq_getElem (show j < 29 by omega)⟩
    obtain ⟨pd, hpd, vdv⟩ := rf.at_ hv
    refine ⟨l5, _, _, v, rfl, rfl, SqL.of (kf _ _ w5 e5), atI_nat hv, ?_⟩
    exact k v pd d' _ vdv (odd_fine pd (List.mem_of_getElem? hpd)) hd' hc' (r5.kp.trans kf) upd_same
end
end Vf


set_option Elab.async false
set_option maxRecDepth 100000
set_option maxHeartbeats 16000000
set_option exponentiation.threshold 3000
namespace Vf
open PySem L2 SX Vm VG
theorem Gr.move {a : Addr} {D : List V} {H0 J J' : Hp} {vs : List V} {ds : List PyData} (g : Gr a D H0 J vs ds) (k : Kp a J J') (e : J' a = some (.lst D)) : Gr a D H0 J' vs ds := ⟨g.kp.trans k, e, VdAll.kp g.r k⟩
section
variable {K : PySem.W.Frag} {a p q : Addr} {D : List V} {J : Hp} {xs ys : List V} {Q : VK} {lo hi : Option Int}
theorem slA_gr (hp : J p = some (.tup xs)) (np : p ≠ a) (da : J a = some (.lst D)) (h : ∀ q J', Kp a J J' → J' a = some (.lst D) → J' q = some (.tup (cutV xs lo hi)) → q ≠ a → Q (.ref q) J') : rSlA K (.ref p) lo hi J Q := by
  refine ⟨p, xs, rfl, SqT.of hp, fun hw => ?_, fun _ r nr => ?_⟩
  · refine h p J (Kp.refl _ _) da ?_ np
    have e : cutV xs lo hi = xs := by
      unfold cutV
      rw [hw.1, hw.2, List.drop_zero, Nat.sub_zero, List.take_length]
    rw [e]
    exact hp
  · exact h r _ (Kp.new nr) (by rw [upd_ne (ne_die da nr).symm]; exact da) upd_same (ne_die da nr)
theorem catA_gr (hp : J p = some (.tup xs)) (np : p ≠ a) (hq : J q = some (.tup ys)) (nq : q ≠ a) (da : J a = some (.lst D)) (hz : xs.length + ys.length ≤ sizeLine)
    (h : ∀ r J', Kp a J J' → J' a = some (.lst D) → J' r = some (.tup (xs ++ ys)) → r ≠ a → Q (.ref r) J') : rCatA K (.ref p) (.ref q) J Q := by
  refine ⟨p, q, xs, ys, rfl, rfl, SqT.of hp, SqT.of hq, hz, fun e => ?_, fun _ e => ?_, fun _ _ r nr => ?_⟩
  · subst e
    exact h q J (Kp.refl _ _) da hq nq
  · subst e
    exact h p J (Kp.refl _ _) da (by rw [List.append_nil]; exact hp) np
  · exact h r _ (Kp.new nr) (by rw [upd_ne (ne_die da nr).symm]; exact da) upd_same (ne_die da nr)
end
/-- what a bent value may be -/
def BentK (Q : VK) (a : Addr) (c : Int) (N n m : Nat) (H : Hp) : Prop := ∀ (v : V) (pd : PyData) (d : Int × Int × Int) (H' : Hp), Vd a H' v pd → Fine (N + 1) (n + 4) (2 * m + 100) pd → DieOk d → d.2.2 ≤ c → Kp a H H' → H' a = some (.lst (dieL d)) → Q v H'
def spB : Nat → Sp
  | 0 => fun _ _ _ _ => False
  | j + 1 => fun vs H Q _ => ∃ (a : Addr) (d : Int × Int × Int) (v : V) (deep : Int) (pd : PyData) (N n m : Nat), vs = [.ref a, v, .int deep] ∧ H a = some (.lst (dieL d)) ∧ DieOk d ∧ d.2.2 + 3 * ((j : Int) + 1) ≤ 980000000 ∧ deep ≤ (j : Int) ∧ Vd a H v pd ∧ Fine N n m pd ∧
    N0 ≤ N ∧ N ≤ 10 ^ 42 ∧ n ≤ 20 ∧ m ≤ 900 ∧ BentK Q a (d.2.2 + 3 * ((j : Int) + 1)) N n m H
def tTail : TS := fun D σ H => ∃ (a : Addr) (d : Int × Int × Int) (v deep : V) (pd : PyData) (N n m : Nat) (c : Int), σ = [some (.ref a), some v, some deep, none, none] ∧ H a = some (.lst (dieL d)) ∧ DieOk d ∧ d.2.2 ≤ 980001000 ∧ Vd a H v pd ∧ Fine N n m pd ∧
    N0 ≤ N ∧ N ≤ 10 ^ 42 ∧ n ≤ 20 ∧ m ≤ 900 ∧ d.2.2 + 2 ≤ c ∧ BentK D.rt a c N n m H
theorem pss_imp' {X : Cx} {body : List Stmt} {t t' : TS} (h : PSs X body t) (imp : ∀ D σ H, σ.length = X.N.length → t' D σ H → t D σ H) : PSs X body t' := ⟨fun pins s σ H D I q => h.run pins s σ H D I (imp D σ H I.len q)⟩
theorem fine_app {N n : Nat} {x y : Str} {m k : Nat} (f : Fine N n m (.str x)) (g : Fine N n k (.str y)) : Fine N n (m + k) (.str (x ++ y)) := by
  refine fine_str (fun c hc => ?_) ?_
  · have e : (x ++ y).cps.toList = x.cps.toList ++ y.cps.toList := by
      show (x.cps ++ y.cps).toList = _
      simp
    rw [e] at hc
    rcases List.mem_append.mp hc with h | h
    · exact f.str_.1 c h
    · exact g.str_.1 c h
  · have e : (x ++ y).length = x.length + y.length := by
      show (x.cps ++ y.cps).size = _
      simp
      rfl
    rw [e]
    exact Nat.add_le_add f.str_.2 g.str_.2
theorem fine_cut {N n m : Nat} {z : Str} {lo hi : Option Int} (f : Fine N n m (.str z)) : Fine N n m (.str (cutS z lo hi)) :=
  fine_str (fun c hc => f.str_.1 c (cutS_in.1 c hc)) (Nat.le_trans cutS_in.2 f.str_.2)
theorem pick {a : Addr} {H : Hp} {vs : List V} {ds : List PyData} {r : Int} {n : Nat} (g : VdAll a H vs ds) (hn : vs.length = n) (r0 : 0 ≤ r) (r1 : r < n) : ∃ v pd, atI vs r = some v ∧ pd ∈ ds ∧ Vd a H v pd := by
  obtain ⟨j, rfl⟩ : ∃ j : Nat, r = (j : Int) := ⟨r.toNat, by omega⟩
  have hv := List.getElem?_eq_getElem (show j < vs.length by omega)
  obtain ⟨pd, hpd, vd⟩ := g.at_ hv
  exact ⟨_, pd, atI_nat hv, List.mem_of_getElem? hpd, vd⟩
theorem Vd.tup_inv {a p : Addr} {H : Hp} {xs : List V} {pd : PyData} (h : Vd a H (.ref p) pd) (e : H p = some (.tup xs)) : ∃ ds, pd = .tuple ds ∧ p ≠ a ∧ VdAll a H xs ds := by
  cases h with
  | tup n e1 r =>
    rw [e] at e1
    cases e1
    exact ⟨_, rfl, n, r⟩
  | lst _ _ e1 _ => rw [e] at e1; cases e1
  | d0 _ e1 => rw [e] at e1; cases e1
  | d1 _ e1 => rw [e] at e1; cases e1
theorem fine_tup' {N n m : Nat} {ds : List PyData} (f : Fine N n m (.tuple ds)) : ∃ k, n = k + 1 ∧ FineL N k m ds := by
  have b := f.dp
  unfold PyData.depth at b
  obtain ⟨k, rfl⟩ : ∃ k, n = k + 1 := ⟨n - 1, by omega⟩
  exact ⟨k, rfl, fine_tup.mp f⟩
end Vf


set_option Elab.async false
set_option maxRecDepth 100000
set_option maxHeartbeats 16000000
set_option exponentiation.threshold 3000
namespace Vf
open PySem L2 SX Vm VG
theorem slN {K : PySem.W.Frag} {σ : L2.St} {x : V} {lo : Option Int} {J : Hp} {Q : VK} (h : rSlA K x lo none J Q) : tNoPart σ J (fun u H3 => rSlA K x lo u H3 Q) := h
theorem slNS {σ : L2.St} {x : V} {lo : Option Int} {J : Hp} {Q : VK} (h : rSlS x lo none J Q) : tNoPart σ J (fun u H3 => rSlS x lo u H3 Q) := h
theorem sz2 {xs ys : List V} (h1 : xs.length ≤ 2000) (h2 : ys.length ≤ 2000) : xs.length + ys.length ≤ sizeLine := Nat.le_trans (show xs.length + ys.length ≤ 4000 by omega) (by decide)
theorem cut_sz {xs : List V} {lo hi : Option Int} (h : xs.length ≤ 900) : (cutV xs lo hi).length ≤ 900 := Nat.le_trans (cutV_length _ _ _) h
theorem str_sz {x y : Str} (h1 : x.length ≤ 5000) (h2 : y.length ≤ 5000) : x.length + y.length ≤ sizeLine := Nat.le_trans (show x.length + y.length ≤ 10000 by omega) (by decide)
theorem app_len {x y : Str} : (x ++ y).length = x.length + y.length := by
  show (x.cps ++ y.cps).size = _
  simp
  rfl
section
variable {P : Program} {w : World} {K : PySem.W.Frag} {mg : Str → Option Value} {base : Heap}
theorem scBent : FnScope ["die", "thing", "deep", "at", "some"] ["die", "thing", "deep"] (defScope sBent) := ⟨rfl, rfl, rfl, by decide +kernel, rfl, by decide +kernel, by decide +kernel⟩
/-- the names that the law has not taken -/
structure NmL (mg : Str → Option Value) : Prop where
  isinst : mg "isinstance" = none
  int : mg "int" = none
  bool : mg "bool" = none
  str : mg "str" = none
  tuple : mg "tuple" = none
  list : mg "list" = none
  len : mg "len" = none
  rep : mg "repr" = none
theorem ok_bent {j : Nat} {f fP fO : Addr} {fd fdP fdO : FuncData} (F : Fun K "_law_bent" "_law_bent" sBent f fd) (GP : FnOk P w K mg base CX0 1 fP fdP ["die", "many"] spPull) (cP : Cal K mg "_law_pull" fP fdP ["die", "many"])
    (GO : FnOk P w K mg base CX0 2 fO fdO ["die"] spOdd) (cO : Cal K mg "_law_odd" fO fdO ["die"]) (GB : FnOk P w K mg base CX0 (j + 2) f fd ["die", "thing", "deep"] (spB j)) (cB : Cal K mg "_law_bent" f fd ["die", "thing", "deep"]) (N : NmL mg) :
    FnOk P w K mg base CX0 (j + 3) f fd ["die", "thing", "deep"] (spB (j + 1)) := by
  refine F.ok scBent (fun vs H Q E h => ?_) (fun cdv A outer s H vs Q E hr h => ?_)
  · obtain ⟨a, d, v, deep, pd, N1, n, m, rfl, _⟩ := h
    rfl
  · obtain ⟨a, d, v, deep, pd, N1, n, m, rfl, ha, hd, hc, hdeep, vd, fi, N0N, NN, n20, m9, k⟩ := h
    have nd := scBent.nd
    have hr1 := hr.mono (show 1 ≤ j + 2 by omega)
    have hr2 := hr.mono (show 2 ≤ j + 2 by omega)
    have hun := Nat.lt_of_le_of_lt (Nat.le_add_right _ 64) hr.units
    refine ⟨_, pss_cons (ps_if (PW.pt (pw_and (pt_val (pe_callB call_isi (by rfl) N.isinst PyProof.Rows.boot_isinstance (pa_cons (pv 1) (pa_cons (pe_bltn (v := .ty "tuple") (by rfl) N.tuple PyProof.Rows.boot_tuple rfl) pa_nil))))
        (pw_and (pt_cmpR (VG.op_neT0 hun) (pv 1) (pe_tup pa_nil) (nomark _)) (pw_and (pt_cmpR op_gt (pv 2) pe_int (nomark _))
        (pw_and1 (pt_cmpR op_gt (pe_call GP hr1 rfl cP.mg cP.kp cP.b .nil pass0 (pa_cons (pv 0) (pa_cons pe_int pa_nil))) pe_int (nomark _)))))))
        (pss_cons (ps_set (i := 3) nd rfl (.inl rfl) (pe_call GP hr1 rfl cP.mg cP.kp cP.b .nil pass0 (pa_cons (pv 0) (pa_cons (pe_callB call_len_seq (by rfl) N.len boot_len (pa_cons (pv 1) pa_nil)) pa_nil))))
        (pss_one (ps_ret (pe_op op_catA (pe_op op_catA (pe_slice sl_tupA (pv 1) po_none (po_some (pv 3)))
          (pe_tup (pa_cons (pe_call GB hr rfl cB.mg cB.kp cB.b .nil pass0 (pa_cons (pv 0) (pa_cons (pe_ix ix_tup (pv 1) (pv 3) (fun _ _ => rfl)) (pa_cons (pe_op op_sub (pv 2) pe_int) pa_nil)))) pa_nil)))
          (pe_slice sl_tupA (pv 1) (po_some (pe_op op_add (pv 3) pe_int)) po_none))))) pss_nil)
      (pss_imp' (t' := tTail) (pss_cons (ps_if (pt_val (pe_callB call_isi (by rfl) N.isinst PyProof.Rows.boot_isinstance (pa_cons (pv 1) (pa_cons (pe_bltn (v := .ty "tuple") (by rfl) N.tuple PyProof.Rows.boot_tuple rfl) pa_nil))))
        (pss_cons (ps_set (i := 3) nd rfl (.inl rfl) (pe_call GP hr1 rfl cP.mg cP.kp cP.b .nil pass0 (pa_cons (pv 0) (pa_cons (pe_op op_add (pe_callB call_len_seq (by rfl) N.len boot_len (pa_cons (pv 1) pa_nil)) pe_int) pa_nil))))
        (pss_cons (ps_set (i := 4) nd rfl (.inl rfl) (pe_lst (pa_cons (pe_callTy VG.call_list_ofB (by rfl) N.list PyProof.Rows.boot_list (pa_cons (pv 1) pa_nil))
          (pa_cons (pe_op op_catA (pe_slice sl_tupA (pv 1) po_none (po_some (pv 3))) (pe_slice sl_tupA (pv 1) (po_some (pe_op op_add (pv 3) pe_int)) po_none))
          (pa_cons (pe_op op_catA (pe_op op_catA (pe_slice sl_tupA (pv 1) po_none (po_some (pv 3))) (pe_tup (pa_cons pe_int pa_nil))) (pe_slice sl_tupA (pv 1) (po_some (pv 3)) po_none))
          (pa_cons (VG.pe_revA (pv 1)) (pa_cons (pe_tup (pa_cons (pv 1) pa_nil)) (pa_cons (pe_tup pa_nil) pa_nil))))))))
        (pss_one (ps_ret (pe_ix ix_list (pe_op op_cat (pv 4) (pe_lst (pa_cons (pe_op op_catA (pv 1) (pe_slice sl_tupA (pv 1) (po_some (pe_un un_neg pe_int)) po_none)) pa_nil)))
          (pe_call GP hr1 rfl cP.mg cP.kp cP.b .nil pass0 (pa_cons (pv 0) (pa_cons pe_int pa_nil))) (fun _ _ => rfl)))))) pss_nil)
      (pss_cons (ps_if (pt_val (pe_callB call_isi (by rfl) N.isinst PyProof.Rows.boot_isinstance (pa_cons (pv 1) (pa_cons (pe_bltn (v := .ty "str") (by rfl) N.str PyProof.Rows.boot_str rfl) pa_nil))))
        (pss_cons (ps_set (i := 3) nd rfl (.inl rfl) (pe_call GP hr1 rfl cP.mg cP.kp cP.b .nil pass0 (pa_cons (pv 0) (pa_cons (pe_op op_add (pe_callB call_len_str (by rfl) N.len boot_len (pa_cons (pv 1) pa_nil)) pe_int) pa_nil))))
        (pss_cons (ps_set (i := 4) nd rfl (.inl rfl) (pe_lst (pa_cons (pe_op op_add_str (pe_op op_add_str (pe_slice sl_str (pv 1) po_none (po_some (pv 3))) pe_str) (pe_slice sl_str (pv 1) (po_some (pv 3)) po_none))
          (pa_cons (pe_op op_add_str (pe_slice sl_str (pv 1) po_none (po_some (pv 3))) (pe_slice sl_str (pv 1) (po_some (pe_op op_add (pv 3) pe_int)) po_none))
          (pa_cons (pe_op op_add_str (pv 1) pe_str) (pa_cons (VG.pe_revA (pv 1)) (pa_cons pe_non (pa_cons (pe_tup (pa_cons (pv 1) pa_nil)) pa_nil))))))))
        (pss_one (ps_ret (pe_ix ix_list (pe_op op_cat (pv 4) (pe_lst (pa_cons (pe_op op_add_str (pv 1) pe_str) (pa_cons (pe_op op_add_str (pv 1) pe_str) (pa_cons pe_int pa_nil)))))
          (pe_call GP hr1 rfl cP.mg cP.kp cP.b .nil pass0 (pa_cons (pv 0) (pa_cons pe_int pa_nil))) (fun _ _ => rfl)))))) pss_nil)
      (pss_cons (ps_if (PW.pt (pw_and (pt_val (pe_callB call_isi (by rfl) N.isinst PyProof.Rows.boot_isinstance (pa_cons (pv 1) (pa_cons (pe_bltn (v := .ty "int") (by rfl) N.int PyProof.Rows.boot_int rfl) pa_nil))))
          (pw_and1 (pt_not (pt_val (pe_callB call_isi (by rfl) N.isinst PyProof.Rows.boot_isinstance (pa_cons (pv 1) (pa_cons (pe_bltn (v := .ty "bool") (by rfl) N.bool PyProof.Rows.boot_bool rfl) pa_nil))))))))
        (pss_one (ps_ret (pe_ix ix_list (pe_lst (pa_cons (pe_op op_add (pv 1) pe_int) (pa_cons (pe_op op_sub (pv 1) pe_int) (pa_cons (pe_op op_sub pe_int (pv 1)) (pa_cons (pe_callTy call_str_int (by rfl) N.str PyProof.Rows.boot_str (pa_cons (pv 1) pa_nil))
          (pa_cons (pe_cmpR op_eq (pv 1) pe_int (nomark _)) (pa_cons (pe_tup (pa_cons (pv 1) pa_nil)) (pa_cons pe_non pa_nil))))))))
          (pe_call GP hr1 rfl cP.mg cP.kp cP.b .nil pass0 (pa_cons (pv 0) (pa_cons pe_int pa_nil))) (fun _ _ => rfl)))) pss_nil)
      (pss_one (ps_ret (pe_call GO hr2 rfl cO.mg cO.kp cO.b .nil pass0 (pa_cons (pv 0) pa_nil))))))) ?_), ?_⟩
    · rintro D σ H - ⟨a, d, v, deep, pd, N1, n, m, c, rfl, ha, hd, hc, vd, fi, N0N, NN, n20, m9, hcc, k⟩
      have odd : spOdd [.ref a] H D.rt E := ⟨a, d, rfl, ha, hd, by omega, fun v pd d' H' vd' f' hd' hc' kp' a' => k v pd d' H' vd' (f'.up (by omega) (by omega) (by omega)) hd' (by omega) kp' a'⟩
      cases vd with
      | @tup p xs ds np e r =>
        obtain ⟨n1, rfl, fl⟩ := fine_tup' fi
        have lx : xs.length ≤ 900 := by rw [r.len]; exact Nat.le_trans fl.len m9
        refine ⟨_, rfl, _, _, _, _, true, rfl, .ty "tuple", (Pl.tup e).tyx, kit_ty (by decide +kernel), _, rfl, ?_⟩
        refine iteT ?_
        refine ⟨_, rfl, _, rfl, p, xs, rfl, .inr (SqT.of e), _, _, rfl, rfl, a, d, _, rfl, ha, hd, by omega, by omega, by omega, fun at_ d1 hd1 hc1 at0 at1 => ?_⟩
        obtain ⟨i, rfl⟩ : ∃ i : Nat, at_ = (i : Int) := ⟨at_.toNat, by omega⟩
        have g0 : Gr a (dieL d1) H (upd H a (.lst (dieL d1))) [] [] := ⟨Kp.upd, upd_same, .nil⟩
        generalize upd H a (.lst (dieL d1)) = J0 at g0 ⊢
        refine ⟨_, rfl, p, xs, rfl, .inr (SqT.of (g0.kp _ _ np e)), fun p1 s1 n1' => ?_⟩
        have g1 := (g0.new n1' (o := .lst xs)).add (.lst (ne_die g0.da n1') s1 upd_same (VdAll.up n1' (VdAll.kp r g0.kp)))
        generalize upd J0 p1 (.lst xs) = J1 at g1 ⊢
        refine ⟨_, rfl, _, rfl, _, rfl, ?_⟩
        refine slA_gr (g1.kp _ _ np e) np g1.da (fun q2 J2 k2 d2 e2 ne2 => ?_)
        have g2 := g1.move k2 d2
        refine ⟨_, rfl, _, rfl, _, _, rfl, rfl, _, rfl, ?_⟩
        refine slN ?_
        refine slA_gr (g2.kp _ _ np e) np g2.da (fun q3 J3 k3 d3 e3 ne3 => ?_)
        have g3 := g2.move k3 d3
        refine catA_gr (k3 _ _ ne2 e2) ne2 e3 ne3 g3.da (sz2 (Nat.le_trans (cut_sz lx) (by decide)) (Nat.le_trans (cut_sz lx) (by decide))) (fun q4 J4 k4 d4 e4 ne4 => ?_)
        have g4' := g3.move k4 d4
        have g4 := g4'.add (.tup ne4 e4 ((VdAll.kp r g4'.kp).cut.app (VdAll.kp r g4'.kp).cut))
        refine ⟨_, rfl, _, rfl, _, rfl, ?_⟩
        refine slA_gr (g4.kp _ _ np e) np g4.da (fun q5 J5 k5 d5 e5 ne5 => ?_)
        have g5 := g4.move k5 d5
        refine ⟨(by show 1 ≤ sizeLine; decide), fun q6 n6 => ?_⟩
        have ne6 := ne_die g5.da n6
        have e5' := Kp.new (o := .tup [.int 0]) n6 _ _ ne5 e5
        have e6 : upd J5 q6 (.tup [.int 0]) q6 = some (.tup [.int 0]) := upd_same
        have g6 := g5.new n6 (o := .tup [.int 0])
        generalize upd J5 q6 (.tup [.int 0]) = J6 at g6 e6 e5' ⊢
        refine catA_gr e5' ne5 e6 ne6 g6.da (sz2 (Nat.le_trans (cut_sz lx) (by decide)) (by show 1 ≤ 2000; decide)) (fun q7 J7 k7 d7 e7 ne7 => ?_)
        have g7 := g6.move k7 d7
        refine ⟨_, rfl, _, rfl, _, rfl, ?_⟩
        refine slN ?_
        refine slA_gr (g7.kp _ _ np e) np g7.da (fun q8 J8 k8 d8 e8 ne8 => ?_)
        have g8 := g7.move k8 d8
        refine catA_gr (k8 _ _ ne7 e7) ne7 e8 ne8 g8.da (sz2 (by rw [List.length_append]; have := cut_sz (lo := none) (hi := some (i : Int)) lx; show _ + 1 ≤ 2000; omega) (Nat.le_trans (cut_sz lx) (by decide))) (fun q9 J9 k9 d9 e9 ne9 => ?_)
        have g9' := g8.move k9 d9
        have g9 := g9'.add (.tup ne9 e9 (((VdAll.kp r g9'.kp).cut.app (.cons (.int 0) .nil)).app (VdAll.kp r g9'.kp).cut))
        refine ⟨_, rfl, .inr ⟨p, xs, rfl, SqT.of (g9.kp _ _ np e), fun q10 n10 => ?_⟩⟩
        have g10 := (g9.new n10 (o := .tup xs.reverse)).add (.tup (ne_die g9.da n10) upd_same (VdAll.up n10 (VdAll.kp r g9.kp)).rev)
        generalize upd J9 q10 (.tup xs.reverse) = J10 at g10 ⊢
        refine ⟨_, rfl, (by show 1 ≤ sizeLine; decide), fun q11 n11 => ?_⟩
        have vt : Vd a J10 (.ref p) (.tuple ds) := .tup np (g10.kp _ _ np e) (VdAll.kp r g10.kp)
        have g11 := (g10.new n11 (o := .tup [.ref p])).add (.tup (ne_die g10.da n11) upd_same (.cons (Vd.up n11 vt) .nil))
        generalize upd J10 q11 (.tup [.ref p]) = J11 at g11 ⊢
        refine ⟨(by show 0 ≤ sizeLine; exact Nat.zero_le _), fun q12 n12 => ?_⟩
        have g12 := (g11.new n12 (o := .tup [])).add (.tup (ne_die g11.da n12) upd_same .nil)
        generalize upd J11 q12 (.tup []) = J12 at g12 ⊢
        refine ⟨(by show 6 ≤ sizeLine; decide), fun l1 nl1 => ?_⟩
        have gl1 := g12.new nl1 (o := .lst [V.ref p1, V.ref q4, V.ref q9, V.ref q10, V.ref q11, V.ref q12])
        have wl1 := ne_die g12.da nl1
        have el1 : upd J12 l1 (.lst [V.ref p1, V.ref q4, V.ref q9, V.ref q10, V.ref q11, V.ref q12]) l1 = some (.lst [V.ref p1, V.ref q4, V.ref q9, V.ref q10, V.ref q11, V.ref q12]) := upd_same
        generalize upd J12 l1 (.lst [V.ref p1, V.ref q4, V.ref q9, V.ref q10, V.ref q11, V.ref q12]) = J13 at gl1 el1 ⊢
        refine ⟨_, rfl, _, rfl, _, rfl, _, rfl, _, rfl, ?_⟩
        refine slN ?_
        refine slA_gr (gl1.kp _ _ np e) np gl1.da (fun q14 J14 k14 d14 e14 ne14 => ?_)
        have g14 := gl1.move k14 d14
        refine catA_gr (g14.kp _ _ np e) np e14 ne14 g14.da (sz2 (by omega) (Nat.le_trans (cut_sz lx) (by decide))) (fun q15 J15 k15 d15 e15 ne15 => ?_)
        have g15' := g14.move k15 d15
        have g15 := g15'.add (.tup ne15 e15 ((VdAll.kp r g15'.kp).app (VdAll.kp r g15'.kp).cut))
        refine ⟨(by show 1 ≤ sizeLine; decide), fun l2 nl2 => ?_⟩
        have gl2 := g15.new nl2 (o := .lst [V.ref q15])
        have el2 : upd J15 l2 (.lst [V.ref q15]) l2 = some (.lst [V.ref q15]) := upd_same
        have el1' := ((k14.trans k15).trans (Kp.new (o := .lst [V.ref q15]) nl2)) _ _ wl1 el1
        generalize upd J15 l2 (.lst [V.ref q15]) = J16 at gl2 el2 el1' ⊢
        refine ⟨l1, l2, _, _, rfl, rfl, el1', el2, (by show 7 ≤ sizeLine; decide), fun l3 nl3 => ?_⟩
        have gl3 := gl2.new nl3 (o := .lst ([V.ref p1, V.ref q4, V.ref q9, V.ref q10, V.ref q11, V.ref q12] ++ [V.ref q15]))
        have wl3 := ne_die gl2.da nl3
        have el3 : upd J16 l3 (.lst ([V.ref p1, V.ref q4, V.ref q9, V.ref q10, V.ref q11, V.ref q12] ++ [V.ref q15])) l3 = some (.lst ([V.ref p1, V.ref q4, V.ref q9, V.ref q10, V.ref q11, V.ref q12] ++ [V.ref q15])) := upd_same
        generalize upd J16 l3 (.lst ([V.ref p1, V.ref q4, V.ref q9, V.ref q10, V.ref q11, V.ref q12] ++ [V.ref q15])) = J17 at gl3 el3 ⊢
        refine ⟨_, rfl, a, d1, 7, rfl, gl3.da, hd1, by decide, by decide, by omega, fun r7 d2' hd2 hc2 r70 r71 => ?_⟩
        have kf : Kp a J17 (upd J17 a (.lst (dieL d2'))) := Kp.upd
        obtain ⟨v, pd, hat, hmem, hvd⟩ := pick (VdAll.kp gl3.r kf) rfl r70 r71
        refine ⟨l3, _, _, v, rfl, rfl, SqL.of (kf _ _ wl3 el3), hat, ?_⟩
        refine k v pd d2' _ hvd ?_ hd2 (by omega) (gl3.kp.trans kf) upd_same
        have fu : ∀ {ds' : List PyData} {m' : Nat}, FineL N1 n1 m' ds' → m' ≤ 2 * m + 100 → Fine (N1 + 1) (n1 + 1 + 4) (2 * m + 100) (.tuple ds') := fun f h => (fine_tup.mpr f).up (by omega) (by omega) h
        have zero : FineL N1 n1 1 [.int 0] := fineL_cons (m := 0) (k := 0) (fine_int (Nat.zero_le _)) fineL_nil
        have F : ∀ x ∈ ([.list ds, .tuple (cutD xs.length ds none (some (i : Int)) ++ cutD xs.length ds (some ((i : Int) + 1)) none), .tuple ((cutD xs.length ds none (some (i : Int)) ++ [.int 0]) ++ cutD xs.length ds (some (i : Int)) none), .tuple ds.reverse, .tuple [.tuple ds], .tuple [], .tuple (ds ++ cutD xs.length ds (some (-1)) none)] : List PyData), Fine (N1 + 1) (n1 + 1 + 4) (2 * m + 100) x :=
          List.forall_mem_cons.mpr ⟨(fine_lst.mpr fl).up (by omega) (by omega) (by omega), List.forall_mem_cons.mpr ⟨fu (fl.cut.app fl.cut) (by omega), List.forall_mem_cons.mpr ⟨fu ((fl.cut.app zero).app fl.cut) (by omega), List.forall_mem_cons.mpr ⟨fu fl.rev (by omega),
            List.forall_mem_cons.mpr ⟨(fine_tup.mpr (fineL_cons (fine_tup.mpr fl) (fineL_nil (m := 0)))).up (by omega) (by omega) (by omega), List.forall_mem_cons.mpr ⟨fu (fineL_nil (m := 0)) (by omega), List.forall_mem_cons.mpr ⟨fu (fl.app fl.cut) (by omega), by intro _ z; cases z⟩⟩⟩⟩⟩⟩⟩
        exact F pd hmem
      | str z =>
        have lz : z.length ≤ 900 := Nat.le_trans fi.str_.2 m9
        have lzl : z.length ≤ sizeLine := Nat.le_trans lz (by decide)
        have pl : Pl H (.str z) (.type "str") := .str z (Nat.le_trans lz (by decide))
        refine ⟨_, rfl, _, _, _, _, false, rfl, .ty "tuple", pl.tyx, kit_tup pl (fun _ _ z => nomatch z), _, rfl, ?_⟩
        refine iteF ?_
        refine ⟨_, rfl, _, _, _, _, true, rfl, .ty "str", pl.tyx, kit_ty (by decide +kernel), _, rfl, ?_⟩
        refine iteT ?_
        refine ⟨_, rfl, _, rfl, z, rfl, lzl, _, _, rfl, rfl, a, d, _, rfl, ha, hd, by omega, by omega, by omega, fun at_ d1 hd1 hc1 at0 at1 => ?_⟩
        obtain ⟨i, rfl⟩ : ∃ i : Nat, at_ = (i : Int) := ⟨at_.toNat, by omega⟩
        have g0 : Gr a (dieL d1) H (upd H a (.lst (dieL d1))) [] [] := ⟨Kp.upd, upd_same, .nil⟩
        generalize upd H a (.lst (dieL d1)) = J0 at g0 ⊢
        have c1 : ∀ {lo hi : Option Int}, (cutS z lo hi).length ≤ 900 := fun {lo hi} => Nat.le_trans cutS_in.2 lz
        have o1 : ∀ {x : Str}, x.length ≤ 900 → (x ++ ("0" : Str)).length ≤ 901 := fun h => by rw [app_len]; show _ + 1 ≤ 901; omega
        refine ⟨_, rfl, _, rfl, _, rfl, z, rfl, lzl, _, _, rfl, rfl, str_sz (Nat.le_trans c1 (by decide)) (by decide), _, rfl, _, rfl, _, rfl, ?_⟩
        refine slNS ⟨z, rfl, lzl, _, _, rfl, rfl, str_sz (Nat.le_trans (o1 c1) (by decide)) (Nat.le_trans c1 (by decide)), _, rfl, _, rfl, _, rfl, z, rfl, lzl, _, rfl, _, rfl, _, _, rfl, rfl, _, rfl, ?_⟩
        refine slNS ⟨z, rfl, lzl, _, _, rfl, rfl, str_sz (Nat.le_trans c1 (by decide)) (Nat.le_trans c1 (by decide)), _, rfl, _, _, rfl, rfl, str_sz (Nat.le_trans lz (by decide)) (by decide), _, rfl, .inl ⟨z, rfl, lzl, _, rfl, (by show 1 ≤ sizeLine; decide), fun q6 n6 => ?_⟩⟩
        have g1 := (((((g0.add (.str ((cutS z none (some (i : Int)) ++ "0") ++ cutS z (some (i : Int)) none))).add (.str (cutS z none (some (i : Int)) ++ cutS z (some ((i : Int) + 1)) none))).add (.str (z ++ "1"))).add (.str ⟨z.cps.toList.reverse.toArray⟩)).add .non)
        have g6 := (g1.new n6 (o := .tup [.str z])).add (.tup (ne_die g1.da n6) upd_same (.cons (.str z) .nil))
        generalize upd J0 q6 (.tup [.str z]) = J6 at g6 ⊢
        refine ⟨(by show 6 ≤ sizeLine; decide), fun l1 nl1 => ?_⟩
        have gl1 := g6.new nl1 (o := .lst [.str ((cutS z none (some (i : Int)) ++ "0") ++ cutS z (some (i : Int)) none), .str (cutS z none (some (i : Int)) ++ cutS z (some ((i : Int) + 1)) none), .str (z ++ "1"), .str ⟨z.cps.toList.reverse.toArray⟩, .non, .ref q6])
        have wl1 := ne_die g6.da nl1
        have el1 : upd J6 l1 (.lst [.str ((cutS z none (some (i : Int)) ++ "0") ++ cutS z (some (i : Int)) none), .str (cutS z none (some (i : Int)) ++ cutS z (some ((i : Int) + 1)) none), .str (z ++ "1"), .str ⟨z.cps.toList.reverse.toArray⟩, .non, .ref q6]) l1 = some (.lst [.str ((cutS z none (some (i : Int)) ++ "0") ++ cutS z (some (i : Int)) none), .str (cutS z none (some (i : Int)) ++ cutS z (some ((i : Int) + 1)) none), .str (z ++ "1"), .str ⟨z.cps.toList.reverse.toArray⟩, .non, .ref q6]) := upd_same
        generalize upd J6 l1 (.lst [.str ((cutS z none (some (i : Int)) ++ "0") ++ cutS z (some (i : Int)) none), .str (cutS z none (some (i : Int)) ++ cutS z (some ((i : Int) + 1)) none), .str (z ++ "1"), .str ⟨z.cps.toList.reverse.toArray⟩, .non, .ref q6]) = J7 at gl1 el1 ⊢
        refine ⟨_, rfl, _, rfl, _, _, rfl, rfl, str_sz (Nat.le_trans lz (by decide)) (by decide), _, rfl, _, _, rfl, rfl, str_sz (Nat.le_trans lz (by decide)) (by decide), (by show 3 ≤ sizeLine; decide), fun l2 nl2 => ?_⟩
        have gx := ((gl1.add (.str (z ++ "5"))).add (.str (z ++ " "))).add (.int 0)
        have gl2 := gx.new nl2 (o := .lst [.str (z ++ "5"), .str (z ++ " "), .int 0])
        have el2 : upd J7 l2 (.lst [.str (z ++ "5"), .str (z ++ " "), .int 0]) l2 = some (.lst [.str (z ++ "5"), .str (z ++ " "), .int 0]) := upd_same
        have el1' := (Kp.new (o := .lst [.str (z ++ "5"), .str (z ++ " "), .int 0]) nl2) _ _ wl1 el1
        generalize upd J7 l2 (.lst [.str (z ++ "5"), .str (z ++ " "), .int 0]) = J8 at gl2 el2 el1' ⊢
        refine ⟨l1, l2, _, _, rfl, rfl, el1', el2, (by show 9 ≤ sizeLine; decide), fun l3 nl3 => ?_⟩
        generalize hL : ([V.str ((cutS z none (some (i : Int)) ++ "0") ++ cutS z (some (i : Int)) none), .str (cutS z none (some (i : Int)) ++ cutS z (some ((i : Int) + 1)) none), .str (z ++ "1"), .str ⟨z.cps.toList.reverse.toArray⟩, .non, .ref q6] ++ [.str (z ++ "5"), .str (z ++ " "), .int 0] : List V) = L at *
        have gl3 := gl2.new nl3 (o := .lst L)
        have wl3 := ne_die gl2.da nl3
        have el3 : upd J8 l3 (.lst L) l3 = some (.lst L) := upd_same
        generalize upd J8 l3 (.lst L) = J9 at gl3 el3 ⊢
        refine ⟨_, rfl, a, d1, 9, rfl, gl3.da, hd1, by decide, by decide, by omega, fun r7 d2' hd2 hc2 r70 r71 => ?_⟩
        have kf : Kp a J9 (upd J9 a (.lst (dieL d2'))) := Kp.upd
        obtain ⟨v, pd, hat, hmem, hvd⟩ := pick (VdAll.kp gl3.r kf) rfl r70 r71
        refine ⟨l3, _, _, v, rfl, rfl, SqL.of (kf _ _ wl3 el3), by rw [← hL]; exact hat, ?_⟩
        refine k v pd d2' _ hvd ?_ hd2 (by omega) (gl3.kp.trans kf) upd_same
        have fs : ∀ {x : Str} {m' : Nat}, Fine N1 n m' (.str x) → m' ≤ 2 * m + 100 → Fine (N1 + 1) (n + 4) (2 * m + 100) (.str x) := fun f h => f.up (by omega) (by omega) h
        have one : ∀ {x : Str}, (∀ c ∈ x.cps.toList, c < 128) → x.length ≤ 1 → Fine N1 n 1 (.str x) := fun h1 h2 => fine_str h1 h2
        have rv : Fine N1 n m (.str ⟨z.cps.toList.reverse.toArray⟩) := fine_str (fun c hc => fi.str_.1 c (by simpa using hc)) (by show (List.toArray _).size ≤ m; rw [List.size_toArray, List.length_reverse, Array.length_toList]; exact fi.str_.2)
        have F : ∀ x ∈ ([.str ((cutS z none (some (i : Int)) ++ "0") ++ cutS z (some (i : Int)) none), .str (cutS z none (some (i : Int)) ++ cutS z (some ((i : Int) + 1)) none), .str (z ++ "1"), .str ⟨z.cps.toList.reverse.toArray⟩, .none, .tuple [.str z], .str (z ++ "5"), .str (z ++ " "), .int 0] : List PyData), Fine (N1 + 1) (n + 4) (2 * m + 100) x :=
          List.forall_mem_cons.mpr ⟨fs (fine_app (fine_app (fine_cut fi) (one (by decide +kernel) (by decide))) (fine_cut fi)) (by omega), List.forall_mem_cons.mpr ⟨fs (fine_app (fine_cut fi) (fine_cut fi)) (by omega), List.forall_mem_cons.mpr ⟨fs (fine_app fi (one (by decide +kernel) (by decide))) (by omega),
            List.forall_mem_cons.mpr ⟨fs rv (by omega), List.forall_mem_cons.mpr ⟨fine_non, List.forall_mem_cons.mpr ⟨(fine_tup.mpr (fineL_cons fi (fineL_nil (m := 0)))).up (by omega) (by omega) (by omega), List.forall_mem_cons.mpr ⟨fs (fine_app fi (one (by decide +kernel) (by decide))) (by omega),
            List.forall_mem_cons.mpr ⟨fs (fine_app fi (one (by decide +kernel) (by decide))) (by omega), List.forall_mem_cons.mpr ⟨fine_int (Nat.zero_le _), by intro _ z; cases z⟩⟩⟩⟩⟩⟩⟩⟩⟩
        exact F pd hmem
      | int i =>
        have pl : Pl H (.int i) (.type "int") := .int i
        have hi := fi.int_
        refine ⟨_, rfl, _, _, _, _, false, rfl, .ty "tuple", pl.tyx, kit_tup pl (fun _ _ z => nomatch z), _, rfl, ?_⟩
        refine iteF ?_
        refine ⟨_, rfl, _, _, _, _, false, rfl, .ty "str", pl.tyx, kit_ty (by decide +kernel), _, rfl, ?_⟩
        refine iteF ?_
        refine ⟨_, rfl, _, _, _, _, true, rfl, .ty "int", pl.tyx, kit_ty (by decide +kernel), _, rfl, ?_⟩
        refine iteT ?_
        refine ⟨_, rfl, _, _, _, _, false, rfl, .ty "bool", pl.tyx, kit_ty (by decide +kernel), _, rfl, ?_⟩
        refine iteT ?_
        have hbig : i.natAbs ≤ 10 ^ 50 := Nat.le_trans hi (Nat.le_trans NN (by decide))
        refine ⟨_, rfl, _, _, rfl, rfl, _, rfl, _, _, rfl, rfl, _, rfl, _, _, rfl, rfl, _, rfl, i, rfl, int_log hbig, _, rfl, rfl, _, rfl, (by show 1 ≤ sizeLine; decide), fun q6 n6 => ?_⟩
        have g0 : Gr a (dieL d) H H [] [] := ⟨Kp.refl _ _, ha, .nil⟩
        have g1 := (((((g0.add (.int (i + 1))).add (.int (i - 1))).add (.int (0 - i))).add (.str (toString i))).add (.bl (decide (V.int i = V.int 1))))
        have g6 := ((g1.new n6 (o := .tup [.int i])).add (.tup (ne_die g1.da n6) upd_same (.cons (.int i) .nil))).add .non
        generalize upd H q6 (.tup [.int i]) = J6 at g6 ⊢
        refine ⟨(by show 7 ≤ sizeLine; decide), fun l1 nl1 => ?_⟩
        have gl1 := g6.new nl1 (o := .lst [.int (i + 1), .int (i - 1), .int (0 - i), .str (toString i), .bl (decide (V.int i = V.int 1)), .ref q6, .non])
        have wl1 := ne_die g6.da nl1
        have el1 : upd J6 l1 (.lst [.int (i + 1), .int (i - 1), .int (0 - i), .str (toString i), .bl (decide (V.int i = V.int 1)), .ref q6, .non]) l1 = some (.lst [.int (i + 1), .int (i - 1), .int (0 - i), .str (toString i), .bl (decide (V.int i = V.int 1)), .ref q6, .non]) := upd_same
        generalize upd J6 l1 (.lst [.int (i + 1), .int (i - 1), .int (0 - i), .str (toString i), .bl (decide (V.int i = V.int 1)), .ref q6, .non]) = J9 at gl1 el1 ⊢
        refine ⟨_, rfl, a, d, 7, rfl, gl1.da, hd, by decide, by decide, by omega, fun r7 d2' hd2 hc2 r70 r71 => ?_⟩
        have kf : Kp a J9 (upd J9 a (.lst (dieL d2'))) := Kp.upd
        obtain ⟨v, pd, hat, hmem, hvd⟩ := pick (VdAll.kp gl1.r kf) rfl r70 r71
        refine ⟨l1, _, _, v, rfl, rfl, SqL.of (kf _ _ wl1 el1), hat, ?_⟩
        refine k v pd d2' _ hvd ?_ hd2 (by omega) (gl1.kp.trans kf) upd_same
        have F : ∀ x ∈ ([.int (i + 1), .int (i - 1), .int (0 - i), .str (toString i), .bool (decide (V.int i = V.int 1)), .tuple [.int i], .none] : List PyData), Fine (N1 + 1) (n + 4) (2 * m + 100) x :=
          List.forall_mem_cons.mpr ⟨fine_int (by omega), List.forall_mem_cons.mpr ⟨fine_int (by omega), List.forall_mem_cons.mpr ⟨fine_int (by omega), List.forall_mem_cons.mpr ⟨(fine_str int_chars (Nat.le_trans (int_short hbig) (by omega))),
            List.forall_mem_cons.mpr ⟨fine_bl, List.forall_mem_cons.mpr ⟨(fine_tup.mpr (fineL_cons fi (fineL_nil (m := 0)))).up (by omega) (by omega) (by omega), List.forall_mem_cons.mpr ⟨fine_non, by intro _ z; cases z⟩⟩⟩⟩⟩⟩⟩
        exact F pd hmem
      | non =>
        have pl : Pl H .non (.type "NoneType") := .non
        refine ⟨_, rfl, _, _, _, _, false, rfl, .ty "tuple", pl.tyx, kit_ty (by decide +kernel), _, rfl, ?_⟩
        refine iteF ?_
        refine ⟨_, rfl, _, _, _, _, false, rfl, .ty "str", pl.tyx, kit_ty (by decide +kernel), _, rfl, ?_⟩
        refine iteF ?_
        refine ⟨_, rfl, _, _, _, _, false, rfl, .ty "int", pl.tyx, kit_ty (by decide +kernel), _, rfl, ?_⟩
        refine iteF ?_
        refine iteF ?_
        exact ⟨_, rfl, odd⟩
      | bl b =>
        have pl : Pl H (.bl b) (.type "bool") := .bl b
        refine ⟨_, rfl, _, _, _, _, false, rfl, .ty "tuple", pl.tyx, kit_ty (by decide +kernel), _, rfl, ?_⟩
        refine iteF ?_
        refine ⟨_, rfl, _, _, _, _, false, rfl, .ty "str", pl.tyx, kit_ty (by decide +kernel), _, rfl, ?_⟩
        refine iteF ?_
        refine ⟨_, rfl, _, _, _, _, true, rfl, .ty "int", pl.tyx, kit_ty (by decide +kernel), _, rfl, ?_⟩
        refine iteT ?_
        refine ⟨_, rfl, _, _, _, _, true, rfl, .ty "bool", pl.tyx, kit_ty (by decide +kernel), _, rfl, ?_⟩
        refine iteF ?_
        exact ⟨_, rfl, odd⟩
      | lst n1 n2 e1 r =>
        have pl := Pl.lst e1
        refine ⟨_, rfl, _, _, _, _, false, rfl, .ty "tuple", pl.tyx, kit_ty (by decide +kernel), _, rfl, ?_⟩
        refine iteF ?_
        refine ⟨_, rfl, _, _, _, _, false, rfl, .ty "str", pl.tyx, kit_ty (by decide +kernel), _, rfl, ?_⟩
        refine iteF ?_
        refine ⟨_, rfl, _, _, _, _, false, rfl, .ty "int", pl.tyx, kit_ty (by decide +kernel), _, rfl, ?_⟩
        refine iteF ?_
        refine iteF ?_
        exact ⟨_, rfl, odd⟩
      | d0 n1 e1 =>
        have pl := Pl.dct e1
        refine ⟨_, rfl, _, _, _, _, false, rfl, .ty "tuple", pl.tyx, kit_ty (by decide +kernel), _, rfl, ?_⟩
        refine iteF ?_
        refine ⟨_, rfl, _, _, _, _, false, rfl, .ty "str", pl.tyx, kit_ty (by decide +kernel), _, rfl, ?_⟩
        refine iteF ?_
        refine ⟨_, rfl, _, _, _, _, false, rfl, .ty "int", pl.tyx, kit_ty (by decide +kernel), _, rfl, ?_⟩
        refine iteF ?_
        refine iteF ?_
        exact ⟨_, rfl, odd⟩
      | d1 n1 e1 =>
        have pl := Pl.dct e1
        refine ⟨_, rfl, _, _, _, _, false, rfl, .ty "tuple", pl.tyx, kit_ty (by decide +kernel), _, rfl, ?_⟩
        refine iteF ?_
        refine ⟨_, rfl, _, _, _, _, false, rfl, .ty "str", pl.tyx, kit_ty (by decide +kernel), _, rfl, ?_⟩
        refine iteF ?_
        refine ⟨_, rfl, _, _, _, _, false, rfl, .ty "int", pl.tyx, kit_ty (by decide +kernel), _, rfl, ?_⟩
        refine iteF ?_
        refine iteF ?_
        exact ⟨_, rfl, odd⟩
    · have tail : ∀ (D : Ends) (J : Hp) (d1 : Int × Int × Int), D.rt = Q → Kp a H J → J a = some (.lst (dieL d1)) → DieOk d1 → d1.2.2 ≤ d.2.2 + 1 → tTail D [some (.ref a), some v, some (.int deep), none, none] J := fun D J d1 eD kp da hd1 hc1 =>
        ⟨a, d1, v, .int deep, pd, N1, n, m, d.2.2 + 3 * ((j : Int) + 1), rfl, da, hd1, by omega, Vd.kp vd kp, fi, N0N, NN, n20, m9, by omega, by rw [eD]; exact fun v' pd' d' H' x1 x2 x3 x4 x5 x6 => k v' pd' d' H' x1 x2 x3 x4 (kp.trans x5) x6⟩
      obtain ⟨t, pl⟩ := vd_pl vd fi (by omega)
      by_cases ht : ∃ ds, pd = .tuple ds
      · obtain ⟨ds, rfl⟩ := ht
        cases vd with
        | @tup p xs _ np e r =>
          obtain ⟨n1, rfl, fl⟩ := fine_tup' fi
          have lx : xs.length ≤ 900 := by rw [r.len]; exact Nat.le_trans fl.len m9
          refine ⟨_, rfl, _, _, _, _, true, rfl, .ty "tuple", (Pl.tup e).tyx, kit_ty (by decide +kernel), _, rfl, ?_⟩
          refine iteT ?_
          refine ⟨_, rfl, (by show 0 ≤ sizeLine; exact Nat.zero_le _), fun q nq => ?_⟩
          have kq : Kp a H (upd H q (.tup [])) := Kp.new nq
          have aq : upd H q (.tup []) a = some (.lst (dieL d)) := by rw [upd_ne (ne_die ha nq).symm]; exact ha
          have eq : upd H q (.tup []) q = some (.tup []) := upd_same
          generalize upd H q (.tup []) = J1 at kq aq eq ⊢
          refine ⟨p, q, xs, rfl, rfl, SqT.of (kq _ _ np e), SqT.of eq, _, rfl, ?_⟩
          by_cases hx : xs = []
          · refine iteFB (decide_eq_false (fun z => z hx)) ?_
            refine iteF ?_
            exact tail _ J1 d rfl kq aq hd (by omega)
          · refine iteTB (decide_eq_true hx) ?_
            refine ⟨_, rfl, _, _, rfl, rfl, _, rfl, ?_⟩
            by_cases hdp : 0 < deep
            · refine iteTB (decide_eq_true hdp) ?_
              obtain ⟨j', rfl⟩ : ∃ j', j = j' + 1 := ⟨j - 1, by omega⟩
              refine ⟨_, rfl, a, d, 4, rfl, aq, hd, by decide, by decide, by omega, fun r4 d1 hd1 hc1 r40 r41 => ?_⟩
              have k1 : Kp a H (upd J1 a (.lst (dieL d1))) := kq.trans Kp.upd
              have a1 : upd J1 a (.lst (dieL d1)) a = some (.lst (dieL d1)) := upd_same
              generalize upd J1 a (.lst (dieL d1)) = J2 at k1 a1 ⊢
              refine ⟨_, _, rfl, rfl, _, rfl, ?_⟩
              by_cases h4 : 0 < r4
              · refine iteTB (decide_eq_true h4) ?_
                have x0 : 0 < xs.length := List.length_pos_iff.mpr hx
                refine ⟨_, rfl, _, rfl, p, xs, rfl, .inr (SqT.of (k1 _ _ np e)), a, d1, _, rfl, a1, hd1, by omega, by omega, by omega, fun at_ d2 hd2 hc2 at0 at1 => ?_⟩
                obtain ⟨i, rfl⟩ : ∃ i : Nat, at_ = (i : Int) := ⟨at_.toNat, by omega⟩
                have hi : i < xs.length := by omega
                have g0 : Gr a (dieL d2) H (upd J2 a (.lst (dieL d2))) [] [] := ⟨k1.trans Kp.upd, upd_same, .nil⟩
                generalize upd J2 a (.lst (dieL d2)) = J3 at g0 ⊢
                refine ⟨_, rfl, _, rfl, _, rfl, ?_⟩
                refine slA_gr (g0.kp _ _ np e) np g0.da (fun q1 J4 k4 d4 e4 ne4 => ?_)
                rw [cutV_take (by omega)] at e4
                have g4 := g0.move k4 d4
                have hv := List.getElem?_eq_getElem hi
                obtain ⟨x, hpd, vdx⟩ := (VdAll.kp r g4.kp).at_ hv
                obtain ⟨kk, jj, hkj, fx, cl⟩ := fl.at_ hpd
                refine ⟨_, rfl, _, rfl, _, rfl, p, xs, (i : Int), _, rfl, rfl, SqT.of (g4.kp _ _ np e), atI_nat hv, _, rfl, _, _, rfl, rfl, ?_⟩
                refine ⟨a, d2, _, deep - 1, x, N1, n1, kk, rfl, g4.da, hd2, by omega, by omega, vdx, fx, N0N, NN, by omega, by omega, fun v' pd' d3 J5 hv' hf' hd3 hc3 kp5 a5 => ?_⟩
                refine ⟨(by show 1 ≤ sizeLine; decide), fun q2 n2 => ?_⟩
                have g5 : Gr a (dieL d3) H J5 [] [] := ⟨g4.kp.trans kp5, a5, .nil⟩
                have ne6 := ne_die g5.da n2
                have e4' := Kp.new (o := .tup [v']) n2 _ _ ne4 (kp5 _ _ ne4 e4)
                have hv6 := Vd.up (o := .tup [v']) n2 hv'
                have e6 : upd J5 q2 (.tup [v']) q2 = some (.tup [v']) := upd_same
                have g6 := g5.new n2 (o := .tup [v'])
                generalize upd J5 q2 (.tup [v']) = J6 at g6 e6 e4' hv6 ⊢
                have lt : (xs.take i).length ≤ 900 := by rw [List.length_take]; omega
                refine catA_gr e4' ne4 e6 ne6 g6.da (sz2 (Nat.le_trans lt (by decide)) (by show 1 ≤ 2000; decide)) (fun q7 J7 k7 d7 e7 ne7 => ?_)
                have g7 := g6.move k7 d7
                refine ⟨_, rfl, _, rfl, _, _, rfl, rfl, _, rfl, ?_⟩
                refine slN ?_
                refine slA_gr (g7.kp _ _ np e) np g7.da (fun q8 J8 k8 d8 e8 ne8 => ?_)
                rw [show ((i : Int) + 1) = ((i + 1 : Nat) : Int) by omega, cutV_drop (by omega)] at e8
                have g8 := g7.move k8 d8
                refine catA_gr (k8 _ _ ne7 e7) ne7 e8 ne8 g8.da (sz2 (by rw [List.length_append]; show _ + 1 ≤ 2000; omega) (by rw [List.length_drop]; omega)) (fun q9 J9 k9 d9 e9 ne9 => ?_)
                have g9 := g8.move k9 d9
                have rr := VdAll.kp r g9.kp
                have ff := cl (N' := N1 + 1) (n' := n1 + 4) (by omega) (by omega) hf'
                have eds : (ds.take i ++ [pd']) ++ ds.drop (i + 1) = ds.take i ++ pd' :: ds.drop (i + 1) := by rw [List.append_assoc]; rfl
                refine k _ (.tuple ((ds.take i ++ [pd']) ++ ds.drop (i + 1))) d3 J9 (.tup ne9 e9 (((rr.take i).app (.cons (Vd.kp hv6 (k7.trans (k8.trans k9))) .nil)).app (rr.drop (i + 1)))) ?_ hd3 (by omega) g9.kp g9.da
                rw [eds]
                exact (fine_tup.mpr ff).up (Nat.le_refl _) (by omega) (by omega)
              · refine iteFB (decide_eq_false h4) ?_
                exact tail _ J2 d1 rfl k1 a1 hd1 (by omega)
            · refine iteFB (decide_eq_false hdp) ?_
              refine iteF ?_
              exact tail _ J1 d rfl kq aq hd (by omega)
      · refine ⟨_, rfl, _, _, _, _, false, rfl, .ty "tuple", pl.tyx, kit_tup pl (vd_nt vd (fun ds z => ht ⟨ds, z⟩)), _, rfl, ?_⟩
        refine iteF ?_
        refine iteF ?_
        exact tail _ H d rfl (Kp.refl _ _) ha hd (by omega)
end
end Vf


set_option Elab.async false
set_option maxRecDepth 100000
set_option maxHeartbeats 16000000
set_option exponentiation.threshold 3000
namespace Vf
open PySem L2 SX Vm VG
theorem takesE {X : Cx} : Takes X (fun _ _ _ _ => False) := fun _ _ x => by
  obtain ⟨_, _, _, _, _, _, _, _, _, _, _, _, _, _, _, _, z⟩ := x
  exact z.elim
theorem fours (x y z t : Bool) : (PyData.list [.bool x, .bool y, .bool z, .bool t]).shown.length ≤ sizeLine := by cases x <;> cases y <;> cases z <;> cases t <;> decide +kernel
theorem vd_same {a : Addr} {H H' : Hp} {v : V} {d : PyData} (r : Vd a H v d) (s : Same H H') : Vd a H' v d := VG.Vd.keep (fun q o _ _ e => s q o e) d v r
theorem same_up {H : Hp} {p : Addr} {o : HO} (n : H p = none) : Same H (upd H p o) := fun b u e => by rw [upd_ne (ne_of_none e n)]; exact e
theorem within_25 {b : Nat} (b2 : 2 ≤ b) (b5 : b ≤ 5) : withinV 2 5 (.int (b : Int)) = true := by
  show (decide ((2 : Int) ≤ b) && decide ((b : Int) ≤ 5)) = true
  rw [decide_eq_true (by omega), decide_eq_true (by omega)]
  rfl
theorem within_R {R : Int} (r1 : 1 ≤ R) (r5 : R ≤ 5000) : withinV 1 5000 (.int R) = true := by
  show (decide ((1 : Int) ≤ R) && decide (R ≤ 5000)) = true
  rw [decide_eq_true r1, decide_eq_true r5]
  rfl
theorem pl_int {H : Hp} {i : Int} : Pl H (.int i) (.type "int") := .int i
theorem nat_of {b b' : Nat} (e : V.int (b : Int) = V.int (b' : Int)) : b = b' := by have := V.int.inj e; omega
def spJudged : Sp := fun vs H Q _ => ∃ (a : Addr) (b : Nat) (R : Int) (v : V) (d : PyData) (N n m : Nat), vs = [.int (b : Int), .int R, v] ∧ 2 ≤ b ∧ b ≤ 5 ∧ 1 ≤ R ∧ R ≤ 5000 ∧ Vd a H v d ∧ Fine N n m d ∧ N ≤ 10 ^ 50 ∧ n ≤ 40 ∧ m ≤ 1000 ∧ ∀ H', Same H H' → Q (.bl true) H'
section
variable {P : Program} {w : World} {K : PySem.W.Frag} {mg : Str → Option Value} {base : Heap}
theorem scJudged : FnScope ["base", "wide", "value", "due", "found", "kept"] ["base", "wide", "value"] (defScope sJudged) := ⟨rfl, rfl, rfl, by decide +kernel, rfl, by decide +kernel, by decide +kernel⟩
theorem ok_judged {f fB fW fP fS fC fD fL fE CN : Addr} {fd fdB fdW fdP fdS fdC fdD fdL fdE : FuncData} (F : Fun K "_law_judged" "_law_judged" sJudged f fd)
    (GB : FnOk P w K mg base CX0 3 fB fdB ["value"] spIsBase) (cB : Cal K mg "is_base" fB fdB ["value"])
    (GW : FnOk P w K mg base (L2.CX P w) 5 fW fdW ["base", "value"] (spIsWord CN)) (cW : Cal K mg "is_word" fW fdW ["base", "value"])
    (GP : FnOk P w K mg base (L2.CX P w) 5 fP fdP ["base", "roots", "value"] (spIsPfxG CN)) (cP : Cal K mg "is_prefix" fP fdP ["base", "roots", "value"])
    (GS : FnOk P w K mg base (L2.CX P w) 5 fS fdS ["base", "roots", "value"] (spIsStrG CN)) (cS : Cal K mg "is_stream" fS fdS ["base", "roots", "value"])
    (GC : FnOk P w K mg base CX0 1 fC fdC ["value", "low", "high"] spIsCount) (cC : Cal K mg "_law_is_count" fC fdC ["value", "low", "high"])
    (GD : FnOk P w K mg base CX0 1 fD fdD ["base", "value"] spIsDig) (cD : Cal K mg "_law_is_digits" fD fdD ["base", "value"])
    (GL : FnOk P w K mg base CX0 2 fL fdL ["base", "wide", "value"] spIsPlace) (cL : Cal K mg "_law_is_place" fL fdL ["base", "wide", "value"])
    (GE : FnOk P w K mg base CX0 2 fE fdE ["base", "wide", "value"] spIsEnd) (cE : Cal K mg "_law_is_endless" fE fdE ["base", "wide", "value"]) (N : NmL mg) :
    VG.FnG P w K mg base 6 f fd ["base", "wide", "value"] spJudged := by
  refine VG.FnG.of F scJudged (fun vs H Q E h => ?_) (fun cdv A outer s H vs Q E gd hr _ _ h => ?_)
  · obtain ⟨a, b, R, v, d, N1, n, m, rfl, _⟩ := h
    rfl
  · obtain ⟨a, b, R, v, d, N1, n, m, rfl, b2, b5, r1, r5, vd, fi, hN, hn, hm, k⟩ := h
    have nd := scJudged.nd
    have hun : A.units + 3 + 64 < cLine := hr.units
    have hr1 := hr.mono (show 1 ≤ 5 by decide)
    have hr2 := hr.mono (show 2 ≤ 5 by decide)
    have hr3 := hr.mono (show 3 ≤ 5 by decide)
    refine ⟨_, pss_cons (ps_set (i := 5) nd rfl (.inl rfl) (pe_callB (VG.call_reprV gd hun) (by rfl) N.rep PyProof.Rows.boot_repr (pa_cons (pv 2) pa_nil)))
      (pss_cons (ps_set (i := 4) nd rfl (.inl rfl) (pe_lst (pa_cons (pe_call GB hr3 rfl cB.mg cB.kp cB.b .nil pass0 (pa_cons (pv 2) pa_nil))
        (pa_cons (pe_call GW hr rfl cW.mg cW.kp cW.b .nil (passes_call takesE (fun _ _ _ _ h => h)) (pa_cons (pv 0) (pa_cons (pv 2) pa_nil))) pa_nil))))
      (pss_cons (ps_set (i := 4) nd rfl (.inl rfl) (pe_op op_cat (pv 4) (pe_lst (pa_cons (pe_call GP hr rfl cP.mg cP.kp cP.b .nil (passes_call takesE (fun _ _ _ _ h => h)) (pa_cons (pv 0) (pa_cons (pv 1) (pa_cons (pv 2) pa_nil))))
        (pa_cons (pe_call GS hr rfl cS.mg cS.kp cS.b .nil (passes_call takesE (fun _ _ _ _ h => h)) (pa_cons (pv 0) (pa_cons (pv 1) (pa_cons (pv 2) pa_nil)))) pa_nil)))))
      (pss_cons (ps_set (i := 3) nd rfl (.inl rfl) (pe_lst (pa_cons (pe_call GC hr1 rfl cC.mg cC.kp cC.b .nil pass0 (pa_cons (pv 2) (pa_cons pe_int (pa_cons pe_int pa_nil))))
        (pa_cons (pe_call GD hr1 rfl cD.mg cD.kp cD.b .nil pass0 (pa_cons (pv 0) (pa_cons (pv 2) pa_nil))) pa_nil))))
      (pss_cons (ps_set (i := 3) nd rfl (.inl rfl) (pe_op op_cat (pv 3) (pe_lst (pa_cons (pe_call GL hr2 rfl cL.mg cL.kp cL.b .nil pass0 (pa_cons (pv 0) (pa_cons (pv 1) (pa_cons (pv 2) pa_nil))))
        (pa_cons (pe_call GE hr2 rfl cE.mg cE.kp cE.b .nil pass0 (pa_cons (pv 0) (pa_cons (pv 1) (pa_cons (pv 2) pa_nil)))) pa_nil)))))
      (pss_one (ps_ret (pe_and (pe_cmpR op_eq (pe_callB (VG.call_repr gd (by show A.units + 3 + 10 < cLine; omega)) (by rfl) N.rep PyProof.Rows.boot_repr (pa_cons (pv 4) pa_nil))
          (pe_callB (VG.call_repr gd (by show A.units + 3 + 10 < cLine; omega)) (by rfl) N.rep PyProof.Rows.boot_repr (pa_cons (pv 3) pa_nil)) (nomark _))
        (pe_one (pe_cmpR op_eq (pe_callB (VG.call_reprV gd hun) (by rfl) N.rep PyProof.Rows.boot_repr (pa_cons (pv 2) pa_nil)) (pv 5) (nomark _)))))))))), ?_⟩
    obtain ⟨t, pl⟩ := vd_pl vd fi (Nat.le_trans hm (by decide))
    obtain ⟨sh1, sh2, sh3⟩ := fi.show hN hn (Nat.le_trans hm (by decide))
    refine ⟨_, rfl, v, d, a, rfl, vd, sh1, sh2, sh3, ?_⟩
    have wb : withinV 2 5 (.int (b : Int)) = false → ∀ {C : Prop}, C := fun z => absurd ((within_25 b2 b5).symm.trans z) (by decide)
    have wR : withinV 1 5000 (.int R) = false → ∀ {C : Prop}, C := fun z => absurd ((within_R r1 r5).symm.trans z) (by decide)
    refine ⟨_, rfl, v, t, rfl, pl, _, rfl, _, rfl, _, v, _, rfl, pl_int, fun z => wb z, fun b' eb _ _ => ?_⟩
    obtain rfl := nat_of eb
    refine ⟨t, pl, (by show 2 ≤ sizeLine; decide), fun p1 n1 => ?_⟩
    have s1 : Same H (upd H p1 (.lst [.bl (withinV 2 5 v), .bl (wordV b v)])) := same_up n1
    have e1 : upd H p1 (.lst [.bl (withinV 2 5 v), .bl (wordV b v)]) p1 = some (.lst [.bl (withinV 2 5 v), .bl (wordV b v)]) := upd_same
    generalize upd H p1 (.lst [.bl (withinV 2 5 v), .bl (wordV b v)]) = J1 at s1 e1 ⊢
    have vd1 := vd_same vd s1
    refine ⟨_, rfl, _, rfl, _, rfl, _, rfl, _, _, v, _, _, rfl, pl_int, pl_int, fun z => wb z, fun _ z => wR z, fun b' R' eb eR _ _ _ _ => ?_⟩
    obtain rfl := nat_of eb
    obtain rfl := V.int.inj eR
    refine ⟨_, vd_pg vd1 fi hm, _, rfl, _, rfl, _, rfl, _, _, v, _, _, rfl, pl_int, pl_int, fun z => wb z, fun _ z => wR z, fun b' R' eb eR _ _ _ _ => ?_⟩
    obtain rfl := nat_of eb
    obtain rfl := V.int.inj eR
    refine ⟨_, vd_sg vd1 fi hm, (by show 2 ≤ sizeLine; decide), fun p2 n2 => ?_⟩
    have s2 : Same J1 (upd J1 p2 (.lst [.bl (plcD b R d), .bl (endD b R d)])) := same_up n2
    have e2 : upd J1 p2 (.lst [.bl (plcD b R d), .bl (endD b R d)]) p2 = some (.lst [.bl (plcD b R d), .bl (endD b R d)]) := upd_same
    generalize upd J1 p2 (.lst [.bl (plcD b R d), .bl (endD b R d)]) = J2 at s2 e2 ⊢
    refine ⟨p1, p2, _, _, rfl, rfl, s2 _ _ e1, e2, (by show 4 ≤ sizeLine; decide), fun p3 n3 => ?_⟩
    have s3 : Same J2 (upd J2 p3 (.lst ([.bl (withinV 2 5 v), .bl (wordV b v)] ++ [.bl (plcD b R d), .bl (endD b R d)]))) := same_up n3
    have e3 : upd J2 p3 (.lst ([.bl (withinV 2 5 v), .bl (wordV b v)] ++ [.bl (plcD b R d), .bl (endD b R d)])) p3 = some (.lst [.bl (withinV 2 5 v), .bl (wordV b v), .bl (plcD b R d), .bl (endD b R d)]) := upd_same
    generalize upd J2 p3 (.lst ([.bl (withinV 2 5 v), .bl (wordV b v)] ++ [.bl (plcD b R d), .bl (endD b R d)])) = J3 at s3 e3 ⊢
    have s03 := (s1.trans s2).trans s3
    refine ⟨_, rfl, 2, 5, v, t, rfl, pl_same pl s03, _, rfl, _, rfl, b, v, t, rfl, b2, b5, pl_same pl s03, fun J4 s4 => ⟨(by show 2 ≤ sizeLine; decide), fun p5 n5 => ?_⟩⟩
    have s5 : Same J4 (upd J4 p5 (.lst [.bl (withinV 2 5 v), .bl (wordV b v)])) := same_up n5
    have e5 : upd J4 p5 (.lst [.bl (withinV 2 5 v), .bl (wordV b v)]) p5 = some (.lst [.bl (withinV 2 5 v), .bl (wordV b v)]) := upd_same
    generalize upd J4 p5 (.lst [.bl (withinV 2 5 v), .bl (wordV b v)]) = J5 at s5 e5 ⊢
    have s05 := (s03.trans s4).trans s5
    refine ⟨_, rfl, _, rfl, _, rfl, _, rfl, b, R, v, _, rfl, b2, b5, vd_pg (vd_same vd s05) fi hm, fun J6 s6 => ?_⟩
    have s06 := s05.trans s6
    refine ⟨_, rfl, _, rfl, _, rfl, b, R, v, _, rfl, b2, b5, vd_sg (vd_same vd s06) fi hm, fun J7 s7 => ⟨(by show 2 ≤ sizeLine; decide), fun p8 n8 => ?_⟩⟩
    have s8 : Same J7 (upd J7 p8 (.lst [.bl (plcD b R d), .bl (endD b R d)])) := same_up n8
    have e8 : upd J7 p8 (.lst [.bl (plcD b R d), .bl (endD b R d)]) p8 = some (.lst [.bl (plcD b R d), .bl (endD b R d)]) := upd_same
    generalize upd J7 p8 (.lst [.bl (plcD b R d), .bl (endD b R d)]) = J8 at s8 e8 ⊢
    have s58 := (s6.trans s7).trans s8
    refine ⟨p5, p8, _, _, rfl, rfl, s58 _ _ e5, e8, (by show 4 ≤ sizeLine; decide), fun p9 n9 => ?_⟩
    have s9 : Same J8 (upd J8 p9 (.lst ([.bl (withinV 2 5 v), .bl (wordV b v)] ++ [.bl (plcD b R d), .bl (endD b R d)]))) := same_up n9
    have e9 : upd J8 p9 (.lst ([.bl (withinV 2 5 v), .bl (wordV b v)] ++ [.bl (plcD b R d), .bl (endD b R d)])) p9 = some (.lst [.bl (withinV 2 5 v), .bl (wordV b v), .bl (plcD b R d), .bl (endD b R d)]) := upd_same
    generalize upd J8 p9 (.lst ([.bl (withinV 2 5 v), .bl (wordV b v)] ++ [.bl (plcD b R d), .bl (endD b R d)])) = J9 at s9 e9 ⊢
    have s39 := ((s4.trans s5).trans s58).trans s9
    have s09 := s03.trans s39
    refine ⟨_, rfl, _, .list [.bool _, .bool _, .bool _, .bool _], rfl, .lst (s39 _ _ e3) (.cons (.bl _) (.cons (.bl _) (.cons (.bl _) (.cons (.bl _) .nil)))), rfl, fours _ _ _ _, ?_⟩
    refine ⟨_, rfl, _, .list [.bool _, .bool _, .bool _, .bool _], rfl, .lst e9 (.cons (.bl _) (.cons (.bl _) (.cons (.bl _) (.cons (.bl _) .nil)))), rfl, fours _ _ _ _, rfl, _, rfl, ?_⟩
    refine iteTB (decide_eq_true rfl) ?_
    refine ⟨_, rfl, v, d, a, rfl, vd_same vd s09, sh1, sh2, sh3, _, rfl, rfl, ?_⟩
    rw [show decide (V.str d.shown = V.str d.shown) = true from decide_eq_true rfl]
    exact k J9 s09
end
end Vf


set_option Elab.async false
set_option maxRecDepth 100000
set_option maxHeartbeats 4000000
set_option exponentiation.threshold 3000
namespace Vf
open PySem L2 SX Vm
/-- a value that may stand where it is wrong: plain, and it can be shown -/
structure Odd (H : Hp) (v : V) : Prop where
  pl : ∃ t, Pl H v t
  sh : ∃ d : PyData, VG.Sh H v d ∧ d.showable = true ∧ d.shown.length ≤ 1000 ∧ PyData.canLay0 (.str (("number " : Str) ++ d.shown)) = true
/-- the error classes below PrefixError, and their words -/
def kC (CS CX CO : Addr) : Nat → Addr
  | 0 => CS
  | 1 => CX
  | _ => CO
def kw : Nat → Str
  | 0 => "stream"
  | 1 => "prefix"
  | _ => "operation"
/-- what the law's try gives: nothing, the number's text, or the error's word -/
def TTold (CN CS CX CO : Addr) : (XK → Hp → VK → Prop) → Hp → VK → Prop := fun tl H Q => tl (fun cls d H' =>
  (∃ (dd : Addr) (v : V) (pd : PyData), cls = .ref CN ∧ d = some dd ∧ H' dd = some (.xd [(("value" : Str), v)]) ∧ VG.Sh H' v pd ∧ pd.showable = true ∧ pd.shown.length ≤ 1000 ∧ Q (.str (("number " : Str) ++ pd.shown)) H') ∨
  (∃ k, k < 3 ∧ cls = .ref (kC CS CX CO k) ∧ d = none ∧ ∀ H'', Same H' H'' → Q (.str (kw k)) H'')) H (fun _ H' => Q .non H')
structure ToldTxt (K : PySem.W.Frag) (mg : Str → Option Value) (CN CP CS CX CO : Addr) : Prop where
  gN : mg "InvalidNumber" = some (.ref CN)
  gP : mg "PrefixError" = some (.ref CP)
  gS : mg "InvalidStream" = some (.ref CS)
  gX : mg "InvalidPrefix" = some (.ref CX)
  gO : mg "InvalidOperation" = some (.ref CO)
  rep : mg "repr" = none
  isi : mg "isinstance" = none
  nn : PySem.W.exmOne K (.ref CN) (.ref CN) = some true
  sn : ∀ k, PySem.W.exmOne K (.ref (kC CS CX CO k)) (.ref CN) = some false
  sp : ∀ k, PySem.W.exmOne K (.ref (kC CS CX CO k)) (.ref CP) = some true
  xf : XfC K CN
  nov : PySem.W.findIn K (.ref CN) "value" = some none
  ec : ∀ k, ExcC K (kC CS CX CO k)
  kS : ∀ k, k < 3 → PySem.W.kitOne K (.ref (kC CS CX CO k)) (.ref CS) = some (decide (k = 0))
  kX : ∀ k, k < 3 → PySem.W.kitOne K (.ref (kC CS CX CO k)) (.ref CX) = some (decide (k = 1))
  kO : ∀ k, k < 3 → PySem.W.kitOne K (.ref (kC CS CX CO k)) (.ref CO) = some (decide (k = 2))
section
variable {X : Cx}
theorem pss_when {body : List Stmt} {p : Prop} {t : TS} (h : p → PSs X body t) : PSs X body (fun D σ H => p ∧ t D σ H) := ⟨fun pins s σ H D I q => (h q.1).run pins s σ H D I q.2⟩
theorem pss_ex {α : Type} {body : List Stmt} {p : α → Prop} {t : α → TS} (h : ∀ k, p k → PSs X body (t k)) : PSs X body (fun D σ H => ∃ k, p k ∧ t k D σ H) := ⟨fun pins s σ H D I q => by
  obtain ⟨k, pk, tk⟩ := q
  exact (h k pk).run pins s σ H D I tk⟩
theorem pss_imp {body : List Stmt} {t t' : TS} (h : PSs X body t) (imp : ∀ D σ H, σ.length = X.N.length → t' D σ H → t D σ H) : PSs X body t' := ⟨fun pins s σ H D I q => h.run pins s σ H D I (imp D σ H I.len q)⟩
end
end Vf


set_option Elab.async false
set_option maxRecDepth 100000
set_option maxHeartbeats 4000000
set_option exponentiation.threshold 3000
namespace Vf
open PySem L2 SX Vm
/-- what is not a base, whatever it is -/
def spNoBase : Sp := fun vs H Q _ => ∃ (a : Addr) (d : Int × Int × Int), vs = [.ref a] ∧ H a = some (.lst (dieL d)) ∧ DieOk d ∧ d.2.2 ≤ 1000000000 ∧
  ∀ (v : V) (d' : Int × Int × Int) (H' : Hp), DieOk d' → d'.2.2 ≤ d.2.2 + 1 → Kp a H H' → H' a = some (.lst (dieL d')) → Odd H' v → withinV 2 5 v = false → (∀ q, v = .ref q → q ≠ a) → Q v H'
theorem odd_int {H : Hp} (n : Int) (h1 : n.natAbs.log2 < 1920) (h2 : ((PyData.int n).shown).length ≤ 1000) (h3 : PyData.canLay0 (.str (("number " : Str) ++ (PyData.int n).shown)) = true) : Odd H (.int n) := ⟨⟨_, .int n⟩, _, .fl (.int n), decide_eq_true h1, h2, h3⟩
theorem odd_bl {H : Hp} (b : Bool) : Odd H (.bl b) := ⟨⟨_, .bl b⟩, _, .fl (.bl b), rfl, by cases b <;> decide +kernel, by cases b <;> decide +kernel⟩
theorem odd_non {H : Hp} : Odd H .non := ⟨⟨_, .non⟩, _, .fl .non, rfl, by decide +kernel, by decide +kernel⟩
theorem odd_str {H : Hp} (s : Str) (h : s.length ≤ 1000) (h2 : ((PyData.str s).shown).length ≤ 1000) (h3 : PyData.canLay0 (.str (("number " : Str) ++ (PyData.str s).shown)) = true) : Odd H (.str s) := ⟨⟨_, .str s (Nat.le_trans h (by decide))⟩, _, .fl (.str s), rfl, h2, h3⟩
section
variable {P : Program} {w : World} {K : PySem.W.Frag} {mg : Str → Option Value} {base : Heap}
theorem scNoBase : FnScope ["die"] ["die"] (defScope sNoBase) := ⟨rfl, rfl, rfl, by decide +kernel, rfl, by decide +kernel, by decide +kernel⟩
theorem ok_nobase {f fP : Addr} {fd fdP : FuncData} (F : Fun K "_law_no_base" "_law_no_base" sNoBase f fd) (GP : FnOk P w K mg base CX0 1 fP fdP ["die", "many"] spPull) (cP : Cal K mg "_law_pull" fP fdP ["die", "many"]) : FnOk P w K mg base CX0 2 f fd ["die"] spNoBase := by
  refine F.ok scNoBase (fun vs H Q E h => ?_) (fun cdv A outer s H vs Q E hr h => ?_)
  · obtain ⟨a, d, rfl, _⟩ := h
    rfl
  · obtain ⟨a, d, rfl, ha, hd, hc, k⟩ := h
    refine ⟨_, pss_one (ps_ret (pe_ix ix_list (pe_lst (pa_cons pe_int (pa_cons pe_int (pa_cons pe_int (pa_cons (pe_un un_neg pe_int) (pa_cons pe_bl (pa_cons pe_non (pa_cons pe_str (pa_cons (pe_tup (pa_cons pe_int pa_nil)) (pa_cons (pe_lst (pa_cons pe_int pa_nil)) (pa_cons pe_dnewK (pa_cons (pe_op op_pow pe_int pe_int) pa_nil))))))))))))
      (pe_call GP hr rfl cP.mg cP.kp cP.b .nil pass0 (pa_cons (pv 0) (pa_cons pe_int pa_nil))) (fun _ _ => rfl))), ?_⟩
    refine ⟨_, rfl, (by show 1 ≤ sizeLine; decide), fun p1 n1 => ⟨(by show 1 ≤ sizeLine; decide), fun p2 n2 p3 n3 => ⟨_, _, rfl, rfl, ⟨by decide, by decide, by decide +kernel⟩, (by show 11 ≤ sizeLine; decide), fun p n => ?_⟩⟩⟩
    have m1 := ne_of_none ha n1
    have a1 : upd H p1 (.tup [.int 2]) a = some (.lst (dieL d)) := by rw [upd_ne m1]; exact ha
    have m2 := ne_of_none a1 n2
    have a2 : upd (upd H p1 (.tup [.int 2])) p2 (.lst [.int 3]) a = some (.lst (dieL d)) := by rw [upd_ne m2]; exact a1
    have m3 := ne_of_none a2 n3
    have a3 : upd (upd (upd H p1 (.tup [.int 2])) p2 (.lst [.int 3])) p3 (.dK []) a = some (.lst (dieL d)) := by rw [upd_ne m3]; exact a2
    have m4 := ne_of_none a3 n
    have q12 : p1 ≠ p2 := ne_of_none upd_same n2
    have b1 : upd (upd H p1 (.tup [.int 2])) p2 (.lst [.int 3]) p1 = some (.tup [.int 2]) := by rw [upd_ne q12, upd_same]
    have q13 : p1 ≠ p3 := ne_of_none b1 n3
    have q23 : p2 ≠ p3 := ne_of_none upd_same n3
    have c1 : upd (upd (upd H p1 (.tup [.int 2])) p2 (.lst [.int 3])) p3 (.dK []) p1 = some (.tup [.int 2]) := by rw [upd_ne q13]; exact b1
    have c2 : upd (upd (upd H p1 (.tup [.int 2])) p2 (.lst [.int 3])) p3 (.dK []) p2 = some (.lst [.int 3]) := by rw [upd_ne q23, upd_same]
    have q1 := ne_of_none c1 n
    have q2 := ne_of_none c2 n
    have q3 : p3 ≠ p := ne_of_none upd_same n
    refine ⟨_, rfl, a, d, _, rfl, by rw [upd_ne m4]; exact a3, hd, by decide, by decide, hc, fun r d' hd' hc' r0 r1 => ?_⟩
    generalize hH : upd (upd (upd (upd (upd H p1 (.tup [.int 2])) p2 (.lst [.int 3])) p3 (.dK [])) p (.lst [V.int 0, .int 1, .int 6, .int (-2), .bl true, .non, .str "2", .ref p1, .ref p2, .ref p3, .int (10 ^ (40 : Int).toNat)])) a (.lst (dieL d')) = Hf
    have e1 : Hf p1 = some (.tup [.int 2]) := by rw [← hH, upd_ne m1.symm, upd_ne q1]; exact c1
    have e2 : Hf p2 = some (.lst [.int 3]) := by rw [← hH, upd_ne m2.symm, upd_ne q2]; exact c2
    have e3 : Hf p3 = some (.dK []) := by rw [← hH, upd_ne m3.symm, upd_ne q3, upd_same]
    have e4 : Hf p = some (.lst [V.int 0, .int 1, .int 6, .int (-2), .bl true, .non, .str "2", .ref p1, .ref p2, .ref p3, .int (10 ^ (40 : Int).toNat)]) := by rw [← hH, upd_ne m4.symm, upd_same]
    have e5 : Hf a = some (.lst (dieL d')) := by rw [← hH, upd_same]
    have kp : Kp a H Hf := by
      rw [← hH]
      exact ((((Kp.new n1).trans (Kp.new n2)).trans (Kp.new n3)).trans (Kp.new n)).trans Kp.upd
    obtain ⟨v, hv, ho, hw, hq⟩ : ∃ v, atI [V.int 0, .int 1, .int 6, .int (-2), .bl true, .non, .str "2", .ref p1, .ref p2, .ref p3, .int (10 ^ (40 : Int).toNat)] r = some v ∧ Odd Hf v ∧ withinV 2 5 v = false ∧ ∀ q, v = .ref q → q ≠ a := by
      have : r = 0 ∨ r = 1 ∨ r = 2 ∨ r = 3 ∨ r = 4 ∨ r = 5 ∨ r = 6 ∨ r = 7 ∨ r = 8 ∨ r = 9 ∨ r = 10 := by omega
      rcases this with e | e | e | e | e | e | e | e | e | e | e <;> subst e
      · exact ⟨_, rfl, odd_int _ (by decide +kernel) (by decide +kernel) (by decide +kernel), rfl, fun _ z => nomatch z⟩
      · exact ⟨_, rfl, odd_int _ (by decide +kernel) (by decide +kernel) (by decide +kernel), rfl, fun _ z => nomatch z⟩
      · exact ⟨_, rfl, odd_int _ (by decide +kernel) (by decide +kernel) (by decide +kernel), rfl, fun _ z => nomatch z⟩
      · exact ⟨_, rfl, odd_int _ (by decide +kernel) (by decide +kernel) (by decide +kernel), rfl, fun _ z => nomatch z⟩
      · exact ⟨_, rfl, odd_bl _, rfl, fun _ z => nomatch z⟩
      · exact ⟨_, rfl, odd_non, rfl, fun _ z => nomatch z⟩
      · exact ⟨_, rfl, odd_str _ (by decide +kernel) (by decide +kernel) (by decide +kernel), rfl, fun _ z => nomatch z⟩
      · exact ⟨_, rfl, ⟨⟨_, .tup e1⟩, _, .tup e1 (.cons (.int 2) .nil), rfl, by decide +kernel, by decide +kernel⟩, rfl, fun _ z => V.ref.inj z ▸ m1.symm⟩
      · exact ⟨_, rfl, ⟨⟨_, .lst e2⟩, _, .lst e2 (.cons (.int 3) .nil), rfl, by decide +kernel, by decide +kernel⟩, rfl, fun _ z => V.ref.inj z ▸ m2.symm⟩
      · exact ⟨_, rfl, ⟨⟨_, .dct e3⟩, _, .dct e3, rfl, by decide +kernel, by decide +kernel⟩, rfl, fun _ z => V.ref.inj z ▸ m3.symm⟩
      · exact ⟨_, rfl, odd_int _ (by decide +kernel) (by decide +kernel) (by decide +kernel), by decide +kernel, fun _ z => nomatch z⟩
    refine ⟨p, _, r, v, rfl, rfl, SqL.of (hH ▸ e4), hv, ?_⟩
    exact hH ▸ k v d' Hf hd' hc' kp e5 ho hw hq
/-! ### what stays -/
theorem sh_keep {H H' : Hp} {v : V} {d : PyData} (h : VG.Sh H v d) (k : ∀ q o, v = .ref q → (∀ ps, o ≠ .tbl ps) → H q = some o → H' q = some o) : VG.Sh H' v d := by
  cases h with
  | fl f => exact .fl f
  | lst e f => exact .lst (k _ _ rfl (fun _ z => nomatch z) e) f
  | tup e f => exact .tup (k _ _ rfl (fun _ z => nomatch z) e) f
  | dct e => exact .dct (k _ _ rfl (fun _ z => nomatch z) e)
theorem pl_keep {H H' : Hp} {v : V} {t : Value} (h : Pl H v t) (k : ∀ q o, v = .ref q → (∀ ps, o ≠ .tbl ps) → H q = some o → H' q = some o) : Pl H' v t := by
  cases h with
  | non => exact .non
  | bl b => exact .bl b
  | int n => exact .int n
  | str x h => exact .str x h
  | lst e => exact .lst (k _ _ rfl (fun _ z => nomatch z) e)
  | tup e => exact .tup (k _ _ rfl (fun _ z => nomatch z) e)
  | dct e => exact .dct (k _ _ rfl (fun _ z => nomatch z) e)
theorem odd_keep {H H' : Hp} {v : V} (h : Odd H v) (k : ∀ q o, v = .ref q → (∀ ps, o ≠ .tbl ps) → H q = some o → H' q = some o) : Odd H' v := by
  obtain ⟨⟨t, p⟩, d, s, r⟩ := h
  exact ⟨⟨t, pl_keep p k⟩, d, sh_keep s k, r⟩
theorem tabs_kp {T : List (Addr × Str)} {H H' : Hp} {a : Addr} {l : List V} (t : LamX.Tabs T H) (ha : H a = some (.lst l)) (k : Kp a H H') : LamX.Tabs T H' := fun p hp => by
  obtain ⟨ps, h1, h2, h3⟩ := t p hp
  have n1 : p.1 ≠ a := fun z => by rw [z, ha] at h1; cases h1
  refine ⟨ps, k _ _ n1 h1, h2, fun pos cv hc => ?_⟩
  obtain ⟨c, e1, e2⟩ := h3 pos cv hc
  have n2 : c ≠ a := fun z => by
    rw [z, ha] at e2
    unfold LamX.CodeO at e2
    cases e2
  exact ⟨c, e1, k _ _ n2 e2⟩
/-- all but a and the tables stays -/
def KT (a : Addr) (H H' : Hp) : Prop := ∀ b o, b ≠ a → (∀ ps, o ≠ .tbl ps) → H b = some o → H' b = some o
end
end Vf


set_option Elab.async false
set_option maxRecDepth 100000
set_option maxHeartbeats 16000000
set_option exponentiation.threshold 3000
namespace VG
open PySem PySem.Spec PyProof.Rows L2
/-- what one clause 'except x as n' wishes of what the body raises; nothing else is raised -/
def wOne (K : PySem.W.Frag) (nl i : Nat) (c1 : Value) (t1 : Addr → Value → Option Addr → TS) (D : Ends) : WX := fun cls d σ H => σ.length = nl →
  (PySem.W.exmOne K cls c1 = some true ∧ ∀ a, H a = none → t1 a cls d { nx := fun σ' H' => D.nx (σ'.set i none) H', rt := D.rt, bk := fun σ' H' => D.bk (σ'.set i none) H', ct := fun σ' H' => D.ct (σ'.set i none) H' } (σ.set i (some (.ref a))) H)
section
variable {X : Cx} {x1 n : Str} {c1 : Value} {i : Nat} {body r1 : List Stmt} {b1 : Stmt} {n1 p1 pos : Pos} {tb : WX → TS} {t1 : Addr → Value → Option Addr → TS}
theorem ps_try_one (hs : X.stack = X.env :: X.outer) (hf : X.env.frame = some X.env.locals) (hN : X.N.Nodup) (hi : X.N[i]? = some n) (hl : X.env.kindOf n = some .local) (m1 : Names X x1 c1)
    (hb : ∀ (W : WX) (pn : List (Addr × Obj)) (xe : Value → Shared → Prop), Takes (X.tr pn xe) W → PassesOwn (model X.prog X.w) X.A X.env xe → PSs (X.tr pn xe) body (tb W))
    (s1 : ∀ (a : Addr) (oe : Obj) (cls : Value) (d : Option Addr) (pn : List (Addr × Obj)), Zc cls d oe → (∃ vs, oe.data = .fields vs) → PSs (X.suite a ((a, oe) :: pn)) (b1 :: r1) (t1 a cls d)) :
    PS X (.Try body [.ExceptHandler (some (.Name x1 n1)) (some n) (b1 :: r1) p1] [] [] pos) (fun D σ H => tb (wOne X.K X.N.length i c1 t1 D) D σ H) := by
  constructor
  intro pins s σ H D I h
  have ok := I.ok
  have fr : X.A.frames = some (X.env :: X.outer) := ok.frames.trans (congrArg some hs)
  refine wpAny_Try_except (wpAny_mono ((hb (wOne X.K X.N.length i c1 t1 D) (X.pn ++ pins) _ (fun u s2' xx => ?_) PassesOwn.looking).run [] s σ H D (I.toTry _) h) (fun fl s3 z => ?_) fun _ _ z => z)
  · obtain ⟨a, B, sI, pins', σ', H', cls, d, rfl, J', nb, up, sky, na, os, ag, wish⟩ := xx
    have J : Inv X pins σ' H' sI := J'.ofTry ok
    rw [show (X.tr (X.pn ++ pins) _).stack = X.env :: X.outer from hs] at sky
    refine Sky.land Zc.steady fr hf sky fun h3 f3 u3 => ?_
    have y : Down X pins a cls d σ' H' sI B h3 s2' := ⟨J, nb, f3, up.trans u3, os, ag, na⟩
    obtain ⟨w1, w2⟩ := wish J.len
    exact y.take hf m1 w1 hN hi hl (fun oe pn z1 z2 => s1 a oe cls d pn z1 z2) (w2 a na)
  · match fl, z with
    | .next, ⟨_, _, J, q⟩ => exact wpAny_execs_nil ⟨_, _, J.ofTry ok, q⟩
    | .brk, ⟨_, _, J, q⟩ => exact ⟨_, _, J.ofTry ok, q⟩
    | .cont, ⟨_, _, J, q⟩ => exact ⟨_, _, J.ofTry ok, q⟩
    | .ret _, ⟨_, _, _, J, r, q⟩ => exact ⟨_, _, _, J.ofTry ok, r, q⟩
end
end VG
namespace Vf
open PySem L2 SX Vm
abbrev qErr : Str := "_law_errors_right" ++ ".<locals>." ++ "<lambda>"
abbrev tE (P : Addr) : List (Addr × Str) := [(P, qErr)]
theorem KT.kp {a : Addr} {H H1 H2 : Hp} (x : KT a H H1) (y : Kp a H1 H2) : KT a H H2 := fun b o n nt e => y b o n (x b o n nt e)
theorem KT.sm {a : Addr} {H H1 H2 : Hp} (x : KT a H H1) (y : Same H1 H2) : KT a H H2 := fun b o n nt e => y b o (x b o n nt e)
theorem KT.refl (a : Addr) (H : Hp) : KT a H H := fun _ _ _ _ e => e
/-- what the law's try gives: the shown number, else "none" -/
def TRef (CN : Addr) : (XK → Hp → VK → Prop) → Hp → VK → Prop := fun tl H Q => tl (fun cls d H' =>
  ∃ (dd : Addr) (v : V) (pd : PyData), cls = .ref CN ∧ d = some dd ∧ H' dd = some (.xd [(("value" : Str), v)]) ∧ VG.Sh H' v pd ∧ pd.showable = true ∧ pd.shown.length ≤ 1000 ∧ Q (.str pd.shown) H') H (fun _ H' => Q (.str "none") H')
structure RefTxt (K : PySem.W.Frag) (mg : Str → Option Value) (CN : Addr) : Prop where
  gN : mg "InvalidNumber" = some (.ref CN)
  rep : mg "repr" = none
  nn : PySem.W.exmOne K (.ref CN) (.ref CN) = some true
  xf : XfC K CN
  nov : PySem.W.findIn K (.ref CN) "value" = some none
structure RefFn (K : PySem.W.Frag) (mg : Str → Option Value) (g : Addr) : Prop where
  m : mg "_law_refused" = some (.ref g)
  kp : PySem.W.keepIn K (.ref g) = true
  lk : ∃ (oc : Value) (od : Option Addr) (kV doc pm : Value) (an : Option Addr) (cdv ct : Value) (osl : Array (Option Value)), K.lookup g = some ⟨oc, od, .func (PySem.W.fnOf "_law_refused" "_law_refused" (defArgs sRefused) (defBody sRefused) (defScope sRefused) .none kV doc pm an cdv ct), osl⟩ ∧ PySem.W.codeIn K cdv "_law_refused" = true ∧
    Binds K (PySem.W.fnOf "_law_refused" "_law_refused" (defArgs sRefused) (defBody sRefused) (defScope sRefused) .none kV doc pm an cdv ct) ["call"] []
section
variable {X : Cx}
theorem scRefused : FnScope ["call", "e"] ["call"] (defScope sRefused) := ⟨rfl, rfl, rfl, by decide +kernel, rfl, by decide +kernel, by decide +kernel⟩
theorem ref_gives {CN g : Addr} {cdg : Value} {q : Str} (T : RefTxt X.K X.mg CN) (gd : X.A.guards = some []) (hu : X.A.units + 20 < cLine) : LamX.GivesTo X ["call", "e"] "_law_refused" (defScope sRefused) g cdg (defBody sRefused) "call" q (TRef CN) := by
  intro f c' s H Q tl act hc h
  have nd := scRefused.nd
  refine ⟨_, pss_cons (VG.ps_try_one (X := (cxOf C8.CX0 X.prog X.w X.K X.mg X.base ["call", "e"] "_law_refused" (defScope sRefused) g cdg X.A X.stack s H C8.E0).nox) (c1 := .ref CN) (i := 1)
      (tb := fun W D σ H => ∃ Ech : XK, (∀ cls d σ' H', Ech cls d H' → W cls d σ' H') ∧ σ[0]? = some (some (.ref f)) ∧ H c' = some (LamX.CodeO c' q) ∧ tl Ech H fun _ H' => D.nx σ H')
      rfl rfl nd rfl rfl ⟨by rfl, by decide, .inl T.gN⟩ (fun W pn xe tk _ => ?_)
      (fun a oe cls d pn hz hf => pss_one (ps_ret (pe_callB (VG.call_repr gd (by show X.A.units + 3 + 10 < cLine; omega)) (by rfl) T.rep PyProof.Rows.boot_repr (pa_cons (pe_xf T.xf T.nov hz hf (pv 1)) pa_nil))))) (pss_one (ps_ret pe_str)), ?_⟩
  · refine ⟨fun pins s' σ H' D I h' => ?_⟩
    obtain ⟨Ech, hW, h1, h2, h3⟩ := h'
    exact (pss_one (ps_expr (act W pn xe Ech _ _ tk hW))).run pins s' σ H' D I ⟨h1, h2, h3⟩
  · refine ⟨fun cls d H' => _, fun cls d σ' H' hE hl => ?_, rfl, hc, h⟩
    have s1 : ∀ v : V, (σ'.set 1 (some v))[1]? = some (some v) := fun v => List.getElem?_set_self (by rw [hl]; show 1 < 2; decide)
    obtain ⟨dd, v, pd, rfl, rfl, hd, sh, hs, hz, k⟩ := hE
    refine ⟨T.nn, fun a _ => ?_⟩
    exact ⟨_, s1 _, rfl, rfl, dd, _, v, rfl, hd, (by simp [List.lookup]), v, pd, rfl, sh, hs, Nat.le_trans hz (by decide), k⟩
end
theorem lay_tail {x y : Str} (h : PyData.canLay0 (.str (x ++ y)) = true) : PyData.canLay0 (.str y) = true := by
  have h' : (x.cps ++ y.cps).all _ = true := h
  show y.cps.all _ = true
  rw [Array.all_eq_true'] at h' ⊢
  exact fun c hc => h' c (by simp [hc])
theorem bad_b {v : V} {b : Nat} {C : Prop} (h : withinV 2 5 v = false) (e : v = .int (b : Int)) (b2 : 2 ≤ b) (b5 : b ≤ 5) : C := by
  subst e
  exact absurd ((within_25 b2 b5).symm.trans h) (by decide)
theorem bad_R {v : V} {R : Int} {C : Prop} (h : withinV 1 5000 v = false) (e : v = .int R) (r1 : 1 ≤ R) (r5 : R ≤ 5000) : C := by
  subst e
  exact absurd ((within_R r1 r5).symm.trans h) (by decide)
def spErrK (P : Addr) : Sp := fun vs H Q _ => ∃ (a : Addr) (d : Int × Int × Int) (b : Nat), vs = [.ref a, .int (b : Int)] ∧ H a = some (.lst (dieL d)) ∧ DieOk d ∧ d.2.2 ≤ 980000000 ∧ 2 ≤ b ∧ b ≤ 5 ∧ LamX.Tabs (tE P) H ∧
  ∀ (d' : Int × Int × Int) (H' : Hp), DieOk d' → d'.2.2 ≤ d.2.2 + 2 → KT a H H' → H' a = some (.lst (dieL d')) → LamX.Tabs (tE P) H' → Q (.bl true) H'
section
variable {P : Program} {w : World} {K : PySem.W.Frag} {mg : Str → Option Value} {base : Heap}
theorem scErr : FnScope ["die", "base", "found", "none", "wrong"] ["die", "base"] (defScope sErr) := ⟨rfl, rfl, rfl, by decide +kernel, rfl, by decide +kernel, by decide +kernel⟩
theorem ok_err {f fB fP fI fX fS g c P2 CN : Addr} {fd fdB fdP fdI fdX fdS : FuncData} (F : Fun K "_law_errors_right" "_law_errors_right" sErr f fd)
    (GB : FnOk P w K mg base CX0 2 fB fdB ["die"] spNoBase) (cB : Cal K mg "_law_no_base" fB fdB ["die"])
    (GP : FnOk P w K mg base CX0 1 fP fdP ["die", "many"] spPull) (cP : Cal K mg "_law_pull" fP fdP ["die", "many"])
    (GI : FnOk P w K mg base (L2.CX P w) 5 fI fdI ["base", "value"] (spIsWord CN)) (cI : Cal K mg "is_word" fI fdI ["base", "value"])
    (GX : FnOk P w K mg base (L2.CX P w) 5 fX fdX ["base", "roots", "value"] (spIsPfxG CN)) (cX : Cal K mg "is_prefix" fX fdX ["base", "roots", "value"])
    (GS : FnOk P w K mg base (L2.CX P w) 5 fS fdS ["base", "roots", "value"] (spIsStrG CN)) (cS : Cal K mg "is_stream" fS fdS ["base", "roots", "value"])
    (TF : RefFn K mg g) (T : RefTxt K mg CN) (TB : LamX.TabB base mg c P2) (hcd : ∀ (cdv : Value), (∃ (oc : Value) (od : Option Addr) (kV doc pm : Value) (an : Option Addr) (ct : Value) (osl : Array (Option Value)), K.lookup f = some ⟨oc, od, .func (PySem.W.fnOf "_law_errors_right" "_law_errors_right" (defArgs sErr) (defBody sErr) (defScope sErr) .none kV doc pm an cdv ct), osl⟩) → cdv = .ref c) :
    VG.FnG P w K mg base 8 f fd ["die", "base"] (spErrK P2) := by
  obtain ⟨oc, od, kV, doc, pm, an, cdg, ct, osl, lkT, hcT, bT⟩ := TF.lk
  refine VG.FnG.of F scErr (fun vs H Q E h => ?_) (fun cdv A outer s H vs Q E gd hr _ hlk h => ?_)
  · obtain ⟨a, d, b, rfl, _⟩ := h
    rfl
  · have ecd := hcd cdv hlk
    obtain ⟨a, d, b, rfl, ha, hd, hc, b2, b5, tabs, k⟩ := h
    have nd := scErr.nd
    have hr2 := hr.mono (show 2 ≤ 7 by decide)
    have hr1 := hr.mono (show 1 ≤ 7 by decide)
    have hun : A.units + 3 + 64 < cLine := hr.units
    have hu12 : ∀ p ∈ tE P2, p.1 = P2 → p.2 = qErr := fun p hp e => by rw [List.mem_singleton.mp hp]
    refine ⟨_, (pss_cons (ps_asg (pe_tup (pa_cons (pe_call GB hr2 rfl cB.mg cB.kp cB.b .nil pass0 (pa_cons (pv 0) pa_nil)) (pa_cons (pe_ix ix_list (pe_lst (pa_cons pe_int (pa_cons pe_int (pa_cons (pe_un un_neg pe_int) (pa_cons pe_bl (pa_cons pe_non (pa_cons pe_str (pa_cons (pe_tup (pa_cons pe_int pa_nil)) (pa_cons (pe_lst pa_nil) (pa_cons pe_dnewK (pa_cons (pe_op op_pow pe_int pe_int) pa_nil))))))))))) (pe_call GP hr1 rfl cP.mg cP.kp cP.b .nil pass0 (pa_cons (pv 0) (pa_cons pe_int pa_nil))) (fun _ _ => rfl)) pa_nil))) (pg_tup rfl (pgs_cons (pg_name (i := 4) nd rfl (.inr rfl)) (pgs_cons (pg_name (i := 3) nd rfl (.inr rfl)) pgs_nil))))
      (pss_cons (ps_set (i := 2) nd rfl (.inl rfl) (pe_lst (pa_cons (LamX.pe_lamcall (T := tE P2) rfl TF.m TF.kp lkT hcT bT scRefused rfl (.inl rfl) (ref_gives T gd (by show A.units + 3 + 20 < cLine; omega)) TB ecd (by exact List.Mem.head _) hu12 hr (LamX.lamS_by (by show LamX.lamSB (defScope sErr) _ = true; decide +kernel)) rfl (fun _ _ _ _ _ => rfl) (fun A' outer' s' H' E' f' c' hr' => pe_call GI hr' rfl cI.mg cI.kp cI.b .nil (passes_call (takes_of rfl rfl rfl rfl) (fun _ _ _ _ h => h)) (pa_cons (pv 4) (pa_cons pe_str pa_nil)))) pa_nil)))
      (pss_cons (ps_expr (pe_bm PySem.F.plainAttrs_list PySem.F.slot_list_append PySem.F.type_list_append mt_append (pv 2) (pa_cons (LamX.pe_lamcall (T := tE P2) rfl TF.m TF.kp lkT hcT bT scRefused rfl (.inl rfl) (ref_gives T gd (by show A.units + 3 + 20 < cLine; omega)) TB ecd (by exact List.Mem.head _) hu12 hr (LamX.lamS_by (by show LamX.lamSB (defScope sErr) _ = true; decide +kernel)) rfl (fun _ _ _ _ _ => rfl) (fun A' outer' s' H' E' f' c' hr' => pe_call GX hr' rfl cX.mg cX.kp cX.b .nil (passes_call (takes_of rfl rfl rfl rfl) (fun _ _ _ _ h => h)) (pa_cons (pv 1) (pa_cons (pv 3) (pa_cons (pe_tup (pa_cons pe_int (pa_cons pe_str pa_nil))) pa_nil))))) pa_nil)))
      (pss_cons (ps_expr (pe_bm PySem.F.plainAttrs_list PySem.F.slot_list_append PySem.F.type_list_append mt_append (pv 2) (pa_cons (LamX.pe_lamcall (T := tE P2) rfl TF.m TF.kp lkT hcT bT scRefused rfl (.inl rfl) (ref_gives T gd (by show A.units + 3 + 20 < cLine; omega)) TB ecd (by exact List.Mem.head _) hu12 hr (LamX.lamS_by (by show LamX.lamSB (defScope sErr) _ = true; decide +kernel)) rfl (fun _ _ _ _ _ => rfl) (fun A' outer' s' H' E' f' c' hr' => pe_call GX hr' rfl cX.mg cX.kp cX.b .nil (passes_call (takes_of rfl rfl rfl rfl) (fun _ _ _ _ h => h)) (pa_cons (pv 4) (pa_cons (pv 3) (pa_cons pe_non pa_nil))))) pa_nil)))
      (pss_cons (ps_expr (pe_bm PySem.F.plainAttrs_list PySem.F.slot_list_append PySem.F.type_list_append mt_append (pv 2) (pa_cons (LamX.pe_lamcall (T := tE P2) rfl TF.m TF.kp lkT hcT bT scRefused rfl (.inl rfl) (ref_gives T gd (by show A.units + 3 + 20 < cLine; omega)) TB ecd (by exact List.Mem.head _) hu12 hr (LamX.lamS_by (by show LamX.lamSB (defScope sErr) _ = true; decide +kernel)) rfl (fun _ _ _ _ _ => rfl) (fun A' outer' s' H' E' f' c' hr' => pe_call GS hr' rfl cS.mg cS.kp cS.b .nil (passes_call (takes_of rfl rfl rfl rfl) (fun _ _ _ _ h => h)) (pa_cons (pv 4) (pa_cons (pv 3) (pa_cons pe_non pa_nil))))) pa_nil)))
      (pss_cons (ps_expr (pe_bm PySem.F.plainAttrs_list PySem.F.slot_list_append PySem.F.type_list_append mt_append (pv 2) (pa_cons (LamX.pe_lamcall (T := tE P2) rfl TF.m TF.kp lkT hcT bT scRefused rfl (.inl rfl) (ref_gives T gd (by show A.units + 3 + 20 < cLine; omega)) TB ecd (by exact List.Mem.head _) hu12 hr (LamX.lamS_by (by show LamX.lamSB (defScope sErr) _ = true; decide +kernel)) rfl (fun _ _ _ _ _ => rfl) (fun A' outer' s' H' E' f' c' hr' => pe_call GS hr' rfl cS.mg cS.kp cS.b .nil (passes_call (takes_of rfl rfl rfl rfl) (fun _ _ _ _ h => h)) (pa_cons (pv 1) (pa_cons (pv 3) (pa_cons (pe_tup (pa_cons pe_int (pa_cons pe_str (pa_cons pe_str pa_nil)))) pa_nil))))) pa_nil)))
      (pss_one (ps_ret (pe_cmpR (op_eqD hun) (pv 2) (pe_lst (pa_cons (pe_callB (VG.call_repr gd (by show A.units + 3 + 10 < cLine; omega)) (by rfl) T.rep PyProof.Rows.boot_repr (pa_cons (pv 4) pa_nil)) (pa_cons (pe_callB (VG.call_repr gd (by show A.units + 3 + 10 < cLine; omega)) (by rfl) T.rep PyProof.Rows.boot_repr (pa_cons (pv 3) pa_nil)) (pa_cons (pe_callB (VG.call_repr gd (by show A.units + 3 + 10 < cLine; omega)) (by rfl) T.rep PyProof.Rows.boot_repr (pa_cons (pv 4) pa_nil)) (pa_cons (pe_callB (VG.call_repr gd (by show A.units + 3 + 10 < cLine; omega)) (by rfl) T.rep PyProof.Rows.boot_repr (pa_cons (pv 4) pa_nil)) (pa_cons (pe_callB (VG.call_repr gd (by show A.units + 3 + 10 < cLine; omega)) (by rfl) T.rep PyProof.Rows.boot_repr (pa_cons (pv 3) pa_nil)) pa_nil)))))) (nomark _)))))))))), ?_⟩
    refine ⟨_, rfl, a, d, rfl, ha, hd, by omega, fun wrong d1 H1 hd1 hc1 kp1 a1 ow ww nw => ?_⟩
    refine ⟨_, rfl, (by show 1 ≤ sizeLine; decide), fun p1 n1 => ?_⟩
    have q1 := ne_die a1 n1
    have x1 : upd H1 p1 (.tup [.int 1]) p1 = some (.tup [.int 1]) := upd_same
    have a2 : upd H1 p1 (.tup [.int 1]) a = some (.lst (dieL d1)) := by rw [upd_ne q1.symm]; exact a1
    have kp2 : Kp a H1 (upd H1 p1 (.tup [.int 1])) := Kp.new n1
    generalize upd H1 p1 (.tup [.int 1]) = H2 at x1 a2 kp2 ⊢
    refine ⟨(by show 0 ≤ sizeLine; exact Nat.zero_le _), fun p2 n2 => ?_⟩
    have q2 := ne_die a2 n2
    have x2 : upd H2 p2 (.lst []) p2 = some (.lst []) := upd_same
    have a3 : upd H2 p2 (.lst []) a = some (.lst (dieL d1)) := by rw [upd_ne q2.symm]; exact a2
    have kp3 : Kp a H2 (upd H2 p2 (.lst [])) := Kp.new n2
    generalize upd H2 p2 (.lst []) = H3 at x2 a3 kp3 ⊢
    refine fun p3 n3 => ?_
    have q3 := ne_die a3 n3
    have x3 : upd H3 p3 (.dK []) p3 = some (.dK []) := upd_same
    have a4 : upd H3 p3 (.dK []) a = some (.lst (dieL d1)) := by rw [upd_ne q3.symm]; exact a3
    have kp4 : Kp a H3 (upd H3 p3 (.dK [])) := Kp.new n3
    generalize upd H3 p3 (.dK []) = H4 at x3 a4 kp4 ⊢
    refine ⟨_, _, rfl, rfl, ⟨by decide, by decide, by decide +kernel⟩, (by show 10 ≤ sizeLine; decide), fun p4 n4 => ?_⟩
    have q4 := ne_die a4 n4
    have x4 : upd H4 p4 (.lst [V.int 0, .int 5001, .int (-1), .bl true, .non, .str "1", .ref p1, .ref p2, .ref p3, .int (10 ^ (40 : Int).toNat)]) p4 = some (.lst [V.int 0, .int 5001, .int (-1), .bl true, .non, .str "1", .ref p1, .ref p2, .ref p3, .int (10 ^ (40 : Int).toNat)]) := upd_same
    have a5 : upd H4 p4 (.lst [V.int 0, .int 5001, .int (-1), .bl true, .non, .str "1", .ref p1, .ref p2, .ref p3, .int (10 ^ (40 : Int).toNat)]) a = some (.lst (dieL d1)) := by rw [upd_ne q4.symm]; exact a4
    have kp5 : Kp a H4 (upd H4 p4 (.lst [V.int 0, .int 5001, .int (-1), .bl true, .non, .str "1", .ref p1, .ref p2, .ref p3, .int (10 ^ (40 : Int).toNat)])) := Kp.new n4
    generalize upd H4 p4 (.lst [V.int 0, .int 5001, .int (-1), .bl true, .non, .str "1", .ref p1, .ref p2, .ref p3, .int (10 ^ (40 : Int).toNat)]) = H5 at x4 a5 kp5 ⊢
    refine ⟨_, rfl, a, d1, 10, rfl, a5, hd1, by decide, by decide, by omega, fun r d2 hd2 hc2 r0 r1 => ?_⟩
    have kp6 : Kp a H5 (upd H5 a (.lst (dieL d2))) := Kp.upd
    have a6 : upd H5 a (.lst (dieL d2)) a = some (.lst (dieL d2)) := upd_same
    generalize upd H5 a (.lst (dieL d2)) = H6 at kp6 a6 ⊢
    have y1 := kp6 _ _ q1 (kp5 _ _ q1 (kp4 _ _ q1 (kp3 _ _ q1 x1)))
    have y2 := kp6 _ _ q2 (kp5 _ _ q2 (kp4 _ _ q2 x2))
    have y3 := kp6 _ _ q3 (kp5 _ _ q3 x3)
    have y4 := kp6 _ _ q4 x4
    obtain ⟨non, hv, on, wn⟩ : ∃ v, atI ([V.int 0, .int 5001, .int (-1), .bl true, .non, .str "1", .ref p1, .ref p2, .ref p3, .int (10 ^ (40 : Int).toNat)] : List V) r = some v ∧ Odd H6 v ∧ withinV 1 5000 v = false := by
      have : r = 0 ∨ r = 1 ∨ r = 2 ∨ r = 3 ∨ r = 4 ∨ r = 5 ∨ r = 6 ∨ r = 7 ∨ r = 8 ∨ r = 9 := by omega
      rcases this with e | e | e | e | e | e | e | e | e | e <;> subst e
      · exact ⟨_, rfl, odd_int _ (by decide +kernel) (by decide +kernel) (by decide +kernel), rfl⟩
      · exact ⟨_, rfl, odd_int _ (by decide +kernel) (by decide +kernel) (by decide +kernel), rfl⟩
      · exact ⟨_, rfl, odd_int _ (by decide +kernel) (by decide +kernel) (by decide +kernel), rfl⟩
      · exact ⟨_, rfl, odd_bl _, rfl⟩
      · exact ⟨_, rfl, odd_non, rfl⟩
      · exact ⟨_, rfl, odd_str _ (by decide +kernel) (by decide +kernel) (by decide +kernel), rfl⟩
      · exact ⟨_, rfl, ⟨⟨_, .tup y1⟩, _, .tup y1 (.cons (.int 1) .nil), rfl, by decide +kernel, by decide +kernel⟩, rfl⟩
      · exact ⟨_, rfl, ⟨⟨_, .lst y2⟩, _, .lst y2 .nil, rfl, by decide +kernel, by decide +kernel⟩, rfl⟩
      · exact ⟨_, rfl, ⟨⟨_, .dct y3⟩, _, .dct y3, rfl, by decide +kernel, by decide +kernel⟩, rfl⟩
      · exact ⟨_, rfl, odd_int _ (by decide +kernel) (by decide +kernel) (by decide +kernel), by decide +kernel⟩
    refine ⟨p4, _, r, non, rfl, rfl, SqL.of y4, hv, ?_⟩
    have kpA : Kp a H1 H6 := kp2.trans (kp3.trans (kp4.trans (kp5.trans kp6)))
    have ow6 : Odd H6 wrong := odd_keep ow (fun x o e _ z => kpA x o (nw x e) z)
    have t6 : LamX.Tabs (tE P2) H6 := tabs_kp tabs ha (kp1.trans kpA)
    refine ⟨(by show 2 ≤ sizeLine; decide), fun pt npt => ?_⟩
    have s68 : Same H6 (upd H6 pt (.tup [wrong, non])) := same_up npt
    have et : upd H6 pt (.tup [wrong, non]) pt = some (.tup [wrong, non]) := upd_same
    generalize upd H6 pt (.tup [wrong, non]) = HB at s68 et ⊢
    refine ⟨pt, _, rfl, SqT.of et, rfl, _, _, rfl, _, _, rfl, rfl, ?_⟩
    have tB := t6.ext s68
    have aB := s68 _ _ a6
    have ktB : KT a H HB := ((KT.refl a H).kp (kp1.trans kpA)).sm s68
    obtain ⟨⟨tw, pw⟩, pdw, shw, shsw, shzw, shlw⟩ := odd_keep ow6 (fun x o _ _ z => s68 _ _ z)
    obtain ⟨⟨tn, pn⟩, pdn, shn, shsn, shzn, shln⟩ := odd_keep on (fun x o _ _ z => s68 _ _ z)
    clear s68 et npt
    have kpw : ∀ {J : Hp}, LamX.ExtN HB J → Pl J wrong tw := fun e => pl_keep pw (fun q o _ nt h => e q o h nt)
    have kpn : ∀ {J : Hp}, LamX.ExtN HB J → Pl J non tn := fun e => pl_keep pn (fun q o _ nt h => e q o h nt)
    have wb : withinV 2 5 (.int (b : Int)) = false → ∀ {C : Prop}, C := fun z => absurd ((within_25 b2 b5).symm.trans z) (by decide)
    -- call 1
    refine ⟨tB, fun K1 f1 U1 => ?_⟩
    refine ⟨_, rfl, _, _, _, rfl, kpw f1, fun _ dd1 ndd1 => ?_, fun b' e x2 x5 => bad_b ww e x2 x5⟩
    have x1 : Same K1 (upd K1 dd1 (.xd [(("value" : Str), wrong)])) := same_up ndd1
    refine ⟨dd1, wrong, pdw, rfl, rfl, upd_same, sh_keep shw (fun q o _ nt h => x1 _ _ (f1 q o h nt)), shsw, shzw, ?_⟩
    have v1 := (f1).trans (LamX.ExtN.of x1)
    have V1 := U1.ext x1
    generalize upd K1 dd1 (.xd [(("value" : Str), wrong)]) = Z1 at v1 V1 x1 ⊢
    refine ⟨(by show 1 ≤ sizeLine; decide), fun l nl => ?_⟩
    have nlB : ∀ x o, HB x = some o → (∀ ps, o ≠ .tbl ps) → x ≠ l := fun x o e nt => ne_of_none (v1 x o e nt) nl
    have y1 : Same Z1 (upd Z1 l (.lst [.str pdw.shown])) := same_up nl
    have h2 : upd Z1 l (.lst [.str pdw.shown]) l = some (.lst [.str pdw.shown]) := upd_same
    have e2 := v1.trans (LamX.ExtN.of y1)
    have T2 := V1.ext y1
    generalize upd Z1 l (.lst [.str pdw.shown]) = J2 at h2 e2 T2 ⊢
    have grow : ∀ {J : Hp} {xs ys : List V}, LamX.ExtN HB J → LamX.Tabs (tE P2) J → J l = some (.lst xs) → LamX.ExtN HB (upd J l (.lst ys)) ∧ LamX.Tabs (tE P2) (upd J l (.lst ys)) := fun {J xs ys} e t hl => by
      refine ⟨fun x o hb nt => by rw [upd_ne (nlB x o hb nt)]; exact e x o hb nt, tabs_kp t hl Kp.upd⟩
    -- call 2
    refine ⟨_, rfl, .inl ⟨rfl, _, SqL.of h2⟩, T2, fun K2 f2 U2 => ?_⟩
    have g2 : LamX.ExtN HB K2 := e2.trans f2
    refine ⟨_, rfl, _, rfl, (by show 2 ≤ sizeLine; decide), fun tq2 nq2 => ?_⟩
    have sq2 : Same K2 (upd K2 tq2 (.tup [.int 0, .str ""])) := same_up nq2
    have gq2 := g2.trans (LamX.ExtN.of sq2)
    have Uq2 := U2.ext sq2
    have hq2 := sq2 _ _ (f2 _ _ h2 (fun _ z => nomatch z))
    generalize upd K2 tq2 (.tup [.int 0, .str ""]) = Kq2 at sq2 gq2 Uq2 hq2 ⊢
    refine ⟨_, _, _, _, _, rfl, pl_int, kpn gq2, fun z => wb z, fun _ _ dd2 ndd2 => ?_, fun b' R' _ e _ _ x1 x5 => bad_R wn e x1 x5⟩
    have x2 : Same Kq2 (upd Kq2 dd2 (.xd [(("value" : Str), non)])) := same_up ndd2
    refine ⟨dd2, non, pdn, rfl, rfl, upd_same, sh_keep shn (fun q o _ nt h => x2 _ _ (gq2 q o h nt)), shsn, shzn, ?_⟩
    have v2 := (gq2).trans (LamX.ExtN.of x2)
    have V2 := Uq2.ext x2
    have hz2 : upd Kq2 dd2 (.xd [(("value" : Str), non)]) l = some (.lst [.str pdw.shown]) := x2 _ _ hq2
    generalize upd Kq2 dd2 (.xd [(("value" : Str), non)]) = Z2 at v2 V2 hz2 ⊢
    refine ⟨l, _, .str pdn.shown, rfl, rfl, hz2, (by show 1 < sizeLine; decide), ?_⟩
    obtain ⟨e3, T3⟩ := grow (ys := [.str pdw.shown] ++ [.str pdn.shown]) v2 V2 hz2
    have h3 : upd Z2 l (.lst ([.str pdw.shown] ++ [.str pdn.shown])) l = some (.lst [.str pdw.shown, .str pdn.shown]) := upd_same
    generalize upd Z2 l (.lst ([.str pdw.shown] ++ [.str pdn.shown])) = J3 at e3 T3 h3 ⊢
    -- call 3
    refine ⟨_, rfl, .inl ⟨rfl, _, SqL.of h3⟩, T3, fun K3 f3 U3 => ?_⟩
    have g3 : LamX.ExtN HB K3 := e3.trans f3
    refine ⟨_, rfl, _, rfl, _, _, _, _, _, rfl, kpw g3, kpn g3, fun _ dd3 ndd3 => ?_, fun z => absurd (z.symm.trans ww) (by decide), fun b' R' e _ x2 x5 _ _ => bad_b ww e x2 x5⟩
    have x3 : Same K3 (upd K3 dd3 (.xd [(("value" : Str), wrong)])) := same_up ndd3
    refine ⟨dd3, wrong, pdw, rfl, rfl, upd_same, sh_keep shw (fun q o _ nt h => x3 _ _ (g3 q o h nt)), shsw, shzw, ?_⟩
    have v3 := (g3).trans (LamX.ExtN.of x3)
    have V3 := U3.ext x3
    have hz3 : upd K3 dd3 (.xd [(("value" : Str), wrong)]) l = some (.lst [.str pdw.shown, .str pdn.shown]) := x3 _ _ (f3 _ _ h3 (fun _ z => nomatch z))
    generalize upd K3 dd3 (.xd [(("value" : Str), wrong)]) = Z3 at v3 V3 hz3 ⊢
    refine ⟨l, _, .str pdw.shown, rfl, rfl, hz3, (by show 2 < sizeLine; decide), ?_⟩
    obtain ⟨e4, T4⟩ := grow (ys := [.str pdw.shown, .str pdn.shown] ++ [.str pdw.shown]) v3 V3 hz3
    have h4 : upd Z3 l (.lst ([.str pdw.shown, .str pdn.shown] ++ [.str pdw.shown])) l = some (.lst [.str pdw.shown, .str pdn.shown, .str pdw.shown]) := upd_same
    generalize upd Z3 l (.lst ([.str pdw.shown, .str pdn.shown] ++ [.str pdw.shown])) = J4 at e4 T4 h4 ⊢
    -- call 4
    refine ⟨_, rfl, .inl ⟨rfl, _, SqL.of h4⟩, T4, fun K4 f4 U4 => ?_⟩
    have g4 : LamX.ExtN HB K4 := e4.trans f4
    refine ⟨_, rfl, _, rfl, _, _, _, _, _, rfl, kpw g4, kpn g4, fun _ dd4 ndd4 => ?_, fun z => absurd (z.symm.trans ww) (by decide), fun b' R' e _ x2 x5 _ _ => bad_b ww e x2 x5⟩
    have x4 : Same K4 (upd K4 dd4 (.xd [(("value" : Str), wrong)])) := same_up ndd4
    refine ⟨dd4, wrong, pdw, rfl, rfl, upd_same, sh_keep shw (fun q o _ nt h => x4 _ _ (g4 q o h nt)), shsw, shzw, ?_⟩
    have v4 := (g4).trans (LamX.ExtN.of x4)
    have V4 := U4.ext x4
    have hz4 : upd K4 dd4 (.xd [(("value" : Str), wrong)]) l = some (.lst [.str pdw.shown, .str pdn.shown, .str pdw.shown]) := x4 _ _ (f4 _ _ h4 (fun _ z => nomatch z))
    generalize upd K4 dd4 (.xd [(("value" : Str), wrong)]) = Z4 at v4 V4 hz4 ⊢
    refine ⟨l, _, .str pdw.shown, rfl, rfl, hz4, (by show 3 < sizeLine; decide), ?_⟩
    obtain ⟨e5, T5⟩ := grow (ys := [.str pdw.shown, .str pdn.shown, .str pdw.shown] ++ [.str pdw.shown]) v4 V4 hz4
    have h5 : upd Z4 l (.lst ([.str pdw.shown, .str pdn.shown, .str pdw.shown] ++ [.str pdw.shown])) l = some (.lst [.str pdw.shown, .str pdn.shown, .str pdw.shown, .str pdw.shown]) := upd_same
    generalize upd Z4 l (.lst ([.str pdw.shown, .str pdn.shown, .str pdw.shown] ++ [.str pdw.shown])) = J5 at e5 T5 h5 ⊢
    -- call 5
    refine ⟨_, rfl, .inl ⟨rfl, _, SqL.of h5⟩, T5, fun K5 f5 U5 => ?_⟩
    have g5 : LamX.ExtN HB K5 := e5.trans f5
    refine ⟨_, rfl, _, rfl, (by show 3 ≤ sizeLine; decide), fun tq5 nq5 => ?_⟩
    have sq5 : Same K5 (upd K5 tq5 (.tup [.int 0, .str "", .str "1"])) := same_up nq5
    have gq5 := g5.trans (LamX.ExtN.of sq5)
    have Uq5 := U5.ext sq5
    have hq5 := sq5 _ _ (f5 _ _ h5 (fun _ z => nomatch z))
    generalize upd K5 tq5 (.tup [.int 0, .str "", .str "1"]) = Kq5 at sq5 gq5 Uq5 hq5 ⊢
    refine ⟨_, _, _, _, _, rfl, pl_int, kpn gq5, fun z => wb z, fun _ _ dd5 ndd5 => ?_, fun b' R' _ e _ _ x1 x5 => bad_R wn e x1 x5⟩
    have x5 : Same Kq5 (upd Kq5 dd5 (.xd [(("value" : Str), non)])) := same_up ndd5
    refine ⟨dd5, non, pdn, rfl, rfl, upd_same, sh_keep shn (fun q o _ nt h => x5 _ _ (gq5 q o h nt)), shsn, shzn, ?_⟩
    have v5 := (gq5).trans (LamX.ExtN.of x5)
    have V5 := Uq5.ext x5
    have hz5 : upd Kq5 dd5 (.xd [(("value" : Str), non)]) l = some (.lst [.str pdw.shown, .str pdn.shown, .str pdw.shown, .str pdw.shown]) := x5 _ _ hq5
    generalize upd Kq5 dd5 (.xd [(("value" : Str), non)]) = Z5 at v5 V5 hz5 ⊢
    refine ⟨l, _, .str pdn.shown, rfl, rfl, hz5, (by show 4 < sizeLine; decide), ?_⟩
    obtain ⟨e6, T6⟩ := grow (ys := [.str pdw.shown, .str pdn.shown, .str pdw.shown, .str pdw.shown] ++ [.str pdn.shown]) v5 V5 hz5
    have h6 : upd Z5 l (.lst ([.str pdw.shown, .str pdn.shown, .str pdw.shown, .str pdw.shown] ++ [.str pdn.shown])) l = some (.lst [.str pdw.shown, .str pdn.shown, .str pdw.shown, .str pdw.shown, .str pdn.shown]) := upd_same
    generalize upd Z5 l (.lst ([.str pdw.shown, .str pdn.shown, .str pdw.shown, .str pdw.shown] ++ [.str pdn.shown])) = J6 at e6 T6 h6 ⊢
    refine ⟨_, rfl, _, rfl, _, pdw, rfl, sh_keep shw (fun q o _ nt h => e6 q o h nt), shsw, Nat.le_trans shzw (by decide), _, rfl, _, pdn, rfl, sh_keep shn (fun q o _ nt h => e6 q o h nt), shsn, Nat.le_trans shzn (by decide), _, rfl, _, pdw, rfl, sh_keep shw (fun q o _ nt h => e6 q o h nt), shsw, Nat.le_trans shzw (by decide), _, rfl, _, pdw, rfl, sh_keep shw (fun q o _ nt h => e6 q o h nt), shsw, Nat.le_trans shzw (by decide), _, rfl, _, pdn, rfl, sh_keep shn (fun q o _ nt h => e6 q o h nt), shsn, Nat.le_trans shzn (by decide), (by show 5 ≤ sizeLine; decide), fun du ndu => ?_⟩
    have sA : Same J6 (upd J6 du (.lst [.str pdw.shown, .str pdn.shown, .str pdw.shown, .str pdw.shown, .str pdn.shown])) := same_up ndu
    have hdu : upd J6 du (.lst [.str pdw.shown, .str pdn.shown, .str pdw.shown, .str pdw.shown, .str pdn.shown]) du = some (.lst [.str pdw.shown, .str pdn.shown, .str pdw.shown, .str pdw.shown, .str pdn.shown]) := upd_same
    generalize upd J6 du (.lst [.str pdw.shown, .str pdn.shown, .str pdw.shown, .str pdw.shown, .str pdn.shown]) = JA at sA hdu ⊢
    have lw : PyData.canLay0 (.str pdw.shown) = true := lay_tail shlw
    have ln : PyData.canLay0 (.str pdn.shown) = true := lay_tail shln
    have lay : PyData.canLay0 (.list [.str pdw.shown, .str pdn.shown, .str pdw.shown, .str pdw.shown, .str pdn.shown]) = true := by
      show (PyData.canLay0 (.str pdw.shown) && (PyData.canLay0 (.str pdn.shown) && (PyData.canLay0 (.str pdw.shown) && (PyData.canLay0 (.str pdw.shown) && (PyData.canLay0 (.str pdn.shown) && true))))) = true
      rw [lw, ln]
      rfl
    have shp : SeqAt.shaped (.list [.str pdw.shown, .str pdn.shown, .str pdw.shown, .str pdw.shown, .str pdn.shown]) = true := by
      unfold SeqAt.shaped
      rw [lay]
      rfl
    have dp : L2.DpAll K JA ([.str pdw.shown, .str pdn.shown, .str pdw.shown, .str pdw.shown, .str pdn.shown] : List V) ([.str pdw.shown, .str pdn.shown, .str pdw.shown, .str pdw.shown, .str pdn.shown] : List PyData) := .cons (.str _) (.cons (.str _) (.cons (.str _) (.cons (.str _) (.cons (.str _) .nil))))
    refine ⟨.list [.str pdw.shown, .str pdn.shown, .str pdw.shown, .str pdw.shown, .str pdn.shown], .list [.str pdw.shown, .str pdn.shown, .str pdw.shown, .str pdw.shown, .str pdn.shown], .lst (SqL.of (sA _ _ h6)) dp, .lst (SqL.of hdu) dp, shp, shp, ?_⟩
    rw [PySem.SeqAt.eqv_refl _ lay]
    exact k d2 JA hd2 (by omega) (fun x o n nt e => sA _ _ (e6 _ _ (ktB x o n nt e) nt)) (sA _ _ (e6 _ _ aB (fun _ z => nomatch z))) (T6.ext sA)
end
end Vf


set_option Elab.async false
set_option maxRecDepth 100000
set_option maxHeartbeats 16000000
set_option exponentiation.threshold 3000
namespace Vf
open PySem L2 SX Vm VG
/-- a written normal form -/
theorem nf_lit {h q h' q' : List Nat} (many : Nat) (hm : h.length ≤ many) (hm' : h'.length ≤ many) (hq : 0 < q.length) (hq' : 0 < q'.length) (e : ∀ i, i < many + q'.length * q.length → ev h' q' i = ev h q i) (l : ∀ t, 0 < t → t < q'.length → ¬ Per q' t)
    (stop : 0 < h'.length → h'.getD (h'.length - 1) 0 ≠ q'.getD (q'.length - 1) 0) : Nf (ev h q) h' q' := by
  have all := ev_all hm' hm hq' hq e
  have L : Least q' q'.length := ⟨hq', per_len q', l⟩
  refine last_nf all hq' (fun s m s0 s1 z => L.prim (h := h') hq' s m s0 s1 fun i hi => ?_) stop
  rw [all, all]
  exact z i hi
theorem prim1 {a : Nat} (t : Nat) (h0 : 0 < t) (h1 : t < [a].length) : ¬ Per [a] t := absurd h1 (by simp; omega)
theorem prim2 {a b : Nat} (ne : a ≠ b) (t : Nat) (h0 : 0 < t) (h1 : t < [a, b].length) : ¬ Per [a, b] t := fun z => by
  have : t = 1 := by simp at h1; omega
  subst this
  exact ne (z 0).symm
theorem sfb1 : sfB [] [49] = true := sfB_nf (f := ev [] [49]) (nf_lit 4 (by decide) (by decide) (by decide) (by decide) (by decide) prim1 (by decide))
theorem sfb2 : sfB [] [49, 48] = true := sfB_nf (f := ev [] [49, 48]) (nf_lit 4 (by decide) (by decide) (by decide) (by decide) (by decide) (prim2 (by decide)) (by decide))
theorem sfb3 : sfB [] [49, 48, 49, 48] = false := by
  have n : Nf (ev [] [49, 48, 49, 48]) [] [49, 48] := nf_lit 4 (by decide) (by decide) (by decide) (by decide) (by decide) (prim2 (by decide)) (by decide)
  rw [← sf_iff n (by decide)]
  decide
theorem sfb4 : sfB [49] [48, 49] = false := by
  unfold sfB
  rw [show Txt.endswith (S [49]) ⟨#[[48, 49].getD ([48, 49].length - 1) 0]⟩ = true from by decide +kernel]
  simp
theorem sfb5 : sfB [48] [48, 49] = true := sfB_nf (f := ev [48] [48, 49]) (nf_lit 4 (by decide) (by decide) (by decide) (by decide) (by decide) (prim2 (by decide)) (by decide))
theorem isW_2 {l : List Nat} (h : (l.all fun c => decide (48 ≤ c) && decide (c < 50)) = true) : IsW ((2 : Nat) : Int) l := fun c hc => by
  have := List.all_eq_true.mp h c hc
  simp at this
  omega
theorem sg_lit {H : Hp} {p : Addr} {r : Int} {x y : List Nat} {sx sy : Str} (e : H p = some (.tup [.int r, .str sx, .str sy])) (ex : sx = S x) (ey : sy = S y) (r0 : 0 ≤ r) (r5 : r ≤ 4999) (wx : IsW ((2 : Nat) : Int) x) (wy : IsW ((2 : Nat) : Int) y) (y0 : 0 < y.length) (lx : x.length ≤ 1000) (ly : y.length ≤ 1000) : SG H 2 5000 (.ref p) (sfB x y) := by
  subst ex ey
  have w1 : withinV 0 (5000 - 1) (.int r) = true := by
    show (decide (0 ≤ r) && decide (r ≤ 5000 - 1)) = true
    rw [decide_eq_true r0, decide_eq_true (by omega)]
    rfl
  exact .fin e pl_int w1 wx wy y0 lx ly
theorem map_take_succ {α : Type} {L : List (α × Bool)} {i : Nat} {e : α × Bool} (h : L[i]? = some e) : (L.take (i + 1)).map (fun e => V.bl e.2) = (L.take i).map (fun e => V.bl e.2) ++ [.bl e.2] := by
  rw [List.take_add_one, h, List.map_append]
  rfl
theorem get_fst {L : List (V × Bool)} {i : Nat} {x : V} (h : (L.map Prod.fst)[i]? = some x) : ∃ e, L[i]? = some e ∧ e.1 = x ∧ e ∈ L := by
  rw [List.getElem?_map] at h
  cases z : L[i]? with
  | none => rw [z] at h; cases h
  | some e => rw [z] at h; exact ⟨e, rfl, Option.some.inj h, List.mem_of_getElem? z⟩
theorem SG.same {H H' : Hp} {b : Nat} {R : Int} {v : V} {res : Bool} (s : SG H b R v res) (k : Same H H') : SG H' b R v res := by
  cases s with
  | non p n => exact .non (pl_same p k) (nt_keep p n fun q o _ _ e => k q o e)
  | len h n => exact .len (k _ _ h) n
  | root h pr n => exact .root (k _ _ h) (pl_same pr k) n
  | head h pr w px n => exact .head (k _ _ h) (pl_same pr k) w (pl_same px k) n
  | per h pr w px wx py n => exact .per (k _ _ h) (pl_same pr k) w (pl_same px k) wx (pl_same py k) n
  | fin h pr w wx wy y0 lx ly => exact .fin (k _ _ h) (pl_same pr k) w wx wy y0 lx ly
theorem PG.same {H H' : Hp} {b : Nat} {R : Int} {v : V} {res : Bool} (s : PG H b R v res) (k : Same H H') : PG H' b R v res := by
  cases s with
  | non p n => exact .non (pl_same p k) (nt_keep p n fun q o _ _ e => k q o e)
  | len h n => exact .len (k _ _ h) n
  | fin h pr px => exact .fin (k _ _ h) (pl_same pr k) (pl_same px k)
theorem pg_lit {H : Hp} {p : Addr} {r : Int} {x : Str} {res : Bool} (e : H p = some (.tup [.int r, .str x])) (lx : x.length ≤ 9000) (h : (withinV 0 (5000 - 1) (.int r) && wordV 5 (.str x)) = res) : PG H 5 5000 (.ref p) res := by
  rw [← h]
  exact .fin e pl_int (.str _ lx)
theorem len_lt {L : List (V × Bool)} {i n : Nat} (h : L.length = n) (hn : n ≤ 100) : ((L.take i).map fun e => V.bl e.2).length < sizeLine := by
  rw [List.length_map, List.length_take]
  exact Nat.lt_of_le_of_lt (show min i L.length ≤ 100 by omega) (by decide)
def spWritten : Sp := fun vs H Q _ => vs = [] ∧ ∀ H', Same H H' → Q (.bl true) H'
section
variable {P : Program} {w : World} {K : PySem.W.Frag} {mg : Str → Option Value} {base : Heap}
theorem scWritten : FnScope ["some", "value"] [] (defScope sWritten) := ⟨rfl, rfl, rfl, by decide +kernel, rfl, by decide +kernel, by decide +kernel⟩
theorem ok_written {f fI fX fS CN : Addr} {fd fdI fdX fdS : FuncData} (F : Fun K "_law_written_right" "_law_written_right" sWritten f fd)
    (GI : FnOk P w K mg base (L2.CX P w) 5 fI fdI ["base", "value"] (spIsWord CN)) (cI : Cal K mg "is_word" fI fdI ["base", "value"])
    (GX : FnOk P w K mg base (L2.CX P w) 5 fX fdX ["base", "roots", "value"] (spIsPfxG CN)) (cX : Cal K mg "is_prefix" fX fdX ["base", "roots", "value"])
    (GS : FnOk P w K mg base (L2.CX P w) 5 fS fdS ["base", "roots", "value"] (spIsStrG CN)) (cS : Cal K mg "is_stream" fS fdS ["base", "roots", "value"]) :
    FnOk P w K mg base CX0 6 f fd [] spWritten := by
  refine F.ok scWritten (fun vs H Q E h => ?_) (fun cdv A outer s H vs Q E hr h => ?_)
  · obtain ⟨rfl, _⟩ := h
    rfl
  · obtain ⟨rfl, k⟩ := h
    have nd := scWritten.nd
    have hun := hr.units
    refine ⟨_, (pss_cons (ps_set (i := 0) nd rfl (.inl rfl) (pe_lst (pa_cons (pe_tup (pa_cons pe_int (pa_cons pe_str (pa_cons pe_str pa_nil)))) (pa_cons (pe_tup (pa_cons pe_int (pa_cons pe_str (pa_cons pe_str pa_nil)))) (pa_cons (pe_tup (pa_cons pe_int (pa_cons pe_str (pa_cons pe_str pa_nil)))) (pa_cons (pe_tup (pa_cons pe_int (pa_cons pe_str (pa_cons pe_str pa_nil)))) (pa_cons (pe_tup (pa_cons pe_int (pa_cons pe_str (pa_cons pe_str pa_nil)))) (pa_cons (pe_tup (pa_cons pe_int (pa_cons pe_str (pa_cons pe_str pa_nil)))) pa_nil))))))))
      (pss_cons (ps_expr (pe_bm PySem.F.plainAttrs_list PySem.F.slot_list_append PySem.F.type_list_append mt_append (pv 0) (pa_cons (pe_tup (pa_cons pe_int (pa_cons pe_str (pa_cons pe_str pa_nil)))) pa_nil)))
      (pss_cons (ps_if (pt_cmpR (op_neD hun) (pe_lc (own := [("value", 1)]) (g := gName 1) rfl nd (pi_list (pv 0)) (blkOk_by (N := ["some", "value"]) (sc := defScope sWritten) (by decide +kernel)) (fun _ _ _ _ _ => pg_name (i := 1) nd rfl (Or.inl rfl)) (fun _ _ _ _ _ => pts_nil) (fun _ _ _ _ _ => pe_call GS hr rfl cS.mg cS.kp cS.b .nil (passes_call takesE (fun _ _ _ _ h => h)) (pa_cons pe_int (pa_cons pe_int (pa_cons (pv 1) pa_nil))))) (pe_lst (pa_cons pe_bl (pa_cons pe_bl (pa_cons pe_bl (pa_cons pe_bl (pa_cons pe_bl (pa_cons pe_bl (pa_cons pe_bl pa_nil)))))))) (nomark _)) (pss_one (ps_ret pe_bl)) pss_nil)
      (pss_cons (ps_set (i := 0) nd rfl (.inl rfl) (pe_lst (pa_cons (pe_tup (pa_cons pe_int (pa_cons pe_str pa_nil))) (pa_cons (pe_tup (pa_cons pe_int (pa_cons pe_str pa_nil))) (pa_cons (pe_tup (pa_cons pe_int (pa_cons pe_str pa_nil))) (pa_cons (pe_tup (pa_cons pe_int (pa_cons pe_str pa_nil))) pa_nil))))))
      (pss_cons (ps_if (pt_cmpR (op_neD hun) (pe_lc (own := [("value", 1)]) (g := gName 1) rfl nd (pi_list (pv 0)) (blkOk_by (N := ["some", "value"]) (sc := defScope sWritten) (by decide +kernel)) (fun _ _ _ _ _ => pg_name (i := 1) nd rfl (Or.inl rfl)) (fun _ _ _ _ _ => pts_nil) (fun _ _ _ _ _ => pe_call GX hr rfl cX.mg cX.kp cX.b .nil (passes_call takesE (fun _ _ _ _ h => h)) (pa_cons pe_int (pa_cons pe_int (pa_cons (pv 1) pa_nil))))) (pe_lst (pa_cons pe_bl (pa_cons pe_bl (pa_cons pe_bl (pa_cons pe_bl pa_nil))))) (nomark _)) (pss_one (ps_ret pe_bl)) pss_nil)
      (pss_one (ps_ret (pe_cmpR (op_eqD hun) (pe_lc (own := [("value", 1)]) (g := gName 1) rfl nd (pi_tup (pe_tup (pa_cons pe_str (pa_cons pe_str (pa_cons (pe_op op_mul_str pe_str pe_int) (pa_cons pe_str pa_nil)))))) (blkOk_by (N := ["some", "value"]) (sc := defScope sWritten) (by decide +kernel)) (fun _ _ _ _ _ => pg_name (i := 1) nd rfl (Or.inl rfl)) (fun _ _ _ _ _ => pts_nil) (fun _ _ _ _ _ => pe_call GI hr rfl cI.mg cI.kp cI.b .nil (passes_call takesE (fun _ _ _ _ h => h)) (pa_cons pe_int (pa_cons (pv 1) pa_nil)))) (pe_lst (pa_cons pe_bl (pa_cons pe_bl (pa_cons pe_bl (pa_cons pe_bl pa_nil))))) (nomark _))))))))), ?_⟩
    have s0 : Same H H := Same.refl H
    refine ⟨(by show 3 ≤ sizeLine; decide), fun p1 n1 => ?_⟩
    have z1 : Same H (upd H p1 (.tup [.int 4999, .str "", .str "1"])) := same_up n1
    have e1 : upd H p1 (.tup [.int 4999, .str "", .str "1"]) p1 = some (.tup [.int 4999, .str "", .str "1"]) := upd_same
    have s1 := s0.trans z1
    generalize upd H p1 (.tup [.int 4999, .str "", .str "1"]) = J1 at z1 e1 s1 ⊢
    refine ⟨(by show 3 ≤ sizeLine; decide), fun p2 n2 => ?_⟩
    have z2 : Same J1 (upd J1 p2 (.tup [.int 5000, .str "", .str "1"])) := same_up n2
    have e2 : upd J1 p2 (.tup [.int 5000, .str "", .str "1"]) p2 = some (.tup [.int 5000, .str "", .str "1"]) := upd_same
    have s2 := s1.trans z2
    generalize upd J1 p2 (.tup [.int 5000, .str "", .str "1"]) = J2 at z2 e2 s2 ⊢
    replace e1 := z2 _ _ e1
    refine ⟨(by show 3 ≤ sizeLine; decide), fun p3 n3 => ?_⟩
    have z3 : Same J2 (upd J2 p3 (.tup [.int 0, .str "", .str "10"])) := same_up n3
    have e3 : upd J2 p3 (.tup [.int 0, .str "", .str "10"]) p3 = some (.tup [.int 0, .str "", .str "10"]) := upd_same
    have s3 := s2.trans z3
    generalize upd J2 p3 (.tup [.int 0, .str "", .str "10"]) = J3 at z3 e3 s3 ⊢
    replace e1 := z3 _ _ e1
    replace e2 := z3 _ _ e2
    refine ⟨(by show 3 ≤ sizeLine; decide), fun p4 n4 => ?_⟩
    have z4 : Same J3 (upd J3 p4 (.tup [.int 0, .str "", .str "1010"])) := same_up n4
    have e4 : upd J3 p4 (.tup [.int 0, .str "", .str "1010"]) p4 = some (.tup [.int 0, .str "", .str "1010"]) := upd_same
    have s4 := s3.trans z4
    generalize upd J3 p4 (.tup [.int 0, .str "", .str "1010"]) = J4 at z4 e4 s4 ⊢
    replace e1 := z4 _ _ e1
    replace e2 := z4 _ _ e2
    replace e3 := z4 _ _ e3
    refine ⟨(by show 3 ≤ sizeLine; decide), fun p5 n5 => ?_⟩
    have z5 : Same J4 (upd J4 p5 (.tup [.int 0, .str "1", .str "01"])) := same_up n5
    have e5 : upd J4 p5 (.tup [.int 0, .str "1", .str "01"]) p5 = some (.tup [.int 0, .str "1", .str "01"]) := upd_same
    have s5 := s4.trans z5
    generalize upd J4 p5 (.tup [.int 0, .str "1", .str "01"]) = J5 at z5 e5 s5 ⊢
    replace e1 := z5 _ _ e1
    replace e2 := z5 _ _ e2
    replace e3 := z5 _ _ e3
    replace e4 := z5 _ _ e4
    refine ⟨(by show 3 ≤ sizeLine; decide), fun p6 n6 => ?_⟩
    have z6 : Same J5 (upd J5 p6 (.tup [.int 0, .str "0", .str "01"])) := same_up n6
    have e6 : upd J5 p6 (.tup [.int 0, .str "0", .str "01"]) p6 = some (.tup [.int 0, .str "0", .str "01"]) := upd_same
    have s6 := s5.trans z6
    generalize upd J5 p6 (.tup [.int 0, .str "0", .str "01"]) = J6 at z6 e6 s6 ⊢
    replace e1 := z6 _ _ e1
    replace e2 := z6 _ _ e2
    replace e3 := z6 _ _ e3
    replace e4 := z6 _ _ e4
    replace e5 := z6 _ _ e5
    refine ⟨(by show 6 ≤ sizeLine; decide), fun l nl => ?_⟩
    have zl : Same J6 (upd J6 l (.lst [.ref p1, .ref p2, .ref p3, .ref p4, .ref p5, .ref p6])) := same_up nl
    have el : upd J6 l (.lst [.ref p1, .ref p2, .ref p3, .ref p4, .ref p5, .ref p6]) l = some (.lst [.ref p1, .ref p2, .ref p3, .ref p4, .ref p5, .ref p6]) := upd_same
    have nlH : H l = none := s6.free nl
    have sl := s6.trans zl
    generalize upd J6 l (.lst [.ref p1, .ref p2, .ref p3, .ref p4, .ref p5, .ref p6]) = Jl at zl el sl ⊢
    replace e1 := zl _ _ e1
    replace e2 := zl _ _ e2
    replace e3 := zl _ _ e3
    replace e4 := zl _ _ e4
    replace e5 := zl _ _ e5
    replace e6 := zl _ _ e6
    refine ⟨_, rfl, .inl ⟨rfl, _, SqL.of el⟩, (by show 3 ≤ sizeLine; decide), fun p7 n7 => ?_⟩
    have z7 : Same Jl (upd Jl p7 (.tup [.int 0, .str "", .str ""])) := same_up n7
    have e7 : upd Jl p7 (.tup [.int 0, .str "", .str ""]) p7 = some (.tup [.int 0, .str "", .str ""]) := upd_same
    have s7 := sl.trans z7
    replace el := z7 _ _ el
    generalize upd Jl p7 (.tup [.int 0, .str "", .str ""]) = J7 at z7 e7 s7 el ⊢
    replace e1 := z7 _ _ e1
    replace e2 := z7 _ _ e2
    replace e3 := z7 _ _ e3
    replace e4 := z7 _ _ e4
    replace e5 := z7 _ _ e5
    replace e6 := z7 _ _ e6
    refine ⟨l, [.ref p1, .ref p2, .ref p3, .ref p4, .ref p5, .ref p6], .ref p7, rfl, rfl, el, (by show 6 < sizeLine; decide), ?_⟩
    have ea : upd J7 l (.lst ([.ref p1, .ref p2, .ref p3, .ref p4, .ref p5, .ref p6] ++ [.ref p7])) l = some (.lst [.ref p1, .ref p2, .ref p3, .ref p4, .ref p5, .ref p6, .ref p7]) := upd_same
    have sa : Same H (upd J7 l (.lst ([.ref p1, .ref p2, .ref p3, .ref p4, .ref p5, .ref p6] ++ [.ref p7]))) := fun b o e => by rw [upd_ne (fun z => by rw [z, nlH] at e; cases e)]; exact s7 b o e
    replace e1 : upd J7 l (.lst ([.ref p1, .ref p2, .ref p3, .ref p4, .ref p5, .ref p6] ++ [.ref p7])) p1 = some (.tup [.int 4999, .str "", .str "1"]) := by rw [upd_ne (fun z => by rw [z, el] at e1; cases e1)]; exact e1
    replace e2 : upd J7 l (.lst ([.ref p1, .ref p2, .ref p3, .ref p4, .ref p5, .ref p6] ++ [.ref p7])) p2 = some (.tup [.int 5000, .str "", .str "1"]) := by rw [upd_ne (fun z => by rw [z, el] at e2; cases e2)]; exact e2
    replace e3 : upd J7 l (.lst ([.ref p1, .ref p2, .ref p3, .ref p4, .ref p5, .ref p6] ++ [.ref p7])) p3 = some (.tup [.int 0, .str "", .str "10"]) := by rw [upd_ne (fun z => by rw [z, el] at e3; cases e3)]; exact e3
    replace e4 : upd J7 l (.lst ([.ref p1, .ref p2, .ref p3, .ref p4, .ref p5, .ref p6] ++ [.ref p7])) p4 = some (.tup [.int 0, .str "", .str "1010"]) := by rw [upd_ne (fun z => by rw [z, el] at e4; cases e4)]; exact e4
    replace e5 : upd J7 l (.lst ([.ref p1, .ref p2, .ref p3, .ref p4, .ref p5, .ref p6] ++ [.ref p7])) p5 = some (.tup [.int 0, .str "1", .str "01"]) := by rw [upd_ne (fun z => by rw [z, el] at e5; cases e5)]; exact e5
    replace e6 : upd J7 l (.lst ([.ref p1, .ref p2, .ref p3, .ref p4, .ref p5, .ref p6] ++ [.ref p7])) p6 = some (.tup [.int 0, .str "0", .str "01"]) := by rw [upd_ne (fun z => by rw [z, el] at e6; cases e6)]; exact e6
    replace e7 : upd J7 l (.lst ([.ref p1, .ref p2, .ref p3, .ref p4, .ref p5, .ref p6] ++ [.ref p7])) p7 = some (.tup [.int 0, .str "", .str ""]) := by rw [upd_ne (fun z => by rw [z, el] at e7; cases e7)]; exact e7
    generalize upd J7 l (.lst ([.ref p1, .ref p2, .ref p3, .ref p4, .ref p5, .ref p6] ++ [.ref p7])) = Ja at ea sa e1 e2 e3 e4 e5 e6 e7 ⊢
    clear el
    obtain ⟨L, hL⟩ : ∃ L : List (V × Bool), L = [(.ref p1, true), (.ref p2, false), (.ref p3, true), (.ref p4, false), (.ref p5, false), (.ref p6, true), (.ref p7, false)] := ⟨_, rfl⟩
    have hx : L.map Prod.fst = [.ref p1, .ref p2, .ref p3, .ref p4, .ref p5, .ref p6, .ref p7] := by rw [hL]; rfl
    have emp : ("" : Str) = S [] := str_empty
    have sgs : ∀ e ∈ L, SG Ja 2 5000 e.1 e.2 := by
      rw [hL]
      refine List.forall_mem_cons.mpr ⟨?_, List.forall_mem_cons.mpr ⟨?_, List.forall_mem_cons.mpr ⟨?_, List.forall_mem_cons.mpr ⟨?_, List.forall_mem_cons.mpr ⟨?_, List.forall_mem_cons.mpr ⟨?_, List.forall_mem_cons.mpr ⟨?_, by intro _ z; cases z⟩⟩⟩⟩⟩⟩⟩
      · have z := sg_lit e1 emp (show ("1" : Str) = S [49] by decide +kernel) (by decide) (by decide) (isW_2 (by decide)) (isW_2 (by decide)) (by decide) (by decide) (by decide)
        rw [sfb1] at z
        exact z
      · exact .root e2 pl_int (by decide)
      · have z := sg_lit e3 emp (show ("10" : Str) = S [49, 48] by decide +kernel) (by decide) (by decide) (isW_2 (by decide)) (isW_2 (by decide)) (by decide) (by decide) (by decide)
        rw [sfb2] at z
        exact z
      · have z := sg_lit e4 emp (show ("1010" : Str) = S [49, 48, 49, 48] by decide +kernel) (by decide) (by decide) (isW_2 (by decide)) (isW_2 (by decide)) (by decide) (by decide) (by decide)
        rw [sfb3] at z
        exact z
      · have z := sg_lit e5 (show ("1" : Str) = S [49] by decide +kernel) (show ("01" : Str) = S [48, 49] by decide +kernel) (by decide) (by decide) (isW_2 (by decide)) (isW_2 (by decide)) (by decide) (by decide) (by decide)
        rw [sfb4] at z
        exact z
      · have z := sg_lit e6 (show ("0" : Str) = S [48] by decide +kernel) (show ("01" : Str) = S [48, 49] by decide +kernel) (by decide) (by decide) (isW_2 (by decide)) (isW_2 (by decide)) (by decide) (by decide) (by decide)
        rw [sfb5] at z
        exact z
      · exact .per e7 pl_int (by decide) (.str _ (by decide)) (by decide +kernel) (.str _ (by decide)) (.inr rfl)
    refine ⟨_, rfl, l, rfl, ⟨[.ref p1, .ref p2, .ref p3, .ref p4, .ref p5, .ref p6, .ref p7], SqL.of ea⟩, fun D hD => ?_⟩
    have nDl : l ≠ D := fun z => by rw [z, hD] at ea; cases ea
    refine lc_list (xs := [.ref p1, .ref p2, .ref p3, .ref p4, .ref p5, .ref p6, .ref p7]) (fun i H2 => H2 = upd Ja D (.lst ((L.take i).map fun e => V.bl e.2))) rfl (fun i H2 _ hp => by rw [hp]; exact SqL.of (by rw [upd_ne nDl]; exact ea)) ?_ ?_
    · rintro i x H2 hi rfl
      rw [← hx] at hi
      obtain ⟨e, he, rfl, hm⟩ := get_fst hi
      have sg := sgs e hm
      refine ⟨rfl, _, rfl, _, _, _, _, _, rfl, pl_int, pl_int, fun z => absurd z (by decide), fun _ z => absurd z (by decide), fun b' R' eb eR _ _ _ _ => ⟨e.2, ?_, _, upd_same, ?_, ?_⟩⟩
      · obtain rfl := nat_of (b := 2) eb
        obtain rfl := V.int.inj eR
        exact sg.same (same_up hD)
      · exact len_lt (n := 7) (by rw [hL]; rfl) (by decide)
      · rw [upd_upd', map_take_succ he]
    rintro H2 rfl
    have hT : (L.take ([.ref p1, .ref p2, .ref p3, .ref p4, .ref p5, .ref p6, .ref p7] : List V).length).map (fun e => V.bl e.2) = [.bl true, .bl false, .bl true, .bl false, .bl false, .bl true, .bl false] := by rw [hL]; rfl
    rw [hT]
    have sD : Same Ja (upd Ja D (.lst [.bl true, .bl false, .bl true, .bl false, .bl false, .bl true, .bl false])) := same_up hD
    have eD : upd Ja D (.lst [.bl true, .bl false, .bl true, .bl false, .bl false, .bl true, .bl false]) D = some (.lst [.bl true, .bl false, .bl true, .bl false, .bl false, .bl true, .bl false]) := upd_same
    have sb := sa.trans sD
    generalize upd Ja D (.lst [.bl true, .bl false, .bl true, .bl false, .bl false, .bl true, .bl false]) = Jb at sb eD ⊢
    clear sD sgs ea e1 e2 e3 e4 e5 e6 e7
    refine ⟨(by show 7 ≤ sizeLine; decide), fun q nq => ?_⟩
    have sq : Same Jb (upd Jb q (.lst [.bl true, .bl false, .bl true, .bl false, .bl false, .bl true, .bl false])) := same_up nq
    have eq : upd Jb q (.lst [.bl true, .bl false, .bl true, .bl false, .bl false, .bl true, .bl false]) q = some (.lst [.bl true, .bl false, .bl true, .bl false, .bl false, .bl true, .bl false]) := upd_same
    replace eD := sq _ _ eD
    have sc := sb.trans sq
    generalize upd Jb q (.lst [.bl true, .bl false, .bl true, .bl false, .bl false, .bl true, .bl false]) = Jc at sc eq eD ⊢
    refine ⟨.list [.bool true, .bool false, .bool true, .bool false, .bool false, .bool true, .bool false], .list [.bool true, .bool false, .bool true, .bool false, .bool false, .bool true, .bool false], .lst (SqL.of eD) (.cons (.bl _) (.cons (.bl _) (.cons (.bl _) (.cons (.bl _) (.cons (.bl _) (.cons (.bl _) (.cons (.bl _) .nil))))))), .lst (SqL.of eq) (.cons (.bl _) (.cons (.bl _) (.cons (.bl _) (.cons (.bl _) (.cons (.bl _) (.cons (.bl _) (.cons (.bl _) .nil))))))), by decide +kernel, by decide +kernel, _, rfl, ?_⟩
    refine iteFB (by decide +kernel) ?_
    clear eD eq hx hL hT
    refine ⟨(by show 2 ≤ sizeLine; decide), fun u1 m1 => ?_⟩
    have y1 : Same Jc (upd Jc u1 (.tup [.int 4999, .str "4"])) := same_up m1
    have f1 : upd Jc u1 (.tup [.int 4999, .str "4"]) u1 = some (.tup [.int 4999, .str "4"]) := upd_same
    have r1 := sc.trans y1
    generalize upd Jc u1 (.tup [.int 4999, .str "4"]) = M1 at y1 f1 r1 ⊢
    refine ⟨(by show 2 ≤ sizeLine; decide), fun u2 m2 => ?_⟩
    have y2 : Same M1 (upd M1 u2 (.tup [.int 5000, .str ""])) := same_up m2
    have f2 : upd M1 u2 (.tup [.int 5000, .str ""]) u2 = some (.tup [.int 5000, .str ""]) := upd_same
    have r2 := r1.trans y2
    generalize upd M1 u2 (.tup [.int 5000, .str ""]) = M2 at y2 f2 r2 ⊢
    replace f1 := y2 _ _ f1
    refine ⟨(by show 2 ≤ sizeLine; decide), fun u3 m3 => ?_⟩
    have y3 : Same M2 (upd M2 u3 (.tup [.int 0, .str "5"])) := same_up m3
    have f3 : upd M2 u3 (.tup [.int 0, .str "5"]) u3 = some (.tup [.int 0, .str "5"]) := upd_same
    have r3 := r2.trans y3
    generalize upd M2 u3 (.tup [.int 0, .str "5"]) = M3 at y3 f3 r3 ⊢
    replace f1 := y3 _ _ f1
    replace f2 := y3 _ _ f2
    refine ⟨(by show 2 ≤ sizeLine; decide), fun u4 m4 => ?_⟩
    have y4 : Same M3 (upd M3 u4 (.tup [.int 0, .str ""])) := same_up m4
    have f4 : upd M3 u4 (.tup [.int 0, .str ""]) u4 = some (.tup [.int 0, .str ""]) := upd_same
    have r4 := r3.trans y4
    generalize upd M3 u4 (.tup [.int 0, .str ""]) = M4 at y4 f4 r4 ⊢
    replace f1 := y4 _ _ f1
    replace f2 := y4 _ _ f2
    replace f3 := y4 _ _ f3
    refine ⟨(by show 4 ≤ sizeLine; decide), fun l' nl' => ?_⟩
    have yl : Same M4 (upd M4 l' (.lst [.ref u1, .ref u2, .ref u3, .ref u4])) := same_up nl'
    have el : upd M4 l' (.lst [.ref u1, .ref u2, .ref u3, .ref u4]) l' = some (.lst [.ref u1, .ref u2, .ref u3, .ref u4]) := upd_same
    have rl := r4.trans yl
    generalize upd M4 l' (.lst [.ref u1, .ref u2, .ref u3, .ref u4]) = Ml at yl el rl ⊢
    replace f1 := yl _ _ f1
    replace f2 := yl _ _ f2
    replace f3 := yl _ _ f3
    replace f4 := yl _ _ f4
    obtain ⟨L, hL⟩ : ∃ L : List (V × Bool), L = [(.ref u1, true), (.ref u2, false), (.ref u3, false), (.ref u4, true)] := ⟨_, rfl⟩
    have hx : L.map Prod.fst = [.ref u1, .ref u2, .ref u3, .ref u4] := by rw [hL]; rfl
    have pgs : ∀ e ∈ L, PG Ml 5 5000 e.1 e.2 := by
      rw [hL]
      exact List.forall_mem_cons.mpr ⟨pg_lit (res := true) f1 (by decide) (by decide +kernel), List.forall_mem_cons.mpr ⟨pg_lit (res := false) f2 (by decide) (by decide +kernel), List.forall_mem_cons.mpr ⟨pg_lit (res := false) f3 (by decide) (by decide +kernel), List.forall_mem_cons.mpr ⟨pg_lit (res := true) f4 (by decide) (by decide +kernel), by intro _ z; cases z⟩⟩⟩⟩
    refine ⟨_, rfl, l', rfl, ⟨[.ref u1, .ref u2, .ref u3, .ref u4], SqL.of el⟩, fun D hD => ?_⟩
    have nDl : l' ≠ D := fun z => by rw [z, hD] at el; cases el
    refine lc_list (xs := [.ref u1, .ref u2, .ref u3, .ref u4]) (fun i H2 => H2 = upd Ml D (.lst ((L.take i).map fun e => V.bl e.2))) rfl (fun i H2 _ hp => by rw [hp]; exact SqL.of (by rw [upd_ne nDl]; exact el)) ?_ ?_
    · rintro i x H2 hi rfl
      rw [← hx] at hi
      obtain ⟨e, he, rfl, hm⟩ := get_fst hi
      have pg := pgs e hm
      refine ⟨rfl, _, rfl, _, _, _, _, _, rfl, pl_int, pl_int, fun z => absurd z (by decide), fun _ z => absurd z (by decide), fun b' R' eb eR _ _ _ _ => ⟨e.2, ?_, _, upd_same, ?_, ?_⟩⟩
      · obtain rfl := nat_of (b := 5) eb
        obtain rfl := V.int.inj eR
        exact pg.same (same_up hD)
      · exact len_lt (n := 4) (by rw [hL]; rfl) (by decide)
      · rw [upd_upd', map_take_succ he]
    rintro H2 rfl
    have hT : (L.take ([.ref u1, .ref u2, .ref u3, .ref u4] : List V).length).map (fun e => V.bl e.2) = [.bl true, .bl false, .bl false, .bl true] := by rw [hL]; rfl
    rw [hT]
    have sD : Same Ml (upd Ml D (.lst [.bl true, .bl false, .bl false, .bl true])) := same_up hD
    have eD : upd Ml D (.lst [.bl true, .bl false, .bl false, .bl true]) D = some (.lst [.bl true, .bl false, .bl false, .bl true]) := upd_same
    have sb := rl.trans sD
    generalize upd Ml D (.lst [.bl true, .bl false, .bl false, .bl true]) = Jb at sb eD ⊢
    clear sD pgs el f1 f2 f3 f4
    refine ⟨(by show 4 ≤ sizeLine; decide), fun q nq => ?_⟩
    have sq : Same Jb (upd Jb q (.lst [.bl true, .bl false, .bl false, .bl true])) := same_up nq
    have eq : upd Jb q (.lst [.bl true, .bl false, .bl false, .bl true]) q = some (.lst [.bl true, .bl false, .bl false, .bl true]) := upd_same
    replace eD := sq _ _ eD
    have sc := sb.trans sq
    generalize upd Jb q (.lst [.bl true, .bl false, .bl false, .bl true]) = Jc at sc eq eD ⊢
    refine ⟨.list [.bool true, .bool false, .bool false, .bool true], .list [.bool true, .bool false, .bool false, .bool true], .lst (SqL.of eD) (.cons (.bl _) (.cons (.bl _) (.cons (.bl _) (.cons (.bl _) .nil)))), .lst (SqL.of eq) (.cons (.bl _) (.cons (.bl _) (.cons (.bl _) (.cons (.bl _) .nil)))), by decide +kernel, by decide +kernel, _, rfl, ?_⟩
    refine iteFB (by decide +kernel) ?_
    clear eD eq hx hL hT
    refine ⟨[48, 49], 100, congrArg V.str (by decide +kernel), rfl, by decide, by decide, by decide, (by show 4 ≤ sizeLine; decide), fun pt npt => ?_⟩
    obtain ⟨z100, hz⟩ : ∃ x : Str, x = S ((List.replicate 100 [48, 49]).flatten) := ⟨_, rfl⟩
    rw [← hz]
    have yt : Same Jc (upd Jc pt (.tup [.str "", .str "2", .str z100, .str "0\n"])) := same_up npt
    have et : upd Jc pt (.tup [.str "", .str "2", .str z100, .str "0\n"]) pt = some (.tup [.str "", .str "2", .str z100, .str "0\n"]) := upd_same
    have rt := sc.trans yt
    generalize upd Jc pt (.tup [.str "", .str "2", .str z100, .str "0\n"]) = Mt at et rt ⊢
    obtain ⟨L, hL⟩ : ∃ L : List (V × Bool), L = [(.str "", true), (.str "2", false), (.str z100, true), (.str "0\n", false)] := ⟨_, rfl⟩
    have hx : L.map Prod.fst = [.str "", .str "2", .str z100, .str "0\n"] := by rw [hL]; rfl
    have wss : ∀ e ∈ L, ∃ s, e.1 = .str s ∧ s.length ≤ 9000 ∧ wordV 2 e.1 = e.2 := by
      rw [hL]
      exact List.forall_mem_cons.mpr ⟨⟨_, rfl, by decide, show wordV 2 (.str "") = true by decide +kernel⟩, List.forall_mem_cons.mpr ⟨⟨_, rfl, by decide, show wordV 2 (.str "2") = false by decide +kernel⟩, List.forall_mem_cons.mpr ⟨⟨_, rfl, by rw [hz]; decide +kernel, show wordV 2 (.str z100) = true by rw [hz]; decide +kernel⟩, List.forall_mem_cons.mpr ⟨⟨_, rfl, by decide, show wordV 2 (.str "0\n") = false by decide +kernel⟩, by intro _ z; cases z⟩⟩⟩⟩
    refine ⟨pt, rfl, ⟨_, SqT.of et⟩, fun D hD => ?_⟩
    have nDt : pt ≠ D := fun z => by rw [z, hD] at et; cases et
    refine lc_tup (xs := [.str "", .str "2", .str z100, .str "0\n"]) (fun i H2 => H2 = upd Mt D (.lst ((L.take i).map fun e => V.bl e.2))) rfl (fun i H2 _ hp => by rw [hp]; exact SqT.of (by rw [upd_ne nDt]; exact et)) ?_ ?_
    · rintro i x H2 hi rfl
      rw [← hx] at hi
      obtain ⟨e, he, rfl, hm⟩ := get_fst hi
      obtain ⟨s, es, ls, hw⟩ := wss e hm
      refine ⟨rfl, _, rfl, _, _, _, rfl, pl_int, fun z => absurd z (by decide), fun b' eb _ _ => ?_⟩
      obtain rfl := nat_of (b := 2) eb
      refine ⟨_, by rw [es]; exact .str s ls, _, upd_same, len_lt (n := 4) (by rw [hL]; rfl) (by decide), ?_⟩
      rw [hw, upd_upd', map_take_succ he]
    rintro H2 rfl
    have hT : (L.take ([.str "", .str "2", .str z100, .str "0\n"] : List V).length).map (fun e => V.bl e.2) = [.bl true, .bl false, .bl true, .bl false] := by rw [hL]; rfl
    rw [hT]
    have sD : Same Mt (upd Mt D (.lst [.bl true, .bl false, .bl true, .bl false])) := same_up hD
    have eD : upd Mt D (.lst [.bl true, .bl false, .bl true, .bl false]) D = some (.lst [.bl true, .bl false, .bl true, .bl false]) := upd_same
    have sb := rt.trans sD
    generalize upd Mt D (.lst [.bl true, .bl false, .bl true, .bl false]) = Jb at sb eD ⊢
    refine ⟨(by show 4 ≤ sizeLine; decide), fun q nq => ?_⟩
    have sq : Same Jb (upd Jb q (.lst [.bl true, .bl false, .bl true, .bl false])) := same_up nq
    have eq : upd Jb q (.lst [.bl true, .bl false, .bl true, .bl false]) q = some (.lst [.bl true, .bl false, .bl true, .bl false]) := upd_same
    replace eD := sq _ _ eD
    have sc := sb.trans sq
    generalize upd Jb q (.lst [.bl true, .bl false, .bl true, .bl false]) = Jc at sc eq eD ⊢
    refine ⟨.list [.bool true, .bool false, .bool true, .bool false], .list [.bool true, .bool false, .bool true, .bool false], .lst (SqL.of eD) (.cons (.bl _) (.cons (.bl _) (.cons (.bl _) (.cons (.bl _) .nil)))), .lst (SqL.of eq) (.cons (.bl _) (.cons (.bl _) (.cons (.bl _) (.cons (.bl _) .nil)))), by decide +kernel, by decide +kernel, ?_⟩
    rw [show PyData.eqv (.list [.bool true, .bool false, .bool true, .bool false]) (.list [.bool true, .bool false, .bool true, .bool false]) = true by decide +kernel]
    exact k _ sc
end
end Vf


set_option Elab.async false
set_option maxRecDepth 100000
set_option maxHeartbeats 16000000
set_option exponentiation.threshold 3000
namespace Vf
open PySem L2 SX Vm VG
def spLaw (K : PySem.W.Frag) (P2 : Addr) : Sp := fun vs H Q _ => ∃ (a : Addr) (ns : List Int), vs = [.ref a] ∧ SqL K H a (ns.map V.int) ∧ ns.length ≤ 63 ∧ LamX.Tabs (tE P2) H ∧ ∀ H', Q (.bl true) H'
theorem fine_word {N n m b : Nat} {l : List Nat} (w : IsW (b : Int) l) (b5 : b ≤ 5) (h : l.length ≤ m) : Fine N n m (.str (S l)) := fine_str (fun c hc => by
  have := (w c (by simpa using hc)).2
  omega) (by rw [S_len]; exact h)
section
variable {P : Program} {w : World} {K : PySem.W.Frag} {mg : Str → Option Value} {base : Heap}
theorem scLaw : FnScope ["script", "at", "base", "bent", "die", "one", "stream", "turn", "value", "wide"] ["script"] (defScope sLaw) := ⟨rfl, rfl, rfl, by decide +kernel, rfl, by decide +kernel, by decide +kernel⟩
theorem sql_ext {H H' : Hp} {a : Addr} {xs : List V} (h : SqL K H a xs) (e : LamX.ExtN H H') : SqL K H' a xs := by
  rcases h with (h | ⟨o, h⟩) | h
  · exact .inl (.inl (e _ _ h (fun _ z => nomatch z)))
  · exact .inl (.inr ⟨o, e _ _ h (fun _ z => nomatch z)⟩)
  · exact .inr h
theorem ok_law {f fD fB fP fS fO fT fJ fE fW P2 : Addr} {fd fdD fdB fdP fdS fdO fdT fdJ fdE fdW : FuncData} (F : Fun K "law" "law" sLaw f fd)
    (GD : FnOk P w K mg base CX0 1 fD fdD ["script", "at"] (spDice K)) (cD : Cal K mg "_law_dice" fD fdD ["script", "at"])
    (GB : FnOk P w K mg base CX0 2 fB fdB ["die"] spBase) (cB : Cal K mg "_law_base" fB fdB ["die"])
    (GP : FnOk P w K mg base CX0 1 fP fdP ["die", "many"] spPull) (cP : Cal K mg "_law_pull" fP fdP ["die", "many"])
    (GS : FnOk P w K mg base CX0 3 fS fdS ["die", "base", "wide", "high"] spLStream) (cS : Cal K mg "_law_stream" fS fdS ["die", "base", "wide", "high"])
    (GO : FnOk P w K mg base CX0 2 fO fdO ["die"] spOdd) (cO : Cal K mg "_law_odd" fO fdO ["die"])
    (GT : FnOk P w K mg base CX0 5 fT fdT ["die", "thing", "deep"] (spB 3)) (cT : Cal K mg "_law_bent" fT fdT ["die", "thing", "deep"])
    (GJ : VG.FnG P w K mg base 6 fJ fdJ ["base", "wide", "value"] spJudged) (cJ : Cal K mg "_law_judged" fJ fdJ ["base", "wide", "value"])
    (GE : VG.FnG P w K mg base 8 fE fdE ["die", "base"] (spErrK P2)) (cE : Cal K mg "_law_errors_right" fE fdE ["die", "base"])
    (GW : FnOk P w K mg base CX0 6 fW fdW [] spWritten) (cW : Cal K mg "_law_written_right" fW fdW [])
    (ml : mg "len" = none) (nr : mg "range" = none) (nx : mg "max" = none) (nn : mg "min" = none) : VG.FnG P w K mg base 9 f fd ["script"] (spLaw K P2) := by
  refine VG.FnG.of F scLaw (fun vs H Q E h => ?_) (fun cdv A outer s H vs Q E gd hr _ _ h => ?_)
  · obtain ⟨a, ns, rfl, _⟩ := h
    rfl
  · obtain ⟨a, ns, rfl, hs, hn, tabs, k⟩ := h
    have nd := scLaw.nd
    have hr1 := hr.mono (show 1 ≤ 8 by decide)
    have hr2 := hr.mono (show 2 ≤ 8 by decide)
    have hr3 := hr.mono (show 3 ≤ 8 by decide)
    have hr5 := hr.mono (show 5 ≤ 8 by decide)
    have hr6 := hr.mono (show 6 ≤ 8 by decide)
    refine ⟨_, pss_cons (ps_for PassesOwn.never rfl (pi_range1 rfl nr (pa_cons (pe_callB (call_max2 rfl) (by rfl) nx PyProof.Rows.boot_max (pa_cons pe_int (pa_cons (pe_callB (call_min2 rfl) (by rfl) nn PyProof.Rows.boot_min (pa_cons pe_int (pa_cons (pe_callB call_len_seq (by rfl) ml boot_len (pa_cons (pv 0) pa_nil)) pa_nil))) pa_nil))) pa_nil)) (pg_name (i := 1) nd rfl (.inl rfl))
        (pss_cons (ps_set (i := 4) nd rfl (.inl rfl) (pe_call GD hr1 rfl cD.mg cD.kp cD.b .nil pass0 (pa_cons (pv 0) (pa_cons (pv 1) pa_nil))))
        (pss_cons (ps_par (i := 2) (j := 9) rfl nd rfl rfl (by decide) rfl rfl (pa_cons (pe_call GB hr2 rfl cB.mg cB.kp cB.b .nil pass0 (pa_cons (pv 4) pa_nil)) (pa_cons (pe_op op_add pe_int (pe_call GP hr1 rfl cP.mg cP.kp cP.b .nil pass0 (pa_cons (pv 4) (pa_cons pe_int pa_nil)))) pa_nil)) rfl)
        (pss_cons (ps_for PassesOwn.never rfl (pi_range1 rfl nr (pa_cons pe_int pa_nil)) (pg_name (i := 7) nd rfl (.inl rfl))
          (pss_cons (ps_set (i := 6) nd rfl (.inl rfl) (pe_call GS hr3 rfl cS.mg cS.kp cS.b .nil pass0 (pa_cons (pv 4) (pa_cons (pv 2) (pa_cons pe_int (pa_cons pe_int pa_nil))))))
          (pss_one (ps_for PassesOwn.never rfl (pi_tup (pe_tup (pa_cons (pv 6) (pa_cons (pe_tup (pa_cons (pe_ix ix_tup (pv 6) pe_int (fun _ _ => rfl)) (pa_cons (pe_op op_add_str (pe_ix ix_tup (pv 6) pe_int (fun _ _ => rfl)) (pe_slice sl_str (pe_ix ix_tup (pv 6) pe_int (fun _ _ => rfl)) po_none (po_some pe_int))) pa_nil)))
              (pa_cons (pe_ix ix_tup (pv 6) pe_int (fun _ _ => rfl)) (pa_cons (pe_call GO hr2 rfl cO.mg cO.kp cO.b .nil pass0 (pa_cons (pv 4) pa_nil)) pa_nil)))))) (pg_name (i := 8) nd rfl (.inl rfl))
            (pss_cons (ps_set (i := 3) nd rfl (.inl rfl) (pe_call GT hr5 rfl cT.mg cT.kp cT.b .nil pass0 (pa_cons (pv 4) (pa_cons (pv 8) (pa_cons pe_int pa_nil)))))
            (pss_one (ps_for PassesOwn.never rfl (pi_tup (pe_tup (pa_cons (pv 8) (pa_cons (pv 3) (pa_cons (pe_call GT hr5 rfl cT.mg cT.kp cT.b .nil pass0 (pa_cons (pv 4) (pa_cons (pv 3) (pa_cons pe_int pa_nil)))) pa_nil))))) (pg_name (i := 5) nd rfl (.inl rfl))
              (pss_one (ps_if (pt_not (pt_val (VG.pe_callG GJ gd hr6 rfl cJ.mg cJ.kp cJ.b (pa_cons (pv 2) (pa_cons (pv 9) (pa_cons (pv 5) pa_nil)))))) (pss_one (ps_ret pe_bl)) pss_nil)))))))))
        (pss_one (ps_if (pt_not (pt_val (VG.pe_callG GE gd hr rfl cE.mg cE.kp cE.b (pa_cons (pv 4) (pa_cons (pv 2) pa_nil))))) (pss_one (ps_ret pe_bl)) pss_nil))))))
      (pss_one (ps_ret (pe_call0 GW hr6 rfl cW.mg cW.kp cW.b .nil pass0))), ?_⟩
    refine ⟨_, rfl, a, _, rfl, .inl hs, 10, _, rfl, 1, _, rfl, ?_⟩
    refine ⟨_, rfl, ?_, ?_, for_range (fun _ σ H2 => ∃ u1 u2 u3 u4 u5 u6 u7 u8 u9 : Option V, σ = [some (.ref a), u1, u2, u3, u4, u5, u6, u7, u8, u9] ∧ LamX.ExtN H H2 ∧ LamX.Tabs (tE P2) H2) ?_ ?_ ?_⟩
    · split <;> split <;> omega
    · split <;> split <;> omega
    · exact ⟨none, none, none, none, none, none, none, none, none, rfl, LamX.ExtN.refl H, tabs⟩
    · rintro i σ H2 hi ⟨u1, u2, u3, u4, u5, u6, u7, u8, u9, rfl, eN, tt⟩
      have hi10 : i < 10 := by
        revert hi
        split <;> split <;> omega
      refine ⟨_, rfl, _, rfl, a, ns, i, by rw [Int.zero_add]; rfl, sql_ext hs eN, hn, by omega, fun p d0 hd0 hz0 np => ?_⟩
      refine ⟨_, rfl, p, d0, rfl, upd_same, hd0, by omega, fun b0 d1 H3 hd1 hc1 b2' b5' kp3 a3 => ?_⟩
      obtain ⟨b, rfl⟩ := Int.eq_ofNat_of_zero_le (show 0 ≤ b0 by omega)
      have b2 : 2 ≤ b := by omega
      have b5 : b ≤ 5 := by omega
      refine ⟨_, rfl, p, d1, 6, rfl, a3, hd1, by decide, by decide, by omega, fun wi d2 hd2 hc2 w0 w1 => ?_⟩
      refine ⟨_, _, rfl, rfl, ?_⟩
      refine ⟨_, _, rfl, ?_⟩
      have x1 : ∀ c o, H2 c = some o → upd H2 p (.lst (dieL d0)) c = some o := fun c o e => by rw [upd_ne (ne_of_none e np)]; exact e
      have nb : ∀ c o, H2 c = some o → c ≠ p := fun c o e => ne_of_none e np
      have kq : Kp p H3 (upd H3 p (.lst (dieL d2))) := Kp.upd
      have aq : upd H3 p (.lst (dieL d2)) p = some (.lst (dieL d2)) := upd_same
      generalize upd H3 p (.lst (dieL d2)) = H4 at kq aq ⊢
      have x4 : LamX.ExtN H2 H4 := fun c o e _ => (kp3.trans kq) c o (nb c o e) (x1 c o e)
      have t4 : LamX.Tabs (tE P2) H4 := tabs_kp (tt.ext x1) upd_same (kp3.trans kq)
      refine ⟨4, rfl, by decide, by decide, for_range (n := 4) (fun j σ H5 => ∃ (v3 v5 v6 v7 v8 : Option V) (d5 : Int × Int × Int), σ = [some (.ref a), some (.int (0 + (i : Int))), some (.int (b : Int)), v3, some (.ref p), v5, v6, v7, v8, some (.int (1 + wi))] ∧ Kp p H4 H5 ∧ H5 p = some (.lst (dieL d5)) ∧ DieOk d5 ∧ d5.2.2 ≤ 2 + 100 * (j : Int)) ?_ ?_ ?_⟩
      · exact ⟨_, _, _, _, _, d2, rfl, Kp.refl _ _, aq, hd2, by omega⟩
      · rintro j σ H5 hj ⟨v3, v5, v6, v7, v8, d5, rfl, k5, a5, hd5, hc5⟩
        have hj4 : j < 4 := hj
        refine ⟨_, rfl, _, rfl, p, d5, b, 6, 6, rfl, a5, hd5, by omega, by omega, by omega, by decide, by decide, by decide, by decide, fun r h q f d6 st H6 r0 r6 hl ql nf wh wq hd6 hc6 kp6 a6 nst est => ?_⟩
        have nst' : st ≠ p := fun z => by rw [z, a5] at nst; cases nst
        have lh : (S h).length ≤ 6 := by rw [S_len]; omega
        have lq : (S q).length ≤ 6 := by rw [S_len]; omega
        have lc : (cutS (S q) none (some 1)).length ≤ 6 := Nat.le_trans cutS_in.2 lq
        refine ⟨_, rfl, _, rfl, st, [.int r, .str (S h), .str (S q)], 0, .int r, rfl, rfl, SqT.of est, rfl, _, rfl, st, [.int r, .str (S h), .str (S q)], 1, .str (S h), rfl, rfl, SqT.of est, rfl, _, rfl, st, [.int r, .str (S h), .str (S q)], 2, .str (S q), rfl, rfl, SqT.of est, rfl, _, rfl, ?_⟩
        refine ⟨S q, rfl, Nat.le_trans lq (by decide), _, _, rfl, rfl, str_sz (Nat.le_trans lh (by decide)) (Nat.le_trans lc (by decide)), (by show 2 ≤ sizeLine; decide), fun t2 nt2 => ?_⟩
        have e6 : upd H6 t2 (.tup [.int r, .str (S h ++ cutS (S q) none (some 1))]) t2 = some (.tup [.int r, .str (S h ++ cutS (S q) none (some 1))]) := upd_same
        have n2p : t2 ≠ p := ne_die a6 nt2
        have k7 : Kp p H6 (upd H6 t2 (.tup [.int r, .str (S h ++ cutS (S q) none (some 1))])) := Kp.new nt2
        have a7 : upd H6 t2 (.tup [.int r, .str (S h ++ cutS (S q) none (some 1))]) p = some (.lst (dieL d6)) := by rw [upd_ne n2p.symm]; exact a6
        generalize upd H6 t2 (.tup [.int r, .str (S h ++ cutS (S q) none (some 1))]) = H7 at e6 k7 a7 ⊢
        have est7 := k7 _ _ nst' est
        refine ⟨_, rfl, st, [.int r, .str (S h), .str (S q)], 1, .str (S h), rfl, rfl, SqT.of est7, rfl, _, rfl, p, d6, rfl, a7, hd6, by omega, fun vo po d7 H8 vdo fio hd7 hc7 kp8 a8 => ?_⟩
        refine ⟨(by show 4 ≤ sizeLine; decide), fun tv ntv => ?_⟩
        have ntp : tv ≠ p := ne_die a8 ntv
        have k9 : Kp p H8 (upd H8 tv (.tup [.ref st, .ref t2, .str (S h), vo])) := Kp.new ntv
        have a9 : upd H8 tv (.tup [.ref st, .ref t2, .str (S h), vo]) p = some (.lst (dieL d7)) := by rw [upd_ne ntp.symm]; exact a8
        have etv : upd H8 tv (.tup [.ref st, .ref t2, .str (S h), vo]) tv = some (.tup [.ref st, .ref t2, .str (S h), vo]) := upd_same
        generalize upd H8 tv (.tup [.ref st, .ref t2, .str (S h), vo]) = H9 at k9 a9 etv ⊢
        have k69 : Kp p H6 H9 := k7.trans (kp8.trans k9)
        have k59 : Kp p H5 H9 := kp6.trans k69
        have all : VdAll p H9 [.ref st, .ref t2, .str (S h), vo] [.tuple [.int r, .str (S h), .str (S q)], .tuple [.int r, .str (S h ++ cutS (S q) none (some 1))], .str (S h), po] :=
          .cons (.tup nst' (k69 _ _ nst' est) (.cons (.int _) (.cons (.str _) (.cons (.str _) .nil)))) (.cons (.tup n2p ((kp8.trans k9) _ _ n2p e6) (.cons (.int _) (.cons (.str _) .nil))) (.cons (.str _) (.cons (Vd.kp vdo k9) .nil)))
        have fh : ∀ {n : Nat}, Fine N0 n 6 (.str (S h)) := fun {n} => fine_word wh b5 (by omega)
        have fq : ∀ {n : Nat}, Fine N0 n 6 (.str (S q)) := fun {n} => fine_word wq b5 (by omega)
        have fr : ∀ {n : Nat}, Fine N0 n 0 (.int r) := fun {n} => fine_int (Nat.le_trans (show r.natAbs ≤ 6 by omega) (by decide))
        have fines : ∀ x ∈ ([.tuple [.int r, .str (S h), .str (S q)], .tuple [.int r, .str (S h ++ cutS (S q) none (some 1))], .str (S h), po] : List PyData), Fine N0 2 30 x :=
          List.forall_mem_cons.mpr ⟨(fine_tup.mpr (fineL_cons (n := 1) fr (fineL_cons fh (fineL_cons fq (fineL_nil (m := 0)))))).up (Nat.le_refl _) (Nat.le_refl _) (by decide), List.forall_mem_cons.mpr ⟨(fine_tup.mpr (fineL_cons (n := 1) fr (fineL_cons (fine_app fh (fine_cut fq)) (fineL_nil (m := 0))))).up (Nat.le_refl _) (Nat.le_refl _) (by decide),
            List.forall_mem_cons.mpr ⟨(fh (n := 2)).up (Nat.le_refl _) (Nat.le_refl _) (by decide), List.forall_mem_cons.mpr ⟨fio.up (Nat.le_refl _) (Nat.le_refl _) (by decide), by intro _ z; cases z⟩⟩⟩⟩
        refine ⟨tv, rfl, ⟨_, SqT.of etv⟩, for_tup (xs := [.ref st, .ref t2, .str (S h), vo]) (fun m σ H10 => ∃ (v3 v5 v8 : Option V) (d10 : Int × Int × Int), σ = [some (.ref a), some (.int (0 + (i : Int))), some (.int (b : Int)), v3, some (.ref p), v5, some (.ref st), some (.int (0 + (j : Int))), v8, some (.int (1 + wi))] ∧ Kp p H9 H10 ∧ H10 p = some (.lst (dieL d10)) ∧ DieOk d10 ∧ d10.2.2 ≤ 18 + 100 * (j : Int) + 18 * (m : Int)) ?_ ?_ ?_ ?_⟩
        · exact ⟨_, _, _, d7, rfl, Kp.refl _ _, a9, hd7, by omega⟩
        · rintro m σ H10 _ ⟨v3, v5, v8, d10, rfl, k10, a10, hd10, hc10⟩
          exact SqT.of (k10 _ _ ntp etv)
        · rintro m x σ H10 hx ⟨v3, v5, v8, d10, rfl, k10, a10, hd10, hc10⟩
          obtain ⟨pd, hpd, vdx⟩ := all.at_ hx
          have fx := fines pd (List.mem_of_getElem? hpd)
          have hm4 : m < 4 := by
            have := (List.getElem?_eq_some_iff.mp hx).1
            exact this
          have vdx10 := Vd.kp vdx k10
          refine ⟨_, rfl, _, rfl, p, d10, x, 2, pd, N0, 2, 30, rfl, a10, hd10, (by show d10.2.2 + 3 * ((2 : Int) + 1) ≤ 980000000; omega), by decide, vdx10, fx, Nat.le_refl _, by decide, by decide, by decide, fun y py d11 H11 vdy fy hd11 hc11 kp11 a11 => ?_⟩
          have hc11' : d11.2.2 ≤ d10.2.2 + 3 * ((2 : Int) + 1) := hc11
          refine ⟨_, rfl, _, rfl, _, rfl, _, rfl, p, d11, y, 2, py, N0 + 1, 6, 160, rfl, a11, hd11, (by show d11.2.2 + 3 * ((2 : Int) + 1) ≤ 980000000; omega), by decide, vdy, fy, by omega, by decide, by decide, by decide, fun z pz d12 H12 vdz fz hd12 hc12 kp12 a12 => ?_⟩
          have hc12' : d12.2.2 ≤ d11.2.2 + 3 * ((2 : Int) + 1) := hc12
          refine ⟨(by show 3 ≤ sizeLine; decide), fun t3 nt3 => ?_⟩
          have n3p : t3 ≠ p := ne_die a12 nt3
          have k13 : Kp p H12 (upd H12 t3 (.tup [x, y, z])) := Kp.new nt3
          have a13 : upd H12 t3 (.tup [x, y, z]) p = some (.lst (dieL d12)) := by rw [upd_ne n3p.symm]; exact a12
          have et3 : upd H12 t3 (.tup [x, y, z]) t3 = some (.tup [x, y, z]) := upd_same
          generalize upd H12 t3 (.tup [x, y, z]) = H13 at k13 a13 et3 ⊢
          have all3 : VdAll p H13 [x, y, z] [pd, py, pz] := .cons (Vd.kp vdx10 (kp11.trans (kp12.trans k13))) (.cons (Vd.kp vdy (kp12.trans k13)) (.cons (Vd.kp vdz k13) .nil))
          have fines3 : ∀ x ∈ [pd, py, pz], Fine (10 ^ 50) 40 1000 x := List.forall_mem_cons.mpr ⟨fx.up (by decide) (by decide) (by decide), List.forall_mem_cons.mpr ⟨fy.up (by decide) (by decide) (by decide), List.forall_mem_cons.mpr ⟨fz.up (by decide) (by decide) (by decide), by intro _ z; cases z⟩⟩⟩
          refine ⟨t3, rfl, ⟨_, SqT.of et3⟩, for_tup (xs := [x, y, z]) (fun _ σ H14 => ∃ (v5 : Option V), σ = [some (.ref a), some (.int (0 + (i : Int))), some (.int (b : Int)), some y, some (.ref p), v5, some (.ref st), some (.int (0 + (j : Int))), some x, some (.int (1 + wi))] ∧ Same H13 H14) ?_ ?_ ?_ ?_⟩
          · exact ⟨_, rfl, Same.refl _⟩
          · rintro n σ H14 _ ⟨v5, rfl, s14⟩
            exact SqT.of (s14 _ _ et3)
          · rintro n x' σ H14 hx' ⟨v5, rfl, s14⟩
            obtain ⟨pd', hpd', vd'⟩ := all3.at_ hx'
            have f' := fines3 pd' (List.mem_of_getElem? hpd')
            refine ⟨_, rfl, _, rfl, _, rfl, p, b, 1 + wi, x', pd', _, _, _, rfl, b2, b5, by omega, by omega, vd_same vd' s14, f', Nat.le_refl _, Nat.le_refl _, Nat.le_refl _, fun H15 s15 => ⟨_, rfl, ?_⟩⟩
            refine iteF ?_
            exact ⟨_, rfl, s14.trans s15⟩
          · rintro σ H14 ⟨v5, rfl, s14⟩
            refine ⟨_, _, _, d12, rfl, k10.trans (kp11.trans (kp12.trans (k13.trans (Kp.same s14)))), s14 _ _ a13, hd12, by omega⟩
        · rintro σ H10 ⟨v3, v5, v8, d10, rfl, k10, a10, hd10, hc10⟩
          have hc10' : d10.2.2 ≤ 18 + 100 * (j : Int) + 18 * 4 := hc10
          exact ⟨_, _, _, _, _, d10, rfl, k5.trans (k59.trans k10), a10, hd10, by omega⟩
      · rintro σ H5 ⟨v3, v5, v6, v7, v8, d5, rfl, k5, a5, hd5, hc5⟩
        have t5 : LamX.Tabs (tE P2) H5 := tabs_kp t4 aq k5
        refine ⟨_, rfl, _, rfl, p, d5, b, rfl, a5, hd5, by omega, b2, b5, t5, fun d6 H6 hd6 hc6 kt6 a6 t6 => ⟨_, rfl, ?_⟩⟩
        refine iteF ?_
        exact ⟨_, _, _, _, _, _, _, _, _, rfl, fun c o e nt => kt6 c o (nb c o (eN c o e nt)) nt (k5 c o (nb c o (eN c o e nt)) (x4 c o (eN c o e nt) nt)), t6⟩
    · rintro σ H2 ⟨u1, u2, u3, u4, u5, u6, u7, u8, u9, rfl, eN, tt⟩
      exact ⟨rfl, fun H' _ => k H'⟩
end
end Vf


set_option Elab.async false
set_option maxRecDepth 100000
set_option maxHeartbeats 8000000
set_option exponentiation.threshold 3000
namespace Vf
open PySem L2 SX Vm
theorem bent0 {P : Program} {w : World} {K : PySem.W.Frag} {mg : Str → Option Value} {base : Heap} {f : Addr} {fd : FuncData} (F : Fun K "_law_bent" "_law_bent" sBent f fd) : FnOk P w K mg base CX0 2 f fd ["die", "thing", "deep"] (spB 0) := by
  refine F.ok scBent (fun vs H Q E h => ?_) (fun cdv A outer s H vs Q E hr h => ?_)
  · exact False.elim h
  · exact False.elim h
/-! ### what the top has written -/
section
variable {K : PySem.W.Frag} {mg : Str → Option Value} {h : Heap}
theorem def_mk {x : Str} {st : Stmt} {ps : List Str} {f : Addr} {oc kV doc pm cd ct : Value} {od an : Option Addr} {sl : Array (Option Value)} (X : K.In h) (G : h.Ns mainGlobals mg)
    (a : PySem.W.nsIn K mainGlobals x = some (some (.ref f))) (l : K.lookup f = some ⟨oc, od, .func (PySem.W.fnOf x x (defArgs st) (defBody st) (defScope st) .none kV doc pm an cd ct), sl⟩) (c : PySem.W.codeIn K cd x = true) (k : PySem.W.keepIn K (.ref f) = true)
    (b : ∀ fd, Fun K x x st f fd → Binds K fd ps []) : ∃ (f : Addr) (fd : FuncData), Fun K x x st f fd ∧ Cal K mg x f fd ps :=
  ⟨f, _, fun_mk (st := st) l c k, PySem.W.mg_of X G a, k, b _ (fun_mk (st := st) l c k)⟩
theorem cls_mk {P : Program} {C fI cda cc : Addr} {nm q N : _} {bs : List Value} {sn : List Str} {sub : List Value} {ab : Bool} {col : Option Bool} {dd : Option Addr} {k0 k1 k2 k3 k5 : Option Value}
    {oc doc pm ct ccl cl : Value} {od an cdd cld : Option Addr} {osl ccs csl : Array (Option Value)} {vs : Array Value} {file : Str} {tf : Tok} (X : K.In h) (G : h.Ns mainGlobals mg)
    (gC : PySem.W.nsIn K mainGlobals "InvalidNumber" = some (some (.ref C))) (noSuper : PySem.W.nsIn K mainGlobals "super" = some none)
    (cls : K.lookup C = some (excClassObj nm q C N bs VNum.bmI true sn sub ab col dd k0 k1 k2 k3 k5 "IndexError.__new__"))
    (sa : PySem.W.findIn K (.ref C) "__setattr__" = some (some (.builtin "object.__setattr__"))) (ga : PySem.W.findIn K (.ref C) "__getattribute__" = some (some (.builtin "BaseException.__getattribute__"))) (gg : PySem.W.findIn K (.ref C) "__getattr__" = some none)
    (ov : PySem.W.excOver K C VNum.bmI = true) (qi : PySem.W.excInitIn K C VNum.bmI "IndexError.__new__" = true) (tk : PySem.W.takerIn K C "value" = some none) (noV : PySem.W.findIn K (.ref C) "value" = some none) (hdC : PySem.W.hasDictIn K C = true)
    (iC : PySem.W.findIn K (.ref C) "__init__" = some (some (.ref fI))) (tC : PySem.W.typeIn K (.ref fI) = some (.type "function")) (any : PySem.W.nsIn K PySem.cStatics "thirdparty.any" = some none) (sup : PySem.W.ks_superIn K C C "__init__" = some (some (.builtin "IndexError.__init__")))
    (sI : PySem.W.subIn K (.ref C) (.type "IndexError") = some true) (mro : PySem.W.mroIn K C (.ref C) = some true) (kC : PySem.W.keepIn K (.ref C) = true) (exC : PySem.W.subIn K (.ref C) (.type "BaseException") = some true) (tyC : PySem.W.typeIn K (.ref C) = some (.type "type"))
    (top : (P.main.scope.names.lookup ("super" : Str)).isSome = false)
    (l1 : K.lookup fI = some ⟨oc, od, .func (PySem.W.ksFn "__init__" "InvalidNumber.__init__" VNum.mainArgs VNum.mainBody VNum.mainScope .none .none doc pm an (.ref cda) ct cc), osl⟩) (c1 : PySem.W.codeIn K (.ref cda) "InvalidNumber.__init__" = true)
    (l2 : K.lookup cda = some ⟨ccl, cdd, .fields vs, ccs⟩) (fl : vs[2]? = some (.str file tf)) (fm : ((P.main.file : Str) == file) = true) (l3 : K.lookup cc = some ⟨cl, cld, .cell (some (.ref C)), csl⟩)
    (rep : PySem.W.nsIn K mainGlobals "repr" = some none) (nn : PySem.W.exmOne K (.ref C) (.ref C) = some true) :
    ∃ CN f : Addr, VNum.NumTxt P K mg CN f ∧ RefTxt K mg CN :=
  ⟨C, fI,
    { gC := PySem.W.mg_of X G gC, noSuper := PySem.W.mg_none_of X G noSuper, cls := ⟨nm, q, N, bs, sn, sub, ab, col, dd, k0, k1, k2, k3, k5, cls⟩, sa := sa, ga := ga, gg := gg, ov := ov, qi := qi, tk := tk, noV := noV, hdC := hdC, iC := iC, tC := tC, any := any, sup := sup, sI := sI, mro := mro, kC := kC, exC := exC, tyC := tyC, top := top,
      fn := ⟨oc, od, doc, pm, an, cda, cc, ct, osl, vs, file, tf, ccl, cdd, ccs, cl, cld, csl, l1, c1, l2, fl, fm, l3⟩ },
    { gN := PySem.W.mg_of X G gC, rep := PySem.W.mg_none_of X G rep, nn := nn, xf := ⟨ga, gg, exC, hdC⟩, nov := noV }⟩
theorem nm_mk {t1 t2 t3 t4 : Tok} (X : K.In h) (G : h.Ns mainGlobals mg) (z1 : PySem.W.nsIn K mainGlobals "isinstance" = some none) (z2 : PySem.W.nsIn K mainGlobals "int" = some none) (z3 : PySem.W.nsIn K mainGlobals "bool" = some none) (z4 : PySem.W.nsIn K mainGlobals "str" = some none)
    (z5 : PySem.W.nsIn K mainGlobals "tuple" = some none) (z6 : PySem.W.nsIn K mainGlobals "len" = some none) (y1 : PySem.W.nsIn K mainGlobals "MIN_BASE" = some (some (.int 2 t1))) (y2 : PySem.W.nsIn K mainGlobals "MAX_BASE" = some (some (.int 5 t2))) (y3 : PySem.W.nsIn K mainGlobals "MAX_ROOTS" = some (some (.int 5000 t3)))
    (y4 : PySem.W.nsIn K mainGlobals "DIGITS" = some (some (.str "01234" t4))) (z7 : PySem.W.nsIn K mainGlobals "range" = some none) (z8 : PySem.W.nsIn K mainGlobals "max" = some none) (z9 : PySem.W.nsIn K mainGlobals "min" = some none) (z10 : PySem.W.nsIn K mainGlobals "abs" = some none)
    (z11 : PySem.W.nsIn K mainGlobals "list" = some none) (z12 : PySem.W.nsIn K mainGlobals "repr" = some none) :
    Nm mg ∧ NmL mg ∧ mg "range" = none ∧ mg "max" = none ∧ mg "min" = none ∧ mg "abs" = none :=
  ⟨⟨PySem.W.mg_none_of X G z1, PySem.W.mg_none_of X G z2, PySem.W.mg_none_of X G z3, PySem.W.mg_none_of X G z4, PySem.W.mg_none_of X G z5, PySem.W.mg_none_of X G z6, ⟨t1, PySem.W.mg_of X G y1⟩, ⟨t2, PySem.W.mg_of X G y2⟩, ⟨t3, PySem.W.mg_of X G y3⟩, ⟨t4, PySem.W.mg_of X G y4⟩⟩,
    ⟨PySem.W.mg_none_of X G z1, PySem.W.mg_none_of X G z2, PySem.W.mg_none_of X G z3, PySem.W.mg_none_of X G z4, PySem.W.mg_none_of X G z5, PySem.W.mg_none_of X G z11, PySem.W.mg_none_of X G z6, PySem.W.mg_none_of X G z12⟩,
    PySem.W.mg_none_of X G z7, PySem.W.mg_none_of X G z8, PySem.W.mg_none_of X G z9, PySem.W.mg_none_of X G z10⟩
theorem ref_mk {f : Addr} {oc kV doc pm cd ct : Value} {od an : Option Addr} {sl : Array (Option Value)} (X : K.In h) (G : h.Ns mainGlobals mg)
    (a : PySem.W.nsIn K mainGlobals "_law_refused" = some (some (.ref f))) (l : K.lookup f = some ⟨oc, od, .func (PySem.W.fnOf "_law_refused" "_law_refused" (defArgs sRefused) (defBody sRefused) (defScope sRefused) .none kV doc pm an cd ct), sl⟩) (c : PySem.W.codeIn K cd "_law_refused" = true) (k : PySem.W.keepIn K (.ref f) = true) : ∃ g, RefFn K mg g :=
  ⟨f, PySem.W.mg_of X G a, k, oc, od, kV, doc, pm, an, cd, ct, sl, l, c, (fun_mk (st := sRefused) l c k).binds fun _ _ _ _ _ _ us hl => match us, hl with | [_], _ => rfl⟩
/-- the defs, joined -/
theorem law_mk {l : PySem.W.OpenLaw} {w : World} {fa c P2 f g CN fI fE fIsInt fWithin fReqNum fIsBase fReqBase fReqRoots fIsWord fWordForm fIsPfx fPfxForm fIsStream fStreamForm fShort fDice fPull fWord fLNormal fLStream fLBase fOdd fBent fIsCount fIsDig fIsPlace fIsEnd fNoBase fJudged fWritten : Addr} {fdIsInt fdWithin fdReqNum fdIsBase fdReqBase fdReqRoots fdIsWord fdWordForm fdIsPfx fdPfxForm fdIsStream fdStreamForm fdShort fdDice fdPull fdWord fdLNormal fdLStream fdLBase fdOdd fdBent fdIsCount fdIsDig fdIsPlace fdIsEnd fdNoBase fdJudged fdWritten : FuncData} {oc kV doc pm cd ct ocE kVE docE pmE ctE : Value} {od an odE anE : Option Addr} {sl slE : Array (Option Value)} (X : K.In h) (G : h.Ns mainGlobals mg) (hfa : mg "law" = some (.ref fa))
    (a : PySem.W.nsIn K mainGlobals "law" = some (some (.ref f))) (lk : K.lookup f = some ⟨oc, od, .func (PySem.W.fnOf "law" "law" (defArgs sLaw) (defBody sLaw) (defScope sLaw) .none kV doc pm an cd ct), sl⟩) (cc : PySem.W.codeIn K cd "law" = true) (k : PySem.W.keepIn K (.ref f) = true)
    (aE : PySem.W.nsIn K mainGlobals "_law_errors_right" = some (some (.ref fE))) (lE : K.lookup fE = some ⟨ocE, odE, .func (PySem.W.fnOf "_law_errors_right" "_law_errors_right" (defArgs sErr) (defBody sErr) (defScope sErr) .none kVE docE pmE anE (.ref c) ctE), slE⟩) (cE : PySem.W.codeIn K (.ref c) "_law_errors_right" = true) (kE : PySem.W.keepIn K (.ref fE) = true)
    (hT : h.get? P2 = some { cls := .none, data := .fields #[] }) (nT : K.lookup P2 = none) (hh : PySem.W.codeHdIn K c P2 = true)
    (num : VNum.NumTxt l.prog K mg CN fI) (told : RefTxt K mg CN) (TF : RefFn K mg g) (NN : Nm mg ∧ NmL mg ∧ mg "range" = none ∧ mg "max" = none ∧ mg "min" = none ∧ mg "abs" = none)
    (FIsInt : Fun K "is_integer" "is_integer" sIsInt fIsInt fdIsInt) (cIsInt : Cal K mg "is_integer" fIsInt fdIsInt ["value"])
    (FWithin : Fun K "is_integer_within" "is_integer_within" sWithin fWithin fdWithin) (cWithin : Cal K mg "is_integer_within" fWithin fdWithin ["low", "high", "value"])
    (FReqNum : Fun K "require_number" "require_number" sReqNum fReqNum fdReqNum) (cReqNum : Cal K mg "require_number" fReqNum fdReqNum ["low", "high", "number"])
    (FIsBase : Fun K "is_base" "is_base" sIsBase fIsBase fdIsBase) (cIsBase : Cal K mg "is_base" fIsBase fdIsBase ["value"])
    (FReqBase : Fun K "require_base" "require_base" sReqBase fReqBase fdReqBase) (cReqBase : Cal K mg "require_base" fReqBase fdReqBase ["base"])
    (FReqRoots : Fun K "require_roots" "require_roots" sReqRoots fReqRoots fdReqRoots) (cReqRoots : Cal K mg "require_roots" fReqRoots fdReqRoots ["roots"])
    (FIsWord : Fun K "is_word" "is_word" sIsWord fIsWord fdIsWord) (cIsWord : Cal K mg "is_word" fIsWord fdIsWord ["base", "value"])
    (FWordForm : Fun K "has_word_form" "has_word_form" sWordForm fWordForm fdWordForm) (cWordForm : Cal K mg "has_word_form" fWordForm fdWordForm ["base", "value"])
    (FIsPfx : Fun K "is_prefix" "is_prefix" sIsPrefix fIsPfx fdIsPfx) (cIsPfx : Cal K mg "is_prefix" fIsPfx fdIsPfx ["base", "roots", "value"])
    (FPfxForm : Fun K "has_prefix_form" "has_prefix_form" sPfxForm fPfxForm fdPfxForm) (cPfxForm : Cal K mg "has_prefix_form" fPfxForm fdPfxForm ["base", "roots", "value"])
    (FIsStream : Fun K "is_stream" "is_stream" sIsStream fIsStream fdIsStream) (cIsStream : Cal K mg "is_stream" fIsStream fdIsStream ["base", "roots", "value"])
    (FStreamForm : Fun K "has_stream_form" "has_stream_form" sStreamForm fStreamForm fdStreamForm) (cStreamForm : Cal K mg "has_stream_form" fStreamForm fdStreamForm ["base", "roots", "value"])
    (FShort : Fun K "shortest_period" "shortest_period" sShortest fShort fdShort) (cShort : Cal K mg "shortest_period" fShort fdShort ["period"])
    (FDice : Fun K "_law_dice" "_law_dice" sDice fDice fdDice) (cDice : Cal K mg "_law_dice" fDice fdDice ["script", "at"])
    (FPull : Fun K "_law_pull" "_law_pull" sPull fPull fdPull) (cPull : Cal K mg "_law_pull" fPull fdPull ["die", "many"])
    (FWord : Fun K "_law_word" "_law_word" sWord fWord fdWord) (cWord : Cal K mg "_law_word" fWord fdWord ["die", "base", "high"])
    (FLNormal : Fun K "_law_normal" "_law_normal" sLNormal fLNormal fdLNormal) (cLNormal : Cal K mg "_law_normal" fLNormal fdLNormal ["root", "head", "period"])
    (FLStream : Fun K "_law_stream" "_law_stream" sLStream fLStream fdLStream) (cLStream : Cal K mg "_law_stream" fLStream fdLStream ["die", "base", "wide", "high"])
    (FLBase : Fun K "_law_base" "_law_base" sLBase fLBase fdLBase) (cLBase : Cal K mg "_law_base" fLBase fdLBase ["die"])
    (FOdd : Fun K "_law_odd" "_law_odd" sOdd fOdd fdOdd) (cOdd : Cal K mg "_law_odd" fOdd fdOdd ["die"])
    (FBent : Fun K "_law_bent" "_law_bent" sBent fBent fdBent) (cBent : Cal K mg "_law_bent" fBent fdBent ["die", "thing", "deep"])
    (FIsCount : Fun K "_law_is_count" "_law_is_count" sIsCount fIsCount fdIsCount) (cIsCount : Cal K mg "_law_is_count" fIsCount fdIsCount ["value", "low", "high"])
    (FIsDig : Fun K "_law_is_digits" "_law_is_digits" sIsDig fIsDig fdIsDig) (cIsDig : Cal K mg "_law_is_digits" fIsDig fdIsDig ["base", "value"])
    (FIsPlace : Fun K "_law_is_place" "_law_is_place" sIsPlace fIsPlace fdIsPlace) (cIsPlace : Cal K mg "_law_is_place" fIsPlace fdIsPlace ["base", "wide", "value"])
    (FIsEnd : Fun K "_law_is_endless" "_law_is_endless" sIsEnd fIsEnd fdIsEnd) (cIsEnd : Cal K mg "_law_is_endless" fIsEnd fdIsEnd ["base", "wide", "value"])
    (FNoBase : Fun K "_law_no_base" "_law_no_base" sNoBase fNoBase fdNoBase) (cNoBase : Cal K mg "_law_no_base" fNoBase fdNoBase ["die"])
    (FJudged : Fun K "_law_judged" "_law_judged" sJudged fJudged fdJudged) (cJudged : Cal K mg "_law_judged" fJudged fdJudged ["base", "wide", "value"])
    (FWritten : Fun K "_law_written_right" "_law_written_right" sWritten fWritten fdWritten) (cWritten : Cal K mg "_law_written_right" fWritten fdWritten []) :
    VG.LawG l w K 9 63 "script" mg fa h := by
  obtain ⟨N, NL, nr, nx, nn, nab⟩ := NN
  have e := hfa.symm.trans (PySem.W.mg_of X G a)
  cases e
  refine ⟨PySem.W.fnOf "law" "law" (defArgs sLaw) (defBody sLaw) (defScope sLaw) .none kV doc pm an cd ct, [(c, P2)], spLaw K P2, fun p hp => ?_, fun p hp => ?_, fun p hp => ?_, fun s v => .of_eq rfl, fun H a ns hl ht hs => ?_, fun base KB GB TB => ?_⟩
  · rw [List.mem_singleton.mp hp]
    exact hT
  · rw [List.mem_singleton.mp hp]
    exact nT
  · rw [List.mem_singleton.mp hp]
    exact PySem.W.codeHd_of_K X hh
  · refine ⟨a, ns, rfl, hs, hl, fun p hp => ?_, fun _ => rfl⟩
    rw [List.mem_singleton.mp hp]
    exact LamX.TabS.nil (ht _ (List.Mem.head _))
  · have GIsInt := ok_isint (P := l.prog) (w := w) (base := base) FIsInt N
    have GWithin := ok_within FWithin GIsInt cIsInt
    have GReqNum := ok_reqnum FReqNum GWithin cWithin num
    have GIsBase := ok_isbase FIsBase GWithin cWithin N
    have GReqBase := ok_reqbase FReqBase GReqNum cReqNum N
    have GReqRoots := ok_reqroots FReqRoots GReqNum cReqNum N
    have GWordForm := ok_wordform (P := l.prog) (w := w) (base := base) FWordForm N
    have GIsWord := ok_isword FIsWord GReqBase cReqBase GWordForm cWordForm
    have GShort := ok_short (P := l.prog) (w := w) (mg := mg) (base := base) FShort
    have GStreamForm := ok_streamformG FStreamForm GWithin cWithin GWordForm cWordForm GShort cShort N
    have GIsStream := ok_isstrG FIsStream GReqBase cReqBase GReqRoots cReqRoots GStreamForm cStreamForm
    have GPfxForm := ok_pfxformG FPfxForm GWithin cWithin GWordForm cWordForm N
    have GIsPfx := ok_ispfxG FIsPfx GReqBase cReqBase GReqRoots cReqRoots GPfxForm cPfxForm
    have GDice := ok_dice (P := l.prog) (w := w) (base := base) FDice N.len nab N.int nx
    have GPull := ok_pull (P := l.prog) (w := w) (mg := mg) (base := base) FPull
    have GWord := ok_word FWord GPull cPull nr
    have GLNormal := ok_lnormal (P := l.prog) (w := w) (base := base) FLNormal N.len nr
    have GLStream := ok_lstream FLStream GPull cPull GWord cWord GLNormal cLNormal
    have GLBase := ok_base FLBase GPull cPull
    have GOdd := ok_odd FOdd GPull cPull
    have GB0 := bent0 (P := l.prog) (w := w) (mg := mg) (base := base) FBent
    have GB1 := ok_bent FBent GPull cPull GOdd cOdd GB0 cBent NL
    have GB2 := ok_bent FBent GPull cPull GOdd cOdd GB1 cBent NL
    have GB3 := ok_bent FBent GPull cPull GOdd cOdd GB2 cBent NL
    have GIsCount := ok_iscount (P := l.prog) (w := w) (base := base) FIsCount NL.isinst NL.int NL.bool
    have GIsDig := ok_isdig (P := l.prog) (w := w) (base := base) FIsDig NL.isinst NL.str
    have GIsPlace := ok_isplace FIsPlace GIsCount cIsCount GIsDig cIsDig NL.isinst NL.tuple NL.len
    have GIsEnd := ok_isend FIsEnd GIsCount cIsCount GIsDig cIsDig GLNormal cLNormal NL.isinst NL.tuple NL.len
    have GNoBase := ok_nobase FNoBase GPull cPull
    have GJudged := ok_judged FJudged GIsBase cIsBase GIsWord cIsWord GIsPfx cIsPfx GIsStream cIsStream GIsCount cIsCount GIsDig cIsDig GIsPlace cIsPlace GIsEnd cIsEnd NL
    have GWritten := ok_written FWritten GIsWord cIsWord GIsPfx cIsPfx GIsStream cIsStream
    have FE := fun_mk (st := sErr) lE cE kE
    have bE := FE.binds (ps := ["die", "base"]) fun _ _ _ _ _ _ us hl => match us, hl with | [_, _], _ => rfl
    have GErr := ok_err (P2 := P2) (c := c) FE GNoBase cNoBase GPull cPull GIsWord cIsWord GIsPfx cIsPfx GIsStream cIsStream TF told (TB _ (List.Mem.head _)) (fun cdv hx => by
      obtain ⟨_, _, _, _, _, _, _, _, q⟩ := hx
      rw [lE] at q
      injection q with q
      injection q with _ _ q _
      injection q with q
      exact (congrArg FuncData.code q).symm)
    exact ok_law (fun_mk (st := sLaw) lk cc k) GDice cDice GLBase cLBase GPull cPull GLStream cLStream GOdd cOdd GB3 cBent GJudged cJudged GErr ⟨PySem.W.mg_of X G aE, kE, bE⟩ GWritten cWritten N.len nr nx nn
end
end Vf


set_option Elab.async false
open PySem PySem.W PyProof.Rows
set_option maxRecDepth 100000 in
set_option maxHeartbeats 0 in
theorem PySem.Challenge.cw_prefixtable_k01_digits_prefixes_streams_holds : PySem.Challenge.rw_prefixtable_k01_digits_prefixes_streams.Holds := by
  w_on; o_law; k_head; (case hw => w_witness2)
  k_fill
  refine VG.walkG (l := PySem.Challenge.rw_prefixtable_k01_digits_prefixes_streams) (n := 63) (k := 9) (x := "script") rfl (by decide) rfl ⟨rfl, by decide, by decide⟩ (fun w h Y => PySem.W.km_in_of Y) ?F
  case F =>
    intro w mg fa h Y KX G hmg
    have hT := PySem.W.km_tabs_of Y
    refine' Exists.elim (Vf.def_mk (x := "is_integer") (st := Vf.sIsInt) (ps := ["value"]) KX G ?aIsInt ?lIsInt ?cIsInt ?kIsInt ?bIsInt) ?_
    (case aIsInt => k_is); (case lIsInt => k_is); (case cIsInt => k_is); (case kIsInt => k_is)
    (case bIsInt => exact fun fd F => F.binds fun _ _ _ _ _ _ us hl => match us, hl with | [_], _ => rfl)
    rintro fIsInt ⟨fdIsInt, FIsInt, cIsInt⟩
    refine' Exists.elim (Vf.def_mk (x := "is_integer_within") (st := Vf.sWithin) (ps := ["low", "high", "value"]) KX G ?aWithin ?lWithin ?cWithin ?kWithin ?bWithin) ?_
    (case aWithin => k_is); (case lWithin => k_is); (case cWithin => k_is); (case kWithin => k_is)
    (case bWithin => exact fun fd F => F.binds fun _ _ _ _ _ _ us hl => match us, hl with | [_, _, _], _ => rfl)
    rintro fWithin ⟨fdWithin, FWithin, cWithin⟩
    refine' Exists.elim (Vf.def_mk (x := "require_number") (st := Vf.sReqNum) (ps := ["low", "high", "number"]) KX G ?aReqNum ?lReqNum ?cReqNum ?kReqNum ?bReqNum) ?_
    (case aReqNum => k_is); (case lReqNum => k_is); (case cReqNum => k_is); (case kReqNum => k_is)
    (case bReqNum => exact fun fd F => F.binds fun _ _ _ _ _ _ us hl => match us, hl with | [_, _, _], _ => rfl)
    rintro fReqNum ⟨fdReqNum, FReqNum, cReqNum⟩
    refine' Exists.elim (Vf.def_mk (x := "is_base") (st := Vf.sIsBase) (ps := ["value"]) KX G ?aIsBase ?lIsBase ?cIsBase ?kIsBase ?bIsBase) ?_
    (case aIsBase => k_is); (case lIsBase => k_is); (case cIsBase => k_is); (case kIsBase => k_is)
    (case bIsBase => exact fun fd F => F.binds fun _ _ _ _ _ _ us hl => match us, hl with | [_], _ => rfl)
    rintro fIsBase ⟨fdIsBase, FIsBase, cIsBase⟩
    refine' Exists.elim (Vf.def_mk (x := "require_base") (st := Vf.sReqBase) (ps := ["base"]) KX G ?aReqBase ?lReqBase ?cReqBase ?kReqBase ?bReqBase) ?_
    (case aReqBase => k_is); (case lReqBase => k_is); (case cReqBase => k_is); (case kReqBase => k_is)
    (case bReqBase => exact fun fd F => F.binds fun _ _ _ _ _ _ us hl => match us, hl with | [_], _ => rfl)
    rintro fReqBase ⟨fdReqBase, FReqBase, cReqBase⟩
    refine' Exists.elim (Vf.def_mk (x := "require_roots") (st := Vf.sReqRoots) (ps := ["roots"]) KX G ?aReqRoots ?lReqRoots ?cReqRoots ?kReqRoots ?bReqRoots) ?_
    (case aReqRoots => k_is); (case lReqRoots => k_is); (case cReqRoots => k_is); (case kReqRoots => k_is)
    (case bReqRoots => exact fun fd F => F.binds fun _ _ _ _ _ _ us hl => match us, hl with | [_], _ => rfl)
    rintro fReqRoots ⟨fdReqRoots, FReqRoots, cReqRoots⟩
    refine' Exists.elim (Vf.def_mk (x := "is_word") (st := Vf.sIsWord) (ps := ["base", "value"]) KX G ?aIsWord ?lIsWord ?cIsWord ?kIsWord ?bIsWord) ?_
    (case aIsWord => k_is); (case lIsWord => k_is); (case cIsWord => k_is); (case kIsWord => k_is)
    (case bIsWord => exact fun fd F => F.binds fun _ _ _ _ _ _ us hl => match us, hl with | [_, _], _ => rfl)
    rintro fIsWord ⟨fdIsWord, FIsWord, cIsWord⟩
    refine' Exists.elim (Vf.def_mk (x := "has_word_form") (st := Vf.sWordForm) (ps := ["base", "value"]) KX G ?aWordForm ?lWordForm ?cWordForm ?kWordForm ?bWordForm) ?_
    (case aWordForm => k_is); (case lWordForm => k_is); (case cWordForm => k_is); (case kWordForm => k_is)
    (case bWordForm => exact fun fd F => F.binds fun _ _ _ _ _ _ us hl => match us, hl with | [_, _], _ => rfl)
    rintro fWordForm ⟨fdWordForm, FWordForm, cWordForm⟩
    refine' Exists.elim (Vf.def_mk (x := "is_prefix") (st := Vf.sIsPrefix) (ps := ["base", "roots", "value"]) KX G ?aIsPfx ?lIsPfx ?cIsPfx ?kIsPfx ?bIsPfx) ?_
    (case aIsPfx => k_is); (case lIsPfx => k_is); (case cIsPfx => k_is); (case kIsPfx => k_is)
    (case bIsPfx => exact fun fd F => F.binds fun _ _ _ _ _ _ us hl => match us, hl with | [_, _, _], _ => rfl)
    rintro fIsPfx ⟨fdIsPfx, FIsPfx, cIsPfx⟩
    refine' Exists.elim (Vf.def_mk (x := "has_prefix_form") (st := Vf.sPfxForm) (ps := ["base", "roots", "value"]) KX G ?aPfxForm ?lPfxForm ?cPfxForm ?kPfxForm ?bPfxForm) ?_
    (case aPfxForm => k_is); (case lPfxForm => k_is); (case cPfxForm => k_is); (case kPfxForm => k_is)
    (case bPfxForm => exact fun fd F => F.binds fun _ _ _ _ _ _ us hl => match us, hl with | [_, _, _], _ => rfl)
    rintro fPfxForm ⟨fdPfxForm, FPfxForm, cPfxForm⟩
    refine' Exists.elim (Vf.def_mk (x := "is_stream") (st := Vf.sIsStream) (ps := ["base", "roots", "value"]) KX G ?aIsStream ?lIsStream ?cIsStream ?kIsStream ?bIsStream) ?_
    (case aIsStream => k_is); (case lIsStream => k_is); (case cIsStream => k_is); (case kIsStream => k_is)
    (case bIsStream => exact fun fd F => F.binds fun _ _ _ _ _ _ us hl => match us, hl with | [_, _, _], _ => rfl)
    rintro fIsStream ⟨fdIsStream, FIsStream, cIsStream⟩
    refine' Exists.elim (Vf.def_mk (x := "has_stream_form") (st := Vf.sStreamForm) (ps := ["base", "roots", "value"]) KX G ?aStreamForm ?lStreamForm ?cStreamForm ?kStreamForm ?bStreamForm) ?_
    (case aStreamForm => k_is); (case lStreamForm => k_is); (case cStreamForm => k_is); (case kStreamForm => k_is)
    (case bStreamForm => exact fun fd F => F.binds fun _ _ _ _ _ _ us hl => match us, hl with | [_, _, _], _ => rfl)
    rintro fStreamForm ⟨fdStreamForm, FStreamForm, cStreamForm⟩
    refine' Exists.elim (Vf.def_mk (x := "shortest_period") (st := Vf.sShortest) (ps := ["period"]) KX G ?aShort ?lShort ?cShort ?kShort ?bShort) ?_
    (case aShort => k_is); (case lShort => k_is); (case cShort => k_is); (case kShort => k_is)
    (case bShort => exact fun fd F => F.binds fun _ _ _ _ _ _ us hl => match us, hl with | [_], _ => rfl)
    rintro fShort ⟨fdShort, FShort, cShort⟩
    refine' Exists.elim (Vf.def_mk (x := "_law_dice") (st := Vf.sDice) (ps := ["script", "at"]) KX G ?aDice ?lDice ?cDice ?kDice ?bDice) ?_
    (case aDice => k_is); (case lDice => k_is); (case cDice => k_is); (case kDice => k_is)
    (case bDice => exact fun fd F => F.binds fun _ _ _ _ _ _ us hl => match us, hl with | [_, _], _ => rfl)
    rintro fDice ⟨fdDice, FDice, cDice⟩
    refine' Exists.elim (Vf.def_mk (x := "_law_pull") (st := Vf.sPull) (ps := ["die", "many"]) KX G ?aPull ?lPull ?cPull ?kPull ?bPull) ?_
    (case aPull => k_is); (case lPull => k_is); (case cPull => k_is); (case kPull => k_is)
    (case bPull => exact fun fd F => F.binds fun _ _ _ _ _ _ us hl => match us, hl with | [_, _], _ => rfl)
    rintro fPull ⟨fdPull, FPull, cPull⟩
    refine' Exists.elim (Vf.def_mk (x := "_law_word") (st := Vf.sWord) (ps := ["die", "base", "high"]) KX G ?aWord ?lWord ?cWord ?kWord ?bWord) ?_
    (case aWord => k_is); (case lWord => k_is); (case cWord => k_is); (case kWord => k_is)
    (case bWord => exact fun fd F => F.binds fun _ _ _ _ _ _ us hl => match us, hl with | [_, _, _], _ => rfl)
    rintro fWord ⟨fdWord, FWord, cWord⟩
    refine' Exists.elim (Vf.def_mk (x := "_law_normal") (st := Vf.sLNormal) (ps := ["root", "head", "period"]) KX G ?aLNormal ?lLNormal ?cLNormal ?kLNormal ?bLNormal) ?_
    (case aLNormal => k_is); (case lLNormal => k_is); (case cLNormal => k_is); (case kLNormal => k_is)
    (case bLNormal => exact fun fd F => F.binds fun _ _ _ _ _ _ us hl => match us, hl with | [_, _, _], _ => rfl)
    rintro fLNormal ⟨fdLNormal, FLNormal, cLNormal⟩
    refine' Exists.elim (Vf.def_mk (x := "_law_stream") (st := Vf.sLStream) (ps := ["die", "base", "wide", "high"]) KX G ?aLStream ?lLStream ?cLStream ?kLStream ?bLStream) ?_
    (case aLStream => k_is); (case lLStream => k_is); (case cLStream => k_is); (case kLStream => k_is)
    (case bLStream => exact fun fd F => F.binds fun _ _ _ _ _ _ us hl => match us, hl with | [_, _, _, _], _ => rfl)
    rintro fLStream ⟨fdLStream, FLStream, cLStream⟩
    refine' Exists.elim (Vf.def_mk (x := "_law_base") (st := Vf.sLBase) (ps := ["die"]) KX G ?aLBase ?lLBase ?cLBase ?kLBase ?bLBase) ?_
    (case aLBase => k_is); (case lLBase => k_is); (case cLBase => k_is); (case kLBase => k_is)
    (case bLBase => exact fun fd F => F.binds fun _ _ _ _ _ _ us hl => match us, hl with | [_], _ => rfl)
    rintro fLBase ⟨fdLBase, FLBase, cLBase⟩
    refine' Exists.elim (Vf.def_mk (x := "_law_odd") (st := Vf.sOdd) (ps := ["die"]) KX G ?aOdd ?lOdd ?cOdd ?kOdd ?bOdd) ?_
    (case aOdd => k_is); (case lOdd => k_is); (case cOdd => k_is); (case kOdd => k_is)
    (case bOdd => exact fun fd F => F.binds fun _ _ _ _ _ _ us hl => match us, hl with | [_], _ => rfl)
    rintro fOdd ⟨fdOdd, FOdd, cOdd⟩
    refine' Exists.elim (Vf.def_mk (x := "_law_bent") (st := Vf.sBent) (ps := ["die", "thing", "deep"]) KX G ?aBent ?lBent ?cBent ?kBent ?bBent) ?_
    (case aBent => k_is); (case lBent => k_is); (case cBent => k_is); (case kBent => k_is)
    (case bBent => exact fun fd F => F.binds fun _ _ _ _ _ _ us hl => match us, hl with | [_, _, _], _ => rfl)
    rintro fBent ⟨fdBent, FBent, cBent⟩
    refine' Exists.elim (Vf.def_mk (x := "_law_is_count") (st := Vf.sIsCount) (ps := ["value", "low", "high"]) KX G ?aIsCount ?lIsCount ?cIsCount ?kIsCount ?bIsCount) ?_
    (case aIsCount => k_is); (case lIsCount => k_is); (case cIsCount => k_is); (case kIsCount => k_is)
    (case bIsCount => exact fun fd F => F.binds fun _ _ _ _ _ _ us hl => match us, hl with | [_, _, _], _ => rfl)
    rintro fIsCount ⟨fdIsCount, FIsCount, cIsCount⟩
    refine' Exists.elim (Vf.def_mk (x := "_law_is_digits") (st := Vf.sIsDig) (ps := ["base", "value"]) KX G ?aIsDig ?lIsDig ?cIsDig ?kIsDig ?bIsDig) ?_
    (case aIsDig => k_is); (case lIsDig => k_is); (case cIsDig => k_is); (case kIsDig => k_is)
    (case bIsDig => exact fun fd F => F.binds fun _ _ _ _ _ _ us hl => match us, hl with | [_, _], _ => rfl)
    rintro fIsDig ⟨fdIsDig, FIsDig, cIsDig⟩
    refine' Exists.elim (Vf.def_mk (x := "_law_is_place") (st := Vf.sIsPlace) (ps := ["base", "wide", "value"]) KX G ?aIsPlace ?lIsPlace ?cIsPlace ?kIsPlace ?bIsPlace) ?_
    (case aIsPlace => k_is); (case lIsPlace => k_is); (case cIsPlace => k_is); (case kIsPlace => k_is)
    (case bIsPlace => exact fun fd F => F.binds fun _ _ _ _ _ _ us hl => match us, hl with | [_, _, _], _ => rfl)
    rintro fIsPlace ⟨fdIsPlace, FIsPlace, cIsPlace⟩
    refine' Exists.elim (Vf.def_mk (x := "_law_is_endless") (st := Vf.sIsEnd) (ps := ["base", "wide", "value"]) KX G ?aIsEnd ?lIsEnd ?cIsEnd ?kIsEnd ?bIsEnd) ?_
    (case aIsEnd => k_is); (case lIsEnd => k_is); (case cIsEnd => k_is); (case kIsEnd => k_is)
    (case bIsEnd => exact fun fd F => F.binds fun _ _ _ _ _ _ us hl => match us, hl with | [_, _, _], _ => rfl)
    rintro fIsEnd ⟨fdIsEnd, FIsEnd, cIsEnd⟩
    refine' Exists.elim (Vf.def_mk (x := "_law_no_base") (st := Vf.sNoBase) (ps := ["die"]) KX G ?aNoBase ?lNoBase ?cNoBase ?kNoBase ?bNoBase) ?_
    (case aNoBase => k_is); (case lNoBase => k_is); (case cNoBase => k_is); (case kNoBase => k_is)
    (case bNoBase => exact fun fd F => F.binds fun _ _ _ _ _ _ us hl => match us, hl with | [_], _ => rfl)
    rintro fNoBase ⟨fdNoBase, FNoBase, cNoBase⟩
    refine' Exists.elim (Vf.def_mk (x := "_law_judged") (st := Vf.sJudged) (ps := ["base", "wide", "value"]) KX G ?aJudged ?lJudged ?cJudged ?kJudged ?bJudged) ?_
    (case aJudged => k_is); (case lJudged => k_is); (case cJudged => k_is); (case kJudged => k_is)
    (case bJudged => exact fun fd F => F.binds fun _ _ _ _ _ _ us hl => match us, hl with | [_, _, _], _ => rfl)
    rintro fJudged ⟨fdJudged, FJudged, cJudged⟩
    refine' Exists.elim (Vf.def_mk (x := "_law_written_right") (st := Vf.sWritten) (ps := []) KX G ?aWritten ?lWritten ?cWritten ?kWritten ?bWritten) ?_
    (case aWritten => k_is); (case lWritten => k_is); (case cWritten => k_is); (case kWritten => k_is)
    (case bWritten => exact fun fd F => F.binds fun _ _ _ _ _ _ us hl => match us, hl with | [], _ => rfl)
    rintro fWritten ⟨fdWritten, FWritten, cWritten⟩
    refine' Exists.elim (Vf.cls_mk (P := PySem.Challenge.rw_prefixtable_k01_digits_prefixes_streams.prog) KX G ?j_gC ?j_noSuper ?j_cls ?j_sa ?j_ga ?j_gg ?j_ov ?j_qi ?j_tk ?j_noV ?j_hdC ?j_iC ?j_tC ?j_any ?j_sup ?j_sI ?j_mro ?j_kC ?j_exC ?j_tyC ?j_top ?j_l1 ?j_c1 ?j_l2 ?j_fl ?j_fm ?j_l3 ?j_rep ?j_nn) ?_
    (case j_gC => k_is)
    (case j_noSuper => k_is)
    (case j_cls => k_is)
    (case j_sa => k_is)
    (case j_ga => k_is)
    (case j_gg => k_is)
    (case j_ov => first | rfl | kernel_rfl)
    (case j_qi => first | rfl | kernel_rfl)
    (case j_tk => k_is)
    (case j_noV => k_is)
    (case j_hdC => k_is)
    (case j_iC => k_is)
    (case j_tC => k_is)
    (case j_any => k_is)
    (case j_sup => first | ks_is | rfl | kernel_rfl)
    (case j_sI => k_is)
    (case j_mro => k_is)
    (case j_kC => k_is)
    (case j_exC => k_is)
    (case j_tyC => k_is)
    (case j_top => decide +kernel)
    (case j_l1 => k_is)
    (case j_c1 => k_is)
    (case j_l2 => k_is)
    (case j_fl => rfl)
    (case j_fm => first | rfl | decide +kernel)
    (case j_l3 => k_is)
    (case j_rep => k_is)
    (case j_nn => first | rfl | kernel_rfl)
    rintro CN ⟨fI, num, told⟩
    have NN : Vf.Nm mg ∧ Vf.NmL mg ∧ mg "range" = none ∧ mg "max" = none ∧ mg "min" = none ∧ mg "abs" = none := by
      refine' Vf.nm_mk KX G ?z1 ?z2 ?z3 ?z4 ?z5 ?z6 ?y1 ?y2 ?y3 ?y4 ?z7 ?z8 ?z9 ?z10 ?z11 ?z12
      (case z1 => k_is)
      (case z2 => k_is)
      (case z3 => k_is)
      (case z4 => k_is)
      (case z5 => k_is)
      (case z6 => k_is)
      (case y1 => k_is)
      (case y2 => k_is)
      (case y3 => k_is)
      (case y4 => k_is)
      (case z7 => k_is)
      (case z8 => k_is)
      (case z9 => k_is)
      (case z10 => k_is)
      (case z11 => k_is)
      (case z12 => k_is)
    refine' Exists.elim (Vf.ref_mk KX G ?ta ?tl ?tc ?tk) ?_
    (case ta => k_is); (case tl => k_is); (case tc => k_is); (case tk => k_is)
    rintro g TF
    refine' Vf.law_mk (P2 := 230) KX G hmg ?ga ?lk ?cc ?gk ?aE ?lE ?cE ?kE (hT _ (by simp)) ?nT ?hh num told TF NN FIsInt cIsInt FWithin cWithin FReqNum cReqNum FIsBase cIsBase FReqBase cReqBase FReqRoots cReqRoots FIsWord cIsWord FWordForm cWordForm FIsPfx cIsPfx FPfxForm cPfxForm FIsStream cIsStream FStreamForm cStreamForm FShort cShort FDice cDice FPull cPull FWord cWord FLNormal cLNormal FLStream cLStream FLBase cLBase FOdd cOdd FBent cBent FIsCount cIsCount FIsDig cIsDig FIsPlace cIsPlace FIsEnd cIsEnd FNoBase cNoBase FJudged cJudged FWritten cWritten
    (case ga => k_is); (case lk => k_is); (case cc => k_is); (case gk => k_is)
    (case aE => k_is); (case lE => k_is); (case cE => k_is); (case kE => k_is)
    (case nT => first | rfl | kernel_rfl)
    (case hh => first | rfl | kernel_rfl)


