import PyProof.Rows.All
import Wide.All
import OpenK.AllK
import Wide.FinOn
import HandS.ForMost
import HandS.StrMore
import HandS.SortRule
import HandS.TupLe
import HandS.Conv
import KE.DataFind
import HandS.TryMany
import HandS.Lambda
import HandS.EndTab
import HandS.IsInst
import HandS.Wide
import HandS.WideMore
import HandS.ExcField
import HandS.ExcIs
import HandS.Style
import HandS.WordsExc
import HandS.Deep
import HandS.SetFor
import HandS.Flow
import PyProof.ReprRoads
import KE.KExcSuper
import KE.KNestM
import PySem.Challenge.RW_prefixtable_k06_whole_tails
import HandS.GenList
import OpenK.XSeg
import HandS.Text
import HandS.Zip0
import KE.KPairComp
import HandS.Comp
set_option Elab.async false
set_option maxRecDepth 100000
set_option maxHeartbeats 4000000
set_option exponentiation.threshold 3000
/-! Streams made: the text by places, and rules of my own. -/
namespace Vf
open PySem L2
def top (i : Nat) : Stmt := PySem.Challenge.pw_prefixtable_k06_whole_tails.main.body.getD i (.Pass ⟨0, 0, 0, 0⟩)
abbrev sIsInt : Stmt := top 7
abbrev sWithin : Stmt := top 8
abbrev sReqNum : Stmt := top 9
abbrev sReqBase : Stmt := top 15
abbrev sWordForm : Stmt := top 16
abbrev sPfxForm : Stmt := top 17
abbrev sReqPfx : Stmt := top 18
abbrev sStreamForm : Stmt := top 21
abbrev sReqStream : Stmt := top 22
abbrev sShortest : Stmt := top 24
abbrev sNormal : Stmt := top 25
abbrev sLead : Stmt := top 28
abbrev sIsUnder : Stmt := top 30
abbrev sBegins : Stmt := top 31
abbrev sWithBeg : Stmt := top 32
abbrev sReplaced : Stmt := top 33
abbrev sDice : Stmt := top 40
abbrev sPull : Stmt := top 41
abbrev sWord : Stmt := top 42
abbrev sLNormal : Stmt := top 43
abbrev sLStream : Stmt := top 44
abbrev sLBeg : Stmt := top 45
abbrev sLBase : Stmt := top 46
abbrev sTold : Stmt := top 47
abbrev sNoBase : Stmt := top 48
abbrev sNoStream : Stmt := top 49
abbrev sRight : Stmt := top 53
abbrev sErr : Stmt := top 55
abbrev sLaw : Stmt := top 56
abbrev sReqTwo : Stmt := top 23
abbrev sMake : Stmt := top 26
abbrev sBeginning : Stmt := top 29
abbrev sDigits : Stmt := top 27
abbrev sTelling : Stmt := top 34
abbrev sBefore : Stmt := top 35
abbrev sPrecedes : Stmt := top 36
abbrev sComEnd : Stmt := top 37
abbrev sTailShift : Stmt := top 38
abbrev sLTail : Stmt := top 50
abbrev sFirstPair : Stmt := top 51
abbrev sLPair : Stmt := top 52
abbrev sMadeRight : Stmt := top 54
abbrev sCIN : Stmt := top 5
/-! ### the dice: three ints in a list -/
structure DieV (d0 d1 d2 : Int) : Prop where
  p0 : 0 ≤ d0
  w0 : d0.natAbs < 2 ^ 2300
  p1 : 0 ≤ d1
  p2 : 0 ≤ d2
def dieL (d : Int × Int × Int) : List V := [.int d.1, .int d.2.1, .int d.2.2]
def DieOk (d : Int × Int × Int) : Prop := DieV d.1 d.2.1 d.2.2
/-- everything but a is as before -/
def Kp (a : Addr) (H H' : Hp) : Prop := ∀ b o, b ≠ a → H b = some o → H' b = some o
theorem Kp.refl (a : Addr) (H : Hp) : Kp a H H := fun _ _ _ h => h
theorem Kp.trans {a : Addr} {H H1 H2 : Hp} (x : Kp a H H1) (y : Kp a H1 H2) : Kp a H H2 := fun b o n h => y b o n (x b o n h)
theorem Kp.upd {a : Addr} {H : Hp} {o : HO} : Kp a H (upd H a o) := fun b u n h => by rw [upd_ne n]; exact h
theorem Kp.new {a p : Addr} {H : Hp} {o : HO} (h : H p = none) : Kp a H (L2.upd H p o) := fun b u _ e => by rw [upd_ne (ne_of_none e h)]; exact e
theorem Kp.same {a : Addr} {H H' : Hp} (e : Same H H') : Kp a H H' := fun b o _ h => e b o h
/-- _law_pull: a draw below many -/
def spPull : Sp := fun vs H Q _ => ∃ (a : Addr) (d : Int × Int × Int) (many : Int), vs = [.ref a, .int many] ∧ H a = some (.lst (dieL d)) ∧ DieOk d ∧ 1 ≤ many ∧ many ≤ 5000 ∧
  d.2.2 ≤ 1000000000 ∧ ∀ (r : Int) (d' : Int × Int × Int), DieOk d' → d'.2.2 ≤ d.2.2 + 1 → 0 ≤ r → r < many → Q (.int r) (upd H a (.lst (dieL d')))
theorem pull_bound (d1 d2 : Int) (p1 : 0 ≤ d1) (p2 : 0 ≤ d2) (hc : d2 ≤ 1000000000) :
    0 ≤ (d1 + 3266489917 * (d2 + 1)) % 36028797018963913 ∧ (d1 + 3266489917 * (d2 + 1)) % 36028797018963913 < 36028797018963913 ∧
    0 ≤ (d1 + 3266489917 * (d2 + 1)) % 36028797018963913 * ((d1 + 3266489917 * (d2 + 1)) % 36028797018963913) % 18014398509481951 ∧
    (d1 + 3266489917 * (d2 + 1)) % 36028797018963913 * ((d1 + 3266489917 * (d2 + 1)) % 36028797018963913) % 18014398509481951 < 18014398509481951 ∧
    ((d1 + 3266489917 * (d2 + 1)) % 36028797018963913 * ((d1 + 3266489917 * (d2 + 1)) % 36028797018963913) % 18014398509481951 * ((d1 + 3266489917 * (d2 + 1)) % 36028797018963913) + 668265263 * (d2 + 1) + d1 % 65521).natAbs < 2 ^ 120 := by
  generalize (d1 + 3266489917 * (d2 + 1)) % 36028797018963913 = one, Int.emod_nonneg (d1 + 3266489917 * (d2 + 1)) (show (36028797018963913 : Int) ≠ 0 by decide) = o0, Int.emod_lt_of_pos (d1 + 3266489917 * (d2 + 1)) (show (0 : Int) < 36028797018963913 by decide) = o1
  have t0 : 0 ≤ one * one % 18014398509481951 := Int.emod_nonneg _ (by decide)
  have t1 : one * one % 18014398509481951 < 18014398509481951 := Int.emod_lt_of_pos _ (by decide)
  generalize one * one % 18014398509481951 = two at t0 t1
  refine ⟨o0, o1, t0, t1, ?_⟩
  have b1 : (two * one).natAbs < 2 ^ 110 := wide_lt (a := 55) (b := 55) (by omega) (by omega)
  have b1' : 0 ≤ two * one := Int.mul_nonneg t0 o0
  generalize two * one = three at b1 b1'
  have m0 : 0 ≤ d1 % 65521 := Int.emod_nonneg _ (by decide)
  have m1 : d1 % 65521 < 65521 := Int.emod_lt_of_pos _ (by decide)
  have e : (2 : Nat) ^ 110 = 1298074214633706907132624082305024 := by decide
  have e' : (2 : Nat) ^ 120 = 1329227995784915872903807060280344576 := by decide
  omega
section
variable {P : Program} {w : World} {K : PySem.W.Frag} {mg : Str → Option Value} {base : Heap}
theorem scPull : FnScope ["die", "many", "found", "one", "two"] ["die", "many"] (defScope sPull) := ⟨rfl, rfl, rfl, by decide +kernel, rfl, by decide +kernel, by decide +kernel⟩
theorem ok_pull {f : Addr} {fd : FuncData} (F : Fun K "_law_pull" "_law_pull" sPull f fd) : FnOk P w K mg base CX0 1 f fd ["die", "many"] spPull := by
  refine F.ok scPull (fun vs H Q E h => ?_) (fun cdv A outer s H vs Q E hr h => ?_)
  · obtain ⟨a, d, many, rfl, _⟩ := h
    rfl
  · obtain ⟨a, ⟨d0, d1, d2⟩, many, rfl, ha, hd, h1, h2, hc, k⟩ := h
    have hc : d2 ≤ 1000000000 := hc
    have nd := scPull.nd
    refine ⟨_, pss_cons (ps_if (pt_cmpR op_gt (pe_ix ix_list (pv 0) pe_int (fun _ _ => rfl)) pe_int (nomark _))
        (pss_cons (ps_set (i := 2) nd rfl (Or.inl rfl) (pe_op op_mod (pe_ix ix_list (pv 0) pe_int (fun _ _ => rfl)) (pv 1)))
        (pss_cons (ps_asg (pe_op op_fdivW (pe_ix ix_list (pv 0) pe_int (fun _ _ => rfl)) (pv 1)) (pg_sub (pv 0) pe_int set_list))
        (pss_one (ps_ret (pv 2))))) pss_nil)
      (pss_cons (ps_asg (pe_op op_add (pe_ix ix_list (pv 0) pe_int (fun _ _ => rfl)) pe_int) (pg_sub (pv 0) pe_int set_list))
      (pss_cons (ps_set (i := 3) nd rfl (Or.inl rfl) (pe_op op_mod (pe_op op_add (pe_ix ix_list (pv 0) pe_int (fun _ _ => rfl)) (pe_op op_mul pe_int (pe_ix ix_list (pv 0) pe_int (fun _ _ => rfl)))) pe_int))
      (pss_cons (ps_set (i := 4) nd rfl (Or.inl rfl) (pe_op op_mul (pe_op op_mod (pe_op op_mul (pv 3) (pv 3)) pe_int) (pv 3)))
      (pss_cons (ps_set (i := 4) nd rfl (Or.inl rfl) (pe_op op_add (pe_op op_add (pv 4) (pe_op op_mul pe_int (pe_ix ix_list (pv 0) pe_int (fun _ _ => rfl)))) (pe_op op_mod (pe_ix ix_list (pv 0) pe_int (fun _ _ => rfl)) pe_int)))
      (pss_one (ps_ret (pe_op op_mod (pe_op op_fdiv (pe_op op_mod (pe_op op_mulW (pv 4) (pv 4)) pe_int) pe_int) (pv 1)))))))), ?_⟩
    obtain ⟨hp0, hw0, hp1, hp2⟩ := id hd
    have hp0 : 0 ≤ d0 := hp0
    have hp1 : 0 ≤ d1 := hp1
    have hp2 : 0 ≤ d2 := hp2
    have hw0 : d0.natAbs < 2 ^ 2300 := hw0
    have ix0 : atI (dieL (d0, d1, d2)) 0 = some (.int d0) := rfl
    have ix1 : atI (dieL (d0, d1, d2)) 1 = some (.int d1) := rfl
    have ix2 : atI (dieL (d0, d1, d2)) 2 = some (.int d2) := rfl
    refine ⟨_, rfl, a, _, _, _, rfl, rfl, SqL.of ha, ix0, _, _, rfl, rfl, _, rfl, ?_⟩
    refine ite2 (fun c => ?_) (fun c => ?_)
    · refine ⟨_, rfl, a, _, _, _, rfl, rfl, SqL.of ha, ix0, _, rfl, _, _, rfl, rfl, (by show (0 : Int) < many; omega), ?_⟩
      refine ⟨_, rfl, a, _, _, _, rfl, rfl, SqL.of ha, ix0, _, rfl, _, _, rfl, rfl, (wide_div (b := 13) (by omega) (by omega) (by omega) (by omega)), ?_⟩
      refine ⟨_, rfl, a, _, _, _, rfl, rfl, ha, rfl, ?_⟩
      refine ⟨_, rfl, ?_⟩
      have q := k (d0 % many) (d0 / many, d1, d2) ⟨Int.ediv_nonneg hp0 (by omega), ?_, hp1, hp2⟩ (by show d2 ≤ d2 + 1; omega) (Int.emod_nonneg _ (by omega)) (Int.emod_lt_of_pos _ (by omega))
      · exact q
      · show (d0 / many).natAbs < 2 ^ 2300
        refine wide_le (j := d0) (Int.ediv_nonneg hp0 (by omega)) (Int.ediv_le_self _ hp0) hw0
    · have hb : upd H a (.lst (dieL (d0, d1, d2 + 1))) a = some (.lst (dieL (d0, d1, d2 + 1))) := upd_same
      have jx0 : atI (dieL (d0, d1, d2 + 1)) 0 = some (.int d0) := rfl
      have jx1 : atI (dieL (d0, d1, d2 + 1)) 1 = some (.int d1) := rfl
      have jx2 : atI (dieL (d0, d1, d2 + 1)) 2 = some (.int (d2 + 1)) := rfl
      refine ⟨_, rfl, a, _, _, _, rfl, rfl, SqL.of ha, ix2, _, _, rfl, rfl, ?_⟩
      refine ⟨_, rfl, a, _, _, _, rfl, rfl, ha, rfl, ?_⟩
      have pos1 : (0 : Int) < 36028797018963913 := by decide
      have pos2 : (0 : Int) < 18014398509481951 := by decide
      have pos3 : (0 : Int) < 65521 := by decide
      have pos4 : (0 : Int) < 1125899906842597 := by decide
      refine ⟨_, rfl, a, _, _, _, rfl, rfl, SqL.of hb, jx1, _, rfl, a, _, _, _, rfl, rfl, SqL.of hb, jx2, _, _, rfl, rfl, .inl ⟨by decide, by decide⟩, _, _, rfl, rfl, _, _, rfl, rfl, pos1, ?_⟩
      -- one * one % .. * one
      obtain ⟨o0, o1, t0, t1, b2⟩ := pull_bound d1 d2 hp1 hp2 hc
      have one63 : (d1 + 3266489917 * (d2 + 1)) % 36028797018963913 < 2 ^ 64 := Int.lt_trans o1 (by decide)
      have one63' : -(2 ^ 64) < (d1 + 3266489917 * (d2 + 1)) % 36028797018963913 := Int.lt_of_lt_of_le (by decide) o0
      refine ⟨_, rfl, _, rfl, _, _, rfl, rfl, .inl ⟨one63', one63⟩, _, _, rfl, rfl, pos2, _, rfl, _, _, rfl, rfl, .inr ⟨one63', one63⟩, ?_⟩
      refine ⟨_, rfl, _, rfl, a, _, _, _, rfl, rfl, SqL.of hb, jx2, _, _, rfl, rfl, .inl ⟨by decide, by decide⟩, _, _, rfl, rfl, _, rfl, a, _, _, _, rfl, rfl, SqL.of hb, jx1, _, _, rfl, rfl, pos3, _, _, rfl, rfl, ?_⟩
      refine ⟨_, rfl, _, rfl, _, _, rfl, rfl, wide_mul (a := 120) (b := 120) b2 b2 (by decide) (by decide) (by decide), _, _, rfl, rfl, pos4, _, _, rfl, rfl, ⟨by decide, by decide⟩, _, rfl, _, _, rfl, rfl, (by show (0 : Int) < many; omega), ?_⟩
      exact k _ (d0, d1, d2 + 1) ⟨hp0, hw0, hp1, by show (0 : Int) ≤ d2 + 1; have : (0 : Int) ≤ d2 := hp2; omega⟩ (by show d2 + 1 ≤ d2 + 1; omega) (Int.emod_nonneg _ (by omega)) (Int.emod_lt_of_pos _ (by omega))
end
end Vf


set_option Elab.async false
set_option maxRecDepth 100000
set_option maxHeartbeats 4000000
set_option exponentiation.threshold 3000
namespace Vf
open PySem L2 SX
/-! ### digits as code points -/
/-- a word of the base -/
def IsW (b : Int) (l : List Nat) : Prop := ∀ c ∈ l, 48 ≤ c ∧ (c : Int) < 48 + b
theorem IsW.nil (b : Int) : IsW b [] := fun _ h => by cases h
theorem IsW.app {b : Int} {l m : List Nat} (h1 : IsW b l) (h2 : IsW b m) : IsW b (l ++ m) := fun c h => by
  rcases List.mem_append.mp h with h | h
  · exact h1 c h
  · exact h2 c h
theorem IsW.of {b : Int} {l m : List Nat} (h1 : IsW b l) (h : ∀ c ∈ m, c ∈ l) : IsW b m := fun c hc => h1 c (h c hc)
theorem str_empty : ("" : Str) = S [] := by decide +kernel
theorem s01234 : ("01234" : Str) = S [48, 49, 50, 51, 52] := by decide +kernel
/-- a def of the module as it is called -/
structure Cal (K : PySem.W.Frag) (mg : Str → Option Value) (x : Str) (f : Addr) (fd : FuncData) (ps : List Str) : Prop where
  mg : mg x = some (.ref f)
  kp : PySem.W.keepIn K (.ref f) = true
  b : Binds K fd ps []
def spBase : Sp := fun vs H Q _ => ∃ (a : Addr) (d : Int × Int × Int), vs = [.ref a] ∧ H a = some (.lst (dieL d)) ∧ DieOk d ∧ d.2.2 ≤ 1000000000 ∧
  ∀ (b : Int) (d' : Int × Int × Int) (H' : Hp), DieOk d' → d'.2.2 ≤ d.2.2 + 1 → 2 ≤ b → b ≤ 5 → Kp a H H' → H' a = some (.lst (dieL d')) → Q (.int b) H'
def spWord : Sp := fun vs H Q _ => ∃ (a : Addr) (d : Int × Int × Int) (base high : Int), vs = [.ref a, .int base, .int high] ∧ H a = some (.lst (dieL d)) ∧ DieOk d ∧ d.2.2 ≤ 999000000 ∧ 2 ≤ base ∧ base ≤ 5 ∧ 0 ≤ high ∧ high ≤ 100 ∧
  ∀ (l : List Nat) (d' : Int × Int × Int), DieOk d' → d'.2.2 ≤ d.2.2 + 1 + high → IsW base l → (l.length : Int) ≤ high → Q (.str (S l)) (upd H a (.lst (dieL d')))
section
variable {P : Program} {w : World} {K : PySem.W.Frag} {mg : Str → Option Value} {base : Heap}
theorem scBase : FnScope ["die"] ["die"] (defScope sLBase) := ⟨rfl, rfl, rfl, by decide +kernel, rfl, by decide +kernel, by decide +kernel⟩
theorem ok_base {f fP : Addr} {fd fdP : FuncData} (F : Fun K "_law_base" "_law_base" sLBase f fd) (GP : FnOk P w K mg base CX0 1 fP fdP ["die", "many"] spPull) (cP : Cal K mg "_law_pull" fP fdP ["die", "many"]) : FnOk P w K mg base CX0 2 f fd ["die"] spBase := by
  refine F.ok scBase (fun vs H Q E h => ?_) (fun cdv A outer s H vs Q E hr h => ?_)
  · obtain ⟨a, d, rfl, _⟩ := h
    rfl
  · obtain ⟨a, d, rfl, ha, hd, hc, k⟩ := h
    refine ⟨_, pss_one (ps_ret (pe_ix ix_list (pe_lst (pa_cons pe_int (pa_cons pe_int (pa_cons pe_int (pa_cons pe_int (pa_cons pe_int (pa_cons pe_int (pa_cons pe_int pa_nil))))))))
      (pe_call GP hr rfl cP.mg cP.kp cP.b .nil pass0 (pa_cons (pv 0) (pa_cons pe_int pa_nil))) (fun _ _ => rfl))), ?_⟩
    refine ⟨by decide, fun p hp => ?_⟩
    have npa : a ≠ p := ne_of_none ha hp
    refine ⟨_, rfl, a, d, _, rfl, by rw [upd_ne npa]; exact ha, hd, by decide, by decide, hc, fun r d' hd' hc' r0 r1 => ?_⟩
    obtain ⟨v, hv, v2, v5⟩ : ∃ v : Int, atI ([.int 2, .int 2, .int 2, .int 3, .int 3, .int 4, .int 5] : List V) r = some (.int v) ∧ 2 ≤ v ∧ v ≤ 5 := by
      have : r = 0 ∨ r = 1 ∨ r = 2 ∨ r = 3 ∨ r = 4 ∨ r = 5 ∨ r = 6 := by omega
      rcases this with e | e | e | e | e | e | e <;> subst e <;> exact ⟨_, rfl, by decide, by decide⟩
    refine ⟨p, _, r, _, rfl, rfl, SqL.of (by rw [upd_ne npa.symm, upd_same]), hv, ?_⟩
    exact k v d' _ hd' hc' v2 v5 ((Kp.new hp).trans Kp.upd) upd_same
theorem scWord : FnScope ["die", "base", "high", "word", "turn"] ["die", "base", "high"] (defScope sWord) := ⟨rfl, rfl, rfl, by decide +kernel, rfl, by decide +kernel, by decide +kernel⟩
theorem upd_upd' {H : Hp} {a : Addr} {o o' : HO} : upd (upd H a o) a o' = upd H a o' := by
  funext b
  by_cases h : b = a
  · subst h
    rw [upd_same, upd_same]
  · rw [upd_ne h, upd_ne h, upd_ne h]
theorem ok_word {f fP : Addr} {fd fdP : FuncData} (F : Fun K "_law_word" "_law_word" sWord f fd) (GP : FnOk P w K mg base CX0 1 fP fdP ["die", "many"] spPull) (cP : Cal K mg "_law_pull" fP fdP ["die", "many"]) (mr : mg "range" = none) : FnOk P w K mg base CX0 2 f fd ["die", "base", "high"] spWord := by
  refine F.ok scWord (fun vs H Q E h => ?_) (fun cdv A outer s H vs Q E hr h => ?_)
  · obtain ⟨a, d, b, hi, rfl, _⟩ := h
    rfl
  · obtain ⟨a, d, b, hi, rfl, ha, hd, hc, hb2, hb5, hh0, hh1, k⟩ := h
    have nd := scWord.nd
    refine ⟨_, pss_cons (ps_set (i := 3) nd rfl (.inl rfl) pe_str)
      (pss_cons (ps_for PassesOwn.never rfl (pi_range1 rfl mr (pa_cons (pe_call GP hr rfl cP.mg cP.kp cP.b .nil pass0 (pa_cons (pv 0) (pa_cons (pe_op op_add (pv 2) pe_int) pa_nil))) pa_nil)) (pg_name (i := 4) nd rfl (.inl rfl))
        (pss_one (ps_set (i := 3) nd rfl (.inl rfl) (pe_op op_add_str (pv 3) (pe_ix ix_str pe_str (pe_call GP hr rfl cP.mg cP.kp cP.b .nil pass0 (pa_cons (pv 0) (pa_cons (pv 1) pa_nil))) (fun _ _ => rfl))))))
      (pss_one (ps_ret (pv 3)))), ?_⟩
    refine ⟨_, rfl, _, rfl, _, _, rfl, rfl, a, d, _, rfl, ha, hd, by omega, by omega, by omega, fun r d1 hd1 hc1 r0 r1 => ?_⟩
    refine ⟨r, rfl, by omega, by omega, for_range (n := r.toNat) (fun i σ H2 => ∃ (l : List Nat) (d2 : Int × Int × Int) (t : Option V), σ = [some (.ref a), some (.int b), some (.int hi), some (.str (S l)), t] ∧ H2 = upd H a (.lst (dieL d2)) ∧ DieOk d2 ∧ d2.2.2 ≤ d.2.2 + 1 + i ∧ IsW b l ∧ l.length ≤ i) ?_ ?_ ?_⟩
    · exact ⟨[], d1, none, by rw [← str_empty]; rfl, rfl, hd1, by omega, .nil _, Nat.le_refl _⟩
    · rintro i σ H2 hi2 ⟨l, d2, t, rfl, rfl, hd2, hc2, hw, hl⟩
      have hil : (i : Int) < r := by omega
      refine ⟨_, rfl, _, rfl, _, rfl, a, d2, b, rfl, upd_same, hd2, by omega, by omega, by omega, fun q d3 hd3 hc3 q0 q1 => ?_⟩
      obtain ⟨c, hc', c0, c1⟩ : ∃ c : Nat, atI (("01234" : Str).cps.toList) q = some c ∧ 48 ≤ c ∧ (c : Int) < 48 + b := by
        rw [s01234]
        have : q = 0 ∨ q = 1 ∨ q = 2 ∨ q = 3 ∨ q = 4 := by omega
        rcases this with e | e | e | e | e <;> subst e <;> exact ⟨_, rfl, by decide, by omega⟩
      refine ⟨_, q, c, rfl, rfl, by decide +kernel, hc', S l, S [c], rfl, rfl, ?_, ?_⟩
      · rw [S_len, S_len]
        exact Nat.le_trans (show l.length + 1 ≤ 1000 by omega) (by decide)
      · rw [S_cat, upd_upd']
        refine ⟨l ++ [c], d3, _, rfl, rfl, hd3, by omega, hw.app (fun x hx => ?_), by rw [List.length_append]; show l.length + 1 ≤ i + 1; omega⟩
        rw [List.mem_singleton.mp hx]
        exact ⟨c0, c1⟩
    · rintro σ H2 ⟨l, d2, t, rfl, rfl, hd2, hc2, hw, hl⟩
      exact ⟨_, rfl, k l d2 hd2 (by omega) hw (by omega)⟩
end
end Vf


set_option Elab.async false
set_option maxRecDepth 100000
set_option maxHeartbeats 4000000
set_option exponentiation.threshold 3000
namespace Vf
open PySem L2 SX
section
variable {X : Cx}
def CPowB (i j : Int) : Prop := 0 ≤ j ∧ (Builtin.Int.intBits i : Int) * j ≤ 2 ^ 27
/-- ** of a great base, as the size of the power allows -/
theorem op_powB : OpR X (binaryOp .Pow) (rI CPowB fun i j => .int (i ^ j.toNat)) := opI fun _ _ _ _ _ _ _ hc q => PyProof.Rows.pow_int hc.1 hc.2 q
end
/-- _law_dice: a new die -/
def spDice (K : PySem.W.Frag) : Sp := fun vs H Q _ => ∃ (a : Addr) (ns : List Int) (at' : Nat), vs = [.ref a, .int at'] ∧ SqL K H a (ns.map V.int) ∧ ns.length ≤ 63 ∧ at' ≤ 100 ∧
  ∀ (p : Addr) (d' : Int × Int × Int), DieOk d' → d'.2.2 = 0 → H p = none → Q (.ref p) (upd H p (.lst (dieL d')))
theorem big660 : (((10 : Int) ^ (60 : Int).toNat) ^ (11 : Int).toNat).natAbs < 2 ^ 2300 := by decide +kernel
theorem pos660 : (0 : Int) < ((10 : Int) ^ (60 : Int).toNat) ^ (11 : Int).toNat := by decide +kernel
section
variable {P : Program} {w : World} {K : PySem.W.Frag} {mg : Str → Option Value} {base : Heap}
theorem scDice : FnScope ["script", "at", "cell", "great", "mixed"] ["script", "at"] (defScope sDice) := ⟨rfl, rfl, rfl, by decide +kernel, rfl, by decide +kernel, by decide +kernel⟩
theorem dice_end {g at' : Int} {b : Int} (hg0 : 0 ≤ g) (hg : g < ((10 : Int) ^ (60 : Int).toNat) ^ (11 : Int).toNat) :
    DieOk ((if g - 10 ^ (18 : Int).toNat + 1 > 0 then g - 10 ^ (18 : Int).toNat + 1 else 0), (g * 2862933555777941757 + 3037000493 * at' + 7 * b) % 72057594037927931, 0) := by
  have h18 : (0 : Int) < 10 ^ (18 : Int).toNat := by decide +kernel
  have h1 : (1 : Int) ≤ 10 ^ (18 : Int).toNat := by decide +kernel
  have hbig := big660
  generalize ((10 : Int) ^ (60 : Int).toNat) ^ (11 : Int).toNat = N at hg hbig
  generalize (10 : Int) ^ (18 : Int).toNat = M at h18 h1
  refine ⟨?_, ?_, Int.emod_nonneg _ (by decide), Int.le_refl _⟩
  · show 0 ≤ (if g - M + 1 > 0 then g - M + 1 else 0)
    split <;> omega
  · show (if g - M + 1 > 0 then g - M + 1 else 0).natAbs < 2 ^ 2300
    refine wide_le (j := N) ?_ ?_ hbig
    · split <;> omega
    · split <;> omega
theorem ok_dice {f : Addr} {fd : FuncData} (F : Fun K "_law_dice" "_law_dice" sDice f fd) (ml : mg "len" = none) (ma : mg "abs" = none) (mi : mg "int" = none) (mm : mg "max" = none) : FnOk P w K mg base CX0 1 f fd ["script", "at"] (spDice K) := by
  refine F.ok scDice (fun vs H Q E h => ?_) (fun cdv A outer s H vs Q E hr h => ?_)
  · obtain ⟨a, ns, at', rfl, _⟩ := h
    rfl
  · obtain ⟨a, ns, at', rfl, ha, hl, hat, k⟩ := h
    have nd := scDice.nd
    refine ⟨_, pss_cons (ps_set (i := 2) nd rfl (.inl rfl) (pe_ifExp (pt_cmpR op_lt (pv 1) (pe_callB call_len_seq (by rfl) ml boot_len (pa_cons (pv 0) pa_nil)) (nomark _)) (pe_ix ix_list (pv 0) (pv 1) (fun _ _ => rfl)) (pe_op op_add (pe_op op_mul pe_int (pv 1)) pe_int)))
      (pss_cons (ps_set (i := 3) nd rfl (.inl rfl) (pe_op op_mod (pe_callB call_abs (by rfl) ma PyProof.Rows.boot_abs (pa_cons (pv 2) pa_nil)) (pe_op op_powB (pe_op op_pow pe_int pe_int) pe_int)))
      (pss_cons (ps_set (i := 4) nd rfl (.inl rfl) (pe_op op_mod (pe_op op_add (pe_op op_add (pe_op op_mul (pv 3) pe_int) (pe_op op_mul pe_int (pv 1))) (pe_op op_mul pe_int (pe_callTy call_int1 (by rfl) mi PyProof.Rows.boot_int (pa_cons (pe_cmpR op_lt (pv 2) pe_int (nomark _)) pa_nil)))) pe_int))
      (pss_one (ps_ret (pe_lst (pa_cons (pe_callB (call_max2 rfl) (by rfl) mm PyProof.Rows.boot_max (pa_cons pe_int (pa_cons (pe_op op_add (pe_op op_sub (pv 3) (pe_op op_pow pe_int pe_int)) pe_int) pa_nil))) (pa_cons (pv 4) (pa_cons pe_int pa_nil))))))))
      , ?_⟩
    have pos1 : (0 : Int) < 72057594037927931 := by decide
    refine ⟨_, rfl, _, rfl, a, _, rfl, .inl ha, _, _, rfl, rfl, _, rfl, ?_⟩
    refine ite2 (fun c => ?_) (fun c => ?_)
    · have c' : (at' : Int) < ((ns.map V.int).length : Int) := of_decide_eq_true c
      have c2 : at' < ns.length := by rw [List.length_map] at c'; omega
      refine ⟨_, rfl, _, rfl, a, _, _, V.int ns[at'], rfl, rfl, ha, atI_nat (by rw [List.getElem?_map, List.getElem?_eq_getElem c2]; rfl), ?_⟩
      refine ⟨_, rfl, _, rfl, _, _, rfl, rfl, ⟨by decide, by decide, by decide +kernel⟩, _, _, rfl, rfl, ⟨by decide, by decide +kernel⟩, _, _, rfl, rfl, pos660, ?_⟩
      refine ⟨_, rfl, _, _, rfl, rfl, .inr ⟨by decide, by decide⟩, _, rfl, _, _, rfl, rfl, .inl ⟨by decide, by decide⟩, _, _, rfl, rfl, _, rfl, _, _, rfl, rfl, .inr ⟨_, rfl, _, _, rfl, rfl, .inl ⟨by decide, by decide⟩, _, _, rfl, rfl, _, _, rfl, rfl, pos1, ?_⟩⟩
      refine ⟨_, rfl, _, _, rfl, rfl, ⟨by decide, by decide, by decide +kernel⟩, _, _, rfl, rfl, _, _, rfl, rfl, _, _, rfl, _, rfl, (by show 3 ≤ sizeLine; decide), fun p hp => ?_⟩
      exact k p _ (dice_end (Int.emod_nonneg _ (by have := pos660; omega)) (Int.emod_lt_of_pos _ pos660)) rfl hp
    · refine ⟨_, rfl, _, _, rfl, rfl, .inl ⟨by decide, by decide⟩, _, _, rfl, rfl, ?_⟩
      refine ⟨_, rfl, _, rfl, _, _, rfl, rfl, ⟨by decide, by decide, by decide +kernel⟩, _, _, rfl, rfl, ⟨by decide, by decide +kernel⟩, _, _, rfl, rfl, pos660, ?_⟩
      refine ⟨_, rfl, _, _, rfl, rfl, .inr ⟨by decide, by decide⟩, _, rfl, _, _, rfl, rfl, .inl ⟨by decide, by decide⟩, _, _, rfl, rfl, _, rfl, _, _, rfl, rfl, .inr ⟨_, rfl, _, _, rfl, rfl, .inl ⟨by decide, by decide⟩, _, _, rfl, rfl, _, _, rfl, rfl, pos1, ?_⟩⟩
      refine ⟨_, rfl, _, _, rfl, rfl, ⟨by decide, by decide, by decide +kernel⟩, _, _, rfl, rfl, _, _, rfl, rfl, _, _, rfl, _, rfl, (by show 3 ≤ sizeLine; decide), fun p hp => ?_⟩
      exact k p _ (dice_end (Int.emod_nonneg _ (by have := pos660; omega)) (Int.emod_lt_of_pos _ pos660)) rfl hp
end
end Vf


/-! # Words that repeat, and streams in normal form: the mathematics, over lists of numbers -/
namespace Vm
/-- the i-th of the endless repetition of q -/
def g (q : List Nat) (i : Nat) : Nat := q.getD (i % q.length) 0
/-- the i-th of h and then q again and again -/
def ev (h q : List Nat) (i : Nat) : Nat := if i < h.length then h.getD i 0 else g q (i - h.length)
theorem ev_lt {h q : List Nat} {i : Nat} (hi : i < h.length) : ev h q i = h.getD i 0 := if_pos hi
theorem ev_ge {h q : List Nat} {i : Nat} (hi : h.length ≤ i) : ev h q i = g q (i - h.length) := if_neg (by omega)
theorem g_add (q : List Nat) (i : Nat) : g q (i + q.length) = g q i := by unfold g; rw [Nat.add_mod_right]
theorem g_mul (q : List Nat) (i k : Nat) : g q (i + k * q.length) = g q i := by unfold g; rw [Nat.add_mul_mod_self_right]
theorem g_mod (q : List Nat) (i : Nat) : g q (i % q.length) = g q i := by unfold g; rw [Nat.mod_mod]
theorem g_lt {q : List Nat} {i : Nat} (h : i < q.length) : g q i = q.getD i 0 := by unfold g; rw [Nat.mod_eq_of_lt h]
theorem ext_getD {l m : List Nat} (hl : l.length = m.length) (h : ∀ i, i < l.length → l.getD i 0 = m.getD i 0) : l = m := by
  refine List.ext_getElem hl fun i h1 h2 => ?_
  have q := h i h1
  rw [List.getD_eq_getElem?_getD, List.getD_eq_getElem?_getD, List.getElem?_eq_getElem h1, List.getElem?_eq_getElem h2] at q
  exact q
/-- h and q are the normal form of f -/
structure Nf (f : Nat → Nat) (h q : List Nat) : Prop where
  ne : 0 < q.length
  is : ∀ i, ev h q i = f i
  prim : ∀ s m, 0 < s → s < q.length → ¬ ∀ i, m ≤ i → f (i + s) = f i
  trim : 0 < h.length → f (h.length - 1 + q.length) ≠ f (h.length - 1)
theorem Nf.per {f : Nat → Nat} {h q : List Nat} (n : Nf f h q) {i : Nat} (hi : h.length ≤ i) : f (i + q.length) = f i := by
  rw [← n.is, ← n.is, ev_ge hi, ev_ge (by omega), show i + q.length - h.length = i - h.length + q.length by omega, g_add]
theorem Nf.len {f : Nat → Nat} {h q h' q' : List Nat} (n : Nf f h q) (n' : Nf f h' q') : q.length ≤ q'.length := by
  refine Nat.le_of_not_lt fun hlt => n.prim q'.length h'.length n'.ne hlt fun i hi => n'.per hi
theorem Nf.hlen {f : Nat → Nat} {h q h' q' : List Nat} (n : Nf f h q) (n' : Nf f h' q') : h.length ≤ h'.length := by
  refine Nat.le_of_not_lt fun hlt => ?_
  have e : q.length = q'.length := Nat.le_antisymm (n.len n') (n'.len n)
  have z := n'.per (i := h.length - 1) (by omega)
  rw [← e] at z
  exact n.trim (by omega) z
theorem Nf.unique {f : Nat → Nat} {h q h' q' : List Nat} (n : Nf f h q) (n' : Nf f h' q') : h = h' ∧ q = q' := by
  have e : q.length = q'.length := Nat.le_antisymm (n.len n') (n'.len n)
  have e2 : h.length = h'.length := Nat.le_antisymm (n.hlen n') (n'.hlen n)
  refine ⟨ext_getD e2 fun i hi => ?_, ext_getD e fun i hi => ?_⟩
  · have z := (n.is i).trans (n'.is i).symm
    rw [ev_lt hi, ev_lt (by omega)] at z
    exact z
  · have z := (n.is (i + h.length)).trans (n'.is (i + h.length)).symm
    rw [ev_ge (by omega), ev_ge (by omega), e2, Nat.add_sub_cancel, g_lt hi, g_lt (by omega)] at z
    exact z
/-! ### periods -/
def Per (q : List Nat) (s : Nat) : Prop := ∀ i, g q (i + s) = g q i
theorem per_len (q : List Nat) : Per q q.length := fun i => g_add q i
theorem Per.mul {q : List Nat} {s : Nat} (p : Per q s) : ∀ k i, g q (i + k * s) = g q i
  | 0, i => by rw [Nat.zero_mul]; rfl
  | k + 1, i => by rw [Nat.succ_mul, ← Nat.add_assoc, p, Per.mul p k i]
/-- what holds from some place on holds from the start -/
theorem per_late {q : List Nat} {s m : Nat} (hq : 0 < q.length) (h : ∀ i, m ≤ i → g q (i + s) = g q i) : Per q s := fun i => by
  have z := h (i + m * q.length) (Nat.le_trans (Nat.le_mul_of_pos_right m hq) (Nat.le_add_left _ _))
  rw [show i + m * q.length + s = i + s + m * q.length by omega, g_mul, g_mul] at z
  exact z
theorem per_small {q : List Nat} {s : Nat} (h : ∀ i, i < q.length → g q (i + s) = g q i) (hq : 0 < q.length) : Per q s := fun i => by
  have z := h (i % q.length) (Nat.mod_lt _ hq)
  rw [g_mod] at z
  rw [← z]
  show q.getD ((i + s) % q.length) 0 = q.getD ((i % q.length + s) % q.length) 0
  rw [Nat.mod_add_mod]
/-- s is the least one -/
structure Least (q : List Nat) (s : Nat) : Prop where
  pos : 0 < s
  per : Per q s
  min : ∀ t, 0 < t → t < s → ¬ Per q t
theorem Least.unique {q : List Nat} {s t : Nat} (a : Least q s) (b : Least q t) : s = t := by
  rcases Nat.lt_trichotomy s t with h | h | h
  · exact (b.min s a.pos h a.per).elim
  · exact h
  · exact (a.min t b.pos h b.per).elim
theorem Least.le {q : List Nat} {s : Nat} (a : Least q s) (hq : 0 < q.length) : s ≤ q.length := Nat.le_of_not_lt fun h => a.min _ hq h (per_len q)
theorem Least.dvd {q : List Nat} {s n : Nat} (a : Least q s) (hn : Per q n) : n % s = 0 := by
  refine Classical.byContradiction fun h => ?_
  refine a.min (n % s) (by omega) (Nat.mod_lt _ a.pos) fun i => ?_
  have e : n % s + n / s * s = n := by rw [Nat.mul_comm]; exact Nat.mod_add_div n s
  have z := hn i
  rw [← a.per.mul (n / s) (i + n % s), Nat.add_assoc, e]
  exact z
theorem take_len {q : List Nat} {s : Nat} (h : s ≤ q.length) : (q.take s).length = s := by rw [List.length_take]; omega
theorem getD_take {q : List Nat} {s i : Nat} (h : i < s) : (q.take s).getD i 0 = q.getD i 0 := by
  rw [List.getD_eq_getElem?_getD, List.getD_eq_getElem?_getD, List.getElem?_take_of_lt h]
theorem getD_drop {q : List Nat} {s i : Nat} : (q.drop s).getD i 0 = q.getD (s + i) 0 := by
  rw [List.getD_eq_getElem?_getD, List.getD_eq_getElem?_getD, List.getElem?_drop]
theorem getD_app {l m : List Nat} {i : Nat} (h : i < l.length) : (l ++ m).getD i 0 = l.getD i 0 := by
  rw [List.getD_eq_getElem?_getD, List.getD_eq_getElem?_getD, List.getElem?_append_left h]
theorem getD_app2 {l m : List Nat} {i : Nat} (h : l.length ≤ i) : (l ++ m).getD i 0 = m.getD (i - l.length) 0 := by
  rw [List.getD_eq_getElem?_getD, List.getD_eq_getElem?_getD, List.getElem?_append_right h]
theorem Least.g {q : List Nat} {s : Nat} (a : Least q s) (hq : 0 < q.length) (i : Nat) : g (q.take s) i = g q i := by
  have hl := a.le hq
  have hlt := Nat.mod_lt i a.pos
  have e : i % s + i / s * s = i := by rw [Nat.mul_comm]; exact Nat.mod_add_div i s
  unfold Vm.g
  rw [take_len hl, getD_take hlt]
  have z := a.per.mul (i / s) (i % s)
  rw [e, g_lt (Nat.lt_of_lt_of_le hlt hl)] at z
  exact z.symm
/-- the tail has the least period -/
theorem Least.prim {q h : List Nat} {s : Nat} (a : Least q s) (hq : 0 < q.length) (t m : Nat) (h0 : 0 < t) (ht : t < s) : ¬ ∀ i, m ≤ i → ev h q (i + t) = ev h q i := fun z => by
  refine a.min t h0 ht (per_late (m := m) hq fun i hi => ?_)
  have y := z (i + h.length) (by omega)
  rw [ev_ge (by omega), ev_ge (by omega), Nat.add_sub_cancel, show i + h.length + t - h.length = i + t by omega] at y
  exact y
/-! ### the two searches for the least period -/
/-- by looking for the word in its double -/
theorem find_per {q : List Nat} {k : Nat} (hk : k ≤ q.length) (hq : 0 < q.length) : (((q ++ q).drop k).take q.length = q) ↔ Per q k := by
  have len : (((q ++ q).drop k).take q.length).length = q.length := by rw [List.length_take, List.length_drop, List.length_append]; omega
  have at_ : ∀ i, i < q.length → (((q ++ q).drop k).take q.length).getD i 0 = g q (i + k) := fun i hi => by
    rw [getD_take hi, getD_drop]
    by_cases h : k + i < q.length
    · rw [getD_app h, Nat.add_comm i k, g_lt h]
    · rw [getD_app2 (by omega), show i + k = (k + i - q.length) + q.length by omega, g_add, g_lt (by omega)]
  constructor
  · intro e
    refine per_small (fun i hi => ?_) hq
    rw [← at_ i hi, e, g_lt hi]
  · intro p
    refine ext_getD len fun i hi => ?_
    rw [len] at hi
    rw [at_ i hi, p i, g_lt hi]
/-- by repeating the beginning -/
theorem rep_get {l : List Nat} {k i : Nat} (h : i < k * l.length) : ((List.replicate k l).flatten).getD i 0 = g l i := by
  induction k generalizing i with
  | zero => rw [Nat.zero_mul] at h; omega
  | succ k ih =>
    rw [List.replicate_succ, List.flatten_cons]
    by_cases hl : i < l.length
    · rw [getD_app hl, g_lt hl]
    · have hl' : l.length ≤ i := by omega
      rw [getD_app2 hl', ih (by rw [Nat.succ_mul] at h; omega)]
      have z := g_add l (i - l.length)
      rw [Nat.sub_add_cancel hl'] at z
      exact z.symm
theorem rep_len {l : List Nat} {k : Nat} : ((List.replicate k l).flatten).length = k * l.length := by
  induction k with
  | zero => simp
  | succ k ih => rw [List.replicate_succ, List.flatten_cons, List.length_append, ih, Nat.succ_mul, Nat.add_comm]
theorem rep_per {q : List Nat} {s : Nat} (hs : 0 < s) (hsq : s ≤ q.length) : ((List.replicate (q.length / s) (q.take s)).flatten = q) ↔ (Per q s ∧ q.length % s = 0) := by
  have tl := take_len hsq
  constructor
  · intro e
    have el : q.length / s * s = q.length := by
      have z := congrArg List.length e
      rw [rep_len, tl] at z
      exact z
    have em : q.length % s = 0 := by
      have z := Nat.mod_add_div q.length s
      rw [Nat.mul_comm] at z
      omega
    refine ⟨?_, em⟩
    have at_ : ∀ i, g q i = g (q.take s) i := fun i => by
      have hq : 0 < q.length := by omega
      have hi := Nat.mod_lt i hq
      have z : q.getD (i % q.length) 0 = g (q.take s) (i % q.length) := by
        have y := rep_get (l := q.take s) (k := q.length / s) (i := i % q.length) (by rw [tl, el]; exact hi)
        rw [e] at y
        exact y
      show q.getD (i % q.length) 0 = _
      rw [z]
      unfold g
      rw [tl, Nat.mod_mod_of_dvd _ (Nat.dvd_of_mod_eq_zero em)]
    intro i
    have z := g_add (q.take s) i
    rw [tl] at z
    rw [at_, at_, z]
  · rintro ⟨p, em⟩
    have el : q.length / s * s = q.length := by
      have z := Nat.mod_add_div q.length s
      rw [Nat.mul_comm] at z
      omega
    refine ext_getD (by rw [rep_len, tl, el]) fun i hi => ?_
    rw [rep_len, tl, el] at hi
    rw [rep_get (by rw [tl, el]; exact hi)]
    have hlt := Nat.mod_lt i hs
    have e : i % s + i / s * s = i := by rw [Nat.mul_comm]; exact Nat.mod_add_div i s
    have z := p.mul (i / s) (i % s)
    rw [e, g_lt hi, g_lt (by omega)] at z
    unfold g
    rw [tl, getD_take hlt, z]
/-! ### turning the period -/
theorem g_rot {q : List Nat} {c : Nat} (hc : c ≤ q.length) (i : Nat) : g (q.drop c ++ q.take c) i = g q (i + c) := by
  have hl : (q.drop c ++ q.take c).length = q.length := by rw [List.length_append, List.length_drop, List.length_take]; omega
  by_cases hq : q.length = 0
  · have e : q = [] := List.length_eq_zero_iff.mp hq
    subst e
    simp [g]
  · have hi := Nat.mod_lt i (show 0 < q.length by omega)
    show (q.drop c ++ q.take c).getD (i % (q.drop c ++ q.take c).length) 0 = q.getD ((i + c) % q.length) 0
    rw [hl, ← Nat.mod_add_mod]
    generalize i % q.length = j at hi
    by_cases h : j < q.length - c
    · rw [getD_app (by rw [List.length_drop]; exact h), getD_drop, Nat.add_comm c j, Nat.mod_eq_of_lt (by omega)]
    · rw [getD_app2 (by rw [List.length_drop]; omega), List.length_drop, getD_take (by omega), Nat.mod_eq_sub_mod (by omega), Nat.mod_eq_of_lt (by omega)]
      congr 1
      omega
/-- one digit less in the head: the last of the head goes to the front of the period -/
theorem ev_less (l r : List Nat) (c : Nat) : ∀ i, ev l (c :: r) i = ev (l ++ [c]) (r ++ [c]) i := fun i => by
  have hl : (l ++ [c]).length = l.length + 1 := by simp
  have rot : ∀ j, g (r ++ [c]) j = g (c :: r) (j + 1) := fun j => g_rot (q := c :: r) (c := 1) (by simp) j
  rcases Nat.lt_trichotomy i l.length with h | h | h
  · rw [ev_lt h, ev_lt (by omega), getD_app h]
  · rw [ev_ge (by omega), ev_lt (by omega), getD_app2 (by omega), h, Nat.sub_self]
    unfold g
    rw [Nat.zero_mod]
    rfl
  · rw [ev_ge (by omega), ev_ge (by omega), rot, hl]
    congr 1
    omega
/-- the trimmed head and the turned period, t digits less -/
def trimH (h : List Nat) (t : Nat) : List Nat := h.take (h.length - t)
def turnQ (q : List Nat) (t : Nat) : List Nat := q.drop (q.length - t % q.length) ++ q.take (q.length - t % q.length)
theorem trimH_len {h : List Nat} {t : Nat} : (trimH h t).length = h.length - t := by unfold trimH; rw [List.length_take]; omega
theorem turnQ_len {q : List Nat} {t : Nat} : (turnQ q t).length = q.length := by unfold turnQ; rw [List.length_append, List.length_drop, List.length_take]; omega
theorem turn_g {q : List Nat} {t : Nat} (i : Nat) : g (turnQ q t) i = g q (i + (q.length - t % q.length)) := g_rot (Nat.sub_le _ _) i
/-- the digits that were taken off agree -/
def Agree (h q : List Nat) (t : Nat) : Prop := t ≤ h.length ∧ ∀ j, j < t → h.getD (h.length - 1 - j) 0 = q.getD (q.length - 1 - j % q.length) 0
theorem trim_ev {h q : List Nat} {t : Nat} (hq : 0 < q.length) (a : Agree h q t) (i : Nat) : ev (trimH h t) (turnQ q t) i = ev h q i := by
  obtain ⟨ht, ha⟩ := a
  by_cases h1 : i < h.length - t
  · rw [ev_lt (by rw [trimH_len]; exact h1), ev_lt (by omega)]
    exact getD_take h1
  · rw [ev_ge (by rw [trimH_len]; omega), trimH_len, turn_g]
    have hr := Nat.mod_lt t hq
    have et : t = t / q.length * q.length + t % q.length := by rw [Nat.mul_comm]; exact (Nat.div_add_mod t q.length).symm
    by_cases h2 : i < h.length
    · rw [ev_lt h2]
      have z := ha (h.length - 1 - i) (by omega)
      rw [show h.length - 1 - (h.length - 1 - i) = i by omega] at z
      rw [z]
      have hj := Nat.mod_lt (h.length - 1 - i) hq
      have ej : h.length - 1 - i = (h.length - 1 - i) / q.length * q.length + (h.length - 1 - i) % q.length := by rw [Nat.mul_comm]; exact (Nat.div_add_mod _ q.length).symm
      rw [← g_lt (show q.length - 1 - (h.length - 1 - i) % q.length < q.length by omega)]
      have m2 := g_mul q (q.length - 1 - (h.length - 1 - i) % q.length) (t / q.length - (h.length - 1 - i) / q.length)
      have le : (h.length - 1 - i) / q.length ≤ t / q.length := Nat.div_le_div_right (by omega)
      rw [Nat.sub_mul] at m2
      have le2 : (h.length - 1 - i) / q.length * q.length ≤ t / q.length * q.length := Nat.mul_le_mul_right _ le
      generalize t / q.length * q.length = T at *
      generalize (h.length - 1 - i) / q.length * q.length = J at *
      rw [← m2]
      congr 1
      omega
    · rw [ev_ge (by omega)]
      have m1 := g_mul q (i - (h.length - t) + (q.length - t % q.length)) (t / q.length)
      have m2 := g_mul q (i - h.length) (t / q.length + 1 + 0)
      have m3 : (t / q.length + 1 + 0) * q.length = t / q.length * q.length + q.length := by rw [Nat.add_zero, Nat.succ_mul]
      rw [m3] at m2
      generalize t / q.length * q.length = T at *
      have m4 := g_add q (i - h.length + T)
      have m5 : g q (i - (h.length - t) + (q.length - t % q.length)) = g q (i - h.length + (t + (q.length - t % q.length))) := by congr 1; omega
      rw [m5, show t + (q.length - t % q.length) = T + q.length by omega]
      exact m2
/-- the end of the trimming: a normal form -/
theorem trim_nf {h q : List Nat} {t : Nat} {f : Nat → Nat} (hf : ∀ i, ev h q i = f i) (hq : 0 < q.length) (a : Agree h q t) (stop : t < h.length → h.getD (h.length - 1 - t) 0 ≠ q.getD (q.length - 1 - t % q.length) 0)
    (prim : ∀ s m, 0 < s → s < q.length → ¬ ∀ i, m ≤ i → f (i + s) = f i) : Nf f (trimH h t) (turnQ q t) := by
  refine ⟨by rw [turnQ_len]; exact hq, fun i => (trim_ev hq a i).trans (hf i), by rw [turnQ_len]; exact prim, fun h0 => ?_⟩
  rw [trimH_len] at h0 ⊢
  rw [turnQ_len]
  have ht : t < h.length := by omega
  have e1 : f (h.length - t - 1) = h.getD (h.length - 1 - t) 0 := by
    rw [← hf, ev_lt (by omega)]
    congr 1
    omega
  have e2 : f (h.length - t - 1 + q.length) = q.getD (q.length - 1 - t % q.length) 0 := by
    have hr := Nat.mod_lt t hq
    rw [← hf, ← trim_ev hq a, ev_ge (by rw [trimH_len]; omega), trimH_len, turn_g]
    have z := g_add q (q.length - 1 - t % q.length)
    have y : g q (q.length - 1 - t % q.length) = q.getD (q.length - 1 - t % q.length) 0 := g_lt (by omega)
    rw [← y, ← z]
    congr 1
    omega
  rw [e1, e2]
  exact fun z => stop ht z.symm
/-- the same for the word that is taken off digit by digit -/
theorem last_nf {l r : List Nat} {f : Nat → Nat} (hf : ∀ i, ev l r i = f i) (hr : 0 < r.length) (prim : ∀ s m, 0 < s → s < r.length → ¬ ∀ i, m ≤ i → f (i + s) = f i)
    (stop : 0 < l.length → l.getD (l.length - 1) 0 ≠ r.getD (r.length - 1) 0) : Nf f l r := by
  refine ⟨hr, hf, prim, fun h0 => ?_⟩
  rw [← hf, ← hf, ev_lt (show l.length - 1 < l.length by omega), ev_ge (show l.length ≤ l.length - 1 + r.length by omega), show l.length - 1 + r.length - l.length = r.length - 1 by omega, g_lt (show r.length - 1 < r.length by omega)]
  exact fun z => stop h0 z.symm
/-! ### beginnings -/
def beg (h q : List Nat) (k many : Nat) : List Nat := (h ++ (List.replicate k q).flatten).take many
theorem beg_get {h q : List Nat} {k many i : Nat} (hk : many ≤ h.length + k * q.length) (hi : i < many) : (beg h q k many).getD i 0 = ev h q i := by
  unfold beg
  rw [getD_take hi]
  by_cases h1 : i < h.length
  · rw [getD_app h1, ev_lt h1]
  · rw [getD_app2 (by omega), ev_ge (by omega), rep_get (by omega)]
theorem beg_len {h q : List Nat} {k many : Nat} (hk : many ≤ h.length + k * q.length) : (beg h q k many).length = many := by
  unfold beg
  rw [List.length_take, List.length_append, rep_len]
  omega
theorem beg_eq {h q h' q' : List Nat} {k k' many : Nat} (hk : many ≤ h.length + k * q.length) (hk' : many ≤ h'.length + k' * q'.length) :
    beg h q k many = beg h' q' k' many ↔ ∀ i, i < many → ev h q i = ev h' q' i := by
  constructor
  · intro e i hi
    rw [← beg_get hk hi, ← beg_get hk' hi, e]
  · intro e
    refine ext_getD (by rw [beg_len hk, beg_len hk']) fun i hi => ?_
    rw [beg_len hk] at hi
    rw [beg_get hk hi, beg_get hk' hi, e i hi]
theorem ev_per {h q : List Nat} {i k : Nat} (hi : h.length ≤ i) : ev h q (i + k * q.length) = ev h q i := by
  rw [ev_ge hi, ev_ge (by omega), show i + k * q.length - h.length = i - h.length + k * q.length by omega, g_mul]
/-- what agrees long enough agrees for ever -/
theorem ev_all {h q h' q' : List Nat} {many : Nat} (hm : h.length ≤ many) (hm' : h'.length ≤ many) (hq : 0 < q.length) (hq' : 0 < q'.length) (e : ∀ i, i < many + q.length * q'.length → ev h q i = ev h' q' i) (i : Nat) : ev h q i = ev h' q' i := by
  by_cases hi : i < many
  · exact e i (by omega)
  · have hp : 0 < q.length * q'.length := Nat.mul_pos hq hq'
    have hlt := Nat.mod_lt (i - many) hp
    have ei : many + (i - many) % (q.length * q'.length) + (i - many) / (q.length * q'.length) * (q.length * q'.length) = i := by
      have z := Nat.div_add_mod (i - many) (q.length * q'.length)
      rw [Nat.mul_comm] at z
      omega
    have a1 := ev_per (h := h) (q := q) (i := many + (i - many) % (q.length * q'.length)) (k := (i - many) / (q.length * q'.length) * q'.length) (by omega)
    have a2 := ev_per (h := h') (q := q') (i := many + (i - many) % (q.length * q'.length)) (k := (i - many) / (q.length * q'.length) * q.length) (by omega)
    rw [Nat.mul_assoc, Nat.mul_comm q'.length, ei] at a1
    rw [Nat.mul_assoc, ei] at a2
    rw [a1, a2]
    exact e _ (by omega)
/-- the period told several times over -/
theorem ev_rep {h q : List Nat} {k : Nat} (hk : 0 < k) (i : Nat) : ev h ((List.replicate k q).flatten) i = ev h q i := by
  by_cases h1 : i < h.length
  · rw [ev_lt h1, ev_lt h1]
  · rw [ev_ge (by omega), ev_ge (by omega)]
    generalize i - h.length = j
    by_cases hq : q.length = 0
    · have e : q = [] := List.length_eq_zero_iff.mp hq
      subst e
      simp
    · show ((List.replicate k q).flatten).getD (j % ((List.replicate k q).flatten).length) 0 = _
      rw [rep_len, rep_get (Nat.mod_lt _ (Nat.mul_pos hk (by omega)))]
      unfold g
      rw [Nat.mod_mod_of_dvd _ (Nat.dvd_mul_left _ _)]
/-! ### the normal form that the law finds, and that of the program: one and the same -/
/-- the shorter period told by the least one -/
theorem short_nf {h q : List Nat} {s : Nat} (a : Least q s) (hq : 0 < q.length) (i : Nat) : ev h (q.take s) i = ev h q i := by
  by_cases h1 : i < h.length
  · rw [ev_lt h1, ev_lt h1]
  · rw [ev_ge (by omega), ev_ge (by omega), a.g hq]
end Vm


set_option Elab.async false
set_option maxRecDepth 100000
set_option maxHeartbeats 4000000
set_option exponentiation.threshold 3000
namespace Vf
open PySem L2 SX Vm
theorem find_least {q : List Nat} (hq : 0 < q.length) : ∃ s : Nat, Txt.find3 (S (q ++ q)) (S q) 1 = (s : Int) ∧ Least q s := by
  have e1 : PySem.fromIndex (S (q ++ q)).length 1 = 1 := by
    rw [S_len, List.length_append]
    unfold PySem.fromIndex
    rw [if_neg (by decide)]
    rfl
  have key : ∀ i, 1 ≤ i → (PySem.StrLaws.At (S (q ++ q)) (S q) (S (q ++ q)).length i ↔ i ≤ q.length ∧ Per q i) := fun i hi => by
    unfold PySem.StrLaws.At
    rw [PySem.StrLaws.subAt_eq, S_len, S_len, List.length_append]
    constructor
    · rintro ⟨h1, h2⟩
      have h : i ≤ q.length := by omega
      exact ⟨h, (find_per h hq).mp (beq_iff_eq.mp h2)⟩
    · rintro ⟨h1, h2⟩
      exact ⟨by omega, beq_iff_eq.mpr ((find_per h1 hq).mpr h2)⟩
  rcases PySem.StrLaws.occ_head_from (S (q ++ q)) (S q) 1 1 (Nat.le_refl 1) with ⟨_, hn⟩ | ⟨k, r, h0, hlo, hk, hn⟩
  · exact absurd ((key q.length hq).mpr ⟨Nat.le_refl _, per_len q⟩) (hn q.length hq)
  · refine ⟨k, ?_, hlo, ((key k hlo).mp hk).2, fun t h1 h2 p => hn t h1 h2 ((key t h1).mpr ⟨?_, p⟩)⟩
    · unfold Txt.find3
      rw [e1, h0]
    · have := ((key k hlo).mp hk).1
      omega
theorem cut_take {q : List Nat} {s : Nat} (h : s ≤ q.length) : cutS (S q) none (some (s : Int)) = S (q.take s) := by
  unfold cutS
  rw [S_len, HT.sIx_none, HT.sIx_nat, Nat.min_eq_left h]
  rfl
theorem cut_drop {q : List Nat} {s : Nat} (h : s ≤ q.length) : cutS (S q) (some (s : Int)) none = S (q.drop s) := by
  unfold cutS
  rw [S_len, HT.sIx_none, HT.sIx_nat, Nat.min_eq_left h]
  congr 2
  rw [List.take_of_length_le]
  rw [List.length_drop]
  exact Nat.le_refl _
/-- the shorter period -/
def spShort : Sp := fun vs H Q _ => ∃ q : List Nat, vs = [.str (S q)] ∧ 0 < q.length ∧ q.length ≤ 1000 ∧ ∀ s, Least q s → s ≤ q.length → Q (.str (S (q.take s))) H
section
variable {P : Program} {w : World} {K : PySem.W.Frag} {mg : Str → Option Value} {base : Heap}
theorem scShort : FnScope ["period"] ["period"] (defScope sShortest) := ⟨rfl, rfl, rfl, by decide +kernel, rfl, by decide +kernel, by decide +kernel⟩
theorem ok_short {f : Addr} {fd : FuncData} (F : Fun K "shortest_period" "shortest_period" sShortest f fd) : FnOk P w K mg base CX0 1 f fd ["period"] spShort := by
  refine F.ok scShort (fun vs H Q E h => ?_) (fun cdv A outer s H vs Q E hr h => ?_)
  · obtain ⟨q, rfl, _⟩ := h
    rfl
  · obtain ⟨q, rfl, h0, h1, k⟩ := h
    refine ⟨_, pss_one (ps_ret (pe_slice sl_str (pv 0) po_none (po_some (pe_bm PySem.F.plainAttrs_str PySem.F.slot_str_find PySem.F.type_str_find mt_find3 (pe_op op_add_str (pv 0) (pv 0)) (pa_cons (pv 0) (pa_cons pe_int pa_nil)))))), ?_⟩
    obtain ⟨s0, e, l⟩ := find_least h0
    have hle := l.le h0
    have len1 : (S q).length + (S q).length ≤ sizeLine := by rw [S_len]; exact Nat.le_trans (show q.length + q.length ≤ 2000 by omega) (by decide)
    have len2 : (S q).length ≤ sizeLine := Nat.le_trans (Nat.le_add_right _ _) len1
    refine ⟨_, rfl, _, rfl, _, rfl, _, _, rfl, rfl, len1, rfl, _, rfl, _, _, _, rfl, rfl, _, rfl, _, rfl, len2, ?_⟩
    show Q (.str (cutS (S q) none (some (Txt.find3 (S q ++ S q) (S q) 1)))) H
    rw [S_cat, e, cut_take hle]
    exact k s0 l hle
end
end Vf


set_option Elab.async false
set_option maxRecDepth 100000
set_option maxHeartbeats 4000000
set_option exponentiation.threshold 3000
namespace Vf
open PySem L2 SX Vm
theorem at_back {l : List Nat} {i : Int} {t : Nat} (ht : t < l.length) (hi : i = -1 - (t : Int)) : atI l i = some (l.getD (l.length - 1 - t) 0) := by
  unfold atI ixN
  rw [if_neg (by omega), if_pos (by omega)]
  show l[(i + (l.length : Int)).toNat]? = _
  rw [show (i + (l.length : Int)).toNat = l.length - 1 - t by omega, List.getD_eq_getElem?_getD, List.getElem?_eq_getElem (by omega)]
  rfl
theorem one_eq {a b : Nat} : (V.str ⟨#[a]⟩ = V.str ⟨#[b]⟩) ↔ a = b := by
  constructor
  · intro h
    have h1 := V.str.inj h
    have h2 := congrArg (fun s : Str => s.cps.toList) h1
    exact (List.cons.inj h2).1
  · intro h
    rw [h]
theorem emod_nat {t s : Nat} : ((t : Int) % (s : Int)) = ((t % s : Nat) : Int) := by omega
/-- from a row of digits to what lies in a row of digits -/
def Sub (m l : List Nat) : Prop := ∀ c ∈ m, c ∈ l
theorem sub_trimH {h : List Nat} {t : Nat} : Sub (trimH h t) h := fun _ hc => List.mem_of_mem_take hc
theorem sub_turnQ {q : List Nat} {t : Nat} : Sub (turnQ q t) q := fun c hc => by
  rcases List.mem_append.mp hc with h | h
  · exact List.mem_of_mem_drop h
  · exact List.mem_of_mem_take h
theorem cut_len (l : List Nat) (a b : Option Int) : (cutS (S l) a b).length ≤ l.length := by
  unfold cutS
  rw [S_len, List.length_take, List.length_drop]
  exact Nat.le_trans (Nat.min_le_right _ _) (Nat.sub_le _ _)
theorem fin_len {a b : Option Int} {q : List Nat} (hq : q.length ≤ 1000) : (cutS (S q) a none).length + (cutS (S q) none b).length ≤ sizeLine := by
  have h1 := cut_len q a none
  have h2 := cut_len q none b
  exact Nat.le_trans (show _ ≤ 2000 by omega) (by decide)
theorem val_head {h : List Nat} {t : Nat} (ht : t ≤ h.length) : cutS (S h) none (some (((S h).length : Int) - (t : Int))) = S (trimH h t) := by
  rw [S_len, show ((h.length : Int) - (t : Int)) = ((h.length - t : Nat) : Int) by omega, cut_take (Nat.sub_le _ _)]
  rfl
theorem val_per {q : List Nat} {t s : Nat} (hs : q.length = s) (h0 : 0 < s) :
    cutS (S q) (some ((s : Int) - (t : Int) % (s : Int))) none ++ cutS (S q) none (some ((s : Int) - (t : Int) % (s : Int))) = S (turnQ q t) := by
  have hm := Nat.mod_lt t h0
  rw [show ((s : Int) - (t : Int) % (s : Int)) = ((q.length - t % q.length : Nat) : Int) by rw [emod_nat, hs]; omega, cut_drop (Nat.sub_le _ _), cut_take (Nat.sub_le _ _), S_cat]
  rfl
def spNormal : Sp := fun vs H Q _ => ∃ (r : V) (h q : List Nat), vs = [r, .str (S h), .str (S q)] ∧ 0 < q.length ∧ q.length ≤ 1000 ∧ h.length ≤ 1000 ∧
  ∀ (h' q' : List Nat) (p : Addr), Nf (ev h q) h' q' → h'.length ≤ h.length → q'.length ≤ q.length → Sub h' h → Sub q' q → H p = none → Q (.ref p) (upd H p (.tup [r, .str (S h'), .str (S q')]))
theorem small_len {l : List Nat} (h : l.length ≤ 1000) : (S l).length ≤ sizeLine := by rw [S_len]; exact Nat.le_trans h (by decide)
theorem small_lenG {l : List Nat} (h : l.length ≤ 9000) : (S l).length ≤ sizeLine := by rw [S_len]; exact Nat.le_trans h (by decide)
section
variable {P : Program} {w : World} {K : PySem.W.Frag} {mg : Str → Option Value} {base : Heap}
theorem scNormal : FnScope ["root", "head", "period", "size", "turned", "cut"] ["root", "head", "period"] (defScope sNormal) := ⟨rfl, rfl, rfl, by decide +kernel, rfl, by decide +kernel, by decide +kernel⟩
theorem ok_normal {f fS : Addr} {fd fdS : FuncData} (F : Fun K "normal_stream" "normal_stream" sNormal f fd) (GS : FnOk P w K mg base CX0 1 fS fdS ["period"] spShort) (cS : Cal K mg "shortest_period" fS fdS ["period"]) (ml : mg "len" = none) :
    FnOk P w K mg base CX0 2 f fd ["root", "head", "period"] spNormal := by
  refine F.ok scNormal (fun vs H Q E h => ?_) (fun cdv A outer s H vs Q E hr h => ?_)
  · obtain ⟨r, h, q, rfl, _⟩ := h
    rfl
  · obtain ⟨r, h, q0, rfl, h0, h1, h2, k⟩ := h
    have nd := scNormal.nd
    refine ⟨_, pss_cons (ps_set (i := 2) nd rfl (.inl rfl) (pe_call GS hr rfl cS.mg cS.kp cS.b .nil pass0 (pa_cons (pv 2) pa_nil)))
      (pss_cons (ps_set (i := 3) nd rfl (.inl rfl) (pe_callB call_len_str (by rfl) ml boot_len (pa_cons (pv 2) pa_nil)))
      (pss_cons (ps_set (i := 4) nd rfl (.inl rfl) pe_int)
      (pss_cons (ps_while PassesOwn.never ((pw_and (pt_cmpR op_lt (pv 4) (pe_callB call_len_str (by rfl) ml boot_len (pa_cons (pv 1) pa_nil)) (nomark _))
          (pw_and1 (pt_cmpR op_eq (pe_ix ix_str (pv 1) (pe_op op_sub (pe_un un_neg pe_int) (pv 4)) (fun _ _ => rfl)) (pe_ix ix_str (pv 2) (pe_op op_sub (pe_un un_neg pe_int) (pe_op op_mod (pv 4) (pv 3))) (fun _ _ => rfl)) (nomark _)))).pt)
        (pss_one (ps_aug (i := 4) nd rfl (.inl rfl) pe_int ip_add)))
      (pss_cons (ps_set (i := 5) nd rfl (.inl rfl) (pe_op op_sub (pv 3) (pe_op op_mod (pv 4) (pv 3))))
      (pss_one (ps_ret (pe_tup (pa_cons (pv 0) (pa_cons (pe_slice sl_str (pv 1) po_none (po_some (pe_op op_sub (pe_callB call_len_str (by rfl) ml boot_len (pa_cons (pv 1) pa_nil)) (pv 4))))
        (pa_cons (pe_op op_add_str (pe_slice sl_str (pv 2) (po_some (pv 5)) po_none) (pe_slice sl_str (pv 2) po_none (po_some (pv 5)))) pa_nil)))))))))), ?_⟩
    obtain ⟨s0, e, l⟩ := find_least h0
    have hle := l.le h0
    refine ⟨_, rfl, q0, rfl, h0, h1, fun s0 l hle => ?_⟩
    have sl : (q0.take s0).length = s0 := take_len hle
    refine ⟨_, rfl, _, rfl, small_len (by omega), ?_⟩
    refine ⟨fun m σ H2 => ∃ t : Nat, m = h.length - t ∧ σ = [some r, some (.str (S h)), some (.str (S (q0.take s0))), some (.int (s0 : Int)), some (.int (t : Int)), none] ∧ H2 = H ∧ Agree h (q0.take s0) t, ⟨h.length, 0, rfl, ?_, rfl, Nat.zero_le _, fun j hj => absurd hj (Nat.not_lt_zero _)⟩, ?_⟩
    · rw [S_len, sl]
      rfl
    · rintro m σ H2 ⟨t, rfl, rfl, rfl, ag⟩
      refine ⟨_, rfl, _, rfl, _, rfl, small_len h2, _, _, rfl, rfl, _, rfl, ?_⟩
      have sp : 0 < s0 := l.pos
      have hm := Nat.mod_lt t sp
      have fin : ¬ (t < h.length ∧ h.getD (h.length - 1 - t) 0 = (q0.take s0).getD (s0 - 1 - t % s0) 0) → Nf (ev h q0) (trimH h t) (turnQ (q0.take s0) t) := fun st => by
        refine trim_nf (fun i => short_nf l h0 i) (by omega) ag (fun ht => ?_) (by rw [sl]; exact fun a m x y => l.prim h0 a m x y)
        rw [sl]
        exact fun z => st ⟨ht, z⟩
      have done : Nf (ev h q0) (trimH h t) (turnQ (q0.take s0) t) → ∀ p, H2 p = none → Q (.ref p) (upd H2 p (.tup [r, .str (S (trimH h t)), .str (S (turnQ (q0.take s0) t))])) := fun nf p hp =>
        k _ _ p nf (by rw [trimH_len]; omega) (by rw [turnQ_len, sl]; exact hle) sub_trimH (fun c hc => List.mem_of_mem_take (sub_turnQ c hc)) hp
      have lq : (S (q0.take s0)).length ≤ sizeLine := small_len (by omega)
      have lh : (S h).length ≤ sizeLine := small_len h2
      have ps0 : (0 : Int) < (s0 : Int) := by omega
      refine ite2 (fun c => ?_) (fun c => ?_)
      · have c' : (t : Int) < ((S h).length : Int) := of_decide_eq_true c
        have ht : t < h.length := by rw [S_len] at c'; omega
        refine ⟨_, rfl, _, rfl, _, rfl, _, _, rfl, rfl, _, _, _, rfl, rfl, lh, at_back ht (by show -1 - (t : Int) = _; rfl), ?_⟩
        refine ⟨_, rfl, _, rfl, _, rfl, _, rfl, _, _, rfl, rfl, ps0, _, _, rfl, rfl, _, _, _, rfl, rfl, lq, at_back (t := t % s0) (by rw [sl]; exact hm) (by rw [← emod_nat]), ?_⟩
        refine ⟨rfl, _, rfl, ?_⟩
        refine ite2 (fun c => ?_) (fun c => ?_)
        · have e1 := one_eq.mp (of_decide_eq_true c)
          refine ⟨fun σ' H' => ∃ m', m' < h.length - t ∧ _, fun σ' H' z => z, _, rfl, _, _, rfl, rfl, h.length - (t + 1), by omega, t + 1, rfl, rfl, rfl, ?_⟩
          refine ⟨ht, fun j hj => ?_⟩
          rcases Nat.lt_or_ge j t with hlt | hge
          · exact ag.2 j hlt
          · have ej : j = t := by omega
            rw [ej, e1]
            rw [sl]
        · have nf := fin (fun z => c (decide_eq_true (one_eq.mpr (by rw [z.2, sl]))))
          refine ⟨_, rfl, _, rfl, _, rfl, _, _, rfl, rfl, ps0, _, _, rfl, rfl, _, rfl, _, rfl, _, rfl, _, rfl, lh, _, rfl, _, _, rfl, rfl, _, rfl, _, rfl, lh, _, rfl, _, rfl, _, rfl, _, rfl, lq, _, rfl, _, rfl, _, rfl, _, rfl, lq, _, _, rfl, rfl, ?_, (by show 3 ≤ sizeLine; decide), fun p hp => ?_⟩
          · exact fin_len (by omega)
          · have e1 := val_head ag.1
            have e2 := val_per (t := t) sl sp
            show Q (.ref p) (upd H2 p (.tup [r, .str (cutS (S h) none (some (((S h).length : Int) - (t : Int)))), .str (cutS (S (q0.take s0)) (some ((s0 : Int) - (t : Int) % (s0 : Int))) none ++ cutS (S (q0.take s0)) none (some ((s0 : Int) - (t : Int) % (s0 : Int))))]))
            rw [e1, e2]
            exact done nf p hp
      · have nf := fin (fun z => c (decide_eq_true (by rw [S_len]; omega)))
        refine ⟨_, rfl, _, rfl, _, rfl, _, _, rfl, rfl, ps0, _, _, rfl, rfl, _, rfl, _, rfl, _, rfl, _, rfl, lh, _, rfl, _, _, rfl, rfl, _, rfl, _, rfl, lh, _, rfl, _, rfl, _, rfl, _, rfl, lq, _, rfl, _, rfl, _, rfl, _, rfl, lq, _, _, rfl, rfl, ?_, (by show 3 ≤ sizeLine; decide), fun p hp => ?_⟩
        · exact fin_len (by omega)
        · have e1 := val_head ag.1
          have e2 := val_per (t := t) sl sp
          show Q (.ref p) (upd H2 p (.tup [r, .str (cutS (S h) none (some (((S h).length : Int) - (t : Int)))), .str (cutS (S (q0.take s0)) (some ((s0 : Int) - (t : Int) % (s0 : Int))) none ++ cutS (S (q0.take s0)) none (some ((s0 : Int) - (t : Int) % (s0 : Int))))]))
          rw [e1, e2]
          exact done nf p hp
end
end Vf


set_option Elab.async false
set_option maxRecDepth 100000
set_option maxHeartbeats 4000000
set_option exponentiation.threshold 3000
namespace Vf
open PySem L2 SX Vm
section
variable {X : Cx}
theorem fold_flat (l : List Nat) : ∀ (k : Nat) (acc : Array Nat), ((List.replicate k l.toArray).foldl (· ++ ·) acc) = acc ++ ((List.replicate k l).flatten).toArray
  | 0, acc => by simp
  | k + 1, acc => by
    rw [List.replicate_succ, List.foldl_cons, fold_flat l k, List.replicate_succ, List.flatten_cons]
    simp
/-- a text times a number -/
def rMulS : R2 := fun x y H Q => ∃ (l : List Nat) (k : Nat), x = .str (S l) ∧ y = .int (k : Int) ∧ k ≤ 100000 ∧ l.length ≤ 100000 ∧ k * l.length ≤ 1000000 ∧ Q (.str (S ((List.replicate k l).flatten))) H
theorem op_mul_str : OpR X (binaryOp .Mult) rMulS := by
  intro pins s σ H x y v u Q I rx ry h
  obtain ⟨l, k, rfl, rfl, h1, h2, h3, q⟩ := h
  obtain ⟨t, rfl⟩ := rx
  obtain ⟨t', rfl⟩ := ry
  refine PySem.P.mul_str ?_ (fun a b => ?_) (fun a b => ?_) ?_
  · rw [decide_eq_false (show ¬ ((k : Int) < -(2 ^ 63 : Int)) by omega), decide_eq_false (show ¬ ((k : Int) ≥ 2 ^ 63) by omega)]
    rfl
  · rw [S_len]
    have hk : (0 : Int) < (k : Int) := by omega
    have : (l.length : Int) ≤ (2 ^ 63 - 1) / (k : Int) := by
      rw [Int.le_ediv_iff_mul_le hk]
      have e : ((l.length : Int) * (k : Int)) = ((k * l.length : Nat) : Int) := by rw [Int.natCast_mul, Int.mul_comm]
      rw [e]
      omega
    omega
  · rw [S_len, Int.toNat_natCast, Nat.mul_comm]
    have : k * l.length ≤ sizeLine := Nat.le_trans h3 (by decide)
    unfold Builtin.Str.tooLong
    exact decide_eq_false (by omega)
  · have hlen : ((List.replicate k l).flatten).length ≤ sizeLine := by rw [rep_len]; exact Nat.le_trans h3 (by decide)
    by_cases c1 : (k : Int) < 1
    · have e : k = 0 := by omega
      subst e
      rw [if_pos c1]
      exact ⟨by decide, .str _, H, I.tok _, ⟨_, rfl⟩, q⟩
    · rw [if_neg c1]
      by_cases c2 : ((k : Int) == 1 || (S l).length == 0) = true
      · rw [if_pos c2]
        have e : (List.replicate k l).flatten = l := by
          rw [Bool.or_eq_true, beq_iff_eq, beq_iff_eq, S_len] at c2
          rcases c2 with c | c
          · have e : k = 1 := by omega
            subst e
            simp
          · have e : l = [] := List.length_eq_zero_iff.mp c
            subst e
            simp
        rw [e] at q
        exact ⟨.str _, H, I, ⟨_, rfl⟩, q⟩
      · rw [if_neg c2, Int.toNat_natCast]
        have e : (⟨(List.replicate k (S l).cps).foldl (· ++ ·) #[]⟩ : Str) = S ((List.replicate k l).flatten) := by
          have z := fold_flat l k #[]
          show Str.mk _ = Str.mk _
          rw [z]
          simp
        rw [e]
        exact ⟨by rw [S_len]; exact hlen, .str _, H, I.tok _, ⟨_, rfl⟩, q⟩
end
/-- the first one that passes -/
theorem filter_head {p : Nat → Bool} {s : Nat} (hp : p s = true) : ∀ n a, a ≤ s → s < a + n → (∀ t, a ≤ t → t < s → p t = false) → ((List.range' a n).filter p)[0]? = some s
  | 0, a, h1, h2, _ => absurd h2 (by omega)
  | n + 1, a, h1, h2, h3 => by
    rw [List.range'_succ]
    by_cases e : a = s
    · subst e
      rw [List.filter_cons_of_pos hp]
      rfl
    · rw [List.filter_cons_of_neg (by rw [h3 a (Nat.le_refl _) (by omega)]; exact Bool.false_ne_true)]
      exact filter_head hp n (a + 1) (by omega) (by omega) fun t h4 h5 => h3 t (by omega) h5
def okB (q : List Nat) (m : Nat) : Bool := decide ((List.replicate (q.length / m) (q.take m)).flatten = q)
theorem first_size {q : List Nat} {s : Nat} (h0 : 0 < q.length) (l : Least q s) : ((List.range' 1 q.length).filter (okB q))[0]? = some s := by
  have hle := l.le h0
  have hp := l.pos
  refine filter_head (decide_eq_true ((rep_per hp hle).mpr ⟨l.per, l.dvd (per_len q)⟩)) _ _ hp (by omega) fun t h1 h2 => decide_eq_false fun z => ?_
  exact l.min t h1 h2 ((rep_per h1 (by omega)).mp z).1
theorem filter_snoc {p : Nat → Bool} {i : Nat} : (List.range' 1 (i + 1)).filter p = (List.range' 1 i).filter p ++ (if p (1 + i) = true then [1 + i] else []) := by
  rw [List.range'_concat, List.filter_append, Nat.one_mul]
  congr 1
  by_cases h : p (1 + i) = true
  · rw [if_pos h, List.filter_cons_of_pos h]
    rfl
  · rw [if_neg h, List.filter_cons_of_neg h]
    rfl
theorem str_ne_empty {l : List Nat} : (V.str (S l) = V.str ("" : Str)) ↔ l = [] := by
  rw [str_empty]
  constructor
  · intro h
    exact S_inj (V.str.inj h)
  · intro h
    rw [h]
theorem str_eq {l m : List Nat} : (V.str (S l) = V.str (S m)) ↔ l = m := ⟨fun h => S_inj (V.str.inj h), fun h => by rw [h]⟩
theorem cut_last (l : List Nat) (c : Nat) : cutS (S (l ++ [c])) none (some (-1)) = S l := by
  unfold cutS
  rw [S_len, HT.sIx_none, List.length_append]
  have e : HT.sIx (l.length + [c].length) (l.length + [c].length) (some (-1)) = l.length := by
    show (if (-1 : Int) < 0 then ((-1 : Int) + ((l.length + 1 : Nat) : Int)).toNat else min (-1 : Int).toNat (l.length + 1)) = l.length
    rw [if_pos (by decide)]
    omega
  rw [e]
  show S ((List.drop 0 (l ++ [c])).take (l.length - 0)) = S l
  rw [List.drop_zero, Nat.sub_zero, List.take_left']
  rfl
theorem last_at (l : List Nat) (c : Nat) : atI (S (l ++ [c])).cps.toList (-1) = some c := by
  have z := at_back (l := l ++ [c]) (i := -1) (t := 0) (by simp) (by decide)
  have e : (l ++ [c]).getD ((l ++ [c]).length - 1 - 0) 0 = c := by
    rw [List.getD_eq_getElem?_getD]
    simp
  rw [e] at z
  exact z
theorem last_getD (l : List Nat) (c : Nat) : (l ++ [c]).getD ((l ++ [c]).length - 1) 0 = c := by
  rw [List.getD_eq_getElem?_getD]
  simp
theorem iteTB {c : Bool} {A B : Prop} (hc : c = true) (h : A) : if c = true then A else B := by rw [if_pos hc]; exact h
theorem iteFB {c : Bool} {A B : Prop} (hc : c = false) (h : B) : if c = true then A else B := by rw [hc, if_neg Bool.false_ne_true]; exact h
/-- the law's normal form -/
def spLNormal : Sp := fun vs H Q _ => ∃ (r : V) (h q : List Nat), vs = [r, .str (S h), .str (S q)] ∧ 0 < q.length ∧ q.length ≤ 1000 ∧ h.length ≤ 1000 ∧
  ∀ (h' q' : List Nat) (p : Addr) (H' : Hp), Nf (ev h q) h' q' → h'.length ≤ h.length → q'.length ≤ q.length → Sub h' h → Sub q' q → Same H H' → H p = none → H' p = some (.tup [r, .str (S h'), .str (S q')]) → Q (.ref p) H'
section
variable {P : Program} {w : World} {K : PySem.W.Frag} {mg : Str → Option Value} {base : Heap}
theorem scLNormal : FnScope ["root", "head", "period", "size", "many"] ["root", "head", "period"] (defScope sLNormal) := ⟨rfl, rfl, rfl, by decide +kernel, rfl, by decide +kernel, by decide +kernel⟩
theorem ok_lnormal {f : Addr} {fd : FuncData} (F : Fun K "_law_normal" "_law_normal" sLNormal f fd) (ml : mg "len" = none) (mr : mg "range" = none) :
    FnOk P w K mg base CX0 1 f fd ["root", "head", "period"] spLNormal := by
  refine F.ok scLNormal (fun vs H Q E h => ?_) (fun cdv A outer s H vs Q E hr h => ?_)
  · obtain ⟨r, h, q, rfl, _⟩ := h
    rfl
  · obtain ⟨r, h, q0, rfl, h0, h1, h2, k⟩ := h
    have nd := scLNormal.nd
    refine ⟨_, pss_cons (ps_set (i := 3) nd rfl (.inl rfl) (pe_ix ix_list (pe_lc (own := [("many", 4)]) (g := gName 4) rfl nd
          (pi_range2 rfl mr (pa_cons pe_int (pa_cons (pe_op op_add (pe_callB call_len_str (by rfl) ml boot_len (pa_cons (pv 2) pa_nil)) pe_int) pa_nil)))
          (blkOk_by (N := ["root", "head", "period", "size", "many"]) (sc := defScope sLNormal) (by decide +kernel)) (fun _ _ _ _ _ => pg_name (i := 4) nd rfl (Or.inl rfl))
          (fun _ _ _ _ _ => pts_one (pt_cmpR op_eq (pe_op op_mul_str (pe_slice sl_str (pv 2) po_none (po_some (pv 4))) (pe_op op_fdiv (pe_callB call_len_str (by rfl) ml boot_len (pa_cons (pv 2) pa_nil)) (pv 4))) (pv 2) (nomark _))) (fun _ _ _ _ _ => pv 4)) pe_int (fun _ _ => rfl)))
      (pss_cons (ps_set (i := 2) nd rfl (.inr rfl) (pe_slice sl_str (pv 2) po_none (po_some (pv 3))))
      (pss_cons (ps_while PassesOwn.never (pw_and (pt_cmpR op_ne (pv 1) pe_str (nomark _)) (pw_and1 (pt_cmpR op_eq (pe_ix ix_str (pv 1) (pe_un un_neg pe_int) (fun _ _ => rfl)) (pe_ix ix_str (pv 2) (pe_un un_neg pe_int) (fun _ _ => rfl)) (nomark _)))).pt
        (pss_one (ps_asg (pe_tup (pa_cons (pe_slice sl_str (pv 1) po_none (po_some (pe_un un_neg pe_int))) (pa_cons (pe_op op_add_str (pe_ix ix_str (pv 2) (pe_un un_neg pe_int) (fun _ _ => rfl)) (pe_slice sl_str (pv 2) po_none (po_some (pe_un un_neg pe_int)))) pa_nil)))
          (pg_tup rfl (pgs_cons (pg_name (i := 1) nd rfl (.inl rfl)) (pgs_cons (pg_name (i := 2) nd rfl (.inr rfl)) pgs_nil))))))
      (pss_one (ps_ret (pe_tup (pa_cons (pv 0) (pa_cons (pv 1) (pa_cons (pv 2) pa_nil)))))))), ?_⟩
    have lq : (S q0).length ≤ sizeLine := small_len h1
    refine ⟨_, rfl, _, rfl, lq, _, _, rfl, rfl, _, _, rfl, ⟨by decide, by decide, by rw [S_len]; omega, by rw [S_len]; omega⟩, fun D hD => ?_⟩
    have en : (((S q0).length : Int) + 1 - 1).toNat = q0.length := by rw [S_len]; omega
    rw [en]
    refine lc_range (n := q0.length) (fun i H2 => H2 = upd H D (.lst (((List.range' 1 i).filter (okB q0)).map fun m => V.int (m : Nat)))) rfl ?_ ?_
    · rintro i H2 hi rfl
      refine ⟨rfl, ?_⟩
      have e1 : cutS (S q0) none (some (1 + (i : Int))) = S (q0.take (1 + i)) := by
        rw [show (1 + (i : Int)) = ((1 + i : Nat) : Int) by omega]
        exact cut_take (by omega)
      have e2 : (((S q0).length : Int) / (1 + (i : Int))) = ((q0.length / (1 + i) : Nat) : Int) := by
        rw [S_len, show (1 + (i : Int)) = ((1 + i : Nat) : Int) by omega]
        rfl
      have hm : q0.length / (1 + i) ≤ q0.length := Nat.div_le_self _ _
      have hm2 : q0.length / (1 + i) * (q0.take (1 + i)).length ≤ 1000000 := Nat.le_trans (Nat.mul_le_mul hm (show (q0.take (1 + i)).length ≤ 1000 by rw [List.length_take]; omega)) (by omega)
      refine ⟨_, rfl, _, rfl, _, rfl, _, rfl, lq, _, rfl, _, rfl, lq, _, rfl, _, _, rfl, rfl, ⟨by omega, by omega⟩, q0.take (1 + i), q0.length / (1 + i), congrArg V.str e1, congrArg V.int e2, by omega, by rw [List.length_take]; omega, hm2, _, rfl, rfl, _, rfl, ?_⟩
      rw [filter_snoc]
      by_cases c : okB q0 (1 + i) = true
      · rw [if_pos c]
        refine iteTB (decide_eq_true (str_eq.mpr (of_decide_eq_true c))) ?_
        refine ⟨_, rfl, _, upd_same, ?_, ?_⟩
        · rw [List.length_map]
          exact Nat.lt_of_le_of_lt (Nat.le_trans (List.length_filter_le _ _) (show (List.range' 1 i).length ≤ 1000 by rw [List.length_range']; omega)) (by decide)
        · rw [upd_upd', List.map_append]
          rw [show (1 + (i : Int)) = ((1 + i : Nat) : Int) by omega]
          rfl
      · rw [if_neg c, List.append_nil]
        exact iteFB (decide_eq_false (fun z => c (decide_eq_true (str_eq.mp z)))) rfl
    · rintro H2 rfl
      obtain ⟨s0, e, l⟩ := find_least h0
      have hle := l.le h0
      have sp := l.pos
      have hi : atI (((List.range' 1 q0.length).filter (okB q0)).map fun m => V.int (m : Nat)) 0 = some (.int (s0 : Int)) := by
        refine atI_nat (j := 0) ?_
        rw [List.getElem?_map, first_size h0 l]
        rfl
      have sl : (q0.take s0).length = s0 := take_len hle
      refine ⟨D, _, 0, _, rfl, rfl, SqL.of upd_same, hi, ?_⟩
      refine ⟨_, rfl, _, rfl, _, rfl, _, rfl, lq, ?_⟩
      rw [cut_take hle]
      refine ⟨fun m σ H2 => ∃ l' r' : List Nat, m = l'.length ∧ σ = [some r, some (.str (S l')), some (.str (S r')), some (.int (s0 : Int)), none] ∧ Same H H2 ∧ r'.length = s0 ∧ (∀ i, ev l' r' i = ev h q0 i) ∧ l'.length ≤ h.length ∧ Sub l' h ∧ Sub r' q0,
        ⟨h.length, h, q0.take s0, rfl, rfl, fun b o e => by rw [upd_ne (ne_of_none e hD)]; exact e, sl, fun i => short_nf l h0 i, Nat.le_refl _, fun _ x => x, fun _ x => List.mem_of_mem_take x⟩, ?_⟩
      rintro m σ H2 ⟨l', r', rfl, rfl, s2, lr, hev, hl, sub1, sub2⟩
      have ll : (S l').length ≤ sizeLine := small_len (by omega)
      have lrr : (S r').length ≤ sizeLine := small_len (by omega)
      have done : (0 < l'.length → l'.getD (l'.length - 1) 0 ≠ r'.getD (r'.length - 1) 0) → ∀ p, H2 p = none → Q (.ref p) (upd H2 p (.tup [r, .str (S l'), .str (S r')])) := fun stop p hp =>
        k l' r' p _ (last_nf hev (by omega) (by rw [lr]; exact fun a m x y => l.prim h0 a m x y) stop) hl (by omega) sub1 sub2 (fun b o e => by rw [upd_ne (ne_of_none (s2 b o e) hp)]; exact s2 b o e) (s2.free hp) upd_same
      refine ⟨_, rfl, rfl, _, rfl, ?_⟩
      rcases List.eq_nil_or_concat l' with e | ⟨l0, c, e⟩
      · subst e
        refine iteFB (by rw [decide_eq_true (str_ne_empty.mpr rfl)]; rfl) ?_
        refine iteFB rfl ?_
        exact ⟨_, rfl, _, rfl, _, rfl, (by show 3 ≤ sizeLine; decide), fun p hp => done (fun z => absurd z (Nat.lt_irrefl _)) p hp⟩
      · rw [List.concat_eq_append] at e
        subst e
        refine iteTB (by rw [decide_eq_false (fun z => by have := str_ne_empty.mp z; simp at this)]; rfl) ?_
        rcases List.eq_nil_or_concat r' with e | ⟨r0, c', e⟩
        · subst e
          exact absurd lr (by simp; omega)
        · rw [List.concat_eq_append] at e
          subst e
          refine ⟨_, rfl, _, rfl, _, _, _, rfl, rfl, ll, last_at l0 c, _, rfl, _, rfl, _, _, _, rfl, rfl, lrr, last_at r0 c', rfl, _, rfl, ?_⟩
          refine ite2 (fun z => ?_) (fun z => ?_)
          · have ec : c = c' := one_eq.mp (of_decide_eq_true z)
            subst ec
            have l1 : (S r0).length ≤ sizeLine := small_len (by simp at lr; omega)
            refine ⟨fun σ' H' => ∃ m', m' < (l0 ++ [c]).length ∧ _, fun σ' H' z => z, _, rfl, _, rfl, _, rfl, _, rfl, ll, _, rfl, _, rfl, _, _, _, rfl, rfl, lrr, last_at r0 c, _, rfl, _, rfl, _, rfl, _, rfl, lrr, _, _, rfl, rfl, ?_, (by show 2 ≤ sizeLine; decide), fun p hp => ?_⟩
            · rw [cut_last]
              show 1 + (S r0).length ≤ sizeLine
              rw [S_len]
              exact Nat.le_trans (show 1 + r0.length ≤ 1001 by simp at lr; omega) (by decide)
            · rw [cut_last, cut_last]
              refine ⟨p, _, rfl, SqT.of upd_same, rfl, _, _, rfl, _, _, rfl, rfl, l0.length, by simp, l0, c :: r0, rfl, ?_, fun b o e => by rw [upd_ne (ne_of_none (s2 b o e) hp)]; exact s2 b o e, by simpa using lr, fun i => (ev_less l0 r0 c i).trans (hev i), by simp at hl; omega, fun x hx => sub1 x (List.mem_append_left _ hx), fun x hx => sub2 x (by simp at hx ⊢; exact hx.symm)⟩
              have e : (⟨#[c]⟩ : Str) ++ S r0 = S (c :: r0) := S_cat [c] r0
              rw [← e]
              rfl
          · refine ⟨_, rfl, _, rfl, _, rfl, (by show 3 ≤ sizeLine; decide), fun p hp => done (fun _ y => z (decide_eq_true (one_eq.mpr ?_))) p hp⟩
            rw [last_getD, last_getD] at y
            exact y
end
end Vf

set_option Elab.async false
set_option maxRecDepth 100000
set_option maxHeartbeats 4000000
set_option exponentiation.threshold 3000
namespace Vf
open PySem L2 SX Vm
theorem pos_pull {b q : Int} (h0 : 0 ≤ q) (h1 : q < b) (h5 : b ≤ 5) : ∃ c : Nat, atI (("01234" : Str).cps.toList) q = some c ∧ 48 ≤ c ∧ (c : Int) < 48 + b := by
  rw [s01234]
  have : q = 0 ∨ q = 1 ∨ q = 2 ∨ q = 3 ∨ q = 4 := by omega
  rcases this with e | e | e | e | e <;> subst e <;> exact ⟨_, rfl, by decide, by omega⟩
theorem len5 : ("01234" : Str).length ≤ sizeLine := by decide +kernel
theorem S_one (c : Nat) (l : List Nat) : (⟨#[c]⟩ : Str) ++ S l = S (c :: l) := S_cat [c] l
theorem S_snoc (c : Nat) (l : List Nat) : S l ++ (⟨#[c]⟩ : Str) = S (l ++ [c]) := S_cat l [c]
/-- a drawn stream -/
def spLStream : Sp := fun vs H Q _ => ∃ (a : Addr) (d : Int × Int × Int) (base wide high : Int), vs = [.ref a, .int base, .int wide, .int high] ∧ H a = some (.lst (dieL d)) ∧ DieOk d ∧ d.2.2 ≤ 990000000 ∧ 2 ≤ base ∧ base ≤ 5 ∧ 1 ≤ wide ∧ wide ≤ 5000 ∧ 1 ≤ high ∧ high ≤ 100 ∧
  ∀ (r : Int) (h q : List Nat) (f : Nat → Nat) (d' : Int × Int × Int) (p : Addr) (H' : Hp), 0 ≤ r → r < wide → (h.length : Int) ≤ high → (q.length : Int) ≤ high → Nf f h q → IsW base h → IsW base q → DieOk d' → d'.2.2 ≤ d.2.2 + 3 + 2 * high →
    Kp a H H' → H' a = some (.lst (dieL d')) → H p = none → H' p = some (.tup [.int r, .str (S h), .str (S q)]) → Q (.ref p) H'
/-- the beginning of a stream -/
def spLBeg (K : PySem.W.Frag) : Sp := fun vs H Q _ => ∃ (p : Addr) (r : V) (h q : List Nat) (many : Nat), vs = [.ref p, .int (many : Int)] ∧ SqT K H p [r, .str (S h), .str (S q)] ∧ 0 < q.length ∧ q.length ≤ 1000 ∧ h.length ≤ 1000 ∧ many ≤ 2000 ∧
  Q (.str (S (beg h q (many / q.length + 1) many))) H
/-- the same stream told otherwise -/
def spOther : Sp := fun vs H Q _ => ∃ (a p : Addr) (d : Int × Int × Int) (r : V) (h q : List Nat), vs = [.ref a, .ref p] ∧ H a = some (.lst (dieL d)) ∧ DieOk d ∧ d.2.2 ≤ 990000000 ∧ H p = some (.tup [r, .str (S h), .str (S q)]) ∧ 0 < q.length ∧ q.length ≤ 100 ∧ h.length ≤ 100 ∧
  ∀ (h' q' : List Nat) (d' : Int × Int × Int) (p' : Addr) (H' : Hp), (∀ i, ev h' q' i = ev h q i) → 0 < q'.length → q'.length ≤ 300 → h'.length ≤ 110 → Sub h' (h ++ q) → Sub q' q → DieOk d' → d'.2.2 ≤ d.2.2 + 2 →
    Kp a H H' → H' a = some (.lst (dieL d')) → H p' = none → H' p' = some (.tup [r, .str (S h'), .str (S q')]) → Q (.ref p') H'
section
variable {P : Program} {w : World} {K : PySem.W.Frag} {mg : Str → Option Value} {base : Heap}
theorem scLStream : FnScope ["die", "base", "wide", "high", "root", "head"] ["die", "base", "wide", "high"] (defScope sLStream) := ⟨rfl, rfl, rfl, by decide +kernel, rfl, by decide +kernel, by decide +kernel⟩
theorem ok_lstream {f fP fW fN : Addr} {fd fdP fdW fdN : FuncData} (F : Fun K "_law_stream" "_law_stream" sLStream f fd) (GP : FnOk P w K mg base CX0 1 fP fdP ["die", "many"] spPull) (cP : Cal K mg "_law_pull" fP fdP ["die", "many"])
    (GW : FnOk P w K mg base CX0 2 fW fdW ["die", "base", "high"] spWord) (cW : Cal K mg "_law_word" fW fdW ["die", "base", "high"]) (GN : FnOk P w K mg base CX0 1 fN fdN ["root", "head", "period"] spLNormal) (cN : Cal K mg "_law_normal" fN fdN ["root", "head", "period"]) :
    FnOk P w K mg base CX0 3 f fd ["die", "base", "wide", "high"] spLStream := by
  refine F.ok scLStream (fun vs H Q E h => ?_) (fun cdv A outer s H vs Q E hr h => ?_)
  · obtain ⟨a, d, b, wi, hi, rfl, _⟩ := h
    rfl
  · obtain ⟨a, d, b, wi, hi, rfl, ha, hd, hc, b2, b5, w1, w5, h1, h5, k⟩ := h
    have nd := scLStream.nd
    have hr1 := hr.mono (show 1 ≤ 2 by decide)
    refine ⟨_, pss_cons (ps_par (i := 4) (j := 5) rfl nd rfl rfl (by decide) rfl rfl (pa_cons (pe_call GP hr1 rfl cP.mg cP.kp cP.b .nil pass0 (pa_cons (pv 0) (pa_cons (pv 2) pa_nil))) (pa_cons (pe_call GW hr rfl cW.mg cW.kp cW.b .nil pass0 (pa_cons (pv 0) (pa_cons (pv 1) (pa_cons (pv 3) pa_nil)))) pa_nil)) rfl)
      (pss_one (ps_ret (pe_call GN hr1 rfl cN.mg cN.kp cN.b .nil pass0 (pa_cons (pv 4) (pa_cons (pv 5) (pa_cons (pe_op op_add_str (pe_ix ix_str pe_str (pe_call GP hr1 rfl cP.mg cP.kp cP.b .nil pass0 (pa_cons (pv 0) (pa_cons (pv 1) pa_nil))) (fun _ _ => rfl))
        (pe_call GW hr rfl cW.mg cW.kp cW.b .nil pass0 (pa_cons (pv 0) (pa_cons (pv 1) (pa_cons (pe_op op_sub (pv 3) pe_int) pa_nil))))) pa_nil)))))), ?_⟩
    refine ⟨_, rfl, _, rfl, a, d, wi, rfl, ha, hd, w1, w5, by omega, fun r d1 hd1 hc1 r0 r1 => ?_⟩
    refine ⟨_, rfl, _, rfl, _, rfl, a, d1, b, hi, rfl, upd_same, hd1, by omega, b2, b5, by omega, h5, fun l d2 hd2 hc2 hw hl => ?_⟩
    rw [upd_upd']
    refine ⟨_, _, rfl, ?_⟩
    refine ⟨_, rfl, _, rfl, _, rfl, _, rfl, a, d2, b, rfl, upd_same, hd2, by omega, by omega, by omega, fun q d3 hd3 hc3 q0 q1 => ?_⟩
    obtain ⟨c, hc', c0, c1⟩ := pos_pull q0 q1 b5
    rw [upd_upd']
    refine ⟨_, q, c, rfl, rfl, len5, hc', ?_⟩
    refine ⟨_, rfl, _, rfl, _, rfl, _, _, rfl, rfl, a, d3, b, hi - 1, rfl, upd_same, hd3, by omega, b2, b5, by omega, by omega, fun l2 d4 hd4 hc4 hw2 hl2 => ?_⟩
    rw [upd_upd']
    refine ⟨_, _, rfl, rfl, ?_, ?_⟩
    · rw [S_len]
      show 1 + l2.length ≤ sizeLine
      exact Nat.le_trans (show 1 + l2.length ≤ 200 by omega) (by decide)
    · rw [S_one]
      refine ⟨.int r, l, c :: l2, rfl, by simp, by simp; omega, by omega, fun h' q' p H' nf hl' hq' sh sq sm np hp => ?_⟩
      have nap : p ≠ a := fun z => by rw [z, upd_same] at np; cases np
      have npH : H p = none := by rw [upd_ne nap] at np; exact np
      have wq : IsW b (c :: l2) := fun x hx => by
        rcases List.mem_cons.mp hx with e | e
        · rw [e]
          exact ⟨c0, c1⟩
        · exact hw2 x e
      refine k r h' q' _ d4 p H' r0 r1 (by omega) (by simp at hq'; omega) nf (hw.of sh) (wq.of sq) hd4 (by omega) (fun x o n e => sm x o (by rw [upd_ne n]; exact e)) (sm a _ upd_same) npH hp
theorem scLBeg : FnScope ["stream", "many", "root", "head", "period"] ["stream", "many"] (defScope sLBeg) := ⟨rfl, rfl, rfl, by decide +kernel, rfl, by decide +kernel, by decide +kernel⟩
theorem ok_lbeg {f : Addr} {fd : FuncData} (F : Fun K "_law_beginning" "_law_beginning" sLBeg f fd) (ml : mg "len" = none) : FnOk P w K mg base CX0 1 f fd ["stream", "many"] (spLBeg K) := by
  refine F.ok scLBeg (fun vs H Q E h => ?_) (fun cdv A outer s H vs Q E hr h => ?_)
  · obtain ⟨p, r, h, q, many, rfl, _⟩ := h
    rfl
  · obtain ⟨p, r, h, q, many, rfl, hp, h0, h1, h2, hm, k⟩ := h
    have nd := scLBeg.nd
    refine ⟨_, pss_cons (ps_asg (pv 0) (pg_tup rfl (pgs_cons (pg_name (i := 2) nd rfl (.inl rfl)) (pgs_cons (pg_name (i := 3) nd rfl (.inl rfl)) (pgs_cons (pg_name (i := 4) nd rfl (.inl rfl)) pgs_nil)))))
      (pss_one (ps_ret (pe_slice sl_str (pe_op op_add_str (pv 3) (pe_op op_mul_str (pv 4) (pe_op op_add (pe_op op_fdiv (pv 1) (pe_callB call_len_str (by rfl) ml boot_len (pa_cons (pv 4) pa_nil))) pe_int))) po_none (po_some (pv 1))))), ?_⟩
    refine ⟨_, rfl, p, _, rfl, hp, rfl, _, _, rfl, _, _, rfl, _, _, rfl, rfl, ?_⟩
    have hk : many / q.length + 1 ≤ 2001 := Nat.succ_le_succ (Nat.le_trans (Nat.div_le_self _ _) hm)
    have hmul : (many / q.length + 1) * q.length ≤ 3000 := by
      rw [Nat.succ_mul]
      have := Nat.div_mul_le_self many q.length
      omega
    have ek : ((many : Int) / ((S q).length : Int) + 1) = ((many / q.length + 1 : Nat) : Int) := by
      rw [S_len]
      rfl
    refine ⟨_, rfl, _, rfl, _, rfl, _, rfl, _, rfl, small_len h1, _, _, rfl, rfl, ⟨by rw [S_len]; omega, by rw [S_len]; omega⟩, _, _, rfl, rfl, q, many / q.length + 1, rfl, congrArg V.int ek, by omega, by omega, by omega, _, _, rfl, rfl, ?_, _, rfl, _, rfl, _, rfl, ?_, ?_⟩
    · rw [S_len, S_len, rep_len]
      exact Nat.le_trans (show h.length + (many / q.length + 1) * q.length ≤ 4000 by omega) (by decide)
    · rw [S_cat, S_len, List.length_append, rep_len]
      exact Nat.le_trans (show h.length + (many / q.length + 1) * q.length ≤ 4000 by omega) (by decide)
    · rw [S_cat, cut_take]
      · exact k
      · have := Nat.lt_div_mul_add (a := many) h0
        rw [List.length_append, rep_len, Nat.succ_mul]
        omega
end
end Vf


set_option Elab.async false
set_option maxRecDepth 100000
set_option maxHeartbeats 4000000
/-! An error class over IndexError whose __init__ calls that of its base and keeps a value. -/
namespace VNum
open PySem PySem.W PySem.Calls PyProof.Rows L2
def mainArgs : Arguments := defArgs (inClass (Vf.top 5) 0)
def mainBody : List Stmt := defBody (inClass (Vf.top 5) 0)
def mainScope : Scope := defScope (inClass (Vf.top 5) 0)
abbrev bmI : List Value := [.type "IndexError", .type "LookupError", .type "Exception", .type "BaseException", .type "object"]
/-- what the written part says of the class at C and of its __init__ at fI -/
structure NumTxt (P : Program) (K : Frag) (mg : Str → Option Value) (C fI : Addr) : Prop where
  gC : mg "InvalidNumber" = some (.ref C)
  noSuper : mg "super" = none
  cls : ∃ nm q N bs sn sub ab col dd k0 k1 k2 k3 k5, K.lookup C = some (excClassObj nm q C N bs bmI true sn sub ab col dd k0 k1 k2 k3 k5 "IndexError.__new__")
  sa : findIn K (.ref C) "__setattr__" = some (some (.builtin "object.__setattr__"))
  ga : findIn K (.ref C) "__getattribute__" = some (some (.builtin "BaseException.__getattribute__"))
  gg : findIn K (.ref C) "__getattr__" = some none
  ov : excOver K C bmI = true
  qi : excInitIn K C bmI "IndexError.__new__" = true
  tk : takerIn K C "value" = some none
  noV : findIn K (.ref C) "value" = some none
  hdC : hasDictIn K C = true
  iC : findIn K (.ref C) "__init__" = some (some (.ref fI))
  tC : typeIn K (.ref fI) = some (.type "function")
  any : nsIn K cStatics "thirdparty.any" = some none
  sup : ks_superIn K C C "__init__" = some (some (.builtin "IndexError.__init__"))
  sI : subIn K (.ref C) (.type "IndexError") = some true
  mro : mroIn K C (.ref C) = some true
  kC : keepIn K (.ref C) = true
  exC : subIn K (.ref C) (.type "BaseException") = some true
  tyC : typeIn K (.ref C) = some (.type "type")
  top : (P.main.scope.names.lookup ("super" : Str)).isSome = false
  fn : ∃ (oc : Value) (od : Option Addr) (doc pm : Value) (an : Option Addr) (cda cc : Addr) (ct : Value) (osl : Array (Option Value)) (vs : Array Value) (file : Str) (tf : Tok) (ccl : Value) (cdd : Option Addr) (ccs : Array (Option Value)) (cl : Value) (cld : Option Addr) (csl : Array (Option Value)),
    K.lookup fI = some ⟨oc, od, .func (ksFn "__init__" "InvalidNumber.__init__" mainArgs mainBody mainScope .none .none doc pm an (.ref cda) ct cc), osl⟩ ∧ codeIn K (.ref cda) "InvalidNumber.__init__" = true ∧
    K.lookup cda = some ⟨ccl, cdd, .fields vs, ccs⟩ ∧ vs[2]? = some (.str file tf) ∧ ((P.main.file : Str) == file) = true ∧ K.lookup cc = some ⟨cl, cld, .cell (some (.ref C)), csl⟩
/-- what __init__ leaves of a fresh exception at x -/
structure InitEnd (h h' : Heap) (x C dx t1 : Addr) (v : Value) : Prop where
  keep : ∀ b o, b ≠ x → h.get? b = some o → h'.get? b = some o
  obj : h'.get? x = some { cls := .ref C, dict := some dx, data := .fields #[.ref t1, .none, .none, .none, .bool false, .none] }
  dbig : h.objs.size ≤ dx
  dne : dx ≠ x
  ns : h'.Ns1 dx (fun y => if y = "value" then some v else none)
theorem ns1_one {h : Heap} {dx : Addr} {hs : Int} {t : Tok} {v : Value} {es : List DictEntry} {n : Nat} (e : (putL "value" hs (.str "value" t) v [], putN "value" [] 0) = (es, n)) (hd : h.get? dx = some (dictOf es n)) : h.Ns1 dx (fun y => if y = "value" then some v else none) := by
  obtain ⟨e1, e2⟩ := Prod.mk.inj e
  subst e1
  subst e2
  refine ⟨_, _, _, hd, rfl, ?_, ?_, fun name => ?_⟩
  · intro e he
    have he' : e ∈ [(⟨hs, .str "value" t, v⟩ : DictEntry)] := Array.mem_toList_iff.mpr he
    rw [List.mem_singleton.mp he']
    exact ⟨_, _, rfl⟩
  · exact List.pairwise_singleton _ _
  · show ((#[(⟨hs, .str "value" t, v⟩ : DictEntry)] : Array DictEntry).find? fun e => e.key.isStr name).map (·.val) = if name = "value" then some v else none
    by_cases hn : name = "value"
    · subst hn
      rw [if_pos rfl]
      simp [Value.isStr]
    · rw [if_neg hn]
      have : (("value" : Str) == name) = false := by simpa using (fun z => hn z.symm)
      simp [Value.isStr, this]
section
variable {P : Program} {w : World} {A : Around} {R : Result → Shared → Prop} {s : Shared} {K : Frag} {mg : Str → Option Value} {C fI : Addr}
theorem num_init (T : NumTxt P K mg C fI) {x t0 : Addr} {v : Value} (X : K.In s.heap) (hg : s.heap.Ns mainGlobals mg) {mb : Str → Option Value} (hb : s.heap.Ns builtinsNs mb) (hbb : ∀ x : Str, x ≠ "__name__" → mb x = bootBuiltins x) (hlim : s.heap.NoLimit)
    (hx : s.heap.get? x = some (HandSPX.excO C t0)) (hnx : K.lookup x = none) (hroom : A.depth < recursionLimit) (hq : ∀ h' tk dx t1, InitEnd s.heap h' x C dx t1 v → R (.ok (.ret .none)) { s with heap := h', toks := tk }) :
    codeAny (model P w) A (.call (.ref fI) ⟨[.ref x, v], []⟩) R s := by
  obtain ⟨oc, od, doc, pm, an, cda, cc, ct, osl, vs, file, tf, ccl, cdd, ccs, cl, cld, csl, ho, hcd, hco, hvs, hfile, hcell⟩ := T.fn
  obtain ⟨nm, q, N, bs, sn, sub, ab, col, dd, k0, k1, k2, k3, k5, hC⟩ := T.cls
  refine ks_codeAny_call_defAt (fd := ksFn "__init__" "InvalidNumber.__init__" mainArgs mainBody mainScope .none .none doc pm an (.ref cda) ct cc) (body := mainBody) (binds := [("self", .ref x), ("value", v)]) hroom (X _ _ ho) rfl hlim (codeRec_of X hcd) rfl (BindsTo.of_eq rfl) (show ∀ x ∈ mainScope.names, x.2 ≠ .cell by decide +kernel) (locs rfl) (fun h₁ hns hk₁ => ?_)
  have F0 : Fr (hideAll s.heap [x]) s.heap.objs.size h₁ (fun y => [(("self" : Str), Value.ref x), ("value", v)].reverse.lookup y) := ⟨hns, fun b o e => hk₁ b o (of_hideAll _ e), Nat.le_of_eq (hideAll_size _ _)⟩
  have N0 : News (hideAll s.heap [x]) s.heap.objs.size h₁ [(x, excObj C t0 none .none)] := fun p hp => by
    rw [List.mem_singleton.mp hp]
    exact ⟨hk₁ _ _ hx, Nat.ne_of_lt (Heap.lt_size hx), hideAll_none _ (List.mem_singleton_self _)⟩
  have X₀ : K.In (hideAll s.heap [x]) := fun b o e => hideAll_get _ (X b o e) (fun z => by rw [List.mem_singleton.mp z, hnx] at e; cases e)
  have X₁ : K.In h₁ := X.keeps hk₁
  refine ks_wpAt_execs_cons (ks_wpAt_Expr_any (ks_wpAt_MethodCall ?_))
  refine ks_wpAt_super_base (env := ksEnv "InvalidNumber.__init__" mainScope s.heap.objs.size fI (.ref cda) cc) rfl rfl (by decide +kernel) rfl (X₁ _ _ ho) rfl rfl rfl (X₁ _ _ hco) rfl hvs hfile T.top ?_
  refine ks_loadName_global rfl rfl (loadGlobal_builtin (env := ksEnv "InvalidNumber.__init__" mainScope s.heap.objs.size fI (.ref cda) cc) (hg.keeps hk₁) T.noSuper (hb.keeps hk₁) ((hbb _ (by decide +kernel)).trans (by decide +kernel)) ⟨rfl, ?_⟩)
  refine wpAny_loadName_free rfl rfl rfl ⟨_, X₁ _ _ hcell, rfl⟩ ?_
  refine wpAny_loadName_local rfl rfl hns rfl ?_
  refine ks_wpAny_isType_cls (X₁ _ _ hC) rfl ⟨rfl, ?_⟩
  have I1 : InstAt h₁ x (HandSPX.excO C t0) C none := ⟨hk₁ _ _ hx, rfl, rfl, trivial⟩
  refine ks_wpAny_call_super (X₁ _ _ hC) rfl I1.at_ I1.cls (fun c e => nomatch e) (looks_mroIn X₁ T.mro) (fun h₂ e2 k2 => ?_)
  obtain ⟨F2, N2, l2⟩ := ks_newsPush (s := { s with heap := h₁ }) F0 N0 rfl e2 k2
  refine kxs_method kxs_IndexError F2 X₀ N2 (List.Mem.head _) (InstAt.of_exc0 (t := t0) (c2 := .none) N2 (List.Mem.tail _ (List.Mem.head _))) T.any T.sup T.sI (by decide +kernel) (fun q3 h₃ F3 N3 l3 => ?_)
  refine kxs_callWith1 (i := "IndexError.__init__") (x := x) N3 (List.Mem.head _) ?_
  refine Calls.spliced_cons (Calls.Constant_str (k := 0) (pos := ⟨0, 0, 0, 0⟩) ?_)
  refine Calls.spliced_nil ⟨kxs_at N3 (List.Mem.head _), ?_⟩
  have n1 : x ≠ h₁.objs.size := Nat.ne_of_lt (Heap.lt_size I1.at_)
  have n2 : x ≠ q3 := Nat.ne_of_lt (l3 _ (List.Mem.tail _ (List.Mem.head _)))
  refine kxs_call F3 X₀ N3 PySem.F.excBase_IndexError T.qi (List.Mem.head _) (.tail (Ne.symm n2) (.tail (Ne.symm n1) (.head (fun p hp => by cases hp)))) (by show 1 ≤ sizeLine; decide) (fun t4 h₄ F4 N4 l4 => ?_)
  refine ks_wpAt_execs_cons (ks_wpAt_Assign_Attr ?_)
  refine wpAt_of_wpAny (wpAny_Name (wpAny_loadName_local rfl rfl F4.ns rfl (wpAny_Name (wpAny_loadName_local rfl rfl F4.ns rfl ?_) (by decide))) (by decide))
  obtain ⟨es, n, ee⟩ : ∃ es n, (putL "value" (PyData.keyHash w.params "value") (.str "value" (s.toks + 2 + 1 + 1 + 1)) v [], putN "value" [] 0) = (es, n) := ⟨_, _, rfl⟩
  refine set_exc0 PySem.F.store_IndexError F4 X₀ N4 (List.Mem.tail _ (List.Mem.tail _ (List.Mem.tail _ (List.Mem.head _)))) T.sa T.ov T.tk T.hdC ee (.tail ?_ (.tail (Ne.symm n2) (.tail (Ne.symm n1) (.head (fun p hp => by cases hp))))) ?_ (fun dx h₅ F5 N5 l5 => ?_)
  · exact Nat.ne_of_gt (l4 _ (List.Mem.tail _ (List.Mem.tail _ (List.Mem.head _))))
  · rw [← (Prod.mk.inj ee).1]
    show 1 ≤ 1000
    decide
  · have a1 : t4 < dx := l5 _ (List.Mem.head _)
    have a2 : x < dx := l5 _ (List.Mem.tail _ (List.Mem.tail _ (List.Mem.tail _ (List.Mem.head _))))
    have a3 : h₁.objs.size < t4 := l4 _ (List.Mem.tail _ (List.Mem.head _))
    have a4 : s.heap.objs.size < h₁.objs.size := hns.lt
    refine wpAt_of_wpAny (wpAny_execs_nil (hq h₅ _ dx t4 ⟨fun b o hb e => F5.keep b o (hideAll_get _ e (fun z => hb (List.mem_singleton.mp z))), ?_, Nat.le_of_lt (Nat.lt_trans a4 (Nat.lt_trans a3 a1)), Nat.ne_of_gt a2, ns1_one ee (N5 _ (List.Mem.head _)).1⟩))
    exact (N5 _ (List.Mem.tail _ (List.Mem.tail _ (List.Mem.tail _ (List.Mem.tail _ (List.Mem.head _)))))).1
/-- a made error -/
structure OwnMade (h h' : Heap) (e C d : Addr) (v : Value) : Prop where
  keep : ∀ b o, h.get? b = some o → h'.get? b = some o
  new : h.objs.size ≤ e
  obj : ∃ oe vs, h'.get? e = some oe ∧ oe.cls = .ref C ∧ oe.dict = some d ∧ oe.data = .fields vs ∧ vs[1]? = some .none
  dbig : h.objs.size ≤ d
  dne : d ≠ e
  ns : h'.Ns1 d (fun y => if y = "value" then some v else none)
theorem bmI_contains : ∀ X : String, bmI.contains (.type X) = bmI.contains (.type X) := fun _ => rfl
theorem num_made (T : NumTxt P K mg C fI) {v : Value} (X : K.In s.heap) (hg : s.heap.Ns mainGlobals mg) {mb : Str → Option Value} (hb : s.heap.Ns builtinsNs mb) (hbb : ∀ x : Str, x ≠ "__name__" → mb x = bootBuiltins x) (hlim : s.heap.NoLimit) (hroom : A.depth + 1 < recursionLimit)
    (hq : ∀ h' tk e d, OwnMade s.heap h' e C d v → R (.ok (.ret (.ref e))) { s with heap := h', toks := tk }) : codeAny (model P w) A (.call (.ref C) ⟨[v], []⟩) R s := by
  obtain ⟨nm, q, N, bs, sn, sub, ab, col, dd, k0, k1, k2, k3, k5, hC⟩ := T.cls
  obtain ⟨hp, g, dr, tk, os⟩ := s
  have k : ∀ b o, hp.get? b = some o → ((hp.push (kdv_tup [v])).push (HandSPX.excO C hp.objs.size)).get? b = some o := fun b o e => Heap.get?_push_of_some _ (Heap.get?_push_of_some _ e)
  have hget : ((hp.push (kdv_tup [v])).push (HandSPX.excO C hp.objs.size)).get? (hp.objs.size + 1) = some (HandSPX.excO C hp.objs.size) := by heap_get
  have hnx : K.lookup (hp.objs.size + 1) = none := by
    cases e : K.lookup (hp.objs.size + 1) with
    | none => rfl
    | some o =>
      have z : hp.get? (hp.objs.size + 1) = some o := X _ _ e
      exact absurd (Nat.lt_of_succ_lt (Heap.lt_size z)) (Nat.lt_irrefl _)
  refine HandSPX.call_own PySem.F.excBase_IndexError bmI_contains (X _ _ hC) (looks_findIn X T.iC) (fun self => bind_fn X self T.tC) (by show 1 ≤ sizeLine; decide) ?_
  refine num_init (s := ⟨(hp.push (kdv_tup [v])).push (HandSPX.excO C hp.objs.size), g, dr, tk, os⟩) T (X.keeps k) (hg.keeps k) (hb.keeps k) hbb (hlim.keeps k) hget hnx ?_ fun h' tk' dx t1 M => ?_
  · show A.depth + 1 < recursionLimit
    exact hroom
  · obtain ⟨k', hx, dn, dne, hns⟩ := M
    have old : ∀ b o, hp.get? b = some o → h'.get? b = some o := fun b o e => k' b o (Nat.ne_of_lt (Nat.lt_succ_of_lt (Heap.lt_size e))) (k b o e)
    have z : hp.objs.size + 1 + 1 ≤ dx := by
      first
        | (simpa only [Heap.size_push] using dn)
        | exact dn
    exact ⟨rfl, hq h' tk' (hp.objs.size + 1) dx ⟨old, Nat.le_succ _, ⟨_, _, hx, rfl, rfl, rfl, rfl⟩, Nat.le_trans (Nat.le_trans (Nat.le_succ _) (Nat.le_succ _)) z, dne, hns⟩⟩
end
end VNum
namespace VNum
open PySem PySem.Spec PyProof.Rows L2
theorem relO_num {v : V} {v' : Value} (r : RelV v v') (f : Str) : RelO (List.lookup f [(("value" : Str), v)]) (if f = "value" then some v' else none) := by
  by_cases hw : f = "value"
  · subst hw
    rw [if_pos rfl]
    have q : List.lookup ("value" : Str) [(("value" : Str), v)] = some v := by simp [List.lookup]
    rw [q]
    exact r
  · rw [if_neg hw]
    have qw : (f == ("value" : Str)) = false := by simpa using hw
    have q2 : List.lookup f [(("value" : Str), v)] = none := by simp [List.lookup, qw]
    rw [q2]
    trivial
section
variable {X : Cx} {C fI : Addr}
/-- InvalidNumber(e) -/
def tMkNum (C : Addr) (ta : TA) : L2.St → Hp → XK → Prop := fun σ H Q => ta σ H fun vs H1 => ∃ v, vs = [v] ∧ ∀ d, H1 d = none → Q (.ref C) (some d) (upd H1 d (.xd [(("value" : Str), v)]))
theorem pmk_num {a : Expr} {ta : TA} {p pos : Pos} {k : Nat} (T : NumTxt X.prog X.K X.mg C fI) (hr : Room k X.A) (ha : PA X [a] ta) (hg : Gl X "InvalidNumber" := by rfl)
    (he : starEach (a :: []) X.env = (false, eval a X.env) :: starEach [] X.env := by rfl) (hpl : (backTo pos (starEach [] X.env)).any (·.1) = false := by rfl) :
    PMk X (.Call (.Name "InvalidNumber" p) [a] [] pos) (tMkNum C ta) := by
  intro pins s σ H Q I h
  refine wpAny_Call_Name_kw (ld_glob I hg T.gC ?_)
  refine PySem.W.callWith_K (h₀ := X.base) I.ok.mod.kin T.kC (thn (ha.run pos pins s σ H _ I h) fun us s1 hh => ?_) he hpl
  obtain ⟨vs, H1, I1, r1, v, ev, q1⟩ := hh
  subst ev
  refine ⟨I1.kIn, ?_⟩
  cases r1 with
  | cons rv rn =>
    rename_i v' us'
    cases rn
    show wpAny _ _ (call (.ref C) [v']) _ _ _
    have hlim := I1.nolimit
    have hG := I1.mod.glob.keeps I1.bk
    obtain ⟨mb, hB, hbb⟩ := I1.mod.blt
    have hB' := hB.keeps I1.bk
    obtain ⟨hp, g, dr, tk, os⟩ := s1
    refine wpAny_call (num_made T I1.kIn hG hB' hbb hlim (by have := hr.dp; omega) fun h' tk' e d M => ?_)
    show MkP X pins σ Q (.ref e) ⟨h', g, dr, tk', os⟩
    obtain ⟨oe, fv, hoe, hc, hd, hdat, h1⟩ := M.obj
    have hns := M.ns
    obtain ⟨G', g1, g2⟩ := restrict h' fun b => decide (b ≠ e)
    have gk : ∀ b, b ≠ e → G'.get? b = h'.get? b := fun b hb => g1 b (decide_eq_true hb)
    have ge : G'.get? e = none := g2 e (by simp)
    have old : ∀ b o, hp.get? b = some o → G'.get? b = some o := fun b o q => (gk b (Nat.ne_of_lt (Nat.lt_of_lt_of_le (Heap.lt_size q) M.new))).trans (M.keep b o q)
    have ob : ObjOk X.prog X.w (upd H1 d (.xd [(("value" : Str), v)])) G' d (.xd [(("value" : Str), v)]) :=
      ⟨_, hns.at (fun o q => (gk d M.dne).trans q), fun f => relO_num rv f⟩
    have J : Inv X pins σ (upd H1 d (.xd [(("value" : Str), v)])) ⟨G', g, dr, tk', os⟩ := I1.laid (t' := tk') old M.dbig ob
    refine ⟨e, oe, fv, ⟨G', g, dr, tk', os⟩, _, .ref C, some d, rfl, J, fun b o q => ?_, ge, hoe, ⟨hc, hd⟩, hdat, h1, ?_, rfl, I1.bare, raises_own T.exC T.tyC, q1 d (I1.hok.fresh M.dbig)⟩
    · by_cases hb : b = e
      · have q' : G'.get? b = some o := q
        rw [hb, ge] at q'; cases q'
      · exact (gk b hb).symm.trans q
    · rw [upd_ne (Ne.symm M.dne)]
      exact I1.hok.fresh M.new
end
end VNum


set_option Elab.async false
set_option maxRecDepth 100000
set_option maxHeartbeats 4000000
set_option exponentiation.threshold 3000
namespace Vf
open PySem L2 SX Vm
open PySem.Builtin.Str PySem.StrLaws
/-- a plain value, and its class -/
inductive Pl (H : Hp) : V → Value → Prop where
  | non : Pl H .non (.type "NoneType")
  | bl (b : Bool) : Pl H (.bl b) (.type "bool")
  | int (n : Int) : Pl H (.int n) (.type "int")
  | str (s : Str) (h : s.length ≤ 9000) : Pl H (.str s) (.type "str")
  | lst {p : Addr} {xs : List V} (h : H p = some (.lst xs)) : Pl H (.ref p) (.type "list")
  | tup {p : Addr} {xs : List V} (h : H p = some (.tup xs)) : Pl H (.ref p) (.type "tuple")
  | dct {p : Addr} {kvs : List (Key × V)} (h : H p = some (.dK kvs)) : Pl H (.ref p) (.type "dict")
theorem Pl.tyx {K : PySem.W.Frag} {H : Hp} {v : V} {t : Value} (p : Pl H v t) : TyX K H v t := by
  cases p with
  | non => exact .base .non
  | bl b => exact .base (.bl b)
  | int n => exact .base (.int n)
  | str s _ => exact .base (.str s)
  | lst h => exact .base (.lst h)
  | tup h => exact .base (.tup h)
  | dct h => exact .base (.dK h)
theorem Pl.same {H H' : Hp} {v : V} {t : Value} (p : Pl H v t) (s : ∀ b o, H b = some o → (∃ xs, o = .lst xs ∨ o = .tup xs) ∨ (∃ kvs, o = .dK kvs) → H' b = some o) : Pl H' v t := by
  cases p with
  | non => exact .non
  | bl b => exact .bl b
  | int n => exact .int n
  | str x h => exact .str x h
  | lst h => exact .lst (s _ _ h (.inl ⟨_, .inl rfl⟩))
  | tup h => exact .tup (s _ _ h (.inl ⟨_, .inr rfl⟩))
  | dct h => exact .dct (s _ _ h (.inr ⟨_, rfl⟩))
def isIntV : V → Bool
  | .int _ => true
  | _ => false
def withinV (lo hi : Int) : V → Bool
  | .int n => decide (lo ≤ n) && decide (n ≤ hi)
  | _ => false
/-- the digits of a base -/
def digs (b : Nat) : List Nat := [48, 49, 50, 51, 52].take b
def wordV (b : Nat) : V → Bool
  | .str s => s.cps.toList.all fun c => decide (48 ≤ c) && decide (c < 48 + b)
  | _ => false
theorem strip_empty (l ds : List Nat) : (Txt.stripChars (S l) (S ds) = ("" : Str)) ↔ ∀ c ∈ l, c ∈ ds := by
  rw [str_empty]
  unfold Txt.stripChars
  rw [PyProof.Rows.stripBy_eq]
  obtain ⟨a1, a2, a3⟩ := PyProof.Rows.lo_facts (S ds).cps.contains (S l)
  obtain ⟨b1, b2, b3, b4⟩ := PyProof.Rows.hi_facts (S ds).cps.contains (S l) _ a1
  generalize stripLo (S ds).cps.contains true (S l) = lo at *
  generalize stripHi (S ds).cps.contains true (S l) lo = hi at *
  have gd : ∀ k, k < l.length → (S l).cps.getD k 0 ∈ l := fun k hk => by
    have : (S l).cps.getD k 0 = l[k] := by simp [Array.getD, hk]
    rw [this]
    exact List.getElem_mem hk
  have gc : ∀ c, (S ds).cps.contains c = true ↔ c ∈ ds := fun c => by simp
  rw [S_len] at a1 a3 b2 b3
  constructor
  · intro e
    have sz : hi - lo = 0 := by
      have z := congrArg (fun s : Str => s.cps.size) e
      have z' : hi - lo = 0 ∨ l.length - lo = 0 := by simpa [strSub] using z
      omega
    intro c hc
    obtain ⟨k, hk, rfl⟩ := List.getElem_of_mem hc
    have gk : (S l).cps.getD k 0 = l[k] := by simp [Array.getD, hk]
    rw [← gc, ← gk]
    rcases Nat.lt_or_ge k lo with h | h
    · exact a2 k h
    · exact b3 k (by omega) hk
  · intro e
    have lo_l : lo = l.length := by
      rcases a3 with h | h
      · exact h
      · refine Classical.byContradiction fun hn => ?_
        have hlt : lo < l.length := by omega
        have z := (gc _).mpr (e _ (gd lo hlt))
        rw [z] at h
        cases h
    have : hi = l.length := by omega
    rw [this, lo_l]
    show Str.mk _ = Str.mk _
    simp
theorem digs_mem {b c : Nat} (h5 : b ≤ 5) : c ∈ digs b ↔ 48 ≤ c ∧ c < 48 + b := by
  unfold digs
  have : b = 0 ∨ b = 1 ∨ b = 2 ∨ b = 3 ∨ b = 4 ∨ b = 5 := by omega
  rcases this with e | e | e | e | e | e <;> subst e <;> simp <;> omega
theorem word_strip (s : Str) {b : Nat} (h5 : b ≤ 5) : decide (V.str (Txt.stripChars s (S (digs b))) = V.str ("" : Str)) = wordV b (.str s) := by
  have e : s = S s.cps.toList := (S_tl s).symm
  have key := strip_empty s.cps.toList (digs b)
  rw [← e] at key
  show _ = s.cps.toList.all fun c => decide (48 ≤ c) && decide (c < 48 + b)
  by_cases h : ∀ c ∈ s.cps.toList, c ∈ digs b
  · rw [key.mpr h, decide_eq_true rfl]
    symm
    rw [List.all_eq_true]
    intro c hc
    have := (digs_mem h5).mp (h c hc)
    simp [this.1, this.2]
  · rw [decide_eq_false (fun z => h (key.mp (V.str.inj z)))]
    symm
    rw [List.all_eq_false]
    obtain ⟨c, hc⟩ := Classical.not_forall.mp h
    obtain ⟨h1, h2⟩ := Classical.not_imp.mp hc
    refine ⟨c, h1, fun z => h2 ((digs_mem h5).mpr ?_)⟩
    simpa using z
/-- names that the module has not taken, and its constants -/
structure Nm (mg : Str → Option Value) : Prop where
  isinst : mg "isinstance" = none
  int : mg "int" = none
  bool : mg "bool" = none
  str : mg "str" = none
  tuple : mg "tuple" = none
  len : mg "len" = none
  minB : ∃ t, mg "MIN_BASE" = some (.int 2 t)
  maxB : ∃ t, mg "MAX_BASE" = some (.int 5 t)
  maxR : ∃ t, mg "MAX_ROOTS" = some (.int 5000 t)
  dig : ∃ t, mg "DIGITS" = some (.str "01234" t)
def spIsInt : Sp := fun vs H Q _ => ∃ (v : V) (t : Value), vs = [v] ∧ Pl H v t ∧ Q (.bl (isIntV v)) H
def spWithin : Sp := fun vs H Q _ => ∃ (lo hi : Int) (v : V) (t : Value), vs = [.int lo, .int hi, v] ∧ Pl H v t ∧ Q (.bl (withinV lo hi v)) H
def spReqNum (C : Addr) : Sp := fun vs H Q E => ∃ (lo hi : Int) (v : V) (t : Value), vs = [.int lo, .int hi, v] ∧ Pl H v t ∧ (withinV lo hi v = true → Q .non H) ∧ (withinV lo hi v = false → ∀ d, H d = none → E (.ref C) (some d) (upd H d (.xd [(("value" : Str), v)])))
def spReqB (C : Addr) (lo hi : Int) : Sp := fun vs H Q E => ∃ (v : V) (t : Value), vs = [v] ∧ Pl H v t ∧ (withinV lo hi v = true → Q .non H) ∧ (withinV lo hi v = false → ∀ d, H d = none → E (.ref C) (some d) (upd H d (.xd [(("value" : Str), v)])))
def spWordForm : Sp := fun vs H Q _ => ∃ (b : Nat) (v : V) (t : Value), vs = [.int (b : Int), v] ∧ 2 ≤ b ∧ b ≤ 5 ∧ Pl H v t ∧ Q (.bl (wordV b v)) H
section
variable {P : Program} {w : World} {K : PySem.W.Frag} {mg : Str → Option Value} {base : Heap}
theorem scIsInt : FnScope ["value"] ["value"] (defScope sIsInt) := ⟨rfl, rfl, rfl, by decide +kernel, rfl, by decide +kernel, by decide +kernel⟩
theorem kit_int {H : Hp} {v : V} {t : Value} (p : Pl H v t) : ∃ b1 b2, PySem.W.kitOne K t (.type "int") = some b1 ∧ PySem.W.kitOne K t (.type "bool") = some b2 ∧ (b1 && !b2) = isIntV v := by
  cases p with
  | non => exact ⟨false, false, kit_ty (by decide +kernel), kit_ty (by decide +kernel), rfl⟩
  | bl b => exact ⟨true, true, kit_ty (by decide +kernel), kit_ty (by decide +kernel), rfl⟩
  | int n => exact ⟨true, false, kit_ty (by decide +kernel), kit_ty (by decide +kernel), rfl⟩
  | str s => exact ⟨false, false, kit_ty (by decide +kernel), kit_ty (by decide +kernel), rfl⟩
  | lst h => exact ⟨false, false, kit_ty (by decide +kernel), kit_ty (by decide +kernel), rfl⟩
  | tup h => exact ⟨false, false, kit_ty (by decide +kernel), kit_ty (by decide +kernel), rfl⟩
  | dct h => exact ⟨false, false, kit_ty (by decide +kernel), kit_ty (by decide +kernel), rfl⟩
theorem ok_isint {f : Addr} {fd : FuncData} (F : Fun K "is_integer" "is_integer" sIsInt f fd) (N : Nm mg) : FnOk P w K mg base CX0 1 f fd ["value"] spIsInt := by
  refine F.ok scIsInt (fun vs H Q E h => ?_) (fun cdv A outer s H vs Q E hr h => ?_)
  · obtain ⟨v, t, rfl, _⟩ := h
    rfl
  · obtain ⟨v, t, rfl, pl, k⟩ := h
    refine ⟨_, pss_one (ps_ret (pe_and (pe_callB call_isi (by rfl) N.isinst PyProof.Rows.boot_isinstance (pa_cons (pv 0) (pa_cons (pe_bltn (v := .ty "int") (by rfl) N.int PyProof.Rows.boot_int rfl) pa_nil)))
      (pe_one (pe_not (pe_callB call_isi (by rfl) N.isinst PyProof.Rows.boot_isinstance (pa_cons (pv 0) (pa_cons (pe_bltn (v := .ty "bool") (by rfl) N.bool PyProof.Rows.boot_bool rfl) pa_nil))))))), ?_⟩
    obtain ⟨b1, b2, e1, e2, e3⟩ := kit_int (K := K) pl
    refine ⟨_, rfl, _, _, _, _, b1, rfl, .ty "int", pl.tyx, e1, _, rfl, ?_⟩
    cases b1 with
    | false =>
      refine iteF ?_
      rw [← e3] at k
      exact k
    | true =>
      refine iteT ?_
      refine ⟨_, rfl, _, _, _, _, b2, rfl, .ty "bool", pl.tyx, e2, _, rfl, ?_⟩
      rw [← e3] at k
      exact k
theorem scWithin : FnScope ["low", "high", "value"] ["low", "high", "value"] (defScope sWithin) := ⟨rfl, rfl, rfl, by decide +kernel, rfl, by decide +kernel, by decide +kernel⟩
theorem ok_within {f fI : Addr} {fd fdI : FuncData} (F : Fun K "is_integer_within" "is_integer_within" sWithin f fd) (GI : FnOk P w K mg base CX0 1 fI fdI ["value"] spIsInt) (cI : Cal K mg "is_integer" fI fdI ["value"]) : FnOk P w K mg base CX0 2 f fd ["low", "high", "value"] spWithin := by
  refine F.ok scWithin (fun vs H Q E h => ?_) (fun cdv A outer s H vs Q E hr h => ?_)
  · obtain ⟨lo, hi, v, t, rfl, _⟩ := h
    rfl
  · obtain ⟨lo, hi, v, t, rfl, pl, k⟩ := h
    refine ⟨_, pss_one (ps_ret (pe_and (pe_call GI hr rfl cI.mg cI.kp cI.b .nil pass0 (pa_cons (pv 2) pa_nil)) (pe_one (pe_chain op_le op_le (pv 0) (pv 2) (pv 1))))), ?_⟩
    refine ⟨_, rfl, v, t, rfl, pl, _, rfl, ?_⟩
    cases v with
    | int n =>
      refine iteT ?_
      refine ⟨_, rfl, _, rfl, _, _, rfl, rfl, _, rfl, ?_⟩
      by_cases h1 : lo ≤ n
      · refine iteTB (decide_eq_true h1) ?_
        refine ⟨_, rfl, _, _, rfl, rfl, ?_⟩
        have e : withinV lo hi (.int n) = decide (n ≤ hi) := by
          show (decide (lo ≤ n) && decide (n ≤ hi)) = _
          rw [decide_eq_true h1, Bool.true_and]
        rw [e] at k
        exact k
      · refine iteFB (decide_eq_false h1) ?_
        have e : withinV lo hi (.int n) = false := by
          show (decide (lo ≤ n) && decide (n ≤ hi)) = _
          rw [decide_eq_false h1, Bool.false_and]
        rw [e] at k
        exact k
    | _ => exact iteF k
theorem scReqNum : FnScope ["low", "high", "number"] ["low", "high", "number"] (defScope sReqNum) := ⟨rfl, rfl, rfl, by decide +kernel, rfl, by decide +kernel, by decide +kernel⟩
theorem ok_reqnum {f fI C fC : Addr} {fd fdI : FuncData} (F : Fun K "require_number" "require_number" sReqNum f fd) (GI : FnOk P w K mg base CX0 2 fI fdI ["low", "high", "value"] spWithin) (cI : Cal K mg "is_integer_within" fI fdI ["low", "high", "value"])
    (T : VNum.NumTxt P K mg C fC) : FnOk P w K mg base (L2.CX P w) 3 f fd ["low", "high", "number"] (spReqNum C) := by
  refine F.okX scReqNum (fun vs H Q E h => ?_) (fun cdv A outer s H vs Q E hr h => ?_)
  · obtain ⟨lo, hi, v, t, rfl, _⟩ := h
    rfl
  · obtain ⟨lo, hi, v, t, rfl, pl, k1, k2⟩ := h
    refine ⟨_, pss_one (ps_if (pt_not (pt_val (pe_call GI hr rfl cI.mg cI.kp cI.b .nil pass0 (pa_cons (pv 0) (pa_cons (pv 1) (pa_cons (pv 2) pa_nil))))))
      (pss_one (ps_raise rfl (takes_of rfl rfl rfl rfl) (VNum.pmk_num T hr (pa_cons (pv 2) pa_nil)))) pss_nil), ?_⟩
    refine ⟨_, rfl, _, rfl, _, rfl, lo, hi, v, t, rfl, pl, _, rfl, ?_⟩
    cases e : withinV lo hi v with
    | true => exact iteF (k1 e)
    | false =>
      refine iteT ?_
      exact ⟨_, rfl, v, rfl, fun d hd => k2 e d hd⟩
theorem scReqBase : FnScope ["base"] ["base"] (defScope sReqBase) := ⟨rfl, rfl, rfl, by decide +kernel, rfl, by decide +kernel, by decide +kernel⟩
theorem ok_reqbase {f fN C : Addr} {fd fdN : FuncData} (F : Fun K "require_base" "require_base" sReqBase f fd) (GN : FnOk P w K mg base (L2.CX P w) 3 fN fdN ["low", "high", "number"] (spReqNum C)) (cN : Cal K mg "require_number" fN fdN ["low", "high", "number"]) (N : Nm mg) :
    FnOk P w K mg base (L2.CX P w) 4 f fd ["base"] (spReqB C 2 5) := by
  refine F.okX scReqBase (fun vs H Q E h => ?_) (fun cdv A outer s H vs Q E hr h => ?_)
  · obtain ⟨v, t, rfl, _⟩ := h
    rfl
  · obtain ⟨v, t, rfl, pl, k1, k2⟩ := h
    obtain ⟨t1, m1⟩ := N.minB
    obtain ⟨t2, m2⟩ := N.maxB
    refine ⟨_, pss_one (ps_expr (pe_call GN hr rfl cN.mg cN.kp cN.b .nil (passes_call (takes_of rfl rfl rfl rfl) (fun _ _ _ _ h => h)) (pa_cons (pe_glob (v := .int 2) rfl m1 ⟨_, rfl⟩) (pa_cons (pe_glob (v := .int 5) rfl m2 ⟨_, rfl⟩) (pa_cons (pv 0) pa_nil))))), ?_⟩
    exact ⟨_, rfl, 2, 5, v, t, rfl, pl, k1, k2⟩
theorem scWordForm : FnScope ["base", "value"] ["base", "value"] (defScope sWordForm) := ⟨rfl, rfl, rfl, by decide +kernel, rfl, by decide +kernel, by decide +kernel⟩
theorem kit_str {H : Hp} {v : V} {t : Value} (p : Pl H v t) : (∃ s, v = .str s ∧ s.length ≤ 9000 ∧ PySem.W.kitOne K t (.type "str") = some true) ∨ (PySem.W.kitOne K t (.type "str") = some false ∧ ∀ b, wordV b v = false) := by
  cases p with
  | str s h => exact .inl ⟨s, rfl, h, kit_ty (by decide +kernel)⟩
  | _ => exact .inr ⟨kit_ty (by decide +kernel), fun _ => rfl⟩
theorem ok_wordform {f : Addr} {fd : FuncData} (F : Fun K "has_word_form" "has_word_form" sWordForm f fd) (N : Nm mg) : FnOk P w K mg base CX0 1 f fd ["base", "value"] spWordForm := by
  refine F.ok scWordForm (fun vs H Q E h => ?_) (fun cdv A outer s H vs Q E hr h => ?_)
  · obtain ⟨b, v, t, rfl, _⟩ := h
    rfl
  · obtain ⟨b, v, t, rfl, b2, b5, pl, k⟩ := h
    obtain ⟨td, md⟩ := N.dig
    refine ⟨_, pss_one (ps_ret (pe_and (pe_callB call_isi (by rfl) N.isinst PyProof.Rows.boot_isinstance (pa_cons (pv 1) (pa_cons (pe_bltn (v := .ty "str") (by rfl) N.str PyProof.Rows.boot_str rfl) pa_nil)))
      (pe_one (pe_cmpR op_eq (pe_bm PySem.F.plainAttrs_str PySem.F.slot_str_strip PySem.F.type_str_strip mt_stripChars (pv 1) (pa_cons (pe_slice sl_str (pe_glob (v := .str "01234") rfl md ⟨_, rfl⟩) po_none (po_some (pv 0))) pa_nil)) pe_str (nomark _))))), ?_⟩
    have ed : cutS ("01234" : Str) none (some (b : Int)) = S (digs b) := by
      rw [s01234, cut_take (by simpa using b5)]
      rfl
    rcases kit_str (K := K) pl with ⟨s1, rfl, hs, e⟩ | ⟨e, hw⟩
    · refine ⟨_, rfl, _, _, _, _, true, rfl, .ty "str", pl.tyx, e, _, rfl, ?_⟩
      refine iteT ?_
      refine ⟨_, rfl, rfl, _, rfl, _, rfl, _, rfl, len5, _, _, rfl, rfl, Nat.le_trans hs (by decide), rfl, ?_⟩
      rw [ed, word_strip s1 b5]
      exact k
    · refine ⟨_, rfl, _, _, _, _, false, rfl, .ty "str", pl.tyx, e, _, rfl, ?_⟩
      rw [hw] at k
      exact iteF k
end
end Vf


set_option Elab.async false
set_option maxRecDepth 100000
set_option maxHeartbeats 4000000
set_option exponentiation.threshold 3000
namespace Vf
open PySem L2 SX Vm
open PySem.Builtin.Str PySem.StrLaws
theorem nf_least {f : Nat → Nat} {h q : List Nat} {s : Nat} (n : Nf f h q) (l : Least q s) : s = q.length := by
  rcases Nat.lt_or_ge s q.length with hlt | hge
  · refine absurd (fun i hi => ?_) (n.prim s h.length l.pos hlt)
    rw [← n.is, ← n.is, ev_ge (by omega), ev_ge hi, show i + s - h.length = i - h.length + s by omega]
    exact l.per _
  · exact Nat.le_antisymm (l.le n.ne) hge
theorem nf_ends {f : Nat → Nat} {h q : List Nat} (n : Nf f h q) : Txt.endswith (S h) ⟨#[q.getD (q.length - 1) 0]⟩ = false := by
  have hq := n.ne
  unfold Txt.endswith
  rw [Bool.and_eq_false_iff]
  by_cases h0 : h.length = 0
  · left
    have e : h = [] := List.length_eq_zero_iff.mp h0
    subst e
    rfl
  · right
    refine Bool.eq_false_iff.mpr fun z => ?_
    have key := (subAt_one (S h) (q.getD (q.length - 1) 0) (h.length - 1)).mp ⟨by rw [S_len]; show h.length - 1 + 1 ≤ h.length; omega, by rw [S_len] at z; exact z⟩
    refine n.trim (by omega) ?_
    rw [← n.is, ← n.is, ev_lt (show h.length - 1 < h.length by omega), ev_ge (show h.length ≤ h.length - 1 + q.length by omega), show h.length - 1 + q.length - h.length = q.length - 1 by omega, g_lt (show q.length - 1 < q.length by omega)]
    have key' : h[h.length - 1]? = some (q.getD (q.length - 1) 0) := key
    rw [show h.getD (h.length - 1) 0 = h[h.length - 1]?.getD 0 from List.getD_eq_getElem?_getD, key']
    rfl
theorem wordV_of {b : Nat} {l : List Nat} (w : IsW (b : Int) l) : wordV b (.str (S l)) = true := by
  show l.all _ = true
  rw [List.all_eq_true]
  intro c hc
  obtain ⟨h1, h2⟩ := w c hc
  have h2' : c < 48 + b := by omega
  simp [h1, h2']
theorem of_wordV {b : Nat} {s : Str} (w : wordV b (.str s) = true) : IsW (b : Int) s.cps.toList := fun c hc => by
  have z := (List.all_eq_true.mp (show s.cps.toList.all _ = true from w)) c hc
  simp at z
  omega
noncomputable instance decLeast (y : List Nat) (s : Nat) : Decidable (Least y s) := Classical.propDecidable _
/-- whether words are those of a normal form -/
noncomputable def sfB (x y : List Nat) : Bool := decide (Least y y.length) && !(Txt.endswith (S x) ⟨#[y.getD (y.length - 1) 0]⟩)
theorem sfB_nf {f : Nat → Nat} {x y : List Nat} (n : Nf f x y) : sfB x y = true := by
  unfold sfB
  obtain ⟨s, e, l⟩ := find_least n.ne
  have := nf_least n l
  subst this
  rw [decide_eq_true l, nf_ends n]
  rfl
/-- what has_stream_form says -/
inductive SF (H : Hp) (b : Nat) (R : Int) : V → Bool → Prop where
  | non {v : V} {t : Value} (p : Pl H v t) (n : ∀ q xs, v = .ref q → H q ≠ some (.tup xs)) : SF H b R v false
  | len {p : Addr} {xs : List V} (h : H p = some (.tup xs)) (n : xs.length ≠ 3) : SF H b R (.ref p) false
  | root {p : Addr} {r x y : V} {tr : Value} (h : H p = some (.tup [r, x, y])) (pr : ∀ H0 : Hp, Pl H0 r tr) (n : withinV 0 (R - 1) r = false) : SF H b R (.ref p) false
  | head {p : Addr} {r x y : V} {tr tx : Value} (h : H p = some (.tup [r, x, y])) (pr : ∀ H0 : Hp, Pl H0 r tr) (w : withinV 0 (R - 1) r = true) (px : ∀ H0 : Hp, Pl H0 x tx) (n : wordV b x = false) : SF H b R (.ref p) false
  | per {p : Addr} {r x y : V} {tr tx ty : Value} (h : H p = some (.tup [r, x, y])) (pr : ∀ H0 : Hp, Pl H0 r tr) (w : withinV 0 (R - 1) r = true) (px : ∀ H0 : Hp, Pl H0 x tx) (wx : wordV b x = true) (py : ∀ H0 : Hp, Pl H0 y ty) (n : wordV b y = false ∨ y = .str "") : SF H b R (.ref p) false
  | fin {p : Addr} {r : V} {x y : List Nat} {tr : Value} (h : H p = some (.tup [r, .str (S x), .str (S y)])) (pr : ∀ H0 : Hp, Pl H0 r tr) (w : withinV 0 (R - 1) r = true) (wx : IsW b x) (wy : IsW b y) (y0 : 0 < y.length) (lx : x.length ≤ 9000) (ly : y.length ≤ 1000) : SF H b R (.ref p) (sfB x y)
theorem pl_keep0 {H H' : Hp} {v : V} {t : Value} (h : Pl H v t) (k : ∀ q o, v = .ref q → (∀ ps, o ≠ .tbl ps) → H q = some o → H' q = some o) : Pl H' v t := by
  cases h with
  | non => exact .non
  | bl b => exact .bl b
  | int n => exact .int n
  | str x h => exact .str x h
  | lst e => exact .lst (k _ _ rfl (fun _ z => nomatch z) e)
  | tup e => exact .tup (k _ _ rfl (fun _ z => nomatch z) e)
  | dct e => exact .dct (k _ _ rfl (fun _ z => nomatch z) e)
theorem nt_keep {H H' : Hp} {v : V} {t : Value} (p : Pl H v t) (n : ∀ q xs, v = .ref q → H q ≠ some (.tup xs)) (k : ∀ q o, v = .ref q → (∀ ps, o ≠ .tbl ps) → H q = some o → H' q = some o) : ∀ q xs, v = .ref q → H' q ≠ some (.tup xs) := by
  intro q xs e
  cases p with
  | lst h =>
    cases e
    rw [k _ (.lst _) rfl (fun _ z => nomatch z) h]
    intro z
    cases z
  | tup h =>
    cases e
    exact absurd h (n _ _ rfl)
  | dct h =>
    cases e
    rw [k _ (.dK _) rfl (fun _ z => nomatch z) h]
    intro z
    cases z
  | _ => cases e
theorem SF.keep {H H' : Hp} {b : Nat} {R : Int} {v : V} {res : Bool} (s : SF H b R v res) (k : ∀ q o, v = .ref q → (∀ ps, o ≠ .tbl ps) → H q = some o → H' q = some o) : SF H' b R v res := by
  cases s with
  | non p n => exact .non (pl_keep0 p k) (nt_keep p n k)
  | len h n => exact .len (k _ _ rfl (fun _ z => nomatch z) h) n
  | root h pr n => exact .root (k _ _ rfl (fun _ z => nomatch z) h) pr n
  | head h pr w px n => exact .head (k _ _ rfl (fun _ z => nomatch z) h) pr w px n
  | per h pr w px wx py n => exact .per (k _ _ rfl (fun _ z => nomatch z) h) pr w px wx py n
  | fin h pr w wx wy y0 lx ly => exact .fin (k _ _ rfl (fun _ z => nomatch z) h) pr w wx wy y0 lx ly
def spStreamForm : Sp := fun vs H Q _ => ∃ (b : Nat) (R : Int) (v : V) (res : Bool), vs = [.int (b : Int), .int R, v] ∧ 2 ≤ b ∧ b ≤ 5 ∧ SF H b R v res ∧ Q (.bl res) H
def spIsStream : Sp := fun vs H Q _ => ∃ (b : Nat) (R r : Int) (p : Addr) (h q : List Nat) (f : Nat → Nat), vs = [.int (b : Int), .int R, .ref p] ∧ 2 ≤ b ∧ b ≤ 5 ∧ 1 ≤ R ∧ R ≤ 5000 ∧ 0 ≤ r ∧ r ≤ R - 1 ∧ H p = some (.tup [.int r, .str (S h), .str (S q)]) ∧ Nf f h q ∧ h.length ≤ 1000 ∧ q.length ≤ 1000 ∧ IsW b h ∧ IsW b q ∧ Q (.bl true) H
theorem SF.right {H : Hp} {b : Nat} {R r : Int} {p : Addr} {h q : List Nat} {f : Nat → Nat} (hp : H p = some (.tup [.int r, .str (S h), .str (S q)])) (r0 : 0 ≤ r) (r1 : r ≤ R - 1) (nf : Nf f h q) (hl : h.length ≤ 9000) (ql : q.length ≤ 1000) (wh : IsW b h) (wq : IsW b q) : SF H b R (.ref p) true := by
  have w1 : withinV 0 (R - 1) (.int r) = true := by
    show (decide (0 ≤ r) && decide (r ≤ R - 1)) = true
    rw [decide_eq_true r0, decide_eq_true r1]
    rfl
  rw [← sfB_nf nf]
  exact .fin hp (fun _ => .int r) w1 wh wq nf.ne hl ql
theorem kit_tup {K : PySem.W.Frag} {H : Hp} {v : V} {t : Value} (p : Pl H v t) (n : ∀ q xs, v = .ref q → H q ≠ some (.tup xs)) : PySem.W.kitOne K t (.type "tuple") = some false := by
  cases p with
  | tup h => exact absurd h (n _ _ rfl)
  | _ => exact kit_ty (by decide +kernel)
section
variable {P : Program} {w : World} {K : PySem.W.Frag} {mg : Str → Option Value} {base : Heap}
theorem scStreamForm : FnScope ["base", "roots", "value", "_", "head", "period"] ["base", "roots", "value"] (defScope sStreamForm) := ⟨rfl, rfl, rfl, by decide +kernel, rfl, by decide +kernel, by decide +kernel⟩
theorem ok_streamform {f fI fW fS : Addr} {fd fdI fdW fdS : FuncData} (F : Fun K "has_stream_form" "has_stream_form" sStreamForm f fd) (GI : FnOk P w K mg base CX0 2 fI fdI ["low", "high", "value"] spWithin) (cI : Cal K mg "is_integer_within" fI fdI ["low", "high", "value"])
    (GW : FnOk P w K mg base CX0 1 fW fdW ["base", "value"] spWordForm) (cW : Cal K mg "has_word_form" fW fdW ["base", "value"]) (GS : FnOk P w K mg base CX0 1 fS fdS ["period"] spShort) (cS : Cal K mg "shortest_period" fS fdS ["period"]) (N : Nm mg) :
    FnOk P w K mg base CX0 3 f fd ["base", "roots", "value"] spStreamForm := by
  refine F.ok scStreamForm (fun vs H Q E h => ?_) (fun cdv A outer s H vs Q E hr h => ?_)
  · obtain ⟨b, R, v, res, rfl, _⟩ := h
    rfl
  · obtain ⟨b, R, v, res, rfl, b2, b5, sf, k⟩ := h
    have nd := scStreamForm.nd
    have hr1 := hr.mono (show 1 ≤ 2 by decide)
    refine ⟨_, pss_cons (ps_if (PW.pt (pw_or (pt_not (pt_val (pe_callB call_isi (by rfl) N.isinst PyProof.Rows.boot_isinstance (pa_cons (pv 2) (pa_cons (pe_bltn (v := .ty "tuple") (by rfl) N.tuple PyProof.Rows.boot_tuple rfl) pa_nil)))))
        (pw_or (pt_cmpR op_ne (pe_callB call_len_seq (by rfl) N.len boot_len (pa_cons (pv 2) pa_nil)) pe_int (nomark _))
        (pw_or1 (pt_not (pt_val (pe_call GI hr rfl cI.mg cI.kp cI.b .nil pass0 (pa_cons pe_int (pa_cons (pe_op op_sub (pv 1) pe_int) (pa_cons (pe_ix ix_tup (pv 2) pe_int (fun _ _ => rfl)) pa_nil))))))))))
        (pss_one (ps_ret pe_bl)) pss_nil)
      (pss_cons (ps_asg (pv 2) (pg_tup rfl (pgs_cons (pg_name (i := 3) nd rfl (.inl rfl)) (pgs_cons (pg_name (i := 4) nd rfl (.inl rfl)) (pgs_cons (pg_name (i := 5) nd rfl (.inl rfl)) pgs_nil)))))
      (pss_cons (ps_if (PW.pt (pw_or (pt_not (pt_val (pe_call GW hr1 rfl cW.mg cW.kp cW.b .nil pass0 (pa_cons (pv 0) (pa_cons (pv 4) pa_nil)))))
        (pw_or (pt_not (pt_val (pe_call GW hr1 rfl cW.mg cW.kp cW.b .nil pass0 (pa_cons (pv 0) (pa_cons (pv 5) pa_nil)))))
        (pw_or1 (pt_cmpR op_eq (pv 5) pe_str (nomark _)))))) (pss_one (ps_ret pe_bl)) pss_nil)
      (pss_one (ps_ret (pe_and (pe_cmpR op_eq (pe_call GS hr1 rfl cS.mg cS.kp cS.b .nil pass0 (pa_cons (pv 5) pa_nil)) (pv 5) (nomark _))
        (pe_one (pe_not (pe_bm PySem.F.plainAttrs_str PySem.F.slot_str_endswith PySem.F.type_str_endswith mt_endswith (pv 4) (pa_cons (pe_ix ix_str (pv 5) (pe_un un_neg pe_int) (fun _ _ => rfl)) pa_nil))))))))), ?_⟩
    have at0 : ∀ r x y : V, atI [r, x, y] 0 = some r := fun _ _ _ => rfl
    cases sf with
    | non p n =>
      refine ⟨_, rfl, _, _, _, _, false, rfl, .ty "tuple", p.tyx, kit_tup p n, _, rfl, ?_⟩
      refine iteT ?_
      exact iteT k
    | @len p xs hp n =>
      refine ⟨_, rfl, _, _, _, _, true, rfl, .ty "tuple", (Pl.tup hp).tyx, kit_ty (by decide +kernel), _, rfl, ?_⟩
      refine iteF ?_
      refine ⟨_, rfl, _, _, rfl, .inr (SqT.of hp), rfl, _, rfl, ?_⟩
      have hb : (!decide (V.int ((xs.length : Nat) : Int) = V.int 3)) = true := by
        rw [decide_eq_false (fun z => n (by have := V.int.inj z; omega))]
        rfl
      exact iteTB hb (iteT k)
    | @root p r x y tr hp pr n =>
      refine ⟨_, rfl, _, _, _, _, true, rfl, .ty "tuple", (Pl.tup hp).tyx, kit_ty (by decide +kernel), _, rfl, ?_⟩
      refine iteF ?_
      refine ⟨_, rfl, p, _, rfl, .inr (SqT.of hp), rfl, _, rfl, ?_⟩
      refine iteFB rfl ?_
      refine ⟨_, rfl, _, _, rfl, rfl, _, rfl, p, _, _, _, rfl, rfl, SqT.of hp, at0 _ _ _, 0, R - 1, _, _, rfl, pr _, _, rfl, ?_⟩
      rw [n]
      exact iteT k
    | @head p r x y tr tx hp pr wr px n =>
      refine ⟨_, rfl, _, _, _, _, true, rfl, .ty "tuple", (Pl.tup hp).tyx, kit_ty (by decide +kernel), _, rfl, ?_⟩
      refine iteF ?_
      refine ⟨_, rfl, p, _, rfl, .inr (SqT.of hp), rfl, _, rfl, ?_⟩
      refine iteFB rfl ?_
      refine ⟨_, rfl, _, _, rfl, rfl, _, rfl, p, _, _, _, rfl, rfl, SqT.of hp, at0 _ _ _, 0, R - 1, _, _, rfl, pr _, _, rfl, ?_⟩
      rw [wr]
      refine iteF ?_
      refine ⟨_, rfl, p, _, rfl, SqT.of hp, rfl, _, _, rfl, _, _, rfl, _, _, rfl, rfl, ?_⟩
      refine ⟨_, rfl, _, rfl, b, _, _, rfl, b2, b5, px _, _, rfl, ?_⟩
      rw [n]
      refine iteT ?_
      exact iteT k
    | @per p r x y tr tx ty hp pr wr px wx py n =>
      refine ⟨_, rfl, _, _, _, _, true, rfl, .ty "tuple", (Pl.tup hp).tyx, kit_ty (by decide +kernel), _, rfl, ?_⟩
      refine iteF ?_
      refine ⟨_, rfl, p, _, rfl, .inr (SqT.of hp), rfl, _, rfl, ?_⟩
      refine iteFB rfl ?_
      refine ⟨_, rfl, _, _, rfl, rfl, _, rfl, p, _, _, _, rfl, rfl, SqT.of hp, at0 _ _ _, 0, R - 1, _, _, rfl, pr _, _, rfl, ?_⟩
      rw [wr]
      refine iteF ?_
      refine ⟨_, rfl, p, _, rfl, SqT.of hp, rfl, _, _, rfl, _, _, rfl, _, _, rfl, rfl, ?_⟩
      refine ⟨_, rfl, _, rfl, b, _, _, rfl, b2, b5, px _, _, rfl, ?_⟩
      rw [wx]
      refine iteF ?_
      refine ⟨_, rfl, _, rfl, b, _, _, rfl, b2, b5, py _, _, rfl, ?_⟩
      cases hw : wordV b y with
      | false =>
        refine iteT ?_
        exact iteT k
      | true =>
        rcases n with n | n
        · rw [n] at hw
          cases hw
        · subst n
          refine iteF ?_
          refine ⟨_, rfl, rfl, _, rfl, ?_⟩
          exact iteTB (decide_eq_true rfl) k
    | @fin p r x y tr hp pr wr wx wy y0 lx ly =>
      refine ⟨_, rfl, _, _, _, _, true, rfl, .ty "tuple", (Pl.tup hp).tyx, kit_ty (by decide +kernel), _, rfl, ?_⟩
      refine iteF ?_
      refine ⟨_, rfl, p, _, rfl, .inr (SqT.of hp), rfl, _, rfl, ?_⟩
      refine iteFB rfl ?_
      refine ⟨_, rfl, _, _, rfl, rfl, _, rfl, p, _, _, _, rfl, rfl, SqT.of hp, at0 _ _ _, 0, R - 1, _, _, rfl, pr _, _, rfl, ?_⟩
      rw [wr]
      refine iteF ?_
      refine ⟨_, rfl, p, _, rfl, SqT.of hp, rfl, _, _, rfl, _, _, rfl, _, _, rfl, rfl, ?_⟩
      have ph : Pl H (.str (S x)) (.type "str") := .str _ (by rw [S_len]; exact lx)
      have pq : Pl H (.str (S y)) (.type "str") := .str _ (by rw [S_len]; omega)
      refine ⟨_, rfl, _, rfl, b, _, _, rfl, b2, b5, ph, _, rfl, ?_⟩
      rw [wordV_of wx]
      refine iteF ?_
      refine ⟨_, rfl, _, rfl, b, _, _, rfl, b2, b5, pq, _, rfl, ?_⟩
      rw [wordV_of wy]
      refine iteF ?_
      have qne : y ≠ [] := fun z => by rw [z] at y0; exact absurd y0 (Nat.lt_irrefl _)
      refine ⟨_, rfl, rfl, _, rfl, ?_⟩
      refine iteFB (decide_eq_false (fun z => qne (str_ne_empty.mp z))) ?_
      refine ⟨_, rfl, y, rfl, y0, ly, fun s l hle => ?_⟩
      by_cases es : s = y.length
      · subst es
        rw [List.take_length]
        refine ⟨_, rfl, rfl, _, rfl, ?_⟩
        refine iteTB (decide_eq_true rfl) ?_
        refine ⟨_, rfl, rfl, _, rfl, _, rfl, _, _, _, rfl, rfl, small_len ly, at_back (t := 0) y0 (by decide), _, _, rfl, rfl, _, rfl, ?_⟩
        rw [Nat.sub_zero]
        unfold sfB at k
        rw [decide_eq_true l, Bool.true_and] at k
        exact k
      · refine ⟨_, rfl, rfl, _, rfl, ?_⟩
        have ne : y.take s ≠ y := fun z => es (by
          have := congrArg List.length z
          rw [List.length_take] at this
          omega)
        refine iteFB (decide_eq_false (fun z => ne (by have e := congrArg (fun s : Str => s.cps.toList) (V.str.inj z); simpa using e))) ?_
        unfold sfB at k
        rw [decide_eq_false (fun z => es (l.unique z)), Bool.false_and] at k
        exact k
/-- what is asked of an error class of the program's own without __init__ -/
structure PfxTxt (K : PySem.W.Frag) (mg : Str → Option Value) (x : Str) (C : Addr) : Prop where
  g : mg x = some (.ref C)
  ex : PySem.W.excIn K C [.type "ValueError", .type "Exception", .type "BaseException", .type "object"] "ValueError.__new__" = true
  kp : PySem.W.keepIn K (.ref C) = true
  bs : PySem.W.subIn K (.ref C) (.type "BaseException") = some true
  ty : PySem.W.typeIn K (.ref C) = some (.type "type")
/-- require_stream -/
def spReqStream (CS : Addr) : Sp := fun vs H Q E => ∃ (b : Nat) (R : Int) (v : V) (res : Bool), vs = [.int (b : Int), .int R, v] ∧ 2 ≤ b ∧ b ≤ 5 ∧ SF H b R v res ∧ (res = true → Q .non H) ∧ (res = false → E (.ref CS) none H)
theorem scReqStream : FnScope ["base", "roots", "stream"] ["base", "roots", "stream"] (defScope sReqStream) := ⟨rfl, rfl, rfl, by decide +kernel, rfl, by decide +kernel, by decide +kernel⟩
theorem ok_reqstream {f fF CS : Addr} {fd fdF : FuncData} (F : Fun K "require_stream" "require_stream" sReqStream f fd) (GF : FnOk P w K mg base CX0 3 fF fdF ["base", "roots", "value"] spStreamForm) (cF : Cal K mg "has_stream_form" fF fdF ["base", "roots", "value"])
    (TS : PfxTxt K mg "InvalidStream" CS) : FnOk P w K mg base (L2.CX P w) 4 f fd ["base", "roots", "stream"] (spReqStream CS) := by
  refine F.okX scReqStream (fun vs H Q E h => ?_) (fun cdv A outer s H vs Q E hr h => ?_)
  · obtain ⟨b, R, v, res, rfl, _⟩ := h
    rfl
  · obtain ⟨b, R, v, res, rfl, b2, b5, sf, k1, k2⟩ := h
    refine ⟨_, pss_one (ps_if (pt_not (pt_val (pe_call GF hr rfl cF.mg cF.kp cF.b .nil pass0 (pa_cons (pv 0) (pa_cons (pv 1) (pa_cons (pv 2) pa_nil))))))
      (pss_one (ps_raise rfl (takes_of rfl rfl rfl rfl) (pmk_own PySem.F.excBase_ValueError TS.ex TS.g TS.kp (raises_own TS.bs TS.ty) rfl))) pss_nil), ?_⟩
    refine ⟨_, rfl, _, rfl, _, rfl, b, R, v, res, rfl, b2, b5, sf, _, rfl, ?_⟩
    cases res with
    | true => exact iteF (k1 rfl)
    | false =>
      refine iteT ?_
      exact k2 rfl
/-- what has_prefix_form says -/
inductive PF (H : Hp) (b : Nat) (R : Int) : V → Bool → Prop where
  | non {v : V} {t : Value} (p : Pl H v t) (n : ∀ q xs, v = .ref q → H q ≠ some (.tup xs)) : PF H b R v false
  | len {p : Addr} {xs : List V} (h : H p = some (.tup xs)) (n : xs.length ≠ 2) : PF H b R (.ref p) false
  | fin {p : Addr} {r x : V} {tr tx : Value} (h : H p = some (.tup [r, x])) (pr : ∀ H0 : Hp, Pl H0 r tr) (px : ∀ H0 : Hp, Pl H0 x tx) : PF H b R (.ref p) (withinV 0 (R - 1) r && wordV b x)
theorem PF.keep {H H' : Hp} {b : Nat} {R : Int} {v : V} {res : Bool} (s : PF H b R v res) (k : ∀ q o, v = .ref q → (∀ ps, o ≠ .tbl ps) → H q = some o → H' q = some o) : PF H' b R v res := by
  cases s with
  | non p n => exact .non (pl_keep0 p k) (nt_keep p n k)
  | len h n => exact .len (k _ _ rfl (fun _ z => nomatch z) h) n
  | fin h pr px => exact .fin (k _ _ rfl (fun _ z => nomatch z) h) pr px
def spPfxForm : Sp := fun vs H Q _ => ∃ (b : Nat) (R : Int) (v : V) (res : Bool), vs = [.int (b : Int), .int R, v] ∧ 2 ≤ b ∧ b ≤ 5 ∧ PF H b R v res ∧ Q (.bl res) H
theorem scPfxForm : FnScope ["base", "roots", "value", "root", "word"] ["base", "roots", "value"] (defScope sPfxForm) := ⟨rfl, rfl, rfl, by decide +kernel, rfl, by decide +kernel, by decide +kernel⟩
theorem ok_pfxform {f fI fW : Addr} {fd fdI fdW : FuncData} (F : Fun K "has_prefix_form" "has_prefix_form" sPfxForm f fd) (GI : FnOk P w K mg base CX0 2 fI fdI ["low", "high", "value"] spWithin) (cI : Cal K mg "is_integer_within" fI fdI ["low", "high", "value"])
    (GW : FnOk P w K mg base CX0 1 fW fdW ["base", "value"] spWordForm) (cW : Cal K mg "has_word_form" fW fdW ["base", "value"]) (N : Nm mg) : FnOk P w K mg base CX0 3 f fd ["base", "roots", "value"] spPfxForm := by
  refine F.ok scPfxForm (fun vs H Q E h => ?_) (fun cdv A outer s H vs Q E hr h => ?_)
  · obtain ⟨b, R, v, res, rfl, _⟩ := h
    rfl
  · obtain ⟨b, R, v, res, rfl, b2, b5, sf, k⟩ := h
    have nd := scPfxForm.nd
    have hr1 := hr.mono (show 1 ≤ 2 by decide)
    refine ⟨_, pss_cons (ps_if (PW.pt (pw_or (pt_not (pt_val (pe_callB call_isi (by rfl) N.isinst PyProof.Rows.boot_isinstance (pa_cons (pv 2) (pa_cons (pe_bltn (v := .ty "tuple") (by rfl) N.tuple PyProof.Rows.boot_tuple rfl) pa_nil)))))
        (pw_or1 (pt_cmpR op_ne (pe_callB call_len_seq (by rfl) N.len boot_len (pa_cons (pv 2) pa_nil)) pe_int (nomark _)))))
        (pss_one (ps_ret pe_bl)) pss_nil)
      (pss_cons (ps_asg (pv 2) (pg_tup rfl (pgs_cons (pg_name (i := 3) nd rfl (.inl rfl)) (pgs_cons (pg_name (i := 4) nd rfl (.inl rfl)) pgs_nil))))
      (pss_one (ps_ret (pe_and (pe_call GI hr rfl cI.mg cI.kp cI.b .nil pass0 (pa_cons pe_int (pa_cons (pe_op op_sub (pv 1) pe_int) (pa_cons (pv 3) pa_nil))))
        (pe_one (pe_call GW hr1 rfl cW.mg cW.kp cW.b .nil pass0 (pa_cons (pv 0) (pa_cons (pv 4) pa_nil)))))))), ?_⟩
    cases sf with
    | non p n =>
      refine ⟨_, rfl, _, _, _, _, false, rfl, .ty "tuple", p.tyx, kit_tup p n, _, rfl, ?_⟩
      refine iteT ?_
      exact iteT k
    | @len p xs hp n =>
      refine ⟨_, rfl, _, _, _, _, true, rfl, .ty "tuple", (Pl.tup hp).tyx, kit_ty (by decide +kernel), _, rfl, ?_⟩
      refine iteF ?_
      refine ⟨_, rfl, _, _, rfl, .inr (SqT.of hp), rfl, _, rfl, ?_⟩
      exact iteTB (by rw [decide_eq_false (fun z => n (by have := V.int.inj z; omega))]; rfl) k
    | @fin p r x tr tx hp pr px =>
      refine ⟨_, rfl, _, _, _, _, true, rfl, .ty "tuple", (Pl.tup hp).tyx, kit_ty (by decide +kernel), _, rfl, ?_⟩
      refine iteF ?_
      refine ⟨_, rfl, p, _, rfl, .inr (SqT.of hp), rfl, _, rfl, ?_⟩
      refine iteFB rfl ?_
      refine ⟨_, rfl, p, _, rfl, SqT.of hp, rfl, _, _, rfl, _, _, rfl, rfl, ?_⟩
      refine ⟨_, rfl, _, _, rfl, rfl, _, rfl, 0, R - 1, _, _, rfl, pr _, _, rfl, ?_⟩
      cases hw : withinV 0 (R - 1) r with
      | false =>
        rw [hw] at k
        exact iteF k
      | true =>
        refine iteT ?_
        rw [hw] at k
        exact ⟨_, rfl, _, rfl, b, x, _, rfl, b2, b5, px _, k⟩
/-- require_prefix -/
def spReqPfx (CX : Addr) : Sp := fun vs H Q E => ∃ (b : Nat) (R : Int) (v : V) (res : Bool), vs = [.int (b : Int), .int R, v] ∧ 2 ≤ b ∧ b ≤ 5 ∧ PF H b R v res ∧ (res = true → Q .non H) ∧ (res = false → E (.ref CX) none H)
theorem scReqPfx : FnScope ["base", "roots", "prefix"] ["base", "roots", "prefix"] (defScope sReqPfx) := ⟨rfl, rfl, rfl, by decide +kernel, rfl, by decide +kernel, by decide +kernel⟩
theorem ok_reqpfx {f fF CX : Addr} {fd fdF : FuncData} (F : Fun K "require_prefix" "require_prefix" sReqPfx f fd) (GF : FnOk P w K mg base CX0 3 fF fdF ["base", "roots", "value"] spPfxForm) (cF : Cal K mg "has_prefix_form" fF fdF ["base", "roots", "value"])
    (TS : PfxTxt K mg "InvalidPrefix" CX) : FnOk P w K mg base (L2.CX P w) 4 f fd ["base", "roots", "prefix"] (spReqPfx CX) := by
  refine F.okX scReqPfx (fun vs H Q E h => ?_) (fun cdv A outer s H vs Q E hr h => ?_)
  · obtain ⟨b, R, v, res, rfl, _⟩ := h
    rfl
  · obtain ⟨b, R, v, res, rfl, b2, b5, sf, k1, k2⟩ := h
    refine ⟨_, pss_one (ps_if (pt_not (pt_val (pe_call GF hr rfl cF.mg cF.kp cF.b .nil pass0 (pa_cons (pv 0) (pa_cons (pv 1) (pa_cons (pv 2) pa_nil))))))
      (pss_one (ps_raise rfl (takes_of rfl rfl rfl rfl) (pmk_own PySem.F.excBase_ValueError TS.ex TS.g TS.kp (raises_own TS.bs TS.ty) rfl))) pss_nil), ?_⟩
    refine ⟨_, rfl, _, rfl, _, rfl, b, R, v, res, rfl, b2, b5, sf, _, rfl, ?_⟩
    cases res with
    | true => exact iteF (k1 rfl)
    | false =>
      refine iteT ?_
      exact k2 rfl
end
end Vf


set_option Elab.async false
set_option maxRecDepth 100000
set_option maxHeartbeats 4000000
set_option exponentiation.threshold 3000
namespace Vm
/-- the first n digits -/
def begN (h q : List Nat) (n : Nat) : List Nat := (List.range n).map (ev h q)
theorem begN_len {h q : List Nat} {n : Nat} : (begN h q n).length = n := by unfold begN; rw [List.length_map, List.length_range]
theorem begN_get {h q : List Nat} {n i : Nat} (hi : i < n) : (begN h q n).getD i 0 = ev h q i := by
  unfold begN
  rw [List.getD_eq_getElem?_getD, List.getElem?_map, List.getElem?_range hi]
  rfl
theorem beg_N {h q : List Nat} {k many : Nat} (hk : many ≤ h.length + k * q.length) : beg h q k many = begN h q many := by
  refine ext_getD (by rw [beg_len hk, begN_len]) fun i hi => ?_
  rw [beg_len hk] at hi
  rw [beg_get hk hi, begN_get hi]
theorem begN_eq {h q h' q' : List Nat} {n : Nat} : begN h q n = begN h' q' n ↔ ∀ i, i < n → ev h q i = ev h' q' i := by
  constructor
  · intro e i hi
    rw [← begN_get hi, e, begN_get hi]
  · intro e
    refine ext_getD (by rw [begN_len, begN_len]) fun i hi => ?_
    rw [begN_len] at hi
    rw [begN_get hi, begN_get hi, e i hi]
theorem begN_is {h q w : List Nat} : begN h q w.length = w ↔ ∀ i, i < w.length → ev h q i = w.getD i 0 := by
  constructor
  · intro e i hi
    rw [← begN_get hi, e]
  · intro e
    refine ext_getD begN_len fun i hi => ?_
    rw [begN_len] at hi
    rw [begN_get hi, e i hi]
/-- w in the place of the first b digits -/
def shF (w : List Nat) (b : Nat) (f : Nat → Nat) (i : Nat) : Nat := if i < w.length then w.getD i 0 else f (i - w.length + b)
theorem shF_lt {w : List Nat} {b : Nat} {f : Nat → Nat} {i : Nat} (h : i < w.length) : shF w b f i = w.getD i 0 := if_pos h
theorem shF_ge {w : List Nat} {b : Nat} {f : Nat → Nat} {i : Nat} (h : w.length ≤ i) : shF w b f i = f (i - w.length + b) := if_neg (by omega)
theorem ev_sh1 {h q w : List Nat} {b : Nat} (hb : b ≤ h.length) (i : Nat) : ev (w ++ h.drop b) q i = shF w b (ev h q) i := by
  have hl : (w ++ h.drop b).length = w.length + (h.length - b) := by rw [List.length_append, List.length_drop]
  by_cases hi : i < w.length
  · rw [shF_lt hi, ev_lt (by omega), getD_app hi]
  · rw [shF_ge (by omega)]
    by_cases h2 : i - w.length + b < h.length
    · rw [ev_lt h2, ev_lt (by omega), getD_app2 (by omega), getD_drop, Nat.add_comm b]
    · rw [ev_ge (by omega), ev_ge (by omega)]
      congr 1
      omega
theorem ev_sh2 {h q w : List Nat} {b : Nat} (hb : h.length ≤ b) (q0 : 0 < q.length) (i : Nat) : ev w (q.drop ((b - h.length) % q.length) ++ q.take ((b - h.length) % q.length)) i = shF w b (ev h q) i := by
  by_cases hi : i < w.length
  · rw [shF_lt hi, ev_lt hi]
  · have hm := Nat.mod_lt (b - h.length) q0
    rw [shF_ge (by omega), ev_ge (by omega), g_rot (by omega), ev_ge (by omega)]
    unfold g
    rw [Nat.add_mod_mod]
    congr 2
    omega
theorem ev_sh {h q w : List Nat} {b : Nat} (q0 : 0 < q.length) (i : Nat) : ev (w ++ h.drop b) (q.drop ((b - h.length) % q.length) ++ q.take ((b - h.length) % q.length)) i = shF w b (ev h q) i := by
  rcases Nat.le_total b h.length with hb | hb
  · have : b - h.length = 0 := by omega
    rw [this, Nat.zero_mod, List.drop_zero, List.take_zero, List.append_nil]
    exact ev_sh1 hb i
  · rw [List.drop_eq_nil_of_le hb, List.append_nil]
    exact ev_sh2 hb q0 i
/-- twice in the place of one another -/
theorem shF_shF {w v : List Nat} {b : Nat} {f g : Nat → Nat} (hg : ∀ i, g i = shF w b f i) (i : Nat) : shF v w.length g i = shF v b f i := by
  by_cases hi : i < v.length
  · rw [shF_lt hi, shF_lt hi]
  · rw [shF_ge (by omega), shF_ge (by omega), hg, shF_ge (by omega)]
    congr 1
    omega
theorem shF_back {w : List Nat} {f : Nat → Nat} (h : ∀ i, i < w.length → f i = w.getD i 0) (i : Nat) : shF w w.length f i = f i := by
  by_cases hi : i < w.length
  · rw [shF_lt hi, h i hi]
  · rw [shF_ge (by omega)]
    congr 1
    omega
end Vm


set_option Elab.async false
set_option maxRecDepth 100000
set_option maxHeartbeats 4000000
/-! Streams compared: how many digits tell them apart, and their order. -/
namespace Vm
def tell (h q h' q' : List Nat) : Nat := max h.length h'.length + q.length + q'.length
theorem ev_step {h q : List Nat} {i : Nat} (hi : h.length ≤ i) : ev h q (i + q.length) = ev h q i := by
  have := ev_per (q := q) (k := 1) hi
  rw [Nat.one_mul] at this
  exact this
/-- a period that holds for one turn of another one holds for ever -/
theorem per_more {f : Nat → Nat} {m p q : Nat} (p0 : 0 < p) (hf : ∀ i, m ≤ i → f (i + p) = f i) (h : ∀ i, m ≤ i → i < m + p → f (i + q) = f i) (i : Nat) (hi : m ≤ i) : f (i + q) = f i := by
  have mul : ∀ k j, m ≤ j → f (j + k * p) = f j := fun k => by
    induction k with
    | zero => intro j _; rw [Nat.zero_mul, Nat.add_zero]
    | succ k ih => intro j hj; rw [Nat.succ_mul, ← Nat.add_assoc, hf _ (by omega), ih j hj]
  have hr := Nat.mod_lt (i - m) p0
  have e : m + (i - m) % p + (i - m) / p * p = i := by
    have := Nat.mod_add_div (i - m) p
    rw [Nat.mul_comm] at this
    omega
  have a := mul ((i - m) / p) (m + (i - m) % p) (by omega)
  rw [e] at a
  have b := mul ((i - m) / p) (m + (i - m) % p + q) (by omega)
  rw [show m + (i - m) % p + q + (i - m) / p * p = i + q by omega] at b
  rw [b, a, h _ (by omega) (by omega)]
/-- what agrees so long agrees for ever -/
theorem ev_tell {h q h' q' : List Nat} (q0 : 0 < q.length) (q1 : 0 < q'.length) (e : ∀ i, i < tell h q h' q' → ev h q i = ev h' q' i) (i : Nat) : ev h q i = ev h' q' i := by
  unfold tell at e
  generalize hm : max h.length h'.length = m at e
  have m1 : h.length ≤ m := by omega
  have m2 : h'.length ≤ m := by omega
  have pf : ∀ i, m ≤ i → ev h q (i + q.length) = ev h q i := fun i hi => ev_step (by omega)
  have pg : ∀ i, m ≤ i → ev h' q' (i + q'.length) = ev h' q' i := fun i hi => ev_step (by omega)
  have pq : ∀ i, m ≤ i → ev h q (i + q'.length) = ev h q i := per_more q0 pf fun i h1 h2 => by
    rw [e _ (by omega), pg i h1, e i (by omega)]
  by_cases hi : i < m
  · exact e i (by omega)
  · have mulf : ∀ k j, m ≤ j → ev h q (j + k * q'.length) = ev h q j := fun k => by
      induction k with
      | zero => intro j _; rw [Nat.zero_mul, Nat.add_zero]
      | succ k ih => intro j hj; rw [Nat.succ_mul, ← Nat.add_assoc, pq _ (by omega), ih j hj]
    have mulg : ∀ k j, m ≤ j → ev h' q' (j + k * q'.length) = ev h' q' j := fun k => by
      induction k with
      | zero => intro j _; rw [Nat.zero_mul, Nat.add_zero]
      | succ k ih => intro j hj; rw [Nat.succ_mul, ← Nat.add_assoc, pg _ (by omega), ih j hj]
    have hr := Nat.mod_lt (i - m) q1
    have ei : m + (i - m) % q'.length + (i - m) / q'.length * q'.length = i := by
      have := Nat.mod_add_div (i - m) q'.length
      rw [Nat.mul_comm] at this
      omega
    have a := mulf ((i - m) / q'.length) (m + (i - m) % q'.length) (by omega)
    have b := mulg ((i - m) / q'.length) (m + (i - m) % q'.length) (by omega)
    rw [ei] at a b
    rw [a, b]
    exact e _ (by omega)
/-- two normal forms that agree so long are the same -/
theorem nf_tell {h q h' q' : List Nat} (n : Nf (ev h q) h q) (n' : Nf (ev h' q') h' q') (e : ∀ i, i < tell h q h' q' → ev h q i = ev h' q' i) : h = h' ∧ q = q' := by
  have f : ev h q = ev h' q' := funext (ev_tell n.ne n'.ne e)
  rw [← f] at n'
  exact n.unique n'
/-- the first place where they differ -/
theorem first_diff {f g : Nat → Nat} : ∀ n, (∀ i, i < n → f i = g i) ∨ ∃ i, i < n ∧ f i ≠ g i ∧ ∀ j, j < i → f j = g j
  | 0 => .inl fun i h => absurd h (Nat.not_lt_zero _)
  | n + 1 => by
    rcases first_diff (f := f) (g := g) n with h | ⟨i, h1, h2, h3⟩
    · by_cases c : f n = g n
      · left
        intro i hi
        rcases Nat.lt_or_ge i n with h4 | h4
        · exact h i h4
        · have : i = n := by omega
          rw [this, c]
      · exact .inr ⟨n, by omega, c, h⟩
    · exact .inr ⟨i, by omega, h2, h3⟩
/-- f comes first within n digits -/
def Lx (f g : Nat → Nat) (n : Nat) : Prop := ∃ i, i < n ∧ f i < g i ∧ ∀ j, j < i → f j = g j
theorem begN_at {h q : List Nat} {n i : Nat} (hi : i < (begN h q n).length) : (begN h q n)[i] = ev h q i := by
  have hi' : i < n := by rw [begN_len] at hi; exact hi
  have z := begN_get (h := h) (q := q) hi'
  rw [List.getD_eq_getElem?_getD, List.getElem?_eq_getElem hi] at z
  exact z
theorem begN_lt {h q h' q' : List Nat} {n : Nat} : begN h q n < begN h' q' n ↔ Lx (ev h q) (ev h' q') n := by
  rw [List.lt_iff_exists]
  constructor
  · rintro (⟨_, h2⟩ | ⟨i, h1, h2, h3, h4⟩)
    · rw [begN_len, begN_len] at h2
      omega
    · refine ⟨i, by rw [begN_len] at h1; exact h1, ?_, fun j hj => ?_⟩
      · rw [begN_at, begN_at] at h4
        exact h4
      · have := h3 j hj
        rw [begN_at, begN_at] at this
        exact this
  · rintro ⟨i, h1, h2, h3⟩
    refine .inr ⟨i, by rw [begN_len]; exact h1, by rw [begN_len]; exact h1, fun j hj => ?_, ?_⟩
    · rw [begN_at, begN_at]
      exact h3 j hj
    · rw [begN_at, begN_at]
      exact h2
theorem Lx.more {f g : Nat → Nat} {n m : Nat} (all : (∀ i, i < n → f i = g i) → ∀ i, f i = g i) (hm : n ≤ m) : Lx f g m ↔ Lx f g n := by
  constructor
  · rintro ⟨i, h1, h2, h3⟩
    refine ⟨i, Nat.lt_of_not_le fun hn => ?_, h2, h3⟩
    have := all (fun j hj => h3 j (by omega)) i
    omega
  · rintro ⟨i, h1, h2, h3⟩
    exact ⟨i, by omega, h2, h3⟩
/-- the order that is told by enough digits -/
theorem lt_enough {h q h' q' : List Nat} {n : Nat} (q0 : 0 < q.length) (q1 : 0 < q'.length) (hn : tell h q h' q' ≤ n) : begN h q (tell h q h' q') < begN h' q' (tell h q h' q') ↔ begN h q n < begN h' q' n := by
  rw [begN_lt, begN_lt]
  exact (Lx.more (ev_tell q0 q1) hn).symm
theorem lt_irr {h q h' q' : List Nat} {n : Nat} (e : ∀ i, ev h q i = ev h' q' i) : ¬ begN h q n < begN h' q' n := by
  rw [begN_lt]
  rintro ⟨i, _, h2, _⟩
  rw [e i] at h2
  omega
end Vm


set_option Elab.async false
set_option maxRecDepth 100000
set_option maxHeartbeats 4000000
set_option exponentiation.threshold 3000
namespace Vf
open PySem L2 SX Vm
theorem cut_takeG {q : List Nat} {s : Nat} : cutS (S q) none (some (s : Int)) = S (q.take s) := by
  rcases Nat.le_total s q.length with h | h
  · exact cut_take h
  · unfold cutS
    rw [S_len, HT.sIx_none, HT.sIx_nat, Nat.min_eq_right h, List.take_of_length_le h]
    show Str.mk _ = Str.mk _
    simp
theorem cut_dropG {q : List Nat} {s : Nat} : cutS (S q) (some (s : Int)) none = S (q.drop s) := by
  rcases Nat.le_total s q.length with h | h
  · exact cut_drop h
  · unfold cutS
    rw [S_len, HT.sIx_none, HT.sIx_nat, Nat.min_eq_right h, List.drop_eq_nil_of_le h]
    show Str.mk _ = Str.mk _
    simp
/-- the first digits of a stream -/
def spLead (K : PySem.W.Frag) : Sp := fun vs H Q _ => ∃ (p : Addr) (r : V) (h q : List Nat) (n : Nat), vs = [.ref p, .int (n : Int)] ∧ SqT K H p [r, .str (S h), .str (S q)] ∧ 0 < q.length ∧ q.length ≤ 1000 ∧ h.length ≤ 9000 ∧ n ≤ 9000 ∧ Q (.str (S (begN h q n))) H
/-- whether a stream begins with a prefix -/
def underB (r : Int) (h q : List Nat) (r' : Int) (w : List Nat) : Bool := decide (r = r') && decide (begN h q w.length = w)
def spUnder (K : PySem.W.Frag) : Sp := fun vs H Q _ => ∃ (p p2 : Addr) (r r' : Int) (h q w : List Nat), vs = [.ref p, .ref p2] ∧ SqT K H p [.int r, .str (S h), .str (S q)] ∧ SqT K H p2 [.int r', .str (S w)] ∧ 0 < q.length ∧ q.length ≤ 1000 ∧ h.length ≤ 1000 ∧ w.length ≤ 1000 ∧ Q (.bl (underB r h q r' w)) H
theorem S_inj {l m : List Nat} (h : S l = S m) : l = m := by
  have := congrArg (fun s : Str => s.cps.toList) h
  simpa using this
section
variable {P : Program} {w : World} {K : PySem.W.Frag} {mg : Str → Option Value} {base : Heap}
theorem scLead : FnScope ["stream", "count", "_", "head", "missing", "period"] ["stream", "count"] (defScope sLead) := ⟨rfl, rfl, rfl, by decide +kernel, rfl, by decide +kernel, by decide +kernel⟩
theorem ok_lead {f : Addr} {fd : FuncData} (F : Fun K "leading_word" "leading_word" sLead f fd) (ml : mg "len" = none) (mx : mg "max" = none) : FnOk P w K mg base CX0 1 f fd ["stream", "count"] (spLead K) := by
  refine F.ok scLead (fun vs H Q E h => ?_) (fun cdv A outer s H vs Q E hr h => ?_)
  · obtain ⟨p, r, h, q, n, rfl, _⟩ := h
    rfl
  · obtain ⟨p, r, h, q, n, rfl, hp, q0, ql, hl, hn, k⟩ := h
    have nd := scLead.nd
    refine ⟨_, pss_cons (ps_asg (pv 0) (pg_tup rfl (pgs_cons (pg_name (i := 2) nd rfl (.inl rfl)) (pgs_cons (pg_name (i := 3) nd rfl (.inl rfl)) (pgs_cons (pg_name (i := 5) nd rfl (.inl rfl)) pgs_nil)))))
      (pss_cons (ps_set (i := 4) nd rfl (.inl rfl) (pe_callB (call_max2 rfl) (by rfl) mx PyProof.Rows.boot_max (pa_cons pe_int (pa_cons (pe_op op_sub (pv 1) (pe_callB call_len_str (by rfl) ml boot_len (pa_cons (pv 3) pa_nil))) pa_nil))))
      (pss_one (ps_ret (pe_slice sl_str (pe_op op_add_str (pv 3) (pe_op op_mul_str (pv 5) (pe_op op_add (pe_op op_fdiv (pv 4) (pe_callB call_len_str (by rfl) ml boot_len (pa_cons (pv 5) pa_nil))) pe_int))) po_none (po_some (pv 1)))))), ?_⟩
    refine ⟨_, rfl, p, _, rfl, hp, rfl, _, _, rfl, _, _, rfl, _, _, rfl, rfl, ?_⟩
    refine ⟨_, rfl, _, rfl, _, rfl, small_lenG hl, _, _, rfl, rfl, 0, _, rfl, ?_⟩
    obtain ⟨m, em⟩ : ∃ m : Nat, m = n - h.length := ⟨_, rfl⟩
    have e1 : (if (n : Int) - ((S h).length : Int) > 0 then (n : Int) - ((S h).length : Int) else 0) = ((m : Nat) : Int) := by
      rw [S_len]
      split <;> omega
    have hmul : (m / q.length + 1) * q.length ≤ m + q.length := by
      rw [Nat.succ_mul]
      exact Nat.add_le_add_right (Nat.div_mul_le_self m q.length) _
    have hdiv : m / q.length ≤ m := Nat.div_le_self _ _
    refine ⟨_, rfl, _, rfl, _, rfl, _, rfl, _, rfl, small_len ql, _, _, rfl, rfl, ?_, _, _, rfl, rfl, q, m / q.length + 1, rfl, ?_, ?_, ?_, ?_, _, _, rfl, rfl, ?_, _, rfl, _, rfl, _, rfl, ?_, ?_⟩
    · rw [e1]
      exact ⟨by rw [S_len]; omega, by rw [S_len]; omega⟩
    · show V.int (_ / _ + 1) = _
      rw [e1, S_len]
      rfl
    · omega
    · omega
    · omega
    · rw [S_len, S_len, rep_len]
      exact Nat.le_trans (show h.length + (m / q.length + 1) * q.length ≤ 20000 by omega) (by decide)
    · rw [S_cat, S_len, List.length_append, rep_len]
      exact Nat.le_trans (show h.length + (m / q.length + 1) * q.length ≤ 20000 by omega) (by decide)
    · rw [S_cat, cut_takeG]
      have hk : n ≤ h.length + (m / q.length + 1) * q.length := by
        have := Nat.lt_div_mul_add (a := m) q0
        rw [Nat.succ_mul]
        omega
      have e := beg_N hk
      unfold beg at e
      rw [e]
      exact k
theorem scUnder : FnScope ["stream", "prefix", "root", "word"] ["stream", "prefix"] (defScope sIsUnder) := ⟨rfl, rfl, rfl, by decide +kernel, rfl, by decide +kernel, by decide +kernel⟩
theorem ok_under {f fL : Addr} {fd fdL : FuncData} (F : Fun K "is_under" "is_under" sIsUnder f fd) (GL : FnOk P w K mg base CX0 1 fL fdL ["stream", "count"] (spLead K)) (cL : Cal K mg "leading_word" fL fdL ["stream", "count"]) (ml : mg "len" = none) : FnOk P w K mg base CX0 2 f fd ["stream", "prefix"] (spUnder K) := by
  refine F.ok scUnder (fun vs H Q E h => ?_) (fun cdv A outer s H vs Q E hr h => ?_)
  · obtain ⟨p, p2, r, r', h, q, w, rfl, _⟩ := h
    rfl
  · obtain ⟨p, p2, r, r', h, q, w, rfl, hp, hp2, q0, ql, hl, wl, k⟩ := h
    have nd := scUnder.nd
    refine ⟨_, pss_cons (ps_asg (pv 1) (pg_tup rfl (pgs_cons (pg_name (i := 2) nd rfl (.inl rfl)) (pgs_cons (pg_name (i := 3) nd rfl (.inl rfl)) pgs_nil))))
      (pss_one (ps_ret (pe_and (pe_cmpR op_eq (pe_ix ix_tup (pv 0) pe_int (fun _ _ => rfl)) (pv 2) (nomark _))
        (pe_one (pe_cmpR op_eq (pe_call GL hr rfl cL.mg cL.kp cL.b .nil pass0 (pa_cons (pv 0) (pa_cons (pe_callB call_len_str (by rfl) ml boot_len (pa_cons (pv 3) pa_nil)) pa_nil))) (pv 3) (nomark _)))))), ?_⟩
    refine ⟨_, rfl, p2, _, rfl, hp2, rfl, _, _, rfl, _, _, rfl, rfl, ?_⟩
    refine ⟨_, rfl, p, _, _, _, rfl, rfl, hp, rfl, _, rfl, rfl, _, rfl, ?_⟩
    by_cases e : r = r'
    · subst e
      refine iteTB (decide_eq_true rfl) ?_
      refine ⟨_, rfl, _, rfl, _, rfl, small_len wl, p, _, h, q, w.length, rfl, hp, q0, ql, (Nat.le_trans hl (by decide)), by omega, _, rfl, rfl, ?_⟩
      unfold underB at k
      rw [decide_eq_true rfl, Bool.true_and] at k
      have e2 : decide (V.str (S (begN h q w.length)) = V.str (S w)) = decide (begN h q w.length = w) := by
        by_cases c : begN h q w.length = w
        · rw [decide_eq_true c, c]
          exact decide_eq_true rfl
        · rw [decide_eq_false c]
          exact decide_eq_false fun z => c (S_inj (V.str.inj z))
      rw [e2]
      exact k
    · refine iteFB (decide_eq_false fun z => e (V.int.inj z)) ?_
      unfold underB at k
      rw [decide_eq_false e, Bool.false_and] at k
      exact k
/-- the prefix new in the place of old, unasked -/
def spWithBeg (K : PySem.W.Frag) : Sp := fun vs H Q _ => ∃ (p p1 p2 : Addr) (r r1 : V) (r2 : Int) (h q v w : List Nat), vs = [.ref p, .ref p1, .ref p2] ∧ SqT K H p [r, .str (S h), .str (S q)] ∧ SqT K H p1 [r1, .str (S v)] ∧ SqT K H p2 [.int r2, .str (S w)] ∧ 0 < q.length ∧ q.length ≤ 400 ∧ h.length ≤ 400 ∧ v.length ≤ 400 ∧ w.length ≤ 400 ∧
  ∀ (h' q' : List Nat) (p' : Addr), Nf (shF w v.length (ev h q)) h' q' → h'.length ≤ w.length + h.length → q'.length ≤ q.length → (∀ c ∈ h', c ∈ w ∨ c ∈ h) → Sub q' q → H p' = none → Q (.ref p') (upd H p' (.tup [.int r2, .str (S h'), .str (S q')]))
theorem scWithBeg : FnScope ["stream", "old", "new", "_", "behind", "head", "period", "root", "turn", "word"] ["stream", "old", "new"] (defScope sWithBeg) := ⟨rfl, rfl, rfl, by decide +kernel, rfl, by decide +kernel, by decide +kernel⟩
theorem ok_withbeg {f fN : Addr} {fd fdN : FuncData} (F : Fun K "with_beginning" "with_beginning" sWithBeg f fd) (GN : FnOk P w K mg base CX0 2 fN fdN ["root", "head", "period"] spNormal) (cN : Cal K mg "normal_stream" fN fdN ["root", "head", "period"]) (ml : mg "len" = none) (mx : mg "max" = none) :
    FnOk P w K mg base CX0 3 f fd ["stream", "old", "new"] (spWithBeg K) := by
  refine F.ok scWithBeg (fun vs H Q E h => ?_) (fun cdv A outer s H vs Q E hr h => ?_)
  · obtain ⟨p, p1, p2, r, r1, r2, h, q, v, w, rfl, _⟩ := h
    rfl
  · obtain ⟨p, p1, p2, r, r1, r2, h, q, v, w, rfl, hp, hp1, hp2, q0, ql, hl, vl, wl, k⟩ := h
    have nd := scWithBeg.nd
    refine ⟨_, pss_cons (ps_asg (pv 0) (pg_tup rfl (pgs_cons (pg_name (i := 3) nd rfl (.inl rfl)) (pgs_cons (pg_name (i := 5) nd rfl (.inl rfl)) (pgs_cons (pg_name (i := 6) nd rfl (.inl rfl)) pgs_nil)))))
      (pss_cons (ps_asg (pv 2) (pg_tup rfl (pgs_cons (pg_name (i := 7) nd rfl (.inl rfl)) (pgs_cons (pg_name (i := 9) nd rfl (.inl rfl)) pgs_nil))))
      (pss_cons (ps_set (i := 4) nd rfl (.inl rfl) (pe_callB call_len_str (by rfl) ml boot_len (pa_cons (pe_ix ix_tup (pv 1) pe_int (fun _ _ => rfl)) pa_nil)))
      (pss_cons (ps_set (i := 8) nd rfl (.inl rfl) (pe_op op_mod (pe_callB (call_max2 rfl) (by rfl) mx PyProof.Rows.boot_max (pa_cons pe_int (pa_cons (pe_op op_sub (pv 4) (pe_callB call_len_str (by rfl) ml boot_len (pa_cons (pv 5) pa_nil))) pa_nil))) (pe_callB call_len_str (by rfl) ml boot_len (pa_cons (pv 6) pa_nil))))
      (pss_one (ps_ret (pe_call GN hr rfl cN.mg cN.kp cN.b .nil pass0 (pa_cons (pv 7) (pa_cons (pe_op op_add_str (pv 9) (pe_slice sl_str (pv 5) (po_some (pv 4)) po_none)) (pa_cons (pe_op op_add_str (pe_slice sl_str (pv 6) (po_some (pv 8)) po_none) (pe_slice sl_str (pv 6) po_none (po_some (pv 8)))) pa_nil))))))))), ?_⟩
    refine ⟨_, rfl, p, _, rfl, hp, rfl, _, _, rfl, _, _, rfl, _, _, rfl, rfl, ?_⟩
    refine ⟨_, rfl, p2, _, rfl, hp2, rfl, _, _, rfl, _, _, rfl, rfl, ?_⟩
    refine ⟨_, rfl, p1, _, _, _, rfl, rfl, hp1, rfl, _, rfl, small_len (by omega), ?_⟩
    obtain ⟨m, em⟩ : ∃ m : Nat, m = (v.length - h.length) % q.length := ⟨_, rfl⟩
    have hm : m < q.length := em ▸ Nat.mod_lt _ q0
    refine ⟨_, rfl, _, rfl, _, rfl, small_len (by omega), _, _, rfl, rfl, 0, _, rfl, _, rfl, _, rfl, small_len (by omega), _, _, rfl, rfl, ?_, ?_⟩
    · show (0 : Int) < ((S q).length : Int)
      rw [S_len]
      omega
    have e1 : (if ((S v).length : Int) - ((S h).length : Int) > 0 then ((S v).length : Int) - ((S h).length : Int) else 0) % ((S q).length : Int) = ((m : Nat) : Int) := by
      rw [S_len, S_len, S_len, em, Int.natCast_emod]
      congr 1
      split <;> omega
    have ap : (S w ++ S (h.drop v.length)) = S (w ++ h.drop v.length) := S_cat _ _
    have ap2 : (S (q.drop m) ++ S (q.take m)) = S (q.drop m ++ q.take m) := S_cat _ _
    have l1 : (q.drop m ++ q.take m).length = q.length := by rw [List.length_append, List.length_drop, List.length_take]; omega
    have l2 : (w ++ h.drop v.length).length ≤ w.length + h.length := by rw [List.length_append, List.length_drop]; omega
    have ecut : cutS (S h) (some ((S v).length : Int)) none = S (h.drop v.length) := by rw [show ((S v).length : Int) = ((v.length : Nat) : Int) by rw [S_len]]; exact cut_dropG
    refine ⟨_, rfl, _, rfl, _, rfl, _, rfl, _, rfl, _, rfl, small_len (by omega), _, _, rfl, rfl, ?_, _, rfl, _, rfl, _, rfl, _, rfl, small_len (by omega), _, rfl, _, rfl, _, rfl, _, rfl, small_len (by omega), _, _, rfl, rfl, ?_, ?_⟩
    · rw [ecut, S_len, S_len, List.length_drop]
      exact Nat.le_trans (show w.length + (h.length - v.length) ≤ 1000 by omega) (by decide)
    · rw [e1, cut_dropG, cut_takeG, S_len, S_len, List.length_drop, List.length_take]
      exact Nat.le_trans (show q.length - m + min m q.length ≤ 1000 by omega) (by decide)
    · rw [e1, ecut, cut_dropG, cut_takeG, ap, ap2]
      refine ⟨.int r2, _, _, rfl, by omega, by omega, by omega, fun h' q' p' nf hl' hq' s1 s2 np => ?_⟩
      refine k h' q' p' ?_ (by omega) (by omega) (fun c hc => ?_) (fun c hc => ?_) np
      · rw [em] at nf
        have e : ev (w ++ h.drop v.length) (q.drop ((v.length - h.length) % q.length) ++ q.take ((v.length - h.length) % q.length)) = shF w v.length (ev h q) := funext fun i => ev_sh q0 i
        rw [e] at nf
        exact nf
      · rcases List.mem_append.mp (s1 c hc) with z | z
        · exact .inl z
        · exact .inr (List.mem_of_mem_drop z)
      · rcases List.mem_append.mp (s2 c hc) with z | z
        · exact List.mem_of_mem_drop z
        · exact List.mem_of_mem_take z
end
end Vf


set_option Elab.async false
set_option maxRecDepth 100000
set_option maxHeartbeats 4000000
set_option exponentiation.threshold 3000
namespace Vf
open PySem L2 SX Vm
/-- begins_with, with its errors -/
def spBegins (K : PySem.W.Frag) (CN CS CX : Addr) : Sp := fun vs H Q E => ∃ (b v x : V) (tb : Value), vs = [b, v, x] ∧ Pl H b tb ∧
  (withinV 2 5 b = false → ∀ d, H d = none → E (.ref CN) (some d) (upd H d (.xd [(("value" : Str), b)]))) ∧
  ∀ n : Nat, b = .int (n : Int) → 2 ≤ n → n ≤ 5 → ∃ res, SF H n 5000 v res ∧ (res = false → E (.ref CS) none H) ∧ (res = true → ∃ res2, PF H n 5000 x res2 ∧ (res2 = false → E (.ref CX) none H) ∧
    (res2 = true → ∃ (p p2 : Addr) (r r' : Int) (h q w : List Nat), v = .ref p ∧ x = .ref p2 ∧ SqT K H p [.int r, .str (S h), .str (S q)] ∧ SqT K H p2 [.int r', .str (S w)] ∧ 0 < q.length ∧ q.length ≤ 1000 ∧ h.length ≤ 1000 ∧ w.length ≤ 1000 ∧ Q (.bl (underB r h q r' w)) H))
/-- replaced, with its errors -/
def spReplaced (K : PySem.W.Frag) (CN CS CX CO : Addr) : Sp := fun vs H Q E => ∃ (b v x y : V) (tb : Value), vs = [b, v, x, y] ∧ Pl H b tb ∧
  (withinV 2 5 b = false → ∀ d, H d = none → E (.ref CN) (some d) (upd H d (.xd [(("value" : Str), b)]))) ∧
  ∀ n : Nat, b = .int (n : Int) → 2 ≤ n → n ≤ 5 → ∃ res, SF H n 5000 v res ∧ (res = false → E (.ref CS) none H) ∧ (res = true → ∃ res2, PF H n 5000 x res2 ∧ (res2 = false → E (.ref CX) none H) ∧
    (res2 = true → ∃ res3, PF H n 5000 y res3 ∧ (res3 = false → E (.ref CX) none H) ∧
    (res3 = true → ∃ (p p1 p2 : Addr) (r r1 r2 : Int) (h q u w : List Nat), v = .ref p ∧ x = .ref p1 ∧ y = .ref p2 ∧ SqT K H p [.int r, .str (S h), .str (S q)] ∧ SqT K H p1 [.int r1, .str (S u)] ∧ SqT K H p2 [.int r2, .str (S w)] ∧ 0 < q.length ∧ q.length ≤ 400 ∧ h.length ≤ 400 ∧ u.length ≤ 400 ∧ w.length ≤ 400 ∧
      (underB r h q r1 u = false → E (.ref CO) none H) ∧ (underB r h q r1 u = true → ∀ (h' q' : List Nat) (p' : Addr), Nf (shF w u.length (ev h q)) h' q' → h'.length ≤ w.length + h.length → q'.length ≤ q.length → (∀ c ∈ h', c ∈ w ∨ c ∈ h) → Sub q' q → H p' = none → Q (.ref p') (upd H p' (.tup [.int r2, .str (S h'), .str (S q')]))))))
section
variable {P : Program} {w : World} {K : PySem.W.Frag} {mg : Str → Option Value} {base : Heap}
theorem within_base {v : V} (h : withinV 2 5 v = true) : ∃ n : Nat, v = .int (n : Int) ∧ 2 ≤ n ∧ n ≤ 5 := by
  cases v with
  | int i =>
    have h' : (decide (2 ≤ i) && decide (i ≤ 5)) = true := h
    simp at h'
    refine ⟨i.toNat, by rw [Int.toNat_of_nonneg (by omega)], by omega, by omega⟩
  | _ => cases h
theorem scBegins : FnScope ["base", "stream", "prefix"] ["base", "stream", "prefix"] (defScope sBegins) := ⟨rfl, rfl, rfl, by decide +kernel, rfl, by decide +kernel, by decide +kernel⟩
theorem ok_begins {f fB fS fX fU CN CS CX : Addr} {fd fdB fdS fdX fdU : FuncData} (F : Fun K "begins_with" "begins_with" sBegins f fd) (GB : FnOk P w K mg base (L2.CX P w) 4 fB fdB ["base"] (spReqB CN 2 5)) (cB : Cal K mg "require_base" fB fdB ["base"])
    (GS : FnOk P w K mg base (L2.CX P w) 4 fS fdS ["base", "roots", "stream"] (spReqStream CS)) (cS : Cal K mg "require_stream" fS fdS ["base", "roots", "stream"]) (GX : FnOk P w K mg base (L2.CX P w) 4 fX fdX ["base", "roots", "prefix"] (spReqPfx CX)) (cX : Cal K mg "require_prefix" fX fdX ["base", "roots", "prefix"])
    (GU : FnOk P w K mg base CX0 2 fU fdU ["stream", "prefix"] (spUnder K)) (cU : Cal K mg "is_under" fU fdU ["stream", "prefix"]) (N : Nm mg) : FnOk P w K mg base (L2.CX P w) 5 f fd ["base", "stream", "prefix"] (spBegins K CN CS CX) := by
  refine F.okX scBegins (fun vs H Q E h => ?_) (fun cdv A outer s H vs Q E hr h => ?_)
  · obtain ⟨b, v, x, tb, rfl, _⟩ := h
    rfl
  · obtain ⟨b, v, x, tb, rfl, pb, k1, k2⟩ := h
    obtain ⟨t2, m2⟩ := N.maxR
    refine ⟨_, pss_cons (ps_expr (pe_call GB hr rfl cB.mg cB.kp cB.b .nil (passes_call (takes_of rfl rfl rfl rfl) (fun _ _ _ _ h => h)) (pa_cons (pv 0) pa_nil)))
      (pss_cons (ps_expr (pe_call GS hr rfl cS.mg cS.kp cS.b .nil (passes_call (takes_of rfl rfl rfl rfl) (fun _ _ _ _ h => h)) (pa_cons (pv 0) (pa_cons (pe_glob (v := .int 5000) rfl m2 ⟨_, rfl⟩) (pa_cons (pv 1) pa_nil)))))
      (pss_cons (ps_expr (pe_call GX hr rfl cX.mg cX.kp cX.b .nil (passes_call (takes_of rfl rfl rfl rfl) (fun _ _ _ _ h => h)) (pa_cons (pv 0) (pa_cons (pe_glob (v := .int 5000) rfl m2 ⟨_, rfl⟩) (pa_cons (pv 2) pa_nil)))))
      (pss_one (ps_ret (pe_call GU (hr.mono (by decide)) rfl cU.mg cU.kp cU.b .nil pass0 (pa_cons (pv 1) (pa_cons (pv 2) pa_nil))))))), ?_⟩
    refine ⟨_, rfl, _, _, rfl, pb, fun hw => ?_, k1⟩
    obtain ⟨n, rfl, n2, n5⟩ := within_base hw
    obtain ⟨res, sf, k3, k4⟩ := k2 n rfl n2 n5
    refine ⟨_, rfl, _, rfl, n, 5000, v, res, rfl, n2, n5, sf, fun z => ?_, k3⟩
    obtain ⟨res2, pf, k5, k6⟩ := k4 z
    refine ⟨_, rfl, _, rfl, n, 5000, x, res2, rfl, n2, n5, pf, fun z2 => ?_, k5⟩
    obtain ⟨p, p2, r, r', h, q, w, rfl, rfl, hp, hp2, q0, ql, hl, wl, k⟩ := k6 z2
    exact ⟨_, rfl, _, rfl, p, p2, r, r', h, q, w, rfl, hp, hp2, q0, ql, hl, wl, k⟩
theorem scReplaced : FnScope ["base", "stream", "old", "new"] ["base", "stream", "old", "new"] (defScope sReplaced) := ⟨rfl, rfl, rfl, by decide +kernel, rfl, by decide +kernel, by decide +kernel⟩
theorem ok_replaced {f fB fS fX fU fW CN CS CX CO : Addr} {fd fdB fdS fdX fdU fdW : FuncData} (F : Fun K "replaced" "replaced" sReplaced f fd) (GB : FnOk P w K mg base (L2.CX P w) 4 fB fdB ["base"] (spReqB CN 2 5)) (cB : Cal K mg "require_base" fB fdB ["base"])
    (GS : FnOk P w K mg base (L2.CX P w) 4 fS fdS ["base", "roots", "stream"] (spReqStream CS)) (cS : Cal K mg "require_stream" fS fdS ["base", "roots", "stream"]) (GX : FnOk P w K mg base (L2.CX P w) 4 fX fdX ["base", "roots", "prefix"] (spReqPfx CX)) (cX : Cal K mg "require_prefix" fX fdX ["base", "roots", "prefix"])
    (GU : FnOk P w K mg base CX0 2 fU fdU ["stream", "prefix"] (spUnder K)) (cU : Cal K mg "is_under" fU fdU ["stream", "prefix"]) (GW : FnOk P w K mg base CX0 3 fW fdW ["stream", "old", "new"] (spWithBeg K)) (cW : Cal K mg "with_beginning" fW fdW ["stream", "old", "new"])
    (TO : PfxTxt K mg "InvalidOperation" CO) (N : Nm mg) : FnOk P w K mg base (L2.CX P w) 5 f fd ["base", "stream", "old", "new"] (spReplaced K CN CS CX CO) := by
  refine F.okX scReplaced (fun vs H Q E h => ?_) (fun cdv A outer s H vs Q E hr h => ?_)
  · obtain ⟨b, v, x, y, tb, rfl, _⟩ := h
    rfl
  · obtain ⟨b, v, x, y, tb, rfl, pb, k1, k2⟩ := h
    obtain ⟨t2, m2⟩ := N.maxR
    refine ⟨_, pss_cons (ps_expr (pe_call GB hr rfl cB.mg cB.kp cB.b .nil (passes_call (takes_of rfl rfl rfl rfl) (fun _ _ _ _ h => h)) (pa_cons (pv 0) pa_nil)))
      (pss_cons (ps_expr (pe_call GS hr rfl cS.mg cS.kp cS.b .nil (passes_call (takes_of rfl rfl rfl rfl) (fun _ _ _ _ h => h)) (pa_cons (pv 0) (pa_cons (pe_glob (v := .int 5000) rfl m2 ⟨_, rfl⟩) (pa_cons (pv 1) pa_nil)))))
      (pss_cons (ps_expr (pe_call GX hr rfl cX.mg cX.kp cX.b .nil (passes_call (takes_of rfl rfl rfl rfl) (fun _ _ _ _ h => h)) (pa_cons (pv 0) (pa_cons (pe_glob (v := .int 5000) rfl m2 ⟨_, rfl⟩) (pa_cons (pv 2) pa_nil)))))
      (pss_cons (ps_expr (pe_call GX hr rfl cX.mg cX.kp cX.b .nil (passes_call (takes_of rfl rfl rfl rfl) (fun _ _ _ _ h => h)) (pa_cons (pv 0) (pa_cons (pe_glob (v := .int 5000) rfl m2 ⟨_, rfl⟩) (pa_cons (pv 3) pa_nil)))))
      (pss_cons (ps_if (pt_not (pt_val (pe_call GU (hr.mono (by decide)) rfl cU.mg cU.kp cU.b .nil pass0 (pa_cons (pv 1) (pa_cons (pv 2) pa_nil)))))
        (pss_one (ps_raise rfl (takes_of rfl rfl rfl rfl) (pmk_own PySem.F.excBase_ValueError TO.ex TO.g TO.kp (raises_own TO.bs TO.ty) rfl))) pss_nil)
      (pss_one (ps_ret (pe_call GW (hr.mono (by decide)) rfl cW.mg cW.kp cW.b .nil pass0 (pa_cons (pv 1) (pa_cons (pv 2) (pa_cons (pv 3) pa_nil)))))))))), ?_⟩
    refine ⟨_, rfl, _, _, rfl, pb, fun hw => ?_, k1⟩
    obtain ⟨n, rfl, n2, n5⟩ := within_base hw
    obtain ⟨res, sf, k3, k4⟩ := k2 n rfl n2 n5
    refine ⟨_, rfl, _, rfl, n, 5000, v, res, rfl, n2, n5, sf, fun z => ?_, k3⟩
    obtain ⟨res2, pf, k5, k6⟩ := k4 z
    refine ⟨_, rfl, _, rfl, n, 5000, x, res2, rfl, n2, n5, pf, fun z2 => ?_, k5⟩
    obtain ⟨res3, pf3, k7, k8⟩ := k6 z2
    refine ⟨_, rfl, _, rfl, n, 5000, y, res3, rfl, n2, n5, pf3, fun z3 => ?_, k7⟩
    obtain ⟨p, p1, p2, r, r1, r2, h, q, u, w, rfl, rfl, rfl, hp, hp1, hp2, q0, ql, hl, ul, wl, k9, k10⟩ := k8 z3
    refine ⟨_, rfl, _, rfl, p, p1, r, r1, h, q, u, rfl, hp, hp1, q0, by omega, by omega, by omega, _, rfl, ?_⟩
    cases hu : underB r h q r1 u with
    | false =>
      refine iteT ?_
      exact k9 hu
    | true =>
      refine iteF ?_
      exact ⟨_, rfl, _, rfl, _, rfl, p, p1, p2, _, _, r2, h, q, u, w, rfl, hp, hp1, hp2, q0, ql, hl, ul, wl, k10 hu⟩
end
end Vf


set_option Elab.async false
set_option maxRecDepth 100000
set_option maxHeartbeats 4000000
set_option exponentiation.threshold 3000
namespace Vm
theorem ev_app {h q : List Nat} (q0 : 0 < q.length) (i : Nat) : ev (h ++ q) q i = ev h q i := by
  by_cases h1 : i < h.length
  · rw [ev_lt h1, ev_lt (by rw [List.length_append]; omega), getD_app h1]
  · rw [ev_ge (h := h) (by omega)]
    by_cases h2 : i < h.length + q.length
    · rw [ev_lt (by rw [List.length_append]; exact h2), getD_app2 (by omega), g_lt (by omega)]
    · rw [ev_ge (by rw [List.length_append]; omega), List.length_append, show i - h.length = i - (h.length + q.length) + q.length by omega, g_add]
end Vm
namespace Vf
open PySem L2 SX Vm
def spLReplaced (K : PySem.W.Frag) : Sp := fun vs H Q _ => ∃ (p p1 p2 : Addr) (r r1 r2 : V) (h q v w : List Nat), vs = [.ref p, .ref p1, .ref p2] ∧ SqT K H p [r, .str (S h), .str (S q)] ∧ SqT K H p1 [r1, .str (S v)] ∧ SqT K H p2 [r2, .str (S w)] ∧ 0 < q.length ∧ q.length ≤ 100 ∧ h.length ≤ 100 ∧ v.length ≤ 200 ∧ w.length ≤ 200 ∧
  ∀ (h' q' : List Nat) (p' : Addr) (H' : Hp), Nf (shF w v.length (ev h q)) h' q' → Same H H' → H p' = none → H' p' = some (.tup [r2, .str (S h'), .str (S q')]) → Q (.ref p') H'
section
variable {P : Program} {w : World} {K : PySem.W.Frag} {mg : Str → Option Value} {base : Heap}
end
end Vf


set_option Elab.async false
set_option maxRecDepth 100000
set_option maxHeartbeats 4000000
/-! Calls of which it is known that no repr is under way around them; repr of plain data; counting in a list. -/
namespace VG
open PySem PySem.Spec PyProof.Rows L2
/-- a def's promise, where no repr runs around the call -/
structure FnG (P : Program) (w : World) (K : PySem.W.Frag) (mg : Str → Option Value) (base : Heap) (k : Nat) (f : Addr) (fd : FuncData) (ps : List Str) (sp : Sp) : Prop where
  len : ∀ vs H Q E, sp vs H Q E → vs.length = ps.length
  at_ : ∀ {A : Around} {outer : List Env} {s : Shared} {H : Hp} {args : Args} {us : List Value} {vs : List V} {Q : VK} {E : XK}, A.guards = some [] → Room k A → Env0 P w K mg base A outer s H → BindsTo s fd args (ps.zip us) → Vals vs us → sp vs H Q E →
    codeAny (model P w) A (.call (.ref f) args) (CR L2.CX0 outer P w H s Q E) s
section
variable {P : Program} {w : World} {K : PySem.W.Frag} {mg : Str → Option Value} {base : Heap}
theorem FnG.of {x qual : Str} {st : Stmt} {f : Addr} {fd : FuncData} {N ps : List Str} {k : Nat} {sp : Sp} (F : Fun K x qual st f fd) (S : FnScope N ps (defScope st)) (len : ∀ vs H Q E, sp vs H Q E → vs.length = ps.length)
    (body : ∀ (cdv : Value) (A : Around) (outer : List Env) (s : Shared) (H : Hp) (vs : List V) (Q : VK) (E : XK), A.guards = some [] → Room k (A.deeper (envOfC qual (defScope st) s.heap.objs.size f cdv)) → PySem.W.codeIn K cdv qual = true → (∃ (oc : Value) (od : Option Addr) (kV doc pm : Value) (an : Option Addr) (ct : Value) (osl : Array (Option Value)), K.lookup f = some ⟨oc, od, .func (PySem.W.fnOf x qual (defArgs st) (defBody st) (defScope st) .none kV doc pm an cdv ct), osl⟩) → sp vs H Q E →
      ∃ t, PSs (cxOf L2.CX0 P w K mg base N qual (defScope st) f cdv A outer s H E).nox (defBody st) t ∧ t { nx := fun _ H' => Q .non H', rt := Q } (L2.start N vs) H) : FnG P w K mg base (k + 1) f fd ps sp := by
  obtain ⟨oc, od, kV, doc, pm, an, cdv, ct, osl, rfl, lk, hcd⟩ := F.ex
  refine ⟨len, fun {A outer s H args us vs Q E} hg hr e0 hb r hs => LamX.run_ofS lk hcd S hr e0 hb r (len _ _ _ _ hs) fun hr' => ?_⟩
  obtain ⟨t, h1, h2⟩ := body cdv A outer s H vs Q E hg hr' hcd ⟨_, _, _, _, _, _, _, _, lk⟩ hs
  exact ⟨t, h1.nox, h2⟩
end
section
variable {X : Cx} {k : Nat} {f : Addr} {fd : FuncData} {ps : List Str} {sp : Sp} {x : Str} {p pos : Pos} {e : Expr} {es : List Expr} {t : TA}
theorem pe_callG (G : FnG X.prog X.w X.K X.mg X.base k f fd ps sp) (gd : X.A.guards = some []) (hr : Room k X.A) (hg : Gl X x) (hm : X.mg x = some (.ref f)) (hk : PySem.W.keepIn X.K (.ref f) = true) (hb : Binds X.K fd ps [])
    (ha : PA X (e :: es) t) (hdb : (x == ("__debug__" : Str)) = false := by decide) (he : starEach (e :: es) X.env = (false, eval e X.env) :: starEach es X.env := by rfl) (hpl : (backTo pos (starEach es X.env)).any (·.1) = false := by rfl) :
    PE X (.Call (.Name x p) (e :: es) [] pos) (tCall sp [] E0 t) := by
  constructor
  intro pins s σ H Q I h
  refine wpAny_Call_Name_kw (ld_glob I hg hm (PySem.W.callWith_K I.ok.mod.kin hk (thn (ha.run pos pins s σ H _ I h) ?_) he hpl) hdb)
  rintro us s1 ⟨vs, H1, J, rv, q⟩
  refine ⟨J.kIn, ?_⟩
  have q' : sp vs H1 Q E0 := by
    have q0 : sp (vs ++ []) H1 Q E0 := q
    rw [List.append_nil] at q0
    exact q0
  have hz : (us ++ []).length = ps.length := by rw [List.append_nil, ← rv.length, G.len _ _ _ _ q']
  have hbt := hb s1 us J.kIn hz
  rw [List.append_nil] at hbt
  refine wpAny_call (codeAny_mono (G.at_ gd hr J.env0 hbt rv q') fun r s2 z => ?_)
  match r, z with
  | .ok (.ret _), z => exact J.after z
  | .ok .next, z => exact z.elim
  | .ok .brk, z => exact z.elim
  | .ok .cont, z => exact z.elim
  | .error _, z => exact (show False from z).elim
end
end VG


set_option Elab.async false
set_option maxRecDepth 100000
set_option maxHeartbeats 4000000
/-! The end of a law whose def's promise is of the kind FnG, with tables of code objects. -/
namespace VG
open PySem PySem.Spec PyProof.Rows L2
theorem endG {P : Program} {w : World} {K : PySem.W.Frag} {mg mb : Str → Option Value} {k : Nat} {fa a : Addr} {cs : List (Addr × Addr)} {fd : FuncData} {x : Str} {sp : Sp} {s : Shared} {vs : List Value} {ns : List Int}
    (kin : K.In s.heap) (gl : s.heap.Ns mainGlobals mg) (bl : s.heap.Ns builtinsNs mb) (bb : ∀ y : Str, y ≠ "__name__" → mb y = bootBuiltins y) (lim : s.heap.NoLimit) (gens : s.gens = #[])
    (tab : ∀ p ∈ cs, s.heap.get? p.2 = some { cls := .none, data := .fields #[] }) (out : ∀ p ∈ cs, K.lookup p.2 = none) (code : ∀ p ∈ cs, PySem.W.CodeHd s.heap p.1 p.2)
    (bm : ∃ (m : Addr) (o : Obj), mg "__builtins__" = some (.ref m) ∧ m ≠ builtinsNs ∧ s.heap.get? m = some o ∧ o.cls = .type "module" ∧ o.dict = some builtinsNs ∧ o.data = .plain)
    (scr : s.heap.get? a = some { cls := .type "list", data := .seq vs.toArray }) (hia : IntsAre vs ns) (sz : ns.length ≤ sizeLine) (room : Room k callerA)
    (F : ∀ base : Heap, K.In base → base.Ns mainGlobals mg → (∀ p ∈ cs, LamX.TabB base mg p.1 p.2) → FnG P w K mg base k fa fd [x] sp) (bind : ∀ (s : Shared) (u : Value), BindsTo s fd ⟨[u], []⟩ [(x, u)])
    (hsp : ∀ H : Hp, (∀ p ∈ cs, H p.2 = some (.tbl #[])) → SqL K H a (ns.map V.int) → sp [.ref a] H (fun v _ => v = .bl true) fun _ _ _ => False) :
    codeAny (model P w) callerA (.call (.ref fa) ⟨[.ref a], []⟩) (fun r s' => r = .ok (.ret (.bool true)) ∧ OldK s.heap s'.heap ∧ s'.os = s.os ∧ AllBare s'.gens) s := by
  classical
  have rv := vals_ints hia
  -- what is tracked: the tables, and the script unless the module holds it
  obtain ⟨H, hT, hA, hN⟩ : ∃ H : Hp, (∀ p ∈ cs, H p.2 = some (.tbl #[])) ∧ (K.lookup a = none → H a = some (.frz { cls := .type "list", data := .seq vs.toArray } (.lst (ns.map V.int)))) ∧
      ∀ b o, H b = some o → (o = .tbl #[] ∧ ∃ p ∈ cs, p.2 = b) ∨ (o = .frz { cls := .type "list", data := .seq vs.toArray } (.lst (ns.map V.int)) ∧ b = a ∧ K.lookup a = none) := by
    refine ⟨fun b => if ∃ p ∈ cs, p.2 = b then some (.tbl #[]) else if b = a ∧ K.lookup a = none then some (.frz { cls := .type "list", data := .seq vs.toArray } (.lst (ns.map V.int))) else none, fun p hp => if_pos ⟨p, hp, rfl⟩, fun hk => ?_, fun b o e => ?_⟩
    · have no : ¬ ∃ p ∈ cs, p.2 = a := fun ⟨p, hp, e⟩ => by
        have z := tab p hp
        rw [e, scr] at z
        cases z
      exact (if_neg no).trans (if_pos ⟨rfl, hk⟩)
    · by_cases c1 : ∃ p ∈ cs, p.2 = b
      · simp only [if_pos c1] at e
        exact .inl ⟨(Option.some.inj e).symm, c1⟩
      · simp only [if_neg c1] at e
        by_cases c2 : b = a ∧ K.lookup a = none
        · simp only [if_pos c2] at e
          exact .inr ⟨(Option.some.inj e).symm, c2⟩
        · simp only [if_neg c2] at e
          cases e
  have hseq : SqL K H a (ns.map V.int) := by
    cases hk : K.lookup a with
    | none => exact .inl (.inr ⟨_, hA hk⟩)
    | some o =>
      have e := kin a o hk
      rw [scr] at e
      cases e
      exact .inr ⟨_, vs.toArray, _, hk, rfl, rfl, rfl, by rw [List.size_toArray, hia.length]; exact sz, by simpa using rv⟩
  have ok : HOk P w H s.heap := fun b o e => by
    rcases hN b o e with ⟨rfl, p, hp, rfl⟩ | ⟨rfl, rfl, _⟩
    · exact tab p hp
    · exact ⟨scr, by rw [List.length_map]; exact sz, vs, _, rv, scr⟩
  -- an object of another shape is not tracked
  have off : ∀ {b : Addr} {o : Obj}, s.heap.get? b = some o → (∀ z n, o.data ≠ .seq z n) → o.data ≠ .fields #[] → H b = none := fun {b o} e h1 h2 => by
    cases q : H b with
    | none => rfl
    | some u =>
      rcases hN b u q with ⟨_, p, hp, rfl⟩ | ⟨_, rfl, _⟩
      · rw [tab p hp] at e
        cases e
        exact (h2 rfl).elim
      · rw [scr] at e
        cases e
        exact (h1 _ _ rfl).elim
  have offD : ∀ {b : Addr} {m : Str → Option Value}, s.heap.Ns b m → (hidT s.heap H).Ns b m := fun {b m} ⟨o, es, ep, e, d, r⟩ =>
    ⟨o, es, ep, hidT_get e (off e (fun z n y => by rw [d] at y; cases y) (fun y => by rw [d] at y; cases y)), d, r⟩
  have kinB : K.In (hidT s.heap H) := fun b o e => hidT_get (kin b o e) (by
    cases q : H b with
    | none => rfl
    | some u =>
      rcases hN b u q with ⟨_, p, hp, rfl⟩ | ⟨_, rfl, hk⟩
      · rw [out p hp] at e; cases e
      · rw [hk] at e; cases e)
  have md : L2.Mod K mg (hidT s.heap H) := ⟨kinB, offD gl, ⟨mb, offD bl, bb⟩, let ⟨mc, h1, h2⟩ := lim; ⟨mc, offD h1, h2⟩⟩
  have TB : ∀ p ∈ cs, LamX.TabB (hidT s.heap H) mg p.1 p.2 := fun p hp => by
    refine ⟨?_, ?_, fun z => ?_⟩
    · obtain ⟨o, us, file, tf, flags, tg, inF, text, tt, e1, c1, c2, c3, r⟩ := code p hp
      refine ⟨o, us, file, tf, flags, tg, inF, text, tt, hidT_get e1 (off e1 (fun z n y => ?_) (fun y => ?_)), c1, c2, c3, r⟩
      · rw [c2] at y; cases y
      · rw [c2] at y
        cases y
        simp at c3
    · obtain ⟨m, o, b1, b2, b3, b4, b5, b6⟩ := bm
      refine ⟨m, o, b1, b2, fun z => ?_, fun z => ?_, hidT_get b3 (off b3 (fun z n y => by rw [b6] at y; cases y) (fun y => by rw [b6] at y; cases y)), b4, b5, b6⟩
      · obtain ⟨o', es, ep, e, d, _⟩ := gl
        rw [z, e] at b3
        cases b3
        rw [d] at b6
        cases b6
      · rw [z, tab p hp] at b3
        cases b3
        cases b6
    · obtain ⟨o', es, ep, e, d, _⟩ := gl
      rw [z, tab p hp] at e
      cases e
      cases d
  have e0 : Env0 P w K mg (hidT s.heap H) callerA [] s H :=
    ⟨rfl, md, fun _ _ e => of_hidT e, Nat.le_of_eq (hidT_size _ _), trivial, fun _ hb => absurd hb (List.not_mem_nil), ok, .of_eq gens⟩
  refine codeAny_mono ((F _ kinB (offD gl) TB).at_ (args := ⟨[.ref a], []⟩) (us := [.ref a]) (vs := [.ref a]) rfl room e0 (bind s (.ref a)) (.cons rfl .nil) (hsp H hT hseq)) fun r s' z => ?_
  match r, z with
  | .ok .next, z => exact z.elim
  | .ok .brk, z => exact z.elim
  | .ok .cont, z => exact z.elim
  | .error _, z => exact (show False from z).elim
  | .ok (.ret u), z =>
    obtain ⟨v, H', os, bare, un, ok', rel, q⟩ := z
    have q' : v = .bl true := q
    subst q'
    obtain rfl : u = Value.bool true := rel
    -- every object but the tables is as it was; the tables have grown
    have same : ∀ b o, (∀ p ∈ cs, p.2 ≠ b) → s.heap.get? b = some o → s'.heap.get? b = some o := fun b o nb e => by
      cases q : H b with
      | none => exact un.keep b o e q (fun y => absurd y List.not_mem_nil) (fun y => absurd y List.not_mem_nil)
      | some t =>
        rcases hN b t q with ⟨_, p, hp, y⟩ | ⟨rfl, rfl, _⟩
        · exact absurd y (nb p hp)
        · have y := ok' b _ (un.frzs b _ _ q)
          rw [scr] at e
          cases e
          exact y.1
    have grown : ∀ p ∈ cs, ∃ more : Array Value, s'.heap.get? p.2 = some { cls := .none, data := .fields more } := fun p hp => by
      obtain ⟨more, y⟩ := un.tbls p.2 #[] (hT p hp)
      exact ⟨_, ok' p.2 _ y⟩
    refine ⟨rfl, ⟨fun b o e => ?_, fun b o e => ?_⟩, os, bare⟩
    · by_cases c : ∃ p ∈ cs, p.2 = b
      · obtain ⟨p, hp, rfl⟩ := c
        obtain ⟨more, y⟩ := grown p hp
        rw [tab p hp] at e
        cases e
        exact .inr (.inl ⟨((code p hp).tab (tab p hp)).isCodeTable, rfl, #[], more, rfl, by rw [Array.empty_append]; exact y⟩)
      · exact .inl (same b o (fun p hp y => c ⟨p, hp, y⟩) e)
    · by_cases c : ∃ p ∈ cs, p.2 = b
      · obtain ⟨p, hp, rfl⟩ := c
        obtain ⟨more, y⟩ := grown p hp
        exact ⟨_, y⟩
      · exact ⟨o, same b o (fun p hp y => c ⟨p, hp, y⟩) e⟩
/-- what is known of the law's def at the head's heap -/
def LawG (l : PySem.W.OpenLaw) (w : World) (K : PySem.W.Frag) (k n : Nat) (x : Str) (mg : Str → Option Value) (fa : Addr) (h : Heap) : Prop :=
  ∃ (fd : FuncData) (cs : List (Addr × Addr)) (sp : Sp), (∀ p ∈ cs, h.get? p.2 = some { cls := .none, data := .fields #[] }) ∧ (∀ p ∈ cs, K.lookup p.2 = none) ∧ (∀ p ∈ cs, PySem.W.CodeHd h p.1 p.2) ∧ (∀ (s : Shared) (u : Value), BindsTo s fd ⟨[u], []⟩ [(x, u)]) ∧
    (∀ (H : Hp) (a : Addr) (ns : List Int), ns.length ≤ n → (∀ p ∈ cs, H p.2 = some (.tbl #[])) → SqL K H a (ns.map V.int) → sp [.ref a] H (fun v _ => v = .bl true) fun _ _ _ => False) ∧
    ∀ base : Heap, K.In base → base.Ns mainGlobals mg → (∀ p ∈ cs, LamX.TabB base mg p.1 p.2) → FnG l.prog w K mg base k fa fd [x] sp
theorem walkG {l : PySem.W.OpenLaw} {n k : Nat} {q : Program} {loose : List Str} {XP : (Str → Option Value) → Heap → Prop} {YP : World → Heap → Prop} {d : DefRec} {K : Params → PySem.W.Frag} {x : Str}
    (hn : l.most = some n) (hn2 : n ≤ sizeLine) (hdf : d.params.defaults = []) (hr : Room k callerA) (hY : ∀ (w : World) (h : Heap), YP w h → (K w.params).In h)
    (F : ∀ (w : World) (mg : Str → Option Value) (fa : Addr) (h : Heap), YP w h → (K w.params).In h → h.Ns mainGlobals mg → mg d.name = some (.ref fa) → LawG l w (K w.params) k n x mg fa h) :
    PySem.W.WalkO q loose XP YP l.row.toRowW d [] (fun f vs => PySem.call f vs) := by
  refine Att.attach_callB hn hdf fun w s₀ s₁ mg mb fa o pm cd doc a vs ns G Y ho hd hcd hmg hobj hints hlen hbits hg => ?_
  obtain ⟨fd, cs, sp, h1, h2, h3, h4, h5, h6⟩ := F w mg fa _ Y (hY w _ Y) G.T.g hmg
  exact endG (hY w _ Y) G.T.g G.T.b G.T.builtins G.T.nolimit hg h1 h2 h3 G.T.bmain hobj hints (Nat.le_trans hlen hn2) hr h6 h4 fun H t sq => h5 H a ns hlen t sq
end VG


set_option Elab.async false
set_option maxRecDepth 100000
set_option maxHeartbeats 4000000
/-! repr of plain data; how often a value lies in a list. -/
namespace VG
open PySem PySem.Spec PyProof.Rows L2
inductive Fl : V → PyData → Prop where
  | non : Fl .non .none
  | bl (b : Bool) : Fl (.bl b) (.bool b)
  | int (n : Int) : Fl (.int n) (.int n)
  | str (s : Str) : Fl (.str s) (.str s)
inductive Fls : List V → List PyData → Prop where
  | nil : Fls [] []
  | cons {v d vs ds} : Fl v d → Fls vs ds → Fls (v :: vs) (d :: ds)
/-- what a value shows, as the abstract heap tells it -/
inductive Sh (H : Hp) : V → PyData → Prop where
  | fl {v d} (h : Fl v d) : Sh H v d
  | lst {p xs ds} (h : H p = some (.lst xs)) (f : Fls xs ds) : Sh H (.ref p) (.list ds)
  | tup {p xs ds} (h : H p = some (.tup xs)) (f : Fls xs ds) : Sh H (.ref p) (.tuple ds)
  | dct {p} (h : H p = some (.dK [])) : Sh H (.ref p) (.dict [])
theorem Fls.flat : ∀ {vs : List V} {ds : List PyData}, Fls vs ds → PyData.depthAll ds = 0 ∧ PyData.hasDictAll ds = false
  | _, _, .nil => ⟨rfl, rfl⟩
  | _, _, .cons a r => by
    obtain ⟨h1, h2⟩ := r.flat
    cases a <;> exact ⟨by show max _ _ = 0; rw [h1]; rfl, by show (_ || _) = false; rw [h2]; rfl⟩
theorem reads_fl {h : Heap} {v : V} {d : PyData} {u : Value} (f : Fl v d) (r : RelV v u) : Reads h u d [] := by
  cases f with
  | non => cases (show u = Value.none from r); exact .none
  | bl b => cases (show u = Value.bool b from r); exact .bool b
  | int n => obtain ⟨t, rfl⟩ := (show ∃ t, u = Value.int n t from r); exact .int n t
  | str s => obtain ⟨t, rfl⟩ := (show ∃ t, u = Value.str s t from r); exact .str s t
theorem reads_fls {h : Heap} : ∀ {vs : List V} {ds : List PyData} {us : List Value}, Fls vs ds → Vals vs us → ReadsAll h us ds []
  | _, _, _, .nil, .nil => .nil
  | _, _, _, .cons a b, .cons r t => by
    have z := ReadsAll.cons (reads_fl (h := h) a r) (reads_fls b t)
    exact z
section
variable {X : Cx}
/-- repr(v), where no repr is under way -/
def rRepr : List V → Hp → VK → Prop := fun xs H Q => ∃ (v : V) (d : PyData), xs = [v] ∧ Sh H v d ∧ d.showable = true ∧ d.shown.length ≤ sizeLine ∧ Q (.str d.shown) H
theorem call_repr (gd : X.A.guards = some []) (hu : X.A.units + 10 < cLine) : CallR X (.builtin "repr") rRepr := by
  intro pins s σ H xs us Q I r h
  obtain ⟨v, d, rfl, sh, hs, hz, q⟩ := h
  obtain ⟨u, rfl, ru⟩ : ∃ u, us = [u] ∧ RelV v u := by
    cases r with
    | cons a b => cases b; exact ⟨_, rfl, a⟩
  have fin : ∀ (h' : Heap) (t : Tok) (tk : Tok), (∀ b o, s.heap.get? b = some o → h'.get? b = some o) → EP X pins σ Q (.str d.shown t) { s with heap := h', toks := tk } := fun h' t tk k => ⟨.str d.shown, H, I.kept (t' := tk) k, ⟨t, rfl⟩, q⟩
  cases sh with
  | fl f =>
    cases f with
    | non => cases (show u = Value.none from ru); exact PySem.P.repr_of_none (fin s.heap _ _ fun _ _ z => z)
    | bl b => cases (show u = Value.bool b from ru); refine PySem.P.repr_of_bool ?_; cases b <;> exact fin s.heap _ _ fun _ _ z => z
    | int n => obtain ⟨t, rfl⟩ := (show ∃ t, u = Value.int n t from ru); exact PySem.P.repr_of_int (of_decide_eq_true hs) (fin s.heap _ _ fun _ _ z => z)
    | str x => obtain ⟨t, rfl⟩ := (show ∃ t, u = Value.str x t from ru); exact PySem.P.repr_of_str (fin s.heap _ _ fun _ _ z => z) hz
  | @lst p vs ds hp f =>
    cases (show u = Value.ref p from ru)
    obtain ⟨_, its, n, rv, ho⟩ := (show ObjOk X.prog X.w H s.heap p (.lst vs) from I.hok p _ hp)
    obtain ⟨f1, f2⟩ := f.flat
    have rd : Reads s.heap (.ref p) (.list ds) (p :: []) := .list ho rfl rfl (reads_fls f rv)
    refine repr_of_reads' rd hs (PyData.noDict_hsm f2) gd ?_ (fun _ _ e => e) (fun h' t tk k => fin h' t tk k) hz
    show X.A.units + (PyData.depthAll ds + 1 + 1) < cLine
    rw [f1]
    omega
  | @tup p vs ds hp f =>
    cases (show u = Value.ref p from ru)
    obtain ⟨_, its, rv, o, h1, h2, n, h3⟩ := (show ObjOk X.prog X.w H s.heap p (.tup vs) from I.hok p _ hp)
    obtain ⟨f1, f2⟩ := f.flat
    have rd : Reads s.heap (.ref p) (.tuple ds) [] := .tuple h1 h2 h3 (reads_fls f rv)
    refine repr_of_reads' rd hs (PyData.noDict_hsm f2) gd ?_ (fun _ _ e => e) (fun h' t tk k => fin h' t tk k) hz
    show X.A.units + (PyData.depthAll ds + 1 + 1) < cLine
    rw [f1]
    omega
  | @dct p hp =>
    cases (show u = Value.ref p from ru)
    obtain ⟨_, hm, vs, kv, o, es, ep, h1, h2, h3⟩ := (show ObjOk X.prog X.w H s.heap p (.dK []) from I.hok p _ hp)
    cases kv
    obtain ⟨hd, _, hp2, _⟩ := h3
    have he : es.toList = [] := by
      generalize es.toList = l at hp2
      cases hp2
      rfl
    have rd : Reads s.heap (.ref p) (.dict []) (p :: [] ++ []) := .dict h1 h2.1 hd (by rw [he]; exact .nil) (by rw [he]; exact .nil)
    refine repr_of_reads' rd hs (fun _ z => ?_) gd ?_ (fun _ _ e => e) (fun h' t tk k => fin h' t tk k) hz
    · have z' : sysModules = p := by simpa using z
      rw [z'] at hm
      simp at hm
    · show X.A.units + (0 + 1 + 1) < cLine
      omega
/-- how often a plain value lies in a list of such -/
def rCount (K : PySem.W.Frag) : V → List V → Hp → VK → Prop := fun x xs H Q => ∃ (a : Addr) (ys : List V) (y : V), x = .ref a ∧ xs = [y] ∧ SqL K H a ys ∧ flatV y = true ∧ ys.all flatV = true ∧ Q (.int ((ys.countP fun z => eqV z y : Nat) : Int)) H
theorem countP_vals {y : V} : ∀ {ys : List V} {us : List Value}, Vals ys us → ys.all flatV = true → us.countP (eqU y) = ys.countP fun z => eqV z y
  | _, _, .nil, _ => rfl
  | z :: ys, u :: us, .cons r t, f => by
    rw [List.all_cons, Bool.and_eq_true] at f
    rw [List.countP_cons, List.countP_cons, countP_vals t f.2, eqU_of r f.1]
theorem mt_count : MtR X "list.count" (rCount X.K) := by
  intro pins s σ H x xs v us Q I rx rxs h
  obtain ⟨a, ys, y, rfl, rfl, hs, fy, fys, q⟩ := h
  cases (show v = Value.ref a from rx)
  obtain ⟨u, rfl, ru⟩ := rxs.one
  obtain ⟨its, rv, ⟨⟨cls, dd, data, sl⟩, n, ho, hc, hdn, hd⟩, hlen⟩ := I.list hs
  simp only at hc hd
  subst hc hd
  refine call_meets PySem.F.slot_list_count ⟨_, ho, rfl⟩ PySem.F.entry_list_count (PySem.F.args_list_count_2 _ _) (SeqAt.list_countAt a its.toArray n dd sl u (eqU y)) ⟨ho, fun z hz => mem_eqAt ru fy rv fys z (by simpa using hz), ?_⟩
  rw [List.toList_toArray, countP_vals rv fys]
  exact ⟨.int _, H, I.tok _, ⟨_, rfl⟩, q⟩
end
end VG


set_option Elab.async false
set_option maxRecDepth 100000
set_option maxHeartbeats 4000000
/-! try with two clauses that name what they catch; whatever the body raises is caught. -/
namespace VG
open PySem PySem.Spec PyProof.Rows L2
/-- an exception at a, landed: the state is h3's, the slots and the abstract heap as when it was raised -/
structure Down (X : Cx) (pins : List (Addr × Obj)) (a : Addr) (cls : Value) (d : Option Addr) (σ : L2.St) (H : Hp) (sI : Shared) (B h3 : Heap) (s' : Shared) : Prop where
  inv : Inv X pins σ H sI
  nb : ∀ b o, sI.heap.get? b = some o → b ∉ frs X.stack → B.get? b = some o
  fly : HandSPX.FlyingZ B (X.env :: X.outer) a (Zc cls d) h3
  up : sI.heap.UpToSlots h3
  os : s'.os = sI.os
  bare : AllBare s'.gens
  new : H a = none
section
variable {X : Cx} {pins : List (Addr × Obj)} {a : Addr} {cls : Value} {d : Option Addr} {σ : L2.St} {H : Hp} {sI s' : Shared} {B h3 : Heap}
theorem Down.at_ (y : Down X pins a cls d σ H sI B h3 s') : Inv X pins σ H { s' with heap := h3 } := y.inv.landed y.nb y.fly.1 y.up y.os y.bare
/-- as a suite sees it -/
theorem Down.seen (y : Down X pins a cls d σ H sI B h3 s') (hf : X.env.frame = some X.env.locals) : ∃ (oe : Obj) (vs : Array Value), h3.get? a = some oe ∧ Zc cls d oe ∧ oe.data = .fields vs ∧ Inv (X.suite a ((a, oe) :: (X.pn ++ pins))) [] σ H { s' with heap := h3 } := by
  obtain ⟨oe, vs, e1, e2, e3⟩ := y.fly.there
  have out : a ∉ frs (X.env :: X.outer) := fun hm => by
    obtain ⟨_, o, eo, ho⟩ := y.fly.2.2.1.mem hm
    rw [e1] at eo
    cases eo
    exact ho _ e3
  have o1 : a ≠ X.env.locals := fun z => out (List.mem_filterMap.mpr ⟨X.env, .head _, by rw [hf, z]⟩)
  have o2 : a ∉ X.fs := fun hm => out (let ⟨v, hv, q⟩ := List.mem_filterMap.mp hm; List.mem_filterMap.mpr ⟨v, .tail _ hv, q⟩)
  exact ⟨oe, vs, e1, e2, e3, y.at_.suite e1 e3 y.new o1 o2⟩
/-- the clause's class is asked -/
theorem Down.ask (y : Down X pins a cls d σ H sI B h3 s') (hf : X.env.frame = some X.env.locals) {x : Str} {c : Value} {np : Pos} {b : Bool} {E : Value → Shared → Prop} {R : Bool → Shared → Prop} (nm : Names X x c) (m : PySem.W.exmOne X.K cls c = some b)
    (r : R b { s' with heap := h3 }) : wpAny (model X.prog X.w) (X.A.mark (some (.ref a))) (eval (.Name x np) X.env) (fun cv s1 => wpAny (model X.prog X.w) (X.A.mark (some (.ref a))) (excMatches (.ref a) cv) R E s1) E { s' with heap := h3 } := by
  obtain ⟨oe, vs, e1, e2, e3, J⟩ := y.seen hf
  have ty : PySem.W.Looks (model X.prog X.w) h3 (typeOf (.ref a)) cls := fun A Q E s k q => wpAny_typeOf_ref (k _ _ e1) (by rw [e2.1]; exact q)
  have lm := PySem.W.exm_one (M := model X.prog X.w) y.at_.kIn ty m
  obtain ⟨g1, g2, g3⟩ := nm
  rcases g3 with g3 | ⟨g3, g4, g5⟩
  · exact ld_glob (X := X.suite a ((a, oe) :: (X.pn ++ pins))) J g1 g3 (lm.here r) g2
  · exact ld_blt (X := X.suite a ((a, oe) :: (X.pn ++ pins))) J g1 g3 g4 (lm.here r) g5 g2
/-- a clause that does not match -/
theorem Down.skip (y : Down X pins a cls d σ H sI B h3 s') (hf : X.env.frame = some X.env.locals) {x : Str} {c : Value} {np pos : Pos} {nm : Option Str} {body : List Stmt} {rest : List ExceptHandler} {D : Ends} (n : Names X x c) (m : PySem.W.exmOne X.K cls c = some false)
    (h : wpAny (model X.prog X.w) X.A (handleBy (.ref a) X.env rest) (SP X pins D) X.xe { s' with heap := h3 }) :
    wpAny (model X.prog X.w) X.A (handleBy (.ref a) X.env (.ExceptHandler (some (.Name x np)) nm body pos :: rest)) (SP X pins D) X.xe { s' with heap := h3 } :=
  wpAny_handleBy_cons (codeAny_handlers_test (y.ask hf n m h)) fun z => nomatch z
/-- a clause that matches: its suite, then its name goes -/
theorem Down.take (y : Down X pins a cls d σ H sI B h3 s') (hf : X.env.frame = some X.env.locals) {x n : Str} {i : Nat} {c : Value} {np pos : Pos} {b₀ : Stmt} {body : List Stmt} {rest : List ExceptHandler} {D : Ends} {ts : TS} (nm : Names X x c) (m : PySem.W.exmOne X.K cls c = some true)
    (hN : X.N.Nodup) (hi : X.N[i]? = some n) (hl : X.env.kindOf n = some .local)
    (su : ∀ (oe : Obj) (pn : List (Addr × Obj)), Zc cls d oe → (∃ vs, oe.data = .fields vs) → PSs (X.suite a ((a, oe) :: pn)) (b₀ :: body) ts)
    (h : ts { nx := fun σ' H' => D.nx (σ'.set i none) H', rt := D.rt, bk := fun σ' H' => D.bk (σ'.set i none) H', ct := fun σ' H' => D.ct (σ'.set i none) H' } (σ.set i (some (.ref a))) H) :
    wpAny (model X.prog X.w) X.A (handleBy (.ref a) X.env (.ExceptHandler (some (.Name x np)) (some n) (b₀ :: body) pos :: rest)) (SP X pins D) X.xe { s' with heap := h3 } := by
  have ok := y.inv.ok
  refine wpAny_handleBy_cons (codeAny_handlers_test (y.ask hf nm m (codeAny_handlers_suite_as ?_))) fun z => nomatch z
  refine HandSPX.lands_againZ y.fly fun h4 f4 u4 => ?_
  have y4 : Down X pins a cls d σ H sI B h4 s' := ⟨y.inv, y.nb, f4, y.up.trans u4, y.os, y.bare, y.new⟩
  obtain ⟨oe, vs, e1, e2, e3, J⟩ := y4.seen hf
  refine store_ok (X := X.suite a ((a, oe) :: (X.pn ++ pins))) (v := .ref a) J hN hi (.inl hl) rfl (fun s5 J5 => ?_) (.inr hl)
  refine wpAny_mono ((su oe (X.pn ++ pins) e2 ⟨_, e3⟩).run [] s5 _ H _ J5 h) (fun fl s6 z => ?_) fun _ _ z => z.elim
  match fl, z with
  | .next, ⟨_, _, J6, q⟩ => exact gone_ok (J6.unsuite ok) hN hi hl fun _ J7 => ⟨_, _, J7, q⟩
  | .brk, ⟨_, _, J6, q⟩ => exact gone_ok (J6.unsuite ok) hN hi hl fun _ J7 => ⟨_, _, J7, q⟩
  | .cont, ⟨_, _, J6, q⟩ => exact gone_ok (J6.unsuite ok) hN hi hl fun _ J7 => ⟨_, _, J7, q⟩
  | .ret _, ⟨_, _, _, J6, r6, q⟩ => exact gone_ok (J6.unsuite ok) hN hi hl fun _ J7 => ⟨_, _, _, J7, r6, q⟩
end
/-- what two clauses 'except x as n' wish of what the body raises; nothing else is raised -/
def wTwo (K : PySem.W.Frag) (nl i : Nat) (c1 c2 : Value) (t1 t2 : Addr → Value → Option Addr → TS) (D : Ends) : WX := fun cls d σ H => σ.length = nl →
  (PySem.W.exmOne K cls c1 = some true ∧ ∀ a, H a = none → t1 a cls d { nx := fun σ' H' => D.nx (σ'.set i none) H', rt := D.rt, bk := fun σ' H' => D.bk (σ'.set i none) H', ct := fun σ' H' => D.ct (σ'.set i none) H' } (σ.set i (some (.ref a))) H) ∨
  (PySem.W.exmOne K cls c1 = some false ∧ PySem.W.exmOne K cls c2 = some true ∧ ∀ a, H a = none → t2 a cls d { nx := fun σ' H' => D.nx (σ'.set i none) H', rt := D.rt, bk := fun σ' H' => D.bk (σ'.set i none) H', ct := fun σ' H' => D.ct (σ'.set i none) H' } (σ.set i (some (.ref a))) H)
section
variable {X : Cx} {x1 x2 n : Str} {c1 c2 : Value} {i : Nat} {body r1 r2 : List Stmt} {b1 b2 : Stmt} {n1 n2 p1 p2 pos : Pos} {tb : WX → TS} {t1 t2 : Addr → Value → Option Addr → TS}
theorem ps_try_two (hs : X.stack = X.env :: X.outer) (hf : X.env.frame = some X.env.locals) (hN : X.N.Nodup) (hi : X.N[i]? = some n) (hl : X.env.kindOf n = some .local) (m1 : Names X x1 c1) (m2 : Names X x2 c2)
    (hb : ∀ (W : WX) (pn : List (Addr × Obj)) (xe : Value → Shared → Prop), Takes (X.tr pn xe) W → PassesOwn (model X.prog X.w) X.A X.env xe → PSs (X.tr pn xe) body (tb W))
    (s1 : ∀ (a : Addr) (oe : Obj) (cls : Value) (d : Option Addr) (pn : List (Addr × Obj)), Zc cls d oe → (∃ vs, oe.data = .fields vs) → PSs (X.suite a ((a, oe) :: pn)) (b1 :: r1) (t1 a cls d))
    (s2 : ∀ (a : Addr) (oe : Obj) (cls : Value) (d : Option Addr) (pn : List (Addr × Obj)), Zc cls d oe → (∃ vs, oe.data = .fields vs) → PSs (X.suite a ((a, oe) :: pn)) (b2 :: r2) (t2 a cls d)) :
    PS X (.Try body [.ExceptHandler (some (.Name x1 n1)) (some n) (b1 :: r1) p1, .ExceptHandler (some (.Name x2 n2)) (some n) (b2 :: r2) p2] [] [] pos) (fun D σ H => tb (wTwo X.K X.N.length i c1 c2 t1 t2 D) D σ H) := by
  constructor
  intro pins s σ H D I h
  have ok := I.ok
  have fr : X.A.frames = some (X.env :: X.outer) := ok.frames.trans (congrArg some hs)
  refine wpAny_Try_except (wpAny_mono ((hb (wTwo X.K X.N.length i c1 c2 t1 t2 D) (X.pn ++ pins) _ (fun u s2' xx => ?_) PassesOwn.looking).run [] s σ H D (I.toTry _) h) (fun fl s3 z => ?_) fun _ _ z => z)
  · obtain ⟨a, B, sI, pins', σ', H', cls, d, rfl, J', nb, up, sky, na, os, ag, wish⟩ := xx
    have J : Inv X pins σ' H' sI := J'.ofTry ok
    rw [show (X.tr (X.pn ++ pins) _).stack = X.env :: X.outer from hs] at sky
    refine Sky.land Zc.steady fr hf sky fun h3 f3 u3 => ?_
    have y : Down X pins a cls d σ' H' sI B h3 s2' := ⟨J, nb, f3, up.trans u3, os, ag, na⟩
    rcases wish J.len with ⟨w1, w2⟩ | ⟨w1, w2, w3⟩
    · exact y.take hf m1 w1 hN hi hl (fun oe pn z1 z2 => s1 a oe cls d pn z1 z2) (w2 a na)
    · exact y.skip hf m1 w1 (y.take hf m2 w2 hN hi hl (fun oe pn z1 z2 => s2 a oe cls d pn z1 z2) (w3 a na))
  · match fl, z with
    | .next, ⟨_, _, J, q⟩ => exact wpAny_execs_nil ⟨_, _, J.ofTry ok, q⟩
    | .brk, ⟨_, _, J, q⟩ => exact ⟨_, _, J.ofTry ok, q⟩
    | .cont, ⟨_, _, J, q⟩ => exact ⟨_, _, J.ofTry ok, q⟩
    | .ret _, ⟨_, _, _, J, r, q⟩ => exact ⟨_, _, _, J.ofTry ok, r, q⟩
end
end VG


set_option Elab.async false
set_option maxRecDepth 100000
set_option maxHeartbeats 4000000
set_option exponentiation.threshold 3000
namespace Vf
open PySem L2 SX Vm
/-- a value that may stand where it is wrong: plain, and it can be shown -/
structure Odd (H : Hp) (v : V) : Prop where
  pl : ∃ t, Pl H v t
  sh : ∃ d : PyData, VG.Sh H v d ∧ d.showable = true ∧ d.shown.length ≤ 1000 ∧ PyData.canLay0 (.str (("number " : Str) ++ d.shown)) = true
/-- the error classes below PrefixError, and their words -/
def kC (CS CX CO : Addr) : Nat → Addr
  | 0 => CS
  | 1 => CX
  | _ => CO
def kw : Nat → Str
  | 0 => "stream"
  | 1 => "prefix"
  | _ => "operation"
/-- what the law's try gives: nothing, the number's text, or the error's word -/
def TTold (CN CS CX CO : Addr) : (XK → Hp → VK → Prop) → Hp → VK → Prop := fun tl H Q => tl (fun cls d H' =>
  (∃ (dd : Addr) (v : V) (pd : PyData), cls = .ref CN ∧ d = some dd ∧ H' dd = some (.xd [(("value" : Str), v)]) ∧ VG.Sh H' v pd ∧ pd.showable = true ∧ pd.shown.length ≤ 1000 ∧ Q (.str (("number " : Str) ++ pd.shown)) H') ∨
  (∃ k, k < 3 ∧ cls = .ref (kC CS CX CO k) ∧ d = none ∧ ∀ H'', Same H' H'' → Q (.str (kw k)) H'')) H (fun _ H' => Q .non H')
structure ToldTxt (K : PySem.W.Frag) (mg : Str → Option Value) (CN CP CS CX CO : Addr) : Prop where
  gN : mg "InvalidNumber" = some (.ref CN)
  gP : mg "PrefixError" = some (.ref CP)
  gS : mg "InvalidStream" = some (.ref CS)
  gX : mg "InvalidPrefix" = some (.ref CX)
  gO : mg "InvalidOperation" = some (.ref CO)
  rep : mg "repr" = none
  isi : mg "isinstance" = none
  nn : PySem.W.exmOne K (.ref CN) (.ref CN) = some true
  sn : ∀ k, PySem.W.exmOne K (.ref (kC CS CX CO k)) (.ref CN) = some false
  sp : ∀ k, PySem.W.exmOne K (.ref (kC CS CX CO k)) (.ref CP) = some true
  xf : XfC K CN
  nov : PySem.W.findIn K (.ref CN) "value" = some none
  ec : ∀ k, ExcC K (kC CS CX CO k)
  kS : ∀ k, k < 3 → PySem.W.kitOne K (.ref (kC CS CX CO k)) (.ref CS) = some (decide (k = 0))
  kX : ∀ k, k < 3 → PySem.W.kitOne K (.ref (kC CS CX CO k)) (.ref CX) = some (decide (k = 1))
  kO : ∀ k, k < 3 → PySem.W.kitOne K (.ref (kC CS CX CO k)) (.ref CO) = some (decide (k = 2))
section
variable {X : Cx}
theorem pss_when {body : List Stmt} {p : Prop} {t : TS} (h : p → PSs X body t) : PSs X body (fun D σ H => p ∧ t D σ H) := ⟨fun pins s σ H D I q => (h q.1).run pins s σ H D I q.2⟩
theorem pss_ex {α : Type} {body : List Stmt} {p : α → Prop} {t : α → TS} (h : ∀ k, p k → PSs X body (t k)) : PSs X body (fun D σ H => ∃ k, p k ∧ t k D σ H) := ⟨fun pins s σ H D I q => by
  obtain ⟨k, pk, tk⟩ := q
  exact (h k pk).run pins s σ H D I tk⟩
theorem pss_imp {body : List Stmt} {t t' : TS} (h : PSs X body t) (imp : ∀ D σ H, σ.length = X.N.length → t' D σ H → t D σ H) : PSs X body t' := ⟨fun pins s σ H D I q => h.run pins s σ H D I (imp D σ H I.len q)⟩
theorem scTold : FnScope ["call", "e", "kinds"] ["call"] (defScope sTold) := ⟨rfl, rfl, rfl, by decide +kernel, rfl, by decide +kernel, by decide +kernel⟩
theorem told_gives {CN CP CS CX CO g : Addr} {cdg : Value} {q : Str} (T : ToldTxt X.K X.mg CN CP CS CX CO) (gd : X.A.guards = some []) (hu : X.A.units + 20 < cLine) : LamX.GivesTo X ["call", "e", "kinds"] "_law_told" (defScope sTold) g cdg (defBody sTold) "call" q (TTold CN CS CX CO) := by
  intro f c' s H Q tl act hc h
  have nd := scTold.nd
  refine ⟨_, pss_cons (VG.ps_try_two (X := (cxOf C8.CX0 X.prog X.w X.K X.mg X.base ["call", "e", "kinds"] "_law_told" (defScope sTold) g cdg X.A X.stack s H C8.E0).nox) (c1 := .ref CN) (c2 := .ref CP) (i := 1)
      (tb := fun W D σ H => ∃ Ech : XK, (∀ cls d σ' H', Ech cls d H' → W cls d σ' H') ∧ σ[0]? = some (some (.ref f)) ∧ H c' = some (LamX.CodeO c' q) ∧ tl Ech H fun _ H' => D.nx σ H')
      (t2 := fun a cls d D σ H => ∃ k, (k < 3 ∧ cls = .ref (kC CS CX CO k) ∧ d = none) ∧ σ[1]? = some (some (.ref a)) ∧ ∀ H'', Same H H'' → D.rt (.str (kw k)) H'')
      rfl rfl nd rfl rfl ⟨by rfl, by decide, .inl T.gN⟩ ⟨by rfl, by decide, .inl T.gP⟩ (fun W pn xe tk _ => ?_)
      (fun a oe cls d pn hz hf => pss_one (ps_ret (pe_op op_add_str pe_str (pe_callB (VG.call_repr gd (by show X.A.units + 3 + 10 < cLine; omega)) (by rfl) T.rep PyProof.Rows.boot_repr (pa_cons (pe_xf T.xf T.nov hz hf (pv 1)) pa_nil)))))
      (fun a oe cls d pn hz hf => ?_)) (pss_one (ps_ret pe_non)), ?_⟩
  · refine ⟨fun pins s' σ H' D I h' => ?_⟩
    obtain ⟨Ech, hW, h1, h2, h3⟩ := h'
    exact (pss_one (ps_expr (act W pn xe Ech _ _ tk hW))).run pins s' σ H' D I ⟨h1, h2, h3⟩
  · refine pss_ex fun k hp => ?_
    obtain ⟨hk3, rfl, rfl⟩ := hp
    refine pss_imp (pss_cons (ps_set (i := 2) nd rfl (.inl rfl) (pe_lst
        (pa_cons (pe_callB (call_isE (T.ec k) hz hf) (by rfl) T.isi PyProof.Rows.boot_isinstance (pa_cons (pv 1) (pa_cons (pe_glob (v := .ref CS) rfl T.gS rfl) pa_nil)))
        (pa_cons (pe_callB (call_isE (T.ec k) hz hf) (by rfl) T.isi PyProof.Rows.boot_isinstance (pa_cons (pv 1) (pa_cons (pe_glob (v := .ref CX) rfl T.gX rfl) pa_nil)))
        (pa_cons (pe_callB (call_isE (T.ec k) hz hf) (by rfl) T.isi PyProof.Rows.boot_isinstance (pa_cons (pv 1) (pa_cons (pe_glob (v := .ref CO) rfl T.gO rfl) pa_nil))) pa_nil)))))
      (pss_one (ps_ret (pe_ifExp (pt_cmpR op_eq (pe_bm PySem.F.plainAttrs_list PySem.F.slot_list_count PySem.F.type_list_count VG.mt_count (pv 2) (pa_cons pe_bl pa_nil)) pe_int (nomark _))
        (pe_ix ix_list (pe_lst (pa_cons pe_str (pa_cons pe_str (pa_cons pe_str pa_nil)))) (pe_bm PySem.F.plainAttrs_list PySem.F.slot_list_index PySem.F.type_list_index mt_index (pv 2) (pa_cons pe_bl pa_nil)) (fun _ _ => rfl)) pe_str)))) ?_
    rintro D σ H1 l3 ⟨h1, h2⟩
    have l3 : σ.length = 3 := l3
    have s2 : ∀ v : V, (σ.set 2 (some v))[2]? = some (some v) := fun v => List.getElem?_set_self (by omega)
    refine ⟨_, h1, _, _, decide (k = 0), rfl, fun u r => r, T.kS k hk3, _, h1, _, _, decide (k = 1), rfl, fun u r => r, T.kX k hk3, _, h1, _, _, decide (k = 2), rfl, fun u r => r, T.kO k hk3, (by show 3 ≤ sizeLine; decide), fun p np => ?_⟩
    have sq : SqL X.K (upd H1 p (.lst [.bl (decide (k = 0)), .bl (decide (k = 1)), .bl (decide (k = 2))])) p [.bl (decide (k = 0)), .bl (decide (k = 1)), .bl (decide (k = 2))] := SqL.of upd_same
    have k3 : k = 0 ∨ k = 1 ∨ k = 2 := by omega
    refine ⟨_, s2 _, .inl ⟨rfl, _, sq⟩, p, _, .bl true, rfl, rfl, sq, rfl, rfl, rfl, _, rfl, ?_⟩
    refine iteTB (by rcases k3 with e | e | e <;> subst e <;> rfl) ?_
    refine ⟨(by show 3 ≤ sizeLine; decide), fun p2 np2 => ?_⟩
    have n12 : p ≠ p2 := fun z => by rw [← z, upd_same] at np2; cases np2
    have sq2 : SqL X.K (upd (upd H1 p (.lst [.bl (decide (k = 0)), .bl (decide (k = 1)), .bl (decide (k = 2))])) p2 (.lst [.str "stream", .str "prefix", .str "operation"])) p [.bl (decide (k = 0)), .bl (decide (k = 1)), .bl (decide (k = 2))] := SqL.of (by rw [upd_ne n12, upd_same])
    refine ⟨_, s2 _, .inl ⟨rfl, _, sq2⟩, p, _, .bl true, k, .bl true, rfl, rfl, sq2, rfl, rfl, ?_, ?_, ?_, ?_⟩
    · rcases k3 with e | e | e <;> subst e <;> rfl
    · rfl
    · intro m z hm hz
      have hm3 : m = 0 ∨ m = 1 := by omega
      rcases k3 with e | e | e <;> subst e <;> rcases hm3 with e | e <;> subst e <;> first | omega | (cases hz; rfl)
    · refine ⟨p2, _, (k : Int), .str (kw k), rfl, rfl, SqL.of upd_same, ?_, ?_⟩
      · rcases k3 with e | e | e <;> subst e <;> rfl
      · exact h2 _ fun b o e => by
          have e1 : upd H1 p (.lst [.bl (decide (k = 0)), .bl (decide (k = 1)), .bl (decide (k = 2))]) b = some o := by rw [upd_ne (ne_of_none e np)]; exact e
          rw [upd_ne (ne_of_none e1 np2)]
          exact e1
  · refine ⟨fun cls d H' => _, fun cls d σ' H' hE hl => ?_, rfl, hc, h⟩
    have s1 : ∀ v : V, (σ'.set 1 (some v))[1]? = some (some v) := fun v => List.getElem?_set_self (by rw [hl]; show 1 < 3; decide)
    rcases hE with ⟨dd, v, pd, rfl, rfl, hd, sh, hs, hz, k⟩ | ⟨kk, hk3, rfl, rfl, k⟩
    · refine .inl ⟨T.nn, fun a _ => ?_⟩
      refine ⟨_, s1 _, rfl, rfl, dd, _, v, rfl, hd, (by simp [List.lookup]), v, pd, rfl, sh, hs, Nat.le_trans hz (by decide), _, _, rfl, rfl, ?_, k⟩
      have e : ("number " : Str).length = 7 := by decide +kernel
      rw [e]
      exact Nat.le_trans (show 7 + pd.shown.length ≤ 1007 by omega) (by decide)
    · exact .inr ⟨T.sn kk, T.sp kk, fun a _ => ⟨kk, ⟨hk3, rfl, rfl⟩, s1 _, k⟩⟩
end
end Vf


set_option Elab.async false
set_option maxRecDepth 100000
set_option maxHeartbeats 4000000
/-! Pairs of a number and a text: their order, sorted lists of them; remove by value. -/
namespace VG
open PySem PySem.Spec PyProof.Rows L2
/-- x before y: by the number, then by the text -/
def lexS (p q : Int × Str) : Bool := if p.1 = q.1 then decide (p.2.cps.toList < q.2.cps.toList) else decide (p.1 < q.1)
theorem lexS_iff {p q : Int × Str} : lexS p q = true ↔ p.1 < q.1 ∨ (p.1 = q.1 ∧ p.2.cps.toList < q.2.cps.toList) := by
  unfold lexS
  by_cases e : p.1 = q.1
  · rw [if_pos e, decide_eq_true_eq]
    constructor
    · exact fun h => .inr ⟨e, h⟩
    · rintro (h | h)
      · omega
      · exact h.2
  · rw [if_neg e, decide_eq_true_eq]
    constructor
    · exact fun h => .inl h
    · rintro (h | h)
      · exact h
      · exact absurd h.1 e
theorem lexS_no {p q : Int × Str} : lexS p q = false ↔ ¬ (p.1 < q.1 ∨ (p.1 = q.1 ∧ p.2.cps.toList < q.2.cps.toList)) := by
  rw [← lexS_iff]
  cases lexS p q <;> simp
theorem nat_lt_asymm {l m : List Nat} (h : l < m) : ¬ m < l := fun h2 => List.lt_irrefl l (List.lt_trans h h2)
theorem nat_le_trans {l m n : List Nat} (h : ¬ m < l) (h2 : ¬ n < m) : ¬ n < l := fun h3 => by
  have a : l ≤ m := List.not_lt.mp h
  have b : m ≤ n := List.not_lt.mp h2
  exact List.not_lt.mpr (List.le_trans a b) h3
theorem swo_lexS {α : Type} (k : α → Int × Str) : SrtO.Swo fun v u => lexS (k v) (k u) := by
  refine ⟨fun x y h => ?_, fun x y z h1 h2 => ?_⟩
  · have a := lexS_iff.mp h
    refine lexS_no.mpr ?_
    rintro (c | c)
    · rcases a with a | a
      · omega
      · omega
    · rcases a with a | a
      · omega
      · exact nat_lt_asymm a.2 c.2
  · have a := lexS_no.mp h1
    have b := lexS_no.mp h2
    refine lexS_no.mpr ?_
    rintro (c | c)
    · by_cases e1 : (k y).1 < (k x).1
      · exact a (.inl e1)
      · by_cases e2 : (k z).1 < (k y).1
        · exact b (.inl e2)
        · omega
    · by_cases e1 : (k y).1 < (k x).1
      · exact a (.inl e1)
      · by_cases e2 : (k z).1 < (k y).1
        · exact b (.inl e2)
        · refine nat_le_trans (fun q => a (.inr ⟨by omega, q⟩)) (fun q => b (.inr ⟨by omega, q⟩)) c.2
def IsPS (h : Heap) (v : Value) (x : Int) (y : Str) : Prop := ∃ a o t u n, v = .ref a ∧ h.get? a = some o ∧ o.cls = .type "tuple" ∧ o.data = .seq #[.int x t, .str y u] n
theorem IsPS.keeps {h h' : Heap} {v : Value} {x : Int} {y : Str} (p : IsPS h v x y) (k : ∀ b o, h.get? b = some o → o.cls = .type "tuple" → h'.get? b = some o) : IsPS h' v x y := by
  obtain ⟨a, o, t, u, n, e, ho, hc, hd⟩ := p
  exact ⟨a, o, t, u, n, e, k _ _ ho hc, hc, hd⟩
theorem firstsS {h : Heap} : ∀ {vs : List Value}, (∀ v ∈ vs, ∃ x y, IsPS h v x y) → ∃ fs : List Value, PySem.W.KatTups h vs fs ∧ fs.length = vs.length ∧ ∀ f ∈ fs, ∃ x t, f = Value.int x t
  | [], _ => ⟨[], PySem.W.KatTups.nil, rfl, fun _ hm => by simp at hm⟩
  | v :: vs, hp => by
    obtain ⟨fs, h1, h2, h3⟩ := firstsS (vs := vs) fun v' hm => hp v' (List.mem_cons_of_mem _ hm)
    obtain ⟨x, y, a, o, t, u, n, e, ho, hc, hd⟩ := hp v (List.mem_cons_self ..)
    subst e
    refine ⟨.int x t :: fs, PySem.W.KatTups.cons ho hc hd rfl h1, by rw [List.length_cons, List.length_cons, h2], fun f hm => ?_⟩
    rcases List.mem_cons.mp hm with rfl | hm
    · exact ⟨x, t, rfl⟩
    · exact h3 f hm
section
variable {prog : Program} {w : World} {A : Around} {E : Value → Shared → Prop} {s : Shared}
open SrtO
theorem str_beq {x y : Str} : (x == y) = decide (x = y) := by
  by_cases e : x = y
  · rw [decide_eq_true e]; exact beq_iff_eq.mpr e
  · rw [decide_eq_false e]; exact beq_eq_false_iff_ne.mpr e
theorem cmpS {vs : List Value} {k : Value → Int × Str} (hp : ∀ v ∈ vs, IsPS s.heap v (k v).1 (k v).2) : Cmp prog w A s (tuples' true) (fun p => p.1 ∈ vs) (lt2 fun v u => lexS (k v) (k u)) := by
  intro p q hm hm'
  have h1 := hp _ hm
  have h2 := hp _ hm'
  show wpAny (model prog w) A (keyLt' (tuples' true) p.1 q.1) (fun r s' => s' = s ∧ r = lexS (k p.1) (k q.1)) (fun _ _ => False) s
  unfold lexS
  generalize (k p.1).1 = x at h1 ⊢
  generalize (k p.1).2 = y at h1 ⊢
  generalize (k q.1).1 = x' at h2 ⊢
  generalize (k q.1).2 = y' at h2 ⊢
  obtain ⟨a, o, t, u, n, e, ho, hc, hd⟩ := h1
  obtain ⟨a', o', t', u', n', e', ho', hc', hd'⟩ := h2
  rw [e, e']
  refine PySem.W.kat_lt ho hd ho' hd' ?_
  show PySem.W.KatLex prog w A true (decide (2 < 2)) _ [(.int x t, .int x' t'), (.str y u, .str y' u')] 0 s
  refine PySem.W.kat_cons (SeqAt.EqAt.int_int x t x' t' prog w _ _ ?_)
  refine PySem.W.kat_go (fun e1 => ?_) (fun e1 => ?_)
  · have ex : x = x' := by simpa using e1
    refine PySem.W.kat_yes (PySem.W.kat_cons (SeqAt.EqAt.str_str y u y' u' prog w _ _ ?_))
    refine PySem.W.kat_go (fun e2 => ?_) (fun e2 => ?_)
    · have ey : y = y' := by simpa using e2
      have e3 : (if x = x' then decide (y.cps.toList < y'.cps.toList) else decide (x < x')) = false := by
        rw [if_pos ex, ey]
        exact decide_eq_false (List.lt_irrefl _)
      exact PySem.W.kat_yes (PySem.W.kat_nil ⟨rfl, e3.symm⟩)
    · have e3 : (if x = x' then decide (y.cps.toList < y'.cps.toList) else decide (x < x')) = decide (y.cps.toList < y'.cps.toList) := if_pos ex
      refine PySem.W.kat_no (PySem.W.kat_one _ _ (PyProof.Rows.lt_str ?_))
      exact (show s = s ∧ decide (y.cps.toList < y'.cps.toList) = (if x = x' then decide (y.cps.toList < y'.cps.toList) else decide (x < x')) from ⟨rfl, e3.symm⟩)
  · have ex : ¬ x = x' := by simpa using e1
    have e3 : (if x = x' then decide (y.cps.toList < y'.cps.toList) else decide (x < x')) = decide (x < x') := if_neg ex
    exact PySem.W.kat_no (oneLt_int ⟨rfl, e3.symm⟩)
theorem sortableS {a : Addr} {vs : List Value} {k : Value → Int × Str} (h0 : 0 < vs.length) (hp : ∀ v ∈ vs, IsPS s.heap v (k v).1 (k v).2) (ha : ∀ o, s.heap.get? a = some o → o.cls ≠ .type "tuple") : SortableO prog w A s a vs fun v u => lexS (k v) (k u) := by
  intro h' keep
  have hp' : ∀ v ∈ vs, IsPS h' v (k v).1 (k v).2 := fun v hm => (hp v hm).keeps fun b o e c => keep b o (fun z => by subst z; exact ha o e c) e
  obtain ⟨fs, h1, h2, h3⟩ := firstsS fun v hm => ⟨_, _, hp' v hm⟩
  refine ⟨tuples' true, fun Q E hq => ?_, cmpS hp'⟩
  refine PySem.W.kat_kind (T := .type "int") h1 (by omega) (fun f hm => ?_) (by rfl) ?_
  · obtain ⟨x, t, rfl⟩ := h3 f hm
    exact PySem.W.Looks.now
  · have e : (Value.type "int" != Value.type "tuple") = true := by first | decide +kernel | rfl | decide
    rw [e]
    exact hq
theorem sortedS_run {l : Addr} {vs : List Value} {k : Value → Int × Str} {Q : Value → Shared → Prop} (hl : s.heap.IsList l vs.toArray) (hz : vs.length ≤ sizeLine) (hp : ∀ v ∈ vs, IsPS s.heap v (k v).1 (k v).2)
    (h : ∀ (h' : Heap) (d : Addr) (out : List Value), Srtd (fun v u => lexS (k v) (k u)) out → Stb (fun v u => lexS (k v) (k u)) out vs → (∀ b o, s.heap.get? b = some o → h'.get? b = some o) → s.heap.objs.size ≤ d → (∃ n, h'.get? d = some (seqObj "list" out.toArray n)) → Q (.ref d) { s with heap := h' }) :
    wpAny (model prog w) A (call (.builtin "sorted") [.ref l]) Q E s := by
  refine sorted_ord (swo_lexS k) hl hz (fun h2 h₁ a ha kk => ?_) fun out hs hb => ?_
  · refine sortableS (s := { s with heap := h₁ }) (by omega) (fun v hm => (hp v hm).keeps fun b o e _ => (kk b o e).2) fun o e => ?_
    have e' : some o = some (seqObj "list" vs.toArray 0) := e.symm.trans ha
    cases e'
    intro c
    exact absurd (Value.type.inj c) (by decide)
  · exact h _ _ out hs hb (fun b o e => sortedAll_old e) (Nat.le_succ _) (sortedAll_at s.heap vs out.toArray)
end
/-- by the pairs that k tells -/
abbrev ltS (k : V → Int × Str) (x y : V) : Bool := lexS (k x) (k y)
/-- sorted(xs), xs a list of pairs of a number and a text: a new list, sorted, equal ones in their order -/
def rSortedIS (K : PySem.W.Frag) : List V → Hp → VK → Prop := fun vs H Q => ∃ (a : Addr) (xs : List V) (k : V → Int × Str), vs = [V.ref a] ∧ SqL K H a xs ∧ (∀ x ∈ xs, ∃ t, x = V.ref t ∧ H t = some (.tup [.int (k x).1, .str (k x).2])) ∧
  ∀ ys p, SrtO.Srtd (ltS k) ys → SrtO.Stb (ltS k) ys xs → H p = none → Q (.ref p) (upd H p (.lst ys))
section
variable {X : Cx}
theorem cr_sortedIS : CallR X (.builtin "sorted") (rSortedIS X.K) := by
  intro pins s σ H vs us Q I r h
  obtain ⟨a, xs, k, rfl, hs, hx, q⟩ := h
  obtain ⟨its, rv, hl, hz⟩ := I.list hs
  obtain ⟨u, rfl, ru⟩ := vals1 r
  obtain rfl : u = Value.ref a := ru
  obtain ⟨e1, e2⟩ := refs_back rv fun x m => by
    obtain ⟨t, e, _⟩ := hx x m
    exact ⟨t, e⟩
  refine sortedS_run (k := fun u => k (backV u)) hl.isList (by rw [← rv.length]; exact hz) (fun v hv => ?_) fun h' d out h1 h2 kp hd hn => ?_
  · obtain ⟨t, rfl⟩ := e2 v hv
    have hm : V.ref t ∈ xs := by rw [e1]; exact List.mem_map.mpr ⟨_, hv, rfl⟩
    obtain ⟨t', e, ht⟩ := hx _ hm
    cases e
    obtain ⟨_, its2, r2, o, ho, hc, n, hd⟩ := I.hok _ _ ht
    obtain ⟨u1, u2, rfl, ri, rj⟩ := vals2 r2
    obtain ⟨t1, rfl⟩ := ri
    obtain ⟨t2, rfl⟩ := rj
    exact ⟨t, o, t1, t2, n, rfl, ho, hc, hd⟩
  · have h3 : ∀ u ∈ out, ∃ a, u = Value.ref a := fun u hu => e2 u (h2.perm.mem_iff.mp hu)
    obtain ⟨n, hn⟩ := hn
    have hb : SrtO.Stb (ltS k) (out.map backV) xs := by
      rw [e1]
      exact SrtO.Stb.map (swo_lexS k) backV h2
    refine ⟨.ref d, upd H d (.lst (out.map backV)), I.laid (t' := s.toks) kp hd ⟨?_, out, n, vals_back h3, hn⟩, rfl, q _ d (SrtO.srtd_map h1) hb (I.hok.fresh hd)⟩
    rw [hb.len]
    exact hz
/-- < of two pairs of a number and a text -/
def rLtIS (K : PySem.W.Frag) : R2 := fun x y H Q => ∃ (a b : Addr) (i j : Int) (u v : Str), x = .ref a ∧ y = .ref b ∧ SqT K H a [.int i, .str u] ∧ SqT K H b [.int j, .str v] ∧ Q (.bl (lexS (i, u) (j, v))) H
theorem op_ltIS (hu : X.A.units < cLine) : OpR X (compareOp .Lt) (rLtIS X.K) := by
  intro pins s σ H x y v u Q I rx ry h
  obtain ⟨a, b, i, j, p, q, rfl, rfl, ha, hb, qq⟩ := h
  cases rx
  cases ry
  obtain ⟨its, r1, p1, _⟩ := I.tuple ha
  obtain ⟨its2, r2, p2, _⟩ := I.tuple hb
  obtain ⟨u1, u2, rfl, ri, rj⟩ := vals2 r1
  obtain ⟨t1, rfl⟩ := ri
  obtain ⟨t2, rfl⟩ := rj
  obtain ⟨w1, w2, rfl, ri, rj⟩ := vals2 r2
  obtain ⟨t3, rfl⟩ := ri
  obtain ⟨t4, rfl⟩ := rj
  have R := Ob.RcOp.tuples_lt (A := X.A) (s := s) (e := fun n => if n = 0 then i == j else p == q) (r := fun n => if n = 0 then decide (i < j) else decide (p.cps.toList < q.cps.toList)) p1 p2 hu (fun n h1 h2 => by
    have hn : n = 0 ∨ n = 1 := by simp at h1; omega
    rcases hn with rfl | rfl
    · exact SeqAt.EqAt.int_int _ _ _ _
    · exact SeqAt.EqAt.str_str _ _ _ _) (fun n h1 h2 _ => by
    have hn : n = 0 ∨ n = 1 := by simp at h1; omega
    rcases hn with rfl | rfl
    · exact Ob.RcOp.lt_int _ _ _ _
    · exact fun _ _ _ _ h => PyProof.Rows.lt_str h)
  have e : Ob.lexAt (fun n => if n = 0 then i == j else p == q) (fun n => if n = 0 then decide (i < j) else decide (p.cps.toList < q.cps.toList)) (decide (2 < 2)) 0 2 = lexS (i, p) (j, q) := by
    show (if (i == j) = true then (if (p == q) = true then decide (2 < 2) else decide (p.cps.toList < q.cps.toList)) else decide (i < j)) = (if i = j then decide (p.cps.toList < q.cps.toList) else decide (i < j))
    by_cases c : i = j
    · rw [if_pos (beq_iff_eq.mpr c), if_pos c]
      by_cases c2 : p = q
      · rw [if_pos (beq_iff_eq.mpr c2), c2]
        exact (decide_eq_false (List.lt_irrefl _)).symm
      · rw [if_neg (fun z => c2 (beq_iff_eq.mp z))]
    · rw [if_neg (fun z => c (beq_iff_eq.mp z)), if_neg c]
  have z : wpAny (model X.prog X.w) X.A (compareOp .Lt (.ref a) (.ref b)) (EP X pins σ Q) X.xe s := R X.prog X.w X.xe (EP X pins σ Q) (by
    show EP X pins σ Q (.bool (Ob.lexAt (fun n => if n = 0 then i == j else p == q) (fun n => if n = 0 then decide (i < j) else decide (p.cps.toList < q.cps.toList)) (decide (2 < 2)) 0 2)) s
    rw [e]
    exact ⟨.bl _, H, I, rfl, qq⟩)
  exact z
/-- xs.remove(y): the first place of an equal one goes -/
def rRemD (K : PySem.W.Frag) : V → List V → Hp → VK → Prop := fun x xs H Q => ∃ (a : Addr) (vs : List V) (y : V) (d : PyData) (ds : List PyData) (j : Nat) (z : PyData), x = V.ref a ∧ xs = [y] ∧ H a = some (.lst vs) ∧ DpAll K H vs ds ∧ Dp K H y d ∧
  SeqAt.shaped (.list ds) = true ∧ SeqAt.shaped d = true ∧ ds[j]? = some z ∧ PyData.eqv z d = true ∧ (∀ (m : Nat) (z' : PyData), m < j → ds[m]? = some z' → PyData.eqv z' d = false) ∧ Q .non (upd H a (.lst (vs.eraseIdx j)))
theorem mt_removeD (hu : X.A.units + 65 < cLine) : MtM X "list.remove" (rRemD X.K) := by
  intro pins s σ H x xs v us Q I rx rxs h
  obtain ⟨a, vs, y, d, ds, j, z, rfl, rfl, hl, hd, hy, sl, sd, hz, hzj, hno, q⟩ := h
  cases rx
  obtain ⟨uy, rfl, ry⟩ := rxs.one
  obtain ⟨bs, r1⟩ := Dp.reads I d y uy hy ry
  have hxs : PyData.canLayAll0 ds = true := SeqAt.canLay_of_shaped sl
  have hroom : X.A.units + 1 + min (PyData.depthAll ds) d.depth < cLine := room_in_shaped sd hu
  obtain ⟨hlen, its, n, rv, hvl, ho'⟩ := I.lstM hl
  obtain ⟨as, h4⟩ := Dp.readsAll I ds _ its hd rv
  have hn : its.length = ds.length := SeqAt.ReadsAll.length ds its as h4
  have hmap : its.map (SeqAt.readOf s.heap) = ds := SeqAt.readsAll_map ds its as hxs h4
  have hsl := sizeLine_eq
  obtain ⟨hjd, _⟩ := List.getElem?_eq_some_iff.mp hz
  have hjl : j < its.length := by omega
  have hj : j < its.toArray.size := by simpa using hjl
  have at_ : ∀ (m : Nat) (hm : m < its.toArray.size) (z' : PyData), ds[m]? = some z' → SeqAt.readOf s.heap its.toArray[m] = z' := by
    intro m hm z' hz'
    have hml : m < its.length := by simpa using hm
    rw [← hmap, List.getElem?_map, List.getElem?_eq_getElem hml] at hz'
    have e1 : SeqAt.readOf s.heap its[m] = z' := Option.some.inj (show some (SeqAt.readOf s.heap its[m]) = some z' from hz')
    simpa using e1
  refine call_meets PySem.F.slot_list_remove ⟨_, ho', rfl⟩ PySem.F.entry_list_remove (PySem.F.args_list_remove_2 _ _)
    (SeqAt.list_removeAt a its.toArray n _ _ uy (fun u => PyData.eqv (SeqAt.readOf s.heap u) d) j hj ?_ ?_ (by rw [List.size_toArray]; omega)) ⟨ho', SeqAt.items_eqAt (vs := its.toArray) (show ReadsAll s.heap its.toArray.toList ds as from h4) r1 hxs (SeqAt.canLay_of_shaped sd) hroom, ?_⟩
  · show PyData.eqv (SeqAt.readOf s.heap its.toArray[j]) d = true
    rw [at_ j hj z hz]
    exact hzj
  · intro m hm hmj
    have hmd : m < ds.length := by omega
    have hz' : ds[m]? = some ds[m] := List.getElem?_eq_getElem hmd
    show PyData.eqv (SeqAt.readOf s.heap its.toArray[m]) d = false
    rw [at_ m hm _ hz']
    exact hno m _ hmj hz'
  · refine ⟨.non, _, I.lset (its' := its.eraseIdx j) (t' := s.toks) hl ho' ?_ (rv.eraseIdx j) ?_, rfl, q⟩
    · show its.toArray.eraseIdxIfInBounds j = (its.eraseIdx j).toArray
      rw [List.eraseIdxIfInBounds_toArray]
    · have := List.length_eraseIdx_le vs j
      omega
end
end VG


set_option Elab.async false
set_option maxRecDepth 100000
set_option maxHeartbeats 4000000
set_option exponentiation.threshold 3000
namespace Vf
open PySem L2 SX Vm
/-- what is not a base, whatever it is -/
def spNoBase : Sp := fun vs H Q _ => ∃ (a : Addr) (d : Int × Int × Int), vs = [.ref a] ∧ H a = some (.lst (dieL d)) ∧ DieOk d ∧ d.2.2 ≤ 1000000000 ∧
  ∀ (v : V) (d' : Int × Int × Int) (H' : Hp), DieOk d' → d'.2.2 ≤ d.2.2 + 1 → Kp a H H' → H' a = some (.lst (dieL d')) → Odd H' v → withinV 2 5 v = false → (∀ q, v = .ref q → q ≠ a) → Q v H'
theorem odd_int {H : Hp} (n : Int) (h1 : n.natAbs.log2 < 1920) (h2 : ((PyData.int n).shown).length ≤ 1000) (h3 : PyData.canLay0 (.str (("number " : Str) ++ (PyData.int n).shown)) = true) : Odd H (.int n) := ⟨⟨_, .int n⟩, _, .fl (.int n), decide_eq_true h1, h2, h3⟩
theorem odd_bl {H : Hp} (b : Bool) : Odd H (.bl b) := ⟨⟨_, .bl b⟩, _, .fl (.bl b), rfl, by cases b <;> decide +kernel, by cases b <;> decide +kernel⟩
theorem odd_non {H : Hp} : Odd H .non := ⟨⟨_, .non⟩, _, .fl .non, rfl, by decide +kernel, by decide +kernel⟩
theorem odd_str {H : Hp} (s : Str) (h : s.length ≤ 1000) (h2 : ((PyData.str s).shown).length ≤ 1000) (h3 : PyData.canLay0 (.str (("number " : Str) ++ (PyData.str s).shown)) = true) : Odd H (.str s) := ⟨⟨_, .str s (Nat.le_trans h (by decide))⟩, _, .fl (.str s), rfl, h2, h3⟩
section
variable {P : Program} {w : World} {K : PySem.W.Frag} {mg : Str → Option Value} {base : Heap}
theorem scNoBase : FnScope ["die"] ["die"] (defScope sNoBase) := ⟨rfl, rfl, rfl, by decide +kernel, rfl, by decide +kernel, by decide +kernel⟩
theorem ok_nobase {f fP : Addr} {fd fdP : FuncData} (F : Fun K "_law_no_base" "_law_no_base" sNoBase f fd) (GP : FnOk P w K mg base CX0 1 fP fdP ["die", "many"] spPull) (cP : Cal K mg "_law_pull" fP fdP ["die", "many"]) : FnOk P w K mg base CX0 2 f fd ["die"] spNoBase := by
  refine F.ok scNoBase (fun vs H Q E h => ?_) (fun cdv A outer s H vs Q E hr h => ?_)
  · obtain ⟨a, d, rfl, _⟩ := h
    rfl
  · obtain ⟨a, d, rfl, ha, hd, hc, k⟩ := h
    refine ⟨_, pss_one (ps_ret (pe_ix ix_list (pe_lst (pa_cons pe_int (pa_cons pe_int (pa_cons pe_int (pa_cons (pe_un un_neg pe_int) (pa_cons pe_bl (pa_cons pe_non (pa_cons pe_str (pa_cons (pe_tup (pa_cons pe_int pa_nil)) (pa_cons (pe_lst (pa_cons pe_int pa_nil)) (pa_cons pe_dnewK (pa_cons (pe_op op_pow pe_int pe_int) pa_nil))))))))))))
      (pe_call GP hr rfl cP.mg cP.kp cP.b .nil pass0 (pa_cons (pv 0) (pa_cons pe_int pa_nil))) (fun _ _ => rfl))), ?_⟩
    refine ⟨_, rfl, (by show 1 ≤ sizeLine; decide), fun p1 n1 => ⟨(by show 1 ≤ sizeLine; decide), fun p2 n2 p3 n3 => ⟨_, _, rfl, rfl, ⟨by decide, by decide, by decide +kernel⟩, (by show 11 ≤ sizeLine; decide), fun p n => ?_⟩⟩⟩
    have m1 := ne_of_none ha n1
    have a1 : upd H p1 (.tup [.int 2]) a = some (.lst (dieL d)) := by rw [upd_ne m1]; exact ha
    have m2 := ne_of_none a1 n2
    have a2 : upd (upd H p1 (.tup [.int 2])) p2 (.lst [.int 3]) a = some (.lst (dieL d)) := by rw [upd_ne m2]; exact a1
    have m3 := ne_of_none a2 n3
    have a3 : upd (upd (upd H p1 (.tup [.int 2])) p2 (.lst [.int 3])) p3 (.dK []) a = some (.lst (dieL d)) := by rw [upd_ne m3]; exact a2
    have m4 := ne_of_none a3 n
    have q12 : p1 ≠ p2 := ne_of_none upd_same n2
    have b1 : upd (upd H p1 (.tup [.int 2])) p2 (.lst [.int 3]) p1 = some (.tup [.int 2]) := by rw [upd_ne q12, upd_same]
    have q13 : p1 ≠ p3 := ne_of_none b1 n3
    have q23 : p2 ≠ p3 := ne_of_none upd_same n3
    have c1 : upd (upd (upd H p1 (.tup [.int 2])) p2 (.lst [.int 3])) p3 (.dK []) p1 = some (.tup [.int 2]) := by rw [upd_ne q13]; exact b1
    have c2 : upd (upd (upd H p1 (.tup [.int 2])) p2 (.lst [.int 3])) p3 (.dK []) p2 = some (.lst [.int 3]) := by rw [upd_ne q23, upd_same]
    have q1 := ne_of_none c1 n
    have q2 := ne_of_none c2 n
    have q3 : p3 ≠ p := ne_of_none upd_same n
    refine ⟨_, rfl, a, d, _, rfl, by rw [upd_ne m4]; exact a3, hd, by decide, by decide, hc, fun r d' hd' hc' r0 r1 => ?_⟩
    generalize hH : upd (upd (upd (upd (upd H p1 (.tup [.int 2])) p2 (.lst [.int 3])) p3 (.dK [])) p (.lst [V.int 0, .int 1, .int 6, .int (-2), .bl true, .non, .str "2", .ref p1, .ref p2, .ref p3, .int (10 ^ (40 : Int).toNat)])) a (.lst (dieL d')) = Hf
    have e1 : Hf p1 = some (.tup [.int 2]) := by rw [← hH, upd_ne m1.symm, upd_ne q1]; exact c1
    have e2 : Hf p2 = some (.lst [.int 3]) := by rw [← hH, upd_ne m2.symm, upd_ne q2]; exact c2
    have e3 : Hf p3 = some (.dK []) := by rw [← hH, upd_ne m3.symm, upd_ne q3, upd_same]
    have e4 : Hf p = some (.lst [V.int 0, .int 1, .int 6, .int (-2), .bl true, .non, .str "2", .ref p1, .ref p2, .ref p3, .int (10 ^ (40 : Int).toNat)]) := by rw [← hH, upd_ne m4.symm, upd_same]
    have e5 : Hf a = some (.lst (dieL d')) := by rw [← hH, upd_same]
    have kp : Kp a H Hf := by
      rw [← hH]
      exact ((((Kp.new n1).trans (Kp.new n2)).trans (Kp.new n3)).trans (Kp.new n)).trans Kp.upd
    obtain ⟨v, hv, ho, hw, hq⟩ : ∃ v, atI [V.int 0, .int 1, .int 6, .int (-2), .bl true, .non, .str "2", .ref p1, .ref p2, .ref p3, .int (10 ^ (40 : Int).toNat)] r = some v ∧ Odd Hf v ∧ withinV 2 5 v = false ∧ ∀ q, v = .ref q → q ≠ a := by
      have : r = 0 ∨ r = 1 ∨ r = 2 ∨ r = 3 ∨ r = 4 ∨ r = 5 ∨ r = 6 ∨ r = 7 ∨ r = 8 ∨ r = 9 ∨ r = 10 := by omega
      rcases this with e | e | e | e | e | e | e | e | e | e | e <;> subst e
      · exact ⟨_, rfl, odd_int _ (by decide +kernel) (by decide +kernel) (by decide +kernel), rfl, fun _ z => nomatch z⟩
      · exact ⟨_, rfl, odd_int _ (by decide +kernel) (by decide +kernel) (by decide +kernel), rfl, fun _ z => nomatch z⟩
      · exact ⟨_, rfl, odd_int _ (by decide +kernel) (by decide +kernel) (by decide +kernel), rfl, fun _ z => nomatch z⟩
      · exact ⟨_, rfl, odd_int _ (by decide +kernel) (by decide +kernel) (by decide +kernel), rfl, fun _ z => nomatch z⟩
      · exact ⟨_, rfl, odd_bl _, rfl, fun _ z => nomatch z⟩
      · exact ⟨_, rfl, odd_non, rfl, fun _ z => nomatch z⟩
      · exact ⟨_, rfl, odd_str _ (by decide +kernel) (by decide +kernel) (by decide +kernel), rfl, fun _ z => nomatch z⟩
      · exact ⟨_, rfl, ⟨⟨_, .tup e1⟩, _, .tup e1 (.cons (.int 2) .nil), rfl, by decide +kernel, by decide +kernel⟩, rfl, fun _ z => V.ref.inj z ▸ m1.symm⟩
      · exact ⟨_, rfl, ⟨⟨_, .lst e2⟩, _, .lst e2 (.cons (.int 3) .nil), rfl, by decide +kernel, by decide +kernel⟩, rfl, fun _ z => V.ref.inj z ▸ m2.symm⟩
      · exact ⟨_, rfl, ⟨⟨_, .dct e3⟩, _, .dct e3, rfl, by decide +kernel, by decide +kernel⟩, rfl, fun _ z => V.ref.inj z ▸ m3.symm⟩
      · exact ⟨_, rfl, odd_int _ (by decide +kernel) (by decide +kernel) (by decide +kernel), by decide +kernel, fun _ z => nomatch z⟩
    refine ⟨p, _, r, v, rfl, rfl, SqL.of (hH ▸ e4), hv, ?_⟩
    exact hH ▸ k v d' Hf hd' hc' kp e5 ho hw hq
/-! ### what stays -/
theorem sh_keep {H H' : Hp} {v : V} {d : PyData} (h : VG.Sh H v d) (k : ∀ q o, v = .ref q → (∀ ps, o ≠ .tbl ps) → H q = some o → H' q = some o) : VG.Sh H' v d := by
  cases h with
  | fl f => exact .fl f
  | lst e f => exact .lst (k _ _ rfl (fun _ z => nomatch z) e) f
  | tup e f => exact .tup (k _ _ rfl (fun _ z => nomatch z) e) f
  | dct e => exact .dct (k _ _ rfl (fun _ z => nomatch z) e)
theorem pl_keep {H H' : Hp} {v : V} {t : Value} (h : Pl H v t) (k : ∀ q o, v = .ref q → (∀ ps, o ≠ .tbl ps) → H q = some o → H' q = some o) : Pl H' v t := by
  cases h with
  | non => exact .non
  | bl b => exact .bl b
  | int n => exact .int n
  | str x h => exact .str x h
  | lst e => exact .lst (k _ _ rfl (fun _ z => nomatch z) e)
  | tup e => exact .tup (k _ _ rfl (fun _ z => nomatch z) e)
  | dct e => exact .dct (k _ _ rfl (fun _ z => nomatch z) e)
theorem odd_keep {H H' : Hp} {v : V} (h : Odd H v) (k : ∀ q o, v = .ref q → (∀ ps, o ≠ .tbl ps) → H q = some o → H' q = some o) : Odd H' v := by
  obtain ⟨⟨t, p⟩, d, s, r⟩ := h
  exact ⟨⟨t, pl_keep p k⟩, d, sh_keep s k, r⟩
theorem tabs_kp {T : List (Addr × Str)} {H H' : Hp} {a : Addr} {l : List V} (t : LamX.Tabs T H) (ha : H a = some (.lst l)) (k : Kp a H H') : LamX.Tabs T H' := fun p hp => by
  obtain ⟨ps, h1, h2, h3⟩ := t p hp
  have n1 : p.1 ≠ a := fun z => by rw [z, ha] at h1; cases h1
  refine ⟨ps, k _ _ n1 h1, h2, fun pos cv hc => ?_⟩
  obtain ⟨c, e1, e2⟩ := h3 pos cv hc
  have n2 : c ≠ a := fun z => by
    rw [z, ha] at e2
    unfold LamX.CodeO at e2
    cases e2
  exact ⟨c, e1, k _ _ n2 e2⟩
/-- all but a and the tables stays -/
def KT (a : Addr) (H H' : Hp) : Prop := ∀ b o, b ≠ a → (∀ ps, o ≠ .tbl ps) → H b = some o → H' b = some o
end
end Vf


set_option Elab.async false
set_option maxRecDepth 100000
set_option maxHeartbeats 8000000
set_option exponentiation.threshold 3000
namespace Vf
open PySem L2 SX Vm
open PySem.Builtin.Str PySem.StrLaws
theorem same_new {H : Hp} {p : Addr} {o : HO} (n : H p = none) : Same H (upd H p o) := fun b u e => by rw [upd_ne (ne_of_none e n)]; exact e
theorem Pl.sm {H H' : Hp} {v : V} {t : Value} (p : Pl H v t) (s : Same H H') : Pl H' v t := p.same fun b o e _ => s b o e
/-- what is not a stream, whatever it is -/
def spNoStream : Sp := fun vs H Q _ => ∃ (a : Addr) (d : Int × Int × Int) (b : Nat), vs = [.ref a, .int (b : Int)] ∧ H a = some (.lst (dieL d)) ∧ DieOk d ∧ d.2.2 ≤ 1000000000 ∧ 2 ≤ b ∧ b ≤ 5 ∧
  ∀ (v : V) (d' : Int × Int × Int) (H' : Hp), DieOk d' → d'.2.2 ≤ d.2.2 + 1 → Kp a H H' → H' a = some (.lst (dieL d')) → SF H' b 5000 v false → (∀ q, v = .ref q → q ≠ a) → Q v H'
def spNoPfx : Sp := fun vs H Q _ => ∃ (a : Addr) (d : Int × Int × Int) (b : Nat), vs = [.ref a, .int (b : Int)] ∧ H a = some (.lst (dieL d)) ∧ DieOk d ∧ d.2.2 ≤ 1000000000 ∧ 2 ≤ b ∧ b ≤ 5 ∧
  ∀ (v : V) (d' : Int × Int × Int) (H' : Hp), DieOk d' → d'.2.2 ≤ d.2.2 + 1 → Kp a H H' → H' a = some (.lst (dieL d')) → PF H' b 5000 v false → (∀ q, v = .ref q → q ≠ a) → Q v H'
theorem sfB_ends {x y : List Nat} (h : Txt.endswith (S x) ⟨#[y.getD (y.length - 1) 0]⟩ = true) : sfB x y = false := by
  unfold sfB
  rw [h, Bool.not_true, Bool.and_false]
theorem sfB_per {x y : List Nat} (t : Nat) (h0 : 0 < t) (h1 : t < y.length) (h : Per y t) : sfB x y = false := by
  unfold sfB
  rw [decide_eq_false (fun l => l.min t h0 h1 h), Bool.false_and]
theorem sf_of {H : Hp} {b : Nat} {R : Int} {p : Addr} {x y : List Nat} (e : sfB x y = false) (h : H p = some (.tup [.int 0, .str (S x), .str (S y)])) (r : withinV 0 (R - 1) (.int 0) = true) (wx : IsW b x) (wy : IsW b y) (y0 : 0 < y.length) (lx : x.length ≤ 9000) (ly : y.length ≤ 1000) : SF H b R (.ref p) false := by
  rw [← e]
  exact .fin h (fun _ => .int 0) r wx wy y0 lx ly
theorem isW_lit {b : Nat} {l : List Nat} (h : (l.all fun c => decide (48 ≤ c) && decide (c < 48 + b)) = true) : IsW (b : Int) l := fun c hc => by
  have := List.all_eq_true.mp h c hc
  simp at this
  omega
theorem isW2 {b : Nat} (b2 : 2 ≤ b) {l : List Nat} (h : (l.all fun c => decide (48 ≤ c) && decide (c < 50)) = true) : IsW (b : Int) l := fun c hc => by
  have := List.all_eq_true.mp h c hc
  simp at this
  omega
section
variable {P : Program} {w : World} {K : PySem.W.Frag} {mg : Str → Option Value} {base : Heap}
theorem scNoStream : FnScope ["die", "base", "some"] ["die", "base"] (defScope sNoStream) := ⟨rfl, rfl, rfl, by decide +kernel, rfl, by decide +kernel, by decide +kernel⟩
theorem ok_nostream {f fP : Addr} {fd fdP : FuncData} (F : Fun K "_law_no_stream" "_law_no_stream" sNoStream f fd) (GP : FnOk P w K mg base CX0 1 fP fdP ["die", "many"] spPull) (cP : Cal K mg "_law_pull" fP fdP ["die", "many"]) (ms : mg "str" = none) : FnOk P w K mg base CX0 2 f fd ["die", "base"] spNoStream := by
  refine F.ok scNoStream (fun vs H Q E h => ?_) (fun cdv A outer s H vs Q E hr h => ?_)
  · obtain ⟨a, d, b, rfl, _⟩ := h
    rfl
  · obtain ⟨a, d, b, rfl, ha, hd, hc, b2, b5, k⟩ := h
    have nd := scNoStream.nd
    refine ⟨_, pss_cons (ps_set (i := 2) nd rfl (.inl rfl) (pe_lst (pa_cons pe_non (pa_cons pe_int (pa_cons pe_str (pa_cons (pe_tup pa_nil) (pa_cons (pe_tup (pa_cons pe_int (pa_cons pe_str (pa_cons pe_str pa_nil)))) (pa_cons (pe_tup (pa_cons pe_int (pa_cons pe_str pa_nil))) (pa_cons (pe_tup (pa_cons pe_int (pa_cons pe_str (pa_cons pe_str pa_nil)))) (pa_cons (pe_tup (pa_cons pe_int (pa_cons pe_str (pa_cons pe_str pa_nil)))) (pa_cons (pe_tup (pa_cons pe_int (pa_cons pe_str (pa_cons pe_str pa_nil)))) (pa_cons (pe_lst (pa_cons pe_int (pa_cons pe_str (pa_cons pe_str pa_nil)))) pa_nil))))))))))))
      (pss_cons (ps_set (i := 2) nd rfl (.inl rfl) (pe_op op_cat (pv 2) (pe_lst (pa_cons (pe_tup (pa_cons (pe_un un_neg pe_int) (pa_cons pe_str (pa_cons pe_str pa_nil)))) (pa_cons (pe_tup (pa_cons pe_int (pa_cons pe_str (pa_cons pe_str pa_nil)))) (pa_cons (pe_tup (pa_cons pe_bl (pa_cons pe_str (pa_cons pe_str pa_nil)))) (pa_cons (pe_tup (pa_cons pe_int (pa_cons pe_str (pa_cons pe_str pa_nil)))) pa_nil)))))))
      (pss_cons (ps_expr (pe_bm PySem.F.plainAttrs_list PySem.F.slot_list_append PySem.F.type_list_append mt_append (pv 2) (pa_cons (pe_tup (pa_cons pe_int (pa_cons pe_str (pa_cons (pe_op op_add_str (pe_slice sl_str pe_str po_none (po_some (pv 1))) (pe_callTy call_str_int (by rfl) ms PyProof.Rows.boot_str (pa_cons (pv 1) pa_nil))) pa_nil)))) pa_nil)))
      (pss_cons (ps_set (i := 2) nd rfl (.inl rfl) (pe_op op_cat (pv 2) (pe_lst (pa_cons (pe_tup (pa_cons pe_int (pa_cons pe_non (pa_cons pe_str pa_nil)))) (pa_cons (pe_tup (pa_cons pe_int (pa_cons pe_str (pa_cons pe_int pa_nil)))) (pa_cons (pe_tup (pa_cons pe_str (pa_cons pe_str (pa_cons pe_str pa_nil)))) (pa_cons (pe_tup (pa_cons pe_int (pa_cons pe_str (pa_cons pe_str (pa_cons pe_str pa_nil))))) (pa_cons pe_dnewK (pa_cons (pe_tup (pa_cons pe_int (pa_cons pe_str (pa_cons pe_str pa_nil)))) (pa_cons (pe_tup (pa_cons pe_int (pa_cons pe_str (pa_cons pe_str pa_nil)))) pa_nil))))))))))
      (pss_one (ps_ret (pe_ix ix_list (pv 2) (pe_call GP hr rfl cP.mg cP.kp cP.b .nil pass0 (pa_cons (pv 0) (pa_cons pe_int pa_nil))) (fun _ _ => rfl))))))), ?_⟩
    refine ⟨(by show 0 ≤ sizeLine; decide), fun p3 n1 => ?_⟩
    have s1 : Same H (upd H p3 (.tup [])) := same_new n1
    have hp3 : upd H p3 (.tup []) p3 = some (.tup []) := upd_same
    generalize upd H p3 (.tup []) = J1 at s1 hp3 ⊢
    refine ⟨(by show 3 ≤ sizeLine; decide), fun p4 n2 => ?_⟩
    have s2 : Same J1 (upd J1 p4 (.tup [.int 0, .str "", .str ""])) := same_new n2
    have hp4 : upd J1 p4 (.tup [.int 0, .str "", .str ""]) p4 = some (.tup [.int 0, .str "", .str ""]) := upd_same
    generalize upd J1 p4 (.tup [.int 0, .str "", .str ""]) = J2 at s2 hp4 ⊢
    refine ⟨(by show 2 ≤ sizeLine; decide), fun p5 n3 => ?_⟩
    have s3 : Same J2 (upd J2 p5 (.tup [.int 0, .str "0"])) := same_new n3
    have hp5 : upd J2 p5 (.tup [.int 0, .str "0"]) p5 = some (.tup [.int 0, .str "0"]) := upd_same
    generalize upd J2 p5 (.tup [.int 0, .str "0"]) = J3 at s3 hp5 ⊢
    refine ⟨(by show 3 ≤ sizeLine; decide), fun p6 n4 => ?_⟩
    have s4 : Same J3 (upd J3 p6 (.tup [.int 0, .str "0", .str "0"])) := same_new n4
    have hp6 : upd J3 p6 (.tup [.int 0, .str "0", .str "0"]) p6 = some (.tup [.int 0, .str "0", .str "0"]) := upd_same
    generalize upd J3 p6 (.tup [.int 0, .str "0", .str "0"]) = J4 at s4 hp6 ⊢
    refine ⟨(by show 3 ≤ sizeLine; decide), fun p7 n5 => ?_⟩
    have s5 : Same J4 (upd J4 p7 (.tup [.int 0, .str "", .str "11"])) := same_new n5
    have hp7 : upd J4 p7 (.tup [.int 0, .str "", .str "11"]) p7 = some (.tup [.int 0, .str "", .str "11"]) := upd_same
    generalize upd J4 p7 (.tup [.int 0, .str "", .str "11"]) = J5 at s5 hp7 ⊢
    refine ⟨(by show 3 ≤ sizeLine; decide), fun p8 n6 => ?_⟩
    have s6 : Same J5 (upd J5 p8 (.tup [.int 0, .str "", .str "0101"])) := same_new n6
    have hp8 : upd J5 p8 (.tup [.int 0, .str "", .str "0101"]) p8 = some (.tup [.int 0, .str "", .str "0101"]) := upd_same
    generalize upd J5 p8 (.tup [.int 0, .str "", .str "0101"]) = J6 at s6 hp8 ⊢
    refine ⟨(by show 3 ≤ sizeLine; decide), fun p9 n7 => ?_⟩
    have s7 : Same J6 (upd J6 p9 (.lst [.int 0, .str "", .str "1"])) := same_new n7
    have hp9 : upd J6 p9 (.lst [.int 0, .str "", .str "1"]) p9 = some (.lst [.int 0, .str "", .str "1"]) := upd_same
    generalize upd J6 p9 (.lst [.int 0, .str "", .str "1"]) = J7 at s7 hp9 ⊢
    refine ⟨(by show 10 ≤ sizeLine; decide), fun x1 n8 => ?_⟩
    have s8 : Same J7 (upd J7 x1 (.lst [.non, .int 7, .str "0", .ref p3, .ref p4, .ref p5, .ref p6, .ref p7, .ref p8, .ref p9])) := same_new n8
    have hx1 : upd J7 x1 (.lst [.non, .int 7, .str "0", .ref p3, .ref p4, .ref p5, .ref p6, .ref p7, .ref p8, .ref p9]) x1 = some (.lst [.non, .int 7, .str "0", .ref p3, .ref p4, .ref p5, .ref p6, .ref p7, .ref p8, .ref p9]) := upd_same
    generalize upd J7 x1 (.lst [.non, .int 7, .str "0", .ref p3, .ref p4, .ref p5, .ref p6, .ref p7, .ref p8, .ref p9]) = J8 at s8 hx1 ⊢
    refine ⟨_, rfl, ?_⟩
    refine ⟨_, rfl, (by show 3 ≤ sizeLine; decide), fun p10 n9 => ?_⟩
    have s9 : Same J8 (upd J8 p10 (.tup [.int (-1), .str "", .str "1"])) := same_new n9
    have hp10 : upd J8 p10 (.tup [.int (-1), .str "", .str "1"]) p10 = some (.tup [.int (-1), .str "", .str "1"]) := upd_same
    generalize upd J8 p10 (.tup [.int (-1), .str "", .str "1"]) = J9 at s9 hp10 ⊢
    refine ⟨(by show 3 ≤ sizeLine; decide), fun p11 n10 => ?_⟩
    have s10 : Same J9 (upd J9 p11 (.tup [.int 5000, .str "", .str "1"])) := same_new n10
    have hp11 : upd J9 p11 (.tup [.int 5000, .str "", .str "1"]) p11 = some (.tup [.int 5000, .str "", .str "1"]) := upd_same
    generalize upd J9 p11 (.tup [.int 5000, .str "", .str "1"]) = J10 at s10 hp11 ⊢
    refine ⟨(by show 3 ≤ sizeLine; decide), fun p12 n11 => ?_⟩
    have s11 : Same J10 (upd J10 p12 (.tup [.bl true, .str "", .str "1"])) := same_new n11
    have hp12 : upd J10 p12 (.tup [.bl true, .str "", .str "1"]) p12 = some (.tup [.bl true, .str "", .str "1"]) := upd_same
    generalize upd J10 p12 (.tup [.bl true, .str "", .str "1"]) = J11 at s11 hp12 ⊢
    refine ⟨(by show 3 ≤ sizeLine; decide), fun p13 n12 => ?_⟩
    have s12 : Same J11 (upd J11 p13 (.tup [.int 0, .str "9", .str "1"])) := same_new n12
    have hp13 : upd J11 p13 (.tup [.int 0, .str "9", .str "1"]) p13 = some (.tup [.int 0, .str "9", .str "1"]) := upd_same
    generalize upd J11 p13 (.tup [.int 0, .str "9", .str "1"]) = J12 at s12 hp13 ⊢
    refine ⟨(by show 4 ≤ sizeLine; decide), fun x2 n13 => ?_⟩
    have s13 : Same J12 (upd J12 x2 (.lst [.ref p10, .ref p11, .ref p12, .ref p13])) := same_new n13
    have hx2 : upd J12 x2 (.lst [.ref p10, .ref p11, .ref p12, .ref p13]) x2 = some (.lst [.ref p10, .ref p11, .ref p12, .ref p13]) := upd_same
    generalize upd J12 x2 (.lst [.ref p10, .ref p11, .ref p12, .ref p13]) = J13 at s13 hx2 ⊢
    have hx1' := s13 _ _ (s12 _ _ (s11 _ _ (s10 _ _ (s9 _ _ (hx1)))))
    refine ⟨x1, x2, _, _, rfl, rfl, hx1', hx2, (by show 14 ≤ sizeLine; decide), fun l n14 => ?_⟩
    have s14 : Same J13 (upd J13 l (.lst ([.non, .int 7, .str "0", .ref p3, .ref p4, .ref p5, .ref p6, .ref p7, .ref p8, .ref p9] ++ [.ref p10, .ref p11, .ref p12, .ref p13]))) := same_new n14
    have hl : upd J13 l (.lst ([.non, .int 7, .str "0", .ref p3, .ref p4, .ref p5, .ref p6, .ref p7, .ref p8, .ref p9] ++ [.ref p10, .ref p11, .ref p12, .ref p13])) l = some (.lst ([.non, .int 7, .str "0", .ref p3, .ref p4, .ref p5, .ref p6, .ref p7, .ref p8, .ref p9] ++ [.ref p10, .ref p11, .ref p12, .ref p13])) := upd_same
    generalize upd J13 l (.lst ([.non, .int 7, .str "0", .ref p3, .ref p4, .ref p5, .ref p6, .ref p7, .ref p8, .ref p9] ++ [.ref p10, .ref p11, .ref p12, .ref p13])) = J14 at s14 hl ⊢
    have hlog : ((b : Int)).natAbs.log2 < 1920 := by
      have : b = 2 ∨ b = 3 ∨ b = 4 ∨ b = 5 := by omega
      rcases this with e | e | e | e <;> subst e <;> decide +kernel
    have hword : ((cutS ("01234" : Str) none (some (b : Int)) ++ Str.ofString (toString (b : Int)))).length ≤ sizeLine ∧ (cutS ("01234" : Str) none (some (b : Int))).length + (Str.ofString (toString (b : Int))).length ≤ sizeLine := by
      have : b = 2 ∨ b = 3 ∨ b = 4 ∨ b = 5 := by omega
      rcases this with e | e | e | e <;> subst e <;> exact ⟨by decide +kernel, by decide +kernel⟩
    refine ⟨_, rfl, .inl ⟨rfl, _, SqL.of hl⟩, ?_⟩
    refine ⟨_, rfl, _, rfl, _, rfl, len5, _, rfl, (b : Int), rfl, hlog, _, _, rfl, rfl, hword.2, (by show 3 ≤ sizeLine; decide), fun p14 n15 => ?_⟩
    have s15 : Same J14 (upd J14 p14 (.tup [.int 0, .str "", .str (cutS ("01234" : Str) none (some (b : Int)) ++ Str.ofString (toString (b : Int)))])) := same_new n15
    have hp14 : upd J14 p14 (.tup [.int 0, .str "", .str (cutS ("01234" : Str) none (some (b : Int)) ++ Str.ofString (toString (b : Int)))]) p14 = some (.tup [.int 0, .str "", .str (cutS ("01234" : Str) none (some (b : Int)) ++ Str.ofString (toString (b : Int)))]) := upd_same
    have m14 : l ≠ p14 := ne_of_none hl n15
    generalize upd J14 p14 (.tup [.int 0, .str "", .str (cutS ("01234" : Str) none (some (b : Int)) ++ Str.ofString (toString (b : Int)))]) = J15 at s15 hp14 ⊢
    have hl2 := s15 _ _ hl
    refine ⟨l, _, .ref p14, rfl, rfl, hl2, (by show 14 < sizeLine; decide), ?_⟩
    have sB : Same J13 (upd J15 l (.lst (([.non, .int 7, .str "0", .ref p3, .ref p4, .ref p5, .ref p6, .ref p7, .ref p8, .ref p9] ++ [.ref p10, .ref p11, .ref p12, .ref p13]) ++ [.ref p14]))) := fun b o e => by
      have nb : b ≠ l := ne_of_none e n14
      rw [upd_ne nb]
      exact s15 _ _ (s14 _ _ e)
    have hp14' : upd J15 l (.lst (([.non, .int 7, .str "0", .ref p3, .ref p4, .ref p5, .ref p6, .ref p7, .ref p8, .ref p9] ++ [.ref p10, .ref p11, .ref p12, .ref p13]) ++ [.ref p14])) p14 = _ := (upd_ne m14.symm).trans hp14
    have hl3 : upd J15 l (.lst (([.non, .int 7, .str "0", .ref p3, .ref p4, .ref p5, .ref p6, .ref p7, .ref p8, .ref p9] ++ [.ref p10, .ref p11, .ref p12, .ref p13]) ++ [.ref p14])) l = some (.lst (([.non, .int 7, .str "0", .ref p3, .ref p4, .ref p5, .ref p6, .ref p7, .ref p8, .ref p9] ++ [.ref p10, .ref p11, .ref p12, .ref p13]) ++ [.ref p14])) := upd_same
    generalize upd J15 l (.lst (([.non, .int 7, .str "0", .ref p3, .ref p4, .ref p5, .ref p6, .ref p7, .ref p8, .ref p9] ++ [.ref p10, .ref p11, .ref p12, .ref p13]) ++ [.ref p14])) = J16 at sB hp14' hl3 ⊢
    refine ⟨_, rfl, ?_⟩
    refine ⟨(by show 3 ≤ sizeLine; decide), fun p15 n17 => ?_⟩
    have s17 : Same J16 (upd J16 p15 (.tup [.int 0, .non, .str "1"])) := same_new n17
    have hp15 : upd J16 p15 (.tup [.int 0, .non, .str "1"]) p15 = some (.tup [.int 0, .non, .str "1"]) := upd_same
    generalize upd J16 p15 (.tup [.int 0, .non, .str "1"]) = J17 at s17 hp15 ⊢
    refine ⟨(by show 3 ≤ sizeLine; decide), fun p16 n18 => ?_⟩
    have s18 : Same J17 (upd J17 p16 (.tup [.int 0, .str "", .int 1])) := same_new n18
    have hp16 : upd J17 p16 (.tup [.int 0, .str "", .int 1]) p16 = some (.tup [.int 0, .str "", .int 1]) := upd_same
    generalize upd J17 p16 (.tup [.int 0, .str "", .int 1]) = J18 at s18 hp16 ⊢
    refine ⟨(by show 3 ≤ sizeLine; decide), fun p17 n19 => ?_⟩
    have s19 : Same J18 (upd J18 p17 (.tup [.str "0", .str "", .str "1"])) := same_new n19
    have hp17 : upd J18 p17 (.tup [.str "0", .str "", .str "1"]) p17 = some (.tup [.str "0", .str "", .str "1"]) := upd_same
    generalize upd J18 p17 (.tup [.str "0", .str "", .str "1"]) = J19 at s19 hp17 ⊢
    refine ⟨(by show 4 ≤ sizeLine; decide), fun p18 n20 => ?_⟩
    have s20 : Same J19 (upd J19 p18 (.tup [.int 0, .str "", .str "1", .str ""])) := same_new n20
    have hp18 : upd J19 p18 (.tup [.int 0, .str "", .str "1", .str ""]) p18 = some (.tup [.int 0, .str "", .str "1", .str ""]) := upd_same
    generalize upd J19 p18 (.tup [.int 0, .str "", .str "1", .str ""]) = J20 at s20 hp18 ⊢
    refine fun p19 n21 => ?_
    have s21 : Same J20 (upd J20 p19 (.dK [])) := same_new n21
    have hp19 : upd J20 p19 (.dK []) p19 = some (.dK []) := upd_same
    generalize upd J20 p19 (.dK []) = J21 at s21 hp19 ⊢
    refine ⟨(by show 3 ≤ sizeLine; decide), fun p20 n22 => ?_⟩
    have s22 : Same J21 (upd J21 p20 (.tup [.int 0, .str "10", .str "10"])) := same_new n22
    have hp20 : upd J21 p20 (.tup [.int 0, .str "10", .str "10"]) p20 = some (.tup [.int 0, .str "10", .str "10"]) := upd_same
    generalize upd J21 p20 (.tup [.int 0, .str "10", .str "10"]) = J22 at s22 hp20 ⊢
    refine ⟨(by show 3 ≤ sizeLine; decide), fun p21 n23 => ?_⟩
    have s23 : Same J22 (upd J22 p21 (.tup [.int 0, .str " ", .str "1"])) := same_new n23
    have hp21 : upd J22 p21 (.tup [.int 0, .str " ", .str "1"]) p21 = some (.tup [.int 0, .str " ", .str "1"]) := upd_same
    generalize upd J22 p21 (.tup [.int 0, .str " ", .str "1"]) = J23 at s23 hp21 ⊢
    refine ⟨(by show 7 ≤ sizeLine; decide), fun x3 n24 => ?_⟩
    have s24 : Same J23 (upd J23 x3 (.lst [.ref p15, .ref p16, .ref p17, .ref p18, .ref p19, .ref p20, .ref p21])) := same_new n24
    have hx3 : upd J23 x3 (.lst [.ref p15, .ref p16, .ref p17, .ref p18, .ref p19, .ref p20, .ref p21]) x3 = some (.lst [.ref p15, .ref p16, .ref p17, .ref p18, .ref p19, .ref p20, .ref p21]) := upd_same
    generalize upd J23 x3 (.lst [.ref p15, .ref p16, .ref p17, .ref p18, .ref p19, .ref p20, .ref p21]) = J24 at s24 hx3 ⊢
    have hl4 := s24 _ _ (s23 _ _ (s22 _ _ (s21 _ _ (s20 _ _ (s19 _ _ (s18 _ _ (s17 _ _ (hl3))))))))
    refine ⟨l, x3, _, _, rfl, rfl, hl4, hx3, (by show 22 ≤ sizeLine; decide), fun L nL => ?_⟩
    have sL : Same J24 (upd J24 L (.lst (([.non, .int 7, .str "0", .ref p3, .ref p4, .ref p5, .ref p6, .ref p7, .ref p8, .ref p9] ++ [.ref p10, .ref p11, .ref p12, .ref p13]) ++ [.ref p14] ++ [.ref p15, .ref p16, .ref p17, .ref p18, .ref p19, .ref p20, .ref p21]))) := same_new nL
    have hL : upd J24 L (.lst (([.non, .int 7, .str "0", .ref p3, .ref p4, .ref p5, .ref p6, .ref p7, .ref p8, .ref p9] ++ [.ref p10, .ref p11, .ref p12, .ref p13]) ++ [.ref p14] ++ [.ref p15, .ref p16, .ref p17, .ref p18, .ref p19, .ref p20, .ref p21])) L = some (.lst (([.non, .int 7, .str "0", .ref p3, .ref p4, .ref p5, .ref p6, .ref p7, .ref p8, .ref p9] ++ [.ref p10, .ref p11, .ref p12, .ref p13]) ++ [.ref p14] ++ [.ref p15, .ref p16, .ref p17, .ref p18, .ref p19, .ref p20, .ref p21])) := upd_same
    have SA : Same H J13 := fun _ _ e => s13 _ _ (s12 _ _ (s11 _ _ (s10 _ _ (s9 _ _ (s8 _ _ (s7 _ _ (s6 _ _ (s5 _ _ (s4 _ _ (s3 _ _ (s2 _ _ (s1 _ _ (e)))))))))))))
    have SC : Same J16 J24 := fun _ _ e => s24 _ _ (s23 _ _ (s22 _ _ (s21 _ _ (s20 _ _ (s19 _ _ (s18 _ _ (s17 _ _ (e))))))))
    have haB := SA _ _ ha
    have haE := SC _ _ (sB _ _ haB)
    have naL : a ≠ L := ne_of_none haE nL
    have na9 : a ≠ p9 := ne_of_none (s6 _ _ (s5 _ _ (s4 _ _ (s3 _ _ (s2 _ _ (s1 _ _ (ha))))))) n7
    generalize upd J24 L (.lst (([.non, .int 7, .str "0", .ref p3, .ref p4, .ref p5, .ref p6, .ref p7, .ref p8, .ref p9] ++ [.ref p10, .ref p11, .ref p12, .ref p13]) ++ [.ref p14] ++ [.ref p15, .ref p16, .ref p17, .ref p18, .ref p19, .ref p20, .ref p21])) = JL at sL hL ⊢
    refine ⟨_, rfl, _, rfl, a, d, _, rfl, sL _ _ haE, hd, by decide, by decide, hc, fun r d' hd' hc' r0 r1 => ?_⟩
    have ha5 : upd JL a (.lst (dieL d')) a = some (.lst (dieL d')) := upd_same
    have kp : Kp a H (upd JL a (.lst (dieL d'))) := fun b o n e => by
      rw [upd_ne n]
      exact sL _ _ (SC _ _ (sB _ _ (SA _ _ e)))
    have hL5 : upd JL a (.lst (dieL d')) L = _ := (upd_ne naL.symm).trans hL
    have TT : ∀ (p : Addr) (xs : List V), JL p = some (.tup xs) → upd JL a (.lst (dieL d')) p = some (.tup xs) ∧ p ≠ a := fun p xs e => by
      have n : p ≠ a := fun z => by rw [z, sL _ _ haE] at e; cases e
      exact ⟨(upd_ne n).trans e, n⟩
    obtain ⟨g3, m3⟩ := TT _ _ (sL _ _ (SC _ _ (sB _ _ (s13 _ _ (s12 _ _ (s11 _ _ (s10 _ _ (s9 _ _ (s8 _ _ (s7 _ _ (s6 _ _ (s5 _ _ (s4 _ _ (s3 _ _ (s2 _ _ (hp3))))))))))))))))
    obtain ⟨g4, m4⟩ := TT _ _ (sL _ _ (SC _ _ (sB _ _ (s13 _ _ (s12 _ _ (s11 _ _ (s10 _ _ (s9 _ _ (s8 _ _ (s7 _ _ (s6 _ _ (s5 _ _ (s4 _ _ (s3 _ _ (hp4)))))))))))))))
    obtain ⟨g5, m5⟩ := TT _ _ (sL _ _ (SC _ _ (sB _ _ (s13 _ _ (s12 _ _ (s11 _ _ (s10 _ _ (s9 _ _ (s8 _ _ (s7 _ _ (s6 _ _ (s5 _ _ (s4 _ _ (hp5))))))))))))))
    obtain ⟨g6, m6⟩ := TT _ _ (sL _ _ (SC _ _ (sB _ _ (s13 _ _ (s12 _ _ (s11 _ _ (s10 _ _ (s9 _ _ (s8 _ _ (s7 _ _ (s6 _ _ (s5 _ _ (hp6)))))))))))))
    obtain ⟨g7, m7⟩ := TT _ _ (sL _ _ (SC _ _ (sB _ _ (s13 _ _ (s12 _ _ (s11 _ _ (s10 _ _ (s9 _ _ (s8 _ _ (s7 _ _ (s6 _ _ (hp7))))))))))))
    obtain ⟨g8, m8⟩ := TT _ _ (sL _ _ (SC _ _ (sB _ _ (s13 _ _ (s12 _ _ (s11 _ _ (s10 _ _ (s9 _ _ (s8 _ _ (s7 _ _ (hp8)))))))))))
    obtain ⟨g10, m10⟩ := TT _ _ (sL _ _ (SC _ _ (sB _ _ (s13 _ _ (s12 _ _ (s11 _ _ (s10 _ _ (hp10))))))))
    obtain ⟨g11, m11⟩ := TT _ _ (sL _ _ (SC _ _ (sB _ _ (s13 _ _ (s12 _ _ (s11 _ _ (hp11)))))))
    obtain ⟨g12, m12⟩ := TT _ _ (sL _ _ (SC _ _ (sB _ _ (s13 _ _ (s12 _ _ (hp12))))))
    obtain ⟨g13, m13⟩ := TT _ _ (sL _ _ (SC _ _ (sB _ _ (s13 _ _ (hp13)))))
    obtain ⟨g14, m14⟩ := TT _ _ (sL _ _ (SC _ _ hp14'))
    obtain ⟨g15, m15⟩ := TT _ _ (sL _ _ (s24 _ _ (s23 _ _ (s22 _ _ (s21 _ _ (s20 _ _ (s19 _ _ (s18 _ _ (hp15)))))))))
    obtain ⟨g16, m16⟩ := TT _ _ (sL _ _ (s24 _ _ (s23 _ _ (s22 _ _ (s21 _ _ (s20 _ _ (s19 _ _ (hp16))))))))
    obtain ⟨g17, m17⟩ := TT _ _ (sL _ _ (s24 _ _ (s23 _ _ (s22 _ _ (s21 _ _ (s20 _ _ (hp17)))))))
    obtain ⟨g18, m18⟩ := TT _ _ (sL _ _ (s24 _ _ (s23 _ _ (s22 _ _ (s21 _ _ (hp18))))))
    obtain ⟨g20, m20⟩ := TT _ _ (sL _ _ (s24 _ _ (s23 _ _ (hp20))))
    obtain ⟨g21, m21⟩ := TT _ _ (sL _ _ (s24 _ _ (hp21)))
    have g9 : upd JL a (.lst (dieL d')) p9 = _ := (upd_ne na9.symm).trans (sL _ _ (SC _ _ (sB _ _ (s13 _ _ (s12 _ _ (s11 _ _ (s10 _ _ (s9 _ _ (s8 _ _ (hp9))))))))))
    have m19 : p19 ≠ a := fun z => by
      have e := sL _ _ (s24 _ _ (s23 _ _ (s22 _ _ (hp19))))
      rw [z, sL _ _ haE] at e
      cases e
    have g19 : upd JL a (.lst (dieL d')) p19 = _ := (upd_ne m19).trans (sL _ _ (s24 _ _ (s23 _ _ (s22 _ _ (hp19)))))
    generalize upd JL a (.lst (dieL d')) = HF at *
    have e0 : ("0" : Str) = S [48] := by decide +kernel
    have e11 : ("11" : Str) = S [49, 49] := by decide +kernel
    have e0101 : ("0101" : Str) = S [48, 49, 48, 49] := by decide +kernel
    have e10 : ("10" : Str) = S [49, 48] := by decide +kernel
    have eem : ("" : Str) = S [] := by decide +kernel
    have bb : b = 2 ∨ b = 3 ∨ b = 4 ∨ b = 5 := by omega
    have w0 : wordV b (.str "") = true := by rcases bb with e | e | e | e <;> subst e <;> decide +kernel
    have ps : ∀ x : Str, x.length ≤ 1000 → ∀ H0 : Hp, Pl H0 (.str x) (.type "str") := fun x h _ => .str x (Nat.le_trans h (by decide))
    obtain ⟨v, hv, sf, ne⟩ : ∃ v, atI [.non, .int 7, .str "0", .ref p3, .ref p4, .ref p5, .ref p6, .ref p7, .ref p8, .ref p9, .ref p10, .ref p11, .ref p12, .ref p13, .ref p14, .ref p15, .ref p16, .ref p17, .ref p18, .ref p19, .ref p20, .ref p21] r = some v ∧ SF HF b 5000 v false ∧ ∀ q, v = .ref q → q ≠ a := by
      have rr : r = 0 ∨ r = 1 ∨ r = 2 ∨ r = 3 ∨ r = 4 ∨ r = 5 ∨ r = 6 ∨ r = 7 ∨ r = 8 ∨ r = 9 ∨ r = 10 ∨ r = 11 ∨ r = 12 ∨ r = 13 ∨ r = 14 ∨ r = 15 ∨ r = 16 ∨ r = 17 ∨ r = 18 ∨ r = 19 ∨ r = 20 ∨ r = 21 := by omega
      rcases rr with e | e | e | e | e | e | e | e | e | e | e | e | e | e | e | e | e | e | e | e | e | e <;> subst e
      · exact ⟨_, rfl, .non .non (fun _ _ z => nomatch z), fun _ z => nomatch z⟩
      · exact ⟨_, rfl, .non (.int 7) (fun _ _ z => nomatch z), fun _ z => nomatch z⟩
      · exact ⟨_, rfl, .non ((ps _ (by decide +kernel)) _) (fun _ _ z => nomatch z), fun _ z => nomatch z⟩
      · exact ⟨_, rfl, .len g3 (by decide), fun _ z => V.ref.inj z ▸ m3⟩
      · exact ⟨_, rfl, .per g4 (fun _ => .int 0) rfl (ps _ (by decide +kernel)) w0 (ps _ (by decide +kernel)) (.inr rfl), fun _ z => V.ref.inj z ▸ m4⟩
      · exact ⟨_, rfl, .len g5 (by decide), fun _ z => V.ref.inj z ▸ m5⟩
      · exact ⟨_, rfl, sf_of (x := [48]) (y := [48]) (sfB_ends (x := [48]) (y := [48]) (by decide +kernel)) (by rw [e0] at g6; exact g6) rfl (isW2 b2 (by decide)) (isW2 b2 (by decide)) (by decide) (by decide) (by decide), fun _ z => V.ref.inj z ▸ m6⟩
      · exact ⟨_, rfl, sf_of (x := []) (y := [49, 49]) (sfB_per (x := []) (y := [49, 49]) 1 (by decide) (by decide) (per_small (by decide) (by decide))) (by rw [e11, eem] at g7; exact g7) rfl (isW2 b2 (by decide)) (isW2 b2 (by decide)) (by decide) (by decide) (by decide), fun _ z => V.ref.inj z ▸ m7⟩
      · exact ⟨_, rfl, sf_of (x := []) (y := [48, 49, 48, 49]) (sfB_per (x := []) (y := [48, 49, 48, 49]) 2 (by decide) (by decide) (per_small (by decide) (by decide))) (by rw [e0101, eem] at g8; exact g8) rfl (isW2 b2 (by decide)) (isW2 b2 (by decide)) (by decide) (by decide) (by decide), fun _ z => V.ref.inj z ▸ m8⟩
      · exact ⟨_, rfl, .non (.lst g9) (fun q xs z => by cases z; rw [g9]; intro z; cases z), fun _ z => V.ref.inj z ▸ na9.symm⟩
      · exact ⟨_, rfl, .root g10 (fun _ => .int _) rfl, fun _ z => V.ref.inj z ▸ m10⟩
      · exact ⟨_, rfl, .root g11 (fun _ => .int _) rfl, fun _ z => V.ref.inj z ▸ m11⟩
      · exact ⟨_, rfl, .root g12 (fun _ => .bl _) rfl, fun _ z => V.ref.inj z ▸ m12⟩
      · exact ⟨_, rfl, .head g13 (fun _ => .int 0) rfl (ps _ (by decide +kernel)) (by rcases bb with e | e | e | e <;> subst e <;> decide +kernel), fun _ z => V.ref.inj z ▸ m13⟩
      · exact ⟨_, rfl, .per g14 (fun _ => .int 0) rfl (ps _ (by decide +kernel)) w0 (ps _ (by rcases bb with e | e | e | e <;> subst e <;> decide +kernel)) (.inl (by rcases bb with e | e | e | e <;> subst e <;> decide +kernel)), fun _ z => V.ref.inj z ▸ m14⟩
      · exact ⟨_, rfl, .head g15 (fun _ => .int 0) rfl (fun _ => .non) rfl, fun _ z => V.ref.inj z ▸ m15⟩
      · exact ⟨_, rfl, .per g16 (fun _ => .int 0) rfl (ps _ (by decide +kernel)) w0 (fun _ => .int 1) (.inl rfl), fun _ z => V.ref.inj z ▸ m16⟩
      · exact ⟨_, rfl, .root g17 (ps _ (by decide +kernel)) rfl, fun _ z => V.ref.inj z ▸ m17⟩
      · exact ⟨_, rfl, .len g18 (by decide), fun _ z => V.ref.inj z ▸ m18⟩
      · exact ⟨_, rfl, .non (.dct g19) (fun q xs z => by cases z; rw [g19]; intro z; cases z), fun _ z => V.ref.inj z ▸ m19⟩
      · exact ⟨_, rfl, sf_of (x := [49, 48]) (y := [49, 48]) (sfB_ends (x := [49, 48]) (y := [49, 48]) (by decide +kernel)) (by rw [e10] at g20; exact g20) rfl (isW2 b2 (by decide)) (isW2 b2 (by decide)) (by decide) (by decide) (by decide), fun _ z => V.ref.inj z ▸ m20⟩
      · exact ⟨_, rfl, .head g21 (fun _ => .int 0) rfl (ps _ (by decide +kernel)) (by rcases bb with e | e | e | e <;> subst e <;> decide +kernel), fun _ z => V.ref.inj z ▸ m21⟩
    refine ⟨L, _, r, v, rfl, rfl, SqL.of hL5, hv, ?_⟩
    exact k v d' HF hd' hc' kp ha5 sf ne
end
end Vf


set_option Elab.async false
set_option maxRecDepth 100000
set_option maxHeartbeats 4000000
set_option exponentiation.threshold 3000
namespace Vf
open PySem L2 SX Vm
/-- what a stream shows is short -/
theorem tuple3_len (a b c : Str) : (PySem.tupleText [a, b, c]).length = a.length + b.length + c.length + 6 := by
  unfold PySem.tupleText
  have h := PySem.join_length_add [a, b, c] (by simp)
  have e : PySem.piled [a, b, c] = a.length + 2 + (b.length + 2 + (c.length + 2)) := by simp [PySem.piled]
  have e1 : ("(" : Str).length = 1 := by decide +kernel
  have e2 : (Str.ofString (if [a, b, c].length == 1 then ",)" else ")" : String)).length = 1 := by
    show (Str.ofString ")").length = 1
    decide +kernel
  have ap : ∀ x y : Str, (x ++ y).length = x.length + y.length := fun x y => by show (x.cps ++ y.cps).size = _; rw [Array.size_append]; rfl
  rw [ap, ap, e1, e2]
  omega
theorem shown_stream {r : Int} {h q : List Nat} (hr : r.natAbs.log2 < 1920) (hh : h.length ≤ 1000) (hq : q.length ≤ 1000) (wh : ∀ c ∈ h, c < 100) (wq : ∀ c ∈ q, c < 100) :
    (PyData.tuple [.int r, .str (S h), .str (S q)]).shown.length ≤ sizeLine := by
  show (PySem.tupleText [Str.ofString (toString r), reprText (S h), reprText (S q)]).length ≤ sizeLine
  rw [tuple3_len]
  have h1 := PyProof.Rows.int_text_len_1921 hr
  have h2 := PySem.StrLaws.reprText_len (S h) (fun c hc => Nat.lt_trans (wh c (by simpa using hc)) (by decide))
  have h3 := PySem.StrLaws.reprText_len (S q) (fun c hc => Nat.lt_trans (wq c (by simpa using hc)) (by decide))
  have lh : (S h).length = h.length := by rw [S_len]
  have lq : (S q).length = q.length := by rw [S_len]
  rw [lh] at h2
  rw [lq] at h3
  exact Nat.le_trans (show _ ≤ 30000 by omega) (by decide)
theorem lay_S {l : List Nat} (w : ∀ c ∈ l, c < 100) : PyData.canLay0 (.str (S l)) = true := by
  show (S l).cps.all _ = true
  rw [Array.all_eq_true']
  intro c hc
  exact decide_eq_true (Nat.lt_trans (w c (by simpa using hc)) (by decide))
theorem shaped3 {r : Int} {h q : List Nat} (wh : ∀ c ∈ h, c < 100) (wq : ∀ c ∈ q, c < 100) : SeqAt.shaped (.tuple [.int r, .str (S h), .str (S q)]) = true := by
  unfold SeqAt.shaped
  have e : PyData.canLay0 (.tuple [.int r, .str (S h), .str (S q)]) = true := by
    show (PyData.canLay0 (.int r) && (PyData.canLay0 (.str (S h)) && (PyData.canLay0 (.str (S q)) && true))) = true
    rw [lay_S wh, lay_S wq]
    rfl
  rw [e]
  rfl
theorem isW_small {b : Int} (b5 : b ≤ 5) {l : List Nat} (w : IsW b l) : ∀ c ∈ l, c < 100 := fun c hc => by
  have := (w c hc).2
  omega
theorem eqv3 {r : Int} {h q h' q' : List Nat} : PyData.eqv (.tuple [.int r, .str (S h), .str (S q)]) (.tuple [.int r, .str (S h'), .str (S q')]) = decide (h = h' ∧ q = q') := by
  show ((r == r) && ((S h == S h') && ((S q == S q') && true))) = _
  by_cases c1 : h = h'
  · subst c1
    by_cases c2 : q = q'
    · subst c2
      simp
    · have : (S q == S q') = false := by
        refine Bool.eq_false_iff.mpr fun z => c2 (S_inj (eq_of_beq z))
      rw [this]
      simp [c2]
  · have : (S h == S h') = false := by
      refine Bool.eq_false_iff.mpr fun z => c1 (S_inj (eq_of_beq z))
    rw [this]
    simp [c1]
end Vf


set_option Elab.async false
set_option maxRecDepth 100000
set_option maxHeartbeats 8000000
set_option exponentiation.threshold 3000
namespace Vf
open PySem L2 SX Vm
/-- two streams in normal form -/
structure Two (K : PySem.W.Frag) (H : Hp) (p p2 : Addr) (r : Int) (h q : List Nat) (r2 : Int) (h2 q2 : List Nat) : Prop where
  a : SqT K H p [.int r, .str (S h), .str (S q)]
  b : SqT K H p2 [.int r2, .str (S h2), .str (S q2)]
  n1 : Nf (ev h q) h q
  n2 : Nf (ev h2 q2) h2 q2
  l1 : h.length ≤ 3000
  l2 : h2.length ≤ 3000
  m1 : q.length ≤ 1000
  m2 : q2.length ≤ 1000
  w1 : ∀ c ∈ h, c < 100
  w2 : ∀ c ∈ h2, c < 100
  v1 : ∀ c ∈ q, c < 100
  v2 : ∀ c ∈ q2, c < 100
/-- a base and two streams, with their errors -/
def TwoS (K : PySem.W.Frag) (CN CS : Addr) (b v x : V) (H : Hp) (E : XK) (G : Addr → Addr → Int → List Nat → List Nat → Int → List Nat → List Nat → Prop) : Prop :=
  ∃ tb : Value, Pl H b tb ∧ (withinV 2 5 b = false → ∀ d, H d = none → E (.ref CN) (some d) (upd H d (.xd [(("value" : Str), b)]))) ∧
    ∀ n : Nat, b = .int (n : Int) → 2 ≤ n → n ≤ 5 → ∃ res, SF H n 5000 v res ∧ (res = false → E (.ref CS) none H) ∧ (res = true → ∃ res2, SF H n 5000 x res2 ∧ (res2 = false → E (.ref CS) none H) ∧
      (res2 = true → ∃ (p p2 : Addr) (r : Int) (h q : List Nat) (r2 : Int) (h2 q2 : List Nat), v = .ref p ∧ x = .ref p2 ∧ Two K H p p2 r h q r2 h2 q2 ∧ G p p2 r h q r2 h2 q2))
theorem TwoS.num {K : PySem.W.Frag} {CN CS : Addr} {b v x : V} {tb : Value} {H : Hp} {E : XK} {G : Addr → Addr → Int → List Nat → List Nat → Int → List Nat → List Nat → Prop} (pl : Pl H b tb) (hw : withinV 2 5 b = false) (k : ∀ d, H d = none → E (.ref CN) (some d) (upd H d (.xd [(("value" : Str), b)]))) : TwoS K CN CS b v x H E G :=
  ⟨tb, pl, fun _ => k, fun n e n2 n5 => by
    subst e
    have : withinV 2 5 (.int (n : Int)) = true := by
      show (decide ((2 : Int) ≤ n) && decide ((n : Int) ≤ 5)) = true
      rw [decide_eq_true (by omega), decide_eq_true (by omega)]
      rfl
    rw [this] at hw
    cases hw⟩
theorem TwoS.first {K : PySem.W.Frag} {CN CS : Addr} {b : Nat} {v x : V} {H : Hp} {E : XK} {G : Addr → Addr → Int → List Nat → List Nat → Int → List Nat → List Nat → Prop} (b2 : 2 ≤ b) (b5 : b ≤ 5) (s : SF H b 5000 v false) (k : E (.ref CS) none H) : TwoS K CN CS (.int (b : Int)) v x H E G :=
  ⟨_, .int _, fun z => absurd z (by
    have : withinV 2 5 (.int (b : Int)) = true := by
      show (decide ((2 : Int) ≤ b) && decide ((b : Int) ≤ 5)) = true
      rw [decide_eq_true (by omega), decide_eq_true (by omega)]
      rfl
    rw [this]
    decide), fun n e _ _ => by
    obtain rfl : b = n := Int.ofNat.inj (V.int.inj e)
    exact ⟨false, s, fun _ => k, fun z => by cases z⟩⟩
theorem TwoS.second {K : PySem.W.Frag} {CN CS : Addr} {b : Nat} {v x : V} {H : Hp} {E : XK} {G : Addr → Addr → Int → List Nat → List Nat → Int → List Nat → List Nat → Prop} (b2 : 2 ≤ b) (b5 : b ≤ 5) (s : SF H b 5000 v true) (s2 : SF H b 5000 x false) (k : E (.ref CS) none H) : TwoS K CN CS (.int (b : Int)) v x H E G :=
  ⟨_, .int _, fun z => absurd z (by
    have : withinV 2 5 (.int (b : Int)) = true := by
      show (decide ((2 : Int) ≤ b) && decide ((b : Int) ≤ 5)) = true
      rw [decide_eq_true (by omega), decide_eq_true (by omega)]
      rfl
    rw [this]
    decide), fun n e _ _ => by
    obtain rfl : b = n := Int.ofNat.inj (V.int.inj e)
    exact ⟨true, s, fun z => (by cases z), fun _ => ⟨false, s2, fun _ => k, fun z => by cases z⟩⟩⟩
/-- what is known of a drawn or written stream -/
structure OkS (b : Nat) (r : Int) (h q : List Nat) : Prop where
  r0 : 0 ≤ r
  r1 : r < 5000
  nf : Nf (ev h q) h q
  hl : h.length ≤ 3000
  ql : q.length ≤ 1000
  wh : IsW (b : Int) h
  wq : IsW (b : Int) q
theorem two_of {K : PySem.W.Frag} {H : Hp} {p p2 : Addr} {b : Nat} {r r2 : Int} {h q h2 q2 : List Nat} (b5 : b ≤ 5) (hp : H p = some (.tup [.int r, .str (S h), .str (S q)])) (hp2 : H p2 = some (.tup [.int r2, .str (S h2), .str (S q2)])) (o : OkS b r h q) (o2 : OkS b r2 h2 q2) : Two K H p p2 r h q r2 h2 q2 :=
  ⟨SqT.of hp, SqT.of hp2, o.nf, o2.nf, o.hl, o2.hl, o.ql, o2.ql, isW_small (by omega) o.wh, isW_small (by omega) o2.wh, isW_small (by omega) o.wq, isW_small (by omega) o2.wq⟩
theorem sf_ok {H : Hp} {p : Addr} {b : Nat} {r : Int} {h q : List Nat} (hp : H p = some (.tup [.int r, .str (S h), .str (S q)])) (o : OkS b r h q) : SF H b 5000 (.ref p) true :=
  SF.right hp o.r0 (by have := o.r1; omega) o.nf (by have := o.hl; omega) o.ql o.wh o.wq
theorem TwoS.right {K : PySem.W.Frag} {CN CS : Addr} {b : Nat} {p p2 : Addr} {r r2 : Int} {h q h2 q2 : List Nat} {H : Hp} {E : XK} {G : Addr → Addr → Int → List Nat → List Nat → Int → List Nat → List Nat → Prop} (b2 : 2 ≤ b) (b5 : b ≤ 5)
    (hp : H p = some (.tup [.int r, .str (S h), .str (S q)])) (hp2 : H p2 = some (.tup [.int r2, .str (S h2), .str (S q2)])) (o : OkS b r h q) (o2 : OkS b r2 h2 q2) (k : G p p2 r h q r2 h2 q2) : TwoS K CN CS (.int (b : Int)) (.ref p) (.ref p2) H E G :=
  ⟨_, .int _, fun z => absurd z (by
    have : withinV 2 5 (.int (b : Int)) = true := by
      show (decide ((2 : Int) ≤ b) && decide ((b : Int) ≤ 5)) = true
      rw [decide_eq_true (by omega), decide_eq_true (by omega)]
      rfl
    rw [this]
    decide), fun n e _ _ => by
    obtain rfl : b = n := Int.ofNat.inj (V.int.inj e)
    exact ⟨true, sf_ok hp o, fun z => (by cases z), fun _ => ⟨true, sf_ok hp2 o2, fun z => (by cases z), fun _ => ⟨p, p2, r, h, q, r2, h2, q2, rfl, rfl, two_of b5 hp hp2 o o2, k⟩⟩⟩⟩
/-- whether a stream comes before another one -/
def befB (r : Int) (h q : List Nat) (r2 : Int) (h2 q2 : List Nat) : Bool := if r = r2 then decide (begN h q (tell h q h2 q2) < begN h2 q2 (tell h q h2 q2)) else decide (r < r2)
def spReqTwo (K : PySem.W.Frag) (CN CS : Addr) : Sp := fun vs H Q E => ∃ (b v x : V), vs = [b, v, x] ∧ TwoS K CN CS b v x H E fun _ _ _ _ _ _ _ _ => Q .non H
def spTelling (K : PySem.W.Frag) : Sp := fun vs H Q _ => ∃ (p p2 : Addr) (r : Int) (h q : List Nat) (r2 : Int) (h2 q2 : List Nat), vs = [.ref p, .ref p2] ∧ Two K H p p2 r h q r2 h2 q2 ∧ Q (.int ((tell h q h2 q2 : Nat) : Int)) H
def spBefore (K : PySem.W.Frag) : Sp := fun vs H Q _ => ∃ (p p2 : Addr) (r : Int) (h q : List Nat) (r2 : Int) (h2 q2 : List Nat), vs = [.ref p, .ref p2] ∧ Two K H p p2 r h q r2 h2 q2 ∧ Q (.bl (befB r h q r2 h2 q2)) H
def spPrecedes (K : PySem.W.Frag) (CN CS : Addr) : Sp := fun vs H Q E => ∃ (b v x : V), vs = [b, v, x] ∧ TwoS K CN CS b v x H E fun _ _ r h q r2 h2 q2 => Q (.bl (befB r h q r2 h2 q2)) H
def spCommon (K : PySem.W.Frag) (CN CS CO : Addr) : Sp := fun vs H Q E => ∃ (b v x : V), vs = [b, v, x] ∧ TwoS K CN CS b v x H E fun _ _ r h q r2 h2 q2 =>
  ((r = r2 ∧ h = h2 ∧ q = q2) → E (.ref CO) none H) ∧ (r ≠ r2 → Q .non H) ∧ (r = r2 → ∀ n, (∀ j, j < n → ev h q j = ev h2 q2 j) → ev h q n ≠ ev h2 q2 n → ∀ t, H t = none → Q (.ref t) (upd H t (.tup [.int r, .str (S (begN h q n))])))
theorem tell_le {h q h2 q2 : List Nat} (l1 : h.length ≤ 3000) (l2 : h2.length ≤ 3000) (m1 : q.length ≤ 1000) (m2 : q2.length ≤ 1000) : tell h q h2 q2 ≤ 5000 := by
  unfold tell
  omega
theorem at_begN {h q : List Nat} {n i : Nat} (hi : i < n) : atI (S (begN h q n)).cps.toList (i : Int) = some (ev h q i) := by
  refine atI_nat (j := i) ?_
  show (begN h q n)[i]? = _
  rw [List.getElem?_eq_getElem (by rw [begN_len]; exact hi), begN_at]
theorem begN_take {h q : List Nat} {n m : Nat} (hm : m ≤ n) : (begN h q n).take m = begN h q m := by
  refine ext_getD (by rw [List.length_take, begN_len, begN_len]; omega) fun i hi => ?_
  have hi2 : i < m := by
    rw [List.length_take, begN_len] at hi
    omega
  rw [getD_take hi2, begN_get (by omega), begN_get hi2]
section
variable {P : Program} {w : World} {K : PySem.W.Frag} {mg : Str → Option Value} {base : Heap}
theorem scReqTwo : FnScope ["base", "first", "second"] ["base", "first", "second"] (defScope sReqTwo) := ⟨rfl, rfl, rfl, by decide +kernel, rfl, by decide +kernel, by decide +kernel⟩
theorem ok_reqtwo {f fB fS CN CS : Addr} {fd fdB fdS : FuncData} (F : Fun K "require_two_streams" "require_two_streams" sReqTwo f fd) (GB : FnOk P w K mg base (L2.CX P w) 4 fB fdB ["base"] (spReqB CN 2 5)) (cB : Cal K mg "require_base" fB fdB ["base"])
    (GS : FnOk P w K mg base (L2.CX P w) 4 fS fdS ["base", "roots", "stream"] (spReqStream CS)) (cS : Cal K mg "require_stream" fS fdS ["base", "roots", "stream"]) (N : Nm mg) : FnOk P w K mg base (L2.CX P w) 5 f fd ["base", "first", "second"] (spReqTwo K CN CS) := by
  refine F.okX scReqTwo (fun vs H Q E h => ?_) (fun cdv A outer s H vs Q E hr h => ?_)
  · obtain ⟨b, v, x, rfl, _⟩ := h
    rfl
  · obtain ⟨b, v, x, rfl, tb, pb, k1, k2⟩ := h
    obtain ⟨t2, m2⟩ := N.maxR
    refine ⟨_, pss_cons (ps_expr (pe_call GB hr rfl cB.mg cB.kp cB.b .nil (passes_call (takes_of rfl rfl rfl rfl) (fun _ _ _ _ h => h)) (pa_cons (pv 0) pa_nil)))
      (pss_cons (ps_expr (pe_call GS hr rfl cS.mg cS.kp cS.b .nil (passes_call (takes_of rfl rfl rfl rfl) (fun _ _ _ _ h => h)) (pa_cons (pv 0) (pa_cons (pe_glob (v := .int 5000) rfl m2 ⟨_, rfl⟩) (pa_cons (pv 1) pa_nil)))))
      (pss_one (ps_expr (pe_call GS hr rfl cS.mg cS.kp cS.b .nil (passes_call (takes_of rfl rfl rfl rfl) (fun _ _ _ _ h => h)) (pa_cons (pv 0) (pa_cons (pe_glob (v := .int 5000) rfl m2 ⟨_, rfl⟩) (pa_cons (pv 2) pa_nil))))))), ?_⟩
    refine ⟨_, rfl, _, _, rfl, pb, fun hw => ?_, k1⟩
    obtain ⟨n, rfl, n2, n5⟩ := within_base hw
    obtain ⟨res, sf, k3, k4⟩ := k2 n rfl n2 n5
    refine ⟨_, rfl, _, rfl, n, 5000, v, res, rfl, n2, n5, sf, fun z => ?_, k3⟩
    obtain ⟨res2, sf2, k5, k6⟩ := k4 z
    refine ⟨_, rfl, _, rfl, n, 5000, x, res2, rfl, n2, n5, sf2, fun z2 => ?_, k5⟩
    obtain ⟨p, p2, r, h, q, r2, h2, q2, rfl, rfl, _, k⟩ := k6 z2
    exact k
theorem scTelling : FnScope ["first", "second"] ["first", "second"] (defScope sTelling) := ⟨rfl, rfl, rfl, by decide +kernel, rfl, by decide +kernel, by decide +kernel⟩
theorem ok_telling {f : Addr} {fd : FuncData} (F : Fun K "telling_count" "telling_count" sTelling f fd) (ml : mg "len" = none) (mx : mg "max" = none) : FnOk P w K mg base CX0 1 f fd ["first", "second"] (spTelling K) := by
  refine F.ok scTelling (fun vs H Q E h => ?_) (fun cdv A outer s H vs Q E hr h => ?_)
  · obtain ⟨p, p2, r, h, q, r2, h2, q2, rfl, _⟩ := h
    rfl
  · obtain ⟨p, p2, r, h, q, r2, h2, q2, rfl, T, k⟩ := h
    have l1 := T.l1
    have l2 := T.l2
    have m1 := T.m1
    have m2 := T.m2
    refine ⟨_, pss_one (ps_ret (pe_op op_add (pe_op op_add (pe_callB (call_max2 rfl) (by rfl) mx PyProof.Rows.boot_max (pa_cons (pe_callB call_len_str (by rfl) ml boot_len (pa_cons (pe_ix ix_tup (pv 0) pe_int (fun _ _ => rfl)) pa_nil)) (pa_cons (pe_callB call_len_str (by rfl) ml boot_len (pa_cons (pe_ix ix_tup (pv 1) pe_int (fun _ _ => rfl)) pa_nil)) pa_nil)))
      (pe_callB call_len_str (by rfl) ml boot_len (pa_cons (pe_ix ix_tup (pv 0) pe_int (fun _ _ => rfl)) pa_nil))) (pe_callB call_len_str (by rfl) ml boot_len (pa_cons (pe_ix ix_tup (pv 1) pe_int (fun _ _ => rfl)) pa_nil)))), ?_⟩
    refine ⟨_, rfl, p, _, _, _, rfl, rfl, T.a, rfl, _, rfl, small_lenG (by omega), _, rfl, p2, _, _, _, rfl, rfl, T.b, rfl, _, rfl, small_lenG (by omega), _, _, rfl, _, rfl, p, _, _, _, rfl, rfl, T.a, rfl, _, rfl, small_lenG (by omega), _, _, rfl, rfl,
      _, rfl, p2, _, _, _, rfl, rfl, T.b, rfl, _, rfl, small_lenG (by omega), _, _, rfl, rfl, ?_⟩
    have e : ((if ((S h2).length : Int) > ((S h).length : Int) then ((S h2).length : Int) else ((S h).length : Int)) + ((S q).length : Int) + ((S q2).length : Int)) = ((tell h q h2 q2 : Nat) : Int) := by
      rw [S_len, S_len, S_len, S_len]
      unfold tell
      split <;> omega
    show Q (.int ((if ((S h2).length : Int) > ((S h).length : Int) then ((S h2).length : Int) else ((S h).length : Int)) + ((S q).length : Int) + ((S q2).length : Int))) H
    rw [e]
    exact k
theorem scBefore : FnScope ["first", "second", "count"] ["first", "second"] (defScope sBefore) := ⟨rfl, rfl, rfl, by decide +kernel, rfl, by decide +kernel, by decide +kernel⟩
theorem ok_before {f fT fL : Addr} {fd fdT fdL : FuncData} (F : Fun K "comes_before" "comes_before" sBefore f fd) (GT : FnOk P w K mg base CX0 1 fT fdT ["first", "second"] (spTelling K)) (cT : Cal K mg "telling_count" fT fdT ["first", "second"])
    (GL : FnOk P w K mg base CX0 1 fL fdL ["stream", "count"] (spLead K)) (cL : Cal K mg "leading_word" fL fdL ["stream", "count"]) : FnOk P w K mg base CX0 2 f fd ["first", "second"] (spBefore K) := by
  refine F.ok scBefore (fun vs H Q E h => ?_) (fun cdv A outer s H vs Q E hr h => ?_)
  · obtain ⟨p, p2, r, h, q, r2, h2, q2, rfl, _⟩ := h
    rfl
  · obtain ⟨p, p2, r, h, q, r2, h2, q2, rfl, T, k⟩ := h
    have nd := scBefore.nd
    have l1 := T.l1
    have l2 := T.l2
    have m1 := T.m1
    have m2 := T.m2
    have tl := tell_le l1 l2 m1 m2
    refine ⟨_, pss_cons (ps_if (pt_cmpR op_ne (pe_ix ix_tup (pv 0) pe_int (fun _ _ => rfl)) (pe_ix ix_tup (pv 1) pe_int (fun _ _ => rfl)) (nomark _)) (pss_one (ps_ret (pe_cmpR op_lt (pe_ix ix_tup (pv 0) pe_int (fun _ _ => rfl)) (pe_ix ix_tup (pv 1) pe_int (fun _ _ => rfl)) (nomark _)))) pss_nil)
      (pss_cons (ps_set (i := 2) nd rfl (.inl rfl) (pe_call GT hr rfl cT.mg cT.kp cT.b .nil pass0 (pa_cons (pv 0) (pa_cons (pv 1) pa_nil))))
      (pss_one (ps_ret (pe_cmpR op_lt_str (pe_call GL hr rfl cL.mg cL.kp cL.b .nil pass0 (pa_cons (pv 0) (pa_cons (pv 2) pa_nil))) (pe_call GL hr rfl cL.mg cL.kp cL.b .nil pass0 (pa_cons (pv 1) (pa_cons (pv 2) pa_nil))) (nomark _))))), ?_⟩
    refine ⟨_, rfl, p, _, _, _, rfl, rfl, T.a, rfl, _, rfl, p2, _, _, _, rfl, rfl, T.b, rfl, rfl, _, rfl, ?_⟩
    unfold befB at k
    by_cases c : r = r2
    · rw [if_pos c] at k
      refine iteFB (by rw [c, decide_eq_true rfl]; rfl) ?_
      refine ⟨_, rfl, _, rfl, p, p2, r, h, q, r2, h2, q2, rfl, T, ?_⟩
      refine ⟨_, rfl, _, rfl, p, _, h, q, _, rfl, T.a, T.n1.ne, m1, by omega, by omega, _, rfl, _, rfl, p2, _, h2, q2, _, rfl, T.b, T.n2.ne, m2, by omega, by omega, _, _, rfl, rfl, ?_⟩
      exact k
    · rw [if_neg c] at k
      refine iteTB (by rw [decide_eq_false (fun z => c (V.int.inj z))]; rfl) ?_
      exact ⟨_, rfl, p, _, _, _, rfl, rfl, T.a, rfl, _, rfl, p2, _, _, _, rfl, rfl, T.b, rfl, _, _, rfl, rfl, k⟩
theorem scPrecedes : FnScope ["base", "first", "second"] ["base", "first", "second"] (defScope sPrecedes) := ⟨rfl, rfl, rfl, by decide +kernel, rfl, by decide +kernel, by decide +kernel⟩
theorem ok_precedes {f fR fB CN CS : Addr} {fd fdR fdB : FuncData} (F : Fun K "precedes" "precedes" sPrecedes f fd) (GR : FnOk P w K mg base (L2.CX P w) 5 fR fdR ["base", "first", "second"] (spReqTwo K CN CS)) (cR : Cal K mg "require_two_streams" fR fdR ["base", "first", "second"])
    (GB : FnOk P w K mg base CX0 2 fB fdB ["first", "second"] (spBefore K)) (cB : Cal K mg "comes_before" fB fdB ["first", "second"]) : FnOk P w K mg base (L2.CX P w) 6 f fd ["base", "first", "second"] (spPrecedes K CN CS) := by
  refine F.okX scPrecedes (fun vs H Q E h => ?_) (fun cdv A outer s H vs Q E hr h => ?_)
  · obtain ⟨b, v, x, rfl, _⟩ := h
    rfl
  · obtain ⟨b, v, x, rfl, tb, pb, k1, k2⟩ := h
    refine ⟨_, pss_cons (ps_expr (pe_call GR hr rfl cR.mg cR.kp cR.b .nil (passes_call (takes_of rfl rfl rfl rfl) (fun _ _ _ _ h => h)) (pa_cons (pv 0) (pa_cons (pv 1) (pa_cons (pv 2) pa_nil)))))
      (pss_one (ps_ret (pe_call GB (hr.mono (by decide)) rfl cB.mg cB.kp cB.b .nil pass0 (pa_cons (pv 1) (pa_cons (pv 2) pa_nil))))), ?_⟩
    refine ⟨_, rfl, _, rfl, _, rfl, _, _, _, rfl, tb, pb, k1, fun n e n2 n5 => ?_⟩
    obtain ⟨res, sf, k3, k4⟩ := k2 n e n2 n5
    refine ⟨res, sf, k3, fun z => ?_⟩
    obtain ⟨res2, sf2, k5, k6⟩ := k4 z
    refine ⟨res2, sf2, k5, fun z2 => ?_⟩
    obtain ⟨p, p2, r, h, q, r2, h2, q2, rfl, rfl, T, k⟩ := k6 z2
    exact ⟨p, p2, r, h, q, r2, h2, q2, rfl, rfl, T, _, rfl, _, rfl, p, p2, r, h, q, r2, h2, q2, rfl, T, k⟩
theorem shaped3' {r : Int} {h q : List Nat} (wh : ∀ c ∈ h, c < 100) (wq : ∀ c ∈ q, c < 100) : SeqAt.shaped (.tuple [.int r, .str (S h), .str (S q)]) = true := shaped3 wh wq
theorem eqv3r {r r' : Int} {h q h' q' : List Nat} : PyData.eqv (.tuple [.int r, .str (S h), .str (S q)]) (.tuple [.int r', .str (S h'), .str (S q')]) = decide (r = r' ∧ h = h' ∧ q = q') := by
  by_cases c : r = r'
  · subst c
    rw [eqv3]
    by_cases c : h = h' ∧ q = q'
    · rw [decide_eq_true c, decide_eq_true ⟨rfl, c.1, c.2⟩]
    · rw [decide_eq_false c, decide_eq_false (fun z => c ⟨z.2.1, z.2.2⟩)]
  · rw [decide_eq_false (fun z => c z.1)]
    show ((r == r') && _) = false
    rw [beq_eq_false_iff_ne.mpr c, Bool.false_and]
end
end Vf


set_option Elab.async false
set_option maxRecDepth 100000
set_option maxHeartbeats 8000000
set_option exponentiation.threshold 3000
namespace Vf
open PySem L2 SX Vm
/-- a small stream -/
structure OkM (b : Nat) (r : Int) (h q : List Nat) : Prop where
  r0 : 0 ≤ r
  r1 : r < 3
  nf : Nf (ev h q) h q
  hl : h.length ≤ 34
  ql : q.length ≤ 4
  wh : IsW (b : Int) h
  wq : IsW (b : Int) q
theorem OkM.ok {b : Nat} {r : Int} {h q : List Nat} (o : OkM b r h q) : OkS b r h q :=
  ⟨o.r0, by have := o.r1; omega, o.nf, by have := o.hl; omega, by have := o.ql; omega, o.wh, o.wq⟩
theorem ev_w {b : Int} {h q : List Nat} {n : Nat} (wh : IsW b h) (wq : IsW b q) (q0 : 0 < q.length) : IsW b (begN h q n) := fun c hc => by
  unfold begN at hc
  obtain ⟨i, _, e⟩ := List.mem_map.mp hc
  subst e
  by_cases hi : i < h.length
  · rw [ev_lt hi, List.getD_eq_getElem?_getD, List.getElem?_eq_getElem hi]
    exact wh _ (List.getElem_mem hi)
  · rw [ev_ge (by omega)]
    unfold g
    have hm := Nat.mod_lt (i - h.length) q0
    rw [List.getD_eq_getElem?_getD, List.getElem?_eq_getElem hm]
    exact wq _ (List.getElem_mem hm)
def spMate : Sp := fun vs H Q _ => ∃ (a p : Addr) (d : Int × Int × Int) (b : Nat) (r : Int) (h q : List Nat), vs = [.ref a, .int (b : Int), .ref p] ∧ H a = some (.lst (dieL d)) ∧ DieOk d ∧ d.2.2 ≤ 900000000 ∧ 2 ≤ b ∧ b ≤ 5 ∧ H p = some (.tup [.int r, .str (S h), .str (S q)]) ∧ OkM b r h q ∧
  ∀ (r' : Int) (h' q' : List Nat) (d' : Int × Int × Int) (p' : Addr) (H' : Hp), OkM b r' h' q' → DieOk d' → d'.2.2 ≤ d.2.2 + 30 → Kp a H H' → H' a = some (.lst (dieL d')) → H p' = none → p' ≠ a → H' p' = some (.tup [.int r', .str (S h'), .str (S q')]) → Q (.ref p') H'
section
variable {P : Program} {w : World} {K : PySem.W.Frag} {mg : Str → Option Value} {base : Heap}
end
end Vf


set_option Elab.async false
set_option maxRecDepth 100000
set_option maxHeartbeats 4000000
/-! Sleeping generators that nobody wakes: what runs beside them leaves them as they are. -/
namespace GZ
open PySem PyProof.Rows L2 GenW

/-- what may never be woken -/
def deaf (l : List Value) (c : Code) (p : Pos) (fs : List Frame) (cl : Bool) : GenState := .suspended (fun _ => .unsupported "asleep") l c p fs cl
theorem no_runs {M : Model} {Γ : Ctx} {p : Pos} {m : String} {s s' : Shared} {e : End} {fs : List Frame} (h : Runs M Γ p (.unsupported m) fs s e s') : False := by
  have base : ∀ {Γ : Ctx} {p : Pos} {s s' : Shared} {e : End}, Runs M Γ p (.unsupported m) [] s e s' → False := fun h => by cases h
  cases h with
  | segRet h1 _ => exact base h1
  | segGen h1 _ => exact base h1
  | segSuspOut _ h1 => exact base h1
  | segSuspGen _ h1 _ _ => exact base h1
def NoGen (fs : List Frame) : Prop := ∀ f ∈ fs, ∀ g k l c p, f ≠ .gen g k l c p
theorem NoGen.nil : NoGen [] := fun f h => by cases h
theorem NoGen.tail {f : Frame} {fs : List Frame} (h : NoGen (f :: fs)) : NoGen fs := fun x hx => h x (List.mem_cons_of_mem _ hx)
theorem NoGen.app {a b : List Frame} (h : NoGen a) (h2 : NoGen b) : NoGen (a ++ b) := fun x hx => (List.mem_append.mp hx).elim (h x) (h2 x)
theorem NoGen.ret {k : Result → Sem PySem.Fin} {h : Option Value} {g : Bool} {l : List Value} {c : Code} {p : Pos} {kp : List Value} : NoGen [.ret k h g l c p kp] := fun x hx => by
  rw [List.mem_singleton.mp hx]
  intro g k l c p e
  cases e
theorem NoGen.split : ∀ {fs : List Frame}, NoGen fs → splitAtGen fs = none
  | [], _ => rfl
  | .gen g k l c p :: fs, h => absurd rfl (h _ List.mem_cons_self g k l c p)
  | .ret k h' g l c p kp :: fs, h => by
    show (splitAtGen fs).map _ = none
    rw [NoGen.split h.tail]
    rfl
theorem NoGen.of : ∀ {fs : List Frame}, splitAtGen fs = none → NoGen fs
  | [], _ => NoGen.nil
  | .gen g k l c p :: fs, h => by cases h
  | .ret k h' g l c p kp :: fs, h => by
    have h2 : (splitAtGen fs).map _ = none := h
    have h3 : splitAtGen fs = none := by
      cases q : splitAtGen fs with
      | none => rfl
      | some x => rw [q] at h2; cases h2
    exact NoGen.app (a := [.ret k h' g l c p kp]) NoGen.ret (NoGen.of h3)
def EndOk : End → Prop
  | .ret _ => True
  | .susp _ _ _ _ _ _ fs => NoGen fs
/-- asleep, or waking runs no other generator's frame -/
def OkX : GenState → Prop
  | .suspended k _ _ _ fs _ => k = (fun _ => .unsupported "asleep") ∨ NoGen fs
  | _ => True
def OkG (G : Array GenState) : Prop := ∀ (i : Nat) (x : GenState), G[i]? = some x → OkX x
def Twin (x y : GenState) : Prop := x = y ∨ ∃ k l c p fs cl, x = deaf l c p fs cl ∧ y = .suspended k l c p fs cl
structure Twins (G B : Array GenState) : Prop where
  size : B.size = G.size
  at_ : ∀ (i : Nat) (x : GenState), G[i]? = some x → ∃ y, B[i]? = some y ∧ Twin x y
/-- the deaf ones stay, and so do their twins -/
def Stay (G B G' B' : Array GenState) : Prop := ∀ (i : Nat) (l : List Value) (c : Code) (p : Pos) (fs : List Frame) (cl : Bool) (y : GenState), G[i]? = some (deaf l c p fs cl) → B[i]? = some y → G'[i]? = some (deaf l c p fs cl) ∧ B'[i]? = some y
theorem Stay.refl (G B : Array GenState) : Stay G B G B := fun _ _ _ _ _ _ _ h h' => ⟨h, h'⟩
theorem Stay.trans {G B G1 B1 G2 B2 : Array GenState} (a : Stay G B G1 B1) (b : Stay G1 B1 G2 B2) : Stay G B G2 B2 := fun i l c p fs cl y h h' =>
  let z := a i l c p fs cl y h h'
  b i l c p fs cl y z.1 z.2
theorem Twin.seen {x y : GenState} (h : Twin x y) : x.seen = y.seen := by
  rcases h with h | ⟨k, l, c, p, fs, cl, rfl, rfl⟩
  · rw [h]
  · rfl
theorem Twin.bare {x y : GenState} (h : Twin x y) (b : x.bare = true) : y.bare = true := by
  rcases h with h | ⟨k, l, c, p, fs, cl, rfl, rfl⟩
  · rw [← h]; exact b
  · exact b
theorem some_lt {G : Array GenState} {g : Nat} {x : GenState} (h : G[g]? = some x) : g < G.size := by
  rcases Nat.lt_or_ge g G.size with q | q
  · exact q
  · rw [Array.getElem?_eq_none q] at h; cases h
theorem Twins.set {G B : Array GenState} (h : Twins G B) (i : Nat) (x : GenState) : Twins (G.setIfInBounds i x) (B.setIfInBounds i x) := by
  refine ⟨by rw [Array.size_setIfInBounds, Array.size_setIfInBounds, h.size], fun j y hj => ?_⟩
  by_cases z : i = j
  · subst z
    have lt := some_lt hj
    rw [Array.size_setIfInBounds] at lt
    rw [Array.getElem?_setIfInBounds_self_of_lt lt] at hj
    exact ⟨x, Array.getElem?_setIfInBounds_self_of_lt (by rw [h.size]; exact lt), .inl (Option.some.inj hj).symm⟩
  · rw [Array.getElem?_setIfInBounds_ne z] at hj
    rw [Array.getElem?_setIfInBounds_ne z]
    exact h.at_ j y hj
theorem Twins.push {G B : Array GenState} (h : Twins G B) (x : GenState) : Twins (G.push x) (B.push x) := by
  refine ⟨by rw [Array.size_push, Array.size_push, h.size], fun j y hj => ?_⟩
  rw [Array.getElem?_push] at hj ⊢
  rw [h.size]
  by_cases z : j = G.size
  · rw [if_pos z] at hj ⊢
    exact ⟨x, rfl, .inl (Option.some.inj hj).symm⟩
  · rw [if_neg z] at hj ⊢
    exact h.at_ j y hj
theorem OkG.set {G : Array GenState} (h : OkG G) (i : Nat) {x : GenState} (hx : OkX x) : OkG (G.setIfInBounds i x) := fun j y hj => by
  by_cases z : i = j
  · subst z
    have lt := some_lt hj
    rw [Array.size_setIfInBounds] at lt
    rw [Array.getElem?_setIfInBounds_self_of_lt lt] at hj
    cases hj
    exact hx
  · rw [Array.getElem?_setIfInBounds_ne z] at hj
    exact h j y hj
theorem OkG.push {G : Array GenState} (h : OkG G) {x : GenState} (hx : OkX x) : OkG (G.push x) := fun j y hj => by
  rw [Array.getElem?_push] at hj
  by_cases z : j = G.size
  · rw [if_pos z] at hj
    cases hj
    exact hx
  · rw [if_neg z] at hj
    exact h j y hj
theorem okx_end {e : End} (h : EndOk e) : OkX e.genState := by
  cases e with
  | ret r => exact True.intro
  | susp v g l k c p fs => exact .inr h
theorem Stay.set {G B : Array GenState} (i : Nat) (x : GenState) (n : ∀ l c p fs cl, G[i]? ≠ some (deaf l c p fs cl)) : Stay G B (G.setIfInBounds i x) (B.setIfInBounds i x) := fun j l c p fs cl y h h' => by
  have z : i ≠ j := fun z => by subst z; exact n l c p fs cl h
  rw [Array.getElem?_setIfInBounds_ne z, Array.getElem?_setIfInBounds_ne z]
  exact ⟨h, h'⟩
theorem Stay.push {G B : Array GenState} (x : GenState) (e : B.size = G.size) : Stay G B (G.push x) (B.push x) := fun j l c p fs cl y h h' => by
  have lt := some_lt h
  rw [Array.getElem?_push, Array.getElem?_push, if_neg (Nat.ne_of_lt lt), if_neg (by rw [e]; exact Nat.ne_of_lt lt)]
  exact ⟨h, h'⟩

section
variable {M : Model}
def Hush (M : Model) (Γ : Ctx) (p : Pos) (t : Sem PySem.Fin) (fs : List Frame) (s : Shared) (e : End) (s' : Shared) : Prop :=
  EndOk e ∧ OkG s'.gens ∧ ∀ B, Twins s.gens B → ∃ B', Twins s'.gens B' ∧ Stay s.gens B s'.gens B' ∧ Runs M Γ p t fs { s with gens := B } e { s' with gens := B' }
theorem Hush.step {Γ Γ' : Ctx} {p p' : Pos} {t t' : Sem PySem.Fin} {fs fs' : List Frame} {s s1 s' : Shared} {e : End} (h : Hush M Γ p t fs s1 e s') (eg : s1.gens = s.gens)
    (f : ∀ B s2, Twins s.gens B → Runs M Γ p t fs { s1 with gens := B } e s2 → Runs M Γ' p' t' fs' { s with gens := B } e s2) : Hush M Γ' p' t' fs' s e s' := by
  refine ⟨h.1, h.2.1, fun B hR => ?_⟩
  obtain ⟨G', a, b, c⟩ := h.2.2 B (by rw [eg]; exact hR)
  exact ⟨G', a, by rw [eg] at b; exact b, f B _ hR c⟩

/-- a generator is woken, and what follows -/
theorem Hush.wake {Γ Γ' Γ2 : Ctx} {p p' p2 : Pos} {i : Nat} {x0 : GenState} {t t' t2 : Sem PySem.Fin} {fs : List Frame} {s s1 s' : Shared} {e1 e : End} (hg : s.gens[i]? = some x0) (nd : ∀ l c p fs cl, x0 ≠ deaf l c p fs cl)
    (h1 : Hush M Γ p t fs (s.setGen i .running) e1 s1) (h2 : OkG (s1.setGen i e1.genState).gens → Hush M Γ' p' t' [] (s1.setGen i e1.genState) e s')
    (f : ∀ (B B1 : Array GenState) s2, B[i]? = some x0 → Runs M Γ p t fs ((⟨s.heap, B, s.drawn, s.toks, s.os⟩ : Shared).setGen i .running) e1 { s1 with gens := B1 } → Runs M Γ' p' t' [] ((⟨s1.heap, B1, s1.drawn, s1.toks, s1.os⟩ : Shared).setGen i e1.genState) e s2 → Runs M Γ2 p2 t2 [] { s with gens := B } e s2) :
    Hush M Γ2 p2 t2 [] s e s' := by
  obtain ⟨a1, a2, a3⟩ := h1
  have ok2 : OkG (s1.setGen i e1.genState).gens := OkG.set a2 i (okx_end a1)
  obtain ⟨b1, b2, b3⟩ := h2 ok2
  refine ⟨b1, b2, fun B hR => ?_⟩
  obtain ⟨G1, c1, c2, c3⟩ := a3 (B.setIfInBounds i .running) (hR.set i .running)
  obtain ⟨G2, d1, d2, d3⟩ := b3 (G1.setIfInBounds i e1.genState) (c1.set i e1.genState)
  obtain ⟨y, hy, tw⟩ := hR.at_ i x0 hg
  have hy2 : B[i]? = some x0 := by
    rcases tw with z | ⟨k, l, c, q, gs, cl, z, _⟩
    · rw [z]; exact hy
    · exact absurd z (nd l c q gs cl)
  refine ⟨G2, d1, fun j l c p fs cl y hj hj' => ?_, f B G1 _ hy2 c3 d3⟩
  have z : i ≠ j := fun z => by
    subst z
    rw [hg] at hj
    exact nd l c p fs cl (Option.some.inj hj)
  have q1 := c2 j l c p fs cl y (by
    show (s.gens.setIfInBounds i .running)[j]? = _
    rw [Array.getElem?_setIfInBounds_ne z]; exact hj) (by rw [Array.getElem?_setIfInBounds_ne z]; exact hj')
  exact d2 j l c p fs cl y (by
    show (s1.gens.setIfInBounds i e1.genState)[j]? = _
    rw [Array.getElem?_setIfInBounds_ne z]; exact q1.1) (by rw [Array.getElem?_setIfInBounds_ne z]; exact q1.2)

theorem runs_hush {Γ : Ctx} {p : Pos} {t : Sem PySem.Fin} {fs : List Frame} {s s' : Shared} {e : End} (h : Runs M Γ p t fs s e s') : NoGen fs → OkG s.gens → Hush M Γ p t fs s e s' := by
  induction h with
  | done => exact fun _ ok => ⟨trivial, ok, fun B hR => ⟨B, hR, Stay.refl _ _, .done⟩⟩
  | raise => exact fun _ ok => ⟨trivial, ok, fun B hR => ⟨B, hR, Stay.refl _ _, .raise⟩⟩
  | again h1 _ ih => exact fun n ok => (ih n ok).step rfl fun _ _ _ r => .again h1 r
  | rule _ ih => exact fun n ok => (ih n ok).step rfl fun _ _ _ r => .rule r
  | «at» _ ih => exact fun n ok => (ih n ok).step rfl fun _ _ _ r => .at r
  | load h1 _ ih => exact fun n ok => (ih n ok).step rfl fun _ _ _ r => .load h1 r
  | update h1 _ ih => exact fun n ok => (ih n ok).step rfl fun _ _ _ r => .update h1 r
  | loadIfAlive _ ih => exact fun n ok => (ih n ok).step rfl fun _ _ _ r => .loadIfAlive r
  | point _ ih => exact fun n ok => (ih n ok).step rfl fun _ _ _ r => .point r
  | alloc _ ih => exact fun n ok => (ih n ok).step rfl fun _ _ _ r => .alloc r
  | fresh _ ih => exact fun n ok => (ih n ok).step rfl fun _ _ _ r => .fresh r
  | ask _ ih => exact fun n ok => (ih n ok).step rfl fun _ _ _ r => .ask r
  | choose h1 _ ih => exact fun n ok => (ih n ok).step rfl fun _ _ _ r => .choose h1 r
  | os _ ih => exact fun n ok => (ih n ok).step rfl fun _ _ _ r => .os r
  | handled _ ih => exact fun n ok => (ih n ok).step rfl fun _ _ _ r => .handled r
  | genState h1 _ ih =>
    intro n ok
    refine (ih n ok).step rfl fun B s2 hR r => ?_
    obtain ⟨y, hy, tw⟩ := hR.at_ _ _ h1
    rw [tw.seen] at r
    exact .genState hy r
  | stack _ ih => exact fun n ok => (ih n ok).step rfl fun _ _ _ r => .stack r
  | thread _ ih => exact fun n ok => (ih n ok).step rfl fun _ _ _ r => .thread r
  | newGen _ ih =>
    intro n ok
    obtain ⟨a1, a2, a3⟩ := ih n (OkG.push ok trivial)
    refine ⟨a1, a2, fun B hR => ?_⟩
    obtain ⟨G1, c1, c2, c3⟩ := a3 (B.push _) (hR.push _)
    refine ⟨G1, c1, (Stay.push _ hR.size).trans c2, ?_⟩
    have e1 := hR.size
    refine .newGen ?_
    dsimp only
    rw [e1]
    exact c3
  | call h1 h2 ih1 ih2 =>
    intro n ok
    obtain ⟨a1, a2, a3⟩ := ih1 NoGen.nil ok
    obtain ⟨b1, b2, b3⟩ := ih2 NoGen.nil a2
    refine ⟨b1, b2, fun B hR => ?_⟩
    obtain ⟨G1, c1, c2, c3⟩ := a3 B hR
    obtain ⟨G2, d1, d2, d3⟩ := b3 G1 c1
    exact ⟨G2, d1, c2.trans d2, .call c3 d3⟩
  | callSusp h1 ih =>
    intro n ok
    obtain ⟨a1, a2, a3⟩ := ih NoGen.nil ok
    refine ⟨NoGen.app a1 NoGen.ret, a2, fun B hR => ?_⟩
    obtain ⟨G1, c1, c2, c3⟩ := a3 B hR
    exact ⟨G1, c1, c2, .callSusp c3⟩
  | yield => exact fun _ ok => ⟨NoGen.nil, ok, fun B hR => ⟨B, hR, Stay.refl _ _, .yield⟩⟩
  | resumeFresh h1 h2 h3 h4 ih1 ih2 =>
    intro n ok
    refine Hush.wake h1 (fun _ _ _ _ _ z => by cases z) (ih1 NoGen.nil (OkG.set ok _ trivial)) (fun ok2 => ih2 NoGen.nil ok2) fun B B1 s2 hB r1 r2 => ?_
    exact .resumeFresh hB r1 h3 r2
  | @resumeSuspended Γ p i r ll kk s k₀ l₀ c₀ p₀ fs cl₀ e₁ s₁ e s' h1 h2 h3 h4 ih1 ih2 =>
    intro n ok
    have nd : k₀ ≠ fun _ => .unsupported "asleep" := fun z => by
      subst z
      exact no_runs h2
    have nf : NoGen fs := by
      rcases ok i _ h1 with z | z
      · exact absurd z nd
      · exact z
    refine Hush.wake h1 (fun l c p fs cl z => ?_) (ih1 nf (OkG.set ok _ trivial)) (fun ok2 => ih2 NoGen.nil ok2) fun B B1 s2 hB r1 r2 => ?_
    · unfold deaf at z
      cases z
      exact nd rfl
    · exact .resumeSuspended hB r1 h3 r2
  | @resumeJustStarted s i cc v Γ p kk e s' ll h1 h2 _ ih =>
    intro n ok
    refine (ih n ok).step rfl fun B s2 hR r => ?_
    obtain ⟨y, hy, tw⟩ := hR.at_ _ _ h1
    rcases tw with z | ⟨_, _, _, _, _, _, z, _⟩
    · rw [← z] at hy; exact .resumeJustStarted hy h2 r
    · cases z
  | resumeThrowFresh h1 _ ih =>
    intro n ok
    obtain ⟨a1, a2, a3⟩ := ih n (OkG.set ok _ trivial)
    refine ⟨a1, a2, fun B hR => ?_⟩
    obtain ⟨G1, c1, c2, c3⟩ := a3 (B.setIfInBounds _ _) (hR.set _ _)
    refine ⟨G1, c1, (Stay.set _ _ fun _ _ _ _ _ z => by rw [h1] at z; cases z).trans c2, ?_⟩
    obtain ⟨y, hy, tw⟩ := hR.at_ _ _ h1
    rcases tw with z | ⟨_, _, _, _, _, _, z, _⟩
    · rw [← z] at hy; exact .resumeThrowFresh hy c3
    · cases z
  | resumeRunning h1 _ ih =>
    intro n ok
    refine (ih n ok).step rfl fun B s2 hR r => ?_
    obtain ⟨y, hy, tw⟩ := hR.at_ _ _ h1
    rcases tw with z | ⟨_, _, _, _, _, _, z, _⟩
    · rw [← z] at hy; exact .resumeRunning hy r
    · cases z
  | resumeFinished h1 _ ih =>
    intro n ok
    refine (ih n ok).step rfl fun B s2 hR r => ?_
    obtain ⟨y, hy, tw⟩ := hR.at_ _ _ h1
    rcases tw with z | ⟨_, _, _, _, _, _, z, _⟩
    · rw [← z] at hy; exact .resumeFinished hy r
    · cases z
  | segRet h1 h2 ih1 ih2 =>
    intro n ok
    obtain ⟨a1, a2, a3⟩ := ih1 NoGen.nil ok
    obtain ⟨b1, b2, b3⟩ := ih2 n.tail a2
    refine ⟨b1, b2, fun B hR => ?_⟩
    obtain ⟨G1, c1, c2, c3⟩ := a3 B hR
    obtain ⟨G2, d1, d2, d3⟩ := b3 G1 c1
    exact ⟨G2, d1, c2.trans d2, .segRet c3 d3⟩
  | segGen _ _ _ _ => exact fun n _ => absurd rfl (n _ List.mem_cons_self _ _ _ _ _)
  | segSuspOut h1 h2 ih =>
    intro n ok
    obtain ⟨a1, a2, a3⟩ := ih NoGen.nil ok
    refine ⟨NoGen.app a1 n, a2, fun B hR => ?_⟩
    obtain ⟨G1, c1, c2, c3⟩ := a3 B hR
    exact ⟨G1, c1, c2, .segSuspOut h1 c3⟩
  | segSuspGen h1 _ _ _ _ _ => exact fun n _ => by rw [n.split] at h1; cases h1

/-! ### the same of a computation -/
/-- s1: how it would be beside deaf ones; s': how it is -/
structure Beside (G B : Array GenState) (s1 s' : Shared) : Prop where
  eq : s' = { s1 with gens := s'.gens }
  tw : Twins s1.gens s'.gens
  ok : OkG s1.gens
  stay : Stay G B s1.gens s'.gens
theorem Beside.trans {G B : Array GenState} {s1 s2 s3 s4 : Shared} (a : Stay G B s1.gens s2.gens) (b : Beside s1.gens s2.gens s3 s4) : Beside G B s3 s4 := ⟨b.eq, b.tw, b.ok, a.trans b.stay⟩
open Sem (wp)
theorem wpm {α : Type} {Γ : Ctx} {t : Sem α} {Q Q' : α → Pos → Shared → Prop} {E E' : Value → Pos → Shared → Prop} {p : Pos} {s : Shared} (h : wp M Γ t Q E p s) (hQ : ∀ a p s, Q a p s → Q' a p s) (hE : ∀ a p s, E a p s → E' a p s) : wp M Γ t Q' E' p s := Sem.wp_mono M Γ t hQ hE p s h
/-- a generator is woken beside the deaf -/
theorem wakes_hush {Γ : Ctx} {p : Pos} {g : Nat} {r : Resume} {s s' : Shared} {res : GenResult} {B : Array GenState} (ok : OkG s.gens) (hR : Twins s.gens B) (h : Wakes M Γ p g r s res s') :
    ∃ G1, Wakes M Γ p g r { s with gens := B } res { s' with gens := G1 } ∧ OkG s'.gens ∧ Twins s'.gens G1 ∧ Stay s.gens B s'.gens G1 := by
  cases hg : s.gens[g]? with
  | none => unfold Wakes at h; rw [hg] at h; exact h.elim
  | some x =>
    obtain ⟨y, hy, tw⟩ := hR.at_ _ _ hg
    have same : (∀ l c p fs cl, x ≠ deaf l c p fs cl) → y = x := fun n => by
      rcases tw with z | ⟨k, l, c, q, gs, cl, z, _⟩
      · exact z.symm
      · exact absurd z (n l c q gs cl)
    have far : ∀ {l c q fs cl} {j : Nat}, (∀ l c p fs cl, x ≠ deaf l c p fs cl) → s.gens[j]? = some (deaf l c q fs cl) → g ≠ j := fun {l c q fs cl j} n hj z => by
      subst z
      rw [hg] at hj
      exact n l c q fs cl (Option.some.inj hj)
    have go : ∀ {Γ' : Ctx} {p' : Pos} {t : Sem PySem.Fin} {fs : List Frame} {e1 : End} {s1 : Shared}, (∀ l c p fs cl, x ≠ deaf l c p fs cl) → NoGen fs → Runs M Γ' p' t fs (s.setGen g .running) e1 s1 →
        ∃ G1, Runs M Γ' p' t fs (({ s with gens := B } : Shared).setGen g .running) e1 { s1 with gens := G1 } ∧ OkG (s1.setGen g e1.genState).gens ∧ Twins (s1.setGen g e1.genState).gens (G1.setIfInBounds g e1.genState) ∧ Stay s.gens B (s1.setGen g e1.genState).gens (G1.setIfInBounds g e1.genState) := fun {Γ' p' t fs e1 s1} n nf hr => by
      obtain ⟨a1, a2, a3⟩ := runs_hush hr nf (OkG.set ok g trivial)
      obtain ⟨G1, c1, c2, c3⟩ := a3 (B.setIfInBounds g .running) (hR.set g .running)
      refine ⟨G1, c3, OkG.set a2 g (okx_end a1), c1.set g e1.genState, fun j l c p fs cl y hj hj' => ?_⟩
      have z := far n hj
      have q1 := c2 j l c p fs cl y (by
        show (s.gens.setIfInBounds g .running)[j]? = _
        rw [Array.getElem?_setIfInBounds_ne z]; exact hj) (by rw [Array.getElem?_setIfInBounds_ne z]; exact hj')
      exact ⟨by
        show (s1.gens.setIfInBounds g e1.genState)[j]? = _
        rw [Array.getElem?_setIfInBounds_ne z]; exact q1.1, by rw [Array.getElem?_setIfInBounds_ne z]; exact q1.2⟩
    cases x with
    | fresh c =>
      have n : ∀ l c' p fs cl, GenState.fresh c ≠ deaf l c' p fs cl := fun _ _ _ _ _ z => by cases z
      rw [same n] at hy
      unfold Wakes at h ⊢
      dsimp only
      rw [hg] at h
      rw [hy]
      cases r with
      | send v =>
        cases v with
        | none =>
          obtain ⟨e1, s1, hr, hq, rfl, rfl⟩ := h
          obtain ⟨G1, b1, b2, b3, b4⟩ := go n NoGen.nil hr
          exact ⟨_, ⟨e1, _, b1, hq, rfl, rfl⟩, b2, b3, b4⟩
        | _ =>
          obtain ⟨rfl, rfl⟩ := h
          exact ⟨B, ⟨rfl, rfl⟩, ok, hR, Stay.refl _ _⟩
      | throw e =>
        obtain ⟨rfl, rfl⟩ := h
        exact ⟨_, ⟨rfl, rfl⟩, OkG.set ok g trivial, hR.set g .finished, Stay.set g .finished fun l c' p fs cl z => by rw [hg] at z; cases z⟩
    | suspended k0 l0 c0 p0 fs0 cl0 =>
      have h0 := h
      unfold Wakes at h
      rw [hg] at h
      obtain ⟨e1, s1, hr, hq, rfl, rfl⟩ := h
      have nd : k0 ≠ fun _ => .unsupported "asleep" := fun z => by
        subst z
        exact no_runs hr
      have n : ∀ l c' p fs cl, GenState.suspended k0 l0 c0 p0 fs0 cl0 ≠ deaf l c' p fs cl := fun _ _ _ _ _ z => by
        unfold deaf at z
        cases z
        exact nd rfl
      have nf : NoGen fs0 := by
        rcases ok g _ hg with z | z
        · exact absurd z nd
        · exact z
      rw [same n] at hy
      obtain ⟨G1, b1, b2, b3, b4⟩ := go n nf hr
      refine ⟨_, ?_, b2, b3, b4⟩
      unfold Wakes
      dsimp only
      rw [hy]
      exact ⟨e1, _, b1, hq, rfl, rfl⟩
    | running =>
      rw [same (fun _ _ _ _ _ z => by cases z)] at hy
      unfold Wakes at h ⊢
      dsimp only
      rw [hg] at h
      rw [hy]
      obtain ⟨rfl, rfl⟩ := h
      exact ⟨B, ⟨rfl, rfl⟩, ok, hR, Stay.refl _ _⟩
    | finished =>
      rw [same (fun _ _ _ _ _ z => by cases z)] at hy
      unfold Wakes at h ⊢
      dsimp only
      rw [hg] at h
      rw [hy]
      obtain ⟨rfl, rfl⟩ := h
      exact ⟨B, ⟨rfl, rfl⟩, ok, hR, Stay.refl _ _⟩
theorem wp_hush {α : Type} {Γ : Ctx} (t : Sem α) : ∀ {Q : α → Pos → Shared → Prop} {E : Value → Pos → Shared → Prop} {p : Pos} {s : Shared} {B : Array GenState}, OkG s.gens → Twins s.gens B → wp M Γ t Q E p s →
    wp M Γ t (fun a p' s' => ∃ s1, Q a p' s1 ∧ Beside s.gens B s1 s') (fun e p' s' => ∃ s1, E e p' s1 ∧ Beside s.gens B s1 s') p { s with gens := B } := by
  induction t with
  | pure a => intro Q E p s B ok hR h; exact ⟨s, h, rfl, hR, ok, Stay.refl _ _⟩
  | raise e => intro Q E p s B ok hR h; exact ⟨s, h, rfl, hR, ok, Stay.refl _ _⟩
  | unsupported _ => intro Q E p s B ok hR h; exact h
  | finish _ => intro Q E p s B ok hR h; exact h
  | rule _ k ih => intro Q E p s B ok hR h; exact ih () ok hR h
  | «at» p' k ih => intro Q E p s B ok hR h; exact ih () ok hR h
  | load a _ k ih => intro Q E p s B ok hR h; obtain ⟨o, ho, h⟩ := h; exact ⟨o, ho, ih o ok hR h⟩
  | update a _ f k ih => intro Q E p s B ok hR h; exact ⟨h.1, ih () (s := { s with heap := s.heap.update a f }) ok hR h.2⟩
  | loadIfAlive a k ih => intro Q E p s B ok hR h; exact ih _ ok hR h
  | point _ k ih => intro Q E p s B ok hR h; exact ih () ok hR h
  | register _ _ => intro Q E p s B ok hR h; exact h
  | alloc o k ih => intro Q E p s B ok hR h; exact ih _ (s := { s with heap := s.heap.push o }) ok hR h
  | fresh k ih => intro Q E p s B ok hR h; exact ih _ (s := { s with toks := s.toks + 1 }) ok hR h
  | ask k ih => intro Q E p s B ok hR h; exact ih _ ok hR h
  | choose src m k ih => intro Q E p s B ok hR h; exact ⟨h.1, ih _ (s := { s with drawn := s.drawn.bump src }) ok hR h.2⟩
  | os q _ k ih => intro Q E p s B ok hR h; exact ih _ (s := { s with os := (Os.step s.os q).1 }) ok hR h
  | call c hd _ _ k ih =>
    intro Q E p s B ok hR h
    obtain ⟨r, s', hr, h⟩ := h
    obtain ⟨a1, a2, a3⟩ := runs_hush hr NoGen.nil ok
    obtain ⟨G1, c1, c2, c3⟩ := a3 B hR
    exact ⟨r, { s' with gens := G1 }, c3, wpm (ih r (s := s') a2 c1 h) (fun _ _ _ ⟨s1, q, b⟩ => ⟨s1, q, b.trans (s2 := { s' with gens := G1 }) c2⟩) fun _ _ _ ⟨s1, q, b⟩ => ⟨s1, q, b.trans (s2 := { s' with gens := G1 }) c2⟩⟩
  | handled own k ih => intro Q E p s B ok hR h; exact ih _ ok hR h
  | genState g k ih =>
    intro Q E p s B ok hR h
    obtain ⟨st, hs, h⟩ := h
    obtain ⟨y, hy, tw⟩ := hR.at_ _ _ hs
    rw [tw.seen] at h
    exact ⟨y, hy, ih _ ok hR h⟩
  | newGen c k ih =>
    intro Q E p s B ok hR h
    have q := ih s.gens.size (s := { s with gens := s.gens.push (.fresh c) }) (B := B.push (.fresh c)) (OkG.push ok trivial) (hR.push _) h
    show wp M Γ (k B.size) _ _ p { s with gens := B.push (.fresh c) }
    rw [hR.size]
    exact wpm q (fun _ _ _ ⟨s1, q, b⟩ => ⟨s1, q, b.trans (s1 := { s with gens := s.gens.push (.fresh c) }) (s2 := { s with gens := B.push (.fresh c) }) (Stay.push _ hR.size)⟩) fun _ _ _ ⟨s1, q, b⟩ => ⟨s1, q, b.trans (s1 := { s with gens := s.gens.push (.fresh c) }) (s2 := { s with gens := B.push (.fresh c) }) (Stay.push _ hR.size)⟩
  | resume g r _ k ih =>
    intro Q E p s B ok hR h
    obtain ⟨res, s', hw, h⟩ := h
    obtain ⟨G1, c0, a2, c1, c2⟩ := wakes_hush ok hR hw
    exact ⟨res, { s' with gens := G1 }, c0, wpm (ih res (s := s') a2 c1 h) (fun _ _ _ ⟨s1, q, b⟩ => ⟨s1, q, b.trans (s2 := { s' with gens := G1 }) c2⟩) fun _ _ _ ⟨s1, q, b⟩ => ⟨s1, q, b.trans (s2 := { s' with gens := G1 }) c2⟩⟩
  | yield _ _ _ _ => intro Q E p s B ok hR h; exact h
  | stack k ih => intro Q E p s B ok hR h; exact ih _ ok hR h
  | fork _ _ => intro Q E p s B ok hR h; exact h
  | thread k ih => intro Q E p s B ok hR h; exact ih _ ok hR h
  | await _ _ _ _ _ => intro Q E p s B ok hR h; exact h

/-! ### all sleepers made deaf -/
def deafen : GenState → GenState
  | .suspended _ l c p fs cl => deaf l c p fs cl
  | x => x
def hush (s : Shared) : Shared := { s with gens := s.gens.map deafen }
theorem hush_ok (s : Shared) : OkG (hush s).gens := fun i x hx => by
  have h : (s.gens.map deafen)[i]? = some x := hx
  rw [Array.getElem?_map] at h
  cases q : s.gens[i]? with
  | none => rw [q] at h; cases h
  | some y =>
    rw [q] at h
    cases h
    cases y with
    | suspended k l c p fs cl => exact .inl rfl
    | _ => trivial
theorem hush_twins (s : Shared) : Twins (hush s).gens s.gens := by
  refine ⟨by show s.gens.size = (s.gens.map deafen).size; rw [Array.size_map], fun i x hx => ?_⟩
  have h : (s.gens.map deafen)[i]? = some x := hx
  rw [Array.getElem?_map] at h
  cases q : s.gens[i]? with
  | none => rw [q] at h; cases h
  | some y =>
    rw [q] at h
    cases h
    refine ⟨y, rfl, ?_⟩
    cases y with
    | suspended k l c p fs cl => exact .inr ⟨k, l, c, p, fs, cl, rfl, rfl⟩
    | _ => exact .inl rfl
theorem hush_bare {s : Shared} (h : AllBare s.gens) : AllBare (hush s).gens := fun y hy => by
  have hy : y ∈ s.gens.map deafen := hy
  obtain ⟨x, hx, rfl⟩ := Array.mem_map.mp hy
  have := h x hx
  cases x <;> exact this
/-- who sleeps -/
def Sleeps (x : GenState) : Prop := ∃ k l c p fs cl, x = .suspended k l c p fs cl
/-- how a state stands beside another one that differs in its generators alone -/
structure Near (s s1 s' : Shared) : Prop where
  eq : s' = { s1 with gens := s'.gens }
  bare : AllBare s1.gens → AllBare s'.gens
  stay : ∀ (i : Nat) (x : GenState), s.gens[i]? = some x → Sleeps x → s'.gens[i]? = some x
theorem Beside.near {s s1 s' : Shared} (b : Beside (hush s).gens s.gens s1 s') : Near s s1 s' := by
  refine ⟨b.eq, fun hb y hy => ?_, fun i x hx hs => ?_⟩
  · obtain ⟨i, hi, rfl⟩ := Array.mem_iff_getElem.mp hy
    have e1 : s'.gens[i]? = some s'.gens[i] := Array.getElem?_eq_getElem hi
    have hi1 : i < s1.gens.size := by rw [← b.tw.size]; exact hi
    obtain ⟨y, hy2, tw⟩ := b.tw.at_ i s1.gens[i] (Array.getElem?_eq_getElem hi1)
    rw [e1] at hy2
    cases hy2
    exact tw.bare (hb _ (Array.getElem_mem hi1))
  · obtain ⟨k, l, c, p, fs, cl, rfl⟩ := hs
    refine (b.stay i l c p fs cl _ ?_ hx).2
    show (s.gens.map deafen)[i]? = _
    rw [Array.getElem?_map, hx]
    rfl
theorem wpAny_hush {α : Type} {A : Around} {t : Sem α} {Q : α → Shared → Prop} {E : Value → Shared → Prop} {s : Shared} (h : wpAny M A t Q E (hush s)) :
    wpAny M A t (fun a s' => ∃ s1, Q a s1 ∧ Near s s1 s') (fun e s' => ∃ s1, E e s1 ∧ Near s s1 s') s := fun Γ p hΓ =>
  wpm (wp_hush t (s := hush s) (B := s.gens) (hush_ok s) (hush_twins s) (h Γ p hΓ)) (fun _ _ _ ⟨s1, q, b⟩ => ⟨s1, q, b.near⟩) fun _ _ _ ⟨s1, q, b⟩ => ⟨s1, q, b.near⟩
end
/-! ### the invariant says little of generators -/
theorem inv_gens {X : Cx} {pins : List (Addr × Obj)} {σ : L2.St} {H : Hp} {s s' : Shared} (I : Inv X pins σ H s) (e : s' = { s with gens := s'.gens }) (b : AllBare s'.gens) : Inv X pins σ H s' := by
  rw [e]
  exact ⟨I.ok, I.os, b, I.base, I.loc, I.cell, I.free, I.freeC, I.pin, I.hok, I.len⟩
theorem inv_hush {X : Cx} {pins : List (Addr × Obj)} {σ : L2.St} {H : Hp} {s : Shared} (I : Inv X pins σ H s) : Inv X pins σ H (hush s) := inv_gens I rfl (hush_bare I.bare)
theorem inv_near {X : Cx} {pins : List (Addr × Obj)} {σ : L2.St} {H : Hp} {s s1 s' : Shared} (I : Inv X pins σ H s1) (n : Near s s1 s') : Inv X pins σ H s' := inv_gens I n.eq (n.bare I.bare)
end GZ


set_option Elab.async false
set_option maxRecDepth 100000
set_option maxHeartbeats 4000000
/-! A generator def's body from one item to the next, for ever: what the consumer does in between is told anew at each waking. -/
namespace GZ
open PySem PyProof.Rows L2 GenW PySem.W.X

abbrev Pins := List (Addr × Obj)
def Ap (ip op : Pins) : Prop := ∀ p ∈ op, ∀ q ∈ ip, p.1 ≠ q.1

section
variable (X : Cx) (A : Around) (f : Nat → V) (H : Hp)
/-- asleep ahead of item j, for n more wakings; ip: its own iterators -/
def Next : Nat → Nat → Pins → L2.St → (Resume → Sem PySem.Fin) → Code → List Frame → Prop
  | 0, _, _, _, _, _, _ => True
  | n + 1, j, ip, σ, k, c, fs => ∀ (op : Pins) (s : Shared) (P : End → Shared → Prop), Inv X (ip ++ op) σ H s → Ap ip op →
      (∀ (v : Value) (l : List Value) (k' : Resume → Sem PySem.Fin) (c' : Code) (p : Pos) (fs' : List Frame) (s' : Shared) (ip' : Pins) (σ' : L2.St), RelV (f j) v → Inv X (ip' ++ op) σ' H s' → Ap ip' op → (∀ q ∈ ip', X.s_0.heap.objs.size ≤ q.1) → fs'.any Frame.guarded = false →
        Next n (j + 1) ip' σ' k' c' fs' → P (.susp v false l k' c' p fs') s') →
      SegX (model X.prog X.w) A c (k (.send .none)) fs s P
/-- what is wanted of the next item -/
def Tgt (n j : Nat) (op : Pins) (P : End → Shared → Prop) : Prop :=
  ∀ (v : Value) (l : List Value) (k' : Resume → Sem PySem.Fin) (c' : Code) (p : Pos) (fs' : List Frame) (s' : Shared) (ip' : Pins) (σ' : L2.St), RelV (f j) v → Inv X (ip' ++ op) σ' H s' → Ap ip' op → (∀ q ∈ ip', X.s_0.heap.objs.size ≤ q.1) → fs'.any Frame.guarded = false →
    Next X A f H n (j + 1) ip' σ' k' c' fs' → P (.susp v false l k' c' p fs') s'
structure GC2 (c : Code) (fs : List Frame) (gd : Bool → Bool) : Prop where
  over : A.over c fs = X.A
  split : splitAtGen fs = none
  guard : fs.any Frame.guarded = false
  gd : gd false = false
end

section
variable {M : Model} {A : Around} {c : Code} {fs : List Frame} {s : Shared} {P : End → Shared → Prop}
theorem x_wrap {α : Type} {m : Sem α} {K : α → Sem PySem.Fin} {J : Value → Sem PySem.Fin} {gd : Bool → Bool} {lv : List Value → List Value}
    (h : wpAny M (A.over c fs) m (fun a s' => SegX M A c (K a) fs s' P) (fun x s' => SegX M A c (J x) fs s' P) s) : SegX M A c (m.wrap K J gd lv) fs s P := by
  rintro Γ p rfl hΓ
  obtain ⟨e, s', hr, hq⟩ := runs_wrap_of_wp (Φ := fun e s' => e.quiet = true ∧ P e s') K J gd lv m (h (Γ.over fs) p (hΓ.over fs)) (fun a p' s' h' => h' Γ p' rfl hΓ) (fun x p' s' h' => h' Γ p' rfl hΓ)
  exact ⟨e, s', hr, hq⟩
theorem x_bind {α β : Type} {m : Sem α} {g : α → Sem β} {K : β → Sem PySem.Fin} {J : Value → Sem PySem.Fin} {gd : Bool → Bool} {lv : List Value → List Value}
    (h : wpAny M (A.over c fs) m (fun a s' => SegX M A c ((g a).wrap K J gd lv) fs s' P) (fun x s' => SegX M A c (J x) fs s' P) s) : SegX M A c ((m >>= g).wrap K J gd lv) fs s P := by
  rw [Sem.bind_eq_wrap', Sem.wrap_wrap]; exact x_wrap h
theorem x_bind2 {α β γ : Type} {m : Sem α} {g : α → Sem β} {g2 : β → Sem γ} {K : γ → Sem PySem.Fin} {J : Value → Sem PySem.Fin} {gd : Bool → Bool} {lv : List Value → List Value}
    (h : wpAny M (A.over c fs) m (fun a s' => SegX M A c ((g a).wrap (fun b => (g2 b).wrap K J gd lv) J gd lv) fs s' P) (fun x s' => SegX M A c (J x) fs s' P) s) : SegX M A c (((m >>= g) >>= g2).wrap K J gd lv) fs s P := by
  rw [Sem.bind_eq_wrap' (m >>= g) g2, Sem.wrap_wrap]; exact x_bind h
theorem x_at {q : Pos} {k : Unit → Sem PySem.Fin} (h : SegX M A c (k ()) fs s P) : SegX M A c (.at q k) fs s P :=
  x_wrap (m := standAt q) (K := k) (J := .raise) (gd := id) (lv := id) (wpAny_standAt h)
theorem x_call {c' : Code} {hd : Option Value} {g : Bool} {l : List Value} {k : Result → Sem PySem.Fin} (x : ∀ p, SegX M A c' (M.den c') (.ret k hd g l c p [] :: fs) s P) : SegX M A c (.call c' hd g l k) fs s P := by
  rintro Γ p rfl hΓ
  obtain ⟨e, s', hr, hq⟩ := x p (Γ.goto c') p rfl (hΓ.goto c')
  exact ⟨e, s', runs_call_seg hr, hq⟩
theorem x_again {c' : Code} (hq : c'.quiet = true) (x : SegX M A c' (M.den c') fs s P) : SegX M A c (.pure (.again c')) fs s P := by
  rintro Γ p rfl hΓ
  obtain ⟨e, s', hr, hq'⟩ := x (Γ.goto c') p rfl (hΓ.goto c')
  exact ⟨e, s', Runs.head (c₁ := c') (fun _ _ y => .again hq y) hr, hq'⟩
theorem x_pop {k : Result → Sem PySem.Fin} {hd : Option Value} {g : Bool} {l : List Value} {c₁ : Code} {p₁ : Pos} {kp : List Value} (r : Result) (x : SegX M A c₁ (k r) fs s P) : SegX M A c (leafOf r) (.ret k hd g l c₁ p₁ kp :: fs) s P := by
  rintro Γ p rfl hΓ
  obtain ⟨e, s', hr, hq⟩ := x (Γ.goto c₁) p₁ rfl (hΓ.goto c₁)
  exact ⟨e, s', Runs.pop r hr, hq⟩
theorem x_yield {v : Value} {l : List Value} {k : Resume → Sem PySem.Fin} (hfs : splitAtGen fs = none) (hfg : fs.any Frame.guarded = false) (x : ∀ p, P (.susp v false l k c p fs) s) : SegX M A c (.yield v false l k) fs s P := by
  rintro Γ p rfl _
  exact ⟨_, s, Runs.yield' fs hfs, by simp [End.quiet, hfg], x p⟩
end

/-- a statement of a generator: pre, post by the number of items that are out; N: wakings in all -/
structure GS2 (X : Cx) (f : Nat → V) (H : Hp) (N : Nat) (st : Stmt) (pre post : Nat → L2.St → Prop) : Prop where
  run : ∀ (A : Around) (c : Code) (fs : List Frame) (gd : Bool → Bool) (lv : List Value → List Value) (K : Flow → Sem PySem.Fin) (J : Value → Sem PySem.Fin) (ip : Pins), GC2 X A c fs gd → (∀ q ∈ ip, X.s_0.heap.objs.size ≤ q.1) →
    (∀ (n j : Nat) (op : Pins) (P : End → Shared → Prop) (s : Shared) (σ : L2.St), n + j = N → Inv X (ip ++ op) σ H s → Ap ip op → post j σ → Tgt X A f H n j op P → SegX (model X.prog X.w) A c (K .next) fs s P) →
    ∀ (n j : Nat) (op : Pins) (P : End → Shared → Prop) (s : Shared) (σ : L2.St), n + j = N → Inv X (ip ++ op) σ H s → Ap ip op → pre j σ → Tgt X A f H n j op P → SegX (model X.prog X.w) A c ((exec st X.env).wrap K J gd lv) fs s P
structure GSs2 (X : Cx) (f : Nat → V) (H : Hp) (N : Nat) (st : List Stmt) (pre post : Nat → L2.St → Prop) : Prop where
  run : ∀ (A : Around) (c : Code) (fs : List Frame) (gd : Bool → Bool) (lv : List Value → List Value) (K : Flow → Sem PySem.Fin) (J : Value → Sem PySem.Fin) (ip : Pins), GC2 X A c fs gd → (∀ q ∈ ip, X.s_0.heap.objs.size ≤ q.1) →
    (∀ (n j : Nat) (op : Pins) (P : End → Shared → Prop) (s : Shared) (σ : L2.St), n + j = N → Inv X (ip ++ op) σ H s → Ap ip op → post j σ → Tgt X A f H n j op P → SegX (model X.prog X.w) A c (K .next) fs s P) →
    ∀ (n j : Nat) (op : Pins) (P : End → Shared → Prop) (s : Shared) (σ : L2.St), n + j = N → Inv X (ip ++ op) σ H s → Ap ip op → pre j σ → Tgt X A f H n j op P → SegX (model X.prog X.w) A c ((execs st X.env).wrap K J gd lv) fs s P
section
variable {X : Cx} {f : Nat → V} {H : Hp} {N : Nat}
theorem gss2_nil {pre : Nat → L2.St → Prop} : GSs2 X f H N [] pre pre := ⟨fun A c fs gd lv K J ip g _ hk n j op P s σ hn I ap hp tg => hk n j op P s σ hn I ap hp tg⟩
theorem gss2_cons {st : Stmt} {rest : List Stmt} {pre mid post : Nat → L2.St → Prop} (a : GS2 X f H N st pre mid) (b : GSs2 X f H N rest mid post) : GSs2 X f H N (st :: rest) pre post := by
  refine ⟨fun A c fs gd lv K J ip g hi hk n j op P s σ hn I ap hp tg => ?_⟩
  rw [execs_cons_wrap]
  exact a.run A c fs gd lv _ J ip g hi (fun n j op P s σ hn I ap hp tg => b.run A c fs gd lv K J ip g hi hk n j op P s σ hn I ap hp tg) n j op P s σ hn I ap hp tg
theorem gs2_ps {st : Stmt} {t : TS} {pre post : Nat → L2.St → Prop} (h : PS X st t) (hx : ∀ e s, ¬ X.xe e s) (q : ∀ j σ, pre j σ → t { nx := fun σ' H' => H' = H ∧ post j σ', rt := fun _ _ => False } σ H) : GS2 X f H N st pre post := by
  refine ⟨fun A c fs gd lv K J ip g hi hk n j op P s σ hn I ap hp tg => x_wrap ?_⟩
  rw [g.over]
  refine wpAny_mono (h.run _ s σ H _ I (q j σ hp)) (fun fl s' hs => ?_) fun x s' e => absurd e (hx x s')
  cases fl with
  | next =>
    obtain ⟨σ', H', I', rfl, hq⟩ := hs
    exact hk n j op P s' σ' hn I' ap hq tg
  | brk => obtain ⟨_, _, _, z⟩ := hs; exact z.elim
  | cont => obtain ⟨_, _, _, z⟩ := hs; exact z.elim
  | ret v => obtain ⟨_, _, _, _, _, z⟩ := hs; exact z.elim
theorem gs2_yield {e : Expr} {yp pos : Pos} {te : TE} {pre post : Nat → L2.St → Prop} (he : PE X e te) (hx : ∀ e s, ¬ X.xe e s) (q : ∀ j σ, pre j σ → te σ H (fun x H1 => x = f j ∧ H1 = H ∧ post (j + 1) σ))
    (hco : X.env.scope.isCoroutine = false := by rfl) (hi : interactive X.env = false := by rfl) : GS2 X f H N (.Expr (.Yield (some e) yp) pos) pre post := by
  refine ⟨fun A c fs gd lv K J ip g hip hk n j op P s σ hn I ap hp tg => ?_⟩
  rw [exec_Expr X.env _ pos hi rfl]
  show SegX _ A c (.at pos fun _ => ((eval e X.env >>= fun v => (standAt yp >>= fun _ => yieldOut X.env v)) >>= fun x => dropValue (.Yield (some e) yp) pos x).wrap K J gd lv) fs s P
  have hy : ∀ v, yieldOut X.env v = yieldValue v := fun v => by simp only [yieldOut, hco, Bool.false_eq_true, if_false]
  simp only [hy]
  refine x_at ?_
  rw [Sem.bind_eq_wrap', Sem.bind_eq_wrap', Sem.wrap_wrap, Sem.wrap_wrap]
  refine x_wrap ?_
  rw [g.over]
  refine wpAny_mono (he.run _ s σ H _ I (q j σ hp)) (fun v s' hv => ?_) fun x s' e => absurd e (hx x s')
  obtain ⟨x, H1, I1, rv, rfl, rfl, hq⟩ := hv
  refine x_at ?_
  have z : gd false = false := g.gd
  show SegX _ A c (.yield v (gd false) _ _) fs s' P
  rw [z]
  refine x_yield g.split g.guard fun p => ?_
  refine tg v _ _ c p fs s' ip σ rv I1 ap hip g.guard ?_
  cases n with
  | zero => exact trivial
  | succ m =>
    intro op' s'' P' I2 ap2 tg2
    exact hk m (j + 1) op' P' s'' σ (by omega) I2 ap2 hq tg2
end
end GZ


set_option Elab.async false
set_option maxRecDepth 100000
set_option maxHeartbeats 4000000
/-! Loops in a generator def: while True, and for over a text. -/
namespace GZ
open PySem PyProof.Rows L2 GenW PySem.W.X
section
variable {X : Cx} {f : Nat → V} {H : Hp} {N : Nat}
theorem GC2.loop {A : Around} {c c' : Code} {fs : List Frame} {gd : Bool → Bool} {k : Result → Sem PySem.Fin} {l kp : List Value} {p : Pos} (g : GC2 X A c fs gd) (hw : c'.weight = 0) (hu : c'.cUnits = 0) : GC2 X A c' (.ret k none (gd false) l c p kp :: fs) id where
  over := (over_loop hw hu).trans g.over
  split := by
    show (splitAtGen fs).map _ = none
    rw [g.split]; rfl
  guard := by
    show (gd false || fs.any Frame.guarded) = false
    rw [g.gd, g.guard]; rfl
  gd := rfl
theorem inv_re {X : Cx} {pins pins' : Pins} {σ : L2.St} {H : Hp} {s : Shared} (I : Inv X pins σ H s) (h : ∀ p ∈ pins', p ∈ pins) : Inv X pins' σ H s := I.pins_of fun p hp => I.pin p (List.mem_append_right _ (h p hp))

/-- while True: .. that hands out something in each turn -/
theorem gs2_while {test : Expr} {body : List Stmt} {pos : Pos} {tc : TT} {W post : Nat → L2.St → Prop} (hc : PT X test tc) (ht : ∀ σ (Q : Bool → Hp → Prop), Q true H → tc σ H Q) (hx : ∀ e s, ¬ X.xe e s)
    (hb : ∀ j0, GSs2 X f H N body (fun j σ => j = j0 ∧ W j σ) (fun j σ => j0 < j ∧ W j σ)) : GS2 X f H N (.While test body [] pos) W post := by
  refine ⟨fun A c fs gd lv K J ip g hip hk n j op P s σ hn I ap hp tg => ?_⟩
  refine x_at (x_call fun p => ?_)
  have loop : ∀ (m n j : Nat) (op : Pins) (P : End → Shared → Prop) (s : Shared) (σ : L2.St), n ≤ m → n + j = N → Inv X (ip ++ op) σ H s → Ap ip op → W j σ → Tgt X A f H n j op P →
      ∀ (k : Result → Sem PySem.Fin) (p : Pos), SegX (model X.prog X.w) A (.whileLoop test body [] X.env) ((model X.prog X.w).den (.whileLoop test body [] X.env)) (.ret k none (gd false) (lv []) c p [] :: fs) s P := by
    intro m
    induction m with
    | zero =>
      intro n j op P s σ hm hn I ap hp tg k p
      have gl := g.loop (k := k) (l := lv []) (kp := []) (p := p) (c' := .whileLoop test body [] X.env) rfl rfl
      show SegX _ A _ ((whileTurn test body [] X.env).onRaise (fun x => do noteFrame x X.env; theTreesLotGoes x)) _ s P
      unfold whileTurn
      rw [Sem.onRaise_eq_wrap]
      refine x_bind ?_
      rw [gl.over]
      refine wpAny_mono (hc.run _ s σ H _ I (ht σ (fun b H' => b = true ∧ H' = H) ⟨rfl, rfl⟩)) (fun b s' hb' => ?_) fun x s' e => absurd e (hx x s')
      obtain ⟨H2, I2, rfl, rfl⟩ := hb'
      show SegX _ A _ (Sem.wrap _ _ _ _ (if true = true then _ else _)) _ s' P
      rw [if_pos rfl, Sem.bind_eq_wrap', Sem.wrap_wrap]
      refine (hb j).run A _ _ id id _ _ ip gl hip (fun n' j' op' P' s'' σ' hn' I' ap' hp' tg' => ?_) n j op P s' σ hn I2 ap ⟨rfl, hp⟩ tg
      exact absurd hp'.1 (by omega)
    | succ m ih =>
      intro n j op P s σ hm hn I ap hp tg k p
      have gl := g.loop (k := k) (l := lv []) (kp := []) (p := p) (c' := .whileLoop test body [] X.env) rfl rfl
      show SegX _ A _ ((whileTurn test body [] X.env).onRaise (fun x => do noteFrame x X.env; theTreesLotGoes x)) _ s P
      unfold whileTurn
      rw [Sem.onRaise_eq_wrap]
      refine x_bind ?_
      rw [gl.over]
      refine wpAny_mono (hc.run _ s σ H _ I (ht σ (fun b H' => b = true ∧ H' = H) ⟨rfl, rfl⟩)) (fun b s' hb' => ?_) fun x s' e => absurd e (hx x s')
      obtain ⟨H2, I2, rfl, rfl⟩ := hb'
      show SegX _ A _ (Sem.wrap _ _ _ _ (if true = true then _ else _)) _ s' P
      rw [if_pos rfl, Sem.bind_eq_wrap', Sem.wrap_wrap]
      refine (hb j).run A _ _ id id _ _ ip gl hip (fun n' j' op' P' s'' σ' hn' I' ap' hp' tg' => ?_) n j op P s' σ hn I2 ap ⟨rfl, hp⟩ tg
      show SegX _ A _ (.pure (.again (.whileLoop test body [] X.env))) _ s'' P'
      exact x_again rfl (ih n' j' op' P' s'' σ' (by omega) hn' I' ap' hp'.2 tg' k p)
  exact loop n n j op P s σ (Nat.le_refl _) hn I ap hp tg _ p

/-- for sign in text: .. -/
theorem gs2_forStr {tg e : Expr} {body : List Stmt} {pos : Pos} {te : TE} {g : TG} {x : Str} {W W2 : Nat → Nat → L2.St → Prop} {pre : Nat → L2.St → Prop} (hcalm : X.calm = true) (he : PE X e te) (hg : PG X tg g) (hx : ∀ e s, ¬ X.xe e s) (hascii : x.cps.all (· < 128) = true)
    (hpre : ∀ j σ, pre j σ → te σ H (fun v H1 => v = .str x ∧ H1 = H ∧ W 0 j σ))
    (hst : ∀ (i c j : Nat) (σ : L2.St), x.cps[i]? = some c → W i j σ → g (.str ⟨#[c]⟩) σ H (fun σ2 H2 => H2 = H ∧ W2 i j σ2))
    (hb : ∀ i, i < x.cps.size → GSs2 X f H N body (W2 i) (W (i + 1))) (hs : ∀ v, foldedSetIterable e X.env v = pure v := by intro _; rfl) :
    GS2 X f H N (.For tg e body [] pos) pre (W x.cps.size) := by
  refine ⟨fun A c fs gd lv K J ip gc hip hk n j op P s σ hn I ap hp tgt => ?_⟩
  rw [exec_For]
  refine x_bind (wpAny_standAt ?_)
  refine x_bind ?_
  rw [gc.over]
  refine wpAny_mono (he.run _ s σ H _ I (hpre j σ hp)) (fun u s1 hu => ?_) fun y s' e => absurd e (hx y s')
  obtain ⟨v, H1, I1, rv, rfl, rfl, w0⟩ := hu
  obtain ⟨t, rfl⟩ := rv
  refine x_bind ?_
  rw [hs]
  refine wpAny_pure ?_
  refine x_bind (wpAny_standAt ?_)
  refine x_bind (wpAny_holding ?_)
  refine wpAny_pyIter_ascii hascii ?_
  have T : Turn X.prog X.w X.K tg (Its x) [s1.heap.objs.size] s1.heap.objs.size (fun i h => h.IsStrIter s1.heap.objs.size "str_ascii_iterator" x t i) := turn_str _ x t _ (.inl rfl)
  have hit : ∀ b u, s1.heap.get? b = some u → b ≠ s1.heap.objs.size := fun b u q => Nat.ne_of_lt (Heap.lt_size q)
  have fpk : FpOk X (ip ++ op) H1 s1.heap.objs.size := I1.fpOk (Nat.le_refl _) (I1.hok.fresh (Nat.le_refl _))
  have fst0 : X.s_0.heap.objs.size ≤ s1.heap.objs.size := I1.sz
  have I2 : Inv X (ip ++ op) σ H1 { s1 with heap := s1.heap.push { cls := .type "str_ascii_iterator", data := .fields #[.str x t, .int 0 0] } } := I1.kept (t' := s1.toks) fun b o e => Heap.get?_push_of_some _ e
  have st0 : ({ s1 with heap := s1.heap.push { cls := .type "str_ascii_iterator", data := .fields #[.str x t, .int 0 0] } } : Shared).heap.IsStrIter s1.heap.objs.size "str_ascii_iterator" x t 0 := ⟨_, Heap.get?_push_size _ rfl, rfl, rfl⟩
  have ap0 : ∀ p ∈ op, p.1 ≠ s1.heap.objs.size := fun p hp => hit p.1 p.2 (I1.pin p (List.mem_append_right _ (List.mem_append_right _ hp))).1
  generalize ({ s1 with heap := s1.heap.push { cls := .type "str_ascii_iterator", data := .fields #[.str x t, .int 0 0] } } : Shared) = s2 at I2 st0
  generalize s1.heap.objs.size = it at T fpk fst0 st0 ap0
  clear hit I1
  obtain ⟨f0, f1, f2, f3, f4, f5⟩ := fpk
  have fp' : ∀ {op' : Pins}, (∀ p ∈ op', p.1 ≠ it) → ∀ b ∈ [it], FpOk X (ip ++ op') H1 b := fun {op'} h b hb => by
    rw [List.mem_singleton.mp hb]
    refine ⟨f0, f1, f2, f3, f4, fun p hp => ?_⟩
    rcases List.mem_append.mp hp with z | z
    · exact f5 p (List.mem_append_left _ z)
    · rcases List.mem_append.mp z with z | z
      · exact f5 p (List.mem_append_right _ (List.mem_append_left _ z))
      · exact h p z
  refine x_call fun p => ?_
  have loop : ∀ (r i n j : Nat) (op : Pins) (P : End → Shared → Prop) (s : Shared) (σ : L2.St), i + r = x.cps.size → n + j = N → Inv X (ip ++ op) σ H1 s → Ap ip op → (∀ p ∈ op, p.1 ≠ it) → s.heap.IsStrIter it "str_ascii_iterator" x t i → W i j σ → Tgt X A f H1 n j op P →
      SegX (model X.prog X.w) A (.forLoop tg (.ref it) body [] X.env) ((model X.prog X.w).den (.forLoop tg (.ref it) body [] X.env)) (.ret (fun r => ((match r with | .ok f => (.pure f : Sem Flow) | .error e => .raise e).onRaise fun (y : Value) => do
        if (← field y 1) == Value.none then unsupported "frame.own-activation:exception-without-traceback"
        setFlight y X.env.frame).wrap K J gd lv) none (gd false) (lv []) c p [] :: fs) s P := by
    intro r
    induction r with
    | zero =>
      intro i n j op P s σ hi hn I ap apI st w tg1
      have gl := gc.loop (c' := .forLoop tg (.ref it) body [] X.env) (k := fun r => ((match r with | .ok f => (.pure f : Sem Flow) | .error e => .raise e).onRaise fun (y : Value) => do
        if (← field y 1) == Value.none then unsupported "frame.own-activation:exception-without-traceback"
        setFlight y X.env.frame).wrap K J gd lv) (l := lv []) (kp := []) (p := p) rfl rfl
      show SegX _ A _ ((forTurn tg (.ref it) body [] X.env).onRaise (fun x => do noteFrame x X.env; theTreesLotGoes x)) _ s P
      rw [Sem.onRaise_eq_wrap]
      simp only [forTurn]
      refine x_bind (wpAny_standAt ?_)
      refine x_bind (wpAny_onRaise ?_)
      rw [gl.over]
      refine wpAny_mono (T.done X rfl rfl rfl hcalm i _ s σ H1 (fun _ _ => False) I (fp' apI) st (show x.cps.size ≤ i by omega)) (fun y s4 hy => ?_) fun _ _ e => e.elim
      obtain ⟨rfl, I4⟩ := hy
      show SegX _ A _ (.pure (.again (.block [] X.env))) _ s4 P
      refine x_again rfl ?_
      show SegX _ A _ (leafOf (.ok .next)) _ s4 P
      refine x_pop (.ok .next) ?_
      have hi' : i = x.cps.size := by omega
      rw [hi'] at w
      exact hk n j op P s4 σ hn I4 ap w tg1
    | succ r ih =>
      intro i n j op P s σ hi hn I ap apI st w tg1
      have gl := gc.loop (c' := .forLoop tg (.ref it) body [] X.env) (k := fun r => ((match r with | .ok f => (.pure f : Sem Flow) | .error e => .raise e).onRaise fun (y : Value) => do
        if (← field y 1) == Value.none then unsupported "frame.own-activation:exception-without-traceback"
        setFlight y X.env.frame).wrap K J gd lv) (l := lv []) (kp := []) (p := p) rfl rfl
      show SegX _ A _ ((forTurn tg (.ref it) body [] X.env).onRaise (fun x => do noteFrame x X.env; theTreesLotGoes x)) _ s P
      rw [Sem.onRaise_eq_wrap]
      simp only [forTurn]
      refine x_bind (wpAny_standAt ?_)
      refine x_bind (wpAny_onRaise ?_)
      rw [gl.over]
      have hlt : i < x.cps.size := by omega
      refine wpAny_mono (T.item X rfl rfl rfl hcalm i _ s σ H1 (fun _ _ => False) I (fp' apI) st hlt) (fun y s4 hy => ?_) fun _ _ e => e.elim
      obtain ⟨u, rfl, hy⟩ := hy
      refine x_bind ?_
      rw [gl.over]
      refine wpAny_mono hy (fun _ s5 h5 => ?_) fun _ _ e => e.elim
      obtain ⟨v, H5, I5, r5, ⟨rfl, cc, hcx, rfl⟩, st5, _⟩ := h5
      have hobj := T.obj _ _ st5 it (List.mem_singleton.mpr rfl)
      obtain ⟨o5, e5, d5⟩ := hobj
      have I5' : Inv X ((ip ++ [(it, o5)]) ++ op) σ H5 s5 := I5.pins_of fun q hq => by
        rcases List.mem_append.mp hq with z | z
        · rcases List.mem_append.mp z with z | z
          · exact I5.pin q (List.mem_append_right _ (List.mem_append_left _ z))
          · rw [List.mem_singleton.mp z]
            exact ⟨e5, f0, f1, f2, d5⟩
        · exact I5.pin q (List.mem_append_right _ (List.mem_append_right _ z))
      refine x_bind ?_
      rw [gl.over]
      refine wpAny_mono (hg.run _ s5 σ H5 _ u _ I5' r5 (hst i cc j σ hcx w)) (fun _ s6 h6 => ?_) fun y s' e => absurd e (hx y s')
      obtain ⟨σ6, H6, I6, rfl, w6⟩ := h6
      rw [Sem.bind_eq_wrap', Sem.wrap_wrap]
      have hip' : ∀ q ∈ ip ++ [(it, o5)], X.s_0.heap.objs.size ≤ q.1 := fun q hq => by
        rcases List.mem_append.mp hq with z | z
        · exact hip q z
        · rw [List.mem_singleton.mp z]; exact fst0
      have ap' : Ap (ip ++ [(it, o5)]) op := fun p hp q hq => by
        rcases List.mem_append.mp hq with z | z
        · exact ap p hp q z
        · rw [List.mem_singleton.mp z]; exact apI p hp
      refine (hb i hlt).run A _ _ id id _ _ (ip ++ [(it, o5)]) gl hip' (fun n' j' op' P' s'' σ' hn' I' ap2 w' tg' => ?_) n j op P s6 σ6 hn I6 ap' w6 tg1
      show SegX _ A _ (.pure (.again (.forLoop tg (.ref it) body [] X.env))) _ s'' P'
      refine x_again rfl (ih (i + 1) n' j' op' P' s'' σ' (by omega) hn' (inv_re I' fun p hp => ?_) (fun p hp q hq => ap2 p hp q (List.mem_append_left _ hq)) (fun p hp => ap2 p hp (it, o5) (List.mem_append_right _ (List.mem_singleton.mpr rfl))) ?_ w' tg')
      · rcases List.mem_append.mp hp with z | z
        · exact List.mem_append_left _ (List.mem_append_left _ z)
        · exact List.mem_append_right _ z
      · refine T.keep _ _ _ st5 fun b hb o e => ?_
        have hb' : b = it := List.mem_singleton.mp hb
        rw [hb'] at e ⊢
        rw [e5] at e
        cases e
        exact (I'.pin (it, o5) (List.mem_append_right _ (List.mem_append_left _ (List.mem_append_right _ (List.mem_singleton.mpr rfl))))).1
  exact loop x.cps.size 0 n j op P s2 σ (Nat.zero_add _) hn I2 ap ap0 st0 w0 tgt
end
end GZ


set_option Elab.async false
set_option maxRecDepth 100000
set_option maxHeartbeats 4000000
set_option exponentiation.threshold 3000
/-! digits: what it hands out. -/
namespace GZ
open PySem PyProof.Rows L2 GenW PySem.W.X SX Vm Vf

theorem GS2.imp {X : Cx} {f : Nat → V} {H : Hp} {N : Nat} {st : Stmt} {pre post pre' post' : Nat → L2.St → Prop} (h : GS2 X f H N st pre post) (h1 : ∀ j σ, pre' j σ → pre j σ) (h2 : ∀ j σ, post j σ → post' j σ) : GS2 X f H N st pre' post' :=
  ⟨fun A c fs gd lv K J ip g hip hk n j op P s σ hn I ap hp tg => h.run A c fs gd lv K J ip g hip (fun n j op P s σ hn I ap hp tg => hk n j op P s σ hn I ap (h2 j σ hp) tg) n j op P s σ hn I ap (h1 j σ hp) tg⟩
theorem GSs2.imp {X : Cx} {f : Nat → V} {H : Hp} {N : Nat} {st : List Stmt} {pre post pre' post' : Nat → L2.St → Prop} (h : GSs2 X f H N st pre post) (h1 : ∀ j σ, pre' j σ → pre j σ) (h2 : ∀ j σ, post j σ → post' j σ) : GSs2 X f H N st pre' post' :=
  ⟨fun A c fs gd lv K J ip g hip hk n j op P s σ hn I ap hp tg => h.run A c fs gd lv K J ip g hip (fun n j op P s σ hn I ap hp tg => hk n j op P s σ hn I ap (h2 j σ hp) tg) n j op P s σ hn I ap (h1 j σ hp) tg⟩
/-- a generator def's body, walked where nothing is raised -/
def zx (P : Program) (w : World) (K : PySem.W.Frag) (mg : Str → Option Value) (base : Heap) (N : List Str) (qual : Str) (scope : Scope) (f : Addr) (cd : Value) (A : Around) (outer : List Env) (s : Shared) (H : Hp) (ex : List Addr) : Cx :=
  { cxOf CX0 P w K mg base N qual scope f cd A outer s H E0 with ex := ex, xe := fun _ _ => False }
/-- the digit of a sign -/
def dig (c : Nat) : V := .int ((c : Int) - 48)
theorem dig_text {c b : Nat} (b5 : b ≤ 5) (h : 48 ≤ c ∧ (c : Int) < 48 + b) : PySem.intText? (⟨#[c]⟩ : Str) = some ((c : Int) - 48) := by
  have hc : c = 48 ∨ c = 49 ∨ c = 50 ∨ c = 51 ∨ c = 52 := by omega
  rcases hc with e | e | e | e | e <;> subst e <;> decide +kernel
abbrev nmDig : List Str := ["base", "stream", "_", "head", "period", "digit"]
theorem gsDigits : GScope nmDig ["base", "stream"] (defScope sDigits) := ⟨rfl, rfl, rfl, by decide +kernel, rfl, by decide +kernel, by decide +kernel⟩
theorem ascii_of {b : Nat} {l : List Nat} (b5 : b ≤ 5) (h : IsW (b : Int) l) : (S l).cps.all (· < 128) = true := by
  rw [Array.all_eq_true']
  intro c hc
  have hc' : c ∈ l := by simpa using hc
  have := h c hc'
  simp
  omega
def sgD (b : Nat) (p : Addr) (r : Int) (h q : List Nat) (d : Option V) : L2.St := [some (.int (b : Int)), some (.ref p), some (.int r), some (.str (S h)), some (.str (S q)), d]
theorem sign_at {l : List Nat} {i c : Nat} (h : (S l).cps[i]? = some c) : i < l.length ∧ c = l.getD i 0 := by
  have h' : l[i]? = some c := by simpa using h
  obtain ⟨hi, e⟩ := List.getElem?_eq_some_iff.mp h'
  exact ⟨hi, by rw [List.getD_eq_getElem?_getD, h']; rfl⟩
theorem getD_mem {l : List Nat} {i : Nat} (h : i < l.length) : l.getD i 0 ∈ l := by
  rw [List.getD_eq_getElem?_getD, List.getElem?_eq_getElem h]
  exact List.getElem_mem h
section
variable {P : Program} {w : World} {K : PySem.W.Frag} {mg : Str → Option Value} {base : Heap}
theorem dg_body {fB fS CN CS : Addr} {fdB fdS : FuncData} (GB : FnOk P w K mg base (L2.CX P w) 4 fB fdB ["base"] (spReqB CN 2 5)) (cB : Cal K mg "require_base" fB fdB ["base"])
    (GS : FnOk P w K mg base (L2.CX P w) 4 fS fdS ["base", "roots", "stream"] (spReqStream CS)) (cS : Cal K mg "require_stream" fS fdS ["base", "roots", "stream"]) (Nm : Nm mg)
    {f : Addr} {cd : Value} {A : Around} {outer : List Env} {s : Shared} {H : Hp} {ex : List Addr} (hr : Room 4 (A.deeper (envOfC "digits" (defScope sDigits) s.heap.objs.size f cd)))
    {b : Nat} {p : Addr} {r : Int} {h q : List Nat} (b2 : 2 ≤ b) (b5 : b ≤ 5) (hp : H p = some (.tup [.int r, .str (S h), .str (S q)])) (o : OkS b r h q) (N : Nat) :
    GSs2 (zx P w K mg base nmDig "digits" (defScope sDigits) f cd A outer s H ex) (fun j => dig (ev h q j)) H N (defBody sDigits) (fun j σ => j = 0 ∧ σ = L2.start nmDig [.int (b : Int), .ref p]) (fun _ _ => False) := by
  have nd := gsDigits.nd
  obtain ⟨t2, m2⟩ := Nm.maxR
  have hx : ∀ (e : Value) (s' : Shared), ¬ (zx P w K mg base nmDig "digits" (defScope sDigits) f cd A outer s H ex).xe e s' := fun _ _ z => z
  have wb : withinV 2 5 (.int (b : Int)) = true := by
    show (decide ((2 : Int) ≤ b) && decide ((b : Int) ≤ 5)) = true
    rw [decide_eq_true (by omega), decide_eq_true (by omega)]
    rfl
  refine gss2_cons (mid := fun j σ => j = 0 ∧ σ = L2.start nmDig [.int (b : Int), .ref p]) (gs2_ps (ps_expr (pe_call GB hr rfl cB.mg cB.kp cB.b .nil (passes_call takes0 (fun _ _ _ _ h => h)) (pa_cons (pv 0) pa_nil))) hx fun j σ hj => ?_)
    (gss2_cons (mid := fun j σ => j = 0 ∧ σ = L2.start nmDig [.int (b : Int), .ref p]) (gs2_ps (ps_expr (pe_call GS hr rfl cS.mg cS.kp cS.b .nil (passes_call takes0 (fun _ _ _ _ h => h)) (pa_cons (pv 0) (pa_cons (pe_glob (v := .int 5000) rfl m2 ⟨_, rfl⟩) (pa_cons (pv 1) pa_nil))))) hx fun j σ hj => ?_)
    (gss2_cons (mid := fun j σ => j = 0 ∧ σ = sgD b p r h q none) (gs2_ps (ps_asg (pv 1) (pg_tup rfl (pgs_cons (pg_name (i := 2) nd rfl (.inl rfl)) (pgs_cons (pg_name (i := 3) nd rfl (.inl rfl)) (pgs_cons (pg_name (i := 4) nd rfl (.inl rfl)) pgs_nil))))) hx fun j σ hj => ?_)
    (gss2_cons (mid := fun j σ => j = h.length ∧ ∃ d, σ = sgD b p r h q d) ?_ (gss2_cons (mid := fun _ _ => False) ?_ gss2_nil))))
  · obtain ⟨rfl, rfl⟩ := hj
    exact ⟨_, rfl, _, _, rfl, .int _, fun _ => ⟨rfl, rfl, rfl⟩, fun z => by rw [wb] at z; cases z⟩
  · obtain ⟨rfl, rfl⟩ := hj
    exact ⟨_, rfl, _, rfl, b, 5000, _, true, rfl, b2, b5, sf_ok hp o, fun _ => ⟨rfl, rfl, rfl⟩, fun z => by cases z⟩
  · obtain ⟨rfl, rfl⟩ := hj
    exact ⟨_, rfl, p, _, rfl, SqT.of hp, rfl, _, _, rfl, _, _, rfl, _, _, rfl, rfl, rfl, rfl, rfl⟩
  · refine GS2.imp (gs2_forStr (x := S h) (W := fun i j σ => i = j ∧ ∃ d, σ = sgD b p r h q d) (W2 := fun i j σ => i = j ∧ i < h.length ∧ σ = sgD b p r h q (some (.str ⟨#[h.getD i 0]⟩))) (pre := fun j σ => j = 0 ∧ σ = sgD b p r h q none) rfl (pv 3) (pg_name (i := 5) nd rfl (.inl rfl)) hx (ascii_of b5 o.wh) (fun j σ hj => ?_) (fun i c j σ hc hw => ?_) (fun i hi => ?_)) (fun _ _ z => z) fun j σ z => ?_
    · obtain ⟨rfl, rfl⟩ := hj
      exact ⟨_, rfl, rfl, rfl, rfl, _, rfl⟩
    · obtain ⟨rfl, d, rfl⟩ := hw
      obtain ⟨hi, ec⟩ := sign_at hc
      subst ec
      exact ⟨rfl, rfl, hi, rfl⟩
    · refine gss2_cons (gs2_yield (pe_callTy call_int_str (by rfl) Nm.int (by decide +kernel) (pa_cons (pv 5) pa_nil)) hx fun j σ hw => ?_) gss2_nil
      obtain ⟨rfl, hi, rfl⟩ := hw
      refine ⟨_, rfl, _, _, rfl, dig_text b5 (o.wh _ (getD_mem hi)), (by show 1 ≤ 640; decide), ?_, rfl, rfl, _, rfl⟩
      show V.int _ = dig (ev h q i)
      rw [ev_lt hi]
      rfl
    · obtain ⟨rfl, d, rfl⟩ := z
      exact ⟨by simp, d, rfl⟩
  · refine GS2.imp (gs2_while (post := fun _ _ => False) (W := fun j σ => (∃ m, j = h.length + m * q.length) ∧ ∃ d, σ = sgD b p r h q d) (pt_val pe_bl) (fun σ Q hq => ⟨true, rfl, hq⟩) hx fun j0 => ?_) (fun j σ hj => ?_) fun _ _ z => z
    · refine gss2_cons (mid := fun j σ => (j = j0 + q.length ∧ ∃ m, j0 = h.length + m * q.length) ∧ ∃ d, σ = sgD b p r h q d) (GS2.imp (gs2_forStr (x := S q) (W := fun i j σ => (j = j0 + i ∧ ∃ m, j0 = h.length + m * q.length) ∧ ∃ d, σ = sgD b p r h q d) (W2 := fun i j σ => (j = j0 + i ∧ ∃ m, j0 = h.length + m * q.length) ∧ i < q.length ∧ σ = sgD b p r h q (some (.str ⟨#[q.getD i 0]⟩)))
          (pre := fun j σ => j = j0 ∧ (∃ m, j = h.length + m * q.length) ∧ ∃ d, σ = sgD b p r h q d) rfl (pv 4) (pg_name (i := 5) nd rfl (.inl rfl)) hx (ascii_of b5 o.wq) (fun j σ hj => ?_) (fun i c j σ hc hw => ?_) (fun i hi => ?_)) (fun _ _ z => z) fun j σ z => ?_) (GSs2.imp (gss2_nil (pre := fun j σ => (j = j0 + q.length ∧ ∃ m, j0 = h.length + m * q.length) ∧ ∃ d, σ = sgD b p r h q d)) (fun _ _ z => z) fun j σ z => ?_)
      · obtain ⟨rfl, hm, d, rfl⟩ := hj
        exact ⟨_, rfl, rfl, rfl, ⟨rfl, hm⟩, _, rfl⟩
      · obtain ⟨hj, d, rfl⟩ := hw
        obtain ⟨hi, ec⟩ := sign_at hc
        subst ec
        exact ⟨rfl, hj, hi, rfl⟩
      · refine gss2_cons (gs2_yield (pe_callTy call_int_str (by rfl) Nm.int (by decide +kernel) (pa_cons (pv 5) pa_nil)) hx fun j σ hw => ?_) gss2_nil
        obtain ⟨⟨rfl, m, rfl⟩, hi, rfl⟩ := hw
        refine ⟨_, rfl, _, _, rfl, dig_text b5 (o.wq _ (getD_mem hi)), (by show 1 ≤ 640; decide), ?_, rfl, ⟨rfl, m, rfl⟩, _, rfl⟩
        show V.int _ = dig (ev h q (h.length + m * q.length + i))
        rw [ev_ge (by omega), show h.length + m * q.length + i - h.length = i + m * q.length by omega, g_mul, g_lt hi]
        rfl
      · obtain ⟨⟨rfl, hm⟩, d, rfl⟩ := z
        exact ⟨⟨by simp, hm⟩, d, rfl⟩
      · obtain ⟨⟨rfl, m, rfl⟩, d, rfl⟩ := z
        have := o.nf.ne
        exact ⟨by omega, ⟨m + 1, by rw [Nat.add_mul]; omega⟩, d, rfl⟩
    · obtain ⟨rfl, d, rfl⟩ := hj
      exact ⟨⟨0, by omega⟩, d, rfl⟩
end
end GZ


set_option Elab.async false
set_option maxRecDepth 100000
set_option maxHeartbeats 4000000
/-! One item of a range's iterator, of a generator, of a zip of both. -/
namespace GZ
open PySem PyProof.Rows L2 GenW PySem.W.X
section
variable {P : Program} {w : World} {B : Around} {E : Value → Shared → Prop} {s : Shared}
theorem nextOf_rng {it : Addr} {x left : Int} {Q : Value → Shared → Prop} (hit : IsRangeIter s.heap it x left 1) (hl : 0 < left)
    (hQ : ∀ h', IsRangeIter h' it (x + 1) (left - 1) 1 → Heap.SameBut it s.heap h' → Q (.int x s.toks) { s with heap := h', toks := s.toks + 1 }) : wpAny (model P w) B (Builtin.SmallTypes.nextOf (.ref it)) Q E s := by
  have hT : s.TypeIs (.ref it) "range_iterator" := ⟨_, hit, rfl⟩
  unfold Builtin.SmallTypes.nextOf
  exact wpAny_bind (wpAny_callSpecial?_slot (name := Str.ofString "__next__") hT F.slot_range_iterator_next
    (call_meets F.slot_range_iterator_next hT F.entry_range_iterator_next (F.args_range_iterator_next_1 _) (AutoRange.range_iterator___next___range_iterator_1 it x left 1 (by omega))
      ⟨hit, wpAny_pure (hQ _ (Heap.get?_update_self _ (Heap.get?_update_self _ hit rfl) rfl) ((Heap.SameBut.update ..).trans (Heap.SameBut.update ..)))⟩))
theorem nextOf_rngEnd {it : Addr} {x left : Int} {Q : Value → Shared → Prop} (hh : B.handled = none) (hit : IsRangeIter s.heap it x left 1) (hl : left ≤ 0)
    (hE : ∀ h' e, Heap.ExtBut it s.heap h' → (∃ o, h'.get? e = some o ∧ o.cls = .type "StopIteration") → E (.ref e) { s with heap := h' }) : wpAny (model P w) B (Builtin.SmallTypes.nextOf (.ref it)) Q E s := by
  have hT : s.TypeIs (.ref it) "range_iterator" := ⟨_, hit, rfl⟩
  unfold Builtin.SmallTypes.nextOf
  refine wpAny_bind (wpAny_callSpecial?_slot (name := Str.ofString "__next__") hT F.slot_range_iterator_next (wpAny_call_entry F.slot_range_iterator_next hT F.entry_range_iterator_next ?_ (F.args_range_iterator_next_1 _)))
  show wpAny _ _ (field (.ref it) 0 >>= _) _ _ s
  refine wpAny_bind (wpAny_field hit rfl (x := rawInt x) rfl (?_ : wpAny _ _ (field (.ref it) 1 >>= _) _ _ s))
  refine wpAny_bind (wpAny_field hit rfl (x := rawInt left) rfl (?_ : wpAny _ _ (field (.ref it) 2 >>= _) _ _ s))
  refine wpAny_bind (wpAny_field hit rfl (x := rawInt 1) rfl (?_ : wpAny _ _ (if left ≤ 0 then _ else _) _ _ s))
  rw [if_pos hl]
  refine wpAny_bind (wpAny_rule (wpAny_bind (?_ : wpAny _ _ (newExc (.type "StopIteration") [] >>= _) _ _ _)))
  refine wpAny_bind ?_
  simp only [newExc, newTuple]
  refine wpAny_bind (wpAny_newObj_type (wpAny_bind (m := firstArgMember _ _) (wpAny_of_eq (a := Value.none) (by first | rfl | (simp only [firstArgMember]; rfl)) (wpAny_newObj_type ?_ (by size_fits)))) (by size_fits))
  simp only [raiseNew]
  refine wpAny_bind (wpAny_handled ?_)
  first | rw [show B.in1.handled = none from hh] | rw [hh]
  refine wpAny_bind (wpAny_pure (wpAny_throw (hE _ _ ?_ ⟨_, Heap.get?_push_size _ rfl, rfl⟩)))
  first
    | exact ((Heap.SameBut.update ..).extBut.push _).push _
    | exact (((Heap.SameBut.refl _ _).extBut).push _).push _
    | exact fun b o hb e => Heap.get?_push_of_some _ (Heap.get?_push_of_some _ e)

theorem wake_seg {α : Type} {A : Around} {g : Nat} {gs : GenState} {c0 : Code} {t0 : Sem PySem.Fin} {fs0 : List Frame} {ll : List Value} {k : GenResult → Sem α} {Q : α → Shared → Prop} (hgs : s.gens[g]? = some gs)
    (hs : (gs = .fresh c0 ∧ t0 = (model P w).den c0 ∧ fs0 = []) ∨ ∃ k0 l0 p0 cl, gs = .suspended k0 l0 c0 p0 fs0 cl ∧ t0 = k0 (.send .none))
    (x : SegX (model P w) A c0 t0 fs0 (s.setGen g .running) (fun e s1 => wpAny (model P w) A (k e.result) Q E (s1.setGen g e.genState))) : wpAny (model P w) A (.resume g (.send .none) ll k) Q E s := fun Γ p hΓ =>
  wake_any _ P w hgs (c₀ := c0) (t₀ := t0) (fs₀ := fs0) (hs.imp (fun ⟨h1, h2, h3⟩ => ⟨h1, rfl, h2, h3⟩) fun ⟨k0, l0, p0, cl, h1, h2⟩ => ⟨k0, l0, p0, cl, h1, h2⟩) (fun Γ => Γ.In A) (fun _ h => h) (x.mono fun e s1 he Γ p hC => he Γ p hC) Γ p hΓ
/-- a generator is woken by «next» -/
theorem nextOf_gen {a : Addr} {g : Nat} {gs : GenState} {c0 : Code} {t0 : Sem PySem.Fin} {fs0 : List Frame} {Q : Value → Shared → Prop} (hl : s.heap.NoLimit) (hroom : B.depth < recursionLimit) (hg : s.heap.IsGen a g) (hgs : s.gens[g]? = some gs)
    (hs : (gs = .fresh c0 ∧ t0 = (model P w).den c0 ∧ fs0 = []) ∨ ∃ k0 l0 p0 cl, gs = .suspended k0 l0 c0 p0 fs0 cl ∧ t0 = k0 (.send .none))
    (x : SegX (model P w) B.in1 c0 t0 fs0 (s.setGen g .running) (fun e s1 => ∃ v l k c p fs, e = .susp v false l k c p fs ∧ Q v (s1.setGen g e.genState))) : wpAny (model P w) B (Builtin.SmallTypes.nextOf (.ref a)) Q E s := by
  unfold Builtin.SmallTypes.nextOf
  refine wpAny_bind (wpAny_callSpecial?_slot (name := Str.ofString "__next__") hg.typeIs slot_gen_next (wpAny_call_entry slot_gen_next hg.typeIs entry_gen_next ?_ (args_gen_next _)))
  show wpAny _ B.in1 (Builtin.Generator.genWake (.ref a) (.send .none)) _ _ s
  unfold Builtin.Generator.genWake
  refine wpAny_bind (wpAny_holding (wpAny_genNumber hg (wpAny_bind (wpAny_genState hgs ?_))))
  have fin : ∀ (e : End) (s1 : Shared), (∃ v l k c p fs, e = .susp v false l k c p fs ∧ Q v (s1.setGen g e.genState)) → ∃ v, e.result = .yielded v ∧ Q v (s1.setGen g e.genState) := fun e s1 ⟨v, l, k, c, p, fs, he, hq⟩ => ⟨v, by rw [he]; rfl, hq⟩
  cases gs with
  | running => rcases hs with ⟨h, _⟩ | ⟨_, _, _, _, h, _⟩ <;> cases h
  | finished => rcases hs with ⟨h, _⟩ | ⟨_, _, _, _, h, _⟩ <;> cases h
  | _ =>
    refine wpAny_bind (wpAny_roomToWake hl hroom (?_ : wpAny _ B.in1 (.resume g (.send .none) [] _) _ _ s))
    refine wake_seg hgs hs (x.mono fun e s1 he => ?_)
    obtain ⟨v, hv, hq⟩ := fin e s1 he
    rw [hv]
    exact wpAny_pure ⟨v, rfl, wpAny_pure hq⟩
end
end GZ


set_option Elab.async false
set_option maxRecDepth 100000
set_option maxHeartbeats 4000000
/-! zip of a range and a generator. -/
namespace GZ
open PySem PyProof.Rows L2 GenW PySem.W.X
section
variable {P : Program} {w : World} {B : Around} {s : Shared}
theorem zipRG_item {E : Value → Shared → Prop} {z TI TO i1 a : Addr} {u1 u2 : Value} {x left : Int} {Q : Value → Shared → Prop} (n1 : TI ≠ z) (n2 : TO ≠ z) (n3 : i1 ≠ z) (n4 : TI ≠ TO) (n5 : TI ≠ i1) (n6 : TO ≠ i1)
    (hz : IsZip s.heap z TI TO .none) (hTI : IsPair s.heap TI (.ref i1) (.ref a)) (hTO : IsPair s.heap TO u1 u2) (hi : IsRangeIter s.heap i1 x left 1) (hl : 0 < left)
    (hgen : ∀ (h1 : Heap) (tk0 tk1 : Nat), IsZip h1 z TI TO .ellipsis → IsPair h1 TO (.int x tk0) u2 → IsRangeIter h1 i1 (x + 1) (left - 1) 1 → h1.objs.size = s.heap.objs.size → (∀ c o, c ≠ z → c ≠ TO → c ≠ i1 → s.heap.get? c = some o → h1.get? c = some o) →
      wpAny (model P w) B (Builtin.SmallTypes.nextOf (.ref a)) (fun v s2 => (∀ c o, (c = z ∨ c = TO) → h1.get? c = some o → s2.heap.get? c = some o) ∧
        ∀ h3, IsZip h3 z TI TO (rawInt s2.heap.objs.size) → (∃ y1 y2, IsPair h3 TO y1 y2) → IsPair h3 s2.heap.objs.size (.int x tk0) v → h3.objs.size = s2.heap.objs.size + 1 → (∀ c o, c ≠ z → c ≠ TO → s2.heap.get? c = some o → h3.get? c = some o) → Q (.ref s2.heap.objs.size) { s2 with heap := h3 })
        (fun _ _ => False) { s with heap := h1, toks := tk1 }) :
    wpAny (model P w) B (Builtin.«zip.__next__» ⟨[.ref z], []⟩) (fun fin s' => ∃ v, fin = .done (.ret v) ∧ Q v s') E s := by
  show wpAny _ _ (field (.ref z) 2 >>= _) _ _ _
  refine wpAny_bind (wpAny_field hz rfl (x := .bool false) rfl (?_ : wpAny _ _ (field (.ref z) 3 >>= _) _ _ _))
  refine wpAny_bind (wpAny_field hz rfl (x := .ref TI) rfl (wpAny_bind (wpAny_seqItems hTI rfl (?_ : wpAny _ _ (Builtin.SmallTypes.ownedTupleIsFree (.ref z) >>= _) _ _ _))))
  refine wpAny_bind ?_
  unfold Builtin.SmallTypes.ownedTupleIsFree
  refine wpAny_bind (wpAny_field hz rfl (x := .none) rfl (wpAny_pure ?_))
  simp only [if_true]
  refine wpAny_bind (wpAny_rule (wpAny_bind (wpAny_field hz rfl (x := .ref TO) rfl (wpAny_bind (wpAny_setField_rec hz (by simp) fun h0 hz0 hs0 => ?_)))))
  replace hz0 : IsZip h0 z TI TO .ellipsis := hz0
  refine wpAny_bind ?_
  simp only [List.zipIdx_cons, List.zipIdx_nil, List.forIn_cons, List.forIn_nil]
  refine wpAny_bind (wpAny_bind (wpAny_onRaise (?_ : wpAny _ _ (Builtin.SmallTypes.nextOf (.ref i1) >>= _) _ _ _)))
  refine wpAny_bind (nextOf_rng (s := { s with heap := h0 }) (hs0.extBut _ _ n3 hi) hl fun h1 hi1 hs1 => wpAny_pure ?_)
  replace hs1 : Heap.SameBut i1 h0 h1 := hs1
  have hTO1 : IsPair h1 TO u1 u2 := hs1.extBut _ _ n6 (hs0.extBut _ _ n2 hTO)
  refine wpAny_bind (wpAny_seqItems (s := { s with heap := h1, toks := s.toks + 1 }) hTO1 rfl (wpAny_bind (wpAny_updateSeq_pair (s := { s with heap := h1, toks := s.toks + 1 }) hTO1 fun h2 hTO2 hs2 => ?_)))
  replace hTO2 : IsPair h2 TO (.int x s.toks) u2 := hTO2
  replace hs2 : Heap.SameBut TO h1 h2 := hs2
  have hz2 : IsZip h2 z TI TO .ellipsis := hs2.extBut _ _ n2.symm (hs1.extBut _ _ n3.symm hz0)
  have sz2 : h2.objs.size = s.heap.objs.size := by rw [hs2.1, hs1.1, hs0.1]
  refine wpAny_bind (wpAny_letGo (wpAny_pure ?_))
  refine wpAny_bind (wpAny_bind (wpAny_onRaise (?_ : wpAny _ _ (Builtin.SmallTypes.nextOf (.ref a) >>= _) _ _ _)))
  refine wpAny_bind (wpAny_mono (hgen h2 s.toks (s.toks + 1) hz2 hTO2 (hs2.extBut _ _ n6.symm hi1) sz2 fun c o c1 c2 c3 e => hs2.extBut _ _ c2 (hs1.extBut _ _ c3 (hs0.extBut _ _ c1 e))) (fun v s2 hv => wpAny_pure ?_) fun _ _ e => e.elim)
  obtain ⟨hk, hq⟩ := hv
  have hz3 : IsZip s2.heap z TI TO .ellipsis := hk _ _ (.inl rfl) hz2
  have hTO3 : IsPair s2.heap TO (.int x s.toks) u2 := hk _ _ (.inr rfl) hTO2
  refine wpAny_bind (wpAny_seqItems hTO3 rfl (wpAny_bind (wpAny_updateSeq_pair hTO3 fun h4 hTO4 hs4 => ?_)))
  replace hTO4 : IsPair h4 TO (.int x s.toks) v := hTO4
  replace hs4 : Heap.SameBut TO s2.heap h4 := hs4
  refine wpAny_bind (wpAny_letGo (wpAny_pure (wpAny_pure ?_)))
  refine wpAny_bind (wpAny_seqItems (s := { s2 with heap := h4 }) hTO4 rfl (wpAny_bind (wpAny_newTuple ?_)))
  have sz4 : h4.objs.size = s2.heap.objs.size := hs4.1
  have hz4 : IsZip h4 z TI TO .ellipsis := hs4.extBut _ _ n2.symm hz3
  have zlt : z < h4.objs.size := Heap.lt_size hz4
  show wpAny _ _ (Builtin.SmallTypes.ownedTupleHandOut (.ref z) (.ref h4.objs.size) >>= _) _ _ _
  refine wpAny_bind ?_
  unfold Builtin.SmallTypes.ownedTupleHandOut
  have hz5 : IsZip (h4.push { cls := .type "tuple", data := .seq #[.int x s.toks, v] }) z TI TO .ellipsis := Heap.get?_push_of_some _ hz4
  refine wpAny_bind (wpAny_setField_rec hz5 (by simp) fun h6 hz6 hs6 => wpAny_setField_rec (s := { s2 with heap := h6 }) (show IsZip h6 z TI TO (rawInt h4.objs.size) from hz6) (by simp) fun h7 hz7 hs7 => wpAny_pure ⟨_, rfl, ?_⟩)
  replace hz7 : IsZip h7 z TI TO (rawInt h4.objs.size) := hz7
  replace hs7 : Heap.SameBut z h6 h7 := hs7
  replace hs6 : Heap.SameBut z (h4.push { cls := .type "tuple", data := .seq #[.int x s.toks, v] }) h6 := hs6
  have up : ∀ c o, c ≠ z → h4.get? c = some o → h7.get? c = some o := fun c o c1 e => hs7.extBut _ _ c1 (hs6.extBut _ _ c1 (Heap.get?_push_of_some _ e))
  have hT7 : IsPair h7 h4.objs.size (.int x s.toks) v := hs7.extBut _ _ (Nat.ne_of_gt zlt) (hs6.extBut _ _ (Nat.ne_of_gt zlt) (Heap.get?_push_size _ rfl))
  have sz7 : h7.objs.size = h4.objs.size + 1 := by rw [hs7.1, hs6.1, Heap.size_push]
  rw [sz4] at hz7 hT7 sz7
  show Q (.ref h4.objs.size) _
  rw [sz4]
  exact hq h7 hz7 ⟨_, _, up _ _ n2 hTO4⟩ hT7 sz7 fun c o c1 c2 e => up c o c1 (hs4.extBut _ _ c2 e)
theorem zipRG_end {E : Value → Shared → Prop} {z TI TO i1 a : Addr} {x left : Int} {Q : PySem.Fin → Shared → Prop} (hh : B.handled = none) (n3 : i1 ≠ z)
    (hz : IsZip s.heap z TI TO .none) (hTI : IsPair s.heap TI (.ref i1) (.ref a)) (hi : IsRangeIter s.heap i1 x left 1) (hl : left ≤ 0)
    (hE : ∀ h' e, (∀ c o, c ≠ z → c ≠ i1 → s.heap.get? c = some o → h'.get? c = some o) → (∃ o, h'.get? e = some o ∧ o.cls = .type "StopIteration") → E (.ref e) { s with heap := h' }) :
    wpAny (model P w) B (Builtin.«zip.__next__» ⟨[.ref z], []⟩) Q E s := by
  show wpAny _ _ (field (.ref z) 2 >>= _) _ _ _
  refine wpAny_bind (wpAny_field hz rfl (x := .bool false) rfl (?_ : wpAny _ _ (field (.ref z) 3 >>= _) _ _ _))
  refine wpAny_bind (wpAny_field hz rfl (x := .ref TI) rfl (wpAny_bind (wpAny_seqItems hTI rfl (?_ : wpAny _ _ (Builtin.SmallTypes.ownedTupleIsFree (.ref z) >>= _) _ _ _))))
  refine wpAny_bind ?_
  unfold Builtin.SmallTypes.ownedTupleIsFree
  refine wpAny_bind (wpAny_field hz rfl (x := .none) rfl (wpAny_pure ?_))
  simp only [if_true]
  refine wpAny_bind (wpAny_rule (wpAny_bind (wpAny_field hz rfl (x := .ref TO) rfl (wpAny_bind (wpAny_setField_rec hz (by simp) fun h0 hz0 hs0 => ?_)))))
  replace hz0 : IsZip h0 z TI TO .ellipsis := hz0
  refine wpAny_bind ?_
  simp only [List.zipIdx_cons, List.zipIdx_nil, List.forIn_cons, List.forIn_nil]
  refine wpAny_bind (wpAny_bind (wpAny_onRaise (?_ : wpAny _ _ (Builtin.SmallTypes.nextOf (.ref i1) >>= _) _ _ _)))
  refine wpAny_bind (nextOf_rngEnd (s := { s with heap := h0 }) hh (hs0.extBut _ _ n3 hi) hl fun h1 e hs1 he => ?_)
  obtain ⟨oe, hoe, hce⟩ := he
  replace hs1 : Heap.ExtBut i1 h0 h1 := hs1
  have hz1 : IsZip h1 z TI TO .ellipsis := hs1 _ _ n3.symm hz0
  have hez : e ≠ z := fun q => by subst q; rw [hz1] at hoe; cases hoe; simp at hce
  exact wpAny_setField_rec (s := { s with heap := h1 }) hz1 (by simp) fun h3 _ hs3 => hE h3 e (fun c o c1 c3 q => hs3.extBut _ _ c1 (hs1 _ _ c3 (hs0.extBut _ _ c1 q))) ⟨oe, hs3.extBut _ _ hez hoe, hce⟩

/-- zip(range, generator) is made -/
abbrev zrH1 (h : Heap) (o : Obj) : Heap := h.push o
abbrev zrH2 (h : Heap) (o : Obj) (a : Addr) : Heap := (h.push o).push { cls := .type "tuple", data := .seq #[.ref h.objs.size, .ref a] }
abbrev zrH3 (h : Heap) (o : Obj) (a : Addr) : Heap := (zrH2 h o a).push { cls := .type "tuple", data := .seq #[.none, .none] }
abbrev zrH4 (h : Heap) (o : Obj) (a : Addr) : Heap := (zrH3 h o a).push { cls := .type "zip", data := .fields #[.none, .bool false, .bool false, .ref (h.push o).objs.size, .ref (zrH2 h o a).objs.size] }
abbrev rIter (x n : Int) : Obj := { cls := .type "range_iterator", data := .fields #[rawInt x, rawInt n, rawInt 1] }
theorem meets_zipRG {r a g : Nat} {lo hi : Int} {t u v : Tok} (hs : Builtin.Range.small lo hi 1 = true) :
    Meets (Builtin.«zip.__new__» ⟨[.type "zip", .ref r, .ref a], []⟩) (fun _ R s => (IsRange s.heap r lo hi 1 t u v ∧ s.heap.IsGen a g) ∧
      R (.ok (.ret (.ref (zrH3 s.heap (rIter lo (Builtin.Range.rangeSize lo hi 1)) a).objs.size))) { s with heap := zrH4 s.heap (rIter lo (Builtin.Range.rangeSize lo hi 1)) a }) :=
  .of_wp fun prog w A R s h => by
    obtain ⟨hp, gg, d, tk, os⟩ := s; obtain ⟨⟨hr, hg⟩, h⟩ := h
    have hsub := sub_zip
    have q1 : ∀ {A' : Around} {E : Value → Shared → Prop} {Q : Value → Shared → Prop}, Q (.ref hp.objs.size) ⟨hp.push (rIter lo (Builtin.Range.rangeSize lo hi 1)), gg, d, tk, os⟩ → wpAny (model prog w) A' (pyIter (.ref r)) Q E ⟨hp, gg, d, tk, os⟩ :=
      fun q => wpAny_pyIter_range (s := ⟨hp, gg, d, tk, os⟩) hr hs q
    have q2 : ∀ {A' : Around} {E : Value → Shared → Prop} {Q : Value → Shared → Prop}, Q (.ref a) ⟨hp.push (rIter lo (Builtin.Range.rangeSize lo hi 1)), gg, d, tk, os⟩ → wpAny (model prog w) A' (pyIter (.ref a)) Q E ⟨hp.push (rIter lo (Builtin.Range.rangeSize lo hi 1)), gg, d, tk, os⟩ :=
      fun q => wpAny_pyIter_gen (s := ⟨hp.push (rIter lo (Builtin.Range.rangeSize lo hi 1)), gg, d, tk, os⟩) (hg.keeps fun b o e => Heap.get?_push_of_some _ e) q
    wp_walk using q1, q2
    exact ⟨_, rfl, h⟩
theorem call_zipRG {E : Value → Shared → Prop} {r a g : Nat} {lo hi : Int} {t u v : Tok} {Q : Value → Shared → Prop} (hs : Builtin.Range.small lo hi 1 = true) (hr : IsRange s.heap r lo hi 1 t u v) (hg : s.heap.IsGen a g)
    (h : ∀ h', IsZip h' (s.heap.objs.size + 3) (s.heap.objs.size + 1) (s.heap.objs.size + 2) .none → IsPair h' (s.heap.objs.size + 1) (.ref s.heap.objs.size) (.ref a) → IsPair h' (s.heap.objs.size + 2) .none .none →
      IsRangeIter h' s.heap.objs.size lo (Builtin.Range.rangeSize lo hi 1) 1 → h'.objs.size = s.heap.objs.size + 4 → (∀ c o, s.heap.get? c = some o → h'.get? c = some o) → Q (.ref (s.heap.objs.size + 3)) { s with heap := h' }) :
    wpAny (model P w) B (call (.type "zip") [.ref r, .ref a]) Q E s := by
  refine callType_new F.called_zip (by decide) (F.typeCall_zip_2 _ _) (F.newCall_zip_2 _ _) (fun obj => F.args_object_init_3 obj _ _) F.entry_zip_new (meets_zipRG (g := g) (t := t) (u := u) (v := v) hs) ⟨⟨hr, hg⟩, ?_⟩
  generalize ho : rIter lo (Builtin.Range.rangeSize lo hi 1) = o
  have hf : o.isFreed = false := by rw [← ho]; rfl
  have z1 : (zrH1 s.heap o).objs.size = s.heap.objs.size + 1 := Heap.size_push ..
  have z2 : (zrH2 s.heap o a).objs.size = s.heap.objs.size + 2 := by rw [Heap.size_push, z1]
  have z3 : (zrH3 s.heap o a).objs.size = s.heap.objs.size + 3 := by rw [Heap.size_push, z2]
  have z4 : (zrH4 s.heap o a).objs.size = s.heap.objs.size + 4 := by rw [Heap.size_push, z3]
  have g4 : (zrH4 s.heap o a).get? (zrH3 s.heap o a).objs.size = some _ := Heap.get?_push_size _ rfl
  have g3 : (zrH4 s.heap o a).get? (zrH2 s.heap o a).objs.size = some _ := Heap.get?_push_of_some _ (Heap.get?_push_size _ rfl)
  have g2 : (zrH4 s.heap o a).get? (zrH1 s.heap o).objs.size = some _ := Heap.get?_push_of_some _ (Heap.get?_push_of_some _ (Heap.get?_push_size _ rfl))
  have g1 : (zrH4 s.heap o a).get? s.heap.objs.size = some o := Heap.get?_push_of_some _ (Heap.get?_push_of_some _ (Heap.get?_push_of_some _ (Heap.get?_push_size _ hf)))
  show _ ∧ _
  rw [z1, z2, z3] at g4
  rw [z1] at g2
  rw [z2] at g3
  rw [z3]
  subst ho
  exact ⟨⟨_, g4, rfl⟩, h _ g4 g2 g3 g1 z4 fun c q x => Heap.get?_push_of_some _ (Heap.get?_push_of_some _ (Heap.get?_push_of_some _ (Heap.get?_push_of_some _ x)))⟩
end
end GZ


set_option Elab.async false
set_option maxRecDepth 100000
set_option maxHeartbeats 4000000
set_option exponentiation.threshold 3000
/-! digits(..): made, asleep, woken. -/
namespace GZ
open PySem PyProof.Rows L2 GenW PySem.W.X SX Vm Vf

/-- one generator of digits: where and when it was made, of which stream -/
structure DgP where
  P : Program
  w : World
  K : PySem.W.Frag
  mg : Str → Option Value
  base : Heap
  f : Addr
  cd : Value
  A : Around
  outer : List Env
  s0 : Shared
  H0 : Hp
  ex : List Addr
  b : Nat
  p : Addr
  r : Int
  h : List Nat
  q : List Nat
  a : Addr
  g : Nat
abbrev DgP.X (d : DgP) : Cx := zx d.P d.w d.K d.mg d.base nmDig "digits" (defScope sDigits) d.f d.cd d.A d.outer d.s0 d.H0 d.ex
abbrev DgP.L (d : DgP) : Addr := d.s0.heap.objs.size
abbrev DgP.env (d : DgP) : Env := envOfC "digits" (defScope sDigits) d.s0.heap.objs.size d.f d.cd
abbrev DgP.at_ (d : DgP) (j : Nat) : V := dig (ev d.h d.q j)
abbrev DgP.σ0 (d : DgP) : L2.St := L2.start nmDig [.int (d.b : Int), .ref d.p]
theorem DgP.cells (d : DgP) : d.X.env.cells = [] := rfl
theorem no_cell (d : DgP) {x : Str} {c : Addr} (h : d.X.env.cells.lookup x = some c) : False := by
  rw [d.cells] at h
  cases h
/-- asleep ahead of item j, for n more wakings; fp: its own objects -/
structure DgSt (d : DgP) (n j : Nat) (fp : List Addr) (s : Shared) : Prop where
  gen : s.heap.IsGen d.a d.g
  old : d.L < d.a
  yng : ∀ b, d.L ≤ b → d.H0 b = none
  st : (j = 0 ∧ fp = [d.L] ∧ s.gens[d.g]? = some (.fresh (.func (defBody sDigits) d.env)) ∧ Inv d.X [] d.σ0 d.H0 s) ∨
    ∃ (ip : Pins) (σ : L2.St) (k : Resume → Sem PySem.Fin) (l : List Value) (c : Code) (p : Pos) (fs : List Frame), s.gens[d.g]? = some (.suspended k l c p fs false) ∧ fp = d.L :: ip.map (·.1) ∧ Inv d.X ip σ d.H0 s ∧ (∀ q ∈ ip, d.L ≤ q.1) ∧ (∀ q ∈ ip, q.1 ≠ d.a) ∧ Next d.X d.A d.at_ d.H0 n j ip σ k c fs
theorem DgSt.inv {d : DgP} {n j : Nat} {fp : List Addr} {s : Shared} (D : DgSt d n j fp s) : ∃ ip σ, Inv d.X ip σ d.H0 s ∧ fp = d.L :: ip.map (·.1) ∧ (∀ q ∈ ip, d.L ≤ q.1) ∧ ∀ q ∈ ip, q.1 ≠ d.a := by
  rcases D.st with ⟨_, e, _, I⟩ | ⟨ip, σ, k, l, c, p, fs, _, e, I, h1, h2, _⟩
  · exact ⟨[], _, I, e, fun q hq => (by cases hq), fun q hq => (by cases hq)⟩
  · exact ⟨ip, σ, I, e, h1, h2⟩
/-- what stays while it sleeps -/
structure Slum (d : DgP) (fp : List Addr) (s s' : Shared) : Prop where
  os : s'.os = s.os
  bare : AllBare s'.gens
  gen : s'.gens[d.g]? = s.gens[d.g]?
  keep : ∀ b o0 o, d.s0.heap.get? b = some o0 → b ∉ d.ex → b ∉ frs d.outer → d.H0 b = none → s.heap.get? b = some o → s'.heap.get? b = some o
  slot : ∀ b o0 o, d.s0.heap.get? b = some o0 → b ∉ d.ex → b ∈ frs d.outer → s.heap.get? b = some o → ∃ sl, s'.heap.get? b = some { o with slots := sl }
  there : ∀ b o0 o, d.s0.heap.get? b = some o0 → b ∉ d.ex → s.heap.get? b = some o → ∃ o', s'.heap.get? b = some o'
  own : ∀ b o, (b ∈ fp ∨ b = d.a) → s.heap.get? b = some o → s'.heap.get? b = some o
  hok : HOk d.P d.w d.H0 s'.heap
theorem inv_slum {d : DgP} {ip : Pins} {σ : L2.St} {s s' : Shared} (I : Inv d.X ip σ d.H0 s) (S : Slum d (d.L :: ip.map (·.1)) s s') : Inv d.X ip σ d.H0 s' := by
  have un : Un (frs d.outer) d.ex d.H0 d.H0 d.s0.heap s.heap := I.base
  refine ⟨I.ok, S.os.trans I.os, S.bare, ⟨fun b o e n hb hx => ?_, fun b o e n hb hx => ?_, fun _ _ _ n _ => n, fun b o e hx => ?_, fun _ _ e => e, fun _ _ _ e => e, fun b ps e => ⟨#[], by
    have e' : d.H0 b = some (.tbl ps) := e
    rw [e']; simp⟩⟩, ?_, fun x c e => (no_cell d e).elim, I.free, fun x c e => (no_cell d e).elim, fun p hp => ?_, S.hok, I.len⟩
  · exact S.keep b o o e hx hb n (un.keep b o e n hb hx)
  · obtain ⟨sl, e1⟩ := un.slot b o e n hb hx
    obtain ⟨sl', e2⟩ := S.slot b o _ e hx hb e1
    exact ⟨sl', e2⟩
  · obtain ⟨o', e1⟩ := un.there b o e hx
    exact S.there b o o' e hx e1
  · obtain ⟨m, ⟨o, es, ep, ho, r⟩, hl⟩ := I.loc
    refine ⟨m, ⟨o, es, ep, S.own d.L o (.inl List.mem_cons_self) ho, r⟩, fun i x v e1 e2 e3 => ?_⟩
    obtain ⟨u, ru, l⟩ := hl i x v e1 e2 e3
    refine ⟨u, ru, ?_⟩
    rcases l with l | ⟨_, c, e, _⟩
    · exact .inl l
    · exact (no_cell d e).elim
  · obtain ⟨e, n, ne, nf, dd⟩ := I.pin p hp
    exact ⟨S.own p.1 p.2 (.inl (List.mem_cons_of_mem _ (List.mem_map.mpr ⟨p, hp, rfl⟩))) e, n, ne, nf, dd⟩
theorem DgSt.sleep {d : DgP} {n j : Nat} {fp : List Addr} {s s' : Shared} (D : DgSt d n j fp s) (S : Slum d fp s s') : DgSt d n j fp s' := by
  have hg : s'.heap.IsGen d.a d.g := by
    obtain ⟨o, nm, qn, ho, r⟩ := D.gen
    exact ⟨o, nm, qn, S.own d.a o (.inr rfl) ho, r⟩
  refine ⟨hg, D.old, D.yng, ?_⟩
  rcases D.st with ⟨h1, rfl, h3, I⟩ | ⟨ip, σ, k, l, c, p, fs, h1, rfl, I, h3, h4, h5⟩
  · exact .inl ⟨h1, rfl, S.gen.trans h3, inv_slum (ip := []) I S⟩
  · exact .inr ⟨ip, σ, k, l, c, p, fs, S.gen.trans h1, rfl, inv_slum I S, h3, h4, h5⟩

open scoped Classical in
noncomputable def others (d : DgP) (ip : Pins) (s : Shared) : Pins :=
  ((List.range s.heap.objs.size).filterMap fun b => (s.heap.get? b).map fun o => (b, o)).filter fun p => decide (d.H0 p.1 = none ∧ p.1 ≠ d.L ∧ p.1 ∉ frs d.outer ∧ (∀ v, p.2.data ≠ .cell v) ∧ p.1 ∉ ip.map (·.1))
open scoped Classical in
theorem mem_others {d : DgP} {ip : Pins} {s : Shared} {p : Addr × Obj} : p ∈ others d ip s ↔ s.heap.get? p.1 = some p.2 ∧ d.H0 p.1 = none ∧ p.1 ≠ d.L ∧ p.1 ∉ frs d.outer ∧ (∀ v, p.2.data ≠ .cell v) ∧ p.1 ∉ ip.map (·.1) := by
  unfold others
  rw [List.mem_filter]
  constructor
  · rintro ⟨h1, h2⟩
    obtain ⟨b, hb, e⟩ := List.mem_filterMap.mp h1
    have h2 := of_decide_eq_true h2
    cases q : s.heap.get? b with
    | none => rw [q] at e; cases e
    | some o =>
      rw [q] at e
      cases e
      exact ⟨q, h2⟩
  · rintro ⟨h1, h2⟩
    refine ⟨List.mem_filterMap.mpr ⟨p.1, List.mem_range.mpr (Heap.lt_size h1), by rw [h1]; rfl⟩, decide_eq_true h2⟩
/-- what a waking leaves -/
structure Woke (d : DgP) (fp : List Addr) (s s' : Shared) : Prop where
  os : s'.os = s.os
  bare : AllBare s'.gens
  keep : ∀ b o, s.heap.get? b = some o → d.H0 b = none → b ∉ fp → b ∉ frs d.outer → (((∃ o0, d.s0.heap.get? b = some o0) ∧ b ∉ d.ex) ∨ ∀ v, o.data ≠ .cell v) → s'.heap.get? b = some o
  hok : HOk d.P d.w d.H0 s'.heap
  base : Un (frs d.outer) d.ex d.H0 d.H0 d.s0.heap s'.heap
theorem segx_more {M : Model} {A : Around} {c : Code} {t : Sem PySem.Fin} {fs : List Frame} {s : Shared} {P : End → Shared → Prop} (x : SegX M A c t fs s P) : SegX M A c t fs s (fun e s' => s.gens.size ≤ s'.gens.size ∧ P e s') := fun Γ p hc hΓ => by
  obtain ⟨e, s', hr, hq, hp⟩ := x Γ p hc hΓ
  exact ⟨e, s', hr, hq, runs_gsz hr, hp⟩
theorem segx_func {P : Program} {w : World} {A : Around} {s : Shared} {body : List Stmt} {env : Env} {R : End → Shared → Prop} {fs : List Frame}
    (h : ∀ (K : Flow → Sem PySem.Fin) (J : Value → Sem PySem.Fin) (gd : Bool → Bool) (lv : List Value → List Value), gd false = false → SegX (model P w) A (.func body env) ((execs body env).wrap K J gd lv) fs s R) : SegX (model P w) A (.func body env) ((model P w).den (.func body env)) fs s R := by
  have pt : ∀ {k : Unit → Sem PySem.Fin}, SegX (model P w) A (.func body env) (k ()) fs s R → SegX (model P w) A (.func body env) (.point [] k) fs s R := fun {k} h => x_wrap (m := point) (K := k) (J := .raise) (gd := id) (lv := fun _ => []) (wpAny_point h)
  show SegX _ A _ (.point [] fun _ => ((execs body env).onRaise (leaving env)) >>= _) fs s R
  refine pt ?_
  rw [Sem.onRaise_eq_wrap, Sem.bind_eq_wrap', Sem.wrap_wrap]
  exact h _ _ _ _ rfl
theorem setGen_keep {s : Shared} {g : Nat} {x : GenState} : (s.setGen g x).heap = s.heap ∧ (s.setGen g x).os = s.os := ⟨rfl, rfl⟩
/-- WAKING it -/
theorem dg_wake {d : DgP} {fB fS CN CS : Addr} {fdB fdS : FuncData} (GB : FnOk d.P d.w d.K d.mg d.base (L2.CX d.P d.w) 4 fB fdB ["base"] (spReqB CN 2 5)) (cB : Cal d.K d.mg "require_base" fB fdB ["base"])
    (GS : FnOk d.P d.w d.K d.mg d.base (L2.CX d.P d.w) 4 fS fdS ["base", "roots", "stream"] (spReqStream CS)) (cS : Cal d.K d.mg "require_stream" fS fdS ["base", "roots", "stream"]) (nm : Nm d.mg)
    {B : Around} (hA : d.A = B.in1) (hroom : B.depth < recursionLimit) (hr : Room 4 (d.A.deeper d.env)) (b2 : 2 ≤ d.b) (b5 : d.b ≤ 5) (hp : d.H0 d.p = some (.tup [.int d.r, .str (S d.h), .str (S d.q)])) (ok : OkS d.b d.r d.h d.q)
    {n j : Nat} {fp : List Addr} {s : Shared} (D : DgSt d (n + 1) j fp s) {Q : Value → Shared → Prop} {E : Value → Shared → Prop}
    (hQ : ∀ v s' fp', RelV (d.at_ j) v → DgSt d n (j + 1) fp' s' → Woke d fp s s' → (∀ b o, s.heap.get? b = some o → d.H0 b = none → b ∉ fp → b ∉ frs d.outer → (∀ v, o.data ≠ .cell v) → b ∉ fp') → Q v s') :
    wpAny (model d.P d.w) B (Builtin.SmallTypes.nextOf (.ref d.a)) Q E s := by
  have go : ∀ (ip : Pins) (σ : L2.St) (gs : GenState) (c0 : Code) (t0 : Sem PySem.Fin) (fs0 : List Frame), fp = d.L :: ip.map (·.1) → s.gens[d.g]? = some gs → ((gs = .fresh c0 ∧ t0 = (model d.P d.w).den c0 ∧ fs0 = []) ∨ ∃ k0 l0 p0 cl, gs = .suspended k0 l0 c0 p0 fs0 cl ∧ t0 = k0 (.send .none)) →
      Inv d.X ip σ d.H0 s → (∀ q ∈ ip, d.L ≤ q.1) → (∀ q ∈ ip, q.1 ≠ d.a) →
      (∀ (op : Pins) (s1 : Shared) (R : End → Shared → Prop), Inv d.X (ip ++ op) σ d.H0 s1 → Ap ip op → Tgt d.X d.A d.at_ d.H0 n j op R → SegX (model d.P d.w) d.A c0 t0 fs0 s1 R) → wpAny (model d.P d.w) B (Builtin.SmallTypes.nextOf (.ref d.a)) Q E s := by
    intro ip σ gs c0 t0 fs0 efp hgs hs I hip hipa hN
    have I1 : Inv d.X (ip ++ others d ip s) σ d.H0 (s.setGen d.g .running) := by
      refine inv_gens (I.pins_of fun p hp => ?_) rfl (allBare_setGen I.bare rfl)
      rcases List.mem_append.mp hp with z | z
      · exact I.pin p (List.mem_append_right _ z)
      · obtain ⟨z1, z2, z3, z4, z5, z6⟩ := mem_others.mp z
        exact ⟨z1, z2, z3, z4, z5⟩
    have ap : Ap ip (others d ip s) := fun p hp q hq e => by
      obtain ⟨_, _, _, _, _, z6⟩ := mem_others.mp hp
      exact z6 (List.mem_map.mpr ⟨q, hq, e.symm⟩)
    have seg := segx_more (hN (others d ip s) _ (fun e s1 => ∃ (v : Value) (l : List Value) (k' : Resume → Sem PySem.Fin) (c' : Code) (p : Pos) (fs' : List Frame) (ip' : Pins) (σ' : L2.St), e = .susp v false l k' c' p fs' ∧ RelV (d.at_ j) v ∧ Inv d.X (ip' ++ others d ip s) σ' d.H0 s1 ∧ Ap ip' (others d ip s) ∧
      (∀ q ∈ ip', d.L ≤ q.1) ∧ fs'.any Frame.guarded = false ∧ Next d.X d.A d.at_ d.H0 n (j + 1) ip' σ' k' c' fs') I1 ap fun v l k' c' p fs' s' ip' σ' r1 r2 r3 r4 r5 r6 => ⟨v, l, k', c', p, fs', ip', σ', rfl, r1, r2, r3, r4, r5, r6⟩)
    have seg2 : SegX (model d.P d.w) B.in1 c0 t0 fs0 (s.setGen d.g .running) _ := Eq.mp (congrArg (fun A' => SegX (model d.P d.w) A' c0 t0 fs0 (s.setGen d.g .running) _) hA) seg
    refine nextOf_gen I.nolimit hroom D.gen hgs hs (seg2.mono fun e s1 he => ?_)
    obtain ⟨gsz, v, l, k', c', p, fs', ip', σ', rfl, rv, I2, ap2, hip2, gd, nx⟩ := he
    refine ⟨v, l, k', c', p, fs', rfl, ?_⟩
    have eg : (End.susp v false l k' c' p fs').genState = .suspended k' l c' p fs' false := by
      show GenState.suspended k' l c' p fs' (false || fs'.any Frame.guarded) = _
      rw [gd]
      rfl
    rw [eg]
    have glt : d.g < s1.gens.size := by
      rw [setGen_size] at gsz
      exact Nat.lt_of_lt_of_le (some_lt hgs) gsz
    have I3 : Inv d.X ip' σ' d.H0 (s1.setGen d.g (.suspended k' l c' p fs' false)) := inv_gens (inv_re I2 fun p hp => List.mem_append_left _ hp) rfl (allBare_setGen I2.bare rfl)
    have pinned : ∀ b o, s.heap.get? b = some o → d.H0 b = none → b ∉ fp → b ∉ frs d.outer → (∀ v, o.data ≠ .cell v) → (b, o) ∈ others d ip s := fun b o e n1 n2 n3 n4 => by
      rw [efp] at n2
      exact mem_others.mpr ⟨e, n1, fun z => n2 (by rw [show b = d.L from z]; exact List.mem_cons_self), n3, n4, fun z => n2 (List.mem_cons_of_mem _ z)⟩
    have kept : ∀ p ∈ others d ip s, s1.heap.get? p.1 = some p.2 := fun p hp => (I2.pin p (List.mem_append_right _ (List.mem_append_right _ hp))).1
    have hamem : ∃ o, (d.a, o) ∈ others d ip s ∧ ∃ nmv qn, o.cls = .type "generator" ∧ o.data = .fields #[.int d.g 0, nmv, qn] ∧ o.slots = #[] := by
      obtain ⟨o, nmv, qn, ho, hc, hd, hsl⟩ := D.gen
      refine ⟨o, mem_others.mpr ⟨ho, D.yng d.a (Nat.le_of_lt D.old), Nat.ne_of_gt D.old, fun z => ?_, fun v z => (by rw [hd] at z; cases z), fun z => ?_⟩, nmv, qn, hc, hd, hsl⟩
      · obtain ⟨_, of, hof, _⟩ := I.ok.funs.mem z
        exact absurd (Heap.lt_size hof) (Nat.not_lt.mpr (Nat.le_of_lt D.old))
      · obtain ⟨q, hq, e⟩ := List.mem_map.mp z
        exact hipa q hq e
    obtain ⟨oa, ha, nmv, qn, hac, had, hasl⟩ := hamem
    refine hQ v _ (d.L :: ip'.map (·.1)) rv ⟨⟨oa, nmv, qn, kept _ ha, hac, had, hasl⟩, D.old, D.yng, .inr ⟨ip', σ', k', l, c', p, fs', setGen_at glt, rfl, I3, hip2, fun q hq e => ap2 _ ha q hq e.symm, nx⟩⟩ ?_ ?_
    · have un0 : Un (frs d.outer) d.ex d.H0 d.H0 d.s0.heap s.heap := I.base
      have un1 : Un (frs d.outer) d.ex d.H0 d.H0 d.s0.heap s1.heap := I2.base
      refine ⟨I2.os.trans I.os.symm, I3.bare, fun b o e n1 n2 n3 n4 => ?_, I2.hok, un1⟩
      rcases n4 with ⟨⟨o', e'⟩, z2⟩ | z
      · have e1 := un0.keep b o' e' n1 n3 z2
        rw [e] at e1
        cases e1
        exact un1.keep b o e' n1 n3 z2
      · exact kept (b, o) (pinned b o e n1 n2 n3 z)
    · intro b o e n1 n2 n3 n4 z
      have := pinned b o e n1 n2 n3 n4
      rcases List.mem_cons.mp z with z | z
      · rw [efp] at n2
        exact n2 (by rw [z]; exact List.mem_cons_self)
      · obtain ⟨q, hq, e⟩ := List.mem_map.mp z
        exact ap2 _ this q hq e.symm
  rcases D.st with ⟨h1, h2, h3, I⟩ | ⟨ip, σ, k, l, c, p, fs, h1, h2, I, h3, h4, h5⟩
  · subst h1
    refine go [] d.σ0 _ _ _ [] h2 h3 (.inl ⟨rfl, rfl, rfl⟩) I (fun q hq => by cases hq) (fun q hq => by cases hq) fun op s1 R I1 ap tg => ?_
    refine segx_func fun K J gd lv hgd => ?_
    exact (dg_body GB cB GS cS nm hr b2 b5 hp ok n).run d.A _ [] gd lv K J [] ⟨over_func, rfl, rfl, hgd⟩ (fun q hq => by cases hq) (fun _ _ _ _ _ _ _ _ _ z => z.elim) n 0 op R s1 d.σ0 rfl I1 ap ⟨rfl, rfl⟩ tg
  · exact go ip σ _ _ _ fs h2 h1 (.inr ⟨k, l, p, false, rfl, rfl⟩) I h3 h4 fun op s1 R I1 ap tg => h5 op s1 R I1 ap tg
end GZ


set_option Elab.async false
set_option maxRecDepth 100000
set_option maxHeartbeats 4000000
set_option exponentiation.threshold 3000
/-! The call of digits: a generator that has not begun. -/
namespace GZ
open PySem PyProof.Rows L2 GenW PySem.W.X SX Vm Vf
/-- where else may change: none of ours -/
def ExOk0 (base : Heap) (outer : List Env) (s : Shared) (ex : List Addr) : Prop := ∀ b ∈ ex, b ≠ s.heap.objs.size ∧ base.get? b = none ∧ b ∉ frs outer
theorem inv_ex {P : Program} {w : World} {K : PySem.W.Frag} {mg : Str → Option Value} {base : Heap} {f : Addr} {cd : Value} {A : Around} {outer : List Env} {s s1 : Shared} {H : Hp} {ex : List Addr} {σ : L2.St}
    (I : Inv (gcxOf P w K mg base nmDig "digits" (defScope sDigits) f cd A outer s H E0 []) [] σ H s1) (hex : ExOk0 base outer s ex) : Inv (zx P w K mg base nmDig "digits" (defScope sDigits) f cd A outer s H ex) [] σ H s1 := by
  refine ⟨⟨I.ok.mod, I.ok.kind, I.ok.glob, I.ok.blt, I.ok.above, I.ok.inj, I.ok.has, I.ok.cab, I.ok.hd, I.ok.frames, I.ok.stk, fun b hb => ⟨(hex b hb).1, fun x c e => ?_⟩, I.ok.bs, I.ok.bsz, fun b o e hb => ?_, fun b hb => (hex b hb).2.2, I.ok.funs, I.ok.frf⟩,
    I.os, I.bare, I.base.mono (fun _ z => z) (fun b z => by cases z), I.loc, I.cell, I.free, I.freeC, fun p hp => (by cases hp), I.hok, I.len⟩
  · have z : ([] : List (Str × Addr)).lookup x = some c := e
    cases z
  · have z := (hex b hb).2.1
    have e' : base.get? b = some o := e
    rw [z] at e'
    cases e'
/-- what the call gives -/
def DgBorn (P : Program) (w : World) (K : PySem.W.Frag) (mg : Str → Option Value) (base : Heap) (f : Addr) (outer : List Env) (s : Shared) (H : Hp) (b : Nat) (p : Addr) (u : Value) (s' : Shared) : Prop :=
  ∃ (a : Addr) (cd : Value), u = .ref a ∧ s.heap.objs.size < a ∧ a < s'.heap.objs.size ∧ s'.os = s.os ∧ AllBare s'.gens ∧ (∃ x, s'.gens = s.gens.push x) ∧ (∀ b o, s.heap.get? b = some o → s'.heap.get? b = some o) ∧ HOk P w H s'.heap ∧ s'.heap.IsGen a s.gens.size ∧
    ∀ (Aw : Around) (ex : List Addr) (r : Int) (h q : List Nat) (n : Nat), Aw.handled = none → Aw.frames = some outer → ExOk0 base outer s ex → DgSt ⟨P, w, K, mg, base, f, cd, Aw, outer, s, H, ex, b, p, r, h, q, a, s.gens.size⟩ n 0 [s.heap.objs.size] s'
theorem dg_call {P : Program} {w : World} {K : PySem.W.Frag} {mg : Str → Option Value} {base : Heap} {f : Addr} {fd : FuncData} (F : Fun K "digits" "digits" sDigits f fd) {A : Around} {outer : List Env} {s : Shared} {H : Hp} {args : Args} {us : List Value} {b : Nat} {p : Addr}
    (hroom : A.depth < recursionLimit) (e0 : Env0 P w K mg base A outer s H) (hb : BindsTo s fd args ((["base", "stream"] : List Str).zip us)) (r : Vals [.int (b : Int), .ref p] us) :
    codeAny (model P w) A (.call (.ref f) args) (fun r s' => match r with | .ok (.ret u) => DgBorn P w K mg base f outer s H b p u s' | _ => False) s := by
  obtain ⟨oc, od, kV, doc, pm, an, cdv, ct, osl, rfl, lk, hcd⟩ := F.ex
  have S := gsDigits
  have KX : K.In s.heap := e0.mod.kin.keeps fun b o e => (e0.bs b o e).1
  have lim : s.heap.NoLimit := e0.mod.nolimit.keeps fun b o e => (e0.bs b o e).1
  have hkind : ∀ y ∈ (["base", "stream"] : List Str).zip us, (defScope sDigits).names.lookup y.1 = some .local ∨ ((defScope sDigits).names.lookup y.1 = some .cell ∧ ((cellsFrom (s.heap.objs.size + 1) (defScope sDigits).names []).lookup y.1).isSome = true) := fun ⟨n, v⟩ hy => by
    rcases S.par n (List.of_mem_zip hy).1 with q | q
    · exact .inl q
    · exact .inr ⟨q, PySem.W.cellsFrom_some _ _ _ (.inl q)⟩
  refine codeAny_call_generator hroom (KX _ _ lk) rfl S.co S.gen rfl (PySem.W.codeRec_of KX hcd) (hb _ _ _ _ (wpAny_newFunctionEnv_cells S.kind hkind fun env he s1 x => ?_))
  subst he
  have kp1 : ∀ b o, s.heap.get? b = some o → s1.heap.get? b = some o := x.toInCall.keep
  refine ⟨lim.keeps kp1, ?_⟩
  obtain ⟨h1, tk, es1, hk1⟩ := x.done
  have os1 : s1.os = s.os := by rw [es1]
  have gen1 : s1.gens = s.gens := by rw [es1]
  have lt1 : s.heap.objs.size < s1.heap.objs.size := x.toInCall.ns.lt
  have main : ∀ (go : Obj) (nm qn : Value) (tk2 : Nat), go.cls = .type "generator" → go.data = .fields #[.int s1.gens.size 0, nm, qn] → go.slots = #[] → (s1.heap.push go).get? s1.heap.objs.size = some go →
      DgBorn P w K mg base f outer s H b p (.ref s1.heap.objs.size) { s1 with gens := s1.gens.push (.fresh (.func (defBody sDigits) (envOfC "digits" (defScope sDigits) s.heap.objs.size f cdv))), toks := tk2, heap := s1.heap.push go } := by
    intro go nm qn tk2 hgc hgd hgs hgp
    have kp2 : ∀ b o, s.heap.get? b = some o → (s1.heap.push go).get? b = some o := fun b o e => Heap.get?_push_of_some _ (kp1 b o e)
    have hgen : (s1.heap.push go).IsGen s1.heap.objs.size s.gens.size := ⟨go, nm, qn, hgp, hgc, by rw [hgd, gen1], hgs⟩
    have bare2 : AllBare (s1.gens.push (.fresh (.func (defBody sDigits) (envOfC "digits" (defScope sDigits) s.heap.objs.size f cdv)))) := AllBare.push (by rw [gen1]; exact e0.bare) rfl
    have hok2 : HOk P w H (s1.heap.push go) := e0.hok.kept kp2
    refine ⟨s1.heap.objs.size, cdv, rfl, lt1, by show _ < (s1.heap.push go).objs.size; rw [Heap.size_push]; exact Nat.lt_succ_self _, os1, bare2, ⟨_, by rw [gen1]⟩, kp2, hok2, hgen, fun Aw ex r' h q n hh hfr hex => ?_⟩
    have e0w : Env0 P w K mg base Aw outer s H := ⟨hfr, e0.mod, e0.bs, e0.bsz, e0.funs, e0.frf, e0.hok, e0.bare⟩
    have I1 : Inv (gcxOf P w K mg base nmDig "digits" (defScope sDigits) f cdv Aw outer s H E0 []) [] (L2.start nmDig [.int (b : Int), .ref p]) H s1 := inv_startG S hh e0w rfl r x
    have I2 := inv_ex I1 hex
    refine ⟨hgen, lt1, fun b hb => e0.hok.fresh hb, .inl ⟨rfl, rfl, ?_, ?_⟩⟩
    · show (s1.gens.push _)[s.gens.size]? = _
      rw [← gen1]
      exact Array.getElem?_push_size ..
    · exact inv_gens (I2.kept (t' := tk2) fun b o e => Heap.get?_push_of_some _ e) rfl bare2
  exact main _ _ _ _ rfl rfl rfl (Heap.get?_push_size _ rfl)
end GZ


set_option Elab.async false
set_option maxRecDepth 100000
set_option maxHeartbeats 8000000
set_option exponentiation.threshold 3000
/-! [x for turn, x in zip(range(n), digits(base, stream))]: the turns. -/
namespace GZ
open PySem PyProof.Rows L2 GenW PySem.W.X SX Vm Vf

/-- the loop's world: where its own things lie -/
structure Lay where
  z : Addr
  TI : Addr
  TO : Addr
  i1 : Addr
  D : Addr
  C : Addr
/-- the consumer's own addresses -/
def Lay.mine (y : Lay) (b : Addr) : Prop := b = y.z ∨ b = y.TI ∨ b = y.TO ∨ b = y.i1 ∨ b = y.D ∨ b = y.C
structure Lay.Ok (y : Lay) (d : DgP) : Prop where
  lo : ∀ b, y.mine b → d.L < b ∧ b ≠ d.a
  n1 : y.TI ≠ y.z
  n2 : y.TO ≠ y.z
  n3 : y.i1 ≠ y.z
  n4 : y.TI ≠ y.TO
  n5 : y.TI ≠ y.i1
  n6 : y.TO ≠ y.i1
  d1 : y.D ≠ y.z
  d2 : y.D ≠ y.TI
  d3 : y.D ≠ y.TO
  d4 : y.D ≠ y.i1
  c1 : y.C ≠ y.z
  c2 : y.C ≠ y.TI
  c3 : y.C ≠ y.TO
  c4 : y.C ≠ y.i1
  cd : y.C ≠ y.D
/-- ahead of turn i of total -/
structure LI (y : Lay) (d : DgP) (total i : Nat) (s : Shared) : Prop where
  le : i ≤ total
  gen : ∃ fp, DgSt d (total - i) i fp s ∧ ∀ b, y.mine b → b ∉ fp
  z : IsZip s.heap y.z y.TI y.TO .none
  TI : IsPair s.heap y.TI (.ref y.i1) (.ref d.a)
  TO : ∃ u1 u2, IsPair s.heap y.TO u1 u2
  it : IsRangeIter s.heap y.i1 (i : Int) ((total : Int) - i) 1
  D : ∃ acc c, s.heap.get? y.D = some (lstObj acc c) ∧ Vals ((List.range i).map d.at_) acc.toList
  C : ∃ m, s.heap.Ns y.C m
theorem hok_keep {P : Program} {w : World} {H : Hp} {h h' : Heap} (x : HOk P w H h) (k : ∀ b u, H b ≠ none → h.get? b = some u → h'.get? b = some u) : HOk P w H h' := fun a o e =>
  (x a o e).stay (fun b u hb q => k b u (by
    rcases hb with z | z
    · rw [z, e]; exact fun q => by cases q
    · rw [z]; exact fun q => by cases q) q) (fun _ q => q) fun _ _ q => q
/-- everything but the consumer's own is kept: the generator sleeps on -/
theorem slum_of {d : DgP} {n j : Nat} {fp : List Addr} {s s' : Shared} (Dg : DgSt d n j fp s) (hos : s'.os = s.os) (hb : AllBare s'.gens) (hg : s'.gens[d.g]? = s.gens[d.g]?) (M : Addr → Prop) (hM : ∀ b, M b → d.L < b ∧ b ≠ d.a ∧ b ∉ fp)
    (k : ∀ b o, ¬ M b → s.heap.get? b = some o → s'.heap.get? b = some o) : Slum d fp s s' := by
  have lt0 : ∀ b o0, d.s0.heap.get? b = some o0 → ¬ M b := fun b o0 e z => absurd (Heap.lt_size e) (Nat.not_lt.mpr (Nat.le_of_lt (hM b z).1))
  have tr : ∀ b, d.H0 b ≠ none → ¬ M b := fun b n z => n (Dg.yng b (Nat.le_of_lt (hM b z).1))
  obtain ⟨ip, σ, I, _⟩ := Dg.inv
  refine ⟨hos, hb, hg, fun b o0 o e0 _ _ _ e => k b o (lt0 b o0 e0) e, fun b o0 o e0 _ _ e => ⟨o.slots, k b o (lt0 b o0 e0) e⟩, fun b o0 o e0 _ e => ⟨o, k b o (lt0 b o0 e0) e⟩, fun b o hb' e => k b o (fun z => ?_) e, hok_keep I.hok fun b u n e => k b u (tr b n) e⟩
  rcases hb' with z1 | z1
  · exact (hM b z).2.2 z1
  · exact (hM b z).2.1 z1
section
variable {d : DgP} {y : Lay} {A : Around} {env : Env} {ta tb : Str} {pa pb pe tp : Pos} {kk total i : Nat} {s : Shared}
theorem li_turn {fB fS CN CS : Addr} {fdB fdS : FuncData} (GB : FnOk d.P d.w d.K d.mg d.base (L2.CX d.P d.w) 4 fB fdB ["base"] (spReqB CN 2 5)) (cB : Cal d.K d.mg "require_base" fB fdB ["base"])
    (GS : FnOk d.P d.w d.K d.mg d.base (L2.CX d.P d.w) 4 fS fdS ["base", "roots", "stream"] (spReqStream CS)) (cS : Cal d.K d.mg "require_stream" fS fdS ["base", "roots", "stream"]) (nm : Nm d.mg)
    (hA : d.A = A.in1.in1) (hr : Room 7 A) (b2 : 2 ≤ d.b) (b5 : d.b ≤ 5) (hp : d.H0 d.p = some (.tup [.int d.r, .str (S d.h), .str (S d.q)])) (ok : OkS d.b d.r d.h d.q) (hsz : total ≤ 4000)
    (Y : y.Ok d) (hC : env.locals = y.C) (ka : env.kindOf ta = some .local) (kb : env.kindOf tb = some .local) (hk : env.scope.kind = .function) (hx : (env.scope.kind == .class || (env.scope.kind == .module && env.locals != env.globals)) = false)
    (hdbg : (tb == ("__debug__" : Str)) = false) (h : LI y d total i s) (hi : i < total) {E : Value → Shared → Prop} :
    wpAny (model d.P d.w) A (pyNext (.ref y.z)) (fun r s1 => ∃ v, r = some v ∧ wpAny (model d.P d.w) A (letOwnedTupleGo (.Tuple [.Name ta pa, .Name tb pb] kk tp) (.ref y.z) v) (fun _ s2 => wpAny (model d.P d.w) A (assign (.Tuple [.Name ta pa, .Name tb pb] kk tp) env v) (fun _ s3 =>
      wpAny (model d.P d.w) A (eval (.Name tb pe) env) (fun x s4 => wpAny (model d.P d.w) A (call (.builtin "list.append") [.ref y.D, x]) (fun _ s5 => LI y d total (i + 1) s5) (fun _ _ => False) s4) (fun _ _ => False) s3) (fun _ _ => False) s2) (fun _ _ => False) s1) E s := by
  obtain ⟨fp, Dg, hfp⟩ := h.gen
  obtain ⟨u1, u2, hTO⟩ := h.TO
  obtain ⟨acc, cc, hD, hacc⟩ := h.D
  obtain ⟨m, hn⟩ := h.C
  have en : total - i = total - (i + 1) + 1 := by omega
  have hT : s.TypeIs (.ref y.z) "zip" := ⟨_, h.z, rfl⟩
  have mz : y.mine y.z := .inl rfl
  have mI : y.mine y.TI := .inr (.inl rfl)
  have mO : y.mine y.TO := .inr (.inr (.inl rfl))
  have m1 : y.mine y.i1 := .inr (.inr (.inr (.inl rfl)))
  have mD : y.mine y.D := .inr (.inr (.inr (.inr (.inl rfl))))
  have mC : y.mine y.C := .inr (.inr (.inr (.inr (.inr rfl))))
  have hM : ∀ b, y.mine b → d.L < b ∧ b ≠ d.a ∧ b ∉ fp := fun b hb => ⟨(Y.lo b hb).1, (Y.lo b hb).2, hfp b hb⟩
  unfold pyNext
  refine wpAny_bind (wpAny_attempt (wpAny_callSpecial?_slot (name := Str.ofString "__next__") hT F.slot_zip_next (wpAny_call_entry F.slot_zip_next hT F.entry_zip_next (zipRG_item (B := A.in1) Y.n1 Y.n2 Y.n3 Y.n4 Y.n5 Y.n6 h.z h.TI hTO h.it (by omega) fun h1 tk0 tk1 hz1 hTO1 hi1 sz1 k1 => ?_) (F.args_zip_next_1 _))))
  have Dg1 : DgSt d (total - (i + 1) + 1) i fp { s with heap := h1, toks := tk1 } := by
    rw [← en]
    refine Dg.sleep (slum_of Dg rfl (by obtain ⟨_, _, I, _⟩ := Dg.inv; exact I.bare) rfl (fun b => b = y.z ∨ b = y.TO ∨ b = y.i1) (fun b hb => hM b ?_) fun b o hb e => k1 b o (fun z => hb (.inl z)) (fun z => hb (.inr (.inl z))) (fun z => hb (.inr (.inr z))) e)
    rcases hb with z | z | z
    · exact .inl z
    · exact .inr (.inr (.inl z))
    · exact .inr (.inr (.inr (.inl z)))
  refine dg_wake GB cB GS cS nm hA (by have := hr.dp; show A.depth < _; omega) ?_ b2 b5 hp ok Dg1 fun v s2 fp2 rv Dg2 Wk fr => ?_
  · rw [hA]
    exact ((hr.in1 (k := 6)).in1 (k := 5)).deeper _
  have nofr : ∀ b, y.mine b → b ∉ frs d.outer := fun b hb z => by
    obtain ⟨_, _, I, _⟩ := Dg.inv
    obtain ⟨_, o, ho, _⟩ := I.ok.funs.mem z
    exact absurd (Heap.lt_size ho) (Nat.not_lt.mpr (Nat.le_of_lt (Y.lo b hb).1))
  have up : ∀ b o, y.mine b → h1.get? b = some o → (∀ v, o.data ≠ .cell v) → s2.heap.get? b = some o := fun b o hb e nc => Wk.keep b o e (Dg2.yng b (Nat.le_of_lt (Y.lo b hb).1)) (hfp b hb) (nofr b hb) (.inr nc)
  have new2 : ∀ b o, y.mine b → h1.get? b = some o → (∀ v, o.data ≠ .cell v) → b ∉ fp2 := fun b o hb e nc => fr b o e (Dg2.yng b (Nat.le_of_lt (Y.lo b hb).1)) (hfp b hb) (nofr b hb) nc
  have eTI1 : IsPair h1 y.TI (.ref y.i1) (.ref d.a) := k1 _ _ Y.n1 Y.n4 Y.n5 h.TI
  have eD1 : h1.get? y.D = some (lstObj acc cc) := k1 _ _ Y.d1 Y.d3 Y.d4 hD
  obtain ⟨oC, esC, epC, hoC, hdC, hrC⟩ := id hn
  have eC1 : h1.get? y.C = some oC := k1 _ _ Y.c1 Y.c3 Y.c4 hoC
  have ncC : ∀ v, oC.data ≠ .cell v := fun v q => by rw [hdC] at q; cases q
  refine ⟨fun c o hc e => ?_, fun h3 z3 tO3 T3 sz3 k3 => ?_⟩
  · rcases hc with rfl | rfl
    · rw [hz1] at e
      cases e
      exact up _ _ mz hz1 fun v q => nomatch q
    · rw [hTO1] at e
      cases e
      exact up _ _ mO hTO1 fun v q => nomatch q
  · have lt2 : ∀ {b o}, s2.heap.get? b = some o → b ≠ s2.heap.objs.size := fun e => Nat.ne_of_lt (Heap.lt_size e)
    have eTI2 : IsPair s2.heap y.TI (.ref y.i1) (.ref d.a) := up _ _ mI eTI1 fun v q => nomatch q
    have eD2 : s2.heap.get? y.D = some (lstObj acc cc) := up _ _ mD eD1 fun v q => nomatch q
    have eC2 : s2.heap.get? y.C = some oC := up _ _ mC eC1 ncC
    have ei2 : IsRangeIter s2.heap y.i1 ((i : Int) + 1) ((total : Int) - i - 1) 1 := up _ _ m1 hi1 fun v q => nomatch q
    refine wpAny_pure ⟨_, rfl, wpAny_letOwnedTupleGo_zip (s := { s2 with heap := h3 }) z3 fun h4 z4 sb4 => ?_⟩
    have lz : s2.heap.objs.size ≠ y.z := Nat.ne_of_gt (Heap.lt_size (up _ _ mz hz1 fun v q => nomatch q))
    have k4 : ∀ c o, c ≠ y.z → c ≠ y.TO → s2.heap.get? c = some o → h4.get? c = some o := fun c o c1 c2 e => (sb4.2 c c1).trans (k3 c o c1 c2 e)
    have T4 : h4.IsTuple s2.heap.objs.size #[.int (i : Int) tk0, v] := ⟨_, (sb4.2 _ lz).trans T3, rfl, _, rfl⟩
    have n4 : h4.Ns env.locals m := by
      rw [hC]
      exact ⟨oC, esC, epC, k4 _ _ Y.c1 Y.c3 eC2, hdC, hrC⟩
    refine PySem.W.kcp_assign (s := { s2 with heap := h4 }) hr.hd T4 ka kb hx n4 fun h5 tk5 n5 k5 => ?_
    have hdb : (tb == ("__debug__" : Str)) = false := hdbg
    refine wpAny_Name (wpAny_loadName_local hk kb n5 (v := v) (by simp) ?_) hdb
    have k5' : ∀ c o, c ≠ y.z → c ≠ y.TO → c ≠ y.C → s2.heap.get? c = some o → h5.get? c = some o := fun c o c1 c2 c3 e => k5 c o (by rw [hC]; exact c3) (k4 c o c1 c2 e)
    have eD5 : h5.get? y.D = some (lstObj acc cc) := k5' _ _ Y.d1 Y.d3 Y.cd.symm eD2
    have lacc : acc.size = i := by
      have := hacc.length
      simpa using this.symm
    refine append_at (s := { s2 with heap := h5, toks := tk5 }) (hsz := by rw [lacc]; exact Nat.le_trans (Nat.le_of_lt (Nat.lt_of_lt_of_le hi hsz)) (by decide)) eD5 fun h6 sb6 eD6 => ?_
    have k6 : ∀ c o, c ≠ y.z → c ≠ y.TO → c ≠ y.C → c ≠ y.D → s2.heap.get? c = some o → h6.get? c = some o := fun c o c1 c2 c3 c4 e => (sb6.2 c c4).trans (k5' c o c1 c2 c3 e)
    have z5 : IsZip h5 y.z y.TI y.TO .none := k5 _ _ (by rw [hC]; exact Y.c1.symm) z4
    obtain ⟨y1, y2, tO3⟩ := tO3
    have eO5 : IsPair h5 y.TO y1 y2 := k5 _ _ (by rw [hC]; exact Y.c3.symm) ((sb4.2 _ Y.n2).trans tO3)
    have n6 := n5.sameBut sb6 (by rw [hC]; exact Y.cd)
    rw [hC] at n6
    refine ⟨hi, ⟨fp2, Dg2.sleep (slum_of Dg2 rfl Wk.bare rfl (fun b => b = y.z ∨ b = y.TO ∨ b = y.C ∨ b = y.D) (fun b hb => ?_) fun b o hb e => k6 b o (fun z => hb (.inl z)) (fun z => hb (.inr (.inl z))) (fun z => hb (.inr (.inr (.inl z)))) (fun z => hb (.inr (.inr (.inr z)))) e), fun b hb => ?_⟩, (sb6.2 _ Y.d1.symm).trans z5, k6 _ _ Y.n1 Y.n4 Y.c2.symm Y.d2.symm eTI2, ⟨y1, y2, (sb6.2 _ Y.d3.symm).trans eO5⟩, ?_, ⟨_, _, eD6, ?_⟩, ⟨_, n6⟩⟩
    · have mine : y.mine b ∧ b ∉ fp2 := by
        rcases hb with rfl | rfl | rfl | rfl
        · exact ⟨mz, new2 _ _ mz hz1 fun v q => nomatch q⟩
        · exact ⟨mO, new2 _ _ mO hTO1 fun v q => nomatch q⟩
        · exact ⟨mC, new2 _ _ mC eC1 ncC⟩
        · exact ⟨mD, new2 _ _ mD eD1 fun v q => nomatch q⟩
      exact ⟨(Y.lo b mine.1).1, (Y.lo b mine.1).2, mine.2⟩
    · rcases hb with rfl | rfl | rfl | rfl | rfl | rfl
      · exact new2 _ _ mz hz1 fun v q => nomatch q
      · exact new2 _ _ mI eTI1 fun v q => nomatch q
      · exact new2 _ _ mO hTO1 fun v q => nomatch q
      · exact new2 _ _ m1 hi1 fun v q => nomatch q
      · exact new2 _ _ mD eD1 fun v q => nomatch q
      · exact new2 _ _ mC eC1 ncC
    · have e6 := k6 _ _ Y.n3 Y.n6.symm Y.c4.symm Y.d4.symm ei2
      have q1 : ((i : Int) + 1) = ((i + 1 : Nat) : Int) := by omega
      have q2 : (total : Int) - i - 1 = (total : Int) - ((i + 1 : Nat) : Int) := by omega
      rw [q1, q2] at e6
      exact e6
    · rw [List.range_succ, List.map_append, Array.toList_push]
      exact hacc.append (.cons rv .nil)
end
end GZ


set_option Elab.async false
set_option maxRecDepth 100000
set_option maxHeartbeats 8000000
set_option exponentiation.threshold 3000
/-! [x for turn, x in zip(range(n), digits(base, stream))]. -/
namespace GZ
open PySem PyProof.Rows L2 GenW PySem.W.X SX Vm Vf
theorem li_end {d : DgP} {y : Lay} {A : Around} {total : Nat} {s : Shared} (hh : A.handled = none) (Y : y.Ok d) (h : LI y d total total s) {Q : Option Value → Shared → Prop} {E : Value → Shared → Prop}
    (hQ : ∀ s' fp acc c, (∃ m, s'.heap.Ns y.C m) → DgSt d 0 total fp s' → s'.heap.get? y.D = some (lstObj acc c) → Vals ((List.range total).map d.at_) acc.toList → Q none s') : wpAny (model d.P d.w) A (pyNext (.ref y.z)) Q E s := by
  obtain ⟨fp, Dg, hfp⟩ := h.gen
  obtain ⟨acc, cc, hD, hacc⟩ := h.D
  obtain ⟨m, hn⟩ := h.C
  have hT : s.TypeIs (.ref y.z) "zip" := ⟨_, h.z, rfl⟩
  unfold pyNext
  refine wpAny_bind (wpAny_attempt (wpAny_callSpecial?_slot (name := Str.ofString "__next__") hT F.slot_zip_next (wpAny_call_entry F.slot_zip_next hT F.entry_zip_next (zipRG_end (B := A.in1) hh Y.n3 h.z h.TI h.it (by omega) fun h1 e k1 he => ?_) (F.args_zip_next_1 _))))
  obtain ⟨o, ho, hc⟩ := he
  refine wpAny_bind (wpAny_isInstance (T := "StopIteration") (b := true) ⟨o, ho, hc⟩ isSubtype_stop (wpAny_pure ?_))
  rw [Nat.sub_self] at Dg
  refine hQ _ fp acc cc ⟨m, ?_⟩ (Dg.sleep (slum_of Dg rfl (by obtain ⟨_, _, I, _⟩ := Dg.inv; exact I.bare) rfl (fun b => b = y.z ∨ b = y.i1) (fun b hb => ?_) fun b o hb e => k1 b o (fun z => hb (.inl z)) (fun z => hb (.inr z)) e)) (k1 _ _ Y.d1 Y.d4 hD) hacc
  · obtain ⟨oC, esC, epC, hoC, r⟩ := hn
    exact ⟨oC, esC, epC, k1 _ _ Y.c1 Y.c4 hoC, r⟩
  · have mine : y.mine b := by
      rcases hb with z | z
      · exact .inl z
      · exact .inr (.inr (.inr (.inl z)))
    exact ⟨(Y.lo b mine).1, (Y.lo b mine).2, hfp b mine⟩

/-- what is asked ahead of the comprehension -/
def tZip (te : TE) (ta : TA) : TE := fun σ H Q => te σ H fun v H1 => ∃ total : Nat, v = .int (total : Int) ∧ total ≤ 4000 ∧ ta σ H1 fun vs H2 => ∃ (b : Nat) (p : Addr) (r : Int) (h q : List Nat), vs = [.int (b : Int), .ref p] ∧ 2 ≤ b ∧ b ≤ 5 ∧
  H2 p = some (.tup [.int r, .str (S h), .str (S q)]) ∧ OkS b r h q ∧ ∀ D, H2 D = none → Q (.ref D) (upd H2 D (.lst ((List.range total).map fun j => dig (ev h q j))))
section
variable {X : Cx}
theorem lcZ_core {f fB fS CN CS : Addr} {fd fdB fdS : FuncData} (F : Fun X.K "digits" "digits" sDigits f fd) (cF : Cal X.K X.mg "digits" f fd ["base", "stream"])
    (GB : FnOk X.prog X.w X.K X.mg X.base (L2.CX X.prog X.w) 4 fB fdB ["base"] (spReqB CN 2 5)) (cB : Cal X.K X.mg "require_base" fB fdB ["base"])
    (GS : FnOk X.prog X.w X.K X.mg X.base (L2.CX X.prog X.w) 4 fS fdS ["base", "roots", "stream"] (spReqStream CS)) (cS : Cal X.K X.mg "require_stream" fS fdS ["base", "roots", "stream"]) (nm : Nm X.mg)
    {pins : Pins} {s : Shared} {σ : L2.St} {H : Hp} {Q : VK} {use : Option (Value → Sem Unit)} {Qf : Value → Shared → Prop} {ta tb : Str} {pa pb pe tp p1 p2 p3 p4 p5 p6 pos pos' : Pos} {kk : Nat} {e1 e2 e3 : Expr} {te : TE} {t23 : TA} {scope : Scope}
    (hc : X.calm = true) (hr : Room 7 X.A) (I : Inv X pins σ H s) (sk : scope.kind = .function) (sn : ∀ z ∈ scope.names, z.2 = .local) (su : ∀ z ∈ scope.names, scope.names.lookup z.1 = some z.2) (sa : scope.names.lookup ta = some .local) (sb : scope.names.lookup tb = some .local) (hdbg : (tb == ("__debug__" : Str)) = false)
    (gz : Gl X "zip") (mz : X.mg "zip" = none) (gr : Gl X "range") (mr : X.mg "range" = none) (gd : Gl X "digits") (h1 : PE X e1 te) (h23 : PA X [e2, e3] t23)
    (q1 : starEach [Expr.Call (.Name "range" p2) [e1] [] p3, .Call (.Name "digits" p4) [e2, e3] [] p5] X.env = [(false, eval (.Call (.Name "range" p2) [e1] [] p3) X.env), (false, eval (.Call (.Name "digits" p4) [e2, e3] [] p5) X.env)])
    (q2 : starEach [e1] X.env = [(false, eval e1 X.env)]) (q3 : starEach [e2, e3] X.env = (false, eval e2 X.env) :: starEach [e3] X.env) (q4 : (backTo p5 (starEach [e3] X.env)).any (·.1) = false)
    (hs : ∀ x, foldedSetIterable (.Call (.Name "zip" p1) [.Call (.Name "range" p2) [e1] [] p3, .Call (.Name "digits" p4) [e2, e3] [] p5] [] p6) X.env x = pure x) (h : tZip te t23 σ H Q)
    (hRR : ∀ D C s' m H', Inv X pins σ H' s' → Q (.ref D) H' → s'.heap.Ns C m → FpOk X pins H' C → compPost (model X.prog X.w) X.A X.xe use Qf (.ref D) C (.ok .next) s') :
    wpAny (model X.prog X.w) X.A (comprehension (.ListComp (.Name tb pe) [⟨.Tuple [.Name ta pa, .Name tb pb] kk tp, .Call (.Name "zip" p1) [.Call (.Name "range" p2) [e1] [] p3, .Call (.Name "digits" p4) [e2, e3] [] p5] [] p6, [], 0⟩] scope pos) scope X.env pos' (newList []) false
      (eval (.Call (.Name "zip" p1) [.Call (.Name "range" p2) [e1] [] p3, .Call (.Name "digits" p4) [e2, e3] [] p5] [] p6) X.env) use) Qf X.xe s := by
  have hfree : ∀ y ∈ scope.names, y.2 = .free → ∃ c, X.env.cells.lookup y.1 = some c := fun y hy e => by
    rw [sn y hy] at e
    cases e
  refine wpAny_comprehension_free (use := use) rfl hs (closure_ok hfree) sk (fun y hy e => by rw [su y hy, e]) ?_
  refine wpAny_Call_Name_kw (ld_blt I gz mz PyProof.Rows.boot_zip (PyProof.Rows.callWith_type1 ?_ (by rw [q1]; rfl) rfl))
  rw [q1]
  show wpAny _ _ (spliced [(false, eval (.Call (.Name "range" p2) [e1] [] p3) X.env), (false, eval (.Call (.Name "digits" p4) [e2, e3] [] p5) X.env)]) _ _ s
  refine Calls.spliced_cons (wpAny_Call_Name_kw (ld_blt I gr mr boot_range (PyProof.Rows.callWith_type1 ?_ (by rw [q2]; rfl) rfl)))
  rw [q2]
  show wpAny _ _ (spliced [(false, eval e1 X.env)]) _ _ s
  refine Calls.spliced_cons (thn (h1.run pins s σ H _ I h) fun u1 s1 ⟨v1, H1, I1, r1, total, ev1, hsz, h2⟩ => Calls.spliced_nil ?_)
  subst ev1
  obtain ⟨t1, rfl⟩ := r1
  refine call_range_1 ?_
  generalize hro : ({ cls := .type "range", data := .fields #[.int 0 s1.toks, .int (total : Int) t1, .int 1 (s1.toks + 1)] } : Obj) = ro
  generalize hr0 : s1.heap.objs.size = rr
  have hrf : ro.isFreed = false := by rw [← hro]; rfl
  have I2 : Inv X (pins ++ [(rr, ro)]) σ H1 { s1 with heap := s1.heap.push ro, toks := s1.toks + 1 + 1 } := by
    have I2' : Inv X pins σ H1 { s1 with heap := s1.heap.push ro, toks := s1.toks + 1 + 1 } := I1.kept fun b o e => Heap.get?_push_of_some _ e
    have fp := I1.fpOk (Nat.le_of_eq hr0) (I1.hok.fresh (Nat.le_of_eq hr0))
    refine I2'.pins_of fun p hp => ?_
    rcases List.mem_append.mp hp with z | z
    · exact I2'.pin p (List.mem_append_right _ z)
    · rw [List.mem_singleton.mp z]
      refine ⟨?_, fp.1, fp.2.1, fp.2.2.1, fun v q => by rw [← hro] at q; cases q⟩
      rw [← hr0]
      exact Heap.get?_push_size _ hrf
  generalize ({ s1 with heap := s1.heap.push ro, toks := s1.toks + 1 + 1 } : Shared) = s2 at I2 ⊢
  refine Calls.spliced_cons (wpAny_Call_Name_kw (ld_glob I2 gd cF.mg ?_))
  refine PySem.W.callWith_K (h₀ := X.base) I2.ok.mod.kin cF.kp (thn (h23.run p5 (pins ++ [(rr, ro)]) s2 σ H1 _ I2 h2) fun us s3 ⟨vs, H3, I3, r3, b, p, r, h, q, evs, b2, b5, hp, ok, hq⟩ => ⟨I3.kIn, ?_⟩) q3 q4
  subst evs
  have hlen : us.length = (["base", "stream"] : List Str).length := by rw [← r3.length]; rfl
  refine wpAny_call (codeAny_mono (dg_call F hr.depth I3.env0 (by
    have := cF.b s3 us I3.kIn (by rw [List.append_nil]; exact hlen)
    rw [List.append_nil] at this
    exact this) r3) fun rs s4 hb4 => ?_)
  cases rs with
  | error e => exact hb4.elim
  | ok fl =>
    cases fl with
    | next => exact hb4.elim
    | brk => exact hb4.elim
    | cont => exact hb4.elim
    | ret u =>
      obtain ⟨a, cd, rfl, la, la2, os4, bare4, _, kp4, hok4, gen4, born⟩ := hb4
      refine Calls.spliced_nil ?_
      have hrr3 := (I3.pin (rr, ro) (List.mem_append_right _ (List.mem_append_right _ (List.mem_singleton.mpr rfl)))).1
      have hrr4 : IsRange s4.heap rr 0 (total : Int) 1 s1.toks t1 (s1.toks + 1) := by
        have z := kp4 _ _ hrr3
        rw [← hro] at z
        exact z
      refine call_zipRG (small_one (by omega) (by omega) (by omega) (by omega)) hrr4 gen4 fun h5 zz zTI zTO zit zsz k5 => ?_
      have L3 : s3.heap.objs.size < a := la
      have L4 : a < s4.heap.objs.size := la2
      generalize hn4 : s4.heap.objs.size = n4 at zz zTI zTO zit zsz L4 ⊢
      refine wpAny_pyIter_zip (s := { s4 with heap := h5 }) zz (wpAny_newObj_type (newEnv_comp ?_) (by show 0 ≤ sizeLine; decide))
      generalize hol : ({ cls := .type "list", data := .seq ([] : List Value).toArray } : Obj) = ol
      have holf : ol.isFreed = false := by rw [← hol]; rfl
      have sz6 : (h5.push ol).objs.size = n4 + 5 := by rw [Heap.size_push, zsz]
      have eL6 : (h5.push ol).get? (n4 + 4) = some ol := by rw [← zsz]; exact Heap.get?_push_size _ holf
      have Cn : ((h5.push ol).push { cls := .type "dict", data := .dict #[] }).Ns (n4 + 5) fun _ => none := by
        rw [← sz6]
        exact Heap.Ns.new _ _
      have up7 : ∀ c o, h5.get? c = some o → (pushCells ((h5.push ol).push { cls := .type "dict", data := .dict #[] }) scope.names).get? c = some o := fun c o e => pushCells_keeps _ _ _ _ (Heap.get?_push_of_some _ (Heap.get?_push_of_some _ e))
      have eL7 : (pushCells ((h5.push ol).push { cls := .type "dict", data := .dict #[] }) scope.names).get? (n4 + 4) = some ol := pushCells_keeps _ _ _ _ (Heap.get?_push_of_some _ eL6)
      have Cn7 : (pushCells ((h5.push ol).push { cls := .type "dict", data := .dict #[] }) scope.names).Ns (n4 + 5) fun _ => none := Cn.keeps (pushCells_keeps _ _)
      show codeAny _ _ (.compStart _ 0 (.ref (n4 + 3)) (.ref h5.objs.size) (compEnvC scope (cellsFrom ((h5.push ol).objs.size + 1) scope.names (cloFrom X.env.cells scope.names [])) (h5.push ol).objs.size X.env)) (compPost (model X.prog X.w) X.A X.xe use Qf (.ref h5.objs.size) (h5.push ol).objs.size) { s4 with heap := pushCells ((h5.push ol).push { cls := .type "dict", data := .dict #[] }) scope.names }
      rw [sz6, zsz]
      generalize pushCells ((h5.push ol).push { cls := .type "dict", data := .dict #[] }) scope.names = h7 at up7 eL7 Cn7 ⊢
      generalize hce : compEnvC scope (cellsFrom (n4 + 5 + 1) scope.names (cloFrom X.env.cells scope.names [])) (n4 + 5) X.env = ce
      have hh : X.A.in1.in1.handled = none := I3.ok.hd hc
      have hfr : X.A.in1.in1.frames = some X.stack := I3.ok.frames
      let d : DgP := ⟨X.prog, X.w, X.K, X.mg, X.base, f, cd, X.A.in1.in1, X.stack, s3, H3, [], b, p, r, h, q, a, s3.gens.size⟩
      let y : Lay := ⟨n4 + 3, n4 + 1, n4 + 2, n4, n4 + 4, n4 + 5⟩
      have D4 : DgSt d total 0 [d.L] s4 := born _ [] r h q total hh hfr fun b hb => by cases hb
      have D7 : DgSt d total 0 [d.L] { s4 with heap := h7 } := D4.sleep (slum_of D4 rfl bare4 rfl (fun _ => False) (fun _ z => z.elim) fun c o _ e => up7 c o (k5 c o e))
      have Yok : y.Ok d := by
        refine ⟨fun c hc => ?_, ?_, ?_, ?_, ?_, ?_, ?_, ?_, ?_, ?_, ?_, ?_, ?_, ?_, ?_, ?_⟩
        · have z : n4 ≤ c := by
            rcases hc with z | z | z | z | z | z
            · rw [z]; exact Nat.le_add_right _ _
            · rw [z]; exact Nat.le_add_right _ _
            · rw [z]; exact Nat.le_add_right _ _
            · rw [z]; exact Nat.le_refl _
            · rw [z]; exact Nat.le_add_right _ _
            · rw [z]; exact Nat.le_add_right _ _
          exact ⟨Nat.lt_of_lt_of_le (Nat.lt_trans L3 L4) z, Nat.ne_of_gt (Nat.lt_of_lt_of_le L4 z)⟩
        all_goals first
          | exact Nat.ne_of_gt (Nat.add_lt_add_left (by decide) _)
          | exact Nat.ne_of_lt (Nat.add_lt_add_left (by decide) _)
          | exact Nat.ne_of_gt (Nat.lt_add_of_pos_right (by decide))
          | exact Nat.ne_of_lt (Nat.lt_add_of_pos_right (by decide))
      have L0 : LI y d total 0 { s4 with heap := h7 } := by
        refine ⟨Nat.zero_le _, ⟨[d.L], D7, fun c hc z => ?_⟩, up7 _ _ zz, up7 _ _ zTI, ⟨_, _, up7 _ _ zTO⟩, ?_, ⟨#[], 0, ?_, .nil⟩, ⟨_, Cn7⟩⟩
        · have z1 := (Yok.lo c hc).1
          rw [List.mem_singleton.mp z] at z1
          exact absurd z1 (Nat.lt_irrefl _)
        · have e : Builtin.Range.rangeSize 0 (total : Int) 1 = (total : Int) - ((0 : Nat) : Int) := by rw [rangeSize_one]; split <;> omega
          rw [e] at zit
          exact up7 _ _ zit
        · rw [← hol] at eL7
          exact eL7
      have kindA : ce.kindOf ta = some .local := by rw [← hce]; exact lookup_relabel_local sa
      have kindB : ce.kindOf tb = some .local := by rw [← hce]; exact lookup_relabel_local sb
      have kindF : ce.scope.kind = .function := by rw [← hce]; exact sk
      have lock : ce.locals = y.C := by rw [← hce]; rfl
      have kindX : (ce.scope.kind == .class || (ce.scope.kind == .module && ce.locals != ce.globals)) = false := by rw [kindF]; rfl
      have loop : codeAny (model X.prog X.w) X.A (.compLoop (.ListComp (.Name tb pe) [⟨.Tuple [.Name ta pa, .Name tb pb] kk tp, .Call (.Name "zip" p1) [.Call (.Name "range" p2) [e1] [] p3, .Call (.Name "digits" p4) [e2, e3] [] p5] [] p6, [], 0⟩] scope pos) 0 (.ref (n4 + 3)) (.ref (n4 + 4)) ce)
          (compPost (model X.prog X.w) X.A X.xe use Qf (.ref (n4 + 4)) (n4 + 5)) { s4 with heap := h7 } := by
        refine PySem.W.kcp_loop (fun n s => ∃ i, n = total - i ∧ LI y d total i s) (fun n s hi => ?_) total ⟨0, rfl, L0⟩
        obtain ⟨i, rfl, Li⟩ := hi
        by_cases hlt : i < total
        · refine wpAny_mono (li_turn (E := fun _ _ => False) (d := d) (y := y) (pa := pa) (pb := pb) (tp := tp) (kk := kk) (pe := pe) GB cB GS cS nm rfl hr b2 b5 hp ok hsz Yok lock kindA kindB kindF kindX hdbg Li hlt) (fun rs s8 h8 => ?_) fun _ _ e => e.elim
          obtain ⟨v, rfl, h8⟩ := h8
          refine wpAny_mono h8 (fun _ s9 h9 => wpAny_mono h9 (fun _ sA hA => wpAny_mono hA (fun _ sB hB => wpAny_mono hB (fun _ sC hC => ⟨total - (i + 1), by omega, i + 1, rfl, hC⟩) fun _ _ e => e.elim) fun _ _ e => e.elim) fun _ _ e => e.elim) fun _ _ e => e.elim
        · have e : i = total := by have := Li.le; omega
          subst e
          refine li_end (d := d) (y := y) (I3.ok.hd hc) Yok Li fun s8 fp acc c ⟨m, hn⟩ D8 eD8 r8 => ?_
          obtain ⟨ip, σg, Ig, _⟩ := D8.inv
          have lt3 : s3.heap.objs.size < n4 := Nat.lt_trans L3 L4
          have I3' : Inv X pins σ H3 s3 := inv_re I3 fun p hp => List.mem_append_left _ hp
          have hD : s3.heap.objs.size ≤ n4 + 4 := Nat.le_of_lt (Nat.lt_of_lt_of_le lt3 (Nat.le_add_right _ _))
          have hCs : s3.heap.objs.size ≤ n4 + 5 := Nat.le_of_lt (Nat.lt_of_lt_of_le lt3 (Nat.le_add_right _ _))
          have nD : H3 (n4 + 4) = none := I3'.hok.fresh hD
          have nC : upd H3 (n4 + 4) (.lst ((List.range i).map d.at_)) (n4 + 5) = none := by
            rw [upd_ne Yok.cd]
            exact I3'.hok.fresh hCs
          have I8 : Inv X pins σ (upd H3 (n4 + 4) (.lst ((List.range i).map d.at_))) s8 := I3'.drained hD (by rw [List.length_map, List.length_range]; exact Nat.le_trans hsz (by decide)) eD8 r8 ExOk.nil Ig.os Ig.bare Ig.base Ig.hok nD
          exact hRR (n4 + 4) (n4 + 5) s8 m _ I8 (hq _ nD) hn (I3'.fpOk hCs nC)
      exact codeAny_compStart_list loop (wpAny_pyIter_zip (s := { s4 with heap := h7 }) (up7 _ _ zz) loop)
end
end GZ


set_option Elab.async false
set_option maxRecDepth 100000
set_option maxHeartbeats 8000000
set_option exponentiation.threshold 3000
/-! The comprehension as a value, and given to a name. -/
namespace GZ
open PySem PyProof.Rows L2 GenW PySem.W.X SX Vm Vf
section
variable {X : Cx}
theorem pe_lcZ {f fB fS CN CS : Addr} {fd fdB fdS : FuncData} (F : Fun X.K "digits" "digits" sDigits f fd) (cF : Cal X.K X.mg "digits" f fd ["base", "stream"])
    (GB : FnOk X.prog X.w X.K X.mg X.base (L2.CX X.prog X.w) 4 fB fdB ["base"] (spReqB CN 2 5)) (cB : Cal X.K X.mg "require_base" fB fdB ["base"])
    (GS : FnOk X.prog X.w X.K X.mg X.base (L2.CX X.prog X.w) 4 fS fdS ["base", "roots", "stream"] (spReqStream CS)) (cS : Cal X.K X.mg "require_stream" fS fdS ["base", "roots", "stream"]) (nm : Nm X.mg)
    {ta tb : Str} {pa pb pe tp p1 p2 p3 p4 p5 p6 pos : Pos} {kk : Nat} {e1 e2 e3 : Expr} {te : TE} {t23 : TA} {scope : Scope}
    (hc : X.calm = true) (hr : Room 7 X.A) (sk : scope.kind = .function) (sn : ∀ z ∈ scope.names, z.2 = .local) (su : ∀ z ∈ scope.names, scope.names.lookup z.1 = some z.2) (sa : scope.names.lookup ta = some .local) (sb : scope.names.lookup tb = some .local) (hdbg : (tb == ("__debug__" : Str)) = false)
    (gz : Gl X "zip") (mz : X.mg "zip" = none) (gr : Gl X "range") (mr : X.mg "range" = none) (gd : Gl X "digits") (h1 : PE X e1 te) (h23 : PA X [e2, e3] t23)
    (q1 : starEach [Expr.Call (.Name "range" p2) [e1] [] p3, .Call (.Name "digits" p4) [e2, e3] [] p5] X.env = [(false, eval (.Call (.Name "range" p2) [e1] [] p3) X.env), (false, eval (.Call (.Name "digits" p4) [e2, e3] [] p5) X.env)])
    (q2 : starEach [e1] X.env = [(false, eval e1 X.env)]) (q3 : starEach [e2, e3] X.env = (false, eval e2 X.env) :: starEach [e3] X.env) (q4 : (backTo p5 (starEach [e3] X.env)).any (·.1) = false)
    (hs : ∀ x, foldedSetIterable (.Call (.Name "zip" p1) [.Call (.Name "range" p2) [e1] [] p3, .Call (.Name "digits" p4) [e2, e3] [] p5] [] p6) X.env x = pure x) :
    PE X (.ListComp (.Name tb pe) [⟨.Tuple [.Name ta pa, .Name tb pb] kk tp, .Call (.Name "zip" p1) [.Call (.Name "range" p2) [e1] [] p3, .Call (.Name "digits" p4) [e2, e3] [] p5] [] p6, [], 0⟩] scope pos) (tZip te t23) := by
  refine ⟨fun pins s σ H Q I h => ?_⟩
  rw [eval_ListComp]
  refine lcZ_core F cF GB cB GS cS nm hc hr I sk sn su sa sb hdbg gz mz gr mr gd h1 h23 q1 q2 q3 q4 hs h fun D C s' m H' I' q hn ⟨f0, f1, f2, f3, f4, f5⟩ => ⟨m, hn, fun h2 sb => ?_⟩
  exact ⟨.ref D, H', I'.turned (t' := s'.toks) (fun b o hb e => (sb.2 b hb).trans e) f0 f1 f3 f4 f5, rfl, q⟩
theorem ps_setLcZ {f fB fS CN CS : Addr} {fd fdB fdS : FuncData} (F : Fun X.K "digits" "digits" sDigits f fd) (cF : Cal X.K X.mg "digits" f fd ["base", "stream"])
    (GB : FnOk X.prog X.w X.K X.mg X.base (L2.CX X.prog X.w) 4 fB fdB ["base"] (spReqB CN 2 5)) (cB : Cal X.K X.mg "require_base" fB fdB ["base"])
    (GS : FnOk X.prog X.w X.K X.mg X.base (L2.CX X.prog X.w) 4 fS fdS ["base", "roots", "stream"] (spReqStream CS)) (cS : Cal X.K X.mg "require_stream" fS fdS ["base", "roots", "stream"]) (nm : Nm X.mg)
    {i : Nat} {y : Str} {py spos : Pos} {ta tb : Str} {pa pb pe tp p1 p2 p3 p4 p5 p6 pos : Pos} {kk : Nat} {e1 e2 e3 : Expr} {te : TE} {t23 : TA} {scope : Scope}
    (hc : X.calm = true) (hr : Room 7 X.A) (hN : X.N.Nodup) (hy : X.N[i]? = some y) (hyl : X.env.scope.names.lookup y = some .local)
    (hsw : swapsWith (.ListComp (.Name tb pe) [⟨.Tuple [.Name ta pa, .Name tb pb] kk tp, .Call (.Name "zip" p1) [.Call (.Name "range" p2) [e1] [] p3, .Call (.Name "digits" p4) [e2, e3] [] p5] [] p6, [], 0⟩] scope pos) (some (.Name y py)) spos.line X.env = pure true)
    (sk : scope.kind = .function) (sn : ∀ z ∈ scope.names, z.2 = .local) (su : ∀ z ∈ scope.names, scope.names.lookup z.1 = some z.2) (sa : scope.names.lookup ta = some .local) (sb : scope.names.lookup tb = some .local) (hdbg : (tb == ("__debug__" : Str)) = false)
    (gz : Gl X "zip") (mz : X.mg "zip" = none) (gr : Gl X "range") (mr : X.mg "range" = none) (gd : Gl X "digits") (h1 : PE X e1 te) (h23 : PA X [e2, e3] t23)
    (q1 : starEach [Expr.Call (.Name "range" p2) [e1] [] p3, .Call (.Name "digits" p4) [e2, e3] [] p5] X.env = [(false, eval (.Call (.Name "range" p2) [e1] [] p3) X.env), (false, eval (.Call (.Name "digits" p4) [e2, e3] [] p5) X.env)])
    (q2 : starEach [e1] X.env = [(false, eval e1 X.env)]) (q3 : starEach [e2, e3] X.env = (false, eval e2 X.env) :: starEach [e3] X.env) (q4 : (backTo p5 (starEach [e3] X.env)).any (·.1) = false)
    (hs : ∀ x, foldedSetIterable (.Call (.Name "zip" p1) [.Call (.Name "range" p2) [e1] [] p3, .Call (.Name "digits" p4) [e2, e3] [] p5] [] p6) X.env x = pure x) :
    PS X (.Assign [.Name y py] (.ListComp (.Name tb pe) [⟨.Tuple [.Name ta pa, .Name tb pb] kk tp, .Call (.Name "zip" p1) [.Call (.Name "range" p2) [e1] [] p3, .Call (.Name "digits" p4) [e2, e3] [] p5] [] p6, [], 0⟩] scope pos) spos) (tAsg (tZip te t23) (gName i)) := by
  refine ⟨fun pins s σ H D I h => ?_⟩
  rw [exec_Assign_Name_used _ _ _ _ hsw]
  refine wpAny_bind (wpAny_standAt (wpAny_bind ?_))
  have h' : tZip te t23 σ H (fun x H1 => gName i x σ H1 D.nx) := h
  refine wpAny_bind (thn (lcZ_core (use := some (assign (.Name y py) X.env)) (Qf := fun _ s' => SP X pins D .next s') F cF GB cB GS cS nm hc hr I sk sn su sa sb hdbg gz mz gr mr gd h1 h23 q1 q2 q3 q4 hs h' fun L C s' m H' I' q hn ⟨f0, f1, f2, f3, f4, f5⟩ => ?_) fun _ s' hq => wpAny_pure (wpAny_pure hq))
  show wpAny _ _ (assign (.Name y py) X.env (.ref L)) _ _ _
  refine wpAny_assign_Name (store_ok2 (v := V.ref L) I' hN hy (.inl hyl) rfl (fun s2 I2 ⟨a, sb, ha⟩ => ?_) (.inr hyl))
  have haC : C ≠ a := by
    rcases ha with z | z
    · rw [z]; exact f1
    · exact fun e => f4 y a z e.symm
  refine ⟨m, hn.sameBut sb haC, fun h3 sb3 => ?_⟩
  exact ⟨_, H', I2.turned (t' := s2.toks) (fun b o hb e => (sb3.2 b hb).trans e) f0 f1 f3 f4 f5, q⟩
end
end GZ


set_option Elab.async false
set_option maxRecDepth 100000
set_option maxHeartbeats 4000000
set_option exponentiation.threshold 3000
/-! Equal tails: the mathematics. -/
namespace Vf
open PySem L2 SX Vm
/-- behind so many digits they go on alike -/
def Eq2 (h q h2 q2 : List Nat) (m n : Nat) : Prop := ∀ i, ev h q (i + m) = ev h2 q2 (i + n)
def FirstP (h q h2 q2 : List Nat) (m n : Nat) : Prop := Eq2 h q h2 q2 m n ∧ m < h.length + q.length ∧ n < h2.length + q2.length ∧ ∀ m' n', Eq2 h q h2 q2 m' n' → m < m' ∨ (m = m' ∧ n ≤ n')
def Res (h q h2 q2 : List Nat) : Option (Nat × Nat) → Prop
  | some (m, n) => FirstP h q h2 q2 m n
  | none => ∀ m n, ¬ Eq2 h q h2 q2 m n
theorem Res.unique {h q h2 q2 : List Nat} {a b : Option (Nat × Nat)} (x : Res h q h2 q2 a) (y : Res h q h2 q2 b) : a = b := by
  cases a with
  | none =>
    cases b with
    | none => rfl
    | some v => obtain ⟨m, n⟩ := v; exact absurd y.1 (x m n)
  | some u =>
    obtain ⟨m, n⟩ := u
    cases b with
    | none => exact absurd x.1 (y m n)
    | some v =>
      obtain ⟨m', n'⟩ := v
      have h1 := x.2.2.2 m' n' y.1
      have h2 := y.2.2.2 m n x.1
      have e1 : m = m' := by omega
      have e2 : n = n' := by omega
      rw [e1, e2]
theorem Eq2.symm {h q h2 q2 : List Nat} {m n : Nat} (e : Eq2 h q h2 q2 m n) : Eq2 h2 q2 h q n m := fun i => (e i).symm
/-- where a normal form begins to repeat -/
theorem pre_iff {h q : List Nat} (n : Nf (ev h q) h q) (t : Nat) : (∀ i, t ≤ i → ev h q (i + q.length) = ev h q i) ↔ h.length ≤ t := by
  constructor
  · intro z
    rcases Nat.lt_or_ge t h.length with c | c
    · exact absurd (z (h.length - 1) (by omega)) (n.trim (by omega))
    · exact c
  · intro c i hi
    exact n.per (by omega)
theorem eq2_le {h q h2 q2 : List Nat} {m n : Nat} (nf : Nf (ev h q) h q) (nf2 : Nf (ev h2 q2) h2 q2) (e : Eq2 h q h2 q2 m n) : q.length ≤ q2.length := by
  rcases Nat.lt_or_ge q2.length q.length with c | c
  · refine absurd (fun i hi => ?_) (nf.prim q2.length (m + h2.length) nf2.ne c)
    have e1 := e (i - m)
    have e2 := e (i - m + q2.length)
    rw [show i - m + m = i by omega] at e1
    rw [show i - m + q2.length + m = i + q2.length by omega, show i - m + q2.length + n = i - m + n + q2.length by omega, nf2.per (by omega)] at e2
    rw [e2, e1]
  · exact c
theorem eq2_len {h q h2 q2 : List Nat} {m n : Nat} (nf : Nf (ev h q) h q) (nf2 : Nf (ev h2 q2) h2 q2) (e : Eq2 h q h2 q2 m n) : q.length = q2.length := Nat.le_antisymm (eq2_le nf nf2 e) (eq2_le nf2 nf e.symm)
theorem eq2_imp {h q h2 q2 : List Nat} {m n : Nat} (nf : Nf (ev h q) h q) (nf2 : Nf (ev h2 q2) h2 q2) (e : Eq2 h q h2 q2 m n) (k : Nat) (hk : h.length ≤ m + k) : h2.length ≤ n + k := by
  have l := eq2_len nf nf2 e
  refine (pre_iff nf2 (n + k)).mp fun i hi => ?_
  have e1 := e (i - n)
  have e2 := e (i - n + q.length)
  rw [show i - n + n = i by omega] at e1
  rw [show i - n + q.length + n = i + q.length by omega, show i - n + q.length + m = i - n + m + q.length by omega, nf.per (by omega)] at e2
  rw [← l, ← e2, e1]
/-- how many signs at the ends agree -/
structure Com (a b : List Nat) (c : Nat) : Prop where
  la : c ≤ a.length
  lb : c ≤ b.length
  eq : ∀ j, j < c → a.getD (a.length - 1 - j) 0 = b.getD (b.length - 1 - j) 0
  ne : c < a.length → c < b.length → a.getD (a.length - 1 - c) 0 ≠ b.getD (b.length - 1 - c) 0
theorem res_same {h h2 q : List Nat} {c : Nat} (nf : Nf (ev h q) h q) (nf2 : Nf (ev h2 q) h2 q) (k : Com h h2 c) : Res h q h2 q (some (h.length - c, h2.length - c)) := by
  have q0 := nf.ne
  refine ⟨fun i => ?_, by omega, by omega, fun m' n' e => ?_⟩
  · have := k.la
    have := k.lb
    rcases Nat.lt_or_ge i c with z | z
    · have e := k.eq (c - 1 - i) (by omega)
      rw [ev_lt (by omega), ev_lt (by omega), show i + (h.length - c) = h.length - 1 - (c - 1 - i) by omega, show i + (h2.length - c) = h2.length - 1 - (c - 1 - i) by omega]
      exact e
    · rw [ev_ge (by omega), ev_ge (by omega), show i + (h.length - c) - h.length = i - c by omega, show i + (h2.length - c) - h2.length = i - c by omega]
  · have la := k.la
    have lb := k.lb
    rcases Nat.lt_or_ge m' h.length with z | z
    · -- both lie in the heads
      have a1 := eq2_imp nf nf2 e (h.length - m') (by omega)
      have a2 : n' < h2.length := by
        rcases Nat.lt_or_ge n' h2.length with y | y
        · exact y
        · have := eq2_imp nf2 nf e.symm 0 (by omega); omega
      have a3 := eq2_imp nf2 nf e.symm (h2.length - n') (by omega)
      have a4 : h.length - m' = h2.length - n' := by omega
      have a5 : h.length - m' ≤ c := by
        rcases Nat.lt_or_ge c (h.length - m') with y | y
        · refine absurd ?_ (k.ne (by omega) (by omega))
          have e1 := e (h.length - m' - 1 - c)
          rw [ev_lt (by omega), ev_lt (by omega)] at e1
          rw [show h.length - 1 - c = h.length - m' - 1 - c + m' by omega, show h2.length - 1 - c = h.length - m' - 1 - c + n' by omega]
          exact e1
        · exact y
      omega
    · have a1 := eq2_imp nf nf2 e 0 (by omega)
      omega
theorem dbl_get {q : List Nat} {i : Nat} (hi : i < 2 * q.length) : (q ++ q).getD i 0 = g q i := by
  rcases Nat.lt_or_ge i q.length with c | c
  · rw [getD_app c, g_lt c]
  · rw [getD_app2 c]
    have e : i = i - q.length + 1 * q.length := by omega
    conv => rhs; rw [e]
    rw [g_mul, g_lt (by omega)]
/-- a turn of one period is the other one -/
theorem rot_iff {q q2 : List Nat} {k : Nat} (l : q.length = q2.length) (hk : k ≤ q2.length) (h0 : 0 < q.length) : ((q2 ++ q2).drop k).take q.length = q ↔ ∀ i, g q2 (i + k) = g q i := by
  have len : (((q2 ++ q2).drop k).take q.length).length = q.length := by rw [List.length_take, List.length_drop, List.length_append]; omega
  have at_ : ∀ i, i < q.length → (((q2 ++ q2).drop k).take q.length).getD i 0 = g q2 (i + k) := fun i hi => by
    rw [getD_take hi, getD_drop, dbl_get (by omega), Nat.add_comm]
  constructor
  · intro e i
    have e1 := at_ (i % q.length) (Nat.mod_lt _ h0)
    rw [e] at e1
    have e2 : g q i = q.getD (i % q.length) 0 := rfl
    rw [e2, e1]
    show q2.getD ((i + k) % q2.length) 0 = q2.getD ((i % q.length + k) % q2.length) 0
    rw [l, Nat.mod_add_mod]
  · intro e
    refine ext_getD len fun i hi => ?_
    rw [len] at hi
    rw [at_ i hi, e i, g_lt hi]
theorem res_turn {h q h2 q2 : List Nat} {t : Nat} (nf : Nf (ev h q) h q) (nf2 : Nf (ev h2 q2) h2 q2) (l : q.length = q2.length) (ne : q ≠ q2) (ht : t < q2.length) (e : ((q2 ++ q2).drop t).take q.length = q) (first : ∀ s, s < t → ((q2 ++ q2).drop s).take q.length ≠ q) : Res h q h2 q2 (some (h.length, h2.length + t)) := by
  have q0 := nf.ne
  have r := (rot_iff l (by omega) q0).mp e
  refine ⟨fun i => ?_, by omega, by omega, fun m' n' e' => ?_⟩
  · rw [ev_ge (by omega), ev_ge (by omega), show i + h.length - h.length = i by omega, show i + (h2.length + t) - h2.length = i + t by omega, r i]
  · rcases Nat.lt_or_ge m' h.length with z | z
    · exfalso
      have a1 := eq2_imp nf nf2 e' (h.length - m') (by omega)
      have a2 : n' < h2.length := by
        rcases Nat.lt_or_ge n' h2.length with y | y
        · exact y
        · have := eq2_imp nf2 nf e'.symm 0 (by omega); omega
      have a3 := eq2_imp nf2 nf e'.symm (h2.length - n') (by omega)
      have a4 : h.length - m' = h2.length - n' := by omega
      refine ne (ext_getD l fun i hi => ?_)
      have e1 := e' (i + (h.length - m'))
      rw [ev_ge (by omega), ev_ge (by omega), show i + (h.length - m') + m' - h.length = i by omega, show i + (h.length - m') + n' - h2.length = i by omega, g_lt hi, g_lt (by omega)] at e1
      exact e1
    · have a1 := eq2_imp nf nf2 e' 0 (by omega)
      rcases Nat.lt_or_ge h.length m' with y | y
      · exact .inl y
      · refine .inr ⟨by omega, ?_⟩
        rcases Nat.lt_or_ge (n' - h2.length) t with x | x
        · refine absurd ((rot_iff l (by omega) q0).mpr fun i => ?_) (first (n' - h2.length) x)
          have e1 := e' i
          rw [ev_ge (by omega), ev_ge (by omega), show i + m' - h.length = i by omega, show i + n' - h2.length = i + (n' - h2.length) by omega] at e1
          exact e1.symm
        · omega
theorem res_none {h q h2 q2 : List Nat} (nf : Nf (ev h q) h q) (nf2 : Nf (ev h2 q2) h2 q2) (no : q.length ≠ q2.length ∨ ∀ s, s ≤ q2.length → ((q2 ++ q2).drop s).take q.length ≠ q) : Res h q h2 q2 none := by
  intro m n e
  have l := eq2_len nf nf2 e
  have q0 := nf.ne
  rcases no with z | z
  · exact z l
  · -- so far on that both repeat
    have big : m + h2.length ≤ (m + h2.length) * q.length := Nat.le_mul_of_pos_right _ q0
    generalize hJ : m + h2.length = J at big
    have key : ∀ i, g q2 (i + (n + (h.length + J * q.length - m) - h2.length)) = g q i := fun i => by
      have e1 := e (i + (h.length + J * q.length - m))
      rw [show i + (h.length + J * q.length - m) + m = i + h.length + J * q.length by omega, show i + (h.length + J * q.length - m) + n = i + (n + (h.length + J * q.length - m) - h2.length) + h2.length by omega, ev_ge (by omega), ev_ge (by omega), show i + h.length + J * q.length - h.length = i + J * q.length by omega, g_mul, Nat.add_sub_cancel] at e1
      exact e1.symm
    generalize n + (h.length + J * q.length - m) - h2.length = r at key
    refine z (r % q2.length) (Nat.le_of_lt (Nat.mod_lt _ nf2.ne)) ((rot_iff l (Nat.le_of_lt (Nat.mod_lt _ nf2.ne)) q0).mpr fun i => ?_)
    rw [← key i]
    show q2.getD ((i + r % q2.length) % q2.length) 0 = q2.getD ((i + r) % q2.length) 0
    rw [Nat.add_mod_mod]
end Vf


set_option Elab.async false
set_option maxRecDepth 100000
set_option maxHeartbeats 8000000
set_option exponentiation.threshold 3000
/-! Equal tails: the two functions of the program. -/
namespace Vf
open PySem L2 SX Vm
theorem find_rot (q q2 : List Nat) : (Txt.find (S (q2 ++ q2)) (S q) = -1 ∧ ∀ s, s + q.length ≤ q2.length + q2.length → ((q2 ++ q2).drop s).take q.length ≠ q) ∨
    ∃ k : Nat, Txt.find (S (q2 ++ q2)) (S q) = (k : Int) ∧ k + q.length ≤ q2.length + q2.length ∧ ((q2 ++ q2).drop k).take q.length = q ∧ ∀ s, s < k → ((q2 ++ q2).drop s).take q.length ≠ q := by
  have key : ∀ i, (PySem.StrLaws.At (S (q2 ++ q2)) (S q) (S (q2 ++ q2)).length i ↔ i + q.length ≤ q2.length + q2.length ∧ ((q2 ++ q2).drop i).take q.length = q) := fun i => by
    unfold PySem.StrLaws.At
    rw [PySem.StrLaws.subAt_eq, S_len, S_len, List.length_append]
    constructor
    · rintro ⟨h1, h2⟩
      exact ⟨h1, beq_iff_eq.mp h2⟩
    · rintro ⟨h1, h2⟩
      exact ⟨h1, beq_iff_eq.mpr h2⟩
  rcases PySem.StrLaws.occ_head (S (q2 ++ q2)) (S q) 1 (Nat.le_refl 1) with ⟨h0, hn⟩ | ⟨k, r, h0, hk, hn⟩
  · refine .inl ⟨by unfold Txt.find; rw [h0], fun s hs e => hn s ((key s).mpr ⟨hs, e⟩)⟩
  · have hk' := (key k).mp hk
    refine .inr ⟨k, by unfold Txt.find; rw [h0], hk'.1, hk'.2, fun s hs e => hn s hs ((key s).mpr ⟨by omega, e⟩)⟩
def spComEnd : Sp := fun vs H Q _ => ∃ a b : List Nat, vs = [.str (S a), .str (S b)] ∧ a.length ≤ 9000 ∧ b.length ≤ 9000 ∧ ∀ c : Nat, Com a b c → Q (.int (c : Int)) H
def spTailShift (K : PySem.W.Frag) (CN CS : Addr) : Sp := fun vs H Q E => ∃ (b v x : V), vs = [b, v, x] ∧ TwoS K CN CS b v x H E fun _ _ _ h q _ h2 q2 =>
  (Res h q h2 q2 none → Q .non H) ∧ ∀ m n : Nat, Res h q h2 q2 (some (m, n)) → ∀ t, H t = none → Q (.ref t) (upd H t (.tup [.int (m : Int), .int (n : Int)]))
section
variable {P : Program} {w : World} {K : PySem.W.Frag} {mg : Str → Option Value} {base : Heap}
theorem scComEnd : FnScope ["one", "other", "size"] ["one", "other"] (defScope sComEnd) := ⟨rfl, rfl, rfl, by decide +kernel, rfl, by decide +kernel, by decide +kernel⟩
theorem ok_comend {f : Addr} {fd : FuncData} (F : Fun K "common_end" "common_end" sComEnd f fd) (ml : mg "len" = none) (mn : mg "min" = none) : FnOk P w K mg base CX0 1 f fd ["one", "other"] spComEnd := by
  refine F.ok scComEnd (fun vs H Q E h => ?_) (fun cdv A outer s H vs Q E hr h => ?_)
  · obtain ⟨a, b, rfl, _⟩ := h
    rfl
  · obtain ⟨a, b, rfl, la, lb, k⟩ := h
    have nd := scComEnd.nd
    have sa := small_lenG la
    have sb := small_lenG lb
    refine ⟨_, pss_cons (ps_set (i := 2) nd rfl (.inl rfl) pe_int)
      (pss_cons (ps_while PassesOwn.never ((pw_and (pt_cmpR op_lt (pv 2) (pe_callB (call_min2 rfl) (by rfl) mn PyProof.Rows.boot_min (pa_cons (pe_callB call_len_str (by rfl) ml boot_len (pa_cons (pv 0) pa_nil)) (pa_cons (pe_callB call_len_str (by rfl) ml boot_len (pa_cons (pv 1) pa_nil)) pa_nil))) (nomark _))
          (pw_and1 (pt_cmpR op_eq (pe_ix ix_str (pv 0) (pe_op op_sub (pe_un un_neg pe_int) (pv 2)) (fun _ _ => rfl)) (pe_ix ix_str (pv 1) (pe_op op_sub (pe_un un_neg pe_int) (pv 2)) (fun _ _ => rfl)) (nomark _)))).pt)
        (pss_one (ps_aug (i := 2) nd rfl (.inl rfl) pe_int ip_add)))
      (pss_one (ps_ret (pv 2)))), ?_⟩
    refine ⟨fun m σ H2 => ∃ t : Nat, m = a.length - t ∧ σ = [some (.str (S a)), some (.str (S b)), some (.int (t : Int))] ∧ H2 = H ∧ t ≤ a.length ∧ t ≤ b.length ∧ ∀ j, j < t → a.getD (a.length - 1 - j) 0 = b.getD (b.length - 1 - j) 0, ⟨a.length, 0, rfl, rfl, rfl, Nat.zero_le _, Nat.zero_le _, fun j hj => absurd hj (Nat.not_lt_zero _)⟩, ?_⟩
    rintro m σ H2 ⟨t, rfl, rfl, rfl, ta, tb, ag⟩
    refine ⟨_, rfl, _, rfl, _, rfl, sa, _, rfl, _, rfl, sb, _, _, rfl, ?_⟩
    have mn : (if ((S b).length : Int) < ((S a).length : Int) then ((S b).length : Int) else ((S a).length : Int)) = ((min a.length b.length : Nat) : Int) := by
      rw [S_len, S_len]
      split <;> omega
    refine ⟨_, _, rfl, rfl, _, rfl, ?_⟩
    rw [mn]
    refine ite2 (fun c => ?_) (fun c => ?_)
    · have c' : (t : Int) < ((min a.length b.length : Nat) : Int) := of_decide_eq_true c
      have ha : t < a.length := by omega
      have hb : t < b.length := by omega
      refine ⟨_, rfl, _, rfl, _, rfl, _, _, rfl, rfl, _, _, _, rfl, rfl, sa, at_back ha (by show -1 - (t : Int) = _; rfl), ?_⟩
      refine ⟨_, rfl, _, rfl, _, rfl, _, _, rfl, rfl, _, _, _, rfl, rfl, sb, at_back hb (by show -1 - (t : Int) = _; rfl), ?_⟩
      refine ⟨rfl, _, rfl, ?_⟩
      refine ite2 (fun c => ?_) (fun c => ?_)
      · have e1 := one_eq.mp (of_decide_eq_true c)
        refine ⟨fun σ' H' => ∃ m', m' < a.length - t ∧ _, fun σ' H' z => z, _, rfl, _, _, rfl, rfl, a.length - (t + 1), by omega, t + 1, rfl, rfl, rfl, ha, hb, ?_⟩
        intro j hj
        rcases Nat.lt_or_ge j t with hlt | hge
        · exact ag j hlt
        · obtain rfl : j = t := by omega
          exact e1
      · exact ⟨_, rfl, k t ⟨ta, tb, ag, fun _ _ z => c (decide_eq_true (one_eq.mpr z))⟩⟩
    · refine ⟨_, rfl, k t ⟨ta, tb, ag, fun x y => absurd (decide_eq_true ?_) c⟩⟩
      show (t : Int) < ((min a.length b.length : Nat) : Int)
      omega
theorem scTailShift : FnScope ["base", "first", "second", "_", "common", "head", "other_head", "other_period", "period", "turn"] ["base", "first", "second"] (defScope sTailShift) := ⟨rfl, rfl, rfl, by decide +kernel, rfl, by decide +kernel, by decide +kernel⟩
theorem ok_tailshift {f fR fC CN CS : Addr} {fd fdR fdC : FuncData} (F : Fun K "tail_shift" "tail_shift" sTailShift f fd) (GR : FnOk P w K mg base (L2.CX P w) 5 fR fdR ["base", "first", "second"] (spReqTwo K CN CS)) (cR : Cal K mg "require_two_streams" fR fdR ["base", "first", "second"])
    (GC : FnOk P w K mg base CX0 1 fC fdC ["one", "other"] spComEnd) (cC : Cal K mg "common_end" fC fdC ["one", "other"]) (ml : mg "len" = none) : FnOk P w K mg base (L2.CX P w) 6 f fd ["base", "first", "second"] (spTailShift K CN CS) := by
  refine F.okX scTailShift (fun vs H Q E h => ?_) (fun cdv A outer s H vs Q E hr h => ?_)
  · obtain ⟨b, v, x, rfl, _⟩ := h
    rfl
  · obtain ⟨b, v, x, rfl, tb, pb, k1, k2⟩ := h
    have nd := scTailShift.nd
    refine ⟨_, pss_cons (ps_expr (pe_call GR hr rfl cR.mg cR.kp cR.b .nil (passes_call (takes_of rfl rfl rfl rfl) (fun _ _ _ _ h => h)) (pa_cons (pv 0) (pa_cons (pv 1) (pa_cons (pv 2) pa_nil)))))
      (pss_cons (ps_asg (pv 1) (pg_tup rfl (pgs_cons (pg_name (i := 3) nd rfl (.inl rfl)) (pgs_cons (pg_name (i := 5) nd rfl (.inl rfl)) (pgs_cons (pg_name (i := 8) nd rfl (.inl rfl)) pgs_nil)))))
      (pss_cons (ps_asg (pv 2) (pg_tup rfl (pgs_cons (pg_name (i := 3) nd rfl (.inl rfl)) (pgs_cons (pg_name (i := 6) nd rfl (.inl rfl)) (pgs_cons (pg_name (i := 7) nd rfl (.inl rfl)) pgs_nil)))))
      (pss_cons (ps_if (pt_cmpR op_eq (pv 8) (pv 7) (nomark _))
        (pss_cons (ps_set (i := 4) nd rfl (.inl rfl) (pe_call GC (hr.mono (by decide)) rfl cC.mg cC.kp cC.b .nil pass0 (pa_cons (pv 5) (pa_cons (pv 6) pa_nil))))
        (pss_one (ps_ret (pe_tup (pa_cons (pe_op op_sub (pe_callB call_len_str (by rfl) ml boot_len (pa_cons (pv 5) pa_nil)) (pv 4)) (pa_cons (pe_op op_sub (pe_callB call_len_str (by rfl) ml boot_len (pa_cons (pv 6) pa_nil)) (pv 4)) pa_nil)))))) pss_nil)
      (pss_cons (ps_set (i := 9) nd rfl (.inl rfl) (pe_bm PySem.F.plainAttrs_str PySem.F.slot_str_find PySem.F.type_str_find mt_find (pe_op op_add_str (pv 7) (pv 7)) (pa_cons (pv 8) pa_nil)))
      (pss_cons (ps_if (PW.pt (pw_or (pt_cmpR op_ne (pe_callB call_len_str (by rfl) ml boot_len (pa_cons (pv 8) pa_nil)) (pe_callB call_len_str (by rfl) ml boot_len (pa_cons (pv 7) pa_nil)) (nomark _)) (pw_or1 (pt_cmpR op_lt (pv 9) pe_int (nomark _)))))
        (pss_one (ps_ret pe_non)) pss_nil)
      (pss_one (ps_ret (pe_tup (pa_cons (pe_callB call_len_str (by rfl) ml boot_len (pa_cons (pv 5) pa_nil)) (pa_cons (pe_op op_add (pe_callB call_len_str (by rfl) ml boot_len (pa_cons (pv 6) pa_nil)) (pv 9)) pa_nil)))))))))), ?_⟩
    refine ⟨_, rfl, _, rfl, _, rfl, _, _, _, rfl, tb, pb, k1, fun n e n2 n5 => ?_⟩
    obtain ⟨res, sf, k3, k4⟩ := k2 n e n2 n5
    refine ⟨res, sf, k3, fun z => ?_⟩
    obtain ⟨res2, sf2, k5, k6⟩ := k4 z
    refine ⟨res2, sf2, k5, fun z2 => ?_⟩
    obtain ⟨p, p2, r, h, q, r2, h2, q2, rfl, rfl, T, kn, ks⟩ := k6 z2
    refine ⟨p, p2, r, h, q, r2, h2, q2, rfl, rfl, T, ?_⟩
    have sh := small_lenG (l := h) (by have := T.l1; omega)
    have sh2 := small_lenG (l := h2) (by have := T.l2; omega)
    have sq := small_lenG (l := q) (by have := T.m1; omega)
    have sq2 := small_lenG (l := q2) (by have := T.m2; omega)
    have q0 := T.n1.ne
    have q20 := T.n2.ne
    refine ⟨_, rfl, p, _, rfl, T.a, rfl, _, _, rfl, _, _, rfl, _, _, rfl, rfl, ?_⟩
    refine ⟨_, rfl, p2, _, rfl, T.b, rfl, _, _, rfl, _, _, rfl, _, _, rfl, rfl, ?_⟩
    refine ⟨_, rfl, _, rfl, rfl, _, rfl, ?_⟩
    refine ite2 (fun c => ?_) (fun c => ?_)
    · have e := str_eq.mp (of_decide_eq_true c)
      subst e
      refine ⟨_, rfl, _, rfl, h, h2, rfl, by have := T.l1; omega, by have := T.l2; omega, fun c hc => ?_⟩
      have la := hc.la
      have lb := hc.lb
      refine ⟨_, rfl, _, rfl, sh, _, rfl, _, _, rfl, rfl, _, rfl, _, rfl, sh2, _, rfl, _, _, rfl, rfl, (by show 2 ≤ sizeLine; decide), fun t ht => ?_⟩
      have ks' := ks _ _ (res_same T.n1 T.n2 hc) t ht
      show Q (.ref t) (upd H t (.tup [.int (((S h).length : Int) - (c : Int)), .int (((S h2).length : Int) - (c : Int))]))
      rw [S_len, S_len, show ((h.length : Int) - (c : Int)) = ((h.length - c : Nat) : Int) by omega, show ((h2.length : Int) - (c : Int)) = ((h2.length - c : Nat) : Int) by omega]
      exact ks'
    · have ne : q ≠ q2 := fun z => c (decide_eq_true (str_eq.mpr z))
      refine ⟨_, rfl, _, rfl, _, _, rfl, rfl, ?_, rfl, _, rfl, _, _, rfl, rfl, ?_⟩
      · rw [S_len]
        exact Nat.le_trans (show q2.length + q2.length ≤ 2000 by have := T.m2; omega) (by decide)
      rw [S_cat]
      refine ⟨_, rfl, _, rfl, sq, _, rfl, _, rfl, sq2, rfl, _, rfl, ?_⟩
      rw [S_len, S_len]
      by_cases l : q.length = q2.length
      · refine iteFB (by rw [l, decide_eq_true rfl]; rfl) ?_
        rcases find_rot q q2 with ⟨e, no⟩ | ⟨t, e, tl, ht, first⟩
        · rw [e]
          refine ⟨_, rfl, _, _, rfl, rfl, _, rfl, ?_⟩
          refine iteTB (by decide) ?_
          exact kn (res_none T.n1 T.n2 (.inr fun s hs => no s (by omega)))
        · rw [e]
          refine ⟨_, rfl, _, _, rfl, rfl, _, rfl, ?_⟩
          refine iteFB (decide_eq_false (by omega)) ?_
          have t1 : t < q2.length := by
            rcases Nat.lt_or_ge t q2.length with z | z
            · exact z
            · have e0 : t = q2.length := by omega
              refine absurd ?_ (first 0 (by omega))
              have r := (rot_iff l (by omega) q0).mp ht
              refine (rot_iff l (Nat.zero_le _) q0).mpr fun i => ?_
              rw [← r i, e0, g_add]
              rfl
          refine ⟨_, rfl, _, rfl, sh, _, rfl, _, rfl, sh2, _, rfl, _, _, rfl, rfl, (by show 2 ≤ sizeLine; decide), fun u hu => ?_⟩
          have ks' := ks _ _ (res_turn T.n1 T.n2 l ne t1 ht first) u hu
          show Q (.ref u) (upd H u (.tup [.int ((S h).length : Int), .int (((S h2).length : Int) + (t : Int))]))
          rw [S_len, S_len]
          exact ks'
      · refine iteTB (by rw [decide_eq_false (fun z => l (by have := V.int.inj z; omega))]; rfl) ?_
        exact kn (res_none T.n1 T.n2 (.inl l))
end
end Vf


set_option Elab.async false
set_option maxRecDepth 100000
set_option maxHeartbeats 8000000
set_option exponentiation.threshold 3000
/-! Equal tails: the two functions of the law that look for them. -/
namespace Vf
open PySem L2 SX Vm
/-- a text and a text that is repeated -/
abbrev Td : Type := List Nat × List Nat
abbrev tdO (d : Td) : HO := .tup [.int 0, .str (S d.1), .str (S d.2)]
abbrev tdD (d : Td) : PyData := .tuple [.int 0, .str (S d.1), .str (S d.2)]
def Small (d : Td) : Prop := (∀ c ∈ d.1, c < 100) ∧ ∀ c ∈ d.2, c < 100
def spLTail (K : PySem.W.Frag) : Sp := fun vs H Q _ => ∃ (p : Addr) (r : V) (h q : List Nat) (many : Nat), vs = [.ref p, .int (many : Int)] ∧ SqT K H p [r, .str (S h), .str (S q)] ∧ 0 < q.length ∧ q.length ≤ 100 ∧ h.length ≤ 200 ∧ many ≤ 200 ∧
  ∀ (d : Td) (p' : Addr) (H' : Hp), Nf (fun i => ev h q (i + many)) d.1 d.2 → d.1.length ≤ h.length + q.length → d.2.length ≤ q.length → Sub d.1 (h ++ q) → Sub d.2 q → Same H H' → H p' = none → H' p' = some (tdO d) → Q (.ref p') H'
theorem ev_cut {h q : List Nat} {m : Nat} (hm : m ≤ h.length) (i : Nat) : ev (h.drop m) q i = ev h q (i + m) := by
  rcases Nat.lt_or_ge (i + m) h.length with c | c
  · rw [ev_lt (by rw [List.length_drop]; omega), ev_lt c, getD_drop, Nat.add_comm]
  · rw [ev_ge (by rw [List.length_drop]; omega), ev_ge c, List.length_drop]
    congr 1
    omega
theorem eq2_down {h q h2 q2 : List Nat} {m : Nat} (q0 : 0 < q2.length) : ∀ k n, n ≤ k → Eq2 h q h2 q2 m n → ∃ n', n' ≤ n ∧ n' < h2.length + q2.length ∧ Eq2 h q h2 q2 m n'
  | 0, n, hk, e => ⟨n, Nat.le_refl _, by omega, e⟩
  | k + 1, n, hk, e => by
    rcases Nat.lt_or_ge n (h2.length + q2.length) with c | c
    · exact ⟨n, Nat.le_refl _, c, e⟩
    · obtain ⟨n', l, c', e'⟩ := eq2_down (h := h) (q := q) (m := m) q0 k (n - q2.length) (by omega) fun i => by
        rw [e i]
        have z : i + n = i + (n - q2.length) + q2.length := by omega
        rw [z, ev_step (by omega)]
      exact ⟨n', by omega, c', e'⟩
theorem td_eqv {a b : Td} : PyData.eqv (tdD a) (tdD b) = decide (a = b) := by
  obtain ⟨h, q⟩ := a
  obtain ⟨h2, q2⟩ := b
  have z := eqv3 (r := 0) (h := h) (q := q) (h' := h2) (q' := q2)
  refine z.trans ?_
  by_cases c : h = h2 ∧ q = q2
  · rw [decide_eq_true c, decide_eq_true (by rw [c.1, c.2])]
  · rw [decide_eq_false c, decide_eq_false fun z => c ⟨congrArg Prod.fst z, congrArg Prod.snd z⟩]
theorem td_iff {h q h2 q2 : List Nat} {m n : Nat} {a b : Td} (x : Nf (fun i => ev h q (i + m)) a.1 a.2) (y : Nf (fun i => ev h2 q2 (i + n)) b.1 b.2) : b = a ↔ Eq2 h q h2 q2 m n := by
  constructor
  · intro e i
    have e1 := x.is i
    have e2 := y.is i
    rw [e] at e2
    exact e1.symm.trans e2
  · intro e
    have f : (fun i => ev h q (i + m)) = fun i => ev h2 q2 (i + n) := funext e
    rw [f] at x
    obtain ⟨e1, e2⟩ := y.unique x
    exact Prod.ext e1 e2
/-- the first one that is equal, or none -/
theorem first_at (d : PyData) : ∀ ds : List PyData, (ds.any (fun z => PyData.eqv z d) = false ∧ ∀ (m : Nat) (z : PyData), ds[m]? = some z → PyData.eqv z d = false) ∨
    (ds.any (fun z => PyData.eqv z d) = true ∧ ∃ (j : Nat) (z : PyData), ds[j]? = some z ∧ PyData.eqv z d = true ∧ ∀ (m : Nat) (z' : PyData), m < j → ds[m]? = some z' → PyData.eqv z' d = false)
  | [] => .inl ⟨rfl, fun m z e => by cases e⟩
  | x :: ds => by
    cases c : PyData.eqv x d with
    | true => exact .inr ⟨by rw [List.any_cons, c]; rfl, 0, x, rfl, c, fun m _ hm => absurd hm (Nat.not_lt_zero _)⟩
    | false =>
      rcases first_at d ds with ⟨a, no⟩ | ⟨a, j, z, hz, e, no⟩
      · refine .inl ⟨by rw [List.any_cons, c, a]; rfl, fun m z e => ?_⟩
        cases m with
        | zero => cases e; exact c
        | succ m => exact no m z e
      · refine .inr ⟨by rw [List.any_cons, c, a]; rfl, j + 1, z, hz, e, fun m z' hm hz' => ?_⟩
        cases m with
        | zero => cases hz'; exact c
        | succ m => exact no m z' (by omega) hz'
abbrev Tr : Type := List (Addr × Td)
abbrev trefs (T : Tr) : List V := T.map fun e => .ref e.1
abbrev tds (T : Tr) : List PyData := T.map fun e => tdD e.2
/-- the tails of a stream, one by one -/
structure Tails (h q : List Nat) (Hb Hy : Hp) (D : Addr) (T : Tr) : Prop where
  at_ : Hy D = some (.lst (trefs T))
  good : ∀ e ∈ T, Hy e.1 = some (tdO e.2)
  nf : ∀ n e, T[n]? = some e → Nf (fun i => ev h q (i + n)) e.2.1 e.2.2
  sm : ∀ e ∈ T, Small e.2
  old : ∀ c o, Hb c = some o → Hy c = some o
theorem Tails.more {h q : List Nat} {Hb Hy H' : Hp} {D p : Addr} {T : Tr} {d : Td} (t : Tails h q Hb Hy D T) (hD : Hb D = none) (s : Same Hy H') (hp : H' p = some (tdO d)) (n : Nf (fun i => ev h q (i + T.length)) d.1 d.2) (sm : Small d) :
    Tails h q Hb (upd H' D (.lst (trefs T ++ [.ref p]))) D (T ++ [(p, d)]) := by
  have dD := s _ _ t.at_
  have nD : ∀ c x, H' c = some (tdO x) → c ≠ D := fun c x e z => by rw [z, dD] at e; cases e
  refine ⟨?_, fun e he => ?_, fun m e he => ?_, fun e he => ?_, fun c o ec => ?_⟩
  · rw [upd_same]
    show _ = some (HO.lst (trefs (T ++ [(p, d)])))
    rw [show trefs (T ++ [(p, d)]) = trefs T ++ [V.ref p] from List.map_append]
  · rcases List.mem_append.mp he with he | he
    · have g := s _ _ (t.good e he)
      rw [upd_ne (nD _ _ g)]
      exact g
    · rw [List.mem_singleton.mp he, upd_ne (nD _ _ hp)]
      exact hp
  · rcases Nat.lt_or_ge m T.length with c | c
    · rw [List.getElem?_append_left c] at he
      exact t.nf m e he
    · rw [List.getElem?_append_right c] at he
      have c2 : m = T.length := by
        rcases Nat.lt_or_ge T.length m with z | z
        · rw [List.getElem?_eq_none (by simp; omega)] at he
          cases he
        · omega
      rw [c2, Nat.sub_self] at he
      cases he
      rw [c2]
      exact n
  · rcases List.mem_append.mp he with he | he
    · exact t.sm e he
    · rw [List.mem_singleton.mp he]
      exact sm
  · rw [upd_ne (ne_of_none ec hD)]
    exact s _ _ (t.old c o ec)
theorem tdp_all {K : PySem.W.Frag} {H : Hp} : ∀ {T : Tr}, (∀ e ∈ T, H e.1 = some (tdO e.2)) → DpAll K H (trefs T) (tds T)
  | [], _ => .nil
  | e :: T, g => .cons (.tup (SqT.of (g e List.mem_cons_self)) (.cons (.int _) (.cons (.str _) (.cons (.str _) .nil)))) (tdp_all fun x hx => g x (List.mem_cons_of_mem _ hx))
theorem td_lay {d : Td} (s : Small d) : PyData.canLay0 (tdD d) = true := by
  show (PyData.canLay0 (.int 0) && (PyData.canLay0 (.str (S d.1)) && (PyData.canLay0 (.str (S d.2)) && true))) = true
  rw [lay_S s.1, lay_S s.2]
  rfl
theorem tds_lay : ∀ {T : Tr}, (∀ e ∈ T, Small e.2) → PyData.canLayAll0 (tds T) = true ∧ PyData.depthAll (tds T) ≤ 1
  | [], _ => ⟨rfl, by show 0 ≤ 1; decide⟩
  | e :: T, g => by
    obtain ⟨h1, h2⟩ := tds_lay (T := T) fun x hx => g x (List.mem_cons_of_mem _ hx)
    constructor
    · show (PyData.canLay0 (tdD e.2) && PyData.canLayAll0 (tds T)) = true
      rw [td_lay (g e List.mem_cons_self), h1]
      rfl
    · show max (PyData.depth (tdD e.2)) (PyData.depthAll (tds T)) ≤ 1
      have : PyData.depth (tdD e.2) = 1 := rfl
      omega
theorem shaped_tds {T : Tr} (g : ∀ e ∈ T, Small e.2) : SeqAt.shaped (.list (tds T)) = true := by
  obtain ⟨h1, h2⟩ := tds_lay g
  show (PyData.canLay0 (.list (tds T)) && decide (PyData.depth (.list (tds T)) ≤ 64)) = true
  rw [Bool.and_eq_true]
  refine ⟨h1, decide_eq_true ?_⟩
  show PyData.depthAll (tds T) + 1 ≤ 64
  omega
def spFirstPair : Sp := fun vs H Q _ => ∃ (p p2 : Addr) (r r2 : V) (h q h2 q2 : List Nat), vs = [.ref p, .ref p2] ∧ H p = some (.tup [r, .str (S h), .str (S q)]) ∧ H p2 = some (.tup [r2, .str (S h2), .str (S q2)]) ∧ Nf (ev h q) h q ∧ Nf (ev h2 q2) h2 q2 ∧
  h.length ≤ 90 ∧ q.length ≤ 90 ∧ h2.length ≤ 90 ∧ q2.length ≤ 90 ∧ Small (h, q) ∧ Small (h2, q2) ∧
  ∀ H', Same H H' → (Res h q h2 q2 none → Q .non H') ∧ ∀ m n : Nat, Res h q h2 q2 (some (m, n)) → ∀ t, H' t = none → Q (.ref t) (upd H' t (.tup [.int (m : Int), .int (n : Int)]))
section
variable {P : Program} {w : World} {K : PySem.W.Frag} {mg : Str → Option Value} {base : Heap}
theorem scLTail : FnScope ["stream", "many", "root", "head", "period"] ["stream", "many"] (defScope sLTail) := ⟨rfl, rfl, rfl, by decide +kernel, rfl, by decide +kernel, by decide +kernel⟩
theorem ok_ltail {f fN : Addr} {fd fdN : FuncData} (F : Fun K "_law_tail" "_law_tail" sLTail f fd) (GN : FnOk P w K mg base CX0 1 fN fdN ["root", "head", "period"] spLNormal) (cN : Cal K mg "_law_normal" fN fdN ["root", "head", "period"]) (ml : mg "len" = none) :
    FnOk P w K mg base CX0 2 f fd ["stream", "many"] (spLTail K) := by
  refine F.ok scLTail (fun vs H Q E h => ?_) (fun cdv A outer s H vs Q E hr h => ?_)
  · obtain ⟨p, r, h, q, many, rfl, _⟩ := h
    rfl
  · obtain ⟨p, r, h, q, many, rfl, hp, q0, ql, hl, hm, k⟩ := h
    have nd := scLTail.nd
    refine ⟨_, pss_cons (ps_asg (pv 0) (pg_tup rfl (pgs_cons (pg_name (i := 2) nd rfl (.inl rfl)) (pgs_cons (pg_name (i := 3) nd rfl (.inl rfl)) (pgs_cons (pg_name (i := 4) nd rfl (.inl rfl)) pgs_nil)))))
      (pss_cons (ps_while PassesOwn.never (pt_cmpR op_lt (pe_callB call_len_str (by rfl) ml boot_len (pa_cons (pv 3) pa_nil)) (pv 1) (nomark _))
        (pss_one (ps_set (i := 3) nd rfl (.inl rfl) (pe_op op_add_str (pv 3) (pv 4)))))
      (pss_one (ps_ret (pe_call GN hr rfl cN.mg cN.kp cN.b .nil pass0 (pa_cons pe_int (pa_cons (pe_slice sl_str (pv 3) (po_some (pv 1)) po_none) (pa_cons (pv 4) pa_nil))))))), ?_⟩
    refine ⟨_, rfl, p, _, rfl, hp, rfl, _, _, rfl, _, _, rfl, _, _, rfl, rfl, ?_⟩
    refine ⟨fun m σ H2 => ∃ hh : List Nat, m = many - hh.length ∧ σ = [some (.ref p), some (.int (many : Int)), some r, some (.str (S hh)), some (.str (S q))] ∧ H2 = H ∧ (∀ i, ev hh q i = ev h q i) ∧ Sub hh (h ++ q) ∧ (hh.length ≤ h.length ∨ hh.length ≤ many + q.length), ⟨many - h.length, h, rfl, rfl, rfl, fun _ => rfl, fun c hc => List.mem_append.mpr (.inl hc), .inl (Nat.le_refl _)⟩, ?_⟩
    rintro m σ H2 ⟨hh, rfl, rfl, rfl, ee, sb, ll⟩
    have sh : (S hh).length ≤ sizeLine := small_lenG (by omega)
    refine ⟨_, rfl, _, rfl, sh, _, rfl, _, _, rfl, rfl, _, rfl, ?_⟩
    refine ite2 (fun c => ?_) (fun c => ?_)
    · have c' : ((S hh).length : Int) < (many : Int) := of_decide_eq_true c
      rw [S_len] at c'
      refine ⟨fun σ' H' => ∃ m', m' < many - hh.length ∧ _, fun σ' H' z => z, _, rfl, _, rfl, _, _, rfl, rfl, ?_, ?_⟩
      · rw [S_len, S_len]
        exact Nat.le_trans (show hh.length + q.length ≤ 1000 by omega) (by decide)
      · rw [S_cat]
        exact ⟨many - (hh ++ q).length, by rw [List.length_append]; omega, hh ++ q, rfl, rfl, rfl, fun i => (ev_app q0 i).trans (ee i), fun c hc => (by
          rcases List.mem_append.mp hc with z | z
          · exact sb c z
          · exact List.mem_append.mpr (.inr z)), .inr (by rw [List.length_append]; omega)⟩
    · have c' : many ≤ hh.length := by
        rcases Nat.lt_or_ge hh.length many with z | z
        · exact absurd (decide_eq_true (show ((S hh).length : Int) < (many : Int) by rw [S_len]; omega)) c
        · exact z
      refine ⟨_, rfl, _, rfl, _, rfl, _, rfl, sh, _, rfl, .int 0, hh.drop many, q, ?_, q0, by omega, ?_, fun h' q' p' H' nf l1 l2 s1 s2 sm np hp' => ?_⟩
      · rw [cut_dropG]
        rfl
      · rw [List.length_drop]
        omega
      · have f : ev (hh.drop many) q = fun i => ev h q (i + many) := funext fun i => (ev_cut c' i).trans (ee _)
        rw [f] at nf
        refine k (h', q') p' H' nf ?_ l2 (fun c hc => sb c (List.mem_of_mem_drop (s1 c hc))) s2 sm np hp'
        rw [List.length_drop] at l1
        show h'.length ≤ _
        omega
theorem scFirstPair : FnScope ["one", "other", "far", "near", "tails", "many", "tail"] ["one", "other"] (defScope sFirstPair) := ⟨rfl, rfl, rfl, by decide +kernel, rfl, by decide +kernel, by decide +kernel⟩
theorem ok_firstpair {f fT : Addr} {fd fdT : FuncData} (F : Fun K "_law_first_pair" "_law_first_pair" sFirstPair f fd) (GT : FnOk P w K mg base CX0 2 fT fdT ["stream", "many"] (spLTail K)) (cT : Cal K mg "_law_tail" fT fdT ["stream", "many"]) (ml : mg "len" = none) (nr : mg "range" = none) :
    FnOk P w K mg base CX0 3 f fd ["one", "other"] spFirstPair := by
  refine F.ok scFirstPair (fun vs H Q E h => ?_) (fun cdv A outer s H vs Q E hr h => ?_)
  · obtain ⟨p, p2, r, r2, h, q, h2, q2, rfl, _⟩ := h
    rfl
  · obtain ⟨p, p2, r, r2, h, q, h2, q2, rfl, hp, hp2, nf, nf2, hl, ql, hl2, ql2, sm, sm2, k⟩ := h
    have nd := scFirstPair.nd
    have hun1 : A.units + 3 + 65 < cLine := by have := hr.un; show A.units + 3 + 65 < cLine; have h2 : A.units + 3 + 16 * 2 + 200 < cLine := this; omega
    have q0 := nf.ne
    have q20 := nf2.ne
    refine ⟨_, pss_cons (ps_par (i := 2) (j := 3) rfl nd rfl rfl (by decide) rfl rfl (pa_cons (pe_op op_add (pe_callB call_len_str (by rfl) ml boot_len (pa_cons (pe_ix ix_tup (pv 0) pe_int (fun _ _ => rfl)) pa_nil)) (pe_callB call_len_str (by rfl) ml boot_len (pa_cons (pe_ix ix_tup (pv 0) pe_int (fun _ _ => rfl)) pa_nil)))
        (pa_cons (pe_op op_add (pe_callB call_len_str (by rfl) ml boot_len (pa_cons (pe_ix ix_tup (pv 1) pe_int (fun _ _ => rfl)) pa_nil)) (pe_callB call_len_str (by rfl) ml boot_len (pa_cons (pe_ix ix_tup (pv 1) pe_int (fun _ _ => rfl)) pa_nil))) pa_nil)) rfl)
      (pss_cons (ps_setLc (i := 4) (own := [("many", 5)]) (g := gName 5) rfl nd rfl rfl rfl (pi_range1 rfl nr (pa_cons (pv 3) pa_nil))
          (blkOk_by (N := ["one", "other", "far", "near", "tails", "many", "tail"]) (sc := defScope sFirstPair) (by decide +kernel)) (fun _ _ _ _ _ => pg_name (i := 5) nd rfl (Or.inl rfl))
          (fun _ _ _ _ _ => pts_nil) (fun _ _ _ _ _ => pe_call GT hr rfl cT.mg cT.kp cT.b .nil pass0 (pa_cons (pv 1) (pa_cons (pv 5) pa_nil))))
      (pss_cons (ps_for PassesOwn.never rfl (pi_range1 rfl nr (pa_cons (pv 2) pa_nil)) (pg_name (i := 5) nd rfl (.inl rfl))
        (pss_cons (ps_set (i := 6) nd rfl (.inl rfl) (pe_call GT hr rfl cT.mg cT.kp cT.b .nil pass0 (pa_cons (pv 0) (pa_cons (pv 5) pa_nil))))
        (pss_one (ps_if (pt_cmpR (op_inD hun1) (pv 6) (pv 4) (by rfl)) (pss_one (ps_ret (pe_tup (pa_cons (pv 5) (pa_cons (pe_bm PySem.F.plainAttrs_list PySem.F.slot_list_index PySem.F.type_list_index (mt_indexD hun1) (pv 4) (pa_cons (pv 6) pa_nil)) pa_nil))))) pss_nil))))
      (pss_one (ps_ret pe_non)))), ?_⟩
    have sh := small_lenG (l := h) (by omega)
    have sh2 := small_lenG (l := h2) (by omega)
    have sq := small_lenG (l := q) (by omega)
    have sq2 := small_lenG (l := q2) (by omega)
    refine ⟨_, rfl, p, _, _, _, rfl, rfl, SqT.of hp, rfl, _, rfl, sh, _, rfl, p, _, _, _, rfl, rfl, SqT.of hp, rfl, _, rfl, sq, _, _, rfl, rfl, ?_⟩
    refine ⟨_, rfl, p2, _, _, _, rfl, rfl, SqT.of hp2, rfl, _, rfl, sh2, _, rfl, p2, _, _, _, rfl, rfl, SqT.of hp2, rfl, _, rfl, sq2, _, _, rfl, rfl, ?_⟩
    obtain ⟨near, hnear⟩ : ∃ near : Nat, near = h2.length + q2.length := ⟨_, rfl⟩
    obtain ⟨far, hfar⟩ : ∃ far : Nat, far = h.length + q.length := ⟨_, rfl⟩
    refine ⟨.int (far : Int), .int (near : Int), ?_, ?_⟩
    · show [V.int (((S h).length : Int) + ((S q).length : Int)), V.int (((S h2).length : Int) + ((S q2).length : Int))] = _
      rw [S_len, S_len, S_len, S_len, hnear, hfar]
      rfl
    refine ⟨_, rfl, _, rfl, by omega, by omega, fun D hD => ?_⟩
    refine lc_range (n := near) (fun i Hy => ∃ T : Tr, T.length = i ∧ Tails h2 q2 H Hy D T) ?_ ?_ ?_
    · exact ⟨[], rfl, upd_same, fun e he => (by cases he), fun n e he => (by cases he), fun e he => (by cases he), fun c o e => by rw [upd_ne (ne_of_none e hD)]; exact e⟩
    · rintro i Hy hi ⟨T, lT, tT⟩
      refine ⟨rfl, ?_⟩
      refine ⟨_, rfl, _, rfl, p2, _, h2, q2, i, ?_, SqT.of (tT.old _ _ hp2), q20, by omega, by omega, by omega, fun d p' H' dn l1 l2 s1 s2 sm' np hp' => ?_⟩
      · rw [Int.zero_add]
        rfl
      refine ⟨trefs T, sm' _ _ tT.at_, ?_, T ++ [(p', d)], by rw [List.length_append, lT]; rfl, tT.more hD sm' hp' (by rw [lT]; exact dn) ⟨fun c hc => ?_, fun c hc => sm2.2 c (s2 c hc)⟩⟩
      · rw [List.length_map, lT]
        exact Nat.lt_of_lt_of_le (show i < 200 by omega) (by decide)
      · rcases List.mem_append.mp (s1 c hc) with z | z
        · exact sm2.1 c z
        · exact sm2.2 c z
    · rintro H1 ⟨T, lT, tT⟩
      refine ⟨_, rfl, _, rfl, by omega, by omega, ?_⟩
      refine for_range (n := far) (fun i σ Hx => ∃ u5 u6 : Option V, σ = [some (.ref p), some (.ref p2), some (.int (far : Int)), some (.int (near : Int)), some (.ref D), u5, u6] ∧ Same H1 Hx ∧ ∀ m, m < i → ∀ n, ¬ Eq2 h q h2 q2 m n) ⟨none, none, rfl, fun _ _ e => e, fun m hm => absurd hm (Nat.not_lt_zero _)⟩ ?_ ?_
      · rintro i σ Hx hi ⟨u5, u6, rfl, sx, no⟩
        have hi : i < far := hi
        refine ⟨_, rfl, _, rfl, p, _, h, q, i, ?_, SqT.of (sx _ _ (tT.old _ _ hp)), q0, by omega, by omega, by omega, fun d p' H2 dn l1 l2 s1 s2 sm' np hp' => ?_⟩
        · rw [Int.zero_add]
          rfl
        have sd : Small d := ⟨fun c hc => by
          rcases List.mem_append.mp (s1 c hc) with z | z
          · exact sm.1 c z
          · exact sm.2 c z, fun c hc => sm.2 c (s2 c hc)⟩
        have tt : ∀ e ∈ T, H2 e.1 = some (tdO e.2) := fun e he => sm' _ _ (sx _ _ (tT.good e he))
        have dpT : Dp K H2 (.ref D) (.list (tds T)) := .lst (SqL.of (sm' _ _ (sx _ _ tT.at_))) (tdp_all tt)
        have dpD : Dp K H2 (.ref p') (tdD d) := .tup (SqT.of hp') (.cons (.int _) (.cons (.str _) (.cons (.str _) .nil)))
        have shd : SeqAt.shaped (tdD d) = true := shaped3 sd.1 sd.2
        have shT := shaped_tds tT.sm
        have at_ : ∀ (n : Nat) (z : PyData), (tds T)[n]? = some z → ∃ e, T[n]? = some e ∧ z = tdD e.2 := fun n z hz => by
          rw [List.getElem?_map] at hz
          cases e : T[n]? with
          | none => rw [e] at hz; cases hz
          | some y => rw [e] at hz; cases hz; exact ⟨y, rfl, rfl⟩
        have link : ∀ (n : Nat) (z : PyData), (tds T)[n]? = some z → (PyData.eqv z (tdD d) = true ↔ Eq2 h q h2 q2 i n) := fun n z hz => by
          obtain ⟨e, he, rfl⟩ := at_ n z hz
          rw [td_eqv, decide_eq_true_iff]
          exact td_iff dn (tT.nf n e he)
        have have_ : ∀ n, n < near → ∃ z, (tds T)[n]? = some z := fun n hn => ⟨_, List.getElem?_eq_getElem (by rw [List.length_map, lT]; exact hn)⟩
        refine ⟨_, rfl, _, rfl, tdD d, tds T, dpD, dpT, shd, shT, _, rfl, ?_⟩
        rcases first_at (tdD d) (tds T) with ⟨a, none_⟩ | ⟨a, j, z, hz, ez, less⟩
        · refine iteFB a ?_
          refine ⟨_, _, rfl, fun _ _ e => sm' _ _ (sx _ _ e), fun m hm n e => ?_⟩
          rcases Nat.lt_or_ge m i with c | c
          · exact no m c n e
          · obtain rfl : m = i := by omega
            obtain ⟨n', _, ln, e'⟩ := eq2_down q20 n n (Nat.le_refl _) e
            obtain ⟨z, hz⟩ := have_ n' (by omega)
            have w := (link n' z hz).mpr e'
            rw [none_ n' z hz] at w
            cases w
        · refine iteTB a ?_
          refine ⟨_, rfl, _, rfl, .inl ⟨rfl, _, SqL.of (sm' _ _ (sx _ _ tT.at_))⟩, _, rfl, D, _, tdD d, tds T, j, z, rfl, rfl, dpT, dpD, shT, shd, hz, ez, less, (by show 2 ≤ sizeLine; decide), fun t ht => ?_⟩
          have jn : j < near := by
            rcases Nat.lt_or_ge j near with y | y
            · exact y
            · rw [List.getElem?_eq_none (by rw [List.length_map, lT]; exact y)] at hz
              cases hz
          have sAll : Same H H2 := fun _ _ e => sm' _ _ (sx _ _ (tT.old _ _ e))
          have res : Res h q h2 q2 (some (i, j)) := ⟨(link j z hz).mp ez, by omega, by omega, fun m' n' e => by
            rcases Nat.lt_trichotomy m' i with c | c | c
            · exact absurd e (no m' c n')
            · subst c
              refine .inr ⟨rfl, ?_⟩
              obtain ⟨n'', l', ln, e'⟩ := eq2_down q20 n' n' (Nat.le_refl _) e
              rcases Nat.lt_or_ge n'' j with y | y
              · obtain ⟨z', hz'⟩ := have_ n'' (by omega)
                have w := (link n'' z' hz').mpr e'
                rw [less n'' z' y hz'] at w
                cases w
              · omega
            · exact .inl c⟩
          have kk := (k H2 sAll).2 i j res t ht
          rw [show (0 + (i : Int)) = (i : Int) by omega]
          exact kk
      · rintro σ Hx ⟨u5, u6, rfl, sx, no⟩
        refine (k Hx fun _ _ e => sx _ _ (tT.old _ _ e)).1 fun m n e => ?_
        obtain ⟨m', _, lm, e'⟩ := eq2_down q0 m m (Nat.le_refl _) e.symm
        exact no m' (by omega) n e'.symm
end
end Vf


set_option Elab.async false
set_option maxRecDepth 100000
set_option maxHeartbeats 8000000
set_option exponentiation.threshold 3000
/-! Two streams drawn. -/
namespace Vf
open PySem L2 SX Vm
structure OkP (b : Nat) (r : Int) (h q : List Nat) : Prop where
  r0 : 0 ≤ r
  r1 : r < 4
  nf : Nf (ev h q) h q
  hl : h.length ≤ 20
  ql : q.length ≤ 5
  wh : IsW (b : Int) h
  wq : IsW (b : Int) q
theorem OkP.ok {b : Nat} {r : Int} {h q : List Nat} (o : OkP b r h q) : OkS b r h q :=
  ⟨o.r0, by have := o.r1; omega, o.nf, by have := o.hl; omega, by have := o.ql; omega, o.wh, o.wq⟩
theorem OkP.small {b : Nat} {r : Int} {h q : List Nat} (b5 : b ≤ 5) (o : OkP b r h q) : Small (h, q) := ⟨isW_small (b := (b : Int)) (by omega) o.wh, isW_small (b := (b : Int)) (by omega) o.wq⟩
theorem nf_ev {f : Nat → Nat} {h q : List Nat} (n : Nf f h q) : Nf (ev h q) h q := by
  have e : f = ev h q := funext fun i => (n.is i).symm
  rw [← e]
  exact n
theorem IsW.sub {b : Int} {l m : List Nat} (h1 : IsW b l) (h : Sub m l) : IsW b m := h1.of h
abbrev sO (r : Int) (h q : List Nat) : HO := .tup [.int r, .str (S h), .str (S q)]
def spLPair : Sp := fun vs H Q _ => ∃ (a : Addr) (d : Int × Int × Int) (b : Nat), vs = [.ref a, .int (b : Int)] ∧ H a = some (.lst (dieL d)) ∧ DieOk d ∧ d.2.2 ≤ 900000000 ∧ 2 ≤ b ∧ b ≤ 5 ∧
  ∀ (p p2 t : Addr) (r : Int) (h q : List Nat) (r2 : Int) (h2 q2 : List Nat) (d' : Int × Int × Int) (H' : Hp), OkP b r h q → OkP b r2 h2 q2 → DieOk d' → d'.2.2 ≤ d.2.2 + 100 → Kp a H H' → H' a = some (.lst (dieL d')) →
    H' p = some (sO r h q) → H' p2 = some (sO r2 h2 q2) → H' t = some (.tup [.ref p, .ref p2]) → Q (.ref t) H'
section
variable {P : Program} {w : World} {K : PySem.W.Frag} {mg : Str → Option Value} {base : Heap}
theorem scLPair : FnScope ["die", "base", "one", "other", "cut", "tail", "some", "head", "period"] ["die", "base"] (defScope sLPair) := ⟨rfl, rfl, rfl, by decide +kernel, rfl, by decide +kernel, by decide +kernel⟩
theorem ok_lpair {f fP fS fT fN : Addr} {fd fdP fdS fdT fdN : FuncData} (F : Fun K "_law_pair" "_law_pair" sLPair f fd) (GP : FnOk P w K mg base CX0 1 fP fdP ["die", "many"] spPull) (cP : Cal K mg "_law_pull" fP fdP ["die", "many"])
    (GS : FnOk P w K mg base CX0 3 fS fdS ["die", "base", "wide", "high"] spLStream) (cS : Cal K mg "_law_stream" fS fdS ["die", "base", "wide", "high"])
    (GT : FnOk P w K mg base CX0 2 fT fdT ["stream", "many"] (spLTail K)) (cT : Cal K mg "_law_tail" fT fdT ["stream", "many"])
    (GN : FnOk P w K mg base CX0 1 fN fdN ["root", "head", "period"] spLNormal) (cN : Cal K mg "_law_normal" fN fdN ["root", "head", "period"]) (ml : mg "len" = none) :
    FnOk P w K mg base CX0 4 f fd ["die", "base"] spLPair := by
  refine F.ok scLPair (fun vs H Q E h => ?_) (fun cdv A outer s H vs Q E hr h => ?_)
  · obtain ⟨a, d, b, rfl, _⟩ := h
    rfl
  · obtain ⟨a, d, b, rfl, ha, hd, hc, b2, b5, k⟩ := h
    have nd := scLPair.nd
    have hr1 := hr.mono (show 1 ≤ 3 by decide)
    have hr2 := hr.mono (show 2 ≤ 3 by decide)
    refine ⟨_, pss_cons (ps_par (i := 2) (j := 3) rfl nd rfl rfl (by decide) rfl rfl (pa_cons (pe_call GS hr rfl cS.mg cS.kp cS.b .nil pass0 (pa_cons (pv 0) (pa_cons (pv 1) (pa_cons pe_int (pa_cons pe_int pa_nil))))) (pa_cons (pe_call GS hr rfl cS.mg cS.kp cS.b .nil pass0 (pa_cons (pv 0) (pa_cons (pv 1) (pa_cons pe_int (pa_cons pe_int pa_nil))))) pa_nil)) rfl)
      (pss_cons (ps_set (i := 4) nd rfl (.inl rfl) (pe_call GP hr1 rfl cP.mg cP.kp cP.b .nil pass0 (pa_cons (pv 0) (pa_cons (pe_op op_add (pe_op op_add (pe_callB call_len_str (by rfl) ml boot_len (pa_cons (pe_ix ix_tup (pv 2) pe_int (fun _ _ => rfl)) pa_nil)) (pe_op op_mul pe_int (pe_callB call_len_str (by rfl) ml boot_len (pa_cons (pe_ix ix_tup (pv 2) pe_int (fun _ _ => rfl)) pa_nil)))) pe_int) pa_nil))))
      (pss_cons (ps_set (i := 5) nd rfl (.inl rfl) (pe_call GT hr2 rfl cT.mg cT.kp cT.b .nil pass0 (pa_cons (pv 2) (pa_cons (pv 4) pa_nil))))
      (pss_cons (ps_set (i := 6) nd rfl (.inl rfl) (pe_lst (pa_cons (pe_tup (pa_cons (pe_op op_add_str (pe_ix ix_tup (pv 3) pe_int (fun _ _ => rfl)) (pe_ix ix_tup (pv 5) pe_int (fun _ _ => rfl))) (pa_cons (pe_ix ix_tup (pv 5) pe_int (fun _ _ => rfl)) pa_nil)))
        (pa_cons (pe_tup (pa_cons (pe_ix ix_tup (pv 5) pe_int (fun _ _ => rfl)) (pa_cons (pe_ix ix_tup (pv 5) pe_int (fun _ _ => rfl)) pa_nil)))
        (pa_cons (pe_tup (pa_cons (pe_ix ix_tup (pv 3) pe_int (fun _ _ => rfl)) (pa_cons (pe_ix ix_tup (pv 2) pe_int (fun _ _ => rfl)) pa_nil)))
        (pa_cons (pe_tup (pa_cons (pe_ix ix_tup (pv 3) pe_int (fun _ _ => rfl)) (pa_cons (pe_ix ix_tup (pv 3) pe_int (fun _ _ => rfl)) pa_nil))) pa_nil))))))
      (pss_cons (ps_asg (pe_ix ix_list (pv 6) (pe_call GP hr1 rfl cP.mg cP.kp cP.b .nil pass0 (pa_cons (pv 0) (pa_cons pe_int pa_nil))) (fun _ _ => rfl)) (pg_tup rfl (pgs_cons (pg_name (i := 7) nd rfl (.inl rfl)) (pgs_cons (pg_name (i := 8) nd rfl (.inl rfl)) pgs_nil))))
      (pss_one (ps_ret (pe_tup (pa_cons (pv 2) (pa_cons (pe_call GN hr1 rfl cN.mg cN.kp cN.b .nil pass0 (pa_cons (pe_ix ix_tup (pv 3) pe_int (fun _ _ => rfl)) (pa_cons (pv 7) (pa_cons (pv 8) pa_nil)))) pa_nil))))))))), ?_⟩
    have nA : ∀ {J : Hp} {c : Addr} {dd : Int × Int × Int} {x : List V}, J a = some (.lst (dieL dd)) → J c = some (.tup x) → c ≠ a := fun h1 h2 z => by rw [z, h1] at h2; cases h2
    refine ⟨_, rfl, _, rfl, a, d, b, 4, 5, rfl, ha, hd, by omega, by omega, by omega, by decide, by decide, by decide, by decide, fun r h q f1 d1 p H1 r0 r1 hl ql nf wh wq hd1 hc1 kp1 a1 np e1 => ?_⟩
    refine ⟨_, rfl, _, rfl, a, d1, b, 4, 5, rfl, a1, hd1, by omega, by omega, by omega, by decide, by decide, by decide, by decide, fun r2 h2 q2 f2 d2 p2 H2 r20 r21 hl2 ql2 nf2 wh2 wq2 hd2 hc2 kp2 a2 np2 e2 => ?_⟩
    replace nf := nf_ev nf
    replace nf2 := nf_ev nf2
    have q0 := nf.ne
    have q20 := nf2.ne
    have hl : h.length ≤ 5 := by omega
    have ql : q.length ≤ 5 := by omega
    have hl2 : h2.length ≤ 5 := by omega
    have ql2 : q2.length ≤ 5 := by omega
    have e12 := kp2 _ _ (nA a1 e1) e1
    have kp : Kp a H H2 := kp1.trans kp2
    clear kp1 kp2
    refine ⟨_, _, rfl, ?_⟩
    have sh := small_lenG (l := h) (by omega)
    have sq := small_lenG (l := q) (by omega)
    refine ⟨_, rfl, _, rfl, p, _, _, _, rfl, rfl, SqT.of e12, rfl, _, rfl, sh, _, rfl, p, _, _, _, rfl, rfl, SqT.of e12, rfl, _, rfl, sq, _, _, rfl, rfl, .inl ⟨by decide, by decide⟩, _, _, rfl, rfl, _, _, rfl, rfl, ?_⟩
    refine ⟨a, d2, _, rfl, a2, hd2, ?_, ?_, by omega, fun cut d3 hd3 hc3 c0 c1 => ?_⟩
    · show 1 ≤ ((S h).length : Int) + 2 * ((S q).length : Int) + 1
      omega
    · show ((S h).length : Int) + 2 * ((S q).length : Int) + 1 ≤ 5000
      rw [S_len, S_len]
      omega
    have c1 : cut < ((S h).length : Int) + 2 * ((S q).length : Int) + 1 := c1
    rw [S_len, S_len] at c1
    have e13 : upd H2 a (.lst (dieL d3)) p = some (sO r h q) := by rw [upd_ne (nA a2 e12)]; exact e12
    have e23 : upd H2 a (.lst (dieL d3)) p2 = some (sO r2 h2 q2) := by rw [upd_ne (nA a2 e2)]; exact e2
    have a3 : upd H2 a (.lst (dieL d3)) a = some (.lst (dieL d3)) := upd_same
    have kp3 : Kp a H (upd H2 a (.lst (dieL d3))) := kp.trans Kp.upd
    generalize upd H2 a (.lst (dieL d3)) = H3 at e13 e23 a3 kp3 ⊢
    refine ⟨_, rfl, _, rfl, p, _, h, q, cut.toNat, ?_, SqT.of e13, q0, by omega, by omega, by omega, fun td pt H4 tn l1 l2 s1 s2 sm npt ept => ?_⟩
    · rw [Int.toNat_of_nonneg c0]
      rfl
    have l1 : td.1.length ≤ 10 := by omega
    have l2 : td.2.length ≤ 5 := by omega
    have wt1 : IsW (b : Int) td.1 := (wh.app wq).of s1
    have wt2 : IsW (b : Int) td.2 := wq.of s2
    have t0 := tn.ne
    obtain ⟨th, tq⟩ := td
    have l1 : th.length ≤ 10 := l1
    have l2 : tq.length ≤ 5 := l2
    have t0 : 0 < tq.length := t0
    have e14 := sm _ _ e13
    have e24 := sm _ _ e23
    have a4 := sm _ _ a3
    have kp4 : Kp a H H4 := kp3.trans (Kp.same sm)
    clear sm npt kp3 kp e13 e23 a3
    have tp1 : ∀ {J : Hp}, J p2 = some (sO r2 h2 q2) → J pt = some (tdO (th, tq)) → J p = some (sO r h q) → SqT K J p2 [.int r2, .str (S h2), .str (S q2)] ∧ SqT K J pt [.int 0, .str (S th), .str (S tq)] ∧ SqT K J p [.int r, .str (S h), .str (S q)] := fun x y z => ⟨SqT.of x, SqT.of y, SqT.of z⟩
    obtain ⟨u2, ut, u1⟩ := tp1 e24 ept e14
    refine ⟨_, rfl, p2, _, _, _, rfl, rfl, u2, rfl, _, rfl, pt, _, _, _, rfl, rfl, ut, rfl, _, _, rfl, rfl, ?_, _, rfl, pt, _, _, _, rfl, rfl, ut, rfl, (by show 2 ≤ sizeLine; decide), fun x1 nx1 => ?_⟩
    · rw [S_len, S_len]
      exact Nat.le_trans (show h2.length + th.length ≤ 100 by omega) (by decide)
    rw [S_cat]
    have s1 : Same H4 (upd H4 x1 (.tup [.str (S (h2 ++ th)), .str (S tq)])) := same_new nx1
    have g1 : upd H4 x1 (.tup [.str (S (h2 ++ th)), .str (S tq)]) x1 = some (.tup [.str (S (h2 ++ th)), .str (S tq)]) := upd_same
    generalize upd H4 x1 (.tup [.str (S (h2 ++ th)), .str (S tq)]) = J1 at s1 g1 ⊢
    obtain ⟨u2, ut, u1⟩ := tp1 (s1 _ _ e24) (s1 _ _ ept) (s1 _ _ e14)
    refine ⟨_, rfl, pt, _, _, _, rfl, rfl, ut, rfl, _, rfl, pt, _, _, _, rfl, rfl, ut, rfl, (by show 2 ≤ sizeLine; decide), fun x2 nx2 => ?_⟩
    have s2 : Same J1 (upd J1 x2 (.tup [.str (S th), .str (S tq)])) := same_new nx2
    have g2 : upd J1 x2 (.tup [.str (S th), .str (S tq)]) x2 = some (.tup [.str (S th), .str (S tq)]) := upd_same
    generalize upd J1 x2 (.tup [.str (S th), .str (S tq)]) = J2 at s2 g2 ⊢
    obtain ⟨u2, ut, u1⟩ := tp1 (s2 _ _ (s1 _ _ e24)) (s2 _ _ (s1 _ _ ept)) (s2 _ _ (s1 _ _ e14))
    refine ⟨_, rfl, p2, _, _, _, rfl, rfl, u2, rfl, _, rfl, p, _, _, _, rfl, rfl, u1, rfl, (by show 2 ≤ sizeLine; decide), fun x3 nx3 => ?_⟩
    have s3 : Same J2 (upd J2 x3 (.tup [.str (S h2), .str (S q)])) := same_new nx3
    have g3 : upd J2 x3 (.tup [.str (S h2), .str (S q)]) x3 = some (.tup [.str (S h2), .str (S q)]) := upd_same
    generalize upd J2 x3 (.tup [.str (S h2), .str (S q)]) = J3 at s3 g3 ⊢
    have S13 : Same H4 J3 := fun _ _ e => s3 _ _ (s2 _ _ (s1 _ _ e))
    obtain ⟨u2, ut, u1⟩ := tp1 (S13 _ _ e24) (S13 _ _ ept) (S13 _ _ e14)
    refine ⟨_, rfl, p2, _, _, _, rfl, rfl, u2, rfl, _, rfl, p2, _, _, _, rfl, rfl, u2, rfl, (by show 2 ≤ sizeLine; decide), fun x4 nx4 => ?_⟩
    have s4 : Same J3 (upd J3 x4 (.tup [.str (S h2), .str (S q2)])) := same_new nx4
    have g4 : upd J3 x4 (.tup [.str (S h2), .str (S q2)]) x4 = some (.tup [.str (S h2), .str (S q2)]) := upd_same
    generalize upd J3 x4 (.tup [.str (S h2), .str (S q2)]) = J4 at s4 g4 ⊢
    refine ⟨(by show 4 ≤ sizeLine; decide), fun l nl => ?_⟩
    have s5 : Same J4 (upd J4 l (.lst [.ref x1, .ref x2, .ref x3, .ref x4])) := same_new nl
    have g5 : upd J4 l (.lst [.ref x1, .ref x2, .ref x3, .ref x4]) l = some (.lst [.ref x1, .ref x2, .ref x3, .ref x4]) := upd_same
    generalize upd J4 l (.lst [.ref x1, .ref x2, .ref x3, .ref x4]) = J5 at s5 g5 ⊢
    have S15 : Same H4 J5 := fun _ _ e => s5 _ _ (s4 _ _ (S13 _ _ e))
    replace g1 := s5 _ _ (s4 _ _ (s3 _ _ (s2 _ _ g1)))
    replace g2 := s5 _ _ (s4 _ _ (s3 _ _ g2))
    replace g3 := s5 _ _ (s4 _ _ g3)
    replace g4 := s5 _ _ g4
    have a5 := S15 _ _ a4
    have nla : l ≠ a := ne_of_none (s4 _ _ (S13 _ _ a4)) nl |>.symm
    refine ⟨_, rfl, _, rfl, a, d3, _, rfl, a5, hd3, by decide, by decide, by omega, fun i d4 hd4 hc4 i0 i4 => ?_⟩
    have k6 : Kp a H (upd J5 a (.lst (dieL d4))) := (kp4.trans (Kp.same S15)).trans Kp.upd
    have a6 : upd J5 a (.lst (dieL d4)) a = some (.lst (dieL d4)) := upd_same
    have g6 : upd J5 a (.lst (dieL d4)) l = some (.lst [.ref x1, .ref x2, .ref x3, .ref x4]) := by rw [upd_ne nla]; exact g5
    have keep : ∀ c x, J5 c = some (.tup x) → upd J5 a (.lst (dieL d4)) c = some (.tup x) := fun c x e => by rw [upd_ne (nA a5 e)]; exact e
    generalize upd J5 a (.lst (dieL d4)) = J6 at k6 a6 g6 keep ⊢
    obtain ⟨x, hd', pr, hx, gx, lx, pr0, lp, wx, wp⟩ : ∃ (x : Addr) (hd pr : List Nat), atI [V.ref x1, .ref x2, .ref x3, .ref x4] i = some (.ref x) ∧ J6 x = some (.tup [.str (S hd), .str (S pr)]) ∧ hd.length ≤ 15 ∧ 0 < pr.length ∧ pr.length ≤ 5 ∧ IsW (b : Int) hd ∧ IsW (b : Int) pr := by
      have i4 : i < 4 := i4
      obtain rfl | rfl | rfl | rfl : i = 0 ∨ i = 1 ∨ i = 2 ∨ i = 3 := by omega
      · exact ⟨x1, h2 ++ th, tq, rfl, keep _ _ g1, by rw [List.length_append]; omega, t0, l2, wh2.app wt1, wt2⟩
      · exact ⟨x2, th, tq, rfl, keep _ _ g2, by omega, t0, l2, wt1, wt2⟩
      · exact ⟨x3, h2, q, rfl, keep _ _ g3, by omega, q0, ql, wh2, wq⟩
      · exact ⟨x4, h2, q2, rfl, keep _ _ g4, by omega, q20, ql2, wh2, wq2⟩
    refine ⟨l, _, i, _, rfl, rfl, SqL.of g6, hx, ?_⟩
    refine ⟨x, _, rfl, SqT.of gx, rfl, _, _, rfl, _, _, rfl, rfl, ?_⟩
    have e26 := keep _ _ (S15 _ _ e24)
    have e16 := keep _ _ (S15 _ _ e14)
    refine ⟨_, rfl, _, rfl, p2, _, _, _, rfl, rfl, SqT.of e26, rfl, _, rfl, _, rfl, .int r2, hd', pr, rfl, pr0, by omega, by omega, fun h' q' p' H7 nf' lh' lq' sh' sq' sm np' hp' => ?_⟩
    refine ⟨(by show 2 ≤ sizeLine; decide), fun t nt => ?_⟩
    have s8 : Same H7 (upd H7 t (.tup [.ref p, .ref p'])) := same_new nt
    exact k p p' t r h q r2 h' q' d4 _ ⟨r0, r1, nf, by omega, ql, wh, wq⟩ ⟨r20, r21, nf_ev nf', by omega, by omega, wx.of sh', wp.of sq'⟩ hd4 (by omega) ((k6.trans (Kp.same sm)).trans (Kp.same s8)) (s8 _ _ (sm _ _ a6)) (s8 _ _ (sm _ _ e16)) (s8 _ _ hp') upd_same
end
end Vf


set_option Elab.async false
set_option maxRecDepth 100000
set_option maxHeartbeats 8000000
set_option exponentiation.threshold 3000
/-! What is right: beginning, make_stream, begins_with and replaced. -/
namespace Vf
open PySem L2 SX Vm
theorem takes0 {X : Cx} : Takes X (fun _ _ _ _ => False) := fun _ _ x => by
  obtain ⟨a, B, sI, pins', σ', H', cls, d, rfl, J', nb, up, sky, na, os, ag, wish⟩ := x
  exact wish.elim
theorem nf_congr {f g : Nat → Nat} {h q : List Nat} (n : Nf f h q) (e : ∀ i, f i = g i) : Nf g h q := by
  have : f = g := funext e
  rw [← this]
  exact n
theorem within_b {b : Nat} (b2 : 2 ≤ b) (b5 : b ≤ 5) : withinV 2 5 (.int (b : Int)) = true := by
  show (decide ((2 : Int) ≤ b) && decide ((b : Int) ≤ 5)) = true
  rw [decide_eq_true (by omega), decide_eq_true (by omega)]
  rfl
theorem PF.right {H : Hp} {b : Nat} {r : Int} {p : Addr} {w : List Nat} (hp : H p = some (.tup [.int r, .str (S w)])) (r0 : 0 ≤ r) (r1 : r < 5000) (wl : w.length ≤ 1000) (ww : IsW b w) : PF H b 5000 (.ref p) true := by
  have w1 : (withinV 0 (5000 - 1) (.int r) && wordV b (.str (S w))) = true := by
    rw [wordV_of ww]
    show ((decide (0 ≤ r) && decide (r ≤ 5000 - 1)) && true) = true
    rw [decide_eq_true r0, decide_eq_true (by omega)]
    rfl
  rw [← w1]
  exact .fin hp (fun _ => .int r) (fun _ => .str _ (by rw [S_len]; omega))
/-- begins_with of what is right -/
theorem begins_k {b : Nat} {r r' : Int} {p p2 : Addr} {h q w : List Nat} {f : Nat → Nat} {H : Hp} {X Y : Prop} {Z : Int → List Nat → List Nat → Int → List Nat → Prop} {K : PySem.W.Frag} (hp : H p = some (.tup [.int r, .str (S h), .str (S q)])) (hp2 : H p2 = some (.tup [.int r', .str (S w)])) (r0 : 0 ≤ r) (r5 : r < 5000) (s0 : 0 ≤ r') (s5 : r' < 5000)
    (nf : Nf f h q) (hl : h.length ≤ 400) (ql : q.length ≤ 400) (wl : w.length ≤ 400) (wh : IsW b h) (wq : IsW b q) (ww : IsW b w) (k : Z r h q r' w) :
    ∀ n : Nat, V.int (b : Int) = .int (n : Int) → 2 ≤ n → n ≤ 5 → ∃ res, SF H n 5000 (.ref p) res ∧ (res = false → X) ∧ (res = true → ∃ res2, PF H n 5000 (.ref p2) res2 ∧ (res2 = false → Y) ∧
    (res2 = true → ∃ (p' p2' : Addr) (r1 r2 : Int) (h1 q1 w1 : List Nat), V.ref p = .ref p' ∧ V.ref p2 = .ref p2' ∧ SqT K H p' [.int r1, .str (S h1), .str (S q1)] ∧ SqT K H p2' [.int r2, .str (S w1)] ∧ 0 < q1.length ∧ q1.length ≤ 1000 ∧ h1.length ≤ 1000 ∧ w1.length ≤ 1000 ∧ Z r1 h1 q1 r2 w1)) := by
  intro n e _ _
  obtain rfl : b = n := Int.ofNat.inj (V.int.inj e)
  exact ⟨true, SF.right hp r0 (by omega) nf (by omega) (by omega) wh wq, fun z => (by cases z), fun _ => ⟨true, PF.right hp2 s0 s5 (by omega) ww, fun z => (by cases z), fun _ => ⟨p, p2, r, r', h, q, w, rfl, rfl, SqT.of hp, SqT.of hp2, nf.ne, by omega, by omega, by omega, k⟩⟩⟩
/-- replaced, of what is right -/
theorem replaced_k {b : Nat} {r r1 r2 : Int} {p p1 p2 : Addr} {h q u w : List Nat} {f : Nat → Nat} {H : Hp} {X Y O : Prop} {Z : Int → List Nat → List Nat → Addr → Prop} {K : PySem.W.Frag} (hp : H p = some (.tup [.int r, .str (S h), .str (S q)])) (hp1 : H p1 = some (.tup [.int r1, .str (S u)])) (hp2 : H p2 = some (.tup [.int r2, .str (S w)])) (r0 : 0 ≤ r) (r5 : r < 5000) (s0 : 0 ≤ r1) (s5 : r1 < 5000) (t0 : 0 ≤ r2) (t5 : r2 < 5000)
    (nf : Nf f h q) (hl : h.length ≤ 400) (ql : q.length ≤ 400) (ul : u.length ≤ 400) (wl : w.length ≤ 400) (wh : IsW b h) (wq : IsW b q) (wu : IsW b u) (ww : IsW b w) (k1 : underB r h q r1 u = false → O)
    (k2 : underB r h q r1 u = true → ∀ (h' q' : List Nat) (p' : Addr), Nf (shF w u.length (ev h q)) h' q' → h'.length ≤ w.length + h.length → q'.length ≤ q.length → (∀ c ∈ h', c ∈ w ∨ c ∈ h) → Sub q' q → H p' = none → Z r2 h' q' p') :
    ∀ n : Nat, V.int (b : Int) = .int (n : Int) → 2 ≤ n → n ≤ 5 → ∃ res, SF H n 5000 (.ref p) res ∧ (res = false → X) ∧ (res = true → ∃ res2, PF H n 5000 (.ref p1) res2 ∧ (res2 = false → Y) ∧
    (res2 = true → ∃ res3, PF H n 5000 (.ref p2) res3 ∧ (res3 = false → Y) ∧
    (res3 = true → ∃ (p' p1' p2' : Addr) (ra rb rc : Int) (h1 q1 u1 w1 : List Nat), V.ref p = .ref p' ∧ V.ref p1 = .ref p1' ∧ V.ref p2 = .ref p2' ∧ SqT K H p' [.int ra, .str (S h1), .str (S q1)] ∧ SqT K H p1' [.int rb, .str (S u1)] ∧ SqT K H p2' [.int rc, .str (S w1)] ∧ 0 < q1.length ∧ q1.length ≤ 400 ∧ h1.length ≤ 400 ∧ u1.length ≤ 400 ∧ w1.length ≤ 400 ∧
      (underB ra h1 q1 rb u1 = false → O) ∧ (underB ra h1 q1 rb u1 = true → ∀ (h' q' : List Nat) (p' : Addr), Nf (shF w1 u1.length (ev h1 q1)) h' q' → h'.length ≤ w1.length + h1.length → q'.length ≤ q1.length → (∀ c ∈ h', c ∈ w1 ∨ c ∈ h1) → Sub q' q1 → H p' = none → Z rc h' q' p')))) := by
  intro n e _ _
  obtain rfl : b = n := Int.ofNat.inj (V.int.inj e)
  exact ⟨true, SF.right hp r0 (by omega) nf (by omega) (by omega) wh wq, fun z => (by cases z), fun _ => ⟨true, PF.right hp1 s0 s5 (by omega) wu, fun z => (by cases z), fun _ => ⟨true, PF.right hp2 t0 t5 (by omega) ww, fun z => (by cases z), fun _ =>
    ⟨p, p1, p2, r, r1, r2, h, q, u, w, rfl, rfl, rfl, SqT.of hp, SqT.of hp1, SqT.of hp2, nf.ne, ql, hl, ul, wl, k1, k2⟩⟩⟩⟩
/-- beginning, of what is right -/
def spBegR : Sp := fun vs H Q _ => ∃ (b n : Nat) (p : Addr) (r : Int) (h q : List Nat), vs = [.int (b : Int), .ref p, .int (n : Int)] ∧ 2 ≤ b ∧ b ≤ 5 ∧ n ≤ 2000 ∧ H p = some (sO r h q) ∧ OkS b r h q ∧ Q (.str (S (begN h q n))) H
/-- make_stream, of what is right -/
def spMakeR : Sp := fun vs H Q _ => ∃ (b : Nat) (r : Int) (h q : List Nat), vs = [.int (b : Int), .int r, .str (S h), .str (S q)] ∧ 2 ≤ b ∧ b ≤ 5 ∧ 0 ≤ r ∧ r < 5000 ∧ IsW (b : Int) h ∧ IsW (b : Int) q ∧ 0 < q.length ∧ q.length ≤ 1000 ∧ h.length ≤ 1000 ∧
  ∀ (h' q' : List Nat) (p : Addr), Nf (ev h q) h' q' → h'.length ≤ h.length → q'.length ≤ q.length → Sub h' h → Sub q' q → H p = none → Q (.ref p) (upd H p (.tup [.int r, .str (S h'), .str (S q')]))
section
variable {P : Program} {w : World} {K : PySem.W.Frag} {mg : Str → Option Value} {base : Heap}
theorem scBeginning : FnScope ["base", "stream", "count"] ["base", "stream", "count"] (defScope sBeginning) := ⟨rfl, rfl, rfl, by decide +kernel, rfl, by decide +kernel, by decide +kernel⟩
theorem ok_beginning {f fB fS fN fL CN CS : Addr} {fd fdB fdS fdN fdL : FuncData} (F : Fun K "beginning" "beginning" sBeginning f fd) (GB : FnOk P w K mg base (L2.CX P w) 4 fB fdB ["base"] (spReqB CN 2 5)) (cB : Cal K mg "require_base" fB fdB ["base"])
    (GS : FnOk P w K mg base (L2.CX P w) 4 fS fdS ["base", "roots", "stream"] (spReqStream CS)) (cS : Cal K mg "require_stream" fS fdS ["base", "roots", "stream"])
    (GN : FnOk P w K mg base (L2.CX P w) 3 fN fdN ["low", "high", "number"] (spReqNum CN)) (cN : Cal K mg "require_number" fN fdN ["low", "high", "number"])
    (GL : FnOk P w K mg base CX0 1 fL fdL ["stream", "count"] (spLead K)) (cL : Cal K mg "leading_word" fL fdL ["stream", "count"]) (N : Nm mg) (mc : ∃ t, mg "MAX_COUNT" = some (.int 2000 t)) : FnOk P w K mg base (L2.CX P w) 5 f fd ["base", "stream", "count"] spBegR := by
  refine F.okX scBeginning (fun vs H Q E h => ?_) (fun cdv A outer s H vs Q E hr h => ?_)
  · obtain ⟨b, n, p, r, h, q, rfl, _⟩ := h
    rfl
  · obtain ⟨b, n, p, r, h, q, rfl, b2, b5, hn, hp, o, k⟩ := h
    obtain ⟨t2, m2⟩ := N.maxR
    obtain ⟨t3, m3⟩ := mc
    refine ⟨_, pss_cons (ps_expr (pe_call GB hr rfl cB.mg cB.kp cB.b .nil (passes_call (takes_of rfl rfl rfl rfl) (fun _ _ _ _ h => h)) (pa_cons (pv 0) pa_nil)))
      (pss_cons (ps_expr (pe_call GS hr rfl cS.mg cS.kp cS.b .nil (passes_call (takes_of rfl rfl rfl rfl) (fun _ _ _ _ h => h)) (pa_cons (pv 0) (pa_cons (pe_glob (v := .int 5000) rfl m2 ⟨_, rfl⟩) (pa_cons (pv 1) pa_nil)))))
      (pss_cons (ps_expr (pe_call GN (hr.mono (by decide)) rfl cN.mg cN.kp cN.b .nil (passes_call (takes_of rfl rfl rfl rfl) (fun _ _ _ _ h => h)) (pa_cons pe_int (pa_cons (pe_glob (v := .int 2000) rfl m3 ⟨_, rfl⟩) (pa_cons (pv 2) pa_nil)))))
      (pss_one (ps_ret (pe_call GL (hr.mono (by decide)) rfl cL.mg cL.kp cL.b .nil pass0 (pa_cons (pv 1) (pa_cons (pv 2) pa_nil))))))), ?_⟩
    have wn : withinV 0 2000 (.int (n : Int)) = true := by
      show (decide ((0 : Int) ≤ n) && decide ((n : Int) ≤ 2000)) = true
      rw [decide_eq_true (by omega), decide_eq_true (by omega)]
      rfl
    refine ⟨_, rfl, _, _, rfl, .int _, fun _ => ?_, fun z => absurd z (by rw [within_b b2 b5]; decide)⟩
    refine ⟨_, rfl, _, rfl, b, 5000, _, true, rfl, b2, b5, sf_ok hp o, fun _ => ?_, fun z => by cases z⟩
    refine ⟨_, rfl, 0, 2000, _, _, rfl, .int _, fun _ => ?_, fun z => absurd z (by rw [wn]; decide)⟩
    exact ⟨_, rfl, _, rfl, p, _, h, q, n, rfl, SqT.of hp, o.nf.ne, o.ql, by have := o.hl; omega, by omega, k⟩
theorem scMake : FnScope ["base", "root", "head", "period"] ["base", "root", "head", "period"] (defScope sMake) := ⟨rfl, rfl, rfl, by decide +kernel, rfl, by decide +kernel, by decide +kernel⟩
theorem ok_makeR {f fB fI fW fN CN CS : Addr} {fd fdB fdI fdW fdN : FuncData} (F : Fun K "make_stream" "make_stream" sMake f fd) (GB : FnOk P w K mg base (L2.CX P w) 4 fB fdB ["base"] (spReqB CN 2 5)) (cB : Cal K mg "require_base" fB fdB ["base"])
    (GI : FnOk P w K mg base CX0 2 fI fdI ["low", "high", "value"] spWithin) (cI : Cal K mg "is_integer_within" fI fdI ["low", "high", "value"])
    (GW : FnOk P w K mg base CX0 1 fW fdW ["base", "value"] spWordForm) (cW : Cal K mg "has_word_form" fW fdW ["base", "value"]) (GN : FnOk P w K mg base CX0 2 fN fdN ["root", "head", "period"] spNormal) (cN : Cal K mg "normal_stream" fN fdN ["root", "head", "period"])
    (TS : PfxTxt K mg "InvalidStream" CS) (N : Nm mg) : FnOk P w K mg base (L2.CX P w) 5 f fd ["base", "root", "head", "period"] spMakeR := by
  refine F.okX scMake (fun vs H Q E h => ?_) (fun cdv A outer s H vs Q E hr h => ?_)
  · obtain ⟨b, r, h, q, rfl, _⟩ := h
    rfl
  · obtain ⟨b, r, h, q, rfl, b2, b5, r0, r5, wh, wq, q0, ql, hl, k⟩ := h
    have hr2 := hr.mono (show 2 ≤ 4 by decide)
    have hr1 := hr.mono (show 1 ≤ 4 by decide)
    obtain ⟨t2, m2⟩ := N.maxR
    refine ⟨_, pss_cons (ps_expr (pe_call GB hr rfl cB.mg cB.kp cB.b .nil (passes_call (takes_of rfl rfl rfl rfl) (fun _ _ _ _ h => h)) (pa_cons (pv 0) pa_nil)))
      (pss_cons (ps_if (PW.pt (pw_or (pt_not (pt_val (pe_call GI hr2 rfl cI.mg cI.kp cI.b .nil pass0 (pa_cons pe_int (pa_cons (pe_op op_sub (pe_glob (v := .int 5000) rfl m2 ⟨_, rfl⟩) pe_int) (pa_cons (pv 1) pa_nil))))))
          (pw_or1 (pt_not (pt_val (pe_call GW hr1 rfl cW.mg cW.kp cW.b .nil pass0 (pa_cons (pv 0) (pa_cons (pv 2) pa_nil))))))))
        (pss_one (ps_raise rfl (takes_of rfl rfl rfl rfl) (pmk_own PySem.F.excBase_ValueError TS.ex TS.g TS.kp (raises_own TS.bs TS.ty) rfl))) pss_nil)
      (pss_cons (ps_if (PW.pt (pw_or (pt_not (pt_val (pe_call GW hr1 rfl cW.mg cW.kp cW.b .nil pass0 (pa_cons (pv 0) (pa_cons (pv 3) pa_nil)))))
          (pw_or1 (pt_cmpR op_eq (pv 3) pe_str (nomark _)))))
        (pss_one (ps_raise rfl (takes_of rfl rfl rfl rfl) (pmk_own PySem.F.excBase_ValueError TS.ex TS.g TS.kp (raises_own TS.bs TS.ty) rfl))) pss_nil)
      (pss_one (ps_ret (pe_call GN hr2 rfl cN.mg cN.kp cN.b .nil pass0 (pa_cons (pv 1) (pa_cons (pv 2) (pa_cons (pv 3) pa_nil)))))))), ?_⟩
    have ph : Pl H (.str (S h)) (.type "str") := .str _ (by rw [S_len]; omega)
    have pq : Pl H (.str (S q)) (.type "str") := .str _ (by rw [S_len]; omega)
    have w1 : withinV 0 (5000 - 1) (.int r) = true := by
      show (decide (0 ≤ r) && decide (r ≤ 5000 - 1)) = true
      rw [decide_eq_true r0, decide_eq_true (by omega)]
      rfl
    refine ⟨_, rfl, _, _, rfl, .int _, fun _ => ?_, fun z => absurd z (by rw [within_b b2 b5]; decide)⟩
    refine ⟨_, _, rfl, rfl, _, rfl, 0, 5000 - 1, .int r, _, rfl, .int _, _, rfl, ?_⟩
    rw [w1]
    refine iteF ?_
    refine ⟨_, rfl, _, rfl, b, _, _, rfl, b2, b5, ph, _, rfl, ?_⟩
    rw [wordV_of wh]
    refine iteF ?_
    refine ⟨_, rfl, _, rfl, b, _, _, rfl, b2, b5, pq, _, rfl, ?_⟩
    rw [wordV_of wq]
    refine iteF ?_
    refine ⟨_, rfl, rfl, _, rfl, ?_⟩
    refine iteFB (decide_eq_false (fun z => by rw [str_ne_empty.mp z] at q0; exact absurd q0 (Nat.lt_irrefl _))) ?_
    exact ⟨_, rfl, _, rfl, _, rfl, .int r, h, q, rfl, q0, ql, hl, k⟩
end
end Vf


set_option Elab.async false
set_option maxRecDepth 100000
set_option maxHeartbeats 8000000
set_option exponentiation.threshold 3000
/-! The law's look at one stream: its digits, its beginning, made again, compared. -/
namespace Vf
open PySem L2 SX Vm GZ
theorem glued_one : ∀ (l : List Nat) (acc : Array Nat), (l.map fun c => (⟨#[c]⟩ : Str)).foldl (fun acc p => acc ++ ("" : Str).cps ++ p.cps) acc = acc ++ l.toArray
  | [], acc => by simp
  | c :: l, acc => by
    rw [List.map_cons, List.foldl_cons, glued_one l, show ("" : Str).cps = #[] from rfl]
    simp
theorem join_one (l : List Nat) : Txt.join ("" : Str) (l.map fun c => (⟨#[c]⟩ : Str)) = S l := by
  unfold Txt.join PySem.Builtin.Str.glued
  cases l with
  | nil => rfl
  | cons c l =>
    show (⟨(l.map fun c => (⟨#[c]⟩ : Str)).foldl (fun acc p => acc ++ ("" : Str).cps ++ p.cps) #[c]⟩ : Str) = _
    rw [glued_one]
    simp [S]
theorem one_sum : ∀ l : List Nat, ((l.map fun c => (⟨#[c]⟩ : Str)).map (·.length)).sum = l.length
  | [] => rfl
  | c :: l => by
    rw [List.map_cons, List.map_cons, List.sum_cons, one_sum l, List.length_cons, Nat.add_comm]
    rfl
theorem dig_str {c b : Nat} (b5 : b ≤ 5) (h : 48 ≤ c ∧ (c : Int) < 48 + b) : (Str.ofString (toString ((c : Int) - 48))) = (⟨#[c]⟩ : Str) := by
  have hc : c = 48 ∨ c = 49 ∨ c = 50 ∨ c = 51 ∨ c = 52 := by omega
  rcases hc with e | e | e | e | e <;> subst e <;> decide +kernel
theorem ev_in {b : Nat} {h q : List Nat} (wh : IsW (b : Int) h) (wq : IsW (b : Int) q) (q0 : 0 < q.length) (i : Nat) : 48 ≤ ev h q i ∧ (ev h q i : Int) < 48 + b := by
  by_cases hi : i < h.length
  · rw [ev_lt hi, List.getD_eq_getElem?_getD, List.getElem?_eq_getElem hi]
    exact wh _ (List.getElem_mem hi)
  · rw [ev_ge (by omega)]
    unfold g
    have hm := Nat.mod_lt (i - h.length) q0
    rw [List.getD_eq_getElem?_getD, List.getElem?_eq_getElem hm]
    exact wq _ (List.getElem_mem hm)
theorem begN_isw {b : Nat} {h q : List Nat} {n : Nat} (wh : IsW (b : Int) h) (wq : IsW (b : Int) q) (q0 : 0 < q.length) : IsW (b : Int) (begN h q n) := fun c hc => by
  unfold begN at hc
  obtain ⟨i, _, e⟩ := List.mem_map.mp hc
  subst e
  exact ev_in wh wq q0 i
theorem begN_more {h q : List Nat} {i : Nat} : begN h q (i + 1) = begN h q i ++ [ev h q i] := by
  unfold begN
  rw [List.range_succ, List.map_append]
  rfl
theorem root_small {r : Int} (r0 : 0 ≤ r) (r5 : r < 5000) : r.natAbs.log2 < 1920 := by
  rcases Nat.eq_zero_or_pos r.natAbs with z | z
  · rw [z]
    decide
  · exact (Nat.log2_lt (by omega)).mpr (Nat.lt_trans (show r.natAbs < 5000 by omega) (by decide +kernel))
theorem tell_symm {h q h2 q2 : List Nat} : tell h q h2 q2 = tell h2 q2 h q := by
  unfold tell
  omega
theorem bef_asym {r r2 : Int} {h q h2 q2 : List Nat} (x : befB r h q r2 h2 q2 = true) : befB r2 h2 q2 r h q = false := by
  unfold befB at x ⊢
  by_cases c : r = r2
  · rw [if_pos c] at x
    rw [if_pos c.symm]
    rw [tell_symm (h := h2)]
    exact decide_eq_false fun z => List.lt_asymm (of_decide_eq_true x) z
  · rw [if_neg c] at x
    rw [if_neg fun z => c z.symm]
    have := of_decide_eq_true x
    exact decide_eq_false (by omega)
theorem bef_tot {r r2 : Int} {h q h2 q2 : List Nat} (n : Nf (ev h q) h q) (n2 : Nf (ev h2 q2) h2 q2) (x : befB r h q r2 h2 q2 = false) (y : befB r2 h2 q2 r h q = false) : r = r2 ∧ h = h2 ∧ q = q2 := by
  unfold befB at x y
  by_cases c : r = r2
  · rw [if_pos c] at x
    rw [if_pos c.symm, tell_symm (h := h2)] at y
    have a1 := of_decide_eq_false x
    have a2 := of_decide_eq_false y
    have e : begN h q (tell h q h2 q2) = begN h2 q2 (tell h q h2 q2) := List.le_antisymm (List.not_lt.mp a2) (List.not_lt.mp a1)
    exact ⟨c, nf_tell n n2 (begN_eq.mp e)⟩
  · rw [if_neg c] at x
    rw [if_neg fun z => c z.symm] at y
    have a1 := of_decide_eq_false x
    have a2 := of_decide_eq_false y
    omega
def spMadeRight : Sp := fun vs H Q _ => ∃ (v : V) (b : Nat) (p p2 : Addr) (r : Int) (h q : List Nat) (r2 : Int) (h2 q2 : List Nat), vs = [v, .int (b : Int), .ref p, .ref p2] ∧ 2 ≤ b ∧ b ≤ 5 ∧ H p = some (sO r h q) ∧ H p2 = some (sO r2 h2 q2) ∧ OkP b r h q ∧ OkP b r2 h2 q2 ∧
  ∀ H', Same H H' → Q (.bl true) H'
section
variable {P : Program} {w : World} {K : PySem.W.Frag} {mg : Str → Option Value} {base : Heap}
theorem scMadeRight : FnScope ["die", "base", "one", "other", "found", "word", "digit"] ["die", "base", "one", "other"] (defScope sMadeRight) := ⟨rfl, rfl, rfl, by decide +kernel, rfl, by decide +kernel, by decide +kernel⟩
theorem ok_maderight {f fD fB fS fG fM fR CN CS : Addr} {fd fdD fdB fdS fdG fdM fdR : FuncData} (F : Fun K "_law_made_right" "_law_made_right" sMadeRight f fd) (FD : Fun K "digits" "digits" sDigits fD fdD) (cD : Cal K mg "digits" fD fdD ["base", "stream"])
    (GB : FnOk P w K mg base (L2.CX P w) 4 fB fdB ["base"] (spReqB CN 2 5)) (cB : Cal K mg "require_base" fB fdB ["base"])
    (GS : FnOk P w K mg base (L2.CX P w) 4 fS fdS ["base", "roots", "stream"] (spReqStream CS)) (cS : Cal K mg "require_stream" fS fdS ["base", "roots", "stream"])
    (GG : FnOk P w K mg base (L2.CX P w) 5 fG fdG ["base", "stream", "count"] spBegR) (cG : Cal K mg "beginning" fG fdG ["base", "stream", "count"])
    (GM : FnOk P w K mg base (L2.CX P w) 5 fM fdM ["base", "root", "head", "period"] spMakeR) (cM : Cal K mg "make_stream" fM fdM ["base", "root", "head", "period"])
    (GR : FnOk P w K mg base (L2.CX P w) 6 fR fdR ["base", "first", "second"] (spPrecedes K CN CS)) (cR : Cal K mg "precedes" fR fdR ["base", "first", "second"])
    (N : Nm mg) (mz : mg "zip" = none) (nr : mg "range" = none) (ms : mg "str" = none) : FnOk P w K mg base CX0 8 f fd ["die", "base", "one", "other"] spMadeRight := by
  refine F.ok scMadeRight (fun vs H Q E h => ?_) (fun cdv A outer s H vs Q E hr h => ?_)
  · obtain ⟨v, b, p, p2, r, h, q, r2, h2, q2, rfl, _⟩ := h
    rfl
  · obtain ⟨v, b, p, p2, r, h, q, r2, h2, q2, rfl, b2, b5, hp, hp2, o, o2, k⟩ := h
    have nd := scMadeRight.nd
    have hr5 := hr.mono (show 5 ≤ 7 by decide)
    have hr6 := hr.mono (show 6 ≤ 7 by decide)
    have hun : A.units + 3 + 64 < cLine := hr.units
    refine ⟨_, pss_cons (ps_setLcZ (i := 4) FD cD GB cB GS cS N rfl hr nd rfl rfl (sw_true rfl rfl rfl rfl) rfl (by decide +kernel) (by decide +kernel) (by decide +kernel) (by decide +kernel) (by decide) (by rfl) mz (by rfl) nr (by rfl) pe_int (pa_cons (pv 1) (pa_cons (pv 2) pa_nil)) (by rfl) (by rfl) (by rfl) (by rfl) (by intro _; rfl))
      (pss_cons (ps_set (i := 5) nd rfl (.inl rfl) (pe_call GG hr5 rfl cG.mg cG.kp cG.b .nil (passes_call takes0 (fun _ _ _ _ h => h)) (pa_cons (pv 1) (pa_cons (pv 2) (pa_cons pe_int pa_nil)))))
      (pss_cons (ps_if (PW.pt (pw_or (pt_cmpR op_ne (pe_bm PySem.F.plainAttrs_str PySem.F.slot_str_join PySem.F.type_str_join mt_join pe_str (pa_cons (pe_lc (own := [("digit", 6)]) (g := gName 6) rfl nd (pi_list (pv 4))
            (blkOk_by (N := ["die", "base", "one", "other", "found", "word", "digit"]) (sc := defScope sMadeRight) (by decide +kernel)) (fun _ _ _ _ _ => pg_name (i := 6) nd rfl (Or.inl rfl))
            (fun _ _ _ _ _ => pts_nil) (fun _ _ _ _ _ => pe_callTy call_str_int (by rfl) ms PyProof.Rows.boot_str (pa_cons (pv 6) pa_nil))) pa_nil)) (pv 5) (nomark _))
          (pw_or1 (pt_cmpR (op_neD hun) (pe_call GM hr5 rfl cM.mg cM.kp cM.b .nil (passes_call takes0 (fun _ _ _ _ h => h)) (pa_cons (pv 1) (pa_cons (pe_ix ix_tup (pv 2) pe_int (fun _ _ => rfl)) (pa_cons (pe_ix ix_tup (pv 2) pe_int (fun _ _ => rfl)) (pa_cons (pe_op op_mul_str (pe_ix ix_tup (pv 2) pe_int (fun _ _ => rfl)) pe_int) pa_nil))))) (pv 2) (nomark _)))))
        (pss_one (ps_ret pe_bl)) pss_nil)
      (pss_cons (ps_if (PW.pt (pw_and (pt_val (pe_call GR hr6 rfl cR.mg cR.kp cR.b .nil (passes_call takes0 (fun _ _ _ _ h => h)) (pa_cons (pv 1) (pa_cons (pv 2) (pa_cons (pv 3) pa_nil)))))
          (pw_and1 (pt_val (pe_call GR hr6 rfl cR.mg cR.kp cR.b .nil (passes_call takes0 (fun _ _ _ _ h => h)) (pa_cons (pv 1) (pa_cons (pv 3) (pa_cons (pv 2) pa_nil))))))))
        (pss_one (ps_ret pe_bl)) pss_nil)
      (pss_one (ps_ret (pe_or (pe_call GR hr6 rfl cR.mg cR.kp cR.b .nil (passes_call takes0 (fun _ _ _ _ h => h)) (pa_cons (pv 1) (pa_cons (pv 2) (pa_cons (pv 3) pa_nil))))
        (pe_or (pe_call GR hr6 rfl cR.mg cR.kp cR.b .nil (passes_call takes0 (fun _ _ _ _ h => h)) (pa_cons (pv 1) (pa_cons (pv 3) (pa_cons (pv 2) pa_nil))))
        (pe_one (pe_cmpR (op_eqD hun) (pv 2) (pv 3) (nomark _)))))))))), ?_⟩
    refine ⟨30, rfl, by decide, _, rfl, _, rfl, b, p, r, h, q, rfl, b2, b5, hp, o.ok, fun D hD => ?_⟩
    have s1 : Same H (upd H D (.lst ((List.range 30).map fun j => dig (ev h q j)))) := same_new hD
    have g1 : upd H D (.lst ((List.range 30).map fun j => dig (ev h q j))) D = some (.lst ((List.range 30).map fun j => dig (ev h q j))) := upd_same
    generalize upd H D (.lst ((List.range 30).map fun j => dig (ev h q j))) = H1 at s1 g1 ⊢
    refine ⟨_, rfl, _, rfl, b, 30, p, r, h, q, rfl, b2, b5, by decide, s1 _ _ hp, o.ok, ?_⟩
    refine ⟨rfl, _, rfl, D, rfl, ⟨_, SqL.of g1⟩, fun D2 hD2 => ?_⟩
    refine lc_list (xs := (List.range 30).map fun j => dig (ev h q j)) (fun i Hy => Hy = upd H1 D2 (.lst ((begN h q i).map fun c => V.str ⟨#[c]⟩))) rfl ?_ ?_ ?_
    · rintro i Hy _ rfl
      exact SqL.of (same_new hD2 _ _ g1)
    · rintro i y Hy hy rfl
      obtain ⟨hi, rfl⟩ : i < 30 ∧ y = dig (ev h q i) := by
        rw [List.getElem?_map] at hy
        rcases Nat.lt_or_ge i 30 with c | c
        · rw [List.getElem?_range c] at hy
          exact ⟨c, (Option.some.inj hy).symm⟩
        · rw [List.getElem?_eq_none (by simpa using c)] at hy
          cases hy
      have er := ev_in o.wh o.wq o.nf.ne i
      refine ⟨rfl, _, rfl, _, rfl, ?_, _, upd_same, ?_, ?_⟩
      · have := er.1
        have := er.2
        exact root_small (by omega) (by omega)
      · rw [List.length_map, begN_len]
        exact Nat.lt_of_lt_of_le (show i < 30 by omega) (by decide)
      · rw [upd_upd', begN_more, List.map_append]
        show _ = upd H1 D2 (.lst (_ ++ [V.str ⟨#[ev h q i]⟩]))
        rw [← dig_str b5 er]
    · rintro Hy rfl
      have s2 : Same H1 (upd H1 D2 (.lst ((begN h q ((List.range 30).map fun j => dig (ev h q j)).length).map fun c => V.str ⟨#[c]⟩))) := same_new hD2
      have g2 : upd H1 D2 (.lst ((begN h q ((List.range 30).map fun j => dig (ev h q j)).length).map fun c => V.str ⟨#[c]⟩)) D2 = some (.lst (((begN h q 30).map fun c => (⟨#[c]⟩ : Str)).map V.str)) := by
        rw [upd_same, List.map_map, List.length_map, List.length_range]
        rfl
      generalize upd H1 D2 (.lst ((begN h q ((List.range 30).map fun j => dig (ev h q j)).length).map fun c => V.str ⟨#[c]⟩)) = H2 at s2 g2 ⊢
      refine ⟨_, D2, (begN h q 30).map fun c => (⟨#[c]⟩ : Str), rfl, rfl, .inl (SqL.of g2), ?_, ?_⟩
      · rw [one_sum, begN_len, List.length_map, begN_len]
        decide
      rw [join_one]
      refine ⟨_, rfl, rfl, _, rfl, ?_⟩
      refine iteFB (by rw [decide_eq_true rfl]; rfl) ?_
      have S12 : Same H H2 := fun _ _ e => s2 _ _ (s1 _ _ e)
      have p2' := S12 _ _ hp2
      replace hp := S12 _ _ hp
      have q0 := o.nf.ne
      have ql := o.ql
      have hl := o.hl
      have bI : (b : Int) ≤ 5 := by omega
      refine ⟨_, rfl, _, rfl, p, _, _, _, rfl, rfl, SqT.of hp, rfl, _, rfl, p, _, _, _, rfl, rfl, SqT.of hp, rfl, _, rfl, p, _, _, _, rfl, rfl, SqT.of hp, rfl, q, 2, rfl, rfl, by decide, by omega, by omega, ?_⟩
      have lq : ((List.replicate 2 q).flatten).length = 2 * q.length := rep_len
      refine ⟨b, r, h, (List.replicate 2 q).flatten, rfl, b2, b5, o.r0, by have := o.r1; omega, o.wh, o.wq.of fun c hc => ?_, by omega, by omega, by omega, fun h' q' pm nm l1 l2 sb1 sb2 npm => ?_⟩
      · obtain ⟨l, hl, hc⟩ := List.mem_flatten.mp hc
        rw [List.eq_of_mem_replicate hl] at hc
        exact hc
      obtain ⟨rfl, rfl⟩ := o.nf.unique (nf_congr nm fun i => ev_rep (by decide) i)
      have s3 : Same H2 (upd H2 pm (.tup [.int r, .str (S h), .str (S q)])) := same_new npm
      have g3 : upd H2 pm (.tup [.int r, .str (S h), .str (S q)]) pm = some (.tup [.int r, .str (S h), .str (S q)]) := upd_same
      generalize upd H2 pm (.tup [.int r, .str (S h), .str (S q)]) = H3 at s3 g3 ⊢
      have sh1 := shaped3 (r := r) (isW_small bI o.wh) (isW_small bI o.wq)
      have e3 := s3 _ _ hp
      have e32 := s3 _ _ p2'
      have SA : Same H H3 := fun _ _ e => s3 _ _ (S12 _ _ e)
      refine ⟨_, rfl, .tuple [.int r, .str (S h), .str (S q)], .tuple [.int r, .str (S h), .str (S q)], .tup (SqT.of g3) (.cons (.int r) (.cons (.str _) (.cons (.str _) .nil))), .tup (SqT.of e3) (.cons (.int r) (.cons (.str _) (.cons (.str _) .nil))), sh1, sh1, _, rfl, ?_⟩
      refine iteFB (by rw [eqv3, decide_eq_true ⟨rfl, rfl⟩]; rfl) ?_
      refine ⟨_, rfl, _, rfl, _, rfl, _, _, _, rfl, TwoS.right b2 b5 e3 e32 o.ok o2.ok ?_⟩
      refine ⟨_, rfl, ?_⟩
      cases hb : befB r h q r2 h2 q2 with
      | true =>
        refine iteTB rfl ?_
        refine ⟨_, rfl, _, rfl, _, rfl, _, _, _, rfl, TwoS.right b2 b5 e32 e3 o2.ok o.ok ?_⟩
        refine ⟨_, rfl, ?_⟩
        rw [bef_asym hb]
        refine iteFB rfl ?_
        refine ⟨_, rfl, _, rfl, _, rfl, _, _, _, rfl, TwoS.right b2 b5 e3 e32 o.ok o2.ok ?_⟩
        refine ⟨_, rfl, ?_⟩
        rw [hb]
        exact iteTB rfl (k _ SA)
      | false =>
        refine iteFB rfl ?_
        refine iteFB rfl ?_
        refine ⟨_, rfl, _, rfl, _, rfl, _, _, _, rfl, TwoS.right b2 b5 e3 e32 o.ok o2.ok ?_⟩
        refine ⟨_, rfl, ?_⟩
        rw [hb]
        refine iteFB rfl ?_
        refine ⟨_, rfl, _, rfl, _, rfl, _, _, _, rfl, TwoS.right b2 b5 e32 e3 o2.ok o.ok ?_⟩
        refine ⟨_, rfl, ?_⟩
        cases hb2 : befB r2 h2 q2 r h q with
        | true => exact iteTB rfl (k _ SA)
        | false =>
          refine iteFB rfl ?_
          obtain ⟨rfl, rfl, rfl⟩ := bef_tot o.nf o2.nf hb hb2
          refine ⟨_, rfl, _, rfl, .tuple [.int r, .str (S h), .str (S q)], .tuple [.int r, .str (S h), .str (S q)], .tup (SqT.of e3) (.cons (.int r) (.cons (.str _) (.cons (.str _) .nil))), .tup (SqT.of e32) (.cons (.int r) (.cons (.str _) (.cons (.str _) .nil))), sh1, sh1, ?_⟩
          rw [eqv3, decide_eq_true ⟨rfl, rfl⟩]
          exact k _ SA
end
end Vf


set_option Elab.async false
set_option maxRecDepth 100000
set_option maxHeartbeats 16000000
set_option exponentiation.threshold 3000
/-! The law's look at two streams. -/
namespace Vf
open PySem L2 SX Vm GZ
def spRight6 : Sp := fun vs H Q _ => ∃ (a : Addr) (d : Int × Int × Int) (b : Nat), vs = [.ref a, .int (b : Int)] ∧ H a = some (.lst (dieL d)) ∧ DieOk d ∧ d.2.2 ≤ 800000000 ∧ 2 ≤ b ∧ b ≤ 5 ∧
  ∀ (d' : Int × Int × Int) (H' : Hp), DieOk d' → d'.2.2 ≤ d.2.2 + 200 → Kp a H H' → H' a = some (.lst (dieL d')) → Q (.bl true) H'
theorem sh_eq {m n : Nat} {a b : Nat → Nat} {w : List Nat} (e : ∀ i, a (i + m) = b (i + n)) : shF w m a = shF w n b := funext fun i => by
  rcases Nat.lt_or_ge i w.length with c | c
  · rw [shF_lt c, shF_lt c]
  · rw [shF_ge c, shF_ge c, e]
theorem sh_other {m n : Nat} {h q h2 q2 : List Nat} (e : Eq2 h q h2 q2 m n) : shF (begN h2 q2 n) m (ev h q) = ev h2 q2 := funext fun i => by
  rcases Nat.lt_or_ge i n with c | c
  · rw [shF_lt (by rw [begN_len]; exact c), begN_get c]
  · rw [shF_ge (by rw [begN_len]; exact c), begN_len, e, Nat.sub_add_cancel c]
theorem under_self {r : Int} {h q : List Nat} {m : Nat} : underB r h q r (begN h q m) = true := by
  unfold underB
  rw [decide_eq_true rfl, begN_len, decide_eq_true rfl]
  rfl
theorem tuple2_len (a b : Str) : (PySem.tupleText [a, b]).length = a.length + b.length + 4 := by
  unfold PySem.tupleText
  have h := PySem.join_length_add [a, b] (by simp)
  have e : PySem.piled [a, b] = a.length + 2 + (b.length + 2) := by simp [PySem.piled]
  have e1 : ("(" : Str).length = 1 := by decide +kernel
  have e2 : (Str.ofString (if [a, b].length == 1 then ",)" else ")" : String)).length = 1 := by
    show (Str.ofString ")").length = 1
    decide +kernel
  have ap : ∀ x y : Str, (x ++ y).length = x.length + y.length := fun x y => by show (x.cps ++ y.cps).size = _; rw [Array.size_append]; rfl
  rw [ap, ap, e1, e2]
  omega
theorem shown_ints {m n : Nat} (hm : m < 5000) (hn : n < 5000) : (PyData.tuple [.int (m : Int), .int (n : Int)]).showable = true ∧ (PyData.tuple [.int (m : Int), .int (n : Int)]).shown.length ≤ sizeLine := by
  have a1 := root_small (r := (m : Int)) (by omega) (by omega)
  have a2 := root_small (r := (n : Int)) (by omega) (by omega)
  constructor
  · show (decide ((m : Int).natAbs.log2 < 1920) && (decide ((n : Int).natAbs.log2 < 1920) && true)) = true
    rw [decide_eq_true a1, decide_eq_true a2]
    rfl
  · show (PySem.tupleText [Str.ofString (toString (m : Int)), Str.ofString (toString (n : Int))]).length ≤ sizeLine
    rw [tuple2_len]
    have h1 := PyProof.Rows.int_text_len_1921 a1
    have h2 := PyProof.Rows.int_text_len_1921 a2
    exact Nat.le_trans (show _ ≤ 30000 by omega) (by decide)
section
variable {P : Program} {w : World} {K : PySem.W.Frag} {mg : Str → Option Value} {base : Heap}
theorem scRight6 : FnScope ["die", "base", "one", "other", "first", "second", "pair", "olds", "new"] ["die", "base"] (defScope sRight) := ⟨rfl, rfl, rfl, by decide +kernel, rfl, by decide +kernel, by decide +kernel⟩
theorem ok_right6 {f fP fT fF fG fW fB fR fM CN CS CX CO : Addr} {fd fdP fdT fdF fdG fdW fdB fdR fdM : FuncData} (F : Fun K "_law_right" "_law_right" sRight f fd)
    (GP : FnOk P w K mg base CX0 4 fP fdP ["die", "base"] spLPair) (cP : Cal K mg "_law_pair" fP fdP ["die", "base"])
    (GT : FnOk P w K mg base (L2.CX P w) 6 fT fdT ["base", "first", "second"] (spTailShift K CN CS)) (cT : Cal K mg "tail_shift" fT fdT ["base", "first", "second"])
    (GF : FnOk P w K mg base CX0 3 fF fdF ["one", "other"] spFirstPair) (cF : Cal K mg "_law_first_pair" fF fdF ["one", "other"])
    (GG : FnOk P w K mg base CX0 1 fG fdG ["stream", "many"] (spLBeg K)) (cG : Cal K mg "_law_beginning" fG fdG ["stream", "many"])
    (GW : FnOk P w K mg base CX0 2 fW fdW ["die", "base", "high"] spWord) (cW : Cal K mg "_law_word" fW fdW ["die", "base", "high"])
    (GB : FnOk P w K mg base (L2.CX P w) 5 fB fdB ["base", "stream", "prefix"] (spBegins K CN CS CX)) (cB : Cal K mg "begins_with" fB fdB ["base", "stream", "prefix"])
    (GR : FnOk P w K mg base (L2.CX P w) 5 fR fdR ["base", "stream", "old", "new"] (spReplaced K CN CS CX CO)) (cR : Cal K mg "replaced" fR fdR ["base", "stream", "old", "new"])
    (GM : FnOk P w K mg base CX0 8 fM fdM ["die", "base", "one", "other"] spMadeRight) (cM : Cal K mg "_law_made_right" fM fdM ["die", "base", "one", "other"])
    (rep : mg "repr" = none) : VG.FnG P w K mg base 9 f fd ["die", "base"] spRight6 := by
  refine VG.FnG.of F scRight6 (fun vs H Q E h => ?_) (fun cdv A outer s H vs Q E gd hr _ hlk h => ?_)
  · obtain ⟨a, d, b, rfl, _⟩ := h
    rfl
  · obtain ⟨a, d, b, rfl, ha, hd, hc, b2, b5, k⟩ := h
    have nd := scRight6.nd
    have hr1 := hr.mono (show 1 ≤ 8 by decide)
    have hr2 := hr.mono (show 2 ≤ 8 by decide)
    have hr3 := hr.mono (show 3 ≤ 8 by decide)
    have hr4 := hr.mono (show 4 ≤ 8 by decide)
    have hr5 := hr.mono (show 5 ≤ 8 by decide)
    have hr6 := hr.mono (show 6 ≤ 8 by decide)
    have hun : A.units + 3 + 64 < cLine := hr.units
    refine ⟨_, pss_cons (ps_asg (pe_call GP hr4 rfl cP.mg cP.kp cP.b .nil pass0 (pa_cons (pv 0) (pa_cons (pv 1) pa_nil))) (pg_tup rfl (pgs_cons (pg_name (i := 2) nd rfl (.inl rfl)) (pgs_cons (pg_name (i := 3) nd rfl (.inl rfl)) pgs_nil))))
      (pss_cons (ps_for PassesOwn.never rfl (pi_tup (pe_tup (pa_cons (pe_tup (pa_cons (pv 2) (pa_cons (pv 3) pa_nil))) (pa_cons (pe_tup (pa_cons (pv 3) (pa_cons (pv 2) pa_nil))) (pa_cons (pe_tup (pa_cons (pv 2) (pa_cons (pv 2) pa_nil))) pa_nil)))))
          (pg_tup rfl (pgs_cons (pg_name (i := 4) nd rfl (.inl rfl)) (pgs_cons (pg_name (i := 5) nd rfl (.inl rfl)) pgs_nil)))
        (pss_cons (ps_set (i := 6) nd rfl (.inl rfl) (pe_call GT hr6 rfl cT.mg cT.kp cT.b .nil (passes_call takes0 (fun _ _ _ _ h => h)) (pa_cons (pv 1) (pa_cons (pv 4) (pa_cons (pv 5) pa_nil)))))
        (pss_cons (ps_if (pt_cmpR op_ne (pe_callB (VG.call_repr gd (by show A.units + 3 + 10 < cLine; omega)) (by rfl) rep PyProof.Rows.boot_repr (pa_cons (pv 6) pa_nil)) (pe_callB (VG.call_repr gd (by show A.units + 3 + 10 < cLine; omega)) (by rfl) rep PyProof.Rows.boot_repr (pa_cons (pe_call GF hr3 rfl cF.mg cF.kp cF.b .nil pass0 (pa_cons (pv 4) (pa_cons (pv 5) pa_nil))) pa_nil)) (nomark _)) (pss_one (ps_ret pe_bl)) pss_nil)
        (pss_cons (ps_if (pt_cmpR op_ne (pe_callB (VG.call_repr gd (by show A.units + 3 + 10 < cLine; omega)) (by rfl) rep PyProof.Rows.boot_repr (pa_cons (pe_call GT hr6 rfl cT.mg cT.kp cT.b .nil (passes_call takes0 (fun _ _ _ _ h => h)) (pa_cons (pv 1) (pa_cons (pv 4) (pa_cons (pv 5) pa_nil)))) pa_nil)) (pe_callB (VG.call_repr gd (by show A.units + 3 + 10 < cLine; omega)) (by rfl) rep PyProof.Rows.boot_repr (pa_cons (pv 6) pa_nil)) (nomark _)) (pss_one (ps_ret pe_bl)) pss_nil)
        (pss_one (ps_if (pt_cmpR op_notN (pv 6) pe_non (nomark _))
          (pss_cons (ps_set (i := 7) nd rfl (.inl rfl) (pe_lst (pa_cons (pe_tup (pa_cons (pe_ix ix_tup (pv 4) pe_int (fun _ _ => rfl)) (pa_cons (pe_call GG hr1 rfl cG.mg cG.kp cG.b .nil pass0 (pa_cons (pv 4) (pa_cons (pe_ix ix_tup (pv 6) pe_int (fun _ _ => rfl)) pa_nil))) pa_nil))) (pa_cons (pe_tup (pa_cons (pe_ix ix_tup (pv 5) pe_int (fun _ _ => rfl)) (pa_cons (pe_call GG hr1 rfl cG.mg cG.kp cG.b .nil pass0 (pa_cons (pv 5) (pa_cons (pe_ix ix_tup (pv 6) pe_int (fun _ _ => rfl)) pa_nil))) pa_nil))) pa_nil))))
          (pss_cons (ps_set (i := 8) nd rfl (.inl rfl) (pe_tup (pa_cons pe_int (pa_cons (pe_call GW hr2 rfl cW.mg cW.kp cW.b .nil pass0 (pa_cons (pv 0) (pa_cons (pv 1) (pa_cons pe_int pa_nil)))) pa_nil))))
          (pss_cons (ps_if (PW.pt (pw_or (pt_not (pt_val (pe_call GB hr5 rfl cB.mg cB.kp cB.b .nil (passes_call takes0 (fun _ _ _ _ h => h)) (pa_cons (pv 1) (pa_cons (pv 4) (pa_cons (pe_ix ix_list (pv 7) pe_int (fun _ _ => rfl)) pa_nil))))))
              (pw_or1 (pt_not (pt_val (pe_call GB hr5 rfl cB.mg cB.kp cB.b .nil (passes_call takes0 (fun _ _ _ _ h => h)) (pa_cons (pv 1) (pa_cons (pv 5) (pa_cons (pe_ix ix_list (pv 7) pe_int (fun _ _ => rfl)) pa_nil))))))))) (pss_one (ps_ret pe_bl)) pss_nil)
          (pss_cons (ps_if (pt_cmpR (op_neD hun) (pe_call GR hr5 rfl cR.mg cR.kp cR.b .nil (passes_call takes0 (fun _ _ _ _ h => h)) (pa_cons (pv 1) (pa_cons (pv 4) (pa_cons (pe_ix ix_list (pv 7) pe_int (fun _ _ => rfl)) (pa_cons (pv 8) pa_nil))))) (pe_call GR hr5 rfl cR.mg cR.kp cR.b .nil (passes_call takes0 (fun _ _ _ _ h => h)) (pa_cons (pv 1) (pa_cons (pv 5) (pa_cons (pe_ix ix_list (pv 7) pe_int (fun _ _ => rfl)) (pa_cons (pv 8) pa_nil))))) (nomark _)) (pss_one (ps_ret pe_bl)) pss_nil)
          (pss_cons (ps_if (pt_cmpR (op_neD hun) (pe_call GR hr5 rfl cR.mg cR.kp cR.b .nil (passes_call takes0 (fun _ _ _ _ h => h)) (pa_cons (pv 1) (pa_cons (pv 4) (pa_cons (pe_ix ix_list (pv 7) pe_int (fun _ _ => rfl)) (pa_cons (pe_ix ix_list (pv 7) pe_int (fun _ _ => rfl)) pa_nil))))) (pv 5) (nomark _)) (pss_one (ps_ret pe_bl)) pss_nil)
          (pss_one (ps_if (pt_cmpR (op_neD hun) (pe_call GR hr5 rfl cR.mg cR.kp cR.b .nil (passes_call takes0 (fun _ _ _ _ h => h)) (pa_cons (pv 1) (pa_cons (pv 5) (pa_cons (pe_ix ix_list (pv 7) pe_int (fun _ _ => rfl)) (pa_cons (pe_ix ix_list (pv 7) pe_int (fun _ _ => rfl)) pa_nil))))) (pv 4) (nomark _)) (pss_one (ps_ret pe_bl)) pss_nil)))))))
          pss_nil))))))
      (pss_one (ps_ret (pe_call GM hr rfl cM.mg cM.kp cM.b .nil pass0 (pa_cons (pv 0) (pa_cons (pv 1) (pa_cons (pv 2) (pa_cons (pv 3) pa_nil)))))))), ?_⟩
    refine ⟨_, rfl, _, rfl, a, d, b, rfl, ha, hd, by omega, b2, b5, fun p p2 t r h q r2 h2 q2 d1 H1 o o2 hd1 hc1 kp1 a1 e1 e2 et => ?_⟩
    refine ⟨t, _, rfl, SqT.of et, rfl, _, _, rfl, _, _, rfl, rfl, ?_⟩
    refine ⟨_, rfl, _, rfl, (by show 2 ≤ sizeLine; decide), fun t1 nt1 => ?_⟩
    have s1 : Same H1 (upd H1 t1 (.tup [.ref p, .ref p2])) := same_new nt1
    have g1 : upd H1 t1 (.tup [.ref p, .ref p2]) t1 = some (.tup [.ref p, .ref p2]) := upd_same
    generalize upd H1 t1 (.tup [.ref p, .ref p2]) = J1 at s1 g1 ⊢
    refine ⟨_, rfl, _, rfl, (by show 2 ≤ sizeLine; decide), fun t2 nt2 => ?_⟩
    have s2 : Same J1 (upd J1 t2 (.tup [.ref p2, .ref p])) := same_new nt2
    have g2 : upd J1 t2 (.tup [.ref p2, .ref p]) t2 = some (.tup [.ref p2, .ref p]) := upd_same
    generalize upd J1 t2 (.tup [.ref p2, .ref p]) = J2 at s2 g2 ⊢
    refine ⟨_, rfl, _, rfl, (by show 2 ≤ sizeLine; decide), fun t3 nt3 => ?_⟩
    have s3 : Same J2 (upd J2 t3 (.tup [.ref p, .ref p])) := same_new nt3
    have g3 : upd J2 t3 (.tup [.ref p, .ref p]) t3 = some (.tup [.ref p, .ref p]) := upd_same
    generalize upd J2 t3 (.tup [.ref p, .ref p]) = J3 at s3 g3 ⊢
    refine ⟨(by show 3 ≤ sizeLine; decide), fun tt ntt => ?_⟩
    have s4 : Same J3 (upd J3 tt (.tup [.ref t1, .ref t2, .ref t3])) := same_new ntt
    have g4 : upd J3 tt (.tup [.ref t1, .ref t2, .ref t3]) tt = some (.tup [.ref t1, .ref t2, .ref t3]) := upd_same
    generalize upd J3 tt (.tup [.ref t1, .ref t2, .ref t3]) = J4 at s4 g4 ⊢
    have S14 : Same H1 J4 := fun _ _ e => s4 _ _ (s3 _ _ (s2 _ _ (s1 _ _ e)))
    replace g1 := s4 _ _ (s3 _ _ (s2 _ _ g1))
    replace g2 := s4 _ _ (s3 _ _ g2)
    replace g3 := s4 _ _ g3
    have a4 := S14 _ _ a1
    have ep := S14 _ _ e1
    have ep2 := S14 _ _ e2
    have nA : ∀ {J : Hp} {c : Addr} {dd : Int × Int × Int} {x : List V}, J a = some (.lst (dieL dd)) → J c = some (.tup x) → c ≠ a := fun h1 h2 z => by rw [z, h1] at h2; cases h2
    have kp4 : Kp a H J4 := kp1.trans (Kp.same S14)
    clear s1 s2 s3 s4 nt1 nt2 nt3 ntt S14
    refine ⟨tt, rfl, ⟨_, SqT.of g4⟩, for_tup (xs := [.ref t1, .ref t2, .ref t3]) (fun i σ Hx => ∃ (u4 u5 u6 u7 u8 : Option V) (dx : Int × Int × Int), σ = [some (.ref a), some (.int (b : Int)), some (.ref p), some (.ref p2), u4, u5, u6, u7, u8] ∧ Kp a J4 Hx ∧ Hx a = some (.lst (dieL dx)) ∧ DieOk dx ∧ dx.2.2 ≤ d.2.2 + 100 + 10 * (i : Int)) ?_ ?_ ?_ ?_⟩
    · exact ⟨_, _, _, _, _, d1, rfl, Kp.refl _ _, a4, hd1, by omega⟩
    · rintro i σ Hx _ ⟨u4, u5, u6, u7, u8, dx, rfl, kx, ax, _⟩
      exact SqT.of (kx _ _ (nA a4 g4) g4)
    · rintro i v σ Hx hv ⟨u4, u5, u6, u7, u8, dx, rfl, kx, ax, hdx, hcx⟩
      have hi3 : i < 3 := (List.getElem?_eq_some_iff.mp hv).1
      obtain ⟨ti, x, y, rx, hx, qx, ry, hy, qy, rfl, gi, ex, ey, ox, oy⟩ : ∃ (ti x y : Addr) (rx : Int) (hx qx : List Nat) (ry : Int) (hy qy : List Nat), v = .ref ti ∧ Hx ti = some (.tup [.ref x, .ref y]) ∧ Hx x = some (sO rx hx qx) ∧ Hx y = some (sO ry hy qy) ∧ OkP b rx hx qx ∧ OkP b ry hy qy := by
        obtain rfl | rfl | rfl : i = 0 ∨ i = 1 ∨ i = 2 := by omega
        · exact ⟨t1, p, p2, r, h, q, r2, h2, q2, (Option.some.inj hv).symm, kx _ _ (nA a4 g1) g1, kx _ _ (nA a4 ep) ep, kx _ _ (nA a4 ep2) ep2, o, o2⟩
        · exact ⟨t2, p2, p, r2, h2, q2, r, h, q, (Option.some.inj hv).symm, kx _ _ (nA a4 g2) g2, kx _ _ (nA a4 ep2) ep2, kx _ _ (nA a4 ep) ep, o2, o⟩
        · exact ⟨t3, p, p, r, h, q, r, h, q, (Option.some.inj hv).symm, kx _ _ (nA a4 g3) g3, kx _ _ (nA a4 ep) ep, kx _ _ (nA a4 ep) ep, o, o⟩
      have sx := ox.small b5
      have sy := oy.small b5
      have lx := ox.hl
      have mx := ox.ql
      have ly := oy.hl
      have my := oy.ql
      refine ⟨ti, _, rfl, SqT.of gi, rfl, _, _, rfl, _, _, rfl, rfl, ?_⟩
      refine ⟨_, rfl, _, rfl, _, rfl, _, _, _, rfl, TwoS.right b2 b5 ex ey ox.ok oy.ok ⟨fun rn => ?_, fun m n rs tr ntr => ?_⟩⟩
      · have nl : (PyData.none).shown.length ≤ sizeLine := by decide +kernel
        refine ⟨_, rfl, .non, .none, rfl, .fl .non, rfl, nl, _, rfl, _, rfl, x, y, _, _, hx, qx, hy, qy, rfl, ex, ey, ox.nf, oy.nf, by omega, by omega, by omega, by omega, sx, sy, fun K1 sm => ⟨fun _ => ?_, fun m n rs => by cases Res.unique rn rs⟩⟩
        refine ⟨.non, .none, rfl, .fl .non, rfl, nl, rfl, _, rfl, ?_⟩
        refine iteFB (by rw [decide_eq_true rfl]; rfl) ?_
        refine ⟨_, rfl, _, rfl, _, rfl, _, _, _, rfl, TwoS.right b2 b5 (sm _ _ ex) (sm _ _ ey) ox.ok oy.ok ⟨fun _ => ?_, fun m n rs => by cases Res.unique rn rs⟩⟩
        refine ⟨.non, .none, rfl, .fl .non, rfl, nl, _, rfl, .non, .none, rfl, .fl .non, rfl, nl, rfl, _, rfl, ?_⟩
        refine iteFB (by rw [decide_eq_true rfl]; rfl) ?_
        refine ⟨_, rfl, rfl, _, rfl, ?_⟩
        refine iteFB (by rw [decide_eq_true rfl]; rfl) ?_
        exact ⟨_, _, _, _, _, dx, rfl, kx.trans (Kp.same sm), sm _ _ ax, hdx, by omega⟩
      · have eq2 : Eq2 hx qx hy qy m n := rs.1
        have hm : m < hx.length + qx.length := rs.2.1
        have hn : n < hy.length + qy.length := rs.2.2.1
        obtain ⟨shw, shl⟩ := shown_ints (m := m) (n := n) (by omega) (by omega)
        have q0x := ox.nf.ne
        have q0y := oy.nf.ne
        have rx0 := ox.r0
        have rx1 := ox.r1
        have ry0 := oy.r0
        have ry1 := oy.r1
        have bI : (b : Int) ≤ 5 := by omega
        have sA : Same Hx (upd Hx tr (.tup [.int (m : Int), .int (n : Int)])) := same_new ntr
        have gr : upd Hx tr (.tup [.int (m : Int), .int (n : Int)]) tr = some (.tup [.int (m : Int), .int (n : Int)]) := upd_same
        generalize upd Hx tr (.tup [.int (m : Int), .int (n : Int)]) = K0 at sA gr ⊢
        refine ⟨_, rfl, .ref tr, .tuple [.int (m : Int), .int (n : Int)], rfl, .tup gr (.cons (.int _) (.cons (.int _) .nil)), shw, shl, _, rfl, _, rfl, x, y, _, _, hx, qx, hy, qy, rfl, sA _ _ ex, sA _ _ ey, ox.nf, oy.nf, by omega, by omega, by omega, by omega, sx, sy, fun K1 sm => ⟨fun rn => (by cases Res.unique rs rn), fun m' n' rs' tr2 ntr2 => ?_⟩⟩
        obtain ⟨rfl, rfl⟩ : m = m' ∧ n = n' := by
          cases Res.unique rs rs'
          exact ⟨rfl, rfl⟩
        have sB : Same K1 (upd K1 tr2 (.tup [.int (m : Int), .int (n : Int)])) := same_new ntr2
        have gr2 : upd K1 tr2 (.tup [.int (m : Int), .int (n : Int)]) tr2 = some (.tup [.int (m : Int), .int (n : Int)]) := upd_same
        generalize upd K1 tr2 (.tup [.int (m : Int), .int (n : Int)]) = K2 at sB gr2 ⊢
        have SC : Same Hx K2 := fun _ _ e => sB _ _ (sm _ _ (sA _ _ e))
        replace gr := sB _ _ (sm _ _ gr)
        clear sA sB sm ntr ntr2
        refine ⟨.ref tr2, .tuple [.int (m : Int), .int (n : Int)], rfl, .tup gr2 (.cons (.int _) (.cons (.int _) .nil)), shw, shl, rfl, _, rfl, ?_⟩
        refine iteFB (by rw [decide_eq_true rfl]; rfl) ?_
        refine ⟨_, rfl, _, rfl, _, rfl, _, _, _, rfl, TwoS.right b2 b5 (SC _ _ ex) (SC _ _ ey) ox.ok oy.ok ⟨fun rn => (by cases Res.unique rs rn), fun m' n' rs' tr3 ntr3 => ?_⟩⟩
        obtain ⟨rfl, rfl⟩ : m = m' ∧ n = n' := by
          cases Res.unique rs rs'
          exact ⟨rfl, rfl⟩
        have sB : Same K2 (upd K2 tr3 (.tup [.int (m : Int), .int (n : Int)])) := same_new ntr3
        have gr3 : upd K2 tr3 (.tup [.int (m : Int), .int (n : Int)]) tr3 = some (.tup [.int (m : Int), .int (n : Int)]) := upd_same
        generalize upd K2 tr3 (.tup [.int (m : Int), .int (n : Int)]) = K3 at sB gr3 ⊢
        have SD : Same Hx K3 := fun _ _ e => sB _ _ (SC _ _ e)
        replace gr := sB _ _ gr
        clear sB SC ntr3 gr2
        refine ⟨.ref tr3, .tuple [.int (m : Int), .int (n : Int)], rfl, .tup gr3 (.cons (.int _) (.cons (.int _) .nil)), shw, shl, _, rfl, .ref tr, .tuple [.int (m : Int), .int (n : Int)], rfl, .tup gr (.cons (.int _) (.cons (.int _) .nil)), shw, shl, rfl, _, rfl, ?_⟩
        refine iteFB (by rw [decide_eq_true rfl]; rfl) ?_
        clear gr3
        refine ⟨_, rfl, rfl, _, rfl, ?_⟩
        refine iteTB (by rw [decide_eq_false (fun z => by cases z)]; rfl) ?_
        -- the two beginnings
        have ex3 := SD _ _ ex
        have ey3 := SD _ _ ey
        refine ⟨_, rfl, x, _, _, _, rfl, rfl, SqT.of ex3, rfl, _, rfl, _, rfl, tr, _, _, _, rfl, rfl, SqT.of gr, rfl, x, _, hx, qx, m, rfl, SqT.of ex3, q0x, by omega, by omega, by omega, ?_⟩
        rw [beg_N (by
          have := Nat.lt_div_mul_add (a := m) q0x
          rw [Nat.succ_mul]
          omega)]
        refine ⟨(by show 2 ≤ sizeLine; decide), fun o1 no1 => ?_⟩
        have sE : Same K3 (upd K3 o1 (.tup [.int rx, .str (S (begN hx qx m))])) := same_new no1
        have go1 : upd K3 o1 (.tup [.int rx, .str (S (begN hx qx m))]) o1 = some (.tup [.int rx, .str (S (begN hx qx m))]) := upd_same
        generalize upd K3 o1 (.tup [.int rx, .str (S (begN hx qx m))]) = K4 at sE go1 ⊢
        replace ex3 := sE _ _ ex3
        replace ey3 := sE _ _ ey3
        replace gr := sE _ _ gr
        refine ⟨_, rfl, y, _, _, _, rfl, rfl, SqT.of ey3, rfl, _, rfl, _, rfl, tr, _, _, _, rfl, rfl, SqT.of gr, rfl, y, _, hy, qy, n, rfl, SqT.of ey3, q0y, by omega, by omega, by omega, ?_⟩
        rw [beg_N (by
          have := Nat.lt_div_mul_add (a := n) q0y
          rw [Nat.succ_mul]
          omega)]
        refine ⟨(by show 2 ≤ sizeLine; decide), fun o2' no2 => ?_⟩
        have sF : Same K4 (upd K4 o2' (.tup [.int ry, .str (S (begN hy qy n))])) := same_new no2
        have go2 : upd K4 o2' (.tup [.int ry, .str (S (begN hy qy n))]) o2' = some (.tup [.int ry, .str (S (begN hy qy n))]) := upd_same
        generalize upd K4 o2' (.tup [.int ry, .str (S (begN hy qy n))]) = K5 at sF go2 ⊢
        refine ⟨(by show 2 ≤ sizeLine; decide), fun lo nlo => ?_⟩
        have sG : Same K5 (upd K5 lo (.lst [.ref o1, .ref o2'])) := same_new nlo
        have glo : upd K5 lo (.lst [.ref o1, .ref o2']) lo = some (.lst [.ref o1, .ref o2']) := upd_same
        have nloa : lo ≠ a := (ne_of_none (sF _ _ (sE _ _ (SD _ _ ax))) nlo).symm
        generalize upd K5 lo (.lst [.ref o1, .ref o2']) = K6 at sG glo ⊢
        have SH : Same Hx K6 := fun _ _ e => sG _ _ (sF _ _ (sE _ _ (SD _ _ e)))
        replace go1 := sG _ _ (sF _ _ go1)
        replace go2 := sG _ _ go2
        replace ex3 := sG _ _ (sF _ _ ex3)
        replace ey3 := sG _ _ (sF _ _ ey3)
        have a6 := SH _ _ ax
        clear sE sF sG SD no1 no2 nlo gr
        -- a new beginning
        refine ⟨_, rfl, _, rfl, a, dx, b, 3, rfl, a6, hdx, by omega, by omega, by omega, by decide, by decide, fun wl d7 hd7 hc7 ww wlen => ?_⟩
        have k7 : Kp a Hx (upd K6 a (.lst (dieL d7))) := (Kp.same SH).trans Kp.upd
        have a7 : upd K6 a (.lst (dieL d7)) a = some (.lst (dieL d7)) := upd_same
        have glo7 : upd K6 a (.lst (dieL d7)) lo = some (.lst [.ref o1, .ref o2']) := by rw [upd_ne nloa]; exact glo
        have keep : ∀ c z, K6 c = some (.tup z) → upd K6 a (.lst (dieL d7)) c = some (.tup z) := fun c z e => by rw [upd_ne (nA a6 e)]; exact e
        replace go1 := keep _ _ go1
        replace go2 := keep _ _ go2
        replace ex3 := keep _ _ ex3
        replace ey3 := keep _ _ ey3
        clear keep
        generalize upd K6 a (.lst (dieL d7)) = K7 at k7 a7 glo7 go1 go2 ex3 ey3 ⊢
        refine ⟨(by show 2 ≤ sizeLine; decide), fun nw nnw => ?_⟩
        have sI : Same K7 (upd K7 nw (.tup [.int 7, .str (S wl)])) := same_new nnw
        have gn : upd K7 nw (.tup [.int 7, .str (S wl)]) nw = some (.tup [.int 7, .str (S wl)]) := upd_same
        generalize upd K7 nw (.tup [.int 7, .str (S wl)]) = K8 at sI gn ⊢
        have k8 : Kp a Hx K8 := k7.trans (Kp.same sI)
        have a8 := sI _ _ a7
        replace glo := sI _ _ glo7
        replace go1 := sI _ _ go1
        replace go2 := sI _ _ go2
        replace ex3 := sI _ _ ex3
        replace ey3 := sI _ _ ey3
        clear sI glo7 a7 k7 nnw nloa a6 SH
        have wX : IsW (b : Int) (begN hx qx m) := begN_isw ox.wh ox.wq q0x
        have wY : IsW (b : Int) (begN hy qy n) := begN_isw oy.wh oy.wq q0y
        have lX : (begN hx qx m).length = m := begN_len
        have lY : (begN hy qy n).length = n := begN_len
        -- begins_with
        refine ⟨_, rfl, _, rfl, _, rfl, lo, _, _, _, rfl, rfl, SqL.of glo, rfl, .int (b : Int), .ref x, .ref o1, _, rfl, .int _, fun z => absurd z (by rw [within_b b2 b5]; decide), begins_k ex3 go1 rx0 (by omega) rx0 (by omega) ox.nf (by omega) (by omega) (by omega) ox.wh ox.wq wX ?_⟩
        rw [under_self]
        refine ⟨_, rfl, ?_⟩
        refine iteF ?_
        refine ⟨_, rfl, _, rfl, _, rfl, lo, _, _, _, rfl, rfl, SqL.of glo, rfl, .int (b : Int), .ref y, .ref o2', _, rfl, .int _, fun z => absurd z (by rw [within_b b2 b5]; decide), begins_k ey3 go2 ry0 (by omega) ry0 (by omega) oy.nf (by omega) (by omega) (by omega) oy.wh oy.wq wY ?_⟩
        rw [under_self]
        refine ⟨_, rfl, ?_⟩
        refine iteF ?_
        -- both with the new beginning
        have wb : withinV 2 5 (.int (b : Int)) = true := within_b b2 b5
        refine ⟨_, rfl, _, rfl, _, rfl, lo, _, _, _, rfl, rfl, SqL.of glo, rfl, _, rfl, .int (b : Int), .ref x, .ref o1, .ref nw, _, rfl, .int _, fun z => absurd z (by rw [wb]; decide), replaced_k ex3 go1 gn rx0 (by omega) rx0 (by omega) (by decide) (by decide) ox.nf (by omega) (by omega) (by omega) (by omega) ox.wh ox.wq wX ww (fun z => absurd z (by rw [under_self]; decide)) fun _ h1 q1 z1 nz1 _ _ sh1 sq1 nz1' => ?_⟩
        rw [lX] at nz1
        have c1 : Small (h1, q1) := ⟨fun c hc => by
          rcases sh1 c hc with z | z
          · exact isW_small bI ww c z
          · exact sx.1 c z, fun c hc => sx.2 c (sq1 c hc)⟩
        have sJ : Same K8 (upd K8 z1 (.tup [.int 7, .str (S h1), .str (S q1)])) := same_new nz1'
        have gz1 : upd K8 z1 (.tup [.int 7, .str (S h1), .str (S q1)]) z1 = some (.tup [.int 7, .str (S h1), .str (S q1)]) := upd_same
        generalize upd K8 z1 (.tup [.int 7, .str (S h1), .str (S q1)]) = K9 at sJ gz1 ⊢
        refine ⟨_, rfl, _, rfl, _, rfl, lo, _, _, _, rfl, rfl, SqL.of (sJ _ _ glo), rfl, _, rfl, .int (b : Int), .ref y, .ref o2', .ref nw, _, rfl, .int _, fun z => absurd z (by rw [wb]; decide), replaced_k (sJ _ _ ey3) (sJ _ _ go2) (sJ _ _ gn) ry0 (by omega) ry0 (by omega) (by decide) (by decide) oy.nf (by omega) (by omega) (by omega) (by omega) oy.wh oy.wq wY ww (fun z => absurd z (by rw [under_self]; decide)) fun _ h1' q1' z2 nz2 _ _ _ _ nz2' => ?_⟩
        rw [lY, ← sh_eq eq2] at nz2
        obtain ⟨rfl, rfl⟩ := nz1.unique nz2
        have sK : Same K9 (upd K9 z2 (.tup [.int 7, .str (S h1), .str (S q1)])) := same_new nz2'
        have gz2 : upd K9 z2 (.tup [.int 7, .str (S h1), .str (S q1)]) z2 = some (.tup [.int 7, .str (S h1), .str (S q1)]) := upd_same
        generalize upd K9 z2 (.tup [.int 7, .str (S h1), .str (S q1)]) = K10 at sK gz2 ⊢
        have c2 := shaped3 (r := 7) c1.1 c1.2
        refine ⟨.tuple [.int 7, .str (S h1), .str (S q1)], .tuple [.int 7, .str (S h1), .str (S q1)], .tup (SqT.of (sK _ _ gz1)) (.cons (.int 7) (.cons (.str _) (.cons (.str _) .nil))), .tup (SqT.of gz2) (.cons (.int 7) (.cons (.str _) (.cons (.str _) .nil))), c2, c2, _, rfl, ?_⟩
        refine iteFB (by rw [eqv3, decide_eq_true ⟨rfl, rfl⟩]; rfl) ?_
        have S2 : Same K8 K10 := fun _ _ e => sK _ _ (sJ _ _ e)
        clear sJ sK gz1 gz2 nz1' nz2' c1 c2 sh1 sq1 nz1 nz2
        replace glo := S2 _ _ glo
        replace go1 := S2 _ _ go1
        replace go2 := S2 _ _ go2
        replace ex3 := S2 _ _ ex3
        replace ey3 := S2 _ _ ey3
        -- the first one with the other's beginning
        refine ⟨_, rfl, _, rfl, _, rfl, lo, _, _, _, rfl, rfl, SqL.of glo, rfl, _, rfl, lo, _, _, _, rfl, rfl, SqL.of glo, rfl, .int (b : Int), .ref x, .ref o1, .ref o2', _, rfl, .int _, fun z => absurd z (by rw [wb]; decide), replaced_k ex3 go1 go2 rx0 (by omega) rx0 (by omega) ry0 (by omega) ox.nf (by omega) (by omega) (by omega) (by omega) ox.wh ox.wq wX wY (fun z => absurd z (by rw [under_self]; decide)) fun _ h4 q4 z4 nz4 _ _ _ _ nz4' => ?_⟩
        rw [lX, sh_other eq2] at nz4
        obtain ⟨rfl, rfl⟩ := oy.nf.unique nz4
        have sL : Same K10 (upd K10 z4 (.tup [.int ry, .str (S hy), .str (S qy)])) := same_new nz4'
        have gz4 : upd K10 z4 (.tup [.int ry, .str (S hy), .str (S qy)]) z4 = some (.tup [.int ry, .str (S hy), .str (S qy)]) := upd_same
        generalize upd K10 z4 (.tup [.int ry, .str (S hy), .str (S qy)]) = K11 at sL gz4 ⊢
        have cy := shaped3 (r := ry) sy.1 sy.2
        refine ⟨_, rfl, .tuple [.int ry, .str (S hy), .str (S qy)], .tuple [.int ry, .str (S hy), .str (S qy)], .tup (SqT.of gz4) (.cons (.int ry) (.cons (.str _) (.cons (.str _) .nil))), .tup (SqT.of (sL _ _ ey3)) (.cons (.int ry) (.cons (.str _) (.cons (.str _) .nil))), cy, cy, _, rfl, ?_⟩
        refine iteFB (by rw [eqv3, decide_eq_true ⟨rfl, rfl⟩]; rfl) ?_
        replace glo := sL _ _ glo
        replace go1 := sL _ _ go1
        replace go2 := sL _ _ go2
        replace ex3 := sL _ _ ex3
        replace ey3 := sL _ _ ey3
        -- and back
        refine ⟨_, rfl, _, rfl, _, rfl, lo, _, _, _, rfl, rfl, SqL.of glo, rfl, _, rfl, lo, _, _, _, rfl, rfl, SqL.of glo, rfl, .int (b : Int), .ref y, .ref o2', .ref o1, _, rfl, .int _, fun z => absurd z (by rw [wb]; decide), replaced_k ey3 go2 go1 ry0 (by omega) ry0 (by omega) rx0 (by omega) oy.nf (by omega) (by omega) (by omega) (by omega) oy.wh oy.wq wY wX (fun z => absurd z (by rw [under_self]; decide)) fun _ h5 q5 z5 nz5 _ _ _ _ nz5' => ?_⟩
        rw [lY, sh_other eq2.symm] at nz5
        obtain ⟨rfl, rfl⟩ := ox.nf.unique nz5
        have sM : Same K11 (upd K11 z5 (.tup [.int rx, .str (S hx), .str (S qx)])) := same_new nz5'
        have gz5 : upd K11 z5 (.tup [.int rx, .str (S hx), .str (S qx)]) z5 = some (.tup [.int rx, .str (S hx), .str (S qx)]) := upd_same
        generalize upd K11 z5 (.tup [.int rx, .str (S hx), .str (S qx)]) = K12 at sM gz5 ⊢
        have cx := shaped3 (r := rx) sx.1 sx.2
        refine ⟨_, rfl, .tuple [.int rx, .str (S hx), .str (S qx)], .tuple [.int rx, .str (S hx), .str (S qx)], .tup (SqT.of gz5) (.cons (.int rx) (.cons (.str _) (.cons (.str _) .nil))), .tup (SqT.of (sM _ _ ex3)) (.cons (.int rx) (.cons (.str _) (.cons (.str _) .nil))), cx, cx, _, rfl, ?_⟩
        refine iteFB (by rw [eqv3, decide_eq_true ⟨rfl, rfl⟩]; rfl) ?_
        have S3 : Same K8 K12 := fun _ _ e => sM _ _ (sL _ _ (S2 _ _ e))
        exact ⟨_, _, _, _, _, d7, rfl, kx.trans (k8.trans (Kp.same S3)), S3 _ _ a8, hd7, by omega⟩
    · rintro σ Hx ⟨u4, u5, u6, u7, u8, dx, rfl, kx, ax, hdx, hcx⟩
      have hcx : dx.2.2 ≤ d.2.2 + 100 + 10 * 3 := hcx
      refine ⟨_, rfl, _, rfl, _, rfl, _, rfl, _, b, p, p2, r, h, q, r2, h2, q2, rfl, b2, b5, kx _ _ (nA a4 ep) ep, kx _ _ (nA a4 ep2) ep2, o, o2, fun H' sm => ?_⟩
      exact k dx H' hdx (by omega) ((kp4.trans kx).trans (Kp.same sm)) (sm _ _ ax)
end
end Vf


set_option Elab.async false
set_option maxRecDepth 100000
set_option maxHeartbeats 16000000
set_option exponentiation.threshold 3000
/-! The errors of the comparison. -/
namespace Vf
open PySem L2 SX Vm
abbrev qErr : Str := "_law_errors_right" ++ ".<locals>." ++ "<lambda>"
abbrev tE (P : Addr) : List (Addr × Str) := [(P, qErr)]
def spErr6 (P : Addr) : Sp := fun vs H Q _ => ∃ (a : Addr) (d : Int × Int × Int) (b : Nat), vs = [.ref a, .int (b : Int)] ∧ H a = some (.lst (dieL d)) ∧ DieOk d ∧ d.2.2 ≤ 800000000 ∧ 2 ≤ b ∧ b ≤ 5 ∧ LamX.Tabs (tE P) H ∧
  ∀ (d' : Int × Int × Int) (H' : Hp), DieOk d' → d'.2.2 ≤ d.2.2 + 30 → KT a H H' → H' a = some (.lst (dieL d')) → LamX.Tabs (tE P) H' → Q (.bl true) H'
theorem KT.kp {a : Addr} {H H1 H2 : Hp} (x : KT a H H1) (y : Kp a H1 H2) : KT a H H2 := fun b o n nt e => y b o n (x b o n nt e)
theorem KT.sm {a : Addr} {H H1 H2 : Hp} (x : KT a H H1) (y : Same H1 H2) : KT a H H2 := fun b o n nt e => y b o (x b o n nt e)
theorem KT.ex {a : Addr} {H H1 H2 : Hp} (x : KT a H H1) (y : LamX.ExtN H1 H2) : KT a H H2 := fun b o n nt e => y b o (x b o n nt e) nt
theorem KT.refl (a : Addr) (H : Hp) : KT a H H := fun _ _ _ _ e => e
/-- a def as its text stands, for a call by a lambda -/
structure ToldFn (K : PySem.W.Frag) (mg : Str → Option Value) (g : Addr) : Prop where
  m : mg "_law_told" = some (.ref g)
  kp : PySem.W.keepIn K (.ref g) = true
  lk : ∃ (oc : Value) (od : Option Addr) (kV doc pm : Value) (an : Option Addr) (cdv ct : Value) (osl : Array (Option Value)), K.lookup g = some ⟨oc, od, .func (PySem.W.fnOf "_law_told" "_law_told" (defArgs sTold) (defBody sTold) (defScope sTold) .none kV doc pm an cdv ct), osl⟩ ∧ PySem.W.codeIn K cdv "_law_told" = true ∧
    Binds K (PySem.W.fnOf "_law_told" "_law_told" (defArgs sTold) (defBody sTold) (defScope sTold) .none kV doc pm an cdv ct) ["call"] []
section
variable {P : Program} {w : World} {K : PySem.W.Frag} {mg : Str → Option Value} {base : Heap}
theorem scErr : FnScope ["die", "base", "found", "none", "stream", "wrong"] ["die", "base"] (defScope sErr) := ⟨rfl, rfl, rfl, by decide +kernel, rfl, by decide +kernel, by decide +kernel⟩
theorem ok_err {f fB fS fL fM g c P2 CN CP CS CX CO : Addr} {fd fdB fdS fdL fdM : FuncData} (F : Fun K "_law_errors_right" "_law_errors_right" sErr f fd)
    (GB : FnOk P w K mg base CX0 2 fB fdB ["die"] spNoBase) (cB : Cal K mg "_law_no_base" fB fdB ["die"])
    (GS : FnOk P w K mg base CX0 2 fS fdS ["die", "base"] spNoStream) (cS : Cal K mg "_law_no_stream" fS fdS ["die", "base"])
    (GL : FnOk P w K mg base CX0 3 fL fdL ["die", "base", "wide", "high"] spLStream) (cL : Cal K mg "_law_stream" fL fdL ["die", "base", "wide", "high"])
    (GM : FnOk P w K mg base (L2.CX P w) 6 fM fdM ["base", "first", "second"] (spTailShift K CN CS)) (cM : Cal K mg "tail_shift" fM fdM ["base", "first", "second"])
    (TF : ToldFn K mg g) (T : ToldTxt K mg CN CP CS CX CO) (TB : LamX.TabB base mg c P2) (hcd : ∀ (cdv : Value), (∃ (oc : Value) (od : Option Addr) (kV doc pm : Value) (an : Option Addr) (ct : Value) (osl : Array (Option Value)), K.lookup f = some ⟨oc, od, .func (PySem.W.fnOf "_law_errors_right" "_law_errors_right" (defArgs sErr) (defBody sErr) (defScope sErr) .none kV doc pm an cdv ct), osl⟩) → cdv = .ref c)
    : VG.FnG P w K mg base 9 f fd ["die", "base"] (spErr6 P2) := by
  obtain ⟨oc, od, kV, doc, pm, an, cdg, ct, osl, lkT, hcT, bT⟩ := TF.lk
  refine VG.FnG.of F scErr (fun vs H Q E h => ?_) (fun cdv A outer s H vs Q E gd hr _ hlk h => ?_)
  · obtain ⟨a, d, b, rfl, _⟩ := h
    rfl
  · have ecd := hcd cdv hlk
    obtain ⟨a, d, b, rfl, ha, hd, hc, b2, b5, tabs, k⟩ := h
    have nd := scErr.nd
    have hr2 := hr.mono (show 2 ≤ 8 by decide)
    have hr3 := hr.mono (show 3 ≤ 8 by decide)
    have hun : A.units + 3 + 64 < cLine := hr.units
    have hu12 : ∀ p ∈ tE P2, p.1 = P2 → p.2 = qErr := fun p hp _ => by rw [List.mem_singleton.mp hp]
    refine ⟨_, (pss_cons (ps_asg (pe_tup (pa_cons (pe_call GB hr2 rfl cB.mg cB.kp cB.b .nil pass0 (pa_cons (pv 0) pa_nil)) (pa_cons (pe_call GS hr2 rfl cS.mg cS.kp cS.b .nil pass0 (pa_cons (pv 0) (pa_cons (pv 1) pa_nil))) (pa_cons (pe_call GL hr3 rfl cL.mg cL.kp cL.b .nil pass0 (pa_cons (pv 0) (pa_cons (pv 1) (pa_cons pe_int (pa_cons pe_int pa_nil))))) pa_nil)))) (pg_tup rfl (pgs_cons (pg_name (i := 5) nd rfl (.inr rfl)) (pgs_cons (pg_name (i := 3) nd rfl (.inr rfl)) (pgs_cons (pg_name (i := 4) nd rfl (.inr rfl)) pgs_nil)))))
      (pss_cons (ps_set (i := 2) nd rfl (.inl rfl) (pe_lst (pa_cons (LamX.pe_lamcall (T := tE P2) rfl TF.m TF.kp lkT hcT bT scTold rfl (.inl rfl) (told_gives T gd (by show A.units + 3 + 20 < cLine; omega)) TB ecd (by exact List.Mem.head _) hu12 hr (LamX.lamS_by (by show LamX.lamSB (defScope sErr) _ = true; decide +kernel)) rfl (fun _ _ _ _ _ => rfl) (fun A' outer' s' H' E' f' c' hr' => pe_call GM hr' rfl cM.mg cM.kp cM.b .nil (passes_call (takes_of rfl rfl rfl rfl) (fun _ _ _ _ h => h)) (pa_cons (pv 5) (pa_cons (pv 3) (pa_cons (pv 3) pa_nil))))) pa_nil)))
      (pss_cons (ps_expr (pe_bm PySem.F.plainAttrs_list PySem.F.slot_list_append PySem.F.type_list_append mt_append (pv 2) (pa_cons (LamX.pe_lamcall (T := tE P2) rfl TF.m TF.kp lkT hcT bT scTold rfl (.inl rfl) (told_gives T gd (by show A.units + 3 + 20 < cLine; omega)) TB ecd (by exact List.Mem.head _) hu12 hr (LamX.lamS_by (by show LamX.lamSB (defScope sErr) _ = true; decide +kernel)) rfl (fun _ _ _ _ _ => rfl) (fun A' outer' s' H' E' f' c' hr' => pe_call GM hr' rfl cM.mg cM.kp cM.b .nil (passes_call (takes_of rfl rfl rfl rfl) (fun _ _ _ _ h => h)) (pa_cons (pv 1) (pa_cons (pv 3) (pa_cons (pv 4) pa_nil))))) pa_nil)))
      (pss_cons (ps_expr (pe_bm PySem.F.plainAttrs_list PySem.F.slot_list_append PySem.F.type_list_append mt_append (pv 2) (pa_cons (LamX.pe_lamcall (T := tE P2) rfl TF.m TF.kp lkT hcT bT scTold rfl (.inl rfl) (told_gives T gd (by show A.units + 3 + 20 < cLine; omega)) TB ecd (by exact List.Mem.head _) hu12 hr (LamX.lamS_by (by show LamX.lamSB (defScope sErr) _ = true; decide +kernel)) rfl (fun _ _ _ _ _ => rfl) (fun A' outer' s' H' E' f' c' hr' => pe_call GM hr' rfl cM.mg cM.kp cM.b .nil (passes_call (takes_of rfl rfl rfl rfl) (fun _ _ _ _ h => h)) (pa_cons (pv 1) (pa_cons (pv 4) (pa_cons (pv 3) pa_nil))))) pa_nil)))
      (pss_one (ps_ret (pe_cmpR (op_eqD hun) (pv 2) (pe_lst (pa_cons (pe_op op_add_str pe_str (pe_callB (VG.call_repr gd (by show A.units + 3 + 10 < cLine; omega)) (by rfl) T.rep PyProof.Rows.boot_repr (pa_cons (pv 5) pa_nil))) (pa_cons pe_str (pa_cons pe_str pa_nil)))) (nomark _)))))))), ?_⟩
    refine ⟨_, rfl, a, d, rfl, ha, hd, by omega, fun wrong d1 H1 hd1 hc1 kp1 a1 ow ww nw => ?_⟩
    refine ⟨_, rfl, _, rfl, a, d1, b, rfl, a1, hd1, by omega, b2, b5, fun non d2 H2 hd2 hc2 kp2 a2 sfn nn => ?_⟩
    refine ⟨_, rfl, _, rfl, a, d2, b, 3, 3, rfl, a2, hd2, by omega, by omega, by omega, by decide, by decide, by decide, by decide, fun r h q f d4 p H5 r0 r3 hl ql nf wh wq hd4 hc4 kp5 a5 np e5 => ?_⟩
    have kpA : Kp a H H5 := fun x o n e => kp5 x o n (kp2 x o n (kp1 x o n e))
    have t5 : LamX.Tabs (tE P2) H5 := tabs_kp tabs ha kpA
    have ow5 : Odd H5 wrong := odd_keep ow (fun x o e _ z => kp5 x o (nw x e) (kp2 x o (nw x e) z))
    have sfn5 : SF H5 b 5000 non false := sfn.keep (fun x o e _ z => kp5 x o (nn x e) z)
    clear ow sfn
    refine ⟨(by show 3 ≤ sizeLine; decide), fun pt npt => ?_⟩
    have s58 : Same H5 (upd H5 pt (.tup [wrong, non, .ref p])) := same_new npt
    have et : upd H5 pt (.tup [wrong, non, .ref p]) pt = some (.tup [wrong, non, .ref p]) := upd_same
    generalize upd H5 pt (.tup [wrong, non, .ref p]) = HB at s58 et ⊢
    refine ⟨pt, _, rfl, SqT.of et, rfl, _, _, rfl, _, _, rfl, _, _, rfl, rfl, ?_⟩
    have tB := t5.ext s58
    have aB := s58 _ _ a5
    have ktB : KT a H HB := ((KT.refl a H).kp kpA).sm s58
    have pB := s58 _ _ e5
    obtain ⟨⟨tw, pw⟩, pd, shw, shs, shz, shl⟩ := odd_keep ow5 (fun x o _ _ z => s58 _ _ z)
    have sfB' : SF HB b 5000 non false := sfn5.keep (fun x o _ _ z => s58 _ _ z)
    clear s58 et npt
    have os : OkS b r h q := ⟨r0, by omega, nf_ev nf, by omega, by omega, wh, wq⟩
    have kpl : ∀ {J : Hp}, LamX.ExtN HB J → Pl J wrong tw := fun e => pl_keep pw (fun q o _ nt h => e q o h nt)
    have ksf : ∀ {J : Hp}, LamX.ExtN HB J → SF J b 5000 non false := fun e => sfB'.keep (fun q o _ nt h => e q o h nt)
    have kst : ∀ {J : Hp}, LamX.ExtN HB J → SF J b 5000 (.ref p) true := fun e => sf_ok (e _ _ pB (fun _ z => nomatch z)) os
    -- call 1
    refine ⟨tB, fun K1 f1 U1 => ?_⟩
    refine ⟨_, rfl, _, rfl, _, rfl, _, _, _, rfl, TwoS.num (kpl f1) ww fun dd1 ndd1 => ?_⟩
    have x1 : Same K1 (upd K1 dd1 (.xd [(("value" : Str), wrong)])) := same_new ndd1
    refine .inl ⟨dd1, wrong, pd, rfl, rfl, upd_same, sh_keep shw (fun q o _ nt h => x1 _ _ (f1 q o h nt)), shs, shz, ?_⟩
    have v1 := (f1).trans (LamX.ExtN.of x1)
    have V1 := U1.ext x1
    generalize upd K1 dd1 (.xd [(("value" : Str), wrong)]) = Z1 at v1 V1 x1 ⊢
    refine ⟨(by show 1 ≤ sizeLine; decide), fun l nl => ?_⟩
    have nlB : ∀ x o, HB x = some o → (∀ ps, o ≠ .tbl ps) → x ≠ l := fun x o e nt => ne_of_none (v1 x o e nt) nl
    have y1 : Same Z1 (upd Z1 l (.lst [.str (("number " : Str) ++ pd.shown)])) := same_new nl
    have h2 : upd Z1 l (.lst [.str (("number " : Str) ++ pd.shown)]) l = some (.lst [.str (("number " : Str) ++ pd.shown)]) := upd_same
    have e2 := v1.trans (LamX.ExtN.of y1)
    have T2 := V1.ext y1
    generalize upd Z1 l (.lst [.str (("number " : Str) ++ pd.shown)]) = J2 at h2 e2 T2 ⊢
    have grow : ∀ {J : Hp} {xs ys : List V}, LamX.ExtN HB J → LamX.Tabs (tE P2) J → J l = some (.lst xs) → LamX.ExtN HB (upd J l (.lst ys)) ∧ LamX.Tabs (tE P2) (upd J l (.lst ys)) := fun {J xs ys} e t hl => by
      refine ⟨fun x o hb nt => by rw [upd_ne (nlB x o hb nt)]; exact e x o hb nt, tabs_kp t hl Kp.upd⟩
    -- call 2
    refine ⟨_, rfl, .inl ⟨rfl, _, SqL.of h2⟩, T2, fun K2 f2 U2 => ?_⟩
    have g2 : LamX.ExtN HB K2 := e2.trans f2
    refine ⟨_, rfl, _, rfl, _, rfl, _, _, _, rfl, TwoS.first b2 b5 (ksf g2) ?_⟩
    refine .inr ⟨0, by decide, rfl, rfl, fun Z same => ?_⟩
    have hz2 : Z l = some (.lst [.str (("number " : Str) ++ pd.shown)]) := same _ _ (f2 _ _ h2 (fun _ z => nomatch z))
    refine ⟨l, _, .str "stream", rfl, rfl, hz2, (by show 1 < sizeLine; decide), ?_⟩
    obtain ⟨e3, T3⟩ := grow (ys := [.str (("number " : Str) ++ pd.shown)] ++ [.str "stream"]) (g2.trans (LamX.ExtN.of same)) (U2.ext same) hz2
    have h3 : upd Z l (.lst ([.str (("number " : Str) ++ pd.shown)] ++ [.str "stream"])) l = some (.lst [.str (("number " : Str) ++ pd.shown), .str "stream"]) := upd_same
    generalize upd Z l (.lst ([.str (("number " : Str) ++ pd.shown)] ++ [.str "stream"])) = J3 at e3 T3 h3 ⊢
    -- call 3
    refine ⟨_, rfl, .inl ⟨rfl, _, SqL.of h3⟩, T3, fun K3 f3 U3 => ?_⟩
    have g3 : LamX.ExtN HB K3 := e3.trans f3
    refine ⟨_, rfl, _, rfl, _, rfl, _, _, _, rfl, TwoS.second b2 b5 (kst g3) (ksf g3) ?_⟩
    refine .inr ⟨0, by decide, rfl, rfl, fun Z same => ?_⟩
    have hz3 : Z l = some (.lst [.str (("number " : Str) ++ pd.shown), .str "stream"]) := same _ _ (f3 _ _ h3 (fun _ z => nomatch z))
    refine ⟨l, _, .str "stream", rfl, rfl, hz3, (by show 2 < sizeLine; decide), ?_⟩
    obtain ⟨e4, T4⟩ := grow (ys := [.str (("number " : Str) ++ pd.shown), .str "stream"] ++ [.str "stream"]) (g3.trans (LamX.ExtN.of same)) (U3.ext same) hz3
    have h4 : upd Z l (.lst ([.str (("number " : Str) ++ pd.shown), .str "stream"] ++ [.str "stream"])) l = some (.lst [.str (("number " : Str) ++ pd.shown), .str "stream", .str "stream"]) := upd_same
    generalize upd Z l (.lst ([.str (("number " : Str) ++ pd.shown), .str "stream"] ++ [.str "stream"])) = J4 at e4 T4 h4 ⊢
    have pdl : ("number " : Str).length + pd.shown.length ≤ sizeLine := Nat.le_trans (Nat.add_le_add_left shz _) (by decide +kernel)
    refine ⟨_, rfl, _, rfl, wrong, pd, rfl, sh_keep shw (fun q o _ nt h => e4 q o h nt), shs, Nat.le_trans shz (by decide), _, _, rfl, rfl, pdl, (by show 3 ≤ sizeLine; decide), fun du ndu => ?_⟩
    have sA : Same J4 (upd J4 du (.lst [.str (("number " : Str) ++ pd.shown), .str "stream", .str "stream"])) := same_new ndu
    have hdu : upd J4 du (.lst [.str (("number " : Str) ++ pd.shown), .str "stream", .str "stream"]) du = some (.lst [.str (("number " : Str) ++ pd.shown), .str "stream", .str "stream"]) := upd_same
    generalize upd J4 du (.lst [.str (("number " : Str) ++ pd.shown), .str "stream", .str "stream"]) = JA at sA hdu ⊢
    have lay : PyData.canLay0 (.list [.str (("number " : Str) ++ pd.shown), .str "stream", .str "stream"]) = true := by
      show (PyData.canLay0 (.str (("number " : Str) ++ pd.shown)) && PyData.canLayAll0 [.str "stream", .str "stream"]) = true
      rw [shl]
      decide +kernel
    have shp : SeqAt.shaped (.list [.str (("number " : Str) ++ pd.shown), .str "stream", .str "stream"]) = true := by
      unfold SeqAt.shaped
      rw [lay]
      rfl
    have dp : L2.DpAll K JA ([.str (("number " : Str) ++ pd.shown), .str "stream", .str "stream"] : List V) ([.str (("number " : Str) ++ pd.shown), .str "stream", .str "stream"] : List PyData) := .cons (.str _) (.cons (.str _) (.cons (.str _) .nil))
    refine ⟨.list [.str (("number " : Str) ++ pd.shown), .str "stream", .str "stream"], .list [.str (("number " : Str) ++ pd.shown), .str "stream", .str "stream"], .lst (SqL.of (sA _ _ h4)) dp, .lst (SqL.of hdu) dp, shp, shp, ?_⟩
    rw [PySem.SeqAt.eqv_refl _ lay]
    exact k d4 JA hd4 (by omega) (fun x o n nt e => sA _ _ (e4 _ _ (ktB x o n nt e) nt)) (sA _ _ (e4 _ _ aB (fun _ z => nomatch z))) (T4.ext sA)
end
end Vf


set_option Elab.async false
set_option maxRecDepth 100000
set_option maxHeartbeats 16000000
set_option exponentiation.threshold 3000
/-! The law. -/
namespace Vf
open PySem L2 SX Vm
/-- a written normal form -/
theorem nf_lit {h q h' q' : List Nat} (many : Nat) (hm : h.length ≤ many) (hm' : h'.length ≤ many) (hq : 0 < q.length) (hq' : 0 < q'.length) (e : ∀ i, i < many + q'.length * q.length → ev h' q' i = ev h q i) (l : ∀ t, 0 < t → t < q'.length → ¬ Per q' t)
    (stop : 0 < h'.length → h'.getD (h'.length - 1) 0 ≠ q'.getD (q'.length - 1) 0) : Nf (ev h q) h' q' := by
  have all := ev_all hm' hm hq' hq e
  have L : Least q' q'.length := ⟨hq', per_len q', l⟩
  refine last_nf all hq' (fun s m s0 s1 z => L.prim (h := h') hq' s m s0 s1 fun i hi => ?_) stop
  rw [all, all]
  exact z i hi
theorem prim1 {a : Nat} (t : Nat) (h0 : 0 < t) (h1 : t < [a].length) : ¬ Per [a] t := absurd h1 (by simp; omega)
theorem prim2 {a b : Nat} (ne : a ≠ b) (t : Nat) (h0 : 0 < t) (h1 : t < [a, b].length) : ¬ Per [a, b] t := fun z => by
  have : t = 1 := by simp at h1; omega
  subst this
  exact ne (z 0).symm
theorem prim3 {a b c : Nat} (x : ¬ (a = b ∧ b = c)) (t : Nat) (h0 : 0 < t) (h1 : t < [a, b, c].length) : ¬ Per [a, b, c] t := fun z => by
  have e : t = 1 ∨ t = 2 := by simp at h1; omega
  rcases e with e | e <;> subst e
  · have z0 := z 0
    have z1 := z 1
    have y0 : b = a := z0
    have y1 : c = b := z1
    exact x ⟨y0.symm, y1.symm⟩
  · have z0 := z 0
    have z1 := z 1
    have y0 : c = a := z0
    have y1 : a = b := by simpa [g] using z1
    exact x ⟨y1, y1.symm.trans y0.symm⟩
theorem nf_self {h q : List Nat} (q0 : 0 < q.length) (l : ∀ t, 0 < t → t < q.length → ¬ Per q t) (stop : 0 < h.length → h.getD (h.length - 1) 0 ≠ q.getD (q.length - 1) 0) : Nf (ev h q) h q :=
  nf_lit h.length (Nat.le_refl _) (Nat.le_refl _) q0 q0 (fun _ _ => rfl) l stop
def n120 : List Nat := (List.replicate 120 [48]).flatten
def n130 : List Nat := (List.replicate 130 [48]).flatten
theorem n120_len : n120.length = 120 := by decide +kernel
theorem n130_len : n130.length = 130 := by decide +kernel
theorem okL {b : Nat} {r : Int} {h q : List Nat} (r0 : 0 ≤ r) (r1 : r < 5000) (q0 : 0 < q.length) (l : ∀ t, 0 < t → t < q.length → ¬ Per q t) (stop : 0 < h.length → h.getD (h.length - 1) 0 ≠ q.getD (q.length - 1) 0) (hl : h.length ≤ 3000) (ql : q.length ≤ 1000)
    (wh : (h.all fun c => decide (48 ≤ c) && decide (c < 48 + b)) = true) (wq : (q.all fun c => decide (48 ≤ c) && decide (c < 48 + b)) = true) : OkS b r h q := ⟨r0, r1, nf_self q0 l stop, hl, ql, isW_lit wh, isW_lit wq⟩
theorem ok1 : OkS 2 0 [48, 49] [49, 48] := okL (by decide) (by decide) (by decide) (prim2 (by decide)) (by decide) (by decide) (by decide) (by decide) (by decide)
theorem ok2 : OkS 2 3 [] [48, 49] := okL (by decide) (by decide) (by decide) (prim2 (by decide)) (by decide) (by decide) (by decide) (by decide) (by decide)
theorem ok3 : OkS 2 0 [48] [49] := okL (by decide) (by decide) (by decide) prim1 (by decide) (by decide) (by decide) (by decide) (by decide)
theorem ok4 : OkS 2 0 [] [48, 48, 49] := okL (by decide) (by decide) (by decide) (prim3 (by decide)) (by decide) (by decide) (by decide) (by decide) (by decide)
theorem ok5 : OkS 2 0 [] [49, 48, 48] := okL (by decide) (by decide) (by decide) (prim3 (by decide)) (by decide) (by decide) (by decide) (by decide) (by decide)
theorem ok6 : OkS 3 1 [48, 50, 49, 50] [48] := okL (by decide) (by decide) (by decide) prim1 (by decide) (by decide) (by decide) (by decide) (by decide)
theorem ok7 : OkS 3 2 [49, 49, 49, 50] [48] := okL (by decide) (by decide) (by decide) prim1 (by decide) (by decide) (by decide) (by decide) (by decide)
theorem ok8 : OkS 2 0 n120 [48, 49] := okL (by decide) (by decide) (by decide) (prim2 (by decide)) (by decide +kernel) (by decide +kernel) (by decide) (by decide +kernel) (by decide)
theorem ok9 : OkS 2 0 n130 [48, 49] := okL (by decide) (by decide) (by decide) (prim2 (by decide)) (by decide +kernel) (by decide +kernel) (by decide) (by decide +kernel) (by decide)
theorem res1 : Res [48, 49] [49, 48] [] [48, 49] (some (2, 1)) := res_turn (t := 1) ok1.nf ok2.nf rfl (by decide) (by decide) (by decide) (fun s hs => by
  obtain rfl : s = 0 := by omega
  decide)
theorem res2 : Res [48, 49] [49, 48] [48] [49] none := res_none ok1.nf ok3.nf (.inl (by decide))
theorem res3 : Res [] [48, 48, 49] [] [49, 48, 48] (some (0, 1)) := res_turn (t := 1) ok4.nf ok5.nf rfl (by decide) (by decide) (by decide) (fun s hs => by
  obtain rfl : s = 0 := by omega
  decide)
theorem res4 : Res [48, 50, 49, 50] [48] [49, 49, 49, 50] [48] (some (2, 2)) := res_same (c := 2) ok6.nf ok7.nf ⟨by decide, by decide, fun j hj => by
  have e : j = 0 ∨ j = 1 := by omega
  rcases e with e | e <;> subst e <;> rfl, fun _ _ => by decide⟩
theorem res5 : Res n120 [48, 49] n130 [48, 49] (some (0, 10)) := by
  have z := res_same (c := 120) ok8.nf ok9.nf ⟨by decide +kernel, by decide +kernel, by decide +kernel, fun h => absurd h (by decide +kernel)⟩
  rw [n120_len, n130_len] at z
  exact z
/-- a list that is seen stays so -/
theorem sql_ext {H H' : Hp} {a : Addr} {xs : List V} (h : SqL K H a xs) (e : LamX.ExtN H H') : SqL K H' a xs := by
  rcases h with (h | ⟨o, h⟩) | h
  · exact .inl (.inl (e _ _ h (fun _ z => nomatch z)))
  · exact .inl (.inr ⟨o, e _ _ h (fun _ z => nomatch z)⟩)
  · exact .inr h
/-- the law holds -/
def spLaw (K : PySem.W.Frag) (P2 : Addr) : Sp := fun vs H Q _ => ∃ (a : Addr) (ns : List Int), vs = [.ref a] ∧ SqL K H a (ns.map V.int) ∧ ns.length ≤ 63 ∧ LamX.Tabs (tE P2) H ∧ ∀ H', Q (.bl true) H'
section
variable {P : Program} {w : World} {K : PySem.W.Frag} {mg : Str → Option Value} {base : Heap}
theorem scLaw : FnScope ["script", "at", "base", "die", "found", "one", "turn"] ["script"] (defScope sLaw) := ⟨rfl, rfl, rfl, by decide +kernel, rfl, by decide +kernel, by decide +kernel⟩
theorem ok_law {f fD fB fR fE fM CN CS P2 : Addr} {fd fdD fdB fdR fdE fdM : FuncData} (F : Fun K "law" "law" sLaw f fd)
    (GD : FnOk P w K mg base CX0 1 fD fdD ["script", "at"] (spDice K)) (cD : Cal K mg "_law_dice" fD fdD ["script", "at"])
    (GB : FnOk P w K mg base CX0 2 fB fdB ["die"] spBase) (cB : Cal K mg "_law_base" fB fdB ["die"])
    (GR : VG.FnG P w K mg base 9 fR fdR ["die", "base"] spRight6) (cR : Cal K mg "_law_right" fR fdR ["die", "base"])
    (GE : VG.FnG P w K mg base 9 fE fdE ["die", "base"] (spErr6 P2)) (cE : Cal K mg "_law_errors_right" fE fdE ["die", "base"])
    (GM : FnOk P w K mg base (L2.CX P w) 6 fM fdM ["base", "first", "second"] (spTailShift K CN CS)) (cM : Cal K mg "tail_shift" fM fdM ["base", "first", "second"])
    (N : Nm mg) (nr : mg "range" = none) (nx : mg "max" = none) (nn : mg "min" = none) : VG.FnG P w K mg base 10 f fd ["script"] (spLaw K P2) := by
  refine VG.FnG.of F scLaw (fun vs H Q E h => ?_) (fun cdv A outer s H vs Q E gd hr _ _ h => ?_)
  · obtain ⟨a, ns, rfl, _⟩ := h
    rfl
  · obtain ⟨a, ns, rfl, hs, hn, tabs, k⟩ := h
    have nd := scLaw.nd
    have hr1 := hr.mono (show 1 ≤ 9 by decide)
    have hr2 := hr.mono (show 2 ≤ 9 by decide)
    have hr6 := hr.mono (show 6 ≤ 9 by decide)
    have hun : A.units + 3 + 64 < cLine := hr.units
    refine ⟨_, pss_cons (ps_for PassesOwn.never rfl (pi_range1 rfl nr (pa_cons (pe_callB (call_max2 rfl) (by rfl) nx PyProof.Rows.boot_max (pa_cons pe_int (pa_cons (pe_callB (call_min2 rfl) (by rfl) nn PyProof.Rows.boot_min (pa_cons pe_int (pa_cons (pe_callB call_len_seq (by rfl) N.len boot_len (pa_cons (pv 0) pa_nil)) pa_nil))) pa_nil))) pa_nil)) (pg_name (i := 1) nd rfl (.inl rfl))
        (pss_cons (ps_set (i := 3) nd rfl (.inl rfl) (pe_call GD hr1 rfl cD.mg cD.kp cD.b .nil pass0 (pa_cons (pv 0) (pa_cons (pv 1) pa_nil))))
        (pss_cons (ps_set (i := 2) nd rfl (.inl rfl) (pe_call GB hr2 rfl cB.mg cB.kp cB.b .nil pass0 (pa_cons (pv 3) pa_nil)))
        (pss_one (ps_for PassesOwn.never rfl (pi_range1 rfl nr (pa_cons pe_int pa_nil)) (pg_name (i := 6) nd rfl (.inl rfl))
          (pss_one (ps_if (PW.pt (pw_or (pt_not (pt_val (VG.pe_callG GR gd hr rfl cR.mg cR.kp cR.b (pa_cons (pv 3) (pa_cons (pv 2) pa_nil)))))
            (pw_or1 (pt_not (pt_val (VG.pe_callG GE gd hr rfl cE.mg cE.kp cE.b (pa_cons (pv 3) (pa_cons (pv 2) pa_nil)))))))) (pss_one (ps_ret pe_bl)) pss_nil)))))))
      (pss_cons (ps_set (i := 5) nd rfl (.inl rfl) (pe_tup (pa_cons pe_int (pa_cons pe_str (pa_cons pe_str pa_nil)))))
      (pss_cons (ps_set (i := 4) nd rfl (.inl rfl) (pe_lst (pa_cons (pe_call GM hr6 rfl cM.mg cM.kp cM.b .nil (passes_call takes0 (fun _ _ _ _ h => h)) (pa_cons pe_int (pa_cons (pv 5) (pa_cons (pe_tup (pa_cons pe_int (pa_cons pe_str (pa_cons pe_str pa_nil)))) pa_nil)))) (pa_cons (pe_call GM hr6 rfl cM.mg cM.kp cM.b .nil (passes_call takes0 (fun _ _ _ _ h => h)) (pa_cons pe_int (pa_cons (pv 5) (pa_cons (pe_tup (pa_cons pe_int (pa_cons pe_str (pa_cons pe_str pa_nil)))) pa_nil)))) pa_nil))))
      (pss_cons (ps_expr (pe_bm PySem.F.plainAttrs_list PySem.F.slot_list_append PySem.F.type_list_append mt_append (pv 4) (pa_cons (pe_call GM hr6 rfl cM.mg cM.kp cM.b .nil (passes_call takes0 (fun _ _ _ _ h => h)) (pa_cons pe_int (pa_cons (pe_tup (pa_cons pe_int (pa_cons pe_str (pa_cons pe_str pa_nil)))) (pa_cons (pe_tup (pa_cons pe_int (pa_cons pe_str (pa_cons pe_str pa_nil)))) pa_nil)))) pa_nil)))
      (pss_cons (ps_expr (pe_bm PySem.F.plainAttrs_list PySem.F.slot_list_append PySem.F.type_list_append mt_append (pv 4) (pa_cons (pe_call GM hr6 rfl cM.mg cM.kp cM.b .nil (passes_call takes0 (fun _ _ _ _ h => h)) (pa_cons pe_int (pa_cons (pe_tup (pa_cons pe_int (pa_cons pe_str (pa_cons pe_str pa_nil)))) (pa_cons (pe_tup (pa_cons pe_int (pa_cons pe_str (pa_cons pe_str pa_nil)))) pa_nil)))) pa_nil)))
      (pss_cons (ps_expr (pe_bm PySem.F.plainAttrs_list PySem.F.slot_list_append PySem.F.type_list_append mt_append (pv 4) (pa_cons (pe_call GM hr6 rfl cM.mg cM.kp cM.b .nil (passes_call takes0 (fun _ _ _ _ h => h)) (pa_cons pe_int (pa_cons (pe_tup (pa_cons pe_int (pa_cons (pe_op op_mul_str pe_str pe_int) (pa_cons pe_str pa_nil)))) (pa_cons (pe_tup (pa_cons pe_int (pa_cons (pe_op op_mul_str pe_str pe_int) (pa_cons pe_str pa_nil)))) pa_nil)))) pa_nil)))
      (pss_one (ps_ret (pe_cmpR (op_eqD hun) (pv 4) (pe_lst (pa_cons (pe_tup (pa_cons pe_int (pa_cons pe_int pa_nil))) (pa_cons pe_non (pa_cons (pe_tup (pa_cons pe_int (pa_cons pe_int pa_nil))) (pa_cons (pe_tup (pa_cons pe_int (pa_cons pe_int pa_nil))) (pa_cons (pe_tup (pa_cons pe_int (pa_cons pe_int pa_nil))) pa_nil)))))) (nomark _))))))))), ?_⟩
    refine ⟨_, rfl, a, _, rfl, .inl hs, 10, _, rfl, 1, _, rfl, ?_⟩
    refine ⟨_, rfl, ?_, ?_, for_range (fun _ σ H2 => ∃ u1 u2 u3 u6 : Option V, σ = [some (.ref a), u1, u2, u3, none, none, u6] ∧ LamX.ExtN H H2 ∧ LamX.Tabs (tE P2) H2) ?_ ?_ ?_⟩
    · split <;> split <;> omega
    · split <;> split <;> omega
    · exact ⟨none, none, none, none, rfl, LamX.ExtN.refl H, tabs⟩
    · rintro i σ H2 hi ⟨u1, u2, u3, u6, rfl, eN, tt⟩
      have hi10 : i < 10 := by
        revert hi
        split <;> split <;> omega
      refine ⟨_, rfl, _, rfl, a, ns, i, by rw [Int.zero_add]; rfl, sql_ext hs eN, hn, by omega, fun p d0 hd0 hz0 np => ?_⟩
      refine ⟨_, rfl, p, d0, rfl, upd_same, hd0, by omega, fun b0 d1 H3 hd1 hc1 b2' b5' kp3 a3 => ?_⟩
      obtain ⟨b, rfl⟩ := Int.eq_ofNat_of_zero_le (show 0 ≤ b0 by omega)
      have b2 : 2 ≤ b := by omega
      have b5 : b ≤ 5 := by omega
      have x1 : ∀ c o, H2 c = some o → upd H2 p (.lst (dieL d0)) c = some o := fun c o e => by rw [upd_ne (ne_of_none e np)]; exact e
      have x3 : LamX.ExtN H2 H3 := fun c o e _ => kp3 c o (ne_of_none e np) (x1 c o e)
      have t3 : LamX.Tabs (tE P2) H3 := tabs_kp (tt.ext x1) upd_same kp3
      refine ⟨5, rfl, by decide, by decide, for_range (n := 5) (fun j σ H4 => ∃ (u : Option V) (d4 : Int × Int × Int), σ = [some (.ref a), some (.int (0 + (i : Int))), some (.int (b : Int)), some (.ref p), none, none, u] ∧ LamX.ExtN H2 H4 ∧ LamX.Tabs (tE P2) H4 ∧ H4 p = some (.lst (dieL d4)) ∧ DieOk d4 ∧ d4.2.2 ≤ 1 + 330 * (j : Int)) ?_ ?_ ?_⟩
      · exact ⟨_, d1, rfl, x3, t3, a3, hd1, by omega⟩
      · rintro j σ H4 hj ⟨u, d4, rfl, x4, t4, a4, hd4, hc4⟩
        have hj6 : j < 5 := hj
        have nb : ∀ c o, H2 c = some o → c ≠ p := fun c o e => ne_of_none e np
        refine ⟨_, rfl, _, rfl, p, d4, b, rfl, a4, hd4, by omega, b2, b5, fun d5 H5 hd5 hc5 kp5 a5 => ⟨_, rfl, ?_⟩⟩
        refine iteF ?_
        refine ⟨_, rfl, _, rfl, p, d5, b, rfl, a5, hd5, by omega, b2, b5, tabs_kp t4 a4 kp5, fun d6 H6 hd6 hc6 kt6 a6 t6 => ⟨_, rfl, ?_⟩⟩
        refine iteF ?_
        exact ⟨_, d6, rfl, fun c o e nt => kt6 c o (nb c o e) nt (kp5 c o (nb c o e) (x4 c o e nt)), t6, a6, hd6, by omega⟩
      · rintro σ H4 ⟨u, d4, rfl, x4, t4, _⟩
        exact ⟨_, _, _, _, rfl, eN.trans x4, t4⟩
    · rintro σ H2 ⟨u1, u2, u3, u6, rfl, eN, tt⟩
      have eem : ("" : Str) = S [] := by decide +kernel
      have e0 : ("0" : Str) = S [48] := by decide +kernel
      have e1 : ("1" : Str) = S [49] := by decide +kernel
      have e01 : ("01" : Str) = S [48, 49] := by decide +kernel
      have e10 : ("10" : Str) = S [49, 48] := by decide +kernel
      have e001 : ("001" : Str) = S [48, 48, 49] := by decide +kernel
      have e100 : ("100" : Str) = S [49, 48, 48] := by decide +kernel
      have e0212 : ("0212" : Str) = S [48, 50, 49, 50] := by decide +kernel
      have e1112 : ("1112" : Str) = S [49, 49, 49, 50] := by decide +kernel
      refine ⟨(by show 3 ≤ sizeLine; decide), fun st nst => ?_⟩
      have sI1 : Same H2 (upd H2 st (.tup [.int 0, .str "01", .str "10"])) := same_new nst
      have gst : upd H2 st (.tup [.int 0, .str "01", .str "10"]) st = some (.tup [.int 0, .str (S [48, 49]), .str (S [49, 48])]) := by rw [upd_same, e01, e10]
      generalize upd H2 st (.tup [.int 0, .str "01", .str "10"]) = I1 at sI1 gst ⊢
      refine ⟨_, rfl, (by show 3 ≤ sizeLine; decide), fun a1 na1 => ?_⟩
      have sI2 : Same I1 (upd I1 a1 (.tup [.int 3, .str "", .str "01"])) := same_new na1
      have ga1 : upd I1 a1 (.tup [.int 3, .str "", .str "01"]) a1 = some (.tup [.int 3, .str (S []), .str (S [48, 49])]) := by rw [upd_same, eem, e01]
      generalize upd I1 a1 (.tup [.int 3, .str "", .str "01"]) = I2 at sI2 ga1 ⊢
      replace gst := sI2 _ _ gst
      refine ⟨_, _, _, rfl, TwoS.right (b := 2) (by decide) (by decide) gst ga1 ok1 ok2 ⟨fun rn => ?_, fun m n rs r1 nr1 => ?_⟩⟩
      · cases Res.unique res1 rn
      obtain ⟨rfl, rfl⟩ : 2 = m ∧ 1 = n := by
        cases Res.unique res1 rs
        exact ⟨rfl, rfl⟩
      have sI3 : Same I2 (upd I2 r1 (.tup [.int ((2 : Nat) : Int), .int ((1 : Nat) : Int)])) := same_new nr1
      have gr1 : upd I2 r1 (.tup [.int ((2 : Nat) : Int), .int ((1 : Nat) : Int)]) r1 = some (.tup [.int 2, .int 1]) := by rw [upd_same]; rfl
      generalize upd I2 r1 (.tup [.int ((2 : Nat) : Int), .int ((1 : Nat) : Int)]) = I3 at sI3 gr1 ⊢
      replace gst := sI3 _ _ gst
      replace ga1 := sI3 _ _ ga1
      refine ⟨_, rfl, (by show 3 ≤ sizeLine; decide), fun a2 na2 => ?_⟩
      have sI4 : Same I3 (upd I3 a2 (.tup [.int 0, .str "0", .str "1"])) := same_new na2
      have ga2 : upd I3 a2 (.tup [.int 0, .str "0", .str "1"]) a2 = some (.tup [.int 0, .str (S [48]), .str (S [49])]) := by rw [upd_same, e0, e1]
      generalize upd I3 a2 (.tup [.int 0, .str "0", .str "1"]) = I4 at sI4 ga2 ⊢
      replace gst := sI4 _ _ gst
      replace ga1 := sI4 _ _ ga1
      replace gr1 := sI4 _ _ gr1
      refine ⟨_, _, _, rfl, TwoS.right (b := 2) (by decide) (by decide) gst ga2 ok1 ok3 ⟨fun rn => ?_, fun m n rs r2 nr2 => ?_⟩⟩
      rotate_left
      · cases Res.unique res2 rs
      refine ⟨(by show 2 ≤ sizeLine; decide), fun lo nlo => ?_⟩
      have sI5 : Same I4 (upd I4 lo (.lst [.ref r1, .non])) := same_new nlo
      have glo : upd I4 lo (.lst [.ref r1, .non]) lo = some (.lst [.ref r1, .non]) := by rw [upd_same]
      generalize upd I4 lo (.lst [.ref r1, .non]) = I5 at sI5 glo ⊢
      replace gst := sI5 _ _ gst
      replace ga1 := sI5 _ _ ga1
      replace gr1 := sI5 _ _ gr1
      replace ga2 := sI5 _ _ ga2
      refine ⟨_, rfl, .inl ⟨rfl, _, SqL.of glo⟩, (by show 3 ≤ sizeLine; decide), fun a3 na3 => ?_⟩
      have sI6 : Same I5 (upd I5 a3 (.tup [.int 0, .str "", .str "001"])) := same_new na3
      have ga3 : upd I5 a3 (.tup [.int 0, .str "", .str "001"]) a3 = some (.tup [.int 0, .str (S []), .str (S [48, 48, 49])]) := by rw [upd_same, eem, e001]
      generalize upd I5 a3 (.tup [.int 0, .str "", .str "001"]) = I6 at sI6 ga3 ⊢
      replace gst := sI6 _ _ gst
      replace ga1 := sI6 _ _ ga1
      replace gr1 := sI6 _ _ gr1
      replace ga2 := sI6 _ _ ga2
      replace glo := sI6 _ _ glo
      refine ⟨(by show 3 ≤ sizeLine; decide), fun a4 na4 => ?_⟩
      have sI7 : Same I6 (upd I6 a4 (.tup [.int 0, .str "", .str "100"])) := same_new na4
      have ga4 : upd I6 a4 (.tup [.int 0, .str "", .str "100"]) a4 = some (.tup [.int 0, .str (S []), .str (S [49, 48, 48])]) := by rw [upd_same, eem, e100]
      generalize upd I6 a4 (.tup [.int 0, .str "", .str "100"]) = I7 at sI7 ga4 ⊢
      replace gst := sI7 _ _ gst
      replace ga1 := sI7 _ _ ga1
      replace gr1 := sI7 _ _ gr1
      replace ga2 := sI7 _ _ ga2
      replace glo := sI7 _ _ glo
      replace ga3 := sI7 _ _ ga3
      refine ⟨_, _, _, rfl, TwoS.right (b := 2) (by decide) (by decide) ga3 ga4 ok4 ok5 ⟨fun rn => ?_, fun m n rs r3 nr3 => ?_⟩⟩
      · cases Res.unique res3 rn
      obtain ⟨rfl, rfl⟩ : 0 = m ∧ 1 = n := by
        cases Res.unique res3 rs
        exact ⟨rfl, rfl⟩
      have sI8 : Same I7 (upd I7 r3 (.tup [.int ((0 : Nat) : Int), .int ((1 : Nat) : Int)])) := same_new nr3
      have gr3 : upd I7 r3 (.tup [.int ((0 : Nat) : Int), .int ((1 : Nat) : Int)]) r3 = some (.tup [.int 0, .int 1]) := by rw [upd_same]; rfl
      generalize upd I7 r3 (.tup [.int ((0 : Nat) : Int), .int ((1 : Nat) : Int)]) = I8 at sI8 gr3 ⊢
      replace gst := sI8 _ _ gst
      replace ga1 := sI8 _ _ ga1
      replace gr1 := sI8 _ _ gr1
      replace ga2 := sI8 _ _ ga2
      replace glo := sI8 _ _ glo
      replace ga3 := sI8 _ _ ga3
      replace ga4 := sI8 _ _ ga4
      refine ⟨lo, _, .ref r3, rfl, rfl, glo, (by show 2 < sizeLine; decide), ?_⟩
      have nt9 : ∀ c z, I8 c = some (.tup z) → upd I8 lo (.lst ([.ref r1, .non] ++ [.ref r3])) c = some (.tup z) := fun c z e => by rw [upd_ne (fun w => by rw [w, glo] at e; cases e)]; exact e
      replace glo : upd I8 lo (.lst ([.ref r1, .non] ++ [.ref r3])) lo = some (.lst [.ref r1, .non, .ref r3]) := upd_same
      replace gst := nt9 _ _ gst
      replace ga1 := nt9 _ _ ga1
      replace gr1 := nt9 _ _ gr1
      replace ga2 := nt9 _ _ ga2
      replace ga3 := nt9 _ _ ga3
      replace ga4 := nt9 _ _ ga4
      replace gr3 := nt9 _ _ gr3
      clear nt9
      generalize upd I8 lo (.lst ([.ref r1, .non] ++ [.ref r3])) = I9 at gst ga1 gr1 ga2 ga3 ga4 gr3 glo ⊢
      refine ⟨_, rfl, .inl ⟨rfl, _, SqL.of glo⟩, (by show 3 ≤ sizeLine; decide), fun a5 na5 => ?_⟩
      have sI10 : Same I9 (upd I9 a5 (.tup [.int 1, .str "0212", .str "0"])) := same_new na5
      have ga5 : upd I9 a5 (.tup [.int 1, .str "0212", .str "0"]) a5 = some (.tup [.int 1, .str (S [48, 50, 49, 50]), .str (S [48])]) := by rw [upd_same, e0212, e0]
      generalize upd I9 a5 (.tup [.int 1, .str "0212", .str "0"]) = I10 at sI10 ga5 ⊢
      replace gst := sI10 _ _ gst
      replace ga1 := sI10 _ _ ga1
      replace gr1 := sI10 _ _ gr1
      replace ga2 := sI10 _ _ ga2
      replace ga3 := sI10 _ _ ga3
      replace ga4 := sI10 _ _ ga4
      replace gr3 := sI10 _ _ gr3
      replace glo := sI10 _ _ glo
      refine ⟨(by show 3 ≤ sizeLine; decide), fun a6 na6 => ?_⟩
      have sI11 : Same I10 (upd I10 a6 (.tup [.int 2, .str "1112", .str "0"])) := same_new na6
      have ga6 : upd I10 a6 (.tup [.int 2, .str "1112", .str "0"]) a6 = some (.tup [.int 2, .str (S [49, 49, 49, 50]), .str (S [48])]) := by rw [upd_same, e1112, e0]
      generalize upd I10 a6 (.tup [.int 2, .str "1112", .str "0"]) = I11 at sI11 ga6 ⊢
      replace gst := sI11 _ _ gst
      replace ga1 := sI11 _ _ ga1
      replace gr1 := sI11 _ _ gr1
      replace ga2 := sI11 _ _ ga2
      replace ga3 := sI11 _ _ ga3
      replace ga4 := sI11 _ _ ga4
      replace gr3 := sI11 _ _ gr3
      replace glo := sI11 _ _ glo
      replace ga5 := sI11 _ _ ga5
      refine ⟨_, _, _, rfl, TwoS.right (b := 3) (by decide) (by decide) ga5 ga6 ok6 ok7 ⟨fun rn => ?_, fun m n rs r4 nr4 => ?_⟩⟩
      · cases Res.unique res4 rn
      obtain ⟨rfl, rfl⟩ : 2 = m ∧ 2 = n := by
        cases Res.unique res4 rs
        exact ⟨rfl, rfl⟩
      have sI12 : Same I11 (upd I11 r4 (.tup [.int ((2 : Nat) : Int), .int ((2 : Nat) : Int)])) := same_new nr4
      have gr4 : upd I11 r4 (.tup [.int ((2 : Nat) : Int), .int ((2 : Nat) : Int)]) r4 = some (.tup [.int 2, .int 2]) := by rw [upd_same]; rfl
      generalize upd I11 r4 (.tup [.int ((2 : Nat) : Int), .int ((2 : Nat) : Int)]) = I12 at sI12 gr4 ⊢
      replace gst := sI12 _ _ gst
      replace ga1 := sI12 _ _ ga1
      replace gr1 := sI12 _ _ gr1
      replace ga2 := sI12 _ _ ga2
      replace ga3 := sI12 _ _ ga3
      replace ga4 := sI12 _ _ ga4
      replace gr3 := sI12 _ _ gr3
      replace glo := sI12 _ _ glo
      replace ga5 := sI12 _ _ ga5
      replace ga6 := sI12 _ _ ga6
      refine ⟨lo, _, .ref r4, rfl, rfl, glo, (by show 3 < sizeLine; decide), ?_⟩
      have nt13 : ∀ c z, I12 c = some (.tup z) → upd I12 lo (.lst ([.ref r1, .non, .ref r3] ++ [.ref r4])) c = some (.tup z) := fun c z e => by rw [upd_ne (fun w => by rw [w, glo] at e; cases e)]; exact e
      replace glo : upd I12 lo (.lst ([.ref r1, .non, .ref r3] ++ [.ref r4])) lo = some (.lst [.ref r1, .non, .ref r3, .ref r4]) := upd_same
      replace gst := nt13 _ _ gst
      replace ga1 := nt13 _ _ ga1
      replace gr1 := nt13 _ _ gr1
      replace ga2 := nt13 _ _ ga2
      replace ga3 := nt13 _ _ ga3
      replace ga4 := nt13 _ _ ga4
      replace gr3 := nt13 _ _ gr3
      replace ga5 := nt13 _ _ ga5
      replace ga6 := nt13 _ _ ga6
      replace gr4 := nt13 _ _ gr4
      clear nt13
      generalize upd I12 lo (.lst ([.ref r1, .non, .ref r3] ++ [.ref r4])) = I13 at gst ga1 gr1 ga2 ga3 ga4 gr3 ga5 ga6 gr4 glo ⊢
      refine ⟨_, rfl, .inl ⟨rfl, _, SqL.of glo⟩, [48], 120, by rw [← e0], rfl, by decide, by decide, by decide, (by show 3 ≤ sizeLine; decide), fun a7 na7 => ?_⟩
      have sI14 : Same I13 (upd I13 a7 (.tup [.int 0, .str (S (List.replicate 120 [48]).flatten), .str "01"])) := same_new na7
      have ga7 : upd I13 a7 (.tup [.int 0, .str (S (List.replicate 120 [48]).flatten), .str "01"]) a7 = some (.tup [.int 0, .str (S n120), .str (S [48, 49])]) := by rw [upd_same, e01]; rfl
      generalize upd I13 a7 (.tup [.int 0, .str (S (List.replicate 120 [48]).flatten), .str "01"]) = I14 at sI14 ga7 ⊢
      replace gst := sI14 _ _ gst
      replace ga1 := sI14 _ _ ga1
      replace gr1 := sI14 _ _ gr1
      replace ga2 := sI14 _ _ ga2
      replace ga3 := sI14 _ _ ga3
      replace ga4 := sI14 _ _ ga4
      replace gr3 := sI14 _ _ gr3
      replace ga5 := sI14 _ _ ga5
      replace ga6 := sI14 _ _ ga6
      replace gr4 := sI14 _ _ gr4
      replace glo := sI14 _ _ glo
      refine ⟨[48], 130, by rw [← e0], rfl, by decide, by decide, by decide, (by show 3 ≤ sizeLine; decide), fun a8 na8 => ?_⟩
      have sI15 : Same I14 (upd I14 a8 (.tup [.int 0, .str (S (List.replicate 130 [48]).flatten), .str "01"])) := same_new na8
      have ga8 : upd I14 a8 (.tup [.int 0, .str (S (List.replicate 130 [48]).flatten), .str "01"]) a8 = some (.tup [.int 0, .str (S n130), .str (S [48, 49])]) := by rw [upd_same, e01]; rfl
      generalize upd I14 a8 (.tup [.int 0, .str (S (List.replicate 130 [48]).flatten), .str "01"]) = I15 at sI15 ga8 ⊢
      replace gst := sI15 _ _ gst
      replace ga1 := sI15 _ _ ga1
      replace gr1 := sI15 _ _ gr1
      replace ga2 := sI15 _ _ ga2
      replace ga3 := sI15 _ _ ga3
      replace ga4 := sI15 _ _ ga4
      replace gr3 := sI15 _ _ gr3
      replace ga5 := sI15 _ _ ga5
      replace ga6 := sI15 _ _ ga6
      replace gr4 := sI15 _ _ gr4
      replace glo := sI15 _ _ glo
      replace ga7 := sI15 _ _ ga7
      refine ⟨_, _, _, rfl, TwoS.right (b := 2) (by decide) (by decide) ga7 ga8 ok8 ok9 ⟨fun rn => ?_, fun m n rs r5 nr5 => ?_⟩⟩
      · cases Res.unique res5 rn
      obtain ⟨rfl, rfl⟩ : 0 = m ∧ 10 = n := by
        cases Res.unique res5 rs
        exact ⟨rfl, rfl⟩
      have sI16 : Same I15 (upd I15 r5 (.tup [.int ((0 : Nat) : Int), .int ((10 : Nat) : Int)])) := same_new nr5
      have gr5 : upd I15 r5 (.tup [.int ((0 : Nat) : Int), .int ((10 : Nat) : Int)]) r5 = some (.tup [.int 0, .int 10]) := by rw [upd_same]; rfl
      generalize upd I15 r5 (.tup [.int ((0 : Nat) : Int), .int ((10 : Nat) : Int)]) = I16 at sI16 gr5 ⊢
      replace gst := sI16 _ _ gst
      replace ga1 := sI16 _ _ ga1
      replace gr1 := sI16 _ _ gr1
      replace ga2 := sI16 _ _ ga2
      replace ga3 := sI16 _ _ ga3
      replace ga4 := sI16 _ _ ga4
      replace gr3 := sI16 _ _ gr3
      replace ga5 := sI16 _ _ ga5
      replace ga6 := sI16 _ _ ga6
      replace gr4 := sI16 _ _ gr4
      replace glo := sI16 _ _ glo
      replace ga7 := sI16 _ _ ga7
      replace ga8 := sI16 _ _ ga8
      refine ⟨lo, _, .ref r5, rfl, rfl, glo, (by show 4 < sizeLine; decide), ?_⟩
      have nt17 : ∀ c z, I16 c = some (.tup z) → upd I16 lo (.lst ([.ref r1, .non, .ref r3, .ref r4] ++ [.ref r5])) c = some (.tup z) := fun c z e => by rw [upd_ne (fun w => by rw [w, glo] at e; cases e)]; exact e
      replace glo : upd I16 lo (.lst ([.ref r1, .non, .ref r3, .ref r4] ++ [.ref r5])) lo = some (.lst [.ref r1, .non, .ref r3, .ref r4, .ref r5]) := upd_same
      replace gst := nt17 _ _ gst
      replace ga1 := nt17 _ _ ga1
      replace gr1 := nt17 _ _ gr1
      replace ga2 := nt17 _ _ ga2
      replace ga3 := nt17 _ _ ga3
      replace ga4 := nt17 _ _ ga4
      replace gr3 := nt17 _ _ gr3
      replace ga5 := nt17 _ _ ga5
      replace ga6 := nt17 _ _ ga6
      replace gr4 := nt17 _ _ gr4
      replace ga7 := nt17 _ _ ga7
      replace ga8 := nt17 _ _ ga8
      replace gr5 := nt17 _ _ gr5
      clear nt17
      generalize upd I16 lo (.lst ([.ref r1, .non, .ref r3, .ref r4] ++ [.ref r5])) = I17 at gst ga1 gr1 ga2 ga3 ga4 gr3 ga5 ga6 gr4 ga7 ga8 gr5 glo ⊢
      refine ⟨_, rfl, (by show 2 ≤ sizeLine; decide), fun b1 nb1 => ?_⟩
      have sI18 : Same I17 (upd I17 b1 (.tup [.int 2, .int 1])) := same_new nb1
      have gb1 : upd I17 b1 (.tup [.int 2, .int 1]) b1 = some (.tup [.int 2, .int 1]) := by rw [upd_same]
      generalize upd I17 b1 (.tup [.int 2, .int 1]) = I18 at sI18 gb1 ⊢
      replace gst := sI18 _ _ gst
      replace ga1 := sI18 _ _ ga1
      replace gr1 := sI18 _ _ gr1
      replace ga2 := sI18 _ _ ga2
      replace ga3 := sI18 _ _ ga3
      replace ga4 := sI18 _ _ ga4
      replace gr3 := sI18 _ _ gr3
      replace ga5 := sI18 _ _ ga5
      replace ga6 := sI18 _ _ ga6
      replace gr4 := sI18 _ _ gr4
      replace ga7 := sI18 _ _ ga7
      replace ga8 := sI18 _ _ ga8
      replace gr5 := sI18 _ _ gr5
      replace glo := sI18 _ _ glo
      refine ⟨(by show 2 ≤ sizeLine; decide), fun b2 nb2 => ?_⟩
      have sI19 : Same I18 (upd I18 b2 (.tup [.int 0, .int 1])) := same_new nb2
      have gb2 : upd I18 b2 (.tup [.int 0, .int 1]) b2 = some (.tup [.int 0, .int 1]) := by rw [upd_same]
      generalize upd I18 b2 (.tup [.int 0, .int 1]) = I19 at sI19 gb2 ⊢
      replace gst := sI19 _ _ gst
      replace ga1 := sI19 _ _ ga1
      replace gr1 := sI19 _ _ gr1
      replace ga2 := sI19 _ _ ga2
      replace ga3 := sI19 _ _ ga3
      replace ga4 := sI19 _ _ ga4
      replace gr3 := sI19 _ _ gr3
      replace ga5 := sI19 _ _ ga5
      replace ga6 := sI19 _ _ ga6
      replace gr4 := sI19 _ _ gr4
      replace ga7 := sI19 _ _ ga7
      replace ga8 := sI19 _ _ ga8
      replace gr5 := sI19 _ _ gr5
      replace glo := sI19 _ _ glo
      replace gb1 := sI19 _ _ gb1
      refine ⟨(by show 2 ≤ sizeLine; decide), fun b3 nb3 => ?_⟩
      have sI20 : Same I19 (upd I19 b3 (.tup [.int 2, .int 2])) := same_new nb3
      have gb3 : upd I19 b3 (.tup [.int 2, .int 2]) b3 = some (.tup [.int 2, .int 2]) := by rw [upd_same]
      generalize upd I19 b3 (.tup [.int 2, .int 2]) = I20 at sI20 gb3 ⊢
      replace gst := sI20 _ _ gst
      replace ga1 := sI20 _ _ ga1
      replace gr1 := sI20 _ _ gr1
      replace ga2 := sI20 _ _ ga2
      replace ga3 := sI20 _ _ ga3
      replace ga4 := sI20 _ _ ga4
      replace gr3 := sI20 _ _ gr3
      replace ga5 := sI20 _ _ ga5
      replace ga6 := sI20 _ _ ga6
      replace gr4 := sI20 _ _ gr4
      replace ga7 := sI20 _ _ ga7
      replace ga8 := sI20 _ _ ga8
      replace gr5 := sI20 _ _ gr5
      replace glo := sI20 _ _ glo
      replace gb1 := sI20 _ _ gb1
      replace gb2 := sI20 _ _ gb2
      refine ⟨(by show 2 ≤ sizeLine; decide), fun b4 nb4 => ?_⟩
      have sI21 : Same I20 (upd I20 b4 (.tup [.int 0, .int 10])) := same_new nb4
      have gb4 : upd I20 b4 (.tup [.int 0, .int 10]) b4 = some (.tup [.int 0, .int 10]) := by rw [upd_same]
      generalize upd I20 b4 (.tup [.int 0, .int 10]) = I21 at sI21 gb4 ⊢
      replace gst := sI21 _ _ gst
      replace ga1 := sI21 _ _ ga1
      replace gr1 := sI21 _ _ gr1
      replace ga2 := sI21 _ _ ga2
      replace ga3 := sI21 _ _ ga3
      replace ga4 := sI21 _ _ ga4
      replace gr3 := sI21 _ _ gr3
      replace ga5 := sI21 _ _ ga5
      replace ga6 := sI21 _ _ ga6
      replace gr4 := sI21 _ _ gr4
      replace ga7 := sI21 _ _ ga7
      replace ga8 := sI21 _ _ ga8
      replace gr5 := sI21 _ _ gr5
      replace glo := sI21 _ _ glo
      replace gb1 := sI21 _ _ gb1
      replace gb2 := sI21 _ _ gb2
      replace gb3 := sI21 _ _ gb3
      refine ⟨(by show 5 ≤ sizeLine; decide), fun lb nlb => ?_⟩
      have sI22 : Same I21 (upd I21 lb (.lst [.ref b1, .non, .ref b2, .ref b3, .ref b4])) := same_new nlb
      have glb : upd I21 lb (.lst [.ref b1, .non, .ref b2, .ref b3, .ref b4]) lb = some (.lst [.ref b1, .non, .ref b2, .ref b3, .ref b4]) := by rw [upd_same]
      generalize upd I21 lb (.lst [.ref b1, .non, .ref b2, .ref b3, .ref b4]) = I22 at sI22 glb ⊢
      replace gst := sI22 _ _ gst
      replace ga1 := sI22 _ _ ga1
      replace gr1 := sI22 _ _ gr1
      replace ga2 := sI22 _ _ ga2
      replace ga3 := sI22 _ _ ga3
      replace ga4 := sI22 _ _ ga4
      replace gr3 := sI22 _ _ gr3
      replace ga5 := sI22 _ _ ga5
      replace ga6 := sI22 _ _ ga6
      replace gr4 := sI22 _ _ gr4
      replace ga7 := sI22 _ _ ga7
      replace ga8 := sI22 _ _ ga8
      replace gr5 := sI22 _ _ gr5
      replace glo := sI22 _ _ glo
      replace gb1 := sI22 _ _ gb1
      replace gb2 := sI22 _ _ gb2
      replace gb3 := sI22 _ _ gb3
      replace gb4 := sI22 _ _ gb4
      refine ⟨.list [.tuple [.int 2, .int 1], .none, .tuple [.int 0, .int 1], .tuple [.int 2, .int 2], .tuple [.int 0, .int 10]], .list [.tuple [.int 2, .int 1], .none, .tuple [.int 0, .int 1], .tuple [.int 2, .int 2], .tuple [.int 0, .int 10]], .lst (SqL.of glo) (.cons (.tup (SqT.of gr1) (.cons (.int _) (.cons (.int _) .nil))) (.cons .non (.cons (.tup (SqT.of gr3) (.cons (.int _) (.cons (.int _) .nil))) (.cons (.tup (SqT.of gr4) (.cons (.int _) (.cons (.int _) .nil))) (.cons (.tup (SqT.of gr5) (.cons (.int _) (.cons (.int _) .nil))) .nil))))), .lst (SqL.of glb) (.cons (.tup (SqT.of gb1) (.cons (.int _) (.cons (.int _) .nil))) (.cons .non (.cons (.tup (SqT.of gb2) (.cons (.int _) (.cons (.int _) .nil))) (.cons (.tup (SqT.of gb3) (.cons (.int _) (.cons (.int _) .nil))) (.cons (.tup (SqT.of gb4) (.cons (.int _) (.cons (.int _) .nil))) .nil))))), by decide +kernel, by decide +kernel, ?_⟩
      rw [show PyData.eqv (.list [.tuple [.int 2, .int 1], .none, .tuple [.int 0, .int 1], .tuple [.int 2, .int 2], .tuple [.int 0, .int 10]]) (.list [.tuple [.int 2, .int 1], .none, .tuple [.int 0, .int 1], .tuple [.int 2, .int 2], .tuple [.int 0, .int 10]]) = true by decide +kernel]
      exact k _
end
end Vf


set_option Elab.async false
set_option maxRecDepth 100000
set_option maxHeartbeats 8000000
set_option exponentiation.threshold 3000
namespace Vf
open PySem L2 SX Vm
/-! ### what the top has written -/
section
variable {K : PySem.W.Frag} {mg : Str → Option Value} {h : Heap}
theorem def_mk {x : Str} {st : Stmt} {ps : List Str} {f : Addr} {oc kV doc pm cd ct : Value} {od an : Option Addr} {sl : Array (Option Value)} (X : K.In h) (G : h.Ns mainGlobals mg)
    (a : PySem.W.nsIn K mainGlobals x = some (some (.ref f))) (l : K.lookup f = some ⟨oc, od, .func (PySem.W.fnOf x x (defArgs st) (defBody st) (defScope st) .none kV doc pm an cd ct), sl⟩) (c : PySem.W.codeIn K cd x = true) (k : PySem.W.keepIn K (.ref f) = true)
    (b : ∀ fd, Fun K x x st f fd → Binds K fd ps []) : ∃ (f : Addr) (fd : FuncData), Fun K x x st f fd ∧ Cal K mg x f fd ps :=
  ⟨f, _, fun_mk (st := st) l c k, PySem.W.mg_of X G a, k, b _ (fun_mk (st := st) l c k)⟩
theorem pfx_mk {x : Str} {C : Addr} (X : K.In h) (G : h.Ns mainGlobals mg) (gS : PySem.W.nsIn K mainGlobals x = some (some (.ref C))) (exS : PySem.W.excIn K C [.type "ValueError", .type "Exception", .type "BaseException", .type "object"] "ValueError.__new__" = true) (kS : PySem.W.keepIn K (.ref C) = true) (bS : PySem.W.subIn K (.ref C) (.type "BaseException") = some true) (tS : PySem.W.typeIn K (.ref C) = some (.type "type")) : PfxTxt K mg x C := ⟨PySem.W.mg_of X G gS, exS, kS, bS, tS⟩
theorem exc_mk {S : Addr} (bS : PySem.W.subIn K (.ref S) (.type "BaseException") = some true) (e1 : PySem.W.findIn K (.ref S) "__getattribute__" = some (some (.builtin "BaseException.__getattribute__"))) (e2 : PySem.W.findIn K (.ref S) "__getattr__" = some none) (e4 : PySem.W.hasDictIn K S = true) (e5 : PySem.W.findIn K (.ref S) "__class__" = some (some (.builtin "object.__class__")))
    (e6 : PySem.W.specialIn K (.builtin "object.__class__") "__get__" = some (some (.builtin "getset_descriptor.__get__"))) (e7 : PySem.W.takesIn K (.builtin "object.__class__") = some true) (e8 : PySem.W.mroIn K S (.type "object") = some true) : ExcC K S := ⟨e1, e2, bS, e4, e5, e6, e7, e8⟩
theorem cls_mk {P : Program} {C fI cda cc S CP CX CO : Addr} {nm q N : _} {bs : List Value} {sn : List Str} {sub : List Value} {ab : Bool} {col : Option Bool} {dd : Option Addr} {k0 k1 k2 k3 k5 : Option Value}
    {oc doc pm ct ccl cl : Value} {od an cdd cld : Option Addr} {osl ccs csl : Array (Option Value)} {vs : Array Value} {file : Str} {tf : Tok} (X : K.In h) (G : h.Ns mainGlobals mg)
    (gC : PySem.W.nsIn K mainGlobals "InvalidNumber" = some (some (.ref C))) (noSuper : PySem.W.nsIn K mainGlobals "super" = some none)
    (cls : K.lookup C = some (excClassObj nm q C N bs VNum.bmI true sn sub ab col dd k0 k1 k2 k3 k5 "IndexError.__new__"))
    (sa : PySem.W.findIn K (.ref C) "__setattr__" = some (some (.builtin "object.__setattr__"))) (ga : PySem.W.findIn K (.ref C) "__getattribute__" = some (some (.builtin "BaseException.__getattribute__"))) (gg : PySem.W.findIn K (.ref C) "__getattr__" = some none)
    (ov : PySem.W.excOver K C VNum.bmI = true) (qi : PySem.W.excInitIn K C VNum.bmI "IndexError.__new__" = true) (tk : PySem.W.takerIn K C "value" = some none) (noV : PySem.W.findIn K (.ref C) "value" = some none) (hdC : PySem.W.hasDictIn K C = true)
    (iC : PySem.W.findIn K (.ref C) "__init__" = some (some (.ref fI))) (tC : PySem.W.typeIn K (.ref fI) = some (.type "function")) (any : PySem.W.nsIn K PySem.cStatics "thirdparty.any" = some none) (sup : PySem.W.ks_superIn K C C "__init__" = some (some (.builtin "IndexError.__init__")))
    (sI : PySem.W.subIn K (.ref C) (.type "IndexError") = some true) (mro : PySem.W.mroIn K C (.ref C) = some true) (kC : PySem.W.keepIn K (.ref C) = true) (exC : PySem.W.subIn K (.ref C) (.type "BaseException") = some true) (tyC : PySem.W.typeIn K (.ref C) = some (.type "type"))
    (top : (P.main.scope.names.lookup ("super" : Str)).isSome = false)
    (l1 : K.lookup fI = some ⟨oc, od, .func (PySem.W.ksFn "__init__" "InvalidNumber.__init__" VNum.mainArgs VNum.mainBody VNum.mainScope .none .none doc pm an (.ref cda) ct cc), osl⟩) (c1 : PySem.W.codeIn K (.ref cda) "InvalidNumber.__init__" = true)
    (l2 : K.lookup cda = some ⟨ccl, cdd, .fields vs, ccs⟩) (fl : vs[2]? = some (.str file tf)) (fm : ((P.main.file : Str) == file) = true) (l3 : K.lookup cc = some ⟨cl, cld, .cell (some (.ref C)), csl⟩)
    (gP : PySem.W.nsIn K mainGlobals "PrefixError" = some (some (.ref CP))) (rep : PySem.W.nsIn K mainGlobals "repr" = some none) (isi : PySem.W.nsIn K mainGlobals "isinstance" = some none)
    (pS : PfxTxt K mg "InvalidStream" S) (pX : PfxTxt K mg "InvalidPrefix" CX) (pO : PfxTxt K mg "InvalidOperation" CO) (eS : ExcC K S) (eX : ExcC K CX) (eO : ExcC K CO)
    (nn : PySem.W.exmOne K (.ref C) (.ref C) = some true) (n0 : PySem.W.exmOne K (.ref S) (.ref C) = some false) (n1 : PySem.W.exmOne K (.ref CX) (.ref C) = some false) (n2 : PySem.W.exmOne K (.ref CO) (.ref C) = some false)
    (p0 : PySem.W.exmOne K (.ref S) (.ref CP) = some true) (p1 : PySem.W.exmOne K (.ref CX) (.ref CP) = some true) (p2 : PySem.W.exmOne K (.ref CO) (.ref CP) = some true)
    (q00 : PySem.W.kitOne K (.ref S) (.ref S) = some true) (q01 : PySem.W.kitOne K (.ref S) (.ref CX) = some false) (q02 : PySem.W.kitOne K (.ref S) (.ref CO) = some false)
    (q10 : PySem.W.kitOne K (.ref CX) (.ref S) = some false) (q11 : PySem.W.kitOne K (.ref CX) (.ref CX) = some true) (q12 : PySem.W.kitOne K (.ref CX) (.ref CO) = some false)
    (q20 : PySem.W.kitOne K (.ref CO) (.ref S) = some false) (q21 : PySem.W.kitOne K (.ref CO) (.ref CX) = some false) (q22 : PySem.W.kitOne K (.ref CO) (.ref CO) = some true) :
    ∃ CN f CS P' CX' CO' : Addr, VNum.NumTxt P K mg CN f ∧ PfxTxt K mg "InvalidStream" CS ∧ PfxTxt K mg "InvalidPrefix" CX' ∧ PfxTxt K mg "InvalidOperation" CO' ∧ ToldTxt K mg CN P' CS CX' CO' :=
  ⟨C, fI, S, CP, CX, CO,
    { gC := PySem.W.mg_of X G gC, noSuper := PySem.W.mg_none_of X G noSuper, cls := ⟨nm, q, N, bs, sn, sub, ab, col, dd, k0, k1, k2, k3, k5, cls⟩, sa := sa, ga := ga, gg := gg, ov := ov, qi := qi, tk := tk, noV := noV, hdC := hdC, iC := iC, tC := tC, any := any, sup := sup, sI := sI, mro := mro, kC := kC, exC := exC, tyC := tyC, top := top,
      fn := ⟨oc, od, doc, pm, an, cda, cc, ct, osl, vs, file, tf, ccl, cdd, ccs, cl, cld, csl, l1, c1, l2, fl, fm, l3⟩ },
    pS, pX, pO,
    { gN := PySem.W.mg_of X G gC, gP := PySem.W.mg_of X G gP, gS := pS.g, gX := pX.g, gO := pO.g, rep := PySem.W.mg_none_of X G rep, isi := PySem.W.mg_none_of X G isi, nn := nn,
      sn := fun k => (match k with | 0 => n0 | 1 => n1 | _ + 2 => n2), sp := fun k => (match k with | 0 => p0 | 1 => p1 | _ + 2 => p2), xf := ⟨ga, gg, exC, hdC⟩, nov := noV, ec := fun k => (match k with | 0 => eS | 1 => eX | _ + 2 => eO),
      kS := fun k hk => (match k, hk with | 0, _ => q00 | 1, _ => q10 | 2, _ => q20), kX := fun k hk => (match k, hk with | 0, _ => q01 | 1, _ => q11 | 2, _ => q21), kO := fun k hk => (match k, hk with | 0, _ => q02 | 1, _ => q12 | 2, _ => q22) }⟩
theorem nm_mk {t1 t2 t3 t4 t5 : Tok} (X : K.In h) (G : h.Ns mainGlobals mg) (z1 : PySem.W.nsIn K mainGlobals "isinstance" = some none) (z2 : PySem.W.nsIn K mainGlobals "int" = some none) (z3 : PySem.W.nsIn K mainGlobals "bool" = some none) (z4 : PySem.W.nsIn K mainGlobals "str" = some none)
    (z5 : PySem.W.nsIn K mainGlobals "tuple" = some none) (z6 : PySem.W.nsIn K mainGlobals "len" = some none) (y1 : PySem.W.nsIn K mainGlobals "MIN_BASE" = some (some (.int 2 t1))) (y2 : PySem.W.nsIn K mainGlobals "MAX_BASE" = some (some (.int 5 t2))) (y3 : PySem.W.nsIn K mainGlobals "MAX_ROOTS" = some (some (.int 5000 t3)))
    (y4 : PySem.W.nsIn K mainGlobals "DIGITS" = some (some (.str "01234" t4))) (z7 : PySem.W.nsIn K mainGlobals "range" = some none) (z8 : PySem.W.nsIn K mainGlobals "max" = some none) (z9 : PySem.W.nsIn K mainGlobals "min" = some none) (z10 : PySem.W.nsIn K mainGlobals "abs" = some none)
    (z11 : PySem.W.nsIn K mainGlobals "zip" = some none) (y5 : PySem.W.nsIn K mainGlobals "MAX_COUNT" = some (some (.int 2000 t5))) :
    Nm mg ∧ mg "range" = none ∧ mg "max" = none ∧ mg "min" = none ∧ mg "abs" = none ∧ mg "zip" = none ∧ ∃ t, mg "MAX_COUNT" = some (.int 2000 t) :=
  ⟨⟨PySem.W.mg_none_of X G z1, PySem.W.mg_none_of X G z2, PySem.W.mg_none_of X G z3, PySem.W.mg_none_of X G z4, PySem.W.mg_none_of X G z5, PySem.W.mg_none_of X G z6, ⟨t1, PySem.W.mg_of X G y1⟩, ⟨t2, PySem.W.mg_of X G y2⟩, ⟨t3, PySem.W.mg_of X G y3⟩, ⟨t4, PySem.W.mg_of X G y4⟩⟩,
    PySem.W.mg_none_of X G z7, PySem.W.mg_none_of X G z8, PySem.W.mg_none_of X G z9, PySem.W.mg_none_of X G z10, PySem.W.mg_none_of X G z11, t5, PySem.W.mg_of X G y5⟩
theorem told_mk {f : Addr} {oc kV doc pm cd ct : Value} {od an : Option Addr} {sl : Array (Option Value)} (X : K.In h) (G : h.Ns mainGlobals mg)
    (a : PySem.W.nsIn K mainGlobals "_law_told" = some (some (.ref f))) (l : K.lookup f = some ⟨oc, od, .func (PySem.W.fnOf "_law_told" "_law_told" (defArgs sTold) (defBody sTold) (defScope sTold) .none kV doc pm an cd ct), sl⟩) (c : PySem.W.codeIn K cd "_law_told" = true) (k : PySem.W.keepIn K (.ref f) = true) : ∃ g, ToldFn K mg g :=
  ⟨f, PySem.W.mg_of X G a, k, oc, od, kV, doc, pm, an, cd, ct, sl, l, c, (fun_mk (st := sTold) l c k).binds fun _ _ _ _ _ _ us hl => match us, hl with | [_], _ => rfl⟩
/-- the defs, joined -/
theorem law_mk {l : PySem.W.OpenLaw} {w : World} {fa c P2 f g CN fI CS CP CX CO fE fIsInt fWithin fReqNum fReqBase fWordForm fPfxForm fReqPfx fStreamForm fReqStream fReqTwo fShort fNormal fMake fDigits fLead fBeginning fIsUnder fBegins fWithBeg fReplaced fTelling fBefore fPrecedes fComEnd fTailShift fDice fPull fWord fLNormal fLStream fLBeg fLBase fNoBase fNoStream fLTail fFirstPair fLPair fMadeRight fRight : Addr} {fdIsInt fdWithin fdReqNum fdReqBase fdWordForm fdPfxForm fdReqPfx fdStreamForm fdReqStream fdReqTwo fdShort fdNormal fdMake fdDigits fdLead fdBeginning fdIsUnder fdBegins fdWithBeg fdReplaced fdTelling fdBefore fdPrecedes fdComEnd fdTailShift fdDice fdPull fdWord fdLNormal fdLStream fdLBeg fdLBase fdNoBase fdNoStream fdLTail fdFirstPair fdLPair fdMadeRight fdRight : FuncData} {oc kV doc pm cd ct ocE kVE docE pmE ctE : Value} {od an odE anE : Option Addr} {sl slE : Array (Option Value)} (X : K.In h) (G : h.Ns mainGlobals mg) (hfa : mg "law" = some (.ref fa))
    (a : PySem.W.nsIn K mainGlobals "law" = some (some (.ref f))) (lk : K.lookup f = some ⟨oc, od, .func (PySem.W.fnOf "law" "law" (defArgs sLaw) (defBody sLaw) (defScope sLaw) .none kV doc pm an cd ct), sl⟩) (cc : PySem.W.codeIn K cd "law" = true) (k : PySem.W.keepIn K (.ref f) = true)
    (aE : PySem.W.nsIn K mainGlobals "_law_errors_right" = some (some (.ref fE))) (lE : K.lookup fE = some ⟨ocE, odE, .func (PySem.W.fnOf "_law_errors_right" "_law_errors_right" (defArgs sErr) (defBody sErr) (defScope sErr) .none kVE docE pmE anE (.ref c) ctE), slE⟩) (cE : PySem.W.codeIn K (.ref c) "_law_errors_right" = true) (kE : PySem.W.keepIn K (.ref fE) = true)
    (hT : h.get? P2 = some { cls := .none, data := .fields #[] }) (nT : K.lookup P2 = none) (hh : PySem.W.codeHdIn K c P2 = true)
    (num : VNum.NumTxt l.prog K mg CN fI) (pfx : PfxTxt K mg "InvalidStream" CS) (pfX : PfxTxt K mg "InvalidPrefix" CX) (pfO : PfxTxt K mg "InvalidOperation" CO) (told : ToldTxt K mg CN CP CS CX CO) (TF : ToldFn K mg g) (NN : Nm mg ∧ mg "range" = none ∧ mg "max" = none ∧ mg "min" = none ∧ mg "abs" = none ∧ mg "zip" = none ∧ ∃ t, mg "MAX_COUNT" = some (.int 2000 t))
    (FIsInt : Fun K "is_integer" "is_integer" sIsInt fIsInt fdIsInt) (cIsInt : Cal K mg "is_integer" fIsInt fdIsInt ["value"])
    (FWithin : Fun K "is_integer_within" "is_integer_within" sWithin fWithin fdWithin) (cWithin : Cal K mg "is_integer_within" fWithin fdWithin ["low", "high", "value"])
    (FReqNum : Fun K "require_number" "require_number" sReqNum fReqNum fdReqNum) (cReqNum : Cal K mg "require_number" fReqNum fdReqNum ["low", "high", "number"])
    (FReqBase : Fun K "require_base" "require_base" sReqBase fReqBase fdReqBase) (cReqBase : Cal K mg "require_base" fReqBase fdReqBase ["base"])
    (FWordForm : Fun K "has_word_form" "has_word_form" sWordForm fWordForm fdWordForm) (cWordForm : Cal K mg "has_word_form" fWordForm fdWordForm ["base", "value"])
    (FPfxForm : Fun K "has_prefix_form" "has_prefix_form" sPfxForm fPfxForm fdPfxForm) (cPfxForm : Cal K mg "has_prefix_form" fPfxForm fdPfxForm ["base", "roots", "value"])
    (FReqPfx : Fun K "require_prefix" "require_prefix" sReqPfx fReqPfx fdReqPfx) (cReqPfx : Cal K mg "require_prefix" fReqPfx fdReqPfx ["base", "roots", "prefix"])
    (FStreamForm : Fun K "has_stream_form" "has_stream_form" sStreamForm fStreamForm fdStreamForm) (cStreamForm : Cal K mg "has_stream_form" fStreamForm fdStreamForm ["base", "roots", "value"])
    (FReqStream : Fun K "require_stream" "require_stream" sReqStream fReqStream fdReqStream) (cReqStream : Cal K mg "require_stream" fReqStream fdReqStream ["base", "roots", "stream"])
    (FReqTwo : Fun K "require_two_streams" "require_two_streams" sReqTwo fReqTwo fdReqTwo) (cReqTwo : Cal K mg "require_two_streams" fReqTwo fdReqTwo ["base", "first", "second"])
    (FShort : Fun K "shortest_period" "shortest_period" sShortest fShort fdShort) (cShort : Cal K mg "shortest_period" fShort fdShort ["period"])
    (FNormal : Fun K "normal_stream" "normal_stream" sNormal fNormal fdNormal) (cNormal : Cal K mg "normal_stream" fNormal fdNormal ["root", "head", "period"])
    (FMake : Fun K "make_stream" "make_stream" sMake fMake fdMake) (cMake : Cal K mg "make_stream" fMake fdMake ["base", "root", "head", "period"])
    (FDigits : Fun K "digits" "digits" sDigits fDigits fdDigits) (cDigits : Cal K mg "digits" fDigits fdDigits ["base", "stream"])
    (FLead : Fun K "leading_word" "leading_word" sLead fLead fdLead) (cLead : Cal K mg "leading_word" fLead fdLead ["stream", "count"])
    (FBeginning : Fun K "beginning" "beginning" sBeginning fBeginning fdBeginning) (cBeginning : Cal K mg "beginning" fBeginning fdBeginning ["base", "stream", "count"])
    (FIsUnder : Fun K "is_under" "is_under" sIsUnder fIsUnder fdIsUnder) (cIsUnder : Cal K mg "is_under" fIsUnder fdIsUnder ["stream", "prefix"])
    (FBegins : Fun K "begins_with" "begins_with" sBegins fBegins fdBegins) (cBegins : Cal K mg "begins_with" fBegins fdBegins ["base", "stream", "prefix"])
    (FWithBeg : Fun K "with_beginning" "with_beginning" sWithBeg fWithBeg fdWithBeg) (cWithBeg : Cal K mg "with_beginning" fWithBeg fdWithBeg ["stream", "old", "new"])
    (FReplaced : Fun K "replaced" "replaced" sReplaced fReplaced fdReplaced) (cReplaced : Cal K mg "replaced" fReplaced fdReplaced ["base", "stream", "old", "new"])
    (FTelling : Fun K "telling_count" "telling_count" sTelling fTelling fdTelling) (cTelling : Cal K mg "telling_count" fTelling fdTelling ["first", "second"])
    (FBefore : Fun K "comes_before" "comes_before" sBefore fBefore fdBefore) (cBefore : Cal K mg "comes_before" fBefore fdBefore ["first", "second"])
    (FPrecedes : Fun K "precedes" "precedes" sPrecedes fPrecedes fdPrecedes) (cPrecedes : Cal K mg "precedes" fPrecedes fdPrecedes ["base", "first", "second"])
    (FComEnd : Fun K "common_end" "common_end" sComEnd fComEnd fdComEnd) (cComEnd : Cal K mg "common_end" fComEnd fdComEnd ["one", "other"])
    (FTailShift : Fun K "tail_shift" "tail_shift" sTailShift fTailShift fdTailShift) (cTailShift : Cal K mg "tail_shift" fTailShift fdTailShift ["base", "first", "second"])
    (FDice : Fun K "_law_dice" "_law_dice" sDice fDice fdDice) (cDice : Cal K mg "_law_dice" fDice fdDice ["script", "at"])
    (FPull : Fun K "_law_pull" "_law_pull" sPull fPull fdPull) (cPull : Cal K mg "_law_pull" fPull fdPull ["die", "many"])
    (FWord : Fun K "_law_word" "_law_word" sWord fWord fdWord) (cWord : Cal K mg "_law_word" fWord fdWord ["die", "base", "high"])
    (FLNormal : Fun K "_law_normal" "_law_normal" sLNormal fLNormal fdLNormal) (cLNormal : Cal K mg "_law_normal" fLNormal fdLNormal ["root", "head", "period"])
    (FLStream : Fun K "_law_stream" "_law_stream" sLStream fLStream fdLStream) (cLStream : Cal K mg "_law_stream" fLStream fdLStream ["die", "base", "wide", "high"])
    (FLBeg : Fun K "_law_beginning" "_law_beginning" sLBeg fLBeg fdLBeg) (cLBeg : Cal K mg "_law_beginning" fLBeg fdLBeg ["stream", "many"])
    (FLBase : Fun K "_law_base" "_law_base" sLBase fLBase fdLBase) (cLBase : Cal K mg "_law_base" fLBase fdLBase ["die"])
    (FNoBase : Fun K "_law_no_base" "_law_no_base" sNoBase fNoBase fdNoBase) (cNoBase : Cal K mg "_law_no_base" fNoBase fdNoBase ["die"])
    (FNoStream : Fun K "_law_no_stream" "_law_no_stream" sNoStream fNoStream fdNoStream) (cNoStream : Cal K mg "_law_no_stream" fNoStream fdNoStream ["die", "base"])
    (FLTail : Fun K "_law_tail" "_law_tail" sLTail fLTail fdLTail) (cLTail : Cal K mg "_law_tail" fLTail fdLTail ["stream", "many"])
    (FFirstPair : Fun K "_law_first_pair" "_law_first_pair" sFirstPair fFirstPair fdFirstPair) (cFirstPair : Cal K mg "_law_first_pair" fFirstPair fdFirstPair ["one", "other"])
    (FLPair : Fun K "_law_pair" "_law_pair" sLPair fLPair fdLPair) (cLPair : Cal K mg "_law_pair" fLPair fdLPair ["die", "base"])
    (FMadeRight : Fun K "_law_made_right" "_law_made_right" sMadeRight fMadeRight fdMadeRight) (cMadeRight : Cal K mg "_law_made_right" fMadeRight fdMadeRight ["die", "base", "one", "other"])
    (FRight : Fun K "_law_right" "_law_right" sRight fRight fdRight) (cRight : Cal K mg "_law_right" fRight fdRight ["die", "base"]) :
    VG.LawG l w K 10 63 "script" mg fa h := by
  obtain ⟨N, nr, nx, nn, nab, nz, nc⟩ := NN
  have e := hfa.symm.trans (PySem.W.mg_of X G a)
  cases e
  refine ⟨PySem.W.fnOf "law" "law" (defArgs sLaw) (defBody sLaw) (defScope sLaw) .none kV doc pm an cd ct, [(c, P2)], spLaw K P2, fun p hp => ?_, fun p hp => ?_, fun p hp => ?_, fun s v => .of_eq rfl, fun H a ns hl ht hs => ?_, fun base KB GB TB => ?_⟩
  · rw [List.mem_singleton.mp hp]
    exact hT
  · rw [List.mem_singleton.mp hp]
    exact nT
  · rw [List.mem_singleton.mp hp]
    exact PySem.W.codeHd_of_K X hh
  · refine ⟨a, ns, rfl, hs, hl, fun p hp => ?_, fun _ => rfl⟩
    rw [List.mem_singleton.mp hp]
    exact LamX.TabS.nil (ht _ (List.Mem.head _))
  · have GIsInt := ok_isint (P := l.prog) (w := w) (base := base) FIsInt N
    have GWithin := ok_within FWithin GIsInt cIsInt
    have GReqNum := ok_reqnum FReqNum GWithin cWithin num
    have GReqBase := ok_reqbase FReqBase GReqNum cReqNum N
    have GWordForm := ok_wordform (P := l.prog) (w := w) (base := base) FWordForm N
    have GShort := ok_short (P := l.prog) (w := w) (mg := mg) (base := base) FShort
    have GStreamForm := ok_streamform FStreamForm GWithin cWithin GWordForm cWordForm GShort cShort N
    have GReqStream := ok_reqstream FReqStream GStreamForm cStreamForm pfx
    have GPfxForm := ok_pfxform FPfxForm GWithin cWithin GWordForm cWordForm N
    have GReqPfx := ok_reqpfx FReqPfx GPfxForm cPfxForm pfX
    have GReqTwo := ok_reqtwo FReqTwo GReqBase cReqBase GReqStream cReqStream N
    have GNormal := ok_normal FNormal GShort cShort N.len
    have GMake := ok_makeR FMake GReqBase cReqBase GWithin cWithin GWordForm cWordForm GNormal cNormal pfx N
    have GLead := ok_lead (P := l.prog) (w := w) (base := base) FLead N.len nx
    have GBeginning := ok_beginning FBeginning GReqBase cReqBase GReqStream cReqStream GReqNum cReqNum GLead cLead N nc
    have GIsUnder := ok_under FIsUnder GLead cLead N.len
    have GBegins := ok_begins FBegins GReqBase cReqBase GReqStream cReqStream GReqPfx cReqPfx GIsUnder cIsUnder N
    have GWithBeg := ok_withbeg FWithBeg GNormal cNormal N.len nx
    have GReplaced := ok_replaced FReplaced GReqBase cReqBase GReqStream cReqStream GReqPfx cReqPfx GIsUnder cIsUnder GWithBeg cWithBeg pfO N
    have GTelling := ok_telling (P := l.prog) (w := w) (base := base) FTelling N.len nx
    have GBefore := ok_before FBefore GTelling cTelling GLead cLead
    have GPrecedes := ok_precedes FPrecedes GReqTwo cReqTwo GBefore cBefore
    have GComEnd := ok_comend (P := l.prog) (w := w) (base := base) FComEnd N.len nn
    have GTailShift := ok_tailshift FTailShift GReqTwo cReqTwo GComEnd cComEnd N.len
    have GDice := ok_dice (P := l.prog) (w := w) (base := base) FDice N.len nab N.int nx
    have GPull := ok_pull (P := l.prog) (w := w) (mg := mg) (base := base) FPull
    have GWord := ok_word FWord GPull cPull nr
    have GLNormal := ok_lnormal (P := l.prog) (w := w) (base := base) FLNormal N.len nr
    have GLStream := ok_lstream FLStream GPull cPull GWord cWord GLNormal cLNormal
    have GLBeg := ok_lbeg (P := l.prog) (w := w) (base := base) FLBeg N.len
    have GLBase := ok_base FLBase GPull cPull
    have GNoBase := ok_nobase FNoBase GPull cPull
    have GNoStream := ok_nostream FNoStream GPull cPull N.str
    have GLTail := ok_ltail FLTail GLNormal cLNormal N.len
    have GFirstPair := ok_firstpair FFirstPair GLTail cLTail N.len nr
    have GLPair := ok_lpair FLPair GPull cPull GLStream cLStream GLTail cLTail GLNormal cLNormal N.len
    have GMadeRight := ok_maderight FMadeRight FDigits cDigits GReqBase cReqBase GReqStream cReqStream GBeginning cBeginning GMake cMake GPrecedes cPrecedes N nz nr N.str
    have GRight := ok_right6 FRight GLPair cLPair GTailShift cTailShift GFirstPair cFirstPair GLBeg cLBeg GWord cWord GBegins cBegins GReplaced cReplaced GMadeRight cMadeRight told.rep
    have FE := fun_mk (st := sErr) lE cE kE
    have bE := FE.binds (ps := ["die", "base"]) fun _ _ _ _ _ _ us hl => match us, hl with | [_, _], _ => rfl
    have GErr := ok_err (P2 := P2) (c := c) FE GNoBase cNoBase GNoStream cNoStream GLStream cLStream GTailShift cTailShift TF told (TB _ (List.Mem.head _)) (fun cdv hx => by
      obtain ⟨_, _, _, _, _, _, _, _, q⟩ := hx
      rw [lE] at q
      injection q with q
      injection q with _ _ q _
      injection q with q
      exact (congrArg FuncData.code q).symm)
    exact ok_law (fun_mk (st := sLaw) lk cc k) GDice cDice GLBase cLBase GRight cRight GErr ⟨PySem.W.mg_of X G aE, kE, bE⟩ GTailShift cTailShift N nr nx nn
end
end Vf


set_option Elab.async false
open PySem PySem.W PyProof.Rows
set_option maxRecDepth 100000 in
set_option maxHeartbeats 0 in
theorem PySem.Challenge.cw_prefixtable_k06_whole_tails_holds : PySem.Challenge.rw_prefixtable_k06_whole_tails.Holds := by
  w_on; o_law; k_head; (case hw => w_witness2)
  k_fill
  refine VG.walkG (l := PySem.Challenge.rw_prefixtable_k06_whole_tails) (n := 63) (k := 10) (x := "script") rfl (by decide) rfl ⟨rfl, by decide, by decide⟩ (fun w h Y => PySem.W.km_in_of Y) ?F
  case F =>
    intro w mg fa h Y KX G hmg
    have hT := PySem.W.km_tabs_of Y
    refine' Exists.elim (Vf.def_mk (x := "is_integer") (st := Vf.sIsInt) (ps := ["value"]) KX G ?aIsInt ?lIsInt ?cIsInt ?kIsInt ?bIsInt) ?_
    (case aIsInt => k_is); (case lIsInt => k_is); (case cIsInt => k_is); (case kIsInt => k_is)
    (case bIsInt => exact fun fd F => F.binds fun _ _ _ _ _ _ us hl => match us, hl with | [_], _ => rfl)
    rintro fIsInt ⟨fdIsInt, FIsInt, cIsInt⟩
    refine' Exists.elim (Vf.def_mk (x := "is_integer_within") (st := Vf.sWithin) (ps := ["low", "high", "value"]) KX G ?aWithin ?lWithin ?cWithin ?kWithin ?bWithin) ?_
    (case aWithin => k_is); (case lWithin => k_is); (case cWithin => k_is); (case kWithin => k_is)
    (case bWithin => exact fun fd F => F.binds fun _ _ _ _ _ _ us hl => match us, hl with | [_, _, _], _ => rfl)
    rintro fWithin ⟨fdWithin, FWithin, cWithin⟩
    refine' Exists.elim (Vf.def_mk (x := "require_number") (st := Vf.sReqNum) (ps := ["low", "high", "number"]) KX G ?aReqNum ?lReqNum ?cReqNum ?kReqNum ?bReqNum) ?_
    (case aReqNum => k_is); (case lReqNum => k_is); (case cReqNum => k_is); (case kReqNum => k_is)
    (case bReqNum => exact fun fd F => F.binds fun _ _ _ _ _ _ us hl => match us, hl with | [_, _, _], _ => rfl)
    rintro fReqNum ⟨fdReqNum, FReqNum, cReqNum⟩
    refine' Exists.elim (Vf.def_mk (x := "require_base") (st := Vf.sReqBase) (ps := ["base"]) KX G ?aReqBase ?lReqBase ?cReqBase ?kReqBase ?bReqBase) ?_
    (case aReqBase => k_is); (case lReqBase => k_is); (case cReqBase => k_is); (case kReqBase => k_is)
    (case bReqBase => exact fun fd F => F.binds fun _ _ _ _ _ _ us hl => match us, hl with | [_], _ => rfl)
    rintro fReqBase ⟨fdReqBase, FReqBase, cReqBase⟩
    refine' Exists.elim (Vf.def_mk (x := "has_word_form") (st := Vf.sWordForm) (ps := ["base", "value"]) KX G ?aWordForm ?lWordForm ?cWordForm ?kWordForm ?bWordForm) ?_
    (case aWordForm => k_is); (case lWordForm => k_is); (case cWordForm => k_is); (case kWordForm => k_is)
    (case bWordForm => exact fun fd F => F.binds fun _ _ _ _ _ _ us hl => match us, hl with | [_, _], _ => rfl)
    rintro fWordForm ⟨fdWordForm, FWordForm, cWordForm⟩
    refine' Exists.elim (Vf.def_mk (x := "has_prefix_form") (st := Vf.sPfxForm) (ps := ["base", "roots", "value"]) KX G ?aPfxForm ?lPfxForm ?cPfxForm ?kPfxForm ?bPfxForm) ?_
    (case aPfxForm => k_is); (case lPfxForm => k_is); (case cPfxForm => k_is); (case kPfxForm => k_is)
    (case bPfxForm => exact fun fd F => F.binds fun _ _ _ _ _ _ us hl => match us, hl with | [_, _, _], _ => rfl)
    rintro fPfxForm ⟨fdPfxForm, FPfxForm, cPfxForm⟩
    refine' Exists.elim (Vf.def_mk (x := "require_prefix") (st := Vf.sReqPfx) (ps := ["base", "roots", "prefix"]) KX G ?aReqPfx ?lReqPfx ?cReqPfx ?kReqPfx ?bReqPfx) ?_
    (case aReqPfx => k_is); (case lReqPfx => k_is); (case cReqPfx => k_is); (case kReqPfx => k_is)
    (case bReqPfx => exact fun fd F => F.binds fun _ _ _ _ _ _ us hl => match us, hl with | [_, _, _], _ => rfl)
    rintro fReqPfx ⟨fdReqPfx, FReqPfx, cReqPfx⟩
    refine' Exists.elim (Vf.def_mk (x := "has_stream_form") (st := Vf.sStreamForm) (ps := ["base", "roots", "value"]) KX G ?aStreamForm ?lStreamForm ?cStreamForm ?kStreamForm ?bStreamForm) ?_
    (case aStreamForm => k_is); (case lStreamForm => k_is); (case cStreamForm => k_is); (case kStreamForm => k_is)
    (case bStreamForm => exact fun fd F => F.binds fun _ _ _ _ _ _ us hl => match us, hl with | [_, _, _], _ => rfl)
    rintro fStreamForm ⟨fdStreamForm, FStreamForm, cStreamForm⟩
    refine' Exists.elim (Vf.def_mk (x := "require_stream") (st := Vf.sReqStream) (ps := ["base", "roots", "stream"]) KX G ?aReqStream ?lReqStream ?cReqStream ?kReqStream ?bReqStream) ?_
    (case aReqStream => k_is); (case lReqStream => k_is); (case cReqStream => k_is); (case kReqStream => k_is)
    (case bReqStream => exact fun fd F => F.binds fun _ _ _ _ _ _ us hl => match us, hl with | [_, _, _], _ => rfl)
    rintro fReqStream ⟨fdReqStream, FReqStream, cReqStream⟩
    refine' Exists.elim (Vf.def_mk (x := "require_two_streams") (st := Vf.sReqTwo) (ps := ["base", "first", "second"]) KX G ?aReqTwo ?lReqTwo ?cReqTwo ?kReqTwo ?bReqTwo) ?_
    (case aReqTwo => k_is); (case lReqTwo => k_is); (case cReqTwo => k_is); (case kReqTwo => k_is)
    (case bReqTwo => exact fun fd F => F.binds fun _ _ _ _ _ _ us hl => match us, hl with | [_, _, _], _ => rfl)
    rintro fReqTwo ⟨fdReqTwo, FReqTwo, cReqTwo⟩
    refine' Exists.elim (Vf.def_mk (x := "shortest_period") (st := Vf.sShortest) (ps := ["period"]) KX G ?aShort ?lShort ?cShort ?kShort ?bShort) ?_
    (case aShort => k_is); (case lShort => k_is); (case cShort => k_is); (case kShort => k_is)
    (case bShort => exact fun fd F => F.binds fun _ _ _ _ _ _ us hl => match us, hl with | [_], _ => rfl)
    rintro fShort ⟨fdShort, FShort, cShort⟩
    refine' Exists.elim (Vf.def_mk (x := "normal_stream") (st := Vf.sNormal) (ps := ["root", "head", "period"]) KX G ?aNormal ?lNormal ?cNormal ?kNormal ?bNormal) ?_
    (case aNormal => k_is); (case lNormal => k_is); (case cNormal => k_is); (case kNormal => k_is)
    (case bNormal => exact fun fd F => F.binds fun _ _ _ _ _ _ us hl => match us, hl with | [_, _, _], _ => rfl)
    rintro fNormal ⟨fdNormal, FNormal, cNormal⟩
    refine' Exists.elim (Vf.def_mk (x := "make_stream") (st := Vf.sMake) (ps := ["base", "root", "head", "period"]) KX G ?aMake ?lMake ?cMake ?kMake ?bMake) ?_
    (case aMake => k_is); (case lMake => k_is); (case cMake => k_is); (case kMake => k_is)
    (case bMake => exact fun fd F => F.binds fun _ _ _ _ _ _ us hl => match us, hl with | [_, _, _, _], _ => rfl)
    rintro fMake ⟨fdMake, FMake, cMake⟩
    refine' Exists.elim (Vf.def_mk (x := "digits") (st := Vf.sDigits) (ps := ["base", "stream"]) KX G ?aDigits ?lDigits ?cDigits ?kDigits ?bDigits) ?_
    (case aDigits => k_is); (case lDigits => k_is); (case cDigits => k_is); (case kDigits => k_is)
    (case bDigits => exact fun fd F => F.binds fun _ _ _ _ _ _ us hl => match us, hl with | [_, _], _ => rfl)
    rintro fDigits ⟨fdDigits, FDigits, cDigits⟩
    refine' Exists.elim (Vf.def_mk (x := "leading_word") (st := Vf.sLead) (ps := ["stream", "count"]) KX G ?aLead ?lLead ?cLead ?kLead ?bLead) ?_
    (case aLead => k_is); (case lLead => k_is); (case cLead => k_is); (case kLead => k_is)
    (case bLead => exact fun fd F => F.binds fun _ _ _ _ _ _ us hl => match us, hl with | [_, _], _ => rfl)
    rintro fLead ⟨fdLead, FLead, cLead⟩
    refine' Exists.elim (Vf.def_mk (x := "beginning") (st := Vf.sBeginning) (ps := ["base", "stream", "count"]) KX G ?aBeginning ?lBeginning ?cBeginning ?kBeginning ?bBeginning) ?_
    (case aBeginning => k_is); (case lBeginning => k_is); (case cBeginning => k_is); (case kBeginning => k_is)
    (case bBeginning => exact fun fd F => F.binds fun _ _ _ _ _ _ us hl => match us, hl with | [_, _, _], _ => rfl)
    rintro fBeginning ⟨fdBeginning, FBeginning, cBeginning⟩
    refine' Exists.elim (Vf.def_mk (x := "is_under") (st := Vf.sIsUnder) (ps := ["stream", "prefix"]) KX G ?aIsUnder ?lIsUnder ?cIsUnder ?kIsUnder ?bIsUnder) ?_
    (case aIsUnder => k_is); (case lIsUnder => k_is); (case cIsUnder => k_is); (case kIsUnder => k_is)
    (case bIsUnder => exact fun fd F => F.binds fun _ _ _ _ _ _ us hl => match us, hl with | [_, _], _ => rfl)
    rintro fIsUnder ⟨fdIsUnder, FIsUnder, cIsUnder⟩
    refine' Exists.elim (Vf.def_mk (x := "begins_with") (st := Vf.sBegins) (ps := ["base", "stream", "prefix"]) KX G ?aBegins ?lBegins ?cBegins ?kBegins ?bBegins) ?_
    (case aBegins => k_is); (case lBegins => k_is); (case cBegins => k_is); (case kBegins => k_is)
    (case bBegins => exact fun fd F => F.binds fun _ _ _ _ _ _ us hl => match us, hl with | [_, _, _], _ => rfl)
    rintro fBegins ⟨fdBegins, FBegins, cBegins⟩
    refine' Exists.elim (Vf.def_mk (x := "with_beginning") (st := Vf.sWithBeg) (ps := ["stream", "old", "new"]) KX G ?aWithBeg ?lWithBeg ?cWithBeg ?kWithBeg ?bWithBeg) ?_
    (case aWithBeg => k_is); (case lWithBeg => k_is); (case cWithBeg => k_is); (case kWithBeg => k_is)
    (case bWithBeg => exact fun fd F => F.binds fun _ _ _ _ _ _ us hl => match us, hl with | [_, _, _], _ => rfl)
    rintro fWithBeg ⟨fdWithBeg, FWithBeg, cWithBeg⟩
    refine' Exists.elim (Vf.def_mk (x := "replaced") (st := Vf.sReplaced) (ps := ["base", "stream", "old", "new"]) KX G ?aReplaced ?lReplaced ?cReplaced ?kReplaced ?bReplaced) ?_
    (case aReplaced => k_is); (case lReplaced => k_is); (case cReplaced => k_is); (case kReplaced => k_is)
    (case bReplaced => exact fun fd F => F.binds fun _ _ _ _ _ _ us hl => match us, hl with | [_, _, _, _], _ => rfl)
    rintro fReplaced ⟨fdReplaced, FReplaced, cReplaced⟩
    refine' Exists.elim (Vf.def_mk (x := "telling_count") (st := Vf.sTelling) (ps := ["first", "second"]) KX G ?aTelling ?lTelling ?cTelling ?kTelling ?bTelling) ?_
    (case aTelling => k_is); (case lTelling => k_is); (case cTelling => k_is); (case kTelling => k_is)
    (case bTelling => exact fun fd F => F.binds fun _ _ _ _ _ _ us hl => match us, hl with | [_, _], _ => rfl)
    rintro fTelling ⟨fdTelling, FTelling, cTelling⟩
    refine' Exists.elim (Vf.def_mk (x := "comes_before") (st := Vf.sBefore) (ps := ["first", "second"]) KX G ?aBefore ?lBefore ?cBefore ?kBefore ?bBefore) ?_
    (case aBefore => k_is); (case lBefore => k_is); (case cBefore => k_is); (case kBefore => k_is)
    (case bBefore => exact fun fd F => F.binds fun _ _ _ _ _ _ us hl => match us, hl with | [_, _], _ => rfl)
    rintro fBefore ⟨fdBefore, FBefore, cBefore⟩
    refine' Exists.elim (Vf.def_mk (x := "precedes") (st := Vf.sPrecedes) (ps := ["base", "first", "second"]) KX G ?aPrecedes ?lPrecedes ?cPrecedes ?kPrecedes ?bPrecedes) ?_
    (case aPrecedes => k_is); (case lPrecedes => k_is); (case cPrecedes => k_is); (case kPrecedes => k_is)
    (case bPrecedes => exact fun fd F => F.binds fun _ _ _ _ _ _ us hl => match us, hl with | [_, _, _], _ => rfl)
    rintro fPrecedes ⟨fdPrecedes, FPrecedes, cPrecedes⟩
    refine' Exists.elim (Vf.def_mk (x := "common_end") (st := Vf.sComEnd) (ps := ["one", "other"]) KX G ?aComEnd ?lComEnd ?cComEnd ?kComEnd ?bComEnd) ?_
    (case aComEnd => k_is); (case lComEnd => k_is); (case cComEnd => k_is); (case kComEnd => k_is)
    (case bComEnd => exact fun fd F => F.binds fun _ _ _ _ _ _ us hl => match us, hl with | [_, _], _ => rfl)
    rintro fComEnd ⟨fdComEnd, FComEnd, cComEnd⟩
    refine' Exists.elim (Vf.def_mk (x := "tail_shift") (st := Vf.sTailShift) (ps := ["base", "first", "second"]) KX G ?aTailShift ?lTailShift ?cTailShift ?kTailShift ?bTailShift) ?_
    (case aTailShift => k_is); (case lTailShift => k_is); (case cTailShift => k_is); (case kTailShift => k_is)
    (case bTailShift => exact fun fd F => F.binds fun _ _ _ _ _ _ us hl => match us, hl with | [_, _, _], _ => rfl)
    rintro fTailShift ⟨fdTailShift, FTailShift, cTailShift⟩
    refine' Exists.elim (Vf.def_mk (x := "_law_dice") (st := Vf.sDice) (ps := ["script", "at"]) KX G ?aDice ?lDice ?cDice ?kDice ?bDice) ?_
    (case aDice => k_is); (case lDice => k_is); (case cDice => k_is); (case kDice => k_is)
    (case bDice => exact fun fd F => F.binds fun _ _ _ _ _ _ us hl => match us, hl with | [_, _], _ => rfl)
    rintro fDice ⟨fdDice, FDice, cDice⟩
    refine' Exists.elim (Vf.def_mk (x := "_law_pull") (st := Vf.sPull) (ps := ["die", "many"]) KX G ?aPull ?lPull ?cPull ?kPull ?bPull) ?_
    (case aPull => k_is); (case lPull => k_is); (case cPull => k_is); (case kPull => k_is)
    (case bPull => exact fun fd F => F.binds fun _ _ _ _ _ _ us hl => match us, hl with | [_, _], _ => rfl)
    rintro fPull ⟨fdPull, FPull, cPull⟩
    refine' Exists.elim (Vf.def_mk (x := "_law_word") (st := Vf.sWord) (ps := ["die", "base", "high"]) KX G ?aWord ?lWord ?cWord ?kWord ?bWord) ?_
    (case aWord => k_is); (case lWord => k_is); (case cWord => k_is); (case kWord => k_is)
    (case bWord => exact fun fd F => F.binds fun _ _ _ _ _ _ us hl => match us, hl with | [_, _, _], _ => rfl)
    rintro fWord ⟨fdWord, FWord, cWord⟩
    refine' Exists.elim (Vf.def_mk (x := "_law_normal") (st := Vf.sLNormal) (ps := ["root", "head", "period"]) KX G ?aLNormal ?lLNormal ?cLNormal ?kLNormal ?bLNormal) ?_
    (case aLNormal => k_is); (case lLNormal => k_is); (case cLNormal => k_is); (case kLNormal => k_is)
    (case bLNormal => exact fun fd F => F.binds fun _ _ _ _ _ _ us hl => match us, hl with | [_, _, _], _ => rfl)
    rintro fLNormal ⟨fdLNormal, FLNormal, cLNormal⟩
    refine' Exists.elim (Vf.def_mk (x := "_law_stream") (st := Vf.sLStream) (ps := ["die", "base", "wide", "high"]) KX G ?aLStream ?lLStream ?cLStream ?kLStream ?bLStream) ?_
    (case aLStream => k_is); (case lLStream => k_is); (case cLStream => k_is); (case kLStream => k_is)
    (case bLStream => exact fun fd F => F.binds fun _ _ _ _ _ _ us hl => match us, hl with | [_, _, _, _], _ => rfl)
    rintro fLStream ⟨fdLStream, FLStream, cLStream⟩
    refine' Exists.elim (Vf.def_mk (x := "_law_beginning") (st := Vf.sLBeg) (ps := ["stream", "many"]) KX G ?aLBeg ?lLBeg ?cLBeg ?kLBeg ?bLBeg) ?_
    (case aLBeg => k_is); (case lLBeg => k_is); (case cLBeg => k_is); (case kLBeg => k_is)
    (case bLBeg => exact fun fd F => F.binds fun _ _ _ _ _ _ us hl => match us, hl with | [_, _], _ => rfl)
    rintro fLBeg ⟨fdLBeg, FLBeg, cLBeg⟩
    refine' Exists.elim (Vf.def_mk (x := "_law_base") (st := Vf.sLBase) (ps := ["die"]) KX G ?aLBase ?lLBase ?cLBase ?kLBase ?bLBase) ?_
    (case aLBase => k_is); (case lLBase => k_is); (case cLBase => k_is); (case kLBase => k_is)
    (case bLBase => exact fun fd F => F.binds fun _ _ _ _ _ _ us hl => match us, hl with | [_], _ => rfl)
    rintro fLBase ⟨fdLBase, FLBase, cLBase⟩
    refine' Exists.elim (Vf.def_mk (x := "_law_no_base") (st := Vf.sNoBase) (ps := ["die"]) KX G ?aNoBase ?lNoBase ?cNoBase ?kNoBase ?bNoBase) ?_
    (case aNoBase => k_is); (case lNoBase => k_is); (case cNoBase => k_is); (case kNoBase => k_is)
    (case bNoBase => exact fun fd F => F.binds fun _ _ _ _ _ _ us hl => match us, hl with | [_], _ => rfl)
    rintro fNoBase ⟨fdNoBase, FNoBase, cNoBase⟩
    refine' Exists.elim (Vf.def_mk (x := "_law_no_stream") (st := Vf.sNoStream) (ps := ["die", "base"]) KX G ?aNoStream ?lNoStream ?cNoStream ?kNoStream ?bNoStream) ?_
    (case aNoStream => k_is); (case lNoStream => k_is); (case cNoStream => k_is); (case kNoStream => k_is)
    (case bNoStream => exact fun fd F => F.binds fun _ _ _ _ _ _ us hl => match us, hl with | [_, _], _ => rfl)
    rintro fNoStream ⟨fdNoStream, FNoStream, cNoStream⟩
    refine' Exists.elim (Vf.def_mk (x := "_law_tail") (st := Vf.sLTail) (ps := ["stream", "many"]) KX G ?aLTail ?lLTail ?cLTail ?kLTail ?bLTail) ?_
    (case aLTail => k_is); (case lLTail => k_is); (case cLTail => k_is); (case kLTail => k_is)
    (case bLTail => exact fun fd F => F.binds fun _ _ _ _ _ _ us hl => match us, hl with | [_, _], _ => rfl)
    rintro fLTail ⟨fdLTail, FLTail, cLTail⟩
    refine' Exists.elim (Vf.def_mk (x := "_law_first_pair") (st := Vf.sFirstPair) (ps := ["one", "other"]) KX G ?aFirstPair ?lFirstPair ?cFirstPair ?kFirstPair ?bFirstPair) ?_
    (case aFirstPair => k_is); (case lFirstPair => k_is); (case cFirstPair => k_is); (case kFirstPair => k_is)
    (case bFirstPair => exact fun fd F => F.binds fun _ _ _ _ _ _ us hl => match us, hl with | [_, _], _ => rfl)
    rintro fFirstPair ⟨fdFirstPair, FFirstPair, cFirstPair⟩
    refine' Exists.elim (Vf.def_mk (x := "_law_pair") (st := Vf.sLPair) (ps := ["die", "base"]) KX G ?aLPair ?lLPair ?cLPair ?kLPair ?bLPair) ?_
    (case aLPair => k_is); (case lLPair => k_is); (case cLPair => k_is); (case kLPair => k_is)
    (case bLPair => exact fun fd F => F.binds fun _ _ _ _ _ _ us hl => match us, hl with | [_, _], _ => rfl)
    rintro fLPair ⟨fdLPair, FLPair, cLPair⟩
    refine' Exists.elim (Vf.def_mk (x := "_law_made_right") (st := Vf.sMadeRight) (ps := ["die", "base", "one", "other"]) KX G ?aMadeRight ?lMadeRight ?cMadeRight ?kMadeRight ?bMadeRight) ?_
    (case aMadeRight => k_is); (case lMadeRight => k_is); (case cMadeRight => k_is); (case kMadeRight => k_is)
    (case bMadeRight => exact fun fd F => F.binds fun _ _ _ _ _ _ us hl => match us, hl with | [_, _, _, _], _ => rfl)
    rintro fMadeRight ⟨fdMadeRight, FMadeRight, cMadeRight⟩
    refine' Exists.elim (Vf.def_mk (x := "_law_right") (st := Vf.sRight) (ps := ["die", "base"]) KX G ?aRight ?lRight ?cRight ?kRight ?bRight) ?_
    (case aRight => k_is); (case lRight => k_is); (case cRight => k_is); (case kRight => k_is)
    (case bRight => exact fun fd F => F.binds fun _ _ _ _ _ _ us hl => match us, hl with | [_, _], _ => rfl)
    rintro fRight ⟨fdRight, FRight, cRight⟩
    refine' Exists.elim (Vf.cls_mk (P := PySem.Challenge.rw_prefixtable_k06_whole_tails.prog) KX G ?j_gC ?j_noSuper ?j_cls ?j_sa ?j_ga ?j_gg ?j_ov ?j_qi ?j_tk ?j_noV ?j_hdC ?j_iC ?j_tC ?j_any ?j_sup ?j_sI ?j_mro ?j_kC ?j_exC ?j_tyC ?j_top ?j_l1 ?j_c1 ?j_l2 ?j_fl ?j_fm ?j_l3 ?j_gP ?j_rep ?j_isi ?j_pS ?j_pX ?j_pO ?j_eS ?j_eX ?j_eO ?j_nn ?j_n0 ?j_n1 ?j_n2 ?j_p0 ?j_p1 ?j_p2 ?j_q00 ?j_q01 ?j_q02 ?j_q10 ?j_q11 ?j_q12 ?j_q20 ?j_q21 ?j_q22) ?_
    (case j_gC => k_is)
    (case j_noSuper => k_is)
    (case j_cls => k_is)
    (case j_sa => k_is)
    (case j_ga => k_is)
    (case j_gg => k_is)
    (case j_ov => first | rfl | kernel_rfl)
    (case j_qi => first | rfl | kernel_rfl)
    (case j_tk => k_is)
    (case j_noV => k_is)
    (case j_hdC => k_is)
    (case j_iC => k_is)
    (case j_tC => k_is)
    (case j_any => k_is)
    (case j_sup => first | ks_is | rfl | kernel_rfl)
    (case j_sI => k_is)
    (case j_mro => k_is)
    (case j_kC => k_is)
    (case j_exC => k_is)
    (case j_tyC => k_is)
    (case j_top => decide +kernel)
    (case j_l1 => k_is)
    (case j_c1 => k_is)
    (case j_l2 => k_is)
    (case j_fl => rfl)
    (case j_fm => first | rfl | decide +kernel)
    (case j_l3 => k_is)
    (case j_gP => k_is)
    (case j_rep => k_is)
    (case j_isi => k_is)
    (case j_pS => refine' Vf.pfx_mk KX G ?gpS ?epS ?kpS ?bpS ?tpS; (case gpS => k_is); (case epS => first | rfl | kernel_rfl); (case kpS => k_is); (case bpS => k_is); (case tpS => k_is))
    (case j_pX => refine' Vf.pfx_mk KX G ?gpX ?epX ?kpX ?bpX ?tpX; (case gpX => k_is); (case epX => first | rfl | kernel_rfl); (case kpX => k_is); (case bpX => k_is); (case tpX => k_is))
    (case j_pO => refine' Vf.pfx_mk KX G ?gpO ?epO ?kpO ?bpO ?tpO; (case gpO => k_is); (case epO => first | rfl | kernel_rfl); (case kpO => k_is); (case bpO => k_is); (case tpO => k_is))
    (case j_eS => refine' Vf.exc_mk ?beS ?a1eS ?a2eS ?a4eS ?a5eS ?a6eS ?a7eS ?a8eS; (case beS => k_is); (case a1eS => k_is); (case a2eS => k_is); (case a4eS => k_is); (case a5eS => k_is); (case a6eS => k_is); (case a7eS => k_is); (case a8eS => k_is))
    (case j_eX => refine' Vf.exc_mk ?beX ?a1eX ?a2eX ?a4eX ?a5eX ?a6eX ?a7eX ?a8eX; (case beX => k_is); (case a1eX => k_is); (case a2eX => k_is); (case a4eX => k_is); (case a5eX => k_is); (case a6eX => k_is); (case a7eX => k_is); (case a8eX => k_is))
    (case j_eO => refine' Vf.exc_mk ?beO ?a1eO ?a2eO ?a4eO ?a5eO ?a6eO ?a7eO ?a8eO; (case beO => k_is); (case a1eO => k_is); (case a2eO => k_is); (case a4eO => k_is); (case a5eO => k_is); (case a6eO => k_is); (case a7eO => k_is); (case a8eO => k_is))
    (case j_nn => first | rfl | kernel_rfl)
    (case j_n0 => first | rfl | kernel_rfl)
    (case j_n1 => first | rfl | kernel_rfl)
    (case j_n2 => first | rfl | kernel_rfl)
    (case j_p0 => first | rfl | kernel_rfl)
    (case j_p1 => first | rfl | kernel_rfl)
    (case j_p2 => first | rfl | kernel_rfl)
    (case j_q00 => first | rfl | kernel_rfl)
    (case j_q01 => first | rfl | kernel_rfl)
    (case j_q02 => first | rfl | kernel_rfl)
    (case j_q10 => first | rfl | kernel_rfl)
    (case j_q11 => first | rfl | kernel_rfl)
    (case j_q12 => first | rfl | kernel_rfl)
    (case j_q20 => first | rfl | kernel_rfl)
    (case j_q21 => first | rfl | kernel_rfl)
    (case j_q22 => first | rfl | kernel_rfl)
    rintro CN ⟨fI, CS, CP, CX, CO, num, pfx, pfX, pfO, told⟩
    have NN : Vf.Nm mg ∧ mg "range" = none ∧ mg "max" = none ∧ mg "min" = none ∧ mg "abs" = none ∧ mg "zip" = none ∧ ∃ t, mg "MAX_COUNT" = some (.int 2000 t) := by
      refine' Vf.nm_mk KX G ?z1 ?z2 ?z3 ?z4 ?z5 ?z6 ?y1 ?y2 ?y3 ?y4 ?z7 ?z8 ?z9 ?z10 ?z11 ?y5
      (case z1 => k_is)
      (case z2 => k_is)
      (case z3 => k_is)
      (case z4 => k_is)
      (case z5 => k_is)
      (case z6 => k_is)
      (case y1 => k_is)
      (case y2 => k_is)
      (case y3 => k_is)
      (case y4 => k_is)
      (case z7 => k_is)
      (case z8 => k_is)
      (case z9 => k_is)
      (case z10 => k_is)
      (case z11 => k_is)
      (case y5 => k_is)
    refine' Exists.elim (Vf.told_mk KX G ?ta ?tl ?tc ?tk) ?_
    (case ta => k_is); (case tl => k_is); (case tc => k_is); (case tk => k_is)
    rintro g TF
    refine' Vf.law_mk (P2 := 361) KX G hmg ?ga ?lk ?cc ?gk ?aE ?lE ?cE ?kE (hT _ (by simp)) ?nT ?hh num pfx pfX pfO told TF NN FIsInt cIsInt FWithin cWithin FReqNum cReqNum FReqBase cReqBase FWordForm cWordForm FPfxForm cPfxForm FReqPfx cReqPfx FStreamForm cStreamForm FReqStream cReqStream FReqTwo cReqTwo FShort cShort FNormal cNormal FMake cMake FDigits cDigits FLead cLead FBeginning cBeginning FIsUnder cIsUnder FBegins cBegins FWithBeg cWithBeg FReplaced cReplaced FTelling cTelling FBefore cBefore FPrecedes cPrecedes FComEnd cComEnd FTailShift cTailShift FDice cDice FPull cPull FWord cWord FLNormal cLNormal FLStream cLStream FLBeg cLBeg FLBase cLBase FNoBase cNoBase FNoStream cNoStream FLTail cLTail FFirstPair cFirstPair FLPair cLPair FMadeRight cMadeRight FRight cRight
    (case ga => k_is); (case lk => k_is); (case cc => k_is); (case gk => k_is)
    (case aE => k_is); (case lE => k_is); (case cE => k_is); (case kE => k_is)
    (case nT => first | rfl | kernel_rfl)
    (case hh => first | rfl | kernel_rfl)


