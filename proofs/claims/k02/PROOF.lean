import PyProof.Rows.All
import Wide.All
import OpenK.AllK
import Wide.FinOn
import HandS.ForMost
import HandS.StrMore
import HandS.TryMany
import HandS.Lambda
import HandS.EndTab
import HandS.IsInst
import HandS.Wide
import HandS.WideMore
import HandS.ExcField
import HandS.ExcIs
import HandS.Style
import HandS.WordsExc
import HandS.Deep
import HandS.SetFor
import HandS.Flow
import PyProof.ReprRoads
import KE.KExcSuper
import PySem.Challenge.RW_prefixtable_k02_streams_made
import KE.KNestM
set_option Elab.async false
set_option maxRecDepth 100000
set_option maxHeartbeats 4000000
set_option exponentiation.threshold 3000
/-! Streams made: the text by places, and rules of my own. -/
namespace Vf
open PySem L2
def top (i : Nat) : Stmt := PySem.Challenge.pw_prefixtable_k02_streams_made.main.body.getD i (.Pass ⟨0, 0, 0, 0⟩)
abbrev sIsInt : Stmt := top 7
abbrev sWithin : Stmt := top 8
abbrev sReqNum : Stmt := top 9
abbrev sReqBase : Stmt := top 15
abbrev sReqRoots : Stmt := top 16
abbrev sWordForm : Stmt := top 17
abbrev sIsStream : Stmt := top 19
abbrev sStreamForm : Stmt := top 20
abbrev sShortest : Stmt := top 21
abbrev sNormal : Stmt := top 22
abbrev sMake : Stmt := top 23
abbrev sDice : Stmt := top 25
abbrev sPull : Stmt := top 26
abbrev sWord : Stmt := top 27
abbrev sLNormal : Stmt := top 28
abbrev sLStream : Stmt := top 29
abbrev sLBeg : Stmt := top 30
abbrev sLBase : Stmt := top 31
abbrev sTold : Stmt := top 32
abbrev sNoBase : Stmt := top 33
abbrev sOther : Stmt := top 34
abbrev sRight : Stmt := top 35
abbrev sErr : Stmt := top 36
abbrev sLaw : Stmt := top 37

/-! ### the dice: three ints in a list -/
structure DieV (d0 d1 d2 : Int) : Prop where
  p0 : 0 ≤ d0
  w0 : d0.natAbs < 2 ^ 2300
  p1 : 0 ≤ d1
  p2 : 0 ≤ d2
def dieL (d : Int × Int × Int) : List V := [.int d.1, .int d.2.1, .int d.2.2]
def DieOk (d : Int × Int × Int) : Prop := DieV d.1 d.2.1 d.2.2
/-- everything but a is as before -/
def Kp (a : Addr) (H H' : Hp) : Prop := ∀ b o, b ≠ a → H b = some o → H' b = some o
theorem Kp.refl (a : Addr) (H : Hp) : Kp a H H := fun _ _ _ h => h
theorem Kp.trans {a : Addr} {H H1 H2 : Hp} (x : Kp a H H1) (y : Kp a H1 H2) : Kp a H H2 := fun b o n h => y b o n (x b o n h)
theorem Kp.upd {a : Addr} {H : Hp} {o : HO} : Kp a H (upd H a o) := fun b u n h => by rw [upd_ne n]; exact h
theorem Kp.new {a p : Addr} {H : Hp} {o : HO} (h : H p = none) : Kp a H (L2.upd H p o) := fun b u _ e => by rw [upd_ne (ne_of_none e h)]; exact e
theorem Kp.same {a : Addr} {H H' : Hp} (e : Same H H') : Kp a H H' := fun b o _ h => e b o h
/-- _law_pull: a draw below many -/
def spPull : Sp := fun vs H Q _ => ∃ (a : Addr) (d : Int × Int × Int) (many : Int), vs = [.ref a, .int many] ∧ H a = some (.lst (dieL d)) ∧ DieOk d ∧ 1 ≤ many ∧ many ≤ 5000 ∧
  d.2.2 ≤ 1000000000 ∧ ∀ (r : Int) (d' : Int × Int × Int), DieOk d' → d'.2.2 ≤ d.2.2 + 1 → 0 ≤ r → r < many → Q (.int r) (upd H a (.lst (dieL d')))
theorem pull_bound (d1 d2 : Int) (p1 : 0 ≤ d1) (p2 : 0 ≤ d2) (hc : d2 ≤ 1000000000) :
    0 ≤ (d1 + 3266489917 * (d2 + 1)) % 36028797018963913 ∧ (d1 + 3266489917 * (d2 + 1)) % 36028797018963913 < 36028797018963913 ∧
    0 ≤ (d1 + 3266489917 * (d2 + 1)) % 36028797018963913 * ((d1 + 3266489917 * (d2 + 1)) % 36028797018963913) % 18014398509481951 ∧
    (d1 + 3266489917 * (d2 + 1)) % 36028797018963913 * ((d1 + 3266489917 * (d2 + 1)) % 36028797018963913) % 18014398509481951 < 18014398509481951 ∧
    ((d1 + 3266489917 * (d2 + 1)) % 36028797018963913 * ((d1 + 3266489917 * (d2 + 1)) % 36028797018963913) % 18014398509481951 * ((d1 + 3266489917 * (d2 + 1)) % 36028797018963913) + 668265263 * (d2 + 1) + d1 % 65521).natAbs < 2 ^ 120 := by
  generalize (d1 + 3266489917 * (d2 + 1)) % 36028797018963913 = one, Int.emod_nonneg (d1 + 3266489917 * (d2 + 1)) (show (36028797018963913 : Int) ≠ 0 by decide) = o0, Int.emod_lt_of_pos (d1 + 3266489917 * (d2 + 1)) (show (0 : Int) < 36028797018963913 by decide) = o1
  have t0 : 0 ≤ one * one % 18014398509481951 := Int.emod_nonneg _ (by decide)
  have t1 : one * one % 18014398509481951 < 18014398509481951 := Int.emod_lt_of_pos _ (by decide)
  generalize one * one % 18014398509481951 = two at t0 t1
  refine ⟨o0, o1, t0, t1, ?_⟩
  have b1 : (two * one).natAbs < 2 ^ 110 := wide_lt (a := 55) (b := 55) (by omega) (by omega)
  have b1' : 0 ≤ two * one := Int.mul_nonneg t0 o0
  generalize two * one = three at b1 b1'
  have m0 : 0 ≤ d1 % 65521 := Int.emod_nonneg _ (by decide)
  have m1 : d1 % 65521 < 65521 := Int.emod_lt_of_pos _ (by decide)
  have e : (2 : Nat) ^ 110 = 1298074214633706907132624082305024 := by decide
  have e' : (2 : Nat) ^ 120 = 1329227995784915872903807060280344576 := by decide
  omega
section
variable {P : Program} {w : World} {K : PySem.W.Frag} {mg : Str → Option Value} {base : Heap}
theorem scPull : FnScope ["die", "many", "found", "one", "two"] ["die", "many"] (defScope sPull) := ⟨rfl, rfl, rfl, by decide +kernel, rfl, by decide +kernel, by decide +kernel⟩
theorem ok_pull {f : Addr} {fd : FuncData} (F : Fun K "_law_pull" "_law_pull" sPull f fd) : FnOk P w K mg base CX0 1 f fd ["die", "many"] spPull := by
  refine F.ok scPull (fun vs H Q E h => ?_) (fun cdv A outer s H vs Q E hr h => ?_)
  · obtain ⟨a, d, many, rfl, _⟩ := h
    rfl
  · obtain ⟨a, ⟨d0, d1, d2⟩, many, rfl, ha, hd, h1, h2, hc, k⟩ := h
    have hc : d2 ≤ 1000000000 := hc
    have nd := scPull.nd
    refine ⟨_, pss_cons (ps_if (pt_cmpR op_gt (pe_ix ix_list (pv 0) pe_int (fun _ _ => rfl)) pe_int (nomark _))
        (pss_cons (ps_set (i := 2) nd rfl (Or.inl rfl) (pe_op op_mod (pe_ix ix_list (pv 0) pe_int (fun _ _ => rfl)) (pv 1)))
        (pss_cons (ps_asg (pe_op op_fdivW (pe_ix ix_list (pv 0) pe_int (fun _ _ => rfl)) (pv 1)) (pg_sub (pv 0) pe_int set_list))
        (pss_one (ps_ret (pv 2))))) pss_nil)
      (pss_cons (ps_asg (pe_op op_add (pe_ix ix_list (pv 0) pe_int (fun _ _ => rfl)) pe_int) (pg_sub (pv 0) pe_int set_list))
      (pss_cons (ps_set (i := 3) nd rfl (Or.inl rfl) (pe_op op_mod (pe_op op_add (pe_ix ix_list (pv 0) pe_int (fun _ _ => rfl)) (pe_op op_mul pe_int (pe_ix ix_list (pv 0) pe_int (fun _ _ => rfl)))) pe_int))
      (pss_cons (ps_set (i := 4) nd rfl (Or.inl rfl) (pe_op op_mul (pe_op op_mod (pe_op op_mul (pv 3) (pv 3)) pe_int) (pv 3)))
      (pss_cons (ps_set (i := 4) nd rfl (Or.inl rfl) (pe_op op_add (pe_op op_add (pv 4) (pe_op op_mul pe_int (pe_ix ix_list (pv 0) pe_int (fun _ _ => rfl)))) (pe_op op_mod (pe_ix ix_list (pv 0) pe_int (fun _ _ => rfl)) pe_int)))
      (pss_one (ps_ret (pe_op op_mod (pe_op op_fdiv (pe_op op_mod (pe_op op_mulW (pv 4) (pv 4)) pe_int) pe_int) (pv 1)))))))), ?_⟩
    obtain ⟨hp0, hw0, hp1, hp2⟩ := id hd
    have hp0 : 0 ≤ d0 := hp0
    have hp1 : 0 ≤ d1 := hp1
    have hp2 : 0 ≤ d2 := hp2
    have hw0 : d0.natAbs < 2 ^ 2300 := hw0
    have ix0 : atI (dieL (d0, d1, d2)) 0 = some (.int d0) := rfl
    have ix1 : atI (dieL (d0, d1, d2)) 1 = some (.int d1) := rfl
    have ix2 : atI (dieL (d0, d1, d2)) 2 = some (.int d2) := rfl
    refine ⟨_, rfl, a, _, _, _, rfl, rfl, SqL.of ha, ix0, _, _, rfl, rfl, _, rfl, ?_⟩
    refine ite2 (fun c => ?_) (fun c => ?_)
    · refine ⟨_, rfl, a, _, _, _, rfl, rfl, SqL.of ha, ix0, _, rfl, _, _, rfl, rfl, (by show (0 : Int) < many; omega), ?_⟩
      refine ⟨_, rfl, a, _, _, _, rfl, rfl, SqL.of ha, ix0, _, rfl, _, _, rfl, rfl, (wide_div (b := 13) (by omega) (by omega) (by omega) (by omega)), ?_⟩
      refine ⟨_, rfl, a, _, _, _, rfl, rfl, ha, rfl, ?_⟩
      refine ⟨_, rfl, ?_⟩
      have q := k (d0 % many) (d0 / many, d1, d2) ⟨Int.ediv_nonneg hp0 (by omega), ?_, hp1, hp2⟩ (by show d2 ≤ d2 + 1; omega) (Int.emod_nonneg _ (by omega)) (Int.emod_lt_of_pos _ (by omega))
      · exact q
      · show (d0 / many).natAbs < 2 ^ 2300
        refine wide_le (j := d0) (Int.ediv_nonneg hp0 (by omega)) (Int.ediv_le_self _ hp0) hw0
    · have hb : upd H a (.lst (dieL (d0, d1, d2 + 1))) a = some (.lst (dieL (d0, d1, d2 + 1))) := upd_same
      have jx0 : atI (dieL (d0, d1, d2 + 1)) 0 = some (.int d0) := rfl
      have jx1 : atI (dieL (d0, d1, d2 + 1)) 1 = some (.int d1) := rfl
      have jx2 : atI (dieL (d0, d1, d2 + 1)) 2 = some (.int (d2 + 1)) := rfl
      refine ⟨_, rfl, a, _, _, _, rfl, rfl, SqL.of ha, ix2, _, _, rfl, rfl, ?_⟩
      refine ⟨_, rfl, a, _, _, _, rfl, rfl, ha, rfl, ?_⟩
      have pos1 : (0 : Int) < 36028797018963913 := by decide
      have pos2 : (0 : Int) < 18014398509481951 := by decide
      have pos3 : (0 : Int) < 65521 := by decide
      have pos4 : (0 : Int) < 1125899906842597 := by decide
      refine ⟨_, rfl, a, _, _, _, rfl, rfl, SqL.of hb, jx1, _, rfl, a, _, _, _, rfl, rfl, SqL.of hb, jx2, _, _, rfl, rfl, .inl ⟨by decide, by decide⟩, _, _, rfl, rfl, _, _, rfl, rfl, pos1, ?_⟩
      -- one * one % .. * one
      obtain ⟨o0, o1, t0, t1, b2⟩ := pull_bound d1 d2 hp1 hp2 hc
      have one63 : (d1 + 3266489917 * (d2 + 1)) % 36028797018963913 < 2 ^ 64 := Int.lt_trans o1 (by decide)
      have one63' : -(2 ^ 64) < (d1 + 3266489917 * (d2 + 1)) % 36028797018963913 := Int.lt_of_lt_of_le (by decide) o0
      refine ⟨_, rfl, _, rfl, _, _, rfl, rfl, .inl ⟨one63', one63⟩, _, _, rfl, rfl, pos2, _, rfl, _, _, rfl, rfl, .inr ⟨one63', one63⟩, ?_⟩
      refine ⟨_, rfl, _, rfl, a, _, _, _, rfl, rfl, SqL.of hb, jx2, _, _, rfl, rfl, .inl ⟨by decide, by decide⟩, _, _, rfl, rfl, _, rfl, a, _, _, _, rfl, rfl, SqL.of hb, jx1, _, _, rfl, rfl, pos3, _, _, rfl, rfl, ?_⟩
      refine ⟨_, rfl, _, rfl, _, _, rfl, rfl, wide_mul (a := 120) (b := 120) b2 b2 (by decide) (by decide) (by decide), _, _, rfl, rfl, pos4, _, _, rfl, rfl, ⟨by decide, by decide⟩, _, rfl, _, _, rfl, rfl, (by show (0 : Int) < many; omega), ?_⟩
      exact k _ (d0, d1, d2 + 1) ⟨hp0, hw0, hp1, by show (0 : Int) ≤ d2 + 1; have : (0 : Int) ≤ d2 := hp2; omega⟩ (by show d2 + 1 ≤ d2 + 1; omega) (Int.emod_nonneg _ (by omega)) (Int.emod_lt_of_pos _ (by omega))
end
end Vf


set_option Elab.async false
set_option maxRecDepth 100000
set_option maxHeartbeats 4000000
set_option exponentiation.threshold 3000
namespace Vf
open PySem L2 SX
/-! ### digits as code points -/
/-- a word of the base -/
def IsW (b : Int) (l : List Nat) : Prop := ∀ c ∈ l, 48 ≤ c ∧ (c : Int) < 48 + b
theorem IsW.nil (b : Int) : IsW b [] := fun _ h => by cases h
theorem IsW.app {b : Int} {l m : List Nat} (h1 : IsW b l) (h2 : IsW b m) : IsW b (l ++ m) := fun c h => by
  rcases List.mem_append.mp h with h | h
  · exact h1 c h
  · exact h2 c h
theorem IsW.of {b : Int} {l m : List Nat} (h1 : IsW b l) (h : ∀ c ∈ m, c ∈ l) : IsW b m := fun c hc => h1 c (h c hc)
theorem str_empty : ("" : Str) = S [] := by decide +kernel
theorem s01234 : ("01234" : Str) = S [48, 49, 50, 51, 52] := by decide +kernel
/-- a def of the module as it is called -/
structure Cal (K : PySem.W.Frag) (mg : Str → Option Value) (x : Str) (f : Addr) (fd : FuncData) (ps : List Str) : Prop where
  mg : mg x = some (.ref f)
  kp : PySem.W.keepIn K (.ref f) = true
  b : Binds K fd ps []
def spBase : Sp := fun vs H Q _ => ∃ (a : Addr) (d : Int × Int × Int), vs = [.ref a] ∧ H a = some (.lst (dieL d)) ∧ DieOk d ∧ d.2.2 ≤ 1000000000 ∧
  ∀ (b : Int) (d' : Int × Int × Int) (H' : Hp), DieOk d' → d'.2.2 ≤ d.2.2 + 1 → 2 ≤ b → b ≤ 5 → Kp a H H' → H' a = some (.lst (dieL d')) → Q (.int b) H'
def spWord : Sp := fun vs H Q _ => ∃ (a : Addr) (d : Int × Int × Int) (base high : Int), vs = [.ref a, .int base, .int high] ∧ H a = some (.lst (dieL d)) ∧ DieOk d ∧ d.2.2 ≤ 999000000 ∧ 2 ≤ base ∧ base ≤ 5 ∧ 0 ≤ high ∧ high ≤ 100 ∧
  ∀ (l : List Nat) (d' : Int × Int × Int), DieOk d' → d'.2.2 ≤ d.2.2 + 1 + high → IsW base l → (l.length : Int) ≤ high → Q (.str (S l)) (upd H a (.lst (dieL d')))
section
variable {P : Program} {w : World} {K : PySem.W.Frag} {mg : Str → Option Value} {base : Heap}
theorem scBase : FnScope ["die"] ["die"] (defScope sLBase) := ⟨rfl, rfl, rfl, by decide +kernel, rfl, by decide +kernel, by decide +kernel⟩
theorem ok_base {f fP : Addr} {fd fdP : FuncData} (F : Fun K "_law_base" "_law_base" sLBase f fd) (GP : FnOk P w K mg base CX0 1 fP fdP ["die", "many"] spPull) (cP : Cal K mg "_law_pull" fP fdP ["die", "many"]) : FnOk P w K mg base CX0 2 f fd ["die"] spBase := by
  refine F.ok scBase (fun vs H Q E h => ?_) (fun cdv A outer s H vs Q E hr h => ?_)
  · obtain ⟨a, d, rfl, _⟩ := h
    rfl
  · obtain ⟨a, d, rfl, ha, hd, hc, k⟩ := h
    refine ⟨_, pss_one (ps_ret (pe_ix ix_list (pe_lst (pa_cons pe_int (pa_cons pe_int (pa_cons pe_int (pa_cons pe_int (pa_cons pe_int (pa_cons pe_int (pa_cons pe_int pa_nil))))))))
      (pe_call GP hr rfl cP.mg cP.kp cP.b .nil pass0 (pa_cons (pv 0) (pa_cons pe_int pa_nil))) (fun _ _ => rfl))), ?_⟩
    refine ⟨by decide, fun p hp => ?_⟩
    have npa : a ≠ p := ne_of_none ha hp
    refine ⟨_, rfl, a, d, _, rfl, by rw [upd_ne npa]; exact ha, hd, by decide, by decide, hc, fun r d' hd' hc' r0 r1 => ?_⟩
    obtain ⟨v, hv, v2, v5⟩ : ∃ v : Int, atI ([.int 2, .int 2, .int 2, .int 3, .int 3, .int 4, .int 5] : List V) r = some (.int v) ∧ 2 ≤ v ∧ v ≤ 5 := by
      have : r = 0 ∨ r = 1 ∨ r = 2 ∨ r = 3 ∨ r = 4 ∨ r = 5 ∨ r = 6 := by omega
      rcases this with e | e | e | e | e | e | e <;> subst e <;> exact ⟨_, rfl, by decide, by decide⟩
    refine ⟨p, _, r, _, rfl, rfl, SqL.of (by rw [upd_ne npa.symm, upd_same]), hv, ?_⟩
    exact k v d' _ hd' hc' v2 v5 ((Kp.new hp).trans Kp.upd) upd_same
theorem scWord : FnScope ["die", "base", "high", "word", "turn"] ["die", "base", "high"] (defScope sWord) := ⟨rfl, rfl, rfl, by decide +kernel, rfl, by decide +kernel, by decide +kernel⟩
theorem upd_upd' {H : Hp} {a : Addr} {o o' : HO} : upd (upd H a o) a o' = upd H a o' := by
  funext b
  by_cases h : b = a
  · subst h
    rw [upd_same, upd_same]
  · rw [upd_ne h, upd_ne h, upd_ne h]
theorem ok_word {f fP : Addr} {fd fdP : FuncData} (F : Fun K "_law_word" "_law_word" sWord f fd) (GP : FnOk P w K mg base CX0 1 fP fdP ["die", "many"] spPull) (cP : Cal K mg "_law_pull" fP fdP ["die", "many"]) (mr : mg "range" = none) : FnOk P w K mg base CX0 2 f fd ["die", "base", "high"] spWord := by
  refine F.ok scWord (fun vs H Q E h => ?_) (fun cdv A outer s H vs Q E hr h => ?_)
  · obtain ⟨a, d, b, hi, rfl, _⟩ := h
    rfl
  · obtain ⟨a, d, b, hi, rfl, ha, hd, hc, hb2, hb5, hh0, hh1, k⟩ := h
    have nd := scWord.nd
    refine ⟨_, pss_cons (ps_set (i := 3) nd rfl (.inl rfl) pe_str)
      (pss_cons (ps_for PassesOwn.never rfl (pi_range1 rfl mr (pa_cons (pe_call GP hr rfl cP.mg cP.kp cP.b .nil pass0 (pa_cons (pv 0) (pa_cons (pe_op op_add (pv 2) pe_int) pa_nil))) pa_nil)) (pg_name (i := 4) nd rfl (.inl rfl))
        (pss_one (ps_set (i := 3) nd rfl (.inl rfl) (pe_op op_add_str (pv 3) (pe_ix ix_str pe_str (pe_call GP hr rfl cP.mg cP.kp cP.b .nil pass0 (pa_cons (pv 0) (pa_cons (pv 1) pa_nil))) (fun _ _ => rfl))))))
      (pss_one (ps_ret (pv 3)))), ?_⟩
    refine ⟨_, rfl, _, rfl, _, _, rfl, rfl, a, d, _, rfl, ha, hd, by omega, by omega, by omega, fun r d1 hd1 hc1 r0 r1 => ?_⟩
    refine ⟨r, rfl, by omega, by omega, for_range (n := r.toNat) (fun i σ H2 => ∃ (l : List Nat) (d2 : Int × Int × Int) (t : Option V), σ = [some (.ref a), some (.int b), some (.int hi), some (.str (S l)), t] ∧ H2 = upd H a (.lst (dieL d2)) ∧ DieOk d2 ∧ d2.2.2 ≤ d.2.2 + 1 + i ∧ IsW b l ∧ l.length ≤ i) ?_ ?_ ?_⟩
    · exact ⟨[], d1, none, by rw [← str_empty]; rfl, rfl, hd1, by omega, .nil _, Nat.le_refl _⟩
    · rintro i σ H2 hi2 ⟨l, d2, t, rfl, rfl, hd2, hc2, hw, hl⟩
      have hil : (i : Int) < r := by omega
      refine ⟨_, rfl, _, rfl, _, rfl, a, d2, b, rfl, upd_same, hd2, by omega, by omega, by omega, fun q d3 hd3 hc3 q0 q1 => ?_⟩
      obtain ⟨c, hc', c0, c1⟩ : ∃ c : Nat, atI (("01234" : Str).cps.toList) q = some c ∧ 48 ≤ c ∧ (c : Int) < 48 + b := by
        rw [s01234]
        have : q = 0 ∨ q = 1 ∨ q = 2 ∨ q = 3 ∨ q = 4 := by omega
        rcases this with e | e | e | e | e <;> subst e <;> exact ⟨_, rfl, by decide, by omega⟩
      refine ⟨_, q, c, rfl, rfl, by decide +kernel, hc', S l, S [c], rfl, rfl, ?_, ?_⟩
      · rw [S_len, S_len]
        exact Nat.le_trans (show l.length + 1 ≤ 1000 by omega) (by decide)
      · rw [S_cat, upd_upd']
        refine ⟨l ++ [c], d3, _, rfl, rfl, hd3, by omega, hw.app (fun x hx => ?_), by rw [List.length_append]; show l.length + 1 ≤ i + 1; omega⟩
        rw [List.mem_singleton.mp hx]
        exact ⟨c0, c1⟩
    · rintro σ H2 ⟨l, d2, t, rfl, rfl, hd2, hc2, hw, hl⟩
      exact ⟨_, rfl, k l d2 hd2 (by omega) hw (by omega)⟩
end
end Vf


set_option Elab.async false
set_option maxRecDepth 100000
set_option maxHeartbeats 4000000
set_option exponentiation.threshold 3000
namespace Vf
open PySem L2 SX
section
variable {X : Cx}
def CPowB (i j : Int) : Prop := 0 ≤ j ∧ (Builtin.Int.intBits i : Int) * j ≤ 2 ^ 27
/-- ** of a great base, as the size of the power allows -/
theorem op_powB : OpR X (binaryOp .Pow) (rI CPowB fun i j => .int (i ^ j.toNat)) := opI fun _ _ _ _ _ _ _ hc q => PyProof.Rows.pow_int hc.1 hc.2 q
end
/-- _law_dice: a new die -/
def spDice (K : PySem.W.Frag) : Sp := fun vs H Q _ => ∃ (a : Addr) (ns : List Int) (at' : Nat), vs = [.ref a, .int at'] ∧ SqL K H a (ns.map V.int) ∧ ns.length ≤ 63 ∧ at' ≤ 100 ∧
  ∀ (p : Addr) (d' : Int × Int × Int), DieOk d' → d'.2.2 = 0 → H p = none → Q (.ref p) (upd H p (.lst (dieL d')))
theorem big660 : (((10 : Int) ^ (60 : Int).toNat) ^ (11 : Int).toNat).natAbs < 2 ^ 2300 := by decide +kernel
theorem pos660 : (0 : Int) < ((10 : Int) ^ (60 : Int).toNat) ^ (11 : Int).toNat := by decide +kernel
section
variable {P : Program} {w : World} {K : PySem.W.Frag} {mg : Str → Option Value} {base : Heap}
theorem scDice : FnScope ["script", "at", "cell", "great", "mixed"] ["script", "at"] (defScope sDice) := ⟨rfl, rfl, rfl, by decide +kernel, rfl, by decide +kernel, by decide +kernel⟩
theorem dice_end {g at' : Int} {b : Int} (hg0 : 0 ≤ g) (hg : g < ((10 : Int) ^ (60 : Int).toNat) ^ (11 : Int).toNat) :
    DieOk ((if g - 10 ^ (18 : Int).toNat + 1 > 0 then g - 10 ^ (18 : Int).toNat + 1 else 0), (g * 2862933555777941757 + 3037000493 * at' + 7 * b) % 72057594037927931, 0) := by
  have h18 : (0 : Int) < 10 ^ (18 : Int).toNat := by decide +kernel
  have h1 : (1 : Int) ≤ 10 ^ (18 : Int).toNat := by decide +kernel
  have hbig := big660
  generalize ((10 : Int) ^ (60 : Int).toNat) ^ (11 : Int).toNat = N at hg hbig
  generalize (10 : Int) ^ (18 : Int).toNat = M at h18 h1
  refine ⟨?_, ?_, Int.emod_nonneg _ (by decide), Int.le_refl _⟩
  · show 0 ≤ (if g - M + 1 > 0 then g - M + 1 else 0)
    split <;> omega
  · show (if g - M + 1 > 0 then g - M + 1 else 0).natAbs < 2 ^ 2300
    refine wide_le (j := N) ?_ ?_ hbig
    · split <;> omega
    · split <;> omega
theorem ok_dice {f : Addr} {fd : FuncData} (F : Fun K "_law_dice" "_law_dice" sDice f fd) (ml : mg "len" = none) (ma : mg "abs" = none) (mi : mg "int" = none) (mm : mg "max" = none) : FnOk P w K mg base CX0 1 f fd ["script", "at"] (spDice K) := by
  refine F.ok scDice (fun vs H Q E h => ?_) (fun cdv A outer s H vs Q E hr h => ?_)
  · obtain ⟨a, ns, at', rfl, _⟩ := h
    rfl
  · obtain ⟨a, ns, at', rfl, ha, hl, hat, k⟩ := h
    have nd := scDice.nd
    refine ⟨_, pss_cons (ps_set (i := 2) nd rfl (.inl rfl) (pe_ifExp (pt_cmpR op_lt (pv 1) (pe_callB call_len_seq (by rfl) ml boot_len (pa_cons (pv 0) pa_nil)) (nomark _)) (pe_ix ix_list (pv 0) (pv 1) (fun _ _ => rfl)) (pe_op op_add (pe_op op_mul pe_int (pv 1)) pe_int)))
      (pss_cons (ps_set (i := 3) nd rfl (.inl rfl) (pe_op op_mod (pe_callB call_abs (by rfl) ma PyProof.Rows.boot_abs (pa_cons (pv 2) pa_nil)) (pe_op op_powB (pe_op op_pow pe_int pe_int) pe_int)))
      (pss_cons (ps_set (i := 4) nd rfl (.inl rfl) (pe_op op_mod (pe_op op_add (pe_op op_add (pe_op op_mul (pv 3) pe_int) (pe_op op_mul pe_int (pv 1))) (pe_op op_mul pe_int (pe_callTy call_int1 (by rfl) mi PyProof.Rows.boot_int (pa_cons (pe_cmpR op_lt (pv 2) pe_int (nomark _)) pa_nil)))) pe_int))
      (pss_one (ps_ret (pe_lst (pa_cons (pe_callB (call_max2 rfl) (by rfl) mm PyProof.Rows.boot_max (pa_cons pe_int (pa_cons (pe_op op_add (pe_op op_sub (pv 3) (pe_op op_pow pe_int pe_int)) pe_int) pa_nil))) (pa_cons (pv 4) (pa_cons pe_int pa_nil))))))))
      , ?_⟩
    have pos1 : (0 : Int) < 72057594037927931 := by decide
    refine ⟨_, rfl, _, rfl, a, _, rfl, .inl ha, _, _, rfl, rfl, _, rfl, ?_⟩
    refine ite2 (fun c => ?_) (fun c => ?_)
    · have c' : (at' : Int) < ((ns.map V.int).length : Int) := of_decide_eq_true c
      have c2 : at' < ns.length := by rw [List.length_map] at c'; omega
      refine ⟨_, rfl, _, rfl, a, _, _, V.int ns[at'], rfl, rfl, ha, atI_nat (by rw [List.getElem?_map, List.getElem?_eq_getElem c2]; rfl), ?_⟩
      refine ⟨_, rfl, _, rfl, _, _, rfl, rfl, ⟨by decide, by decide, by decide +kernel⟩, _, _, rfl, rfl, ⟨by decide, by decide +kernel⟩, _, _, rfl, rfl, pos660, ?_⟩
      refine ⟨_, rfl, _, _, rfl, rfl, .inr ⟨by decide, by decide⟩, _, rfl, _, _, rfl, rfl, .inl ⟨by decide, by decide⟩, _, _, rfl, rfl, _, rfl, _, _, rfl, rfl, .inr ⟨_, rfl, _, _, rfl, rfl, .inl ⟨by decide, by decide⟩, _, _, rfl, rfl, _, _, rfl, rfl, pos1, ?_⟩⟩
      refine ⟨_, rfl, _, _, rfl, rfl, ⟨by decide, by decide, by decide +kernel⟩, _, _, rfl, rfl, _, _, rfl, rfl, _, _, rfl, _, rfl, (by show 3 ≤ sizeLine; decide), fun p hp => ?_⟩
      exact k p _ (dice_end (Int.emod_nonneg _ (by have := pos660; omega)) (Int.emod_lt_of_pos _ pos660)) rfl hp
    · refine ⟨_, rfl, _, _, rfl, rfl, .inl ⟨by decide, by decide⟩, _, _, rfl, rfl, ?_⟩
      refine ⟨_, rfl, _, rfl, _, _, rfl, rfl, ⟨by decide, by decide, by decide +kernel⟩, _, _, rfl, rfl, ⟨by decide, by decide +kernel⟩, _, _, rfl, rfl, pos660, ?_⟩
      refine ⟨_, rfl, _, _, rfl, rfl, .inr ⟨by decide, by decide⟩, _, rfl, _, _, rfl, rfl, .inl ⟨by decide, by decide⟩, _, _, rfl, rfl, _, rfl, _, _, rfl, rfl, .inr ⟨_, rfl, _, _, rfl, rfl, .inl ⟨by decide, by decide⟩, _, _, rfl, rfl, _, _, rfl, rfl, pos1, ?_⟩⟩
      refine ⟨_, rfl, _, _, rfl, rfl, ⟨by decide, by decide, by decide +kernel⟩, _, _, rfl, rfl, _, _, rfl, rfl, _, _, rfl, _, rfl, (by show 3 ≤ sizeLine; decide), fun p hp => ?_⟩
      exact k p _ (dice_end (Int.emod_nonneg _ (by have := pos660; omega)) (Int.emod_lt_of_pos _ pos660)) rfl hp
end
end Vf


/-! # Words that repeat, and streams in normal form: the mathematics, over lists of numbers -/
namespace Vm
/-- the i-th of the endless repetition of q -/
def g (q : List Nat) (i : Nat) : Nat := q.getD (i % q.length) 0
/-- the i-th of h and then q again and again -/
def ev (h q : List Nat) (i : Nat) : Nat := if i < h.length then h.getD i 0 else g q (i - h.length)
theorem ev_lt {h q : List Nat} {i : Nat} (hi : i < h.length) : ev h q i = h.getD i 0 := if_pos hi
theorem ev_ge {h q : List Nat} {i : Nat} (hi : h.length ≤ i) : ev h q i = g q (i - h.length) := if_neg (by omega)
theorem g_add (q : List Nat) (i : Nat) : g q (i + q.length) = g q i := by unfold g; rw [Nat.add_mod_right]
theorem g_mul (q : List Nat) (i k : Nat) : g q (i + k * q.length) = g q i := by unfold g; rw [Nat.add_mul_mod_self_right]
theorem g_mod (q : List Nat) (i : Nat) : g q (i % q.length) = g q i := by unfold g; rw [Nat.mod_mod]
theorem g_lt {q : List Nat} {i : Nat} (h : i < q.length) : g q i = q.getD i 0 := by unfold g; rw [Nat.mod_eq_of_lt h]
theorem ext_getD {l m : List Nat} (hl : l.length = m.length) (h : ∀ i, i < l.length → l.getD i 0 = m.getD i 0) : l = m := by
  refine List.ext_getElem hl fun i h1 h2 => ?_
  have q := h i h1
  rw [List.getD_eq_getElem?_getD, List.getD_eq_getElem?_getD, List.getElem?_eq_getElem h1, List.getElem?_eq_getElem h2] at q
  exact q
/-- h and q are the normal form of f -/
structure Nf (f : Nat → Nat) (h q : List Nat) : Prop where
  ne : 0 < q.length
  is : ∀ i, ev h q i = f i
  prim : ∀ s m, 0 < s → s < q.length → ¬ ∀ i, m ≤ i → f (i + s) = f i
  trim : 0 < h.length → f (h.length - 1 + q.length) ≠ f (h.length - 1)
theorem Nf.per {f : Nat → Nat} {h q : List Nat} (n : Nf f h q) {i : Nat} (hi : h.length ≤ i) : f (i + q.length) = f i := by
  rw [← n.is, ← n.is, ev_ge hi, ev_ge (by omega), show i + q.length - h.length = i - h.length + q.length by omega, g_add]
theorem Nf.len {f : Nat → Nat} {h q h' q' : List Nat} (n : Nf f h q) (n' : Nf f h' q') : q.length ≤ q'.length := by
  refine Nat.le_of_not_lt fun hlt => n.prim q'.length h'.length n'.ne hlt fun i hi => n'.per hi
theorem Nf.hlen {f : Nat → Nat} {h q h' q' : List Nat} (n : Nf f h q) (n' : Nf f h' q') : h.length ≤ h'.length := by
  refine Nat.le_of_not_lt fun hlt => ?_
  have e : q.length = q'.length := Nat.le_antisymm (n.len n') (n'.len n)
  have z := n'.per (i := h.length - 1) (by omega)
  rw [← e] at z
  exact n.trim (by omega) z
theorem Nf.unique {f : Nat → Nat} {h q h' q' : List Nat} (n : Nf f h q) (n' : Nf f h' q') : h = h' ∧ q = q' := by
  have e : q.length = q'.length := Nat.le_antisymm (n.len n') (n'.len n)
  have e2 : h.length = h'.length := Nat.le_antisymm (n.hlen n') (n'.hlen n)
  refine ⟨ext_getD e2 fun i hi => ?_, ext_getD e fun i hi => ?_⟩
  · have z := (n.is i).trans (n'.is i).symm
    rw [ev_lt hi, ev_lt (by omega)] at z
    exact z
  · have z := (n.is (i + h.length)).trans (n'.is (i + h.length)).symm
    rw [ev_ge (by omega), ev_ge (by omega), e2, Nat.add_sub_cancel, g_lt hi, g_lt (by omega)] at z
    exact z
/-! ### periods -/
def Per (q : List Nat) (s : Nat) : Prop := ∀ i, g q (i + s) = g q i
theorem per_len (q : List Nat) : Per q q.length := fun i => g_add q i
theorem Per.mul {q : List Nat} {s : Nat} (p : Per q s) : ∀ k i, g q (i + k * s) = g q i
  | 0, i => by rw [Nat.zero_mul]; rfl
  | k + 1, i => by rw [Nat.succ_mul, ← Nat.add_assoc, p, Per.mul p k i]
/-- what holds from some place on holds from the start -/
theorem per_late {q : List Nat} {s m : Nat} (hq : 0 < q.length) (h : ∀ i, m ≤ i → g q (i + s) = g q i) : Per q s := fun i => by
  have z := h (i + m * q.length) (Nat.le_trans (Nat.le_mul_of_pos_right m hq) (Nat.le_add_left _ _))
  rw [show i + m * q.length + s = i + s + m * q.length by omega, g_mul, g_mul] at z
  exact z
theorem per_small {q : List Nat} {s : Nat} (h : ∀ i, i < q.length → g q (i + s) = g q i) (hq : 0 < q.length) : Per q s := fun i => by
  have z := h (i % q.length) (Nat.mod_lt _ hq)
  rw [g_mod] at z
  rw [← z]
  show q.getD ((i + s) % q.length) 0 = q.getD ((i % q.length + s) % q.length) 0
  rw [Nat.mod_add_mod]
/-- s is the least one -/
structure Least (q : List Nat) (s : Nat) : Prop where
  pos : 0 < s
  per : Per q s
  min : ∀ t, 0 < t → t < s → ¬ Per q t
theorem Least.unique {q : List Nat} {s t : Nat} (a : Least q s) (b : Least q t) : s = t := by
  rcases Nat.lt_trichotomy s t with h | h | h
  · exact (b.min s a.pos h a.per).elim
  · exact h
  · exact (a.min t b.pos h b.per).elim
theorem Least.le {q : List Nat} {s : Nat} (a : Least q s) (hq : 0 < q.length) : s ≤ q.length := Nat.le_of_not_lt fun h => a.min _ hq h (per_len q)
theorem Least.dvd {q : List Nat} {s n : Nat} (a : Least q s) (hn : Per q n) : n % s = 0 := by
  refine Classical.byContradiction fun h => ?_
  refine a.min (n % s) (by omega) (Nat.mod_lt _ a.pos) fun i => ?_
  have e : n % s + n / s * s = n := by rw [Nat.mul_comm]; exact Nat.mod_add_div n s
  have z := hn i
  rw [← a.per.mul (n / s) (i + n % s), Nat.add_assoc, e]
  exact z
theorem take_len {q : List Nat} {s : Nat} (h : s ≤ q.length) : (q.take s).length = s := by rw [List.length_take]; omega
theorem getD_take {q : List Nat} {s i : Nat} (h : i < s) : (q.take s).getD i 0 = q.getD i 0 := by
  rw [List.getD_eq_getElem?_getD, List.getD_eq_getElem?_getD, List.getElem?_take_of_lt h]
theorem getD_drop {q : List Nat} {s i : Nat} : (q.drop s).getD i 0 = q.getD (s + i) 0 := by
  rw [List.getD_eq_getElem?_getD, List.getD_eq_getElem?_getD, List.getElem?_drop]
theorem getD_app {l m : List Nat} {i : Nat} (h : i < l.length) : (l ++ m).getD i 0 = l.getD i 0 := by
  rw [List.getD_eq_getElem?_getD, List.getD_eq_getElem?_getD, List.getElem?_append_left h]
theorem getD_app2 {l m : List Nat} {i : Nat} (h : l.length ≤ i) : (l ++ m).getD i 0 = m.getD (i - l.length) 0 := by
  rw [List.getD_eq_getElem?_getD, List.getD_eq_getElem?_getD, List.getElem?_append_right h]
theorem Least.g {q : List Nat} {s : Nat} (a : Least q s) (hq : 0 < q.length) (i : Nat) : g (q.take s) i = g q i := by
  have hl := a.le hq
  have hlt := Nat.mod_lt i a.pos
  have e : i % s + i / s * s = i := by rw [Nat.mul_comm]; exact Nat.mod_add_div i s
  unfold Vm.g
  rw [take_len hl, getD_take hlt]
  have z := a.per.mul (i / s) (i % s)
  rw [e, g_lt (Nat.lt_of_lt_of_le hlt hl)] at z
  exact z.symm
/-- the tail has the least period -/
theorem Least.prim {q h : List Nat} {s : Nat} (a : Least q s) (hq : 0 < q.length) (t m : Nat) (h0 : 0 < t) (ht : t < s) : ¬ ∀ i, m ≤ i → ev h q (i + t) = ev h q i := fun z => by
  refine a.min t h0 ht (per_late (m := m) hq fun i hi => ?_)
  have y := z (i + h.length) (by omega)
  rw [ev_ge (by omega), ev_ge (by omega), Nat.add_sub_cancel, show i + h.length + t - h.length = i + t by omega] at y
  exact y
/-! ### the two searches for the least period -/
/-- by looking for the word in its double -/
theorem find_per {q : List Nat} {k : Nat} (hk : k ≤ q.length) (hq : 0 < q.length) : (((q ++ q).drop k).take q.length = q) ↔ Per q k := by
  have len : (((q ++ q).drop k).take q.length).length = q.length := by rw [List.length_take, List.length_drop, List.length_append]; omega
  have at_ : ∀ i, i < q.length → (((q ++ q).drop k).take q.length).getD i 0 = g q (i + k) := fun i hi => by
    rw [getD_take hi, getD_drop]
    by_cases h : k + i < q.length
    · rw [getD_app h, Nat.add_comm i k, g_lt h]
    · rw [getD_app2 (by omega), show i + k = (k + i - q.length) + q.length by omega, g_add, g_lt (by omega)]
  constructor
  · intro e
    refine per_small (fun i hi => ?_) hq
    rw [← at_ i hi, e, g_lt hi]
  · intro p
    refine ext_getD len fun i hi => ?_
    rw [len] at hi
    rw [at_ i hi, p i, g_lt hi]
/-- by repeating the beginning -/
theorem rep_get {l : List Nat} {k i : Nat} (h : i < k * l.length) : ((List.replicate k l).flatten).getD i 0 = g l i := by
  induction k generalizing i with
  | zero => rw [Nat.zero_mul] at h; omega
  | succ k ih =>
    rw [List.replicate_succ, List.flatten_cons]
    by_cases hl : i < l.length
    · rw [getD_app hl, g_lt hl]
    · have hl' : l.length ≤ i := by omega
      rw [getD_app2 hl', ih (by rw [Nat.succ_mul] at h; omega)]
      have z := g_add l (i - l.length)
      rw [Nat.sub_add_cancel hl'] at z
      exact z.symm
theorem rep_len {l : List Nat} {k : Nat} : ((List.replicate k l).flatten).length = k * l.length := by
  induction k with
  | zero => simp
  | succ k ih => rw [List.replicate_succ, List.flatten_cons, List.length_append, ih, Nat.succ_mul, Nat.add_comm]
theorem rep_per {q : List Nat} {s : Nat} (hs : 0 < s) (hsq : s ≤ q.length) : ((List.replicate (q.length / s) (q.take s)).flatten = q) ↔ (Per q s ∧ q.length % s = 0) := by
  have tl := take_len hsq
  constructor
  · intro e
    have el : q.length / s * s = q.length := by
      have z := congrArg List.length e
      rw [rep_len, tl] at z
      exact z
    have em : q.length % s = 0 := by
      have z := Nat.mod_add_div q.length s
      rw [Nat.mul_comm] at z
      omega
    refine ⟨?_, em⟩
    have at_ : ∀ i, g q i = g (q.take s) i := fun i => by
      have hq : 0 < q.length := by omega
      have hi := Nat.mod_lt i hq
      have z : q.getD (i % q.length) 0 = g (q.take s) (i % q.length) := by
        have y := rep_get (l := q.take s) (k := q.length / s) (i := i % q.length) (by rw [tl, el]; exact hi)
        rw [e] at y
        exact y
      show q.getD (i % q.length) 0 = _
      rw [z]
      unfold g
      rw [tl, Nat.mod_mod_of_dvd _ (Nat.dvd_of_mod_eq_zero em)]
    intro i
    have z := g_add (q.take s) i
    rw [tl] at z
    rw [at_, at_, z]
  · rintro ⟨p, em⟩
    have el : q.length / s * s = q.length := by
      have z := Nat.mod_add_div q.length s
      rw [Nat.mul_comm] at z
      omega
    refine ext_getD (by rw [rep_len, tl, el]) fun i hi => ?_
    rw [rep_len, tl, el] at hi
    rw [rep_get (by rw [tl, el]; exact hi)]
    have hlt := Nat.mod_lt i hs
    have e : i % s + i / s * s = i := by rw [Nat.mul_comm]; exact Nat.mod_add_div i s
    have z := p.mul (i / s) (i % s)
    rw [e, g_lt hi, g_lt (by omega)] at z
    unfold g
    rw [tl, getD_take hlt, z]
/-! ### turning the period -/
theorem g_rot {q : List Nat} {c : Nat} (hc : c ≤ q.length) (i : Nat) : g (q.drop c ++ q.take c) i = g q (i + c) := by
  have hl : (q.drop c ++ q.take c).length = q.length := by rw [List.length_append, List.length_drop, List.length_take]; omega
  by_cases hq : q.length = 0
  · have e : q = [] := List.length_eq_zero_iff.mp hq
    subst e
    simp [g]
  · have hi := Nat.mod_lt i (show 0 < q.length by omega)
    show (q.drop c ++ q.take c).getD (i % (q.drop c ++ q.take c).length) 0 = q.getD ((i + c) % q.length) 0
    rw [hl, ← Nat.mod_add_mod]
    generalize i % q.length = j at hi
    by_cases h : j < q.length - c
    · rw [getD_app (by rw [List.length_drop]; exact h), getD_drop, Nat.add_comm c j, Nat.mod_eq_of_lt (by omega)]
    · rw [getD_app2 (by rw [List.length_drop]; omega), List.length_drop, getD_take (by omega), Nat.mod_eq_sub_mod (by omega), Nat.mod_eq_of_lt (by omega)]
      congr 1
      omega
/-- one digit less in the head: the last of the head goes to the front of the period -/
theorem ev_less (l r : List Nat) (c : Nat) : ∀ i, ev l (c :: r) i = ev (l ++ [c]) (r ++ [c]) i := fun i => by
  have hl : (l ++ [c]).length = l.length + 1 := by simp
  have rot : ∀ j, g (r ++ [c]) j = g (c :: r) (j + 1) := fun j => g_rot (q := c :: r) (c := 1) (by simp) j
  rcases Nat.lt_trichotomy i l.length with h | h | h
  · rw [ev_lt h, ev_lt (by omega), getD_app h]
  · rw [ev_ge (by omega), ev_lt (by omega), getD_app2 (by omega), h, Nat.sub_self]
    unfold g
    rw [Nat.zero_mod]
    rfl
  · rw [ev_ge (by omega), ev_ge (by omega), rot, hl]
    congr 1
    omega
/-- the trimmed head and the turned period, t digits less -/
def trimH (h : List Nat) (t : Nat) : List Nat := h.take (h.length - t)
def turnQ (q : List Nat) (t : Nat) : List Nat := q.drop (q.length - t % q.length) ++ q.take (q.length - t % q.length)
theorem trimH_len {h : List Nat} {t : Nat} : (trimH h t).length = h.length - t := by unfold trimH; rw [List.length_take]; omega
theorem turnQ_len {q : List Nat} {t : Nat} : (turnQ q t).length = q.length := by unfold turnQ; rw [List.length_append, List.length_drop, List.length_take]; omega
theorem turn_g {q : List Nat} {t : Nat} (i : Nat) : g (turnQ q t) i = g q (i + (q.length - t % q.length)) := g_rot (Nat.sub_le _ _) i
/-- the digits that were taken off agree -/
def Agree (h q : List Nat) (t : Nat) : Prop := t ≤ h.length ∧ ∀ j, j < t → h.getD (h.length - 1 - j) 0 = q.getD (q.length - 1 - j % q.length) 0
theorem trim_ev {h q : List Nat} {t : Nat} (hq : 0 < q.length) (a : Agree h q t) (i : Nat) : ev (trimH h t) (turnQ q t) i = ev h q i := by
  obtain ⟨ht, ha⟩ := a
  by_cases h1 : i < h.length - t
  · rw [ev_lt (by rw [trimH_len]; exact h1), ev_lt (by omega)]
    exact getD_take h1
  · rw [ev_ge (by rw [trimH_len]; omega), trimH_len, turn_g]
    have hr := Nat.mod_lt t hq
    have et : t = t / q.length * q.length + t % q.length := by rw [Nat.mul_comm]; exact (Nat.div_add_mod t q.length).symm
    by_cases h2 : i < h.length
    · rw [ev_lt h2]
      have z := ha (h.length - 1 - i) (by omega)
      rw [show h.length - 1 - (h.length - 1 - i) = i by omega] at z
      rw [z]
      have hj := Nat.mod_lt (h.length - 1 - i) hq
      have ej : h.length - 1 - i = (h.length - 1 - i) / q.length * q.length + (h.length - 1 - i) % q.length := by rw [Nat.mul_comm]; exact (Nat.div_add_mod _ q.length).symm
      rw [← g_lt (show q.length - 1 - (h.length - 1 - i) % q.length < q.length by omega)]
      have m2 := g_mul q (q.length - 1 - (h.length - 1 - i) % q.length) (t / q.length - (h.length - 1 - i) / q.length)
      have le : (h.length - 1 - i) / q.length ≤ t / q.length := Nat.div_le_div_right (by omega)
      rw [Nat.sub_mul] at m2
      have le2 : (h.length - 1 - i) / q.length * q.length ≤ t / q.length * q.length := Nat.mul_le_mul_right _ le
      generalize t / q.length * q.length = T at *
      generalize (h.length - 1 - i) / q.length * q.length = J at *
      rw [← m2]
      congr 1
      omega
    · rw [ev_ge (by omega)]
      have m1 := g_mul q (i - (h.length - t) + (q.length - t % q.length)) (t / q.length)
      have m2 := g_mul q (i - h.length) (t / q.length + 1 + 0)
      have m3 : (t / q.length + 1 + 0) * q.length = t / q.length * q.length + q.length := by rw [Nat.add_zero, Nat.succ_mul]
      rw [m3] at m2
      generalize t / q.length * q.length = T at *
      have m4 := g_add q (i - h.length + T)
      have m5 : g q (i - (h.length - t) + (q.length - t % q.length)) = g q (i - h.length + (t + (q.length - t % q.length))) := by congr 1; omega
      rw [m5, show t + (q.length - t % q.length) = T + q.length by omega]
      exact m2
/-- the end of the trimming: a normal form -/
theorem trim_nf {h q : List Nat} {t : Nat} {f : Nat → Nat} (hf : ∀ i, ev h q i = f i) (hq : 0 < q.length) (a : Agree h q t) (stop : t < h.length → h.getD (h.length - 1 - t) 0 ≠ q.getD (q.length - 1 - t % q.length) 0)
    (prim : ∀ s m, 0 < s → s < q.length → ¬ ∀ i, m ≤ i → f (i + s) = f i) : Nf f (trimH h t) (turnQ q t) := by
  refine ⟨by rw [turnQ_len]; exact hq, fun i => (trim_ev hq a i).trans (hf i), by rw [turnQ_len]; exact prim, fun h0 => ?_⟩
  rw [trimH_len] at h0 ⊢
  rw [turnQ_len]
  have ht : t < h.length := by omega
  have e1 : f (h.length - t - 1) = h.getD (h.length - 1 - t) 0 := by
    rw [← hf, ev_lt (by omega)]
    congr 1
    omega
  have e2 : f (h.length - t - 1 + q.length) = q.getD (q.length - 1 - t % q.length) 0 := by
    have hr := Nat.mod_lt t hq
    rw [← hf, ← trim_ev hq a, ev_ge (by rw [trimH_len]; omega), trimH_len, turn_g]
    have z := g_add q (q.length - 1 - t % q.length)
    have y : g q (q.length - 1 - t % q.length) = q.getD (q.length - 1 - t % q.length) 0 := g_lt (by omega)
    rw [← y, ← z]
    congr 1
    omega
  rw [e1, e2]
  exact fun z => stop ht z.symm
/-- the same for the word that is taken off digit by digit -/
theorem last_nf {l r : List Nat} {f : Nat → Nat} (hf : ∀ i, ev l r i = f i) (hr : 0 < r.length) (prim : ∀ s m, 0 < s → s < r.length → ¬ ∀ i, m ≤ i → f (i + s) = f i)
    (stop : 0 < l.length → l.getD (l.length - 1) 0 ≠ r.getD (r.length - 1) 0) : Nf f l r := by
  refine ⟨hr, hf, prim, fun h0 => ?_⟩
  rw [← hf, ← hf, ev_lt (show l.length - 1 < l.length by omega), ev_ge (show l.length ≤ l.length - 1 + r.length by omega), show l.length - 1 + r.length - l.length = r.length - 1 by omega, g_lt (show r.length - 1 < r.length by omega)]
  exact fun z => stop h0 z.symm
/-! ### beginnings -/
def beg (h q : List Nat) (k many : Nat) : List Nat := (h ++ (List.replicate k q).flatten).take many
theorem beg_get {h q : List Nat} {k many i : Nat} (hk : many ≤ h.length + k * q.length) (hi : i < many) : (beg h q k many).getD i 0 = ev h q i := by
  unfold beg
  rw [getD_take hi]
  by_cases h1 : i < h.length
  · rw [getD_app h1, ev_lt h1]
  · rw [getD_app2 (by omega), ev_ge (by omega), rep_get (by omega)]
theorem beg_len {h q : List Nat} {k many : Nat} (hk : many ≤ h.length + k * q.length) : (beg h q k many).length = many := by
  unfold beg
  rw [List.length_take, List.length_append, rep_len]
  omega
theorem beg_eq {h q h' q' : List Nat} {k k' many : Nat} (hk : many ≤ h.length + k * q.length) (hk' : many ≤ h'.length + k' * q'.length) :
    beg h q k many = beg h' q' k' many ↔ ∀ i, i < many → ev h q i = ev h' q' i := by
  constructor
  · intro e i hi
    rw [← beg_get hk hi, ← beg_get hk' hi, e]
  · intro e
    refine ext_getD (by rw [beg_len hk, beg_len hk']) fun i hi => ?_
    rw [beg_len hk] at hi
    rw [beg_get hk hi, beg_get hk' hi, e i hi]
theorem ev_per {h q : List Nat} {i k : Nat} (hi : h.length ≤ i) : ev h q (i + k * q.length) = ev h q i := by
  rw [ev_ge hi, ev_ge (by omega), show i + k * q.length - h.length = i - h.length + k * q.length by omega, g_mul]
/-- what agrees long enough agrees for ever -/
theorem ev_all {h q h' q' : List Nat} {many : Nat} (hm : h.length ≤ many) (hm' : h'.length ≤ many) (hq : 0 < q.length) (hq' : 0 < q'.length) (e : ∀ i, i < many + q.length * q'.length → ev h q i = ev h' q' i) (i : Nat) : ev h q i = ev h' q' i := by
  by_cases hi : i < many
  · exact e i (by omega)
  · have hp : 0 < q.length * q'.length := Nat.mul_pos hq hq'
    have hlt := Nat.mod_lt (i - many) hp
    have ei : many + (i - many) % (q.length * q'.length) + (i - many) / (q.length * q'.length) * (q.length * q'.length) = i := by
      have z := Nat.div_add_mod (i - many) (q.length * q'.length)
      rw [Nat.mul_comm] at z
      omega
    have a1 := ev_per (h := h) (q := q) (i := many + (i - many) % (q.length * q'.length)) (k := (i - many) / (q.length * q'.length) * q'.length) (by omega)
    have a2 := ev_per (h := h') (q := q') (i := many + (i - many) % (q.length * q'.length)) (k := (i - many) / (q.length * q'.length) * q.length) (by omega)
    rw [Nat.mul_assoc, Nat.mul_comm q'.length, ei] at a1
    rw [Nat.mul_assoc, ei] at a2
    rw [a1, a2]
    exact e _ (by omega)
/-- the period told several times over -/
theorem ev_rep {h q : List Nat} {k : Nat} (hk : 0 < k) (i : Nat) : ev h ((List.replicate k q).flatten) i = ev h q i := by
  by_cases h1 : i < h.length
  · rw [ev_lt h1, ev_lt h1]
  · rw [ev_ge (by omega), ev_ge (by omega)]
    generalize i - h.length = j
    by_cases hq : q.length = 0
    · have e : q = [] := List.length_eq_zero_iff.mp hq
      subst e
      simp
    · show ((List.replicate k q).flatten).getD (j % ((List.replicate k q).flatten).length) 0 = _
      rw [rep_len, rep_get (Nat.mod_lt _ (Nat.mul_pos hk (by omega)))]
      unfold g
      rw [Nat.mod_mod_of_dvd _ (Nat.dvd_mul_left _ _)]
/-! ### the normal form that the law finds, and that of the program: one and the same -/
/-- the shorter period told by the least one -/
theorem short_nf {h q : List Nat} {s : Nat} (a : Least q s) (hq : 0 < q.length) (i : Nat) : ev h (q.take s) i = ev h q i := by
  by_cases h1 : i < h.length
  · rw [ev_lt h1, ev_lt h1]
  · rw [ev_ge (by omega), ev_ge (by omega), a.g hq]
end Vm


set_option Elab.async false
set_option maxRecDepth 100000
set_option maxHeartbeats 4000000
set_option exponentiation.threshold 3000
namespace Vf
open PySem L2 SX Vm
theorem find_least {q : List Nat} (hq : 0 < q.length) : ∃ s : Nat, Txt.find3 (S (q ++ q)) (S q) 1 = (s : Int) ∧ Least q s := by
  have e1 : PySem.fromIndex (S (q ++ q)).length 1 = 1 := by
    rw [S_len, List.length_append]
    unfold PySem.fromIndex
    rw [if_neg (by decide)]
    rfl
  have key : ∀ i, 1 ≤ i → (PySem.StrLaws.At (S (q ++ q)) (S q) (S (q ++ q)).length i ↔ i ≤ q.length ∧ Per q i) := fun i hi => by
    unfold PySem.StrLaws.At
    rw [PySem.StrLaws.subAt_eq, S_len, S_len, List.length_append]
    constructor
    · rintro ⟨h1, h2⟩
      have h : i ≤ q.length := by omega
      exact ⟨h, (find_per h hq).mp (beq_iff_eq.mp h2)⟩
    · rintro ⟨h1, h2⟩
      exact ⟨by omega, beq_iff_eq.mpr ((find_per h1 hq).mpr h2)⟩
  rcases PySem.StrLaws.occ_head_from (S (q ++ q)) (S q) 1 1 (Nat.le_refl 1) with ⟨_, hn⟩ | ⟨k, r, h0, hlo, hk, hn⟩
  · exact absurd ((key q.length hq).mpr ⟨Nat.le_refl _, per_len q⟩) (hn q.length hq)
  · refine ⟨k, ?_, hlo, ((key k hlo).mp hk).2, fun t h1 h2 p => hn t h1 h2 ((key t h1).mpr ⟨?_, p⟩)⟩
    · unfold Txt.find3
      rw [e1, h0]
    · have := ((key k hlo).mp hk).1
      omega
theorem cut_take {q : List Nat} {s : Nat} (h : s ≤ q.length) : cutS (S q) none (some (s : Int)) = S (q.take s) := by
  unfold cutS
  rw [S_len, HT.sIx_none, HT.sIx_nat, Nat.min_eq_left h]
  rfl
theorem cut_drop {q : List Nat} {s : Nat} (h : s ≤ q.length) : cutS (S q) (some (s : Int)) none = S (q.drop s) := by
  unfold cutS
  rw [S_len, HT.sIx_none, HT.sIx_nat, Nat.min_eq_left h]
  congr 2
  rw [List.take_of_length_le]
  rw [List.length_drop]
  exact Nat.le_refl _
/-- the shorter period -/
def spShort : Sp := fun vs H Q _ => ∃ q : List Nat, vs = [.str (S q)] ∧ 0 < q.length ∧ q.length ≤ 1000 ∧ ∀ s, Least q s → s ≤ q.length → Q (.str (S (q.take s))) H
section
variable {P : Program} {w : World} {K : PySem.W.Frag} {mg : Str → Option Value} {base : Heap}
theorem scShort : FnScope ["period"] ["period"] (defScope sShortest) := ⟨rfl, rfl, rfl, by decide +kernel, rfl, by decide +kernel, by decide +kernel⟩
theorem ok_short {f : Addr} {fd : FuncData} (F : Fun K "shortest_period" "shortest_period" sShortest f fd) : FnOk P w K mg base CX0 1 f fd ["period"] spShort := by
  refine F.ok scShort (fun vs H Q E h => ?_) (fun cdv A outer s H vs Q E hr h => ?_)
  · obtain ⟨q, rfl, _⟩ := h
    rfl
  · obtain ⟨q, rfl, h0, h1, k⟩ := h
    refine ⟨_, pss_one (ps_ret (pe_slice sl_str (pv 0) po_none (po_some (pe_bm PySem.F.plainAttrs_str PySem.F.slot_str_find PySem.F.type_str_find mt_find3 (pe_op op_add_str (pv 0) (pv 0)) (pa_cons (pv 0) (pa_cons pe_int pa_nil)))))), ?_⟩
    obtain ⟨s0, e, l⟩ := find_least h0
    have hle := l.le h0
    have len1 : (S q).length + (S q).length ≤ sizeLine := by rw [S_len]; exact Nat.le_trans (show q.length + q.length ≤ 2000 by omega) (by decide)
    have len2 : (S q).length ≤ sizeLine := Nat.le_trans (Nat.le_add_right _ _) len1
    refine ⟨_, rfl, _, rfl, _, rfl, _, _, rfl, rfl, len1, rfl, _, rfl, _, _, _, rfl, rfl, _, rfl, _, rfl, len2, ?_⟩
    show Q (.str (cutS (S q) none (some (Txt.find3 (S q ++ S q) (S q) 1)))) H
    rw [S_cat, e, cut_take hle]
    exact k s0 l hle
end
end Vf


set_option Elab.async false
set_option maxRecDepth 100000
set_option maxHeartbeats 4000000
set_option exponentiation.threshold 3000
namespace Vf
open PySem L2 SX Vm
theorem at_back {l : List Nat} {i : Int} {t : Nat} (ht : t < l.length) (hi : i = -1 - (t : Int)) : atI l i = some (l.getD (l.length - 1 - t) 0) := by
  unfold atI ixN
  rw [if_neg (by omega), if_pos (by omega)]
  show l[(i + (l.length : Int)).toNat]? = _
  rw [show (i + (l.length : Int)).toNat = l.length - 1 - t by omega, List.getD_eq_getElem?_getD, List.getElem?_eq_getElem (by omega)]
  rfl
theorem one_eq {a b : Nat} : (V.str ⟨#[a]⟩ = V.str ⟨#[b]⟩) ↔ a = b := by
  constructor
  · intro h
    have h1 := V.str.inj h
    have h2 := congrArg (fun s : Str => s.cps.toList) h1
    exact (List.cons.inj h2).1
  · intro h
    rw [h]
theorem emod_nat {t s : Nat} : ((t : Int) % (s : Int)) = ((t % s : Nat) : Int) := by omega
/-- from a row of digits to what lies in a row of digits -/
def Sub (m l : List Nat) : Prop := ∀ c ∈ m, c ∈ l
theorem sub_trimH {h : List Nat} {t : Nat} : Sub (trimH h t) h := fun _ hc => List.mem_of_mem_take hc
theorem sub_turnQ {q : List Nat} {t : Nat} : Sub (turnQ q t) q := fun c hc => by
  rcases List.mem_append.mp hc with h | h
  · exact List.mem_of_mem_drop h
  · exact List.mem_of_mem_take h
theorem cut_len (l : List Nat) (a b : Option Int) : (cutS (S l) a b).length ≤ l.length := by
  unfold cutS
  rw [S_len, List.length_take, List.length_drop]
  exact Nat.le_trans (Nat.min_le_right _ _) (Nat.sub_le _ _)
theorem fin_len {a b : Option Int} {q : List Nat} (hq : q.length ≤ 1000) : (cutS (S q) a none).length + (cutS (S q) none b).length ≤ sizeLine := by
  have h1 := cut_len q a none
  have h2 := cut_len q none b
  exact Nat.le_trans (show _ ≤ 2000 by omega) (by decide)
theorem val_head {h : List Nat} {t : Nat} (ht : t ≤ h.length) : cutS (S h) none (some (((S h).length : Int) - (t : Int))) = S (trimH h t) := by
  rw [S_len, show ((h.length : Int) - (t : Int)) = ((h.length - t : Nat) : Int) by omega, cut_take (Nat.sub_le _ _)]
  rfl
theorem val_per {q : List Nat} {t s : Nat} (hs : q.length = s) (h0 : 0 < s) :
    cutS (S q) (some ((s : Int) - (t : Int) % (s : Int))) none ++ cutS (S q) none (some ((s : Int) - (t : Int) % (s : Int))) = S (turnQ q t) := by
  have hm := Nat.mod_lt t h0
  rw [show ((s : Int) - (t : Int) % (s : Int)) = ((q.length - t % q.length : Nat) : Int) by rw [emod_nat, hs]; omega, cut_drop (Nat.sub_le _ _), cut_take (Nat.sub_le _ _), S_cat]
  rfl
def spNormal : Sp := fun vs H Q _ => ∃ (r : V) (h q : List Nat), vs = [r, .str (S h), .str (S q)] ∧ 0 < q.length ∧ q.length ≤ 1000 ∧ h.length ≤ 1000 ∧
  ∀ (h' q' : List Nat) (p : Addr), Nf (ev h q) h' q' → h'.length ≤ h.length → q'.length ≤ q.length → Sub h' h → Sub q' q → H p = none → Q (.ref p) (upd H p (.tup [r, .str (S h'), .str (S q')]))
theorem small_len {l : List Nat} (h : l.length ≤ 1000) : (S l).length ≤ sizeLine := by rw [S_len]; exact Nat.le_trans h (by decide)
section
variable {P : Program} {w : World} {K : PySem.W.Frag} {mg : Str → Option Value} {base : Heap}
theorem scNormal : FnScope ["root", "head", "period", "size", "turned", "cut"] ["root", "head", "period"] (defScope sNormal) := ⟨rfl, rfl, rfl, by decide +kernel, rfl, by decide +kernel, by decide +kernel⟩
theorem ok_normal {f fS : Addr} {fd fdS : FuncData} (F : Fun K "normal_stream" "normal_stream" sNormal f fd) (GS : FnOk P w K mg base CX0 1 fS fdS ["period"] spShort) (cS : Cal K mg "shortest_period" fS fdS ["period"]) (ml : mg "len" = none) :
    FnOk P w K mg base CX0 2 f fd ["root", "head", "period"] spNormal := by
  refine F.ok scNormal (fun vs H Q E h => ?_) (fun cdv A outer s H vs Q E hr h => ?_)
  · obtain ⟨r, h, q, rfl, _⟩ := h
    rfl
  · obtain ⟨r, h, q0, rfl, h0, h1, h2, k⟩ := h
    have nd := scNormal.nd
    refine ⟨_, pss_cons (ps_set (i := 2) nd rfl (.inl rfl) (pe_call GS hr rfl cS.mg cS.kp cS.b .nil pass0 (pa_cons (pv 2) pa_nil)))
      (pss_cons (ps_set (i := 3) nd rfl (.inl rfl) (pe_callB call_len_str (by rfl) ml boot_len (pa_cons (pv 2) pa_nil)))
      (pss_cons (ps_set (i := 4) nd rfl (.inl rfl) pe_int)
      (pss_cons (ps_while PassesOwn.never ((pw_and (pt_cmpR op_lt (pv 4) (pe_callB call_len_str (by rfl) ml boot_len (pa_cons (pv 1) pa_nil)) (nomark _))
          (pw_and1 (pt_cmpR op_eq (pe_ix ix_str (pv 1) (pe_op op_sub (pe_un un_neg pe_int) (pv 4)) (fun _ _ => rfl)) (pe_ix ix_str (pv 2) (pe_op op_sub (pe_un un_neg pe_int) (pe_op op_mod (pv 4) (pv 3))) (fun _ _ => rfl)) (nomark _)))).pt)
        (pss_one (ps_aug (i := 4) nd rfl (.inl rfl) pe_int ip_add)))
      (pss_cons (ps_set (i := 5) nd rfl (.inl rfl) (pe_op op_sub (pv 3) (pe_op op_mod (pv 4) (pv 3))))
      (pss_one (ps_ret (pe_tup (pa_cons (pv 0) (pa_cons (pe_slice sl_str (pv 1) po_none (po_some (pe_op op_sub (pe_callB call_len_str (by rfl) ml boot_len (pa_cons (pv 1) pa_nil)) (pv 4))))
        (pa_cons (pe_op op_add_str (pe_slice sl_str (pv 2) (po_some (pv 5)) po_none) (pe_slice sl_str (pv 2) po_none (po_some (pv 5)))) pa_nil)))))))))), ?_⟩
    obtain ⟨s0, e, l⟩ := find_least h0
    have hle := l.le h0
    refine ⟨_, rfl, q0, rfl, h0, h1, fun s0 l hle => ?_⟩
    have sl : (q0.take s0).length = s0 := take_len hle
    refine ⟨_, rfl, _, rfl, small_len (by omega), ?_⟩
    refine ⟨fun m σ H2 => ∃ t : Nat, m = h.length - t ∧ σ = [some r, some (.str (S h)), some (.str (S (q0.take s0))), some (.int (s0 : Int)), some (.int (t : Int)), none] ∧ H2 = H ∧ Agree h (q0.take s0) t, ⟨h.length, 0, rfl, ?_, rfl, Nat.zero_le _, fun j hj => absurd hj (Nat.not_lt_zero _)⟩, ?_⟩
    · rw [S_len, sl]
      rfl
    · rintro m σ H2 ⟨t, rfl, rfl, rfl, ag⟩
      refine ⟨_, rfl, _, rfl, _, rfl, small_len h2, _, _, rfl, rfl, _, rfl, ?_⟩
      have sp : 0 < s0 := l.pos
      have hm := Nat.mod_lt t sp
      have fin : ¬ (t < h.length ∧ h.getD (h.length - 1 - t) 0 = (q0.take s0).getD (s0 - 1 - t % s0) 0) → Nf (ev h q0) (trimH h t) (turnQ (q0.take s0) t) := fun st => by
        refine trim_nf (fun i => short_nf l h0 i) (by omega) ag (fun ht => ?_) (by rw [sl]; exact fun a m x y => l.prim h0 a m x y)
        rw [sl]
        exact fun z => st ⟨ht, z⟩
      have done : Nf (ev h q0) (trimH h t) (turnQ (q0.take s0) t) → ∀ p, H2 p = none → Q (.ref p) (upd H2 p (.tup [r, .str (S (trimH h t)), .str (S (turnQ (q0.take s0) t))])) := fun nf p hp =>
        k _ _ p nf (by rw [trimH_len]; omega) (by rw [turnQ_len, sl]; exact hle) sub_trimH (fun c hc => List.mem_of_mem_take (sub_turnQ c hc)) hp
      have lq : (S (q0.take s0)).length ≤ sizeLine := small_len (by omega)
      have lh : (S h).length ≤ sizeLine := small_len h2
      have ps0 : (0 : Int) < (s0 : Int) := by omega
      refine ite2 (fun c => ?_) (fun c => ?_)
      · have c' : (t : Int) < ((S h).length : Int) := of_decide_eq_true c
        have ht : t < h.length := by rw [S_len] at c'; omega
        refine ⟨_, rfl, _, rfl, _, rfl, _, _, rfl, rfl, _, _, _, rfl, rfl, lh, at_back ht (by show -1 - (t : Int) = _; rfl), ?_⟩
        refine ⟨_, rfl, _, rfl, _, rfl, _, rfl, _, _, rfl, rfl, ps0, _, _, rfl, rfl, _, _, _, rfl, rfl, lq, at_back (t := t % s0) (by rw [sl]; exact hm) (by rw [← emod_nat]), ?_⟩
        refine ⟨rfl, _, rfl, ?_⟩
        refine ite2 (fun c => ?_) (fun c => ?_)
        · have e1 := one_eq.mp (of_decide_eq_true c)
          refine ⟨fun σ' H' => ∃ m', m' < h.length - t ∧ _, fun σ' H' z => z, _, rfl, _, _, rfl, rfl, h.length - (t + 1), by omega, t + 1, rfl, rfl, rfl, ?_⟩
          refine ⟨ht, fun j hj => ?_⟩
          rcases Nat.lt_or_ge j t with hlt | hge
          · exact ag.2 j hlt
          · have ej : j = t := by omega
            rw [ej, e1]
            rw [sl]
        · have nf := fin (fun z => c (decide_eq_true (one_eq.mpr (by rw [z.2, sl]))))
          refine ⟨_, rfl, _, rfl, _, rfl, _, _, rfl, rfl, ps0, _, _, rfl, rfl, _, rfl, _, rfl, _, rfl, _, rfl, lh, _, rfl, _, _, rfl, rfl, _, rfl, _, rfl, lh, _, rfl, _, rfl, _, rfl, _, rfl, lq, _, rfl, _, rfl, _, rfl, _, rfl, lq, _, _, rfl, rfl, ?_, (by show 3 ≤ sizeLine; decide), fun p hp => ?_⟩
          · exact fin_len (by omega)
          · have e1 := val_head ag.1
            have e2 := val_per (t := t) sl sp
            show Q (.ref p) (upd H2 p (.tup [r, .str (cutS (S h) none (some (((S h).length : Int) - (t : Int)))), .str (cutS (S (q0.take s0)) (some ((s0 : Int) - (t : Int) % (s0 : Int))) none ++ cutS (S (q0.take s0)) none (some ((s0 : Int) - (t : Int) % (s0 : Int))))]))
            rw [e1, e2]
            exact done nf p hp
      · have nf := fin (fun z => c (decide_eq_true (by rw [S_len]; omega)))
        refine ⟨_, rfl, _, rfl, _, rfl, _, _, rfl, rfl, ps0, _, _, rfl, rfl, _, rfl, _, rfl, _, rfl, _, rfl, lh, _, rfl, _, _, rfl, rfl, _, rfl, _, rfl, lh, _, rfl, _, rfl, _, rfl, _, rfl, lq, _, rfl, _, rfl, _, rfl, _, rfl, lq, _, _, rfl, rfl, ?_, (by show 3 ≤ sizeLine; decide), fun p hp => ?_⟩
        · exact fin_len (by omega)
        · have e1 := val_head ag.1
          have e2 := val_per (t := t) sl sp
          show Q (.ref p) (upd H2 p (.tup [r, .str (cutS (S h) none (some (((S h).length : Int) - (t : Int)))), .str (cutS (S (q0.take s0)) (some ((s0 : Int) - (t : Int) % (s0 : Int))) none ++ cutS (S (q0.take s0)) none (some ((s0 : Int) - (t : Int) % (s0 : Int))))]))
          rw [e1, e2]
          exact done nf p hp
end
end Vf


set_option Elab.async false
set_option maxRecDepth 100000
set_option maxHeartbeats 4000000
set_option exponentiation.threshold 3000
namespace Vf
open PySem L2 SX Vm
section
variable {X : Cx}
theorem fold_flat (l : List Nat) : ∀ (k : Nat) (acc : Array Nat), ((List.replicate k l.toArray).foldl (· ++ ·) acc) = acc ++ ((List.replicate k l).flatten).toArray
  | 0, acc => by simp
  | k + 1, acc => by
    rw [List.replicate_succ, List.foldl_cons, fold_flat l k, List.replicate_succ, List.flatten_cons]
    simp
/-- a text times a number -/
def rMulS : R2 := fun x y H Q => ∃ (l : List Nat) (k : Nat), x = .str (S l) ∧ y = .int (k : Int) ∧ k ≤ 100000 ∧ l.length ≤ 100000 ∧ k * l.length ≤ 1000000 ∧ Q (.str (S ((List.replicate k l).flatten))) H
theorem op_mul_str : OpR X (binaryOp .Mult) rMulS := by
  intro pins s σ H x y v u Q I rx ry h
  obtain ⟨l, k, rfl, rfl, h1, h2, h3, q⟩ := h
  obtain ⟨t, rfl⟩ := rx
  obtain ⟨t', rfl⟩ := ry
  refine PySem.P.mul_str ?_ (fun a b => ?_) (fun a b => ?_) ?_
  · rw [decide_eq_false (show ¬ ((k : Int) < -(2 ^ 63 : Int)) by omega), decide_eq_false (show ¬ ((k : Int) ≥ 2 ^ 63) by omega)]
    rfl
  · rw [S_len]
    have hk : (0 : Int) < (k : Int) := by omega
    have : (l.length : Int) ≤ (2 ^ 63 - 1) / (k : Int) := by
      rw [Int.le_ediv_iff_mul_le hk]
      have e : ((l.length : Int) * (k : Int)) = ((k * l.length : Nat) : Int) := by rw [Int.natCast_mul, Int.mul_comm]
      rw [e]
      omega
    omega
  · rw [S_len, Int.toNat_natCast, Nat.mul_comm]
    have : k * l.length ≤ sizeLine := Nat.le_trans h3 (by decide)
    unfold Builtin.Str.tooLong
    exact decide_eq_false (by omega)
  · have hlen : ((List.replicate k l).flatten).length ≤ sizeLine := by rw [rep_len]; exact Nat.le_trans h3 (by decide)
    by_cases c1 : (k : Int) < 1
    · have e : k = 0 := by omega
      subst e
      rw [if_pos c1]
      exact ⟨by decide, .str _, H, I.tok _, ⟨_, rfl⟩, q⟩
    · rw [if_neg c1]
      by_cases c2 : ((k : Int) == 1 || (S l).length == 0) = true
      · rw [if_pos c2]
        have e : (List.replicate k l).flatten = l := by
          rw [Bool.or_eq_true, beq_iff_eq, beq_iff_eq, S_len] at c2
          rcases c2 with c | c
          · have e : k = 1 := by omega
            subst e
            simp
          · have e : l = [] := List.length_eq_zero_iff.mp c
            subst e
            simp
        rw [e] at q
        exact ⟨.str _, H, I, ⟨_, rfl⟩, q⟩
      · rw [if_neg c2, Int.toNat_natCast]
        have e : (⟨(List.replicate k (S l).cps).foldl (· ++ ·) #[]⟩ : Str) = S ((List.replicate k l).flatten) := by
          have z := fold_flat l k #[]
          show Str.mk _ = Str.mk _
          rw [z]
          simp
        rw [e]
        exact ⟨by rw [S_len]; exact hlen, .str _, H, I.tok _, ⟨_, rfl⟩, q⟩
end
/-- the first one that passes -/
theorem filter_head {p : Nat → Bool} {s : Nat} (hp : p s = true) : ∀ n a, a ≤ s → s < a + n → (∀ t, a ≤ t → t < s → p t = false) → ((List.range' a n).filter p)[0]? = some s
  | 0, a, h1, h2, _ => absurd h2 (by omega)
  | n + 1, a, h1, h2, h3 => by
    rw [List.range'_succ]
    by_cases e : a = s
    · subst e
      rw [List.filter_cons_of_pos hp]
      rfl
    · rw [List.filter_cons_of_neg (by rw [h3 a (Nat.le_refl _) (by omega)]; exact Bool.false_ne_true)]
      exact filter_head hp n (a + 1) (by omega) (by omega) fun t h4 h5 => h3 t (by omega) h5
def okB (q : List Nat) (m : Nat) : Bool := decide ((List.replicate (q.length / m) (q.take m)).flatten = q)
theorem first_size {q : List Nat} {s : Nat} (h0 : 0 < q.length) (l : Least q s) : ((List.range' 1 q.length).filter (okB q))[0]? = some s := by
  have hle := l.le h0
  have hp := l.pos
  refine filter_head (decide_eq_true ((rep_per hp hle).mpr ⟨l.per, l.dvd (per_len q)⟩)) _ _ hp (by omega) fun t h1 h2 => decide_eq_false fun z => ?_
  exact l.min t h1 h2 ((rep_per h1 (by omega)).mp z).1
theorem filter_snoc {p : Nat → Bool} {i : Nat} : (List.range' 1 (i + 1)).filter p = (List.range' 1 i).filter p ++ (if p (1 + i) = true then [1 + i] else []) := by
  rw [List.range'_concat, List.filter_append, Nat.one_mul]
  congr 1
  by_cases h : p (1 + i) = true
  · rw [if_pos h, List.filter_cons_of_pos h]
    rfl
  · rw [if_neg h, List.filter_cons_of_neg h]
    rfl
theorem str_ne_empty {l : List Nat} : (V.str (S l) = V.str ("" : Str)) ↔ l = [] := by
  rw [str_empty]
  constructor
  · intro h
    exact S_inj (V.str.inj h)
  · intro h
    rw [h]
theorem str_eq {l m : List Nat} : (V.str (S l) = V.str (S m)) ↔ l = m := ⟨fun h => S_inj (V.str.inj h), fun h => by rw [h]⟩
theorem cut_last (l : List Nat) (c : Nat) : cutS (S (l ++ [c])) none (some (-1)) = S l := by
  unfold cutS
  rw [S_len, HT.sIx_none, List.length_append]
  have e : HT.sIx (l.length + [c].length) (l.length + [c].length) (some (-1)) = l.length := by
    show (if (-1 : Int) < 0 then ((-1 : Int) + ((l.length + 1 : Nat) : Int)).toNat else min (-1 : Int).toNat (l.length + 1)) = l.length
    rw [if_pos (by decide)]
    omega
  rw [e]
  show S ((List.drop 0 (l ++ [c])).take (l.length - 0)) = S l
  rw [List.drop_zero, Nat.sub_zero, List.take_left']
  rfl
theorem last_at (l : List Nat) (c : Nat) : atI (S (l ++ [c])).cps.toList (-1) = some c := by
  have z := at_back (l := l ++ [c]) (i := -1) (t := 0) (by simp) (by decide)
  have e : (l ++ [c]).getD ((l ++ [c]).length - 1 - 0) 0 = c := by
    rw [List.getD_eq_getElem?_getD]
    simp
  rw [e] at z
  exact z
theorem last_getD (l : List Nat) (c : Nat) : (l ++ [c]).getD ((l ++ [c]).length - 1) 0 = c := by
  rw [List.getD_eq_getElem?_getD]
  simp
theorem iteTB {c : Bool} {A B : Prop} (hc : c = true) (h : A) : if c = true then A else B := by rw [if_pos hc]; exact h
theorem iteFB {c : Bool} {A B : Prop} (hc : c = false) (h : B) : if c = true then A else B := by rw [hc, if_neg Bool.false_ne_true]; exact h
/-- the law's normal form -/
def spLNormal : Sp := fun vs H Q _ => ∃ (r : V) (h q : List Nat), vs = [r, .str (S h), .str (S q)] ∧ 0 < q.length ∧ q.length ≤ 1000 ∧ h.length ≤ 1000 ∧
  ∀ (h' q' : List Nat) (p : Addr) (H' : Hp), Nf (ev h q) h' q' → h'.length ≤ h.length → q'.length ≤ q.length → Sub h' h → Sub q' q → Same H H' → H p = none → H' p = some (.tup [r, .str (S h'), .str (S q')]) → Q (.ref p) H'
section
variable {P : Program} {w : World} {K : PySem.W.Frag} {mg : Str → Option Value} {base : Heap}
theorem scLNormal : FnScope ["root", "head", "period", "size", "many"] ["root", "head", "period"] (defScope sLNormal) := ⟨rfl, rfl, rfl, by decide +kernel, rfl, by decide +kernel, by decide +kernel⟩
theorem ok_lnormal {f : Addr} {fd : FuncData} (F : Fun K "_law_normal" "_law_normal" sLNormal f fd) (ml : mg "len" = none) (mr : mg "range" = none) :
    FnOk P w K mg base CX0 1 f fd ["root", "head", "period"] spLNormal := by
  refine F.ok scLNormal (fun vs H Q E h => ?_) (fun cdv A outer s H vs Q E hr h => ?_)
  · obtain ⟨r, h, q, rfl, _⟩ := h
    rfl
  · obtain ⟨r, h, q0, rfl, h0, h1, h2, k⟩ := h
    have nd := scLNormal.nd
    refine ⟨_, pss_cons (ps_set (i := 3) nd rfl (.inl rfl) (pe_ix ix_list (pe_lc (own := [("many", 4)]) (g := gName 4) rfl nd
          (pi_range2 rfl mr (pa_cons pe_int (pa_cons (pe_op op_add (pe_callB call_len_str (by rfl) ml boot_len (pa_cons (pv 2) pa_nil)) pe_int) pa_nil)))
          (blkOk_by (N := ["root", "head", "period", "size", "many"]) (sc := defScope sLNormal) (by decide +kernel)) (fun _ _ _ _ _ => pg_name (i := 4) nd rfl (Or.inl rfl))
          (fun _ _ _ _ _ => pts_one (pt_cmpR op_eq (pe_op op_mul_str (pe_slice sl_str (pv 2) po_none (po_some (pv 4))) (pe_op op_fdiv (pe_callB call_len_str (by rfl) ml boot_len (pa_cons (pv 2) pa_nil)) (pv 4))) (pv 2) (nomark _))) (fun _ _ _ _ _ => pv 4)) pe_int (fun _ _ => rfl)))
      (pss_cons (ps_set (i := 2) nd rfl (.inr rfl) (pe_slice sl_str (pv 2) po_none (po_some (pv 3))))
      (pss_cons (ps_while PassesOwn.never (pw_and (pt_cmpR op_ne (pv 1) pe_str (nomark _)) (pw_and1 (pt_cmpR op_eq (pe_ix ix_str (pv 1) (pe_un un_neg pe_int) (fun _ _ => rfl)) (pe_ix ix_str (pv 2) (pe_un un_neg pe_int) (fun _ _ => rfl)) (nomark _)))).pt
        (pss_one (ps_asg (pe_tup (pa_cons (pe_slice sl_str (pv 1) po_none (po_some (pe_un un_neg pe_int))) (pa_cons (pe_op op_add_str (pe_ix ix_str (pv 2) (pe_un un_neg pe_int) (fun _ _ => rfl)) (pe_slice sl_str (pv 2) po_none (po_some (pe_un un_neg pe_int)))) pa_nil)))
          (pg_tup rfl (pgs_cons (pg_name (i := 1) nd rfl (.inl rfl)) (pgs_cons (pg_name (i := 2) nd rfl (.inr rfl)) pgs_nil))))))
      (pss_one (ps_ret (pe_tup (pa_cons (pv 0) (pa_cons (pv 1) (pa_cons (pv 2) pa_nil)))))))), ?_⟩
    have lq : (S q0).length ≤ sizeLine := small_len h1
    refine ⟨_, rfl, _, rfl, lq, _, _, rfl, rfl, _, _, rfl, ⟨by decide, by decide, by rw [S_len]; omega, by rw [S_len]; omega⟩, fun D hD => ?_⟩
    have en : (((S q0).length : Int) + 1 - 1).toNat = q0.length := by rw [S_len]; omega
    rw [en]
    refine lc_range (n := q0.length) (fun i H2 => H2 = upd H D (.lst (((List.range' 1 i).filter (okB q0)).map fun m => V.int (m : Nat)))) rfl ?_ ?_
    · rintro i H2 hi rfl
      refine ⟨rfl, ?_⟩
      have e1 : cutS (S q0) none (some (1 + (i : Int))) = S (q0.take (1 + i)) := by
        rw [show (1 + (i : Int)) = ((1 + i : Nat) : Int) by omega]
        exact cut_take (by omega)
      have e2 : (((S q0).length : Int) / (1 + (i : Int))) = ((q0.length / (1 + i) : Nat) : Int) := by
        rw [S_len, show (1 + (i : Int)) = ((1 + i : Nat) : Int) by omega]
        rfl
      have hm : q0.length / (1 + i) ≤ q0.length := Nat.div_le_self _ _
      have hm2 : q0.length / (1 + i) * (q0.take (1 + i)).length ≤ 1000000 := Nat.le_trans (Nat.mul_le_mul hm (show (q0.take (1 + i)).length ≤ 1000 by rw [List.length_take]; omega)) (by omega)
      refine ⟨_, rfl, _, rfl, _, rfl, _, rfl, lq, _, rfl, _, rfl, lq, _, rfl, _, _, rfl, rfl, ⟨by omega, by omega⟩, q0.take (1 + i), q0.length / (1 + i), congrArg V.str e1, congrArg V.int e2, by omega, by rw [List.length_take]; omega, hm2, _, rfl, rfl, _, rfl, ?_⟩
      rw [filter_snoc]
      by_cases c : okB q0 (1 + i) = true
      · rw [if_pos c]
        refine iteTB (decide_eq_true (str_eq.mpr (of_decide_eq_true c))) ?_
        refine ⟨_, rfl, _, upd_same, ?_, ?_⟩
        · rw [List.length_map]
          exact Nat.lt_of_le_of_lt (Nat.le_trans (List.length_filter_le _ _) (show (List.range' 1 i).length ≤ 1000 by rw [List.length_range']; omega)) (by decide)
        · rw [upd_upd', List.map_append]
          rw [show (1 + (i : Int)) = ((1 + i : Nat) : Int) by omega]
          rfl
      · rw [if_neg c, List.append_nil]
        exact iteFB (decide_eq_false (fun z => c (decide_eq_true (str_eq.mp z)))) rfl
    · rintro H2 rfl
      obtain ⟨s0, e, l⟩ := find_least h0
      have hle := l.le h0
      have sp := l.pos
      have hi : atI (((List.range' 1 q0.length).filter (okB q0)).map fun m => V.int (m : Nat)) 0 = some (.int (s0 : Int)) := by
        refine atI_nat (j := 0) ?_
        rw [List.getElem?_map, first_size h0 l]
        rfl
      have sl : (q0.take s0).length = s0 := take_len hle
      refine ⟨D, _, 0, _, rfl, rfl, SqL.of upd_same, hi, ?_⟩
      refine ⟨_, rfl, _, rfl, _, rfl, _, rfl, lq, ?_⟩
      rw [cut_take hle]
      refine ⟨fun m σ H2 => ∃ l' r' : List Nat, m = l'.length ∧ σ = [some r, some (.str (S l')), some (.str (S r')), some (.int (s0 : Int)), none] ∧ Same H H2 ∧ r'.length = s0 ∧ (∀ i, ev l' r' i = ev h q0 i) ∧ l'.length ≤ h.length ∧ Sub l' h ∧ Sub r' q0,
        ⟨h.length, h, q0.take s0, rfl, rfl, fun b o e => by rw [upd_ne (ne_of_none e hD)]; exact e, sl, fun i => short_nf l h0 i, Nat.le_refl _, fun _ x => x, fun _ x => List.mem_of_mem_take x⟩, ?_⟩
      rintro m σ H2 ⟨l', r', rfl, rfl, s2, lr, hev, hl, sub1, sub2⟩
      have ll : (S l').length ≤ sizeLine := small_len (by omega)
      have lrr : (S r').length ≤ sizeLine := small_len (by omega)
      have done : (0 < l'.length → l'.getD (l'.length - 1) 0 ≠ r'.getD (r'.length - 1) 0) → ∀ p, H2 p = none → Q (.ref p) (upd H2 p (.tup [r, .str (S l'), .str (S r')])) := fun stop p hp =>
        k l' r' p _ (last_nf hev (by omega) (by rw [lr]; exact fun a m x y => l.prim h0 a m x y) stop) hl (by omega) sub1 sub2 (fun b o e => by rw [upd_ne (ne_of_none (s2 b o e) hp)]; exact s2 b o e) (s2.free hp) upd_same
      refine ⟨_, rfl, rfl, _, rfl, ?_⟩
      rcases List.eq_nil_or_concat l' with e | ⟨l0, c, e⟩
      · subst e
        refine iteFB (by rw [decide_eq_true (str_ne_empty.mpr rfl)]; rfl) ?_
        refine iteFB rfl ?_
        exact ⟨_, rfl, _, rfl, _, rfl, (by show 3 ≤ sizeLine; decide), fun p hp => done (fun z => absurd z (Nat.lt_irrefl _)) p hp⟩
      · rw [List.concat_eq_append] at e
        subst e
        refine iteTB (by rw [decide_eq_false (fun z => by have := str_ne_empty.mp z; simp at this)]; rfl) ?_
        rcases List.eq_nil_or_concat r' with e | ⟨r0, c', e⟩
        · subst e
          exact absurd lr (by simp; omega)
        · rw [List.concat_eq_append] at e
          subst e
          refine ⟨_, rfl, _, rfl, _, _, _, rfl, rfl, ll, last_at l0 c, _, rfl, _, rfl, _, _, _, rfl, rfl, lrr, last_at r0 c', rfl, _, rfl, ?_⟩
          refine ite2 (fun z => ?_) (fun z => ?_)
          · have ec : c = c' := one_eq.mp (of_decide_eq_true z)
            subst ec
            have l1 : (S r0).length ≤ sizeLine := small_len (by simp at lr; omega)
            refine ⟨fun σ' H' => ∃ m', m' < (l0 ++ [c]).length ∧ _, fun σ' H' z => z, _, rfl, _, rfl, _, rfl, _, rfl, ll, _, rfl, _, rfl, _, _, _, rfl, rfl, lrr, last_at r0 c, _, rfl, _, rfl, _, rfl, _, rfl, lrr, _, _, rfl, rfl, ?_, (by show 2 ≤ sizeLine; decide), fun p hp => ?_⟩
            · rw [cut_last]
              show 1 + (S r0).length ≤ sizeLine
              rw [S_len]
              exact Nat.le_trans (show 1 + r0.length ≤ 1001 by simp at lr; omega) (by decide)
            · rw [cut_last, cut_last]
              refine ⟨p, _, rfl, SqT.of upd_same, rfl, _, _, rfl, _, _, rfl, rfl, l0.length, by simp, l0, c :: r0, rfl, ?_, fun b o e => by rw [upd_ne (ne_of_none (s2 b o e) hp)]; exact s2 b o e, by simpa using lr, fun i => (ev_less l0 r0 c i).trans (hev i), by simp at hl; omega, fun x hx => sub1 x (List.mem_append_left _ hx), fun x hx => sub2 x (by simp at hx ⊢; exact hx.symm)⟩
              have e : (⟨#[c]⟩ : Str) ++ S r0 = S (c :: r0) := S_cat [c] r0
              rw [← e]
              rfl
          · refine ⟨_, rfl, _, rfl, _, rfl, (by show 3 ≤ sizeLine; decide), fun p hp => done (fun _ y => z (decide_eq_true (one_eq.mpr ?_))) p hp⟩
            rw [last_getD, last_getD] at y
            exact y
end
end Vf

set_option Elab.async false
set_option maxRecDepth 100000
set_option maxHeartbeats 4000000
set_option exponentiation.threshold 3000
namespace Vf
open PySem L2 SX Vm
theorem pos_pull {b q : Int} (h0 : 0 ≤ q) (h1 : q < b) (h5 : b ≤ 5) : ∃ c : Nat, atI (("01234" : Str).cps.toList) q = some c ∧ 48 ≤ c ∧ (c : Int) < 48 + b := by
  rw [s01234]
  have : q = 0 ∨ q = 1 ∨ q = 2 ∨ q = 3 ∨ q = 4 := by omega
  rcases this with e | e | e | e | e <;> subst e <;> exact ⟨_, rfl, by decide, by omega⟩
theorem len5 : ("01234" : Str).length ≤ sizeLine := by decide +kernel
theorem S_one (c : Nat) (l : List Nat) : (⟨#[c]⟩ : Str) ++ S l = S (c :: l) := S_cat [c] l
theorem S_snoc (c : Nat) (l : List Nat) : S l ++ (⟨#[c]⟩ : Str) = S (l ++ [c]) := S_cat l [c]
/-- a drawn stream -/
def spLStream : Sp := fun vs H Q _ => ∃ (a : Addr) (d : Int × Int × Int) (base wide high : Int), vs = [.ref a, .int base, .int wide, .int high] ∧ H a = some (.lst (dieL d)) ∧ DieOk d ∧ d.2.2 ≤ 990000000 ∧ 2 ≤ base ∧ base ≤ 5 ∧ 1 ≤ wide ∧ wide ≤ 5000 ∧ 1 ≤ high ∧ high ≤ 100 ∧
  ∀ (r : Int) (h q : List Nat) (f : Nat → Nat) (d' : Int × Int × Int) (p : Addr) (H' : Hp), 0 ≤ r → r < wide → (h.length : Int) ≤ high → (q.length : Int) ≤ high → Nf f h q → IsW base h → IsW base q → DieOk d' → d'.2.2 ≤ d.2.2 + 3 + 2 * high →
    Kp a H H' → H' a = some (.lst (dieL d')) → H p = none → H' p = some (.tup [.int r, .str (S h), .str (S q)]) → Q (.ref p) H'
/-- the beginning of a stream -/
def spLBeg (K : PySem.W.Frag) : Sp := fun vs H Q _ => ∃ (p : Addr) (r : V) (h q : List Nat) (many : Nat), vs = [.ref p, .int (many : Int)] ∧ SqT K H p [r, .str (S h), .str (S q)] ∧ 0 < q.length ∧ q.length ≤ 1000 ∧ h.length ≤ 1000 ∧ many ≤ 2000 ∧
  Q (.str (S (beg h q (many / q.length + 1) many))) H
/-- the same stream told otherwise -/
def spOther : Sp := fun vs H Q _ => ∃ (a p : Addr) (d : Int × Int × Int) (r : V) (h q : List Nat), vs = [.ref a, .ref p] ∧ H a = some (.lst (dieL d)) ∧ DieOk d ∧ d.2.2 ≤ 990000000 ∧ H p = some (.tup [r, .str (S h), .str (S q)]) ∧ 0 < q.length ∧ q.length ≤ 100 ∧ h.length ≤ 100 ∧
  ∀ (h' q' : List Nat) (d' : Int × Int × Int) (p' : Addr) (H' : Hp), (∀ i, ev h' q' i = ev h q i) → 0 < q'.length → q'.length ≤ 300 → h'.length ≤ 110 → Sub h' (h ++ q) → Sub q' q → DieOk d' → d'.2.2 ≤ d.2.2 + 2 →
    Kp a H H' → H' a = some (.lst (dieL d')) → H p' = none → H' p' = some (.tup [r, .str (S h'), .str (S q')]) → Q (.ref p') H'
section
variable {P : Program} {w : World} {K : PySem.W.Frag} {mg : Str → Option Value} {base : Heap}
theorem scLStream : FnScope ["die", "base", "wide", "high", "root", "head"] ["die", "base", "wide", "high"] (defScope sLStream) := ⟨rfl, rfl, rfl, by decide +kernel, rfl, by decide +kernel, by decide +kernel⟩
theorem ok_lstream {f fP fW fN : Addr} {fd fdP fdW fdN : FuncData} (F : Fun K "_law_stream" "_law_stream" sLStream f fd) (GP : FnOk P w K mg base CX0 1 fP fdP ["die", "many"] spPull) (cP : Cal K mg "_law_pull" fP fdP ["die", "many"])
    (GW : FnOk P w K mg base CX0 2 fW fdW ["die", "base", "high"] spWord) (cW : Cal K mg "_law_word" fW fdW ["die", "base", "high"]) (GN : FnOk P w K mg base CX0 1 fN fdN ["root", "head", "period"] spLNormal) (cN : Cal K mg "_law_normal" fN fdN ["root", "head", "period"]) :
    FnOk P w K mg base CX0 3 f fd ["die", "base", "wide", "high"] spLStream := by
  refine F.ok scLStream (fun vs H Q E h => ?_) (fun cdv A outer s H vs Q E hr h => ?_)
  · obtain ⟨a, d, b, wi, hi, rfl, _⟩ := h
    rfl
  · obtain ⟨a, d, b, wi, hi, rfl, ha, hd, hc, b2, b5, w1, w5, h1, h5, k⟩ := h
    have nd := scLStream.nd
    have hr1 := hr.mono (show 1 ≤ 2 by decide)
    refine ⟨_, pss_cons (ps_par (i := 4) (j := 5) rfl nd rfl rfl (by decide) rfl rfl (pa_cons (pe_call GP hr1 rfl cP.mg cP.kp cP.b .nil pass0 (pa_cons (pv 0) (pa_cons (pv 2) pa_nil))) (pa_cons (pe_call GW hr rfl cW.mg cW.kp cW.b .nil pass0 (pa_cons (pv 0) (pa_cons (pv 1) (pa_cons (pv 3) pa_nil)))) pa_nil)) rfl)
      (pss_one (ps_ret (pe_call GN hr1 rfl cN.mg cN.kp cN.b .nil pass0 (pa_cons (pv 4) (pa_cons (pv 5) (pa_cons (pe_op op_add_str (pe_ix ix_str pe_str (pe_call GP hr1 rfl cP.mg cP.kp cP.b .nil pass0 (pa_cons (pv 0) (pa_cons (pv 1) pa_nil))) (fun _ _ => rfl))
        (pe_call GW hr rfl cW.mg cW.kp cW.b .nil pass0 (pa_cons (pv 0) (pa_cons (pv 1) (pa_cons (pe_op op_sub (pv 3) pe_int) pa_nil))))) pa_nil)))))), ?_⟩
    refine ⟨_, rfl, _, rfl, a, d, wi, rfl, ha, hd, w1, w5, by omega, fun r d1 hd1 hc1 r0 r1 => ?_⟩
    refine ⟨_, rfl, _, rfl, _, rfl, a, d1, b, hi, rfl, upd_same, hd1, by omega, b2, b5, by omega, h5, fun l d2 hd2 hc2 hw hl => ?_⟩
    rw [upd_upd']
    refine ⟨_, _, rfl, ?_⟩
    refine ⟨_, rfl, _, rfl, _, rfl, _, rfl, a, d2, b, rfl, upd_same, hd2, by omega, by omega, by omega, fun q d3 hd3 hc3 q0 q1 => ?_⟩
    obtain ⟨c, hc', c0, c1⟩ := pos_pull q0 q1 b5
    rw [upd_upd']
    refine ⟨_, q, c, rfl, rfl, len5, hc', ?_⟩
    refine ⟨_, rfl, _, rfl, _, rfl, _, _, rfl, rfl, a, d3, b, hi - 1, rfl, upd_same, hd3, by omega, b2, b5, by omega, by omega, fun l2 d4 hd4 hc4 hw2 hl2 => ?_⟩
    rw [upd_upd']
    refine ⟨_, _, rfl, rfl, ?_, ?_⟩
    · rw [S_len]
      show 1 + l2.length ≤ sizeLine
      exact Nat.le_trans (show 1 + l2.length ≤ 200 by omega) (by decide)
    · rw [S_one]
      refine ⟨.int r, l, c :: l2, rfl, by simp, by simp; omega, by omega, fun h' q' p H' nf hl' hq' sh sq sm np hp => ?_⟩
      have nap : p ≠ a := fun z => by rw [z, upd_same] at np; cases np
      have npH : H p = none := by rw [upd_ne nap] at np; exact np
      have wq : IsW b (c :: l2) := fun x hx => by
        rcases List.mem_cons.mp hx with e | e
        · rw [e]
          exact ⟨c0, c1⟩
        · exact hw2 x e
      refine k r h' q' _ d4 p H' r0 r1 (by omega) (by simp at hq'; omega) nf (hw.of sh) (wq.of sq) hd4 (by omega) (fun x o n e => sm x o (by rw [upd_ne n]; exact e)) (sm a _ upd_same) npH hp
theorem scLBeg : FnScope ["stream", "many", "root", "head", "period"] ["stream", "many"] (defScope sLBeg) := ⟨rfl, rfl, rfl, by decide +kernel, rfl, by decide +kernel, by decide +kernel⟩
theorem ok_lbeg {f : Addr} {fd : FuncData} (F : Fun K "_law_beginning" "_law_beginning" sLBeg f fd) (ml : mg "len" = none) : FnOk P w K mg base CX0 1 f fd ["stream", "many"] (spLBeg K) := by
  refine F.ok scLBeg (fun vs H Q E h => ?_) (fun cdv A outer s H vs Q E hr h => ?_)
  · obtain ⟨p, r, h, q, many, rfl, _⟩ := h
    rfl
  · obtain ⟨p, r, h, q, many, rfl, hp, h0, h1, h2, hm, k⟩ := h
    have nd := scLBeg.nd
    refine ⟨_, pss_cons (ps_asg (pv 0) (pg_tup rfl (pgs_cons (pg_name (i := 2) nd rfl (.inl rfl)) (pgs_cons (pg_name (i := 3) nd rfl (.inl rfl)) (pgs_cons (pg_name (i := 4) nd rfl (.inl rfl)) pgs_nil)))))
      (pss_one (ps_ret (pe_slice sl_str (pe_op op_add_str (pv 3) (pe_op op_mul_str (pv 4) (pe_op op_add (pe_op op_fdiv (pv 1) (pe_callB call_len_str (by rfl) ml boot_len (pa_cons (pv 4) pa_nil))) pe_int))) po_none (po_some (pv 1))))), ?_⟩
    refine ⟨_, rfl, p, _, rfl, hp, rfl, _, _, rfl, _, _, rfl, _, _, rfl, rfl, ?_⟩
    have hk : many / q.length + 1 ≤ 2001 := Nat.succ_le_succ (Nat.le_trans (Nat.div_le_self _ _) hm)
    have hmul : (many / q.length + 1) * q.length ≤ 3000 := by
      rw [Nat.succ_mul]
      have := Nat.div_mul_le_self many q.length
      omega
    have ek : ((many : Int) / ((S q).length : Int) + 1) = ((many / q.length + 1 : Nat) : Int) := by
      rw [S_len]
      rfl
    refine ⟨_, rfl, _, rfl, _, rfl, _, rfl, _, rfl, small_len h1, _, _, rfl, rfl, ⟨by rw [S_len]; omega, by rw [S_len]; omega⟩, _, _, rfl, rfl, q, many / q.length + 1, rfl, congrArg V.int ek, by omega, by omega, by omega, _, _, rfl, rfl, ?_, _, rfl, _, rfl, _, rfl, ?_, ?_⟩
    · rw [S_len, S_len, rep_len]
      exact Nat.le_trans (show h.length + (many / q.length + 1) * q.length ≤ 4000 by omega) (by decide)
    · rw [S_cat, S_len, List.length_append, rep_len]
      exact Nat.le_trans (show h.length + (many / q.length + 1) * q.length ≤ 4000 by omega) (by decide)
    · rw [S_cat, cut_take]
      · exact k
      · have := Nat.lt_div_mul_add (a := many) h0
        rw [List.length_append, rep_len, Nat.succ_mul]
        omega
theorem scOther : FnScope ["die", "stream", "root", "head", "period", "turn"] ["die", "stream"] (defScope sOther) := ⟨rfl, rfl, rfl, by decide +kernel, rfl, by decide +kernel, by decide +kernel⟩
theorem ok_other {f fP : Addr} {fd fdP : FuncData} (F : Fun K "_law_otherwise" "_law_otherwise" sOther f fd) (GP : FnOk P w K mg base CX0 1 fP fdP ["die", "many"] spPull) (cP : Cal K mg "_law_pull" fP fdP ["die", "many"]) (mr : mg "range" = none) :
    FnOk P w K mg base CX0 2 f fd ["die", "stream"] spOther := by
  refine F.ok scOther (fun vs H Q E h => ?_) (fun cdv A outer s H vs Q E hr h => ?_)
  · obtain ⟨a, p, d, r, h, q, rfl, _⟩ := h
    rfl
  · obtain ⟨a, p, d, r, h, q, rfl, ha, hd, hc, hp, h0, h1, h2, k⟩ := h
    have nd := scOther.nd
    refine ⟨_, pss_cons (ps_asg (pv 1) (pg_tup rfl (pgs_cons (pg_name (i := 2) nd rfl (.inl rfl)) (pgs_cons (pg_name (i := 3) nd rfl (.inl rfl)) (pgs_cons (pg_name (i := 4) nd rfl (.inl rfl)) pgs_nil)))))
      (pss_cons (ps_for PassesOwn.never rfl (pi_range1 rfl mr (pa_cons (pe_call GP hr rfl cP.mg cP.kp cP.b .nil pass0 (pa_cons (pv 0) (pa_cons pe_int pa_nil))) pa_nil)) (pg_name (i := 5) nd rfl (.inl rfl))
        (pss_one (ps_par (i := 3) (j := 4) rfl nd rfl rfl (by decide) rfl rfl (pa_cons (pe_op op_add_str (pv 3) (pe_ix ix_str (pv 4) pe_int (fun _ _ => rfl))) (pa_cons (pe_op op_add_str (pe_slice sl_str (pv 4) (po_some pe_int) po_none) (pe_ix ix_str (pv 4) pe_int (fun _ _ => rfl))) pa_nil)) rfl)))
      (pss_one (ps_ret (pe_tup (pa_cons (pv 2) (pa_cons (pv 3) (pa_cons (pe_op op_mul_str (pv 4) (pe_op op_add pe_int (pe_call GP hr rfl cP.mg cP.kp cP.b .nil pass0 (pa_cons (pv 0) (pa_cons pe_int pa_nil))))) pa_nil))))))), ?_⟩
    have npa : p ≠ a := fun z => by rw [z, ha] at hp; cases hp
    refine ⟨_, rfl, p, _, rfl, SqT.of hp, rfl, _, _, rfl, _, _, rfl, _, _, rfl, rfl, ?_⟩
    refine ⟨_, rfl, a, d, _, rfl, ha, hd, by decide, by decide, by omega, fun t d1 hd1 hc1 t0 t1 => ?_⟩
    refine ⟨t, rfl, by omega, by omega, for_range (n := t.toNat) (fun i σ H2 => ∃ (h' q' : List Nat) (u : Option V), σ = [some (.ref a), some (.ref p), some r, some (.str (S h')), some (.str (S q')), u] ∧ H2 = upd H a (.lst (dieL d1)) ∧ (∀ i, ev h' q' i = ev h q i) ∧ q'.length = q.length ∧ h'.length ≤ h.length + i ∧ Sub h' (h ++ q) ∧ Sub q' q) ?_ ?_ ?_⟩
    · exact ⟨h, q, none, rfl, rfl, fun _ => rfl, rfl, Nat.le_refl _, fun _ x => List.mem_append_left _ x, fun _ x => x⟩
    · rintro i σ H2 hi ⟨h', q', u, rfl, rfl, hev, lq, lh, s1, s2⟩
      cases q' with
      | nil => exact absurd lq (by simp; omega)
      | cons c r0 =>
        have lc : (S (c :: r0)).length ≤ sizeLine := small_len (by omega)
        have at0 : atI (S (c :: r0)).cps.toList 0 = some c := atI_nat (j := 0) rfl
        have e1 : cutS (S (c :: r0)) (some 1) none = S r0 := cut_drop (q := c :: r0) (s := 1) (by simp)
        refine ⟨_, rfl, _, rfl, _, _, _, rfl, rfl, lc, at0, _, _, rfl, rfl, ?_, _, rfl, _, rfl, _, rfl, lc, _, rfl, _, _, _, rfl, rfl, lc, at0, _, _, rfl, rfl, ?_, _, _, rfl, ?_⟩
        · rw [S_len]
          exact Nat.le_trans (show h'.length + 1 ≤ 1000 by omega) (by decide)
        · rw [e1, S_len]
          exact Nat.le_trans (show r0.length + 1 ≤ 1000 by simp at lq; omega) (by decide)
        · rw [e1, S_snoc, S_snoc]
          refine ⟨h' ++ [c], r0 ++ [c], _, rfl, rfl, fun j => (ev_less h' r0 c j).symm.trans (hev j), by simpa using lq, by simp; omega, fun x hx => ?_, fun x hx => ?_⟩
          · rcases List.mem_append.mp hx with e | e
            · exact s1 x e
            · rw [List.mem_singleton.mp e]
              exact List.mem_append_right _ (s2 c List.mem_cons_self)
          · rcases List.mem_append.mp hx with e | e
            · exact s2 x (List.mem_cons_of_mem _ e)
            · rw [List.mem_singleton.mp e]
              exact s2 c List.mem_cons_self
    · rintro σ H2 ⟨h', q', u, rfl, rfl, hev, lq, lh, s1, s2⟩
      refine ⟨_, rfl, _, rfl, _, rfl, _, rfl, a, d1, _, rfl, upd_same, hd1, by decide, by decide, by omega, fun m d2 hd2 hc2 m0 m1 => ?_⟩
      rw [upd_upd']
      have em : (1 + m) = ((1 + m.toNat : Nat) : Int) := by omega
      have lr : (1 + m.toNat) * q'.length ≤ 300 := by
        rw [lq]
        have : 1 + m.toNat ≤ 3 := by omega
        exact Nat.le_trans (Nat.mul_le_mul this h1) (by decide)
      refine ⟨_, _, rfl, rfl, q', 1 + m.toNat, rfl, congrArg V.int em, by omega, by omega, by omega, (by show 3 ≤ sizeLine; decide), fun p' hp' => ?_⟩
      have nap : p' ≠ a := fun z => by rw [z, upd_same] at hp'; cases hp'
      refine k h' ((List.replicate (1 + m.toNat) q').flatten) d2 p' _ (fun i => (ev_rep (by omega) i).trans (hev i)) (by rw [rep_len]; exact Nat.mul_pos (by omega) (by omega)) (by rw [rep_len]; exact lr) (by omega) s1 (fun x hx => ?_) hd2 (by omega) (fun x o n e => ?_) ?_ ?_ upd_same
      · obtain ⟨y, hy, hxy⟩ := List.mem_flatten.mp hx
        rw [(List.mem_replicate.mp hy).2] at hxy
        exact s2 x hxy
      · have hx : x ≠ p' := fun z => by rw [← z, upd_ne n, e] at hp'; cases hp'
        rw [upd_ne hx, upd_ne n]
        exact e
      · rw [upd_ne nap.symm, upd_same]
      · rw [upd_ne nap] at hp'
        exact hp'
end
end Vf


set_option Elab.async false
set_option maxRecDepth 100000
set_option maxHeartbeats 4000000
/-! An error class over IndexError whose __init__ calls that of its base and keeps a value. -/
namespace VNum
open PySem PySem.W PySem.Calls PyProof.Rows L2
def mainArgs : Arguments := defArgs (inClass (Vf.top 5) 0)
def mainBody : List Stmt := defBody (inClass (Vf.top 5) 0)
def mainScope : Scope := defScope (inClass (Vf.top 5) 0)
abbrev bmI : List Value := [.type "IndexError", .type "LookupError", .type "Exception", .type "BaseException", .type "object"]
/-- what the written part says of the class at C and of its __init__ at fI -/
structure NumTxt (P : Program) (K : Frag) (mg : Str → Option Value) (C fI : Addr) : Prop where
  gC : mg "InvalidNumber" = some (.ref C)
  noSuper : mg "super" = none
  cls : ∃ nm q N bs sn sub ab col dd k0 k1 k2 k3 k5, K.lookup C = some (excClassObj nm q C N bs bmI true sn sub ab col dd k0 k1 k2 k3 k5 "IndexError.__new__")
  sa : findIn K (.ref C) "__setattr__" = some (some (.builtin "object.__setattr__"))
  ga : findIn K (.ref C) "__getattribute__" = some (some (.builtin "BaseException.__getattribute__"))
  gg : findIn K (.ref C) "__getattr__" = some none
  ov : excOver K C bmI = true
  qi : excInitIn K C bmI "IndexError.__new__" = true
  tk : takerIn K C "value" = some none
  noV : findIn K (.ref C) "value" = some none
  hdC : hasDictIn K C = true
  iC : findIn K (.ref C) "__init__" = some (some (.ref fI))
  tC : typeIn K (.ref fI) = some (.type "function")
  any : nsIn K cStatics "thirdparty.any" = some none
  sup : ks_superIn K C C "__init__" = some (some (.builtin "IndexError.__init__"))
  sI : subIn K (.ref C) (.type "IndexError") = some true
  mro : mroIn K C (.ref C) = some true
  kC : keepIn K (.ref C) = true
  exC : subIn K (.ref C) (.type "BaseException") = some true
  tyC : typeIn K (.ref C) = some (.type "type")
  top : (P.main.scope.names.lookup ("super" : Str)).isSome = false
  fn : ∃ (oc : Value) (od : Option Addr) (doc pm : Value) (an : Option Addr) (cda cc : Addr) (ct : Value) (osl : Array (Option Value)) (vs : Array Value) (file : Str) (tf : Tok) (ccl : Value) (cdd : Option Addr) (ccs : Array (Option Value)) (cl : Value) (cld : Option Addr) (csl : Array (Option Value)),
    K.lookup fI = some ⟨oc, od, .func (ksFn "__init__" "InvalidNumber.__init__" mainArgs mainBody mainScope .none .none doc pm an (.ref cda) ct cc), osl⟩ ∧ codeIn K (.ref cda) "InvalidNumber.__init__" = true ∧
    K.lookup cda = some ⟨ccl, cdd, .fields vs, ccs⟩ ∧ vs[2]? = some (.str file tf) ∧ ((P.main.file : Str) == file) = true ∧ K.lookup cc = some ⟨cl, cld, .cell (some (.ref C)), csl⟩
/-- what __init__ leaves of a fresh exception at x -/
structure InitEnd (h h' : Heap) (x C dx t1 : Addr) (v : Value) : Prop where
  keep : ∀ b o, b ≠ x → h.get? b = some o → h'.get? b = some o
  obj : h'.get? x = some { cls := .ref C, dict := some dx, data := .fields #[.ref t1, .none, .none, .none, .bool false, .none] }
  dbig : h.objs.size ≤ dx
  dne : dx ≠ x
  ns : h'.Ns1 dx (fun y => if y = "value" then some v else none)
theorem ns1_one {h : Heap} {dx : Addr} {hs : Int} {t : Tok} {v : Value} {es : List DictEntry} {n : Nat} (e : (putL "value" hs (.str "value" t) v [], putN "value" [] 0) = (es, n)) (hd : h.get? dx = some (dictOf es n)) : h.Ns1 dx (fun y => if y = "value" then some v else none) := by
  obtain ⟨e1, e2⟩ := Prod.mk.inj e
  subst e1
  subst e2
  refine ⟨_, _, _, hd, rfl, ?_, ?_, fun name => ?_⟩
  · intro e he
    have he' : e ∈ [(⟨hs, .str "value" t, v⟩ : DictEntry)] := Array.mem_toList_iff.mpr he
    rw [List.mem_singleton.mp he']
    exact ⟨_, _, rfl⟩
  · exact List.pairwise_singleton _ _
  · show ((#[(⟨hs, .str "value" t, v⟩ : DictEntry)] : Array DictEntry).find? fun e => e.key.isStr name).map (·.val) = if name = "value" then some v else none
    by_cases hn : name = "value"
    · subst hn
      rw [if_pos rfl]
      simp [Value.isStr]
    · rw [if_neg hn]
      have : (("value" : Str) == name) = false := by simpa using (fun z => hn z.symm)
      simp [Value.isStr, this]
section
variable {P : Program} {w : World} {A : Around} {R : Result → Shared → Prop} {s : Shared} {K : Frag} {mg : Str → Option Value} {C fI : Addr}
theorem num_init (T : NumTxt P K mg C fI) {x t0 : Addr} {v : Value} (X : K.In s.heap) (hg : s.heap.Ns mainGlobals mg) {mb : Str → Option Value} (hb : s.heap.Ns builtinsNs mb) (hbb : ∀ x : Str, x ≠ "__name__" → mb x = bootBuiltins x) (hlim : s.heap.NoLimit)
    (hx : s.heap.get? x = some (HandSPX.excO C t0)) (hnx : K.lookup x = none) (hroom : A.depth < recursionLimit) (hq : ∀ h' tk dx t1, InitEnd s.heap h' x C dx t1 v → R (.ok (.ret .none)) { s with heap := h', toks := tk }) :
    codeAny (model P w) A (.call (.ref fI) ⟨[.ref x, v], []⟩) R s := by
  obtain ⟨oc, od, doc, pm, an, cda, cc, ct, osl, vs, file, tf, ccl, cdd, ccs, cl, cld, csl, ho, hcd, hco, hvs, hfile, hcell⟩ := T.fn
  obtain ⟨nm, q, N, bs, sn, sub, ab, col, dd, k0, k1, k2, k3, k5, hC⟩ := T.cls
  refine ks_codeAny_call_defAt (fd := ksFn "__init__" "InvalidNumber.__init__" mainArgs mainBody mainScope .none .none doc pm an (.ref cda) ct cc) (body := mainBody) (binds := [("self", .ref x), ("value", v)]) hroom (X _ _ ho) rfl hlim (codeRec_of X hcd) rfl (BindsTo.of_eq rfl) (show ∀ x ∈ mainScope.names, x.2 ≠ .cell by decide +kernel) (locs rfl) (fun h₁ hns hk₁ => ?_)
  have F0 : Fr (hideAll s.heap [x]) s.heap.objs.size h₁ (fun y => [(("self" : Str), Value.ref x), ("value", v)].reverse.lookup y) := ⟨hns, fun b o e => hk₁ b o (of_hideAll _ e), Nat.le_of_eq (hideAll_size _ _)⟩
  have N0 : News (hideAll s.heap [x]) s.heap.objs.size h₁ [(x, excObj C t0 none .none)] := fun p hp => by
    rw [List.mem_singleton.mp hp]
    exact ⟨hk₁ _ _ hx, Nat.ne_of_lt (Heap.lt_size hx), hideAll_none _ (List.mem_singleton_self _)⟩
  have X₀ : K.In (hideAll s.heap [x]) := fun b o e => hideAll_get _ (X b o e) (fun z => by rw [List.mem_singleton.mp z, hnx] at e; cases e)
  have X₁ : K.In h₁ := X.keeps hk₁
  refine ks_wpAt_execs_cons (ks_wpAt_Expr_any (ks_wpAt_MethodCall ?_))
  refine ks_wpAt_super_base (env := ksEnv "InvalidNumber.__init__" mainScope s.heap.objs.size fI (.ref cda) cc) rfl rfl (by decide +kernel) rfl (X₁ _ _ ho) rfl rfl rfl (X₁ _ _ hco) rfl hvs hfile T.top ?_
  refine ks_loadName_global rfl rfl (loadGlobal_builtin (env := ksEnv "InvalidNumber.__init__" mainScope s.heap.objs.size fI (.ref cda) cc) (hg.keeps hk₁) T.noSuper (hb.keeps hk₁) ((hbb _ (by decide +kernel)).trans (by decide +kernel)) ⟨rfl, ?_⟩)
  refine wpAny_loadName_free rfl rfl rfl ⟨_, X₁ _ _ hcell, rfl⟩ ?_
  refine wpAny_loadName_local rfl rfl hns rfl ?_
  refine ks_wpAny_isType_cls (X₁ _ _ hC) rfl ⟨rfl, ?_⟩
  have I1 : InstAt h₁ x (HandSPX.excO C t0) C none := ⟨hk₁ _ _ hx, rfl, rfl, trivial⟩
  refine ks_wpAny_call_super (X₁ _ _ hC) rfl I1.at_ I1.cls (fun c e => nomatch e) (looks_mroIn X₁ T.mro) (fun h₂ e2 k2 => ?_)
  obtain ⟨F2, N2, l2⟩ := ks_newsPush (s := { s with heap := h₁ }) F0 N0 rfl e2 k2
  refine kxs_method kxs_IndexError F2 X₀ N2 (List.Mem.head _) (InstAt.of_exc0 (t := t0) (c2 := .none) N2 (List.Mem.tail _ (List.Mem.head _))) T.any T.sup T.sI (by decide +kernel) (fun q3 h₃ F3 N3 l3 => ?_)
  refine kxs_callWith1 (i := "IndexError.__init__") (x := x) N3 (List.Mem.head _) ?_
  refine Calls.spliced_cons (Calls.Constant_str (k := 0) (pos := ⟨0, 0, 0, 0⟩) ?_)
  refine Calls.spliced_nil ⟨kxs_at N3 (List.Mem.head _), ?_⟩
  have n1 : x ≠ h₁.objs.size := Nat.ne_of_lt (Heap.lt_size I1.at_)
  have n2 : x ≠ q3 := Nat.ne_of_lt (l3 _ (List.Mem.tail _ (List.Mem.head _)))
  refine kxs_call F3 X₀ N3 PySem.F.excBase_IndexError T.qi (List.Mem.head _) (.tail (Ne.symm n2) (.tail (Ne.symm n1) (.head (fun p hp => by cases hp)))) (by show 1 ≤ sizeLine; decide) (fun t4 h₄ F4 N4 l4 => ?_)
  refine ks_wpAt_execs_cons (ks_wpAt_Assign_Attr ?_)
  refine wpAt_of_wpAny (wpAny_Name (wpAny_loadName_local rfl rfl F4.ns rfl (wpAny_Name (wpAny_loadName_local rfl rfl F4.ns rfl ?_) (by decide))) (by decide))
  obtain ⟨es, n, ee⟩ : ∃ es n, (putL "value" (PyData.keyHash w.params "value") (.str "value" (s.toks + 2 + 1 + 1 + 1)) v [], putN "value" [] 0) = (es, n) := ⟨_, _, rfl⟩
  refine set_exc0 PySem.F.store_IndexError F4 X₀ N4 (List.Mem.tail _ (List.Mem.tail _ (List.Mem.tail _ (List.Mem.head _)))) T.sa T.ov T.tk T.hdC ee (.tail ?_ (.tail (Ne.symm n2) (.tail (Ne.symm n1) (.head (fun p hp => by cases hp))))) ?_ (fun dx h₅ F5 N5 l5 => ?_)
  · exact Nat.ne_of_gt (l4 _ (List.Mem.tail _ (List.Mem.tail _ (List.Mem.head _))))
  · rw [← (Prod.mk.inj ee).1]
    show 1 ≤ 1000
    decide
  · have a1 : t4 < dx := l5 _ (List.Mem.head _)
    have a2 : x < dx := l5 _ (List.Mem.tail _ (List.Mem.tail _ (List.Mem.tail _ (List.Mem.head _))))
    have a3 : h₁.objs.size < t4 := l4 _ (List.Mem.tail _ (List.Mem.head _))
    have a4 : s.heap.objs.size < h₁.objs.size := hns.lt
    refine wpAt_of_wpAny (wpAny_execs_nil (hq h₅ _ dx t4 ⟨fun b o hb e => F5.keep b o (hideAll_get _ e (fun z => hb (List.mem_singleton.mp z))), ?_, Nat.le_of_lt (Nat.lt_trans a4 (Nat.lt_trans a3 a1)), Nat.ne_of_gt a2, ns1_one ee (N5 _ (List.Mem.head _)).1⟩))
    exact (N5 _ (List.Mem.tail _ (List.Mem.tail _ (List.Mem.tail _ (List.Mem.tail _ (List.Mem.head _)))))).1
/-- a made error -/
structure OwnMade (h h' : Heap) (e C d : Addr) (v : Value) : Prop where
  keep : ∀ b o, h.get? b = some o → h'.get? b = some o
  new : h.objs.size ≤ e
  obj : ∃ oe vs, h'.get? e = some oe ∧ oe.cls = .ref C ∧ oe.dict = some d ∧ oe.data = .fields vs ∧ vs[1]? = some .none
  dbig : h.objs.size ≤ d
  dne : d ≠ e
  ns : h'.Ns1 d (fun y => if y = "value" then some v else none)
theorem bmI_contains : ∀ X : String, bmI.contains (.type X) = bmI.contains (.type X) := fun _ => rfl
theorem num_made (T : NumTxt P K mg C fI) {v : Value} (X : K.In s.heap) (hg : s.heap.Ns mainGlobals mg) {mb : Str → Option Value} (hb : s.heap.Ns builtinsNs mb) (hbb : ∀ x : Str, x ≠ "__name__" → mb x = bootBuiltins x) (hlim : s.heap.NoLimit) (hroom : A.depth + 1 < recursionLimit)
    (hq : ∀ h' tk e d, OwnMade s.heap h' e C d v → R (.ok (.ret (.ref e))) { s with heap := h', toks := tk }) : codeAny (model P w) A (.call (.ref C) ⟨[v], []⟩) R s := by
  obtain ⟨nm, q, N, bs, sn, sub, ab, col, dd, k0, k1, k2, k3, k5, hC⟩ := T.cls
  obtain ⟨hp, g, dr, tk, os⟩ := s
  have k : ∀ b o, hp.get? b = some o → ((hp.push (kdv_tup [v])).push (HandSPX.excO C hp.objs.size)).get? b = some o := fun b o e => Heap.get?_push_of_some _ (Heap.get?_push_of_some _ e)
  have hget : ((hp.push (kdv_tup [v])).push (HandSPX.excO C hp.objs.size)).get? (hp.objs.size + 1) = some (HandSPX.excO C hp.objs.size) := by heap_get
  have hnx : K.lookup (hp.objs.size + 1) = none := by
    cases e : K.lookup (hp.objs.size + 1) with
    | none => rfl
    | some o =>
      have z : hp.get? (hp.objs.size + 1) = some o := X _ _ e
      exact absurd (Nat.lt_of_succ_lt (Heap.lt_size z)) (Nat.lt_irrefl _)
  refine HandSPX.call_own PySem.F.excBase_IndexError bmI_contains (X _ _ hC) (looks_findIn X T.iC) (fun self => bind_fn X self T.tC) (by show 1 ≤ sizeLine; decide) ?_
  refine num_init (s := ⟨(hp.push (kdv_tup [v])).push (HandSPX.excO C hp.objs.size), g, dr, tk, os⟩) T (X.keeps k) (hg.keeps k) (hb.keeps k) hbb (hlim.keeps k) hget hnx ?_ fun h' tk' dx t1 M => ?_
  · show A.depth + 1 < recursionLimit
    exact hroom
  · obtain ⟨k', hx, dn, dne, hns⟩ := M
    have old : ∀ b o, hp.get? b = some o → h'.get? b = some o := fun b o e => k' b o (Nat.ne_of_lt (Nat.lt_succ_of_lt (Heap.lt_size e))) (k b o e)
    have z : hp.objs.size + 1 + 1 ≤ dx := by
      first
        | (simpa only [Heap.size_push] using dn)
        | exact dn
    exact ⟨rfl, hq h' tk' (hp.objs.size + 1) dx ⟨old, Nat.le_succ _, ⟨_, _, hx, rfl, rfl, rfl, rfl⟩, Nat.le_trans (Nat.le_trans (Nat.le_succ _) (Nat.le_succ _)) z, dne, hns⟩⟩
end
end VNum
namespace VNum
open PySem PySem.Spec PyProof.Rows L2
theorem relO_num {v : V} {v' : Value} (r : RelV v v') (f : Str) : RelO (List.lookup f [(("value" : Str), v)]) (if f = "value" then some v' else none) := by
  by_cases hw : f = "value"
  · subst hw
    rw [if_pos rfl]
    have q : List.lookup ("value" : Str) [(("value" : Str), v)] = some v := by simp [List.lookup]
    rw [q]
    exact r
  · rw [if_neg hw]
    have qw : (f == ("value" : Str)) = false := by simpa using hw
    have q2 : List.lookup f [(("value" : Str), v)] = none := by simp [List.lookup, qw]
    rw [q2]
    trivial
section
variable {X : Cx} {C fI : Addr}
/-- InvalidNumber(e) -/
def tMkNum (C : Addr) (ta : TA) : L2.St → Hp → XK → Prop := fun σ H Q => ta σ H fun vs H1 => ∃ v, vs = [v] ∧ ∀ d, H1 d = none → Q (.ref C) (some d) (upd H1 d (.xd [(("value" : Str), v)]))
theorem pmk_num {a : Expr} {ta : TA} {p pos : Pos} {k : Nat} (T : NumTxt X.prog X.K X.mg C fI) (hr : Room k X.A) (ha : PA X [a] ta) (hg : Gl X "InvalidNumber" := by rfl)
    (he : starEach (a :: []) X.env = (false, eval a X.env) :: starEach [] X.env := by rfl) (hpl : (backTo pos (starEach [] X.env)).any (·.1) = false := by rfl) :
    PMk X (.Call (.Name "InvalidNumber" p) [a] [] pos) (tMkNum C ta) := by
  intro pins s σ H Q I h
  refine wpAny_Call_Name_kw (ld_glob I hg T.gC ?_)
  refine PySem.W.callWith_K (h₀ := X.base) I.ok.mod.kin T.kC (thn (ha.run pos pins s σ H _ I h) fun us s1 hh => ?_) he hpl
  obtain ⟨vs, H1, I1, r1, v, ev, q1⟩ := hh
  subst ev
  refine ⟨I1.kIn, ?_⟩
  cases r1 with
  | cons rv rn =>
    rename_i v' us'
    cases rn
    show wpAny _ _ (call (.ref C) [v']) _ _ _
    have hlim := I1.nolimit
    have hG := I1.mod.glob.keeps I1.bk
    obtain ⟨mb, hB, hbb⟩ := I1.mod.blt
    have hB' := hB.keeps I1.bk
    obtain ⟨hp, g, dr, tk, os⟩ := s1
    refine wpAny_call (num_made T I1.kIn hG hB' hbb hlim (by have := hr.dp; omega) fun h' tk' e d M => ?_)
    show MkP X pins σ Q (.ref e) ⟨h', g, dr, tk', os⟩
    obtain ⟨oe, fv, hoe, hc, hd, hdat, h1⟩ := M.obj
    have hns := M.ns
    obtain ⟨G', g1, g2⟩ := restrict h' fun b => decide (b ≠ e)
    have gk : ∀ b, b ≠ e → G'.get? b = h'.get? b := fun b hb => g1 b (decide_eq_true hb)
    have ge : G'.get? e = none := g2 e (by simp)
    have old : ∀ b o, hp.get? b = some o → G'.get? b = some o := fun b o q => (gk b (Nat.ne_of_lt (Nat.lt_of_lt_of_le (Heap.lt_size q) M.new))).trans (M.keep b o q)
    have ob : ObjOk X.prog X.w (upd H1 d (.xd [(("value" : Str), v)])) G' d (.xd [(("value" : Str), v)]) :=
      ⟨_, hns.at (fun o q => (gk d M.dne).trans q), fun f => relO_num rv f⟩
    have J : Inv X pins σ (upd H1 d (.xd [(("value" : Str), v)])) ⟨G', g, dr, tk', os⟩ := I1.laid (t' := tk') old M.dbig ob
    refine ⟨e, oe, fv, ⟨G', g, dr, tk', os⟩, _, .ref C, some d, rfl, J, fun b o q => ?_, ge, hoe, ⟨hc, hd⟩, hdat, h1, ?_, rfl, I1.bare, raises_own T.exC T.tyC, q1 d (I1.hok.fresh M.dbig)⟩
    · by_cases hb : b = e
      · have q' : G'.get? b = some o := q
        rw [hb, ge] at q'; cases q'
      · exact (gk b hb).symm.trans q
    · rw [upd_ne (Ne.symm M.dne)]
      exact I1.hok.fresh M.new
end
end VNum


set_option Elab.async false
set_option maxRecDepth 100000
set_option maxHeartbeats 4000000
set_option exponentiation.threshold 3000
namespace Vf
open PySem L2 SX Vm
open PySem.Builtin.Str PySem.StrLaws
/-- a plain value, and its class -/
inductive Pl (H : Hp) : V → Value → Prop where
  | non : Pl H .non (.type "NoneType")
  | bl (b : Bool) : Pl H (.bl b) (.type "bool")
  | int (n : Int) : Pl H (.int n) (.type "int")
  | str (s : Str) (h : s.length ≤ 1000) : Pl H (.str s) (.type "str")
  | lst {p : Addr} {xs : List V} (h : H p = some (.lst xs)) : Pl H (.ref p) (.type "list")
  | tup {p : Addr} {xs : List V} (h : H p = some (.tup xs)) : Pl H (.ref p) (.type "tuple")
  | dct {p : Addr} {kvs : List (Key × V)} (h : H p = some (.dK kvs)) : Pl H (.ref p) (.type "dict")
theorem Pl.tyx {K : PySem.W.Frag} {H : Hp} {v : V} {t : Value} (p : Pl H v t) : TyX K H v t := by
  cases p with
  | non => exact .base .non
  | bl b => exact .base (.bl b)
  | int n => exact .base (.int n)
  | str s _ => exact .base (.str s)
  | lst h => exact .base (.lst h)
  | tup h => exact .base (.tup h)
  | dct h => exact .base (.dK h)
theorem Pl.same {H H' : Hp} {v : V} {t : Value} (p : Pl H v t) (s : ∀ b o, H b = some o → (∃ xs, o = .lst xs ∨ o = .tup xs) ∨ (∃ kvs, o = .dK kvs) → H' b = some o) : Pl H' v t := by
  cases p with
  | non => exact .non
  | bl b => exact .bl b
  | int n => exact .int n
  | str x h => exact .str x h
  | lst h => exact .lst (s _ _ h (.inl ⟨_, .inl rfl⟩))
  | tup h => exact .tup (s _ _ h (.inl ⟨_, .inr rfl⟩))
  | dct h => exact .dct (s _ _ h (.inr ⟨_, rfl⟩))
def isIntV : V → Bool
  | .int _ => true
  | _ => false
def withinV (lo hi : Int) : V → Bool
  | .int n => decide (lo ≤ n) && decide (n ≤ hi)
  | _ => false
/-- the digits of a base -/
def digs (b : Nat) : List Nat := [48, 49, 50, 51, 52].take b
def wordV (b : Nat) : V → Bool
  | .str s => s.cps.toList.all fun c => decide (48 ≤ c) && decide (c < 48 + b)
  | _ => false
theorem strip_empty (l ds : List Nat) : (Txt.stripChars (S l) (S ds) = ("" : Str)) ↔ ∀ c ∈ l, c ∈ ds := by
  rw [str_empty]
  unfold Txt.stripChars
  rw [PyProof.Rows.stripBy_eq]
  obtain ⟨a1, a2, a3⟩ := PyProof.Rows.lo_facts (S ds).cps.contains (S l)
  obtain ⟨b1, b2, b3, b4⟩ := PyProof.Rows.hi_facts (S ds).cps.contains (S l) _ a1
  generalize stripLo (S ds).cps.contains true (S l) = lo at *
  generalize stripHi (S ds).cps.contains true (S l) lo = hi at *
  have gd : ∀ k, k < l.length → (S l).cps.getD k 0 ∈ l := fun k hk => by
    have : (S l).cps.getD k 0 = l[k] := by simp [Array.getD, hk]
    rw [this]
    exact List.getElem_mem hk
  have gc : ∀ c, (S ds).cps.contains c = true ↔ c ∈ ds := fun c => by simp
  rw [S_len] at a1 a3 b2 b3
  constructor
  · intro e
    have sz : hi - lo = 0 := by
      have z := congrArg (fun s : Str => s.cps.size) e
      have z' : hi - lo = 0 ∨ l.length - lo = 0 := by simpa [strSub] using z
      omega
    intro c hc
    obtain ⟨k, hk, rfl⟩ := List.getElem_of_mem hc
    have gk : (S l).cps.getD k 0 = l[k] := by simp [Array.getD, hk]
    rw [← gc, ← gk]
    rcases Nat.lt_or_ge k lo with h | h
    · exact a2 k h
    · exact b3 k (by omega) hk
  · intro e
    have lo_l : lo = l.length := by
      rcases a3 with h | h
      · exact h
      · refine Classical.byContradiction fun hn => ?_
        have hlt : lo < l.length := by omega
        have z := (gc _).mpr (e _ (gd lo hlt))
        rw [z] at h
        cases h
    have : hi = l.length := by omega
    rw [this, lo_l]
    show Str.mk _ = Str.mk _
    simp
theorem digs_mem {b c : Nat} (h5 : b ≤ 5) : c ∈ digs b ↔ 48 ≤ c ∧ c < 48 + b := by
  unfold digs
  have : b = 0 ∨ b = 1 ∨ b = 2 ∨ b = 3 ∨ b = 4 ∨ b = 5 := by omega
  rcases this with e | e | e | e | e | e <;> subst e <;> simp <;> omega
theorem word_strip (s : Str) {b : Nat} (h5 : b ≤ 5) : decide (V.str (Txt.stripChars s (S (digs b))) = V.str ("" : Str)) = wordV b (.str s) := by
  have e : s = S s.cps.toList := (S_tl s).symm
  have key := strip_empty s.cps.toList (digs b)
  rw [← e] at key
  show _ = s.cps.toList.all fun c => decide (48 ≤ c) && decide (c < 48 + b)
  by_cases h : ∀ c ∈ s.cps.toList, c ∈ digs b
  · rw [key.mpr h, decide_eq_true rfl]
    symm
    rw [List.all_eq_true]
    intro c hc
    have := (digs_mem h5).mp (h c hc)
    simp [this.1, this.2]
  · rw [decide_eq_false (fun z => h (key.mp (V.str.inj z)))]
    symm
    rw [List.all_eq_false]
    obtain ⟨c, hc⟩ := Classical.not_forall.mp h
    obtain ⟨h1, h2⟩ := Classical.not_imp.mp hc
    refine ⟨c, h1, fun z => h2 ((digs_mem h5).mpr ?_)⟩
    simpa using z
/-- names that the module has not taken, and its constants -/
structure Nm (mg : Str → Option Value) : Prop where
  isinst : mg "isinstance" = none
  int : mg "int" = none
  bool : mg "bool" = none
  str : mg "str" = none
  tuple : mg "tuple" = none
  len : mg "len" = none
  minB : ∃ t, mg "MIN_BASE" = some (.int 2 t)
  maxB : ∃ t, mg "MAX_BASE" = some (.int 5 t)
  maxR : ∃ t, mg "MAX_ROOTS" = some (.int 5000 t)
  dig : ∃ t, mg "DIGITS" = some (.str "01234" t)
def spIsInt : Sp := fun vs H Q _ => ∃ (v : V) (t : Value), vs = [v] ∧ Pl H v t ∧ Q (.bl (isIntV v)) H
def spWithin : Sp := fun vs H Q _ => ∃ (lo hi : Int) (v : V) (t : Value), vs = [.int lo, .int hi, v] ∧ Pl H v t ∧ Q (.bl (withinV lo hi v)) H
def spReqNum (C : Addr) : Sp := fun vs H Q E => ∃ (lo hi : Int) (v : V) (t : Value), vs = [.int lo, .int hi, v] ∧ Pl H v t ∧ (withinV lo hi v = true → Q .non H) ∧ (withinV lo hi v = false → ∀ d, H d = none → E (.ref C) (some d) (upd H d (.xd [(("value" : Str), v)])))
def spReqB (C : Addr) (lo hi : Int) : Sp := fun vs H Q E => ∃ (v : V) (t : Value), vs = [v] ∧ Pl H v t ∧ (withinV lo hi v = true → Q .non H) ∧ (withinV lo hi v = false → ∀ d, H d = none → E (.ref C) (some d) (upd H d (.xd [(("value" : Str), v)])))
def spWordForm : Sp := fun vs H Q _ => ∃ (b : Nat) (v : V) (t : Value), vs = [.int (b : Int), v] ∧ 2 ≤ b ∧ b ≤ 5 ∧ Pl H v t ∧ Q (.bl (wordV b v)) H
section
variable {P : Program} {w : World} {K : PySem.W.Frag} {mg : Str → Option Value} {base : Heap}
theorem scIsInt : FnScope ["value"] ["value"] (defScope sIsInt) := ⟨rfl, rfl, rfl, by decide +kernel, rfl, by decide +kernel, by decide +kernel⟩
theorem kit_int {H : Hp} {v : V} {t : Value} (p : Pl H v t) : ∃ b1 b2, PySem.W.kitOne K t (.type "int") = some b1 ∧ PySem.W.kitOne K t (.type "bool") = some b2 ∧ (b1 && !b2) = isIntV v := by
  cases p with
  | non => exact ⟨false, false, kit_ty (by decide +kernel), kit_ty (by decide +kernel), rfl⟩
  | bl b => exact ⟨true, true, kit_ty (by decide +kernel), kit_ty (by decide +kernel), rfl⟩
  | int n => exact ⟨true, false, kit_ty (by decide +kernel), kit_ty (by decide +kernel), rfl⟩
  | str s => exact ⟨false, false, kit_ty (by decide +kernel), kit_ty (by decide +kernel), rfl⟩
  | lst h => exact ⟨false, false, kit_ty (by decide +kernel), kit_ty (by decide +kernel), rfl⟩
  | tup h => exact ⟨false, false, kit_ty (by decide +kernel), kit_ty (by decide +kernel), rfl⟩
  | dct h => exact ⟨false, false, kit_ty (by decide +kernel), kit_ty (by decide +kernel), rfl⟩
theorem ok_isint {f : Addr} {fd : FuncData} (F : Fun K "is_integer" "is_integer" sIsInt f fd) (N : Nm mg) : FnOk P w K mg base CX0 1 f fd ["value"] spIsInt := by
  refine F.ok scIsInt (fun vs H Q E h => ?_) (fun cdv A outer s H vs Q E hr h => ?_)
  · obtain ⟨v, t, rfl, _⟩ := h
    rfl
  · obtain ⟨v, t, rfl, pl, k⟩ := h
    refine ⟨_, pss_one (ps_ret (pe_and (pe_callB call_isi (by rfl) N.isinst PyProof.Rows.boot_isinstance (pa_cons (pv 0) (pa_cons (pe_bltn (v := .ty "int") (by rfl) N.int PyProof.Rows.boot_int rfl) pa_nil)))
      (pe_one (pe_not (pe_callB call_isi (by rfl) N.isinst PyProof.Rows.boot_isinstance (pa_cons (pv 0) (pa_cons (pe_bltn (v := .ty "bool") (by rfl) N.bool PyProof.Rows.boot_bool rfl) pa_nil))))))), ?_⟩
    obtain ⟨b1, b2, e1, e2, e3⟩ := kit_int (K := K) pl
    refine ⟨_, rfl, _, _, _, _, b1, rfl, .ty "int", pl.tyx, e1, _, rfl, ?_⟩
    cases b1 with
    | false =>
      refine iteF ?_
      rw [← e3] at k
      exact k
    | true =>
      refine iteT ?_
      refine ⟨_, rfl, _, _, _, _, b2, rfl, .ty "bool", pl.tyx, e2, _, rfl, ?_⟩
      rw [← e3] at k
      exact k
theorem scWithin : FnScope ["low", "high", "value"] ["low", "high", "value"] (defScope sWithin) := ⟨rfl, rfl, rfl, by decide +kernel, rfl, by decide +kernel, by decide +kernel⟩
theorem ok_within {f fI : Addr} {fd fdI : FuncData} (F : Fun K "is_integer_within" "is_integer_within" sWithin f fd) (GI : FnOk P w K mg base CX0 1 fI fdI ["value"] spIsInt) (cI : Cal K mg "is_integer" fI fdI ["value"]) : FnOk P w K mg base CX0 2 f fd ["low", "high", "value"] spWithin := by
  refine F.ok scWithin (fun vs H Q E h => ?_) (fun cdv A outer s H vs Q E hr h => ?_)
  · obtain ⟨lo, hi, v, t, rfl, _⟩ := h
    rfl
  · obtain ⟨lo, hi, v, t, rfl, pl, k⟩ := h
    refine ⟨_, pss_one (ps_ret (pe_and (pe_call GI hr rfl cI.mg cI.kp cI.b .nil pass0 (pa_cons (pv 2) pa_nil)) (pe_one (pe_chain op_le op_le (pv 0) (pv 2) (pv 1))))), ?_⟩
    refine ⟨_, rfl, v, t, rfl, pl, _, rfl, ?_⟩
    cases v with
    | int n =>
      refine iteT ?_
      refine ⟨_, rfl, _, rfl, _, _, rfl, rfl, _, rfl, ?_⟩
      by_cases h1 : lo ≤ n
      · refine iteTB (decide_eq_true h1) ?_
        refine ⟨_, rfl, _, _, rfl, rfl, ?_⟩
        have e : withinV lo hi (.int n) = decide (n ≤ hi) := by
          show (decide (lo ≤ n) && decide (n ≤ hi)) = _
          rw [decide_eq_true h1, Bool.true_and]
        rw [e] at k
        exact k
      · refine iteFB (decide_eq_false h1) ?_
        have e : withinV lo hi (.int n) = false := by
          show (decide (lo ≤ n) && decide (n ≤ hi)) = _
          rw [decide_eq_false h1, Bool.false_and]
        rw [e] at k
        exact k
    | _ => exact iteF k
theorem scReqNum : FnScope ["low", "high", "number"] ["low", "high", "number"] (defScope sReqNum) := ⟨rfl, rfl, rfl, by decide +kernel, rfl, by decide +kernel, by decide +kernel⟩
theorem ok_reqnum {f fI C fC : Addr} {fd fdI : FuncData} (F : Fun K "require_number" "require_number" sReqNum f fd) (GI : FnOk P w K mg base CX0 2 fI fdI ["low", "high", "value"] spWithin) (cI : Cal K mg "is_integer_within" fI fdI ["low", "high", "value"])
    (T : VNum.NumTxt P K mg C fC) : FnOk P w K mg base (L2.CX P w) 3 f fd ["low", "high", "number"] (spReqNum C) := by
  refine F.okX scReqNum (fun vs H Q E h => ?_) (fun cdv A outer s H vs Q E hr h => ?_)
  · obtain ⟨lo, hi, v, t, rfl, _⟩ := h
    rfl
  · obtain ⟨lo, hi, v, t, rfl, pl, k1, k2⟩ := h
    refine ⟨_, pss_one (ps_if (pt_not (pt_val (pe_call GI hr rfl cI.mg cI.kp cI.b .nil pass0 (pa_cons (pv 0) (pa_cons (pv 1) (pa_cons (pv 2) pa_nil))))))
      (pss_one (ps_raise rfl (takes_of rfl rfl rfl rfl) (VNum.pmk_num T hr (pa_cons (pv 2) pa_nil)))) pss_nil), ?_⟩
    refine ⟨_, rfl, _, rfl, _, rfl, lo, hi, v, t, rfl, pl, _, rfl, ?_⟩
    cases e : withinV lo hi v with
    | true => exact iteF (k1 e)
    | false =>
      refine iteT ?_
      exact ⟨_, rfl, v, rfl, fun d hd => k2 e d hd⟩
theorem scReqBase : FnScope ["base"] ["base"] (defScope sReqBase) := ⟨rfl, rfl, rfl, by decide +kernel, rfl, by decide +kernel, by decide +kernel⟩
theorem ok_reqbase {f fN C : Addr} {fd fdN : FuncData} (F : Fun K "require_base" "require_base" sReqBase f fd) (GN : FnOk P w K mg base (L2.CX P w) 3 fN fdN ["low", "high", "number"] (spReqNum C)) (cN : Cal K mg "require_number" fN fdN ["low", "high", "number"]) (N : Nm mg) :
    FnOk P w K mg base (L2.CX P w) 4 f fd ["base"] (spReqB C 2 5) := by
  refine F.okX scReqBase (fun vs H Q E h => ?_) (fun cdv A outer s H vs Q E hr h => ?_)
  · obtain ⟨v, t, rfl, _⟩ := h
    rfl
  · obtain ⟨v, t, rfl, pl, k1, k2⟩ := h
    obtain ⟨t1, m1⟩ := N.minB
    obtain ⟨t2, m2⟩ := N.maxB
    refine ⟨_, pss_one (ps_expr (pe_call GN hr rfl cN.mg cN.kp cN.b .nil (passes_call (takes_of rfl rfl rfl rfl) (fun _ _ _ _ h => h)) (pa_cons (pe_glob (v := .int 2) rfl m1 ⟨_, rfl⟩) (pa_cons (pe_glob (v := .int 5) rfl m2 ⟨_, rfl⟩) (pa_cons (pv 0) pa_nil))))), ?_⟩
    exact ⟨_, rfl, 2, 5, v, t, rfl, pl, k1, k2⟩
theorem scReqRoots : FnScope ["roots"] ["roots"] (defScope sReqRoots) := ⟨rfl, rfl, rfl, by decide +kernel, rfl, by decide +kernel, by decide +kernel⟩
theorem ok_reqroots {f fN C : Addr} {fd fdN : FuncData} (F : Fun K "require_roots" "require_roots" sReqRoots f fd) (GN : FnOk P w K mg base (L2.CX P w) 3 fN fdN ["low", "high", "number"] (spReqNum C)) (cN : Cal K mg "require_number" fN fdN ["low", "high", "number"]) (N : Nm mg) :
    FnOk P w K mg base (L2.CX P w) 4 f fd ["roots"] (spReqB C 1 5000) := by
  refine F.okX scReqRoots (fun vs H Q E h => ?_) (fun cdv A outer s H vs Q E hr h => ?_)
  · obtain ⟨v, t, rfl, _⟩ := h
    rfl
  · obtain ⟨v, t, rfl, pl, k1, k2⟩ := h
    obtain ⟨t2, m2⟩ := N.maxR
    refine ⟨_, pss_one (ps_expr (pe_call GN hr rfl cN.mg cN.kp cN.b .nil (passes_call (takes_of rfl rfl rfl rfl) (fun _ _ _ _ h => h)) (pa_cons pe_int (pa_cons (pe_glob (v := .int 5000) rfl m2 ⟨_, rfl⟩) (pa_cons (pv 0) pa_nil))))), ?_⟩
    exact ⟨_, rfl, 1, 5000, v, t, rfl, pl, k1, k2⟩
theorem scWordForm : FnScope ["base", "value"] ["base", "value"] (defScope sWordForm) := ⟨rfl, rfl, rfl, by decide +kernel, rfl, by decide +kernel, by decide +kernel⟩
theorem kit_str {H : Hp} {v : V} {t : Value} (p : Pl H v t) : (∃ s, v = .str s ∧ s.length ≤ 1000 ∧ PySem.W.kitOne K t (.type "str") = some true) ∨ (PySem.W.kitOne K t (.type "str") = some false ∧ ∀ b, wordV b v = false) := by
  cases p with
  | str s h => exact .inl ⟨s, rfl, h, kit_ty (by decide +kernel)⟩
  | _ => exact .inr ⟨kit_ty (by decide +kernel), fun _ => rfl⟩
theorem ok_wordform {f : Addr} {fd : FuncData} (F : Fun K "has_word_form" "has_word_form" sWordForm f fd) (N : Nm mg) : FnOk P w K mg base CX0 1 f fd ["base", "value"] spWordForm := by
  refine F.ok scWordForm (fun vs H Q E h => ?_) (fun cdv A outer s H vs Q E hr h => ?_)
  · obtain ⟨b, v, t, rfl, _⟩ := h
    rfl
  · obtain ⟨b, v, t, rfl, b2, b5, pl, k⟩ := h
    obtain ⟨td, md⟩ := N.dig
    refine ⟨_, pss_one (ps_ret (pe_and (pe_callB call_isi (by rfl) N.isinst PyProof.Rows.boot_isinstance (pa_cons (pv 1) (pa_cons (pe_bltn (v := .ty "str") (by rfl) N.str PyProof.Rows.boot_str rfl) pa_nil)))
      (pe_one (pe_cmpR op_eq (pe_bm PySem.F.plainAttrs_str PySem.F.slot_str_strip PySem.F.type_str_strip mt_stripChars (pv 1) (pa_cons (pe_slice sl_str (pe_glob (v := .str "01234") rfl md ⟨_, rfl⟩) po_none (po_some (pv 0))) pa_nil)) pe_str (nomark _))))), ?_⟩
    have ed : cutS ("01234" : Str) none (some (b : Int)) = S (digs b) := by
      rw [s01234, cut_take (by simpa using b5)]
      rfl
    rcases kit_str (K := K) pl with ⟨s1, rfl, hs, e⟩ | ⟨e, hw⟩
    · refine ⟨_, rfl, _, _, _, _, true, rfl, .ty "str", pl.tyx, e, _, rfl, ?_⟩
      refine iteT ?_
      refine ⟨_, rfl, rfl, _, rfl, _, rfl, _, rfl, len5, _, _, rfl, rfl, Nat.le_trans hs (by decide), rfl, ?_⟩
      rw [ed, word_strip s1 b5]
      exact k
    · refine ⟨_, rfl, _, _, _, _, false, rfl, .ty "str", pl.tyx, e, _, rfl, ?_⟩
      rw [hw] at k
      exact iteF k
end
end Vf


set_option Elab.async false
set_option maxRecDepth 100000
set_option maxHeartbeats 4000000
set_option exponentiation.threshold 3000
namespace Vf
open PySem L2 SX Vm
open PySem.Builtin.Str PySem.StrLaws
theorem nf_least {f : Nat → Nat} {h q : List Nat} {s : Nat} (n : Nf f h q) (l : Least q s) : s = q.length := by
  rcases Nat.lt_or_ge s q.length with hlt | hge
  · refine absurd (fun i hi => ?_) (n.prim s h.length l.pos hlt)
    rw [← n.is, ← n.is, ev_ge (by omega), ev_ge hi, show i + s - h.length = i - h.length + s by omega]
    exact l.per _
  · exact Nat.le_antisymm (l.le n.ne) hge
theorem nf_ends {f : Nat → Nat} {h q : List Nat} (n : Nf f h q) : Txt.endswith (S h) ⟨#[q.getD (q.length - 1) 0]⟩ = false := by
  have hq := n.ne
  unfold Txt.endswith
  rw [Bool.and_eq_false_iff]
  by_cases h0 : h.length = 0
  · left
    have e : h = [] := List.length_eq_zero_iff.mp h0
    subst e
    rfl
  · right
    refine Bool.eq_false_iff.mpr fun z => ?_
    have key := (subAt_one (S h) (q.getD (q.length - 1) 0) (h.length - 1)).mp ⟨by rw [S_len]; show h.length - 1 + 1 ≤ h.length; omega, by rw [S_len] at z; exact z⟩
    refine n.trim (by omega) ?_
    rw [← n.is, ← n.is, ev_lt (show h.length - 1 < h.length by omega), ev_ge (show h.length ≤ h.length - 1 + q.length by omega), show h.length - 1 + q.length - h.length = q.length - 1 by omega, g_lt (show q.length - 1 < q.length by omega)]
    have key' : h[h.length - 1]? = some (q.getD (q.length - 1) 0) := key
    rw [show h.getD (h.length - 1) 0 = h[h.length - 1]?.getD 0 from List.getD_eq_getElem?_getD, key']
    rfl
theorem wordV_of {b : Nat} {l : List Nat} (w : IsW (b : Int) l) : wordV b (.str (S l)) = true := by
  show l.all _ = true
  rw [List.all_eq_true]
  intro c hc
  obtain ⟨h1, h2⟩ := w c hc
  have h2' : c < 48 + b := by omega
  simp [h1, h2']
theorem of_wordV {b : Nat} {s : Str} (w : wordV b (.str s) = true) : IsW (b : Int) s.cps.toList := fun c hc => by
  have z := (List.all_eq_true.mp (show s.cps.toList.all _ = true from w)) c hc
  simp at z
  omega
/-- has_stream_form of a stream in normal form -/
def spStreamForm : Sp := fun vs H Q _ => ∃ (b : Nat) (R r : Int) (p : Addr) (h q : List Nat) (f : Nat → Nat), vs = [.int (b : Int), .int R, .ref p] ∧ 2 ≤ b ∧ b ≤ 5 ∧ 0 ≤ r ∧ r ≤ R - 1 ∧ H p = some (.tup [.int r, .str (S h), .str (S q)]) ∧ Nf f h q ∧ h.length ≤ 1000 ∧ q.length ≤ 1000 ∧ IsW b h ∧ IsW b q ∧ Q (.bl true) H
def spIsStream : Sp := fun vs H Q _ => ∃ (b : Nat) (R r : Int) (p : Addr) (h q : List Nat) (f : Nat → Nat), vs = [.int (b : Int), .int R, .ref p] ∧ 2 ≤ b ∧ b ≤ 5 ∧ 1 ≤ R ∧ R ≤ 5000 ∧ 0 ≤ r ∧ r ≤ R - 1 ∧ H p = some (.tup [.int r, .str (S h), .str (S q)]) ∧ Nf f h q ∧ h.length ≤ 1000 ∧ q.length ≤ 1000 ∧ IsW b h ∧ IsW b q ∧ Q (.bl true) H
/-- make_stream, with its errors -/
def spMake (CN CS : Addr) : Sp := fun vs H Q E => ∃ (b r h q : V) (tb tr th tq : Value), vs = [b, r, h, q] ∧ Pl H b tb ∧ Pl H r tr ∧ Pl H h th ∧ Pl H q tq ∧
  (withinV 2 5 b = false → ∀ d, H d = none → E (.ref CN) (some d) (upd H d (.xd [(("value" : Str), b)]))) ∧
  ∀ n : Nat, b = .int (n : Int) → 2 ≤ n → n ≤ 5 → ((withinV 0 4999 r && wordV n h) = false → E (.ref CS) none H) ∧ ((withinV 0 4999 r && wordV n h) = true →
    (wordV n q = false ∨ q = .str "" → E (.ref CS) none H) ∧
    ∀ h1 q1 : List Nat, h = .str (S h1) → q = .str (S q1) → 0 < q1.length → IsW n q1 → ∀ (h' q' : List Nat) (p : Addr), Nf (ev h1 q1) h' q' → h'.length ≤ h1.length → q'.length ≤ q1.length → Sub h' h1 → Sub q' q1 → H p = none → Q (.ref p) (upd H p (.tup [r, .str (S h'), .str (S q')])))
section
variable {P : Program} {w : World} {K : PySem.W.Frag} {mg : Str → Option Value} {base : Heap}
theorem scStreamForm : FnScope ["base", "roots", "value", "_", "head", "period"] ["base", "roots", "value"] (defScope sStreamForm) := ⟨rfl, rfl, rfl, by decide +kernel, rfl, by decide +kernel, by decide +kernel⟩
theorem ok_streamform {f fI fW fS : Addr} {fd fdI fdW fdS : FuncData} (F : Fun K "has_stream_form" "has_stream_form" sStreamForm f fd) (GI : FnOk P w K mg base CX0 2 fI fdI ["low", "high", "value"] spWithin) (cI : Cal K mg "is_integer_within" fI fdI ["low", "high", "value"])
    (GW : FnOk P w K mg base CX0 1 fW fdW ["base", "value"] spWordForm) (cW : Cal K mg "has_word_form" fW fdW ["base", "value"]) (GS : FnOk P w K mg base CX0 1 fS fdS ["period"] spShort) (cS : Cal K mg "shortest_period" fS fdS ["period"]) (N : Nm mg) :
    FnOk P w K mg base CX0 3 f fd ["base", "roots", "value"] spStreamForm := by
  refine F.ok scStreamForm (fun vs H Q E h => ?_) (fun cdv A outer s H vs Q E hr h => ?_)
  · obtain ⟨b, R, r, p, h, q, f, rfl, _⟩ := h
    rfl
  · obtain ⟨b, R, r, p, h, q, ff, rfl, b2, b5, r0, r1, hp, nf, hl, ql, wh, wq, k⟩ := h
    have nd := scStreamForm.nd
    have hr1 := hr.mono (show 1 ≤ 2 by decide)
    refine ⟨_, pss_cons (ps_if (PW.pt (pw_or (pt_not (pt_val (pe_callB call_isi (by rfl) N.isinst PyProof.Rows.boot_isinstance (pa_cons (pv 2) (pa_cons (pe_bltn (v := .ty "tuple") (by rfl) N.tuple PyProof.Rows.boot_tuple rfl) pa_nil)))))
        (pw_or (pt_cmpR op_ne (pe_callB call_len_seq (by rfl) N.len boot_len (pa_cons (pv 2) pa_nil)) pe_int (nomark _))
        (pw_or1 (pt_not (pt_val (pe_call GI hr rfl cI.mg cI.kp cI.b .nil pass0 (pa_cons pe_int (pa_cons (pe_op op_sub (pv 1) pe_int) (pa_cons (pe_ix ix_tup (pv 2) pe_int (fun _ _ => rfl)) pa_nil))))))))))
        (pss_one (ps_ret pe_bl)) pss_nil)
      (pss_cons (ps_asg (pv 2) (pg_tup rfl (pgs_cons (pg_name (i := 3) nd rfl (.inl rfl)) (pgs_cons (pg_name (i := 4) nd rfl (.inl rfl)) (pgs_cons (pg_name (i := 5) nd rfl (.inl rfl)) pgs_nil)))))
      (pss_cons (ps_if (PW.pt (pw_or (pt_not (pt_val (pe_call GW hr1 rfl cW.mg cW.kp cW.b .nil pass0 (pa_cons (pv 0) (pa_cons (pv 4) pa_nil)))))
        (pw_or (pt_not (pt_val (pe_call GW hr1 rfl cW.mg cW.kp cW.b .nil pass0 (pa_cons (pv 0) (pa_cons (pv 5) pa_nil)))))
        (pw_or1 (pt_cmpR op_eq (pv 5) pe_str (nomark _)))))) (pss_one (ps_ret pe_bl)) pss_nil)
      (pss_one (ps_ret (pe_and (pe_cmpR op_eq (pe_call GS hr1 rfl cS.mg cS.kp cS.b .nil pass0 (pa_cons (pv 5) pa_nil)) (pv 5) (nomark _))
        (pe_one (pe_not (pe_bm PySem.F.plainAttrs_str PySem.F.slot_str_endswith PySem.F.type_str_endswith mt_endswith (pv 4) (pa_cons (pe_ix ix_str (pv 5) (pe_un un_neg pe_int) (fun _ _ => rfl)) pa_nil))))))))), ?_⟩
    have at0 : atI ([V.int r, .str (S h), .str (S q)]) 0 = some (.int r) := rfl
    have w1 : withinV 0 (R - 1) (.int r) = true := by
      show (decide (0 ≤ r) && decide (r ≤ R - 1)) = true
      rw [decide_eq_true r0, decide_eq_true r1]
      rfl
    refine ⟨_, rfl, _, _, _, _, true, rfl, .ty "tuple", (Pl.tup hp).tyx, kit_ty (by decide +kernel), _, rfl, ?_⟩
    refine iteF ?_
    refine ⟨_, rfl, p, _, rfl, .inr (SqT.of hp), rfl, _, rfl, ?_⟩
    refine iteFB rfl ?_
    refine ⟨_, rfl, _, _, rfl, rfl, _, rfl, p, _, _, _, rfl, rfl, SqT.of hp, at0, 0, R - 1, _, _, rfl, .int r, _, rfl, ?_⟩
    rw [w1]
    refine iteF ?_
    refine ⟨_, rfl, p, _, rfl, SqT.of hp, rfl, _, _, rfl, _, _, rfl, _, _, rfl, rfl, ?_⟩
    have ph : Pl H (.str (S h)) (.type "str") := .str _ (by rw [S_len]; exact hl)
    have pq : Pl H (.str (S q)) (.type "str") := .str _ (by rw [S_len]; exact ql)
    refine ⟨_, rfl, _, rfl, b, _, _, rfl, b2, b5, ph, _, rfl, ?_⟩
    rw [wordV_of wh]
    refine iteF ?_
    refine ⟨_, rfl, _, rfl, b, _, _, rfl, b2, b5, pq, _, rfl, ?_⟩
    rw [wordV_of wq]
    refine iteF ?_
    have hq := nf.ne
    have qne : q ≠ [] := fun z => by rw [z] at hq; exact absurd hq (Nat.lt_irrefl _)
    refine ⟨_, rfl, rfl, _, rfl, ?_⟩
    refine iteFB (decide_eq_false (fun z => qne (str_ne_empty.mp z))) ?_
    refine ⟨_, rfl, q, rfl, hq, ql, fun s l hle => ?_⟩
    have es := nf_least nf l
    subst es
    rw [List.take_length]
    refine ⟨_, rfl, rfl, _, rfl, ?_⟩
    refine iteTB (decide_eq_true rfl) ?_
    refine ⟨_, rfl, rfl, _, rfl, _, rfl, _, _, _, rfl, rfl, small_len ql, at_back (t := 0) hq (by decide), _, _, rfl, rfl, _, rfl, ?_⟩
    rw [Nat.sub_zero, nf_ends nf]
    exact k
theorem scIsStream : FnScope ["base", "roots", "value"] ["base", "roots", "value"] (defScope sIsStream) := ⟨rfl, rfl, rfl, by decide +kernel, rfl, by decide +kernel, by decide +kernel⟩
theorem ok_isstream {f fB fR fF CN : Addr} {fd fdB fdR fdF : FuncData} (F : Fun K "is_stream" "is_stream" sIsStream f fd) (GB : FnOk P w K mg base (L2.CX P w) 4 fB fdB ["base"] (spReqB CN 2 5)) (cB : Cal K mg "require_base" fB fdB ["base"])
    (GR : FnOk P w K mg base (L2.CX P w) 4 fR fdR ["roots"] (spReqB CN 1 5000)) (cR : Cal K mg "require_roots" fR fdR ["roots"]) (GF : FnOk P w K mg base CX0 3 fF fdF ["base", "roots", "value"] spStreamForm) (cF : Cal K mg "has_stream_form" fF fdF ["base", "roots", "value"]) :
    FnOk P w K mg base (L2.CX P w) 5 f fd ["base", "roots", "value"] spIsStream := by
  refine F.okX scIsStream (fun vs H Q E h => ?_) (fun cdv A outer s H vs Q E hr h => ?_)
  · obtain ⟨b, R, r, p, h, q, f, rfl, _⟩ := h
    rfl
  · obtain ⟨b, R, r, p, h, q, ff, rfl, b2, b5, R1, R5, r0, r1, hp, nf, hl, ql, wh, wq, k⟩ := h
    have tk := takes_of (X := cxOf (L2.CX P w) P w K mg base ["base", "roots", "value"] "is_stream" (defScope sIsStream) f cdv A outer s H E) (E := E) rfl rfl rfl rfl
    refine ⟨_, pss_cons (ps_expr (pe_call GB hr rfl cB.mg cB.kp cB.b .nil (passes_call (takes_of rfl rfl rfl rfl) (fun _ _ _ _ h => h)) (pa_cons (pv 0) pa_nil)))
      (pss_cons (ps_expr (pe_call GR hr rfl cR.mg cR.kp cR.b .nil (passes_call (takes_of rfl rfl rfl rfl) (fun _ _ _ _ h => h)) (pa_cons (pv 1) pa_nil)))
      (pss_one (ps_ret (pe_call GF (hr.mono (by decide)) rfl cF.mg cF.kp cF.b .nil pass0 (pa_cons (pv 0) (pa_cons (pv 1) (pa_cons (pv 2) pa_nil))))))), ?_⟩
    have w1 : withinV 2 5 (.int (b : Int)) = true := by
      show (decide ((2 : Int) ≤ b) && decide ((b : Int) ≤ 5)) = true
      rw [decide_eq_true (by omega), decide_eq_true (by omega)]
      rfl
    have w2 : withinV 1 5000 (.int R) = true := by
      show (decide ((1 : Int) ≤ R) && decide (R ≤ 5000)) = true
      rw [decide_eq_true R1, decide_eq_true R5]
      rfl
    refine ⟨_, rfl, _, _, rfl, .int b, fun _ => ?_, fun z => by rw [w1] at z; cases z⟩
    refine ⟨_, rfl, _, _, rfl, .int R, fun _ => ?_, fun z => by rw [w2] at z; cases z⟩
    exact ⟨_, rfl, _, rfl, _, rfl, b, R, r, p, h, q, ff, rfl, b2, b5, r0, r1, hp, nf, hl, ql, wh, wq, k⟩
/-- what is asked of an error class of the program's own without __init__ -/
structure PfxTxt (K : PySem.W.Frag) (mg : Str → Option Value) (x : Str) (C : Addr) : Prop where
  g : mg x = some (.ref C)
  ex : PySem.W.excIn K C [.type "ValueError", .type "Exception", .type "BaseException", .type "object"] "ValueError.__new__" = true
  kp : PySem.W.keepIn K (.ref C) = true
  bs : PySem.W.subIn K (.ref C) (.type "BaseException") = some true
  ty : PySem.W.typeIn K (.ref C) = some (.type "type")
theorem scMake : FnScope ["base", "root", "head", "period"] ["base", "root", "head", "period"] (defScope sMake) := ⟨rfl, rfl, rfl, by decide +kernel, rfl, by decide +kernel, by decide +kernel⟩
theorem within_base {v : V} (h : withinV 2 5 v = true) : ∃ n : Nat, v = .int (n : Int) ∧ 2 ≤ n ∧ n ≤ 5 := by
  cases v with
  | int i =>
    have h' : (decide (2 ≤ i) && decide (i ≤ 5)) = true := h
    simp at h'
    refine ⟨i.toNat, by rw [Int.toNat_of_nonneg (by omega)], by omega, by omega⟩
  | _ => cases h
theorem ok_make {f fB fI fW fN CN CS : Addr} {fd fdB fdI fdW fdN : FuncData} (F : Fun K "make_stream" "make_stream" sMake f fd) (GB : FnOk P w K mg base (L2.CX P w) 4 fB fdB ["base"] (spReqB CN 2 5)) (cB : Cal K mg "require_base" fB fdB ["base"])
    (GI : FnOk P w K mg base CX0 2 fI fdI ["low", "high", "value"] spWithin) (cI : Cal K mg "is_integer_within" fI fdI ["low", "high", "value"])
    (GW : FnOk P w K mg base CX0 1 fW fdW ["base", "value"] spWordForm) (cW : Cal K mg "has_word_form" fW fdW ["base", "value"]) (GN : FnOk P w K mg base CX0 2 fN fdN ["root", "head", "period"] spNormal) (cN : Cal K mg "normal_stream" fN fdN ["root", "head", "period"])
    (TS : PfxTxt K mg "InvalidStream" CS) (N : Nm mg) (hlen : ∀ s : Str, s.length ≤ 1000 → s.cps.toList.length ≤ 1000 := by exact fun s h => h) : FnOk P w K mg base (L2.CX P w) 5 f fd ["base", "root", "head", "period"] (spMake CN CS) := by
  refine F.okX scMake (fun vs H Q E h => ?_) (fun cdv A outer s H vs Q E hr h => ?_)
  · obtain ⟨b, r, h, q, _, _, _, _, rfl, _⟩ := h
    rfl
  · obtain ⟨b, r, h, q, tb, tr, th, tq, rfl, pb, pr, ph, pq, k1, k2⟩ := h
    have hr2 := hr.mono (show 2 ≤ 4 by decide)
    have hr1 := hr.mono (show 1 ≤ 4 by decide)
    obtain ⟨t2, m2⟩ := N.maxR
    refine ⟨_, pss_cons (ps_expr (pe_call GB hr rfl cB.mg cB.kp cB.b .nil (passes_call (takes_of rfl rfl rfl rfl) (fun _ _ _ _ h => h)) (pa_cons (pv 0) pa_nil)))
      (pss_cons (ps_if (PW.pt (pw_or (pt_not (pt_val (pe_call GI hr2 rfl cI.mg cI.kp cI.b .nil pass0 (pa_cons pe_int (pa_cons (pe_op op_sub (pe_glob (v := .int 5000) rfl m2 ⟨_, rfl⟩) pe_int) (pa_cons (pv 1) pa_nil))))))
          (pw_or1 (pt_not (pt_val (pe_call GW hr1 rfl cW.mg cW.kp cW.b .nil pass0 (pa_cons (pv 0) (pa_cons (pv 2) pa_nil))))))))
        (pss_one (ps_raise rfl (takes_of rfl rfl rfl rfl) (pmk_own PySem.F.excBase_ValueError TS.ex TS.g TS.kp (raises_own TS.bs TS.ty) rfl))) pss_nil)
      (pss_cons (ps_if (PW.pt (pw_or (pt_not (pt_val (pe_call GW hr1 rfl cW.mg cW.kp cW.b .nil pass0 (pa_cons (pv 0) (pa_cons (pv 3) pa_nil)))))
          (pw_or1 (pt_cmpR op_eq (pv 3) pe_str (nomark _)))))
        (pss_one (ps_raise rfl (takes_of rfl rfl rfl rfl) (pmk_own PySem.F.excBase_ValueError TS.ex TS.g TS.kp (raises_own TS.bs TS.ty) rfl))) pss_nil)
      (pss_one (ps_ret (pe_call GN hr2 rfl cN.mg cN.kp cN.b .nil pass0 (pa_cons (pv 1) (pa_cons (pv 2) (pa_cons (pv 3) pa_nil)))))))), ?_⟩
    refine ⟨_, rfl, _, _, rfl, pb, fun hw => ?_, k1⟩
    obtain ⟨n, rfl, n2, n5⟩ := within_base hw
    obtain ⟨k3, k4⟩ := k2 n rfl n2 n5
    refine ⟨_, _, rfl, rfl, _, rfl, 0, 5000 - 1, r, tr, rfl, pr, _, rfl, ?_⟩
    have e1 : withinV 0 (5000 - 1) r = withinV 0 4999 r := rfl
    rw [e1]
    cases hwr : withinV 0 4999 r with
    | false =>
      refine iteT ?_
      refine iteT ?_
      exact k3 (by rw [hwr]; rfl)
    | true =>
      refine iteF ?_
      refine ⟨_, rfl, _, rfl, n, _, _, rfl, n2, n5, ph, _, rfl, ?_⟩
      cases hwh : wordV n h with
      | false =>
        refine iteT ?_
        exact k3 (by rw [hwr, hwh]; rfl)
      | true =>
        refine iteF ?_
        obtain ⟨k5, k6⟩ := k4 (by rw [hwr, hwh]; rfl)
        refine ⟨_, rfl, _, rfl, n, _, _, rfl, n2, n5, pq, _, rfl, ?_⟩
        cases hwq : wordV n q with
        | false =>
          refine iteT ?_
          refine iteT ?_
          exact k5 (.inl hwq)
        | true =>
          refine iteF ?_
          cases pq with
          | str s hs =>
            cases ph with
            | str s2 hs2 =>
              refine ⟨_, rfl, rfl, _, rfl, ?_⟩
              by_cases he : s = ""
              · subst he
                refine iteTB (decide_eq_true rfl) ?_
                exact k5 (.inr rfl)
              · refine iteFB (decide_eq_false (fun z => he (V.str.inj z))) ?_
                have es : s = S s.cps.toList := (S_tl s).symm
                have es2 : s2 = S s2.cps.toList := (S_tl s2).symm
                have hpos : 0 < s.cps.toList.length := by
                  rcases Nat.eq_zero_or_pos s.cps.toList.length with z | z
                  · exact absurd (es.trans (by rw [List.length_eq_zero_iff.mp z, ← str_empty])) he
                  · exact z
                refine ⟨_, rfl, _, rfl, _, rfl, r, s2.cps.toList, s.cps.toList, by rw [← es, ← es2]; rfl, hpos, hlen s hs, hlen s2 hs2, ?_⟩
                exact k6 _ _ (congrArg V.str es2) (congrArg V.str es) hpos (of_wordV hwq)
            | _ => cases hwh
          | _ => cases hwq
end
end Vf


set_option Elab.async false
set_option maxRecDepth 100000
set_option maxHeartbeats 4000000
/-! Calls of which it is known that no repr is under way around them; repr of plain data; counting in a list. -/
namespace VG
open PySem PySem.Spec PyProof.Rows L2
/-- a def's promise, where no repr runs around the call -/
structure FnG (P : Program) (w : World) (K : PySem.W.Frag) (mg : Str → Option Value) (base : Heap) (k : Nat) (f : Addr) (fd : FuncData) (ps : List Str) (sp : Sp) : Prop where
  len : ∀ vs H Q E, sp vs H Q E → vs.length = ps.length
  at_ : ∀ {A : Around} {outer : List Env} {s : Shared} {H : Hp} {args : Args} {us : List Value} {vs : List V} {Q : VK} {E : XK}, A.guards = some [] → Room k A → Env0 P w K mg base A outer s H → BindsTo s fd args (ps.zip us) → Vals vs us → sp vs H Q E →
    codeAny (model P w) A (.call (.ref f) args) (CR L2.CX0 outer P w H s Q E) s
section
variable {P : Program} {w : World} {K : PySem.W.Frag} {mg : Str → Option Value} {base : Heap}
theorem FnG.of {x qual : Str} {st : Stmt} {f : Addr} {fd : FuncData} {N ps : List Str} {k : Nat} {sp : Sp} (F : Fun K x qual st f fd) (S : FnScope N ps (defScope st)) (len : ∀ vs H Q E, sp vs H Q E → vs.length = ps.length)
    (body : ∀ (cdv : Value) (A : Around) (outer : List Env) (s : Shared) (H : Hp) (vs : List V) (Q : VK) (E : XK), A.guards = some [] → Room k (A.deeper (envOfC qual (defScope st) s.heap.objs.size f cdv)) → PySem.W.codeIn K cdv qual = true → (∃ (oc : Value) (od : Option Addr) (kV doc pm : Value) (an : Option Addr) (ct : Value) (osl : Array (Option Value)), K.lookup f = some ⟨oc, od, .func (PySem.W.fnOf x qual (defArgs st) (defBody st) (defScope st) .none kV doc pm an cdv ct), osl⟩) → sp vs H Q E →
      ∃ t, PSs (cxOf L2.CX0 P w K mg base N qual (defScope st) f cdv A outer s H E).nox (defBody st) t ∧ t { nx := fun _ H' => Q .non H', rt := Q } (L2.start N vs) H) : FnG P w K mg base (k + 1) f fd ps sp := by
  obtain ⟨oc, od, kV, doc, pm, an, cdv, ct, osl, rfl, lk, hcd⟩ := F.ex
  refine ⟨len, fun {A outer s H args us vs Q E} hg hr e0 hb r hs => LamX.run_ofS lk hcd S hr e0 hb r (len _ _ _ _ hs) fun hr' => ?_⟩
  obtain ⟨t, h1, h2⟩ := body cdv A outer s H vs Q E hg hr' hcd ⟨_, _, _, _, _, _, _, _, lk⟩ hs
  exact ⟨t, h1.nox, h2⟩
end
section
variable {X : Cx} {k : Nat} {f : Addr} {fd : FuncData} {ps : List Str} {sp : Sp} {x : Str} {p pos : Pos} {e : Expr} {es : List Expr} {t : TA}
theorem pe_callG (G : FnG X.prog X.w X.K X.mg X.base k f fd ps sp) (gd : X.A.guards = some []) (hr : Room k X.A) (hg : Gl X x) (hm : X.mg x = some (.ref f)) (hk : PySem.W.keepIn X.K (.ref f) = true) (hb : Binds X.K fd ps [])
    (ha : PA X (e :: es) t) (hdb : (x == ("__debug__" : Str)) = false := by decide) (he : starEach (e :: es) X.env = (false, eval e X.env) :: starEach es X.env := by rfl) (hpl : (backTo pos (starEach es X.env)).any (·.1) = false := by rfl) :
    PE X (.Call (.Name x p) (e :: es) [] pos) (tCall sp [] E0 t) := by
  constructor
  intro pins s σ H Q I h
  refine wpAny_Call_Name_kw (ld_glob I hg hm (PySem.W.callWith_K I.ok.mod.kin hk (thn (ha.run pos pins s σ H _ I h) ?_) he hpl) hdb)
  rintro us s1 ⟨vs, H1, J, rv, q⟩
  refine ⟨J.kIn, ?_⟩
  have q' : sp vs H1 Q E0 := by
    have q0 : sp (vs ++ []) H1 Q E0 := q
    rw [List.append_nil] at q0
    exact q0
  have hz : (us ++ []).length = ps.length := by rw [List.append_nil, ← rv.length, G.len _ _ _ _ q']
  have hbt := hb s1 us J.kIn hz
  rw [List.append_nil] at hbt
  refine wpAny_call (codeAny_mono (G.at_ gd hr J.env0 hbt rv q') fun r s2 z => ?_)
  match r, z with
  | .ok (.ret _), z => exact J.after z
  | .ok .next, z => exact z.elim
  | .ok .brk, z => exact z.elim
  | .ok .cont, z => exact z.elim
  | .error _, z => exact (show False from z).elim
end
end VG


set_option Elab.async false
set_option maxRecDepth 100000
set_option maxHeartbeats 4000000
/-! The end of a law whose def's promise is of the kind FnG, with tables of code objects. -/
namespace VG
open PySem PySem.Spec PyProof.Rows L2
theorem endG {P : Program} {w : World} {K : PySem.W.Frag} {mg mb : Str → Option Value} {k : Nat} {fa a : Addr} {cs : List (Addr × Addr)} {fd : FuncData} {x : Str} {sp : Sp} {s : Shared} {vs : List Value} {ns : List Int}
    (kin : K.In s.heap) (gl : s.heap.Ns mainGlobals mg) (bl : s.heap.Ns builtinsNs mb) (bb : ∀ y : Str, y ≠ "__name__" → mb y = bootBuiltins y) (lim : s.heap.NoLimit) (gens : s.gens = #[])
    (tab : ∀ p ∈ cs, s.heap.get? p.2 = some { cls := .none, data := .fields #[] }) (out : ∀ p ∈ cs, K.lookup p.2 = none) (code : ∀ p ∈ cs, PySem.W.CodeHd s.heap p.1 p.2)
    (bm : ∃ (m : Addr) (o : Obj), mg "__builtins__" = some (.ref m) ∧ m ≠ builtinsNs ∧ s.heap.get? m = some o ∧ o.cls = .type "module" ∧ o.dict = some builtinsNs ∧ o.data = .plain)
    (scr : s.heap.get? a = some { cls := .type "list", data := .seq vs.toArray }) (hia : IntsAre vs ns) (sz : ns.length ≤ sizeLine) (room : Room k callerA)
    (F : ∀ base : Heap, K.In base → base.Ns mainGlobals mg → (∀ p ∈ cs, LamX.TabB base mg p.1 p.2) → FnG P w K mg base k fa fd [x] sp) (bind : ∀ (s : Shared) (u : Value), BindsTo s fd ⟨[u], []⟩ [(x, u)])
    (hsp : ∀ H : Hp, (∀ p ∈ cs, H p.2 = some (.tbl #[])) → SqL K H a (ns.map V.int) → sp [.ref a] H (fun v _ => v = .bl true) fun _ _ _ => False) :
    codeAny (model P w) callerA (.call (.ref fa) ⟨[.ref a], []⟩) (fun r s' => r = .ok (.ret (.bool true)) ∧ OldK s.heap s'.heap ∧ s'.os = s.os ∧ AllBare s'.gens) s := by
  classical
  have rv := vals_ints hia
  -- what is tracked: the tables, and the script unless the module holds it
  obtain ⟨H, hT, hA, hN⟩ : ∃ H : Hp, (∀ p ∈ cs, H p.2 = some (.tbl #[])) ∧ (K.lookup a = none → H a = some (.frz { cls := .type "list", data := .seq vs.toArray } (.lst (ns.map V.int)))) ∧
      ∀ b o, H b = some o → (o = .tbl #[] ∧ ∃ p ∈ cs, p.2 = b) ∨ (o = .frz { cls := .type "list", data := .seq vs.toArray } (.lst (ns.map V.int)) ∧ b = a ∧ K.lookup a = none) := by
    refine ⟨fun b => if ∃ p ∈ cs, p.2 = b then some (.tbl #[]) else if b = a ∧ K.lookup a = none then some (.frz { cls := .type "list", data := .seq vs.toArray } (.lst (ns.map V.int))) else none, fun p hp => if_pos ⟨p, hp, rfl⟩, fun hk => ?_, fun b o e => ?_⟩
    · have no : ¬ ∃ p ∈ cs, p.2 = a := fun ⟨p, hp, e⟩ => by
        have z := tab p hp
        rw [e, scr] at z
        cases z
      exact (if_neg no).trans (if_pos ⟨rfl, hk⟩)
    · by_cases c1 : ∃ p ∈ cs, p.2 = b
      · simp only [if_pos c1] at e
        exact .inl ⟨(Option.some.inj e).symm, c1⟩
      · simp only [if_neg c1] at e
        by_cases c2 : b = a ∧ K.lookup a = none
        · simp only [if_pos c2] at e
          exact .inr ⟨(Option.some.inj e).symm, c2⟩
        · simp only [if_neg c2] at e
          cases e
  have hseq : SqL K H a (ns.map V.int) := by
    cases hk : K.lookup a with
    | none => exact .inl (.inr ⟨_, hA hk⟩)
    | some o =>
      have e := kin a o hk
      rw [scr] at e
      cases e
      exact .inr ⟨_, vs.toArray, _, hk, rfl, rfl, rfl, by rw [List.size_toArray, hia.length]; exact sz, by simpa using rv⟩
  have ok : HOk P w H s.heap := fun b o e => by
    rcases hN b o e with ⟨rfl, p, hp, rfl⟩ | ⟨rfl, rfl, _⟩
    · exact tab p hp
    · exact ⟨scr, by rw [List.length_map]; exact sz, vs, _, rv, scr⟩
  -- an object of another shape is not tracked
  have off : ∀ {b : Addr} {o : Obj}, s.heap.get? b = some o → (∀ z n, o.data ≠ .seq z n) → o.data ≠ .fields #[] → H b = none := fun {b o} e h1 h2 => by
    cases q : H b with
    | none => rfl
    | some u =>
      rcases hN b u q with ⟨_, p, hp, rfl⟩ | ⟨_, rfl, _⟩
      · rw [tab p hp] at e
        cases e
        exact (h2 rfl).elim
      · rw [scr] at e
        cases e
        exact (h1 _ _ rfl).elim
  have offD : ∀ {b : Addr} {m : Str → Option Value}, s.heap.Ns b m → (hidT s.heap H).Ns b m := fun {b m} ⟨o, es, ep, e, d, r⟩ =>
    ⟨o, es, ep, hidT_get e (off e (fun z n y => by rw [d] at y; cases y) (fun y => by rw [d] at y; cases y)), d, r⟩
  have kinB : K.In (hidT s.heap H) := fun b o e => hidT_get (kin b o e) (by
    cases q : H b with
    | none => rfl
    | some u =>
      rcases hN b u q with ⟨_, p, hp, rfl⟩ | ⟨_, rfl, hk⟩
      · rw [out p hp] at e; cases e
      · rw [hk] at e; cases e)
  have md : L2.Mod K mg (hidT s.heap H) := ⟨kinB, offD gl, ⟨mb, offD bl, bb⟩, let ⟨mc, h1, h2⟩ := lim; ⟨mc, offD h1, h2⟩⟩
  have TB : ∀ p ∈ cs, LamX.TabB (hidT s.heap H) mg p.1 p.2 := fun p hp => by
    refine ⟨?_, ?_, fun z => ?_⟩
    · obtain ⟨o, us, file, tf, flags, tg, inF, text, tt, e1, c1, c2, c3, r⟩ := code p hp
      refine ⟨o, us, file, tf, flags, tg, inF, text, tt, hidT_get e1 (off e1 (fun z n y => ?_) (fun y => ?_)), c1, c2, c3, r⟩
      · rw [c2] at y; cases y
      · rw [c2] at y
        cases y
        simp at c3
    · obtain ⟨m, o, b1, b2, b3, b4, b5, b6⟩ := bm
      refine ⟨m, o, b1, b2, fun z => ?_, fun z => ?_, hidT_get b3 (off b3 (fun z n y => by rw [b6] at y; cases y) (fun y => by rw [b6] at y; cases y)), b4, b5, b6⟩
      · obtain ⟨o', es, ep, e, d, _⟩ := gl
        rw [z, e] at b3
        cases b3
        rw [d] at b6
        cases b6
      · rw [z, tab p hp] at b3
        cases b3
        cases b6
    · obtain ⟨o', es, ep, e, d, _⟩ := gl
      rw [z, tab p hp] at e
      cases e
      cases d
  have e0 : Env0 P w K mg (hidT s.heap H) callerA [] s H :=
    ⟨rfl, md, fun _ _ e => of_hidT e, Nat.le_of_eq (hidT_size _ _), trivial, fun _ hb => absurd hb (List.not_mem_nil), ok, .of_eq gens⟩
  refine codeAny_mono ((F _ kinB (offD gl) TB).at_ (args := ⟨[.ref a], []⟩) (us := [.ref a]) (vs := [.ref a]) rfl room e0 (bind s (.ref a)) (.cons rfl .nil) (hsp H hT hseq)) fun r s' z => ?_
  match r, z with
  | .ok .next, z => exact z.elim
  | .ok .brk, z => exact z.elim
  | .ok .cont, z => exact z.elim
  | .error _, z => exact (show False from z).elim
  | .ok (.ret u), z =>
    obtain ⟨v, H', os, bare, un, ok', rel, q⟩ := z
    have q' : v = .bl true := q
    subst q'
    obtain rfl : u = Value.bool true := rel
    -- every object but the tables is as it was; the tables have grown
    have same : ∀ b o, (∀ p ∈ cs, p.2 ≠ b) → s.heap.get? b = some o → s'.heap.get? b = some o := fun b o nb e => by
      cases q : H b with
      | none => exact un.keep b o e q (fun y => absurd y List.not_mem_nil) (fun y => absurd y List.not_mem_nil)
      | some t =>
        rcases hN b t q with ⟨_, p, hp, y⟩ | ⟨rfl, rfl, _⟩
        · exact absurd y (nb p hp)
        · have y := ok' b _ (un.frzs b _ _ q)
          rw [scr] at e
          cases e
          exact y.1
    have grown : ∀ p ∈ cs, ∃ more : Array Value, s'.heap.get? p.2 = some { cls := .none, data := .fields more } := fun p hp => by
      obtain ⟨more, y⟩ := un.tbls p.2 #[] (hT p hp)
      exact ⟨_, ok' p.2 _ y⟩
    refine ⟨rfl, ⟨fun b o e => ?_, fun b o e => ?_⟩, os, bare⟩
    · by_cases c : ∃ p ∈ cs, p.2 = b
      · obtain ⟨p, hp, rfl⟩ := c
        obtain ⟨more, y⟩ := grown p hp
        rw [tab p hp] at e
        cases e
        exact .inr (.inl ⟨((code p hp).tab (tab p hp)).isCodeTable, rfl, #[], more, rfl, by rw [Array.empty_append]; exact y⟩)
      · exact .inl (same b o (fun p hp y => c ⟨p, hp, y⟩) e)
    · by_cases c : ∃ p ∈ cs, p.2 = b
      · obtain ⟨p, hp, rfl⟩ := c
        obtain ⟨more, y⟩ := grown p hp
        exact ⟨_, y⟩
      · exact ⟨o, same b o (fun p hp y => c ⟨p, hp, y⟩) e⟩
/-- what is known of the law's def at the head's heap -/
def LawG (l : PySem.W.OpenLaw) (w : World) (K : PySem.W.Frag) (k n : Nat) (x : Str) (mg : Str → Option Value) (fa : Addr) (h : Heap) : Prop :=
  ∃ (fd : FuncData) (cs : List (Addr × Addr)) (sp : Sp), (∀ p ∈ cs, h.get? p.2 = some { cls := .none, data := .fields #[] }) ∧ (∀ p ∈ cs, K.lookup p.2 = none) ∧ (∀ p ∈ cs, PySem.W.CodeHd h p.1 p.2) ∧ (∀ (s : Shared) (u : Value), BindsTo s fd ⟨[u], []⟩ [(x, u)]) ∧
    (∀ (H : Hp) (a : Addr) (ns : List Int), ns.length ≤ n → (∀ p ∈ cs, H p.2 = some (.tbl #[])) → SqL K H a (ns.map V.int) → sp [.ref a] H (fun v _ => v = .bl true) fun _ _ _ => False) ∧
    ∀ base : Heap, K.In base → base.Ns mainGlobals mg → (∀ p ∈ cs, LamX.TabB base mg p.1 p.2) → FnG l.prog w K mg base k fa fd [x] sp
theorem walkG {l : PySem.W.OpenLaw} {n k : Nat} {q : Program} {loose : List Str} {XP : (Str → Option Value) → Heap → Prop} {YP : World → Heap → Prop} {d : DefRec} {K : Params → PySem.W.Frag} {x : Str}
    (hn : l.most = some n) (hn2 : n ≤ sizeLine) (hdf : d.params.defaults = []) (hr : Room k callerA) (hY : ∀ (w : World) (h : Heap), YP w h → (K w.params).In h)
    (F : ∀ (w : World) (mg : Str → Option Value) (fa : Addr) (h : Heap), YP w h → (K w.params).In h → h.Ns mainGlobals mg → mg d.name = some (.ref fa) → LawG l w (K w.params) k n x mg fa h) :
    PySem.W.WalkO q loose XP YP l.row.toRowW d [] (fun f vs => PySem.call f vs) := by
  refine Att.attach_callB hn hdf fun w s₀ s₁ mg mb fa o pm cd doc a vs ns G Y ho hd hcd hmg hobj hints hlen hbits hg => ?_
  obtain ⟨fd, cs, sp, h1, h2, h3, h4, h5, h6⟩ := F w mg fa _ Y (hY w _ Y) G.T.g hmg
  exact endG (hY w _ Y) G.T.g G.T.b G.T.builtins G.T.nolimit hg h1 h2 h3 G.T.bmain hobj hints (Nat.le_trans hlen hn2) hr h6 h4 fun H t sq => h5 H a ns hlen t sq
end VG


set_option Elab.async false
set_option maxRecDepth 100000
set_option maxHeartbeats 4000000
/-! repr of plain data; how often a value lies in a list. -/
namespace VG
open PySem PySem.Spec PyProof.Rows L2
inductive Fl : V → PyData → Prop where
  | non : Fl .non .none
  | bl (b : Bool) : Fl (.bl b) (.bool b)
  | int (n : Int) : Fl (.int n) (.int n)
  | str (s : Str) : Fl (.str s) (.str s)
inductive Fls : List V → List PyData → Prop where
  | nil : Fls [] []
  | cons {v d vs ds} : Fl v d → Fls vs ds → Fls (v :: vs) (d :: ds)
/-- what a value shows, as the abstract heap tells it -/
inductive Sh (H : Hp) : V → PyData → Prop where
  | fl {v d} (h : Fl v d) : Sh H v d
  | lst {p xs ds} (h : H p = some (.lst xs)) (f : Fls xs ds) : Sh H (.ref p) (.list ds)
  | tup {p xs ds} (h : H p = some (.tup xs)) (f : Fls xs ds) : Sh H (.ref p) (.tuple ds)
  | dct {p} (h : H p = some (.dK [])) : Sh H (.ref p) (.dict [])
theorem Fls.flat : ∀ {vs : List V} {ds : List PyData}, Fls vs ds → PyData.depthAll ds = 0 ∧ PyData.hasDictAll ds = false
  | _, _, .nil => ⟨rfl, rfl⟩
  | _, _, .cons a r => by
    obtain ⟨h1, h2⟩ := r.flat
    cases a <;> exact ⟨by show max _ _ = 0; rw [h1]; rfl, by show (_ || _) = false; rw [h2]; rfl⟩
theorem reads_fl {h : Heap} {v : V} {d : PyData} {u : Value} (f : Fl v d) (r : RelV v u) : Reads h u d [] := by
  cases f with
  | non => cases (show u = Value.none from r); exact .none
  | bl b => cases (show u = Value.bool b from r); exact .bool b
  | int n => obtain ⟨t, rfl⟩ := (show ∃ t, u = Value.int n t from r); exact .int n t
  | str s => obtain ⟨t, rfl⟩ := (show ∃ t, u = Value.str s t from r); exact .str s t
theorem reads_fls {h : Heap} : ∀ {vs : List V} {ds : List PyData} {us : List Value}, Fls vs ds → Vals vs us → ReadsAll h us ds []
  | _, _, _, .nil, .nil => .nil
  | _, _, _, .cons a b, .cons r t => by
    have z := ReadsAll.cons (reads_fl (h := h) a r) (reads_fls b t)
    exact z
section
variable {X : Cx}
/-- repr(v), where no repr is under way -/
def rRepr : List V → Hp → VK → Prop := fun xs H Q => ∃ (v : V) (d : PyData), xs = [v] ∧ Sh H v d ∧ d.showable = true ∧ d.shown.length ≤ sizeLine ∧ Q (.str d.shown) H
theorem call_repr (gd : X.A.guards = some []) (hu : X.A.units + 10 < cLine) : CallR X (.builtin "repr") rRepr := by
  intro pins s σ H xs us Q I r h
  obtain ⟨v, d, rfl, sh, hs, hz, q⟩ := h
  obtain ⟨u, rfl, ru⟩ : ∃ u, us = [u] ∧ RelV v u := by
    cases r with
    | cons a b => cases b; exact ⟨_, rfl, a⟩
  have fin : ∀ (h' : Heap) (t : Tok) (tk : Tok), (∀ b o, s.heap.get? b = some o → h'.get? b = some o) → EP X pins σ Q (.str d.shown t) { s with heap := h', toks := tk } := fun h' t tk k => ⟨.str d.shown, H, I.kept (t' := tk) k, ⟨t, rfl⟩, q⟩
  cases sh with
  | fl f =>
    cases f with
    | non => cases (show u = Value.none from ru); exact PySem.P.repr_of_none (fin s.heap _ _ fun _ _ z => z)
    | bl b => cases (show u = Value.bool b from ru); refine PySem.P.repr_of_bool ?_; cases b <;> exact fin s.heap _ _ fun _ _ z => z
    | int n => obtain ⟨t, rfl⟩ := (show ∃ t, u = Value.int n t from ru); exact PySem.P.repr_of_int (of_decide_eq_true hs) (fin s.heap _ _ fun _ _ z => z)
    | str x => obtain ⟨t, rfl⟩ := (show ∃ t, u = Value.str x t from ru); exact PySem.P.repr_of_str (fin s.heap _ _ fun _ _ z => z) hz
  | @lst p vs ds hp f =>
    cases (show u = Value.ref p from ru)
    obtain ⟨_, its, n, rv, ho⟩ := (show ObjOk X.prog X.w H s.heap p (.lst vs) from I.hok p _ hp)
    obtain ⟨f1, f2⟩ := f.flat
    have rd : Reads s.heap (.ref p) (.list ds) (p :: []) := .list ho rfl rfl (reads_fls f rv)
    refine repr_of_reads' rd hs (PyData.noDict_hsm f2) gd ?_ (fun _ _ e => e) (fun h' t tk k => fin h' t tk k) hz
    show X.A.units + (PyData.depthAll ds + 1 + 1) < cLine
    rw [f1]
    omega
  | @tup p vs ds hp f =>
    cases (show u = Value.ref p from ru)
    obtain ⟨_, its, rv, o, h1, h2, n, h3⟩ := (show ObjOk X.prog X.w H s.heap p (.tup vs) from I.hok p _ hp)
    obtain ⟨f1, f2⟩ := f.flat
    have rd : Reads s.heap (.ref p) (.tuple ds) [] := .tuple h1 h2 h3 (reads_fls f rv)
    refine repr_of_reads' rd hs (PyData.noDict_hsm f2) gd ?_ (fun _ _ e => e) (fun h' t tk k => fin h' t tk k) hz
    show X.A.units + (PyData.depthAll ds + 1 + 1) < cLine
    rw [f1]
    omega
  | @dct p hp =>
    cases (show u = Value.ref p from ru)
    obtain ⟨_, hm, vs, kv, o, es, ep, h1, h2, h3⟩ := (show ObjOk X.prog X.w H s.heap p (.dK []) from I.hok p _ hp)
    cases kv
    obtain ⟨hd, _, hp2, _⟩ := h3
    have he : es.toList = [] := by
      generalize es.toList = l at hp2
      cases hp2
      rfl
    have rd : Reads s.heap (.ref p) (.dict []) (p :: [] ++ []) := .dict h1 h2.1 hd (by rw [he]; exact .nil) (by rw [he]; exact .nil)
    refine repr_of_reads' rd hs (fun _ z => ?_) gd ?_ (fun _ _ e => e) (fun h' t tk k => fin h' t tk k) hz
    · have z' : sysModules = p := by simpa using z
      rw [z'] at hm
      simp at hm
    · show X.A.units + (0 + 1 + 1) < cLine
      omega
/-- how often a plain value lies in a list of such -/
def rCount (K : PySem.W.Frag) : V → List V → Hp → VK → Prop := fun x xs H Q => ∃ (a : Addr) (ys : List V) (y : V), x = .ref a ∧ xs = [y] ∧ SqL K H a ys ∧ flatV y = true ∧ ys.all flatV = true ∧ Q (.int ((ys.countP fun z => eqV z y : Nat) : Int)) H
theorem countP_vals {y : V} : ∀ {ys : List V} {us : List Value}, Vals ys us → ys.all flatV = true → us.countP (eqU y) = ys.countP fun z => eqV z y
  | _, _, .nil, _ => rfl
  | z :: ys, u :: us, .cons r t, f => by
    rw [List.all_cons, Bool.and_eq_true] at f
    rw [List.countP_cons, List.countP_cons, countP_vals t f.2, eqU_of r f.1]
theorem mt_count : MtR X "list.count" (rCount X.K) := by
  intro pins s σ H x xs v us Q I rx rxs h
  obtain ⟨a, ys, y, rfl, rfl, hs, fy, fys, q⟩ := h
  cases (show v = Value.ref a from rx)
  obtain ⟨u, rfl, ru⟩ := rxs.one
  obtain ⟨its, rv, ⟨⟨cls, dd, data, sl⟩, n, ho, hc, hdn, hd⟩, hlen⟩ := I.list hs
  simp only at hc hd
  subst hc hd
  refine call_meets PySem.F.slot_list_count ⟨_, ho, rfl⟩ PySem.F.entry_list_count (PySem.F.args_list_count_2 _ _) (SeqAt.list_countAt a its.toArray n dd sl u (eqU y)) ⟨ho, fun z hz => mem_eqAt ru fy rv fys z (by simpa using hz), ?_⟩
  rw [List.toList_toArray, countP_vals rv fys]
  exact ⟨.int _, H, I.tok _, ⟨_, rfl⟩, q⟩
end
end VG


set_option Elab.async false
set_option maxRecDepth 100000
set_option maxHeartbeats 4000000
/-! try with two clauses that name what they catch; whatever the body raises is caught. -/
namespace VG
open PySem PySem.Spec PyProof.Rows L2
/-- an exception at a, landed: the state is h3's, the slots and the abstract heap as when it was raised -/
structure Down (X : Cx) (pins : List (Addr × Obj)) (a : Addr) (cls : Value) (d : Option Addr) (σ : L2.St) (H : Hp) (sI : Shared) (B h3 : Heap) (s' : Shared) : Prop where
  inv : Inv X pins σ H sI
  nb : ∀ b o, sI.heap.get? b = some o → b ∉ frs X.stack → B.get? b = some o
  fly : HandSPX.FlyingZ B (X.env :: X.outer) a (Zc cls d) h3
  up : sI.heap.UpToSlots h3
  os : s'.os = sI.os
  bare : AllBare s'.gens
  new : H a = none
section
variable {X : Cx} {pins : List (Addr × Obj)} {a : Addr} {cls : Value} {d : Option Addr} {σ : L2.St} {H : Hp} {sI s' : Shared} {B h3 : Heap}
theorem Down.at_ (y : Down X pins a cls d σ H sI B h3 s') : Inv X pins σ H { s' with heap := h3 } := y.inv.landed y.nb y.fly.1 y.up y.os y.bare
/-- as a suite sees it -/
theorem Down.seen (y : Down X pins a cls d σ H sI B h3 s') (hf : X.env.frame = some X.env.locals) : ∃ (oe : Obj) (vs : Array Value), h3.get? a = some oe ∧ Zc cls d oe ∧ oe.data = .fields vs ∧ Inv (X.suite a ((a, oe) :: (X.pn ++ pins))) [] σ H { s' with heap := h3 } := by
  obtain ⟨oe, vs, e1, e2, e3⟩ := y.fly.there
  have out : a ∉ frs (X.env :: X.outer) := fun hm => by
    obtain ⟨_, o, eo, ho⟩ := y.fly.2.2.1.mem hm
    rw [e1] at eo
    cases eo
    exact ho _ e3
  have o1 : a ≠ X.env.locals := fun z => out (List.mem_filterMap.mpr ⟨X.env, .head _, by rw [hf, z]⟩)
  have o2 : a ∉ X.fs := fun hm => out (let ⟨v, hv, q⟩ := List.mem_filterMap.mp hm; List.mem_filterMap.mpr ⟨v, .tail _ hv, q⟩)
  exact ⟨oe, vs, e1, e2, e3, y.at_.suite e1 e3 y.new o1 o2⟩
/-- the clause's class is asked -/
theorem Down.ask (y : Down X pins a cls d σ H sI B h3 s') (hf : X.env.frame = some X.env.locals) {x : Str} {c : Value} {np : Pos} {b : Bool} {E : Value → Shared → Prop} {R : Bool → Shared → Prop} (nm : Names X x c) (m : PySem.W.exmOne X.K cls c = some b)
    (r : R b { s' with heap := h3 }) : wpAny (model X.prog X.w) (X.A.mark (some (.ref a))) (eval (.Name x np) X.env) (fun cv s1 => wpAny (model X.prog X.w) (X.A.mark (some (.ref a))) (excMatches (.ref a) cv) R E s1) E { s' with heap := h3 } := by
  obtain ⟨oe, vs, e1, e2, e3, J⟩ := y.seen hf
  have ty : PySem.W.Looks (model X.prog X.w) h3 (typeOf (.ref a)) cls := fun A Q E s k q => wpAny_typeOf_ref (k _ _ e1) (by rw [e2.1]; exact q)
  have lm := PySem.W.exm_one (M := model X.prog X.w) y.at_.kIn ty m
  obtain ⟨g1, g2, g3⟩ := nm
  rcases g3 with g3 | ⟨g3, g4, g5⟩
  · exact ld_glob (X := X.suite a ((a, oe) :: (X.pn ++ pins))) J g1 g3 (lm.here r) g2
  · exact ld_blt (X := X.suite a ((a, oe) :: (X.pn ++ pins))) J g1 g3 g4 (lm.here r) g5 g2
/-- a clause that does not match -/
theorem Down.skip (y : Down X pins a cls d σ H sI B h3 s') (hf : X.env.frame = some X.env.locals) {x : Str} {c : Value} {np pos : Pos} {nm : Option Str} {body : List Stmt} {rest : List ExceptHandler} {D : Ends} (n : Names X x c) (m : PySem.W.exmOne X.K cls c = some false)
    (h : wpAny (model X.prog X.w) X.A (handleBy (.ref a) X.env rest) (SP X pins D) X.xe { s' with heap := h3 }) :
    wpAny (model X.prog X.w) X.A (handleBy (.ref a) X.env (.ExceptHandler (some (.Name x np)) nm body pos :: rest)) (SP X pins D) X.xe { s' with heap := h3 } :=
  wpAny_handleBy_cons (codeAny_handlers_test (y.ask hf n m h)) fun z => nomatch z
/-- a clause that matches: its suite, then its name goes -/
theorem Down.take (y : Down X pins a cls d σ H sI B h3 s') (hf : X.env.frame = some X.env.locals) {x n : Str} {i : Nat} {c : Value} {np pos : Pos} {b₀ : Stmt} {body : List Stmt} {rest : List ExceptHandler} {D : Ends} {ts : TS} (nm : Names X x c) (m : PySem.W.exmOne X.K cls c = some true)
    (hN : X.N.Nodup) (hi : X.N[i]? = some n) (hl : X.env.kindOf n = some .local)
    (su : ∀ (oe : Obj) (pn : List (Addr × Obj)), Zc cls d oe → (∃ vs, oe.data = .fields vs) → PSs (X.suite a ((a, oe) :: pn)) (b₀ :: body) ts)
    (h : ts { nx := fun σ' H' => D.nx (σ'.set i none) H', rt := D.rt, bk := fun σ' H' => D.bk (σ'.set i none) H', ct := fun σ' H' => D.ct (σ'.set i none) H' } (σ.set i (some (.ref a))) H) :
    wpAny (model X.prog X.w) X.A (handleBy (.ref a) X.env (.ExceptHandler (some (.Name x np)) (some n) (b₀ :: body) pos :: rest)) (SP X pins D) X.xe { s' with heap := h3 } := by
  have ok := y.inv.ok
  refine wpAny_handleBy_cons (codeAny_handlers_test (y.ask hf nm m (codeAny_handlers_suite_as ?_))) fun z => nomatch z
  refine HandSPX.lands_againZ y.fly fun h4 f4 u4 => ?_
  have y4 : Down X pins a cls d σ H sI B h4 s' := ⟨y.inv, y.nb, f4, y.up.trans u4, y.os, y.bare, y.new⟩
  obtain ⟨oe, vs, e1, e2, e3, J⟩ := y4.seen hf
  refine store_ok (X := X.suite a ((a, oe) :: (X.pn ++ pins))) (v := .ref a) J hN hi (.inl hl) rfl (fun s5 J5 => ?_) (.inr hl)
  refine wpAny_mono ((su oe (X.pn ++ pins) e2 ⟨_, e3⟩).run [] s5 _ H _ J5 h) (fun fl s6 z => ?_) fun _ _ z => z.elim
  match fl, z with
  | .next, ⟨_, _, J6, q⟩ => exact gone_ok (J6.unsuite ok) hN hi hl fun _ J7 => ⟨_, _, J7, q⟩
  | .brk, ⟨_, _, J6, q⟩ => exact gone_ok (J6.unsuite ok) hN hi hl fun _ J7 => ⟨_, _, J7, q⟩
  | .cont, ⟨_, _, J6, q⟩ => exact gone_ok (J6.unsuite ok) hN hi hl fun _ J7 => ⟨_, _, J7, q⟩
  | .ret _, ⟨_, _, _, J6, r6, q⟩ => exact gone_ok (J6.unsuite ok) hN hi hl fun _ J7 => ⟨_, _, _, J7, r6, q⟩
end
/-- what two clauses 'except x as n' wish of what the body raises; nothing else is raised -/
def wTwo (K : PySem.W.Frag) (nl i : Nat) (c1 c2 : Value) (t1 t2 : Addr → Value → Option Addr → TS) (D : Ends) : WX := fun cls d σ H => σ.length = nl →
  (PySem.W.exmOne K cls c1 = some true ∧ ∀ a, H a = none → t1 a cls d { nx := fun σ' H' => D.nx (σ'.set i none) H', rt := D.rt, bk := fun σ' H' => D.bk (σ'.set i none) H', ct := fun σ' H' => D.ct (σ'.set i none) H' } (σ.set i (some (.ref a))) H) ∨
  (PySem.W.exmOne K cls c1 = some false ∧ PySem.W.exmOne K cls c2 = some true ∧ ∀ a, H a = none → t2 a cls d { nx := fun σ' H' => D.nx (σ'.set i none) H', rt := D.rt, bk := fun σ' H' => D.bk (σ'.set i none) H', ct := fun σ' H' => D.ct (σ'.set i none) H' } (σ.set i (some (.ref a))) H)
section
variable {X : Cx} {x1 x2 n : Str} {c1 c2 : Value} {i : Nat} {body r1 r2 : List Stmt} {b1 b2 : Stmt} {n1 n2 p1 p2 pos : Pos} {tb : WX → TS} {t1 t2 : Addr → Value → Option Addr → TS}
theorem ps_try_two (hs : X.stack = X.env :: X.outer) (hf : X.env.frame = some X.env.locals) (hN : X.N.Nodup) (hi : X.N[i]? = some n) (hl : X.env.kindOf n = some .local) (m1 : Names X x1 c1) (m2 : Names X x2 c2)
    (hb : ∀ (W : WX) (pn : List (Addr × Obj)) (xe : Value → Shared → Prop), Takes (X.tr pn xe) W → PassesOwn (model X.prog X.w) X.A X.env xe → PSs (X.tr pn xe) body (tb W))
    (s1 : ∀ (a : Addr) (oe : Obj) (cls : Value) (d : Option Addr) (pn : List (Addr × Obj)), Zc cls d oe → (∃ vs, oe.data = .fields vs) → PSs (X.suite a ((a, oe) :: pn)) (b1 :: r1) (t1 a cls d))
    (s2 : ∀ (a : Addr) (oe : Obj) (cls : Value) (d : Option Addr) (pn : List (Addr × Obj)), Zc cls d oe → (∃ vs, oe.data = .fields vs) → PSs (X.suite a ((a, oe) :: pn)) (b2 :: r2) (t2 a cls d)) :
    PS X (.Try body [.ExceptHandler (some (.Name x1 n1)) (some n) (b1 :: r1) p1, .ExceptHandler (some (.Name x2 n2)) (some n) (b2 :: r2) p2] [] [] pos) (fun D σ H => tb (wTwo X.K X.N.length i c1 c2 t1 t2 D) D σ H) := by
  constructor
  intro pins s σ H D I h
  have ok := I.ok
  have fr : X.A.frames = some (X.env :: X.outer) := ok.frames.trans (congrArg some hs)
  refine wpAny_Try_except (wpAny_mono ((hb (wTwo X.K X.N.length i c1 c2 t1 t2 D) (X.pn ++ pins) _ (fun u s2' xx => ?_) PassesOwn.looking).run [] s σ H D (I.toTry _) h) (fun fl s3 z => ?_) fun _ _ z => z)
  · obtain ⟨a, B, sI, pins', σ', H', cls, d, rfl, J', nb, up, sky, na, os, ag, wish⟩ := xx
    have J : Inv X pins σ' H' sI := J'.ofTry ok
    rw [show (X.tr (X.pn ++ pins) _).stack = X.env :: X.outer from hs] at sky
    refine Sky.land Zc.steady fr hf sky fun h3 f3 u3 => ?_
    have y : Down X pins a cls d σ' H' sI B h3 s2' := ⟨J, nb, f3, up.trans u3, os, ag, na⟩
    rcases wish J.len with ⟨w1, w2⟩ | ⟨w1, w2, w3⟩
    · exact y.take hf m1 w1 hN hi hl (fun oe pn z1 z2 => s1 a oe cls d pn z1 z2) (w2 a na)
    · exact y.skip hf m1 w1 (y.take hf m2 w2 hN hi hl (fun oe pn z1 z2 => s2 a oe cls d pn z1 z2) (w3 a na))
  · match fl, z with
    | .next, ⟨_, _, J, q⟩ => exact wpAny_execs_nil ⟨_, _, J.ofTry ok, q⟩
    | .brk, ⟨_, _, J, q⟩ => exact ⟨_, _, J.ofTry ok, q⟩
    | .cont, ⟨_, _, J, q⟩ => exact ⟨_, _, J.ofTry ok, q⟩
    | .ret _, ⟨_, _, _, J, r, q⟩ => exact ⟨_, _, _, J.ofTry ok, r, q⟩
end
end VG


set_option Elab.async false
set_option maxRecDepth 100000
set_option maxHeartbeats 4000000
set_option exponentiation.threshold 3000
namespace Vf
open PySem L2 SX Vm
/-- a value that may stand where it is wrong: plain, and it can be shown -/
structure Odd (H : Hp) (v : V) : Prop where
  pl : ∃ t, Pl H v t
  sh : ∃ d : PyData, VG.Sh H v d ∧ d.showable = true ∧ d.shown.length ≤ 1000 ∧ PyData.canLay0 (.str (("number " : Str) ++ d.shown)) = true
/-- what the law's try gives: nothing, the number's text, or stream -/
def TTold (CN CS : Addr) : (XK → Hp → VK → Prop) → Hp → VK → Prop := fun tl H Q => tl (fun cls d H' =>
  (∃ (dd : Addr) (v : V) (pd : PyData), cls = .ref CN ∧ d = some dd ∧ H' dd = some (.xd [(("value" : Str), v)]) ∧ VG.Sh H' v pd ∧ pd.showable = true ∧ pd.shown.length ≤ 1000 ∧ Q (.str (("number " : Str) ++ pd.shown)) H') ∨
  (cls = .ref CS ∧ d = none ∧ ∀ H'', Same H' H'' → Q (.str "stream") H'')) H (fun _ H' => Q .non H')
structure ToldTxt (K : PySem.W.Frag) (mg : Str → Option Value) (CN CP CS CX CO : Addr) : Prop where
  gN : mg "InvalidNumber" = some (.ref CN)
  gP : mg "PrefixError" = some (.ref CP)
  gS : mg "InvalidStream" = some (.ref CS)
  gX : mg "InvalidPrefix" = some (.ref CX)
  gO : mg "InvalidOperation" = some (.ref CO)
  rep : mg "repr" = none
  isi : mg "isinstance" = none
  nn : PySem.W.exmOne K (.ref CN) (.ref CN) = some true
  sn : PySem.W.exmOne K (.ref CS) (.ref CN) = some false
  sp : PySem.W.exmOne K (.ref CS) (.ref CP) = some true
  xf : XfC K CN
  nov : PySem.W.findIn K (.ref CN) "value" = some none
  ec : ExcC K CS
  kS : PySem.W.kitOne K (.ref CS) (.ref CS) = some true
  kX : PySem.W.kitOne K (.ref CS) (.ref CX) = some false
  kO : PySem.W.kitOne K (.ref CS) (.ref CO) = some false
section
variable {X : Cx}
theorem pss_when {body : List Stmt} {p : Prop} {t : TS} (h : p → PSs X body t) : PSs X body (fun D σ H => p ∧ t D σ H) := ⟨fun pins s σ H D I q => (h q.1).run pins s σ H D I q.2⟩
theorem pss_imp {body : List Stmt} {t t' : TS} (h : PSs X body t) (imp : ∀ D σ H, σ.length = X.N.length → t' D σ H → t D σ H) : PSs X body t' := ⟨fun pins s σ H D I q => h.run pins s σ H D I (imp D σ H I.len q)⟩
theorem scTold : FnScope ["call", "e", "kinds"] ["call"] (defScope sTold) := ⟨rfl, rfl, rfl, by decide +kernel, rfl, by decide +kernel, by decide +kernel⟩
theorem told_gives {CN CP CS CX CO g : Addr} {cdg : Value} {q : Str} (T : ToldTxt X.K X.mg CN CP CS CX CO) (gd : X.A.guards = some []) (hu : X.A.units + 20 < cLine) : LamX.GivesTo X ["call", "e", "kinds"] "_law_told" (defScope sTold) g cdg (defBody sTold) "call" q (TTold CN CS) := by
  intro f c' s H Q tl act hc h
  have nd := scTold.nd
  refine ⟨_, pss_cons (VG.ps_try_two (X := (cxOf C8.CX0 X.prog X.w X.K X.mg X.base ["call", "e", "kinds"] "_law_told" (defScope sTold) g cdg X.A X.stack s H C8.E0).nox) (c1 := .ref CN) (c2 := .ref CP) (i := 1)
      (tb := fun W D σ H => ∃ Ech : XK, (∀ cls d σ' H', Ech cls d H' → W cls d σ' H') ∧ σ[0]? = some (some (.ref f)) ∧ H c' = some (LamX.CodeO c' q) ∧ tl Ech H fun _ H' => D.nx σ H')
      (t2 := fun a cls d D σ H => (cls = .ref CS ∧ d = none) ∧ σ[1]? = some (some (.ref a)) ∧ ∀ H'', Same H H'' → D.rt (.str "stream") H'')
      rfl rfl nd rfl rfl ⟨by rfl, by decide, .inl T.gN⟩ ⟨by rfl, by decide, .inl T.gP⟩ (fun W pn xe tk _ => ?_)
      (fun a oe cls d pn hz hf => pss_one (ps_ret (pe_op op_add_str pe_str (pe_callB (VG.call_repr gd (by show X.A.units + 3 + 10 < cLine; omega)) (by rfl) T.rep PyProof.Rows.boot_repr (pa_cons (pe_xf T.xf T.nov hz hf (pv 1)) pa_nil)))))
      (fun a oe cls d pn hz hf => ?_)) (pss_one (ps_ret pe_non)), ?_⟩
  · refine ⟨fun pins s' σ H' D I h' => ?_⟩
    obtain ⟨Ech, hW, h1, h2, h3⟩ := h'
    exact (pss_one (ps_expr (act W pn xe Ech _ _ tk hW))).run pins s' σ H' D I ⟨h1, h2, h3⟩
  · refine pss_when fun hp => ?_
    obtain ⟨rfl, rfl⟩ := hp
    refine pss_imp (pss_cons (ps_set (i := 2) nd rfl (.inl rfl) (pe_lst
        (pa_cons (pe_callB (call_isE T.ec hz hf) (by rfl) T.isi PyProof.Rows.boot_isinstance (pa_cons (pv 1) (pa_cons (pe_glob (v := .ref CS) rfl T.gS rfl) pa_nil)))
        (pa_cons (pe_callB (call_isE T.ec hz hf) (by rfl) T.isi PyProof.Rows.boot_isinstance (pa_cons (pv 1) (pa_cons (pe_glob (v := .ref CX) rfl T.gX rfl) pa_nil)))
        (pa_cons (pe_callB (call_isE T.ec hz hf) (by rfl) T.isi PyProof.Rows.boot_isinstance (pa_cons (pv 1) (pa_cons (pe_glob (v := .ref CO) rfl T.gO rfl) pa_nil))) pa_nil)))))
      (pss_one (ps_ret (pe_ifExp (pt_cmpR op_eq (pe_bm PySem.F.plainAttrs_list PySem.F.slot_list_count PySem.F.type_list_count VG.mt_count (pv 2) (pa_cons pe_bl pa_nil)) pe_int (nomark _))
        (pe_ix ix_list (pe_lst (pa_cons pe_str (pa_cons pe_str (pa_cons pe_str pa_nil)))) (pe_bm PySem.F.plainAttrs_list PySem.F.slot_list_index PySem.F.type_list_index mt_index (pv 2) (pa_cons pe_bl pa_nil)) (fun _ _ => rfl)) pe_str)))) ?_
    rintro D σ H1 l3 ⟨h1, h2⟩
    have l3 : σ.length = 3 := l3
    have s2 : ∀ v : V, (σ.set 2 (some v))[2]? = some (some v) := fun v => List.getElem?_set_self (by omega)
    refine ⟨_, h1, _, _, true, rfl, fun u r => r, T.kS, _, h1, _, _, false, rfl, fun u r => r, T.kX, _, h1, _, _, false, rfl, fun u r => r, T.kO, (by show 3 ≤ sizeLine; decide), fun p np => ?_⟩
    have sq : SqL X.K (upd H1 p (.lst [.bl true, .bl false, .bl false])) p [.bl true, .bl false, .bl false] := SqL.of upd_same
    refine ⟨_, s2 _, .inl ⟨rfl, _, sq⟩, p, _, .bl true, rfl, rfl, sq, rfl, rfl, rfl, _, rfl, ?_⟩
    refine iteTB rfl ?_
    refine ⟨(by show 3 ≤ sizeLine; decide), fun p2 np2 => ?_⟩
    have n12 : p ≠ p2 := fun z => by rw [← z, upd_same] at np2; cases np2
    have sq2 : SqL X.K (upd (upd H1 p (.lst [.bl true, .bl false, .bl false])) p2 (.lst [.str "stream", .str "prefix", .str "operation"])) p [.bl true, .bl false, .bl false] := SqL.of (by rw [upd_ne n12, upd_same])
    refine ⟨_, s2 _, .inl ⟨rfl, _, sq2⟩, p, _, .bl true, 0, .bl true, rfl, rfl, sq2, rfl, rfl, rfl, rfl, fun m z hm => absurd hm (Nat.not_lt_zero _), ?_⟩
    refine ⟨p2, _, _, _, rfl, rfl, SqL.of upd_same, atI_nat (j := 0) rfl, ?_⟩
    exact h2 _ fun b o e => by
      have e1 : upd H1 p (.lst [.bl true, .bl false, .bl false]) b = some o := by rw [upd_ne (ne_of_none e np)]; exact e
      rw [upd_ne (ne_of_none e1 np2)]
      exact e1
  · refine ⟨fun cls d H' => _, fun cls d σ' H' hE hl => ?_, rfl, hc, h⟩
    have s1 : ∀ v : V, (σ'.set 1 (some v))[1]? = some (some v) := fun v => List.getElem?_set_self (by rw [hl]; show 1 < 3; decide)
    rcases hE with ⟨dd, v, pd, rfl, rfl, hd, sh, hs, hz, k⟩ | ⟨rfl, rfl, k⟩
    · refine .inl ⟨T.nn, fun a _ => ?_⟩
      refine ⟨_, s1 _, rfl, rfl, dd, _, v, rfl, hd, (by simp [List.lookup]), v, pd, rfl, sh, hs, Nat.le_trans hz (by decide), _, _, rfl, rfl, ?_, k⟩
      have e : ("number " : Str).length = 7 := by decide +kernel
      rw [e]
      exact Nat.le_trans (show 7 + pd.shown.length ≤ 1007 by omega) (by decide)
    · exact .inr ⟨T.sn, T.sp, fun a _ => ⟨⟨rfl, rfl⟩, s1 _, k⟩⟩
end
end Vf


set_option Elab.async false
set_option maxRecDepth 100000
set_option maxHeartbeats 4000000
set_option exponentiation.threshold 3000
namespace Vf
open PySem L2 SX Vm
/-- what is not a base, whatever it is -/
def spNoBase : Sp := fun vs H Q _ => ∃ (a : Addr) (d : Int × Int × Int), vs = [.ref a] ∧ H a = some (.lst (dieL d)) ∧ DieOk d ∧ d.2.2 ≤ 1000000000 ∧
  ∀ (v : V) (d' : Int × Int × Int) (H' : Hp), DieOk d' → d'.2.2 ≤ d.2.2 + 1 → Kp a H H' → H' a = some (.lst (dieL d')) → Odd H' v → withinV 2 5 v = false → (∀ q, v = .ref q → q ≠ a) → Q v H'
theorem odd_int {H : Hp} (n : Int) (h1 : n.natAbs.log2 < 1920) (h2 : ((PyData.int n).shown).length ≤ 1000) (h3 : PyData.canLay0 (.str (("number " : Str) ++ (PyData.int n).shown)) = true) : Odd H (.int n) := ⟨⟨_, .int n⟩, _, .fl (.int n), decide_eq_true h1, h2, h3⟩
theorem odd_bl {H : Hp} (b : Bool) : Odd H (.bl b) := ⟨⟨_, .bl b⟩, _, .fl (.bl b), rfl, by cases b <;> decide +kernel, by cases b <;> decide +kernel⟩
theorem odd_non {H : Hp} : Odd H .non := ⟨⟨_, .non⟩, _, .fl .non, rfl, by decide +kernel, by decide +kernel⟩
theorem odd_str {H : Hp} (s : Str) (h : s.length ≤ 1000) (h2 : ((PyData.str s).shown).length ≤ 1000) (h3 : PyData.canLay0 (.str (("number " : Str) ++ (PyData.str s).shown)) = true) : Odd H (.str s) := ⟨⟨_, .str s h⟩, _, .fl (.str s), rfl, h2, h3⟩
section
variable {P : Program} {w : World} {K : PySem.W.Frag} {mg : Str → Option Value} {base : Heap}
theorem scNoBase : FnScope ["die"] ["die"] (defScope sNoBase) := ⟨rfl, rfl, rfl, by decide +kernel, rfl, by decide +kernel, by decide +kernel⟩
theorem ok_nobase {f fP : Addr} {fd fdP : FuncData} (F : Fun K "_law_no_base" "_law_no_base" sNoBase f fd) (GP : FnOk P w K mg base CX0 1 fP fdP ["die", "many"] spPull) (cP : Cal K mg "_law_pull" fP fdP ["die", "many"]) : FnOk P w K mg base CX0 2 f fd ["die"] spNoBase := by
  refine F.ok scNoBase (fun vs H Q E h => ?_) (fun cdv A outer s H vs Q E hr h => ?_)
  · obtain ⟨a, d, rfl, _⟩ := h
    rfl
  · obtain ⟨a, d, rfl, ha, hd, hc, k⟩ := h
    refine ⟨_, pss_one (ps_ret (pe_ix ix_list (pe_lst (pa_cons pe_int (pa_cons pe_int (pa_cons pe_int (pa_cons (pe_un un_neg pe_int) (pa_cons pe_bl (pa_cons pe_non (pa_cons pe_str (pa_cons (pe_tup (pa_cons pe_int pa_nil)) (pa_cons (pe_lst (pa_cons pe_int pa_nil)) (pa_cons pe_dnewK (pa_cons (pe_op op_pow pe_int pe_int) pa_nil))))))))))))
      (pe_call GP hr rfl cP.mg cP.kp cP.b .nil pass0 (pa_cons (pv 0) (pa_cons pe_int pa_nil))) (fun _ _ => rfl))), ?_⟩
    refine ⟨_, rfl, (by show 1 ≤ sizeLine; decide), fun p1 n1 => ⟨(by show 1 ≤ sizeLine; decide), fun p2 n2 p3 n3 => ⟨_, _, rfl, rfl, ⟨by decide, by decide, by decide +kernel⟩, (by show 11 ≤ sizeLine; decide), fun p n => ?_⟩⟩⟩
    have m1 := ne_of_none ha n1
    have a1 : upd H p1 (.tup [.int 2]) a = some (.lst (dieL d)) := by rw [upd_ne m1]; exact ha
    have m2 := ne_of_none a1 n2
    have a2 : upd (upd H p1 (.tup [.int 2])) p2 (.lst [.int 3]) a = some (.lst (dieL d)) := by rw [upd_ne m2]; exact a1
    have m3 := ne_of_none a2 n3
    have a3 : upd (upd (upd H p1 (.tup [.int 2])) p2 (.lst [.int 3])) p3 (.dK []) a = some (.lst (dieL d)) := by rw [upd_ne m3]; exact a2
    have m4 := ne_of_none a3 n
    have q12 : p1 ≠ p2 := ne_of_none upd_same n2
    have b1 : upd (upd H p1 (.tup [.int 2])) p2 (.lst [.int 3]) p1 = some (.tup [.int 2]) := by rw [upd_ne q12, upd_same]
    have q13 : p1 ≠ p3 := ne_of_none b1 n3
    have q23 : p2 ≠ p3 := ne_of_none upd_same n3
    have c1 : upd (upd (upd H p1 (.tup [.int 2])) p2 (.lst [.int 3])) p3 (.dK []) p1 = some (.tup [.int 2]) := by rw [upd_ne q13]; exact b1
    have c2 : upd (upd (upd H p1 (.tup [.int 2])) p2 (.lst [.int 3])) p3 (.dK []) p2 = some (.lst [.int 3]) := by rw [upd_ne q23, upd_same]
    have q1 := ne_of_none c1 n
    have q2 := ne_of_none c2 n
    have q3 : p3 ≠ p := ne_of_none upd_same n
    refine ⟨_, rfl, a, d, _, rfl, by rw [upd_ne m4]; exact a3, hd, by decide, by decide, hc, fun r d' hd' hc' r0 r1 => ?_⟩
    generalize hH : upd (upd (upd (upd (upd H p1 (.tup [.int 2])) p2 (.lst [.int 3])) p3 (.dK [])) p (.lst [V.int 0, .int 1, .int 6, .int (-2), .bl true, .non, .str "2", .ref p1, .ref p2, .ref p3, .int (10 ^ (40 : Int).toNat)])) a (.lst (dieL d')) = Hf
    have e1 : Hf p1 = some (.tup [.int 2]) := by rw [← hH, upd_ne m1.symm, upd_ne q1]; exact c1
    have e2 : Hf p2 = some (.lst [.int 3]) := by rw [← hH, upd_ne m2.symm, upd_ne q2]; exact c2
    have e3 : Hf p3 = some (.dK []) := by rw [← hH, upd_ne m3.symm, upd_ne q3, upd_same]
    have e4 : Hf p = some (.lst [V.int 0, .int 1, .int 6, .int (-2), .bl true, .non, .str "2", .ref p1, .ref p2, .ref p3, .int (10 ^ (40 : Int).toNat)]) := by rw [← hH, upd_ne m4.symm, upd_same]
    have e5 : Hf a = some (.lst (dieL d')) := by rw [← hH, upd_same]
    have kp : Kp a H Hf := by
      rw [← hH]
      exact ((((Kp.new n1).trans (Kp.new n2)).trans (Kp.new n3)).trans (Kp.new n)).trans Kp.upd
    obtain ⟨v, hv, ho, hw, hq⟩ : ∃ v, atI [V.int 0, .int 1, .int 6, .int (-2), .bl true, .non, .str "2", .ref p1, .ref p2, .ref p3, .int (10 ^ (40 : Int).toNat)] r = some v ∧ Odd Hf v ∧ withinV 2 5 v = false ∧ ∀ q, v = .ref q → q ≠ a := by
      have : r = 0 ∨ r = 1 ∨ r = 2 ∨ r = 3 ∨ r = 4 ∨ r = 5 ∨ r = 6 ∨ r = 7 ∨ r = 8 ∨ r = 9 ∨ r = 10 := by omega
      rcases this with e | e | e | e | e | e | e | e | e | e | e <;> subst e
      · exact ⟨_, rfl, odd_int _ (by decide +kernel) (by decide +kernel) (by decide +kernel), rfl, fun _ z => nomatch z⟩
      · exact ⟨_, rfl, odd_int _ (by decide +kernel) (by decide +kernel) (by decide +kernel), rfl, fun _ z => nomatch z⟩
      · exact ⟨_, rfl, odd_int _ (by decide +kernel) (by decide +kernel) (by decide +kernel), rfl, fun _ z => nomatch z⟩
      · exact ⟨_, rfl, odd_int _ (by decide +kernel) (by decide +kernel) (by decide +kernel), rfl, fun _ z => nomatch z⟩
      · exact ⟨_, rfl, odd_bl _, rfl, fun _ z => nomatch z⟩
      · exact ⟨_, rfl, odd_non, rfl, fun _ z => nomatch z⟩
      · exact ⟨_, rfl, odd_str _ (by decide +kernel) (by decide +kernel) (by decide +kernel), rfl, fun _ z => nomatch z⟩
      · exact ⟨_, rfl, ⟨⟨_, .tup e1⟩, _, .tup e1 (.cons (.int 2) .nil), rfl, by decide +kernel, by decide +kernel⟩, rfl, fun _ z => V.ref.inj z ▸ m1.symm⟩
      · exact ⟨_, rfl, ⟨⟨_, .lst e2⟩, _, .lst e2 (.cons (.int 3) .nil), rfl, by decide +kernel, by decide +kernel⟩, rfl, fun _ z => V.ref.inj z ▸ m2.symm⟩
      · exact ⟨_, rfl, ⟨⟨_, .dct e3⟩, _, .dct e3, rfl, by decide +kernel, by decide +kernel⟩, rfl, fun _ z => V.ref.inj z ▸ m3.symm⟩
      · exact ⟨_, rfl, odd_int _ (by decide +kernel) (by decide +kernel) (by decide +kernel), by decide +kernel, fun _ z => nomatch z⟩
    refine ⟨p, _, r, v, rfl, rfl, SqL.of (hH ▸ e4), hv, ?_⟩
    exact hH ▸ k v d' Hf hd' hc' kp e5 ho hw hq
/-! ### what stays -/
theorem sh_keep {H H' : Hp} {v : V} {d : PyData} (h : VG.Sh H v d) (k : ∀ q o, v = .ref q → (∀ ps, o ≠ .tbl ps) → H q = some o → H' q = some o) : VG.Sh H' v d := by
  cases h with
  | fl f => exact .fl f
  | lst e f => exact .lst (k _ _ rfl (fun _ z => nomatch z) e) f
  | tup e f => exact .tup (k _ _ rfl (fun _ z => nomatch z) e) f
  | dct e => exact .dct (k _ _ rfl (fun _ z => nomatch z) e)
theorem pl_keep {H H' : Hp} {v : V} {t : Value} (h : Pl H v t) (k : ∀ q o, v = .ref q → (∀ ps, o ≠ .tbl ps) → H q = some o → H' q = some o) : Pl H' v t := by
  cases h with
  | non => exact .non
  | bl b => exact .bl b
  | int n => exact .int n
  | str x h => exact .str x h
  | lst e => exact .lst (k _ _ rfl (fun _ z => nomatch z) e)
  | tup e => exact .tup (k _ _ rfl (fun _ z => nomatch z) e)
  | dct e => exact .dct (k _ _ rfl (fun _ z => nomatch z) e)
theorem odd_keep {H H' : Hp} {v : V} (h : Odd H v) (k : ∀ q o, v = .ref q → (∀ ps, o ≠ .tbl ps) → H q = some o → H' q = some o) : Odd H' v := by
  obtain ⟨⟨t, p⟩, d, s, r⟩ := h
  exact ⟨⟨t, pl_keep p k⟩, d, sh_keep s k, r⟩
theorem tabs_kp {T : List (Addr × Str)} {H H' : Hp} {a : Addr} {l : List V} (t : LamX.Tabs T H) (ha : H a = some (.lst l)) (k : Kp a H H') : LamX.Tabs T H' := fun p hp => by
  obtain ⟨ps, h1, h2, h3⟩ := t p hp
  have n1 : p.1 ≠ a := fun z => by rw [z, ha] at h1; cases h1
  refine ⟨ps, k _ _ n1 h1, h2, fun pos cv hc => ?_⟩
  obtain ⟨c, e1, e2⟩ := h3 pos cv hc
  have n2 : c ≠ a := fun z => by
    rw [z, ha] at e2
    unfold LamX.CodeO at e2
    cases e2
  exact ⟨c, e1, k _ _ n2 e2⟩
/-- all but a and the tables stays -/
def KT (a : Addr) (H H' : Hp) : Prop := ∀ b o, b ≠ a → (∀ ps, o ≠ .tbl ps) → H b = some o → H' b = some o
end
end Vf


set_option Elab.async false
set_option maxRecDepth 100000
set_option maxHeartbeats 8000000
set_option exponentiation.threshold 3000
namespace Vf
open PySem L2 SX Vm
abbrev qErr : Str := "_law_errors_right" ++ ".<locals>." ++ "<lambda>"
/-- the errors are right -/
def spErr (P : Addr) : Sp := fun vs H Q _ => ∃ (a : Addr) (d : Int × Int × Int) (b : Nat), vs = [.ref a, .int (b : Int)] ∧ H a = some (.lst (dieL d)) ∧ DieOk d ∧ d.2.2 ≤ 900000000 ∧ 2 ≤ b ∧ b ≤ 5 ∧ LamX.Tabs [(P, qErr)] H ∧
  ∀ (d' : Int × Int × Int) (H' : Hp), DieOk d' → d'.2.2 ≤ d.2.2 + 3 → KT a H H' → H' a = some (.lst (dieL d')) → LamX.Tabs [(P, qErr)] H' → Q (.bl true) H'
def oddL (p1 p2 p3 : Addr) (b : Nat) : List V := [.non, .int 7, .ref p1, .ref p2, .str (toString (b : Int)), .str " ", .str "0\n", .bl true, .ref p3]
def rootL (p : Addr) : List V := [.int (-1), .int 5000, .bl true, .non, .str "0", .ref p, .int (10 ^ (40 : Int).toNat)]
theorem odd_facts {H : Hp} {a p1 p2 p3 : Addr} {b : Nat} (b2 : 2 ≤ b) (b5 : b ≤ 5) {r : Int} (r0 : 0 ≤ r) (r9 : r < 9) (h1 : H p1 = some (.tup [])) (h2 : H p2 = some (.lst [.str "0"])) (h3 : H p3 = some (.dK [])) (n1 : p1 ≠ a) (n2 : p2 ≠ a) (n3 : p3 ≠ a) :
    ∃ v t, atI (oddL p1 p2 p3 b) r = some v ∧ Pl H v t ∧ wordV b v = false ∧ ∀ q, v = .ref q → q ≠ a := by
  have : r = 0 ∨ r = 1 ∨ r = 2 ∨ r = 3 ∨ r = 4 ∨ r = 5 ∨ r = 6 ∨ r = 7 ∨ r = 8 := by omega
  have bb : b = 2 ∨ b = 3 ∨ b = 4 ∨ b = 5 := by omega
  rcases this with e | e | e | e | e | e | e | e | e <;> subst e
  · exact ⟨_, _, rfl, .non, rfl, fun _ z => nomatch z⟩
  · exact ⟨_, _, rfl, .int 7, rfl, fun _ z => nomatch z⟩
  · exact ⟨_, _, rfl, .tup h1, rfl, fun _ z => V.ref.inj z ▸ n1⟩
  · exact ⟨_, _, rfl, .lst h2, rfl, fun _ z => V.ref.inj z ▸ n2⟩
  · refine ⟨_, _, rfl, .str _ ?_, ?_, fun _ z => nomatch z⟩
    · rcases bb with e | e | e | e <;> subst e <;> decide +kernel
    · rcases bb with e | e | e | e <;> subst e <;> decide +kernel
  · refine ⟨_, _, rfl, .str _ (by decide +kernel), ?_, fun _ z => nomatch z⟩
    rcases bb with e | e | e | e <;> subst e <;> decide +kernel
  · refine ⟨_, _, rfl, .str _ (by decide +kernel), ?_, fun _ z => nomatch z⟩
    rcases bb with e | e | e | e <;> subst e <;> decide +kernel
  · exact ⟨_, _, rfl, .bl true, rfl, fun _ z => nomatch z⟩
  · exact ⟨_, _, rfl, .dct h3, rfl, fun _ z => V.ref.inj z ▸ n3⟩
theorem root_facts {H : Hp} {a p : Addr} {r : Int} (r0 : 0 ≤ r) (r9 : r < 7) (h1 : H p = some (.tup [.int 0])) (n1 : p ≠ a) :
    ∃ v t, atI (rootL p) r = some v ∧ Pl H v t ∧ withinV 0 4999 v = false ∧ ∀ q, v = .ref q → q ≠ a := by
  have : r = 0 ∨ r = 1 ∨ r = 2 ∨ r = 3 ∨ r = 4 ∨ r = 5 ∨ r = 6 := by omega
  rcases this with e | e | e | e | e | e | e <;> subst e
  · exact ⟨_, _, rfl, .int _, rfl, fun _ z => nomatch z⟩
  · exact ⟨_, _, rfl, .int _, rfl, fun _ z => nomatch z⟩
  · exact ⟨_, _, rfl, .bl _, rfl, fun _ z => nomatch z⟩
  · exact ⟨_, _, rfl, .non, rfl, fun _ z => nomatch z⟩
  · exact ⟨_, _, rfl, .str _ (by decide +kernel), rfl, fun _ z => nomatch z⟩
  · exact ⟨_, _, rfl, .tup h1, rfl, fun _ z => V.ref.inj z ▸ n1⟩
  · exact ⟨_, _, rfl, .int _, by decide +kernel, fun _ z => nomatch z⟩
section
variable {P : Program} {w : World} {K : PySem.W.Frag} {mg : Str → Option Value} {base : Heap}
theorem scErr : FnScope ["die", "base", "found", "odd", "root", "wrong"] ["die", "base"] (defScope sErr) := ⟨rfl, rfl, rfl, by decide +kernel, rfl, by decide +kernel, by decide +kernel⟩
/-- a def as its text stands, for a call by a lambda -/
structure ToldFn (K : PySem.W.Frag) (mg : Str → Option Value) (g : Addr) : Prop where
  m : mg "_law_told" = some (.ref g)
  kp : PySem.W.keepIn K (.ref g) = true
  lk : ∃ (oc : Value) (od : Option Addr) (kV doc pm : Value) (an : Option Addr) (cdv ct : Value) (osl : Array (Option Value)), K.lookup g = some ⟨oc, od, .func (PySem.W.fnOf "_law_told" "_law_told" (defArgs sTold) (defBody sTold) (defScope sTold) .none kV doc pm an cdv ct), osl⟩ ∧ PySem.W.codeIn K cdv "_law_told" = true ∧
    Binds K (PySem.W.fnOf "_law_told" "_law_told" (defArgs sTold) (defBody sTold) (defScope sTold) .none kV doc pm an cdv ct) ["call"] []
theorem ok_err {f fB fP fM g c Pt CN CP CS CX CO : Addr} {fd fdB fdP fdM : FuncData} (F : Fun K "_law_errors_right" "_law_errors_right" sErr f fd)
    (GB : FnOk P w K mg base CX0 2 fB fdB ["die"] spNoBase) (cB : Cal K mg "_law_no_base" fB fdB ["die"]) (GP : FnOk P w K mg base CX0 1 fP fdP ["die", "many"] spPull) (cP : Cal K mg "_law_pull" fP fdP ["die", "many"])
    (GM : FnOk P w K mg base (L2.CX P w) 5 fM fdM ["base", "root", "head", "period"] (spMake CN CS)) (cM : Cal K mg "make_stream" fM fdM ["base", "root", "head", "period"]) (TF : ToldFn K mg g) (T : ToldTxt K mg CN CP CS CX CO)
    (TB : LamX.TabB base mg c Pt) (hcd : ∀ (cdv : Value), (∃ (oc : Value) (od : Option Addr) (kV doc pm : Value) (an : Option Addr) (ct : Value) (osl : Array (Option Value)), K.lookup f = some ⟨oc, od, .func (PySem.W.fnOf "_law_errors_right" "_law_errors_right" (defArgs sErr) (defBody sErr) (defScope sErr) .none kV doc pm an cdv ct), osl⟩) → cdv = .ref c)
    (N : Nm mg) : VG.FnG P w K mg base 8 f fd ["die", "base"] (spErr Pt) := by
  obtain ⟨oc, od, kV, doc, pm, an, cdg, ct, osl, lkT, hcT, bT⟩ := TF.lk
  refine VG.FnG.of F scErr (fun vs H Q E h => ?_) (fun cdv A outer s H vs Q E gd hr _ hlk h => ?_)
  · obtain ⟨a, d, b, rfl, _⟩ := h
    rfl
  · have ecd := hcd cdv hlk
    obtain ⟨a, d, b, rfl, ha, hd, hc, b2, b5, tabs, k⟩ := h
    have nd := scErr.nd
    have hr1 := hr.mono (show 1 ≤ 7 by decide)
    have hr2 := hr.mono (show 2 ≤ 7 by decide)
    have hun : A.units + 3 + 64 < cLine := hr.units
    refine ⟨_, pss_cons (ps_asg (pe_tup (pa_cons (pe_call GB hr2 rfl cB.mg cB.kp cB.b .nil pass0 (pa_cons (pv 0) pa_nil))
        (pa_cons (pe_ix ix_list (pe_lst (pa_cons pe_non (pa_cons pe_int (pa_cons (pe_tup pa_nil) (pa_cons (pe_lst (pa_cons pe_str pa_nil)) (pa_cons (pe_callTy call_str_int (by rfl) N.str PyProof.Rows.boot_str (pa_cons (pv 1) pa_nil)) (pa_cons pe_str (pa_cons pe_str (pa_cons pe_bl (pa_cons pe_dnewK pa_nil))))))))))
          (pe_call GP hr1 rfl cP.mg cP.kp cP.b .nil pass0 (pa_cons (pv 0) (pa_cons pe_int pa_nil))) (fun _ _ => rfl)) pa_nil)))
        (pg_tup rfl (pgs_cons (pg_name (i := 5) nd rfl (.inr rfl)) (pgs_cons (pg_name (i := 3) nd rfl (.inr rfl)) pgs_nil))))
      (pss_cons (ps_set (i := 4) nd rfl (.inr rfl) (pe_ix ix_list (pe_lst (pa_cons (pe_un un_neg pe_int) (pa_cons pe_int (pa_cons pe_bl (pa_cons pe_non (pa_cons pe_str (pa_cons (pe_tup (pa_cons pe_int pa_nil)) (pa_cons (pe_op op_pow pe_int pe_int) pa_nil))))))))
          (pe_call GP hr1 rfl cP.mg cP.kp cP.b .nil pass0 (pa_cons (pv 0) (pa_cons pe_int pa_nil))) (fun _ _ => rfl)))
      (pss_cons (ps_set (i := 2) nd rfl (.inl rfl) (pe_lst (pa_cons (LamX.pe_lamcall (T := [(Pt, qErr)]) rfl TF.m TF.kp lkT hcT bT scTold rfl (.inl rfl) (told_gives T gd (by show A.units + 3 + 20 < cLine; omega)) TB ecd (by exact List.Mem.head _) (fun p hp _ => congrArg Prod.snd (List.mem_singleton.mp hp)) hr (LamX.lamS_by (by show LamX.lamSB (defScope sErr) _ = true; decide +kernel)) rfl (fun _ _ _ _ _ => rfl)
          (fun A' outer' s' H' E' f' c' hr' => pe_call GM hr' rfl cM.mg cM.kp cM.b .nil (passes_call (takes_of rfl rfl rfl rfl) (fun _ _ _ _ h => h)) (pa_cons (pv 5) (pa_cons (pv 4) (pa_cons (pv 3) (pa_cons (pv 3) pa_nil)))))) pa_nil)))
      (pss_cons (ps_expr (pe_bm PySem.F.plainAttrs_list PySem.F.slot_list_append PySem.F.type_list_append mt_append (pv 2) (pa_cons (LamX.pe_lamcall (T := [(Pt, qErr)]) rfl TF.m TF.kp lkT hcT bT scTold rfl (.inl rfl) (told_gives T gd (by show A.units + 3 + 20 < cLine; omega)) TB ecd (by exact List.Mem.head _) (fun p hp _ => congrArg Prod.snd (List.mem_singleton.mp hp)) hr (LamX.lamS_by (by show LamX.lamSB (defScope sErr) _ = true; decide +kernel)) rfl (fun _ _ _ _ _ => rfl)
          (fun A' outer' s' H' E' f' c' hr' => pe_call GM hr' rfl cM.mg cM.kp cM.b .nil (passes_call (takes_of rfl rfl rfl rfl) (fun _ _ _ _ h => h)) (pa_cons (pv 1) (pa_cons (pv 4) (pa_cons pe_str (pa_cons pe_str pa_nil)))))) pa_nil)))
      (pss_cons (ps_expr (pe_bm PySem.F.plainAttrs_list PySem.F.slot_list_append PySem.F.type_list_append mt_append (pv 2) (pa_cons (LamX.pe_lamcall (T := [(Pt, qErr)]) rfl TF.m TF.kp lkT hcT bT scTold rfl (.inl rfl) (told_gives T gd (by show A.units + 3 + 20 < cLine; omega)) TB ecd (by exact List.Mem.head _) (fun p hp _ => congrArg Prod.snd (List.mem_singleton.mp hp)) hr (LamX.lamS_by (by show LamX.lamSB (defScope sErr) _ = true; decide +kernel)) rfl (fun _ _ _ _ _ => rfl)
          (fun A' outer' s' H' E' f' c' hr' => pe_call GM hr' rfl cM.mg cM.kp cM.b .nil (passes_call (takes_of rfl rfl rfl rfl) (fun _ _ _ _ h => h)) (pa_cons (pv 1) (pa_cons pe_int (pa_cons (pv 3) (pa_cons pe_str pa_nil)))))) pa_nil)))
      (pss_cons (ps_expr (pe_bm PySem.F.plainAttrs_list PySem.F.slot_list_append PySem.F.type_list_append mt_append (pv 2) (pa_cons (LamX.pe_lamcall (T := [(Pt, qErr)]) rfl TF.m TF.kp lkT hcT bT scTold rfl (.inl rfl) (told_gives T gd (by show A.units + 3 + 20 < cLine; omega)) TB ecd (by exact List.Mem.head _) (fun p hp _ => congrArg Prod.snd (List.mem_singleton.mp hp)) hr (LamX.lamS_by (by show LamX.lamSB (defScope sErr) _ = true; decide +kernel)) rfl (fun _ _ _ _ _ => rfl)
          (fun A' outer' s' H' E' f' c' hr' => pe_call GM hr' rfl cM.mg cM.kp cM.b .nil (passes_call (takes_of rfl rfl rfl rfl) (fun _ _ _ _ h => h)) (pa_cons (pv 1) (pa_cons pe_int (pa_cons pe_str (pa_cons (pv 3) pa_nil)))))) pa_nil)))
      (pss_cons (ps_expr (pe_bm PySem.F.plainAttrs_list PySem.F.slot_list_append PySem.F.type_list_append mt_append (pv 2) (pa_cons (LamX.pe_lamcall (T := [(Pt, qErr)]) rfl TF.m TF.kp lkT hcT bT scTold rfl (.inl rfl) (told_gives T gd (by show A.units + 3 + 20 < cLine; omega)) TB ecd (by exact List.Mem.head _) (fun p hp _ => congrArg Prod.snd (List.mem_singleton.mp hp)) hr (LamX.lamS_by (by show LamX.lamSB (defScope sErr) _ = true; decide +kernel)) rfl (fun _ _ _ _ _ => rfl)
          (fun A' outer' s' H' E' f' c' hr' => pe_call GM hr' rfl cM.mg cM.kp cM.b .nil (passes_call (takes_of rfl rfl rfl rfl) (fun _ _ _ _ h => h)) (pa_cons (pv 1) (pa_cons pe_int (pa_cons pe_str (pa_cons pe_str pa_nil)))))) pa_nil)))
      (pss_one (ps_ret (pe_cmpR (op_eqD hun) (pv 2) (pe_op op_cat (pe_lst (pa_cons (pe_op op_add_str pe_str (pe_callB (VG.call_repr gd (by show A.units + 3 + 10 < cLine; omega)) (by rfl) T.rep PyProof.Rows.boot_repr (pa_cons (pv 5) pa_nil))) pa_nil)) (pe_op op_rep (pe_lst (pa_cons pe_str pa_nil)) pe_int)) (nomark _)))))))))), ?_⟩
    refine ⟨_, rfl, a, d, rfl, ha, hd, by omega, fun wrong d1 H1 hd1 hc1 kp1 ha1 ow ww nw => ?_⟩
    have hlog : ((b : Int)).natAbs.log2 < 1920 := by
      have : b = 2 ∨ b = 3 ∨ b = 4 ∨ b = 5 := by omega
      rcases this with e | e | e | e <;> subst e <;> decide +kernel
    refine ⟨(by show 0 ≤ sizeLine; decide), fun p1 n1 => ⟨(by show 1 ≤ sizeLine; decide), fun p2 n2 => ⟨_, rfl, _, rfl, hlog, fun p3 n3 => ⟨(by show 9 ≤ sizeLine; decide), fun p n => ?_⟩⟩⟩⟩
    -- the odd value
    have m1 := ne_of_none ha1 n1
    have a1 : upd H1 p1 (.tup []) a = some (.lst (dieL d1)) := by rw [upd_ne m1]; exact ha1
    have m2 := ne_of_none a1 n2
    have a2 : upd (upd H1 p1 (.tup [])) p2 (.lst [.str "0"]) a = some (.lst (dieL d1)) := by rw [upd_ne m2]; exact a1
    have m3 := ne_of_none a2 n3
    have a3 : upd (upd (upd H1 p1 (.tup [])) p2 (.lst [.str "0"])) p3 (.dK []) a = some (.lst (dieL d1)) := by rw [upd_ne m3]; exact a2
    have m4 := ne_of_none a3 n
    have q12 : p1 ≠ p2 := ne_of_none upd_same n2
    have b1 : upd (upd H1 p1 (.tup [])) p2 (.lst [.str "0"]) p1 = some (.tup []) := by rw [upd_ne q12, upd_same]
    have q13 : p1 ≠ p3 := ne_of_none b1 n3
    have q23 : p2 ≠ p3 := ne_of_none upd_same n3
    have c1 : upd (upd (upd H1 p1 (.tup [])) p2 (.lst [.str "0"])) p3 (.dK []) p1 = some (.tup []) := by rw [upd_ne q13]; exact b1
    have c2 : upd (upd (upd H1 p1 (.tup [])) p2 (.lst [.str "0"])) p3 (.dK []) p2 = some (.lst [.str "0"]) := by rw [upd_ne q23, upd_same]
    have q1 := ne_of_none c1 n
    have q2 := ne_of_none c2 n
    have q3 : p3 ≠ p := ne_of_none upd_same n
    refine ⟨_, rfl, a, d1, _, rfl, by rw [upd_ne m4]; exact a3, hd1, by decide, by decide, by omega, fun r d2 hd2 hc2 r0 r1 => ?_⟩
    generalize hH : upd (upd (upd (upd (upd H1 p1 (.tup [])) p2 (.lst [.str "0"])) p3 (.dK [])) p (.lst [V.non, .int 7, .ref p1, .ref p2, .str (toString (b : Int)), .str " ", .str "0\n", .bl true, .ref p3])) a (.lst (dieL d2)) = H2
    have e1 : H2 p1 = some (.tup []) := by rw [← hH, upd_ne m1.symm, upd_ne q1]; exact c1
    have e2 : H2 p2 = some (.lst [.str "0"]) := by rw [← hH, upd_ne m2.symm, upd_ne q2]; exact c2
    have e3 : H2 p3 = some (.dK []) := by rw [← hH, upd_ne m3.symm, upd_ne q3, upd_same]
    have e4 : H2 p = some (.lst (oddL p1 p2 p3 b)) := by rw [← hH, upd_ne m4.symm, upd_same]; rfl
    have e5 : H2 a = some (.lst (dieL d2)) := by rw [← hH, upd_same]
    have kp2 : Kp a H1 H2 := by
      rw [← hH]
      exact ((((Kp.new n1).trans (Kp.new n2)).trans (Kp.new n3)).trans (Kp.new n)).trans Kp.upd
    obtain ⟨odd, todd, hodd, podd, wodd, nodd⟩ := odd_facts b2 b5 r0 r1 e1 e2 e3 m1.symm m2.symm m3.symm
    refine ⟨p, _, r, odd, rfl, rfl, SqL.of (hH ▸ e4), hodd, ?_⟩
    clear n1 n2 n3 n a1 a2 a3 q12 b1 q13 q23 c1 c2 q1 q2 q3
    refine ⟨(by show 2 ≤ sizeLine; decide), fun p4 n4 => ⟨p4, _, rfl, SqT.of upd_same, rfl, _, _, rfl, _, _, rfl, rfl, ?_⟩⟩
    -- the root
    have m5 := ne_of_none e5 n4
    have kp3 : Kp a H2 (upd H2 p4 (.tup [wrong, odd])) := Kp.new n4
    have f5 : upd H2 p4 (.tup [wrong, odd]) a = some (.lst (dieL d2)) := by rw [upd_ne m5]; exact e5
    generalize upd H2 p4 (.tup [wrong, odd]) = H3 at *
    refine ⟨_, rfl, (by show 1 ≤ sizeLine; decide), fun p5 n5 => ⟨_, _, rfl, rfl, ⟨by decide, by decide, by decide +kernel⟩, (by show 7 ≤ sizeLine; decide), fun p6 n6 => ?_⟩⟩
    have m6 := ne_of_none f5 n5
    have a4 : upd H3 p5 (.tup [.int 0]) a = some (.lst (dieL d2)) := by rw [upd_ne m6]; exact f5
    have m7 := ne_of_none a4 n6
    have q56 : p5 ≠ p6 := ne_of_none upd_same n6
    refine ⟨_, rfl, a, d2, _, rfl, by rw [upd_ne m7]; exact a4, hd2, by decide, by decide, by omega, fun s' d3 hd3 hc3 s0 s1 => ?_⟩
    generalize hH3 : upd (upd (upd H3 p5 (.tup [.int 0])) p6 (.lst [V.int (-1), .int 5000, .bl true, .non, .str "0", .ref p5, .int (10 ^ (40 : Int).toNat)])) a (.lst (dieL d3)) = H4
    have g1 : H4 p5 = some (.tup [.int 0]) := by rw [← hH3, upd_ne m6.symm, upd_ne q56, upd_same]
    have g4 : H4 p6 = some (.lst (rootL p5)) := by rw [← hH3, upd_ne m7.symm, upd_same]; rfl
    have ga5 : H4 a = some (.lst (dieL d3)) := by rw [← hH3, upd_same]
    have kp4 : Kp a H3 H4 := by
      rw [← hH3]
      exact ((Kp.new n5).trans (Kp.new n6)).trans Kp.upd
    obtain ⟨root, troot, hroot, proot, wroot, nroot⟩ := root_facts s0 s1 g1 m6.symm
    refine ⟨p6, _, s', root, rfl, rfl, SqL.of (hH3 ▸ g4), hroot, ?_⟩
    clear n5 n6 a4 q56 n4
    have kp24 : Kp a H2 H4 := kp3.trans kp4
    have kp14 : Kp a H1 H4 := kp2.trans kp24
    have KH : Kp a H H4 := kp1.trans kp14
    have T4 : LamX.Tabs [(Pt, qErr)] H4 := tabs_kp tabs ha KH
    obtain ⟨⟨tw, pw⟩, pd, shw, shs, shz, shl⟩ := odd_keep ow (fun q o e _ h => kp14 q o (nw q e) h)
    have podd4 : Pl H4 odd todd := pl_keep podd (fun q o e _ h => kp24 q o (nodd q e) h)
    have kpl : ∀ {v : V} {t : Value} {J : Hp}, LamX.ExtN H4 J → Pl H4 v t → Pl J v t := fun e p => pl_keep p (fun q o _ nt h => e q o h nt)
    clear hH hH3 e1 e2 e3 e4 g1 g4
    refine ⟨T4, fun J1 eN1 T1 => ?_⟩
    refine ⟨_, rfl, _, rfl, _, rfl, _, rfl, wrong, root, odd, odd, tw, troot, todd, todd, rfl, kpl eN1 pw, kpl eN1 proot, kpl eN1 podd4, kpl eN1 podd4, fun _ dd ndd => ?_, fun n e n2 n5 => absurd ww (by rw [e]; show ¬ ((decide ((2 : Int) ≤ n) && decide ((n : Int) ≤ 5)) = false); simp; omega)⟩
    have x2 : ∀ b o, J1 b = some o → upd J1 dd (.xd [(("value" : Str), wrong)]) b = some o := fun b o e => by rw [upd_ne (ne_of_none e ndd)]; exact e
    refine .inl ⟨dd, wrong, pd, rfl, rfl, upd_same, sh_keep shw (fun q o _ nt h => x2 _ _ (eN1 q o h nt)), shs, shz, ?_⟩
    have eN2 := eN1.trans (LamX.ExtN.of x2)
    have T2 : LamX.Tabs [(Pt, qErr)] (upd J1 dd (.xd [(("value" : Str), wrong)])) := fun q hq => (T1 q hq).ext x2
    generalize upd J1 dd (.xd [(("value" : Str), wrong)]) = J2 at *
    refine ⟨(by show 1 ≤ sizeLine; decide), fun l nl => ?_⟩
    have nl4 : ∀ b o, H4 b = some o → (∀ ps, o ≠ .tbl ps) → b ≠ l := fun b o e nt => ne_of_none (eN2 b o e nt) nl
    have x3 : ∀ b o, J2 b = some o → upd J2 l (.lst [.str (("number " : Str) ++ pd.shown)]) b = some o := fun b o e => by rw [upd_ne (ne_of_none e nl)]; exact e
    have eN3 := eN2.trans (LamX.ExtN.of x3)
    have T3 : LamX.Tabs [(Pt, qErr)] (upd J2 l (.lst [.str (("number " : Str) ++ pd.shown)])) := fun q hq => (T2 q hq).ext x3
    have h3 : upd J2 l (.lst [.str (("number " : Str) ++ pd.shown)]) l = some (.lst [.str (("number " : Str) ++ pd.shown)]) := upd_same
    generalize upd J2 l (.lst [.str (("number " : Str) ++ pd.shown)]) = J3 at *
    have wb : withinV 2 5 (.int (b : Int)) = true := by
      show (decide ((2 : Int) ≤ b) && decide ((b : Int) ≤ 5)) = true
      rw [decide_eq_true (by omega), decide_eq_true (by omega)]
      rfl
    -- a list of the table grows
    have grow : ∀ {J : Hp} {xs ys : List V}, LamX.ExtN H4 J → LamX.Tabs [(Pt, qErr)] J → J l = some (.lst xs) → LamX.ExtN H4 (upd J l (.lst ys)) ∧ LamX.Tabs [(Pt, qErr)] (upd J l (.lst ys)) := fun {J xs ys} e t hl => by
      refine ⟨fun b o hb nt => by rw [upd_ne (nl4 b o hb nt)]; exact e b o hb nt, tabs_kp t hl Kp.upd⟩
    have w1 : wordV b (.str "1") = true := by
      have : b = 2 ∨ b = 3 ∨ b = 4 ∨ b = 5 := by omega
      rcases this with e | e | e | e <;> subst e <;> decide +kernel
    -- call 3
    refine ⟨_, rfl, .inl ⟨rfl, _, SqL.of h3⟩, T3, fun K3 f3 U3 => ?_⟩
    have g3 : LamX.ExtN H4 K3 := eN3.trans f3
    have end3 : ∀ Z : Hp, Same K3 Z → Z l = some (.lst [.str (("number " : Str) ++ pd.shown)]) ∧ LamX.ExtN H4 Z ∧ LamX.Tabs [(Pt, qErr)] Z := fun Z z => ⟨z _ _ (f3 _ _ h3 (fun _ z => nomatch z)), g3.trans (LamX.ExtN.of z), fun q hq => (U3 q hq).ext z⟩
    refine ⟨_, rfl, _, rfl, _, _, _, _, _, _, _, _, rfl, .int _, kpl g3 proot, .str _ (by decide +kernel), .str _ (by decide +kernel), fun z => absurd z (by rw [wb]; decide), fun n e n2 n5 => ?_⟩
    obtain rfl : b = n := Int.ofNat.inj (V.int.inj e)
    refine ⟨fun _ => ?_, fun z => absurd z (by rw [wroot]; exact Bool.false_ne_true)⟩
    refine .inr ⟨rfl, rfl, fun Z same => ?_⟩
    obtain ⟨h3', eN3', T3'⟩ := end3 Z same
    refine ⟨l, _, .str "stream", rfl, rfl, h3', (by show 1 < sizeLine; decide), ?_⟩
    have h4 : upd Z l (.lst [.str (("number " : Str) ++ pd.shown), .str "stream"]) l = some (.lst [.str (("number " : Str) ++ pd.shown), .str "stream"]) := upd_same
    obtain ⟨eN4, T4⟩ := grow (ys := [.str (("number " : Str) ++ pd.shown), .str "stream"]) eN3' T3' h3'
    generalize hZ3 : upd Z l (.lst [.str (("number " : Str) ++ pd.shown), .str "stream"]) = J4 at h4 eN4 T4
    refine hZ3 ▸ ?_
    -- call 4
    refine ⟨_, rfl, .inl ⟨rfl, _, SqL.of h4⟩, T4, fun K4 f4 U4 => ?_⟩
    have g4 : LamX.ExtN H4 K4 := eN4.trans f4
    have end4 : ∀ Z : Hp, Same K4 Z → Z l = some (.lst [.str (("number " : Str) ++ pd.shown), .str "stream"]) ∧ LamX.ExtN H4 Z ∧ LamX.Tabs [(Pt, qErr)] Z := fun Z z => ⟨z _ _ (f4 _ _ h4 (fun _ z => nomatch z)), g4.trans (LamX.ExtN.of z), fun q hq => (U4 q hq).ext z⟩
    refine ⟨_, rfl, _, rfl, _, _, _, _, _, _, _, _, rfl, .int _, .int _, kpl g4 podd4, .str _ (by decide +kernel), fun z => absurd z (by rw [wb]; decide), fun n e n2 n5 => ?_⟩
    obtain rfl : b = n := Int.ofNat.inj (V.int.inj e)
    refine ⟨fun _ => ?_, fun z => absurd z (by rw [wodd, Bool.and_false]; exact Bool.false_ne_true)⟩
    refine .inr ⟨rfl, rfl, fun Z same => ?_⟩
    obtain ⟨h4', eN4', T4'⟩ := end4 Z same
    refine ⟨l, _, .str "stream", rfl, rfl, h4', (by show 2 < sizeLine; decide), ?_⟩
    have h5 : upd Z l (.lst [.str (("number " : Str) ++ pd.shown), .str "stream", .str "stream"]) l = some (.lst [.str (("number " : Str) ++ pd.shown), .str "stream", .str "stream"]) := upd_same
    obtain ⟨eN5, T5⟩ := grow (ys := [.str (("number " : Str) ++ pd.shown), .str "stream", .str "stream"]) eN4' T4' h4'
    generalize hZ4 : upd Z l (.lst [.str (("number " : Str) ++ pd.shown), .str "stream", .str "stream"]) = J5 at h5 eN5 T5
    refine hZ4 ▸ ?_
    -- call 5
    refine ⟨_, rfl, .inl ⟨rfl, _, SqL.of h5⟩, T5, fun K5 f5 U5 => ?_⟩
    have g5 : LamX.ExtN H4 K5 := eN5.trans f5
    have end5 : ∀ Z : Hp, Same K5 Z → Z l = some (.lst [.str (("number " : Str) ++ pd.shown), .str "stream", .str "stream"]) ∧ LamX.ExtN H4 Z ∧ LamX.Tabs [(Pt, qErr)] Z := fun Z z => ⟨z _ _ (f5 _ _ h5 (fun _ z => nomatch z)), g5.trans (LamX.ExtN.of z), fun q hq => (U5 q hq).ext z⟩
    refine ⟨_, rfl, _, rfl, _, _, _, _, _, _, _, _, rfl, .int _, .int _, .str _ (by decide +kernel), kpl g5 podd4, fun z => absurd z (by rw [wb]; decide), fun n e n2 n5 => ?_⟩
    obtain rfl : b = n := Int.ofNat.inj (V.int.inj e)
    refine ⟨fun z => absurd z (by rw [w1]; decide), fun _ => ⟨fun _ => ?_, fun h1 q1 _ eq _ wq => absurd (wordV_of wq) (by rw [← eq, wodd]; exact Bool.false_ne_true)⟩⟩
    refine .inr ⟨rfl, rfl, fun Z same => ?_⟩
    obtain ⟨h5', eN5', T5'⟩ := end5 Z same
    refine ⟨l, _, .str "stream", rfl, rfl, h5', (by show 3 < sizeLine; decide), ?_⟩
    have h6 : upd Z l (.lst [.str (("number " : Str) ++ pd.shown), .str "stream", .str "stream", .str "stream"]) l = some (.lst [.str (("number " : Str) ++ pd.shown), .str "stream", .str "stream", .str "stream"]) := upd_same
    obtain ⟨eN6, T6⟩ := grow (ys := [.str (("number " : Str) ++ pd.shown), .str "stream", .str "stream", .str "stream"]) eN5' T5' h5'
    generalize hZ5 : upd Z l (.lst [.str (("number " : Str) ++ pd.shown), .str "stream", .str "stream", .str "stream"]) = J6 at h6 eN6 T6
    refine hZ5 ▸ ?_
    -- call 6
    refine ⟨_, rfl, .inl ⟨rfl, _, SqL.of h6⟩, T6, fun K6 f6 U6 => ?_⟩
    have g6 : LamX.ExtN H4 K6 := eN6.trans f6
    have end6 : ∀ Z : Hp, Same K6 Z → Z l = some (.lst [.str (("number " : Str) ++ pd.shown), .str "stream", .str "stream", .str "stream"]) ∧ LamX.ExtN H4 Z ∧ LamX.Tabs [(Pt, qErr)] Z := fun Z z => ⟨z _ _ (f6 _ _ h6 (fun _ z => nomatch z)), g6.trans (LamX.ExtN.of z), fun q hq => (U6 q hq).ext z⟩
    refine ⟨_, rfl, _, _, _, _, _, _, _, _, rfl, .int _, .int _, .str _ (by decide +kernel), .str _ (by decide +kernel), fun z => absurd z (by rw [wb]; decide), fun n e n2 n5 => ?_⟩
    obtain rfl : b = n := Int.ofNat.inj (V.int.inj e)
    refine ⟨fun z => absurd z (by rw [w1]; decide), fun _ => ⟨fun _ => ?_, fun h1 q1 _ eq lq _ => absurd lq (by
      have z : ("" : Str).length = (S q1).length := congrArg (fun s : Str => s.length) (V.str.inj eq)
      have z0 : ("" : Str).length = 0 := by decide +kernel
      rw [S_len] at z
      have z2 : 0 = q1.length := z0.symm.trans z
      omega)⟩⟩
    refine .inr ⟨rfl, rfl, fun Z same => ?_⟩
    obtain ⟨h6', eN6', T6'⟩ := end6 Z same
    refine ⟨l, _, .str "stream", rfl, rfl, h6', (by show 4 < sizeLine; decide), ?_⟩
    have h7 : upd Z l (.lst [.str (("number " : Str) ++ pd.shown), .str "stream", .str "stream", .str "stream", .str "stream"]) l = some (.lst [.str (("number " : Str) ++ pd.shown), .str "stream", .str "stream", .str "stream", .str "stream"]) := upd_same
    obtain ⟨eN7, T7⟩ := grow (ys := [.str (("number " : Str) ++ pd.shown), .str "stream", .str "stream", .str "stream", .str "stream"]) eN6' T6' h6'
    generalize hZ6 : upd Z l (.lst [.str (("number " : Str) ++ pd.shown), .str "stream", .str "stream", .str "stream", .str "stream"]) = J7 at h7 eN7 T7
    refine hZ6 ▸ ?_
    have en : ("number " : Str).length = 7 := by decide +kernel
    refine ⟨_, rfl, _, rfl, wrong, pd, rfl, sh_keep shw (fun q o _ nt h => eN7 q o h nt), shs, Nat.le_trans shz (by decide), _, _, rfl, rfl, ?_, (by show 1 ≤ sizeLine; decide), fun q1 k1 => ⟨(by show 1 ≤ sizeLine; decide), fun q2 k2 => ?_⟩⟩
    · rw [en]
      exact Nat.le_trans (show 7 + pd.shown.length ≤ 1007 by omega) (by decide)
    refine ⟨q2, 4, _, rfl, rfl, upd_same, by decide, by decide, (by show 1 * 4 ≤ sizeLine; decide), fun q3 k3 => ?_⟩
    have r12 : q1 ≠ q2 := ne_of_none upd_same k2
    have s1 : upd (upd J7 q1 (.lst [.str (("number " : Str) ++ pd.shown)])) q2 (.lst [.str "stream"]) q1 = some (.lst [.str (("number " : Str) ++ pd.shown)]) := by rw [upd_ne r12, upd_same]
    have r13 : q1 ≠ q3 := ne_of_none s1 k3
    refine ⟨q1, q3, _, _, rfl, rfl, (by rw [upd_ne r13]; exact s1), upd_same, (by show 1 + 4 ≤ sizeLine; decide), fun q4 k4 => ?_⟩
    have X : ∀ b o, J7 b = some o → upd (upd (upd (upd J7 q1 (.lst [.str (("number " : Str) ++ pd.shown)])) q2 (.lst [.str "stream"])) q3 (.lst (List.replicate (4 : Int).toNat [V.str "stream"]).flatten)) q4 (.lst ([V.str (("number " : Str) ++ pd.shown)] ++ (List.replicate (4 : Int).toNat [V.str "stream"]).flatten)) b = some o := fun b o e => by
      have e1 : upd J7 q1 (.lst [.str (("number " : Str) ++ pd.shown)]) b = some o := by rw [upd_ne (ne_of_none e k1)]; exact e
      have e2 : upd (upd J7 q1 (.lst [.str (("number " : Str) ++ pd.shown)])) q2 (.lst [.str "stream"]) b = some o := by rw [upd_ne (ne_of_none e1 k2)]; exact e1
      have e3 : upd (upd (upd J7 q1 (.lst [.str (("number " : Str) ++ pd.shown)])) q2 (.lst [.str "stream"])) q3 (.lst (List.replicate (4 : Int).toNat [V.str "stream"]).flatten) b = some o := by rw [upd_ne (ne_of_none e2 k3)]; exact e2
      rw [upd_ne (ne_of_none e3 k4)]
      exact e3
    have h8 : upd (upd (upd (upd J7 q1 (.lst [.str (("number " : Str) ++ pd.shown)])) q2 (.lst [.str "stream"])) q3 (.lst (List.replicate (4 : Int).toNat [V.str "stream"]).flatten)) q4 (.lst ([V.str (("number " : Str) ++ pd.shown)] ++ (List.replicate (4 : Int).toNat [V.str "stream"]).flatten)) q4 = some (.lst ([V.str (("number " : Str) ++ pd.shown)] ++ (List.replicate (4 : Int).toNat [V.str "stream"]).flatten)) := upd_same
    have lay : PyData.canLay0 (.list [.str (("number " : Str) ++ pd.shown), .str "stream", .str "stream", .str "stream", .str "stream"]) = true := by
      show (PyData.canLay0 (.str (("number " : Str) ++ pd.shown)) && PyData.canLayAll0 [.str "stream", .str "stream", .str "stream", .str "stream"]) = true
      rw [shl]
      decide +kernel
    have shp : SeqAt.shaped (.list [.str (("number " : Str) ++ pd.shown), .str "stream", .str "stream", .str "stream", .str "stream"]) = true := by
      unfold SeqAt.shaped
      rw [lay]
      rfl
    refine ⟨.list [.str (("number " : Str) ++ pd.shown), .str "stream", .str "stream", .str "stream", .str "stream"], .list [.str (("number " : Str) ++ pd.shown), .str "stream", .str "stream", .str "stream", .str "stream"],
      .lst (SqL.of (X _ _ h7)) (.cons (.str _) (.cons (.str _) (.cons (.str _) (.cons (.str _) (.cons (.str _) .nil))))), .lst (SqL.of h8) (.cons (.str _) (.cons (.str _) (.cons (.str _) (.cons (.str _) (.cons (.str _) .nil))))), shp, shp, ?_⟩
    rw [PySem.SeqAt.eqv_refl _ lay]
    exact k d3 _ hd3 (by omega) (fun b o n nt e => X _ _ (eN7 _ _ (KH _ _ n e) nt)) (X _ _ (eN7 _ _ ga5 (fun _ z => nomatch z))) (fun q hq => (T7 q hq).ext X)
end
end Vf


set_option Elab.async false
set_option maxRecDepth 100000
set_option maxHeartbeats 4000000
set_option exponentiation.threshold 3000
namespace Vf
open PySem L2 SX Vm
/-- what a stream shows is short -/
theorem tuple3_len (a b c : Str) : (PySem.tupleText [a, b, c]).length = a.length + b.length + c.length + 6 := by
  unfold PySem.tupleText
  have h := PySem.join_length_add [a, b, c] (by simp)
  have e : PySem.piled [a, b, c] = a.length + 2 + (b.length + 2 + (c.length + 2)) := by simp [PySem.piled]
  have e1 : ("(" : Str).length = 1 := by decide +kernel
  have e2 : (Str.ofString (if [a, b, c].length == 1 then ",)" else ")" : String)).length = 1 := by
    show (Str.ofString ")").length = 1
    decide +kernel
  have ap : ∀ x y : Str, (x ++ y).length = x.length + y.length := fun x y => by show (x.cps ++ y.cps).size = _; rw [Array.size_append]; rfl
  rw [ap, ap, e1, e2]
  omega
theorem shown_stream {r : Int} {h q : List Nat} (hr : r.natAbs.log2 < 1920) (hh : h.length ≤ 1000) (hq : q.length ≤ 1000) (wh : ∀ c ∈ h, c < 100) (wq : ∀ c ∈ q, c < 100) :
    (PyData.tuple [.int r, .str (S h), .str (S q)]).shown.length ≤ sizeLine := by
  show (PySem.tupleText [Str.ofString (toString r), reprText (S h), reprText (S q)]).length ≤ sizeLine
  rw [tuple3_len]
  have h1 := PyProof.Rows.int_text_len_1921 hr
  have h2 := PySem.StrLaws.reprText_len (S h) (fun c hc => Nat.lt_trans (wh c (by simpa using hc)) (by decide))
  have h3 := PySem.StrLaws.reprText_len (S q) (fun c hc => Nat.lt_trans (wq c (by simpa using hc)) (by decide))
  have lh : (S h).length = h.length := by rw [S_len]
  have lq : (S q).length = q.length := by rw [S_len]
  rw [lh] at h2
  rw [lq] at h3
  exact Nat.le_trans (show _ ≤ 30000 by omega) (by decide)
theorem lay_S {l : List Nat} (w : ∀ c ∈ l, c < 100) : PyData.canLay0 (.str (S l)) = true := by
  show (S l).cps.all _ = true
  rw [Array.all_eq_true']
  intro c hc
  exact decide_eq_true (Nat.lt_trans (w c (by simpa using hc)) (by decide))
theorem shaped3 {r : Int} {h q : List Nat} (wh : ∀ c ∈ h, c < 100) (wq : ∀ c ∈ q, c < 100) : SeqAt.shaped (.tuple [.int r, .str (S h), .str (S q)]) = true := by
  unfold SeqAt.shaped
  have e : PyData.canLay0 (.tuple [.int r, .str (S h), .str (S q)]) = true := by
    show (PyData.canLay0 (.int r) && (PyData.canLay0 (.str (S h)) && (PyData.canLay0 (.str (S q)) && true))) = true
    rw [lay_S wh, lay_S wq]
    rfl
  rw [e]
  rfl
theorem isW_small {b : Int} (b5 : b ≤ 5) {l : List Nat} (w : IsW b l) : ∀ c ∈ l, c < 100 := fun c hc => by
  have := (w c hc).2
  omega
theorem S_inj {l m : List Nat} (h : S l = S m) : l = m := by
  have := congrArg (fun s : Str => s.cps.toList) h
  simpa using this
theorem eqv3 {r : Int} {h q h' q' : List Nat} : PyData.eqv (.tuple [.int r, .str (S h), .str (S q)]) (.tuple [.int r, .str (S h'), .str (S q')]) = decide (h = h' ∧ q = q') := by
  show ((r == r) && ((S h == S h') && ((S q == S q') && true))) = _
  by_cases c1 : h = h'
  · subst c1
    by_cases c2 : q = q'
    · subst c2
      simp
    · have : (S q == S q') = false := by
        refine Bool.eq_false_iff.mpr fun z => c2 (S_inj (eq_of_beq z))
      rw [this]
      simp [c2]
  · have : (S h == S h') = false := by
      refine Bool.eq_false_iff.mpr fun z => c1 (S_inj (eq_of_beq z))
    rw [this]
    simp [c1]
end Vf


set_option Elab.async false
set_option maxRecDepth 100000
set_option maxHeartbeats 8000000
set_option exponentiation.threshold 3000
namespace Vf
open PySem L2 SX Vm
/-- a drawn stream is made as it should be -/
def spRight : Sp := fun vs H Q _ => ∃ (a : Addr) (d : Int × Int × Int) (b : Nat), vs = [.ref a, .int (b : Int)] ∧ H a = some (.lst (dieL d)) ∧ DieOk d ∧ d.2.2 ≤ 900000000 ∧ 2 ≤ b ∧ b ≤ 5 ∧
  ∀ (d' : Int × Int × Int) (H' : Hp), DieOk d' → d'.2.2 ≤ d.2.2 + 100 → Kp a H H' → H' a = some (.lst (dieL d')) → Q (.bl true) H'
section
variable {P : Program} {w : World} {K : PySem.W.Frag} {mg : Str → Option Value} {base : Heap}
theorem scRight : FnScope ["die", "base", "found", "head", "one", "other", "period", "root", "same"] ["die", "base"] (defScope sRight) := ⟨rfl, rfl, rfl, by decide +kernel, rfl, by decide +kernel, by decide +kernel⟩
theorem takes0 {X : Cx} : Takes X (fun _ _ _ _ => False) := fun _ _ x => by
  obtain ⟨a, B, sI, pins', σ', H', cls, d, rfl, J', nb, up, sky, na, os, ag, wish⟩ := x
  exact wish.elim
theorem nf_ev {f : Nat → Nat} {h q : List Nat} (n : Nf f h q) : Nf (ev h q) h q := by
  have : f = ev h q := funext fun i => (n.is i).symm
  rw [← this]
  exact n
theorem nf_congr {f g : Nat → Nat} {h q : List Nat} (n : Nf f h q) (e : ∀ i, f i = g i) : Nf g h q := by
  have : f = g := funext e
  rw [← this]
  exact n
theorem nf_of_ev {h q h' q' : List Nat} {f : Nat → Nat} (n : Nf f h' q') (e : ∀ i, ev h q i = f i) : Nf (ev h q) h' q' := by
  have : ev h q = f := funext e
  rw [this]
  exact n
theorem within_b {b : Nat} (b2 : 2 ≤ b) (b5 : b ≤ 5) : withinV 2 5 (.int (b : Int)) = true := by
  show (decide ((2 : Int) ≤ b) && decide ((b : Int) ≤ 5)) = true
  rw [decide_eq_true (by omega), decide_eq_true (by omega)]
  rfl
theorem make_k {b : Nat} {r : Int} {h q : List Nat} {X : Prop} {R : List Nat → List Nat → Addr → Prop} {H : Hp} (_b2 : 2 ≤ b) (_b5 : b ≤ 5) (r0 : 0 ≤ r) (r5 : r < 5000) (wh : IsW b h) (wq : IsW b q) (q0 : 0 < q.length)
    (k : ∀ (h' q' : List Nat) (p : Addr), Nf (ev h q) h' q' → h'.length ≤ h.length → q'.length ≤ q.length → Sub h' h → Sub q' q → H p = none → R h' q' p) :
    ∀ n : Nat, V.int (b : Int) = .int (n : Int) → 2 ≤ n → n ≤ 5 → ((withinV 0 4999 (.int r) && wordV n (.str (S h))) = false → X) ∧ ((withinV 0 4999 (.int r) && wordV n (.str (S h))) = true →
    (wordV n (.str (S q)) = false ∨ V.str (S q) = .str "" → X) ∧
    ∀ h1 q1 : List Nat, V.str (S h) = .str (S h1) → V.str (S q) = .str (S q1) → 0 < q1.length → IsW n q1 → ∀ (h' q' : List Nat) (p : Addr), Nf (ev h1 q1) h' q' → h'.length ≤ h1.length → q'.length ≤ q1.length → Sub h' h1 → Sub q' q1 → H p = none → R h' q' p) := by
  intro n e n2 n5
  obtain rfl : b = n := Int.ofNat.inj (V.int.inj e)
  have w1 : withinV 0 4999 (.int r) = true := by
    show (decide (0 ≤ r) && decide (r ≤ 4999)) = true
    rw [decide_eq_true r0, decide_eq_true (by omega)]
    rfl
  have w2 : (withinV 0 4999 (.int r) && wordV b (.str (S h))) = true := by rw [w1, wordV_of wh]; rfl
  refine ⟨fun z => absurd z (by rw [w2]; decide), fun _ => ⟨fun z => ?_, fun h1 q1 eh eq lq _ h' q' p nf l1 l2 s1 s2 np => ?_⟩⟩
  · rcases z with z | z
    · rw [wordV_of wq] at z
      cases z
    · have z' := V.str.inj z
      rw [str_empty] at z'
      have := S_inj z'
      rw [this] at q0
      exact absurd q0 (Nat.lt_irrefl _)
  · have e1 := S_inj (V.str.inj eh)
    have e2 := S_inj (V.str.inj eq)
    subst e1 e2
    exact k h' q' p nf l1 l2 s1 s2 np
theorem ok_right {f fP fW fM fN fI fO fL fG CN CP CS CX CO : Addr} {fd fdP fdW fdM fdN fdI fdO fdL fdG : FuncData} (F : Fun K "_law_right" "_law_right" sRight f fd)
    (GP : FnOk P w K mg base CX0 1 fP fdP ["die", "many"] spPull) (cP : Cal K mg "_law_pull" fP fdP ["die", "many"])
    (GW : FnOk P w K mg base CX0 2 fW fdW ["die", "base", "high"] spWord) (cW : Cal K mg "_law_word" fW fdW ["die", "base", "high"])
    (GM : FnOk P w K mg base (L2.CX P w) 5 fM fdM ["base", "root", "head", "period"] (spMake CN CS)) (cM : Cal K mg "make_stream" fM fdM ["base", "root", "head", "period"])
    (GN : FnOk P w K mg base CX0 1 fN fdN ["root", "head", "period"] spLNormal) (cN : Cal K mg "_law_normal" fN fdN ["root", "head", "period"])
    (GI : FnOk P w K mg base (L2.CX P w) 5 fI fdI ["base", "roots", "value"] spIsStream) (cI : Cal K mg "is_stream" fI fdI ["base", "roots", "value"])
    (GO : FnOk P w K mg base CX0 2 fO fdO ["die", "stream"] spOther) (cO : Cal K mg "_law_otherwise" fO fdO ["die", "stream"])
    (GL : FnOk P w K mg base CX0 3 fL fdL ["die", "base", "wide", "high"] spLStream) (cL : Cal K mg "_law_stream" fL fdL ["die", "base", "wide", "high"])
    (GB : FnOk P w K mg base CX0 1 fG fdG ["stream", "many"] (spLBeg K)) (cB : Cal K mg "_law_beginning" fG fdG ["stream", "many"])
    (T : ToldTxt K mg CN CP CS CX CO) (N : Nm mg) : VG.FnG P w K mg base 6 f fd ["die", "base"] spRight := by
  refine VG.FnG.of F scRight (fun vs H Q E h => ?_) (fun cdv A outer s H vs Q E gd hr _ _ h => ?_)
  · obtain ⟨a, d, b, rfl, _⟩ := h
    rfl
  · obtain ⟨a, d, b, rfl, ha, hd, hc, b2, b5, k⟩ := h
    have nd := scRight.nd
    have hr1 := hr.mono (show 1 ≤ 5 by decide)
    have hr2 := hr.mono (show 2 ≤ 5 by decide)
    have hr3 := hr.mono (show 3 ≤ 5 by decide)
    have hun : A.units + 3 + 64 < cLine := hr.units
    refine ⟨_, pss_cons (ps_par3 (i := 7) (j := 3) (l := 6) rfl nd rfl rfl rfl (by decide) (by decide) (by decide) rfl rfl rfl (pa_cons (pe_call GP hr1 rfl cP.mg cP.kp cP.b .nil pass0 (pa_cons (pv 0) (pa_cons pe_int pa_nil))) (pa_cons (pe_call GW hr2 rfl cW.mg cW.kp cW.b .nil pass0 (pa_cons (pv 0) (pa_cons (pv 1) (pa_cons pe_int pa_nil)))) (pa_cons (pe_call GW hr2 rfl cW.mg cW.kp cW.b .nil pass0 (pa_cons (pv 0) (pa_cons (pv 1) (pa_cons pe_int pa_nil)))) pa_nil))) rfl)
      (pss_cons (ps_set (i := 6) nd rfl (.inl rfl) (pe_op op_mul_str (pe_op op_add_str (pe_ix ix_str pe_str (pe_call GP hr1 rfl cP.mg cP.kp cP.b .nil pass0 (pa_cons (pv 0) (pa_cons (pv 1) pa_nil))) (fun _ _ => rfl)) (pv 6)) (pe_op op_add pe_int (pe_call GP hr1 rfl cP.mg cP.kp cP.b .nil pass0 (pa_cons (pv 0) (pa_cons pe_int pa_nil))))))
      (pss_cons (ps_set (i := 2) nd rfl (.inl rfl) (pe_call GM hr rfl cM.mg cM.kp cM.b .nil (passes_call takes0 (fun _ _ _ _ h => h)) (pa_cons (pv 1) (pa_cons (pv 7) (pa_cons (pv 3) (pa_cons (pv 6) pa_nil))))))
      (pss_cons (ps_if (PW.pt (pw_or (pt_cmpR op_ne (pe_callB (VG.call_repr gd (by show A.units + 3 + 10 < cLine; omega)) (by rfl) T.rep PyProof.Rows.boot_repr (pa_cons (pv 2) pa_nil)) (pe_callB (VG.call_repr gd (by show A.units + 3 + 10 < cLine; omega)) (by rfl) T.rep PyProof.Rows.boot_repr (pa_cons (pe_call GN hr1 rfl cN.mg cN.kp cN.b .nil pass0 (pa_cons (pv 7) (pa_cons (pv 3) (pa_cons (pv 6) pa_nil)))) pa_nil)) (nomark _))
          (pw_or1 (pt_cmpR op_notBl (pe_call GI hr rfl cI.mg cI.kp cI.b .nil (passes_call takes0 (fun _ _ _ _ h => h)) (pa_cons (pv 1) (pa_cons pe_int (pa_cons (pv 2) pa_nil)))) pe_bl (nomark _))))) (pss_one (ps_ret pe_bl)) pss_nil)
      (pss_cons (ps_par (i := 4) (j := 5) rfl nd rfl rfl (by decide) rfl rfl (pa_cons (pe_call GO hr2 rfl cO.mg cO.kp cO.b .nil pass0 (pa_cons (pv 0) (pa_cons (pv 2) pa_nil))) (pa_cons (pe_call GL hr3 rfl cL.mg cL.kp cL.b .nil pass0 (pa_cons (pv 0) (pa_cons (pv 1) (pa_cons pe_int (pa_cons pe_int pa_nil))))) pa_nil)) rfl)
      (pss_cons (ps_if (PW.pt (pw_or (pt_cmpR (op_neD hun) (pe_call GM hr rfl cM.mg cM.kp cM.b .nil (passes_call takes0 (fun _ _ _ _ h => h)) (pa_cons (pv 1) (pa_cons (pe_ix ix_tup (pv 4) pe_int (fun _ _ => rfl)) (pa_cons (pe_ix ix_tup (pv 4) pe_int (fun _ _ => rfl)) (pa_cons (pe_ix ix_tup (pv 4) pe_int (fun _ _ => rfl)) pa_nil))))) (pv 2) (nomark _))
          (pw_or1 (pt_cmpR (op_neD hun) (pe_call GM hr rfl cM.mg cM.kp cM.b .nil (passes_call takes0 (fun _ _ _ _ h => h)) (pa_cons (pv 1) (pa_cons (pv 7) (pa_cons (pv 3) (pa_cons (pv 6) pa_nil))))) (pv 2) (nomark _))))) (pss_one (ps_ret pe_bl)) pss_nil)
      (pss_cons (ps_if (pt_cmpR op_ne (pe_call GB hr1 rfl cB.mg cB.kp cB.b .nil pass0 (pa_cons (pv 2) (pa_cons pe_int pa_nil))) (pe_slice sl_str (pe_op op_add_str (pv 3) (pe_op op_mul_str (pv 6) pe_int)) po_none (po_some pe_int)) (nomark _)) (pss_one (ps_ret pe_bl)) pss_nil)
      (pss_cons (ps_set (i := 8) nd rfl (.inl rfl) (pe_cmpR op_eq (pe_call GB hr1 rfl cB.mg cB.kp cB.b .nil pass0 (pa_cons (pv 2) (pa_cons pe_int pa_nil))) (pe_call GB hr1 rfl cB.mg cB.kp cB.b .nil pass0 (pa_cons (pv 5) (pa_cons pe_int pa_nil))) (nomark _)))
      (pss_one (ps_ret (pe_cmpR op_eq (pe_cmpR (op_eqD hun) (pe_call GM hr rfl cM.mg cM.kp cM.b .nil (passes_call takes0 (fun _ _ _ _ h => h)) (pa_cons (pv 1) (pa_cons (pv 7) (pa_cons (pe_ix ix_tup (pv 5) pe_int (fun _ _ => rfl)) (pa_cons (pe_ix ix_tup (pv 5) pe_int (fun _ _ => rfl)) pa_nil))))) (pv 2) (nomark _)) (pv 8) (nomark _))))))))))), ?_⟩
    refine ⟨_, rfl, a, d, _, rfl, ha, hd, by decide, by decide, by omega, fun root d1 hd1 hc1 r0 r5 => ?_⟩
    refine ⟨_, rfl, _, rfl, a, d1, b, 8, rfl, upd_same, hd1, by omega, by omega, by omega, by decide, by decide, fun lh d2 hd2 hc2 wh hl => ?_⟩
    rw [upd_upd']
    refine ⟨_, rfl, _, rfl, a, d2, b, 4, rfl, upd_same, hd2, by omega, by omega, by omega, by decide, by decide, fun lp d3 hd3 hc3 wp pl => ?_⟩
    rw [upd_upd']
    refine ⟨_, _, _, rfl, ?_⟩
    refine ⟨_, rfl, _, rfl, a, d3, b, rfl, upd_same, hd3, by omega, by omega, by omega, fun q d4 hd4 hc4 q0 q1 => ?_⟩
    obtain ⟨c, hc', c0, c1⟩ := pos_pull q0 q1 (by omega : (b : Int) ≤ 5)
    rw [upd_upd']
    refine ⟨_, q, c, rfl, rfl, len5, hc', ?_⟩
    refine ⟨_, rfl, _, _, rfl, rfl, ?_, _, rfl, a, d4, _, rfl, upd_same, hd4, by decide, by decide, by omega, fun m d5 hd5 hc5 m0 m1 => ?_⟩
    · rw [S_len]
      show 1 + lp.length ≤ sizeLine
      exact Nat.le_trans (show 1 + lp.length ≤ 200 by omega) (by decide)
    rw [upd_upd', S_one]
    have em : (1 + m) = ((1 + m.toNat : Nat) : Int) := by omega
    have lr : (1 + m.toNat) * (c :: lp).length ≤ 10 := by
      have h1 : 1 + m.toNat ≤ 2 := by omega
      have h2 : (c :: lp).length ≤ 5 := by simp; omega
      exact Nat.le_trans (Nat.mul_le_mul h1 h2) (by decide)
    refine ⟨_, _, rfl, rfl, c :: lp, 1 + m.toNat, rfl, congrArg V.int em, by omega, by simp; omega, Nat.le_trans lr (by decide), ?_⟩
    have wP : IsW (b : Int) ((List.replicate (1 + m.toNat) (c :: lp)).flatten) := fun x hx => by
      obtain ⟨y, hy, hxy⟩ := List.mem_flatten.mp hx
      rw [(List.mem_replicate.mp hy).2] at hxy
      rcases List.mem_cons.mp hxy with e | e
      · rw [e]
        exact ⟨c0, c1⟩
      · exact wp x e
    have lP : ((List.replicate (1 + m.toNat) (c :: lp)).flatten).length ≤ 10 := by rw [rep_len]; exact lr
    have P0 : 0 < ((List.replicate (1 + m.toNat) (c :: lp)).flatten).length := by rw [rep_len]; exact Nat.mul_pos (by omega) (by simp)
    generalize (List.replicate (1 + m.toNat) (c :: lp)).flatten = qP at wP lP P0
    have hl8 : lh.length ≤ 8 := by omega
    clear em lr hc' c0 c1 q0 q1 wp
    -- the stream
    refine ⟨_, rfl, _, rfl, _, rfl, _, rfl, _, _, _, _, _, _, _, _, rfl, .int _, .int _, .str _ (by rw [S_len]; omega), .str _ (by rw [S_len]; omega), fun z => absurd z (by rw [within_b b2 b5]; decide), make_k b2 b5 r0 r5 wh wP P0 fun h1 p1 p nf l1 l2 s1 s2 np => ?_⟩
    have nap : p ≠ a := fun z => by rw [z, upd_same] at np; cases np
    have kp6 : Kp a H (upd (upd H a (.lst (dieL d5))) p (.tup [.int root, .str (S h1), .str (S p1)])) := (Kp.upd).trans (Kp.new np)
    have a6 : upd (upd H a (.lst (dieL d5))) p (.tup [.int root, .str (S h1), .str (S p1)]) a = some (.lst (dieL d5)) := by rw [upd_ne nap.symm, upd_same]
    have e6 : upd (upd H a (.lst (dieL d5))) p (.tup [.int root, .str (S h1), .str (S p1)]) p = some (.tup [.int root, .str (S h1), .str (S p1)]) := upd_same
    generalize upd (upd H a (.lst (dieL d5))) p (.tup [.int root, .str (S h1), .str (S p1)]) = H6 at *
    have w1 : IsW (b : Int) h1 := wh.of s1
    have w1' : IsW (b : Int) p1 := wP.of s2
    have bI : (b : Int) ≤ 5 := by omega
    have rlog : root.natAbs.log2 < 1920 := by
      rcases Nat.eq_zero_or_pos root.natAbs with z | z
      · rw [z]
        decide
      · exact (Nat.log2_lt (by omega)).mpr (Nat.lt_trans (show root.natAbs < 5000 by omega) (by decide +kernel))
    have shw : (PyData.tuple [.int root, .str (S h1), .str (S p1)]).showable = true := by
      show (decide (root.natAbs.log2 < 1920) && true) = true
      rw [decide_eq_true rlog]
      rfl
    have shl : (PyData.tuple [.int root, .str (S h1), .str (S p1)]).shown.length ≤ sizeLine := shown_stream rlog (by omega) (by omega) (isW_small bI w1) (isW_small bI w1')
    refine ⟨_, rfl, .ref p, _, rfl, .tup e6 (.cons (.int root) (.cons (.str _) (.cons (.str _) .nil))), shw, shl, ?_⟩
    refine ⟨_, rfl, _, rfl, _, rfl, .int root, lh, qP, rfl, P0, by omega, by omega, fun h2 p2 t2 H7 nf2 _ _ _ _ same np2 e7 => ?_⟩
    obtain ⟨rfl, rfl⟩ := nf.unique nf2
    refine ⟨.ref t2, _, rfl, .tup e7 (.cons (.int root) (.cons (.str _) (.cons (.str _) .nil))), shw, shl, ?_⟩
    refine ⟨rfl, _, rfl, ?_⟩
    refine iteFB (by rw [decide_eq_true rfl]; rfl) ?_
    refine ⟨_, rfl, _, rfl, b, 5000, root, p, h1, p1, _, rfl, b2, b5, by decide, by decide, r0, by omega, same _ _ e6, nf, by omega, by omega, w1, w1', ?_⟩
    refine ⟨true, true, rfl, rfl, _, rfl, ?_⟩
    refine iteFB rfl ?_
    have a7 := same _ _ a6
    have e67 := same _ _ e6
    have kp7 : Kp a H H7 := kp6.trans (Kp.same same)
    clear np2 e7 shw shl
    -- the same otherwise, and another one
    refine ⟨_, rfl, _, rfl, a, p, d5, .int root, h1, p1, rfl, a7, hd5, by omega, e67, nf.ne, by omega, by omega, fun h3 q3 d6 p3 H8 ev3 q30 q3l h3l sub3 sub3' hd6 hc6 kp8 a8 np3 e3 => ?_⟩
    refine ⟨_, rfl, _, rfl, a, d6, b, 1, 3, rfl, a8, hd6, by omega, by omega, by omega, by decide, by decide, by decide, by decide, fun r4 h4 q4 f4 d7 p4 H9 r40 r41 h4l q4l nf4 w4 w4' hd7 hc7 kp9 a9 np4 e4 => ?_⟩
    refine ⟨_, _, rfl, ?_⟩
    have np3a : p3 ≠ a := fun z => by rw [z, a7] at np3; cases np3
    have e93 : H9 p3 = some (.tup [.int root, .str (S h3), .str (S q3)]) := kp9 _ _ np3a e3
    have e9 : H9 p = some (.tup [.int root, .str (S h1), .str (S p1)]) := kp9 _ _ nap (kp8 _ _ nap e67)
    have kpX : Kp a H H9 := kp7.trans (kp8.trans kp9)
    have w3 : IsW (b : Int) h3 := (w1.app w1').of sub3
    have w3' : IsW (b : Int) q3 := w1'.of sub3'
    clear np3 np4 same kp8 kp9
    refine ⟨_, rfl, _, rfl, p3, _, _, _, rfl, rfl, SqT.of e93, rfl, _, rfl, p3, _, _, _, rfl, rfl, SqT.of e93, rfl, _, rfl, p3, _, _, _, rfl, rfl, SqT.of e93, rfl, _, _, _, _, _, _, _, _, rfl, .int _, .int _, .str _ (by rw [S_len]; omega), .str _ (by rw [S_len]; omega), fun z => absurd z (by rw [within_b b2 b5]; decide), make_k b2 b5 r0 r5 w3 w3' q30 fun h5 q5 p5 nf5 _ _ _ _ np5 => ?_⟩
    obtain ⟨rfl, rfl⟩ := nf.unique (nf_congr nf5 fun i => (ev3 i).trans (nf.is i))
    have sh1 := shaped3 (r := root) (isW_small bI w1) (isW_small bI w1')
    have e9A : upd H9 p5 (.tup [.int root, .str (S h1), .str (S p1)]) p = some (.tup [.int root, .str (S h1), .str (S p1)]) := by rw [upd_ne (ne_of_none e9 np5)]; exact e9
    have e4A : upd H9 p5 (.tup [.int root, .str (S h1), .str (S p1)]) p4 = some (.tup [.int r4, .str (S h4), .str (S q4)]) := by rw [upd_ne (ne_of_none e4 np5)]; exact e4
    have a9A : upd H9 p5 (.tup [.int root, .str (S h1), .str (S p1)]) a = some (.lst (dieL d7)) := by rw [upd_ne (ne_of_none a9 np5)]; exact a9
    have kpA : Kp a H (upd H9 p5 (.tup [.int root, .str (S h1), .str (S p1)])) := kpX.trans (Kp.new np5)
    refine ⟨_, rfl, .tuple [.int root, .str (S h1), .str (S p1)], .tuple [.int root, .str (S h1), .str (S p1)], .tup (SqT.of upd_same) (.cons (.int root) (.cons (.str _) (.cons (.str _) .nil))), .tup (SqT.of e9A) (.cons (.int root) (.cons (.str _) (.cons (.str _) .nil))), sh1, sh1, _, rfl, ?_⟩
    refine iteFB (by rw [eqv3, decide_eq_true ⟨rfl, rfl⟩]; rfl) ?_
    generalize upd H9 p5 (.tup [.int root, .str (S h1), .str (S p1)]) = HA at *
    refine ⟨_, rfl, _, rfl, _, rfl, _, rfl, _, _, _, _, _, _, _, _, rfl, .int _, .int _, .str _ (by rw [S_len]; omega), .str _ (by rw [S_len]; omega), fun z => absurd z (by rw [within_b b2 b5]; decide), make_k b2 b5 r0 r5 wh wP P0 fun h6 q6 p6 nf6 _ _ _ _ np6 => ?_⟩
    obtain ⟨rfl, rfl⟩ := nf.unique nf6
    have e9B : upd HA p6 (.tup [.int root, .str (S h1), .str (S p1)]) p = some (.tup [.int root, .str (S h1), .str (S p1)]) := by rw [upd_ne (ne_of_none e9A np6)]; exact e9A
    have e4B : upd HA p6 (.tup [.int root, .str (S h1), .str (S p1)]) p4 = some (.tup [.int r4, .str (S h4), .str (S q4)]) := by rw [upd_ne (ne_of_none e4A np6)]; exact e4A
    have a9B : upd HA p6 (.tup [.int root, .str (S h1), .str (S p1)]) a = some (.lst (dieL d7)) := by rw [upd_ne (ne_of_none a9A np6)]; exact a9A
    have kpB : Kp a H (upd HA p6 (.tup [.int root, .str (S h1), .str (S p1)])) := kpA.trans (Kp.new np6)
    refine ⟨_, rfl, .tuple [.int root, .str (S h1), .str (S p1)], .tuple [.int root, .str (S h1), .str (S p1)], .tup (SqT.of upd_same) (.cons (.int root) (.cons (.str _) (.cons (.str _) .nil))), .tup (SqT.of e9B) (.cons (.int root) (.cons (.str _) (.cons (.str _) .nil))), sh1, sh1, _, rfl, ?_⟩
    refine iteFB (by rw [eqv3, decide_eq_true ⟨rfl, rfl⟩]; rfl) ?_
    generalize upd HA p6 (.tup [.int root, .str (S h1), .str (S p1)]) = HB at *
    -- the beginnings
    have k60 : ∀ (l m : List Nat) (n : Nat), 0 < m.length → n ≤ l.length + (n / m.length + 1) * m.length := fun l m n h => by
      have := Nat.lt_div_mul_add (a := n) h
      rw [Nat.succ_mul]
      omega
    have lq6 : 60 * qP.length ≤ 600 := by omega
    refine ⟨_, rfl, p, .int root, h1, p1, 60, rfl, SqT.of e9B, nf.ne, by omega, by omega, by decide, _, rfl, _, rfl, qP, 60, rfl, rfl, by decide, by omega, by omega, _, _, rfl, rfl, ?_, _, rfl, _, rfl, ?_, ?_⟩
    · rw [S_len, S_len, rep_len]
      exact Nat.le_trans (show lh.length + 60 * qP.length ≤ 1000 by omega) (by decide)
    · rw [S_cat, S_len, List.length_append, rep_len]
      exact Nat.le_trans (show lh.length + 60 * qP.length ≤ 1000 by omega) (by decide)
    have hlen : 60 ≤ (lh ++ (List.replicate 60 qP).flatten).length := by
      rw [List.length_append, rep_len]
      omega
    rw [S_cat, show cutS (S (lh ++ (List.replicate 60 qP).flatten)) none (some 60) = S ((lh ++ (List.replicate 60 qP).flatten).take 60) from cut_take (s := 60) hlen]
    have eb : beg h1 p1 (60 / p1.length + 1) 60 = (lh ++ (List.replicate 60 qP).flatten).take 60 := (beg_eq (k' := 60) (h' := lh) (q' := qP) (k60 _ _ _ nf.ne) (by omega)).mpr fun i _ => nf.is i
    rw [← eb]
    refine ⟨rfl, _, rfl, ?_⟩
    refine iteFB (by rw [decide_eq_true rfl]; rfl) ?_
    refine ⟨_, rfl, p, .int root, h1, p1, 80, rfl, SqT.of e9B, nf.ne, by omega, by omega, by decide, _, rfl, p4, .int r4, h4, q4, 80, rfl, SqT.of e4B, nf4.ne, by omega, by omega, by decide, rfl, ?_⟩
    refine ⟨_, rfl, _, rfl, _, rfl, p4, _, _, _, rfl, rfl, SqT.of e4B, rfl, _, rfl, p4, _, _, _, rfl, rfl, SqT.of e4B, rfl, _, _, _, _, _, _, _, _, rfl, .int _, .int _, .str _ (by rw [S_len]; omega), .str _ (by rw [S_len]; omega), fun z => absurd z (by rw [within_b b2 b5]; decide), make_k b2 b5 r0 r5 w4 w4' nf4.ne fun h7 q7 p7 nf7 _ _ _ _ np7 => ?_⟩
    obtain ⟨rfl, rfl⟩ := (nf_ev nf4).unique nf7
    have e9C : upd HB p7 (.tup [.int root, .str (S h4), .str (S q4)]) p = some (.tup [.int root, .str (S h1), .str (S p1)]) := by rw [upd_ne (ne_of_none e9B np7)]; exact e9B
    have a9C : upd HB p7 (.tup [.int root, .str (S h4), .str (S q4)]) a = some (.lst (dieL d7)) := by rw [upd_ne (ne_of_none a9B np7)]; exact a9B
    have kpC : Kp a H (upd HB p7 (.tup [.int root, .str (S h4), .str (S q4)])) := kpB.trans (Kp.new np7)
    refine ⟨_, rfl, .tuple [.int root, .str (S h4), .str (S q4)], .tuple [.int root, .str (S h1), .str (S p1)], .tup (SqT.of upd_same) (.cons (.int root) (.cons (.str _) (.cons (.str _) .nil))), .tup (SqT.of e9C) (.cons (.int root) (.cons (.str _) (.cons (.str _) .nil))), shaped3 (isW_small bI w4) (isW_small bI w4'), sh1, _, rfl, rfl, ?_⟩
    have eqs : decide (h4 = h1 ∧ q4 = p1) = decide (V.str (S (beg h1 p1 (80 / p1.length + 1) 80)) = V.str (S (beg h4 q4 (80 / q4.length + 1) 80))) := by
      have key : (h4 = h1 ∧ q4 = p1) ↔ V.str (S (beg h1 p1 (80 / p1.length + 1) 80)) = V.str (S (beg h4 q4 (80 / q4.length + 1) 80)) := by
        constructor
        · rintro ⟨e1, e2⟩
          rw [e1, e2]
        · intro e
          have e' := S_inj (V.str.inj e)
          have ag := (beg_eq (k60 _ _ _ nf.ne) (k60 _ _ _ nf4.ne)).mp e'
          have mm : p1.length * q4.length ≤ 30 := Nat.le_trans (Nat.mul_le_mul (show p1.length ≤ 10 by omega) (show q4.length ≤ 3 by omega)) (by decide)
          have all := ev_all (many := 8) (by omega : h1.length ≤ 8) (by omega : h4.length ≤ 8) nf.ne nf4.ne (fun i hi => ag i (by omega))
          exact (nf_ev nf4).unique (nf_congr (nf_ev nf) all)
      by_cases c : h4 = h1 ∧ q4 = p1
      · rw [decide_eq_true c, decide_eq_true (key.mp c)]
      · rw [decide_eq_false c, decide_eq_false (fun z => c (key.mpr z))]
    rw [eqv3, eqs, decide_eq_true rfl]
    exact k d7 _ hd7 (by omega) kpC a9C
end
end Vf


set_option Elab.async false
set_option maxRecDepth 100000
set_option maxHeartbeats 8000000
set_option exponentiation.threshold 3000
namespace Vf
open PySem L2 SX Vm
/-- a written normal form -/
theorem nf_lit {h q h' q' : List Nat} (many : Nat) (hm : h.length ≤ many) (hm' : h'.length ≤ many) (hq : 0 < q.length) (hq' : 0 < q'.length) (e : ∀ i, i < many + q'.length * q.length → ev h' q' i = ev h q i) (l : ∀ t, 0 < t → t < q'.length → ¬ Per q' t)
    (stop : 0 < h'.length → h'.getD (h'.length - 1) 0 ≠ q'.getD (q'.length - 1) 0) : Nf (ev h q) h' q' := by
  have all := ev_all hm' hm hq' hq e
  have L : Least q' q'.length := ⟨hq', per_len q', l⟩
  refine last_nf all hq' (fun s m s0 s1 z => L.prim (h := h') hq' s m s0 s1 fun i hi => ?_) stop
  rw [all, all]
  exact z i hi
theorem prim1 {a : Nat} (t : Nat) (h0 : 0 < t) (h1 : t < [a].length) : ¬ Per [a] t := absurd h1 (by simp; omega)
theorem prim2 {a b : Nat} (ne : a ≠ b) (t : Nat) (h0 : 0 < t) (h1 : t < [a, b].length) : ¬ Per [a, b] t := fun z => by
  have : t = 1 := by simp at h1; omega
  subst this
  exact ne (z 0).symm
theorem nfA : Nf (ev [48, 49, 49, 48] [49, 48, 49, 48]) [48, 49] [49, 48] := nf_lit 4 (by decide) (by decide) (by decide) (by decide) (by decide) (prim2 (by decide)) (by decide)
theorem nfB : Nf (ev [] [50, 49, 50, 49]) [] [50, 49] := nf_lit 4 (by decide) (by decide) (by decide) (by decide) (by decide) (prim2 (by decide)) (by decide)
theorem nfC : Nf (ev [52, 52] [52, 52, 52, 52]) [] [52] := nf_lit 4 (by decide) (by decide) (by decide) (by decide) (by decide) prim1 (by decide)
def lA : List Nat := (List.replicate 150 [49]).flatten
def lB : List Nat := (List.replicate 60 [48, 49]).flatten
def lC : List Nat := (List.replicate 149 [49]).flatten
theorem nfD : Nf (ev lA lB) lC [49, 48] := nf_lit 150 (by decide +kernel) (by decide +kernel) (by decide +kernel) (by decide) (by decide +kernel) (prim2 (by decide)) (by decide +kernel)
theorem wA : IsW ((2 : Nat) : Int) lA := by
  unfold IsW
  decide +kernel
theorem wB : IsW ((2 : Nat) : Int) lB := by
  unfold IsW
  decide +kernel
theorem isW_lit {b : Nat} {l : List Nat} (h : (l.all fun c => decide (48 ≤ c) && decide (c < 48 + b)) = true) : IsW (b : Int) l := fun c hc => by
  have := List.all_eq_true.mp h c hc
  simp at this
  omega
/-- make_stream of written words -/
theorem make_s {b : Nat} {r : Int} {hs qs : Str} {h q h0 q0 : List Nat} {X : Prop} {R : List Nat → List Nat → Addr → Prop} {H : Hp} (eh : hs = S h) (eq : qs = S q) (r0 : 0 ≤ r) (r5 : r < 5000) (wh : IsW b h) (wq : IsW b q) (hq : 0 < q.length) (nf : Nf (ev h q) h0 q0)
    (k : ∀ p : Addr, H p = none → R h0 q0 p) :
    ∀ n : Nat, V.int (b : Int) = .int (n : Int) → 2 ≤ n → n ≤ 5 → ((withinV 0 4999 (.int r) && wordV n (.str hs)) = false → X) ∧ ((withinV 0 4999 (.int r) && wordV n (.str hs)) = true →
    (wordV n (.str qs) = false ∨ V.str qs = .str "" → X) ∧
    ∀ h1 q1 : List Nat, V.str hs = .str (S h1) → V.str qs = .str (S q1) → 0 < q1.length → IsW n q1 → ∀ (h' q' : List Nat) (p : Addr), Nf (ev h1 q1) h' q' → h'.length ≤ h1.length → q'.length ≤ q1.length → Sub h' h1 → Sub q' q1 → H p = none → R h' q' p) := by
  subst eh eq
  intro n e n2 n5
  have e0 : b = n := Int.ofNat.inj (V.int.inj e)
  exact make_k (b := b) (by rw [e0]; exact n2) (by rw [e0]; exact n5) r0 r5 wh wq hq (fun h' q' p nf' _ _ _ _ np => by
    obtain ⟨e1, e2⟩ := nf.unique nf'
    rw [← e1, ← e2]
    exact k p np) n e n2 n5
end Vf


set_option Elab.async false
set_option maxRecDepth 100000
set_option maxHeartbeats 8000000
set_option exponentiation.threshold 3000
namespace Vf
open PySem L2 SX Vm
/-- the law holds -/
def spLaw (K : PySem.W.Frag) (Pt : Addr) : Sp := fun vs H Q _ => ∃ (a : Addr) (ns : List Int), vs = [.ref a] ∧ SqL K H a (ns.map V.int) ∧ ns.length ≤ 63 ∧ LamX.Tabs [(Pt, qErr)] H ∧ ∀ H', Q (.bl true) H'
section
variable {P : Program} {w : World} {K : PySem.W.Frag} {mg : Str → Option Value} {base : Heap}
theorem scLaw : FnScope ["script", "at", "base", "die", "found", "turn"] ["script"] (defScope sLaw) := ⟨rfl, rfl, rfl, by decide +kernel, rfl, by decide +kernel, by decide +kernel⟩
/-- a list that is seen stays so -/
theorem sql_ext {H H' : Hp} {a : Addr} {xs : List V} (h : SqL K H a xs) (e : LamX.ExtN H H') : SqL K H' a xs := by
  rcases h with (h | ⟨o, h⟩) | h
  · exact .inl (.inl (e _ _ h (fun _ z => nomatch z)))
  · exact .inl (.inr ⟨o, e _ _ h (fun _ z => nomatch z)⟩)
  · exact .inr h
theorem ok_law {f fD fB fR fE fM CN CS Pt : Addr} {fd fdD fdB fdR fdE fdM : FuncData} (F : Fun K "law" "law" sLaw f fd)
    (GD : FnOk P w K mg base CX0 1 fD fdD ["script", "at"] (spDice K)) (cD : Cal K mg "_law_dice" fD fdD ["script", "at"])
    (GB : FnOk P w K mg base CX0 2 fB fdB ["die"] spBase) (cB : Cal K mg "_law_base" fB fdB ["die"])
    (GR : VG.FnG P w K mg base 6 fR fdR ["die", "base"] spRight) (cR : Cal K mg "_law_right" fR fdR ["die", "base"])
    (GE : VG.FnG P w K mg base 8 fE fdE ["die", "base"] (spErr Pt)) (cE : Cal K mg "_law_errors_right" fE fdE ["die", "base"])
    (GM : FnOk P w K mg base (L2.CX P w) 5 fM fdM ["base", "root", "head", "period"] (spMake CN CS)) (cM : Cal K mg "make_stream" fM fdM ["base", "root", "head", "period"])
    (N : Nm mg) (nr : mg "range" = none) (nx : mg "max" = none) (nn : mg "min" = none) : VG.FnG P w K mg base 9 f fd ["script"] (spLaw K Pt) := by
  refine VG.FnG.of F scLaw (fun vs H Q E h => ?_) (fun cdv A outer s H vs Q E gd hr _ _ h => ?_)
  · obtain ⟨a, ns, rfl, _⟩ := h
    rfl
  · obtain ⟨a, ns, rfl, hs, hn, tabs, k⟩ := h
    have nd := scLaw.nd
    have hr1 := hr.mono (show 1 ≤ 8 by decide)
    have hr2 := hr.mono (show 2 ≤ 8 by decide)
    have hr5 := hr.mono (show 5 ≤ 8 by decide)
    have hr6 := hr.mono (show 6 ≤ 8 by decide)
    have hun : A.units + 3 + 64 < cLine := hr.units
    refine ⟨_, pss_cons (ps_for PassesOwn.never rfl (pi_range1 rfl nr (pa_cons (pe_callB (call_max2 rfl) (by rfl) nx PyProof.Rows.boot_max (pa_cons pe_int (pa_cons (pe_callB (call_min2 rfl) (by rfl) nn PyProof.Rows.boot_min (pa_cons pe_int (pa_cons (pe_callB call_len_seq (by rfl) N.len boot_len (pa_cons (pv 0) pa_nil)) pa_nil))) pa_nil))) pa_nil)) (pg_name (i := 1) nd rfl (.inl rfl))
        (pss_cons (ps_set (i := 3) nd rfl (.inl rfl) (pe_call GD hr1 rfl cD.mg cD.kp cD.b .nil pass0 (pa_cons (pv 0) (pa_cons (pv 1) pa_nil))))
        (pss_cons (ps_set (i := 2) nd rfl (.inl rfl) (pe_call GB hr2 rfl cB.mg cB.kp cB.b .nil pass0 (pa_cons (pv 3) pa_nil)))
        (pss_one (ps_for PassesOwn.never rfl (pi_range1 rfl nr (pa_cons pe_int pa_nil)) (pg_name (i := 5) nd rfl (.inl rfl))
          (pss_one (ps_if (PW.pt (pw_or (pt_not (pt_val (VG.pe_callG GR gd hr6 rfl cR.mg cR.kp cR.b (pa_cons (pv 3) (pa_cons (pv 2) pa_nil)))))
            (pw_or1 (pt_not (pt_val (VG.pe_callG GE gd hr rfl cE.mg cE.kp cE.b (pa_cons (pv 3) (pa_cons (pv 2) pa_nil)))))))) (pss_one (ps_ret pe_bl)) pss_nil)))))))
      (pss_cons (ps_set (i := 4) nd rfl (.inl rfl) (pe_lst (pa_cons (pe_call GM hr5 rfl cM.mg cM.kp cM.b .nil (passes_call takes0 (fun _ _ _ _ h => h)) (pa_cons pe_int (pa_cons pe_int (pa_cons pe_str (pa_cons pe_str pa_nil)))))
          (pa_cons (pe_call GM hr5 rfl cM.mg cM.kp cM.b .nil (passes_call takes0 (fun _ _ _ _ h => h)) (pa_cons pe_int (pa_cons pe_int (pa_cons pe_str (pa_cons pe_str pa_nil)))))
          (pa_cons (pe_call GM hr5 rfl cM.mg cM.kp cM.b .nil (passes_call takes0 (fun _ _ _ _ h => h)) (pa_cons pe_int (pa_cons pe_int (pa_cons pe_str (pa_cons pe_str pa_nil))))) pa_nil)))))
      (pss_cons (ps_expr (pe_bm PySem.F.plainAttrs_list PySem.F.slot_list_append PySem.F.type_list_append mt_append (pv 4) (pa_cons (pe_call GM hr5 rfl cM.mg cM.kp cM.b .nil (passes_call takes0 (fun _ _ _ _ h => h)) (pa_cons pe_int (pa_cons pe_int (pa_cons (pe_op op_mul_str pe_str pe_int) (pa_cons (pe_op op_mul_str pe_str pe_int) pa_nil))))) pa_nil)))
      (pss_one (ps_ret (pe_cmpR (op_eqD hun) (pv 4) (pe_lst (pa_cons (pe_tup (pa_cons pe_int (pa_cons pe_str (pa_cons pe_str pa_nil)))) (pa_cons (pe_tup (pa_cons pe_int (pa_cons pe_str (pa_cons pe_str pa_nil)))) (pa_cons (pe_tup (pa_cons pe_int (pa_cons pe_str (pa_cons pe_str pa_nil))))
          (pa_cons (pe_tup (pa_cons pe_int (pa_cons (pe_op op_mul_str pe_str pe_int) (pa_cons pe_str pa_nil)))) pa_nil))))) (nomark _)))))), ?_⟩
    refine ⟨_, rfl, a, _, rfl, .inl hs, 10, _, rfl, 1, _, rfl, ?_⟩
    refine ⟨_, rfl, ?_, ?_, for_range (fun _ σ H2 => ∃ u1 u2 u3 u5 : Option V, σ = [some (.ref a), u1, u2, u3, none, u5] ∧ LamX.ExtN H H2 ∧ LamX.Tabs [(Pt, qErr)] H2) ?_ ?_ ?_⟩
    · split <;> split <;> omega
    · split <;> split <;> omega
    · exact ⟨none, none, none, none, rfl, LamX.ExtN.refl H, tabs⟩
    · rintro i σ H2 hi ⟨u1, u2, u3, u5, rfl, eN, tt⟩
      have hi10 : i < 10 := by
        revert hi
        split <;> split <;> omega
      refine ⟨_, rfl, _, rfl, a, ns, i, by rw [Int.zero_add]; rfl, sql_ext hs eN, hn, by omega, fun p d0 hd0 hz0 np => ?_⟩
      refine ⟨_, rfl, p, d0, rfl, upd_same, hd0, by omega, fun b0 d1 H3 hd1 hc1 b2' b5' kp3 a3 => ?_⟩
      obtain ⟨b, rfl⟩ := Int.eq_ofNat_of_zero_le (show 0 ≤ b0 by omega)
      have b2 : 2 ≤ b := by omega
      have b5 : b ≤ 5 := by omega
      have x1 : ∀ c o, H2 c = some o → upd H2 p (.lst (dieL d0)) c = some o := fun c o e => by rw [upd_ne (ne_of_none e np)]; exact e
      have x3 : LamX.ExtN H2 H3 := fun c o e _ => kp3 c o (ne_of_none e np) (x1 c o e)
      have t3 : LamX.Tabs [(Pt, qErr)] H3 := tabs_kp (tt.ext x1) upd_same kp3
      refine ⟨6, rfl, by decide, by decide, for_range (n := 6) (fun j σ H4 => ∃ (u : Option V) (d4 : Int × Int × Int), σ = [some (.ref a), some (.int (0 + (i : Int))), some (.int (b : Int)), some (.ref p), none, u] ∧ LamX.ExtN H2 H4 ∧ LamX.Tabs [(Pt, qErr)] H4 ∧ H4 p = some (.lst (dieL d4)) ∧ DieOk d4 ∧ d4.2.2 ≤ 1 + 103 * (j : Int)) ?_ ?_ ?_⟩
      · exact ⟨_, d1, rfl, x3, t3, a3, hd1, by omega⟩
      · rintro j σ H4 hj ⟨u, d4, rfl, x4, t4, a4, hd4, hc4⟩
        have hj6 : j < 6 := hj
        have nb : ∀ c o, H2 c = some o → c ≠ p := fun c o e => ne_of_none e np
        refine ⟨_, rfl, _, rfl, p, d4, b, rfl, a4, hd4, by omega, b2, b5, fun d5 H5 hd5 hc5 kp5 a5 => ⟨_, rfl, ?_⟩⟩
        refine iteF ?_
        have t5 : LamX.Tabs [(Pt, qErr)] H5 := tabs_kp t4 a4 kp5
        refine ⟨_, rfl, _, rfl, p, d5, b, rfl, a5, hd5, by omega, b2, b5, t5, fun d6 H6 hd6 hc6 kt6 a6 t6 => ⟨_, rfl, ?_⟩⟩
        refine iteF ?_
        exact ⟨_, d6, rfl, fun c o e nt => kt6 c o (nb c o e) nt (kp5 c o (nb c o e) (x4 c o e nt)), t6, a6, hd6, by omega⟩
      · rintro σ H4 ⟨u, d4, rfl, x4, t4, _⟩
        exact ⟨_, _, _, _, rfl, eN.trans x4, t4⟩
    · rintro σ H2 ⟨u1, u2, u3, u5, rfl, eN, tt⟩
      have e1 : ("1" : Str) = S [49] := by decide +kernel
      have e01 : ("01" : Str) = S [48, 49] := by decide +kernel
      have e10 : ("10" : Str) = S [49, 48] := by decide +kernel
      have e21 : ("21" : Str) = S [50, 49] := by decide +kernel
      have e4 : ("4" : Str) = S [52] := by decide +kernel
      refine ⟨_, _, _, _, _, _, _, _, rfl, .int _, .int _, .str _ (by decide +kernel), .str _ (by decide +kernel), fun z => absurd z (by decide), make_s (b := 2) (h := [48, 49, 49, 48]) (q := [49, 48, 49, 48]) (by decide +kernel) (by decide +kernel) (by decide) (by decide) (isW_lit (by decide)) (isW_lit (by decide)) (by decide) nfA fun p1 n1 => ?_⟩
      have x1 : ∀ c o, H2 c = some o → upd H2 p1 (.tup [.int 0, .str (S [48, 49]), .str (S [49, 48])]) c = some o := fun c o e => by rw [upd_ne (ne_of_none e n1)]; exact e
      have hp1 : upd H2 p1 (.tup [.int 0, .str (S [48, 49]), .str (S [49, 48])]) p1 = some (.tup [.int 0, .str (S [48, 49]), .str (S [49, 48])]) := upd_same
      generalize upd H2 p1 (.tup [.int 0, .str (S [48, 49]), .str (S [49, 48])]) = J1 at *
      refine ⟨_, _, _, _, _, _, _, _, rfl, .int _, .int _, .str _ (by decide +kernel), .str _ (by decide +kernel), fun z => absurd z (by decide), make_s (b := 3) (h := []) (q := [50, 49, 50, 49]) (by decide +kernel) (by decide +kernel) (by decide) (by decide) (isW_lit (by decide)) (isW_lit (by decide)) (by decide) nfB fun p2 n2 => ?_⟩
      have x2 : ∀ c o, J1 c = some o → upd J1 p2 (.tup [.int 1, .str (S []), .str (S [50, 49])]) c = some o := fun c o e => by rw [upd_ne (ne_of_none e n2)]; exact e
      have hp2 : upd J1 p2 (.tup [.int 1, .str (S []), .str (S [50, 49])]) p2 = some (.tup [.int 1, .str (S []), .str (S [50, 49])]) := upd_same
      replace hp1 := x2 _ _ hp1
      generalize upd J1 p2 (.tup [.int 1, .str (S []), .str (S [50, 49])]) = J2 at *
      refine ⟨_, _, _, _, _, _, _, _, rfl, .int _, .int _, .str _ (by decide +kernel), .str _ (by decide +kernel), fun z => absurd z (by decide), make_s (b := 5) (h := [52, 52]) (q := [52, 52, 52, 52]) (by decide +kernel) (by decide +kernel) (by decide) (by decide) (isW_lit (by decide)) (isW_lit (by decide)) (by decide) nfC fun p3 n3 => ?_⟩
      have x3 : ∀ c o, J2 c = some o → upd J2 p3 (.tup [.int 4999, .str (S []), .str (S [52])]) c = some o := fun c o e => by rw [upd_ne (ne_of_none e n3)]; exact e
      have hp3 : upd J2 p3 (.tup [.int 4999, .str (S []), .str (S [52])]) p3 = some (.tup [.int 4999, .str (S []), .str (S [52])]) := upd_same
      replace hp1 := x3 _ _ hp1
      replace hp2 := x3 _ _ hp2
      generalize upd J2 p3 (.tup [.int 4999, .str (S []), .str (S [52])]) = J3 at *
      refine ⟨(by show 3 ≤ sizeLine; decide), fun l nl => ?_⟩
      have x4 : ∀ c o, J3 c = some o → upd J3 l (.lst [.ref p1, .ref p2, .ref p3]) c = some o := fun c o e => by rw [upd_ne (ne_of_none e nl)]; exact e
      have hl : upd J3 l (.lst [.ref p1, .ref p2, .ref p3]) l = some (.lst [.ref p1, .ref p2, .ref p3]) := upd_same
      replace hp1 := x4 _ _ hp1
      replace hp2 := x4 _ _ hp2
      replace hp3 := x4 _ _ hp3
      generalize upd J3 l (.lst [.ref p1, .ref p2, .ref p3]) = J4 at *
      refine ⟨_, rfl, .inl ⟨rfl, _, SqL.of hl⟩, [49], 150, congrArg V.str e1, rfl, by decide, by decide, by decide, [48, 49], 60, congrArg V.str e01, rfl, by decide, by decide, by decide, _, _, _, _, _, _, _, _, rfl, .int _, .int _, .str _ (by decide +kernel), .str _ (by decide +kernel), fun z => absurd z (by decide), make_s (b := 2) (h := lA) (q := lB) rfl rfl (by decide) (by decide) wA wB (by decide +kernel) nfD fun p4 n4 => ?_⟩
      have x5 : ∀ c o, J4 c = some o → upd J4 p4 (.tup [.int 0, .str (S lC), .str (S [49, 48])]) c = some o := fun c o e => by rw [upd_ne (ne_of_none e n4)]; exact e
      have hp4 : upd J4 p4 (.tup [.int 0, .str (S lC), .str (S [49, 48])]) p4 = some (.tup [.int 0, .str (S lC), .str (S [49, 48])]) := upd_same
      replace hp1 := x5 _ _ hp1
      replace hp2 := x5 _ _ hp2
      replace hp3 := x5 _ _ hp3
      replace hl := x5 _ _ hl
      generalize upd J4 p4 (.tup [.int 0, .str (S lC), .str (S [49, 48])]) = J5 at *
      refine ⟨l, _, .ref p4, rfl, rfl, hl, (by show 3 < sizeLine; decide), ?_⟩
      have m1 : p1 ≠ l := fun z => by rw [z, hl] at hp1; cases hp1
      replace hp1 : upd J5 l (.lst ([V.ref p1, V.ref p2, V.ref p3] ++ [V.ref p4])) p1 = _ := (upd_ne m1).trans hp1
      have m2 : p2 ≠ l := fun z => by rw [z, hl] at hp2; cases hp2
      replace hp2 : upd J5 l (.lst ([V.ref p1, V.ref p2, V.ref p3] ++ [V.ref p4])) p2 = _ := (upd_ne m2).trans hp2
      have m3 : p3 ≠ l := fun z => by rw [z, hl] at hp3; cases hp3
      replace hp3 : upd J5 l (.lst ([V.ref p1, V.ref p2, V.ref p3] ++ [V.ref p4])) p3 = _ := (upd_ne m3).trans hp3
      have m4 : p4 ≠ l := fun z => by rw [z, hl] at hp4; cases hp4
      replace hp4 : upd J5 l (.lst ([V.ref p1, V.ref p2, V.ref p3] ++ [V.ref p4])) p4 = _ := (upd_ne m4).trans hp4
      replace hl : upd J5 l (.lst ([V.ref p1, V.ref p2, V.ref p3] ++ [V.ref p4])) l = some (.lst ([V.ref p1, V.ref p2, V.ref p3] ++ [V.ref p4])) := upd_same
      generalize upd J5 l (.lst ([V.ref p1, V.ref p2, V.ref p3] ++ [V.ref p4])) = J6 at *
      refine ⟨_, rfl, (by show 3 ≤ sizeLine; decide), fun q1 n5 => ?_⟩
      have x7 : ∀ c o, J6 c = some o → upd J6 q1 (.tup [.int 0, .str "01", .str "10"]) c = some o := fun c o e => by rw [upd_ne (ne_of_none e n5)]; exact e
      have hq1 : upd J6 q1 (.tup [.int 0, .str "01", .str "10"]) q1 = some (.tup [.int 0, .str "01", .str "10"]) := upd_same
      replace hp1 := x7 _ _ hp1
      replace hp2 := x7 _ _ hp2
      replace hp3 := x7 _ _ hp3
      replace hp4 := x7 _ _ hp4
      replace hl := x7 _ _ hl
      generalize upd J6 q1 (.tup [.int 0, .str "01", .str "10"]) = J7 at *
      refine ⟨(by show 3 ≤ sizeLine; decide), fun q2 n6 => ?_⟩
      have x8 : ∀ c o, J7 c = some o → upd J7 q2 (.tup [.int 1, .str "", .str "21"]) c = some o := fun c o e => by rw [upd_ne (ne_of_none e n6)]; exact e
      have hq2 : upd J7 q2 (.tup [.int 1, .str "", .str "21"]) q2 = some (.tup [.int 1, .str "", .str "21"]) := upd_same
      replace hp1 := x8 _ _ hp1
      replace hp2 := x8 _ _ hp2
      replace hp3 := x8 _ _ hp3
      replace hp4 := x8 _ _ hp4
      replace hl := x8 _ _ hl
      replace hq1 := x8 _ _ hq1
      generalize upd J7 q2 (.tup [.int 1, .str "", .str "21"]) = J8 at *
      refine ⟨(by show 3 ≤ sizeLine; decide), fun q3 n7 => ?_⟩
      have x9 : ∀ c o, J8 c = some o → upd J8 q3 (.tup [.int 4999, .str "", .str "4"]) c = some o := fun c o e => by rw [upd_ne (ne_of_none e n7)]; exact e
      have hq3 : upd J8 q3 (.tup [.int 4999, .str "", .str "4"]) q3 = some (.tup [.int 4999, .str "", .str "4"]) := upd_same
      replace hp1 := x9 _ _ hp1
      replace hp2 := x9 _ _ hp2
      replace hp3 := x9 _ _ hp3
      replace hp4 := x9 _ _ hp4
      replace hl := x9 _ _ hl
      replace hq1 := x9 _ _ hq1
      replace hq2 := x9 _ _ hq2
      generalize upd J8 q3 (.tup [.int 4999, .str "", .str "4"]) = J9 at *
      refine ⟨[49], 149, congrArg V.str e1, rfl, by decide, by decide, by decide, (by show 3 ≤ sizeLine; decide), fun q4 n8 => ?_⟩
      have x10 : ∀ c o, J9 c = some o → upd J9 q4 (.tup [.int 0, .str (S (List.replicate 149 [49]).flatten), .str "10"]) c = some o := fun c o e => by rw [upd_ne (ne_of_none e n8)]; exact e
      have hq4 : upd J9 q4 (.tup [.int 0, .str (S (List.replicate 149 [49]).flatten), .str "10"]) q4 = some (.tup [.int 0, .str (S (List.replicate 149 [49]).flatten), .str "10"]) := upd_same
      replace hp1 := x10 _ _ hp1
      replace hp2 := x10 _ _ hp2
      replace hp3 := x10 _ _ hp3
      replace hp4 := x10 _ _ hp4
      replace hl := x10 _ _ hl
      replace hq1 := x10 _ _ hq1
      replace hq2 := x10 _ _ hq2
      replace hq3 := x10 _ _ hq3
      generalize upd J9 q4 (.tup [.int 0, .str (S (List.replicate 149 [49]).flatten), .str "10"]) = J10 at *
      refine ⟨(by show 4 ≤ sizeLine; decide), fun z n9 => ?_⟩
      have x11 : ∀ c o, J10 c = some o → upd J10 z (.lst [.ref q1, .ref q2, .ref q3, .ref q4]) c = some o := fun c o e => by rw [upd_ne (ne_of_none e n9)]; exact e
      have hz : upd J10 z (.lst [.ref q1, .ref q2, .ref q3, .ref q4]) z = some (.lst [.ref q1, .ref q2, .ref q3, .ref q4]) := upd_same
      replace hp1 := x11 _ _ hp1
      replace hp2 := x11 _ _ hp2
      replace hp3 := x11 _ _ hp3
      replace hp4 := x11 _ _ hp4
      replace hl := x11 _ _ hl
      replace hq1 := x11 _ _ hq1
      replace hq2 := x11 _ _ hq2
      replace hq3 := x11 _ _ hq3
      replace hq4 := x11 _ _ hq4
      generalize upd J10 z (.lst [.ref q1, .ref q2, .ref q3, .ref q4]) = J11 at *
      have lay : PyData.canLay0 (.list [.tuple [.int 0, .str (S [48, 49]), .str (S [49, 48])], .tuple [.int 1, .str (S []), .str (S [50, 49])], .tuple [.int 4999, .str (S []), .str (S [52])], .tuple [.int 0, .str (S lC), .str (S [49, 48])]]) = true := by decide +kernel
      have shp : SeqAt.shaped (.list [.tuple [.int 0, .str (S [48, 49]), .str (S [49, 48])], .tuple [.int 1, .str (S []), .str (S [50, 49])], .tuple [.int 4999, .str (S []), .str (S [52])], .tuple [.int 0, .str (S lC), .str (S [49, 48])]]) = true := by
        unfold SeqAt.shaped
        rw [lay]
        rfl
      rw [e01, e10] at hq1
      rw [str_empty, e21] at hq2
      rw [str_empty, e4] at hq3
      rw [e10] at hq4
      have t3 : ∀ (i : Int) (x y : Str), L2.DpAll K J11 [V.int i, .str x, .str y] [.int i, .str x, .str y] := fun i x y => .cons (.int _) (.cons (.str _) (.cons (.str _) .nil))
      refine ⟨.list [.tuple [.int 0, .str (S [48, 49]), .str (S [49, 48])], .tuple [.int 1, .str (S []), .str (S [50, 49])], .tuple [.int 4999, .str (S []), .str (S [52])], .tuple [.int 0, .str (S lC), .str (S [49, 48])]], .list [.tuple [.int 0, .str (S [48, 49]), .str (S [49, 48])], .tuple [.int 1, .str (S []), .str (S [50, 49])], .tuple [.int 4999, .str (S []), .str (S [52])], .tuple [.int 0, .str (S lC), .str (S [49, 48])]],
        .lst (SqL.of hl) (.cons (.tup (SqT.of hp1) (t3 _ _ _)) (.cons (.tup (SqT.of hp2) (t3 _ _ _)) (.cons (.tup (SqT.of hp3) (t3 _ _ _)) (.cons (.tup (SqT.of hp4) (t3 _ _ _)) .nil)))),
        .lst (SqL.of hz) (.cons (.tup (SqT.of hq1) (t3 _ _ _)) (.cons (.tup (SqT.of hq2) (t3 _ _ _)) (.cons (.tup (SqT.of hq3) (t3 _ _ _)) (.cons (.tup (SqT.of hq4) (t3 _ _ _)) .nil)))), shp, shp, ?_⟩
      rw [PySem.SeqAt.eqv_refl _ lay]
      exact k _
end
end Vf


set_option Elab.async false
set_option maxRecDepth 100000
set_option maxHeartbeats 8000000
set_option exponentiation.threshold 3000
namespace Vf
open PySem L2 SX Vm
/-! ### what the top has written -/
section
variable {K : PySem.W.Frag} {mg : Str → Option Value} {h : Heap}
theorem def_mk {x : Str} {st : Stmt} {ps : List Str} {f : Addr} {oc kV doc pm cd ct : Value} {od an : Option Addr} {sl : Array (Option Value)} (X : K.In h) (G : h.Ns mainGlobals mg)
    (a : PySem.W.nsIn K mainGlobals x = some (some (.ref f))) (l : K.lookup f = some ⟨oc, od, .func (PySem.W.fnOf x x (defArgs st) (defBody st) (defScope st) .none kV doc pm an cd ct), sl⟩) (c : PySem.W.codeIn K cd x = true) (k : PySem.W.keepIn K (.ref f) = true)
    (b : ∀ fd, Fun K x x st f fd → Binds K fd ps []) : ∃ (f : Addr) (fd : FuncData), Fun K x x st f fd ∧ Cal K mg x f fd ps :=
  ⟨f, _, fun_mk (st := st) l c k, PySem.W.mg_of X G a, k, b _ (fun_mk (st := st) l c k)⟩
theorem cls_mk {P : Program} {C fI cda cc S CP CX CO : Addr} {nm q N : _} {bs : List Value} {sn : List Str} {sub : List Value} {ab : Bool} {col : Option Bool} {dd : Option Addr} {k0 k1 k2 k3 k5 : Option Value}
    {oc doc pm ct ccl cl : Value} {od an cdd cld : Option Addr} {osl ccs csl : Array (Option Value)} {vs : Array Value} {file : Str} {tf : Tok} (X : K.In h) (G : h.Ns mainGlobals mg)
    (gC : PySem.W.nsIn K mainGlobals "InvalidNumber" = some (some (.ref C))) (noSuper : PySem.W.nsIn K mainGlobals "super" = some none)
    (cls : K.lookup C = some (excClassObj nm q C N bs VNum.bmI true sn sub ab col dd k0 k1 k2 k3 k5 "IndexError.__new__"))
    (sa : PySem.W.findIn K (.ref C) "__setattr__" = some (some (.builtin "object.__setattr__"))) (ga : PySem.W.findIn K (.ref C) "__getattribute__" = some (some (.builtin "BaseException.__getattribute__"))) (gg : PySem.W.findIn K (.ref C) "__getattr__" = some none)
    (ov : PySem.W.excOver K C VNum.bmI = true) (qi : PySem.W.excInitIn K C VNum.bmI "IndexError.__new__" = true) (tk : PySem.W.takerIn K C "value" = some none) (noV : PySem.W.findIn K (.ref C) "value" = some none) (hdC : PySem.W.hasDictIn K C = true)
    (iC : PySem.W.findIn K (.ref C) "__init__" = some (some (.ref fI))) (tC : PySem.W.typeIn K (.ref fI) = some (.type "function")) (any : PySem.W.nsIn K PySem.cStatics "thirdparty.any" = some none) (sup : PySem.W.ks_superIn K C C "__init__" = some (some (.builtin "IndexError.__init__")))
    (sI : PySem.W.subIn K (.ref C) (.type "IndexError") = some true) (mro : PySem.W.mroIn K C (.ref C) = some true) (kC : PySem.W.keepIn K (.ref C) = true) (exC : PySem.W.subIn K (.ref C) (.type "BaseException") = some true) (tyC : PySem.W.typeIn K (.ref C) = some (.type "type"))
    (top : (P.main.scope.names.lookup ("super" : Str)).isSome = false)
    (l1 : K.lookup fI = some ⟨oc, od, .func (PySem.W.ksFn "__init__" "InvalidNumber.__init__" VNum.mainArgs VNum.mainBody VNum.mainScope .none .none doc pm an (.ref cda) ct cc), osl⟩) (c1 : PySem.W.codeIn K (.ref cda) "InvalidNumber.__init__" = true)
    (l2 : K.lookup cda = some ⟨ccl, cdd, .fields vs, ccs⟩) (fl : vs[2]? = some (.str file tf)) (fm : ((P.main.file : Str) == file) = true) (l3 : K.lookup cc = some ⟨cl, cld, .cell (some (.ref C)), csl⟩)
    (gS : PySem.W.nsIn K mainGlobals "InvalidStream" = some (some (.ref S))) (exS : PySem.W.excIn K S [.type "ValueError", .type "Exception", .type "BaseException", .type "object"] "ValueError.__new__" = true) (kS : PySem.W.keepIn K (.ref S) = true) (bS : PySem.W.subIn K (.ref S) (.type "BaseException") = some true) (tS : PySem.W.typeIn K (.ref S) = some (.type "type"))
    (gP : PySem.W.nsIn K mainGlobals "PrefixError" = some (some (.ref CP))) (gX : PySem.W.nsIn K mainGlobals "InvalidPrefix" = some (some (.ref CX))) (gO : PySem.W.nsIn K mainGlobals "InvalidOperation" = some (some (.ref CO)))
    (rep : PySem.W.nsIn K mainGlobals "repr" = some none) (isi : PySem.W.nsIn K mainGlobals "isinstance" = some none)
    (nn : PySem.W.exmOne K (.ref C) (.ref C) = some true) (sn' : PySem.W.exmOne K (.ref S) (.ref C) = some false) (sp : PySem.W.exmOne K (.ref S) (.ref CP) = some true)
    (e1 : PySem.W.findIn K (.ref S) "__getattribute__" = some (some (.builtin "BaseException.__getattribute__"))) (e2 : PySem.W.findIn K (.ref S) "__getattr__" = some none) (e4 : PySem.W.hasDictIn K S = true) (e5 : PySem.W.findIn K (.ref S) "__class__" = some (some (.builtin "object.__class__")))
    (e6 : PySem.W.specialIn K (.builtin "object.__class__") "__get__" = some (some (.builtin "getset_descriptor.__get__"))) (e7 : PySem.W.takesIn K (.builtin "object.__class__") = some true) (e8 : PySem.W.mroIn K S (.type "object") = some true)
    (q1 : PySem.W.kitOne K (.ref S) (.ref S) = some true) (q2 : PySem.W.kitOne K (.ref S) (.ref CX) = some false) (q3 : PySem.W.kitOne K (.ref S) (.ref CO) = some false) :
    ∃ CN f CS P' CX' CO' : Addr, VNum.NumTxt P K mg CN f ∧ PfxTxt K mg "InvalidStream" CS ∧ ToldTxt K mg CN P' CS CX' CO' :=
  ⟨C, fI, S, CP, CX, CO,
    { gC := PySem.W.mg_of X G gC, noSuper := PySem.W.mg_none_of X G noSuper, cls := ⟨nm, q, N, bs, sn, sub, ab, col, dd, k0, k1, k2, k3, k5, cls⟩, sa := sa, ga := ga, gg := gg, ov := ov, qi := qi, tk := tk, noV := noV, hdC := hdC, iC := iC, tC := tC, any := any, sup := sup, sI := sI, mro := mro, kC := kC, exC := exC, tyC := tyC, top := top,
      fn := ⟨oc, od, doc, pm, an, cda, cc, ct, osl, vs, file, tf, ccl, cdd, ccs, cl, cld, csl, l1, c1, l2, fl, fm, l3⟩ },
    ⟨PySem.W.mg_of X G gS, exS, kS, bS, tS⟩,
    { gN := PySem.W.mg_of X G gC, gP := PySem.W.mg_of X G gP, gS := PySem.W.mg_of X G gS, gX := PySem.W.mg_of X G gX, gO := PySem.W.mg_of X G gO, rep := PySem.W.mg_none_of X G rep, isi := PySem.W.mg_none_of X G isi, nn := nn, sn := sn', sp := sp, xf := ⟨ga, gg, exC, hdC⟩, nov := noV,
      ec := ⟨e1, e2, bS, e4, e5, e6, e7, e8⟩, kS := q1, kX := q2, kO := q3 }⟩
theorem nm_mk {t1 t2 t3 t4 : Tok} (X : K.In h) (G : h.Ns mainGlobals mg) (z1 : PySem.W.nsIn K mainGlobals "isinstance" = some none) (z2 : PySem.W.nsIn K mainGlobals "int" = some none) (z3 : PySem.W.nsIn K mainGlobals "bool" = some none) (z4 : PySem.W.nsIn K mainGlobals "str" = some none)
    (z5 : PySem.W.nsIn K mainGlobals "tuple" = some none) (z6 : PySem.W.nsIn K mainGlobals "len" = some none) (y1 : PySem.W.nsIn K mainGlobals "MIN_BASE" = some (some (.int 2 t1))) (y2 : PySem.W.nsIn K mainGlobals "MAX_BASE" = some (some (.int 5 t2))) (y3 : PySem.W.nsIn K mainGlobals "MAX_ROOTS" = some (some (.int 5000 t3)))
    (y4 : PySem.W.nsIn K mainGlobals "DIGITS" = some (some (.str "01234" t4))) (z7 : PySem.W.nsIn K mainGlobals "range" = some none) (z8 : PySem.W.nsIn K mainGlobals "max" = some none) (z9 : PySem.W.nsIn K mainGlobals "min" = some none) (z10 : PySem.W.nsIn K mainGlobals "abs" = some none) :
    Nm mg ∧ mg "range" = none ∧ mg "max" = none ∧ mg "min" = none ∧ mg "abs" = none :=
  ⟨⟨PySem.W.mg_none_of X G z1, PySem.W.mg_none_of X G z2, PySem.W.mg_none_of X G z3, PySem.W.mg_none_of X G z4, PySem.W.mg_none_of X G z5, PySem.W.mg_none_of X G z6, ⟨t1, PySem.W.mg_of X G y1⟩, ⟨t2, PySem.W.mg_of X G y2⟩, ⟨t3, PySem.W.mg_of X G y3⟩, ⟨t4, PySem.W.mg_of X G y4⟩⟩,
    PySem.W.mg_none_of X G z7, PySem.W.mg_none_of X G z8, PySem.W.mg_none_of X G z9, PySem.W.mg_none_of X G z10⟩
theorem told_mk {f : Addr} {oc kV doc pm cd ct : Value} {od an : Option Addr} {sl : Array (Option Value)} (X : K.In h) (G : h.Ns mainGlobals mg)
    (a : PySem.W.nsIn K mainGlobals "_law_told" = some (some (.ref f))) (l : K.lookup f = some ⟨oc, od, .func (PySem.W.fnOf "_law_told" "_law_told" (defArgs sTold) (defBody sTold) (defScope sTold) .none kV doc pm an cd ct), sl⟩) (c : PySem.W.codeIn K cd "_law_told" = true) (k : PySem.W.keepIn K (.ref f) = true) : ∃ g, ToldFn K mg g :=
  ⟨f, PySem.W.mg_of X G a, k, oc, od, kV, doc, pm, an, cd, ct, sl, l, c, (fun_mk (st := sTold) l c k).binds fun _ _ _ _ _ _ us hl => match us, hl with | [_], _ => rfl⟩
/-- the defs, joined -/
theorem law_mk {l : PySem.W.OpenLaw} {w : World} {fa c Pt f g CN fI CS CP CX CO fE fIsInt fWithin fReqNum fReqBase fReqRoots fWordForm fIsStream fStreamForm fShort fNormal fMake fDice fPull fWord fLNormal fLStream fLBeg fLBase fNoBase fOther fRight : Addr} {fdIsInt fdWithin fdReqNum fdReqBase fdReqRoots fdWordForm fdIsStream fdStreamForm fdShort fdNormal fdMake fdDice fdPull fdWord fdLNormal fdLStream fdLBeg fdLBase fdNoBase fdOther fdRight : FuncData} {oc kV doc pm cd ct ocE kVE docE pmE ctE : Value} {od an odE anE : Option Addr} {sl slE : Array (Option Value)} (X : K.In h) (G : h.Ns mainGlobals mg) (hfa : mg "law" = some (.ref fa))
    (a : PySem.W.nsIn K mainGlobals "law" = some (some (.ref f))) (lk : K.lookup f = some ⟨oc, od, .func (PySem.W.fnOf "law" "law" (defArgs sLaw) (defBody sLaw) (defScope sLaw) .none kV doc pm an cd ct), sl⟩) (cc : PySem.W.codeIn K cd "law" = true) (k : PySem.W.keepIn K (.ref f) = true)
    (aE : PySem.W.nsIn K mainGlobals "_law_errors_right" = some (some (.ref fE))) (lE : K.lookup fE = some ⟨ocE, odE, .func (PySem.W.fnOf "_law_errors_right" "_law_errors_right" (defArgs sErr) (defBody sErr) (defScope sErr) .none kVE docE pmE anE (.ref c) ctE), slE⟩) (cE : PySem.W.codeIn K (.ref c) "_law_errors_right" = true) (kE : PySem.W.keepIn K (.ref fE) = true)
    (hT : h.get? Pt = some { cls := .none, data := .fields #[] }) (nT : K.lookup Pt = none) (hh : PySem.W.codeHdIn K c Pt = true)
    (num : VNum.NumTxt l.prog K mg CN fI) (pfx : PfxTxt K mg "InvalidStream" CS) (told : ToldTxt K mg CN CP CS CX CO) (TF : ToldFn K mg g) (NN : Nm mg ∧ mg "range" = none ∧ mg "max" = none ∧ mg "min" = none ∧ mg "abs" = none)
    (FIsInt : Fun K "is_integer" "is_integer" sIsInt fIsInt fdIsInt) (cIsInt : Cal K mg "is_integer" fIsInt fdIsInt ["value"])
    (FWithin : Fun K "is_integer_within" "is_integer_within" sWithin fWithin fdWithin) (cWithin : Cal K mg "is_integer_within" fWithin fdWithin ["low", "high", "value"])
    (FReqNum : Fun K "require_number" "require_number" sReqNum fReqNum fdReqNum) (cReqNum : Cal K mg "require_number" fReqNum fdReqNum ["low", "high", "number"])
    (FReqBase : Fun K "require_base" "require_base" sReqBase fReqBase fdReqBase) (cReqBase : Cal K mg "require_base" fReqBase fdReqBase ["base"])
    (FReqRoots : Fun K "require_roots" "require_roots" sReqRoots fReqRoots fdReqRoots) (cReqRoots : Cal K mg "require_roots" fReqRoots fdReqRoots ["roots"])
    (FWordForm : Fun K "has_word_form" "has_word_form" sWordForm fWordForm fdWordForm) (cWordForm : Cal K mg "has_word_form" fWordForm fdWordForm ["base", "value"])
    (FIsStream : Fun K "is_stream" "is_stream" sIsStream fIsStream fdIsStream) (cIsStream : Cal K mg "is_stream" fIsStream fdIsStream ["base", "roots", "value"])
    (FStreamForm : Fun K "has_stream_form" "has_stream_form" sStreamForm fStreamForm fdStreamForm) (cStreamForm : Cal K mg "has_stream_form" fStreamForm fdStreamForm ["base", "roots", "value"])
    (FShort : Fun K "shortest_period" "shortest_period" sShortest fShort fdShort) (cShort : Cal K mg "shortest_period" fShort fdShort ["period"])
    (FNormal : Fun K "normal_stream" "normal_stream" sNormal fNormal fdNormal) (cNormal : Cal K mg "normal_stream" fNormal fdNormal ["root", "head", "period"])
    (FMake : Fun K "make_stream" "make_stream" sMake fMake fdMake) (cMake : Cal K mg "make_stream" fMake fdMake ["base", "root", "head", "period"])
    (FDice : Fun K "_law_dice" "_law_dice" sDice fDice fdDice) (cDice : Cal K mg "_law_dice" fDice fdDice ["script", "at"])
    (FPull : Fun K "_law_pull" "_law_pull" sPull fPull fdPull) (cPull : Cal K mg "_law_pull" fPull fdPull ["die", "many"])
    (FWord : Fun K "_law_word" "_law_word" sWord fWord fdWord) (cWord : Cal K mg "_law_word" fWord fdWord ["die", "base", "high"])
    (FLNormal : Fun K "_law_normal" "_law_normal" sLNormal fLNormal fdLNormal) (cLNormal : Cal K mg "_law_normal" fLNormal fdLNormal ["root", "head", "period"])
    (FLStream : Fun K "_law_stream" "_law_stream" sLStream fLStream fdLStream) (cLStream : Cal K mg "_law_stream" fLStream fdLStream ["die", "base", "wide", "high"])
    (FLBeg : Fun K "_law_beginning" "_law_beginning" sLBeg fLBeg fdLBeg) (cLBeg : Cal K mg "_law_beginning" fLBeg fdLBeg ["stream", "many"])
    (FLBase : Fun K "_law_base" "_law_base" sLBase fLBase fdLBase) (cLBase : Cal K mg "_law_base" fLBase fdLBase ["die"])
    (FNoBase : Fun K "_law_no_base" "_law_no_base" sNoBase fNoBase fdNoBase) (cNoBase : Cal K mg "_law_no_base" fNoBase fdNoBase ["die"])
    (FOther : Fun K "_law_otherwise" "_law_otherwise" sOther fOther fdOther) (cOther : Cal K mg "_law_otherwise" fOther fdOther ["die", "stream"])
    (FRight : Fun K "_law_right" "_law_right" sRight fRight fdRight) (cRight : Cal K mg "_law_right" fRight fdRight ["die", "base"]) : VG.LawG l w K 9 63 "script" mg fa h := by
  obtain ⟨N, nr, nx, nn, nab⟩ := NN
  have e := hfa.symm.trans (PySem.W.mg_of X G a)
  cases e
  refine ⟨PySem.W.fnOf "law" "law" (defArgs sLaw) (defBody sLaw) (defScope sLaw) .none kV doc pm an cd ct, [(c, Pt)], spLaw K Pt, fun p hp => ?_, fun p hp => ?_, fun p hp => ?_, fun s v => .of_eq rfl, fun H a ns hl ht hs => ?_, fun base KB GB TB => ?_⟩
  · rw [List.mem_singleton.mp hp]
    exact hT
  · rw [List.mem_singleton.mp hp]
    exact nT
  · rw [List.mem_singleton.mp hp]
    exact PySem.W.codeHd_of_K X hh
  · refine ⟨a, ns, rfl, hs, hl, fun p hp => ?_, fun _ => rfl⟩
    rw [List.mem_singleton.mp hp]
    exact LamX.TabS.nil (ht _ (List.mem_singleton_self _))
  · have GIsInt := ok_isint (P := l.prog) (w := w) (base := base) FIsInt N
    have GWithin := ok_within FWithin GIsInt cIsInt
    have GReqNum := ok_reqnum FReqNum GWithin cWithin num
    have GReqBase := ok_reqbase FReqBase GReqNum cReqNum N
    have GReqRoots := ok_reqroots FReqRoots GReqNum cReqNum N
    have GWordForm := ok_wordform (P := l.prog) (w := w) (base := base) FWordForm N
    have GShort := ok_short (P := l.prog) (w := w) (mg := mg) (base := base) FShort
    have GStreamForm := ok_streamform FStreamForm GWithin cWithin GWordForm cWordForm GShort cShort N
    have GIsStream := ok_isstream FIsStream GReqBase cReqBase GReqRoots cReqRoots GStreamForm cStreamForm
    have GNormal := ok_normal FNormal GShort cShort N.len
    have GMake := ok_make FMake GReqBase cReqBase GWithin cWithin GWordForm cWordForm GNormal cNormal pfx N
    have GDice := ok_dice (P := l.prog) (w := w) (base := base) FDice N.len nab N.int nx
    have GPull := ok_pull (P := l.prog) (w := w) (mg := mg) (base := base) FPull
    have GWord := ok_word FWord GPull cPull nr
    have GLNormal := ok_lnormal (P := l.prog) (w := w) (base := base) FLNormal N.len nr
    have GLStream := ok_lstream FLStream GPull cPull GWord cWord GLNormal cLNormal
    have GLBeg := ok_lbeg (P := l.prog) (w := w) (base := base) FLBeg N.len
    have GLBase := ok_base FLBase GPull cPull
    have GNoBase := ok_nobase FNoBase GPull cPull
    have GOther := ok_other FOther GPull cPull nr
    have GRight := ok_right FRight GPull cPull GWord cWord GMake cMake GLNormal cLNormal GIsStream cIsStream GOther cOther GLStream cLStream GLBeg cLBeg told N
    have FE := fun_mk (st := sErr) lE cE kE
    have bE := FE.binds (ps := ["die", "base"]) fun _ _ _ _ _ _ us hl => match us, hl with | [_, _], _ => rfl
    have GErr := ok_err (Pt := Pt) (c := c) FE GNoBase cNoBase GPull cPull GMake cMake TF told (TB _ (List.mem_singleton_self _)) (fun cdv hx => by
      obtain ⟨_, _, _, _, _, _, _, _, q⟩ := hx
      rw [lE] at q
      injection q with q
      injection q with _ _ q _
      injection q with q
      exact (congrArg FuncData.code q).symm) N
    exact ok_law (fun_mk (st := sLaw) lk cc k) GDice cDice GLBase cLBase GRight cRight GErr ⟨PySem.W.mg_of X G aE, kE, bE⟩ GMake cMake N nr nx nn
end
end Vf


set_option Elab.async false
open PySem PySem.W PyProof.Rows
set_option maxRecDepth 100000 in
set_option maxHeartbeats 0 in
theorem PySem.Challenge.cw_prefixtable_k02_streams_made_holds : PySem.Challenge.rw_prefixtable_k02_streams_made.Holds := by
  w_on; o_law; k_head; (case hw => w_witness2)
  k_fill
  refine VG.walkG (l := PySem.Challenge.rw_prefixtable_k02_streams_made) (n := 63) (k := 9) (x := "script") rfl (by decide) rfl ⟨rfl, by decide, by decide⟩ (fun w h Y => PySem.W.km_in_of Y) ?F
  case F =>
    intro w mg fa h Y KX G hmg
    have hT := PySem.W.km_tabs_of Y
    refine' Exists.elim (Vf.def_mk (x := "is_integer") (st := Vf.sIsInt) (ps := ["value"]) KX G ?aIsInt ?lIsInt ?cIsInt ?kIsInt ?bIsInt) ?_
    (case aIsInt => k_is); (case lIsInt => k_is); (case cIsInt => k_is); (case kIsInt => k_is)
    (case bIsInt => exact fun fd F => F.binds fun _ _ _ _ _ _ us hl => match us, hl with | [_], _ => rfl)
    rintro fIsInt ⟨fdIsInt, FIsInt, cIsInt⟩
    refine' Exists.elim (Vf.def_mk (x := "is_integer_within") (st := Vf.sWithin) (ps := ["low", "high", "value"]) KX G ?aWithin ?lWithin ?cWithin ?kWithin ?bWithin) ?_
    (case aWithin => k_is); (case lWithin => k_is); (case cWithin => k_is); (case kWithin => k_is)
    (case bWithin => exact fun fd F => F.binds fun _ _ _ _ _ _ us hl => match us, hl with | [_, _, _], _ => rfl)
    rintro fWithin ⟨fdWithin, FWithin, cWithin⟩
    refine' Exists.elim (Vf.def_mk (x := "require_number") (st := Vf.sReqNum) (ps := ["low", "high", "number"]) KX G ?aReqNum ?lReqNum ?cReqNum ?kReqNum ?bReqNum) ?_
    (case aReqNum => k_is); (case lReqNum => k_is); (case cReqNum => k_is); (case kReqNum => k_is)
    (case bReqNum => exact fun fd F => F.binds fun _ _ _ _ _ _ us hl => match us, hl with | [_, _, _], _ => rfl)
    rintro fReqNum ⟨fdReqNum, FReqNum, cReqNum⟩
    refine' Exists.elim (Vf.def_mk (x := "require_base") (st := Vf.sReqBase) (ps := ["base"]) KX G ?aReqBase ?lReqBase ?cReqBase ?kReqBase ?bReqBase) ?_
    (case aReqBase => k_is); (case lReqBase => k_is); (case cReqBase => k_is); (case kReqBase => k_is)
    (case bReqBase => exact fun fd F => F.binds fun _ _ _ _ _ _ us hl => match us, hl with | [_], _ => rfl)
    rintro fReqBase ⟨fdReqBase, FReqBase, cReqBase⟩
    refine' Exists.elim (Vf.def_mk (x := "require_roots") (st := Vf.sReqRoots) (ps := ["roots"]) KX G ?aReqRoots ?lReqRoots ?cReqRoots ?kReqRoots ?bReqRoots) ?_
    (case aReqRoots => k_is); (case lReqRoots => k_is); (case cReqRoots => k_is); (case kReqRoots => k_is)
    (case bReqRoots => exact fun fd F => F.binds fun _ _ _ _ _ _ us hl => match us, hl with | [_], _ => rfl)
    rintro fReqRoots ⟨fdReqRoots, FReqRoots, cReqRoots⟩
    refine' Exists.elim (Vf.def_mk (x := "has_word_form") (st := Vf.sWordForm) (ps := ["base", "value"]) KX G ?aWordForm ?lWordForm ?cWordForm ?kWordForm ?bWordForm) ?_
    (case aWordForm => k_is); (case lWordForm => k_is); (case cWordForm => k_is); (case kWordForm => k_is)
    (case bWordForm => exact fun fd F => F.binds fun _ _ _ _ _ _ us hl => match us, hl with | [_, _], _ => rfl)
    rintro fWordForm ⟨fdWordForm, FWordForm, cWordForm⟩
    refine' Exists.elim (Vf.def_mk (x := "is_stream") (st := Vf.sIsStream) (ps := ["base", "roots", "value"]) KX G ?aIsStream ?lIsStream ?cIsStream ?kIsStream ?bIsStream) ?_
    (case aIsStream => k_is); (case lIsStream => k_is); (case cIsStream => k_is); (case kIsStream => k_is)
    (case bIsStream => exact fun fd F => F.binds fun _ _ _ _ _ _ us hl => match us, hl with | [_, _, _], _ => rfl)
    rintro fIsStream ⟨fdIsStream, FIsStream, cIsStream⟩
    refine' Exists.elim (Vf.def_mk (x := "has_stream_form") (st := Vf.sStreamForm) (ps := ["base", "roots", "value"]) KX G ?aStreamForm ?lStreamForm ?cStreamForm ?kStreamForm ?bStreamForm) ?_
    (case aStreamForm => k_is); (case lStreamForm => k_is); (case cStreamForm => k_is); (case kStreamForm => k_is)
    (case bStreamForm => exact fun fd F => F.binds fun _ _ _ _ _ _ us hl => match us, hl with | [_, _, _], _ => rfl)
    rintro fStreamForm ⟨fdStreamForm, FStreamForm, cStreamForm⟩
    refine' Exists.elim (Vf.def_mk (x := "shortest_period") (st := Vf.sShortest) (ps := ["period"]) KX G ?aShort ?lShort ?cShort ?kShort ?bShort) ?_
    (case aShort => k_is); (case lShort => k_is); (case cShort => k_is); (case kShort => k_is)
    (case bShort => exact fun fd F => F.binds fun _ _ _ _ _ _ us hl => match us, hl with | [_], _ => rfl)
    rintro fShort ⟨fdShort, FShort, cShort⟩
    refine' Exists.elim (Vf.def_mk (x := "normal_stream") (st := Vf.sNormal) (ps := ["root", "head", "period"]) KX G ?aNormal ?lNormal ?cNormal ?kNormal ?bNormal) ?_
    (case aNormal => k_is); (case lNormal => k_is); (case cNormal => k_is); (case kNormal => k_is)
    (case bNormal => exact fun fd F => F.binds fun _ _ _ _ _ _ us hl => match us, hl with | [_, _, _], _ => rfl)
    rintro fNormal ⟨fdNormal, FNormal, cNormal⟩
    refine' Exists.elim (Vf.def_mk (x := "make_stream") (st := Vf.sMake) (ps := ["base", "root", "head", "period"]) KX G ?aMake ?lMake ?cMake ?kMake ?bMake) ?_
    (case aMake => k_is); (case lMake => k_is); (case cMake => k_is); (case kMake => k_is)
    (case bMake => exact fun fd F => F.binds fun _ _ _ _ _ _ us hl => match us, hl with | [_, _, _, _], _ => rfl)
    rintro fMake ⟨fdMake, FMake, cMake⟩
    refine' Exists.elim (Vf.def_mk (x := "_law_dice") (st := Vf.sDice) (ps := ["script", "at"]) KX G ?aDice ?lDice ?cDice ?kDice ?bDice) ?_
    (case aDice => k_is); (case lDice => k_is); (case cDice => k_is); (case kDice => k_is)
    (case bDice => exact fun fd F => F.binds fun _ _ _ _ _ _ us hl => match us, hl with | [_, _], _ => rfl)
    rintro fDice ⟨fdDice, FDice, cDice⟩
    refine' Exists.elim (Vf.def_mk (x := "_law_pull") (st := Vf.sPull) (ps := ["die", "many"]) KX G ?aPull ?lPull ?cPull ?kPull ?bPull) ?_
    (case aPull => k_is); (case lPull => k_is); (case cPull => k_is); (case kPull => k_is)
    (case bPull => exact fun fd F => F.binds fun _ _ _ _ _ _ us hl => match us, hl with | [_, _], _ => rfl)
    rintro fPull ⟨fdPull, FPull, cPull⟩
    refine' Exists.elim (Vf.def_mk (x := "_law_word") (st := Vf.sWord) (ps := ["die", "base", "high"]) KX G ?aWord ?lWord ?cWord ?kWord ?bWord) ?_
    (case aWord => k_is); (case lWord => k_is); (case cWord => k_is); (case kWord => k_is)
    (case bWord => exact fun fd F => F.binds fun _ _ _ _ _ _ us hl => match us, hl with | [_, _, _], _ => rfl)
    rintro fWord ⟨fdWord, FWord, cWord⟩
    refine' Exists.elim (Vf.def_mk (x := "_law_normal") (st := Vf.sLNormal) (ps := ["root", "head", "period"]) KX G ?aLNormal ?lLNormal ?cLNormal ?kLNormal ?bLNormal) ?_
    (case aLNormal => k_is); (case lLNormal => k_is); (case cLNormal => k_is); (case kLNormal => k_is)
    (case bLNormal => exact fun fd F => F.binds fun _ _ _ _ _ _ us hl => match us, hl with | [_, _, _], _ => rfl)
    rintro fLNormal ⟨fdLNormal, FLNormal, cLNormal⟩
    refine' Exists.elim (Vf.def_mk (x := "_law_stream") (st := Vf.sLStream) (ps := ["die", "base", "wide", "high"]) KX G ?aLStream ?lLStream ?cLStream ?kLStream ?bLStream) ?_
    (case aLStream => k_is); (case lLStream => k_is); (case cLStream => k_is); (case kLStream => k_is)
    (case bLStream => exact fun fd F => F.binds fun _ _ _ _ _ _ us hl => match us, hl with | [_, _, _, _], _ => rfl)
    rintro fLStream ⟨fdLStream, FLStream, cLStream⟩
    refine' Exists.elim (Vf.def_mk (x := "_law_beginning") (st := Vf.sLBeg) (ps := ["stream", "many"]) KX G ?aLBeg ?lLBeg ?cLBeg ?kLBeg ?bLBeg) ?_
    (case aLBeg => k_is); (case lLBeg => k_is); (case cLBeg => k_is); (case kLBeg => k_is)
    (case bLBeg => exact fun fd F => F.binds fun _ _ _ _ _ _ us hl => match us, hl with | [_, _], _ => rfl)
    rintro fLBeg ⟨fdLBeg, FLBeg, cLBeg⟩
    refine' Exists.elim (Vf.def_mk (x := "_law_base") (st := Vf.sLBase) (ps := ["die"]) KX G ?aLBase ?lLBase ?cLBase ?kLBase ?bLBase) ?_
    (case aLBase => k_is); (case lLBase => k_is); (case cLBase => k_is); (case kLBase => k_is)
    (case bLBase => exact fun fd F => F.binds fun _ _ _ _ _ _ us hl => match us, hl with | [_], _ => rfl)
    rintro fLBase ⟨fdLBase, FLBase, cLBase⟩
    refine' Exists.elim (Vf.def_mk (x := "_law_no_base") (st := Vf.sNoBase) (ps := ["die"]) KX G ?aNoBase ?lNoBase ?cNoBase ?kNoBase ?bNoBase) ?_
    (case aNoBase => k_is); (case lNoBase => k_is); (case cNoBase => k_is); (case kNoBase => k_is)
    (case bNoBase => exact fun fd F => F.binds fun _ _ _ _ _ _ us hl => match us, hl with | [_], _ => rfl)
    rintro fNoBase ⟨fdNoBase, FNoBase, cNoBase⟩
    refine' Exists.elim (Vf.def_mk (x := "_law_otherwise") (st := Vf.sOther) (ps := ["die", "stream"]) KX G ?aOther ?lOther ?cOther ?kOther ?bOther) ?_
    (case aOther => k_is); (case lOther => k_is); (case cOther => k_is); (case kOther => k_is)
    (case bOther => exact fun fd F => F.binds fun _ _ _ _ _ _ us hl => match us, hl with | [_, _], _ => rfl)
    rintro fOther ⟨fdOther, FOther, cOther⟩
    refine' Exists.elim (Vf.def_mk (x := "_law_right") (st := Vf.sRight) (ps := ["die", "base"]) KX G ?aRight ?lRight ?cRight ?kRight ?bRight) ?_
    (case aRight => k_is); (case lRight => k_is); (case cRight => k_is); (case kRight => k_is)
    (case bRight => exact fun fd F => F.binds fun _ _ _ _ _ _ us hl => match us, hl with | [_, _], _ => rfl)
    rintro fRight ⟨fdRight, FRight, cRight⟩
    refine' Exists.elim (Vf.cls_mk (P := PySem.Challenge.rw_prefixtable_k02_streams_made.prog) KX G ?j_gC ?j_noSuper ?j_cls ?j_sa ?j_ga ?j_gg ?j_ov ?j_qi ?j_tk ?j_noV ?j_hdC ?j_iC ?j_tC ?j_any ?j_sup ?j_sI ?j_mro ?j_kC ?j_exC ?j_tyC ?j_top ?j_l1 ?j_c1 ?j_l2 ?j_fl ?j_fm ?j_l3 ?j_gS ?j_exS ?j_kS ?j_bS ?j_tS ?j_gP ?j_gX ?j_gO ?j_rep ?j_isi ?j_nn ?j_snz ?j_sp ?j_e1 ?j_e2 ?j_e4 ?j_e5 ?j_e6 ?j_e7 ?j_e8 ?j_q1 ?j_q2 ?j_q3) ?_
    (case j_gC => k_is)
    (case j_noSuper => k_is)
    (case j_cls => k_is)
    (case j_sa => k_is)
    (case j_ga => k_is)
    (case j_gg => k_is)
    (case j_ov => first | rfl | kernel_rfl)
    (case j_qi => first | rfl | kernel_rfl)
    (case j_tk => k_is)
    (case j_noV => k_is)
    (case j_hdC => k_is)
    (case j_iC => k_is)
    (case j_tC => k_is)
    (case j_any => k_is)
    (case j_sup => first | ks_is | rfl | kernel_rfl)
    (case j_sI => k_is)
    (case j_mro => k_is)
    (case j_kC => k_is)
    (case j_exC => k_is)
    (case j_tyC => k_is)
    (case j_top => decide +kernel)
    (case j_l1 => k_is)
    (case j_c1 => k_is)
    (case j_l2 => k_is)
    (case j_fl => rfl)
    (case j_fm => first | rfl | decide +kernel)
    (case j_l3 => k_is)
    (case j_gS => k_is)
    (case j_exS => first | rfl | kernel_rfl)
    (case j_kS => k_is)
    (case j_bS => k_is)
    (case j_tS => k_is)
    (case j_gP => k_is)
    (case j_gX => k_is)
    (case j_gO => k_is)
    (case j_rep => k_is)
    (case j_isi => k_is)
    (case j_nn => first | rfl | kernel_rfl)
    (case j_snz => first | rfl | kernel_rfl)
    (case j_sp => first | rfl | kernel_rfl)
    (case j_e1 => k_is)
    (case j_e2 => k_is)
    (case j_e4 => k_is)
    (case j_e5 => k_is)
    (case j_e6 => k_is)
    (case j_e7 => k_is)
    (case j_e8 => k_is)
    (case j_q1 => first | rfl | kernel_rfl)
    (case j_q2 => first | rfl | kernel_rfl)
    (case j_q3 => first | rfl | kernel_rfl)
    rintro CN ⟨fI, CS, CP, CX, CO, num, pfx, told⟩
    have NN : Vf.Nm mg ∧ mg "range" = none ∧ mg "max" = none ∧ mg "min" = none ∧ mg "abs" = none := by
      refine' Vf.nm_mk KX G ?z1 ?z2 ?z3 ?z4 ?z5 ?z6 ?y1 ?y2 ?y3 ?y4 ?z7 ?z8 ?z9 ?z10
      (case z1 => k_is)
      (case z2 => k_is)
      (case z3 => k_is)
      (case z4 => k_is)
      (case z5 => k_is)
      (case z6 => k_is)
      (case y1 => k_is)
      (case y2 => k_is)
      (case y3 => k_is)
      (case y4 => k_is)
      (case z7 => k_is)
      (case z8 => k_is)
      (case z9 => k_is)
      (case z10 => k_is)
    refine' Exists.elim (Vf.told_mk KX G ?ta ?tl ?tc ?tk) ?_
    (case ta => k_is); (case tl => k_is); (case tc => k_is); (case tk => k_is)
    rintro g TF
    refine' Vf.law_mk (Pt := 239) KX G hmg ?ga ?lk ?cc ?gk ?aE ?lE ?cE ?kE (hT _ (by simp)) ?nT ?hh num pfx told TF NN FIsInt cIsInt FWithin cWithin FReqNum cReqNum FReqBase cReqBase FReqRoots cReqRoots FWordForm cWordForm FIsStream cIsStream FStreamForm cStreamForm FShort cShort FNormal cNormal FMake cMake FDice cDice FPull cPull FWord cWord FLNormal cLNormal FLStream cLStream FLBeg cLBeg FLBase cLBase FNoBase cNoBase FOther cOther FRight cRight
    (case ga => k_is); (case lk => k_is); (case cc => k_is); (case gk => k_is)
    (case aE => k_is); (case lE => k_is); (case cE => k_is); (case kE => k_is)
    (case nT => first | rfl | kernel_rfl)
    (case hh => first | rfl | kernel_rfl)


