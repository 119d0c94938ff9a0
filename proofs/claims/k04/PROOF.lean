import PyProof.Rows.All
import Wide.All
import OpenK.AllK
import Wide.FinOn
import HandS.ForMost
import HandS.StrMore
import HandS.TryMany
import HandS.Lambda
import HandS.EndTab
import HandS.IsInst
import HandS.Wide
import HandS.WideMore
import HandS.ExcField
import HandS.ExcIs
import HandS.Style
import HandS.WordsExc
import HandS.Deep
import HandS.SetFor
import HandS.Flow
import PyProof.ReprRoads
import KE.KExcSuper
import KE.KNestM
import PySem.Challenge.RW_prefixtable_k04_beginnings_replaced
set_option Elab.async false
set_option maxRecDepth 100000
set_option maxHeartbeats 4000000
set_option exponentiation.threshold 3000
/-! Streams made: the text by places, and rules of my own. -/
namespace Vf
open PySem L2
def top (i : Nat) : Stmt := PySem.Challenge.pw_prefixtable_k04_beginnings_replaced.main.body.getD i (.Pass ⟨0, 0, 0, 0⟩)
abbrev sIsInt : Stmt := top 7
abbrev sWithin : Stmt := top 8
abbrev sReqNum : Stmt := top 9
abbrev sReqBase : Stmt := top 15
abbrev sReqRoots : Stmt := top 16
abbrev sWordForm : Stmt := top 17
abbrev sPfxForm : Stmt := top 18
abbrev sReqPfx : Stmt := top 19
abbrev sIsStream : Stmt := top 21
abbrev sStreamForm : Stmt := top 22
abbrev sReqStream : Stmt := top 23
abbrev sShortest : Stmt := top 24
abbrev sNormal : Stmt := top 25
abbrev sLead : Stmt := top 26
abbrev sIsUnder : Stmt := top 27
abbrev sBegins : Stmt := top 28
abbrev sWithBeg : Stmt := top 29
abbrev sReplaced : Stmt := top 30
abbrev sDice : Stmt := top 32
abbrev sPull : Stmt := top 33
abbrev sWord : Stmt := top 34
abbrev sLNormal : Stmt := top 35
abbrev sLStream : Stmt := top 36
abbrev sLBeg : Stmt := top 37
abbrev sLUnder : Stmt := top 38
abbrev sLReplaced : Stmt := top 39
abbrev sLBase : Stmt := top 40
abbrev sTold : Stmt := top 41
abbrev sNoBase : Stmt := top 42
abbrev sNoStream : Stmt := top 43
abbrev sNoPfx : Stmt := top 44
abbrev sNear : Stmt := top 45
abbrev sRight : Stmt := top 46
abbrev sErr : Stmt := top 47
abbrev sLaw : Stmt := top 48

/-! ### the dice: three ints in a list -/
structure DieV (d0 d1 d2 : Int) : Prop where
  p0 : 0 ≤ d0
  w0 : d0.natAbs < 2 ^ 2300
  p1 : 0 ≤ d1
  p2 : 0 ≤ d2
def dieL (d : Int × Int × Int) : List V := [.int d.1, .int d.2.1, .int d.2.2]
def DieOk (d : Int × Int × Int) : Prop := DieV d.1 d.2.1 d.2.2
/-- everything but a is as before -/
def Kp (a : Addr) (H H' : Hp) : Prop := ∀ b o, b ≠ a → H b = some o → H' b = some o
theorem Kp.refl (a : Addr) (H : Hp) : Kp a H H := fun _ _ _ h => h
theorem Kp.trans {a : Addr} {H H1 H2 : Hp} (x : Kp a H H1) (y : Kp a H1 H2) : Kp a H H2 := fun b o n h => y b o n (x b o n h)
theorem Kp.upd {a : Addr} {H : Hp} {o : HO} : Kp a H (upd H a o) := fun b u n h => by rw [upd_ne n]; exact h
theorem Kp.new {a p : Addr} {H : Hp} {o : HO} (h : H p = none) : Kp a H (L2.upd H p o) := fun b u _ e => by rw [upd_ne (ne_of_none e h)]; exact e
theorem Kp.same {a : Addr} {H H' : Hp} (e : Same H H') : Kp a H H' := fun b o _ h => e b o h
/-- _law_pull: a draw below many -/
def spPull : Sp := fun vs H Q _ => ∃ (a : Addr) (d : Int × Int × Int) (many : Int), vs = [.ref a, .int many] ∧ H a = some (.lst (dieL d)) ∧ DieOk d ∧ 1 ≤ many ∧ many ≤ 5000 ∧
  d.2.2 ≤ 1000000000 ∧ ∀ (r : Int) (d' : Int × Int × Int), DieOk d' → d'.2.2 ≤ d.2.2 + 1 → 0 ≤ r → r < many → Q (.int r) (upd H a (.lst (dieL d')))
theorem pull_bound (d1 d2 : Int) (p1 : 0 ≤ d1) (p2 : 0 ≤ d2) (hc : d2 ≤ 1000000000) :
    0 ≤ (d1 + 3266489917 * (d2 + 1)) % 36028797018963913 ∧ (d1 + 3266489917 * (d2 + 1)) % 36028797018963913 < 36028797018963913 ∧
    0 ≤ (d1 + 3266489917 * (d2 + 1)) % 36028797018963913 * ((d1 + 3266489917 * (d2 + 1)) % 36028797018963913) % 18014398509481951 ∧
    (d1 + 3266489917 * (d2 + 1)) % 36028797018963913 * ((d1 + 3266489917 * (d2 + 1)) % 36028797018963913) % 18014398509481951 < 18014398509481951 ∧
    ((d1 + 3266489917 * (d2 + 1)) % 36028797018963913 * ((d1 + 3266489917 * (d2 + 1)) % 36028797018963913) % 18014398509481951 * ((d1 + 3266489917 * (d2 + 1)) % 36028797018963913) + 668265263 * (d2 + 1) + d1 % 65521).natAbs < 2 ^ 120 := by
  generalize (d1 + 3266489917 * (d2 + 1)) % 36028797018963913 = one, Int.emod_nonneg (d1 + 3266489917 * (d2 + 1)) (show (36028797018963913 : Int) ≠ 0 by decide) = o0, Int.emod_lt_of_pos (d1 + 3266489917 * (d2 + 1)) (show (0 : Int) < 36028797018963913 by decide) = o1
  have t0 : 0 ≤ one * one % 18014398509481951 := Int.emod_nonneg _ (by decide)
  have t1 : one * one % 18014398509481951 < 18014398509481951 := Int.emod_lt_of_pos _ (by decide)
  generalize one * one % 18014398509481951 = two at t0 t1
  refine ⟨o0, o1, t0, t1, ?_⟩
  have b1 : (two * one).natAbs < 2 ^ 110 := wide_lt (a := 55) (b := 55) (by omega) (by omega)
  have b1' : 0 ≤ two * one := Int.mul_nonneg t0 o0
  generalize two * one = three at b1 b1'
  have m0 : 0 ≤ d1 % 65521 := Int.emod_nonneg _ (by decide)
  have m1 : d1 % 65521 < 65521 := Int.emod_lt_of_pos _ (by decide)
  have e : (2 : Nat) ^ 110 = 1298074214633706907132624082305024 := by decide
  have e' : (2 : Nat) ^ 120 = 1329227995784915872903807060280344576 := by decide
  omega
section
variable {P : Program} {w : World} {K : PySem.W.Frag} {mg : Str → Option Value} {base : Heap}
theorem scPull : FnScope ["die", "many", "found", "one", "two"] ["die", "many"] (defScope sPull) := ⟨rfl, rfl, rfl, by decide +kernel, rfl, by decide +kernel, by decide +kernel⟩
theorem ok_pull {f : Addr} {fd : FuncData} (F : Fun K "_law_pull" "_law_pull" sPull f fd) : FnOk P w K mg base CX0 1 f fd ["die", "many"] spPull := by
  refine F.ok scPull (fun vs H Q E h => ?_) (fun cdv A outer s H vs Q E hr h => ?_)
  · obtain ⟨a, d, many, rfl, _⟩ := h
    rfl
  · obtain ⟨a, ⟨d0, d1, d2⟩, many, rfl, ha, hd, h1, h2, hc, k⟩ := h
    have hc : d2 ≤ 1000000000 := hc
    have nd := scPull.nd
    refine ⟨_, pss_cons (ps_if (pt_cmpR op_gt (pe_ix ix_list (pv 0) pe_int (fun _ _ => rfl)) pe_int (nomark _))
        (pss_cons (ps_set (i := 2) nd rfl (Or.inl rfl) (pe_op op_mod (pe_ix ix_list (pv 0) pe_int (fun _ _ => rfl)) (pv 1)))
        (pss_cons (ps_asg (pe_op op_fdivW (pe_ix ix_list (pv 0) pe_int (fun _ _ => rfl)) (pv 1)) (pg_sub (pv 0) pe_int set_list))
        (pss_one (ps_ret (pv 2))))) pss_nil)
      (pss_cons (ps_asg (pe_op op_add (pe_ix ix_list (pv 0) pe_int (fun _ _ => rfl)) pe_int) (pg_sub (pv 0) pe_int set_list))
      (pss_cons (ps_set (i := 3) nd rfl (Or.inl rfl) (pe_op op_mod (pe_op op_add (pe_ix ix_list (pv 0) pe_int (fun _ _ => rfl)) (pe_op op_mul pe_int (pe_ix ix_list (pv 0) pe_int (fun _ _ => rfl)))) pe_int))
      (pss_cons (ps_set (i := 4) nd rfl (Or.inl rfl) (pe_op op_mul (pe_op op_mod (pe_op op_mul (pv 3) (pv 3)) pe_int) (pv 3)))
      (pss_cons (ps_set (i := 4) nd rfl (Or.inl rfl) (pe_op op_add (pe_op op_add (pv 4) (pe_op op_mul pe_int (pe_ix ix_list (pv 0) pe_int (fun _ _ => rfl)))) (pe_op op_mod (pe_ix ix_list (pv 0) pe_int (fun _ _ => rfl)) pe_int)))
      (pss_one (ps_ret (pe_op op_mod (pe_op op_fdiv (pe_op op_mod (pe_op op_mulW (pv 4) (pv 4)) pe_int) pe_int) (pv 1)))))))), ?_⟩
    obtain ⟨hp0, hw0, hp1, hp2⟩ := id hd
    have hp0 : 0 ≤ d0 := hp0
    have hp1 : 0 ≤ d1 := hp1
    have hp2 : 0 ≤ d2 := hp2
    have hw0 : d0.natAbs < 2 ^ 2300 := hw0
    have ix0 : atI (dieL (d0, d1, d2)) 0 = some (.int d0) := rfl
    have ix1 : atI (dieL (d0, d1, d2)) 1 = some (.int d1) := rfl
    have ix2 : atI (dieL (d0, d1, d2)) 2 = some (.int d2) := rfl
    refine ⟨_, rfl, a, _, _, _, rfl, rfl, SqL.of ha, ix0, _, _, rfl, rfl, _, rfl, ?_⟩
    refine ite2 (fun c => ?_) (fun c => ?_)
    · refine ⟨_, rfl, a, _, _, _, rfl, rfl, SqL.of ha, ix0, _, rfl, _, _, rfl, rfl, (by show (0 : Int) < many; omega), ?_⟩
      refine ⟨_, rfl, a, _, _, _, rfl, rfl, SqL.of ha, ix0, _, rfl, _, _, rfl, rfl, (wide_div (b := 13) (by omega) (by omega) (by omega) (by omega)), ?_⟩
      refine ⟨_, rfl, a, _, _, _, rfl, rfl, ha, rfl, ?_⟩
      refine ⟨_, rfl, ?_⟩
      have q := k (d0 % many) (d0 / many, d1, d2) ⟨Int.ediv_nonneg hp0 (by omega), ?_, hp1, hp2⟩ (by show d2 ≤ d2 + 1; omega) (Int.emod_nonneg _ (by omega)) (Int.emod_lt_of_pos _ (by omega))
      · exact q
      · show (d0 / many).natAbs < 2 ^ 2300
        refine wide_le (j := d0) (Int.ediv_nonneg hp0 (by omega)) (Int.ediv_le_self _ hp0) hw0
    · have hb : upd H a (.lst (dieL (d0, d1, d2 + 1))) a = some (.lst (dieL (d0, d1, d2 + 1))) := upd_same
      have jx0 : atI (dieL (d0, d1, d2 + 1)) 0 = some (.int d0) := rfl
      have jx1 : atI (dieL (d0, d1, d2 + 1)) 1 = some (.int d1) := rfl
      have jx2 : atI (dieL (d0, d1, d2 + 1)) 2 = some (.int (d2 + 1)) := rfl
      refine ⟨_, rfl, a, _, _, _, rfl, rfl, SqL.of ha, ix2, _, _, rfl, rfl, ?_⟩
      refine ⟨_, rfl, a, _, _, _, rfl, rfl, ha, rfl, ?_⟩
      have pos1 : (0 : Int) < 36028797018963913 := by decide
      have pos2 : (0 : Int) < 18014398509481951 := by decide
      have pos3 : (0 : Int) < 65521 := by decide
      have pos4 : (0 : Int) < 1125899906842597 := by decide
      refine ⟨_, rfl, a, _, _, _, rfl, rfl, SqL.of hb, jx1, _, rfl, a, _, _, _, rfl, rfl, SqL.of hb, jx2, _, _, rfl, rfl, .inl ⟨by decide, by decide⟩, _, _, rfl, rfl, _, _, rfl, rfl, pos1, ?_⟩
      -- one * one % .. * one
      obtain ⟨o0, o1, t0, t1, b2⟩ := pull_bound d1 d2 hp1 hp2 hc
      have one63 : (d1 + 3266489917 * (d2 + 1)) % 36028797018963913 < 2 ^ 64 := Int.lt_trans o1 (by decide)
      have one63' : -(2 ^ 64) < (d1 + 3266489917 * (d2 + 1)) % 36028797018963913 := Int.lt_of_lt_of_le (by decide) o0
      refine ⟨_, rfl, _, rfl, _, _, rfl, rfl, .inl ⟨one63', one63⟩, _, _, rfl, rfl, pos2, _, rfl, _, _, rfl, rfl, .inr ⟨one63', one63⟩, ?_⟩
      refine ⟨_, rfl, _, rfl, a, _, _, _, rfl, rfl, SqL.of hb, jx2, _, _, rfl, rfl, .inl ⟨by decide, by decide⟩, _, _, rfl, rfl, _, rfl, a, _, _, _, rfl, rfl, SqL.of hb, jx1, _, _, rfl, rfl, pos3, _, _, rfl, rfl, ?_⟩
      refine ⟨_, rfl, _, rfl, _, _, rfl, rfl, wide_mul (a := 120) (b := 120) b2 b2 (by decide) (by decide) (by decide), _, _, rfl, rfl, pos4, _, _, rfl, rfl, ⟨by decide, by decide⟩, _, rfl, _, _, rfl, rfl, (by show (0 : Int) < many; omega), ?_⟩
      exact k _ (d0, d1, d2 + 1) ⟨hp0, hw0, hp1, by show (0 : Int) ≤ d2 + 1; have : (0 : Int) ≤ d2 := hp2; omega⟩ (by show d2 + 1 ≤ d2 + 1; omega) (Int.emod_nonneg _ (by omega)) (Int.emod_lt_of_pos _ (by omega))
end
end Vf


set_option Elab.async false
set_option maxRecDepth 100000
set_option maxHeartbeats 4000000
set_option exponentiation.threshold 3000
namespace Vf
open PySem L2 SX
/-! ### digits as code points -/
/-- a word of the base -/
def IsW (b : Int) (l : List Nat) : Prop := ∀ c ∈ l, 48 ≤ c ∧ (c : Int) < 48 + b
theorem IsW.nil (b : Int) : IsW b [] := fun _ h => by cases h
theorem IsW.app {b : Int} {l m : List Nat} (h1 : IsW b l) (h2 : IsW b m) : IsW b (l ++ m) := fun c h => by
  rcases List.mem_append.mp h with h | h
  · exact h1 c h
  · exact h2 c h
theorem IsW.of {b : Int} {l m : List Nat} (h1 : IsW b l) (h : ∀ c ∈ m, c ∈ l) : IsW b m := fun c hc => h1 c (h c hc)
theorem str_empty : ("" : Str) = S [] := by decide +kernel
theorem s01234 : ("01234" : Str) = S [48, 49, 50, 51, 52] := by decide +kernel
/-- a def of the module as it is called -/
structure Cal (K : PySem.W.Frag) (mg : Str → Option Value) (x : Str) (f : Addr) (fd : FuncData) (ps : List Str) : Prop where
  mg : mg x = some (.ref f)
  kp : PySem.W.keepIn K (.ref f) = true
  b : Binds K fd ps []
def spBase : Sp := fun vs H Q _ => ∃ (a : Addr) (d : Int × Int × Int), vs = [.ref a] ∧ H a = some (.lst (dieL d)) ∧ DieOk d ∧ d.2.2 ≤ 1000000000 ∧
  ∀ (b : Int) (d' : Int × Int × Int) (H' : Hp), DieOk d' → d'.2.2 ≤ d.2.2 + 1 → 2 ≤ b → b ≤ 5 → Kp a H H' → H' a = some (.lst (dieL d')) → Q (.int b) H'
def spWord : Sp := fun vs H Q _ => ∃ (a : Addr) (d : Int × Int × Int) (base high : Int), vs = [.ref a, .int base, .int high] ∧ H a = some (.lst (dieL d)) ∧ DieOk d ∧ d.2.2 ≤ 999000000 ∧ 2 ≤ base ∧ base ≤ 5 ∧ 0 ≤ high ∧ high ≤ 100 ∧
  ∀ (l : List Nat) (d' : Int × Int × Int), DieOk d' → d'.2.2 ≤ d.2.2 + 1 + high → IsW base l → (l.length : Int) ≤ high → Q (.str (S l)) (upd H a (.lst (dieL d')))
section
variable {P : Program} {w : World} {K : PySem.W.Frag} {mg : Str → Option Value} {base : Heap}
theorem scBase : FnScope ["die"] ["die"] (defScope sLBase) := ⟨rfl, rfl, rfl, by decide +kernel, rfl, by decide +kernel, by decide +kernel⟩
theorem ok_base {f fP : Addr} {fd fdP : FuncData} (F : Fun K "_law_base" "_law_base" sLBase f fd) (GP : FnOk P w K mg base CX0 1 fP fdP ["die", "many"] spPull) (cP : Cal K mg "_law_pull" fP fdP ["die", "many"]) : FnOk P w K mg base CX0 2 f fd ["die"] spBase := by
  refine F.ok scBase (fun vs H Q E h => ?_) (fun cdv A outer s H vs Q E hr h => ?_)
  · obtain ⟨a, d, rfl, _⟩ := h
    rfl
  · obtain ⟨a, d, rfl, ha, hd, hc, k⟩ := h
    refine ⟨_, pss_one (ps_ret (pe_ix ix_list (pe_lst (pa_cons pe_int (pa_cons pe_int (pa_cons pe_int (pa_cons pe_int (pa_cons pe_int (pa_cons pe_int (pa_cons pe_int pa_nil))))))))
      (pe_call GP hr rfl cP.mg cP.kp cP.b .nil pass0 (pa_cons (pv 0) (pa_cons pe_int pa_nil))) (fun _ _ => rfl))), ?_⟩
    refine ⟨by decide, fun p hp => ?_⟩
    have npa : a ≠ p := ne_of_none ha hp
    refine ⟨_, rfl, a, d, _, rfl, by rw [upd_ne npa]; exact ha, hd, by decide, by decide, hc, fun r d' hd' hc' r0 r1 => ?_⟩
    obtain ⟨v, hv, v2, v5⟩ : ∃ v : Int, atI ([.int 2, .int 2, .int 2, .int 3, .int 3, .int 4, .int 5] : List V) r = some (.int v) ∧ 2 ≤ v ∧ v ≤ 5 := by
      have : r = 0 ∨ r = 1 ∨ r = 2 ∨ r = 3 ∨ r = 4 ∨ r = 5 ∨ r = 6 := by omega
      rcases this with e | e | e | e | e | e | e <;> subst e <;> exact ⟨_, rfl, by decide, by decide⟩
    refine ⟨p, _, r, _, rfl, rfl, SqL.of (by rw [upd_ne npa.symm, upd_same]), hv, ?_⟩
    exact k v d' _ hd' hc' v2 v5 ((Kp.new hp).trans Kp.upd) upd_same
theorem scWord : FnScope ["die", "base", "high", "word", "turn"] ["die", "base", "high"] (defScope sWord) := ⟨rfl, rfl, rfl, by decide +kernel, rfl, by decide +kernel, by decide +kernel⟩
theorem upd_upd' {H : Hp} {a : Addr} {o o' : HO} : upd (upd H a o) a o' = upd H a o' := by
  funext b
  by_cases h : b = a
  · subst h
    rw [upd_same, upd_same]
  · rw [upd_ne h, upd_ne h, upd_ne h]
theorem ok_word {f fP : Addr} {fd fdP : FuncData} (F : Fun K "_law_word" "_law_word" sWord f fd) (GP : FnOk P w K mg base CX0 1 fP fdP ["die", "many"] spPull) (cP : Cal K mg "_law_pull" fP fdP ["die", "many"]) (mr : mg "range" = none) : FnOk P w K mg base CX0 2 f fd ["die", "base", "high"] spWord := by
  refine F.ok scWord (fun vs H Q E h => ?_) (fun cdv A outer s H vs Q E hr h => ?_)
  · obtain ⟨a, d, b, hi, rfl, _⟩ := h
    rfl
  · obtain ⟨a, d, b, hi, rfl, ha, hd, hc, hb2, hb5, hh0, hh1, k⟩ := h
    have nd := scWord.nd
    refine ⟨_, pss_cons (ps_set (i := 3) nd rfl (.inl rfl) pe_str)
      (pss_cons (ps_for PassesOwn.never rfl (pi_range1 rfl mr (pa_cons (pe_call GP hr rfl cP.mg cP.kp cP.b .nil pass0 (pa_cons (pv 0) (pa_cons (pe_op op_add (pv 2) pe_int) pa_nil))) pa_nil)) (pg_name (i := 4) nd rfl (.inl rfl))
        (pss_one (ps_set (i := 3) nd rfl (.inl rfl) (pe_op op_add_str (pv 3) (pe_ix ix_str pe_str (pe_call GP hr rfl cP.mg cP.kp cP.b .nil pass0 (pa_cons (pv 0) (pa_cons (pv 1) pa_nil))) (fun _ _ => rfl))))))
      (pss_one (ps_ret (pv 3)))), ?_⟩
    refine ⟨_, rfl, _, rfl, _, _, rfl, rfl, a, d, _, rfl, ha, hd, by omega, by omega, by omega, fun r d1 hd1 hc1 r0 r1 => ?_⟩
    refine ⟨r, rfl, by omega, by omega, for_range (n := r.toNat) (fun i σ H2 => ∃ (l : List Nat) (d2 : Int × Int × Int) (t : Option V), σ = [some (.ref a), some (.int b), some (.int hi), some (.str (S l)), t] ∧ H2 = upd H a (.lst (dieL d2)) ∧ DieOk d2 ∧ d2.2.2 ≤ d.2.2 + 1 + i ∧ IsW b l ∧ l.length ≤ i) ?_ ?_ ?_⟩
    · exact ⟨[], d1, none, by rw [← str_empty]; rfl, rfl, hd1, by omega, .nil _, Nat.le_refl _⟩
    · rintro i σ H2 hi2 ⟨l, d2, t, rfl, rfl, hd2, hc2, hw, hl⟩
      have hil : (i : Int) < r := by omega
      refine ⟨_, rfl, _, rfl, _, rfl, a, d2, b, rfl, upd_same, hd2, by omega, by omega, by omega, fun q d3 hd3 hc3 q0 q1 => ?_⟩
      obtain ⟨c, hc', c0, c1⟩ : ∃ c : Nat, atI (("01234" : Str).cps.toList) q = some c ∧ 48 ≤ c ∧ (c : Int) < 48 + b := by
        rw [s01234]
        have : q = 0 ∨ q = 1 ∨ q = 2 ∨ q = 3 ∨ q = 4 := by omega
        rcases this with e | e | e | e | e <;> subst e <;> exact ⟨_, rfl, by decide, by omega⟩
      refine ⟨_, q, c, rfl, rfl, by decide +kernel, hc', S l, S [c], rfl, rfl, ?_, ?_⟩
      · rw [S_len, S_len]
        exact Nat.le_trans (show l.length + 1 ≤ 1000 by omega) (by decide)
      · rw [S_cat, upd_upd']
        refine ⟨l ++ [c], d3, _, rfl, rfl, hd3, by omega, hw.app (fun x hx => ?_), by rw [List.length_append]; show l.length + 1 ≤ i + 1; omega⟩
        rw [List.mem_singleton.mp hx]
        exact ⟨c0, c1⟩
    · rintro σ H2 ⟨l, d2, t, rfl, rfl, hd2, hc2, hw, hl⟩
      exact ⟨_, rfl, k l d2 hd2 (by omega) hw (by omega)⟩
end
end Vf


set_option Elab.async false
set_option maxRecDepth 100000
set_option maxHeartbeats 4000000
set_option exponentiation.threshold 3000
namespace Vf
open PySem L2 SX
section
variable {X : Cx}
def CPowB (i j : Int) : Prop := 0 ≤ j ∧ (Builtin.Int.intBits i : Int) * j ≤ 2 ^ 27
/-- ** of a great base, as the size of the power allows -/
theorem op_powB : OpR X (binaryOp .Pow) (rI CPowB fun i j => .int (i ^ j.toNat)) := opI fun _ _ _ _ _ _ _ hc q => PyProof.Rows.pow_int hc.1 hc.2 q
end
/-- _law_dice: a new die -/
def spDice (K : PySem.W.Frag) : Sp := fun vs H Q _ => ∃ (a : Addr) (ns : List Int) (at' : Nat), vs = [.ref a, .int at'] ∧ SqL K H a (ns.map V.int) ∧ ns.length ≤ 63 ∧ at' ≤ 100 ∧
  ∀ (p : Addr) (d' : Int × Int × Int), DieOk d' → d'.2.2 = 0 → H p = none → Q (.ref p) (upd H p (.lst (dieL d')))
theorem big660 : (((10 : Int) ^ (60 : Int).toNat) ^ (11 : Int).toNat).natAbs < 2 ^ 2300 := by decide +kernel
theorem pos660 : (0 : Int) < ((10 : Int) ^ (60 : Int).toNat) ^ (11 : Int).toNat := by decide +kernel
section
variable {P : Program} {w : World} {K : PySem.W.Frag} {mg : Str → Option Value} {base : Heap}
theorem scDice : FnScope ["script", "at", "cell", "great", "mixed"] ["script", "at"] (defScope sDice) := ⟨rfl, rfl, rfl, by decide +kernel, rfl, by decide +kernel, by decide +kernel⟩
theorem dice_end {g at' : Int} {b : Int} (hg0 : 0 ≤ g) (hg : g < ((10 : Int) ^ (60 : Int).toNat) ^ (11 : Int).toNat) :
    DieOk ((if g - 10 ^ (18 : Int).toNat + 1 > 0 then g - 10 ^ (18 : Int).toNat + 1 else 0), (g * 2862933555777941757 + 3037000493 * at' + 7 * b) % 72057594037927931, 0) := by
  have h18 : (0 : Int) < 10 ^ (18 : Int).toNat := by decide +kernel
  have h1 : (1 : Int) ≤ 10 ^ (18 : Int).toNat := by decide +kernel
  have hbig := big660
  generalize ((10 : Int) ^ (60 : Int).toNat) ^ (11 : Int).toNat = N at hg hbig
  generalize (10 : Int) ^ (18 : Int).toNat = M at h18 h1
  refine ⟨?_, ?_, Int.emod_nonneg _ (by decide), Int.le_refl _⟩
  · show 0 ≤ (if g - M + 1 > 0 then g - M + 1 else 0)
    split <;> omega
  · show (if g - M + 1 > 0 then g - M + 1 else 0).natAbs < 2 ^ 2300
    refine wide_le (j := N) ?_ ?_ hbig
    · split <;> omega
    · split <;> omega
theorem ok_dice {f : Addr} {fd : FuncData} (F : Fun K "_law_dice" "_law_dice" sDice f fd) (ml : mg "len" = none) (ma : mg "abs" = none) (mi : mg "int" = none) (mm : mg "max" = none) : FnOk P w K mg base CX0 1 f fd ["script", "at"] (spDice K) := by
  refine F.ok scDice (fun vs H Q E h => ?_) (fun cdv A outer s H vs Q E hr h => ?_)
  · obtain ⟨a, ns, at', rfl, _⟩ := h
    rfl
  · obtain ⟨a, ns, at', rfl, ha, hl, hat, k⟩ := h
    have nd := scDice.nd
    refine ⟨_, pss_cons (ps_set (i := 2) nd rfl (.inl rfl) (pe_ifExp (pt_cmpR op_lt (pv 1) (pe_callB call_len_seq (by rfl) ml boot_len (pa_cons (pv 0) pa_nil)) (nomark _)) (pe_ix ix_list (pv 0) (pv 1) (fun _ _ => rfl)) (pe_op op_add (pe_op op_mul pe_int (pv 1)) pe_int)))
      (pss_cons (ps_set (i := 3) nd rfl (.inl rfl) (pe_op op_mod (pe_callB call_abs (by rfl) ma PyProof.Rows.boot_abs (pa_cons (pv 2) pa_nil)) (pe_op op_powB (pe_op op_pow pe_int pe_int) pe_int)))
      (pss_cons (ps_set (i := 4) nd rfl (.inl rfl) (pe_op op_mod (pe_op op_add (pe_op op_add (pe_op op_mul (pv 3) pe_int) (pe_op op_mul pe_int (pv 1))) (pe_op op_mul pe_int (pe_callTy call_int1 (by rfl) mi PyProof.Rows.boot_int (pa_cons (pe_cmpR op_lt (pv 2) pe_int (nomark _)) pa_nil)))) pe_int))
      (pss_one (ps_ret (pe_lst (pa_cons (pe_callB (call_max2 rfl) (by rfl) mm PyProof.Rows.boot_max (pa_cons pe_int (pa_cons (pe_op op_add (pe_op op_sub (pv 3) (pe_op op_pow pe_int pe_int)) pe_int) pa_nil))) (pa_cons (pv 4) (pa_cons pe_int pa_nil))))))))
      , ?_⟩
    have pos1 : (0 : Int) < 72057594037927931 := by decide
    refine ⟨_, rfl, _, rfl, a, _, rfl, .inl ha, _, _, rfl, rfl, _, rfl, ?_⟩
    refine ite2 (fun c => ?_) (fun c => ?_)
    · have c' : (at' : Int) < ((ns.map V.int).length : Int) := of_decide_eq_true c
      have c2 : at' < ns.length := by rw [List.length_map] at c'; omega
      refine ⟨_, rfl, _, rfl, a, _, _, V.int ns[at'], rfl, rfl, ha, atI_nat (by rw [List.getElem?_map, List.getElem?_eq_getElem c2]; rfl), ?_⟩
      refine ⟨_, rfl, _, rfl, _, _, rfl, rfl, ⟨by decide, by decide, by decide +kernel⟩, _, _, rfl, rfl, ⟨by decide, by decide +kernel⟩, _, _, rfl, rfl, pos660, ?_⟩
      refine ⟨_, rfl, _, _, rfl, rfl, .inr ⟨by decide, by decide⟩, _, rfl, _, _, rfl, rfl, .inl ⟨by decide, by decide⟩, _, _, rfl, rfl, _, rfl, _, _, rfl, rfl, .inr ⟨_, rfl, _, _, rfl, rfl, .inl ⟨by decide, by decide⟩, _, _, rfl, rfl, _, _, rfl, rfl, pos1, ?_⟩⟩
      refine ⟨_, rfl, _, _, rfl, rfl, ⟨by decide, by decide, by decide +kernel⟩, _, _, rfl, rfl, _, _, rfl, rfl, _, _, rfl, _, rfl, (by show 3 ≤ sizeLine; decide), fun p hp => ?_⟩
      exact k p _ (dice_end (Int.emod_nonneg _ (by have := pos660; omega)) (Int.emod_lt_of_pos _ pos660)) rfl hp
    · refine ⟨_, rfl, _, _, rfl, rfl, .inl ⟨by decide, by decide⟩, _, _, rfl, rfl, ?_⟩
      refine ⟨_, rfl, _, rfl, _, _, rfl, rfl, ⟨by decide, by decide, by decide +kernel⟩, _, _, rfl, rfl, ⟨by decide, by decide +kernel⟩, _, _, rfl, rfl, pos660, ?_⟩
      refine ⟨_, rfl, _, _, rfl, rfl, .inr ⟨by decide, by decide⟩, _, rfl, _, _, rfl, rfl, .inl ⟨by decide, by decide⟩, _, _, rfl, rfl, _, rfl, _, _, rfl, rfl, .inr ⟨_, rfl, _, _, rfl, rfl, .inl ⟨by decide, by decide⟩, _, _, rfl, rfl, _, _, rfl, rfl, pos1, ?_⟩⟩
      refine ⟨_, rfl, _, _, rfl, rfl, ⟨by decide, by decide, by decide +kernel⟩, _, _, rfl, rfl, _, _, rfl, rfl, _, _, rfl, _, rfl, (by show 3 ≤ sizeLine; decide), fun p hp => ?_⟩
      exact k p _ (dice_end (Int.emod_nonneg _ (by have := pos660; omega)) (Int.emod_lt_of_pos _ pos660)) rfl hp
end
end Vf


/-! # Words that repeat, and streams in normal form: the mathematics, over lists of numbers -/
namespace Vm
/-- the i-th of the endless repetition of q -/
def g (q : List Nat) (i : Nat) : Nat := q.getD (i % q.length) 0
/-- the i-th of h and then q again and again -/
def ev (h q : List Nat) (i : Nat) : Nat := if i < h.length then h.getD i 0 else g q (i - h.length)
theorem ev_lt {h q : List Nat} {i : Nat} (hi : i < h.length) : ev h q i = h.getD i 0 := if_pos hi
theorem ev_ge {h q : List Nat} {i : Nat} (hi : h.length ≤ i) : ev h q i = g q (i - h.length) := if_neg (by omega)
theorem g_add (q : List Nat) (i : Nat) : g q (i + q.length) = g q i := by unfold g; rw [Nat.add_mod_right]
theorem g_mul (q : List Nat) (i k : Nat) : g q (i + k * q.length) = g q i := by unfold g; rw [Nat.add_mul_mod_self_right]
theorem g_mod (q : List Nat) (i : Nat) : g q (i % q.length) = g q i := by unfold g; rw [Nat.mod_mod]
theorem g_lt {q : List Nat} {i : Nat} (h : i < q.length) : g q i = q.getD i 0 := by unfold g; rw [Nat.mod_eq_of_lt h]
theorem ext_getD {l m : List Nat} (hl : l.length = m.length) (h : ∀ i, i < l.length → l.getD i 0 = m.getD i 0) : l = m := by
  refine List.ext_getElem hl fun i h1 h2 => ?_
  have q := h i h1
  rw [List.getD_eq_getElem?_getD, List.getD_eq_getElem?_getD, List.getElem?_eq_getElem h1, List.getElem?_eq_getElem h2] at q
  exact q
/-- h and q are the normal form of f -/
structure Nf (f : Nat → Nat) (h q : List Nat) : Prop where
  ne : 0 < q.length
  is : ∀ i, ev h q i = f i
  prim : ∀ s m, 0 < s → s < q.length → ¬ ∀ i, m ≤ i → f (i + s) = f i
  trim : 0 < h.length → f (h.length - 1 + q.length) ≠ f (h.length - 1)
theorem Nf.per {f : Nat → Nat} {h q : List Nat} (n : Nf f h q) {i : Nat} (hi : h.length ≤ i) : f (i + q.length) = f i := by
  rw [← n.is, ← n.is, ev_ge hi, ev_ge (by omega), show i + q.length - h.length = i - h.length + q.length by omega, g_add]
theorem Nf.len {f : Nat → Nat} {h q h' q' : List Nat} (n : Nf f h q) (n' : Nf f h' q') : q.length ≤ q'.length := by
  refine Nat.le_of_not_lt fun hlt => n.prim q'.length h'.length n'.ne hlt fun i hi => n'.per hi
theorem Nf.hlen {f : Nat → Nat} {h q h' q' : List Nat} (n : Nf f h q) (n' : Nf f h' q') : h.length ≤ h'.length := by
  refine Nat.le_of_not_lt fun hlt => ?_
  have e : q.length = q'.length := Nat.le_antisymm (n.len n') (n'.len n)
  have z := n'.per (i := h.length - 1) (by omega)
  rw [← e] at z
  exact n.trim (by omega) z
theorem Nf.unique {f : Nat → Nat} {h q h' q' : List Nat} (n : Nf f h q) (n' : Nf f h' q') : h = h' ∧ q = q' := by
  have e : q.length = q'.length := Nat.le_antisymm (n.len n') (n'.len n)
  have e2 : h.length = h'.length := Nat.le_antisymm (n.hlen n') (n'.hlen n)
  refine ⟨ext_getD e2 fun i hi => ?_, ext_getD e fun i hi => ?_⟩
  · have z := (n.is i).trans (n'.is i).symm
    rw [ev_lt hi, ev_lt (by omega)] at z
    exact z
  · have z := (n.is (i + h.length)).trans (n'.is (i + h.length)).symm
    rw [ev_ge (by omega), ev_ge (by omega), e2, Nat.add_sub_cancel, g_lt hi, g_lt (by omega)] at z
    exact z
/-! ### periods -/
def Per (q : List Nat) (s : Nat) : Prop := ∀ i, g q (i + s) = g q i
theorem per_len (q : List Nat) : Per q q.length := fun i => g_add q i
theorem Per.mul {q : List Nat} {s : Nat} (p : Per q s) : ∀ k i, g q (i + k * s) = g q i
  | 0, i => by rw [Nat.zero_mul]; rfl
  | k + 1, i => by rw [Nat.succ_mul, ← Nat.add_assoc, p, Per.mul p k i]
/-- what holds from some place on holds from the start -/
theorem per_late {q : List Nat} {s m : Nat} (hq : 0 < q.length) (h : ∀ i, m ≤ i → g q (i + s) = g q i) : Per q s := fun i => by
  have z := h (i + m * q.length) (Nat.le_trans (Nat.le_mul_of_pos_right m hq) (Nat.le_add_left _ _))
  rw [show i + m * q.length + s = i + s + m * q.length by omega, g_mul, g_mul] at z
  exact z
theorem per_small {q : List Nat} {s : Nat} (h : ∀ i, i < q.length → g q (i + s) = g q i) (hq : 0 < q.length) : Per q s := fun i => by
  have z := h (i % q.length) (Nat.mod_lt _ hq)
  rw [g_mod] at z
  rw [← z]
  show q.getD ((i + s) % q.length) 0 = q.getD ((i % q.length + s) % q.length) 0
  rw [Nat.mod_add_mod]
/-- s is the least one -/
structure Least (q : List Nat) (s : Nat) : Prop where
  pos : 0 < s
  per : Per q s
  min : ∀ t, 0 < t → t < s → ¬ Per q t
theorem Least.unique {q : List Nat} {s t : Nat} (a : Least q s) (b : Least q t) : s = t := by
  rcases Nat.lt_trichotomy s t with h | h | h
  · exact (b.min s a.pos h a.per).elim
  · exact h
  · exact (a.min t b.pos h b.per).elim
theorem Least.le {q : List Nat} {s : Nat} (a : Least q s) (hq : 0 < q.length) : s ≤ q.length := Nat.le_of_not_lt fun h => a.min _ hq h (per_len q)
theorem Least.dvd {q : List Nat} {s n : Nat} (a : Least q s) (hn : Per q n) : n % s = 0 := by
  refine Classical.byContradiction fun h => ?_
  refine a.min (n % s) (by omega) (Nat.mod_lt _ a.pos) fun i => ?_
  have e : n % s + n / s * s = n := by rw [Nat.mul_comm]; exact Nat.mod_add_div n s
  have z := hn i
  rw [← a.per.mul (n / s) (i + n % s), Nat.add_assoc, e]
  exact z
theorem take_len {q : List Nat} {s : Nat} (h : s ≤ q.length) : (q.take s).length = s := by rw [List.length_take]; omega
theorem getD_take {q : List Nat} {s i : Nat} (h : i < s) : (q.take s).getD i 0 = q.getD i 0 := by
  rw [List.getD_eq_getElem?_getD, List.getD_eq_getElem?_getD, List.getElem?_take_of_lt h]
theorem getD_drop {q : List Nat} {s i : Nat} : (q.drop s).getD i 0 = q.getD (s + i) 0 := by
  rw [List.getD_eq_getElem?_getD, List.getD_eq_getElem?_getD, List.getElem?_drop]
theorem getD_app {l m : List Nat} {i : Nat} (h : i < l.length) : (l ++ m).getD i 0 = l.getD i 0 := by
  rw [List.getD_eq_getElem?_getD, List.getD_eq_getElem?_getD, List.getElem?_append_left h]
theorem getD_app2 {l m : List Nat} {i : Nat} (h : l.length ≤ i) : (l ++ m).getD i 0 = m.getD (i - l.length) 0 := by
  rw [List.getD_eq_getElem?_getD, List.getD_eq_getElem?_getD, List.getElem?_append_right h]
theorem Least.g {q : List Nat} {s : Nat} (a : Least q s) (hq : 0 < q.length) (i : Nat) : g (q.take s) i = g q i := by
  have hl := a.le hq
  have hlt := Nat.mod_lt i a.pos
  have e : i % s + i / s * s = i := by rw [Nat.mul_comm]; exact Nat.mod_add_div i s
  unfold Vm.g
  rw [take_len hl, getD_take hlt]
  have z := a.per.mul (i / s) (i % s)
  rw [e, g_lt (Nat.lt_of_lt_of_le hlt hl)] at z
  exact z.symm
/-- the tail has the least period -/
theorem Least.prim {q h : List Nat} {s : Nat} (a : Least q s) (hq : 0 < q.length) (t m : Nat) (h0 : 0 < t) (ht : t < s) : ¬ ∀ i, m ≤ i → ev h q (i + t) = ev h q i := fun z => by
  refine a.min t h0 ht (per_late (m := m) hq fun i hi => ?_)
  have y := z (i + h.length) (by omega)
  rw [ev_ge (by omega), ev_ge (by omega), Nat.add_sub_cancel, show i + h.length + t - h.length = i + t by omega] at y
  exact y
/-! ### the two searches for the least period -/
/-- by looking for the word in its double -/
theorem find_per {q : List Nat} {k : Nat} (hk : k ≤ q.length) (hq : 0 < q.length) : (((q ++ q).drop k).take q.length = q) ↔ Per q k := by
  have len : (((q ++ q).drop k).take q.length).length = q.length := by rw [List.length_take, List.length_drop, List.length_append]; omega
  have at_ : ∀ i, i < q.length → (((q ++ q).drop k).take q.length).getD i 0 = g q (i + k) := fun i hi => by
    rw [getD_take hi, getD_drop]
    by_cases h : k + i < q.length
    · rw [getD_app h, Nat.add_comm i k, g_lt h]
    · rw [getD_app2 (by omega), show i + k = (k + i - q.length) + q.length by omega, g_add, g_lt (by omega)]
  constructor
  · intro e
    refine per_small (fun i hi => ?_) hq
    rw [← at_ i hi, e, g_lt hi]
  · intro p
    refine ext_getD len fun i hi => ?_
    rw [len] at hi
    rw [at_ i hi, p i, g_lt hi]
/-- by repeating the beginning -/
theorem rep_get {l : List Nat} {k i : Nat} (h : i < k * l.length) : ((List.replicate k l).flatten).getD i 0 = g l i := by
  induction k generalizing i with
  | zero => rw [Nat.zero_mul] at h; omega
  | succ k ih =>
    rw [List.replicate_succ, List.flatten_cons]
    by_cases hl : i < l.length
    · rw [getD_app hl, g_lt hl]
    · have hl' : l.length ≤ i := by omega
      rw [getD_app2 hl', ih (by rw [Nat.succ_mul] at h; omega)]
      have z := g_add l (i - l.length)
      rw [Nat.sub_add_cancel hl'] at z
      exact z.symm
theorem rep_len {l : List Nat} {k : Nat} : ((List.replicate k l).flatten).length = k * l.length := by
  induction k with
  | zero => simp
  | succ k ih => rw [List.replicate_succ, List.flatten_cons, List.length_append, ih, Nat.succ_mul, Nat.add_comm]
theorem rep_per {q : List Nat} {s : Nat} (hs : 0 < s) (hsq : s ≤ q.length) : ((List.replicate (q.length / s) (q.take s)).flatten = q) ↔ (Per q s ∧ q.length % s = 0) := by
  have tl := take_len hsq
  constructor
  · intro e
    have el : q.length / s * s = q.length := by
      have z := congrArg List.length e
      rw [rep_len, tl] at z
      exact z
    have em : q.length % s = 0 := by
      have z := Nat.mod_add_div q.length s
      rw [Nat.mul_comm] at z
      omega
    refine ⟨?_, em⟩
    have at_ : ∀ i, g q i = g (q.take s) i := fun i => by
      have hq : 0 < q.length := by omega
      have hi := Nat.mod_lt i hq
      have z : q.getD (i % q.length) 0 = g (q.take s) (i % q.length) := by
        have y := rep_get (l := q.take s) (k := q.length / s) (i := i % q.length) (by rw [tl, el]; exact hi)
        rw [e] at y
        exact y
      show q.getD (i % q.length) 0 = _
      rw [z]
      unfold g
      rw [tl, Nat.mod_mod_of_dvd _ (Nat.dvd_of_mod_eq_zero em)]
    intro i
    have z := g_add (q.take s) i
    rw [tl] at z
    rw [at_, at_, z]
  · rintro ⟨p, em⟩
    have el : q.length / s * s = q.length := by
      have z := Nat.mod_add_div q.length s
      rw [Nat.mul_comm] at z
      omega
    refine ext_getD (by rw [rep_len, tl, el]) fun i hi => ?_
    rw [rep_len, tl, el] at hi
    rw [rep_get (by rw [tl, el]; exact hi)]
    have hlt := Nat.mod_lt i hs
    have e : i % s + i / s * s = i := by rw [Nat.mul_comm]; exact Nat.mod_add_div i s
    have z := p.mul (i / s) (i % s)
    rw [e, g_lt hi, g_lt (by omega)] at z
    unfold g
    rw [tl, getD_take hlt, z]
/-! ### turning the period -/
theorem g_rot {q : List Nat} {c : Nat} (hc : c ≤ q.length) (i : Nat) : g (q.drop c ++ q.take c) i = g q (i + c) := by
  have hl : (q.drop c ++ q.take c).length = q.length := by rw [List.length_append, List.length_drop, List.length_take]; omega
  by_cases hq : q.length = 0
  · have e : q = [] := List.length_eq_zero_iff.mp hq
    subst e
    simp [g]
  · have hi := Nat.mod_lt i (show 0 < q.length by omega)
    show (q.drop c ++ q.take c).getD (i % (q.drop c ++ q.take c).length) 0 = q.getD ((i + c) % q.length) 0
    rw [hl, ← Nat.mod_add_mod]
    generalize i % q.length = j at hi
    by_cases h : j < q.length - c
    · rw [getD_app (by rw [List.length_drop]; exact h), getD_drop, Nat.add_comm c j, Nat.mod_eq_of_lt (by omega)]
    · rw [getD_app2 (by rw [List.length_drop]; omega), List.length_drop, getD_take (by omega), Nat.mod_eq_sub_mod (by omega), Nat.mod_eq_of_lt (by omega)]
      congr 1
      omega
/-- one digit less in the head: the last of the head goes to the front of the period -/
theorem ev_less (l r : List Nat) (c : Nat) : ∀ i, ev l (c :: r) i = ev (l ++ [c]) (r ++ [c]) i := fun i => by
  have hl : (l ++ [c]).length = l.length + 1 := by simp
  have rot : ∀ j, g (r ++ [c]) j = g (c :: r) (j + 1) := fun j => g_rot (q := c :: r) (c := 1) (by simp) j
  rcases Nat.lt_trichotomy i l.length with h | h | h
  · rw [ev_lt h, ev_lt (by omega), getD_app h]
  · rw [ev_ge (by omega), ev_lt (by omega), getD_app2 (by omega), h, Nat.sub_self]
    unfold g
    rw [Nat.zero_mod]
    rfl
  · rw [ev_ge (by omega), ev_ge (by omega), rot, hl]
    congr 1
    omega
/-- the trimmed head and the turned period, t digits less -/
def trimH (h : List Nat) (t : Nat) : List Nat := h.take (h.length - t)
def turnQ (q : List Nat) (t : Nat) : List Nat := q.drop (q.length - t % q.length) ++ q.take (q.length - t % q.length)
theorem trimH_len {h : List Nat} {t : Nat} : (trimH h t).length = h.length - t := by unfold trimH; rw [List.length_take]; omega
theorem turnQ_len {q : List Nat} {t : Nat} : (turnQ q t).length = q.length := by unfold turnQ; rw [List.length_append, List.length_drop, List.length_take]; omega
theorem turn_g {q : List Nat} {t : Nat} (i : Nat) : g (turnQ q t) i = g q (i + (q.length - t % q.length)) := g_rot (Nat.sub_le _ _) i
/-- the digits that were taken off agree -/
def Agree (h q : List Nat) (t : Nat) : Prop := t ≤ h.length ∧ ∀ j, j < t → h.getD (h.length - 1 - j) 0 = q.getD (q.length - 1 - j % q.length) 0
theorem trim_ev {h q : List Nat} {t : Nat} (hq : 0 < q.length) (a : Agree h q t) (i : Nat) : ev (trimH h t) (turnQ q t) i = ev h q i := by
  obtain ⟨ht, ha⟩ := a
  by_cases h1 : i < h.length - t
  · rw [ev_lt (by rw [trimH_len]; exact h1), ev_lt (by omega)]
    exact getD_take h1
  · rw [ev_ge (by rw [trimH_len]; omega), trimH_len, turn_g]
    have hr := Nat.mod_lt t hq
    have et : t = t / q.length * q.length + t % q.length := by rw [Nat.mul_comm]; exact (Nat.div_add_mod t q.length).symm
    by_cases h2 : i < h.length
    · rw [ev_lt h2]
      have z := ha (h.length - 1 - i) (by omega)
      rw [show h.length - 1 - (h.length - 1 - i) = i by omega] at z
      rw [z]
      have hj := Nat.mod_lt (h.length - 1 - i) hq
      have ej : h.length - 1 - i = (h.length - 1 - i) / q.length * q.length + (h.length - 1 - i) % q.length := by rw [Nat.mul_comm]; exact (Nat.div_add_mod _ q.length).symm
      rw [← g_lt (show q.length - 1 - (h.length - 1 - i) % q.length < q.length by omega)]
      have m2 := g_mul q (q.length - 1 - (h.length - 1 - i) % q.length) (t / q.length - (h.length - 1 - i) / q.length)
      have le : (h.length - 1 - i) / q.length ≤ t / q.length := Nat.div_le_div_right (by omega)
      rw [Nat.sub_mul] at m2
      have le2 : (h.length - 1 - i) / q.length * q.length ≤ t / q.length * q.length := Nat.mul_le_mul_right _ le
      generalize t / q.length * q.length = T at *
      generalize (h.length - 1 - i) / q.length * q.length = J at *
      rw [← m2]
      congr 1
      omega
    · rw [ev_ge (by omega)]
      have m1 := g_mul q (i - (h.length - t) + (q.length - t % q.length)) (t / q.length)
      have m2 := g_mul q (i - h.length) (t / q.length + 1 + 0)
      have m3 : (t / q.length + 1 + 0) * q.length = t / q.length * q.length + q.length := by rw [Nat.add_zero, Nat.succ_mul]
      rw [m3] at m2
      generalize t / q.length * q.length = T at *
      have m4 := g_add q (i - h.length + T)
      have m5 : g q (i - (h.length - t) + (q.length - t % q.length)) = g q (i - h.length + (t + (q.length - t % q.length))) := by congr 1; omega
      rw [m5, show t + (q.length - t % q.length) = T + q.length by omega]
      exact m2
/-- the end of the trimming: a normal form -/
theorem trim_nf {h q : List Nat} {t : Nat} {f : Nat → Nat} (hf : ∀ i, ev h q i = f i) (hq : 0 < q.length) (a : Agree h q t) (stop : t < h.length → h.getD (h.length - 1 - t) 0 ≠ q.getD (q.length - 1 - t % q.length) 0)
    (prim : ∀ s m, 0 < s → s < q.length → ¬ ∀ i, m ≤ i → f (i + s) = f i) : Nf f (trimH h t) (turnQ q t) := by
  refine ⟨by rw [turnQ_len]; exact hq, fun i => (trim_ev hq a i).trans (hf i), by rw [turnQ_len]; exact prim, fun h0 => ?_⟩
  rw [trimH_len] at h0 ⊢
  rw [turnQ_len]
  have ht : t < h.length := by omega
  have e1 : f (h.length - t - 1) = h.getD (h.length - 1 - t) 0 := by
    rw [← hf, ev_lt (by omega)]
    congr 1
    omega
  have e2 : f (h.length - t - 1 + q.length) = q.getD (q.length - 1 - t % q.length) 0 := by
    have hr := Nat.mod_lt t hq
    rw [← hf, ← trim_ev hq a, ev_ge (by rw [trimH_len]; omega), trimH_len, turn_g]
    have z := g_add q (q.length - 1 - t % q.length)
    have y : g q (q.length - 1 - t % q.length) = q.getD (q.length - 1 - t % q.length) 0 := g_lt (by omega)
    rw [← y, ← z]
    congr 1
    omega
  rw [e1, e2]
  exact fun z => stop ht z.symm
/-- the same for the word that is taken off digit by digit -/
theorem last_nf {l r : List Nat} {f : Nat → Nat} (hf : ∀ i, ev l r i = f i) (hr : 0 < r.length) (prim : ∀ s m, 0 < s → s < r.length → ¬ ∀ i, m ≤ i → f (i + s) = f i)
    (stop : 0 < l.length → l.getD (l.length - 1) 0 ≠ r.getD (r.length - 1) 0) : Nf f l r := by
  refine ⟨hr, hf, prim, fun h0 => ?_⟩
  rw [← hf, ← hf, ev_lt (show l.length - 1 < l.length by omega), ev_ge (show l.length ≤ l.length - 1 + r.length by omega), show l.length - 1 + r.length - l.length = r.length - 1 by omega, g_lt (show r.length - 1 < r.length by omega)]
  exact fun z => stop h0 z.symm
/-! ### beginnings -/
def beg (h q : List Nat) (k many : Nat) : List Nat := (h ++ (List.replicate k q).flatten).take many
theorem beg_get {h q : List Nat} {k many i : Nat} (hk : many ≤ h.length + k * q.length) (hi : i < many) : (beg h q k many).getD i 0 = ev h q i := by
  unfold beg
  rw [getD_take hi]
  by_cases h1 : i < h.length
  · rw [getD_app h1, ev_lt h1]
  · rw [getD_app2 (by omega), ev_ge (by omega), rep_get (by omega)]
theorem beg_len {h q : List Nat} {k many : Nat} (hk : many ≤ h.length + k * q.length) : (beg h q k many).length = many := by
  unfold beg
  rw [List.length_take, List.length_append, rep_len]
  omega
theorem beg_eq {h q h' q' : List Nat} {k k' many : Nat} (hk : many ≤ h.length + k * q.length) (hk' : many ≤ h'.length + k' * q'.length) :
    beg h q k many = beg h' q' k' many ↔ ∀ i, i < many → ev h q i = ev h' q' i := by
  constructor
  · intro e i hi
    rw [← beg_get hk hi, ← beg_get hk' hi, e]
  · intro e
    refine ext_getD (by rw [beg_len hk, beg_len hk']) fun i hi => ?_
    rw [beg_len hk] at hi
    rw [beg_get hk hi, beg_get hk' hi, e i hi]
theorem ev_per {h q : List Nat} {i k : Nat} (hi : h.length ≤ i) : ev h q (i + k * q.length) = ev h q i := by
  rw [ev_ge hi, ev_ge (by omega), show i + k * q.length - h.length = i - h.length + k * q.length by omega, g_mul]
/-- what agrees long enough agrees for ever -/
theorem ev_all {h q h' q' : List Nat} {many : Nat} (hm : h.length ≤ many) (hm' : h'.length ≤ many) (hq : 0 < q.length) (hq' : 0 < q'.length) (e : ∀ i, i < many + q.length * q'.length → ev h q i = ev h' q' i) (i : Nat) : ev h q i = ev h' q' i := by
  by_cases hi : i < many
  · exact e i (by omega)
  · have hp : 0 < q.length * q'.length := Nat.mul_pos hq hq'
    have hlt := Nat.mod_lt (i - many) hp
    have ei : many + (i - many) % (q.length * q'.length) + (i - many) / (q.length * q'.length) * (q.length * q'.length) = i := by
      have z := Nat.div_add_mod (i - many) (q.length * q'.length)
      rw [Nat.mul_comm] at z
      omega
    have a1 := ev_per (h := h) (q := q) (i := many + (i - many) % (q.length * q'.length)) (k := (i - many) / (q.length * q'.length) * q'.length) (by omega)
    have a2 := ev_per (h := h') (q := q') (i := many + (i - many) % (q.length * q'.length)) (k := (i - many) / (q.length * q'.length) * q.length) (by omega)
    rw [Nat.mul_assoc, Nat.mul_comm q'.length, ei] at a1
    rw [Nat.mul_assoc, ei] at a2
    rw [a1, a2]
    exact e _ (by omega)
/-- the period told several times over -/
theorem ev_rep {h q : List Nat} {k : Nat} (hk : 0 < k) (i : Nat) : ev h ((List.replicate k q).flatten) i = ev h q i := by
  by_cases h1 : i < h.length
  · rw [ev_lt h1, ev_lt h1]
  · rw [ev_ge (by omega), ev_ge (by omega)]
    generalize i - h.length = j
    by_cases hq : q.length = 0
    · have e : q = [] := List.length_eq_zero_iff.mp hq
      subst e
      simp
    · show ((List.replicate k q).flatten).getD (j % ((List.replicate k q).flatten).length) 0 = _
      rw [rep_len, rep_get (Nat.mod_lt _ (Nat.mul_pos hk (by omega)))]
      unfold g
      rw [Nat.mod_mod_of_dvd _ (Nat.dvd_mul_left _ _)]
/-! ### the normal form that the law finds, and that of the program: one and the same -/
/-- the shorter period told by the least one -/
theorem short_nf {h q : List Nat} {s : Nat} (a : Least q s) (hq : 0 < q.length) (i : Nat) : ev h (q.take s) i = ev h q i := by
  by_cases h1 : i < h.length
  · rw [ev_lt h1, ev_lt h1]
  · rw [ev_ge (by omega), ev_ge (by omega), a.g hq]
end Vm


set_option Elab.async false
set_option maxRecDepth 100000
set_option maxHeartbeats 4000000
set_option exponentiation.threshold 3000
namespace Vf
open PySem L2 SX Vm
theorem find_least {q : List Nat} (hq : 0 < q.length) : ∃ s : Nat, Txt.find3 (S (q ++ q)) (S q) 1 = (s : Int) ∧ Least q s := by
  have e1 : PySem.fromIndex (S (q ++ q)).length 1 = 1 := by
    rw [S_len, List.length_append]
    unfold PySem.fromIndex
    rw [if_neg (by decide)]
    rfl
  have key : ∀ i, 1 ≤ i → (PySem.StrLaws.At (S (q ++ q)) (S q) (S (q ++ q)).length i ↔ i ≤ q.length ∧ Per q i) := fun i hi => by
    unfold PySem.StrLaws.At
    rw [PySem.StrLaws.subAt_eq, S_len, S_len, List.length_append]
    constructor
    · rintro ⟨h1, h2⟩
      have h : i ≤ q.length := by omega
      exact ⟨h, (find_per h hq).mp (beq_iff_eq.mp h2)⟩
    · rintro ⟨h1, h2⟩
      exact ⟨by omega, beq_iff_eq.mpr ((find_per h1 hq).mpr h2)⟩
  rcases PySem.StrLaws.occ_head_from (S (q ++ q)) (S q) 1 1 (Nat.le_refl 1) with ⟨_, hn⟩ | ⟨k, r, h0, hlo, hk, hn⟩
  · exact absurd ((key q.length hq).mpr ⟨Nat.le_refl _, per_len q⟩) (hn q.length hq)
  · refine ⟨k, ?_, hlo, ((key k hlo).mp hk).2, fun t h1 h2 p => hn t h1 h2 ((key t h1).mpr ⟨?_, p⟩)⟩
    · unfold Txt.find3
      rw [e1, h0]
    · have := ((key k hlo).mp hk).1
      omega
theorem cut_take {q : List Nat} {s : Nat} (h : s ≤ q.length) : cutS (S q) none (some (s : Int)) = S (q.take s) := by
  unfold cutS
  rw [S_len, HT.sIx_none, HT.sIx_nat, Nat.min_eq_left h]
  rfl
theorem cut_drop {q : List Nat} {s : Nat} (h : s ≤ q.length) : cutS (S q) (some (s : Int)) none = S (q.drop s) := by
  unfold cutS
  rw [S_len, HT.sIx_none, HT.sIx_nat, Nat.min_eq_left h]
  congr 2
  rw [List.take_of_length_le]
  rw [List.length_drop]
  exact Nat.le_refl _
/-- the shorter period -/
def spShort : Sp := fun vs H Q _ => ∃ q : List Nat, vs = [.str (S q)] ∧ 0 < q.length ∧ q.length ≤ 1000 ∧ ∀ s, Least q s → s ≤ q.length → Q (.str (S (q.take s))) H
section
variable {P : Program} {w : World} {K : PySem.W.Frag} {mg : Str → Option Value} {base : Heap}
theorem scShort : FnScope ["period"] ["period"] (defScope sShortest) := ⟨rfl, rfl, rfl, by decide +kernel, rfl, by decide +kernel, by decide +kernel⟩
theorem ok_short {f : Addr} {fd : FuncData} (F : Fun K "shortest_period" "shortest_period" sShortest f fd) : FnOk P w K mg base CX0 1 f fd ["period"] spShort := by
  refine F.ok scShort (fun vs H Q E h => ?_) (fun cdv A outer s H vs Q E hr h => ?_)
  · obtain ⟨q, rfl, _⟩ := h
    rfl
  · obtain ⟨q, rfl, h0, h1, k⟩ := h
    refine ⟨_, pss_one (ps_ret (pe_slice sl_str (pv 0) po_none (po_some (pe_bm PySem.F.plainAttrs_str PySem.F.slot_str_find PySem.F.type_str_find mt_find3 (pe_op op_add_str (pv 0) (pv 0)) (pa_cons (pv 0) (pa_cons pe_int pa_nil)))))), ?_⟩
    obtain ⟨s0, e, l⟩ := find_least h0
    have hle := l.le h0
    have len1 : (S q).length + (S q).length ≤ sizeLine := by rw [S_len]; exact Nat.le_trans (show q.length + q.length ≤ 2000 by omega) (by decide)
    have len2 : (S q).length ≤ sizeLine := Nat.le_trans (Nat.le_add_right _ _) len1
    refine ⟨_, rfl, _, rfl, _, rfl, _, _, rfl, rfl, len1, rfl, _, rfl, _, _, _, rfl, rfl, _, rfl, _, rfl, len2, ?_⟩
    show Q (.str (cutS (S q) none (some (Txt.find3 (S q ++ S q) (S q) 1)))) H
    rw [S_cat, e, cut_take hle]
    exact k s0 l hle
end
end Vf


set_option Elab.async false
set_option maxRecDepth 100000
set_option maxHeartbeats 4000000
set_option exponentiation.threshold 3000
namespace Vf
open PySem L2 SX Vm
theorem at_back {l : List Nat} {i : Int} {t : Nat} (ht : t < l.length) (hi : i = -1 - (t : Int)) : atI l i = some (l.getD (l.length - 1 - t) 0) := by
  unfold atI ixN
  rw [if_neg (by omega), if_pos (by omega)]
  show l[(i + (l.length : Int)).toNat]? = _
  rw [show (i + (l.length : Int)).toNat = l.length - 1 - t by omega, List.getD_eq_getElem?_getD, List.getElem?_eq_getElem (by omega)]
  rfl
theorem one_eq {a b : Nat} : (V.str ⟨#[a]⟩ = V.str ⟨#[b]⟩) ↔ a = b := by
  constructor
  · intro h
    have h1 := V.str.inj h
    have h2 := congrArg (fun s : Str => s.cps.toList) h1
    exact (List.cons.inj h2).1
  · intro h
    rw [h]
theorem emod_nat {t s : Nat} : ((t : Int) % (s : Int)) = ((t % s : Nat) : Int) := by omega
/-- from a row of digits to what lies in a row of digits -/
def Sub (m l : List Nat) : Prop := ∀ c ∈ m, c ∈ l
theorem sub_trimH {h : List Nat} {t : Nat} : Sub (trimH h t) h := fun _ hc => List.mem_of_mem_take hc
theorem sub_turnQ {q : List Nat} {t : Nat} : Sub (turnQ q t) q := fun c hc => by
  rcases List.mem_append.mp hc with h | h
  · exact List.mem_of_mem_drop h
  · exact List.mem_of_mem_take h
theorem cut_len (l : List Nat) (a b : Option Int) : (cutS (S l) a b).length ≤ l.length := by
  unfold cutS
  rw [S_len, List.length_take, List.length_drop]
  exact Nat.le_trans (Nat.min_le_right _ _) (Nat.sub_le _ _)
theorem fin_len {a b : Option Int} {q : List Nat} (hq : q.length ≤ 1000) : (cutS (S q) a none).length + (cutS (S q) none b).length ≤ sizeLine := by
  have h1 := cut_len q a none
  have h2 := cut_len q none b
  exact Nat.le_trans (show _ ≤ 2000 by omega) (by decide)
theorem val_head {h : List Nat} {t : Nat} (ht : t ≤ h.length) : cutS (S h) none (some (((S h).length : Int) - (t : Int))) = S (trimH h t) := by
  rw [S_len, show ((h.length : Int) - (t : Int)) = ((h.length - t : Nat) : Int) by omega, cut_take (Nat.sub_le _ _)]
  rfl
theorem val_per {q : List Nat} {t s : Nat} (hs : q.length = s) (h0 : 0 < s) :
    cutS (S q) (some ((s : Int) - (t : Int) % (s : Int))) none ++ cutS (S q) none (some ((s : Int) - (t : Int) % (s : Int))) = S (turnQ q t) := by
  have hm := Nat.mod_lt t h0
  rw [show ((s : Int) - (t : Int) % (s : Int)) = ((q.length - t % q.length : Nat) : Int) by rw [emod_nat, hs]; omega, cut_drop (Nat.sub_le _ _), cut_take (Nat.sub_le _ _), S_cat]
  rfl
def spNormal : Sp := fun vs H Q _ => ∃ (r : V) (h q : List Nat), vs = [r, .str (S h), .str (S q)] ∧ 0 < q.length ∧ q.length ≤ 1000 ∧ h.length ≤ 1000 ∧
  ∀ (h' q' : List Nat) (p : Addr), Nf (ev h q) h' q' → h'.length ≤ h.length → q'.length ≤ q.length → Sub h' h → Sub q' q → H p = none → Q (.ref p) (upd H p (.tup [r, .str (S h'), .str (S q')]))
theorem small_len {l : List Nat} (h : l.length ≤ 1000) : (S l).length ≤ sizeLine := by rw [S_len]; exact Nat.le_trans h (by decide)
section
variable {P : Program} {w : World} {K : PySem.W.Frag} {mg : Str → Option Value} {base : Heap}
theorem scNormal : FnScope ["root", "head", "period", "size", "turned", "cut"] ["root", "head", "period"] (defScope sNormal) := ⟨rfl, rfl, rfl, by decide +kernel, rfl, by decide +kernel, by decide +kernel⟩
theorem ok_normal {f fS : Addr} {fd fdS : FuncData} (F : Fun K "normal_stream" "normal_stream" sNormal f fd) (GS : FnOk P w K mg base CX0 1 fS fdS ["period"] spShort) (cS : Cal K mg "shortest_period" fS fdS ["period"]) (ml : mg "len" = none) :
    FnOk P w K mg base CX0 2 f fd ["root", "head", "period"] spNormal := by
  refine F.ok scNormal (fun vs H Q E h => ?_) (fun cdv A outer s H vs Q E hr h => ?_)
  · obtain ⟨r, h, q, rfl, _⟩ := h
    rfl
  · obtain ⟨r, h, q0, rfl, h0, h1, h2, k⟩ := h
    have nd := scNormal.nd
    refine ⟨_, pss_cons (ps_set (i := 2) nd rfl (.inl rfl) (pe_call GS hr rfl cS.mg cS.kp cS.b .nil pass0 (pa_cons (pv 2) pa_nil)))
      (pss_cons (ps_set (i := 3) nd rfl (.inl rfl) (pe_callB call_len_str (by rfl) ml boot_len (pa_cons (pv 2) pa_nil)))
      (pss_cons (ps_set (i := 4) nd rfl (.inl rfl) pe_int)
      (pss_cons (ps_while PassesOwn.never ((pw_and (pt_cmpR op_lt (pv 4) (pe_callB call_len_str (by rfl) ml boot_len (pa_cons (pv 1) pa_nil)) (nomark _))
          (pw_and1 (pt_cmpR op_eq (pe_ix ix_str (pv 1) (pe_op op_sub (pe_un un_neg pe_int) (pv 4)) (fun _ _ => rfl)) (pe_ix ix_str (pv 2) (pe_op op_sub (pe_un un_neg pe_int) (pe_op op_mod (pv 4) (pv 3))) (fun _ _ => rfl)) (nomark _)))).pt)
        (pss_one (ps_aug (i := 4) nd rfl (.inl rfl) pe_int ip_add)))
      (pss_cons (ps_set (i := 5) nd rfl (.inl rfl) (pe_op op_sub (pv 3) (pe_op op_mod (pv 4) (pv 3))))
      (pss_one (ps_ret (pe_tup (pa_cons (pv 0) (pa_cons (pe_slice sl_str (pv 1) po_none (po_some (pe_op op_sub (pe_callB call_len_str (by rfl) ml boot_len (pa_cons (pv 1) pa_nil)) (pv 4))))
        (pa_cons (pe_op op_add_str (pe_slice sl_str (pv 2) (po_some (pv 5)) po_none) (pe_slice sl_str (pv 2) po_none (po_some (pv 5)))) pa_nil)))))))))), ?_⟩
    obtain ⟨s0, e, l⟩ := find_least h0
    have hle := l.le h0
    refine ⟨_, rfl, q0, rfl, h0, h1, fun s0 l hle => ?_⟩
    have sl : (q0.take s0).length = s0 := take_len hle
    refine ⟨_, rfl, _, rfl, small_len (by omega), ?_⟩
    refine ⟨fun m σ H2 => ∃ t : Nat, m = h.length - t ∧ σ = [some r, some (.str (S h)), some (.str (S (q0.take s0))), some (.int (s0 : Int)), some (.int (t : Int)), none] ∧ H2 = H ∧ Agree h (q0.take s0) t, ⟨h.length, 0, rfl, ?_, rfl, Nat.zero_le _, fun j hj => absurd hj (Nat.not_lt_zero _)⟩, ?_⟩
    · rw [S_len, sl]
      rfl
    · rintro m σ H2 ⟨t, rfl, rfl, rfl, ag⟩
      refine ⟨_, rfl, _, rfl, _, rfl, small_len h2, _, _, rfl, rfl, _, rfl, ?_⟩
      have sp : 0 < s0 := l.pos
      have hm := Nat.mod_lt t sp
      have fin : ¬ (t < h.length ∧ h.getD (h.length - 1 - t) 0 = (q0.take s0).getD (s0 - 1 - t % s0) 0) → Nf (ev h q0) (trimH h t) (turnQ (q0.take s0) t) := fun st => by
        refine trim_nf (fun i => short_nf l h0 i) (by omega) ag (fun ht => ?_) (by rw [sl]; exact fun a m x y => l.prim h0 a m x y)
        rw [sl]
        exact fun z => st ⟨ht, z⟩
      have done : Nf (ev h q0) (trimH h t) (turnQ (q0.take s0) t) → ∀ p, H2 p = none → Q (.ref p) (upd H2 p (.tup [r, .str (S (trimH h t)), .str (S (turnQ (q0.take s0) t))])) := fun nf p hp =>
        k _ _ p nf (by rw [trimH_len]; omega) (by rw [turnQ_len, sl]; exact hle) sub_trimH (fun c hc => List.mem_of_mem_take (sub_turnQ c hc)) hp
      have lq : (S (q0.take s0)).length ≤ sizeLine := small_len (by omega)
      have lh : (S h).length ≤ sizeLine := small_len h2
      have ps0 : (0 : Int) < (s0 : Int) := by omega
      refine ite2 (fun c => ?_) (fun c => ?_)
      · have c' : (t : Int) < ((S h).length : Int) := of_decide_eq_true c
        have ht : t < h.length := by rw [S_len] at c'; omega
        refine ⟨_, rfl, _, rfl, _, rfl, _, _, rfl, rfl, _, _, _, rfl, rfl, lh, at_back ht (by show -1 - (t : Int) = _; rfl), ?_⟩
        refine ⟨_, rfl, _, rfl, _, rfl, _, rfl, _, _, rfl, rfl, ps0, _, _, rfl, rfl, _, _, _, rfl, rfl, lq, at_back (t := t % s0) (by rw [sl]; exact hm) (by rw [← emod_nat]), ?_⟩
        refine ⟨rfl, _, rfl, ?_⟩
        refine ite2 (fun c => ?_) (fun c => ?_)
        · have e1 := one_eq.mp (of_decide_eq_true c)
          refine ⟨fun σ' H' => ∃ m', m' < h.length - t ∧ _, fun σ' H' z => z, _, rfl, _, _, rfl, rfl, h.length - (t + 1), by omega, t + 1, rfl, rfl, rfl, ?_⟩
          refine ⟨ht, fun j hj => ?_⟩
          rcases Nat.lt_or_ge j t with hlt | hge
          · exact ag.2 j hlt
          · have ej : j = t := by omega
            rw [ej, e1]
            rw [sl]
        · have nf := fin (fun z => c (decide_eq_true (one_eq.mpr (by rw [z.2, sl]))))
          refine ⟨_, rfl, _, rfl, _, rfl, _, _, rfl, rfl, ps0, _, _, rfl, rfl, _, rfl, _, rfl, _, rfl, _, rfl, lh, _, rfl, _, _, rfl, rfl, _, rfl, _, rfl, lh, _, rfl, _, rfl, _, rfl, _, rfl, lq, _, rfl, _, rfl, _, rfl, _, rfl, lq, _, _, rfl, rfl, ?_, (by show 3 ≤ sizeLine; decide), fun p hp => ?_⟩
          · exact fin_len (by omega)
          · have e1 := val_head ag.1
            have e2 := val_per (t := t) sl sp
            show Q (.ref p) (upd H2 p (.tup [r, .str (cutS (S h) none (some (((S h).length : Int) - (t : Int)))), .str (cutS (S (q0.take s0)) (some ((s0 : Int) - (t : Int) % (s0 : Int))) none ++ cutS (S (q0.take s0)) none (some ((s0 : Int) - (t : Int) % (s0 : Int))))]))
            rw [e1, e2]
            exact done nf p hp
      · have nf := fin (fun z => c (decide_eq_true (by rw [S_len]; omega)))
        refine ⟨_, rfl, _, rfl, _, rfl, _, _, rfl, rfl, ps0, _, _, rfl, rfl, _, rfl, _, rfl, _, rfl, _, rfl, lh, _, rfl, _, _, rfl, rfl, _, rfl, _, rfl, lh, _, rfl, _, rfl, _, rfl, _, rfl, lq, _, rfl, _, rfl, _, rfl, _, rfl, lq, _, _, rfl, rfl, ?_, (by show 3 ≤ sizeLine; decide), fun p hp => ?_⟩
        · exact fin_len (by omega)
        · have e1 := val_head ag.1
          have e2 := val_per (t := t) sl sp
          show Q (.ref p) (upd H2 p (.tup [r, .str (cutS (S h) none (some (((S h).length : Int) - (t : Int)))), .str (cutS (S (q0.take s0)) (some ((s0 : Int) - (t : Int) % (s0 : Int))) none ++ cutS (S (q0.take s0)) none (some ((s0 : Int) - (t : Int) % (s0 : Int))))]))
          rw [e1, e2]
          exact done nf p hp
end
end Vf


set_option Elab.async false
set_option maxRecDepth 100000
set_option maxHeartbeats 4000000
set_option exponentiation.threshold 3000
namespace Vf
open PySem L2 SX Vm
section
variable {X : Cx}
theorem fold_flat (l : List Nat) : ∀ (k : Nat) (acc : Array Nat), ((List.replicate k l.toArray).foldl (· ++ ·) acc) = acc ++ ((List.replicate k l).flatten).toArray
  | 0, acc => by simp
  | k + 1, acc => by
    rw [List.replicate_succ, List.foldl_cons, fold_flat l k, List.replicate_succ, List.flatten_cons]
    simp
/-- a text times a number -/
def rMulS : R2 := fun x y H Q => ∃ (l : List Nat) (k : Nat), x = .str (S l) ∧ y = .int (k : Int) ∧ k ≤ 100000 ∧ l.length ≤ 100000 ∧ k * l.length ≤ 1000000 ∧ Q (.str (S ((List.replicate k l).flatten))) H
theorem op_mul_str : OpR X (binaryOp .Mult) rMulS := by
  intro pins s σ H x y v u Q I rx ry h
  obtain ⟨l, k, rfl, rfl, h1, h2, h3, q⟩ := h
  obtain ⟨t, rfl⟩ := rx
  obtain ⟨t', rfl⟩ := ry
  refine PySem.P.mul_str ?_ (fun a b => ?_) (fun a b => ?_) ?_
  · rw [decide_eq_false (show ¬ ((k : Int) < -(2 ^ 63 : Int)) by omega), decide_eq_false (show ¬ ((k : Int) ≥ 2 ^ 63) by omega)]
    rfl
  · rw [S_len]
    have hk : (0 : Int) < (k : Int) := by omega
    have : (l.length : Int) ≤ (2 ^ 63 - 1) / (k : Int) := by
      rw [Int.le_ediv_iff_mul_le hk]
      have e : ((l.length : Int) * (k : Int)) = ((k * l.length : Nat) : Int) := by rw [Int.natCast_mul, Int.mul_comm]
      rw [e]
      omega
    omega
  · rw [S_len, Int.toNat_natCast, Nat.mul_comm]
    have : k * l.length ≤ sizeLine := Nat.le_trans h3 (by decide)
    unfold Builtin.Str.tooLong
    exact decide_eq_false (by omega)
  · have hlen : ((List.replicate k l).flatten).length ≤ sizeLine := by rw [rep_len]; exact Nat.le_trans h3 (by decide)
    by_cases c1 : (k : Int) < 1
    · have e : k = 0 := by omega
      subst e
      rw [if_pos c1]
      exact ⟨by decide, .str _, H, I.tok _, ⟨_, rfl⟩, q⟩
    · rw [if_neg c1]
      by_cases c2 : ((k : Int) == 1 || (S l).length == 0) = true
      · rw [if_pos c2]
        have e : (List.replicate k l).flatten = l := by
          rw [Bool.or_eq_true, beq_iff_eq, beq_iff_eq, S_len] at c2
          rcases c2 with c | c
          · have e : k = 1 := by omega
            subst e
            simp
          · have e : l = [] := List.length_eq_zero_iff.mp c
            subst e
            simp
        rw [e] at q
        exact ⟨.str _, H, I, ⟨_, rfl⟩, q⟩
      · rw [if_neg c2, Int.toNat_natCast]
        have e : (⟨(List.replicate k (S l).cps).foldl (· ++ ·) #[]⟩ : Str) = S ((List.replicate k l).flatten) := by
          have z := fold_flat l k #[]
          show Str.mk _ = Str.mk _
          rw [z]
          simp
        rw [e]
        exact ⟨by rw [S_len]; exact hlen, .str _, H, I.tok _, ⟨_, rfl⟩, q⟩
end
/-- the first one that passes -/
theorem filter_head {p : Nat → Bool} {s : Nat} (hp : p s = true) : ∀ n a, a ≤ s → s < a + n → (∀ t, a ≤ t → t < s → p t = false) → ((List.range' a n).filter p)[0]? = some s
  | 0, a, h1, h2, _ => absurd h2 (by omega)
  | n + 1, a, h1, h2, h3 => by
    rw [List.range'_succ]
    by_cases e : a = s
    · subst e
      rw [List.filter_cons_of_pos hp]
      rfl
    · rw [List.filter_cons_of_neg (by rw [h3 a (Nat.le_refl _) (by omega)]; exact Bool.false_ne_true)]
      exact filter_head hp n (a + 1) (by omega) (by omega) fun t h4 h5 => h3 t (by omega) h5
def okB (q : List Nat) (m : Nat) : Bool := decide ((List.replicate (q.length / m) (q.take m)).flatten = q)
theorem first_size {q : List Nat} {s : Nat} (h0 : 0 < q.length) (l : Least q s) : ((List.range' 1 q.length).filter (okB q))[0]? = some s := by
  have hle := l.le h0
  have hp := l.pos
  refine filter_head (decide_eq_true ((rep_per hp hle).mpr ⟨l.per, l.dvd (per_len q)⟩)) _ _ hp (by omega) fun t h1 h2 => decide_eq_false fun z => ?_
  exact l.min t h1 h2 ((rep_per h1 (by omega)).mp z).1
theorem filter_snoc {p : Nat → Bool} {i : Nat} : (List.range' 1 (i + 1)).filter p = (List.range' 1 i).filter p ++ (if p (1 + i) = true then [1 + i] else []) := by
  rw [List.range'_concat, List.filter_append, Nat.one_mul]
  congr 1
  by_cases h : p (1 + i) = true
  · rw [if_pos h, List.filter_cons_of_pos h]
    rfl
  · rw [if_neg h, List.filter_cons_of_neg h]
    rfl
theorem str_ne_empty {l : List Nat} : (V.str (S l) = V.str ("" : Str)) ↔ l = [] := by
  rw [str_empty]
  constructor
  · intro h
    exact S_inj (V.str.inj h)
  · intro h
    rw [h]
theorem str_eq {l m : List Nat} : (V.str (S l) = V.str (S m)) ↔ l = m := ⟨fun h => S_inj (V.str.inj h), fun h => by rw [h]⟩
theorem cut_last (l : List Nat) (c : Nat) : cutS (S (l ++ [c])) none (some (-1)) = S l := by
  unfold cutS
  rw [S_len, HT.sIx_none, List.length_append]
  have e : HT.sIx (l.length + [c].length) (l.length + [c].length) (some (-1)) = l.length := by
    show (if (-1 : Int) < 0 then ((-1 : Int) + ((l.length + 1 : Nat) : Int)).toNat else min (-1 : Int).toNat (l.length + 1)) = l.length
    rw [if_pos (by decide)]
    omega
  rw [e]
  show S ((List.drop 0 (l ++ [c])).take (l.length - 0)) = S l
  rw [List.drop_zero, Nat.sub_zero, List.take_left']
  rfl
theorem last_at (l : List Nat) (c : Nat) : atI (S (l ++ [c])).cps.toList (-1) = some c := by
  have z := at_back (l := l ++ [c]) (i := -1) (t := 0) (by simp) (by decide)
  have e : (l ++ [c]).getD ((l ++ [c]).length - 1 - 0) 0 = c := by
    rw [List.getD_eq_getElem?_getD]
    simp
  rw [e] at z
  exact z
theorem last_getD (l : List Nat) (c : Nat) : (l ++ [c]).getD ((l ++ [c]).length - 1) 0 = c := by
  rw [List.getD_eq_getElem?_getD]
  simp
theorem iteTB {c : Bool} {A B : Prop} (hc : c = true) (h : A) : if c = true then A else B := by rw [if_pos hc]; exact h
theorem iteFB {c : Bool} {A B : Prop} (hc : c = false) (h : B) : if c = true then A else B := by rw [hc, if_neg Bool.false_ne_true]; exact h
/-- the law's normal form -/
def spLNormal : Sp := fun vs H Q _ => ∃ (r : V) (h q : List Nat), vs = [r, .str (S h), .str (S q)] ∧ 0 < q.length ∧ q.length ≤ 1000 ∧ h.length ≤ 1000 ∧
  ∀ (h' q' : List Nat) (p : Addr) (H' : Hp), Nf (ev h q) h' q' → h'.length ≤ h.length → q'.length ≤ q.length → Sub h' h → Sub q' q → Same H H' → H p = none → H' p = some (.tup [r, .str (S h'), .str (S q')]) → Q (.ref p) H'
section
variable {P : Program} {w : World} {K : PySem.W.Frag} {mg : Str → Option Value} {base : Heap}
theorem scLNormal : FnScope ["root", "head", "period", "size", "many"] ["root", "head", "period"] (defScope sLNormal) := ⟨rfl, rfl, rfl, by decide +kernel, rfl, by decide +kernel, by decide +kernel⟩
theorem ok_lnormal {f : Addr} {fd : FuncData} (F : Fun K "_law_normal" "_law_normal" sLNormal f fd) (ml : mg "len" = none) (mr : mg "range" = none) :
    FnOk P w K mg base CX0 1 f fd ["root", "head", "period"] spLNormal := by
  refine F.ok scLNormal (fun vs H Q E h => ?_) (fun cdv A outer s H vs Q E hr h => ?_)
  · obtain ⟨r, h, q, rfl, _⟩ := h
    rfl
  · obtain ⟨r, h, q0, rfl, h0, h1, h2, k⟩ := h
    have nd := scLNormal.nd
    refine ⟨_, pss_cons (ps_set (i := 3) nd rfl (.inl rfl) (pe_ix ix_list (pe_lc (own := [("many", 4)]) (g := gName 4) rfl nd
          (pi_range2 rfl mr (pa_cons pe_int (pa_cons (pe_op op_add (pe_callB call_len_str (by rfl) ml boot_len (pa_cons (pv 2) pa_nil)) pe_int) pa_nil)))
          (blkOk_by (N := ["root", "head", "period", "size", "many"]) (sc := defScope sLNormal) (by decide +kernel)) (fun _ _ _ _ _ => pg_name (i := 4) nd rfl (Or.inl rfl))
          (fun _ _ _ _ _ => pts_one (pt_cmpR op_eq (pe_op op_mul_str (pe_slice sl_str (pv 2) po_none (po_some (pv 4))) (pe_op op_fdiv (pe_callB call_len_str (by rfl) ml boot_len (pa_cons (pv 2) pa_nil)) (pv 4))) (pv 2) (nomark _))) (fun _ _ _ _ _ => pv 4)) pe_int (fun _ _ => rfl)))
      (pss_cons (ps_set (i := 2) nd rfl (.inr rfl) (pe_slice sl_str (pv 2) po_none (po_some (pv 3))))
      (pss_cons (ps_while PassesOwn.never (pw_and (pt_cmpR op_ne (pv 1) pe_str (nomark _)) (pw_and1 (pt_cmpR op_eq (pe_ix ix_str (pv 1) (pe_un un_neg pe_int) (fun _ _ => rfl)) (pe_ix ix_str (pv 2) (pe_un un_neg pe_int) (fun _ _ => rfl)) (nomark _)))).pt
        (pss_one (ps_asg (pe_tup (pa_cons (pe_slice sl_str (pv 1) po_none (po_some (pe_un un_neg pe_int))) (pa_cons (pe_op op_add_str (pe_ix ix_str (pv 2) (pe_un un_neg pe_int) (fun _ _ => rfl)) (pe_slice sl_str (pv 2) po_none (po_some (pe_un un_neg pe_int)))) pa_nil)))
          (pg_tup rfl (pgs_cons (pg_name (i := 1) nd rfl (.inl rfl)) (pgs_cons (pg_name (i := 2) nd rfl (.inr rfl)) pgs_nil))))))
      (pss_one (ps_ret (pe_tup (pa_cons (pv 0) (pa_cons (pv 1) (pa_cons (pv 2) pa_nil)))))))), ?_⟩
    have lq : (S q0).length ≤ sizeLine := small_len h1
    refine ⟨_, rfl, _, rfl, lq, _, _, rfl, rfl, _, _, rfl, ⟨by decide, by decide, by rw [S_len]; omega, by rw [S_len]; omega⟩, fun D hD => ?_⟩
    have en : (((S q0).length : Int) + 1 - 1).toNat = q0.length := by rw [S_len]; omega
    rw [en]
    refine lc_range (n := q0.length) (fun i H2 => H2 = upd H D (.lst (((List.range' 1 i).filter (okB q0)).map fun m => V.int (m : Nat)))) rfl ?_ ?_
    · rintro i H2 hi rfl
      refine ⟨rfl, ?_⟩
      have e1 : cutS (S q0) none (some (1 + (i : Int))) = S (q0.take (1 + i)) := by
        rw [show (1 + (i : Int)) = ((1 + i : Nat) : Int) by omega]
        exact cut_take (by omega)
      have e2 : (((S q0).length : Int) / (1 + (i : Int))) = ((q0.length / (1 + i) : Nat) : Int) := by
        rw [S_len, show (1 + (i : Int)) = ((1 + i : Nat) : Int) by omega]
        rfl
      have hm : q0.length / (1 + i) ≤ q0.length := Nat.div_le_self _ _
      have hm2 : q0.length / (1 + i) * (q0.take (1 + i)).length ≤ 1000000 := Nat.le_trans (Nat.mul_le_mul hm (show (q0.take (1 + i)).length ≤ 1000 by rw [List.length_take]; omega)) (by omega)
      refine ⟨_, rfl, _, rfl, _, rfl, _, rfl, lq, _, rfl, _, rfl, lq, _, rfl, _, _, rfl, rfl, ⟨by omega, by omega⟩, q0.take (1 + i), q0.length / (1 + i), congrArg V.str e1, congrArg V.int e2, by omega, by rw [List.length_take]; omega, hm2, _, rfl, rfl, _, rfl, ?_⟩
      rw [filter_snoc]
      by_cases c : okB q0 (1 + i) = true
      · rw [if_pos c]
        refine iteTB (decide_eq_true (str_eq.mpr (of_decide_eq_true c))) ?_
        refine ⟨_, rfl, _, upd_same, ?_, ?_⟩
        · rw [List.length_map]
          exact Nat.lt_of_le_of_lt (Nat.le_trans (List.length_filter_le _ _) (show (List.range' 1 i).length ≤ 1000 by rw [List.length_range']; omega)) (by decide)
        · rw [upd_upd', List.map_append]
          rw [show (1 + (i : Int)) = ((1 + i : Nat) : Int) by omega]
          rfl
      · rw [if_neg c, List.append_nil]
        exact iteFB (decide_eq_false (fun z => c (decide_eq_true (str_eq.mp z)))) rfl
    · rintro H2 rfl
      obtain ⟨s0, e, l⟩ := find_least h0
      have hle := l.le h0
      have sp := l.pos
      have hi : atI (((List.range' 1 q0.length).filter (okB q0)).map fun m => V.int (m : Nat)) 0 = some (.int (s0 : Int)) := by
        refine atI_nat (j := 0) ?_
        rw [List.getElem?_map, first_size h0 l]
        rfl
      have sl : (q0.take s0).length = s0 := take_len hle
      refine ⟨D, _, 0, _, rfl, rfl, SqL.of upd_same, hi, ?_⟩
      refine ⟨_, rfl, _, rfl, _, rfl, _, rfl, lq, ?_⟩
      rw [cut_take hle]
      refine ⟨fun m σ H2 => ∃ l' r' : List Nat, m = l'.length ∧ σ = [some r, some (.str (S l')), some (.str (S r')), some (.int (s0 : Int)), none] ∧ Same H H2 ∧ r'.length = s0 ∧ (∀ i, ev l' r' i = ev h q0 i) ∧ l'.length ≤ h.length ∧ Sub l' h ∧ Sub r' q0,
        ⟨h.length, h, q0.take s0, rfl, rfl, fun b o e => by rw [upd_ne (ne_of_none e hD)]; exact e, sl, fun i => short_nf l h0 i, Nat.le_refl _, fun _ x => x, fun _ x => List.mem_of_mem_take x⟩, ?_⟩
      rintro m σ H2 ⟨l', r', rfl, rfl, s2, lr, hev, hl, sub1, sub2⟩
      have ll : (S l').length ≤ sizeLine := small_len (by omega)
      have lrr : (S r').length ≤ sizeLine := small_len (by omega)
      have done : (0 < l'.length → l'.getD (l'.length - 1) 0 ≠ r'.getD (r'.length - 1) 0) → ∀ p, H2 p = none → Q (.ref p) (upd H2 p (.tup [r, .str (S l'), .str (S r')])) := fun stop p hp =>
        k l' r' p _ (last_nf hev (by omega) (by rw [lr]; exact fun a m x y => l.prim h0 a m x y) stop) hl (by omega) sub1 sub2 (fun b o e => by rw [upd_ne (ne_of_none (s2 b o e) hp)]; exact s2 b o e) (s2.free hp) upd_same
      refine ⟨_, rfl, rfl, _, rfl, ?_⟩
      rcases List.eq_nil_or_concat l' with e | ⟨l0, c, e⟩
      · subst e
        refine iteFB (by rw [decide_eq_true (str_ne_empty.mpr rfl)]; rfl) ?_
        refine iteFB rfl ?_
        exact ⟨_, rfl, _, rfl, _, rfl, (by show 3 ≤ sizeLine; decide), fun p hp => done (fun z => absurd z (Nat.lt_irrefl _)) p hp⟩
      · rw [List.concat_eq_append] at e
        subst e
        refine iteTB (by rw [decide_eq_false (fun z => by have := str_ne_empty.mp z; simp at this)]; rfl) ?_
        rcases List.eq_nil_or_concat r' with e | ⟨r0, c', e⟩
        · subst e
          exact absurd lr (by simp; omega)
        · rw [List.concat_eq_append] at e
          subst e
          refine ⟨_, rfl, _, rfl, _, _, _, rfl, rfl, ll, last_at l0 c, _, rfl, _, rfl, _, _, _, rfl, rfl, lrr, last_at r0 c', rfl, _, rfl, ?_⟩
          refine ite2 (fun z => ?_) (fun z => ?_)
          · have ec : c = c' := one_eq.mp (of_decide_eq_true z)
            subst ec
            have l1 : (S r0).length ≤ sizeLine := small_len (by simp at lr; omega)
            refine ⟨fun σ' H' => ∃ m', m' < (l0 ++ [c]).length ∧ _, fun σ' H' z => z, _, rfl, _, rfl, _, rfl, _, rfl, ll, _, rfl, _, rfl, _, _, _, rfl, rfl, lrr, last_at r0 c, _, rfl, _, rfl, _, rfl, _, rfl, lrr, _, _, rfl, rfl, ?_, (by show 2 ≤ sizeLine; decide), fun p hp => ?_⟩
            · rw [cut_last]
              show 1 + (S r0).length ≤ sizeLine
              rw [S_len]
              exact Nat.le_trans (show 1 + r0.length ≤ 1001 by simp at lr; omega) (by decide)
            · rw [cut_last, cut_last]
              refine ⟨p, _, rfl, SqT.of upd_same, rfl, _, _, rfl, _, _, rfl, rfl, l0.length, by simp, l0, c :: r0, rfl, ?_, fun b o e => by rw [upd_ne (ne_of_none (s2 b o e) hp)]; exact s2 b o e, by simpa using lr, fun i => (ev_less l0 r0 c i).trans (hev i), by simp at hl; omega, fun x hx => sub1 x (List.mem_append_left _ hx), fun x hx => sub2 x (by simp at hx ⊢; exact hx.symm)⟩
              have e : (⟨#[c]⟩ : Str) ++ S r0 = S (c :: r0) := S_cat [c] r0
              rw [← e]
              rfl
          · refine ⟨_, rfl, _, rfl, _, rfl, (by show 3 ≤ sizeLine; decide), fun p hp => done (fun _ y => z (decide_eq_true (one_eq.mpr ?_))) p hp⟩
            rw [last_getD, last_getD] at y
            exact y
end
end Vf

set_option Elab.async false
set_option maxRecDepth 100000
set_option maxHeartbeats 4000000
set_option exponentiation.threshold 3000
namespace Vf
open PySem L2 SX Vm
theorem pos_pull {b q : Int} (h0 : 0 ≤ q) (h1 : q < b) (h5 : b ≤ 5) : ∃ c : Nat, atI (("01234" : Str).cps.toList) q = some c ∧ 48 ≤ c ∧ (c : Int) < 48 + b := by
  rw [s01234]
  have : q = 0 ∨ q = 1 ∨ q = 2 ∨ q = 3 ∨ q = 4 := by omega
  rcases this with e | e | e | e | e <;> subst e <;> exact ⟨_, rfl, by decide, by omega⟩
theorem len5 : ("01234" : Str).length ≤ sizeLine := by decide +kernel
theorem S_one (c : Nat) (l : List Nat) : (⟨#[c]⟩ : Str) ++ S l = S (c :: l) := S_cat [c] l
theorem S_snoc (c : Nat) (l : List Nat) : S l ++ (⟨#[c]⟩ : Str) = S (l ++ [c]) := S_cat l [c]
/-- a drawn stream -/
def spLStream : Sp := fun vs H Q _ => ∃ (a : Addr) (d : Int × Int × Int) (base wide high : Int), vs = [.ref a, .int base, .int wide, .int high] ∧ H a = some (.lst (dieL d)) ∧ DieOk d ∧ d.2.2 ≤ 990000000 ∧ 2 ≤ base ∧ base ≤ 5 ∧ 1 ≤ wide ∧ wide ≤ 5000 ∧ 1 ≤ high ∧ high ≤ 100 ∧
  ∀ (r : Int) (h q : List Nat) (f : Nat → Nat) (d' : Int × Int × Int) (p : Addr) (H' : Hp), 0 ≤ r → r < wide → (h.length : Int) ≤ high → (q.length : Int) ≤ high → Nf f h q → IsW base h → IsW base q → DieOk d' → d'.2.2 ≤ d.2.2 + 3 + 2 * high →
    Kp a H H' → H' a = some (.lst (dieL d')) → H p = none → H' p = some (.tup [.int r, .str (S h), .str (S q)]) → Q (.ref p) H'
/-- the beginning of a stream -/
def spLBeg (K : PySem.W.Frag) : Sp := fun vs H Q _ => ∃ (p : Addr) (r : V) (h q : List Nat) (many : Nat), vs = [.ref p, .int (many : Int)] ∧ SqT K H p [r, .str (S h), .str (S q)] ∧ 0 < q.length ∧ q.length ≤ 1000 ∧ h.length ≤ 1000 ∧ many ≤ 2000 ∧
  Q (.str (S (beg h q (many / q.length + 1) many))) H
/-- the same stream told otherwise -/
def spOther : Sp := fun vs H Q _ => ∃ (a p : Addr) (d : Int × Int × Int) (r : V) (h q : List Nat), vs = [.ref a, .ref p] ∧ H a = some (.lst (dieL d)) ∧ DieOk d ∧ d.2.2 ≤ 990000000 ∧ H p = some (.tup [r, .str (S h), .str (S q)]) ∧ 0 < q.length ∧ q.length ≤ 100 ∧ h.length ≤ 100 ∧
  ∀ (h' q' : List Nat) (d' : Int × Int × Int) (p' : Addr) (H' : Hp), (∀ i, ev h' q' i = ev h q i) → 0 < q'.length → q'.length ≤ 300 → h'.length ≤ 110 → Sub h' (h ++ q) → Sub q' q → DieOk d' → d'.2.2 ≤ d.2.2 + 2 →
    Kp a H H' → H' a = some (.lst (dieL d')) → H p' = none → H' p' = some (.tup [r, .str (S h'), .str (S q')]) → Q (.ref p') H'
section
variable {P : Program} {w : World} {K : PySem.W.Frag} {mg : Str → Option Value} {base : Heap}
theorem scLStream : FnScope ["die", "base", "wide", "high", "root", "head"] ["die", "base", "wide", "high"] (defScope sLStream) := ⟨rfl, rfl, rfl, by decide +kernel, rfl, by decide +kernel, by decide +kernel⟩
theorem ok_lstream {f fP fW fN : Addr} {fd fdP fdW fdN : FuncData} (F : Fun K "_law_stream" "_law_stream" sLStream f fd) (GP : FnOk P w K mg base CX0 1 fP fdP ["die", "many"] spPull) (cP : Cal K mg "_law_pull" fP fdP ["die", "many"])
    (GW : FnOk P w K mg base CX0 2 fW fdW ["die", "base", "high"] spWord) (cW : Cal K mg "_law_word" fW fdW ["die", "base", "high"]) (GN : FnOk P w K mg base CX0 1 fN fdN ["root", "head", "period"] spLNormal) (cN : Cal K mg "_law_normal" fN fdN ["root", "head", "period"]) :
    FnOk P w K mg base CX0 3 f fd ["die", "base", "wide", "high"] spLStream := by
  refine F.ok scLStream (fun vs H Q E h => ?_) (fun cdv A outer s H vs Q E hr h => ?_)
  · obtain ⟨a, d, b, wi, hi, rfl, _⟩ := h
    rfl
  · obtain ⟨a, d, b, wi, hi, rfl, ha, hd, hc, b2, b5, w1, w5, h1, h5, k⟩ := h
    have nd := scLStream.nd
    have hr1 := hr.mono (show 1 ≤ 2 by decide)
    refine ⟨_, pss_cons (ps_par (i := 4) (j := 5) rfl nd rfl rfl (by decide) rfl rfl (pa_cons (pe_call GP hr1 rfl cP.mg cP.kp cP.b .nil pass0 (pa_cons (pv 0) (pa_cons (pv 2) pa_nil))) (pa_cons (pe_call GW hr rfl cW.mg cW.kp cW.b .nil pass0 (pa_cons (pv 0) (pa_cons (pv 1) (pa_cons (pv 3) pa_nil)))) pa_nil)) rfl)
      (pss_one (ps_ret (pe_call GN hr1 rfl cN.mg cN.kp cN.b .nil pass0 (pa_cons (pv 4) (pa_cons (pv 5) (pa_cons (pe_op op_add_str (pe_ix ix_str pe_str (pe_call GP hr1 rfl cP.mg cP.kp cP.b .nil pass0 (pa_cons (pv 0) (pa_cons (pv 1) pa_nil))) (fun _ _ => rfl))
        (pe_call GW hr rfl cW.mg cW.kp cW.b .nil pass0 (pa_cons (pv 0) (pa_cons (pv 1) (pa_cons (pe_op op_sub (pv 3) pe_int) pa_nil))))) pa_nil)))))), ?_⟩
    refine ⟨_, rfl, _, rfl, a, d, wi, rfl, ha, hd, w1, w5, by omega, fun r d1 hd1 hc1 r0 r1 => ?_⟩
    refine ⟨_, rfl, _, rfl, _, rfl, a, d1, b, hi, rfl, upd_same, hd1, by omega, b2, b5, by omega, h5, fun l d2 hd2 hc2 hw hl => ?_⟩
    rw [upd_upd']
    refine ⟨_, _, rfl, ?_⟩
    refine ⟨_, rfl, _, rfl, _, rfl, _, rfl, a, d2, b, rfl, upd_same, hd2, by omega, by omega, by omega, fun q d3 hd3 hc3 q0 q1 => ?_⟩
    obtain ⟨c, hc', c0, c1⟩ := pos_pull q0 q1 b5
    rw [upd_upd']
    refine ⟨_, q, c, rfl, rfl, len5, hc', ?_⟩
    refine ⟨_, rfl, _, rfl, _, rfl, _, _, rfl, rfl, a, d3, b, hi - 1, rfl, upd_same, hd3, by omega, b2, b5, by omega, by omega, fun l2 d4 hd4 hc4 hw2 hl2 => ?_⟩
    rw [upd_upd']
    refine ⟨_, _, rfl, rfl, ?_, ?_⟩
    · rw [S_len]
      show 1 + l2.length ≤ sizeLine
      exact Nat.le_trans (show 1 + l2.length ≤ 200 by omega) (by decide)
    · rw [S_one]
      refine ⟨.int r, l, c :: l2, rfl, by simp, by simp; omega, by omega, fun h' q' p H' nf hl' hq' sh sq sm np hp => ?_⟩
      have nap : p ≠ a := fun z => by rw [z, upd_same] at np; cases np
      have npH : H p = none := by rw [upd_ne nap] at np; exact np
      have wq : IsW b (c :: l2) := fun x hx => by
        rcases List.mem_cons.mp hx with e | e
        · rw [e]
          exact ⟨c0, c1⟩
        · exact hw2 x e
      refine k r h' q' _ d4 p H' r0 r1 (by omega) (by simp at hq'; omega) nf (hw.of sh) (wq.of sq) hd4 (by omega) (fun x o n e => sm x o (by rw [upd_ne n]; exact e)) (sm a _ upd_same) npH hp
theorem scLBeg : FnScope ["stream", "many", "root", "head", "period"] ["stream", "many"] (defScope sLBeg) := ⟨rfl, rfl, rfl, by decide +kernel, rfl, by decide +kernel, by decide +kernel⟩
theorem ok_lbeg {f : Addr} {fd : FuncData} (F : Fun K "_law_beginning" "_law_beginning" sLBeg f fd) (ml : mg "len" = none) : FnOk P w K mg base CX0 1 f fd ["stream", "many"] (spLBeg K) := by
  refine F.ok scLBeg (fun vs H Q E h => ?_) (fun cdv A outer s H vs Q E hr h => ?_)
  · obtain ⟨p, r, h, q, many, rfl, _⟩ := h
    rfl
  · obtain ⟨p, r, h, q, many, rfl, hp, h0, h1, h2, hm, k⟩ := h
    have nd := scLBeg.nd
    refine ⟨_, pss_cons (ps_asg (pv 0) (pg_tup rfl (pgs_cons (pg_name (i := 2) nd rfl (.inl rfl)) (pgs_cons (pg_name (i := 3) nd rfl (.inl rfl)) (pgs_cons (pg_name (i := 4) nd rfl (.inl rfl)) pgs_nil)))))
      (pss_one (ps_ret (pe_slice sl_str (pe_op op_add_str (pv 3) (pe_op op_mul_str (pv 4) (pe_op op_add (pe_op op_fdiv (pv 1) (pe_callB call_len_str (by rfl) ml boot_len (pa_cons (pv 4) pa_nil))) pe_int))) po_none (po_some (pv 1))))), ?_⟩
    refine ⟨_, rfl, p, _, rfl, hp, rfl, _, _, rfl, _, _, rfl, _, _, rfl, rfl, ?_⟩
    have hk : many / q.length + 1 ≤ 2001 := Nat.succ_le_succ (Nat.le_trans (Nat.div_le_self _ _) hm)
    have hmul : (many / q.length + 1) * q.length ≤ 3000 := by
      rw [Nat.succ_mul]
      have := Nat.div_mul_le_self many q.length
      omega
    have ek : ((many : Int) / ((S q).length : Int) + 1) = ((many / q.length + 1 : Nat) : Int) := by
      rw [S_len]
      rfl
    refine ⟨_, rfl, _, rfl, _, rfl, _, rfl, _, rfl, small_len h1, _, _, rfl, rfl, ⟨by rw [S_len]; omega, by rw [S_len]; omega⟩, _, _, rfl, rfl, q, many / q.length + 1, rfl, congrArg V.int ek, by omega, by omega, by omega, _, _, rfl, rfl, ?_, _, rfl, _, rfl, _, rfl, ?_, ?_⟩
    · rw [S_len, S_len, rep_len]
      exact Nat.le_trans (show h.length + (many / q.length + 1) * q.length ≤ 4000 by omega) (by decide)
    · rw [S_cat, S_len, List.length_append, rep_len]
      exact Nat.le_trans (show h.length + (many / q.length + 1) * q.length ≤ 4000 by omega) (by decide)
    · rw [S_cat, cut_take]
      · exact k
      · have := Nat.lt_div_mul_add (a := many) h0
        rw [List.length_append, rep_len, Nat.succ_mul]
        omega
end
end Vf


set_option Elab.async false
set_option maxRecDepth 100000
set_option maxHeartbeats 4000000
/-! An error class over IndexError whose __init__ calls that of its base and keeps a value. -/
namespace VNum
open PySem PySem.W PySem.Calls PyProof.Rows L2
def mainArgs : Arguments := defArgs (inClass (Vf.top 5) 0)
def mainBody : List Stmt := defBody (inClass (Vf.top 5) 0)
def mainScope : Scope := defScope (inClass (Vf.top 5) 0)
abbrev bmI : List Value := [.type "IndexError", .type "LookupError", .type "Exception", .type "BaseException", .type "object"]
/-- what the written part says of the class at C and of its __init__ at fI -/
structure NumTxt (P : Program) (K : Frag) (mg : Str → Option Value) (C fI : Addr) : Prop where
  gC : mg "InvalidNumber" = some (.ref C)
  noSuper : mg "super" = none
  cls : ∃ nm q N bs sn sub ab col dd k0 k1 k2 k3 k5, K.lookup C = some (excClassObj nm q C N bs bmI true sn sub ab col dd k0 k1 k2 k3 k5 "IndexError.__new__")
  sa : findIn K (.ref C) "__setattr__" = some (some (.builtin "object.__setattr__"))
  ga : findIn K (.ref C) "__getattribute__" = some (some (.builtin "BaseException.__getattribute__"))
  gg : findIn K (.ref C) "__getattr__" = some none
  ov : excOver K C bmI = true
  qi : excInitIn K C bmI "IndexError.__new__" = true
  tk : takerIn K C "value" = some none
  noV : findIn K (.ref C) "value" = some none
  hdC : hasDictIn K C = true
  iC : findIn K (.ref C) "__init__" = some (some (.ref fI))
  tC : typeIn K (.ref fI) = some (.type "function")
  any : nsIn K cStatics "thirdparty.any" = some none
  sup : ks_superIn K C C "__init__" = some (some (.builtin "IndexError.__init__"))
  sI : subIn K (.ref C) (.type "IndexError") = some true
  mro : mroIn K C (.ref C) = some true
  kC : keepIn K (.ref C) = true
  exC : subIn K (.ref C) (.type "BaseException") = some true
  tyC : typeIn K (.ref C) = some (.type "type")
  top : (P.main.scope.names.lookup ("super" : Str)).isSome = false
  fn : ∃ (oc : Value) (od : Option Addr) (doc pm : Value) (an : Option Addr) (cda cc : Addr) (ct : Value) (osl : Array (Option Value)) (vs : Array Value) (file : Str) (tf : Tok) (ccl : Value) (cdd : Option Addr) (ccs : Array (Option Value)) (cl : Value) (cld : Option Addr) (csl : Array (Option Value)),
    K.lookup fI = some ⟨oc, od, .func (ksFn "__init__" "InvalidNumber.__init__" mainArgs mainBody mainScope .none .none doc pm an (.ref cda) ct cc), osl⟩ ∧ codeIn K (.ref cda) "InvalidNumber.__init__" = true ∧
    K.lookup cda = some ⟨ccl, cdd, .fields vs, ccs⟩ ∧ vs[2]? = some (.str file tf) ∧ ((P.main.file : Str) == file) = true ∧ K.lookup cc = some ⟨cl, cld, .cell (some (.ref C)), csl⟩
/-- what __init__ leaves of a fresh exception at x -/
structure InitEnd (h h' : Heap) (x C dx t1 : Addr) (v : Value) : Prop where
  keep : ∀ b o, b ≠ x → h.get? b = some o → h'.get? b = some o
  obj : h'.get? x = some { cls := .ref C, dict := some dx, data := .fields #[.ref t1, .none, .none, .none, .bool false, .none] }
  dbig : h.objs.size ≤ dx
  dne : dx ≠ x
  ns : h'.Ns1 dx (fun y => if y = "value" then some v else none)
theorem ns1_one {h : Heap} {dx : Addr} {hs : Int} {t : Tok} {v : Value} {es : List DictEntry} {n : Nat} (e : (putL "value" hs (.str "value" t) v [], putN "value" [] 0) = (es, n)) (hd : h.get? dx = some (dictOf es n)) : h.Ns1 dx (fun y => if y = "value" then some v else none) := by
  obtain ⟨e1, e2⟩ := Prod.mk.inj e
  subst e1
  subst e2
  refine ⟨_, _, _, hd, rfl, ?_, ?_, fun name => ?_⟩
  · intro e he
    have he' : e ∈ [(⟨hs, .str "value" t, v⟩ : DictEntry)] := Array.mem_toList_iff.mpr he
    rw [List.mem_singleton.mp he']
    exact ⟨_, _, rfl⟩
  · exact List.pairwise_singleton _ _
  · show ((#[(⟨hs, .str "value" t, v⟩ : DictEntry)] : Array DictEntry).find? fun e => e.key.isStr name).map (·.val) = if name = "value" then some v else none
    by_cases hn : name = "value"
    · subst hn
      rw [if_pos rfl]
      simp [Value.isStr]
    · rw [if_neg hn]
      have : (("value" : Str) == name) = false := by simpa using (fun z => hn z.symm)
      simp [Value.isStr, this]
section
variable {P : Program} {w : World} {A : Around} {R : Result → Shared → Prop} {s : Shared} {K : Frag} {mg : Str → Option Value} {C fI : Addr}
theorem num_init (T : NumTxt P K mg C fI) {x t0 : Addr} {v : Value} (X : K.In s.heap) (hg : s.heap.Ns mainGlobals mg) {mb : Str → Option Value} (hb : s.heap.Ns builtinsNs mb) (hbb : ∀ x : Str, x ≠ "__name__" → mb x = bootBuiltins x) (hlim : s.heap.NoLimit)
    (hx : s.heap.get? x = some (HandSPX.excO C t0)) (hnx : K.lookup x = none) (hroom : A.depth < recursionLimit) (hq : ∀ h' tk dx t1, InitEnd s.heap h' x C dx t1 v → R (.ok (.ret .none)) { s with heap := h', toks := tk }) :
    codeAny (model P w) A (.call (.ref fI) ⟨[.ref x, v], []⟩) R s := by
  obtain ⟨oc, od, doc, pm, an, cda, cc, ct, osl, vs, file, tf, ccl, cdd, ccs, cl, cld, csl, ho, hcd, hco, hvs, hfile, hcell⟩ := T.fn
  obtain ⟨nm, q, N, bs, sn, sub, ab, col, dd, k0, k1, k2, k3, k5, hC⟩ := T.cls
  refine ks_codeAny_call_defAt (fd := ksFn "__init__" "InvalidNumber.__init__" mainArgs mainBody mainScope .none .none doc pm an (.ref cda) ct cc) (body := mainBody) (binds := [("self", .ref x), ("value", v)]) hroom (X _ _ ho) rfl hlim (codeRec_of X hcd) rfl (BindsTo.of_eq rfl) (show ∀ x ∈ mainScope.names, x.2 ≠ .cell by decide +kernel) (locs rfl) (fun h₁ hns hk₁ => ?_)
  have F0 : Fr (hideAll s.heap [x]) s.heap.objs.size h₁ (fun y => [(("self" : Str), Value.ref x), ("value", v)].reverse.lookup y) := ⟨hns, fun b o e => hk₁ b o (of_hideAll _ e), Nat.le_of_eq (hideAll_size _ _)⟩
  have N0 : News (hideAll s.heap [x]) s.heap.objs.size h₁ [(x, excObj C t0 none .none)] := fun p hp => by
    rw [List.mem_singleton.mp hp]
    exact ⟨hk₁ _ _ hx, Nat.ne_of_lt (Heap.lt_size hx), hideAll_none _ (List.mem_singleton_self _)⟩
  have X₀ : K.In (hideAll s.heap [x]) := fun b o e => hideAll_get _ (X b o e) (fun z => by rw [List.mem_singleton.mp z, hnx] at e; cases e)
  have X₁ : K.In h₁ := X.keeps hk₁
  refine ks_wpAt_execs_cons (ks_wpAt_Expr_any (ks_wpAt_MethodCall ?_))
  refine ks_wpAt_super_base (env := ksEnv "InvalidNumber.__init__" mainScope s.heap.objs.size fI (.ref cda) cc) rfl rfl (by decide +kernel) rfl (X₁ _ _ ho) rfl rfl rfl (X₁ _ _ hco) rfl hvs hfile T.top ?_
  refine ks_loadName_global rfl rfl (loadGlobal_builtin (env := ksEnv "InvalidNumber.__init__" mainScope s.heap.objs.size fI (.ref cda) cc) (hg.keeps hk₁) T.noSuper (hb.keeps hk₁) ((hbb _ (by decide +kernel)).trans (by decide +kernel)) ⟨rfl, ?_⟩)
  refine wpAny_loadName_free rfl rfl rfl ⟨_, X₁ _ _ hcell, rfl⟩ ?_
  refine wpAny_loadName_local rfl rfl hns rfl ?_
  refine ks_wpAny_isType_cls (X₁ _ _ hC) rfl ⟨rfl, ?_⟩
  have I1 : InstAt h₁ x (HandSPX.excO C t0) C none := ⟨hk₁ _ _ hx, rfl, rfl, trivial⟩
  refine ks_wpAny_call_super (X₁ _ _ hC) rfl I1.at_ I1.cls (fun c e => nomatch e) (looks_mroIn X₁ T.mro) (fun h₂ e2 k2 => ?_)
  obtain ⟨F2, N2, l2⟩ := ks_newsPush (s := { s with heap := h₁ }) F0 N0 rfl e2 k2
  refine kxs_method kxs_IndexError F2 X₀ N2 (List.Mem.head _) (InstAt.of_exc0 (t := t0) (c2 := .none) N2 (List.Mem.tail _ (List.Mem.head _))) T.any T.sup T.sI (by decide +kernel) (fun q3 h₃ F3 N3 l3 => ?_)
  refine kxs_callWith1 (i := "IndexError.__init__") (x := x) N3 (List.Mem.head _) ?_
  refine Calls.spliced_cons (Calls.Constant_str (k := 0) (pos := ⟨0, 0, 0, 0⟩) ?_)
  refine Calls.spliced_nil ⟨kxs_at N3 (List.Mem.head _), ?_⟩
  have n1 : x ≠ h₁.objs.size := Nat.ne_of_lt (Heap.lt_size I1.at_)
  have n2 : x ≠ q3 := Nat.ne_of_lt (l3 _ (List.Mem.tail _ (List.Mem.head _)))
  refine kxs_call F3 X₀ N3 PySem.F.excBase_IndexError T.qi (List.Mem.head _) (.tail (Ne.symm n2) (.tail (Ne.symm n1) (.head (fun p hp => by cases hp)))) (by show 1 ≤ sizeLine; decide) (fun t4 h₄ F4 N4 l4 => ?_)
  refine ks_wpAt_execs_cons (ks_wpAt_Assign_Attr ?_)
  refine wpAt_of_wpAny (wpAny_Name (wpAny_loadName_local rfl rfl F4.ns rfl (wpAny_Name (wpAny_loadName_local rfl rfl F4.ns rfl ?_) (by decide))) (by decide))
  obtain ⟨es, n, ee⟩ : ∃ es n, (putL "value" (PyData.keyHash w.params "value") (.str "value" (s.toks + 2 + 1 + 1 + 1)) v [], putN "value" [] 0) = (es, n) := ⟨_, _, rfl⟩
  refine set_exc0 PySem.F.store_IndexError F4 X₀ N4 (List.Mem.tail _ (List.Mem.tail _ (List.Mem.tail _ (List.Mem.head _)))) T.sa T.ov T.tk T.hdC ee (.tail ?_ (.tail (Ne.symm n2) (.tail (Ne.symm n1) (.head (fun p hp => by cases hp))))) ?_ (fun dx h₅ F5 N5 l5 => ?_)
  · exact Nat.ne_of_gt (l4 _ (List.Mem.tail _ (List.Mem.tail _ (List.Mem.head _))))
  · rw [← (Prod.mk.inj ee).1]
    show 1 ≤ 1000
    decide
  · have a1 : t4 < dx := l5 _ (List.Mem.head _)
    have a2 : x < dx := l5 _ (List.Mem.tail _ (List.Mem.tail _ (List.Mem.tail _ (List.Mem.head _))))
    have a3 : h₁.objs.size < t4 := l4 _ (List.Mem.tail _ (List.Mem.head _))
    have a4 : s.heap.objs.size < h₁.objs.size := hns.lt
    refine wpAt_of_wpAny (wpAny_execs_nil (hq h₅ _ dx t4 ⟨fun b o hb e => F5.keep b o (hideAll_get _ e (fun z => hb (List.mem_singleton.mp z))), ?_, Nat.le_of_lt (Nat.lt_trans a4 (Nat.lt_trans a3 a1)), Nat.ne_of_gt a2, ns1_one ee (N5 _ (List.Mem.head _)).1⟩))
    exact (N5 _ (List.Mem.tail _ (List.Mem.tail _ (List.Mem.tail _ (List.Mem.tail _ (List.Mem.head _)))))).1
/-- a made error -/
structure OwnMade (h h' : Heap) (e C d : Addr) (v : Value) : Prop where
  keep : ∀ b o, h.get? b = some o → h'.get? b = some o
  new : h.objs.size ≤ e
  obj : ∃ oe vs, h'.get? e = some oe ∧ oe.cls = .ref C ∧ oe.dict = some d ∧ oe.data = .fields vs ∧ vs[1]? = some .none
  dbig : h.objs.size ≤ d
  dne : d ≠ e
  ns : h'.Ns1 d (fun y => if y = "value" then some v else none)
theorem bmI_contains : ∀ X : String, bmI.contains (.type X) = bmI.contains (.type X) := fun _ => rfl
theorem num_made (T : NumTxt P K mg C fI) {v : Value} (X : K.In s.heap) (hg : s.heap.Ns mainGlobals mg) {mb : Str → Option Value} (hb : s.heap.Ns builtinsNs mb) (hbb : ∀ x : Str, x ≠ "__name__" → mb x = bootBuiltins x) (hlim : s.heap.NoLimit) (hroom : A.depth + 1 < recursionLimit)
    (hq : ∀ h' tk e d, OwnMade s.heap h' e C d v → R (.ok (.ret (.ref e))) { s with heap := h', toks := tk }) : codeAny (model P w) A (.call (.ref C) ⟨[v], []⟩) R s := by
  obtain ⟨nm, q, N, bs, sn, sub, ab, col, dd, k0, k1, k2, k3, k5, hC⟩ := T.cls
  obtain ⟨hp, g, dr, tk, os⟩ := s
  have k : ∀ b o, hp.get? b = some o → ((hp.push (kdv_tup [v])).push (HandSPX.excO C hp.objs.size)).get? b = some o := fun b o e => Heap.get?_push_of_some _ (Heap.get?_push_of_some _ e)
  have hget : ((hp.push (kdv_tup [v])).push (HandSPX.excO C hp.objs.size)).get? (hp.objs.size + 1) = some (HandSPX.excO C hp.objs.size) := by heap_get
  have hnx : K.lookup (hp.objs.size + 1) = none := by
    cases e : K.lookup (hp.objs.size + 1) with
    | none => rfl
    | some o =>
      have z : hp.get? (hp.objs.size + 1) = some o := X _ _ e
      exact absurd (Nat.lt_of_succ_lt (Heap.lt_size z)) (Nat.lt_irrefl _)
  refine HandSPX.call_own PySem.F.excBase_IndexError bmI_contains (X _ _ hC) (looks_findIn X T.iC) (fun self => bind_fn X self T.tC) (by show 1 ≤ sizeLine; decide) ?_
  refine num_init (s := ⟨(hp.push (kdv_tup [v])).push (HandSPX.excO C hp.objs.size), g, dr, tk, os⟩) T (X.keeps k) (hg.keeps k) (hb.keeps k) hbb (hlim.keeps k) hget hnx ?_ fun h' tk' dx t1 M => ?_
  · show A.depth + 1 < recursionLimit
    exact hroom
  · obtain ⟨k', hx, dn, dne, hns⟩ := M
    have old : ∀ b o, hp.get? b = some o → h'.get? b = some o := fun b o e => k' b o (Nat.ne_of_lt (Nat.lt_succ_of_lt (Heap.lt_size e))) (k b o e)
    have z : hp.objs.size + 1 + 1 ≤ dx := by
      first
        | (simpa only [Heap.size_push] using dn)
        | exact dn
    exact ⟨rfl, hq h' tk' (hp.objs.size + 1) dx ⟨old, Nat.le_succ _, ⟨_, _, hx, rfl, rfl, rfl, rfl⟩, Nat.le_trans (Nat.le_trans (Nat.le_succ _) (Nat.le_succ _)) z, dne, hns⟩⟩
end
end VNum
namespace VNum
open PySem PySem.Spec PyProof.Rows L2
theorem relO_num {v : V} {v' : Value} (r : RelV v v') (f : Str) : RelO (List.lookup f [(("value" : Str), v)]) (if f = "value" then some v' else none) := by
  by_cases hw : f = "value"
  · subst hw
    rw [if_pos rfl]
    have q : List.lookup ("value" : Str) [(("value" : Str), v)] = some v := by simp [List.lookup]
    rw [q]
    exact r
  · rw [if_neg hw]
    have qw : (f == ("value" : Str)) = false := by simpa using hw
    have q2 : List.lookup f [(("value" : Str), v)] = none := by simp [List.lookup, qw]
    rw [q2]
    trivial
section
variable {X : Cx} {C fI : Addr}
/-- InvalidNumber(e) -/
def tMkNum (C : Addr) (ta : TA) : L2.St → Hp → XK → Prop := fun σ H Q => ta σ H fun vs H1 => ∃ v, vs = [v] ∧ ∀ d, H1 d = none → Q (.ref C) (some d) (upd H1 d (.xd [(("value" : Str), v)]))
theorem pmk_num {a : Expr} {ta : TA} {p pos : Pos} {k : Nat} (T : NumTxt X.prog X.K X.mg C fI) (hr : Room k X.A) (ha : PA X [a] ta) (hg : Gl X "InvalidNumber" := by rfl)
    (he : starEach (a :: []) X.env = (false, eval a X.env) :: starEach [] X.env := by rfl) (hpl : (backTo pos (starEach [] X.env)).any (·.1) = false := by rfl) :
    PMk X (.Call (.Name "InvalidNumber" p) [a] [] pos) (tMkNum C ta) := by
  intro pins s σ H Q I h
  refine wpAny_Call_Name_kw (ld_glob I hg T.gC ?_)
  refine PySem.W.callWith_K (h₀ := X.base) I.ok.mod.kin T.kC (thn (ha.run pos pins s σ H _ I h) fun us s1 hh => ?_) he hpl
  obtain ⟨vs, H1, I1, r1, v, ev, q1⟩ := hh
  subst ev
  refine ⟨I1.kIn, ?_⟩
  cases r1 with
  | cons rv rn =>
    rename_i v' us'
    cases rn
    show wpAny _ _ (call (.ref C) [v']) _ _ _
    have hlim := I1.nolimit
    have hG := I1.mod.glob.keeps I1.bk
    obtain ⟨mb, hB, hbb⟩ := I1.mod.blt
    have hB' := hB.keeps I1.bk
    obtain ⟨hp, g, dr, tk, os⟩ := s1
    refine wpAny_call (num_made T I1.kIn hG hB' hbb hlim (by have := hr.dp; omega) fun h' tk' e d M => ?_)
    show MkP X pins σ Q (.ref e) ⟨h', g, dr, tk', os⟩
    obtain ⟨oe, fv, hoe, hc, hd, hdat, h1⟩ := M.obj
    have hns := M.ns
    obtain ⟨G', g1, g2⟩ := restrict h' fun b => decide (b ≠ e)
    have gk : ∀ b, b ≠ e → G'.get? b = h'.get? b := fun b hb => g1 b (decide_eq_true hb)
    have ge : G'.get? e = none := g2 e (by simp)
    have old : ∀ b o, hp.get? b = some o → G'.get? b = some o := fun b o q => (gk b (Nat.ne_of_lt (Nat.lt_of_lt_of_le (Heap.lt_size q) M.new))).trans (M.keep b o q)
    have ob : ObjOk X.prog X.w (upd H1 d (.xd [(("value" : Str), v)])) G' d (.xd [(("value" : Str), v)]) :=
      ⟨_, hns.at (fun o q => (gk d M.dne).trans q), fun f => relO_num rv f⟩
    have J : Inv X pins σ (upd H1 d (.xd [(("value" : Str), v)])) ⟨G', g, dr, tk', os⟩ := I1.laid (t' := tk') old M.dbig ob
    refine ⟨e, oe, fv, ⟨G', g, dr, tk', os⟩, _, .ref C, some d, rfl, J, fun b o q => ?_, ge, hoe, ⟨hc, hd⟩, hdat, h1, ?_, rfl, I1.bare, raises_own T.exC T.tyC, q1 d (I1.hok.fresh M.dbig)⟩
    · by_cases hb : b = e
      · have q' : G'.get? b = some o := q
        rw [hb, ge] at q'; cases q'
      · exact (gk b hb).symm.trans q
    · rw [upd_ne (Ne.symm M.dne)]
      exact I1.hok.fresh M.new
end
end VNum


set_option Elab.async false
set_option maxRecDepth 100000
set_option maxHeartbeats 4000000
set_option exponentiation.threshold 3000
namespace Vf
open PySem L2 SX Vm
open PySem.Builtin.Str PySem.StrLaws
/-- a plain value, and its class -/
inductive Pl (H : Hp) : V → Value → Prop where
  | non : Pl H .non (.type "NoneType")
  | bl (b : Bool) : Pl H (.bl b) (.type "bool")
  | int (n : Int) : Pl H (.int n) (.type "int")
  | str (s : Str) (h : s.length ≤ 1000) : Pl H (.str s) (.type "str")
  | lst {p : Addr} {xs : List V} (h : H p = some (.lst xs)) : Pl H (.ref p) (.type "list")
  | tup {p : Addr} {xs : List V} (h : H p = some (.tup xs)) : Pl H (.ref p) (.type "tuple")
  | dct {p : Addr} {kvs : List (Key × V)} (h : H p = some (.dK kvs)) : Pl H (.ref p) (.type "dict")
theorem Pl.tyx {K : PySem.W.Frag} {H : Hp} {v : V} {t : Value} (p : Pl H v t) : TyX K H v t := by
  cases p with
  | non => exact .base .non
  | bl b => exact .base (.bl b)
  | int n => exact .base (.int n)
  | str s _ => exact .base (.str s)
  | lst h => exact .base (.lst h)
  | tup h => exact .base (.tup h)
  | dct h => exact .base (.dK h)
theorem Pl.same {H H' : Hp} {v : V} {t : Value} (p : Pl H v t) (s : ∀ b o, H b = some o → (∃ xs, o = .lst xs ∨ o = .tup xs) ∨ (∃ kvs, o = .dK kvs) → H' b = some o) : Pl H' v t := by
  cases p with
  | non => exact .non
  | bl b => exact .bl b
  | int n => exact .int n
  | str x h => exact .str x h
  | lst h => exact .lst (s _ _ h (.inl ⟨_, .inl rfl⟩))
  | tup h => exact .tup (s _ _ h (.inl ⟨_, .inr rfl⟩))
  | dct h => exact .dct (s _ _ h (.inr ⟨_, rfl⟩))
def isIntV : V → Bool
  | .int _ => true
  | _ => false
def withinV (lo hi : Int) : V → Bool
  | .int n => decide (lo ≤ n) && decide (n ≤ hi)
  | _ => false
/-- the digits of a base -/
def digs (b : Nat) : List Nat := [48, 49, 50, 51, 52].take b
def wordV (b : Nat) : V → Bool
  | .str s => s.cps.toList.all fun c => decide (48 ≤ c) && decide (c < 48 + b)
  | _ => false
theorem strip_empty (l ds : List Nat) : (Txt.stripChars (S l) (S ds) = ("" : Str)) ↔ ∀ c ∈ l, c ∈ ds := by
  rw [str_empty]
  unfold Txt.stripChars
  rw [PyProof.Rows.stripBy_eq]
  obtain ⟨a1, a2, a3⟩ := PyProof.Rows.lo_facts (S ds).cps.contains (S l)
  obtain ⟨b1, b2, b3, b4⟩ := PyProof.Rows.hi_facts (S ds).cps.contains (S l) _ a1
  generalize stripLo (S ds).cps.contains true (S l) = lo at *
  generalize stripHi (S ds).cps.contains true (S l) lo = hi at *
  have gd : ∀ k, k < l.length → (S l).cps.getD k 0 ∈ l := fun k hk => by
    have : (S l).cps.getD k 0 = l[k] := by simp [Array.getD, hk]
    rw [this]
    exact List.getElem_mem hk
  have gc : ∀ c, (S ds).cps.contains c = true ↔ c ∈ ds := fun c => by simp
  rw [S_len] at a1 a3 b2 b3
  constructor
  · intro e
    have sz : hi - lo = 0 := by
      have z := congrArg (fun s : Str => s.cps.size) e
      have z' : hi - lo = 0 ∨ l.length - lo = 0 := by simpa [strSub] using z
      omega
    intro c hc
    obtain ⟨k, hk, rfl⟩ := List.getElem_of_mem hc
    have gk : (S l).cps.getD k 0 = l[k] := by simp [Array.getD, hk]
    rw [← gc, ← gk]
    rcases Nat.lt_or_ge k lo with h | h
    · exact a2 k h
    · exact b3 k (by omega) hk
  · intro e
    have lo_l : lo = l.length := by
      rcases a3 with h | h
      · exact h
      · refine Classical.byContradiction fun hn => ?_
        have hlt : lo < l.length := by omega
        have z := (gc _).mpr (e _ (gd lo hlt))
        rw [z] at h
        cases h
    have : hi = l.length := by omega
    rw [this, lo_l]
    show Str.mk _ = Str.mk _
    simp
theorem digs_mem {b c : Nat} (h5 : b ≤ 5) : c ∈ digs b ↔ 48 ≤ c ∧ c < 48 + b := by
  unfold digs
  have : b = 0 ∨ b = 1 ∨ b = 2 ∨ b = 3 ∨ b = 4 ∨ b = 5 := by omega
  rcases this with e | e | e | e | e | e <;> subst e <;> simp <;> omega
theorem word_strip (s : Str) {b : Nat} (h5 : b ≤ 5) : decide (V.str (Txt.stripChars s (S (digs b))) = V.str ("" : Str)) = wordV b (.str s) := by
  have e : s = S s.cps.toList := (S_tl s).symm
  have key := strip_empty s.cps.toList (digs b)
  rw [← e] at key
  show _ = s.cps.toList.all fun c => decide (48 ≤ c) && decide (c < 48 + b)
  by_cases h : ∀ c ∈ s.cps.toList, c ∈ digs b
  · rw [key.mpr h, decide_eq_true rfl]
    symm
    rw [List.all_eq_true]
    intro c hc
    have := (digs_mem h5).mp (h c hc)
    simp [this.1, this.2]
  · rw [decide_eq_false (fun z => h (key.mp (V.str.inj z)))]
    symm
    rw [List.all_eq_false]
    obtain ⟨c, hc⟩ := Classical.not_forall.mp h
    obtain ⟨h1, h2⟩ := Classical.not_imp.mp hc
    refine ⟨c, h1, fun z => h2 ((digs_mem h5).mpr ?_)⟩
    simpa using z
/-- names that the module has not taken, and its constants -/
structure Nm (mg : Str → Option Value) : Prop where
  isinst : mg "isinstance" = none
  int : mg "int" = none
  bool : mg "bool" = none
  str : mg "str" = none
  tuple : mg "tuple" = none
  len : mg "len" = none
  minB : ∃ t, mg "MIN_BASE" = some (.int 2 t)
  maxB : ∃ t, mg "MAX_BASE" = some (.int 5 t)
  maxR : ∃ t, mg "MAX_ROOTS" = some (.int 5000 t)
  dig : ∃ t, mg "DIGITS" = some (.str "01234" t)
def spIsInt : Sp := fun vs H Q _ => ∃ (v : V) (t : Value), vs = [v] ∧ Pl H v t ∧ Q (.bl (isIntV v)) H
def spWithin : Sp := fun vs H Q _ => ∃ (lo hi : Int) (v : V) (t : Value), vs = [.int lo, .int hi, v] ∧ Pl H v t ∧ Q (.bl (withinV lo hi v)) H
def spReqNum (C : Addr) : Sp := fun vs H Q E => ∃ (lo hi : Int) (v : V) (t : Value), vs = [.int lo, .int hi, v] ∧ Pl H v t ∧ (withinV lo hi v = true → Q .non H) ∧ (withinV lo hi v = false → ∀ d, H d = none → E (.ref C) (some d) (upd H d (.xd [(("value" : Str), v)])))
def spReqB (C : Addr) (lo hi : Int) : Sp := fun vs H Q E => ∃ (v : V) (t : Value), vs = [v] ∧ Pl H v t ∧ (withinV lo hi v = true → Q .non H) ∧ (withinV lo hi v = false → ∀ d, H d = none → E (.ref C) (some d) (upd H d (.xd [(("value" : Str), v)])))
def spWordForm : Sp := fun vs H Q _ => ∃ (b : Nat) (v : V) (t : Value), vs = [.int (b : Int), v] ∧ 2 ≤ b ∧ b ≤ 5 ∧ Pl H v t ∧ Q (.bl (wordV b v)) H
section
variable {P : Program} {w : World} {K : PySem.W.Frag} {mg : Str → Option Value} {base : Heap}
theorem scIsInt : FnScope ["value"] ["value"] (defScope sIsInt) := ⟨rfl, rfl, rfl, by decide +kernel, rfl, by decide +kernel, by decide +kernel⟩
theorem kit_int {H : Hp} {v : V} {t : Value} (p : Pl H v t) : ∃ b1 b2, PySem.W.kitOne K t (.type "int") = some b1 ∧ PySem.W.kitOne K t (.type "bool") = some b2 ∧ (b1 && !b2) = isIntV v := by
  cases p with
  | non => exact ⟨false, false, kit_ty (by decide +kernel), kit_ty (by decide +kernel), rfl⟩
  | bl b => exact ⟨true, true, kit_ty (by decide +kernel), kit_ty (by decide +kernel), rfl⟩
  | int n => exact ⟨true, false, kit_ty (by decide +kernel), kit_ty (by decide +kernel), rfl⟩
  | str s => exact ⟨false, false, kit_ty (by decide +kernel), kit_ty (by decide +kernel), rfl⟩
  | lst h => exact ⟨false, false, kit_ty (by decide +kernel), kit_ty (by decide +kernel), rfl⟩
  | tup h => exact ⟨false, false, kit_ty (by decide +kernel), kit_ty (by decide +kernel), rfl⟩
  | dct h => exact ⟨false, false, kit_ty (by decide +kernel), kit_ty (by decide +kernel), rfl⟩
theorem ok_isint {f : Addr} {fd : FuncData} (F : Fun K "is_integer" "is_integer" sIsInt f fd) (N : Nm mg) : FnOk P w K mg base CX0 1 f fd ["value"] spIsInt := by
  refine F.ok scIsInt (fun vs H Q E h => ?_) (fun cdv A outer s H vs Q E hr h => ?_)
  · obtain ⟨v, t, rfl, _⟩ := h
    rfl
  · obtain ⟨v, t, rfl, pl, k⟩ := h
    refine ⟨_, pss_one (ps_ret (pe_and (pe_callB call_isi (by rfl) N.isinst PyProof.Rows.boot_isinstance (pa_cons (pv 0) (pa_cons (pe_bltn (v := .ty "int") (by rfl) N.int PyProof.Rows.boot_int rfl) pa_nil)))
      (pe_one (pe_not (pe_callB call_isi (by rfl) N.isinst PyProof.Rows.boot_isinstance (pa_cons (pv 0) (pa_cons (pe_bltn (v := .ty "bool") (by rfl) N.bool PyProof.Rows.boot_bool rfl) pa_nil))))))), ?_⟩
    obtain ⟨b1, b2, e1, e2, e3⟩ := kit_int (K := K) pl
    refine ⟨_, rfl, _, _, _, _, b1, rfl, .ty "int", pl.tyx, e1, _, rfl, ?_⟩
    cases b1 with
    | false =>
      refine iteF ?_
      rw [← e3] at k
      exact k
    | true =>
      refine iteT ?_
      refine ⟨_, rfl, _, _, _, _, b2, rfl, .ty "bool", pl.tyx, e2, _, rfl, ?_⟩
      rw [← e3] at k
      exact k
theorem scWithin : FnScope ["low", "high", "value"] ["low", "high", "value"] (defScope sWithin) := ⟨rfl, rfl, rfl, by decide +kernel, rfl, by decide +kernel, by decide +kernel⟩
theorem ok_within {f fI : Addr} {fd fdI : FuncData} (F : Fun K "is_integer_within" "is_integer_within" sWithin f fd) (GI : FnOk P w K mg base CX0 1 fI fdI ["value"] spIsInt) (cI : Cal K mg "is_integer" fI fdI ["value"]) : FnOk P w K mg base CX0 2 f fd ["low", "high", "value"] spWithin := by
  refine F.ok scWithin (fun vs H Q E h => ?_) (fun cdv A outer s H vs Q E hr h => ?_)
  · obtain ⟨lo, hi, v, t, rfl, _⟩ := h
    rfl
  · obtain ⟨lo, hi, v, t, rfl, pl, k⟩ := h
    refine ⟨_, pss_one (ps_ret (pe_and (pe_call GI hr rfl cI.mg cI.kp cI.b .nil pass0 (pa_cons (pv 2) pa_nil)) (pe_one (pe_chain op_le op_le (pv 0) (pv 2) (pv 1))))), ?_⟩
    refine ⟨_, rfl, v, t, rfl, pl, _, rfl, ?_⟩
    cases v with
    | int n =>
      refine iteT ?_
      refine ⟨_, rfl, _, rfl, _, _, rfl, rfl, _, rfl, ?_⟩
      by_cases h1 : lo ≤ n
      · refine iteTB (decide_eq_true h1) ?_
        refine ⟨_, rfl, _, _, rfl, rfl, ?_⟩
        have e : withinV lo hi (.int n) = decide (n ≤ hi) := by
          show (decide (lo ≤ n) && decide (n ≤ hi)) = _
          rw [decide_eq_true h1, Bool.true_and]
        rw [e] at k
        exact k
      · refine iteFB (decide_eq_false h1) ?_
        have e : withinV lo hi (.int n) = false := by
          show (decide (lo ≤ n) && decide (n ≤ hi)) = _
          rw [decide_eq_false h1, Bool.false_and]
        rw [e] at k
        exact k
    | _ => exact iteF k
theorem scReqNum : FnScope ["low", "high", "number"] ["low", "high", "number"] (defScope sReqNum) := ⟨rfl, rfl, rfl, by decide +kernel, rfl, by decide +kernel, by decide +kernel⟩
theorem ok_reqnum {f fI C fC : Addr} {fd fdI : FuncData} (F : Fun K "require_number" "require_number" sReqNum f fd) (GI : FnOk P w K mg base CX0 2 fI fdI ["low", "high", "value"] spWithin) (cI : Cal K mg "is_integer_within" fI fdI ["low", "high", "value"])
    (T : VNum.NumTxt P K mg C fC) : FnOk P w K mg base (L2.CX P w) 3 f fd ["low", "high", "number"] (spReqNum C) := by
  refine F.okX scReqNum (fun vs H Q E h => ?_) (fun cdv A outer s H vs Q E hr h => ?_)
  · obtain ⟨lo, hi, v, t, rfl, _⟩ := h
    rfl
  · obtain ⟨lo, hi, v, t, rfl, pl, k1, k2⟩ := h
    refine ⟨_, pss_one (ps_if (pt_not (pt_val (pe_call GI hr rfl cI.mg cI.kp cI.b .nil pass0 (pa_cons (pv 0) (pa_cons (pv 1) (pa_cons (pv 2) pa_nil))))))
      (pss_one (ps_raise rfl (takes_of rfl rfl rfl rfl) (VNum.pmk_num T hr (pa_cons (pv 2) pa_nil)))) pss_nil), ?_⟩
    refine ⟨_, rfl, _, rfl, _, rfl, lo, hi, v, t, rfl, pl, _, rfl, ?_⟩
    cases e : withinV lo hi v with
    | true => exact iteF (k1 e)
    | false =>
      refine iteT ?_
      exact ⟨_, rfl, v, rfl, fun d hd => k2 e d hd⟩
theorem scReqBase : FnScope ["base"] ["base"] (defScope sReqBase) := ⟨rfl, rfl, rfl, by decide +kernel, rfl, by decide +kernel, by decide +kernel⟩
theorem ok_reqbase {f fN C : Addr} {fd fdN : FuncData} (F : Fun K "require_base" "require_base" sReqBase f fd) (GN : FnOk P w K mg base (L2.CX P w) 3 fN fdN ["low", "high", "number"] (spReqNum C)) (cN : Cal K mg "require_number" fN fdN ["low", "high", "number"]) (N : Nm mg) :
    FnOk P w K mg base (L2.CX P w) 4 f fd ["base"] (spReqB C 2 5) := by
  refine F.okX scReqBase (fun vs H Q E h => ?_) (fun cdv A outer s H vs Q E hr h => ?_)
  · obtain ⟨v, t, rfl, _⟩ := h
    rfl
  · obtain ⟨v, t, rfl, pl, k1, k2⟩ := h
    obtain ⟨t1, m1⟩ := N.minB
    obtain ⟨t2, m2⟩ := N.maxB
    refine ⟨_, pss_one (ps_expr (pe_call GN hr rfl cN.mg cN.kp cN.b .nil (passes_call (takes_of rfl rfl rfl rfl) (fun _ _ _ _ h => h)) (pa_cons (pe_glob (v := .int 2) rfl m1 ⟨_, rfl⟩) (pa_cons (pe_glob (v := .int 5) rfl m2 ⟨_, rfl⟩) (pa_cons (pv 0) pa_nil))))), ?_⟩
    exact ⟨_, rfl, 2, 5, v, t, rfl, pl, k1, k2⟩
theorem scReqRoots : FnScope ["roots"] ["roots"] (defScope sReqRoots) := ⟨rfl, rfl, rfl, by decide +kernel, rfl, by decide +kernel, by decide +kernel⟩
theorem ok_reqroots {f fN C : Addr} {fd fdN : FuncData} (F : Fun K "require_roots" "require_roots" sReqRoots f fd) (GN : FnOk P w K mg base (L2.CX P w) 3 fN fdN ["low", "high", "number"] (spReqNum C)) (cN : Cal K mg "require_number" fN fdN ["low", "high", "number"]) (N : Nm mg) :
    FnOk P w K mg base (L2.CX P w) 4 f fd ["roots"] (spReqB C 1 5000) := by
  refine F.okX scReqRoots (fun vs H Q E h => ?_) (fun cdv A outer s H vs Q E hr h => ?_)
  · obtain ⟨v, t, rfl, _⟩ := h
    rfl
  · obtain ⟨v, t, rfl, pl, k1, k2⟩ := h
    obtain ⟨t2, m2⟩ := N.maxR
    refine ⟨_, pss_one (ps_expr (pe_call GN hr rfl cN.mg cN.kp cN.b .nil (passes_call (takes_of rfl rfl rfl rfl) (fun _ _ _ _ h => h)) (pa_cons pe_int (pa_cons (pe_glob (v := .int 5000) rfl m2 ⟨_, rfl⟩) (pa_cons (pv 0) pa_nil))))), ?_⟩
    exact ⟨_, rfl, 1, 5000, v, t, rfl, pl, k1, k2⟩
theorem scWordForm : FnScope ["base", "value"] ["base", "value"] (defScope sWordForm) := ⟨rfl, rfl, rfl, by decide +kernel, rfl, by decide +kernel, by decide +kernel⟩
theorem kit_str {H : Hp} {v : V} {t : Value} (p : Pl H v t) : (∃ s, v = .str s ∧ s.length ≤ 1000 ∧ PySem.W.kitOne K t (.type "str") = some true) ∨ (PySem.W.kitOne K t (.type "str") = some false ∧ ∀ b, wordV b v = false) := by
  cases p with
  | str s h => exact .inl ⟨s, rfl, h, kit_ty (by decide +kernel)⟩
  | _ => exact .inr ⟨kit_ty (by decide +kernel), fun _ => rfl⟩
theorem ok_wordform {f : Addr} {fd : FuncData} (F : Fun K "has_word_form" "has_word_form" sWordForm f fd) (N : Nm mg) : FnOk P w K mg base CX0 1 f fd ["base", "value"] spWordForm := by
  refine F.ok scWordForm (fun vs H Q E h => ?_) (fun cdv A outer s H vs Q E hr h => ?_)
  · obtain ⟨b, v, t, rfl, _⟩ := h
    rfl
  · obtain ⟨b, v, t, rfl, b2, b5, pl, k⟩ := h
    obtain ⟨td, md⟩ := N.dig
    refine ⟨_, pss_one (ps_ret (pe_and (pe_callB call_isi (by rfl) N.isinst PyProof.Rows.boot_isinstance (pa_cons (pv 1) (pa_cons (pe_bltn (v := .ty "str") (by rfl) N.str PyProof.Rows.boot_str rfl) pa_nil)))
      (pe_one (pe_cmpR op_eq (pe_bm PySem.F.plainAttrs_str PySem.F.slot_str_strip PySem.F.type_str_strip mt_stripChars (pv 1) (pa_cons (pe_slice sl_str (pe_glob (v := .str "01234") rfl md ⟨_, rfl⟩) po_none (po_some (pv 0))) pa_nil)) pe_str (nomark _))))), ?_⟩
    have ed : cutS ("01234" : Str) none (some (b : Int)) = S (digs b) := by
      rw [s01234, cut_take (by simpa using b5)]
      rfl
    rcases kit_str (K := K) pl with ⟨s1, rfl, hs, e⟩ | ⟨e, hw⟩
    · refine ⟨_, rfl, _, _, _, _, true, rfl, .ty "str", pl.tyx, e, _, rfl, ?_⟩
      refine iteT ?_
      refine ⟨_, rfl, rfl, _, rfl, _, rfl, _, rfl, len5, _, _, rfl, rfl, Nat.le_trans hs (by decide), rfl, ?_⟩
      rw [ed, word_strip s1 b5]
      exact k
    · refine ⟨_, rfl, _, _, _, _, false, rfl, .ty "str", pl.tyx, e, _, rfl, ?_⟩
      rw [hw] at k
      exact iteF k
end
end Vf


set_option Elab.async false
set_option maxRecDepth 100000
set_option maxHeartbeats 4000000
set_option exponentiation.threshold 3000
namespace Vf
open PySem L2 SX Vm
open PySem.Builtin.Str PySem.StrLaws
theorem nf_least {f : Nat → Nat} {h q : List Nat} {s : Nat} (n : Nf f h q) (l : Least q s) : s = q.length := by
  rcases Nat.lt_or_ge s q.length with hlt | hge
  · refine absurd (fun i hi => ?_) (n.prim s h.length l.pos hlt)
    rw [← n.is, ← n.is, ev_ge (by omega), ev_ge hi, show i + s - h.length = i - h.length + s by omega]
    exact l.per _
  · exact Nat.le_antisymm (l.le n.ne) hge
theorem nf_ends {f : Nat → Nat} {h q : List Nat} (n : Nf f h q) : Txt.endswith (S h) ⟨#[q.getD (q.length - 1) 0]⟩ = false := by
  have hq := n.ne
  unfold Txt.endswith
  rw [Bool.and_eq_false_iff]
  by_cases h0 : h.length = 0
  · left
    have e : h = [] := List.length_eq_zero_iff.mp h0
    subst e
    rfl
  · right
    refine Bool.eq_false_iff.mpr fun z => ?_
    have key := (subAt_one (S h) (q.getD (q.length - 1) 0) (h.length - 1)).mp ⟨by rw [S_len]; show h.length - 1 + 1 ≤ h.length; omega, by rw [S_len] at z; exact z⟩
    refine n.trim (by omega) ?_
    rw [← n.is, ← n.is, ev_lt (show h.length - 1 < h.length by omega), ev_ge (show h.length ≤ h.length - 1 + q.length by omega), show h.length - 1 + q.length - h.length = q.length - 1 by omega, g_lt (show q.length - 1 < q.length by omega)]
    have key' : h[h.length - 1]? = some (q.getD (q.length - 1) 0) := key
    rw [show h.getD (h.length - 1) 0 = h[h.length - 1]?.getD 0 from List.getD_eq_getElem?_getD, key']
    rfl
theorem wordV_of {b : Nat} {l : List Nat} (w : IsW (b : Int) l) : wordV b (.str (S l)) = true := by
  show l.all _ = true
  rw [List.all_eq_true]
  intro c hc
  obtain ⟨h1, h2⟩ := w c hc
  have h2' : c < 48 + b := by omega
  simp [h1, h2']
theorem of_wordV {b : Nat} {s : Str} (w : wordV b (.str s) = true) : IsW (b : Int) s.cps.toList := fun c hc => by
  have z := (List.all_eq_true.mp (show s.cps.toList.all _ = true from w)) c hc
  simp at z
  omega
noncomputable instance decLeast (y : List Nat) (s : Nat) : Decidable (Least y s) := Classical.propDecidable _
/-- whether words are those of a normal form -/
noncomputable def sfB (x y : List Nat) : Bool := decide (Least y y.length) && !(Txt.endswith (S x) ⟨#[y.getD (y.length - 1) 0]⟩)
theorem sfB_nf {f : Nat → Nat} {x y : List Nat} (n : Nf f x y) : sfB x y = true := by
  unfold sfB
  obtain ⟨s, e, l⟩ := find_least n.ne
  have := nf_least n l
  subst this
  rw [decide_eq_true l, nf_ends n]
  rfl
/-- what has_stream_form says -/
inductive SF (H : Hp) (b : Nat) (R : Int) : V → Bool → Prop where
  | non {v : V} {t : Value} (p : Pl H v t) (n : ∀ q xs, v = .ref q → H q ≠ some (.tup xs)) : SF H b R v false
  | len {p : Addr} {xs : List V} (h : H p = some (.tup xs)) (n : xs.length ≠ 3) : SF H b R (.ref p) false
  | root {p : Addr} {r x y : V} {tr : Value} (h : H p = some (.tup [r, x, y])) (pr : ∀ H0 : Hp, Pl H0 r tr) (n : withinV 0 (R - 1) r = false) : SF H b R (.ref p) false
  | head {p : Addr} {r x y : V} {tr tx : Value} (h : H p = some (.tup [r, x, y])) (pr : ∀ H0 : Hp, Pl H0 r tr) (w : withinV 0 (R - 1) r = true) (px : ∀ H0 : Hp, Pl H0 x tx) (n : wordV b x = false) : SF H b R (.ref p) false
  | per {p : Addr} {r x y : V} {tr tx ty : Value} (h : H p = some (.tup [r, x, y])) (pr : ∀ H0 : Hp, Pl H0 r tr) (w : withinV 0 (R - 1) r = true) (px : ∀ H0 : Hp, Pl H0 x tx) (wx : wordV b x = true) (py : ∀ H0 : Hp, Pl H0 y ty) (n : wordV b y = false ∨ y = .str "") : SF H b R (.ref p) false
  | fin {p : Addr} {r : V} {x y : List Nat} {tr : Value} (h : H p = some (.tup [r, .str (S x), .str (S y)])) (pr : ∀ H0 : Hp, Pl H0 r tr) (w : withinV 0 (R - 1) r = true) (wx : IsW b x) (wy : IsW b y) (y0 : 0 < y.length) (lx : x.length ≤ 1000) (ly : y.length ≤ 1000) : SF H b R (.ref p) (sfB x y)
theorem pl_keep0 {H H' : Hp} {v : V} {t : Value} (h : Pl H v t) (k : ∀ q o, v = .ref q → (∀ ps, o ≠ .tbl ps) → H q = some o → H' q = some o) : Pl H' v t := by
  cases h with
  | non => exact .non
  | bl b => exact .bl b
  | int n => exact .int n
  | str x h => exact .str x h
  | lst e => exact .lst (k _ _ rfl (fun _ z => nomatch z) e)
  | tup e => exact .tup (k _ _ rfl (fun _ z => nomatch z) e)
  | dct e => exact .dct (k _ _ rfl (fun _ z => nomatch z) e)
theorem nt_keep {H H' : Hp} {v : V} {t : Value} (p : Pl H v t) (n : ∀ q xs, v = .ref q → H q ≠ some (.tup xs)) (k : ∀ q o, v = .ref q → (∀ ps, o ≠ .tbl ps) → H q = some o → H' q = some o) : ∀ q xs, v = .ref q → H' q ≠ some (.tup xs) := by
  intro q xs e
  cases p with
  | lst h =>
    cases e
    rw [k _ (.lst _) rfl (fun _ z => nomatch z) h]
    intro z
    cases z
  | tup h =>
    cases e
    exact absurd h (n _ _ rfl)
  | dct h =>
    cases e
    rw [k _ (.dK _) rfl (fun _ z => nomatch z) h]
    intro z
    cases z
  | _ => cases e
theorem SF.keep {H H' : Hp} {b : Nat} {R : Int} {v : V} {res : Bool} (s : SF H b R v res) (k : ∀ q o, v = .ref q → (∀ ps, o ≠ .tbl ps) → H q = some o → H' q = some o) : SF H' b R v res := by
  cases s with
  | non p n => exact .non (pl_keep0 p k) (nt_keep p n k)
  | len h n => exact .len (k _ _ rfl (fun _ z => nomatch z) h) n
  | root h pr n => exact .root (k _ _ rfl (fun _ z => nomatch z) h) pr n
  | head h pr w px n => exact .head (k _ _ rfl (fun _ z => nomatch z) h) pr w px n
  | per h pr w px wx py n => exact .per (k _ _ rfl (fun _ z => nomatch z) h) pr w px wx py n
  | fin h pr w wx wy y0 lx ly => exact .fin (k _ _ rfl (fun _ z => nomatch z) h) pr w wx wy y0 lx ly
def spStreamForm : Sp := fun vs H Q _ => ∃ (b : Nat) (R : Int) (v : V) (res : Bool), vs = [.int (b : Int), .int R, v] ∧ 2 ≤ b ∧ b ≤ 5 ∧ SF H b R v res ∧ Q (.bl res) H
def spIsStream : Sp := fun vs H Q _ => ∃ (b : Nat) (R r : Int) (p : Addr) (h q : List Nat) (f : Nat → Nat), vs = [.int (b : Int), .int R, .ref p] ∧ 2 ≤ b ∧ b ≤ 5 ∧ 1 ≤ R ∧ R ≤ 5000 ∧ 0 ≤ r ∧ r ≤ R - 1 ∧ H p = some (.tup [.int r, .str (S h), .str (S q)]) ∧ Nf f h q ∧ h.length ≤ 1000 ∧ q.length ≤ 1000 ∧ IsW b h ∧ IsW b q ∧ Q (.bl true) H
theorem SF.right {H : Hp} {b : Nat} {R r : Int} {p : Addr} {h q : List Nat} {f : Nat → Nat} (hp : H p = some (.tup [.int r, .str (S h), .str (S q)])) (r0 : 0 ≤ r) (r1 : r ≤ R - 1) (nf : Nf f h q) (hl : h.length ≤ 1000) (ql : q.length ≤ 1000) (wh : IsW b h) (wq : IsW b q) : SF H b R (.ref p) true := by
  have w1 : withinV 0 (R - 1) (.int r) = true := by
    show (decide (0 ≤ r) && decide (r ≤ R - 1)) = true
    rw [decide_eq_true r0, decide_eq_true r1]
    rfl
  rw [← sfB_nf nf]
  exact .fin hp (fun _ => .int r) w1 wh wq nf.ne hl ql
theorem kit_tup {K : PySem.W.Frag} {H : Hp} {v : V} {t : Value} (p : Pl H v t) (n : ∀ q xs, v = .ref q → H q ≠ some (.tup xs)) : PySem.W.kitOne K t (.type "tuple") = some false := by
  cases p with
  | tup h => exact absurd h (n _ _ rfl)
  | _ => exact kit_ty (by decide +kernel)
section
variable {P : Program} {w : World} {K : PySem.W.Frag} {mg : Str → Option Value} {base : Heap}
theorem scStreamForm : FnScope ["base", "roots", "value", "_", "head", "period"] ["base", "roots", "value"] (defScope sStreamForm) := ⟨rfl, rfl, rfl, by decide +kernel, rfl, by decide +kernel, by decide +kernel⟩
theorem ok_streamform {f fI fW fS : Addr} {fd fdI fdW fdS : FuncData} (F : Fun K "has_stream_form" "has_stream_form" sStreamForm f fd) (GI : FnOk P w K mg base CX0 2 fI fdI ["low", "high", "value"] spWithin) (cI : Cal K mg "is_integer_within" fI fdI ["low", "high", "value"])
    (GW : FnOk P w K mg base CX0 1 fW fdW ["base", "value"] spWordForm) (cW : Cal K mg "has_word_form" fW fdW ["base", "value"]) (GS : FnOk P w K mg base CX0 1 fS fdS ["period"] spShort) (cS : Cal K mg "shortest_period" fS fdS ["period"]) (N : Nm mg) :
    FnOk P w K mg base CX0 3 f fd ["base", "roots", "value"] spStreamForm := by
  refine F.ok scStreamForm (fun vs H Q E h => ?_) (fun cdv A outer s H vs Q E hr h => ?_)
  · obtain ⟨b, R, v, res, rfl, _⟩ := h
    rfl
  · obtain ⟨b, R, v, res, rfl, b2, b5, sf, k⟩ := h
    have nd := scStreamForm.nd
    have hr1 := hr.mono (show 1 ≤ 2 by decide)
    refine ⟨_, pss_cons (ps_if (PW.pt (pw_or (pt_not (pt_val (pe_callB call_isi (by rfl) N.isinst PyProof.Rows.boot_isinstance (pa_cons (pv 2) (pa_cons (pe_bltn (v := .ty "tuple") (by rfl) N.tuple PyProof.Rows.boot_tuple rfl) pa_nil)))))
        (pw_or (pt_cmpR op_ne (pe_callB call_len_seq (by rfl) N.len boot_len (pa_cons (pv 2) pa_nil)) pe_int (nomark _))
        (pw_or1 (pt_not (pt_val (pe_call GI hr rfl cI.mg cI.kp cI.b .nil pass0 (pa_cons pe_int (pa_cons (pe_op op_sub (pv 1) pe_int) (pa_cons (pe_ix ix_tup (pv 2) pe_int (fun _ _ => rfl)) pa_nil))))))))))
        (pss_one (ps_ret pe_bl)) pss_nil)
      (pss_cons (ps_asg (pv 2) (pg_tup rfl (pgs_cons (pg_name (i := 3) nd rfl (.inl rfl)) (pgs_cons (pg_name (i := 4) nd rfl (.inl rfl)) (pgs_cons (pg_name (i := 5) nd rfl (.inl rfl)) pgs_nil)))))
      (pss_cons (ps_if (PW.pt (pw_or (pt_not (pt_val (pe_call GW hr1 rfl cW.mg cW.kp cW.b .nil pass0 (pa_cons (pv 0) (pa_cons (pv 4) pa_nil)))))
        (pw_or (pt_not (pt_val (pe_call GW hr1 rfl cW.mg cW.kp cW.b .nil pass0 (pa_cons (pv 0) (pa_cons (pv 5) pa_nil)))))
        (pw_or1 (pt_cmpR op_eq (pv 5) pe_str (nomark _)))))) (pss_one (ps_ret pe_bl)) pss_nil)
      (pss_one (ps_ret (pe_and (pe_cmpR op_eq (pe_call GS hr1 rfl cS.mg cS.kp cS.b .nil pass0 (pa_cons (pv 5) pa_nil)) (pv 5) (nomark _))
        (pe_one (pe_not (pe_bm PySem.F.plainAttrs_str PySem.F.slot_str_endswith PySem.F.type_str_endswith mt_endswith (pv 4) (pa_cons (pe_ix ix_str (pv 5) (pe_un un_neg pe_int) (fun _ _ => rfl)) pa_nil))))))))), ?_⟩
    have at0 : ∀ r x y : V, atI [r, x, y] 0 = some r := fun _ _ _ => rfl
    cases sf with
    | non p n =>
      refine ⟨_, rfl, _, _, _, _, false, rfl, .ty "tuple", p.tyx, kit_tup p n, _, rfl, ?_⟩
      refine iteT ?_
      exact iteT k
    | @len p xs hp n =>
      refine ⟨_, rfl, _, _, _, _, true, rfl, .ty "tuple", (Pl.tup hp).tyx, kit_ty (by decide +kernel), _, rfl, ?_⟩
      refine iteF ?_
      refine ⟨_, rfl, _, _, rfl, .inr (SqT.of hp), rfl, _, rfl, ?_⟩
      have hb : (!decide (V.int ((xs.length : Nat) : Int) = V.int 3)) = true := by
        rw [decide_eq_false (fun z => n (by have := V.int.inj z; omega))]
        rfl
      exact iteTB hb (iteT k)
    | @root p r x y tr hp pr n =>
      refine ⟨_, rfl, _, _, _, _, true, rfl, .ty "tuple", (Pl.tup hp).tyx, kit_ty (by decide +kernel), _, rfl, ?_⟩
      refine iteF ?_
      refine ⟨_, rfl, p, _, rfl, .inr (SqT.of hp), rfl, _, rfl, ?_⟩
      refine iteFB rfl ?_
      refine ⟨_, rfl, _, _, rfl, rfl, _, rfl, p, _, _, _, rfl, rfl, SqT.of hp, at0 _ _ _, 0, R - 1, _, _, rfl, pr _, _, rfl, ?_⟩
      rw [n]
      exact iteT k
    | @head p r x y tr tx hp pr wr px n =>
      refine ⟨_, rfl, _, _, _, _, true, rfl, .ty "tuple", (Pl.tup hp).tyx, kit_ty (by decide +kernel), _, rfl, ?_⟩
      refine iteF ?_
      refine ⟨_, rfl, p, _, rfl, .inr (SqT.of hp), rfl, _, rfl, ?_⟩
      refine iteFB rfl ?_
      refine ⟨_, rfl, _, _, rfl, rfl, _, rfl, p, _, _, _, rfl, rfl, SqT.of hp, at0 _ _ _, 0, R - 1, _, _, rfl, pr _, _, rfl, ?_⟩
      rw [wr]
      refine iteF ?_
      refine ⟨_, rfl, p, _, rfl, SqT.of hp, rfl, _, _, rfl, _, _, rfl, _, _, rfl, rfl, ?_⟩
      refine ⟨_, rfl, _, rfl, b, _, _, rfl, b2, b5, px _, _, rfl, ?_⟩
      rw [n]
      refine iteT ?_
      exact iteT k
    | @per p r x y tr tx ty hp pr wr px wx py n =>
      refine ⟨_, rfl, _, _, _, _, true, rfl, .ty "tuple", (Pl.tup hp).tyx, kit_ty (by decide +kernel), _, rfl, ?_⟩
      refine iteF ?_
      refine ⟨_, rfl, p, _, rfl, .inr (SqT.of hp), rfl, _, rfl, ?_⟩
      refine iteFB rfl ?_
      refine ⟨_, rfl, _, _, rfl, rfl, _, rfl, p, _, _, _, rfl, rfl, SqT.of hp, at0 _ _ _, 0, R - 1, _, _, rfl, pr _, _, rfl, ?_⟩
      rw [wr]
      refine iteF ?_
      refine ⟨_, rfl, p, _, rfl, SqT.of hp, rfl, _, _, rfl, _, _, rfl, _, _, rfl, rfl, ?_⟩
      refine ⟨_, rfl, _, rfl, b, _, _, rfl, b2, b5, px _, _, rfl, ?_⟩
      rw [wx]
      refine iteF ?_
      refine ⟨_, rfl, _, rfl, b, _, _, rfl, b2, b5, py _, _, rfl, ?_⟩
      cases hw : wordV b y with
      | false =>
        refine iteT ?_
        exact iteT k
      | true =>
        rcases n with n | n
        · rw [n] at hw
          cases hw
        · subst n
          refine iteF ?_
          refine ⟨_, rfl, rfl, _, rfl, ?_⟩
          exact iteTB (decide_eq_true rfl) k
    | @fin p r x y tr hp pr wr wx wy y0 lx ly =>
      refine ⟨_, rfl, _, _, _, _, true, rfl, .ty "tuple", (Pl.tup hp).tyx, kit_ty (by decide +kernel), _, rfl, ?_⟩
      refine iteF ?_
      refine ⟨_, rfl, p, _, rfl, .inr (SqT.of hp), rfl, _, rfl, ?_⟩
      refine iteFB rfl ?_
      refine ⟨_, rfl, _, _, rfl, rfl, _, rfl, p, _, _, _, rfl, rfl, SqT.of hp, at0 _ _ _, 0, R - 1, _, _, rfl, pr _, _, rfl, ?_⟩
      rw [wr]
      refine iteF ?_
      refine ⟨_, rfl, p, _, rfl, SqT.of hp, rfl, _, _, rfl, _, _, rfl, _, _, rfl, rfl, ?_⟩
      have ph : Pl H (.str (S x)) (.type "str") := .str _ (by rw [S_len]; exact lx)
      have pq : Pl H (.str (S y)) (.type "str") := .str _ (by rw [S_len]; exact ly)
      refine ⟨_, rfl, _, rfl, b, _, _, rfl, b2, b5, ph, _, rfl, ?_⟩
      rw [wordV_of wx]
      refine iteF ?_
      refine ⟨_, rfl, _, rfl, b, _, _, rfl, b2, b5, pq, _, rfl, ?_⟩
      rw [wordV_of wy]
      refine iteF ?_
      have qne : y ≠ [] := fun z => by rw [z] at y0; exact absurd y0 (Nat.lt_irrefl _)
      refine ⟨_, rfl, rfl, _, rfl, ?_⟩
      refine iteFB (decide_eq_false (fun z => qne (str_ne_empty.mp z))) ?_
      refine ⟨_, rfl, y, rfl, y0, ly, fun s l hle => ?_⟩
      by_cases es : s = y.length
      · subst es
        rw [List.take_length]
        refine ⟨_, rfl, rfl, _, rfl, ?_⟩
        refine iteTB (decide_eq_true rfl) ?_
        refine ⟨_, rfl, rfl, _, rfl, _, rfl, _, _, _, rfl, rfl, small_len ly, at_back (t := 0) y0 (by decide), _, _, rfl, rfl, _, rfl, ?_⟩
        rw [Nat.sub_zero]
        unfold sfB at k
        rw [decide_eq_true l, Bool.true_and] at k
        exact k
      · refine ⟨_, rfl, rfl, _, rfl, ?_⟩
        have ne : y.take s ≠ y := fun z => es (by
          have := congrArg List.length z
          rw [List.length_take] at this
          omega)
        refine iteFB (decide_eq_false (fun z => ne (by have e := congrArg (fun s : Str => s.cps.toList) (V.str.inj z); simpa using e))) ?_
        unfold sfB at k
        rw [decide_eq_false (fun z => es (l.unique z)), Bool.false_and] at k
        exact k
/-- what is asked of an error class of the program's own without __init__ -/
structure PfxTxt (K : PySem.W.Frag) (mg : Str → Option Value) (x : Str) (C : Addr) : Prop where
  g : mg x = some (.ref C)
  ex : PySem.W.excIn K C [.type "ValueError", .type "Exception", .type "BaseException", .type "object"] "ValueError.__new__" = true
  kp : PySem.W.keepIn K (.ref C) = true
  bs : PySem.W.subIn K (.ref C) (.type "BaseException") = some true
  ty : PySem.W.typeIn K (.ref C) = some (.type "type")
theorem scIsStream : FnScope ["base", "roots", "value"] ["base", "roots", "value"] (defScope sIsStream) := ⟨rfl, rfl, rfl, by decide +kernel, rfl, by decide +kernel, by decide +kernel⟩
theorem ok_isstream {f fB fR fF CN : Addr} {fd fdB fdR fdF : FuncData} (F : Fun K "is_stream" "is_stream" sIsStream f fd) (GB : FnOk P w K mg base (L2.CX P w) 4 fB fdB ["base"] (spReqB CN 2 5)) (cB : Cal K mg "require_base" fB fdB ["base"])
    (GR : FnOk P w K mg base (L2.CX P w) 4 fR fdR ["roots"] (spReqB CN 1 5000)) (cR : Cal K mg "require_roots" fR fdR ["roots"]) (GF : FnOk P w K mg base CX0 3 fF fdF ["base", "roots", "value"] spStreamForm) (cF : Cal K mg "has_stream_form" fF fdF ["base", "roots", "value"]) :
    FnOk P w K mg base (L2.CX P w) 5 f fd ["base", "roots", "value"] spIsStream := by
  refine F.okX scIsStream (fun vs H Q E h => ?_) (fun cdv A outer s H vs Q E hr h => ?_)
  · obtain ⟨b, R, r, p, h, q, f, rfl, _⟩ := h
    rfl
  · obtain ⟨b, R, r, p, h, q, ff, rfl, b2, b5, R1, R5, r0, r1, hp, nf, hl, ql, wh, wq, k⟩ := h
    have tk := takes_of (X := cxOf (L2.CX P w) P w K mg base ["base", "roots", "value"] "is_stream" (defScope sIsStream) f cdv A outer s H E) (E := E) rfl rfl rfl rfl
    refine ⟨_, pss_cons (ps_expr (pe_call GB hr rfl cB.mg cB.kp cB.b .nil (passes_call (takes_of rfl rfl rfl rfl) (fun _ _ _ _ h => h)) (pa_cons (pv 0) pa_nil)))
      (pss_cons (ps_expr (pe_call GR hr rfl cR.mg cR.kp cR.b .nil (passes_call (takes_of rfl rfl rfl rfl) (fun _ _ _ _ h => h)) (pa_cons (pv 1) pa_nil)))
      (pss_one (ps_ret (pe_call GF (hr.mono (by decide)) rfl cF.mg cF.kp cF.b .nil pass0 (pa_cons (pv 0) (pa_cons (pv 1) (pa_cons (pv 2) pa_nil))))))), ?_⟩
    have w1 : withinV 2 5 (.int (b : Int)) = true := by
      show (decide ((2 : Int) ≤ b) && decide ((b : Int) ≤ 5)) = true
      rw [decide_eq_true (by omega), decide_eq_true (by omega)]
      rfl
    have w2 : withinV 1 5000 (.int R) = true := by
      show (decide ((1 : Int) ≤ R) && decide (R ≤ 5000)) = true
      rw [decide_eq_true R1, decide_eq_true R5]
      rfl
    refine ⟨_, rfl, _, _, rfl, .int b, fun _ => ?_, fun z => by rw [w1] at z; cases z⟩
    refine ⟨_, rfl, _, _, rfl, .int R, fun _ => ?_, fun z => by rw [w2] at z; cases z⟩
    exact ⟨_, rfl, _, rfl, _, rfl, b, R, _, true, rfl, b2, b5, SF.right hp r0 r1 nf hl ql wh wq, k⟩
/-- require_stream -/
def spReqStream (CS : Addr) : Sp := fun vs H Q E => ∃ (b : Nat) (R : Int) (v : V) (res : Bool), vs = [.int (b : Int), .int R, v] ∧ 2 ≤ b ∧ b ≤ 5 ∧ SF H b R v res ∧ (res = true → Q .non H) ∧ (res = false → E (.ref CS) none H)
theorem scReqStream : FnScope ["base", "roots", "stream"] ["base", "roots", "stream"] (defScope sReqStream) := ⟨rfl, rfl, rfl, by decide +kernel, rfl, by decide +kernel, by decide +kernel⟩
theorem ok_reqstream {f fF CS : Addr} {fd fdF : FuncData} (F : Fun K "require_stream" "require_stream" sReqStream f fd) (GF : FnOk P w K mg base CX0 3 fF fdF ["base", "roots", "value"] spStreamForm) (cF : Cal K mg "has_stream_form" fF fdF ["base", "roots", "value"])
    (TS : PfxTxt K mg "InvalidStream" CS) : FnOk P w K mg base (L2.CX P w) 4 f fd ["base", "roots", "stream"] (spReqStream CS) := by
  refine F.okX scReqStream (fun vs H Q E h => ?_) (fun cdv A outer s H vs Q E hr h => ?_)
  · obtain ⟨b, R, v, res, rfl, _⟩ := h
    rfl
  · obtain ⟨b, R, v, res, rfl, b2, b5, sf, k1, k2⟩ := h
    refine ⟨_, pss_one (ps_if (pt_not (pt_val (pe_call GF hr rfl cF.mg cF.kp cF.b .nil pass0 (pa_cons (pv 0) (pa_cons (pv 1) (pa_cons (pv 2) pa_nil))))))
      (pss_one (ps_raise rfl (takes_of rfl rfl rfl rfl) (pmk_own PySem.F.excBase_ValueError TS.ex TS.g TS.kp (raises_own TS.bs TS.ty) rfl))) pss_nil), ?_⟩
    refine ⟨_, rfl, _, rfl, _, rfl, b, R, v, res, rfl, b2, b5, sf, _, rfl, ?_⟩
    cases res with
    | true => exact iteF (k1 rfl)
    | false =>
      refine iteT ?_
      exact k2 rfl
/-- what has_prefix_form says -/
inductive PF (H : Hp) (b : Nat) (R : Int) : V → Bool → Prop where
  | non {v : V} {t : Value} (p : Pl H v t) (n : ∀ q xs, v = .ref q → H q ≠ some (.tup xs)) : PF H b R v false
  | len {p : Addr} {xs : List V} (h : H p = some (.tup xs)) (n : xs.length ≠ 2) : PF H b R (.ref p) false
  | fin {p : Addr} {r x : V} {tr tx : Value} (h : H p = some (.tup [r, x])) (pr : ∀ H0 : Hp, Pl H0 r tr) (px : ∀ H0 : Hp, Pl H0 x tx) : PF H b R (.ref p) (withinV 0 (R - 1) r && wordV b x)
theorem PF.keep {H H' : Hp} {b : Nat} {R : Int} {v : V} {res : Bool} (s : PF H b R v res) (k : ∀ q o, v = .ref q → (∀ ps, o ≠ .tbl ps) → H q = some o → H' q = some o) : PF H' b R v res := by
  cases s with
  | non p n => exact .non (pl_keep0 p k) (nt_keep p n k)
  | len h n => exact .len (k _ _ rfl (fun _ z => nomatch z) h) n
  | fin h pr px => exact .fin (k _ _ rfl (fun _ z => nomatch z) h) pr px
def spPfxForm : Sp := fun vs H Q _ => ∃ (b : Nat) (R : Int) (v : V) (res : Bool), vs = [.int (b : Int), .int R, v] ∧ 2 ≤ b ∧ b ≤ 5 ∧ PF H b R v res ∧ Q (.bl res) H
theorem scPfxForm : FnScope ["base", "roots", "value", "root", "word"] ["base", "roots", "value"] (defScope sPfxForm) := ⟨rfl, rfl, rfl, by decide +kernel, rfl, by decide +kernel, by decide +kernel⟩
theorem ok_pfxform {f fI fW : Addr} {fd fdI fdW : FuncData} (F : Fun K "has_prefix_form" "has_prefix_form" sPfxForm f fd) (GI : FnOk P w K mg base CX0 2 fI fdI ["low", "high", "value"] spWithin) (cI : Cal K mg "is_integer_within" fI fdI ["low", "high", "value"])
    (GW : FnOk P w K mg base CX0 1 fW fdW ["base", "value"] spWordForm) (cW : Cal K mg "has_word_form" fW fdW ["base", "value"]) (N : Nm mg) : FnOk P w K mg base CX0 3 f fd ["base", "roots", "value"] spPfxForm := by
  refine F.ok scPfxForm (fun vs H Q E h => ?_) (fun cdv A outer s H vs Q E hr h => ?_)
  · obtain ⟨b, R, v, res, rfl, _⟩ := h
    rfl
  · obtain ⟨b, R, v, res, rfl, b2, b5, sf, k⟩ := h
    have nd := scPfxForm.nd
    have hr1 := hr.mono (show 1 ≤ 2 by decide)
    refine ⟨_, pss_cons (ps_if (PW.pt (pw_or (pt_not (pt_val (pe_callB call_isi (by rfl) N.isinst PyProof.Rows.boot_isinstance (pa_cons (pv 2) (pa_cons (pe_bltn (v := .ty "tuple") (by rfl) N.tuple PyProof.Rows.boot_tuple rfl) pa_nil)))))
        (pw_or1 (pt_cmpR op_ne (pe_callB call_len_seq (by rfl) N.len boot_len (pa_cons (pv 2) pa_nil)) pe_int (nomark _)))))
        (pss_one (ps_ret pe_bl)) pss_nil)
      (pss_cons (ps_asg (pv 2) (pg_tup rfl (pgs_cons (pg_name (i := 3) nd rfl (.inl rfl)) (pgs_cons (pg_name (i := 4) nd rfl (.inl rfl)) pgs_nil))))
      (pss_one (ps_ret (pe_and (pe_call GI hr rfl cI.mg cI.kp cI.b .nil pass0 (pa_cons pe_int (pa_cons (pe_op op_sub (pv 1) pe_int) (pa_cons (pv 3) pa_nil))))
        (pe_one (pe_call GW hr1 rfl cW.mg cW.kp cW.b .nil pass0 (pa_cons (pv 0) (pa_cons (pv 4) pa_nil)))))))), ?_⟩
    cases sf with
    | non p n =>
      refine ⟨_, rfl, _, _, _, _, false, rfl, .ty "tuple", p.tyx, kit_tup p n, _, rfl, ?_⟩
      refine iteT ?_
      exact iteT k
    | @len p xs hp n =>
      refine ⟨_, rfl, _, _, _, _, true, rfl, .ty "tuple", (Pl.tup hp).tyx, kit_ty (by decide +kernel), _, rfl, ?_⟩
      refine iteF ?_
      refine ⟨_, rfl, _, _, rfl, .inr (SqT.of hp), rfl, _, rfl, ?_⟩
      exact iteTB (by rw [decide_eq_false (fun z => n (by have := V.int.inj z; omega))]; rfl) k
    | @fin p r x tr tx hp pr px =>
      refine ⟨_, rfl, _, _, _, _, true, rfl, .ty "tuple", (Pl.tup hp).tyx, kit_ty (by decide +kernel), _, rfl, ?_⟩
      refine iteF ?_
      refine ⟨_, rfl, p, _, rfl, .inr (SqT.of hp), rfl, _, rfl, ?_⟩
      refine iteFB rfl ?_
      refine ⟨_, rfl, p, _, rfl, SqT.of hp, rfl, _, _, rfl, _, _, rfl, rfl, ?_⟩
      refine ⟨_, rfl, _, _, rfl, rfl, _, rfl, 0, R - 1, _, _, rfl, pr _, _, rfl, ?_⟩
      cases hw : withinV 0 (R - 1) r with
      | false =>
        rw [hw] at k
        exact iteF k
      | true =>
        refine iteT ?_
        rw [hw] at k
        exact ⟨_, rfl, _, rfl, b, x, _, rfl, b2, b5, px _, k⟩
/-- require_prefix -/
def spReqPfx (CX : Addr) : Sp := fun vs H Q E => ∃ (b : Nat) (R : Int) (v : V) (res : Bool), vs = [.int (b : Int), .int R, v] ∧ 2 ≤ b ∧ b ≤ 5 ∧ PF H b R v res ∧ (res = true → Q .non H) ∧ (res = false → E (.ref CX) none H)
theorem scReqPfx : FnScope ["base", "roots", "prefix"] ["base", "roots", "prefix"] (defScope sReqPfx) := ⟨rfl, rfl, rfl, by decide +kernel, rfl, by decide +kernel, by decide +kernel⟩
theorem ok_reqpfx {f fF CX : Addr} {fd fdF : FuncData} (F : Fun K "require_prefix" "require_prefix" sReqPfx f fd) (GF : FnOk P w K mg base CX0 3 fF fdF ["base", "roots", "value"] spPfxForm) (cF : Cal K mg "has_prefix_form" fF fdF ["base", "roots", "value"])
    (TS : PfxTxt K mg "InvalidPrefix" CX) : FnOk P w K mg base (L2.CX P w) 4 f fd ["base", "roots", "prefix"] (spReqPfx CX) := by
  refine F.okX scReqPfx (fun vs H Q E h => ?_) (fun cdv A outer s H vs Q E hr h => ?_)
  · obtain ⟨b, R, v, res, rfl, _⟩ := h
    rfl
  · obtain ⟨b, R, v, res, rfl, b2, b5, sf, k1, k2⟩ := h
    refine ⟨_, pss_one (ps_if (pt_not (pt_val (pe_call GF hr rfl cF.mg cF.kp cF.b .nil pass0 (pa_cons (pv 0) (pa_cons (pv 1) (pa_cons (pv 2) pa_nil))))))
      (pss_one (ps_raise rfl (takes_of rfl rfl rfl rfl) (pmk_own PySem.F.excBase_ValueError TS.ex TS.g TS.kp (raises_own TS.bs TS.ty) rfl))) pss_nil), ?_⟩
    refine ⟨_, rfl, _, rfl, _, rfl, b, R, v, res, rfl, b2, b5, sf, _, rfl, ?_⟩
    cases res with
    | true => exact iteF (k1 rfl)
    | false =>
      refine iteT ?_
      exact k2 rfl
end
end Vf


set_option Elab.async false
set_option maxRecDepth 100000
set_option maxHeartbeats 4000000
set_option exponentiation.threshold 3000
namespace Vm
/-- the first n digits -/
def begN (h q : List Nat) (n : Nat) : List Nat := (List.range n).map (ev h q)
theorem begN_len {h q : List Nat} {n : Nat} : (begN h q n).length = n := by unfold begN; rw [List.length_map, List.length_range]
theorem begN_get {h q : List Nat} {n i : Nat} (hi : i < n) : (begN h q n).getD i 0 = ev h q i := by
  unfold begN
  rw [List.getD_eq_getElem?_getD, List.getElem?_map, List.getElem?_range hi]
  rfl
theorem beg_N {h q : List Nat} {k many : Nat} (hk : many ≤ h.length + k * q.length) : beg h q k many = begN h q many := by
  refine ext_getD (by rw [beg_len hk, begN_len]) fun i hi => ?_
  rw [beg_len hk] at hi
  rw [beg_get hk hi, begN_get hi]
theorem begN_eq {h q h' q' : List Nat} {n : Nat} : begN h q n = begN h' q' n ↔ ∀ i, i < n → ev h q i = ev h' q' i := by
  constructor
  · intro e i hi
    rw [← begN_get hi, e, begN_get hi]
  · intro e
    refine ext_getD (by rw [begN_len, begN_len]) fun i hi => ?_
    rw [begN_len] at hi
    rw [begN_get hi, begN_get hi, e i hi]
theorem begN_is {h q w : List Nat} : begN h q w.length = w ↔ ∀ i, i < w.length → ev h q i = w.getD i 0 := by
  constructor
  · intro e i hi
    rw [← begN_get hi, e]
  · intro e
    refine ext_getD begN_len fun i hi => ?_
    rw [begN_len] at hi
    rw [begN_get hi, e i hi]
/-- w in the place of the first b digits -/
def shF (w : List Nat) (b : Nat) (f : Nat → Nat) (i : Nat) : Nat := if i < w.length then w.getD i 0 else f (i - w.length + b)
theorem shF_lt {w : List Nat} {b : Nat} {f : Nat → Nat} {i : Nat} (h : i < w.length) : shF w b f i = w.getD i 0 := if_pos h
theorem shF_ge {w : List Nat} {b : Nat} {f : Nat → Nat} {i : Nat} (h : w.length ≤ i) : shF w b f i = f (i - w.length + b) := if_neg (by omega)
theorem ev_sh1 {h q w : List Nat} {b : Nat} (hb : b ≤ h.length) (i : Nat) : ev (w ++ h.drop b) q i = shF w b (ev h q) i := by
  have hl : (w ++ h.drop b).length = w.length + (h.length - b) := by rw [List.length_append, List.length_drop]
  by_cases hi : i < w.length
  · rw [shF_lt hi, ev_lt (by omega), getD_app hi]
  · rw [shF_ge (by omega)]
    by_cases h2 : i - w.length + b < h.length
    · rw [ev_lt h2, ev_lt (by omega), getD_app2 (by omega), getD_drop, Nat.add_comm b]
    · rw [ev_ge (by omega), ev_ge (by omega)]
      congr 1
      omega
theorem ev_sh2 {h q w : List Nat} {b : Nat} (hb : h.length ≤ b) (q0 : 0 < q.length) (i : Nat) : ev w (q.drop ((b - h.length) % q.length) ++ q.take ((b - h.length) % q.length)) i = shF w b (ev h q) i := by
  by_cases hi : i < w.length
  · rw [shF_lt hi, ev_lt hi]
  · have hm := Nat.mod_lt (b - h.length) q0
    rw [shF_ge (by omega), ev_ge (by omega), g_rot (by omega), ev_ge (by omega)]
    unfold g
    rw [Nat.add_mod_mod]
    congr 2
    omega
theorem ev_sh {h q w : List Nat} {b : Nat} (q0 : 0 < q.length) (i : Nat) : ev (w ++ h.drop b) (q.drop ((b - h.length) % q.length) ++ q.take ((b - h.length) % q.length)) i = shF w b (ev h q) i := by
  rcases Nat.le_total b h.length with hb | hb
  · have : b - h.length = 0 := by omega
    rw [this, Nat.zero_mod, List.drop_zero, List.take_zero, List.append_nil]
    exact ev_sh1 hb i
  · rw [List.drop_eq_nil_of_le hb, List.append_nil]
    exact ev_sh2 hb q0 i
/-- twice in the place of one another -/
theorem shF_shF {w v : List Nat} {b : Nat} {f g : Nat → Nat} (hg : ∀ i, g i = shF w b f i) (i : Nat) : shF v w.length g i = shF v b f i := by
  by_cases hi : i < v.length
  · rw [shF_lt hi, shF_lt hi]
  · rw [shF_ge (by omega), shF_ge (by omega), hg, shF_ge (by omega)]
    congr 1
    omega
theorem shF_back {w : List Nat} {f : Nat → Nat} (h : ∀ i, i < w.length → f i = w.getD i 0) (i : Nat) : shF w w.length f i = f i := by
  by_cases hi : i < w.length
  · rw [shF_lt hi, h i hi]
  · rw [shF_ge (by omega)]
    congr 1
    omega
end Vm


set_option Elab.async false
set_option maxRecDepth 100000
set_option maxHeartbeats 4000000
set_option exponentiation.threshold 3000
namespace Vf
open PySem L2 SX Vm
theorem cut_takeG {q : List Nat} {s : Nat} : cutS (S q) none (some (s : Int)) = S (q.take s) := by
  rcases Nat.le_total s q.length with h | h
  · exact cut_take h
  · unfold cutS
    rw [S_len, HT.sIx_none, HT.sIx_nat, Nat.min_eq_right h, List.take_of_length_le h]
    show Str.mk _ = Str.mk _
    simp
theorem cut_dropG {q : List Nat} {s : Nat} : cutS (S q) (some (s : Int)) none = S (q.drop s) := by
  rcases Nat.le_total s q.length with h | h
  · exact cut_drop h
  · unfold cutS
    rw [S_len, HT.sIx_none, HT.sIx_nat, Nat.min_eq_right h, List.drop_eq_nil_of_le h]
    show Str.mk _ = Str.mk _
    simp
/-- the first digits of a stream -/
def spLead (K : PySem.W.Frag) : Sp := fun vs H Q _ => ∃ (p : Addr) (r : V) (h q : List Nat) (n : Nat), vs = [.ref p, .int (n : Int)] ∧ SqT K H p [r, .str (S h), .str (S q)] ∧ 0 < q.length ∧ q.length ≤ 1000 ∧ h.length ≤ 1000 ∧ n ≤ 2000 ∧ Q (.str (S (begN h q n))) H
/-- whether a stream begins with a prefix -/
def underB (r : Int) (h q : List Nat) (r' : Int) (w : List Nat) : Bool := decide (r = r') && decide (begN h q w.length = w)
def spUnder (K : PySem.W.Frag) : Sp := fun vs H Q _ => ∃ (p p2 : Addr) (r r' : Int) (h q w : List Nat), vs = [.ref p, .ref p2] ∧ SqT K H p [.int r, .str (S h), .str (S q)] ∧ SqT K H p2 [.int r', .str (S w)] ∧ 0 < q.length ∧ q.length ≤ 1000 ∧ h.length ≤ 1000 ∧ w.length ≤ 1000 ∧ Q (.bl (underB r h q r' w)) H
theorem S_inj {l m : List Nat} (h : S l = S m) : l = m := by
  have := congrArg (fun s : Str => s.cps.toList) h
  simpa using this
section
variable {P : Program} {w : World} {K : PySem.W.Frag} {mg : Str → Option Value} {base : Heap}
theorem scLead : FnScope ["stream", "count", "_", "head", "missing", "period"] ["stream", "count"] (defScope sLead) := ⟨rfl, rfl, rfl, by decide +kernel, rfl, by decide +kernel, by decide +kernel⟩
theorem ok_lead {f : Addr} {fd : FuncData} (F : Fun K "leading_word" "leading_word" sLead f fd) (ml : mg "len" = none) (mx : mg "max" = none) : FnOk P w K mg base CX0 1 f fd ["stream", "count"] (spLead K) := by
  refine F.ok scLead (fun vs H Q E h => ?_) (fun cdv A outer s H vs Q E hr h => ?_)
  · obtain ⟨p, r, h, q, n, rfl, _⟩ := h
    rfl
  · obtain ⟨p, r, h, q, n, rfl, hp, q0, ql, hl, hn, k⟩ := h
    have nd := scLead.nd
    refine ⟨_, pss_cons (ps_asg (pv 0) (pg_tup rfl (pgs_cons (pg_name (i := 2) nd rfl (.inl rfl)) (pgs_cons (pg_name (i := 3) nd rfl (.inl rfl)) (pgs_cons (pg_name (i := 5) nd rfl (.inl rfl)) pgs_nil)))))
      (pss_cons (ps_set (i := 4) nd rfl (.inl rfl) (pe_callB (call_max2 rfl) (by rfl) mx PyProof.Rows.boot_max (pa_cons pe_int (pa_cons (pe_op op_sub (pv 1) (pe_callB call_len_str (by rfl) ml boot_len (pa_cons (pv 3) pa_nil))) pa_nil))))
      (pss_one (ps_ret (pe_slice sl_str (pe_op op_add_str (pv 3) (pe_op op_mul_str (pv 5) (pe_op op_add (pe_op op_fdiv (pv 4) (pe_callB call_len_str (by rfl) ml boot_len (pa_cons (pv 5) pa_nil))) pe_int))) po_none (po_some (pv 1)))))), ?_⟩
    refine ⟨_, rfl, p, _, rfl, hp, rfl, _, _, rfl, _, _, rfl, _, _, rfl, rfl, ?_⟩
    refine ⟨_, rfl, _, rfl, _, rfl, small_len hl, _, _, rfl, rfl, 0, _, rfl, ?_⟩
    obtain ⟨m, em⟩ : ∃ m : Nat, m = n - h.length := ⟨_, rfl⟩
    have e1 : (if (n : Int) - ((S h).length : Int) > 0 then (n : Int) - ((S h).length : Int) else 0) = ((m : Nat) : Int) := by
      rw [S_len]
      split <;> omega
    have hmul : (m / q.length + 1) * q.length ≤ m + q.length := by
      rw [Nat.succ_mul]
      exact Nat.add_le_add_right (Nat.div_mul_le_self m q.length) _
    have hdiv : m / q.length ≤ m := Nat.div_le_self _ _
    refine ⟨_, rfl, _, rfl, _, rfl, _, rfl, _, rfl, small_len ql, _, _, rfl, rfl, ?_, _, _, rfl, rfl, q, m / q.length + 1, rfl, ?_, ?_, ?_, ?_, _, _, rfl, rfl, ?_, _, rfl, _, rfl, _, rfl, ?_, ?_⟩
    · rw [e1]
      exact ⟨by rw [S_len]; omega, by rw [S_len]; omega⟩
    · show V.int (_ / _ + 1) = _
      rw [e1, S_len]
      rfl
    · omega
    · omega
    · omega
    · rw [S_len, S_len, rep_len]
      exact Nat.le_trans (show h.length + (m / q.length + 1) * q.length ≤ 10000 by omega) (by decide)
    · rw [S_cat, S_len, List.length_append, rep_len]
      exact Nat.le_trans (show h.length + (m / q.length + 1) * q.length ≤ 10000 by omega) (by decide)
    · rw [S_cat, cut_takeG]
      have hk : n ≤ h.length + (m / q.length + 1) * q.length := by
        have := Nat.lt_div_mul_add (a := m) q0
        rw [Nat.succ_mul]
        omega
      have e := beg_N hk
      unfold beg at e
      rw [e]
      exact k
theorem scUnder : FnScope ["stream", "prefix", "root", "word"] ["stream", "prefix"] (defScope sIsUnder) := ⟨rfl, rfl, rfl, by decide +kernel, rfl, by decide +kernel, by decide +kernel⟩
theorem ok_under {f fL : Addr} {fd fdL : FuncData} (F : Fun K "is_under" "is_under" sIsUnder f fd) (GL : FnOk P w K mg base CX0 1 fL fdL ["stream", "count"] (spLead K)) (cL : Cal K mg "leading_word" fL fdL ["stream", "count"]) (ml : mg "len" = none) : FnOk P w K mg base CX0 2 f fd ["stream", "prefix"] (spUnder K) := by
  refine F.ok scUnder (fun vs H Q E h => ?_) (fun cdv A outer s H vs Q E hr h => ?_)
  · obtain ⟨p, p2, r, r', h, q, w, rfl, _⟩ := h
    rfl
  · obtain ⟨p, p2, r, r', h, q, w, rfl, hp, hp2, q0, ql, hl, wl, k⟩ := h
    have nd := scUnder.nd
    refine ⟨_, pss_cons (ps_asg (pv 1) (pg_tup rfl (pgs_cons (pg_name (i := 2) nd rfl (.inl rfl)) (pgs_cons (pg_name (i := 3) nd rfl (.inl rfl)) pgs_nil))))
      (pss_one (ps_ret (pe_and (pe_cmpR op_eq (pe_ix ix_tup (pv 0) pe_int (fun _ _ => rfl)) (pv 2) (nomark _))
        (pe_one (pe_cmpR op_eq (pe_call GL hr rfl cL.mg cL.kp cL.b .nil pass0 (pa_cons (pv 0) (pa_cons (pe_callB call_len_str (by rfl) ml boot_len (pa_cons (pv 3) pa_nil)) pa_nil))) (pv 3) (nomark _)))))), ?_⟩
    refine ⟨_, rfl, p2, _, rfl, hp2, rfl, _, _, rfl, _, _, rfl, rfl, ?_⟩
    refine ⟨_, rfl, p, _, _, _, rfl, rfl, hp, rfl, _, rfl, rfl, _, rfl, ?_⟩
    by_cases e : r = r'
    · subst e
      refine iteTB (decide_eq_true rfl) ?_
      refine ⟨_, rfl, _, rfl, _, rfl, small_len wl, p, _, h, q, w.length, rfl, hp, q0, ql, hl, by omega, _, rfl, rfl, ?_⟩
      unfold underB at k
      rw [decide_eq_true rfl, Bool.true_and] at k
      have e2 : decide (V.str (S (begN h q w.length)) = V.str (S w)) = decide (begN h q w.length = w) := by
        by_cases c : begN h q w.length = w
        · rw [decide_eq_true c, c]
          exact decide_eq_true rfl
        · rw [decide_eq_false c]
          exact decide_eq_false fun z => c (S_inj (V.str.inj z))
      rw [e2]
      exact k
    · refine iteFB (decide_eq_false fun z => e (V.int.inj z)) ?_
      unfold underB at k
      rw [decide_eq_false e, Bool.false_and] at k
      exact k
/-- the prefix new in the place of old, unasked -/
def spWithBeg (K : PySem.W.Frag) : Sp := fun vs H Q _ => ∃ (p p1 p2 : Addr) (r r1 : V) (r2 : Int) (h q v w : List Nat), vs = [.ref p, .ref p1, .ref p2] ∧ SqT K H p [r, .str (S h), .str (S q)] ∧ SqT K H p1 [r1, .str (S v)] ∧ SqT K H p2 [.int r2, .str (S w)] ∧ 0 < q.length ∧ q.length ≤ 400 ∧ h.length ≤ 400 ∧ v.length ≤ 400 ∧ w.length ≤ 400 ∧
  ∀ (h' q' : List Nat) (p' : Addr), Nf (shF w v.length (ev h q)) h' q' → h'.length ≤ w.length + h.length → q'.length ≤ q.length → (∀ c ∈ h', c ∈ w ∨ c ∈ h) → Sub q' q → H p' = none → Q (.ref p') (upd H p' (.tup [.int r2, .str (S h'), .str (S q')]))
theorem scWithBeg : FnScope ["stream", "old", "new", "_", "behind", "head", "period", "root", "turn", "word"] ["stream", "old", "new"] (defScope sWithBeg) := ⟨rfl, rfl, rfl, by decide +kernel, rfl, by decide +kernel, by decide +kernel⟩
theorem ok_withbeg {f fN : Addr} {fd fdN : FuncData} (F : Fun K "with_beginning" "with_beginning" sWithBeg f fd) (GN : FnOk P w K mg base CX0 2 fN fdN ["root", "head", "period"] spNormal) (cN : Cal K mg "normal_stream" fN fdN ["root", "head", "period"]) (ml : mg "len" = none) (mx : mg "max" = none) :
    FnOk P w K mg base CX0 3 f fd ["stream", "old", "new"] (spWithBeg K) := by
  refine F.ok scWithBeg (fun vs H Q E h => ?_) (fun cdv A outer s H vs Q E hr h => ?_)
  · obtain ⟨p, p1, p2, r, r1, r2, h, q, v, w, rfl, _⟩ := h
    rfl
  · obtain ⟨p, p1, p2, r, r1, r2, h, q, v, w, rfl, hp, hp1, hp2, q0, ql, hl, vl, wl, k⟩ := h
    have nd := scWithBeg.nd
    refine ⟨_, pss_cons (ps_asg (pv 0) (pg_tup rfl (pgs_cons (pg_name (i := 3) nd rfl (.inl rfl)) (pgs_cons (pg_name (i := 5) nd rfl (.inl rfl)) (pgs_cons (pg_name (i := 6) nd rfl (.inl rfl)) pgs_nil)))))
      (pss_cons (ps_asg (pv 2) (pg_tup rfl (pgs_cons (pg_name (i := 7) nd rfl (.inl rfl)) (pgs_cons (pg_name (i := 9) nd rfl (.inl rfl)) pgs_nil))))
      (pss_cons (ps_set (i := 4) nd rfl (.inl rfl) (pe_callB call_len_str (by rfl) ml boot_len (pa_cons (pe_ix ix_tup (pv 1) pe_int (fun _ _ => rfl)) pa_nil)))
      (pss_cons (ps_set (i := 8) nd rfl (.inl rfl) (pe_op op_mod (pe_callB (call_max2 rfl) (by rfl) mx PyProof.Rows.boot_max (pa_cons pe_int (pa_cons (pe_op op_sub (pv 4) (pe_callB call_len_str (by rfl) ml boot_len (pa_cons (pv 5) pa_nil))) pa_nil))) (pe_callB call_len_str (by rfl) ml boot_len (pa_cons (pv 6) pa_nil))))
      (pss_one (ps_ret (pe_call GN hr rfl cN.mg cN.kp cN.b .nil pass0 (pa_cons (pv 7) (pa_cons (pe_op op_add_str (pv 9) (pe_slice sl_str (pv 5) (po_some (pv 4)) po_none)) (pa_cons (pe_op op_add_str (pe_slice sl_str (pv 6) (po_some (pv 8)) po_none) (pe_slice sl_str (pv 6) po_none (po_some (pv 8)))) pa_nil))))))))), ?_⟩
    refine ⟨_, rfl, p, _, rfl, hp, rfl, _, _, rfl, _, _, rfl, _, _, rfl, rfl, ?_⟩
    refine ⟨_, rfl, p2, _, rfl, hp2, rfl, _, _, rfl, _, _, rfl, rfl, ?_⟩
    refine ⟨_, rfl, p1, _, _, _, rfl, rfl, hp1, rfl, _, rfl, small_len (by omega), ?_⟩
    obtain ⟨m, em⟩ : ∃ m : Nat, m = (v.length - h.length) % q.length := ⟨_, rfl⟩
    have hm : m < q.length := em ▸ Nat.mod_lt _ q0
    refine ⟨_, rfl, _, rfl, _, rfl, small_len (by omega), _, _, rfl, rfl, 0, _, rfl, _, rfl, _, rfl, small_len (by omega), _, _, rfl, rfl, ?_, ?_⟩
    · show (0 : Int) < ((S q).length : Int)
      rw [S_len]
      omega
    have e1 : (if ((S v).length : Int) - ((S h).length : Int) > 0 then ((S v).length : Int) - ((S h).length : Int) else 0) % ((S q).length : Int) = ((m : Nat) : Int) := by
      rw [S_len, S_len, S_len, em, Int.natCast_emod]
      congr 1
      split <;> omega
    have ap : (S w ++ S (h.drop v.length)) = S (w ++ h.drop v.length) := S_cat _ _
    have ap2 : (S (q.drop m) ++ S (q.take m)) = S (q.drop m ++ q.take m) := S_cat _ _
    have l1 : (q.drop m ++ q.take m).length = q.length := by rw [List.length_append, List.length_drop, List.length_take]; omega
    have l2 : (w ++ h.drop v.length).length ≤ w.length + h.length := by rw [List.length_append, List.length_drop]; omega
    have ecut : cutS (S h) (some ((S v).length : Int)) none = S (h.drop v.length) := by rw [show ((S v).length : Int) = ((v.length : Nat) : Int) by rw [S_len]]; exact cut_dropG
    refine ⟨_, rfl, _, rfl, _, rfl, _, rfl, _, rfl, _, rfl, small_len (by omega), _, _, rfl, rfl, ?_, _, rfl, _, rfl, _, rfl, _, rfl, small_len (by omega), _, rfl, _, rfl, _, rfl, _, rfl, small_len (by omega), _, _, rfl, rfl, ?_, ?_⟩
    · rw [ecut, S_len, S_len, List.length_drop]
      exact Nat.le_trans (show w.length + (h.length - v.length) ≤ 1000 by omega) (by decide)
    · rw [e1, cut_dropG, cut_takeG, S_len, S_len, List.length_drop, List.length_take]
      exact Nat.le_trans (show q.length - m + min m q.length ≤ 1000 by omega) (by decide)
    · rw [e1, ecut, cut_dropG, cut_takeG, ap, ap2]
      refine ⟨.int r2, _, _, rfl, by omega, by omega, by omega, fun h' q' p' nf hl' hq' s1 s2 np => ?_⟩
      refine k h' q' p' ?_ (by omega) (by omega) (fun c hc => ?_) (fun c hc => ?_) np
      · rw [em] at nf
        have e : ev (w ++ h.drop v.length) (q.drop ((v.length - h.length) % q.length) ++ q.take ((v.length - h.length) % q.length)) = shF w v.length (ev h q) := funext fun i => ev_sh q0 i
        rw [e] at nf
        exact nf
      · rcases List.mem_append.mp (s1 c hc) with z | z
        · exact .inl z
        · exact .inr (List.mem_of_mem_drop z)
      · rcases List.mem_append.mp (s2 c hc) with z | z
        · exact List.mem_of_mem_drop z
        · exact List.mem_of_mem_take z
end
end Vf


set_option Elab.async false
set_option maxRecDepth 100000
set_option maxHeartbeats 4000000
set_option exponentiation.threshold 3000
namespace Vf
open PySem L2 SX Vm
/-- begins_with, with its errors -/
def spBegins (K : PySem.W.Frag) (CN CS CX : Addr) : Sp := fun vs H Q E => ∃ (b v x : V) (tb : Value), vs = [b, v, x] ∧ Pl H b tb ∧
  (withinV 2 5 b = false → ∀ d, H d = none → E (.ref CN) (some d) (upd H d (.xd [(("value" : Str), b)]))) ∧
  ∀ n : Nat, b = .int (n : Int) → 2 ≤ n → n ≤ 5 → ∃ res, SF H n 5000 v res ∧ (res = false → E (.ref CS) none H) ∧ (res = true → ∃ res2, PF H n 5000 x res2 ∧ (res2 = false → E (.ref CX) none H) ∧
    (res2 = true → ∃ (p p2 : Addr) (r r' : Int) (h q w : List Nat), v = .ref p ∧ x = .ref p2 ∧ SqT K H p [.int r, .str (S h), .str (S q)] ∧ SqT K H p2 [.int r', .str (S w)] ∧ 0 < q.length ∧ q.length ≤ 1000 ∧ h.length ≤ 1000 ∧ w.length ≤ 1000 ∧ Q (.bl (underB r h q r' w)) H))
/-- replaced, with its errors -/
def spReplaced (K : PySem.W.Frag) (CN CS CX CO : Addr) : Sp := fun vs H Q E => ∃ (b v x y : V) (tb : Value), vs = [b, v, x, y] ∧ Pl H b tb ∧
  (withinV 2 5 b = false → ∀ d, H d = none → E (.ref CN) (some d) (upd H d (.xd [(("value" : Str), b)]))) ∧
  ∀ n : Nat, b = .int (n : Int) → 2 ≤ n → n ≤ 5 → ∃ res, SF H n 5000 v res ∧ (res = false → E (.ref CS) none H) ∧ (res = true → ∃ res2, PF H n 5000 x res2 ∧ (res2 = false → E (.ref CX) none H) ∧
    (res2 = true → ∃ res3, PF H n 5000 y res3 ∧ (res3 = false → E (.ref CX) none H) ∧
    (res3 = true → ∃ (p p1 p2 : Addr) (r r1 r2 : Int) (h q u w : List Nat), v = .ref p ∧ x = .ref p1 ∧ y = .ref p2 ∧ SqT K H p [.int r, .str (S h), .str (S q)] ∧ SqT K H p1 [.int r1, .str (S u)] ∧ SqT K H p2 [.int r2, .str (S w)] ∧ 0 < q.length ∧ q.length ≤ 400 ∧ h.length ≤ 400 ∧ u.length ≤ 400 ∧ w.length ≤ 400 ∧
      (underB r h q r1 u = false → E (.ref CO) none H) ∧ (underB r h q r1 u = true → ∀ (h' q' : List Nat) (p' : Addr), Nf (shF w u.length (ev h q)) h' q' → h'.length ≤ w.length + h.length → q'.length ≤ q.length → (∀ c ∈ h', c ∈ w ∨ c ∈ h) → Sub q' q → H p' = none → Q (.ref p') (upd H p' (.tup [.int r2, .str (S h'), .str (S q')]))))))
section
variable {P : Program} {w : World} {K : PySem.W.Frag} {mg : Str → Option Value} {base : Heap}
theorem within_base {v : V} (h : withinV 2 5 v = true) : ∃ n : Nat, v = .int (n : Int) ∧ 2 ≤ n ∧ n ≤ 5 := by
  cases v with
  | int i =>
    have h' : (decide (2 ≤ i) && decide (i ≤ 5)) = true := h
    simp at h'
    refine ⟨i.toNat, by rw [Int.toNat_of_nonneg (by omega)], by omega, by omega⟩
  | _ => cases h
theorem scBegins : FnScope ["base", "stream", "prefix"] ["base", "stream", "prefix"] (defScope sBegins) := ⟨rfl, rfl, rfl, by decide +kernel, rfl, by decide +kernel, by decide +kernel⟩
theorem ok_begins {f fB fS fX fU CN CS CX : Addr} {fd fdB fdS fdX fdU : FuncData} (F : Fun K "begins_with" "begins_with" sBegins f fd) (GB : FnOk P w K mg base (L2.CX P w) 4 fB fdB ["base"] (spReqB CN 2 5)) (cB : Cal K mg "require_base" fB fdB ["base"])
    (GS : FnOk P w K mg base (L2.CX P w) 4 fS fdS ["base", "roots", "stream"] (spReqStream CS)) (cS : Cal K mg "require_stream" fS fdS ["base", "roots", "stream"]) (GX : FnOk P w K mg base (L2.CX P w) 4 fX fdX ["base", "roots", "prefix"] (spReqPfx CX)) (cX : Cal K mg "require_prefix" fX fdX ["base", "roots", "prefix"])
    (GU : FnOk P w K mg base CX0 2 fU fdU ["stream", "prefix"] (spUnder K)) (cU : Cal K mg "is_under" fU fdU ["stream", "prefix"]) (N : Nm mg) : FnOk P w K mg base (L2.CX P w) 5 f fd ["base", "stream", "prefix"] (spBegins K CN CS CX) := by
  refine F.okX scBegins (fun vs H Q E h => ?_) (fun cdv A outer s H vs Q E hr h => ?_)
  · obtain ⟨b, v, x, tb, rfl, _⟩ := h
    rfl
  · obtain ⟨b, v, x, tb, rfl, pb, k1, k2⟩ := h
    obtain ⟨t2, m2⟩ := N.maxR
    refine ⟨_, pss_cons (ps_expr (pe_call GB hr rfl cB.mg cB.kp cB.b .nil (passes_call (takes_of rfl rfl rfl rfl) (fun _ _ _ _ h => h)) (pa_cons (pv 0) pa_nil)))
      (pss_cons (ps_expr (pe_call GS hr rfl cS.mg cS.kp cS.b .nil (passes_call (takes_of rfl rfl rfl rfl) (fun _ _ _ _ h => h)) (pa_cons (pv 0) (pa_cons (pe_glob (v := .int 5000) rfl m2 ⟨_, rfl⟩) (pa_cons (pv 1) pa_nil)))))
      (pss_cons (ps_expr (pe_call GX hr rfl cX.mg cX.kp cX.b .nil (passes_call (takes_of rfl rfl rfl rfl) (fun _ _ _ _ h => h)) (pa_cons (pv 0) (pa_cons (pe_glob (v := .int 5000) rfl m2 ⟨_, rfl⟩) (pa_cons (pv 2) pa_nil)))))
      (pss_one (ps_ret (pe_call GU (hr.mono (by decide)) rfl cU.mg cU.kp cU.b .nil pass0 (pa_cons (pv 1) (pa_cons (pv 2) pa_nil))))))), ?_⟩
    refine ⟨_, rfl, _, _, rfl, pb, fun hw => ?_, k1⟩
    obtain ⟨n, rfl, n2, n5⟩ := within_base hw
    obtain ⟨res, sf, k3, k4⟩ := k2 n rfl n2 n5
    refine ⟨_, rfl, _, rfl, n, 5000, v, res, rfl, n2, n5, sf, fun z => ?_, k3⟩
    obtain ⟨res2, pf, k5, k6⟩ := k4 z
    refine ⟨_, rfl, _, rfl, n, 5000, x, res2, rfl, n2, n5, pf, fun z2 => ?_, k5⟩
    obtain ⟨p, p2, r, r', h, q, w, rfl, rfl, hp, hp2, q0, ql, hl, wl, k⟩ := k6 z2
    exact ⟨_, rfl, _, rfl, p, p2, r, r', h, q, w, rfl, hp, hp2, q0, ql, hl, wl, k⟩
theorem scReplaced : FnScope ["base", "stream", "old", "new"] ["base", "stream", "old", "new"] (defScope sReplaced) := ⟨rfl, rfl, rfl, by decide +kernel, rfl, by decide +kernel, by decide +kernel⟩
theorem ok_replaced {f fB fS fX fU fW CN CS CX CO : Addr} {fd fdB fdS fdX fdU fdW : FuncData} (F : Fun K "replaced" "replaced" sReplaced f fd) (GB : FnOk P w K mg base (L2.CX P w) 4 fB fdB ["base"] (spReqB CN 2 5)) (cB : Cal K mg "require_base" fB fdB ["base"])
    (GS : FnOk P w K mg base (L2.CX P w) 4 fS fdS ["base", "roots", "stream"] (spReqStream CS)) (cS : Cal K mg "require_stream" fS fdS ["base", "roots", "stream"]) (GX : FnOk P w K mg base (L2.CX P w) 4 fX fdX ["base", "roots", "prefix"] (spReqPfx CX)) (cX : Cal K mg "require_prefix" fX fdX ["base", "roots", "prefix"])
    (GU : FnOk P w K mg base CX0 2 fU fdU ["stream", "prefix"] (spUnder K)) (cU : Cal K mg "is_under" fU fdU ["stream", "prefix"]) (GW : FnOk P w K mg base CX0 3 fW fdW ["stream", "old", "new"] (spWithBeg K)) (cW : Cal K mg "with_beginning" fW fdW ["stream", "old", "new"])
    (TO : PfxTxt K mg "InvalidOperation" CO) (N : Nm mg) : FnOk P w K mg base (L2.CX P w) 5 f fd ["base", "stream", "old", "new"] (spReplaced K CN CS CX CO) := by
  refine F.okX scReplaced (fun vs H Q E h => ?_) (fun cdv A outer s H vs Q E hr h => ?_)
  · obtain ⟨b, v, x, y, tb, rfl, _⟩ := h
    rfl
  · obtain ⟨b, v, x, y, tb, rfl, pb, k1, k2⟩ := h
    obtain ⟨t2, m2⟩ := N.maxR
    refine ⟨_, pss_cons (ps_expr (pe_call GB hr rfl cB.mg cB.kp cB.b .nil (passes_call (takes_of rfl rfl rfl rfl) (fun _ _ _ _ h => h)) (pa_cons (pv 0) pa_nil)))
      (pss_cons (ps_expr (pe_call GS hr rfl cS.mg cS.kp cS.b .nil (passes_call (takes_of rfl rfl rfl rfl) (fun _ _ _ _ h => h)) (pa_cons (pv 0) (pa_cons (pe_glob (v := .int 5000) rfl m2 ⟨_, rfl⟩) (pa_cons (pv 1) pa_nil)))))
      (pss_cons (ps_expr (pe_call GX hr rfl cX.mg cX.kp cX.b .nil (passes_call (takes_of rfl rfl rfl rfl) (fun _ _ _ _ h => h)) (pa_cons (pv 0) (pa_cons (pe_glob (v := .int 5000) rfl m2 ⟨_, rfl⟩) (pa_cons (pv 2) pa_nil)))))
      (pss_cons (ps_expr (pe_call GX hr rfl cX.mg cX.kp cX.b .nil (passes_call (takes_of rfl rfl rfl rfl) (fun _ _ _ _ h => h)) (pa_cons (pv 0) (pa_cons (pe_glob (v := .int 5000) rfl m2 ⟨_, rfl⟩) (pa_cons (pv 3) pa_nil)))))
      (pss_cons (ps_if (pt_not (pt_val (pe_call GU (hr.mono (by decide)) rfl cU.mg cU.kp cU.b .nil pass0 (pa_cons (pv 1) (pa_cons (pv 2) pa_nil)))))
        (pss_one (ps_raise rfl (takes_of rfl rfl rfl rfl) (pmk_own PySem.F.excBase_ValueError TO.ex TO.g TO.kp (raises_own TO.bs TO.ty) rfl))) pss_nil)
      (pss_one (ps_ret (pe_call GW (hr.mono (by decide)) rfl cW.mg cW.kp cW.b .nil pass0 (pa_cons (pv 1) (pa_cons (pv 2) (pa_cons (pv 3) pa_nil)))))))))), ?_⟩
    refine ⟨_, rfl, _, _, rfl, pb, fun hw => ?_, k1⟩
    obtain ⟨n, rfl, n2, n5⟩ := within_base hw
    obtain ⟨res, sf, k3, k4⟩ := k2 n rfl n2 n5
    refine ⟨_, rfl, _, rfl, n, 5000, v, res, rfl, n2, n5, sf, fun z => ?_, k3⟩
    obtain ⟨res2, pf, k5, k6⟩ := k4 z
    refine ⟨_, rfl, _, rfl, n, 5000, x, res2, rfl, n2, n5, pf, fun z2 => ?_, k5⟩
    obtain ⟨res3, pf3, k7, k8⟩ := k6 z2
    refine ⟨_, rfl, _, rfl, n, 5000, y, res3, rfl, n2, n5, pf3, fun z3 => ?_, k7⟩
    obtain ⟨p, p1, p2, r, r1, r2, h, q, u, w, rfl, rfl, rfl, hp, hp1, hp2, q0, ql, hl, ul, wl, k9, k10⟩ := k8 z3
    refine ⟨_, rfl, _, rfl, p, p1, r, r1, h, q, u, rfl, hp, hp1, q0, by omega, by omega, by omega, _, rfl, ?_⟩
    cases hu : underB r h q r1 u with
    | false =>
      refine iteT ?_
      exact k9 hu
    | true =>
      refine iteF ?_
      exact ⟨_, rfl, _, rfl, _, rfl, p, p1, p2, _, _, r2, h, q, u, w, rfl, hp, hp1, hp2, q0, ql, hl, ul, wl, k10 hu⟩
/-- the law's own -/
theorem scLUnder : FnScope ["stream", "prefix"] ["stream", "prefix"] (defScope sLUnder) := ⟨rfl, rfl, rfl, by decide +kernel, rfl, by decide +kernel, by decide +kernel⟩
theorem ok_lunder {f fL : Addr} {fd fdL : FuncData} (F : Fun K "_law_is_under" "_law_is_under" sLUnder f fd) (GL : FnOk P w K mg base CX0 1 fL fdL ["stream", "many"] (spLBeg K)) (cL : Cal K mg "_law_beginning" fL fdL ["stream", "many"]) (ml : mg "len" = none) : FnOk P w K mg base CX0 2 f fd ["stream", "prefix"] (spUnder K) := by
  refine F.ok scLUnder (fun vs H Q E h => ?_) (fun cdv A outer s H vs Q E hr h => ?_)
  · obtain ⟨p, p2, r, r', h, q, w, rfl, _⟩ := h
    rfl
  · obtain ⟨p, p2, r, r', h, q, w, rfl, hp, hp2, q0, ql, hl, wl, k⟩ := h
    refine ⟨_, pss_one (ps_ret (pe_and (pe_cmpR op_eq (pe_ix ix_tup (pv 0) pe_int (fun _ _ => rfl)) (pe_ix ix_tup (pv 1) pe_int (fun _ _ => rfl)) (nomark _))
        (pe_one (pe_cmpR op_eq (pe_call GL hr rfl cL.mg cL.kp cL.b .nil pass0 (pa_cons (pv 0) (pa_cons (pe_callB call_len_str (by rfl) ml boot_len (pa_cons (pe_ix ix_tup (pv 1) pe_int (fun _ _ => rfl)) pa_nil)) pa_nil))) (pe_ix ix_tup (pv 1) pe_int (fun _ _ => rfl)) (nomark _))))), ?_⟩
    refine ⟨_, rfl, p, _, _, _, rfl, rfl, hp, rfl, _, rfl, p2, _, _, _, rfl, rfl, hp2, rfl, rfl, _, rfl, ?_⟩
    by_cases e : r = r'
    · subst e
      refine iteTB (decide_eq_true rfl) ?_
      refine ⟨_, rfl, _, rfl, p2, _, _, _, rfl, rfl, hp2, rfl, _, rfl, small_len wl, p, _, h, q, w.length, rfl, hp, q0, ql, hl, by omega, _, rfl, p2, _, _, _, rfl, rfl, hp2, rfl, rfl, ?_⟩
      unfold underB at k
      rw [decide_eq_true rfl, Bool.true_and] at k
      have hk : w.length ≤ h.length + (w.length / q.length + 1) * q.length := by
        have := Nat.lt_div_mul_add (a := w.length) q0
        rw [Nat.succ_mul]
        omega
      rw [beg_N hk]
      have e2 : decide (V.str (S (begN h q w.length)) = V.str (S w)) = decide (begN h q w.length = w) := by
        by_cases c : begN h q w.length = w
        · rw [decide_eq_true c, c]
          exact decide_eq_true rfl
        · rw [decide_eq_false c]
          exact decide_eq_false fun z => c (S_inj (V.str.inj z))
      rw [e2]
      exact k
    · refine iteFB (decide_eq_false fun z => e (V.int.inj z)) ?_
      unfold underB at k
      rw [decide_eq_false e, Bool.false_and] at k
      exact k
end
end Vf


set_option Elab.async false
set_option maxRecDepth 100000
set_option maxHeartbeats 4000000
set_option exponentiation.threshold 3000
namespace Vm
theorem ev_app {h q : List Nat} (q0 : 0 < q.length) (i : Nat) : ev (h ++ q) q i = ev h q i := by
  by_cases h1 : i < h.length
  · rw [ev_lt h1, ev_lt (by rw [List.length_append]; omega), getD_app h1]
  · rw [ev_ge (h := h) (by omega)]
    by_cases h2 : i < h.length + q.length
    · rw [ev_lt (by rw [List.length_append]; exact h2), getD_app2 (by omega), g_lt (by omega)]
    · rw [ev_ge (by rw [List.length_append]; omega), List.length_append, show i - h.length = i - (h.length + q.length) + q.length by omega, g_add]
end Vm
namespace Vf
open PySem L2 SX Vm
def spLReplaced (K : PySem.W.Frag) : Sp := fun vs H Q _ => ∃ (p p1 p2 : Addr) (r r1 r2 : V) (h q v w : List Nat), vs = [.ref p, .ref p1, .ref p2] ∧ SqT K H p [r, .str (S h), .str (S q)] ∧ SqT K H p1 [r1, .str (S v)] ∧ SqT K H p2 [r2, .str (S w)] ∧ 0 < q.length ∧ q.length ≤ 100 ∧ h.length ≤ 100 ∧ v.length ≤ 200 ∧ w.length ≤ 200 ∧
  ∀ (h' q' : List Nat) (p' : Addr) (H' : Hp), Nf (shF w v.length (ev h q)) h' q' → Same H H' → H p' = none → H' p' = some (.tup [r2, .str (S h'), .str (S q')]) → Q (.ref p') H'
section
variable {P : Program} {w : World} {K : PySem.W.Frag} {mg : Str → Option Value} {base : Heap}
theorem scLReplaced : FnScope ["stream", "old", "new", "head", "period", "root"] ["stream", "old", "new"] (defScope sLReplaced) := ⟨rfl, rfl, rfl, by decide +kernel, rfl, by decide +kernel, by decide +kernel⟩
theorem ok_lreplaced {f fN : Addr} {fd fdN : FuncData} (F : Fun K "_law_replaced" "_law_replaced" sLReplaced f fd) (GN : FnOk P w K mg base CX0 1 fN fdN ["root", "head", "period"] spLNormal) (cN : Cal K mg "_law_normal" fN fdN ["root", "head", "period"]) (ml : mg "len" = none) :
    FnOk P w K mg base CX0 2 f fd ["stream", "old", "new"] (spLReplaced K) := by
  refine F.ok scLReplaced (fun vs H Q E h => ?_) (fun cdv A outer s H vs Q E hr h => ?_)
  · obtain ⟨p, p1, p2, r, r1, r2, h, q, v, w, rfl, _⟩ := h
    rfl
  · obtain ⟨p, p1, p2, r, r1, r2, h, q, v, w, rfl, hp, hp1, hp2, q0, ql, hl, vl, wl, k⟩ := h
    have nd := scLReplaced.nd
    refine ⟨_, pss_cons (ps_asg (pv 0) (pg_tup rfl (pgs_cons (pg_name (i := 5) nd rfl (.inl rfl)) (pgs_cons (pg_name (i := 3) nd rfl (.inl rfl)) (pgs_cons (pg_name (i := 4) nd rfl (.inl rfl)) pgs_nil)))))
      (pss_cons (ps_while PassesOwn.never (pt_cmpR op_lt (pe_callB call_len_str (by rfl) ml boot_len (pa_cons (pv 3) pa_nil)) (pe_callB call_len_str (by rfl) ml boot_len (pa_cons (pe_ix ix_tup (pv 1) pe_int (fun _ _ => rfl)) pa_nil)) (nomark _))
        (pss_one (ps_set (i := 3) nd rfl (.inl rfl) (pe_op op_add_str (pv 3) (pv 4)))))
      (pss_one (ps_ret (pe_call GN hr rfl cN.mg cN.kp cN.b .nil pass0 (pa_cons (pe_ix ix_tup (pv 2) pe_int (fun _ _ => rfl)) (pa_cons (pe_op op_add_str (pe_ix ix_tup (pv 2) pe_int (fun _ _ => rfl)) (pe_slice sl_str (pv 3) (po_some (pe_callB call_len_str (by rfl) ml boot_len (pa_cons (pe_ix ix_tup (pv 1) pe_int (fun _ _ => rfl)) pa_nil))) po_none)) (pa_cons (pv 4) pa_nil))))))), ?_⟩
    refine ⟨_, rfl, p, _, rfl, hp, rfl, _, _, rfl, _, _, rfl, _, _, rfl, rfl, ?_⟩
    refine ⟨fun m σ H2 => ∃ l : List Nat, m = v.length - l.length ∧ σ = [some (.ref p), some (.ref p1), some (.ref p2), some (.str (S l)), some (.str (S q)), some r] ∧ H2 = H ∧ (∀ i, ev l q i = ev h q i) ∧ l.length ≤ 300, ⟨_, h, rfl, rfl, rfl, fun _ => rfl, by omega⟩, ?_⟩
    rintro m σ H2 ⟨l, rfl, rfl, rfl, hev, ll⟩
    refine ⟨_, rfl, _, rfl, small_len (by omega), _, rfl, p1, _, _, _, rfl, rfl, hp1, rfl, _, rfl, small_len (by omega), _, _, rfl, rfl, _, rfl, ?_⟩
    by_cases c : l.length < v.length
    · refine iteTB (decide_eq_true (by rw [S_len, S_len]; omega)) ?_
      refine ⟨fun σ' H' => ∃ m', m' < v.length - l.length ∧ _, fun σ' H' z => z, _, rfl, _, rfl, _, _, rfl, rfl, ?_, v.length - (l ++ q).length, ?_, l ++ q, rfl, ?_, rfl, fun i => (ev_app q0 i).trans ?_, ?_⟩
      · rw [S_len, S_len]
        exact Nat.le_trans (show l.length + q.length ≤ 1000 by omega) (by decide)
      · rw [List.length_append]
        omega
      · rw [← S_cat]
        rfl
      · exact hev i
      · rw [List.length_append]
        omega
    · refine iteFB (decide_eq_false (by rw [S_len, S_len]; omega)) ?_
      have ecut : cutS (S l) (some ((S v).length : Int)) none = S (l.drop v.length) := by rw [show ((S v).length : Int) = ((v.length : Nat) : Int) by rw [S_len]]; exact cut_dropG
      refine ⟨_, rfl, p2, _, _, _, rfl, rfl, hp2, rfl, _, rfl, p2, _, _, _, rfl, rfl, hp2, rfl, _, rfl, _, rfl, p1, _, _, _, rfl, rfl, hp1, rfl, _, rfl, small_len (by omega), _, rfl, _, rfl, small_len (by omega), _, _, rfl, rfl, ?_, _, rfl, ?_⟩
      · rw [ecut, S_len, S_len, List.length_drop]
        exact Nat.le_trans (show w.length + (l.length - v.length) ≤ 1000 by omega) (by decide)
      · rw [ecut, S_cat]
        refine ⟨r2, w ++ l.drop v.length, q, rfl, q0, by omega, by rw [List.length_append, List.length_drop]; omega, fun h' q' p' H' nf _ _ _ _ sm np e => k h' q' p' H' ?_ sm np e⟩
        have e1 : ev (w ++ l.drop v.length) q = shF w v.length (ev h q) := funext fun i => by
          rw [ev_sh1 (by omega) i]
          have e2 : ev l q = ev h q := funext hev
          rw [e2]
        rw [e1] at nf
        exact nf
end
end Vf


set_option Elab.async false
set_option maxRecDepth 100000
set_option maxHeartbeats 4000000
/-! Calls of which it is known that no repr is under way around them; repr of plain data; counting in a list. -/
namespace VG
open PySem PySem.Spec PyProof.Rows L2
/-- a def's promise, where no repr runs around the call -/
structure FnG (P : Program) (w : World) (K : PySem.W.Frag) (mg : Str → Option Value) (base : Heap) (k : Nat) (f : Addr) (fd : FuncData) (ps : List Str) (sp : Sp) : Prop where
  len : ∀ vs H Q E, sp vs H Q E → vs.length = ps.length
  at_ : ∀ {A : Around} {outer : List Env} {s : Shared} {H : Hp} {args : Args} {us : List Value} {vs : List V} {Q : VK} {E : XK}, A.guards = some [] → Room k A → Env0 P w K mg base A outer s H → BindsTo s fd args (ps.zip us) → Vals vs us → sp vs H Q E →
    codeAny (model P w) A (.call (.ref f) args) (CR L2.CX0 outer P w H s Q E) s
section
variable {P : Program} {w : World} {K : PySem.W.Frag} {mg : Str → Option Value} {base : Heap}
theorem FnG.of {x qual : Str} {st : Stmt} {f : Addr} {fd : FuncData} {N ps : List Str} {k : Nat} {sp : Sp} (F : Fun K x qual st f fd) (S : FnScope N ps (defScope st)) (len : ∀ vs H Q E, sp vs H Q E → vs.length = ps.length)
    (body : ∀ (cdv : Value) (A : Around) (outer : List Env) (s : Shared) (H : Hp) (vs : List V) (Q : VK) (E : XK), A.guards = some [] → Room k (A.deeper (envOfC qual (defScope st) s.heap.objs.size f cdv)) → PySem.W.codeIn K cdv qual = true → (∃ (oc : Value) (od : Option Addr) (kV doc pm : Value) (an : Option Addr) (ct : Value) (osl : Array (Option Value)), K.lookup f = some ⟨oc, od, .func (PySem.W.fnOf x qual (defArgs st) (defBody st) (defScope st) .none kV doc pm an cdv ct), osl⟩) → sp vs H Q E →
      ∃ t, PSs (cxOf L2.CX0 P w K mg base N qual (defScope st) f cdv A outer s H E).nox (defBody st) t ∧ t { nx := fun _ H' => Q .non H', rt := Q } (L2.start N vs) H) : FnG P w K mg base (k + 1) f fd ps sp := by
  obtain ⟨oc, od, kV, doc, pm, an, cdv, ct, osl, rfl, lk, hcd⟩ := F.ex
  refine ⟨len, fun {A outer s H args us vs Q E} hg hr e0 hb r hs => LamX.run_ofS lk hcd S hr e0 hb r (len _ _ _ _ hs) fun hr' => ?_⟩
  obtain ⟨t, h1, h2⟩ := body cdv A outer s H vs Q E hg hr' hcd ⟨_, _, _, _, _, _, _, _, lk⟩ hs
  exact ⟨t, h1.nox, h2⟩
end
section
variable {X : Cx} {k : Nat} {f : Addr} {fd : FuncData} {ps : List Str} {sp : Sp} {x : Str} {p pos : Pos} {e : Expr} {es : List Expr} {t : TA}
theorem pe_callG (G : FnG X.prog X.w X.K X.mg X.base k f fd ps sp) (gd : X.A.guards = some []) (hr : Room k X.A) (hg : Gl X x) (hm : X.mg x = some (.ref f)) (hk : PySem.W.keepIn X.K (.ref f) = true) (hb : Binds X.K fd ps [])
    (ha : PA X (e :: es) t) (hdb : (x == ("__debug__" : Str)) = false := by decide) (he : starEach (e :: es) X.env = (false, eval e X.env) :: starEach es X.env := by rfl) (hpl : (backTo pos (starEach es X.env)).any (·.1) = false := by rfl) :
    PE X (.Call (.Name x p) (e :: es) [] pos) (tCall sp [] E0 t) := by
  constructor
  intro pins s σ H Q I h
  refine wpAny_Call_Name_kw (ld_glob I hg hm (PySem.W.callWith_K I.ok.mod.kin hk (thn (ha.run pos pins s σ H _ I h) ?_) he hpl) hdb)
  rintro us s1 ⟨vs, H1, J, rv, q⟩
  refine ⟨J.kIn, ?_⟩
  have q' : sp vs H1 Q E0 := by
    have q0 : sp (vs ++ []) H1 Q E0 := q
    rw [List.append_nil] at q0
    exact q0
  have hz : (us ++ []).length = ps.length := by rw [List.append_nil, ← rv.length, G.len _ _ _ _ q']
  have hbt := hb s1 us J.kIn hz
  rw [List.append_nil] at hbt
  refine wpAny_call (codeAny_mono (G.at_ gd hr J.env0 hbt rv q') fun r s2 z => ?_)
  match r, z with
  | .ok (.ret _), z => exact J.after z
  | .ok .next, z => exact z.elim
  | .ok .brk, z => exact z.elim
  | .ok .cont, z => exact z.elim
  | .error _, z => exact (show False from z).elim
end
end VG


set_option Elab.async false
set_option maxRecDepth 100000
set_option maxHeartbeats 4000000
/-! The end of a law whose def's promise is of the kind FnG, with tables of code objects. -/
namespace VG
open PySem PySem.Spec PyProof.Rows L2
theorem endG {P : Program} {w : World} {K : PySem.W.Frag} {mg mb : Str → Option Value} {k : Nat} {fa a : Addr} {cs : List (Addr × Addr)} {fd : FuncData} {x : Str} {sp : Sp} {s : Shared} {vs : List Value} {ns : List Int}
    (kin : K.In s.heap) (gl : s.heap.Ns mainGlobals mg) (bl : s.heap.Ns builtinsNs mb) (bb : ∀ y : Str, y ≠ "__name__" → mb y = bootBuiltins y) (lim : s.heap.NoLimit) (gens : s.gens = #[])
    (tab : ∀ p ∈ cs, s.heap.get? p.2 = some { cls := .none, data := .fields #[] }) (out : ∀ p ∈ cs, K.lookup p.2 = none) (code : ∀ p ∈ cs, PySem.W.CodeHd s.heap p.1 p.2)
    (bm : ∃ (m : Addr) (o : Obj), mg "__builtins__" = some (.ref m) ∧ m ≠ builtinsNs ∧ s.heap.get? m = some o ∧ o.cls = .type "module" ∧ o.dict = some builtinsNs ∧ o.data = .plain)
    (scr : s.heap.get? a = some { cls := .type "list", data := .seq vs.toArray }) (hia : IntsAre vs ns) (sz : ns.length ≤ sizeLine) (room : Room k callerA)
    (F : ∀ base : Heap, K.In base → base.Ns mainGlobals mg → (∀ p ∈ cs, LamX.TabB base mg p.1 p.2) → FnG P w K mg base k fa fd [x] sp) (bind : ∀ (s : Shared) (u : Value), BindsTo s fd ⟨[u], []⟩ [(x, u)])
    (hsp : ∀ H : Hp, (∀ p ∈ cs, H p.2 = some (.tbl #[])) → SqL K H a (ns.map V.int) → sp [.ref a] H (fun v _ => v = .bl true) fun _ _ _ => False) :
    codeAny (model P w) callerA (.call (.ref fa) ⟨[.ref a], []⟩) (fun r s' => r = .ok (.ret (.bool true)) ∧ OldK s.heap s'.heap ∧ s'.os = s.os ∧ AllBare s'.gens) s := by
  classical
  have rv := vals_ints hia
  -- what is tracked: the tables, and the script unless the module holds it
  obtain ⟨H, hT, hA, hN⟩ : ∃ H : Hp, (∀ p ∈ cs, H p.2 = some (.tbl #[])) ∧ (K.lookup a = none → H a = some (.frz { cls := .type "list", data := .seq vs.toArray } (.lst (ns.map V.int)))) ∧
      ∀ b o, H b = some o → (o = .tbl #[] ∧ ∃ p ∈ cs, p.2 = b) ∨ (o = .frz { cls := .type "list", data := .seq vs.toArray } (.lst (ns.map V.int)) ∧ b = a ∧ K.lookup a = none) := by
    refine ⟨fun b => if ∃ p ∈ cs, p.2 = b then some (.tbl #[]) else if b = a ∧ K.lookup a = none then some (.frz { cls := .type "list", data := .seq vs.toArray } (.lst (ns.map V.int))) else none, fun p hp => if_pos ⟨p, hp, rfl⟩, fun hk => ?_, fun b o e => ?_⟩
    · have no : ¬ ∃ p ∈ cs, p.2 = a := fun ⟨p, hp, e⟩ => by
        have z := tab p hp
        rw [e, scr] at z
        cases z
      exact (if_neg no).trans (if_pos ⟨rfl, hk⟩)
    · by_cases c1 : ∃ p ∈ cs, p.2 = b
      · simp only [if_pos c1] at e
        exact .inl ⟨(Option.some.inj e).symm, c1⟩
      · simp only [if_neg c1] at e
        by_cases c2 : b = a ∧ K.lookup a = none
        · simp only [if_pos c2] at e
          exact .inr ⟨(Option.some.inj e).symm, c2⟩
        · simp only [if_neg c2] at e
          cases e
  have hseq : SqL K H a (ns.map V.int) := by
    cases hk : K.lookup a with
    | none => exact .inl (.inr ⟨_, hA hk⟩)
    | some o =>
      have e := kin a o hk
      rw [scr] at e
      cases e
      exact .inr ⟨_, vs.toArray, _, hk, rfl, rfl, rfl, by rw [List.size_toArray, hia.length]; exact sz, by simpa using rv⟩
  have ok : HOk P w H s.heap := fun b o e => by
    rcases hN b o e with ⟨rfl, p, hp, rfl⟩ | ⟨rfl, rfl, _⟩
    · exact tab p hp
    · exact ⟨scr, by rw [List.length_map]; exact sz, vs, _, rv, scr⟩
  -- an object of another shape is not tracked
  have off : ∀ {b : Addr} {o : Obj}, s.heap.get? b = some o → (∀ z n, o.data ≠ .seq z n) → o.data ≠ .fields #[] → H b = none := fun {b o} e h1 h2 => by
    cases q : H b with
    | none => rfl
    | some u =>
      rcases hN b u q with ⟨_, p, hp, rfl⟩ | ⟨_, rfl, _⟩
      · rw [tab p hp] at e
        cases e
        exact (h2 rfl).elim
      · rw [scr] at e
        cases e
        exact (h1 _ _ rfl).elim
  have offD : ∀ {b : Addr} {m : Str → Option Value}, s.heap.Ns b m → (hidT s.heap H).Ns b m := fun {b m} ⟨o, es, ep, e, d, r⟩ =>
    ⟨o, es, ep, hidT_get e (off e (fun z n y => by rw [d] at y; cases y) (fun y => by rw [d] at y; cases y)), d, r⟩
  have kinB : K.In (hidT s.heap H) := fun b o e => hidT_get (kin b o e) (by
    cases q : H b with
    | none => rfl
    | some u =>
      rcases hN b u q with ⟨_, p, hp, rfl⟩ | ⟨_, rfl, hk⟩
      · rw [out p hp] at e; cases e
      · rw [hk] at e; cases e)
  have md : L2.Mod K mg (hidT s.heap H) := ⟨kinB, offD gl, ⟨mb, offD bl, bb⟩, let ⟨mc, h1, h2⟩ := lim; ⟨mc, offD h1, h2⟩⟩
  have TB : ∀ p ∈ cs, LamX.TabB (hidT s.heap H) mg p.1 p.2 := fun p hp => by
    refine ⟨?_, ?_, fun z => ?_⟩
    · obtain ⟨o, us, file, tf, flags, tg, inF, text, tt, e1, c1, c2, c3, r⟩ := code p hp
      refine ⟨o, us, file, tf, flags, tg, inF, text, tt, hidT_get e1 (off e1 (fun z n y => ?_) (fun y => ?_)), c1, c2, c3, r⟩
      · rw [c2] at y; cases y
      · rw [c2] at y
        cases y
        simp at c3
    · obtain ⟨m, o, b1, b2, b3, b4, b5, b6⟩ := bm
      refine ⟨m, o, b1, b2, fun z => ?_, fun z => ?_, hidT_get b3 (off b3 (fun z n y => by rw [b6] at y; cases y) (fun y => by rw [b6] at y; cases y)), b4, b5, b6⟩
      · obtain ⟨o', es, ep, e, d, _⟩ := gl
        rw [z, e] at b3
        cases b3
        rw [d] at b6
        cases b6
      · rw [z, tab p hp] at b3
        cases b3
        cases b6
    · obtain ⟨o', es, ep, e, d, _⟩ := gl
      rw [z, tab p hp] at e
      cases e
      cases d
  have e0 : Env0 P w K mg (hidT s.heap H) callerA [] s H :=
    ⟨rfl, md, fun _ _ e => of_hidT e, Nat.le_of_eq (hidT_size _ _), trivial, fun _ hb => absurd hb (List.not_mem_nil), ok, .of_eq gens⟩
  refine codeAny_mono ((F _ kinB (offD gl) TB).at_ (args := ⟨[.ref a], []⟩) (us := [.ref a]) (vs := [.ref a]) rfl room e0 (bind s (.ref a)) (.cons rfl .nil) (hsp H hT hseq)) fun r s' z => ?_
  match r, z with
  | .ok .next, z => exact z.elim
  | .ok .brk, z => exact z.elim
  | .ok .cont, z => exact z.elim
  | .error _, z => exact (show False from z).elim
  | .ok (.ret u), z =>
    obtain ⟨v, H', os, bare, un, ok', rel, q⟩ := z
    have q' : v = .bl true := q
    subst q'
    obtain rfl : u = Value.bool true := rel
    -- every object but the tables is as it was; the tables have grown
    have same : ∀ b o, (∀ p ∈ cs, p.2 ≠ b) → s.heap.get? b = some o → s'.heap.get? b = some o := fun b o nb e => by
      cases q : H b with
      | none => exact un.keep b o e q (fun y => absurd y List.not_mem_nil) (fun y => absurd y List.not_mem_nil)
      | some t =>
        rcases hN b t q with ⟨_, p, hp, y⟩ | ⟨rfl, rfl, _⟩
        · exact absurd y (nb p hp)
        · have y := ok' b _ (un.frzs b _ _ q)
          rw [scr] at e
          cases e
          exact y.1
    have grown : ∀ p ∈ cs, ∃ more : Array Value, s'.heap.get? p.2 = some { cls := .none, data := .fields more } := fun p hp => by
      obtain ⟨more, y⟩ := un.tbls p.2 #[] (hT p hp)
      exact ⟨_, ok' p.2 _ y⟩
    refine ⟨rfl, ⟨fun b o e => ?_, fun b o e => ?_⟩, os, bare⟩
    · by_cases c : ∃ p ∈ cs, p.2 = b
      · obtain ⟨p, hp, rfl⟩ := c
        obtain ⟨more, y⟩ := grown p hp
        rw [tab p hp] at e
        cases e
        exact .inr (.inl ⟨((code p hp).tab (tab p hp)).isCodeTable, rfl, #[], more, rfl, by rw [Array.empty_append]; exact y⟩)
      · exact .inl (same b o (fun p hp y => c ⟨p, hp, y⟩) e)
    · by_cases c : ∃ p ∈ cs, p.2 = b
      · obtain ⟨p, hp, rfl⟩ := c
        obtain ⟨more, y⟩ := grown p hp
        exact ⟨_, y⟩
      · exact ⟨o, same b o (fun p hp y => c ⟨p, hp, y⟩) e⟩
/-- what is known of the law's def at the head's heap -/
def LawG (l : PySem.W.OpenLaw) (w : World) (K : PySem.W.Frag) (k n : Nat) (x : Str) (mg : Str → Option Value) (fa : Addr) (h : Heap) : Prop :=
  ∃ (fd : FuncData) (cs : List (Addr × Addr)) (sp : Sp), (∀ p ∈ cs, h.get? p.2 = some { cls := .none, data := .fields #[] }) ∧ (∀ p ∈ cs, K.lookup p.2 = none) ∧ (∀ p ∈ cs, PySem.W.CodeHd h p.1 p.2) ∧ (∀ (s : Shared) (u : Value), BindsTo s fd ⟨[u], []⟩ [(x, u)]) ∧
    (∀ (H : Hp) (a : Addr) (ns : List Int), ns.length ≤ n → (∀ p ∈ cs, H p.2 = some (.tbl #[])) → SqL K H a (ns.map V.int) → sp [.ref a] H (fun v _ => v = .bl true) fun _ _ _ => False) ∧
    ∀ base : Heap, K.In base → base.Ns mainGlobals mg → (∀ p ∈ cs, LamX.TabB base mg p.1 p.2) → FnG l.prog w K mg base k fa fd [x] sp
theorem walkG {l : PySem.W.OpenLaw} {n k : Nat} {q : Program} {loose : List Str} {XP : (Str → Option Value) → Heap → Prop} {YP : World → Heap → Prop} {d : DefRec} {K : Params → PySem.W.Frag} {x : Str}
    (hn : l.most = some n) (hn2 : n ≤ sizeLine) (hdf : d.params.defaults = []) (hr : Room k callerA) (hY : ∀ (w : World) (h : Heap), YP w h → (K w.params).In h)
    (F : ∀ (w : World) (mg : Str → Option Value) (fa : Addr) (h : Heap), YP w h → (K w.params).In h → h.Ns mainGlobals mg → mg d.name = some (.ref fa) → LawG l w (K w.params) k n x mg fa h) :
    PySem.W.WalkO q loose XP YP l.row.toRowW d [] (fun f vs => PySem.call f vs) := by
  refine Att.attach_callB hn hdf fun w s₀ s₁ mg mb fa o pm cd doc a vs ns G Y ho hd hcd hmg hobj hints hlen hbits hg => ?_
  obtain ⟨fd, cs, sp, h1, h2, h3, h4, h5, h6⟩ := F w mg fa _ Y (hY w _ Y) G.T.g hmg
  exact endG (hY w _ Y) G.T.g G.T.b G.T.builtins G.T.nolimit hg h1 h2 h3 G.T.bmain hobj hints (Nat.le_trans hlen hn2) hr h6 h4 fun H t sq => h5 H a ns hlen t sq
end VG


set_option Elab.async false
set_option maxRecDepth 100000
set_option maxHeartbeats 4000000
/-! repr of plain data; how often a value lies in a list. -/
namespace VG
open PySem PySem.Spec PyProof.Rows L2
inductive Fl : V → PyData → Prop where
  | non : Fl .non .none
  | bl (b : Bool) : Fl (.bl b) (.bool b)
  | int (n : Int) : Fl (.int n) (.int n)
  | str (s : Str) : Fl (.str s) (.str s)
inductive Fls : List V → List PyData → Prop where
  | nil : Fls [] []
  | cons {v d vs ds} : Fl v d → Fls vs ds → Fls (v :: vs) (d :: ds)
/-- what a value shows, as the abstract heap tells it -/
inductive Sh (H : Hp) : V → PyData → Prop where
  | fl {v d} (h : Fl v d) : Sh H v d
  | lst {p xs ds} (h : H p = some (.lst xs)) (f : Fls xs ds) : Sh H (.ref p) (.list ds)
  | tup {p xs ds} (h : H p = some (.tup xs)) (f : Fls xs ds) : Sh H (.ref p) (.tuple ds)
  | dct {p} (h : H p = some (.dK [])) : Sh H (.ref p) (.dict [])
theorem Fls.flat : ∀ {vs : List V} {ds : List PyData}, Fls vs ds → PyData.depthAll ds = 0 ∧ PyData.hasDictAll ds = false
  | _, _, .nil => ⟨rfl, rfl⟩
  | _, _, .cons a r => by
    obtain ⟨h1, h2⟩ := r.flat
    cases a <;> exact ⟨by show max _ _ = 0; rw [h1]; rfl, by show (_ || _) = false; rw [h2]; rfl⟩
theorem reads_fl {h : Heap} {v : V} {d : PyData} {u : Value} (f : Fl v d) (r : RelV v u) : Reads h u d [] := by
  cases f with
  | non => cases (show u = Value.none from r); exact .none
  | bl b => cases (show u = Value.bool b from r); exact .bool b
  | int n => obtain ⟨t, rfl⟩ := (show ∃ t, u = Value.int n t from r); exact .int n t
  | str s => obtain ⟨t, rfl⟩ := (show ∃ t, u = Value.str s t from r); exact .str s t
theorem reads_fls {h : Heap} : ∀ {vs : List V} {ds : List PyData} {us : List Value}, Fls vs ds → Vals vs us → ReadsAll h us ds []
  | _, _, _, .nil, .nil => .nil
  | _, _, _, .cons a b, .cons r t => by
    have z := ReadsAll.cons (reads_fl (h := h) a r) (reads_fls b t)
    exact z
section
variable {X : Cx}
/-- repr(v), where no repr is under way -/
def rRepr : List V → Hp → VK → Prop := fun xs H Q => ∃ (v : V) (d : PyData), xs = [v] ∧ Sh H v d ∧ d.showable = true ∧ d.shown.length ≤ sizeLine ∧ Q (.str d.shown) H
theorem call_repr (gd : X.A.guards = some []) (hu : X.A.units + 10 < cLine) : CallR X (.builtin "repr") rRepr := by
  intro pins s σ H xs us Q I r h
  obtain ⟨v, d, rfl, sh, hs, hz, q⟩ := h
  obtain ⟨u, rfl, ru⟩ : ∃ u, us = [u] ∧ RelV v u := by
    cases r with
    | cons a b => cases b; exact ⟨_, rfl, a⟩
  have fin : ∀ (h' : Heap) (t : Tok) (tk : Tok), (∀ b o, s.heap.get? b = some o → h'.get? b = some o) → EP X pins σ Q (.str d.shown t) { s with heap := h', toks := tk } := fun h' t tk k => ⟨.str d.shown, H, I.kept (t' := tk) k, ⟨t, rfl⟩, q⟩
  cases sh with
  | fl f =>
    cases f with
    | non => cases (show u = Value.none from ru); exact PySem.P.repr_of_none (fin s.heap _ _ fun _ _ z => z)
    | bl b => cases (show u = Value.bool b from ru); refine PySem.P.repr_of_bool ?_; cases b <;> exact fin s.heap _ _ fun _ _ z => z
    | int n => obtain ⟨t, rfl⟩ := (show ∃ t, u = Value.int n t from ru); exact PySem.P.repr_of_int (of_decide_eq_true hs) (fin s.heap _ _ fun _ _ z => z)
    | str x => obtain ⟨t, rfl⟩ := (show ∃ t, u = Value.str x t from ru); exact PySem.P.repr_of_str (fin s.heap _ _ fun _ _ z => z) hz
  | @lst p vs ds hp f =>
    cases (show u = Value.ref p from ru)
    obtain ⟨_, its, n, rv, ho⟩ := (show ObjOk X.prog X.w H s.heap p (.lst vs) from I.hok p _ hp)
    obtain ⟨f1, f2⟩ := f.flat
    have rd : Reads s.heap (.ref p) (.list ds) (p :: []) := .list ho rfl rfl (reads_fls f rv)
    refine repr_of_reads' rd hs (PyData.noDict_hsm f2) gd ?_ (fun _ _ e => e) (fun h' t tk k => fin h' t tk k) hz
    show X.A.units + (PyData.depthAll ds + 1 + 1) < cLine
    rw [f1]
    omega
  | @tup p vs ds hp f =>
    cases (show u = Value.ref p from ru)
    obtain ⟨_, its, rv, o, h1, h2, n, h3⟩ := (show ObjOk X.prog X.w H s.heap p (.tup vs) from I.hok p _ hp)
    obtain ⟨f1, f2⟩ := f.flat
    have rd : Reads s.heap (.ref p) (.tuple ds) [] := .tuple h1 h2 h3 (reads_fls f rv)
    refine repr_of_reads' rd hs (PyData.noDict_hsm f2) gd ?_ (fun _ _ e => e) (fun h' t tk k => fin h' t tk k) hz
    show X.A.units + (PyData.depthAll ds + 1 + 1) < cLine
    rw [f1]
    omega
  | @dct p hp =>
    cases (show u = Value.ref p from ru)
    obtain ⟨_, hm, vs, kv, o, es, ep, h1, h2, h3⟩ := (show ObjOk X.prog X.w H s.heap p (.dK []) from I.hok p _ hp)
    cases kv
    obtain ⟨hd, _, hp2, _⟩ := h3
    have he : es.toList = [] := by
      generalize es.toList = l at hp2
      cases hp2
      rfl
    have rd : Reads s.heap (.ref p) (.dict []) (p :: [] ++ []) := .dict h1 h2.1 hd (by rw [he]; exact .nil) (by rw [he]; exact .nil)
    refine repr_of_reads' rd hs (fun _ z => ?_) gd ?_ (fun _ _ e => e) (fun h' t tk k => fin h' t tk k) hz
    · have z' : sysModules = p := by simpa using z
      rw [z'] at hm
      simp at hm
    · show X.A.units + (0 + 1 + 1) < cLine
      omega
/-- how often a plain value lies in a list of such -/
def rCount (K : PySem.W.Frag) : V → List V → Hp → VK → Prop := fun x xs H Q => ∃ (a : Addr) (ys : List V) (y : V), x = .ref a ∧ xs = [y] ∧ SqL K H a ys ∧ flatV y = true ∧ ys.all flatV = true ∧ Q (.int ((ys.countP fun z => eqV z y : Nat) : Int)) H
theorem countP_vals {y : V} : ∀ {ys : List V} {us : List Value}, Vals ys us → ys.all flatV = true → us.countP (eqU y) = ys.countP fun z => eqV z y
  | _, _, .nil, _ => rfl
  | z :: ys, u :: us, .cons r t, f => by
    rw [List.all_cons, Bool.and_eq_true] at f
    rw [List.countP_cons, List.countP_cons, countP_vals t f.2, eqU_of r f.1]
theorem mt_count : MtR X "list.count" (rCount X.K) := by
  intro pins s σ H x xs v us Q I rx rxs h
  obtain ⟨a, ys, y, rfl, rfl, hs, fy, fys, q⟩ := h
  cases (show v = Value.ref a from rx)
  obtain ⟨u, rfl, ru⟩ := rxs.one
  obtain ⟨its, rv, ⟨⟨cls, dd, data, sl⟩, n, ho, hc, hdn, hd⟩, hlen⟩ := I.list hs
  simp only at hc hd
  subst hc hd
  refine call_meets PySem.F.slot_list_count ⟨_, ho, rfl⟩ PySem.F.entry_list_count (PySem.F.args_list_count_2 _ _) (SeqAt.list_countAt a its.toArray n dd sl u (eqU y)) ⟨ho, fun z hz => mem_eqAt ru fy rv fys z (by simpa using hz), ?_⟩
  rw [List.toList_toArray, countP_vals rv fys]
  exact ⟨.int _, H, I.tok _, ⟨_, rfl⟩, q⟩
end
end VG


set_option Elab.async false
set_option maxRecDepth 100000
set_option maxHeartbeats 4000000
/-! try with two clauses that name what they catch; whatever the body raises is caught. -/
namespace VG
open PySem PySem.Spec PyProof.Rows L2
/-- an exception at a, landed: the state is h3's, the slots and the abstract heap as when it was raised -/
structure Down (X : Cx) (pins : List (Addr × Obj)) (a : Addr) (cls : Value) (d : Option Addr) (σ : L2.St) (H : Hp) (sI : Shared) (B h3 : Heap) (s' : Shared) : Prop where
  inv : Inv X pins σ H sI
  nb : ∀ b o, sI.heap.get? b = some o → b ∉ frs X.stack → B.get? b = some o
  fly : HandSPX.FlyingZ B (X.env :: X.outer) a (Zc cls d) h3
  up : sI.heap.UpToSlots h3
  os : s'.os = sI.os
  bare : AllBare s'.gens
  new : H a = none
section
variable {X : Cx} {pins : List (Addr × Obj)} {a : Addr} {cls : Value} {d : Option Addr} {σ : L2.St} {H : Hp} {sI s' : Shared} {B h3 : Heap}
theorem Down.at_ (y : Down X pins a cls d σ H sI B h3 s') : Inv X pins σ H { s' with heap := h3 } := y.inv.landed y.nb y.fly.1 y.up y.os y.bare
/-- as a suite sees it -/
theorem Down.seen (y : Down X pins a cls d σ H sI B h3 s') (hf : X.env.frame = some X.env.locals) : ∃ (oe : Obj) (vs : Array Value), h3.get? a = some oe ∧ Zc cls d oe ∧ oe.data = .fields vs ∧ Inv (X.suite a ((a, oe) :: (X.pn ++ pins))) [] σ H { s' with heap := h3 } := by
  obtain ⟨oe, vs, e1, e2, e3⟩ := y.fly.there
  have out : a ∉ frs (X.env :: X.outer) := fun hm => by
    obtain ⟨_, o, eo, ho⟩ := y.fly.2.2.1.mem hm
    rw [e1] at eo
    cases eo
    exact ho _ e3
  have o1 : a ≠ X.env.locals := fun z => out (List.mem_filterMap.mpr ⟨X.env, .head _, by rw [hf, z]⟩)
  have o2 : a ∉ X.fs := fun hm => out (let ⟨v, hv, q⟩ := List.mem_filterMap.mp hm; List.mem_filterMap.mpr ⟨v, .tail _ hv, q⟩)
  exact ⟨oe, vs, e1, e2, e3, y.at_.suite e1 e3 y.new o1 o2⟩
/-- the clause's class is asked -/
theorem Down.ask (y : Down X pins a cls d σ H sI B h3 s') (hf : X.env.frame = some X.env.locals) {x : Str} {c : Value} {np : Pos} {b : Bool} {E : Value → Shared → Prop} {R : Bool → Shared → Prop} (nm : Names X x c) (m : PySem.W.exmOne X.K cls c = some b)
    (r : R b { s' with heap := h3 }) : wpAny (model X.prog X.w) (X.A.mark (some (.ref a))) (eval (.Name x np) X.env) (fun cv s1 => wpAny (model X.prog X.w) (X.A.mark (some (.ref a))) (excMatches (.ref a) cv) R E s1) E { s' with heap := h3 } := by
  obtain ⟨oe, vs, e1, e2, e3, J⟩ := y.seen hf
  have ty : PySem.W.Looks (model X.prog X.w) h3 (typeOf (.ref a)) cls := fun A Q E s k q => wpAny_typeOf_ref (k _ _ e1) (by rw [e2.1]; exact q)
  have lm := PySem.W.exm_one (M := model X.prog X.w) y.at_.kIn ty m
  obtain ⟨g1, g2, g3⟩ := nm
  rcases g3 with g3 | ⟨g3, g4, g5⟩
  · exact ld_glob (X := X.suite a ((a, oe) :: (X.pn ++ pins))) J g1 g3 (lm.here r) g2
  · exact ld_blt (X := X.suite a ((a, oe) :: (X.pn ++ pins))) J g1 g3 g4 (lm.here r) g5 g2
/-- a clause that does not match -/
theorem Down.skip (y : Down X pins a cls d σ H sI B h3 s') (hf : X.env.frame = some X.env.locals) {x : Str} {c : Value} {np pos : Pos} {nm : Option Str} {body : List Stmt} {rest : List ExceptHandler} {D : Ends} (n : Names X x c) (m : PySem.W.exmOne X.K cls c = some false)
    (h : wpAny (model X.prog X.w) X.A (handleBy (.ref a) X.env rest) (SP X pins D) X.xe { s' with heap := h3 }) :
    wpAny (model X.prog X.w) X.A (handleBy (.ref a) X.env (.ExceptHandler (some (.Name x np)) nm body pos :: rest)) (SP X pins D) X.xe { s' with heap := h3 } :=
  wpAny_handleBy_cons (codeAny_handlers_test (y.ask hf n m h)) fun z => nomatch z
/-- a clause that matches: its suite, then its name goes -/
theorem Down.take (y : Down X pins a cls d σ H sI B h3 s') (hf : X.env.frame = some X.env.locals) {x n : Str} {i : Nat} {c : Value} {np pos : Pos} {b₀ : Stmt} {body : List Stmt} {rest : List ExceptHandler} {D : Ends} {ts : TS} (nm : Names X x c) (m : PySem.W.exmOne X.K cls c = some true)
    (hN : X.N.Nodup) (hi : X.N[i]? = some n) (hl : X.env.kindOf n = some .local)
    (su : ∀ (oe : Obj) (pn : List (Addr × Obj)), Zc cls d oe → (∃ vs, oe.data = .fields vs) → PSs (X.suite a ((a, oe) :: pn)) (b₀ :: body) ts)
    (h : ts { nx := fun σ' H' => D.nx (σ'.set i none) H', rt := D.rt, bk := fun σ' H' => D.bk (σ'.set i none) H', ct := fun σ' H' => D.ct (σ'.set i none) H' } (σ.set i (some (.ref a))) H) :
    wpAny (model X.prog X.w) X.A (handleBy (.ref a) X.env (.ExceptHandler (some (.Name x np)) (some n) (b₀ :: body) pos :: rest)) (SP X pins D) X.xe { s' with heap := h3 } := by
  have ok := y.inv.ok
  refine wpAny_handleBy_cons (codeAny_handlers_test (y.ask hf nm m (codeAny_handlers_suite_as ?_))) fun z => nomatch z
  refine HandSPX.lands_againZ y.fly fun h4 f4 u4 => ?_
  have y4 : Down X pins a cls d σ H sI B h4 s' := ⟨y.inv, y.nb, f4, y.up.trans u4, y.os, y.bare, y.new⟩
  obtain ⟨oe, vs, e1, e2, e3, J⟩ := y4.seen hf
  refine store_ok (X := X.suite a ((a, oe) :: (X.pn ++ pins))) (v := .ref a) J hN hi (.inl hl) rfl (fun s5 J5 => ?_) (.inr hl)
  refine wpAny_mono ((su oe (X.pn ++ pins) e2 ⟨_, e3⟩).run [] s5 _ H _ J5 h) (fun fl s6 z => ?_) fun _ _ z => z.elim
  match fl, z with
  | .next, ⟨_, _, J6, q⟩ => exact gone_ok (J6.unsuite ok) hN hi hl fun _ J7 => ⟨_, _, J7, q⟩
  | .brk, ⟨_, _, J6, q⟩ => exact gone_ok (J6.unsuite ok) hN hi hl fun _ J7 => ⟨_, _, J7, q⟩
  | .cont, ⟨_, _, J6, q⟩ => exact gone_ok (J6.unsuite ok) hN hi hl fun _ J7 => ⟨_, _, J7, q⟩
  | .ret _, ⟨_, _, _, J6, r6, q⟩ => exact gone_ok (J6.unsuite ok) hN hi hl fun _ J7 => ⟨_, _, _, J7, r6, q⟩
end
/-- what two clauses 'except x as n' wish of what the body raises; nothing else is raised -/
def wTwo (K : PySem.W.Frag) (nl i : Nat) (c1 c2 : Value) (t1 t2 : Addr → Value → Option Addr → TS) (D : Ends) : WX := fun cls d σ H => σ.length = nl →
  (PySem.W.exmOne K cls c1 = some true ∧ ∀ a, H a = none → t1 a cls d { nx := fun σ' H' => D.nx (σ'.set i none) H', rt := D.rt, bk := fun σ' H' => D.bk (σ'.set i none) H', ct := fun σ' H' => D.ct (σ'.set i none) H' } (σ.set i (some (.ref a))) H) ∨
  (PySem.W.exmOne K cls c1 = some false ∧ PySem.W.exmOne K cls c2 = some true ∧ ∀ a, H a = none → t2 a cls d { nx := fun σ' H' => D.nx (σ'.set i none) H', rt := D.rt, bk := fun σ' H' => D.bk (σ'.set i none) H', ct := fun σ' H' => D.ct (σ'.set i none) H' } (σ.set i (some (.ref a))) H)
section
variable {X : Cx} {x1 x2 n : Str} {c1 c2 : Value} {i : Nat} {body r1 r2 : List Stmt} {b1 b2 : Stmt} {n1 n2 p1 p2 pos : Pos} {tb : WX → TS} {t1 t2 : Addr → Value → Option Addr → TS}
theorem ps_try_two (hs : X.stack = X.env :: X.outer) (hf : X.env.frame = some X.env.locals) (hN : X.N.Nodup) (hi : X.N[i]? = some n) (hl : X.env.kindOf n = some .local) (m1 : Names X x1 c1) (m2 : Names X x2 c2)
    (hb : ∀ (W : WX) (pn : List (Addr × Obj)) (xe : Value → Shared → Prop), Takes (X.tr pn xe) W → PassesOwn (model X.prog X.w) X.A X.env xe → PSs (X.tr pn xe) body (tb W))
    (s1 : ∀ (a : Addr) (oe : Obj) (cls : Value) (d : Option Addr) (pn : List (Addr × Obj)), Zc cls d oe → (∃ vs, oe.data = .fields vs) → PSs (X.suite a ((a, oe) :: pn)) (b1 :: r1) (t1 a cls d))
    (s2 : ∀ (a : Addr) (oe : Obj) (cls : Value) (d : Option Addr) (pn : List (Addr × Obj)), Zc cls d oe → (∃ vs, oe.data = .fields vs) → PSs (X.suite a ((a, oe) :: pn)) (b2 :: r2) (t2 a cls d)) :
    PS X (.Try body [.ExceptHandler (some (.Name x1 n1)) (some n) (b1 :: r1) p1, .ExceptHandler (some (.Name x2 n2)) (some n) (b2 :: r2) p2] [] [] pos) (fun D σ H => tb (wTwo X.K X.N.length i c1 c2 t1 t2 D) D σ H) := by
  constructor
  intro pins s σ H D I h
  have ok := I.ok
  have fr : X.A.frames = some (X.env :: X.outer) := ok.frames.trans (congrArg some hs)
  refine wpAny_Try_except (wpAny_mono ((hb (wTwo X.K X.N.length i c1 c2 t1 t2 D) (X.pn ++ pins) _ (fun u s2' xx => ?_) PassesOwn.looking).run [] s σ H D (I.toTry _) h) (fun fl s3 z => ?_) fun _ _ z => z)
  · obtain ⟨a, B, sI, pins', σ', H', cls, d, rfl, J', nb, up, sky, na, os, ag, wish⟩ := xx
    have J : Inv X pins σ' H' sI := J'.ofTry ok
    rw [show (X.tr (X.pn ++ pins) _).stack = X.env :: X.outer from hs] at sky
    refine Sky.land Zc.steady fr hf sky fun h3 f3 u3 => ?_
    have y : Down X pins a cls d σ' H' sI B h3 s2' := ⟨J, nb, f3, up.trans u3, os, ag, na⟩
    rcases wish J.len with ⟨w1, w2⟩ | ⟨w1, w2, w3⟩
    · exact y.take hf m1 w1 hN hi hl (fun oe pn z1 z2 => s1 a oe cls d pn z1 z2) (w2 a na)
    · exact y.skip hf m1 w1 (y.take hf m2 w2 hN hi hl (fun oe pn z1 z2 => s2 a oe cls d pn z1 z2) (w3 a na))
  · match fl, z with
    | .next, ⟨_, _, J, q⟩ => exact wpAny_execs_nil ⟨_, _, J.ofTry ok, q⟩
    | .brk, ⟨_, _, J, q⟩ => exact ⟨_, _, J.ofTry ok, q⟩
    | .cont, ⟨_, _, J, q⟩ => exact ⟨_, _, J.ofTry ok, q⟩
    | .ret _, ⟨_, _, _, J, r, q⟩ => exact ⟨_, _, _, J.ofTry ok, r, q⟩
end
end VG


set_option Elab.async false
set_option maxRecDepth 100000
set_option maxHeartbeats 4000000
set_option exponentiation.threshold 3000
namespace Vf
open PySem L2 SX Vm
/-- a value that may stand where it is wrong: plain, and it can be shown -/
structure Odd (H : Hp) (v : V) : Prop where
  pl : ∃ t, Pl H v t
  sh : ∃ d : PyData, VG.Sh H v d ∧ d.showable = true ∧ d.shown.length ≤ 1000 ∧ PyData.canLay0 (.str (("number " : Str) ++ d.shown)) = true
/-- the error classes below PrefixError, and their words -/
def kC (CS CX CO : Addr) : Nat → Addr
  | 0 => CS
  | 1 => CX
  | _ => CO
def kw : Nat → Str
  | 0 => "stream"
  | 1 => "prefix"
  | _ => "operation"
/-- what the law's try gives: nothing, the number's text, or the error's word -/
def TTold (CN CS CX CO : Addr) : (XK → Hp → VK → Prop) → Hp → VK → Prop := fun tl H Q => tl (fun cls d H' =>
  (∃ (dd : Addr) (v : V) (pd : PyData), cls = .ref CN ∧ d = some dd ∧ H' dd = some (.xd [(("value" : Str), v)]) ∧ VG.Sh H' v pd ∧ pd.showable = true ∧ pd.shown.length ≤ 1000 ∧ Q (.str (("number " : Str) ++ pd.shown)) H') ∨
  (∃ k, k < 3 ∧ cls = .ref (kC CS CX CO k) ∧ d = none ∧ ∀ H'', Same H' H'' → Q (.str (kw k)) H'')) H (fun _ H' => Q .non H')
structure ToldTxt (K : PySem.W.Frag) (mg : Str → Option Value) (CN CP CS CX CO : Addr) : Prop where
  gN : mg "InvalidNumber" = some (.ref CN)
  gP : mg "PrefixError" = some (.ref CP)
  gS : mg "InvalidStream" = some (.ref CS)
  gX : mg "InvalidPrefix" = some (.ref CX)
  gO : mg "InvalidOperation" = some (.ref CO)
  rep : mg "repr" = none
  isi : mg "isinstance" = none
  nn : PySem.W.exmOne K (.ref CN) (.ref CN) = some true
  sn : ∀ k, PySem.W.exmOne K (.ref (kC CS CX CO k)) (.ref CN) = some false
  sp : ∀ k, PySem.W.exmOne K (.ref (kC CS CX CO k)) (.ref CP) = some true
  xf : XfC K CN
  nov : PySem.W.findIn K (.ref CN) "value" = some none
  ec : ∀ k, ExcC K (kC CS CX CO k)
  kS : ∀ k, k < 3 → PySem.W.kitOne K (.ref (kC CS CX CO k)) (.ref CS) = some (decide (k = 0))
  kX : ∀ k, k < 3 → PySem.W.kitOne K (.ref (kC CS CX CO k)) (.ref CX) = some (decide (k = 1))
  kO : ∀ k, k < 3 → PySem.W.kitOne K (.ref (kC CS CX CO k)) (.ref CO) = some (decide (k = 2))
section
variable {X : Cx}
theorem pss_when {body : List Stmt} {p : Prop} {t : TS} (h : p → PSs X body t) : PSs X body (fun D σ H => p ∧ t D σ H) := ⟨fun pins s σ H D I q => (h q.1).run pins s σ H D I q.2⟩
theorem pss_ex {α : Type} {body : List Stmt} {p : α → Prop} {t : α → TS} (h : ∀ k, p k → PSs X body (t k)) : PSs X body (fun D σ H => ∃ k, p k ∧ t k D σ H) := ⟨fun pins s σ H D I q => by
  obtain ⟨k, pk, tk⟩ := q
  exact (h k pk).run pins s σ H D I tk⟩
theorem pss_imp {body : List Stmt} {t t' : TS} (h : PSs X body t) (imp : ∀ D σ H, σ.length = X.N.length → t' D σ H → t D σ H) : PSs X body t' := ⟨fun pins s σ H D I q => h.run pins s σ H D I (imp D σ H I.len q)⟩
theorem scTold : FnScope ["call", "e", "kinds"] ["call"] (defScope sTold) := ⟨rfl, rfl, rfl, by decide +kernel, rfl, by decide +kernel, by decide +kernel⟩
theorem told_gives {CN CP CS CX CO g : Addr} {cdg : Value} {q : Str} (T : ToldTxt X.K X.mg CN CP CS CX CO) (gd : X.A.guards = some []) (hu : X.A.units + 20 < cLine) : LamX.GivesTo X ["call", "e", "kinds"] "_law_told" (defScope sTold) g cdg (defBody sTold) "call" q (TTold CN CS CX CO) := by
  intro f c' s H Q tl act hc h
  have nd := scTold.nd
  refine ⟨_, pss_cons (VG.ps_try_two (X := (cxOf C8.CX0 X.prog X.w X.K X.mg X.base ["call", "e", "kinds"] "_law_told" (defScope sTold) g cdg X.A X.stack s H C8.E0).nox) (c1 := .ref CN) (c2 := .ref CP) (i := 1)
      (tb := fun W D σ H => ∃ Ech : XK, (∀ cls d σ' H', Ech cls d H' → W cls d σ' H') ∧ σ[0]? = some (some (.ref f)) ∧ H c' = some (LamX.CodeO c' q) ∧ tl Ech H fun _ H' => D.nx σ H')
      (t2 := fun a cls d D σ H => ∃ k, (k < 3 ∧ cls = .ref (kC CS CX CO k) ∧ d = none) ∧ σ[1]? = some (some (.ref a)) ∧ ∀ H'', Same H H'' → D.rt (.str (kw k)) H'')
      rfl rfl nd rfl rfl ⟨by rfl, by decide, .inl T.gN⟩ ⟨by rfl, by decide, .inl T.gP⟩ (fun W pn xe tk _ => ?_)
      (fun a oe cls d pn hz hf => pss_one (ps_ret (pe_op op_add_str pe_str (pe_callB (VG.call_repr gd (by show X.A.units + 3 + 10 < cLine; omega)) (by rfl) T.rep PyProof.Rows.boot_repr (pa_cons (pe_xf T.xf T.nov hz hf (pv 1)) pa_nil)))))
      (fun a oe cls d pn hz hf => ?_)) (pss_one (ps_ret pe_non)), ?_⟩
  · refine ⟨fun pins s' σ H' D I h' => ?_⟩
    obtain ⟨Ech, hW, h1, h2, h3⟩ := h'
    exact (pss_one (ps_expr (act W pn xe Ech _ _ tk hW))).run pins s' σ H' D I ⟨h1, h2, h3⟩
  · refine pss_ex fun k hp => ?_
    obtain ⟨hk3, rfl, rfl⟩ := hp
    refine pss_imp (pss_cons (ps_set (i := 2) nd rfl (.inl rfl) (pe_lst
        (pa_cons (pe_callB (call_isE (T.ec k) hz hf) (by rfl) T.isi PyProof.Rows.boot_isinstance (pa_cons (pv 1) (pa_cons (pe_glob (v := .ref CS) rfl T.gS rfl) pa_nil)))
        (pa_cons (pe_callB (call_isE (T.ec k) hz hf) (by rfl) T.isi PyProof.Rows.boot_isinstance (pa_cons (pv 1) (pa_cons (pe_glob (v := .ref CX) rfl T.gX rfl) pa_nil)))
        (pa_cons (pe_callB (call_isE (T.ec k) hz hf) (by rfl) T.isi PyProof.Rows.boot_isinstance (pa_cons (pv 1) (pa_cons (pe_glob (v := .ref CO) rfl T.gO rfl) pa_nil))) pa_nil)))))
      (pss_one (ps_ret (pe_ifExp (pt_cmpR op_eq (pe_bm PySem.F.plainAttrs_list PySem.F.slot_list_count PySem.F.type_list_count VG.mt_count (pv 2) (pa_cons pe_bl pa_nil)) pe_int (nomark _))
        (pe_ix ix_list (pe_lst (pa_cons pe_str (pa_cons pe_str (pa_cons pe_str pa_nil)))) (pe_bm PySem.F.plainAttrs_list PySem.F.slot_list_index PySem.F.type_list_index mt_index (pv 2) (pa_cons pe_bl pa_nil)) (fun _ _ => rfl)) pe_str)))) ?_
    rintro D σ H1 l3 ⟨h1, h2⟩
    have l3 : σ.length = 3 := l3
    have s2 : ∀ v : V, (σ.set 2 (some v))[2]? = some (some v) := fun v => List.getElem?_set_self (by omega)
    refine ⟨_, h1, _, _, decide (k = 0), rfl, fun u r => r, T.kS k hk3, _, h1, _, _, decide (k = 1), rfl, fun u r => r, T.kX k hk3, _, h1, _, _, decide (k = 2), rfl, fun u r => r, T.kO k hk3, (by show 3 ≤ sizeLine; decide), fun p np => ?_⟩
    have sq : SqL X.K (upd H1 p (.lst [.bl (decide (k = 0)), .bl (decide (k = 1)), .bl (decide (k = 2))])) p [.bl (decide (k = 0)), .bl (decide (k = 1)), .bl (decide (k = 2))] := SqL.of upd_same
    have k3 : k = 0 ∨ k = 1 ∨ k = 2 := by omega
    refine ⟨_, s2 _, .inl ⟨rfl, _, sq⟩, p, _, .bl true, rfl, rfl, sq, rfl, rfl, rfl, _, rfl, ?_⟩
    refine iteTB (by rcases k3 with e | e | e <;> subst e <;> rfl) ?_
    refine ⟨(by show 3 ≤ sizeLine; decide), fun p2 np2 => ?_⟩
    have n12 : p ≠ p2 := fun z => by rw [← z, upd_same] at np2; cases np2
    have sq2 : SqL X.K (upd (upd H1 p (.lst [.bl (decide (k = 0)), .bl (decide (k = 1)), .bl (decide (k = 2))])) p2 (.lst [.str "stream", .str "prefix", .str "operation"])) p [.bl (decide (k = 0)), .bl (decide (k = 1)), .bl (decide (k = 2))] := SqL.of (by rw [upd_ne n12, upd_same])
    refine ⟨_, s2 _, .inl ⟨rfl, _, sq2⟩, p, _, .bl true, k, .bl true, rfl, rfl, sq2, rfl, rfl, ?_, ?_, ?_, ?_⟩
    · rcases k3 with e | e | e <;> subst e <;> rfl
    · rfl
    · intro m z hm hz
      have hm3 : m = 0 ∨ m = 1 := by omega
      rcases k3 with e | e | e <;> subst e <;> rcases hm3 with e | e <;> subst e <;> first | omega | (cases hz; rfl)
    · refine ⟨p2, _, (k : Int), .str (kw k), rfl, rfl, SqL.of upd_same, ?_, ?_⟩
      · rcases k3 with e | e | e <;> subst e <;> rfl
      · exact h2 _ fun b o e => by
          have e1 : upd H1 p (.lst [.bl (decide (k = 0)), .bl (decide (k = 1)), .bl (decide (k = 2))]) b = some o := by rw [upd_ne (ne_of_none e np)]; exact e
          rw [upd_ne (ne_of_none e1 np2)]
          exact e1
  · refine ⟨fun cls d H' => _, fun cls d σ' H' hE hl => ?_, rfl, hc, h⟩
    have s1 : ∀ v : V, (σ'.set 1 (some v))[1]? = some (some v) := fun v => List.getElem?_set_self (by rw [hl]; show 1 < 3; decide)
    rcases hE with ⟨dd, v, pd, rfl, rfl, hd, sh, hs, hz, k⟩ | ⟨kk, hk3, rfl, rfl, k⟩
    · refine .inl ⟨T.nn, fun a _ => ?_⟩
      refine ⟨_, s1 _, rfl, rfl, dd, _, v, rfl, hd, (by simp [List.lookup]), v, pd, rfl, sh, hs, Nat.le_trans hz (by decide), _, _, rfl, rfl, ?_, k⟩
      have e : ("number " : Str).length = 7 := by decide +kernel
      rw [e]
      exact Nat.le_trans (show 7 + pd.shown.length ≤ 1007 by omega) (by decide)
    · exact .inr ⟨T.sn kk, T.sp kk, fun a _ => ⟨kk, ⟨hk3, rfl, rfl⟩, s1 _, k⟩⟩
end
end Vf


set_option Elab.async false
set_option maxRecDepth 100000
set_option maxHeartbeats 4000000
set_option exponentiation.threshold 3000
namespace Vf
open PySem L2 SX Vm
/-- what is not a base, whatever it is -/
def spNoBase : Sp := fun vs H Q _ => ∃ (a : Addr) (d : Int × Int × Int), vs = [.ref a] ∧ H a = some (.lst (dieL d)) ∧ DieOk d ∧ d.2.2 ≤ 1000000000 ∧
  ∀ (v : V) (d' : Int × Int × Int) (H' : Hp), DieOk d' → d'.2.2 ≤ d.2.2 + 1 → Kp a H H' → H' a = some (.lst (dieL d')) → Odd H' v → withinV 2 5 v = false → (∀ q, v = .ref q → q ≠ a) → Q v H'
theorem odd_int {H : Hp} (n : Int) (h1 : n.natAbs.log2 < 1920) (h2 : ((PyData.int n).shown).length ≤ 1000) (h3 : PyData.canLay0 (.str (("number " : Str) ++ (PyData.int n).shown)) = true) : Odd H (.int n) := ⟨⟨_, .int n⟩, _, .fl (.int n), decide_eq_true h1, h2, h3⟩
theorem odd_bl {H : Hp} (b : Bool) : Odd H (.bl b) := ⟨⟨_, .bl b⟩, _, .fl (.bl b), rfl, by cases b <;> decide +kernel, by cases b <;> decide +kernel⟩
theorem odd_non {H : Hp} : Odd H .non := ⟨⟨_, .non⟩, _, .fl .non, rfl, by decide +kernel, by decide +kernel⟩
theorem odd_str {H : Hp} (s : Str) (h : s.length ≤ 1000) (h2 : ((PyData.str s).shown).length ≤ 1000) (h3 : PyData.canLay0 (.str (("number " : Str) ++ (PyData.str s).shown)) = true) : Odd H (.str s) := ⟨⟨_, .str s h⟩, _, .fl (.str s), rfl, h2, h3⟩
section
variable {P : Program} {w : World} {K : PySem.W.Frag} {mg : Str → Option Value} {base : Heap}
theorem scNoBase : FnScope ["die"] ["die"] (defScope sNoBase) := ⟨rfl, rfl, rfl, by decide +kernel, rfl, by decide +kernel, by decide +kernel⟩
theorem ok_nobase {f fP : Addr} {fd fdP : FuncData} (F : Fun K "_law_no_base" "_law_no_base" sNoBase f fd) (GP : FnOk P w K mg base CX0 1 fP fdP ["die", "many"] spPull) (cP : Cal K mg "_law_pull" fP fdP ["die", "many"]) : FnOk P w K mg base CX0 2 f fd ["die"] spNoBase := by
  refine F.ok scNoBase (fun vs H Q E h => ?_) (fun cdv A outer s H vs Q E hr h => ?_)
  · obtain ⟨a, d, rfl, _⟩ := h
    rfl
  · obtain ⟨a, d, rfl, ha, hd, hc, k⟩ := h
    refine ⟨_, pss_one (ps_ret (pe_ix ix_list (pe_lst (pa_cons pe_int (pa_cons pe_int (pa_cons pe_int (pa_cons (pe_un un_neg pe_int) (pa_cons pe_bl (pa_cons pe_non (pa_cons pe_str (pa_cons (pe_tup (pa_cons pe_int pa_nil)) (pa_cons (pe_lst (pa_cons pe_int pa_nil)) (pa_cons pe_dnewK (pa_cons (pe_op op_pow pe_int pe_int) pa_nil))))))))))))
      (pe_call GP hr rfl cP.mg cP.kp cP.b .nil pass0 (pa_cons (pv 0) (pa_cons pe_int pa_nil))) (fun _ _ => rfl))), ?_⟩
    refine ⟨_, rfl, (by show 1 ≤ sizeLine; decide), fun p1 n1 => ⟨(by show 1 ≤ sizeLine; decide), fun p2 n2 p3 n3 => ⟨_, _, rfl, rfl, ⟨by decide, by decide, by decide +kernel⟩, (by show 11 ≤ sizeLine; decide), fun p n => ?_⟩⟩⟩
    have m1 := ne_of_none ha n1
    have a1 : upd H p1 (.tup [.int 2]) a = some (.lst (dieL d)) := by rw [upd_ne m1]; exact ha
    have m2 := ne_of_none a1 n2
    have a2 : upd (upd H p1 (.tup [.int 2])) p2 (.lst [.int 3]) a = some (.lst (dieL d)) := by rw [upd_ne m2]; exact a1
    have m3 := ne_of_none a2 n3
    have a3 : upd (upd (upd H p1 (.tup [.int 2])) p2 (.lst [.int 3])) p3 (.dK []) a = some (.lst (dieL d)) := by rw [upd_ne m3]; exact a2
    have m4 := ne_of_none a3 n
    have q12 : p1 ≠ p2 := ne_of_none upd_same n2
    have b1 : upd (upd H p1 (.tup [.int 2])) p2 (.lst [.int 3]) p1 = some (.tup [.int 2]) := by rw [upd_ne q12, upd_same]
    have q13 : p1 ≠ p3 := ne_of_none b1 n3
    have q23 : p2 ≠ p3 := ne_of_none upd_same n3
    have c1 : upd (upd (upd H p1 (.tup [.int 2])) p2 (.lst [.int 3])) p3 (.dK []) p1 = some (.tup [.int 2]) := by rw [upd_ne q13]; exact b1
    have c2 : upd (upd (upd H p1 (.tup [.int 2])) p2 (.lst [.int 3])) p3 (.dK []) p2 = some (.lst [.int 3]) := by rw [upd_ne q23, upd_same]
    have q1 := ne_of_none c1 n
    have q2 := ne_of_none c2 n
    have q3 : p3 ≠ p := ne_of_none upd_same n
    refine ⟨_, rfl, a, d, _, rfl, by rw [upd_ne m4]; exact a3, hd, by decide, by decide, hc, fun r d' hd' hc' r0 r1 => ?_⟩
    generalize hH : upd (upd (upd (upd (upd H p1 (.tup [.int 2])) p2 (.lst [.int 3])) p3 (.dK [])) p (.lst [V.int 0, .int 1, .int 6, .int (-2), .bl true, .non, .str "2", .ref p1, .ref p2, .ref p3, .int (10 ^ (40 : Int).toNat)])) a (.lst (dieL d')) = Hf
    have e1 : Hf p1 = some (.tup [.int 2]) := by rw [← hH, upd_ne m1.symm, upd_ne q1]; exact c1
    have e2 : Hf p2 = some (.lst [.int 3]) := by rw [← hH, upd_ne m2.symm, upd_ne q2]; exact c2
    have e3 : Hf p3 = some (.dK []) := by rw [← hH, upd_ne m3.symm, upd_ne q3, upd_same]
    have e4 : Hf p = some (.lst [V.int 0, .int 1, .int 6, .int (-2), .bl true, .non, .str "2", .ref p1, .ref p2, .ref p3, .int (10 ^ (40 : Int).toNat)]) := by rw [← hH, upd_ne m4.symm, upd_same]
    have e5 : Hf a = some (.lst (dieL d')) := by rw [← hH, upd_same]
    have kp : Kp a H Hf := by
      rw [← hH]
      exact ((((Kp.new n1).trans (Kp.new n2)).trans (Kp.new n3)).trans (Kp.new n)).trans Kp.upd
    obtain ⟨v, hv, ho, hw, hq⟩ : ∃ v, atI [V.int 0, .int 1, .int 6, .int (-2), .bl true, .non, .str "2", .ref p1, .ref p2, .ref p3, .int (10 ^ (40 : Int).toNat)] r = some v ∧ Odd Hf v ∧ withinV 2 5 v = false ∧ ∀ q, v = .ref q → q ≠ a := by
      have : r = 0 ∨ r = 1 ∨ r = 2 ∨ r = 3 ∨ r = 4 ∨ r = 5 ∨ r = 6 ∨ r = 7 ∨ r = 8 ∨ r = 9 ∨ r = 10 := by omega
      rcases this with e | e | e | e | e | e | e | e | e | e | e <;> subst e
      · exact ⟨_, rfl, odd_int _ (by decide +kernel) (by decide +kernel) (by decide +kernel), rfl, fun _ z => nomatch z⟩
      · exact ⟨_, rfl, odd_int _ (by decide +kernel) (by decide +kernel) (by decide +kernel), rfl, fun _ z => nomatch z⟩
      · exact ⟨_, rfl, odd_int _ (by decide +kernel) (by decide +kernel) (by decide +kernel), rfl, fun _ z => nomatch z⟩
      · exact ⟨_, rfl, odd_int _ (by decide +kernel) (by decide +kernel) (by decide +kernel), rfl, fun _ z => nomatch z⟩
      · exact ⟨_, rfl, odd_bl _, rfl, fun _ z => nomatch z⟩
      · exact ⟨_, rfl, odd_non, rfl, fun _ z => nomatch z⟩
      · exact ⟨_, rfl, odd_str _ (by decide +kernel) (by decide +kernel) (by decide +kernel), rfl, fun _ z => nomatch z⟩
      · exact ⟨_, rfl, ⟨⟨_, .tup e1⟩, _, .tup e1 (.cons (.int 2) .nil), rfl, by decide +kernel, by decide +kernel⟩, rfl, fun _ z => V.ref.inj z ▸ m1.symm⟩
      · exact ⟨_, rfl, ⟨⟨_, .lst e2⟩, _, .lst e2 (.cons (.int 3) .nil), rfl, by decide +kernel, by decide +kernel⟩, rfl, fun _ z => V.ref.inj z ▸ m2.symm⟩
      · exact ⟨_, rfl, ⟨⟨_, .dct e3⟩, _, .dct e3, rfl, by decide +kernel, by decide +kernel⟩, rfl, fun _ z => V.ref.inj z ▸ m3.symm⟩
      · exact ⟨_, rfl, odd_int _ (by decide +kernel) (by decide +kernel) (by decide +kernel), by decide +kernel, fun _ z => nomatch z⟩
    refine ⟨p, _, r, v, rfl, rfl, SqL.of (hH ▸ e4), hv, ?_⟩
    exact hH ▸ k v d' Hf hd' hc' kp e5 ho hw hq
/-! ### what stays -/
theorem sh_keep {H H' : Hp} {v : V} {d : PyData} (h : VG.Sh H v d) (k : ∀ q o, v = .ref q → (∀ ps, o ≠ .tbl ps) → H q = some o → H' q = some o) : VG.Sh H' v d := by
  cases h with
  | fl f => exact .fl f
  | lst e f => exact .lst (k _ _ rfl (fun _ z => nomatch z) e) f
  | tup e f => exact .tup (k _ _ rfl (fun _ z => nomatch z) e) f
  | dct e => exact .dct (k _ _ rfl (fun _ z => nomatch z) e)
theorem pl_keep {H H' : Hp} {v : V} {t : Value} (h : Pl H v t) (k : ∀ q o, v = .ref q → (∀ ps, o ≠ .tbl ps) → H q = some o → H' q = some o) : Pl H' v t := by
  cases h with
  | non => exact .non
  | bl b => exact .bl b
  | int n => exact .int n
  | str x h => exact .str x h
  | lst e => exact .lst (k _ _ rfl (fun _ z => nomatch z) e)
  | tup e => exact .tup (k _ _ rfl (fun _ z => nomatch z) e)
  | dct e => exact .dct (k _ _ rfl (fun _ z => nomatch z) e)
theorem odd_keep {H H' : Hp} {v : V} (h : Odd H v) (k : ∀ q o, v = .ref q → (∀ ps, o ≠ .tbl ps) → H q = some o → H' q = some o) : Odd H' v := by
  obtain ⟨⟨t, p⟩, d, s, r⟩ := h
  exact ⟨⟨t, pl_keep p k⟩, d, sh_keep s k, r⟩
theorem tabs_kp {T : List (Addr × Str)} {H H' : Hp} {a : Addr} {l : List V} (t : LamX.Tabs T H) (ha : H a = some (.lst l)) (k : Kp a H H') : LamX.Tabs T H' := fun p hp => by
  obtain ⟨ps, h1, h2, h3⟩ := t p hp
  have n1 : p.1 ≠ a := fun z => by rw [z, ha] at h1; cases h1
  refine ⟨ps, k _ _ n1 h1, h2, fun pos cv hc => ?_⟩
  obtain ⟨c, e1, e2⟩ := h3 pos cv hc
  have n2 : c ≠ a := fun z => by
    rw [z, ha] at e2
    unfold LamX.CodeO at e2
    cases e2
  exact ⟨c, e1, k _ _ n2 e2⟩
/-- all but a and the tables stays -/
def KT (a : Addr) (H H' : Hp) : Prop := ∀ b o, b ≠ a → (∀ ps, o ≠ .tbl ps) → H b = some o → H' b = some o
end
end Vf


set_option Elab.async false
set_option maxRecDepth 100000
set_option maxHeartbeats 8000000
set_option exponentiation.threshold 3000
namespace Vf
open PySem L2 SX Vm
open PySem.Builtin.Str PySem.StrLaws
theorem same_new {H : Hp} {p : Addr} {o : HO} (n : H p = none) : Same H (upd H p o) := fun b u e => by rw [upd_ne (ne_of_none e n)]; exact e
theorem Pl.sm {H H' : Hp} {v : V} {t : Value} (p : Pl H v t) (s : Same H H') : Pl H' v t := p.same fun b o e _ => s b o e
/-- what is not a stream, whatever it is -/
def spNoStream : Sp := fun vs H Q _ => ∃ (a : Addr) (d : Int × Int × Int) (b : Nat), vs = [.ref a, .int (b : Int)] ∧ H a = some (.lst (dieL d)) ∧ DieOk d ∧ d.2.2 ≤ 1000000000 ∧ 2 ≤ b ∧ b ≤ 5 ∧
  ∀ (v : V) (d' : Int × Int × Int) (H' : Hp), DieOk d' → d'.2.2 ≤ d.2.2 + 1 → Kp a H H' → H' a = some (.lst (dieL d')) → SF H' b 5000 v false → (∀ q, v = .ref q → q ≠ a) → Q v H'
def spNoPfx : Sp := fun vs H Q _ => ∃ (a : Addr) (d : Int × Int × Int) (b : Nat), vs = [.ref a, .int (b : Int)] ∧ H a = some (.lst (dieL d)) ∧ DieOk d ∧ d.2.2 ≤ 1000000000 ∧ 2 ≤ b ∧ b ≤ 5 ∧
  ∀ (v : V) (d' : Int × Int × Int) (H' : Hp), DieOk d' → d'.2.2 ≤ d.2.2 + 1 → Kp a H H' → H' a = some (.lst (dieL d')) → PF H' b 5000 v false → (∀ q, v = .ref q → q ≠ a) → Q v H'
theorem sfB_ends {x y : List Nat} (h : Txt.endswith (S x) ⟨#[y.getD (y.length - 1) 0]⟩ = true) : sfB x y = false := by
  unfold sfB
  rw [h, Bool.not_true, Bool.and_false]
theorem sfB_per {x y : List Nat} (t : Nat) (h0 : 0 < t) (h1 : t < y.length) (h : Per y t) : sfB x y = false := by
  unfold sfB
  rw [decide_eq_false (fun l => l.min t h0 h1 h), Bool.false_and]
theorem sf_of {H : Hp} {b : Nat} {R : Int} {p : Addr} {x y : List Nat} (e : sfB x y = false) (h : H p = some (.tup [.int 0, .str (S x), .str (S y)])) (r : withinV 0 (R - 1) (.int 0) = true) (wx : IsW b x) (wy : IsW b y) (y0 : 0 < y.length) (lx : x.length ≤ 1000) (ly : y.length ≤ 1000) : SF H b R (.ref p) false := by
  rw [← e]
  exact .fin h (fun _ => .int 0) r wx wy y0 lx ly
theorem isW_lit {b : Nat} {l : List Nat} (h : (l.all fun c => decide (48 ≤ c) && decide (c < 48 + b)) = true) : IsW (b : Int) l := fun c hc => by
  have := List.all_eq_true.mp h c hc
  simp at this
  omega
theorem isW2 {b : Nat} (b2 : 2 ≤ b) {l : List Nat} (h : (l.all fun c => decide (48 ≤ c) && decide (c < 50)) = true) : IsW (b : Int) l := fun c hc => by
  have := List.all_eq_true.mp h c hc
  simp at this
  omega
section
variable {P : Program} {w : World} {K : PySem.W.Frag} {mg : Str → Option Value} {base : Heap}
theorem scNoStream : FnScope ["die", "base", "some"] ["die", "base"] (defScope sNoStream) := ⟨rfl, rfl, rfl, by decide +kernel, rfl, by decide +kernel, by decide +kernel⟩
theorem ok_nostream {f fP : Addr} {fd fdP : FuncData} (F : Fun K "_law_no_stream" "_law_no_stream" sNoStream f fd) (GP : FnOk P w K mg base CX0 1 fP fdP ["die", "many"] spPull) (cP : Cal K mg "_law_pull" fP fdP ["die", "many"]) (ms : mg "str" = none) : FnOk P w K mg base CX0 2 f fd ["die", "base"] spNoStream := by
  refine F.ok scNoStream (fun vs H Q E h => ?_) (fun cdv A outer s H vs Q E hr h => ?_)
  · obtain ⟨a, d, b, rfl, _⟩ := h
    rfl
  · obtain ⟨a, d, b, rfl, ha, hd, hc, b2, b5, k⟩ := h
    have nd := scNoStream.nd
    refine ⟨_, pss_cons (ps_set (i := 2) nd rfl (.inl rfl) (pe_lst (pa_cons pe_non (pa_cons pe_int (pa_cons pe_str (pa_cons (pe_tup pa_nil) (pa_cons (pe_tup (pa_cons pe_int (pa_cons pe_str (pa_cons pe_str pa_nil)))) (pa_cons (pe_tup (pa_cons pe_int (pa_cons pe_str pa_nil))) (pa_cons (pe_tup (pa_cons pe_int (pa_cons pe_str (pa_cons pe_str pa_nil)))) (pa_cons (pe_tup (pa_cons pe_int (pa_cons pe_str (pa_cons pe_str pa_nil)))) (pa_cons (pe_tup (pa_cons pe_int (pa_cons pe_str (pa_cons pe_str pa_nil)))) (pa_cons (pe_lst (pa_cons pe_int (pa_cons pe_str (pa_cons pe_str pa_nil)))) pa_nil))))))))))))
      (pss_cons (ps_set (i := 2) nd rfl (.inl rfl) (pe_op op_cat (pv 2) (pe_lst (pa_cons (pe_tup (pa_cons (pe_un un_neg pe_int) (pa_cons pe_str (pa_cons pe_str pa_nil)))) (pa_cons (pe_tup (pa_cons pe_int (pa_cons pe_str (pa_cons pe_str pa_nil)))) (pa_cons (pe_tup (pa_cons pe_bl (pa_cons pe_str (pa_cons pe_str pa_nil)))) (pa_cons (pe_tup (pa_cons pe_int (pa_cons pe_str (pa_cons pe_str pa_nil)))) pa_nil)))))))
      (pss_cons (ps_expr (pe_bm PySem.F.plainAttrs_list PySem.F.slot_list_append PySem.F.type_list_append mt_append (pv 2) (pa_cons (pe_tup (pa_cons pe_int (pa_cons pe_str (pa_cons (pe_op op_add_str (pe_slice sl_str pe_str po_none (po_some (pv 1))) (pe_callTy call_str_int (by rfl) ms PyProof.Rows.boot_str (pa_cons (pv 1) pa_nil))) pa_nil)))) pa_nil)))
      (pss_cons (ps_set (i := 2) nd rfl (.inl rfl) (pe_op op_cat (pv 2) (pe_lst (pa_cons (pe_tup (pa_cons pe_int (pa_cons pe_non (pa_cons pe_str pa_nil)))) (pa_cons (pe_tup (pa_cons pe_int (pa_cons pe_str (pa_cons pe_int pa_nil)))) (pa_cons (pe_tup (pa_cons pe_str (pa_cons pe_str (pa_cons pe_str pa_nil)))) (pa_cons (pe_tup (pa_cons pe_int (pa_cons pe_str (pa_cons pe_str (pa_cons pe_str pa_nil))))) (pa_cons pe_dnewK (pa_cons (pe_tup (pa_cons pe_int (pa_cons pe_str (pa_cons pe_str pa_nil)))) (pa_cons (pe_tup (pa_cons pe_int (pa_cons pe_str (pa_cons pe_str pa_nil)))) pa_nil))))))))))
      (pss_one (ps_ret (pe_ix ix_list (pv 2) (pe_call GP hr rfl cP.mg cP.kp cP.b .nil pass0 (pa_cons (pv 0) (pa_cons pe_int pa_nil))) (fun _ _ => rfl))))))), ?_⟩
    refine ⟨(by show 0 ≤ sizeLine; decide), fun p3 n1 => ?_⟩
    have s1 : Same H (upd H p3 (.tup [])) := same_new n1
    have hp3 : upd H p3 (.tup []) p3 = some (.tup []) := upd_same
    generalize upd H p3 (.tup []) = J1 at s1 hp3 ⊢
    refine ⟨(by show 3 ≤ sizeLine; decide), fun p4 n2 => ?_⟩
    have s2 : Same J1 (upd J1 p4 (.tup [.int 0, .str "", .str ""])) := same_new n2
    have hp4 : upd J1 p4 (.tup [.int 0, .str "", .str ""]) p4 = some (.tup [.int 0, .str "", .str ""]) := upd_same
    generalize upd J1 p4 (.tup [.int 0, .str "", .str ""]) = J2 at s2 hp4 ⊢
    refine ⟨(by show 2 ≤ sizeLine; decide), fun p5 n3 => ?_⟩
    have s3 : Same J2 (upd J2 p5 (.tup [.int 0, .str "0"])) := same_new n3
    have hp5 : upd J2 p5 (.tup [.int 0, .str "0"]) p5 = some (.tup [.int 0, .str "0"]) := upd_same
    generalize upd J2 p5 (.tup [.int 0, .str "0"]) = J3 at s3 hp5 ⊢
    refine ⟨(by show 3 ≤ sizeLine; decide), fun p6 n4 => ?_⟩
    have s4 : Same J3 (upd J3 p6 (.tup [.int 0, .str "0", .str "0"])) := same_new n4
    have hp6 : upd J3 p6 (.tup [.int 0, .str "0", .str "0"]) p6 = some (.tup [.int 0, .str "0", .str "0"]) := upd_same
    generalize upd J3 p6 (.tup [.int 0, .str "0", .str "0"]) = J4 at s4 hp6 ⊢
    refine ⟨(by show 3 ≤ sizeLine; decide), fun p7 n5 => ?_⟩
    have s5 : Same J4 (upd J4 p7 (.tup [.int 0, .str "", .str "11"])) := same_new n5
    have hp7 : upd J4 p7 (.tup [.int 0, .str "", .str "11"]) p7 = some (.tup [.int 0, .str "", .str "11"]) := upd_same
    generalize upd J4 p7 (.tup [.int 0, .str "", .str "11"]) = J5 at s5 hp7 ⊢
    refine ⟨(by show 3 ≤ sizeLine; decide), fun p8 n6 => ?_⟩
    have s6 : Same J5 (upd J5 p8 (.tup [.int 0, .str "", .str "0101"])) := same_new n6
    have hp8 : upd J5 p8 (.tup [.int 0, .str "", .str "0101"]) p8 = some (.tup [.int 0, .str "", .str "0101"]) := upd_same
    generalize upd J5 p8 (.tup [.int 0, .str "", .str "0101"]) = J6 at s6 hp8 ⊢
    refine ⟨(by show 3 ≤ sizeLine; decide), fun p9 n7 => ?_⟩
    have s7 : Same J6 (upd J6 p9 (.lst [.int 0, .str "", .str "1"])) := same_new n7
    have hp9 : upd J6 p9 (.lst [.int 0, .str "", .str "1"]) p9 = some (.lst [.int 0, .str "", .str "1"]) := upd_same
    generalize upd J6 p9 (.lst [.int 0, .str "", .str "1"]) = J7 at s7 hp9 ⊢
    refine ⟨(by show 10 ≤ sizeLine; decide), fun x1 n8 => ?_⟩
    have s8 : Same J7 (upd J7 x1 (.lst [.non, .int 7, .str "0", .ref p3, .ref p4, .ref p5, .ref p6, .ref p7, .ref p8, .ref p9])) := same_new n8
    have hx1 : upd J7 x1 (.lst [.non, .int 7, .str "0", .ref p3, .ref p4, .ref p5, .ref p6, .ref p7, .ref p8, .ref p9]) x1 = some (.lst [.non, .int 7, .str "0", .ref p3, .ref p4, .ref p5, .ref p6, .ref p7, .ref p8, .ref p9]) := upd_same
    generalize upd J7 x1 (.lst [.non, .int 7, .str "0", .ref p3, .ref p4, .ref p5, .ref p6, .ref p7, .ref p8, .ref p9]) = J8 at s8 hx1 ⊢
    refine ⟨_, rfl, ?_⟩
    refine ⟨_, rfl, (by show 3 ≤ sizeLine; decide), fun p10 n9 => ?_⟩
    have s9 : Same J8 (upd J8 p10 (.tup [.int (-1), .str "", .str "1"])) := same_new n9
    have hp10 : upd J8 p10 (.tup [.int (-1), .str "", .str "1"]) p10 = some (.tup [.int (-1), .str "", .str "1"]) := upd_same
    generalize upd J8 p10 (.tup [.int (-1), .str "", .str "1"]) = J9 at s9 hp10 ⊢
    refine ⟨(by show 3 ≤ sizeLine; decide), fun p11 n10 => ?_⟩
    have s10 : Same J9 (upd J9 p11 (.tup [.int 5000, .str "", .str "1"])) := same_new n10
    have hp11 : upd J9 p11 (.tup [.int 5000, .str "", .str "1"]) p11 = some (.tup [.int 5000, .str "", .str "1"]) := upd_same
    generalize upd J9 p11 (.tup [.int 5000, .str "", .str "1"]) = J10 at s10 hp11 ⊢
    refine ⟨(by show 3 ≤ sizeLine; decide), fun p12 n11 => ?_⟩
    have s11 : Same J10 (upd J10 p12 (.tup [.bl true, .str "", .str "1"])) := same_new n11
    have hp12 : upd J10 p12 (.tup [.bl true, .str "", .str "1"]) p12 = some (.tup [.bl true, .str "", .str "1"]) := upd_same
    generalize upd J10 p12 (.tup [.bl true, .str "", .str "1"]) = J11 at s11 hp12 ⊢
    refine ⟨(by show 3 ≤ sizeLine; decide), fun p13 n12 => ?_⟩
    have s12 : Same J11 (upd J11 p13 (.tup [.int 0, .str "9", .str "1"])) := same_new n12
    have hp13 : upd J11 p13 (.tup [.int 0, .str "9", .str "1"]) p13 = some (.tup [.int 0, .str "9", .str "1"]) := upd_same
    generalize upd J11 p13 (.tup [.int 0, .str "9", .str "1"]) = J12 at s12 hp13 ⊢
    refine ⟨(by show 4 ≤ sizeLine; decide), fun x2 n13 => ?_⟩
    have s13 : Same J12 (upd J12 x2 (.lst [.ref p10, .ref p11, .ref p12, .ref p13])) := same_new n13
    have hx2 : upd J12 x2 (.lst [.ref p10, .ref p11, .ref p12, .ref p13]) x2 = some (.lst [.ref p10, .ref p11, .ref p12, .ref p13]) := upd_same
    generalize upd J12 x2 (.lst [.ref p10, .ref p11, .ref p12, .ref p13]) = J13 at s13 hx2 ⊢
    have hx1' := s13 _ _ (s12 _ _ (s11 _ _ (s10 _ _ (s9 _ _ (hx1)))))
    refine ⟨x1, x2, _, _, rfl, rfl, hx1', hx2, (by show 14 ≤ sizeLine; decide), fun l n14 => ?_⟩
    have s14 : Same J13 (upd J13 l (.lst ([.non, .int 7, .str "0", .ref p3, .ref p4, .ref p5, .ref p6, .ref p7, .ref p8, .ref p9] ++ [.ref p10, .ref p11, .ref p12, .ref p13]))) := same_new n14
    have hl : upd J13 l (.lst ([.non, .int 7, .str "0", .ref p3, .ref p4, .ref p5, .ref p6, .ref p7, .ref p8, .ref p9] ++ [.ref p10, .ref p11, .ref p12, .ref p13])) l = some (.lst ([.non, .int 7, .str "0", .ref p3, .ref p4, .ref p5, .ref p6, .ref p7, .ref p8, .ref p9] ++ [.ref p10, .ref p11, .ref p12, .ref p13])) := upd_same
    generalize upd J13 l (.lst ([.non, .int 7, .str "0", .ref p3, .ref p4, .ref p5, .ref p6, .ref p7, .ref p8, .ref p9] ++ [.ref p10, .ref p11, .ref p12, .ref p13])) = J14 at s14 hl ⊢
    have hlog : ((b : Int)).natAbs.log2 < 1920 := by
      have : b = 2 ∨ b = 3 ∨ b = 4 ∨ b = 5 := by omega
      rcases this with e | e | e | e <;> subst e <;> decide +kernel
    have hword : ((cutS ("01234" : Str) none (some (b : Int)) ++ Str.ofString (toString (b : Int)))).length ≤ sizeLine ∧ (cutS ("01234" : Str) none (some (b : Int))).length + (Str.ofString (toString (b : Int))).length ≤ sizeLine := by
      have : b = 2 ∨ b = 3 ∨ b = 4 ∨ b = 5 := by omega
      rcases this with e | e | e | e <;> subst e <;> exact ⟨by decide +kernel, by decide +kernel⟩
    refine ⟨_, rfl, .inl ⟨rfl, _, SqL.of hl⟩, ?_⟩
    refine ⟨_, rfl, _, rfl, _, rfl, len5, _, rfl, (b : Int), rfl, hlog, _, _, rfl, rfl, hword.2, (by show 3 ≤ sizeLine; decide), fun p14 n15 => ?_⟩
    have s15 : Same J14 (upd J14 p14 (.tup [.int 0, .str "", .str (cutS ("01234" : Str) none (some (b : Int)) ++ Str.ofString (toString (b : Int)))])) := same_new n15
    have hp14 : upd J14 p14 (.tup [.int 0, .str "", .str (cutS ("01234" : Str) none (some (b : Int)) ++ Str.ofString (toString (b : Int)))]) p14 = some (.tup [.int 0, .str "", .str (cutS ("01234" : Str) none (some (b : Int)) ++ Str.ofString (toString (b : Int)))]) := upd_same
    have m14 : l ≠ p14 := ne_of_none hl n15
    generalize upd J14 p14 (.tup [.int 0, .str "", .str (cutS ("01234" : Str) none (some (b : Int)) ++ Str.ofString (toString (b : Int)))]) = J15 at s15 hp14 ⊢
    have hl2 := s15 _ _ hl
    refine ⟨l, _, .ref p14, rfl, rfl, hl2, (by show 14 < sizeLine; decide), ?_⟩
    have sB : Same J13 (upd J15 l (.lst (([.non, .int 7, .str "0", .ref p3, .ref p4, .ref p5, .ref p6, .ref p7, .ref p8, .ref p9] ++ [.ref p10, .ref p11, .ref p12, .ref p13]) ++ [.ref p14]))) := fun b o e => by
      have nb : b ≠ l := ne_of_none e n14
      rw [upd_ne nb]
      exact s15 _ _ (s14 _ _ e)
    have hp14' : upd J15 l (.lst (([.non, .int 7, .str "0", .ref p3, .ref p4, .ref p5, .ref p6, .ref p7, .ref p8, .ref p9] ++ [.ref p10, .ref p11, .ref p12, .ref p13]) ++ [.ref p14])) p14 = _ := (upd_ne m14.symm).trans hp14
    have hl3 : upd J15 l (.lst (([.non, .int 7, .str "0", .ref p3, .ref p4, .ref p5, .ref p6, .ref p7, .ref p8, .ref p9] ++ [.ref p10, .ref p11, .ref p12, .ref p13]) ++ [.ref p14])) l = some (.lst (([.non, .int 7, .str "0", .ref p3, .ref p4, .ref p5, .ref p6, .ref p7, .ref p8, .ref p9] ++ [.ref p10, .ref p11, .ref p12, .ref p13]) ++ [.ref p14])) := upd_same
    generalize upd J15 l (.lst (([.non, .int 7, .str "0", .ref p3, .ref p4, .ref p5, .ref p6, .ref p7, .ref p8, .ref p9] ++ [.ref p10, .ref p11, .ref p12, .ref p13]) ++ [.ref p14])) = J16 at sB hp14' hl3 ⊢
    refine ⟨_, rfl, ?_⟩
    refine ⟨(by show 3 ≤ sizeLine; decide), fun p15 n17 => ?_⟩
    have s17 : Same J16 (upd J16 p15 (.tup [.int 0, .non, .str "1"])) := same_new n17
    have hp15 : upd J16 p15 (.tup [.int 0, .non, .str "1"]) p15 = some (.tup [.int 0, .non, .str "1"]) := upd_same
    generalize upd J16 p15 (.tup [.int 0, .non, .str "1"]) = J17 at s17 hp15 ⊢
    refine ⟨(by show 3 ≤ sizeLine; decide), fun p16 n18 => ?_⟩
    have s18 : Same J17 (upd J17 p16 (.tup [.int 0, .str "", .int 1])) := same_new n18
    have hp16 : upd J17 p16 (.tup [.int 0, .str "", .int 1]) p16 = some (.tup [.int 0, .str "", .int 1]) := upd_same
    generalize upd J17 p16 (.tup [.int 0, .str "", .int 1]) = J18 at s18 hp16 ⊢
    refine ⟨(by show 3 ≤ sizeLine; decide), fun p17 n19 => ?_⟩
    have s19 : Same J18 (upd J18 p17 (.tup [.str "0", .str "", .str "1"])) := same_new n19
    have hp17 : upd J18 p17 (.tup [.str "0", .str "", .str "1"]) p17 = some (.tup [.str "0", .str "", .str "1"]) := upd_same
    generalize upd J18 p17 (.tup [.str "0", .str "", .str "1"]) = J19 at s19 hp17 ⊢
    refine ⟨(by show 4 ≤ sizeLine; decide), fun p18 n20 => ?_⟩
    have s20 : Same J19 (upd J19 p18 (.tup [.int 0, .str "", .str "1", .str ""])) := same_new n20
    have hp18 : upd J19 p18 (.tup [.int 0, .str "", .str "1", .str ""]) p18 = some (.tup [.int 0, .str "", .str "1", .str ""]) := upd_same
    generalize upd J19 p18 (.tup [.int 0, .str "", .str "1", .str ""]) = J20 at s20 hp18 ⊢
    refine fun p19 n21 => ?_
    have s21 : Same J20 (upd J20 p19 (.dK [])) := same_new n21
    have hp19 : upd J20 p19 (.dK []) p19 = some (.dK []) := upd_same
    generalize upd J20 p19 (.dK []) = J21 at s21 hp19 ⊢
    refine ⟨(by show 3 ≤ sizeLine; decide), fun p20 n22 => ?_⟩
    have s22 : Same J21 (upd J21 p20 (.tup [.int 0, .str "10", .str "10"])) := same_new n22
    have hp20 : upd J21 p20 (.tup [.int 0, .str "10", .str "10"]) p20 = some (.tup [.int 0, .str "10", .str "10"]) := upd_same
    generalize upd J21 p20 (.tup [.int 0, .str "10", .str "10"]) = J22 at s22 hp20 ⊢
    refine ⟨(by show 3 ≤ sizeLine; decide), fun p21 n23 => ?_⟩
    have s23 : Same J22 (upd J22 p21 (.tup [.int 0, .str " ", .str "1"])) := same_new n23
    have hp21 : upd J22 p21 (.tup [.int 0, .str " ", .str "1"]) p21 = some (.tup [.int 0, .str " ", .str "1"]) := upd_same
    generalize upd J22 p21 (.tup [.int 0, .str " ", .str "1"]) = J23 at s23 hp21 ⊢
    refine ⟨(by show 7 ≤ sizeLine; decide), fun x3 n24 => ?_⟩
    have s24 : Same J23 (upd J23 x3 (.lst [.ref p15, .ref p16, .ref p17, .ref p18, .ref p19, .ref p20, .ref p21])) := same_new n24
    have hx3 : upd J23 x3 (.lst [.ref p15, .ref p16, .ref p17, .ref p18, .ref p19, .ref p20, .ref p21]) x3 = some (.lst [.ref p15, .ref p16, .ref p17, .ref p18, .ref p19, .ref p20, .ref p21]) := upd_same
    generalize upd J23 x3 (.lst [.ref p15, .ref p16, .ref p17, .ref p18, .ref p19, .ref p20, .ref p21]) = J24 at s24 hx3 ⊢
    have hl4 := s24 _ _ (s23 _ _ (s22 _ _ (s21 _ _ (s20 _ _ (s19 _ _ (s18 _ _ (s17 _ _ (hl3))))))))
    refine ⟨l, x3, _, _, rfl, rfl, hl4, hx3, (by show 22 ≤ sizeLine; decide), fun L nL => ?_⟩
    have sL : Same J24 (upd J24 L (.lst (([.non, .int 7, .str "0", .ref p3, .ref p4, .ref p5, .ref p6, .ref p7, .ref p8, .ref p9] ++ [.ref p10, .ref p11, .ref p12, .ref p13]) ++ [.ref p14] ++ [.ref p15, .ref p16, .ref p17, .ref p18, .ref p19, .ref p20, .ref p21]))) := same_new nL
    have hL : upd J24 L (.lst (([.non, .int 7, .str "0", .ref p3, .ref p4, .ref p5, .ref p6, .ref p7, .ref p8, .ref p9] ++ [.ref p10, .ref p11, .ref p12, .ref p13]) ++ [.ref p14] ++ [.ref p15, .ref p16, .ref p17, .ref p18, .ref p19, .ref p20, .ref p21])) L = some (.lst (([.non, .int 7, .str "0", .ref p3, .ref p4, .ref p5, .ref p6, .ref p7, .ref p8, .ref p9] ++ [.ref p10, .ref p11, .ref p12, .ref p13]) ++ [.ref p14] ++ [.ref p15, .ref p16, .ref p17, .ref p18, .ref p19, .ref p20, .ref p21])) := upd_same
    have SA : Same H J13 := fun _ _ e => s13 _ _ (s12 _ _ (s11 _ _ (s10 _ _ (s9 _ _ (s8 _ _ (s7 _ _ (s6 _ _ (s5 _ _ (s4 _ _ (s3 _ _ (s2 _ _ (s1 _ _ (e)))))))))))))
    have SC : Same J16 J24 := fun _ _ e => s24 _ _ (s23 _ _ (s22 _ _ (s21 _ _ (s20 _ _ (s19 _ _ (s18 _ _ (s17 _ _ (e))))))))
    have haB := SA _ _ ha
    have haE := SC _ _ (sB _ _ haB)
    have naL : a ≠ L := ne_of_none haE nL
    have na9 : a ≠ p9 := ne_of_none (s6 _ _ (s5 _ _ (s4 _ _ (s3 _ _ (s2 _ _ (s1 _ _ (ha))))))) n7
    generalize upd J24 L (.lst (([.non, .int 7, .str "0", .ref p3, .ref p4, .ref p5, .ref p6, .ref p7, .ref p8, .ref p9] ++ [.ref p10, .ref p11, .ref p12, .ref p13]) ++ [.ref p14] ++ [.ref p15, .ref p16, .ref p17, .ref p18, .ref p19, .ref p20, .ref p21])) = JL at sL hL ⊢
    refine ⟨_, rfl, _, rfl, a, d, _, rfl, sL _ _ haE, hd, by decide, by decide, hc, fun r d' hd' hc' r0 r1 => ?_⟩
    have ha5 : upd JL a (.lst (dieL d')) a = some (.lst (dieL d')) := upd_same
    have kp : Kp a H (upd JL a (.lst (dieL d'))) := fun b o n e => by
      rw [upd_ne n]
      exact sL _ _ (SC _ _ (sB _ _ (SA _ _ e)))
    have hL5 : upd JL a (.lst (dieL d')) L = _ := (upd_ne naL.symm).trans hL
    have TT : ∀ (p : Addr) (xs : List V), JL p = some (.tup xs) → upd JL a (.lst (dieL d')) p = some (.tup xs) ∧ p ≠ a := fun p xs e => by
      have n : p ≠ a := fun z => by rw [z, sL _ _ haE] at e; cases e
      exact ⟨(upd_ne n).trans e, n⟩
    obtain ⟨g3, m3⟩ := TT _ _ (sL _ _ (SC _ _ (sB _ _ (s13 _ _ (s12 _ _ (s11 _ _ (s10 _ _ (s9 _ _ (s8 _ _ (s7 _ _ (s6 _ _ (s5 _ _ (s4 _ _ (s3 _ _ (s2 _ _ (hp3))))))))))))))))
    obtain ⟨g4, m4⟩ := TT _ _ (sL _ _ (SC _ _ (sB _ _ (s13 _ _ (s12 _ _ (s11 _ _ (s10 _ _ (s9 _ _ (s8 _ _ (s7 _ _ (s6 _ _ (s5 _ _ (s4 _ _ (s3 _ _ (hp4)))))))))))))))
    obtain ⟨g5, m5⟩ := TT _ _ (sL _ _ (SC _ _ (sB _ _ (s13 _ _ (s12 _ _ (s11 _ _ (s10 _ _ (s9 _ _ (s8 _ _ (s7 _ _ (s6 _ _ (s5 _ _ (s4 _ _ (hp5))))))))))))))
    obtain ⟨g6, m6⟩ := TT _ _ (sL _ _ (SC _ _ (sB _ _ (s13 _ _ (s12 _ _ (s11 _ _ (s10 _ _ (s9 _ _ (s8 _ _ (s7 _ _ (s6 _ _ (s5 _ _ (hp6)))))))))))))
    obtain ⟨g7, m7⟩ := TT _ _ (sL _ _ (SC _ _ (sB _ _ (s13 _ _ (s12 _ _ (s11 _ _ (s10 _ _ (s9 _ _ (s8 _ _ (s7 _ _ (s6 _ _ (hp7))))))))))))
    obtain ⟨g8, m8⟩ := TT _ _ (sL _ _ (SC _ _ (sB _ _ (s13 _ _ (s12 _ _ (s11 _ _ (s10 _ _ (s9 _ _ (s8 _ _ (s7 _ _ (hp8)))))))))))
    obtain ⟨g10, m10⟩ := TT _ _ (sL _ _ (SC _ _ (sB _ _ (s13 _ _ (s12 _ _ (s11 _ _ (s10 _ _ (hp10))))))))
    obtain ⟨g11, m11⟩ := TT _ _ (sL _ _ (SC _ _ (sB _ _ (s13 _ _ (s12 _ _ (s11 _ _ (hp11)))))))
    obtain ⟨g12, m12⟩ := TT _ _ (sL _ _ (SC _ _ (sB _ _ (s13 _ _ (s12 _ _ (hp12))))))
    obtain ⟨g13, m13⟩ := TT _ _ (sL _ _ (SC _ _ (sB _ _ (s13 _ _ (hp13)))))
    obtain ⟨g14, m14⟩ := TT _ _ (sL _ _ (SC _ _ hp14'))
    obtain ⟨g15, m15⟩ := TT _ _ (sL _ _ (s24 _ _ (s23 _ _ (s22 _ _ (s21 _ _ (s20 _ _ (s19 _ _ (s18 _ _ (hp15)))))))))
    obtain ⟨g16, m16⟩ := TT _ _ (sL _ _ (s24 _ _ (s23 _ _ (s22 _ _ (s21 _ _ (s20 _ _ (s19 _ _ (hp16))))))))
    obtain ⟨g17, m17⟩ := TT _ _ (sL _ _ (s24 _ _ (s23 _ _ (s22 _ _ (s21 _ _ (s20 _ _ (hp17)))))))
    obtain ⟨g18, m18⟩ := TT _ _ (sL _ _ (s24 _ _ (s23 _ _ (s22 _ _ (s21 _ _ (hp18))))))
    obtain ⟨g20, m20⟩ := TT _ _ (sL _ _ (s24 _ _ (s23 _ _ (hp20))))
    obtain ⟨g21, m21⟩ := TT _ _ (sL _ _ (s24 _ _ (hp21)))
    have g9 : upd JL a (.lst (dieL d')) p9 = _ := (upd_ne na9.symm).trans (sL _ _ (SC _ _ (sB _ _ (s13 _ _ (s12 _ _ (s11 _ _ (s10 _ _ (s9 _ _ (s8 _ _ (hp9))))))))))
    have m19 : p19 ≠ a := fun z => by
      have e := sL _ _ (s24 _ _ (s23 _ _ (s22 _ _ (hp19))))
      rw [z, sL _ _ haE] at e
      cases e
    have g19 : upd JL a (.lst (dieL d')) p19 = _ := (upd_ne m19).trans (sL _ _ (s24 _ _ (s23 _ _ (s22 _ _ (hp19)))))
    generalize upd JL a (.lst (dieL d')) = HF at *
    have e0 : ("0" : Str) = S [48] := by decide +kernel
    have e11 : ("11" : Str) = S [49, 49] := by decide +kernel
    have e0101 : ("0101" : Str) = S [48, 49, 48, 49] := by decide +kernel
    have e10 : ("10" : Str) = S [49, 48] := by decide +kernel
    have eem : ("" : Str) = S [] := by decide +kernel
    have bb : b = 2 ∨ b = 3 ∨ b = 4 ∨ b = 5 := by omega
    have w0 : wordV b (.str "") = true := by rcases bb with e | e | e | e <;> subst e <;> decide +kernel
    have ps : ∀ x : Str, x.length ≤ 1000 → ∀ H0 : Hp, Pl H0 (.str x) (.type "str") := fun x h _ => .str x h
    obtain ⟨v, hv, sf, ne⟩ : ∃ v, atI [.non, .int 7, .str "0", .ref p3, .ref p4, .ref p5, .ref p6, .ref p7, .ref p8, .ref p9, .ref p10, .ref p11, .ref p12, .ref p13, .ref p14, .ref p15, .ref p16, .ref p17, .ref p18, .ref p19, .ref p20, .ref p21] r = some v ∧ SF HF b 5000 v false ∧ ∀ q, v = .ref q → q ≠ a := by
      have rr : r = 0 ∨ r = 1 ∨ r = 2 ∨ r = 3 ∨ r = 4 ∨ r = 5 ∨ r = 6 ∨ r = 7 ∨ r = 8 ∨ r = 9 ∨ r = 10 ∨ r = 11 ∨ r = 12 ∨ r = 13 ∨ r = 14 ∨ r = 15 ∨ r = 16 ∨ r = 17 ∨ r = 18 ∨ r = 19 ∨ r = 20 ∨ r = 21 := by omega
      rcases rr with e | e | e | e | e | e | e | e | e | e | e | e | e | e | e | e | e | e | e | e | e | e <;> subst e
      · exact ⟨_, rfl, .non .non (fun _ _ z => nomatch z), fun _ z => nomatch z⟩
      · exact ⟨_, rfl, .non (.int 7) (fun _ _ z => nomatch z), fun _ z => nomatch z⟩
      · exact ⟨_, rfl, .non ((ps _ (by decide +kernel)) _) (fun _ _ z => nomatch z), fun _ z => nomatch z⟩
      · exact ⟨_, rfl, .len g3 (by decide), fun _ z => V.ref.inj z ▸ m3⟩
      · exact ⟨_, rfl, .per g4 (fun _ => .int 0) rfl (ps _ (by decide +kernel)) w0 (ps _ (by decide +kernel)) (.inr rfl), fun _ z => V.ref.inj z ▸ m4⟩
      · exact ⟨_, rfl, .len g5 (by decide), fun _ z => V.ref.inj z ▸ m5⟩
      · exact ⟨_, rfl, sf_of (x := [48]) (y := [48]) (sfB_ends (x := [48]) (y := [48]) (by decide +kernel)) (by rw [e0] at g6; exact g6) rfl (isW2 b2 (by decide)) (isW2 b2 (by decide)) (by decide) (by decide) (by decide), fun _ z => V.ref.inj z ▸ m6⟩
      · exact ⟨_, rfl, sf_of (x := []) (y := [49, 49]) (sfB_per (x := []) (y := [49, 49]) 1 (by decide) (by decide) (per_small (by decide) (by decide))) (by rw [e11, eem] at g7; exact g7) rfl (isW2 b2 (by decide)) (isW2 b2 (by decide)) (by decide) (by decide) (by decide), fun _ z => V.ref.inj z ▸ m7⟩
      · exact ⟨_, rfl, sf_of (x := []) (y := [48, 49, 48, 49]) (sfB_per (x := []) (y := [48, 49, 48, 49]) 2 (by decide) (by decide) (per_small (by decide) (by decide))) (by rw [e0101, eem] at g8; exact g8) rfl (isW2 b2 (by decide)) (isW2 b2 (by decide)) (by decide) (by decide) (by decide), fun _ z => V.ref.inj z ▸ m8⟩
      · exact ⟨_, rfl, .non (.lst g9) (fun q xs z => by cases z; rw [g9]; intro z; cases z), fun _ z => V.ref.inj z ▸ na9.symm⟩
      · exact ⟨_, rfl, .root g10 (fun _ => .int _) rfl, fun _ z => V.ref.inj z ▸ m10⟩
      · exact ⟨_, rfl, .root g11 (fun _ => .int _) rfl, fun _ z => V.ref.inj z ▸ m11⟩
      · exact ⟨_, rfl, .root g12 (fun _ => .bl _) rfl, fun _ z => V.ref.inj z ▸ m12⟩
      · exact ⟨_, rfl, .head g13 (fun _ => .int 0) rfl (ps _ (by decide +kernel)) (by rcases bb with e | e | e | e <;> subst e <;> decide +kernel), fun _ z => V.ref.inj z ▸ m13⟩
      · exact ⟨_, rfl, .per g14 (fun _ => .int 0) rfl (ps _ (by decide +kernel)) w0 (ps _ (by rcases bb with e | e | e | e <;> subst e <;> decide +kernel)) (.inl (by rcases bb with e | e | e | e <;> subst e <;> decide +kernel)), fun _ z => V.ref.inj z ▸ m14⟩
      · exact ⟨_, rfl, .head g15 (fun _ => .int 0) rfl (fun _ => .non) rfl, fun _ z => V.ref.inj z ▸ m15⟩
      · exact ⟨_, rfl, .per g16 (fun _ => .int 0) rfl (ps _ (by decide +kernel)) w0 (fun _ => .int 1) (.inl rfl), fun _ z => V.ref.inj z ▸ m16⟩
      · exact ⟨_, rfl, .root g17 (ps _ (by decide +kernel)) rfl, fun _ z => V.ref.inj z ▸ m17⟩
      · exact ⟨_, rfl, .len g18 (by decide), fun _ z => V.ref.inj z ▸ m18⟩
      · exact ⟨_, rfl, .non (.dct g19) (fun q xs z => by cases z; rw [g19]; intro z; cases z), fun _ z => V.ref.inj z ▸ m19⟩
      · exact ⟨_, rfl, sf_of (x := [49, 48]) (y := [49, 48]) (sfB_ends (x := [49, 48]) (y := [49, 48]) (by decide +kernel)) (by rw [e10] at g20; exact g20) rfl (isW2 b2 (by decide)) (isW2 b2 (by decide)) (by decide) (by decide) (by decide), fun _ z => V.ref.inj z ▸ m20⟩
      · exact ⟨_, rfl, .head g21 (fun _ => .int 0) rfl (ps _ (by decide +kernel)) (by rcases bb with e | e | e | e <;> subst e <;> decide +kernel), fun _ z => V.ref.inj z ▸ m21⟩
    refine ⟨L, _, r, v, rfl, rfl, SqL.of hL5, hv, ?_⟩
    exact k v d' HF hd' hc' kp ha5 sf ne
end
end Vf


set_option Elab.async false
set_option maxRecDepth 100000
set_option maxHeartbeats 8000000
set_option exponentiation.threshold 3000
namespace Vf
open PySem L2 SX Vm
open PySem.Builtin.Str PySem.StrLaws
theorem pf_of {H : Hp} {b : Nat} {R : Int} {p : Addr} {r x : V} {tr tx : Value} (h : H p = some (.tup [r, x])) (pr : ∀ H0 : Hp, Pl H0 r tr) (px : ∀ H0 : Hp, Pl H0 x tx) (e : (withinV 0 (R - 1) r && wordV b x) = false) : PF H b R (.ref p) false := by
  rw [← e]
  exact .fin h pr px
section
variable {P : Program} {w : World} {K : PySem.W.Frag} {mg : Str → Option Value} {base : Heap}
theorem scNoPfx : FnScope ["die", "base", "some"] ["die", "base"] (defScope sNoPfx) := ⟨rfl, rfl, rfl, by decide +kernel, rfl, by decide +kernel, by decide +kernel⟩
theorem ok_nopfx {f fP : Addr} {fd fdP : FuncData} (F : Fun K "_law_no_prefix" "_law_no_prefix" sNoPfx f fd) (GP : FnOk P w K mg base CX0 1 fP fdP ["die", "many"] spPull) (cP : Cal K mg "_law_pull" fP fdP ["die", "many"]) (ms : mg "str" = none) : FnOk P w K mg base CX0 2 f fd ["die", "base"] spNoPfx := by
  refine F.ok scNoPfx (fun vs H Q E h => ?_) (fun cdv A outer s H vs Q E hr h => ?_)
  · obtain ⟨a, d, b, rfl, _⟩ := h
    rfl
  · obtain ⟨a, d, b, rfl, ha, hd, hc, b2, b5, k⟩ := h
    have nd := scNoPfx.nd
    have hlog : ((b : Int)).natAbs.log2 < 1920 := by
      have : b = 2 ∨ b = 3 ∨ b = 4 ∨ b = 5 := by omega
      rcases this with e | e | e | e <;> subst e <;> decide +kernel
    refine ⟨_, pss_cons (ps_set (i := 2) nd rfl (.inl rfl) (pe_lst (pa_cons pe_non (pa_cons pe_int (pa_cons pe_str (pa_cons (pe_tup pa_nil) (pa_cons (pe_tup (pa_cons pe_int pa_nil)) (pa_cons (pe_tup (pa_cons pe_int (pa_cons pe_str (pa_cons pe_str pa_nil)))) (pa_cons (pe_lst (pa_cons pe_int (pa_cons pe_str pa_nil))) (pa_cons (pe_tup (pa_cons (pe_un un_neg pe_int) (pa_cons pe_str pa_nil))) (pa_cons (pe_tup (pa_cons pe_int (pa_cons pe_str pa_nil))) (pa_cons (pe_tup (pa_cons pe_bl (pa_cons pe_str pa_nil))) (pa_cons (pe_tup (pa_cons pe_int (pa_cons (pe_callTy call_str_int (by rfl) ms PyProof.Rows.boot_str (pa_cons (pv 1) pa_nil)) pa_nil))) pa_nil)))))))))))))
      (pss_one (ps_ret (pe_ix ix_list (pe_op op_cat (pv 2) (pe_lst (pa_cons (pe_tup (pa_cons pe_int (pa_cons pe_int pa_nil))) (pa_cons (pe_tup (pa_cons pe_str (pa_cons pe_int pa_nil))) (pa_cons (pe_tup (pa_cons pe_int (pa_cons pe_non pa_nil))) (pa_cons pe_dnewK (pa_cons (pe_tup (pa_cons pe_int (pa_cons pe_str pa_nil))) pa_nil))))))) (pe_call GP hr rfl cP.mg cP.kp cP.b .nil pass0 (pa_cons (pv 0) (pa_cons pe_int pa_nil))) (fun _ _ => rfl)))), ?_⟩
    refine ⟨(by show 0 ≤ sizeLine; decide), fun p3 n1 => ?_⟩
    have s1 : Same H (upd H p3 (.tup [])) := same_new n1
    have hp3 : upd H p3 (.tup []) p3 = some (.tup []) := upd_same
    generalize upd H p3 (.tup []) = J1 at s1 hp3 ⊢
    refine ⟨(by show 1 ≤ sizeLine; decide), fun p4 n2 => ?_⟩
    have s2 : Same J1 (upd J1 p4 (.tup [.int 0])) := same_new n2
    have hp4 : upd J1 p4 (.tup [.int 0]) p4 = some (.tup [.int 0]) := upd_same
    generalize upd J1 p4 (.tup [.int 0]) = J2 at s2 hp4 ⊢
    refine ⟨(by show 3 ≤ sizeLine; decide), fun p5 n3 => ?_⟩
    have s3 : Same J2 (upd J2 p5 (.tup [.int 0, .str "", .str "1"])) := same_new n3
    have hp5 : upd J2 p5 (.tup [.int 0, .str "", .str "1"]) p5 = some (.tup [.int 0, .str "", .str "1"]) := upd_same
    generalize upd J2 p5 (.tup [.int 0, .str "", .str "1"]) = J3 at s3 hp5 ⊢
    refine ⟨(by show 2 ≤ sizeLine; decide), fun p6 n4 => ?_⟩
    have s4 : Same J3 (upd J3 p6 (.lst [.int 0, .str ""])) := same_new n4
    have hp6 : upd J3 p6 (.lst [.int 0, .str ""]) p6 = some (.lst [.int 0, .str ""]) := upd_same
    generalize upd J3 p6 (.lst [.int 0, .str ""]) = J4 at s4 hp6 ⊢
    refine ⟨_, rfl, (by show 2 ≤ sizeLine; decide), fun p7 n5 => ?_⟩
    have s5 : Same J4 (upd J4 p7 (.tup [.int (-1), .str "0"])) := same_new n5
    have hp7 : upd J4 p7 (.tup [.int (-1), .str "0"]) p7 = some (.tup [.int (-1), .str "0"]) := upd_same
    generalize upd J4 p7 (.tup [.int (-1), .str "0"]) = J5 at s5 hp7 ⊢
    refine ⟨(by show 2 ≤ sizeLine; decide), fun p8 n6 => ?_⟩
    have s6 : Same J5 (upd J5 p8 (.tup [.int 5000, .str ""])) := same_new n6
    have hp8 : upd J5 p8 (.tup [.int 5000, .str ""]) p8 = some (.tup [.int 5000, .str ""]) := upd_same
    generalize upd J5 p8 (.tup [.int 5000, .str ""]) = J6 at s6 hp8 ⊢
    refine ⟨(by show 2 ≤ sizeLine; decide), fun p9 n7 => ?_⟩
    have s7 : Same J6 (upd J6 p9 (.tup [.bl true, .str ""])) := same_new n7
    have hp9 : upd J6 p9 (.tup [.bl true, .str ""]) p9 = some (.tup [.bl true, .str ""]) := upd_same
    generalize upd J6 p9 (.tup [.bl true, .str ""]) = J7 at s7 hp9 ⊢
    refine ⟨_, rfl, (b : Int), rfl, hlog, (by show 2 ≤ sizeLine; decide), fun p10 n8 => ?_⟩
    have s8 : Same J7 (upd J7 p10 (.tup [.int 0, .str (Str.ofString (toString (b : Int)))])) := same_new n8
    have hp10 : upd J7 p10 (.tup [.int 0, .str (Str.ofString (toString (b : Int)))]) p10 = some (.tup [.int 0, .str (Str.ofString (toString (b : Int)))]) := upd_same
    generalize upd J7 p10 (.tup [.int 0, .str (Str.ofString (toString (b : Int)))]) = J8 at s8 hp10 ⊢
    refine ⟨(by show 11 ≤ sizeLine; decide), fun x1 n9 => ?_⟩
    have s9 : Same J8 (upd J8 x1 (.lst [.non, .int 7, .str "0", .ref p3, .ref p4, .ref p5, .ref p6, .ref p7, .ref p8, .ref p9, .ref p10])) := same_new n9
    have hx1 : upd J8 x1 (.lst [.non, .int 7, .str "0", .ref p3, .ref p4, .ref p5, .ref p6, .ref p7, .ref p8, .ref p9, .ref p10]) x1 = some (.lst [.non, .int 7, .str "0", .ref p3, .ref p4, .ref p5, .ref p6, .ref p7, .ref p8, .ref p9, .ref p10]) := upd_same
    generalize upd J8 x1 (.lst [.non, .int 7, .str "0", .ref p3, .ref p4, .ref p5, .ref p6, .ref p7, .ref p8, .ref p9, .ref p10]) = J9 at s9 hx1 ⊢
    refine ⟨_, rfl, ?_⟩
    refine ⟨(by show 2 ≤ sizeLine; decide), fun p11 n10 => ?_⟩
    have s10 : Same J9 (upd J9 p11 (.tup [.int 0, .int 0])) := same_new n10
    have hp11 : upd J9 p11 (.tup [.int 0, .int 0]) p11 = some (.tup [.int 0, .int 0]) := upd_same
    generalize upd J9 p11 (.tup [.int 0, .int 0]) = J10 at s10 hp11 ⊢
    refine ⟨(by show 2 ≤ sizeLine; decide), fun p12 n11 => ?_⟩
    have s11 : Same J10 (upd J10 p12 (.tup [.str "", .int 0])) := same_new n11
    have hp12 : upd J10 p12 (.tup [.str "", .int 0]) p12 = some (.tup [.str "", .int 0]) := upd_same
    generalize upd J10 p12 (.tup [.str "", .int 0]) = J11 at s11 hp12 ⊢
    refine ⟨(by show 2 ≤ sizeLine; decide), fun p13 n12 => ?_⟩
    have s12 : Same J11 (upd J11 p13 (.tup [.int 0, .non])) := same_new n12
    have hp13 : upd J11 p13 (.tup [.int 0, .non]) p13 = some (.tup [.int 0, .non]) := upd_same
    generalize upd J11 p13 (.tup [.int 0, .non]) = J12 at s12 hp13 ⊢
    refine fun p14 n13 => ?_
    have s13 : Same J12 (upd J12 p14 (.dK [])) := same_new n13
    have hp14 : upd J12 p14 (.dK []) p14 = some (.dK []) := upd_same
    generalize upd J12 p14 (.dK []) = J13 at s13 hp14 ⊢
    refine ⟨(by show 2 ≤ sizeLine; decide), fun p15 n14 => ?_⟩
    have s14 : Same J13 (upd J13 p15 (.tup [.int 0, .str "0 "])) := same_new n14
    have hp15 : upd J13 p15 (.tup [.int 0, .str "0 "]) p15 = some (.tup [.int 0, .str "0 "]) := upd_same
    generalize upd J13 p15 (.tup [.int 0, .str "0 "]) = J14 at s14 hp15 ⊢
    refine ⟨(by show 5 ≤ sizeLine; decide), fun x2 n15 => ?_⟩
    have s15 : Same J14 (upd J14 x2 (.lst [.ref p11, .ref p12, .ref p13, .ref p14, .ref p15])) := same_new n15
    have hx2 : upd J14 x2 (.lst [.ref p11, .ref p12, .ref p13, .ref p14, .ref p15]) x2 = some (.lst [.ref p11, .ref p12, .ref p13, .ref p14, .ref p15]) := upd_same
    generalize upd J14 x2 (.lst [.ref p11, .ref p12, .ref p13, .ref p14, .ref p15]) = J15 at s15 hx2 ⊢
    have hx1' := s15 _ _ (s14 _ _ (s13 _ _ (s12 _ _ (s11 _ _ (s10 _ _ (hx1))))))
    refine ⟨x1, x2, _, _, rfl, rfl, hx1', hx2, (by show 16 ≤ sizeLine; decide), fun L nL => ?_⟩
    have sL : Same J15 (upd J15 L (.lst ([.non, .int 7, .str "0", .ref p3, .ref p4, .ref p5, .ref p6, .ref p7, .ref p8, .ref p9, .ref p10] ++ [.ref p11, .ref p12, .ref p13, .ref p14, .ref p15]))) := same_new nL
    have hL : upd J15 L (.lst ([.non, .int 7, .str "0", .ref p3, .ref p4, .ref p5, .ref p6, .ref p7, .ref p8, .ref p9, .ref p10] ++ [.ref p11, .ref p12, .ref p13, .ref p14, .ref p15])) L = some (.lst ([.non, .int 7, .str "0", .ref p3, .ref p4, .ref p5, .ref p6, .ref p7, .ref p8, .ref p9, .ref p10] ++ [.ref p11, .ref p12, .ref p13, .ref p14, .ref p15])) := upd_same
    have SA : Same H J15 := fun _ _ e => s15 _ _ (s14 _ _ (s13 _ _ (s12 _ _ (s11 _ _ (s10 _ _ (s9 _ _ (s8 _ _ (s7 _ _ (s6 _ _ (s5 _ _ (s4 _ _ (s3 _ _ (s2 _ _ (s1 _ _ (e)))))))))))))))
    have haE := SA _ _ ha
    have naL : a ≠ L := ne_of_none haE nL
    have na6 : a ≠ p6 := ne_of_none (s3 _ _ (s2 _ _ (s1 _ _ (ha)))) n4
    generalize upd J15 L (.lst ([.non, .int 7, .str "0", .ref p3, .ref p4, .ref p5, .ref p6, .ref p7, .ref p8, .ref p9, .ref p10] ++ [.ref p11, .ref p12, .ref p13, .ref p14, .ref p15])) = JL at sL hL ⊢
    refine ⟨_, rfl, a, d, _, rfl, sL _ _ haE, hd, by decide, by decide, hc, fun r d' hd' hc' r0 r1 => ?_⟩
    have ha5 : upd JL a (.lst (dieL d')) a = some (.lst (dieL d')) := upd_same
    have kp : Kp a H (upd JL a (.lst (dieL d'))) := fun b o n e => by
      rw [upd_ne n]
      exact sL _ _ (SA _ _ e)
    have hL5 : upd JL a (.lst (dieL d')) L = _ := (upd_ne naL.symm).trans hL
    have TT : ∀ (p : Addr) (xs : List V), JL p = some (.tup xs) → upd JL a (.lst (dieL d')) p = some (.tup xs) ∧ p ≠ a := fun p xs e => by
      have n : p ≠ a := fun z => by rw [z, sL _ _ haE] at e; cases e
      exact ⟨(upd_ne n).trans e, n⟩
    obtain ⟨g3, m3⟩ := TT _ _ (sL _ _ (s15 _ _ (s14 _ _ (s13 _ _ (s12 _ _ (s11 _ _ (s10 _ _ (s9 _ _ (s8 _ _ (s7 _ _ (s6 _ _ (s5 _ _ (s4 _ _ (s3 _ _ (s2 _ _ (hp3))))))))))))))))
    obtain ⟨g4, m4⟩ := TT _ _ (sL _ _ (s15 _ _ (s14 _ _ (s13 _ _ (s12 _ _ (s11 _ _ (s10 _ _ (s9 _ _ (s8 _ _ (s7 _ _ (s6 _ _ (s5 _ _ (s4 _ _ (s3 _ _ (hp4)))))))))))))))
    obtain ⟨g5, m5⟩ := TT _ _ (sL _ _ (s15 _ _ (s14 _ _ (s13 _ _ (s12 _ _ (s11 _ _ (s10 _ _ (s9 _ _ (s8 _ _ (s7 _ _ (s6 _ _ (s5 _ _ (s4 _ _ (hp5))))))))))))))
    obtain ⟨g7, m7⟩ := TT _ _ (sL _ _ (s15 _ _ (s14 _ _ (s13 _ _ (s12 _ _ (s11 _ _ (s10 _ _ (s9 _ _ (s8 _ _ (s7 _ _ (s6 _ _ (hp7))))))))))))
    obtain ⟨g8, m8⟩ := TT _ _ (sL _ _ (s15 _ _ (s14 _ _ (s13 _ _ (s12 _ _ (s11 _ _ (s10 _ _ (s9 _ _ (s8 _ _ (s7 _ _ (hp8)))))))))))
    obtain ⟨g9, m9⟩ := TT _ _ (sL _ _ (s15 _ _ (s14 _ _ (s13 _ _ (s12 _ _ (s11 _ _ (s10 _ _ (s9 _ _ (s8 _ _ (hp9))))))))))
    obtain ⟨g10, m10⟩ := TT _ _ (sL _ _ (s15 _ _ (s14 _ _ (s13 _ _ (s12 _ _ (s11 _ _ (s10 _ _ (s9 _ _ (hp10)))))))))
    obtain ⟨g11, m11⟩ := TT _ _ (sL _ _ (s15 _ _ (s14 _ _ (s13 _ _ (s12 _ _ (s11 _ _ (hp11)))))))
    obtain ⟨g12, m12⟩ := TT _ _ (sL _ _ (s15 _ _ (s14 _ _ (s13 _ _ (s12 _ _ (hp12))))))
    obtain ⟨g13, m13⟩ := TT _ _ (sL _ _ (s15 _ _ (s14 _ _ (s13 _ _ (hp13)))))
    obtain ⟨g15, m15⟩ := TT _ _ (sL _ _ (s15 _ _ (hp15)))
    have g6 : upd JL a (.lst (dieL d')) p6 = _ := (upd_ne na6.symm).trans (sL _ _ (s15 _ _ (s14 _ _ (s13 _ _ (s12 _ _ (s11 _ _ (s10 _ _ (s9 _ _ (s8 _ _ (s7 _ _ (s6 _ _ (s5 _ _ (hp6)))))))))))))
    have m14 : p14 ≠ a := fun z => by
      have e := sL _ _ (s15 _ _ (s14 _ _ (hp14)))
      rw [z, sL _ _ haE] at e
      cases e
    have g14 : upd JL a (.lst (dieL d')) p14 = _ := (upd_ne m14).trans (sL _ _ (s15 _ _ (s14 _ _ (hp14))))
    generalize upd JL a (.lst (dieL d')) = HF at *
    have bb : b = 2 ∨ b = 3 ∨ b = 4 ∨ b = 5 := by omega
    have ps : ∀ x : Str, x.length ≤ 1000 → ∀ H0 : Hp, Pl H0 (.str x) (.type "str") := fun x h _ => .str x h
    obtain ⟨v, hv, sf, ne⟩ : ∃ v, atI [.non, .int 7, .str "0", .ref p3, .ref p4, .ref p5, .ref p6, .ref p7, .ref p8, .ref p9, .ref p10, .ref p11, .ref p12, .ref p13, .ref p14, .ref p15] r = some v ∧ PF HF b 5000 v false ∧ ∀ q, v = .ref q → q ≠ a := by
      have rr : r = 0 ∨ r = 1 ∨ r = 2 ∨ r = 3 ∨ r = 4 ∨ r = 5 ∨ r = 6 ∨ r = 7 ∨ r = 8 ∨ r = 9 ∨ r = 10 ∨ r = 11 ∨ r = 12 ∨ r = 13 ∨ r = 14 ∨ r = 15 := by omega
      rcases rr with e | e | e | e | e | e | e | e | e | e | e | e | e | e | e | e <;> subst e
      · exact ⟨_, rfl, .non .non (fun _ _ z => nomatch z), fun _ z => nomatch z⟩
      · exact ⟨_, rfl, .non (.int 7) (fun _ _ z => nomatch z), fun _ z => nomatch z⟩
      · exact ⟨_, rfl, .non ((ps _ (by decide +kernel)) _) (fun _ _ z => nomatch z), fun _ z => nomatch z⟩
      · exact ⟨_, rfl, .len g3 (by decide), fun _ z => V.ref.inj z ▸ m3⟩
      · exact ⟨_, rfl, .len g4 (by decide), fun _ z => V.ref.inj z ▸ m4⟩
      · exact ⟨_, rfl, .len g5 (by decide), fun _ z => V.ref.inj z ▸ m5⟩
      · exact ⟨_, rfl, .non (.lst g6) (fun q xs z => by cases z; rw [g6]; intro z; cases z), fun _ z => V.ref.inj z ▸ na6.symm⟩
      · exact ⟨_, rfl, pf_of g7 (fun _ => .int _) (ps _ (by decide +kernel)) rfl, fun _ z => V.ref.inj z ▸ m7⟩
      · exact ⟨_, rfl, pf_of g8 (fun _ => .int _) (ps _ (by decide +kernel)) rfl, fun _ z => V.ref.inj z ▸ m8⟩
      · exact ⟨_, rfl, pf_of g9 (fun _ => .bl _) (ps _ (by decide +kernel)) rfl, fun _ z => V.ref.inj z ▸ m9⟩
      · exact ⟨_, rfl, pf_of g10 (fun _ => .int 0) (ps _ (by rcases bb with e | e | e | e <;> subst e <;> decide +kernel)) (by rcases bb with e | e | e | e <;> subst e <;> decide +kernel), fun _ z => V.ref.inj z ▸ m10⟩
      · exact ⟨_, rfl, pf_of g11 (fun _ => .int 0) (fun _ => .int 0) rfl, fun _ z => V.ref.inj z ▸ m11⟩
      · exact ⟨_, rfl, pf_of g12 (ps _ (by decide +kernel)) (fun _ => .int 0) rfl, fun _ z => V.ref.inj z ▸ m12⟩
      · exact ⟨_, rfl, pf_of g13 (fun _ => .int 0) (fun _ => .non) rfl, fun _ z => V.ref.inj z ▸ m13⟩
      · exact ⟨_, rfl, .non (.dct g14) (fun q xs z => by cases z; rw [g14]; intro z; cases z), fun _ z => V.ref.inj z ▸ m14⟩
      · exact ⟨_, rfl, pf_of g15 (fun _ => .int 0) (ps _ (by decide +kernel)) (by rcases bb with e | e | e | e <;> subst e <;> decide +kernel), fun _ z => V.ref.inj z ▸ m15⟩
    refine ⟨L, _, r, v, rfl, rfl, SqL.of hL5, hv, ?_⟩
    exact k v d' HF hd' hc' kp ha5 sf ne
end
end Vf


set_option Elab.async false
set_option maxRecDepth 100000
set_option maxHeartbeats 4000000
set_option exponentiation.threshold 3000
namespace Vf
open PySem L2 SX Vm
/-- what a stream shows is short -/
theorem tuple3_len (a b c : Str) : (PySem.tupleText [a, b, c]).length = a.length + b.length + c.length + 6 := by
  unfold PySem.tupleText
  have h := PySem.join_length_add [a, b, c] (by simp)
  have e : PySem.piled [a, b, c] = a.length + 2 + (b.length + 2 + (c.length + 2)) := by simp [PySem.piled]
  have e1 : ("(" : Str).length = 1 := by decide +kernel
  have e2 : (Str.ofString (if [a, b, c].length == 1 then ",)" else ")" : String)).length = 1 := by
    show (Str.ofString ")").length = 1
    decide +kernel
  have ap : ∀ x y : Str, (x ++ y).length = x.length + y.length := fun x y => by show (x.cps ++ y.cps).size = _; rw [Array.size_append]; rfl
  rw [ap, ap, e1, e2]
  omega
theorem shown_stream {r : Int} {h q : List Nat} (hr : r.natAbs.log2 < 1920) (hh : h.length ≤ 1000) (hq : q.length ≤ 1000) (wh : ∀ c ∈ h, c < 100) (wq : ∀ c ∈ q, c < 100) :
    (PyData.tuple [.int r, .str (S h), .str (S q)]).shown.length ≤ sizeLine := by
  show (PySem.tupleText [Str.ofString (toString r), reprText (S h), reprText (S q)]).length ≤ sizeLine
  rw [tuple3_len]
  have h1 := PyProof.Rows.int_text_len_1921 hr
  have h2 := PySem.StrLaws.reprText_len (S h) (fun c hc => Nat.lt_trans (wh c (by simpa using hc)) (by decide))
  have h3 := PySem.StrLaws.reprText_len (S q) (fun c hc => Nat.lt_trans (wq c (by simpa using hc)) (by decide))
  have lh : (S h).length = h.length := by rw [S_len]
  have lq : (S q).length = q.length := by rw [S_len]
  rw [lh] at h2
  rw [lq] at h3
  exact Nat.le_trans (show _ ≤ 30000 by omega) (by decide)
theorem lay_S {l : List Nat} (w : ∀ c ∈ l, c < 100) : PyData.canLay0 (.str (S l)) = true := by
  show (S l).cps.all _ = true
  rw [Array.all_eq_true']
  intro c hc
  exact decide_eq_true (Nat.lt_trans (w c (by simpa using hc)) (by decide))
theorem shaped3 {r : Int} {h q : List Nat} (wh : ∀ c ∈ h, c < 100) (wq : ∀ c ∈ q, c < 100) : SeqAt.shaped (.tuple [.int r, .str (S h), .str (S q)]) = true := by
  unfold SeqAt.shaped
  have e : PyData.canLay0 (.tuple [.int r, .str (S h), .str (S q)]) = true := by
    show (PyData.canLay0 (.int r) && (PyData.canLay0 (.str (S h)) && (PyData.canLay0 (.str (S q)) && true))) = true
    rw [lay_S wh, lay_S wq]
    rfl
  rw [e]
  rfl
theorem isW_small {b : Int} (b5 : b ≤ 5) {l : List Nat} (w : IsW b l) : ∀ c ∈ l, c < 100 := fun c hc => by
  have := (w c hc).2
  omega
theorem eqv3 {r : Int} {h q h' q' : List Nat} : PyData.eqv (.tuple [.int r, .str (S h), .str (S q)]) (.tuple [.int r, .str (S h'), .str (S q')]) = decide (h = h' ∧ q = q') := by
  show ((r == r) && ((S h == S h') && ((S q == S q') && true))) = _
  by_cases c1 : h = h'
  · subst c1
    by_cases c2 : q = q'
    · subst c2
      simp
    · have : (S q == S q') = false := by
        refine Bool.eq_false_iff.mpr fun z => c2 (S_inj (eq_of_beq z))
      rw [this]
      simp [c2]
  · have : (S h == S h') = false := by
      refine Bool.eq_false_iff.mpr fun z => c1 (S_inj (eq_of_beq z))
    rw [this]
    simp [c1]
end Vf


set_option Elab.async false
set_option maxRecDepth 100000
set_option maxHeartbeats 8000000
set_option exponentiation.threshold 3000
namespace Vf
open PySem L2 SX Vm
theorem ev_mem {h q : List Nat} (q0 : 0 < q.length) (i : Nat) : ev h q i ∈ h ∨ ev h q i ∈ q := by
  by_cases hi : i < h.length
  · left
    rw [ev_lt hi, List.getD_eq_getElem?_getD, List.getElem?_eq_getElem hi]
    exact List.getElem_mem hi
  · right
    rw [ev_ge (by omega)]
    unfold g
    have hm := Nat.mod_lt (i - h.length) q0
    rw [List.getD_eq_getElem?_getD, List.getElem?_eq_getElem hm]
    exact List.getElem_mem hm
theorem begN_w {b : Int} {h q : List Nat} {n : Nat} (wh : IsW b h) (wq : IsW b q) (q0 : 0 < q.length) : IsW b (begN h q n) := fun c hc => by
  unfold begN at hc
  obtain ⟨i, _, e⟩ := List.mem_map.mp hc
  subst e
  rcases ev_mem (h := h) q0 i with z | z
  · exact wh _ z
  · exact wq _ z
/-- a prefix near a stream -/
def spNear : Sp := fun vs H Q _ => ∃ (a p : Addr) (d : Int × Int × Int) (b : Nat) (r : Int) (h q : List Nat), vs = [.ref a, .int (b : Int), .ref p] ∧ H a = some (.lst (dieL d)) ∧ DieOk d ∧ d.2.2 ≤ 900000000 ∧ 2 ≤ b ∧ b ≤ 5 ∧ H p = some (.tup [.int r, .str (S h), .str (S q)]) ∧ 0 ≤ r ∧ r ≤ 3 ∧ IsW b h ∧ IsW b q ∧ 0 < q.length ∧ q.length ≤ 10 ∧ h.length ≤ 10 ∧
  ∀ (r' : Int) (w : List Nat) (d' : Int × Int × Int) (p' : Addr) (H' : Hp), 0 ≤ r' → r' ≤ 4 → IsW b w → w.length ≤ 40 → DieOk d' → d'.2.2 ≤ d.2.2 + 20 → Kp a H H' → H' a = some (.lst (dieL d')) → H p' = none → p' ≠ a → H' p' = some (.tup [.int r', .str (S w)]) → Q (.ref p') H'
section
variable {P : Program} {w : World} {K : PySem.W.Frag} {mg : Str → Option Value} {base : Heap}
theorem scNear : FnScope ["die", "base", "stream", "at", "digit", "size", "some", "word"] ["die", "base", "stream"] (defScope sNear) := ⟨rfl, rfl, rfl, by decide +kernel, rfl, by decide +kernel, by decide +kernel⟩
theorem ok_near {f fP fW fG : Addr} {fd fdP fdW fdG : FuncData} (F : Fun K "_law_near" "_law_near" sNear f fd) (GP : FnOk P w K mg base CX0 1 fP fdP ["die", "many"] spPull) (cP : Cal K mg "_law_pull" fP fdP ["die", "many"])
    (GW : FnOk P w K mg base CX0 2 fW fdW ["die", "base", "high"] spWord) (cW : Cal K mg "_law_word" fW fdW ["die", "base", "high"]) (GB : FnOk P w K mg base CX0 1 fG fdG ["stream", "many"] (spLBeg K)) (cB : Cal K mg "_law_beginning" fG fdG ["stream", "many"]) (ml : mg "len" = none) :
    FnOk P w K mg base CX0 3 f fd ["die", "base", "stream"] spNear := by
  refine F.ok scNear (fun vs H Q E h => ?_) (fun cdv A outer s H vs Q E hr h => ?_)
  · obtain ⟨a, p, d, b, r, h, q, rfl, _⟩ := h
    rfl
  · obtain ⟨a, p, d, b, r, h, q, rfl, ha, hd, hc, b2, b5, hp, r0, r3, wh, wq, q0, ql, hl, k⟩ := h
    have nd := scNear.nd
    have hr1 := hr.mono (show 1 ≤ 2 by decide)
    refine ⟨_, pss_cons (ps_set (i := 5) nd rfl (.inl rfl) (pe_call GP hr1 rfl cP.mg cP.kp cP.b .nil pass0 (pa_cons (pv 0) (pa_cons (pe_op op_add (pe_op op_add (pe_callB call_len_str (by rfl) ml boot_len (pa_cons (pe_ix ix_tup (pv 2) pe_int (fun _ _ => rfl)) pa_nil)) (pe_op op_mul pe_int (pe_callB call_len_str (by rfl) ml boot_len (pa_cons (pe_ix ix_tup (pv 2) pe_int (fun _ _ => rfl)) pa_nil)))) pe_int) pa_nil))))
      (pss_cons (ps_set (i := 7) nd rfl (.inl rfl) (pe_call GB hr1 rfl cB.mg cB.kp cB.b .nil pass0 (pa_cons (pv 2) (pa_cons (pv 5) pa_nil))))
      (pss_cons (ps_par (i := 3) (j := 4) rfl nd rfl rfl (by decide) rfl rfl (pa_cons (pe_call GP hr1 rfl cP.mg cP.kp cP.b .nil pass0 (pa_cons (pv 0) (pa_cons (pe_op op_add (pv 5) pe_int) pa_nil))) (pa_cons (pe_ix ix_str pe_str (pe_call GP hr1 rfl cP.mg cP.kp cP.b .nil pass0 (pa_cons (pv 0) (pa_cons (pv 1) pa_nil))) (fun _ _ => rfl)) pa_nil)) rfl)
      (pss_cons (ps_set (i := 6) nd rfl (.inl rfl) (pe_lst (pa_cons (pe_tup (pa_cons (pe_ix ix_tup (pv 2) pe_int (fun _ _ => rfl)) (pa_cons (pv 7) pa_nil))) (pa_cons (pe_tup (pa_cons (pe_ix ix_tup (pv 2) pe_int (fun _ _ => rfl)) (pa_cons (pv 7) pa_nil)))
          (pa_cons (pe_tup (pa_cons (pe_ix ix_tup (pv 2) pe_int (fun _ _ => rfl)) (pa_cons (pe_op op_add_str (pe_op op_add_str (pe_slice sl_str (pv 7) po_none (po_some (pv 3))) (pv 4)) (pe_slice sl_str (pv 7) (po_some (pe_op op_add (pv 3) pe_int)) po_none)) pa_nil))) pa_nil)))))
      (pss_one (ps_ret (pe_ix ix_list (pe_op op_cat (pv 6) (pe_lst (pa_cons (pe_tup (pa_cons (pe_op op_add (pe_ix ix_tup (pv 2) pe_int (fun _ _ => rfl)) pe_int) (pa_cons (pv 7) pa_nil))) (pa_cons (pe_tup (pa_cons (pe_call GP hr1 rfl cP.mg cP.kp cP.b .nil pass0 (pa_cons (pv 0) (pa_cons pe_int pa_nil)))
          (pa_cons (pe_call GW hr rfl cW.mg cW.kp cW.b .nil pass0 (pa_cons (pv 0) (pa_cons (pv 1) (pa_cons pe_int pa_nil)))) pa_nil))) pa_nil)))) (pe_call GP hr1 rfl cP.mg cP.kp cP.b .nil pass0 (pa_cons (pv 0) (pa_cons pe_int pa_nil))) (fun _ _ => rfl))))))), ?_⟩
    have npa : p ≠ a := fun z => by rw [z, ha] at hp; cases hp
    refine ⟨_, rfl, _, rfl, p, _, _, _, rfl, rfl, SqT.of hp, rfl, _, rfl, small_len (by omega), _, rfl, p, _, _, _, rfl, rfl, SqT.of hp, rfl, _, rfl, small_len (by omega), _, _, rfl, rfl, .inl ⟨by decide, by decide⟩, _, _, rfl, rfl, _, _, rfl, rfl, a, d, _, rfl, ha, hd, ?_, ?_, by omega, fun size d1 hd1 hc1 z0 z1 => ?_⟩
    · rw [S_len, S_len]
      omega
    · rw [S_len, S_len]
      omega
    rw [S_len, S_len] at z1
    obtain ⟨n, rfl⟩ := Int.eq_ofNat_of_zero_le z0
    have hp1 : upd H a (.lst (dieL d1)) p = some (.tup [.int r, .str (S h), .str (S q)]) := by rw [upd_ne npa]; exact hp
    refine ⟨_, rfl, _, rfl, p, _, h, q, n, rfl, SqT.of hp1, q0, by omega, by omega, by omega, ?_⟩
    have hk : n ≤ h.length + (n / q.length + 1) * q.length := by
      have := Nat.lt_div_mul_add (a := n) q0
      rw [Nat.succ_mul]
      omega
    rw [beg_N hk]
    have wn : IsW (b : Int) (begN h q n) := begN_w wh wq q0
    have ln : (begN h q n).length = n := begN_len
    generalize begN h q n = bw at wn ln ⊢
    refine ⟨_, rfl, _, rfl, _, _, rfl, rfl, a, d1, _, rfl, upd_same, hd1, by omega, by omega, by omega, fun at' d2 hd2 hc2 t0 t1 => ?_⟩
    rw [upd_upd']
    obtain ⟨t, rfl⟩ := Int.eq_ofNat_of_zero_le t0
    refine ⟨_, rfl, _, rfl, a, d2, b, rfl, upd_same, hd2, by omega, by omega, by omega, fun i d3 hd3 hc3 i0 i1 => ?_⟩
    rw [upd_upd']
    obtain ⟨c, hc', c0, c1⟩ := pos_pull i0 i1 (by omega : (b : Int) ≤ 5)
    refine ⟨_, i, c, rfl, rfl, len5, hc', _, _, rfl, ?_⟩
    have hp3 : upd H a (.lst (dieL d3)) p = some (.tup [.int r, .str (S h), .str (S q)]) := by rw [upd_ne npa]; exact hp
    have ha3 : upd H a (.lst (dieL d3)) a = some (.lst (dieL d3)) := upd_same
    have kp3 : Kp a H (upd H a (.lst (dieL d3))) := Kp.upd
    generalize upd H a (.lst (dieL d3)) = H3 at hp3 ha3 kp3 ⊢
    have w3 : IsW (b : Int) (bw.take t ++ [c] ++ bw.drop (t + 1)) := by
      refine IsW.app (IsW.app (wn.of fun x hx => List.mem_of_mem_take hx) (fun x hx => ?_)) (wn.of fun x hx => List.mem_of_mem_drop hx)
      rw [List.mem_singleton.mp hx]
      exact ⟨c0, c1⟩
    have l3 : (bw.take t ++ [c] ++ bw.drop (t + 1)).length ≤ 40 := by
      rw [List.length_append, List.length_append, List.length_take, List.length_drop]
      simp
      omega
    have e3 : cutS (S bw) none (some (t : Int)) ++ (⟨#[c]⟩ : Str) ++ cutS (S bw) (some ((t : Int) + 1)) none = S (bw.take t ++ [c] ++ bw.drop (t + 1)) := by
      rw [cut_takeG, show ((t : Int) + 1) = ((t + 1 : Nat) : Int) by omega, cut_dropG, S_snoc, S_cat]
    have f1 : (cutS (S bw) none (some (t : Int))).length ≤ 100 := by rw [cut_takeG, S_len, List.length_take]; omega
    have f2 : (cutS (S bw) (some ((t : Int) + 1)) none).length ≤ 100 := by rw [show ((t : Int) + 1) = ((t + 1 : Nat) : Int) by omega, cut_dropG, S_len, List.length_drop]; omega
    have ap : ∀ x y : Str, (x ++ y).length = x.length + y.length := fun x y => by show (x.cps ++ y.cps).size = _; rw [Array.size_append]; rfl
    have lw : (S bw).length ≤ sizeLine := small_len (by omega)
    refine ⟨_, rfl, p, _, _, _, rfl, rfl, SqT.of (hp3), rfl, _, rfl, (by show 2 ≤ sizeLine; decide), fun u1 nn1 => ?_⟩
    have s1 : Same H3 (upd H3 u1 (.tup [.int r, .str (S bw)])) := same_new nn1
    have hu1 : upd H3 u1 (.tup [.int r, .str (S bw)]) u1 = some (.tup [.int r, .str (S bw)]) := upd_same
    generalize upd H3 u1 (.tup [.int r, .str (S bw)]) = I1 at s1 hu1 ⊢
    refine ⟨_, rfl, p, _, _, _, rfl, rfl, SqT.of (s1 _ _ (hp3)), rfl, _, rfl, (by show 2 ≤ sizeLine; decide), fun u2 nn2 => ?_⟩
    have s2 : Same I1 (upd I1 u2 (.tup [.int r, .str (S bw)])) := same_new nn2
    have hu2 : upd I1 u2 (.tup [.int r, .str (S bw)]) u2 = some (.tup [.int r, .str (S bw)]) := upd_same
    generalize upd I1 u2 (.tup [.int r, .str (S bw)]) = I2 at s2 hu2 ⊢
    refine ⟨_, rfl, p, _, _, _, rfl, rfl, SqT.of (s2 _ _ (s1 _ _ (hp3))), rfl, _, rfl, _, rfl, _, rfl, _, rfl, lw, _, rfl, _, _, rfl, rfl, ?_, _, rfl, _, rfl, _, _, rfl, rfl, _, rfl, _, rfl, lw, _, _, rfl, rfl, ?_, ?_⟩
    · exact Nat.le_trans (Nat.add_le_add f1 (Nat.le_refl 1)) (by decide)
    · rw [ap]
      exact Nat.le_trans (Nat.add_le_add (Nat.add_le_add f1 (Nat.le_refl 1)) f2) (by decide)
    rw [e3]
    generalize bw.take t ++ [c] ++ bw.drop (t + 1) = w3' at w3 l3 ⊢
    refine ⟨(by show 2 ≤ sizeLine; decide), fun u3 nn3 => ?_⟩
    have s3 : Same I2 (upd I2 u3 (.tup [.int r, .str (S w3')])) := same_new nn3
    have hu3 : upd I2 u3 (.tup [.int r, .str (S w3')]) u3 = some (.tup [.int r, .str (S w3')]) := upd_same
    generalize upd I2 u3 (.tup [.int r, .str (S w3')]) = I3 at s3 hu3 ⊢
    refine ⟨(by show 3 ≤ sizeLine; decide), fun u4 nn4 => ?_⟩
    have s4 : Same I3 (upd I3 u4 (.lst [.ref u1, .ref u2, .ref u3])) := same_new nn4
    have hu4 : upd I3 u4 (.lst [.ref u1, .ref u2, .ref u3]) u4 = some (.lst [.ref u1, .ref u2, .ref u3]) := upd_same
    generalize upd I3 u4 (.lst [.ref u1, .ref u2, .ref u3]) = I4 at s4 hu4 ⊢
    have haI := s4 _ _ (s3 _ _ (s2 _ _ (s1 _ _ ha3)))
    have hpI := s4 _ _ (s3 _ _ (s2 _ _ (s1 _ _ hp3)))
    have na4 : u4 ≠ a := (ne_of_none (s3 _ _ (s2 _ _ (s1 _ _ ha3))) nn4).symm
    refine ⟨_, rfl, _, rfl, p, _, _, _, rfl, rfl, SqT.of hpI, rfl, _, _, rfl, rfl, _, rfl, (by show 2 ≤ sizeLine; decide), fun u5 nn5 => ?_⟩
    have s5 : Same I4 (upd I4 u5 (.tup [.int (r + 1), .str (S bw)])) := same_new nn5
    have hu5 : upd I4 u5 (.tup [.int (r + 1), .str (S bw)]) u5 = some (.tup [.int (r + 1), .str (S bw)]) := upd_same
    generalize upd I4 u5 (.tup [.int (r + 1), .str (S bw)]) = I5 at s5 hu5 ⊢
    refine ⟨_, rfl, a, d3, _, rfl, s5 _ _ haI, hd3, by decide, by decide, by omega, fun y d4 hd4 hc4 y0 y1 => ?_⟩
    refine ⟨_, rfl, _, rfl, a, d4, b, 4, rfl, upd_same, hd4, by omega, by omega, by omega, by decide, by decide, fun l5 d5 hd5 hc5 wl ll => ?_⟩
    rw [upd_upd']
    have kp5 : Kp a I5 (upd I5 a (.lst (dieL d5))) := Kp.upd
    have ha5 : upd I5 a (.lst (dieL d5)) a = some (.lst (dieL d5)) := upd_same
    have nt : ∀ (p : Addr) (xs : List V), I5 p = some (.tup xs) → p ≠ a := fun p xs e z => by rw [z, s5 _ _ haI] at e; cases e
    generalize upd I5 a (.lst (dieL d5)) = I6 at kp5 ha5 ⊢
    have g1 := kp5 _ _ (nt _ _ (s5 _ _ (s4 _ _ (s3 _ _ (s2 _ _ hu1))))) (s5 _ _ (s4 _ _ (s3 _ _ (s2 _ _ hu1))))
    have g2 := kp5 _ _ (nt _ _ (s5 _ _ (s4 _ _ (s3 _ _ hu2)))) (s5 _ _ (s4 _ _ (s3 _ _ hu2)))
    have g3 := kp5 _ _ (nt _ _ (s5 _ _ (s4 _ _ hu3))) (s5 _ _ (s4 _ _ hu3))
    have g4 := kp5 _ _ na4 (s5 _ _ hu4)
    have g5 := kp5 _ _ (nt _ _ hu5) hu5
    refine ⟨(by show 2 ≤ sizeLine; decide), fun u6 nn6 => ?_⟩
    have s6 : Same I6 (upd I6 u6 (.tup [.int y, .str (S l5)])) := same_new nn6
    have g6 : upd I6 u6 (.tup [.int y, .str (S l5)]) u6 = some (.tup [.int y, .str (S l5)]) := upd_same
    generalize upd I6 u6 (.tup [.int y, .str (S l5)]) = I7 at s6 g6 ⊢
    refine ⟨(by show 2 ≤ sizeLine; decide), fun u7 nn7 => ?_⟩
    have s7 : Same I7 (upd I7 u7 (.lst [.ref u5, .ref u6])) := same_new nn7
    have g7 : upd I7 u7 (.lst [.ref u5, .ref u6]) u7 = some (.lst [.ref u5, .ref u6]) := upd_same
    generalize upd I7 u7 (.lst [.ref u5, .ref u6]) = I8 at s7 g7 ⊢
    refine ⟨u4, u7, _, _, rfl, rfl, s7 _ _ (s6 _ _ g4), g7, (by show 5 ≤ sizeLine; decide), fun L nn8 => ?_⟩
    have s8 : Same I8 (upd I8 L (.lst ([.ref u1, .ref u2, .ref u3] ++ [.ref u5, .ref u6]))) := same_new nn8
    have g8 : upd I8 L (.lst ([.ref u1, .ref u2, .ref u3] ++ [.ref u5, .ref u6])) L = some (.lst ([.ref u1, .ref u2, .ref u3] ++ [.ref u5, .ref u6])) := upd_same
    have ha8 := s7 _ _ (s6 _ _ ha5)
    have naL : L ≠ a := (ne_of_none ha8 nn8).symm
    generalize upd I8 L (.lst ([.ref u1, .ref u2, .ref u3] ++ [.ref u5, .ref u6])) = I9 at s8 g8 ⊢
    refine ⟨_, rfl, a, d5, _, rfl, s8 _ _ ha8, hd5, by decide, by decide, by omega, fun j d6 hd6 hc6 j0 j1 => ?_⟩
    have up9 : ∀ b o, I6 b = some o → I9 b = some o := fun b o e => s8 _ _ (s7 _ _ (s6 _ _ e))
    have kp9 : Kp a I9 (upd I9 a (.lst (dieL d6))) := Kp.upd
    have haF : upd I9 a (.lst (dieL d6)) a = some (.lst (dieL d6)) := upd_same
    have nt9 : ∀ (p : Addr) (xs : List V), I9 p = some (.tup xs) → p ≠ a := fun p xs e z => by rw [z, s8 _ _ ha8] at e; cases e
    generalize upd I9 a (.lst (dieL d6)) = IF at kp9 haF ⊢
    have kpF : Kp a H IF := fun b o nb e => kp9 _ _ nb (up9 _ _ (kp5 _ _ nb (s5 _ _ (s4 _ _ (s3 _ _ (s2 _ _ (s1 _ _ (kp3 _ _ nb e))))))))
    -- fresh to H
    have fr : ∀ (q : Addr) (J : Hp), (∀ b o, b ≠ a → H b = some o → J b = some o) → J q = none → q ≠ a → H q = none := fun q J k n nq => by
      cases e : H q with
      | none => rfl
      | some o => rw [k q o nq e] at n; cases n
    have b3 : ∀ b o, b ≠ a → H b = some o → H3 b = some o := kp3
    have f1' : H u1 = none := fr u1 H3 b3 nn1 (ne_of_none ha3 nn1).symm
    have f2' : H u2 = none := fr u2 I1 (fun b o n e => s1 _ _ (b3 b o n e)) nn2 (ne_of_none (s1 _ _ ha3) nn2).symm
    have f3' : H u3 = none := fr u3 I2 (fun b o n e => s2 _ _ (s1 _ _ (b3 b o n e))) nn3 (ne_of_none (s2 _ _ (s1 _ _ ha3)) nn3).symm
    have f5' : H u5 = none := fr u5 I4 (fun b o n e => s4 _ _ (s3 _ _ (s2 _ _ (s1 _ _ (b3 b o n e))))) nn5 (ne_of_none haI nn5).symm
    have f6' : H u6 = none := fr u6 I6 (fun b o n e => kp5 _ _ n (s5 _ _ (s4 _ _ (s3 _ _ (s2 _ _ (s1 _ _ (b3 b o n e))))))) nn6 (ne_of_none ha5 nn6).symm
    obtain ⟨pp, r', w', hv, r0', r4', wW, lW, fH, ne, eF⟩ : ∃ (pp : Addr) (r' : Int) (w' : List Nat), atI ([V.ref u1, V.ref u2, V.ref u3] ++ [V.ref u5, V.ref u6]) j = some (V.ref pp) ∧ 0 ≤ r' ∧ r' ≤ 4 ∧ IsW (b : Int) w' ∧ w'.length ≤ 40 ∧ H pp = none ∧ pp ≠ a ∧ IF pp = some (.tup [.int r', .str (S w')]) := by
      have TT : ∀ (p : Addr) (xs : List V), I9 p = some (.tup xs) → p ≠ a ∧ IF p = some (.tup xs) := fun p xs e => ⟨nt9 _ _ e, kp9 _ _ (nt9 _ _ e) e⟩
      have jj : j = 0 ∨ j = 1 ∨ j = 2 ∨ j = 3 ∨ j = 4 := by omega
      rcases jj with e | e | e | e | e <;> subst e
      · exact ⟨u1, r, bw, rfl, r0, by omega, wn, by omega, f1', (TT _ _ (up9 _ _ g1)).1, (TT _ _ (up9 _ _ g1)).2⟩
      · exact ⟨u2, r, bw, rfl, r0, by omega, wn, by omega, f2', (TT _ _ (up9 _ _ g2)).1, (TT _ _ (up9 _ _ g2)).2⟩
      · exact ⟨u3, r, w3', rfl, r0, by omega, w3, l3, f3', (TT _ _ (up9 _ _ g3)).1, (TT _ _ (up9 _ _ g3)).2⟩
      · exact ⟨u5, r + 1, bw, rfl, by omega, by omega, wn, by omega, f5', (TT _ _ (up9 _ _ g5)).1, (TT _ _ (up9 _ _ g5)).2⟩
      · exact ⟨u6, y, l5, rfl, y0, by omega, wl, by omega, f6', (TT _ _ (s8 _ _ (s7 _ _ g6))).1, (TT _ _ (s8 _ _ (s7 _ _ g6))).2⟩
    refine ⟨L, _, j, .ref pp, rfl, rfl, SqL.of (kp9 _ _ naL g8), hv, ?_⟩
    exact k r' w' d6 pp IF r0' r4' wW lW hd6 (by omega) kpF haF fH ne eF
end
end Vf


set_option Elab.async false
set_option maxRecDepth 100000
set_option maxHeartbeats 16000000
set_option exponentiation.threshold 3000
namespace Vf
open PySem L2 SX Vm
abbrev qRight : Str := "_law_right" ++ ".<locals>." ++ "<lambda>"
abbrev qErr : Str := "_law_errors_right" ++ ".<locals>." ++ "<lambda>"
abbrev tT (P1 P2 : Addr) : List (Addr × Str) := [(P1, qRight), (P2, qErr)]
/-- all is as it should be -/
def spBoth (n : Int) (P1 P2 : Addr) : Sp := fun vs H Q _ => ∃ (a : Addr) (d : Int × Int × Int) (b : Nat), vs = [.ref a, .int (b : Int)] ∧ H a = some (.lst (dieL d)) ∧ DieOk d ∧ d.2.2 ≤ 800000000 ∧ 2 ≤ b ∧ b ≤ 5 ∧ LamX.Tabs (tT P1 P2) H ∧
  ∀ (d' : Int × Int × Int) (H' : Hp), DieOk d' → d'.2.2 ≤ d.2.2 + n → KT a H H' → H' a = some (.lst (dieL d')) → LamX.Tabs (tT P1 P2) H' → Q (.bl true) H'
theorem KT.kp {a : Addr} {H H1 H2 : Hp} (x : KT a H H1) (y : Kp a H1 H2) : KT a H H2 := fun b o n nt e => y b o n (x b o n nt e)
theorem KT.sm {a : Addr} {H H1 H2 : Hp} (x : KT a H H1) (y : Same H1 H2) : KT a H H2 := fun b o n nt e => y b o (x b o n nt e)
theorem KT.ex {a : Addr} {H H1 H2 : Hp} (x : KT a H H1) (y : LamX.ExtN H1 H2) : KT a H H2 := fun b o n nt e => y b o (x b o n nt e) nt
theorem KT.refl (a : Addr) (H : Hp) : KT a H H := fun _ _ _ _ e => e
/-- a def as its text stands, for a call by a lambda -/
structure ToldFn (K : PySem.W.Frag) (mg : Str → Option Value) (g : Addr) : Prop where
  m : mg "_law_told" = some (.ref g)
  kp : PySem.W.keepIn K (.ref g) = true
  lk : ∃ (oc : Value) (od : Option Addr) (kV doc pm : Value) (an : Option Addr) (cdv ct : Value) (osl : Array (Option Value)), K.lookup g = some ⟨oc, od, .func (PySem.W.fnOf "_law_told" "_law_told" (defArgs sTold) (defBody sTold) (defScope sTold) .none kV doc pm an cdv ct), osl⟩ ∧ PySem.W.codeIn K cdv "_law_told" = true ∧
    Binds K (PySem.W.fnOf "_law_told" "_law_told" (defArgs sTold) (defBody sTold) (defScope sTold) .none kV doc pm an cdv ct) ["call"] []
theorem takes0 {X : Cx} : Takes X (fun _ _ _ _ => False) := fun _ _ x => by
  obtain ⟨a, B, sI, pins', σ', H', cls, d, rfl, J', nb, up, sky, na, os, ag, wish⟩ := x
  exact wish.elim
theorem nf_ev {f : Nat → Nat} {h q : List Nat} (n : Nf f h q) : Nf (ev h q) h q := by
  have : f = ev h q := funext fun i => (n.is i).symm
  rw [← this]
  exact n
theorem nf_congr {f g : Nat → Nat} {h q : List Nat} (n : Nf f h q) (e : ∀ i, f i = g i) : Nf g h q := by
  have : f = g := funext e
  rw [← this]
  exact n
theorem within_b {b : Nat} (b2 : 2 ≤ b) (b5 : b ≤ 5) : withinV 2 5 (.int (b : Int)) = true := by
  show (decide ((2 : Int) ≤ b) && decide ((b : Int) ≤ 5)) = true
  rw [decide_eq_true (by omega), decide_eq_true (by omega)]
  rfl
theorem PF.right {H : Hp} {b : Nat} {r : Int} {p : Addr} {w : List Nat} (hp : H p = some (.tup [.int r, .str (S w)])) (r0 : 0 ≤ r) (r1 : r < 5000) (wl : w.length ≤ 1000) (ww : IsW b w) : PF H b 5000 (.ref p) true := by
  have w1 : (withinV 0 (5000 - 1) (.int r) && wordV b (.str (S w))) = true := by
    rw [wordV_of ww]
    show ((decide (0 ≤ r) && decide (r ≤ 5000 - 1)) && true) = true
    rw [decide_eq_true r0, decide_eq_true (by omega)]
    rfl
  rw [← w1]
  exact .fin hp (fun _ => .int r) (fun _ => .str _ (by rw [S_len]; exact wl))
/-- begins_with of what is right -/
theorem begins_k {b : Nat} {r r' : Int} {p p2 : Addr} {h q w : List Nat} {f : Nat → Nat} {H : Hp} {X Y : Prop} {Z : Int → List Nat → List Nat → Int → List Nat → Prop} {K : PySem.W.Frag} (hp : H p = some (.tup [.int r, .str (S h), .str (S q)])) (hp2 : H p2 = some (.tup [.int r', .str (S w)])) (r0 : 0 ≤ r) (r5 : r < 5000) (s0 : 0 ≤ r') (s5 : r' < 5000)
    (nf : Nf f h q) (hl : h.length ≤ 400) (ql : q.length ≤ 400) (wl : w.length ≤ 400) (wh : IsW b h) (wq : IsW b q) (ww : IsW b w) (k : Z r h q r' w) :
    ∀ n : Nat, V.int (b : Int) = .int (n : Int) → 2 ≤ n → n ≤ 5 → ∃ res, SF H n 5000 (.ref p) res ∧ (res = false → X) ∧ (res = true → ∃ res2, PF H n 5000 (.ref p2) res2 ∧ (res2 = false → Y) ∧
    (res2 = true → ∃ (p' p2' : Addr) (r1 r2 : Int) (h1 q1 w1 : List Nat), V.ref p = .ref p' ∧ V.ref p2 = .ref p2' ∧ SqT K H p' [.int r1, .str (S h1), .str (S q1)] ∧ SqT K H p2' [.int r2, .str (S w1)] ∧ 0 < q1.length ∧ q1.length ≤ 1000 ∧ h1.length ≤ 1000 ∧ w1.length ≤ 1000 ∧ Z r1 h1 q1 r2 w1)) := by
  intro n e _ _
  obtain rfl : b = n := Int.ofNat.inj (V.int.inj e)
  exact ⟨true, SF.right hp r0 (by omega) nf (by omega) (by omega) wh wq, fun z => (by cases z), fun _ => ⟨true, PF.right hp2 s0 s5 (by omega) ww, fun z => (by cases z), fun _ => ⟨p, p2, r, r', h, q, w, rfl, rfl, SqT.of hp, SqT.of hp2, nf.ne, by omega, by omega, by omega, k⟩⟩⟩
/-- replaced, of what is right -/
theorem replaced_k {b : Nat} {r r1 r2 : Int} {p p1 p2 : Addr} {h q u w : List Nat} {f : Nat → Nat} {H : Hp} {X Y O : Prop} {Z : Int → List Nat → List Nat → Addr → Prop} {K : PySem.W.Frag} (hp : H p = some (.tup [.int r, .str (S h), .str (S q)])) (hp1 : H p1 = some (.tup [.int r1, .str (S u)])) (hp2 : H p2 = some (.tup [.int r2, .str (S w)])) (r0 : 0 ≤ r) (r5 : r < 5000) (s0 : 0 ≤ r1) (s5 : r1 < 5000) (t0 : 0 ≤ r2) (t5 : r2 < 5000)
    (nf : Nf f h q) (hl : h.length ≤ 400) (ql : q.length ≤ 400) (ul : u.length ≤ 400) (wl : w.length ≤ 400) (wh : IsW b h) (wq : IsW b q) (wu : IsW b u) (ww : IsW b w) (k1 : underB r h q r1 u = false → O)
    (k2 : underB r h q r1 u = true → ∀ (h' q' : List Nat) (p' : Addr), Nf (shF w u.length (ev h q)) h' q' → h'.length ≤ w.length + h.length → q'.length ≤ q.length → (∀ c ∈ h', c ∈ w ∨ c ∈ h) → Sub q' q → H p' = none → Z r2 h' q' p') :
    ∀ n : Nat, V.int (b : Int) = .int (n : Int) → 2 ≤ n → n ≤ 5 → ∃ res, SF H n 5000 (.ref p) res ∧ (res = false → X) ∧ (res = true → ∃ res2, PF H n 5000 (.ref p1) res2 ∧ (res2 = false → Y) ∧
    (res2 = true → ∃ res3, PF H n 5000 (.ref p2) res3 ∧ (res3 = false → Y) ∧
    (res3 = true → ∃ (p' p1' p2' : Addr) (ra rb rc : Int) (h1 q1 u1 w1 : List Nat), V.ref p = .ref p' ∧ V.ref p1 = .ref p1' ∧ V.ref p2 = .ref p2' ∧ SqT K H p' [.int ra, .str (S h1), .str (S q1)] ∧ SqT K H p1' [.int rb, .str (S u1)] ∧ SqT K H p2' [.int rc, .str (S w1)] ∧ 0 < q1.length ∧ q1.length ≤ 400 ∧ h1.length ≤ 400 ∧ u1.length ≤ 400 ∧ w1.length ≤ 400 ∧
      (underB ra h1 q1 rb u1 = false → O) ∧ (underB ra h1 q1 rb u1 = true → ∀ (h' q' : List Nat) (p' : Addr), Nf (shF w1 u1.length (ev h1 q1)) h' q' → h'.length ≤ w1.length + h1.length → q'.length ≤ q1.length → (∀ c ∈ h', c ∈ w1 ∨ c ∈ h1) → Sub q' q1 → H p' = none → Z rc h' q' p')))) := by
  intro n e _ _
  obtain rfl : b = n := Int.ofNat.inj (V.int.inj e)
  exact ⟨true, SF.right hp r0 (by omega) nf (by omega) (by omega) wh wq, fun z => (by cases z), fun _ => ⟨true, PF.right hp1 s0 s5 (by omega) wu, fun z => (by cases z), fun _ => ⟨true, PF.right hp2 t0 t5 (by omega) ww, fun z => (by cases z), fun _ =>
    ⟨p, p1, p2, r, r1, r2, h, q, u, w, rfl, rfl, rfl, SqT.of hp, SqT.of hp1, SqT.of hp2, nf.ne, ql, hl, ul, wl, k1, k2⟩⟩⟩⟩
section
variable {P : Program} {w : World} {K : PySem.W.Frag} {mg : Str → Option Value} {base : Heap}
theorem scRight : FnScope ["die", "base", "due", "found", "kept", "more", "new", "old", "stream", "third", "turn"] ["die", "base"] (defScope sRight) := ⟨rfl, rfl, rfl, by decide +kernel, rfl, by decide +kernel, by decide +kernel⟩
end
end Vf


set_option Elab.async false
set_option maxRecDepth 100000
set_option maxHeartbeats 16000000
set_option exponentiation.threshold 3000
namespace Vf
open PySem L2 SX Vm
section
variable {P : Program} {w : World} {K : PySem.W.Frag} {mg : Str → Option Value} {base : Heap}
theorem ok_right {f fP fW fL fN fU fG fR fV fI g c P1 P2 CN CP CS CX CO : Addr} {fd fdP fdW fdL fdN fdU fdG fdR fdV fdI : FuncData} (F : Fun K "_law_right" "_law_right" sRight f fd)
    (GP : FnOk P w K mg base CX0 1 fP fdP ["die", "many"] spPull) (cP : Cal K mg "_law_pull" fP fdP ["die", "many"])
    (GW : FnOk P w K mg base CX0 2 fW fdW ["die", "base", "high"] spWord) (cW : Cal K mg "_law_word" fW fdW ["die", "base", "high"])
    (GL : FnOk P w K mg base CX0 3 fL fdL ["die", "base", "wide", "high"] spLStream) (cL : Cal K mg "_law_stream" fL fdL ["die", "base", "wide", "high"])
    (GN : FnOk P w K mg base CX0 3 fN fdN ["die", "base", "stream"] spNear) (cN : Cal K mg "_law_near" fN fdN ["die", "base", "stream"])
    (GU : FnOk P w K mg base CX0 2 fU fdU ["stream", "prefix"] (spUnder K)) (cU : Cal K mg "_law_is_under" fU fdU ["stream", "prefix"])
    (GG : FnOk P w K mg base (L2.CX P w) 5 fG fdG ["base", "stream", "prefix"] (spBegins K CN CS CX)) (cG : Cal K mg "begins_with" fG fdG ["base", "stream", "prefix"])
    (GR : FnOk P w K mg base (L2.CX P w) 5 fR fdR ["base", "stream", "old", "new"] (spReplaced K CN CS CX CO)) (cR : Cal K mg "replaced" fR fdR ["base", "stream", "old", "new"])
    (GV : FnOk P w K mg base CX0 2 fV fdV ["stream", "old", "new"] (spLReplaced K)) (cV : Cal K mg "_law_replaced" fV fdV ["stream", "old", "new"])
    (GI : FnOk P w K mg base (L2.CX P w) 5 fI fdI ["base", "roots", "value"] spIsStream) (cI : Cal K mg "is_stream" fI fdI ["base", "roots", "value"])
    (TF : ToldFn K mg g) (T : ToldTxt K mg CN CP CS CX CO) (TB : LamX.TabB base mg c P1) (hcd : ∀ (cdv : Value), (∃ (oc : Value) (od : Option Addr) (kV doc pm : Value) (an : Option Addr) (ct : Value) (osl : Array (Option Value)), K.lookup f = some ⟨oc, od, .func (PySem.W.fnOf "_law_right" "_law_right" (defArgs sRight) (defBody sRight) (defScope sRight) .none kV doc pm an cdv ct), osl⟩) → cdv = .ref c)
    (n12 : P1 ≠ P2) (N : Nm mg) (nr : mg "range" = none) : VG.FnG P w K mg base 8 f fd ["die", "base"] (spBoth 300 P1 P2) := by
  obtain ⟨oc, od, kV, doc, pm, an, cdg, ct, osl, lkT, hcT, bT⟩ := TF.lk
  refine VG.FnG.of F scRight (fun vs H Q E h => ?_) (fun cdv A outer s H vs Q E gd hr _ hlk h => ?_)
  · obtain ⟨a, d, b, rfl, _⟩ := h
    rfl
  · have ecd := hcd cdv hlk
    obtain ⟨a, d, b, rfl, ha, hd, hc, b2, b5, tabs, k⟩ := h
    have nd := scRight.nd
    have hr1 := hr.mono (show 1 ≤ 7 by decide)
    have hr2 := hr.mono (show 2 ≤ 7 by decide)
    have hr3 := hr.mono (show 3 ≤ 7 by decide)
    have hr5 := hr.mono (show 5 ≤ 7 by decide)
    have hun : A.units + 3 + 64 < cLine := hr.units
    have hu12 : ∀ p ∈ tT P1 P2, p.1 = P1 → p.2 = qRight := fun p hp e => by
      rcases List.mem_cons.mp hp with z | z
      · rw [z]
      · rw [List.mem_singleton.mp z] at e
        exact absurd e.symm n12
    refine ⟨_, pss_cons (ps_set (i := 8) nd rfl (.inr rfl) (pe_call GL hr3 rfl cL.mg cL.kp cL.b .nil pass0 (pa_cons (pv 0) (pa_cons (pv 1) (pa_cons pe_int (pa_cons (pe_ix ix_list (pe_lst (pa_cons pe_int (pa_cons pe_int (pa_cons pe_int pa_nil)))) (pe_call GP hr1 rfl cP.mg cP.kp cP.b .nil pass0 (pa_cons (pv 0) (pa_cons pe_int pa_nil))) (fun _ _ => rfl)) pa_nil))))))
      (pss_cons (ps_set (i := 4) nd rfl (.inl rfl) (pe_callB (VG.call_repr gd (by show A.units + 3 + 10 < cLine; omega)) (by rfl) T.rep PyProof.Rows.boot_repr (pa_cons (pv 8) pa_nil)))
      (pss_cons (ps_for PassesOwn.never rfl (pi_range1 rfl nr (pa_cons pe_int pa_nil)) (pg_name (i := 10) nd rfl (.inl rfl))
        (pss_cons (ps_asg (pe_tup (pa_cons (pe_call GN hr3 rfl cN.mg cN.kp cN.b .nil pass0 (pa_cons (pv 0) (pa_cons (pv 1) (pa_cons (pv 8) pa_nil)))) (pa_cons (pe_tup (pa_cons (pe_call GP hr1 rfl cP.mg cP.kp cP.b .nil pass0 (pa_cons (pv 0) (pa_cons pe_int pa_nil))) (pa_cons (pe_call GW hr2 rfl cW.mg cW.kp cW.b .nil pass0 (pa_cons (pv 0) (pa_cons (pv 1) (pa_cons pe_int pa_nil)))) pa_nil))) pa_nil)))
          (pg_tup rfl (pgs_cons (pg_name (i := 7) nd rfl (.inr rfl)) (pgs_cons (pg_name (i := 6) nd rfl (.inr rfl)) pgs_nil))))
        (pss_cons (ps_set (i := 2) nd rfl (.inl rfl) (pe_call GU hr2 rfl cU.mg cU.kp cU.b .nil pass0 (pa_cons (pv 8) (pa_cons (pv 7) pa_nil))))
        (pss_cons (ps_if (pt_cmpR op_ne (pe_callB (VG.call_repr gd (by show A.units + 3 + 10 < cLine; omega)) (by rfl) T.rep PyProof.Rows.boot_repr (pa_cons (pe_call GG hr5 rfl cG.mg cG.kp cG.b .nil (passes_call takes0 (fun _ _ _ _ h => h)) (pa_cons (pv 1) (pa_cons (pv 8) (pa_cons (pv 7) pa_nil)))) pa_nil)) (pe_callB (VG.call_repr gd (by show A.units + 3 + 10 < cLine; omega)) (by rfl) T.rep PyProof.Rows.boot_repr (pa_cons (pv 2) pa_nil)) (nomark _)) (pss_one (ps_ret pe_bl)) pss_nil)
        (pss_one (ps_if (pt_not (pt_val (pv 2)))
          (pss_one (ps_if (pt_cmpR op_ne (LamX.pe_lamcall (T := tT P1 P2) rfl TF.m TF.kp lkT hcT bT scTold rfl (.inl rfl) (told_gives T gd (by show A.units + 3 + 20 < cLine; omega)) TB ecd (by exact List.Mem.head _) hu12 hr (LamX.lamS_by (by show LamX.lamSB (defScope sRight) _ = true; decide +kernel)) rfl (fun _ _ _ _ _ => rfl)
            (fun A' outer' s' H' E' f' c' hr' => pe_call GR hr' rfl cR.mg cR.kp cR.b .nil (passes_call (takes_of rfl rfl rfl rfl) (fun _ _ _ _ h => h)) (pa_cons (pv 1) (pa_cons (pv 8) (pa_cons (pv 7) (pa_cons (pv 6) pa_nil)))))) pe_str (nomark _)) (pss_one (ps_ret pe_bl)) pss_nil))
          (pss_cons (ps_set (i := 3) nd rfl (.inl rfl) (pe_call GR hr5 rfl cR.mg cR.kp cR.b .nil (passes_call takes0 (fun _ _ _ _ h => h)) (pa_cons (pv 1) (pa_cons (pv 8) (pa_cons (pv 7) (pa_cons (pv 6) pa_nil))))))
          (pss_cons (ps_if (PW.pt (pw_or (pt_cmpR op_ne (pe_callB (VG.call_repr gd (by show A.units + 3 + 10 < cLine; omega)) (by rfl) T.rep PyProof.Rows.boot_repr (pa_cons (pv 3) pa_nil)) (pe_callB (VG.call_repr gd (by show A.units + 3 + 10 < cLine; omega)) (by rfl) T.rep PyProof.Rows.boot_repr (pa_cons (pe_call GV hr2 rfl cV.mg cV.kp cV.b .nil pass0 (pa_cons (pv 8) (pa_cons (pv 7) (pa_cons (pv 6) pa_nil)))) pa_nil)) (nomark _))
              (pw_or1 (pt_cmpR op_notBl (pe_call GI hr5 rfl cI.mg cI.kp cI.b .nil (passes_call takes0 (fun _ _ _ _ h => h)) (pa_cons (pv 1) (pa_cons pe_int (pa_cons (pv 3) pa_nil)))) pe_bl (nomark _))))) (pss_one (ps_ret pe_bl)) pss_nil)
          (pss_cons (ps_set (i := 5) nd rfl (.inl rfl) (pe_tup (pa_cons (pe_ix ix_tup (pv 6) pe_int (fun _ _ => rfl)) (pa_cons (pe_slice sl_str (pe_ix ix_tup (pv 6) pe_int (fun _ _ => rfl)) po_none (po_some (pe_call GP hr1 rfl cP.mg cP.kp cP.b .nil pass0 (pa_cons (pv 0) (pa_cons (pe_op op_add (pe_callB call_len_str (by rfl) N.len boot_len (pa_cons (pe_ix ix_tup (pv 6) pe_int (fun _ _ => rfl)) pa_nil)) pe_int) pa_nil))))) pa_nil))))
          (pss_cons (ps_if (PW.pt (pw_or (pt_cmpR (op_neD hun) (pe_call GR hr5 rfl cR.mg cR.kp cR.b .nil (passes_call takes0 (fun _ _ _ _ h => h)) (pa_cons (pv 1) (pa_cons (pv 3) (pa_cons (pv 6) (pa_cons (pv 7) pa_nil))))) (pv 8) (nomark _))
              (pw_or1 (pt_cmpR op_notBl (pe_call GG hr5 rfl cG.mg cG.kp cG.b .nil (passes_call takes0 (fun _ _ _ _ h => h)) (pa_cons (pv 1) (pa_cons (pv 3) (pa_cons (pv 5) pa_nil)))) pe_bl (nomark _))))) (pss_one (ps_ret pe_bl)) pss_nil)
          (pss_cons (ps_set (i := 9) nd rfl (.inl rfl) (pe_tup (pa_cons (pe_call GP hr1 rfl cP.mg cP.kp cP.b .nil pass0 (pa_cons (pv 0) (pa_cons pe_int pa_nil))) (pa_cons (pe_call GW hr2 rfl cW.mg cW.kp cW.b .nil pass0 (pa_cons (pv 0) (pa_cons (pv 1) (pa_cons pe_int pa_nil)))) pa_nil))))
          (pss_one (ps_if (pt_cmpR (op_neD hun) (pe_call GR hr5 rfl cR.mg cR.kp cR.b .nil (passes_call takes0 (fun _ _ _ _ h => h)) (pa_cons (pv 1) (pa_cons (pv 3) (pa_cons (pv 6) (pa_cons (pv 9) pa_nil))))) (pe_call GR hr5 rfl cR.mg cR.kp cR.b .nil (passes_call takes0 (fun _ _ _ _ h => h)) (pa_cons (pv 1) (pa_cons (pv 8) (pa_cons (pv 7) (pa_cons (pv 9) pa_nil))))) (nomark _)) (pss_one (ps_ret pe_bl)) pss_nil)))))))))))))
      (pss_one (ps_ret (pe_cmpR op_eq (pe_callB (VG.call_repr gd (by show A.units + 3 + 10 < cLine; omega)) (by rfl) T.rep PyProof.Rows.boot_repr (pa_cons (pv 8) pa_nil)) (pv 4) (nomark _)))))), ?_⟩
    refine ⟨_, rfl, _, rfl, (by show 3 ≤ sizeLine; decide), fun l0 n0 => ?_⟩
    have s0 : Same H (upd H l0 (.lst [.int 2, .int 4, .int 9])) := same_new n0
    have g0 : upd H l0 (.lst [.int 2, .int 4, .int 9]) l0 = some (.lst [.int 2, .int 4, .int 9]) := upd_same
    have na0 : l0 ≠ a := (ne_of_none ha n0).symm
    generalize upd H l0 (.lst [.int 2, .int 4, .int 9]) = J0 at s0 g0 ⊢
    refine ⟨_, rfl, a, d, _, rfl, s0 _ _ ha, hd, by decide, by decide, by omega, fun i d0 hd0 hc0 i0 i1 => ?_⟩
    obtain ⟨hi, hat, hi1, hi9⟩ : ∃ hi : Int, atI [V.int 2, .int 4, .int 9] i = some (.int hi) ∧ 1 ≤ hi ∧ hi ≤ 9 := by
      have ii : i = 0 ∨ i = 1 ∨ i = 2 := by omega
      rcases ii with e | e | e <;> subst e
      · exact ⟨2, rfl, by decide, by decide⟩
      · exact ⟨4, rfl, by decide, by decide⟩
      · exact ⟨9, rfl, by decide, by decide⟩
    refine ⟨l0, _, i, .int hi, rfl, rfl, SqL.of (by rw [upd_ne na0]; exact g0), hat, ?_⟩
    refine ⟨a, d0, b, 4, hi, rfl, upd_same, hd0, by omega, by omega, by omega, by decide, by decide, by omega, by omega, fun r h q f d1 p H1 r0 r4 hl ql nf wh wq hd1 hc1 kp1 a1 np e1 => ?_⟩
    have kpH : Kp a H H1 := fun b o n e => kp1 b o n (by rw [upd_ne n]; exact s0 _ _ e)
    have t1 : LamX.Tabs (tT P1 P2) H1 := tabs_kp tabs ha kpH
    have rlog : r.natAbs.log2 < 1920 := by
      rcases Nat.eq_zero_or_pos r.natAbs with z | z
      · rw [z]
        decide
      · exact (Nat.log2_lt (by omega)).mpr (Nat.lt_trans (show r.natAbs < 5000 by omega) (by decide +kernel))
    have bI : (b : Int) ≤ 5 := by omega
    have shw : (PyData.tuple [.int r, .str (S h), .str (S q)]).showable = true := by
      show (decide (r.natAbs.log2 < 1920) && true) = true
      rw [decide_eq_true rlog]
      rfl
    have shl : (PyData.tuple [.int r, .str (S h), .str (S q)]).shown.length ≤ sizeLine := shown_stream rlog (by omega) (by omega) (isW_small bI wh) (isW_small bI wq)
    refine ⟨_, rfl, .ref p, _, rfl, .tup e1 (.cons (.int r) (.cons (.str _) (.cons (.str _) .nil))), shw, shl, ?_⟩
    refine ⟨4, rfl, by decide, by decide, for_range (n := 4) (fun j σ H2 => ∃ (u2 u3 u5 u6 u7 u9 u10 : Option V) (d2 : Int × Int × Int), σ = [some (.ref a), some (.int (b : Int)), u2, u3, some (.str (PyData.tuple [.int r, .str (S h), .str (S q)]).shown), u5, u6, u7, some (.ref p), u9, u10] ∧
      KT a H H2 ∧ LamX.Tabs (tT P1 P2) H2 ∧ H2 a = some (.lst (dieL d2)) ∧ H2 p = some (.tup [.int r, .str (S h), .str (S q)]) ∧ DieOk d2 ∧ d2.2.2 ≤ d.2.2 + 25 + 40 * (j : Int)) ?_ ?_ ?_⟩
    · exact ⟨none, none, none, none, none, none, none, d1, rfl, (KT.refl a H).kp kpH, t1, a1, e1, hd1, by omega⟩
    · rintro j σ H2 hj ⟨u2, u3, u5, u6, u7, u9, u10, d2, rfl, kt2, t2, h2a, h2p, hd2, hc2⟩
      have hj4 : j < 4 := hj
      refine ⟨_, rfl, _, rfl, _, rfl, a, p, d2, b, r, h, q, rfl, h2a, hd2, by omega, b2, b5, h2p, r0, by omega, wh, wq, nf.ne, by omega, by omega, fun r' w' d3 pp H3 r'0 r'4 ww wl hd3 hc3 kp3 a3 npp ppa e3 => ?_⟩
      refine ⟨_, rfl, a, d3, _, rfl, a3, hd3, by decide, by decide, by omega, fun r2 d4 hd4 hc4 r20 r25 => ?_⟩
      refine ⟨_, rfl, _, rfl, a, d4, b, 6, rfl, upd_same, hd4, by omega, by omega, by omega, by decide, by decide, fun w2 d5 hd5 hc5 ww2 wl2 => ?_⟩
      rw [upd_upd']
      have npa : p ≠ a := fun z => by rw [z, h2a] at h2p; cases h2p
      have k25 : Kp a H2 (upd H3 a (.lst (dieL d5))) := kp3.trans Kp.upd
      have e5 : upd H3 a (.lst (dieL d5)) pp = some (.tup [.int r', .str (S w')]) := by rw [upd_ne ppa]; exact e3
      have a5 : upd H3 a (.lst (dieL d5)) a = some (.lst (dieL d5)) := upd_same
      generalize upd H3 a (.lst (dieL d5)) = J5 at k25 e5 a5 ⊢
      refine ⟨(by show 2 ≤ sizeLine; decide), fun pn npn => ?_⟩
      have s6 : Same J5 (upd J5 pn (.tup [.int r2, .str (S w2)])) := same_new npn
      have en6 : upd J5 pn (.tup [.int r2, .str (S w2)]) pn = some (.tup [.int r2, .str (S w2)]) := upd_same
      generalize upd J5 pn (.tup [.int r2, .str (S w2)]) = J6 at s6 en6 ⊢
      refine ⟨(by show 2 ≤ sizeLine; decide), fun pt npt => ?_⟩
      have s7 : Same J6 (upd J6 pt (.tup [.ref pp, .ref pn])) := same_new npt
      have et7 : upd J6 pt (.tup [.ref pp, .ref pn]) pt = some (.tup [.ref pp, .ref pn]) := upd_same
      generalize upd J6 pt (.tup [.ref pp, .ref pn]) = J7 at s7 et7 ⊢
      refine ⟨pt, _, rfl, SqT.of et7, rfl, _, _, rfl, _, _, rfl, rfl, ?_⟩
      have kp27 : Kp a H2 J7 := fun b o n e => s7 _ _ (s6 _ _ (k25 b o n e))
      have a7 := s7 _ _ (s6 _ _ a5)
      have p7 : J7 p = _ := kp27 _ _ npa h2p
      have pp7 := s7 _ _ (s6 _ _ e5)
      have pn7 := s7 _ _ en6
      have t7 : LamX.Tabs (tT P1 P2) J7 := tabs_kp t2 h2a kp27
      have kt7 := kt2.kp kp27
      clear k25 e5 a5 s6 en6 s7 et7 npn npt
      refine ⟨_, rfl, _, rfl, p, pp, r, r', h, q, w', rfl, SqT.of p7, SqT.of pp7, nf.ne, by omega, by omega, by omega, ?_⟩
      refine ⟨_, rfl, _, rfl, _, rfl, .int b, .ref p, .ref pp, _, rfl, .int _, fun z => absurd z (by rw [within_b b2 b5]; decide), begins_k p7 pp7 r0 (by omega) r'0 (by omega) nf (by omega) (by omega) (by omega) wh wq ww ?_⟩
      have bsh : ∀ x : Bool, (PyData.bool x).shown.length ≤ sizeLine := fun x => by cases x <;> decide +kernel
      refine ⟨_, .bool (underB r h q r' w'), rfl, .fl (.bl _), rfl, bsh _, _, rfl, _, .bool (underB r h q r' w'), rfl, .fl (.bl _), rfl, bsh _, rfl, _, rfl, ?_⟩
      refine iteFB (by rw [decide_eq_true rfl]; rfl) ?_
      refine ⟨_, rfl, _, rfl, ?_⟩
      cases hu : underB r h q r' w' with
      | false =>
        refine iteTB rfl ?_
        refine ⟨t7, fun K1 eN1 U1 => ?_⟩
        have pK := eN1 _ _ p7 (fun _ z => nomatch z)
        have ppK := eN1 _ _ pp7 (fun _ z => nomatch z)
        have pnK := eN1 _ _ pn7 (fun _ z => nomatch z)
        have aK := eN1 _ _ a7 (fun _ z => nomatch z)
        refine ⟨_, rfl, _, rfl, _, rfl, _, rfl, .int b, .ref p, .ref pp, .ref pn, _, rfl, .int _, fun z => absurd z (by rw [within_b b2 b5]; decide), replaced_k pK ppK pnK r0 (by omega) r'0 (by omega) r20 r25 nf (by omega) (by omega) (by omega) (by omega) wh wq ww ww2 (fun _ => ?_) (fun z => absurd (hu.symm.trans z) (by decide))⟩
        refine .inr ⟨2, by decide, rfl, rfl, fun Z same => ?_⟩
        refine ⟨rfl, _, rfl, ?_⟩
        refine iteFB (by
          show (!decide (V.str "operation" = V.str "operation")) = false
          rw [decide_eq_true rfl]
          rfl) ?_
        exact ⟨_, _, _, _, _, _, _, d5, rfl, (kt7.ex eN1).sm same, U1.ext same, same _ _ aK, same _ _ pK, hd5, by omega⟩
      | true =>
        refine iteFB rfl ?_
        have hu2 : (decide (r = r') && decide (begN h q w'.length = w')) = true := hu
        obtain ⟨hrr, hbw⟩ := Bool.and_eq_true_iff.mp hu2
        have hrr := of_decide_eq_true hrr
        have hbw := begN_is.mp (of_decide_eq_true hbw)
        subst hrr
        refine ⟨_, rfl, _, rfl, _, rfl, _, rfl, .int b, .ref p, .ref pp, .ref pn, _, rfl, .int _, fun z => absurd z (by rw [within_b b2 b5]; decide), replaced_k p7 pp7 pn7 r0 (by omega) r'0 (by omega) r20 r25 nf (by omega) (by omega) (by omega) (by omega) wh wq ww ww2 (fun z => absurd (hu.symm.trans z) (by decide)) (fun _ h' q' pf nf' hl' ql' sh' sq' npf => ?_)⟩
        have wh' : IsW (b : Int) h' := fun c hc => (sh' c hc).elim (ww2 c) (wh c)
        have wq' : IsW (b : Int) q' := wq.of sq'
        have s8 : Same J7 (upd J7 pf (.tup [.int r2, .str (S h'), .str (S q')])) := same_new npf
        have pf8 : upd J7 pf (.tup [.int r2, .str (S h'), .str (S q')]) pf = some (.tup [.int r2, .str (S h'), .str (S q')]) := upd_same
        generalize upd J7 pf (.tup [.int r2, .str (S h'), .str (S q')]) = J8 at s8 pf8 ⊢
        have rlog2 : r2.natAbs.log2 < 1920 := by
          rcases Nat.eq_zero_or_pos r2.natAbs with z | z
          · rw [z]
            decide
          · exact (Nat.log2_lt (by omega)).mpr (Nat.lt_trans (show r2.natAbs < 5000 by omega) (by decide +kernel))
        have shw2 : (PyData.tuple [.int r2, .str (S h'), .str (S q')]).showable = true := by
          show (decide (r2.natAbs.log2 < 1920) && true) = true
          rw [decide_eq_true rlog2]
          rfl
        have shl2 : (PyData.tuple [.int r2, .str (S h'), .str (S q')]).shown.length ≤ sizeLine := shown_stream rlog2 (by omega) (by omega) (isW_small bI wh') (isW_small bI wq')
        refine ⟨_, rfl, .ref pf, _, rfl, .tup pf8 (.cons (.int r2) (.cons (.str _) (.cons (.str _) .nil))), shw2, shl2, ?_⟩
        refine ⟨_, rfl, _, rfl, _, rfl, p, pp, pn, _, _, .int r2, h, q, w', w2, rfl, SqT.of (s8 _ _ p7), SqT.of (s8 _ _ pp7), SqT.of (s8 _ _ pn7), nf.ne, by omega, by omega, by omega, by omega, fun h2 q2 pg J9 nf2 same9 npg eg => ?_⟩
        obtain ⟨rfl, rfl⟩ := nf'.unique nf2
        refine ⟨.ref pg, _, rfl, .tup eg (.cons (.int r2) (.cons (.str _) (.cons (.str _) .nil))), shw2, shl2, rfl, _, rfl, ?_⟩
        refine iteFB (by rw [decide_eq_true rfl]; rfl) ?_
        have s79 : Same J7 J9 := fun _ _ e => same9 _ _ (s8 _ _ e)
        have pf9 := same9 _ _ pf8
        have a9 := s79 _ _ a7
        have p9 := s79 _ _ p7
        have pp9 := s79 _ _ pp7
        have pn9 := s79 _ _ pn7
        have t9 : LamX.Tabs (tT P1 P2) J9 := t7.ext s79
        have kt9 := kt7.sm s79
        clear s8 pf8 same9 npg eg s79 npf
        refine ⟨_, rfl, _, rfl, b, 5000, r2, pf, h', q', _, rfl, b2, b5, by decide, by decide, r20, by omega, pf9, nf', by omega, by omega, wh', wq', true, true, rfl, rfl, _, rfl, ?_⟩
        refine iteFB rfl ?_
        -- more
        refine ⟨_, rfl, pn, _, _, _, rfl, rfl, SqT.of pn9, rfl, _, rfl, pn, _, _, _, rfl, rfl, SqT.of pn9, rfl, _, rfl, _, rfl, pn, _, _, _, rfl, rfl, SqT.of pn9, rfl, _, rfl, small_len (by omega), _, _, rfl, rfl, a, d5, _, rfl, a9, hd5, ?_, ?_, by omega, fun m d6 hd6 hc6 m0 m1 => ?_⟩
        · rw [S_len]
          omega
        · rw [S_len]
          omega
        obtain ⟨mm, rfl⟩ := Int.eq_ofNat_of_zero_le m0
        refine ⟨_, rfl, _, rfl, small_len (by omega), (by show 2 ≤ sizeLine; decide), fun pm npm => ?_⟩
        rw [cut_takeG] at *
        have ntA : ∀ (x : Addr) (xs : List V), J9 x = some (.tup xs) → x ≠ a := fun x xs e z => by rw [z, a9] at e; cases e
        have kA : Kp a J9 (upd J9 a (.lst (dieL d6))) := Kp.upd
        have aA : upd J9 a (.lst (dieL d6)) a = some (.lst (dieL d6)) := upd_same
        have pfA := kA _ _ (ntA _ _ pf9) pf9
        have pA := kA _ _ (ntA _ _ p9) p9
        have ppA := kA _ _ (ntA _ _ pp9) pp9
        have pnA := kA _ _ (ntA _ _ pn9) pn9
        have tA : LamX.Tabs (tT P1 P2) (upd J9 a (.lst (dieL d6))) := tabs_kp t9 a9 kA
        have ktA := kt9.kp kA
        generalize upd J9 a (.lst (dieL d6)) = JA at kA aA pfA pA ppA pnA tA ktA npm ⊢
        have sB : Same JA (upd JA pm (.tup [.int r2, .str (S (w2.take mm))])) := same_new npm
        have pmB : upd JA pm (.tup [.int r2, .str (S (w2.take mm))]) pm = some (.tup [.int r2, .str (S (w2.take mm))]) := upd_same
        generalize upd JA pm (.tup [.int r2, .str (S (w2.take mm))]) = JB at sB pmB ⊢
        have pfB := sB _ _ pfA
        have pB := sB _ _ pA
        have ppB := sB _ _ ppA
        have pnB := sB _ _ pnA
        have aB := sB _ _ aA
        have tB := tA.ext sB
        have ktB := ktA.sm sB
        clear sB kA ntA pfA pA ppA pnA aA tA ktA npm pf9 p9 pp9 pn9 a9 t9 kt9
        have evf : ∀ i, ev h' q' i = shF w2 w'.length (ev h q) i := nf'.is
        have hB : underB r2 h' q' r2 w2 = true := by
          unfold underB
          rw [decide_eq_true rfl, decide_eq_true (begN_is.mpr fun i hi => by rw [evf, shF_lt hi])]
          rfl
        have hM : underB r2 h' q' r2 (w2.take mm) = true := by
          unfold underB
          rw [decide_eq_true rfl, decide_eq_true (begN_is.mpr fun i hi => by
            rw [List.length_take] at hi
            rw [evf, shF_lt (show i < w2.length by omega), getD_take (show i < mm by omega)])]
          rfl
        have wwm : IsW (b : Int) (w2.take mm) := ww2.of fun x hx => List.mem_of_mem_take hx
        have lwm : (w2.take mm).length ≤ 400 := by rw [List.length_take]; omega
        have sh1 := shaped3 (r := r) (isW_small bI wh) (isW_small bI wq)
        refine ⟨_, rfl, _, rfl, _, rfl, _, rfl, .int b, .ref pf, .ref pn, .ref pp, _, rfl, .int _, fun z => absurd z (by rw [within_b b2 b5]; decide), replaced_k pfB pnB ppB r20 r25 r20 r25 r0 (by omega) nf' (by omega) (by omega) (by omega) (by omega) wh' wq' ww2 ww (fun z => absurd (hB.symm.trans z) (by decide)) (fun _ h3 q3 p3 nf3 _ _ _ _ np3 => ?_)⟩
        obtain ⟨rfl, rfl⟩ := (nf_ev nf).unique (nf_congr nf3 fun i => (shF_shF evf i).trans (shF_back hbw i))
        have sC : Same JB (upd JB p3 (.tup [.int r, .str (S h), .str (S q)])) := same_new np3
        refine ⟨_, rfl, .tuple [.int r, .str (S h), .str (S q)], .tuple [.int r, .str (S h), .str (S q)], .tup (SqT.of upd_same) (.cons (.int r) (.cons (.str _) (.cons (.str _) .nil))), .tup (SqT.of (sC _ _ pB)) (.cons (.int r) (.cons (.str _) (.cons (.str _) .nil))), sh1, sh1, _, rfl, ?_⟩
        refine iteFB (by rw [eqv3, decide_eq_true ⟨rfl, rfl⟩]; rfl) ?_
        generalize upd JB p3 (.tup [.int r, .str (S h), .str (S q)]) = JC at sC ⊢
        refine ⟨_, rfl, _, rfl, _, rfl, .int b, .ref pf, .ref pm, _, rfl, .int _, fun z => absurd z (by rw [within_b b2 b5]; decide), begins_k (sC _ _ pfB) (sC _ _ pmB) r20 r25 r20 r25 nf' (by omega) (by omega) lwm wh' wq' wwm ?_⟩
        refine ⟨underB r2 h' q' r2 (w2.take mm), true, rfl, rfl, _, rfl, ?_⟩
        refine iteFB (by rw [hM]; rfl) ?_
        -- third
        refine ⟨_, rfl, a, d6, _, rfl, sC _ _ aB, hd6, by decide, by decide, by omega, fun r3 d7 hd7 hc7 r30 r39 => ?_⟩
        refine ⟨_, rfl, _, rfl, a, d7, b, 3, rfl, upd_same, hd7, by omega, by omega, by omega, by decide, by decide, fun w3 d8 hd8 hc8 ww3 wl3 => ?_⟩
        rw [upd_upd']
        refine ⟨(by show 2 ≤ sizeLine; decide), fun p4 np4 => ?_⟩
        have ntD : ∀ (x : Addr) (xs : List V), JC x = some (.tup xs) → x ≠ a := fun x xs e z => by rw [z, sC _ _ aB] at e; cases e
        have kD : Kp a JC (upd JC a (.lst (dieL d8))) := Kp.upd
        have aD : upd JC a (.lst (dieL d8)) a = some (.lst (dieL d8)) := upd_same
        have tD : LamX.Tabs (tT P1 P2) (upd JC a (.lst (dieL d8))) := tabs_kp (tB.ext sC) (sC _ _ aB) kD
        generalize upd JC a (.lst (dieL d8)) = JD at kD aD tD np4 ⊢
        have sE : Same JD (upd JD p4 (.tup [.int r3, .str (S w3)])) := same_new np4
        have p4E : upd JD p4 (.tup [.int r3, .str (S w3)]) p4 = some (.tup [.int r3, .str (S w3)]) := upd_same
        have pfE := sE _ _ (kD _ _ (ntD _ _ (sC _ _ pfB)) (sC _ _ pfB))
        have pE := sE _ _ (kD _ _ (ntD _ _ (sC _ _ pB)) (sC _ _ pB))
        have ppE := sE _ _ (kD _ _ (ntD _ _ (sC _ _ ppB)) (sC _ _ ppB))
        have pnE := sE _ _ (kD _ _ (ntD _ _ (sC _ _ pnB)) (sC _ _ pnB))
        have aE := sE _ _ aD
        have tE := tD.ext sE
        have ktE := ((ktB.sm sC).kp kD).sm sE
        generalize upd JD p4 (.tup [.int r3, .str (S w3)]) = JE at sE p4E pfE pE ppE pnE aE tE ktE ⊢
        clear sE kD aD tD ntD sC
        refine ⟨_, rfl, _, rfl, _, rfl, _, rfl, .int b, .ref pf, .ref pn, .ref p4, _, rfl, .int _, fun z => absurd z (by rw [within_b b2 b5]; decide), replaced_k pfE pnE p4E r20 r25 r20 r25 r30 (by omega) nf' (by omega) (by omega) (by omega) (by omega) wh' wq' ww2 ww3 (fun z => absurd (hB.symm.trans z) (by decide)) (fun _ h5 q5 p5 nf5 hl5 ql5 sh5 sq5 np5 => ?_)⟩
        have sF : Same JE (upd JE p5 (.tup [.int r3, .str (S h5), .str (S q5)])) := same_new np5
        have p5F : upd JE p5 (.tup [.int r3, .str (S h5), .str (S q5)]) p5 = some (.tup [.int r3, .str (S h5), .str (S q5)]) := upd_same
        generalize upd JE p5 (.tup [.int r3, .str (S h5), .str (S q5)]) = JF at sF p5F ⊢
        refine ⟨_, rfl, _, rfl, _, rfl, _, rfl, .int b, .ref p, .ref pp, .ref p4, _, rfl, .int _, fun z => absurd z (by rw [within_b b2 b5]; decide), replaced_k (sF _ _ pE) (sF _ _ ppE) (sF _ _ p4E) r0 (by omega) r0 (by omega) r30 (by omega) nf (by omega) (by omega) (by omega) (by omega) wh wq ww ww3 (fun z => absurd (hu.symm.trans z) (by decide)) (fun _ h6 q6 p6 nf6 _ _ _ _ np6 => ?_)⟩
        obtain ⟨rfl, rfl⟩ := nf5.unique (nf_congr nf6 fun i => (shF_shF evf i).symm)
        have wh5 : IsW (b : Int) h5 := fun c hc => (sh5 c hc).elim (ww3 c) (wh' c)
        have wq5 : IsW (b : Int) q5 := wq'.of sq5
        have sh5' := shaped3 (r := r3) (isW_small bI wh5) (isW_small bI wq5)
        have sG : Same JF (upd JF p6 (.tup [.int r3, .str (S h5), .str (S q5)])) := same_new np6
        refine ⟨.tuple [.int r3, .str (S h5), .str (S q5)], .tuple [.int r3, .str (S h5), .str (S q5)], .tup (SqT.of (sG _ _ p5F)) (.cons (.int r3) (.cons (.str _) (.cons (.str _) .nil))), .tup (SqT.of upd_same) (.cons (.int r3) (.cons (.str _) (.cons (.str _) .nil))), sh5', sh5', _, rfl, ?_⟩
        refine iteFB (by rw [eqv3, decide_eq_true ⟨rfl, rfl⟩]; rfl) ?_
        exact ⟨_, _, _, _, _, _, _, d8, rfl, (ktE.sm sF).sm sG, (tE.ext sF).ext sG, sG _ _ (sF _ _ aE), sG _ _ (sF _ _ pE), hd8, by omega⟩
    · rintro σ H2 ⟨u2, u3, u5, u6, u7, u9, u10, d2, rfl, kt2, t2, h2a, h2p, hd2, hc2⟩
      refine ⟨_, rfl, .ref p, _, rfl, .tup h2p (.cons (.int r) (.cons (.str _) (.cons (.str _) .nil))), shw, shl, _, rfl, rfl, ?_⟩
      rw [decide_eq_true rfl]
      exact k d2 H2 hd2 (by omega) kt2 h2a t2
end
end Vf


set_option Elab.async false
set_option maxRecDepth 100000
set_option maxHeartbeats 16000000
set_option exponentiation.threshold 3000
namespace Vf
open PySem L2 SX Vm
/-- the errors of begins_with and replaced -/
theorem bg_s {b : Nat} {v x : V} {X Y : Prop} {H : Hp} {Z : Int → List Nat → List Nat → Int → List Nat → Prop} {K : PySem.W.Frag} (s : SF H b 5000 v false) (k : X) :
    ∀ n : Nat, V.int (b : Int) = .int (n : Int) → 2 ≤ n → n ≤ 5 → ∃ res, SF H n 5000 v res ∧ (res = false → X) ∧ (res = true → ∃ res2, PF H n 5000 x res2 ∧ (res2 = false → Y) ∧
    (res2 = true → ∃ (p' p2' : Addr) (r1 r2 : Int) (h1 q1 w1 : List Nat), v = .ref p' ∧ x = .ref p2' ∧ SqT K H p' [.int r1, .str (S h1), .str (S q1)] ∧ SqT K H p2' [.int r2, .str (S w1)] ∧ 0 < q1.length ∧ q1.length ≤ 1000 ∧ h1.length ≤ 1000 ∧ w1.length ≤ 1000 ∧ Z r1 h1 q1 r2 w1)) := by
  intro n e _ _
  obtain rfl : b = n := Int.ofNat.inj (V.int.inj e)
  exact ⟨false, s, fun _ => k, fun z => by cases z⟩
theorem bg_x {b : Nat} {v x : V} {X Y : Prop} {H : Hp} {Z : Int → List Nat → List Nat → Int → List Nat → Prop} {K : PySem.W.Frag} (s : SF H b 5000 v true) (s2 : PF H b 5000 x false) (k : Y) :
    ∀ n : Nat, V.int (b : Int) = .int (n : Int) → 2 ≤ n → n ≤ 5 → ∃ res, SF H n 5000 v res ∧ (res = false → X) ∧ (res = true → ∃ res2, PF H n 5000 x res2 ∧ (res2 = false → Y) ∧
    (res2 = true → ∃ (p' p2' : Addr) (r1 r2 : Int) (h1 q1 w1 : List Nat), v = .ref p' ∧ x = .ref p2' ∧ SqT K H p' [.int r1, .str (S h1), .str (S q1)] ∧ SqT K H p2' [.int r2, .str (S w1)] ∧ 0 < q1.length ∧ q1.length ≤ 1000 ∧ h1.length ≤ 1000 ∧ w1.length ≤ 1000 ∧ Z r1 h1 q1 r2 w1)) := by
  intro n e _ _
  obtain rfl : b = n := Int.ofNat.inj (V.int.inj e)
  exact ⟨true, s, fun z => (by cases z), fun _ => ⟨false, s2, fun _ => k, fun z => by cases z⟩⟩
theorem rp_s {b : Nat} {v x y : V} {X Y O : Prop} {H : Hp} {Z : Int → List Nat → List Nat → Addr → Prop} {K : PySem.W.Frag} (s : SF H b 5000 v false) (k : X) :
    ∀ n : Nat, V.int (b : Int) = .int (n : Int) → 2 ≤ n → n ≤ 5 → ∃ res, SF H n 5000 v res ∧ (res = false → X) ∧ (res = true → ∃ res2, PF H n 5000 x res2 ∧ (res2 = false → Y) ∧
    (res2 = true → ∃ res3, PF H n 5000 y res3 ∧ (res3 = false → Y) ∧
    (res3 = true → ∃ (p' p1' p2' : Addr) (ra rb rc : Int) (h1 q1 u1 w1 : List Nat), v = .ref p' ∧ x = .ref p1' ∧ y = .ref p2' ∧ SqT K H p' [.int ra, .str (S h1), .str (S q1)] ∧ SqT K H p1' [.int rb, .str (S u1)] ∧ SqT K H p2' [.int rc, .str (S w1)] ∧ 0 < q1.length ∧ q1.length ≤ 400 ∧ h1.length ≤ 400 ∧ u1.length ≤ 400 ∧ w1.length ≤ 400 ∧
      (underB ra h1 q1 rb u1 = false → O) ∧ (underB ra h1 q1 rb u1 = true → ∀ (h' q' : List Nat) (p' : Addr), Nf (shF w1 u1.length (ev h1 q1)) h' q' → h'.length ≤ w1.length + h1.length → q'.length ≤ q1.length → (∀ c ∈ h', c ∈ w1 ∨ c ∈ h1) → Sub q' q1 → H p' = none → Z rc h' q' p')))) := by
  intro n e _ _
  obtain rfl : b = n := Int.ofNat.inj (V.int.inj e)
  exact ⟨false, s, fun _ => k, fun z => by cases z⟩
theorem rp_x {b : Nat} {v x y : V} {X Y O : Prop} {H : Hp} {Z : Int → List Nat → List Nat → Addr → Prop} {K : PySem.W.Frag} (s : SF H b 5000 v true) (s2 : PF H b 5000 x false) (k : Y) :
    ∀ n : Nat, V.int (b : Int) = .int (n : Int) → 2 ≤ n → n ≤ 5 → ∃ res, SF H n 5000 v res ∧ (res = false → X) ∧ (res = true → ∃ res2, PF H n 5000 x res2 ∧ (res2 = false → Y) ∧
    (res2 = true → ∃ res3, PF H n 5000 y res3 ∧ (res3 = false → Y) ∧
    (res3 = true → ∃ (p' p1' p2' : Addr) (ra rb rc : Int) (h1 q1 u1 w1 : List Nat), v = .ref p' ∧ x = .ref p1' ∧ y = .ref p2' ∧ SqT K H p' [.int ra, .str (S h1), .str (S q1)] ∧ SqT K H p1' [.int rb, .str (S u1)] ∧ SqT K H p2' [.int rc, .str (S w1)] ∧ 0 < q1.length ∧ q1.length ≤ 400 ∧ h1.length ≤ 400 ∧ u1.length ≤ 400 ∧ w1.length ≤ 400 ∧
      (underB ra h1 q1 rb u1 = false → O) ∧ (underB ra h1 q1 rb u1 = true → ∀ (h' q' : List Nat) (p' : Addr), Nf (shF w1 u1.length (ev h1 q1)) h' q' → h'.length ≤ w1.length + h1.length → q'.length ≤ q1.length → (∀ c ∈ h', c ∈ w1 ∨ c ∈ h1) → Sub q' q1 → H p' = none → Z rc h' q' p')))) := by
  intro n e _ _
  obtain rfl : b = n := Int.ofNat.inj (V.int.inj e)
  exact ⟨true, s, fun z => (by cases z), fun _ => ⟨false, s2, fun _ => k, fun z => by cases z⟩⟩
theorem rp_y {b : Nat} {v x y : V} {X Y O : Prop} {H : Hp} {Z : Int → List Nat → List Nat → Addr → Prop} {K : PySem.W.Frag} (s : SF H b 5000 v true) (s2 : PF H b 5000 x true) (s3 : PF H b 5000 y false) (k : Y) :
    ∀ n : Nat, V.int (b : Int) = .int (n : Int) → 2 ≤ n → n ≤ 5 → ∃ res, SF H n 5000 v res ∧ (res = false → X) ∧ (res = true → ∃ res2, PF H n 5000 x res2 ∧ (res2 = false → Y) ∧
    (res2 = true → ∃ res3, PF H n 5000 y res3 ∧ (res3 = false → Y) ∧
    (res3 = true → ∃ (p' p1' p2' : Addr) (ra rb rc : Int) (h1 q1 u1 w1 : List Nat), v = .ref p' ∧ x = .ref p1' ∧ y = .ref p2' ∧ SqT K H p' [.int ra, .str (S h1), .str (S q1)] ∧ SqT K H p1' [.int rb, .str (S u1)] ∧ SqT K H p2' [.int rc, .str (S w1)] ∧ 0 < q1.length ∧ q1.length ≤ 400 ∧ h1.length ≤ 400 ∧ u1.length ≤ 400 ∧ w1.length ≤ 400 ∧
      (underB ra h1 q1 rb u1 = false → O) ∧ (underB ra h1 q1 rb u1 = true → ∀ (h' q' : List Nat) (p' : Addr), Nf (shF w1 u1.length (ev h1 q1)) h' q' → h'.length ≤ w1.length + h1.length → q'.length ≤ q1.length → (∀ c ∈ h', c ∈ w1 ∨ c ∈ h1) → Sub q' q1 → H p' = none → Z rc h' q' p')))) := by
  intro n e _ _
  obtain rfl : b = n := Int.ofNat.inj (V.int.inj e)
  exact ⟨true, s, fun z => (by cases z), fun _ => ⟨true, s2, fun z => (by cases z), fun _ => ⟨false, s3, fun _ => k, fun z => by cases z⟩⟩⟩
section
variable {P : Program} {w : World} {K : PySem.W.Frag} {mg : Str → Option Value} {base : Heap}
theorem scErr : FnScope ["die", "base", "bad", "due", "fine", "found", "none", "other", "stream", "wrong"] ["die", "base"] (defScope sErr) := ⟨rfl, rfl, rfl, by decide +kernel, rfl, by decide +kernel, by decide +kernel⟩
theorem ok_err {f fB fS fX fL fG fR g c P1 P2 CN CP CS CX CO : Addr} {fd fdB fdS fdX fdL fdG fdR : FuncData} (F : Fun K "_law_errors_right" "_law_errors_right" sErr f fd)
    (GB : FnOk P w K mg base CX0 2 fB fdB ["die"] spNoBase) (cB : Cal K mg "_law_no_base" fB fdB ["die"])
    (GS : FnOk P w K mg base CX0 2 fS fdS ["die", "base"] spNoStream) (cS : Cal K mg "_law_no_stream" fS fdS ["die", "base"])
    (GX : FnOk P w K mg base CX0 2 fX fdX ["die", "base"] spNoPfx) (cX : Cal K mg "_law_no_prefix" fX fdX ["die", "base"])
    (GL : FnOk P w K mg base CX0 3 fL fdL ["die", "base", "wide", "high"] spLStream) (cL : Cal K mg "_law_stream" fL fdL ["die", "base", "wide", "high"])
    (GG : FnOk P w K mg base (L2.CX P w) 5 fG fdG ["base", "stream", "prefix"] (spBegins K CN CS CX)) (cG : Cal K mg "begins_with" fG fdG ["base", "stream", "prefix"])
    (GR : FnOk P w K mg base (L2.CX P w) 5 fR fdR ["base", "stream", "old", "new"] (spReplaced K CN CS CX CO)) (cR : Cal K mg "replaced" fR fdR ["base", "stream", "old", "new"])
    (TF : ToldFn K mg g) (T : ToldTxt K mg CN CP CS CX CO) (TB : LamX.TabB base mg c P2) (hcd : ∀ (cdv : Value), (∃ (oc : Value) (od : Option Addr) (kV doc pm : Value) (an : Option Addr) (ct : Value) (osl : Array (Option Value)), K.lookup f = some ⟨oc, od, .func (PySem.W.fnOf "_law_errors_right" "_law_errors_right" (defArgs sErr) (defBody sErr) (defScope sErr) .none kV doc pm an cdv ct), osl⟩) → cdv = .ref c)
    (n12 : P1 ≠ P2) : VG.FnG P w K mg base 8 f fd ["die", "base"] (spBoth 30 P1 P2) := by
  obtain ⟨oc, od, kV, doc, pm, an, cdg, ct, osl, lkT, hcT, bT⟩ := TF.lk
  refine VG.FnG.of F scErr (fun vs H Q E h => ?_) (fun cdv A outer s H vs Q E gd hr _ hlk h => ?_)
  · obtain ⟨a, d, b, rfl, _⟩ := h
    rfl
  · have ecd := hcd cdv hlk
    obtain ⟨a, d, b, rfl, ha, hd, hc, b2, b5, tabs, k⟩ := h
    have nd := scErr.nd
    have hr2 := hr.mono (show 2 ≤ 7 by decide)
    have hr3 := hr.mono (show 3 ≤ 7 by decide)
    have hun : A.units + 3 + 64 < cLine := hr.units
    have hu12 : ∀ p ∈ tT P1 P2, p.1 = P2 → p.2 = qErr := fun p hp e => by
      rcases List.mem_cons.mp hp with z | z
      · rw [z] at e
        exact absurd e n12
      · rw [List.mem_singleton.mp z]
    refine ⟨_, (pss_cons (ps_asg (pe_tup (pa_cons (pe_call GB hr2 rfl cB.mg cB.kp cB.b .nil pass0 (pa_cons (pv 0) pa_nil)) (pa_cons (pe_call GS hr2 rfl cS.mg cS.kp cS.b .nil pass0 (pa_cons (pv 0) (pa_cons (pv 1) pa_nil))) (pa_cons (pe_call GX hr2 rfl cX.mg cX.kp cX.b .nil pass0 (pa_cons (pv 0) (pa_cons (pv 1) pa_nil))) pa_nil)))) (pg_tup rfl (pgs_cons (pg_name (i := 9) nd rfl (.inr rfl)) (pgs_cons (pg_name (i := 6) nd rfl (.inr rfl)) (pgs_cons (pg_name (i := 2) nd rfl (.inr rfl)) pgs_nil)))))
      (pss_cons (ps_set (i := 8) nd rfl (.inr rfl) (pe_call GL hr3 rfl cL.mg cL.kp cL.b .nil pass0 (pa_cons (pv 0) (pa_cons (pv 1) (pa_cons pe_int (pa_cons pe_int pa_nil))))))
      (pss_cons (ps_asg (pe_tup (pa_cons (pe_tup (pa_cons (pe_ix ix_tup (pv 8) pe_int (fun _ _ => rfl)) (pa_cons pe_str pa_nil))) (pa_cons (pe_tup (pa_cons (pe_op op_add (pe_ix ix_tup (pv 8) pe_int (fun _ _ => rfl)) pe_int) (pa_cons pe_str pa_nil))) pa_nil))) (pg_tup rfl (pgs_cons (pg_name (i := 4) nd rfl (.inr rfl)) (pgs_cons (pg_name (i := 7) nd rfl (.inr rfl)) pgs_nil))))
      (pss_cons (ps_set (i := 5) nd rfl (.inl rfl) (pe_lst (pa_cons (LamX.pe_lamcall (T := tT P1 P2) rfl TF.m TF.kp lkT hcT bT scTold rfl (.inl rfl) (told_gives T gd (by show A.units + 3 + 20 < cLine; omega)) TB ecd (by exact List.Mem.tail _ (List.Mem.head _)) hu12 hr (LamX.lamS_by (by show LamX.lamSB (defScope sErr) _ = true; decide +kernel)) rfl (fun _ _ _ _ _ => rfl) (fun A' outer' s' H' E' f' c' hr' => pe_call GG hr' rfl cG.mg cG.kp cG.b .nil (passes_call (takes_of rfl rfl rfl rfl) (fun _ _ _ _ h => h)) (pa_cons (pv 9) (pa_cons (pv 6) (pa_cons (pv 2) pa_nil))))) pa_nil)))
      (pss_cons (ps_expr (pe_bm PySem.F.plainAttrs_list PySem.F.slot_list_append PySem.F.type_list_append mt_append (pv 5) (pa_cons (LamX.pe_lamcall (T := tT P1 P2) rfl TF.m TF.kp lkT hcT bT scTold rfl (.inl rfl) (told_gives T gd (by show A.units + 3 + 20 < cLine; omega)) TB ecd (by exact List.Mem.tail _ (List.Mem.head _)) hu12 hr (LamX.lamS_by (by show LamX.lamSB (defScope sErr) _ = true; decide +kernel)) rfl (fun _ _ _ _ _ => rfl) (fun A' outer' s' H' E' f' c' hr' => pe_call GG hr' rfl cG.mg cG.kp cG.b .nil (passes_call (takes_of rfl rfl rfl rfl) (fun _ _ _ _ h => h)) (pa_cons (pv 1) (pa_cons (pv 6) (pa_cons (pv 2) pa_nil))))) pa_nil)))
      (pss_cons (ps_expr (pe_bm PySem.F.plainAttrs_list PySem.F.slot_list_append PySem.F.type_list_append mt_append (pv 5) (pa_cons (LamX.pe_lamcall (T := tT P1 P2) rfl TF.m TF.kp lkT hcT bT scTold rfl (.inl rfl) (told_gives T gd (by show A.units + 3 + 20 < cLine; omega)) TB ecd (by exact List.Mem.tail _ (List.Mem.head _)) hu12 hr (LamX.lamS_by (by show LamX.lamSB (defScope sErr) _ = true; decide +kernel)) rfl (fun _ _ _ _ _ => rfl) (fun A' outer' s' H' E' f' c' hr' => pe_call GG hr' rfl cG.mg cG.kp cG.b .nil (passes_call (takes_of rfl rfl rfl rfl) (fun _ _ _ _ h => h)) (pa_cons (pv 1) (pa_cons (pv 8) (pa_cons (pv 2) pa_nil))))) pa_nil)))
      (pss_cons (ps_expr (pe_bm PySem.F.plainAttrs_list PySem.F.slot_list_append PySem.F.type_list_append mt_append (pv 5) (pa_cons (LamX.pe_lamcall (T := tT P1 P2) rfl TF.m TF.kp lkT hcT bT scTold rfl (.inl rfl) (told_gives T gd (by show A.units + 3 + 20 < cLine; omega)) TB ecd (by exact List.Mem.tail _ (List.Mem.head _)) hu12 hr (LamX.lamS_by (by show LamX.lamSB (defScope sErr) _ = true; decide +kernel)) rfl (fun _ _ _ _ _ => rfl) (fun A' outer' s' H' E' f' c' hr' => pe_call GR hr' rfl cR.mg cR.kp cR.b .nil (passes_call (takes_of rfl rfl rfl rfl) (fun _ _ _ _ h => h)) (pa_cons (pv 9) (pa_cons (pv 6) (pa_cons (pv 2) (pa_cons (pv 2) pa_nil)))))) pa_nil)))
      (pss_cons (ps_expr (pe_bm PySem.F.plainAttrs_list PySem.F.slot_list_append PySem.F.type_list_append mt_append (pv 5) (pa_cons (LamX.pe_lamcall (T := tT P1 P2) rfl TF.m TF.kp lkT hcT bT scTold rfl (.inl rfl) (told_gives T gd (by show A.units + 3 + 20 < cLine; omega)) TB ecd (by exact List.Mem.tail _ (List.Mem.head _)) hu12 hr (LamX.lamS_by (by show LamX.lamSB (defScope sErr) _ = true; decide +kernel)) rfl (fun _ _ _ _ _ => rfl) (fun A' outer' s' H' E' f' c' hr' => pe_call GR hr' rfl cR.mg cR.kp cR.b .nil (passes_call (takes_of rfl rfl rfl rfl) (fun _ _ _ _ h => h)) (pa_cons (pv 1) (pa_cons (pv 6) (pa_cons (pv 2) (pa_cons (pv 2) pa_nil)))))) pa_nil)))
      (pss_cons (ps_expr (pe_bm PySem.F.plainAttrs_list PySem.F.slot_list_append PySem.F.type_list_append mt_append (pv 5) (pa_cons (LamX.pe_lamcall (T := tT P1 P2) rfl TF.m TF.kp lkT hcT bT scTold rfl (.inl rfl) (told_gives T gd (by show A.units + 3 + 20 < cLine; omega)) TB ecd (by exact List.Mem.tail _ (List.Mem.head _)) hu12 hr (LamX.lamS_by (by show LamX.lamSB (defScope sErr) _ = true; decide +kernel)) rfl (fun _ _ _ _ _ => rfl) (fun A' outer' s' H' E' f' c' hr' => pe_call GR hr' rfl cR.mg cR.kp cR.b .nil (passes_call (takes_of rfl rfl rfl rfl) (fun _ _ _ _ h => h)) (pa_cons (pv 1) (pa_cons (pv 8) (pa_cons (pv 2) (pa_cons (pv 4) pa_nil)))))) pa_nil)))
      (pss_cons (ps_expr (pe_bm PySem.F.plainAttrs_list PySem.F.slot_list_append PySem.F.type_list_append mt_append (pv 5) (pa_cons (LamX.pe_lamcall (T := tT P1 P2) rfl TF.m TF.kp lkT hcT bT scTold rfl (.inl rfl) (told_gives T gd (by show A.units + 3 + 20 < cLine; omega)) TB ecd (by exact List.Mem.tail _ (List.Mem.head _)) hu12 hr (LamX.lamS_by (by show LamX.lamSB (defScope sErr) _ = true; decide +kernel)) rfl (fun _ _ _ _ _ => rfl) (fun A' outer' s' H' E' f' c' hr' => pe_call GR hr' rfl cR.mg cR.kp cR.b .nil (passes_call (takes_of rfl rfl rfl rfl) (fun _ _ _ _ h => h)) (pa_cons (pv 1) (pa_cons (pv 8) (pa_cons (pv 7) (pa_cons (pv 2) pa_nil)))))) pa_nil)))
      (pss_cons (ps_expr (pe_bm PySem.F.plainAttrs_list PySem.F.slot_list_append PySem.F.type_list_append mt_append (pv 5) (pa_cons (LamX.pe_lamcall (T := tT P1 P2) rfl TF.m TF.kp lkT hcT bT scTold rfl (.inl rfl) (told_gives T gd (by show A.units + 3 + 20 < cLine; omega)) TB ecd (by exact List.Mem.tail _ (List.Mem.head _)) hu12 hr (LamX.lamS_by (by show LamX.lamSB (defScope sErr) _ = true; decide +kernel)) rfl (fun _ _ _ _ _ => rfl) (fun A' outer' s' H' E' f' c' hr' => pe_call GR hr' rfl cR.mg cR.kp cR.b .nil (passes_call (takes_of rfl rfl rfl rfl) (fun _ _ _ _ h => h)) (pa_cons (pv 1) (pa_cons (pv 8) (pa_cons (pv 7) (pa_cons (pv 4) pa_nil)))))) pa_nil)))
      (pss_cons (ps_set (i := 3) nd rfl (.inl rfl) (pe_lst (pa_cons (pe_op op_add_str pe_str (pe_callB (VG.call_repr gd (by show A.units + 3 + 10 < cLine; omega)) (by rfl) T.rep PyProof.Rows.boot_repr (pa_cons (pv 9) pa_nil))) (pa_cons pe_str (pa_cons pe_str pa_nil)))))
      (pss_one (ps_ret (pe_cmpR (op_eqD hun) (pv 5) (pe_op op_cat (pe_op op_cat (pv 3) (pv 3)) (pe_lst (pa_cons pe_str (pa_cons pe_str pa_nil)))) (nomark _)))))))))))))))), ?_⟩
    refine ⟨_, rfl, a, d, rfl, ha, hd, by omega, fun wrong d1 H1 hd1 hc1 kp1 a1 ow ww nw => ?_⟩
    refine ⟨_, rfl, _, rfl, a, d1, b, rfl, a1, hd1, by omega, b2, b5, fun non d2 H2 hd2 hc2 kp2 a2 sfn nn => ?_⟩
    refine ⟨_, rfl, _, rfl, a, d2, b, rfl, a2, hd2, by omega, b2, b5, fun bad d3 H3 hd3 hc3 kp3 a3 pfb nb => ?_⟩
    refine ⟨(by show 3 ≤ sizeLine; decide), fun pt npt => ?_⟩
    have s4 : Same H3 (upd H3 pt (.tup [wrong, non, bad])) := same_new npt
    have et : upd H3 pt (.tup [wrong, non, bad]) pt = some (.tup [wrong, non, bad]) := upd_same
    generalize upd H3 pt (.tup [wrong, non, bad]) = H4 at s4 et ⊢
    refine ⟨pt, _, rfl, SqT.of et, rfl, _, _, rfl, _, _, rfl, _, _, rfl, rfl, ?_⟩
    refine ⟨_, rfl, _, rfl, a, d3, b, 3, 3, rfl, s4 _ _ a3, hd3, by omega, by omega, by omega, by decide, by decide, by decide, by decide, fun r h q f d4 p H5 r0 r3 hl ql nf wh wq hd4 hc4 kp5 a5 np e5 => ?_⟩
    have kpA : Kp a H H5 := fun x o n e => kp5 x o n (s4 _ _ (kp3 x o n (kp2 x o n (kp1 x o n e))))
    have t5 : LamX.Tabs (tT P1 P2) H5 := tabs_kp tabs ha kpA
    have ow5 : Odd H5 wrong := odd_keep ow (fun x o e _ z => kp5 x o (nw x e) (s4 _ _ (kp3 x o (nw x e) (kp2 x o (nw x e) z))))
    have sfn5 : SF H5 b 5000 non false := sfn.keep (fun x o e _ z => kp5 x o (nn x e) (s4 _ _ (kp3 x o (nn x e) z)))
    have pfb5 : PF H5 b 5000 bad false := pfb.keep (fun x o e _ z => kp5 x o (nb x e) (s4 _ _ z))
    clear s4 et npt ow sfn pfb
    refine ⟨_, rfl, p, _, _, _, rfl, rfl, SqT.of e5, rfl, (by show 2 ≤ sizeLine; decide), fun fi nfi => ?_⟩
    have s6 : Same H5 (upd H5 fi (.tup [.int r, .str ""])) := same_new nfi
    have ef6 : upd H5 fi (.tup [.int r, .str ""]) fi = some (.tup [.int r, .str ""]) := upd_same
    generalize upd H5 fi (.tup [.int r, .str ""]) = H6 at s6 ef6 ⊢
    refine ⟨_, rfl, p, _, _, _, rfl, rfl, SqT.of (s6 _ _ e5), rfl, _, _, rfl, rfl, (by show 2 ≤ sizeLine; decide), fun ot not => ?_⟩
    have s7 : Same H6 (upd H6 ot (.tup [.int (r + 1), .str ""])) := same_new not
    have eo7 : upd H6 ot (.tup [.int (r + 1), .str ""]) ot = some (.tup [.int (r + 1), .str ""]) := upd_same
    generalize upd H6 ot (.tup [.int (r + 1), .str ""]) = H7 at s7 eo7 ⊢
    refine ⟨(by show 2 ≤ sizeLine; decide), fun pu npu => ?_⟩
    have s8 : Same H7 (upd H7 pu (.tup [.ref fi, .ref ot])) := same_new npu
    have eu8 : upd H7 pu (.tup [.ref fi, .ref ot]) pu = some (.tup [.ref fi, .ref ot]) := upd_same
    generalize upd H7 pu (.tup [.ref fi, .ref ot]) = HB at s8 eu8 ⊢
    refine ⟨pu, _, rfl, SqT.of eu8, rfl, _, _, rfl, _, _, rfl, rfl, ?_⟩
    have s58 : Same H5 HB := fun _ _ e => s8 _ _ (s7 _ _ (s6 _ _ e))
    have tB := t5.ext s58
    have aB := s58 _ _ a5
    have ktB : KT a H HB := ((KT.refl a H).kp kpA).sm s58
    have pB := s58 _ _ e5
    have fB : HB fi = some (.tup [.int r, .str (S [])]) := by
      rw [← str_empty]
      exact s8 _ _ (s7 _ _ ef6)
    have oB : HB ot = some (.tup [.int (r + 1), .str (S [])]) := by
      rw [← str_empty]
      exact s8 _ _ eo7
    obtain ⟨⟨tw, pw⟩, pd, shw, shs, shz, shl⟩ := odd_keep ow5 (fun x o _ _ z => s58 _ _ z)
    have sfB' : SF HB b 5000 non false := sfn5.keep (fun x o _ _ z => s58 _ _ z)
    have pfB' : PF HB b 5000 bad false := pfb5.keep (fun x o _ _ z => s58 _ _ z)
    clear s6 ef6 s7 eo7 s8 eu8 s58 nfi not npu
    have kpl : ∀ {J : Hp}, LamX.ExtN HB J → Pl J wrong tw := fun e => pl_keep pw (fun q o _ nt h => e q o h nt)
    have ksf : ∀ {J : Hp}, LamX.ExtN HB J → SF J b 5000 non false := fun e => sfB'.keep (fun q o _ nt h => e q o h nt)
    have kpf : ∀ {J : Hp}, LamX.ExtN HB J → PF J b 5000 bad false := fun e => pfB'.keep (fun q o _ nt h => e q o h nt)
    have kst : ∀ {J : Hp}, LamX.ExtN HB J → SF J b 5000 (.ref p) true := fun e => SF.right (e _ _ pB (fun _ z => nomatch z)) r0 (by omega) nf (by omega) (by omega) wh wq
    have wE : IsW (b : Int) [] := IsW.nil _
    have kot : ∀ {J : Hp}, LamX.ExtN HB J → PF J b 5000 (.ref ot) true := fun e => PF.right (e _ _ oB (fun _ z => nomatch z)) (by omega) (by omega) (by decide) wE
    have wb : withinV 2 5 (.int (b : Int)) = true := within_b b2 b5
    have wno : ∀ n : Nat, wrong = .int (n : Int) → 2 ≤ n → n ≤ 5 → False := fun n e n2 n5 => absurd ww (by rw [e]; show ¬ ((decide ((2 : Int) ≤ n) && decide ((n : Int) ≤ 5)) = false); simp; omega)
    -- call 1
    refine ⟨tB, fun K1 f1 U1 => ?_⟩
    refine ⟨_, rfl, _, rfl, _, rfl, wrong, non, bad, tw, rfl, kpl f1, fun _ dd ndd => ?_, fun n e n2 n5 => (wno n e n2 n5).elim⟩
    have x1 : Same K1 (upd K1 dd (.xd [(("value" : Str), wrong)])) := same_new ndd
    refine .inl ⟨dd, wrong, pd, rfl, rfl, upd_same, sh_keep shw (fun q o _ nt h => x1 _ _ (f1 q o h nt)), shs, shz, ?_⟩
    have g1 := f1.trans (LamX.ExtN.of x1)
    have V1 := U1.ext x1
    generalize upd K1 dd (.xd [(("value" : Str), wrong)]) = Z1 at g1 V1 x1 ⊢
    refine ⟨(by show 1 ≤ sizeLine; decide), fun l nl => ?_⟩
    have nlB : ∀ x o, HB x = some o → (∀ ps, o ≠ .tbl ps) → x ≠ l := fun x o e nt => ne_of_none (g1 x o e nt) nl
    have y1 : Same Z1 (upd Z1 l (.lst [.str (("number " : Str) ++ pd.shown)])) := same_new nl
    have h2 : upd Z1 l (.lst [.str (("number " : Str) ++ pd.shown)]) l = some (.lst [.str (("number " : Str) ++ pd.shown)]) := upd_same
    have e2 := g1.trans (LamX.ExtN.of y1)
    have T2 := V1.ext y1
    generalize upd Z1 l (.lst [.str (("number " : Str) ++ pd.shown)]) = J2 at h2 e2 T2 ⊢
    have grow : ∀ {J : Hp} {xs ys : List V}, LamX.ExtN HB J → LamX.Tabs (tT P1 P2) J → J l = some (.lst xs) → LamX.ExtN HB (upd J l (.lst ys)) ∧ LamX.Tabs (tT P1 P2) (upd J l (.lst ys)) := fun {J xs ys} e t hl => by
      refine ⟨fun x o hb nt => by rw [upd_ne (nlB x o hb nt)]; exact e x o hb nt, tabs_kp t hl Kp.upd⟩
    -- call 2
    refine ⟨_, rfl, .inl ⟨rfl, _, SqL.of h2⟩, T2, fun K2 f2 U2 => ?_⟩
    have g2 : LamX.ExtN HB K2 := e2.trans f2
    refine ⟨_, rfl, _, rfl, _, rfl, .int (b : Int), non, bad, _, rfl, .int _, fun z => absurd z (by rw [wb]; decide), bg_s (ksf g2) ?_⟩
    refine .inr ⟨0, by decide, rfl, rfl, fun Z same => ?_⟩
    have hz2 : Z l = some (.lst [.str (("number " : Str) ++ pd.shown)]) := same _ _ (f2 _ _ h2 (fun _ z => nomatch z))
    refine ⟨l, _, .str "stream", rfl, rfl, hz2, (by show 1 < sizeLine; decide), ?_⟩
    obtain ⟨e3, T3⟩ := grow (ys := [.str (("number " : Str) ++ pd.shown)] ++ [.str "stream"]) (g2.trans (LamX.ExtN.of same)) (U2.ext same) hz2
    have h3 : upd Z l (.lst ([.str (("number " : Str) ++ pd.shown)] ++ [.str "stream"])) l = some (.lst [.str (("number " : Str) ++ pd.shown), .str "stream"]) := upd_same
    generalize upd Z l (.lst ([.str (("number " : Str) ++ pd.shown)] ++ [.str "stream"])) = J3 at e3 T3 h3 ⊢
    -- call 3
    refine ⟨_, rfl, .inl ⟨rfl, _, SqL.of h3⟩, T3, fun K3 f3 U3 => ?_⟩
    have g3 : LamX.ExtN HB K3 := e3.trans f3
    refine ⟨_, rfl, _, rfl, _, rfl, .int (b : Int), .ref p, bad, _, rfl, .int _, fun z => absurd z (by rw [wb]; decide), bg_x (kst g3) (kpf g3) ?_⟩
    refine .inr ⟨1, by decide, rfl, rfl, fun Z same => ?_⟩
    have hz3 : Z l = some (.lst [.str (("number " : Str) ++ pd.shown), .str "stream"]) := same _ _ (f3 _ _ h3 (fun _ z => nomatch z))
    refine ⟨l, _, .str "prefix", rfl, rfl, hz3, (by show 2 < sizeLine; decide), ?_⟩
    obtain ⟨e4, T4⟩ := grow (ys := [.str (("number " : Str) ++ pd.shown), .str "stream"] ++ [.str "prefix"]) (g3.trans (LamX.ExtN.of same)) (U3.ext same) hz3
    have h4 : upd Z l (.lst ([.str (("number " : Str) ++ pd.shown), .str "stream"] ++ [.str "prefix"])) l = some (.lst [.str (("number " : Str) ++ pd.shown), .str "stream", .str "prefix"]) := upd_same
    generalize upd Z l (.lst ([.str (("number " : Str) ++ pd.shown), .str "stream"] ++ [.str "prefix"])) = J4 at e4 T4 h4 ⊢
    -- call 4
    refine ⟨_, rfl, .inl ⟨rfl, _, SqL.of h4⟩, T4, fun K4 f4 U4 => ?_⟩
    have g4 : LamX.ExtN HB K4 := e4.trans f4
    refine ⟨_, rfl, _, rfl, _, rfl, _, rfl, wrong, non, bad, bad, tw, rfl, kpl g4, fun _ dd4 ndd4 => ?_, fun n e n2 n5 => (wno n e n2 n5).elim⟩
    have x4 : Same K4 (upd K4 dd4 (.xd [(("value" : Str), wrong)])) := same_new ndd4
    refine .inl ⟨dd4, wrong, pd, rfl, rfl, upd_same, sh_keep shw (fun q o _ nt h => x4 _ _ (g4 q o h nt)), shs, shz, ?_⟩
    have v4 := g4.trans (LamX.ExtN.of x4)
    have V4 := U4.ext x4
    have hz4 : upd K4 dd4 (.xd [(("value" : Str), wrong)]) l = some (.lst [.str (("number " : Str) ++ pd.shown), .str "stream", .str "prefix"]) := x4 _ _ (f4 _ _ h4 (fun _ z => nomatch z))
    generalize upd K4 dd4 (.xd [(("value" : Str), wrong)]) = Z4 at v4 V4 hz4 ⊢
    refine ⟨l, _, .str (("number " : Str) ++ pd.shown), rfl, rfl, hz4, (by show 3 < sizeLine; decide), ?_⟩
    obtain ⟨e5', T5⟩ := grow (ys := [.str (("number " : Str) ++ pd.shown), .str "stream", .str "prefix"] ++ [.str (("number " : Str) ++ pd.shown)]) v4 V4 hz4
    have h5 : upd Z4 l (.lst ([.str (("number " : Str) ++ pd.shown), .str "stream", .str "prefix"] ++ [.str (("number " : Str) ++ pd.shown)])) l = some (.lst [.str (("number " : Str) ++ pd.shown), .str "stream", .str "prefix", .str (("number " : Str) ++ pd.shown)]) := upd_same
    generalize upd Z4 l (.lst ([.str (("number " : Str) ++ pd.shown), .str "stream", .str "prefix"] ++ [.str (("number " : Str) ++ pd.shown)])) = J5 at e5' T5 h5 ⊢
    have e5 := e5'
    -- call 5
    refine ⟨_, rfl, .inl ⟨rfl, _, SqL.of h5⟩, T5, fun K5 f5 U5 => ?_⟩
    have g5 : LamX.ExtN HB K5 := e5.trans f5
    refine ⟨_, rfl, _, rfl, _, rfl, _, rfl, .int (b : Int), non, bad, bad, _, rfl, .int _, fun z => absurd z (by rw [wb]; decide), rp_s (ksf g5) ?_⟩
    refine .inr ⟨0, by decide, rfl, rfl, fun Z same => ?_⟩
    have hz5 : Z l = some (.lst [.str (("number " : Str) ++ pd.shown), .str "stream", .str "prefix", .str (("number " : Str) ++ pd.shown)]) := same _ _ (f5 _ _ h5 (fun _ z => nomatch z))
    refine ⟨l, _, .str "stream", rfl, rfl, hz5, (by show 4 < sizeLine; decide), ?_⟩
    obtain ⟨e6, T6⟩ := grow (ys := [.str (("number " : Str) ++ pd.shown), .str "stream", .str "prefix", .str (("number " : Str) ++ pd.shown)] ++ [.str "stream"]) (g5.trans (LamX.ExtN.of same)) (U5.ext same) hz5
    have h6 : upd Z l (.lst ([.str (("number " : Str) ++ pd.shown), .str "stream", .str "prefix", .str (("number " : Str) ++ pd.shown)] ++ [.str "stream"])) l = some (.lst [.str (("number " : Str) ++ pd.shown), .str "stream", .str "prefix", .str (("number " : Str) ++ pd.shown), .str "stream"]) := upd_same
    generalize upd Z l (.lst ([.str (("number " : Str) ++ pd.shown), .str "stream", .str "prefix", .str (("number " : Str) ++ pd.shown)] ++ [.str "stream"])) = J6 at e6 T6 h6 ⊢
    -- call 6
    refine ⟨_, rfl, .inl ⟨rfl, _, SqL.of h6⟩, T6, fun K6 f6 U6 => ?_⟩
    have g6 : LamX.ExtN HB K6 := e6.trans f6
    refine ⟨_, rfl, _, rfl, _, rfl, _, rfl, .int (b : Int), .ref p, bad, .ref fi, _, rfl, .int _, fun z => absurd z (by rw [wb]; decide), rp_x (kst g6) (kpf g6) ?_⟩
    refine .inr ⟨1, by decide, rfl, rfl, fun Z same => ?_⟩
    have hz6 : Z l = some (.lst [.str (("number " : Str) ++ pd.shown), .str "stream", .str "prefix", .str (("number " : Str) ++ pd.shown), .str "stream"]) := same _ _ (f6 _ _ h6 (fun _ z => nomatch z))
    refine ⟨l, _, .str "prefix", rfl, rfl, hz6, (by show 5 < sizeLine; decide), ?_⟩
    obtain ⟨e7, T7⟩ := grow (ys := [.str (("number " : Str) ++ pd.shown), .str "stream", .str "prefix", .str (("number " : Str) ++ pd.shown), .str "stream"] ++ [.str "prefix"]) (g6.trans (LamX.ExtN.of same)) (U6.ext same) hz6
    have h7 : upd Z l (.lst ([.str (("number " : Str) ++ pd.shown), .str "stream", .str "prefix", .str (("number " : Str) ++ pd.shown), .str "stream"] ++ [.str "prefix"])) l = some (.lst [.str (("number " : Str) ++ pd.shown), .str "stream", .str "prefix", .str (("number " : Str) ++ pd.shown), .str "stream", .str "prefix"]) := upd_same
    generalize upd Z l (.lst ([.str (("number " : Str) ++ pd.shown), .str "stream", .str "prefix", .str (("number " : Str) ++ pd.shown), .str "stream"] ++ [.str "prefix"])) = J7 at e7 T7 h7 ⊢
    -- call 7
    refine ⟨_, rfl, .inl ⟨rfl, _, SqL.of h7⟩, T7, fun K7 f7 U7 => ?_⟩
    have g7 : LamX.ExtN HB K7 := e7.trans f7
    refine ⟨_, rfl, _, rfl, _, rfl, _, rfl, .int (b : Int), .ref p, .ref ot, bad, _, rfl, .int _, fun z => absurd z (by rw [wb]; decide), rp_y (kst g7) (kot g7) (kpf g7) ?_⟩
    refine .inr ⟨1, by decide, rfl, rfl, fun Z same => ?_⟩
    have hz7 : Z l = some (.lst [.str (("number " : Str) ++ pd.shown), .str "stream", .str "prefix", .str (("number " : Str) ++ pd.shown), .str "stream", .str "prefix"]) := same _ _ (f7 _ _ h7 (fun _ z => nomatch z))
    refine ⟨l, _, .str "prefix", rfl, rfl, hz7, (by show 6 < sizeLine; decide), ?_⟩
    obtain ⟨e8, T8⟩ := grow (ys := [.str (("number " : Str) ++ pd.shown), .str "stream", .str "prefix", .str (("number " : Str) ++ pd.shown), .str "stream", .str "prefix"] ++ [.str "prefix"]) (g7.trans (LamX.ExtN.of same)) (U7.ext same) hz7
    have h8 : upd Z l (.lst ([.str (("number " : Str) ++ pd.shown), .str "stream", .str "prefix", .str (("number " : Str) ++ pd.shown), .str "stream", .str "prefix"] ++ [.str "prefix"])) l = some (.lst [.str (("number " : Str) ++ pd.shown), .str "stream", .str "prefix", .str (("number " : Str) ++ pd.shown), .str "stream", .str "prefix", .str "prefix"]) := upd_same
    generalize upd Z l (.lst ([.str (("number " : Str) ++ pd.shown), .str "stream", .str "prefix", .str (("number " : Str) ++ pd.shown), .str "stream", .str "prefix"] ++ [.str "prefix"])) = J8 at e8 T8 h8 ⊢
    -- call 8
    refine ⟨_, rfl, .inl ⟨rfl, _, SqL.of h8⟩, T8, fun K8 f8 U8 => ?_⟩
    have g8 : LamX.ExtN HB K8 := e8.trans f8
    refine ⟨_, rfl, _, rfl, _, rfl, _, rfl, .int (b : Int), .ref p, .ref ot, .ref fi, _, rfl, .int _, fun z => absurd z (by rw [wb]; decide), replaced_k (g8 _ _ pB (fun _ z => nomatch z)) (g8 _ _ oB (fun _ z => nomatch z)) (g8 _ _ fB (fun _ z => nomatch z)) r0 (by omega) (by omega) (by omega) r0 (by omega) nf (by omega) (by omega) (by decide) (by decide) wh wq wE wE (fun _ => ?_) (fun z => absurd z (by
      unfold underB
      rw [decide_eq_false (by omega), Bool.false_and]
      decide))⟩
    refine .inr ⟨2, by decide, rfl, rfl, fun Z same => ?_⟩
    have hz8 : Z l = some (.lst [.str (("number " : Str) ++ pd.shown), .str "stream", .str "prefix", .str (("number " : Str) ++ pd.shown), .str "stream", .str "prefix", .str "prefix"]) := same _ _ (f8 _ _ h8 (fun _ z => nomatch z))
    refine ⟨l, _, .str "operation", rfl, rfl, hz8, (by show 7 < sizeLine; decide), ?_⟩
    obtain ⟨e9, T9⟩ := grow (ys := [.str (("number " : Str) ++ pd.shown), .str "stream", .str "prefix", .str (("number " : Str) ++ pd.shown), .str "stream", .str "prefix", .str "prefix"] ++ [.str "operation"]) (g8.trans (LamX.ExtN.of same)) (U8.ext same) hz8
    have h9 : upd Z l (.lst ([.str (("number " : Str) ++ pd.shown), .str "stream", .str "prefix", .str (("number " : Str) ++ pd.shown), .str "stream", .str "prefix", .str "prefix"] ++ [.str "operation"])) l = some (.lst [.str (("number " : Str) ++ pd.shown), .str "stream", .str "prefix", .str (("number " : Str) ++ pd.shown), .str "stream", .str "prefix", .str "prefix", .str "operation"]) := upd_same
    generalize upd Z l (.lst ([.str (("number " : Str) ++ pd.shown), .str "stream", .str "prefix", .str (("number " : Str) ++ pd.shown), .str "stream", .str "prefix", .str "prefix"] ++ [.str "operation"])) = J9 at e9 T9 h9 ⊢
    have en : ("number " : Str).length = 7 := by decide +kernel
    refine ⟨_, rfl, wrong, pd, rfl, sh_keep shw (fun q o _ nt h => e9 q o h nt), shs, Nat.le_trans shz (by decide), _, _, rfl, rfl, ?_, (by show 3 ≤ sizeLine; decide), fun du ndu => ?_⟩
    · rw [en]
      exact Nat.le_trans (show 7 + pd.shown.length ≤ 1007 by omega) (by decide)
    have sA : Same J9 (upd J9 du (.lst [.str (("number " : Str) ++ pd.shown), .str "stream", .str "prefix"])) := same_new ndu
    have hdu : upd J9 du (.lst [.str (("number " : Str) ++ pd.shown), .str "stream", .str "prefix"]) du = some (.lst [.str (("number " : Str) ++ pd.shown), .str "stream", .str "prefix"]) := upd_same
    generalize upd J9 du (.lst [.str (("number " : Str) ++ pd.shown), .str "stream", .str "prefix"]) = JA at sA hdu ⊢
    refine ⟨_, rfl, _, rfl, _, rfl, du, du, _, _, rfl, rfl, hdu, hdu, (by show 6 ≤ sizeLine; decide), fun q1 nq1 => ?_⟩
    have sB : Same JA (upd JA q1 (.lst ([.str (("number " : Str) ++ pd.shown), .str "stream", .str "prefix"] ++ [.str (("number " : Str) ++ pd.shown), .str "stream", .str "prefix"]))) := same_new nq1
    have hq1 : upd JA q1 (.lst ([.str (("number " : Str) ++ pd.shown), .str "stream", .str "prefix"] ++ [.str (("number " : Str) ++ pd.shown), .str "stream", .str "prefix"])) q1 = some (.lst ([.str (("number " : Str) ++ pd.shown), .str "stream", .str "prefix"] ++ [.str (("number " : Str) ++ pd.shown), .str "stream", .str "prefix"])) := upd_same
    generalize upd JA q1 (.lst ([.str (("number " : Str) ++ pd.shown), .str "stream", .str "prefix"] ++ [.str (("number " : Str) ++ pd.shown), .str "stream", .str "prefix"])) = JB at sB hq1 ⊢
    refine ⟨(by show 2 ≤ sizeLine; decide), fun q2 nq2 => ?_⟩
    have sC : Same JB (upd JB q2 (.lst [.str "prefix", .str "operation"])) := same_new nq2
    have hq2 : upd JB q2 (.lst [.str "prefix", .str "operation"]) q2 = some (.lst [.str "prefix", .str "operation"]) := upd_same
    generalize upd JB q2 (.lst [.str "prefix", .str "operation"]) = JC at sC hq2 ⊢
    refine ⟨q1, q2, _, _, rfl, rfl, sC _ _ hq1, hq2, (by show 8 ≤ sizeLine; decide), fun q3 nq3 => ?_⟩
    have sD : Same JC (upd JC q3 (.lst (([.str (("number " : Str) ++ pd.shown), .str "stream", .str "prefix"] ++ [.str (("number " : Str) ++ pd.shown), .str "stream", .str "prefix"]) ++ [.str "prefix", .str "operation"]))) := same_new nq3
    have hq3 : upd JC q3 (.lst (([.str (("number " : Str) ++ pd.shown), .str "stream", .str "prefix"] ++ [.str (("number " : Str) ++ pd.shown), .str "stream", .str "prefix"]) ++ [.str "prefix", .str "operation"])) q3 = some (.lst [.str (("number " : Str) ++ pd.shown), .str "stream", .str "prefix", .str (("number " : Str) ++ pd.shown), .str "stream", .str "prefix", .str "prefix", .str "operation"]) := upd_same
    generalize upd JC q3 (.lst (([.str (("number " : Str) ++ pd.shown), .str "stream", .str "prefix"] ++ [.str (("number " : Str) ++ pd.shown), .str "stream", .str "prefix"]) ++ [.str "prefix", .str "operation"])) = JD at sD hq3 ⊢
    have SS : Same J9 JD := fun _ _ e => sD _ _ (sC _ _ (sB _ _ (sA _ _ e)))
    have lay : PyData.canLay0 (.list [.str (("number " : Str) ++ pd.shown), .str "stream", .str "prefix", .str (("number " : Str) ++ pd.shown), .str "stream", .str "prefix", .str "prefix", .str "operation"]) = true := by
      show (PyData.canLay0 (.str (("number " : Str) ++ pd.shown)) && (PyData.canLay0 (.str "stream") && (PyData.canLay0 (.str "prefix") && (PyData.canLay0 (.str (("number " : Str) ++ pd.shown)) && PyData.canLayAll0 [.str "stream", .str "prefix", .str "prefix", .str "operation"])))) = true
      rw [shl]
      decide +kernel
    have shp : SeqAt.shaped (.list [.str (("number " : Str) ++ pd.shown), .str "stream", .str "prefix", .str (("number " : Str) ++ pd.shown), .str "stream", .str "prefix", .str "prefix", .str "operation"]) = true := by
      unfold SeqAt.shaped
      rw [lay]
      rfl
    have dp : L2.DpAll K JD [V.str (("number " : Str) ++ pd.shown), V.str "stream", V.str "prefix", V.str (("number " : Str) ++ pd.shown), V.str "stream", V.str "prefix", V.str "prefix", V.str "operation"] [.str (("number " : Str) ++ pd.shown), .str "stream", .str "prefix", .str (("number " : Str) ++ pd.shown), .str "stream", .str "prefix", .str "prefix", .str "operation"] := .cons (.str _) (.cons (.str _) (.cons (.str _) (.cons (.str _) (.cons (.str _) (.cons (.str _) (.cons (.str _) (.cons (.str _) .nil)))))))
    refine ⟨.list [.str (("number " : Str) ++ pd.shown), .str "stream", .str "prefix", .str (("number " : Str) ++ pd.shown), .str "stream", .str "prefix", .str "prefix", .str "operation"], .list [.str (("number " : Str) ++ pd.shown), .str "stream", .str "prefix", .str (("number " : Str) ++ pd.shown), .str "stream", .str "prefix", .str "prefix", .str "operation"], .lst (SqL.of (SS _ _ h9)) dp, .lst (SqL.of hq3) dp, shp, shp, ?_⟩
    rw [PySem.SeqAt.eqv_refl _ lay]
    exact k d4 JD hd4 (by omega) (fun x o n nt e => SS _ _ (e9 _ _ (ktB x o n nt e) nt)) (SS _ _ (e9 _ _ aB (fun _ z => nomatch z))) (T9.ext SS)
end
end Vf


set_option Elab.async false
set_option maxRecDepth 100000
set_option maxHeartbeats 16000000
set_option exponentiation.threshold 3000
namespace Vf
open PySem L2 SX Vm
/-- a written normal form -/
theorem nf_lit {h q h' q' : List Nat} (many : Nat) (hm : h.length ≤ many) (hm' : h'.length ≤ many) (hq : 0 < q.length) (hq' : 0 < q'.length) (e : ∀ i, i < many + q'.length * q.length → ev h' q' i = ev h q i) (l : ∀ t, 0 < t → t < q'.length → ¬ Per q' t)
    (stop : 0 < h'.length → h'.getD (h'.length - 1) 0 ≠ q'.getD (q'.length - 1) 0) : Nf (ev h q) h' q' := by
  have all := ev_all hm' hm hq' hq e
  have L : Least q' q'.length := ⟨hq', per_len q', l⟩
  refine last_nf all hq' (fun s m s0 s1 z => L.prim (h := h') hq' s m s0 s1 fun i hi => ?_) stop
  rw [all, all]
  exact z i hi
theorem prim1 {a : Nat} (t : Nat) (h0 : 0 < t) (h1 : t < [a].length) : ¬ Per [a] t := absurd h1 (by simp; omega)
theorem prim2 {a b : Nat} (ne : a ≠ b) (t : Nat) (h0 : 0 < t) (h1 : t < [a, b].length) : ¬ Per [a, b] t := fun z => by
  have : t = 1 := by simp at h1; omega
  subst this
  exact ne (z 0).symm
theorem nf_sh {h q w : List Nat} {b : Nat} {h0 q0 : List Nat} (qp : 0 < q.length) (n : Nf (ev (w ++ h.drop b) (q.drop ((b - h.length) % q.length) ++ q.take ((b - h.length) % q.length))) h0 q0) : Nf (shF w b (ev h q)) h0 q0 := nf_congr n fun i => ev_sh qp i
def l60 : List Nat := (List.replicate 30 [48, 49]).flatten
theorem l60_len : l60.length = 60 := by decide +kernel
theorem nfA : Nf (shF [] [48, 49, 49].length (ev [48, 49] [49, 48])) [] [48, 49] := nf_sh (by decide) (nf_lit 4 (by decide) (by decide) (by decide) (by decide) (by decide) (prim2 (by decide)) (by decide))
theorem nfB : Nf (shF [] [48, 49].length (ev [48, 49] [49, 48])) [] [49, 48] := nf_sh (by decide) (nf_lit 4 (by decide) (by decide) (by decide) (by decide) (by decide) (prim2 (by decide)) (by decide))
theorem nfC : Nf (shF [48, 49] ([] : List Nat).length (ev [48, 49] [49, 48])) [48, 49, 48, 49] [49, 48] := nf_sh (by decide) (nf_lit 4 (by decide) (by decide) (by decide) (by decide) (by decide) (prim2 (by decide)) (by decide))
theorem nfD : Nf (shF [48] l60.length (ev [] [48, 49])) [48] [48, 49] := nf_sh (by decide) (nf_lit 4 (by decide +kernel) (by decide +kernel) (by decide +kernel) (by decide +kernel) (by decide +kernel) (prim2 (by decide)) (by decide))
theorem nfS : Nf (ev [48, 49] [49, 48]) [48, 49] [49, 48] := nf_lit 4 (by decide) (by decide) (by decide) (by decide) (by decide) (prim2 (by decide)) (by decide)
theorem nfT : Nf (ev [] [48, 49]) [] [48, 49] := nf_lit 4 (by decide) (by decide) (by decide) (by decide) (by decide) (prim2 (by decide)) (by decide)
theorem w60 : IsW ((2 : Nat) : Int) l60 := isW_lit (by decide +kernel)
/-- replaced of written words -/
theorem rep_s {r r1 r2 : Int} {p p1 p2 : Addr} {h q u w h0 q0 : List Nat} {f : Nat → Nat} {H : Hp} {X Y O : Prop} {Z : Int → List Nat → List Nat → Addr → Prop} {K : PySem.W.Frag} (hp : H p = some (.tup [.int r, .str (S h), .str (S q)])) (hp1 : H p1 = some (.tup [.int r1, .str (S u)])) (hp2 : H p2 = some (.tup [.int r2, .str (S w)])) (r0 : 0 ≤ r) (r5 : r < 5000) (s0 : 0 ≤ r1) (s5 : r1 < 5000) (t0 : 0 ≤ r2) (t5 : r2 < 5000)
    (nf : Nf f h q) (hl : h.length ≤ 400) (ql : q.length ≤ 400) (ul : u.length ≤ 400) (wl : w.length ≤ 400) (wh : IsW ((2 : Nat) : Int) h) (wq : IsW ((2 : Nat) : Int) q) (wu : IsW ((2 : Nat) : Int) u) (ww : IsW ((2 : Nat) : Int) w) (hu : underB r h q r1 u = true) (nf0 : Nf (shF w u.length (ev h q)) h0 q0)
    (k : ∀ p' : Addr, H p' = none → Z r2 h0 q0 p') :
    ∀ n : Nat, V.int 2 = .int (n : Int) → 2 ≤ n → n ≤ 5 → ∃ res, SF H n 5000 (.ref p) res ∧ (res = false → X) ∧ (res = true → ∃ res2, PF H n 5000 (.ref p1) res2 ∧ (res2 = false → Y) ∧
    (res2 = true → ∃ res3, PF H n 5000 (.ref p2) res3 ∧ (res3 = false → Y) ∧
    (res3 = true → ∃ (p' p1' p2' : Addr) (ra rb rc : Int) (h1 q1 u1 w1 : List Nat), V.ref p = .ref p' ∧ V.ref p1 = .ref p1' ∧ V.ref p2 = .ref p2' ∧ SqT K H p' [.int ra, .str (S h1), .str (S q1)] ∧ SqT K H p1' [.int rb, .str (S u1)] ∧ SqT K H p2' [.int rc, .str (S w1)] ∧ 0 < q1.length ∧ q1.length ≤ 400 ∧ h1.length ≤ 400 ∧ u1.length ≤ 400 ∧ w1.length ≤ 400 ∧
      (underB ra h1 q1 rb u1 = false → O) ∧ (underB ra h1 q1 rb u1 = true → ∀ (h' q' : List Nat) (p' : Addr), Nf (shF w1 u1.length (ev h1 q1)) h' q' → h'.length ≤ w1.length + h1.length → q'.length ≤ q1.length → (∀ c ∈ h', c ∈ w1 ∨ c ∈ h1) → Sub q' q1 → H p' = none → Z rc h' q' p')))) :=
  replaced_k (b := 2) hp hp1 hp2 r0 r5 s0 s5 t0 t5 nf hl ql ul wl wh wq wu ww (fun z => absurd (hu.symm.trans z) (by decide)) fun _ h' q' p' n _ _ _ _ np => by
    obtain ⟨e1, e2⟩ := nf0.unique n
    rw [← e1, ← e2]
    exact k p' np
/-- the law holds -/
def spLaw (K : PySem.W.Frag) (P1 P2 : Addr) : Sp := fun vs H Q _ => ∃ (a : Addr) (ns : List Int), vs = [.ref a] ∧ SqL K H a (ns.map V.int) ∧ ns.length ≤ 63 ∧ LamX.Tabs (tT P1 P2) H ∧ ∀ H', Q (.bl true) H'
section
variable {P : Program} {w : World} {K : PySem.W.Frag} {mg : Str → Option Value} {base : Heap}
theorem scLaw : FnScope ["script", "at", "base", "die", "found", "stream", "turn"] ["script"] (defScope sLaw) := ⟨rfl, rfl, rfl, by decide +kernel, rfl, by decide +kernel, by decide +kernel⟩
/-- a list that is seen stays so -/
theorem sql_ext {H H' : Hp} {a : Addr} {xs : List V} (h : SqL K H a xs) (e : LamX.ExtN H H') : SqL K H' a xs := by
  rcases h with (h | ⟨o, h⟩) | h
  · exact .inl (.inl (e _ _ h (fun _ z => nomatch z)))
  · exact .inl (.inr ⟨o, e _ _ h (fun _ z => nomatch z)⟩)
  · exact .inr h
theorem ok_law {f fD fB fR fE fM CN CS CX CO P1 P2 : Addr} {fd fdD fdB fdR fdE fdM : FuncData} (F : Fun K "law" "law" sLaw f fd)
    (GD : FnOk P w K mg base CX0 1 fD fdD ["script", "at"] (spDice K)) (cD : Cal K mg "_law_dice" fD fdD ["script", "at"])
    (GB : FnOk P w K mg base CX0 2 fB fdB ["die"] spBase) (cB : Cal K mg "_law_base" fB fdB ["die"])
    (GR : VG.FnG P w K mg base 8 fR fdR ["die", "base"] (spBoth 300 P1 P2)) (cR : Cal K mg "_law_right" fR fdR ["die", "base"])
    (GE : VG.FnG P w K mg base 8 fE fdE ["die", "base"] (spBoth 30 P1 P2)) (cE : Cal K mg "_law_errors_right" fE fdE ["die", "base"])
    (GM : FnOk P w K mg base (L2.CX P w) 5 fM fdM ["base", "stream", "old", "new"] (spReplaced K CN CS CX CO)) (cM : Cal K mg "replaced" fM fdM ["base", "stream", "old", "new"])
    (N : Nm mg) (nr : mg "range" = none) (nx : mg "max" = none) (nn : mg "min" = none) : VG.FnG P w K mg base 9 f fd ["script"] (spLaw K P1 P2) := by
  refine VG.FnG.of F scLaw (fun vs H Q E h => ?_) (fun cdv A outer s H vs Q E gd hr _ _ h => ?_)
  · obtain ⟨a, ns, rfl, _⟩ := h
    rfl
  · obtain ⟨a, ns, rfl, hs, hn, tabs, k⟩ := h
    have nd := scLaw.nd
    have hr1 := hr.mono (show 1 ≤ 8 by decide)
    have hr2 := hr.mono (show 2 ≤ 8 by decide)
    have hr5 := hr.mono (show 5 ≤ 8 by decide)
    have hun : A.units + 3 + 64 < cLine := hr.units
    refine ⟨_, pss_cons (ps_for PassesOwn.never rfl (pi_range1 rfl nr (pa_cons (pe_callB (call_max2 rfl) (by rfl) nx PyProof.Rows.boot_max (pa_cons pe_int (pa_cons (pe_callB (call_min2 rfl) (by rfl) nn PyProof.Rows.boot_min (pa_cons pe_int (pa_cons (pe_callB call_len_seq (by rfl) N.len boot_len (pa_cons (pv 0) pa_nil)) pa_nil))) pa_nil))) pa_nil)) (pg_name (i := 1) nd rfl (.inl rfl))
        (pss_cons (ps_set (i := 3) nd rfl (.inl rfl) (pe_call GD hr1 rfl cD.mg cD.kp cD.b .nil pass0 (pa_cons (pv 0) (pa_cons (pv 1) pa_nil))))
        (pss_cons (ps_set (i := 2) nd rfl (.inl rfl) (pe_call GB hr2 rfl cB.mg cB.kp cB.b .nil pass0 (pa_cons (pv 3) pa_nil)))
        (pss_one (ps_for PassesOwn.never rfl (pi_range1 rfl nr (pa_cons pe_int pa_nil)) (pg_name (i := 6) nd rfl (.inl rfl))
          (pss_one (ps_if (PW.pt (pw_or (pt_not (pt_val (VG.pe_callG GR gd hr rfl cR.mg cR.kp cR.b (pa_cons (pv 3) (pa_cons (pv 2) pa_nil)))))
            (pw_or1 (pt_not (pt_val (VG.pe_callG GE gd hr rfl cE.mg cE.kp cE.b (pa_cons (pv 3) (pa_cons (pv 2) pa_nil)))))))) (pss_one (ps_ret pe_bl)) pss_nil)))))))
      (pss_cons (ps_set (i := 5) nd rfl (.inl rfl) (pe_tup (pa_cons pe_int (pa_cons pe_str (pa_cons pe_str pa_nil)))))
      (pss_cons (ps_set (i := 4) nd rfl (.inl rfl) (pe_lst (pa_cons (pe_call GM hr5 rfl cM.mg cM.kp cM.b .nil (passes_call takes0 (fun _ _ _ _ h => h)) (pa_cons pe_int (pa_cons (pv 5) (pa_cons (pe_tup (pa_cons pe_int (pa_cons pe_str pa_nil))) (pa_cons (pe_tup (pa_cons pe_int (pa_cons pe_str pa_nil))) pa_nil))))) (pa_cons (pe_call GM hr5 rfl cM.mg cM.kp cM.b .nil (passes_call takes0 (fun _ _ _ _ h => h)) (pa_cons pe_int (pa_cons (pv 5) (pa_cons (pe_tup (pa_cons pe_int (pa_cons pe_str pa_nil))) (pa_cons (pe_tup (pa_cons pe_int (pa_cons pe_str pa_nil))) pa_nil))))) pa_nil))))
      (pss_cons (ps_expr (pe_bm PySem.F.plainAttrs_list PySem.F.slot_list_append PySem.F.type_list_append mt_append (pv 4) (pa_cons (pe_call GM hr5 rfl cM.mg cM.kp cM.b .nil (passes_call takes0 (fun _ _ _ _ h => h)) (pa_cons pe_int (pa_cons (pv 5) (pa_cons (pe_tup (pa_cons pe_int (pa_cons pe_str pa_nil))) (pa_cons (pe_tup (pa_cons pe_int (pa_cons pe_str pa_nil))) pa_nil))))) pa_nil)))
      (pss_cons (ps_expr (pe_bm PySem.F.plainAttrs_list PySem.F.slot_list_append PySem.F.type_list_append mt_append (pv 4) (pa_cons (pe_call GM hr5 rfl cM.mg cM.kp cM.b .nil (passes_call takes0 (fun _ _ _ _ h => h)) (pa_cons pe_int (pa_cons (pe_tup (pa_cons pe_int (pa_cons pe_str (pa_cons pe_str pa_nil)))) (pa_cons (pe_tup (pa_cons pe_int (pa_cons (pe_op op_mul_str pe_str pe_int) pa_nil))) (pa_cons (pe_tup (pa_cons pe_int (pa_cons pe_str pa_nil))) pa_nil))))) pa_nil)))
      (pss_one (ps_ret (pe_cmpR (op_eqD hun) (pv 4) (pe_lst (pa_cons (pe_tup (pa_cons pe_int (pa_cons pe_str (pa_cons pe_str pa_nil)))) (pa_cons (pe_tup (pa_cons pe_int (pa_cons pe_str (pa_cons pe_str pa_nil)))) (pa_cons (pe_tup (pa_cons pe_int (pa_cons pe_str (pa_cons pe_str pa_nil)))) (pa_cons (pe_tup (pa_cons pe_int (pa_cons pe_str (pa_cons pe_str pa_nil)))) pa_nil))))) (nomark _)))))))), ?_⟩
    refine ⟨_, rfl, a, _, rfl, .inl hs, 10, _, rfl, 1, _, rfl, ?_⟩
    refine ⟨_, rfl, ?_, ?_, for_range (fun _ σ H2 => ∃ u1 u2 u3 u5 : Option V, σ = [some (.ref a), u1, u2, u3, none, none, u5] ∧ LamX.ExtN H H2 ∧ LamX.Tabs (tT P1 P2) H2) ?_ ?_ ?_⟩
    · split <;> split <;> omega
    · split <;> split <;> omega
    · exact ⟨none, none, none, none, rfl, LamX.ExtN.refl H, tabs⟩
    · rintro i σ H2 hi ⟨u1, u2, u3, u5, rfl, eN, tt⟩
      have hi10 : i < 10 := by
        revert hi
        split <;> split <;> omega
      refine ⟨_, rfl, _, rfl, a, ns, i, by rw [Int.zero_add]; rfl, sql_ext hs eN, hn, by omega, fun p d0 hd0 hz0 np => ?_⟩
      refine ⟨_, rfl, p, d0, rfl, upd_same, hd0, by omega, fun b0 d1 H3 hd1 hc1 b2' b5' kp3 a3 => ?_⟩
      obtain ⟨b, rfl⟩ := Int.eq_ofNat_of_zero_le (show 0 ≤ b0 by omega)
      have b2 : 2 ≤ b := by omega
      have b5 : b ≤ 5 := by omega
      have x1 : ∀ c o, H2 c = some o → upd H2 p (.lst (dieL d0)) c = some o := fun c o e => by rw [upd_ne (ne_of_none e np)]; exact e
      have x3 : LamX.ExtN H2 H3 := fun c o e _ => kp3 c o (ne_of_none e np) (x1 c o e)
      have t3 : LamX.Tabs (tT P1 P2) H3 := tabs_kp (tt.ext x1) upd_same kp3
      refine ⟨3, rfl, by decide, by decide, for_range (n := 3) (fun j σ H4 => ∃ (u : Option V) (d4 : Int × Int × Int), σ = [some (.ref a), some (.int (0 + (i : Int))), some (.int (b : Int)), some (.ref p), none, none, u] ∧ LamX.ExtN H2 H4 ∧ LamX.Tabs (tT P1 P2) H4 ∧ H4 p = some (.lst (dieL d4)) ∧ DieOk d4 ∧ d4.2.2 ≤ 1 + 330 * (j : Int)) ?_ ?_ ?_⟩
      · exact ⟨_, d1, rfl, x3, t3, a3, hd1, by omega⟩
      · rintro j σ H4 hj ⟨u, d4, rfl, x4, t4, a4, hd4, hc4⟩
        have hj6 : j < 3 := hj
        have nb : ∀ c o, H2 c = some o → c ≠ p := fun c o e => ne_of_none e np
        refine ⟨_, rfl, _, rfl, p, d4, b, rfl, a4, hd4, by omega, b2, b5, t4, fun d5 H5 hd5 hc5 kp5 a5 t5 => ⟨_, rfl, ?_⟩⟩
        refine iteF ?_
        refine ⟨_, rfl, _, rfl, p, d5, b, rfl, a5, hd5, by omega, b2, b5, t5, fun d6 H6 hd6 hc6 kt6 a6 t6 => ⟨_, rfl, ?_⟩⟩
        refine iteF ?_
        exact ⟨_, d6, rfl, fun c o e nt => kt6 c o (nb c o e) nt (kp5 c o (nb c o e) nt (x4 c o e nt)), t6, a6, hd6, by omega⟩
      · rintro σ H4 ⟨u, d4, rfl, x4, t4, _⟩
        exact ⟨_, _, _, _, rfl, eN.trans x4, t4⟩
    · rintro σ H2 ⟨u1, u2, u3, u5, rfl, eN, tt⟩
      have eem : ("" : Str) = S [] := by decide +kernel
      have e0 : ("0" : Str) = S [48] := by decide +kernel
      have e01 : ("01" : Str) = S [48, 49] := by decide +kernel
      have e10 : ("10" : Str) = S [49, 48] := by decide +kernel
      have e011 : ("011" : Str) = S [48, 49, 49] := by decide +kernel
      have e0101 : ("0101" : Str) = S [48, 49, 48, 49] := by decide +kernel
      refine ⟨(by show 3 ≤ sizeLine; decide), fun st nst => ?_⟩
      have sI1 : Same H2 (upd H2 st (.tup [.int 0, .str "01", .str "10"])) := same_new nst
      have hst : upd H2 st (.tup [.int 0, .str "01", .str "10"]) st = some (.tup [.int 0, .str (S [48, 49]), .str (S [49, 48])]) := by rw [upd_same, e01, e10]
      generalize upd H2 st (.tup [.int 0, .str "01", .str "10"]) = I1 at sI1 hst ⊢
      refine ⟨_, rfl, (by show 2 ≤ sizeLine; decide), fun a1 na1 => ?_⟩
      have sI2 : Same I1 (upd I1 a1 (.tup [.int 0, .str "011"])) := same_new na1
      have ha1 : upd I1 a1 (.tup [.int 0, .str "011"]) a1 = some (.tup [.int 0, .str (S [48, 49, 49])]) := by rw [upd_same, e011]
      generalize upd I1 a1 (.tup [.int 0, .str "011"]) = I2 at sI2 ha1 ⊢
      refine ⟨(by show 2 ≤ sizeLine; decide), fun a2 na2 => ?_⟩
      have sI3 : Same I2 (upd I2 a2 (.tup [.int 1, .str ""])) := same_new na2
      have ha2 : upd I2 a2 (.tup [.int 1, .str ""]) a2 = some (.tup [.int 1, .str (S [])]) := by rw [upd_same, eem]
      generalize upd I2 a2 (.tup [.int 1, .str ""]) = I3 at sI3 ha2 ⊢
      refine ⟨_, _, _, _, _, rfl, .int _, fun z => absurd z (by decide), rep_s (sI3 _ _ (sI2 _ _ (hst))) (sI3 _ _ (ha1)) (ha2) (by decide) (by decide) (by decide) (by decide) (by decide) (by decide) nfS (by decide +kernel) (by decide +kernel) (by decide +kernel) (by decide +kernel) (isW_lit (by decide)) (isW_lit (by decide)) (isW_lit (by decide)) (isW_lit (by decide)) (by decide +kernel) nfA fun r1 nr1 => ?_⟩
      have sI4 : Same I3 (upd I3 r1 (.tup [.int 1, .str (S []), .str (S [48, 49])])) := same_new nr1
      have hr1 : upd I3 r1 (.tup [.int 1, .str (S []), .str (S [48, 49])]) r1 = some (.tup [.int 1, .str (S []), .str (S [48, 49])]) := upd_same
      generalize upd I3 r1 (.tup [.int 1, .str (S []), .str (S [48, 49])]) = I4 at sI4 hr1 ⊢
      refine ⟨_, rfl, (by show 2 ≤ sizeLine; decide), fun b1 nb1 => ?_⟩
      have sI5 : Same I4 (upd I4 b1 (.tup [.int 0, .str "01"])) := same_new nb1
      have hb1 : upd I4 b1 (.tup [.int 0, .str "01"]) b1 = some (.tup [.int 0, .str (S [48, 49])]) := by rw [upd_same, e01]
      generalize upd I4 b1 (.tup [.int 0, .str "01"]) = I5 at sI5 hb1 ⊢
      refine ⟨(by show 2 ≤ sizeLine; decide), fun b2 nb2 => ?_⟩
      have sI6 : Same I5 (upd I5 b2 (.tup [.int 0, .str ""])) := same_new nb2
      have hb2 : upd I5 b2 (.tup [.int 0, .str ""]) b2 = some (.tup [.int 0, .str (S [])]) := by rw [upd_same, eem]
      generalize upd I5 b2 (.tup [.int 0, .str ""]) = I6 at sI6 hb2 ⊢
      refine ⟨_, _, _, _, _, rfl, .int _, fun z => absurd z (by decide), rep_s (sI6 _ _ (sI5 _ _ (sI4 _ _ (sI3 _ _ (sI2 _ _ (hst)))))) (sI6 _ _ (hb1)) (hb2) (by decide) (by decide) (by decide) (by decide) (by decide) (by decide) nfS (by decide +kernel) (by decide +kernel) (by decide +kernel) (by decide +kernel) (isW_lit (by decide)) (isW_lit (by decide)) (isW_lit (by decide)) (isW_lit (by decide)) (by decide +kernel) nfB fun r2 nr2 => ?_⟩
      have sI7 : Same I6 (upd I6 r2 (.tup [.int 0, .str (S []), .str (S [49, 48])])) := same_new nr2
      have hr2 : upd I6 r2 (.tup [.int 0, .str (S []), .str (S [49, 48])]) r2 = some (.tup [.int 0, .str (S []), .str (S [49, 48])]) := upd_same
      generalize upd I6 r2 (.tup [.int 0, .str (S []), .str (S [49, 48])]) = I7 at sI7 hr2 ⊢
      refine ⟨(by show 2 ≤ sizeLine; decide), fun l nl => ?_⟩
      have sI8 : Same I7 (upd I7 l (.lst [.ref r1, .ref r2])) := same_new nl
      have hl : upd I7 l (.lst [.ref r1, .ref r2]) l = some (.lst [.ref r1, .ref r2]) := upd_same
      generalize upd I7 l (.lst [.ref r1, .ref r2]) = I8 at sI8 hl ⊢
      refine ⟨_, rfl, .inl ⟨rfl, _, SqL.of hl⟩, ?_⟩
      refine ⟨_, rfl, (by show 2 ≤ sizeLine; decide), fun c1 nc1 => ?_⟩
      have sI9 : Same I8 (upd I8 c1 (.tup [.int 0, .str ""])) := same_new nc1
      have hc1 : upd I8 c1 (.tup [.int 0, .str ""]) c1 = some (.tup [.int 0, .str (S [])]) := by rw [upd_same, eem]
      generalize upd I8 c1 (.tup [.int 0, .str ""]) = I9 at sI9 hc1 ⊢
      refine ⟨(by show 2 ≤ sizeLine; decide), fun c2 nc2 => ?_⟩
      have sI10 : Same I9 (upd I9 c2 (.tup [.int 7, .str "01"])) := same_new nc2
      have hc2 : upd I9 c2 (.tup [.int 7, .str "01"]) c2 = some (.tup [.int 7, .str (S [48, 49])]) := by rw [upd_same, e01]
      generalize upd I9 c2 (.tup [.int 7, .str "01"]) = I10 at sI10 hc2 ⊢
      refine ⟨_, _, _, _, _, rfl, .int _, fun z => absurd z (by decide), rep_s (sI10 _ _ (sI9 _ _ (sI8 _ _ (sI7 _ _ (sI6 _ _ (sI5 _ _ (sI4 _ _ (sI3 _ _ (sI2 _ _ (hst)))))))))) (sI10 _ _ (hc1)) (hc2) (by decide) (by decide) (by decide) (by decide) (by decide) (by decide) nfS (by decide +kernel) (by decide +kernel) (by decide +kernel) (by decide +kernel) (isW_lit (by decide)) (isW_lit (by decide)) (isW_lit (by decide)) (isW_lit (by decide)) (by decide +kernel) nfC fun r3 nr3 => ?_⟩
      have sI11 : Same I10 (upd I10 r3 (.tup [.int 7, .str (S [48, 49, 48, 49]), .str (S [49, 48])])) := same_new nr3
      have hr3 : upd I10 r3 (.tup [.int 7, .str (S [48, 49, 48, 49]), .str (S [49, 48])]) r3 = some (.tup [.int 7, .str (S [48, 49, 48, 49]), .str (S [49, 48])]) := upd_same
      generalize upd I10 r3 (.tup [.int 7, .str (S [48, 49, 48, 49]), .str (S [49, 48])]) = I11 at sI11 hr3 ⊢
      refine ⟨l, _, .ref r3, rfl, rfl, sI11 _ _ (sI10 _ _ (sI9 _ _ (hl))), (by show 2 < sizeLine; decide), ?_⟩
      have m12st : st ≠ l := fun z => by
        have e := sI11 _ _ (sI10 _ _ (sI9 _ _ (sI8 _ _ (sI7 _ _ (sI6 _ _ (sI5 _ _ (sI4 _ _ (sI3 _ _ (sI2 _ _ (hst))))))))))
        rw [z, sI11 _ _ (sI10 _ _ (sI9 _ _ (hl)))] at e
        cases e
      have k12st := (upd_ne (H := I11) (o := .lst ([.ref r1, .ref r2] ++ [.ref r3])) m12st).trans (sI11 _ _ (sI10 _ _ (sI9 _ _ (sI8 _ _ (sI7 _ _ (sI6 _ _ (sI5 _ _ (sI4 _ _ (sI3 _ _ (sI2 _ _ (hst)))))))))))
      have m12r1 : r1 ≠ l := fun z => by
        have e := sI11 _ _ (sI10 _ _ (sI9 _ _ (sI8 _ _ (sI7 _ _ (sI6 _ _ (sI5 _ _ (hr1)))))))
        rw [z, sI11 _ _ (sI10 _ _ (sI9 _ _ (hl)))] at e
        cases e
      have k12r1 := (upd_ne (H := I11) (o := .lst ([.ref r1, .ref r2] ++ [.ref r3])) m12r1).trans (sI11 _ _ (sI10 _ _ (sI9 _ _ (sI8 _ _ (sI7 _ _ (sI6 _ _ (sI5 _ _ (hr1))))))))
      have m12r2 : r2 ≠ l := fun z => by
        have e := sI11 _ _ (sI10 _ _ (sI9 _ _ (sI8 _ _ (hr2))))
        rw [z, sI11 _ _ (sI10 _ _ (sI9 _ _ (hl)))] at e
        cases e
      have k12r2 := (upd_ne (H := I11) (o := .lst ([.ref r1, .ref r2] ++ [.ref r3])) m12r2).trans (sI11 _ _ (sI10 _ _ (sI9 _ _ (sI8 _ _ (hr2)))))
      have m12r3 : r3 ≠ l := fun z => by
        have e := hr3
        rw [z, sI11 _ _ (sI10 _ _ (sI9 _ _ (hl)))] at e
        cases e
      have k12r3 := (upd_ne (H := I11) (o := .lst ([.ref r1, .ref r2] ++ [.ref r3])) m12r3).trans (hr3)
      have k12l : upd I11 l (.lst ([.ref r1, .ref r2] ++ [.ref r3])) l = some (.lst ([.ref r1, .ref r2] ++ [.ref r3])) := upd_same
      generalize upd I11 l (.lst ([.ref r1, .ref r2] ++ [.ref r3])) = I12 at k12st k12r1 k12r2 k12r3 k12l ⊢
      clear hst
      have hst := k12st
      clear hr1
      have hr1 := k12r1
      clear hr2
      have hr2 := k12r2
      clear hr3
      have hr3 := k12r3
      clear hl
      have hl := k12l
      refine ⟨_, rfl, .inl ⟨rfl, _, SqL.of hl⟩, ?_⟩
      refine ⟨(by show 3 ≤ sizeLine; decide), fun d1 nd1 => ?_⟩
      have sI13 : Same I12 (upd I12 d1 (.tup [.int 0, .str "", .str "01"])) := same_new nd1
      have hd1 : upd I12 d1 (.tup [.int 0, .str "", .str "01"]) d1 = some (.tup [.int 0, .str (S []), .str (S [48, 49])]) := by rw [upd_same, eem, e01]
      generalize upd I12 d1 (.tup [.int 0, .str "", .str "01"]) = I13 at sI13 hd1 ⊢
      refine ⟨[48, 49], 30, congrArg V.str e01, rfl, by decide, by decide, by decide, (by show 2 ≤ sizeLine; decide), fun d2 nd2 => ?_⟩
      have sId2 : Same I13 (upd I13 d2 (.tup [.int 0, .str (S (List.replicate 30 [48, 49]).flatten)])) := same_new nd2
      have hd2 : upd I13 d2 (.tup [.int 0, .str (S (List.replicate 30 [48, 49]).flatten)]) d2 = some (.tup [.int 0, .str (S l60)]) := upd_same
      generalize upd I13 d2 (.tup [.int 0, .str (S (List.replicate 30 [48, 49]).flatten)]) = Id2 at sId2 hd2 ⊢
      refine ⟨(by show 2 ≤ sizeLine; decide), fun d3 nd3 => ?_⟩
      have sI14 : Same Id2 (upd Id2 d3 (.tup [.int 0, .str "0"])) := same_new nd3
      have hd3 : upd Id2 d3 (.tup [.int 0, .str "0"]) d3 = some (.tup [.int 0, .str (S [48])]) := by rw [upd_same, e0]
      generalize upd Id2 d3 (.tup [.int 0, .str "0"]) = I14 at sI14 hd3 ⊢
      refine ⟨_, _, _, _, _, rfl, .int _, fun z => absurd z (by decide), rep_s (sI14 _ _ (sId2 _ _ (hd1))) (sI14 _ _ (hd2)) (hd3) (by decide) (by decide) (by decide) (by decide) (by decide) (by decide) nfT (by decide +kernel) (by decide +kernel) (by decide +kernel) (by decide +kernel) (IsW.nil _) (isW_lit (by decide)) w60 (isW_lit (by decide)) (by decide +kernel) nfD fun r4 nr4 => ?_⟩
      have sI15 : Same I14 (upd I14 r4 (.tup [.int 0, .str (S [48]), .str (S [48, 49])])) := same_new nr4
      have hr4 : upd I14 r4 (.tup [.int 0, .str (S [48]), .str (S [48, 49])]) r4 = some (.tup [.int 0, .str (S [48]), .str (S [48, 49])]) := upd_same
      generalize upd I14 r4 (.tup [.int 0, .str (S [48]), .str (S [48, 49])]) = I15 at sI15 hr4 ⊢
      refine ⟨l, _, .ref r4, rfl, rfl, sI15 _ _ (sI14 _ _ (sId2 _ _ (sI13 _ _ (hl)))), (by show 3 < sizeLine; decide), ?_⟩
      have m16st : st ≠ l := fun z => by
        have e := sI15 _ _ (sI14 _ _ (sId2 _ _ (sI13 _ _ (hst))))
        rw [z, sI15 _ _ (sI14 _ _ (sId2 _ _ (sI13 _ _ (hl))))] at e
        cases e
      have k16st := (upd_ne (H := I15) (o := .lst ([.ref r1, .ref r2] ++ [.ref r3] ++ [.ref r4])) m16st).trans (sI15 _ _ (sI14 _ _ (sId2 _ _ (sI13 _ _ (hst)))))
      have m16r1 : r1 ≠ l := fun z => by
        have e := sI15 _ _ (sI14 _ _ (sId2 _ _ (sI13 _ _ (hr1))))
        rw [z, sI15 _ _ (sI14 _ _ (sId2 _ _ (sI13 _ _ (hl))))] at e
        cases e
      have k16r1 := (upd_ne (H := I15) (o := .lst ([.ref r1, .ref r2] ++ [.ref r3] ++ [.ref r4])) m16r1).trans (sI15 _ _ (sI14 _ _ (sId2 _ _ (sI13 _ _ (hr1)))))
      have m16r2 : r2 ≠ l := fun z => by
        have e := sI15 _ _ (sI14 _ _ (sId2 _ _ (sI13 _ _ (hr2))))
        rw [z, sI15 _ _ (sI14 _ _ (sId2 _ _ (sI13 _ _ (hl))))] at e
        cases e
      have k16r2 := (upd_ne (H := I15) (o := .lst ([.ref r1, .ref r2] ++ [.ref r3] ++ [.ref r4])) m16r2).trans (sI15 _ _ (sI14 _ _ (sId2 _ _ (sI13 _ _ (hr2)))))
      have m16r3 : r3 ≠ l := fun z => by
        have e := sI15 _ _ (sI14 _ _ (sId2 _ _ (sI13 _ _ (hr3))))
        rw [z, sI15 _ _ (sI14 _ _ (sId2 _ _ (sI13 _ _ (hl))))] at e
        cases e
      have k16r3 := (upd_ne (H := I15) (o := .lst ([.ref r1, .ref r2] ++ [.ref r3] ++ [.ref r4])) m16r3).trans (sI15 _ _ (sI14 _ _ (sId2 _ _ (sI13 _ _ (hr3)))))
      have m16r4 : r4 ≠ l := fun z => by
        have e := hr4
        rw [z, sI15 _ _ (sI14 _ _ (sId2 _ _ (sI13 _ _ (hl))))] at e
        cases e
      have k16r4 := (upd_ne (H := I15) (o := .lst ([.ref r1, .ref r2] ++ [.ref r3] ++ [.ref r4])) m16r4).trans (hr4)
      have k16l : upd I15 l (.lst ([.ref r1, .ref r2] ++ [.ref r3] ++ [.ref r4])) l = some (.lst ([.ref r1, .ref r2] ++ [.ref r3] ++ [.ref r4])) := upd_same
      generalize upd I15 l (.lst ([.ref r1, .ref r2] ++ [.ref r3] ++ [.ref r4])) = I16 at k16st k16r1 k16r2 k16r3 k16r4 k16l ⊢
      clear hst
      have hst := k16st
      clear hr1
      have hr1 := k16r1
      clear hr2
      have hr2 := k16r2
      clear hr3
      have hr3 := k16r3
      clear hr4
      have hr4 := k16r4
      clear hl
      have hl := k16l
      refine ⟨_, rfl, ?_⟩
      refine ⟨(by show 3 ≤ sizeLine; decide), fun q1 nq1 => ?_⟩
      have sI17 : Same I16 (upd I16 q1 (.tup [.int 1, .str "", .str "01"])) := same_new nq1
      have hq1 : upd I16 q1 (.tup [.int 1, .str "", .str "01"]) q1 = some (.tup [.int 1, .str (S []), .str (S [48, 49])]) := by rw [upd_same, eem, e01]
      generalize upd I16 q1 (.tup [.int 1, .str "", .str "01"]) = I17 at sI17 hq1 ⊢
      refine ⟨(by show 3 ≤ sizeLine; decide), fun q2 nq2 => ?_⟩
      have sI18 : Same I17 (upd I17 q2 (.tup [.int 0, .str "", .str "10"])) := same_new nq2
      have hq2 : upd I17 q2 (.tup [.int 0, .str "", .str "10"]) q2 = some (.tup [.int 0, .str (S []), .str (S [49, 48])]) := by rw [upd_same, eem, e10]
      generalize upd I17 q2 (.tup [.int 0, .str "", .str "10"]) = I18 at sI18 hq2 ⊢
      refine ⟨(by show 3 ≤ sizeLine; decide), fun q3 nq3 => ?_⟩
      have sI19 : Same I18 (upd I18 q3 (.tup [.int 7, .str "0101", .str "10"])) := same_new nq3
      have hq3 : upd I18 q3 (.tup [.int 7, .str "0101", .str "10"]) q3 = some (.tup [.int 7, .str (S [48, 49, 48, 49]), .str (S [49, 48])]) := by rw [upd_same, e10, e0101]
      generalize upd I18 q3 (.tup [.int 7, .str "0101", .str "10"]) = I19 at sI19 hq3 ⊢
      refine ⟨(by show 3 ≤ sizeLine; decide), fun q4 nq4 => ?_⟩
      have sI20 : Same I19 (upd I19 q4 (.tup [.int 0, .str "0", .str "01"])) := same_new nq4
      have hq4 : upd I19 q4 (.tup [.int 0, .str "0", .str "01"]) q4 = some (.tup [.int 0, .str (S [48]), .str (S [48, 49])]) := by rw [upd_same, e0, e01]
      generalize upd I19 q4 (.tup [.int 0, .str "0", .str "01"]) = I20 at sI20 hq4 ⊢
      refine ⟨(by show 4 ≤ sizeLine; decide), fun z nz => ?_⟩
      have sI21 : Same I20 (upd I20 z (.lst [.ref q1, .ref q2, .ref q3, .ref q4])) := same_new nz
      have hz : upd I20 z (.lst [.ref q1, .ref q2, .ref q3, .ref q4]) z = some (.lst [.ref q1, .ref q2, .ref q3, .ref q4]) := upd_same
      generalize upd I20 z (.lst [.ref q1, .ref q2, .ref q3, .ref q4]) = I21 at sI21 hz ⊢
      have lay : PyData.canLay0 (.list [.tuple [.int 1, .str (S []), .str (S [48, 49])], .tuple [.int 0, .str (S []), .str (S [49, 48])], .tuple [.int 7, .str (S [48, 49, 48, 49]), .str (S [49, 48])], .tuple [.int 0, .str (S [48]), .str (S [48, 49])]]) = true := by decide +kernel
      have shp : SeqAt.shaped (.list [.tuple [.int 1, .str (S []), .str (S [48, 49])], .tuple [.int 0, .str (S []), .str (S [49, 48])], .tuple [.int 7, .str (S [48, 49, 48, 49]), .str (S [49, 48])], .tuple [.int 0, .str (S [48]), .str (S [48, 49])]]) = true := by
        unfold SeqAt.shaped
        rw [lay]
        rfl
      have t3 : ∀ (i : Int) (x y : Str), L2.DpAll K I21 [V.int i, .str x, .str y] [.int i, .str x, .str y] := fun i x y => .cons (.int _) (.cons (.str _) (.cons (.str _) .nil))
      refine ⟨.list [.tuple [.int 1, .str (S []), .str (S [48, 49])], .tuple [.int 0, .str (S []), .str (S [49, 48])], .tuple [.int 7, .str (S [48, 49, 48, 49]), .str (S [49, 48])], .tuple [.int 0, .str (S [48]), .str (S [48, 49])]], .list [.tuple [.int 1, .str (S []), .str (S [48, 49])], .tuple [.int 0, .str (S []), .str (S [49, 48])], .tuple [.int 7, .str (S [48, 49, 48, 49]), .str (S [49, 48])], .tuple [.int 0, .str (S [48]), .str (S [48, 49])]],
        .lst (SqL.of (sI21 _ _ (sI20 _ _ (sI19 _ _ (sI18 _ _ (sI17 _ _ (hl))))))) (.cons (.tup (SqT.of (sI21 _ _ (sI20 _ _ (sI19 _ _ (sI18 _ _ (sI17 _ _ (hr1))))))) (t3 _ _ _)) (.cons (.tup (SqT.of (sI21 _ _ (sI20 _ _ (sI19 _ _ (sI18 _ _ (sI17 _ _ (hr2))))))) (t3 _ _ _)) (.cons (.tup (SqT.of (sI21 _ _ (sI20 _ _ (sI19 _ _ (sI18 _ _ (sI17 _ _ (hr3))))))) (t3 _ _ _)) (.cons (.tup (SqT.of (sI21 _ _ (sI20 _ _ (sI19 _ _ (sI18 _ _ (sI17 _ _ (hr4))))))) (t3 _ _ _)) .nil)))),
        .lst (SqL.of hz) (.cons (.tup (SqT.of (sI21 _ _ (sI20 _ _ (sI19 _ _ (sI18 _ _ (hq1)))))) (t3 _ _ _)) (.cons (.tup (SqT.of (sI21 _ _ (sI20 _ _ (sI19 _ _ (hq2))))) (t3 _ _ _)) (.cons (.tup (SqT.of (sI21 _ _ (sI20 _ _ (hq3)))) (t3 _ _ _)) (.cons (.tup (SqT.of (sI21 _ _ (hq4))) (t3 _ _ _)) .nil)))), shp, shp, ?_⟩
      rw [PySem.SeqAt.eqv_refl _ lay]
      exact k _
end
end Vf


set_option Elab.async false
set_option maxRecDepth 100000
set_option maxHeartbeats 8000000
set_option exponentiation.threshold 3000
namespace Vf
open PySem L2 SX Vm
/-! ### what the top has written -/
section
variable {K : PySem.W.Frag} {mg : Str → Option Value} {h : Heap}
theorem def_mk {x : Str} {st : Stmt} {ps : List Str} {f : Addr} {oc kV doc pm cd ct : Value} {od an : Option Addr} {sl : Array (Option Value)} (X : K.In h) (G : h.Ns mainGlobals mg)
    (a : PySem.W.nsIn K mainGlobals x = some (some (.ref f))) (l : K.lookup f = some ⟨oc, od, .func (PySem.W.fnOf x x (defArgs st) (defBody st) (defScope st) .none kV doc pm an cd ct), sl⟩) (c : PySem.W.codeIn K cd x = true) (k : PySem.W.keepIn K (.ref f) = true)
    (b : ∀ fd, Fun K x x st f fd → Binds K fd ps []) : ∃ (f : Addr) (fd : FuncData), Fun K x x st f fd ∧ Cal K mg x f fd ps :=
  ⟨f, _, fun_mk (st := st) l c k, PySem.W.mg_of X G a, k, b _ (fun_mk (st := st) l c k)⟩
theorem pfx_mk {x : Str} {C : Addr} (X : K.In h) (G : h.Ns mainGlobals mg) (gS : PySem.W.nsIn K mainGlobals x = some (some (.ref C))) (exS : PySem.W.excIn K C [.type "ValueError", .type "Exception", .type "BaseException", .type "object"] "ValueError.__new__" = true) (kS : PySem.W.keepIn K (.ref C) = true) (bS : PySem.W.subIn K (.ref C) (.type "BaseException") = some true) (tS : PySem.W.typeIn K (.ref C) = some (.type "type")) : PfxTxt K mg x C := ⟨PySem.W.mg_of X G gS, exS, kS, bS, tS⟩
theorem exc_mk {S : Addr} (bS : PySem.W.subIn K (.ref S) (.type "BaseException") = some true) (e1 : PySem.W.findIn K (.ref S) "__getattribute__" = some (some (.builtin "BaseException.__getattribute__"))) (e2 : PySem.W.findIn K (.ref S) "__getattr__" = some none) (e4 : PySem.W.hasDictIn K S = true) (e5 : PySem.W.findIn K (.ref S) "__class__" = some (some (.builtin "object.__class__")))
    (e6 : PySem.W.specialIn K (.builtin "object.__class__") "__get__" = some (some (.builtin "getset_descriptor.__get__"))) (e7 : PySem.W.takesIn K (.builtin "object.__class__") = some true) (e8 : PySem.W.mroIn K S (.type "object") = some true) : ExcC K S := ⟨e1, e2, bS, e4, e5, e6, e7, e8⟩
theorem cls_mk {P : Program} {C fI cda cc S CP CX CO : Addr} {nm q N : _} {bs : List Value} {sn : List Str} {sub : List Value} {ab : Bool} {col : Option Bool} {dd : Option Addr} {k0 k1 k2 k3 k5 : Option Value}
    {oc doc pm ct ccl cl : Value} {od an cdd cld : Option Addr} {osl ccs csl : Array (Option Value)} {vs : Array Value} {file : Str} {tf : Tok} (X : K.In h) (G : h.Ns mainGlobals mg)
    (gC : PySem.W.nsIn K mainGlobals "InvalidNumber" = some (some (.ref C))) (noSuper : PySem.W.nsIn K mainGlobals "super" = some none)
    (cls : K.lookup C = some (excClassObj nm q C N bs VNum.bmI true sn sub ab col dd k0 k1 k2 k3 k5 "IndexError.__new__"))
    (sa : PySem.W.findIn K (.ref C) "__setattr__" = some (some (.builtin "object.__setattr__"))) (ga : PySem.W.findIn K (.ref C) "__getattribute__" = some (some (.builtin "BaseException.__getattribute__"))) (gg : PySem.W.findIn K (.ref C) "__getattr__" = some none)
    (ov : PySem.W.excOver K C VNum.bmI = true) (qi : PySem.W.excInitIn K C VNum.bmI "IndexError.__new__" = true) (tk : PySem.W.takerIn K C "value" = some none) (noV : PySem.W.findIn K (.ref C) "value" = some none) (hdC : PySem.W.hasDictIn K C = true)
    (iC : PySem.W.findIn K (.ref C) "__init__" = some (some (.ref fI))) (tC : PySem.W.typeIn K (.ref fI) = some (.type "function")) (any : PySem.W.nsIn K PySem.cStatics "thirdparty.any" = some none) (sup : PySem.W.ks_superIn K C C "__init__" = some (some (.builtin "IndexError.__init__")))
    (sI : PySem.W.subIn K (.ref C) (.type "IndexError") = some true) (mro : PySem.W.mroIn K C (.ref C) = some true) (kC : PySem.W.keepIn K (.ref C) = true) (exC : PySem.W.subIn K (.ref C) (.type "BaseException") = some true) (tyC : PySem.W.typeIn K (.ref C) = some (.type "type"))
    (top : (P.main.scope.names.lookup ("super" : Str)).isSome = false)
    (l1 : K.lookup fI = some ⟨oc, od, .func (PySem.W.ksFn "__init__" "InvalidNumber.__init__" VNum.mainArgs VNum.mainBody VNum.mainScope .none .none doc pm an (.ref cda) ct cc), osl⟩) (c1 : PySem.W.codeIn K (.ref cda) "InvalidNumber.__init__" = true)
    (l2 : K.lookup cda = some ⟨ccl, cdd, .fields vs, ccs⟩) (fl : vs[2]? = some (.str file tf)) (fm : ((P.main.file : Str) == file) = true) (l3 : K.lookup cc = some ⟨cl, cld, .cell (some (.ref C)), csl⟩)
    (gP : PySem.W.nsIn K mainGlobals "PrefixError" = some (some (.ref CP))) (rep : PySem.W.nsIn K mainGlobals "repr" = some none) (isi : PySem.W.nsIn K mainGlobals "isinstance" = some none)
    (pS : PfxTxt K mg "InvalidStream" S) (pX : PfxTxt K mg "InvalidPrefix" CX) (pO : PfxTxt K mg "InvalidOperation" CO) (eS : ExcC K S) (eX : ExcC K CX) (eO : ExcC K CO)
    (nn : PySem.W.exmOne K (.ref C) (.ref C) = some true) (n0 : PySem.W.exmOne K (.ref S) (.ref C) = some false) (n1 : PySem.W.exmOne K (.ref CX) (.ref C) = some false) (n2 : PySem.W.exmOne K (.ref CO) (.ref C) = some false)
    (p0 : PySem.W.exmOne K (.ref S) (.ref CP) = some true) (p1 : PySem.W.exmOne K (.ref CX) (.ref CP) = some true) (p2 : PySem.W.exmOne K (.ref CO) (.ref CP) = some true)
    (q00 : PySem.W.kitOne K (.ref S) (.ref S) = some true) (q01 : PySem.W.kitOne K (.ref S) (.ref CX) = some false) (q02 : PySem.W.kitOne K (.ref S) (.ref CO) = some false)
    (q10 : PySem.W.kitOne K (.ref CX) (.ref S) = some false) (q11 : PySem.W.kitOne K (.ref CX) (.ref CX) = some true) (q12 : PySem.W.kitOne K (.ref CX) (.ref CO) = some false)
    (q20 : PySem.W.kitOne K (.ref CO) (.ref S) = some false) (q21 : PySem.W.kitOne K (.ref CO) (.ref CX) = some false) (q22 : PySem.W.kitOne K (.ref CO) (.ref CO) = some true) :
    ∃ CN f CS P' CX' CO' : Addr, VNum.NumTxt P K mg CN f ∧ PfxTxt K mg "InvalidStream" CS ∧ PfxTxt K mg "InvalidPrefix" CX' ∧ PfxTxt K mg "InvalidOperation" CO' ∧ ToldTxt K mg CN P' CS CX' CO' :=
  ⟨C, fI, S, CP, CX, CO,
    { gC := PySem.W.mg_of X G gC, noSuper := PySem.W.mg_none_of X G noSuper, cls := ⟨nm, q, N, bs, sn, sub, ab, col, dd, k0, k1, k2, k3, k5, cls⟩, sa := sa, ga := ga, gg := gg, ov := ov, qi := qi, tk := tk, noV := noV, hdC := hdC, iC := iC, tC := tC, any := any, sup := sup, sI := sI, mro := mro, kC := kC, exC := exC, tyC := tyC, top := top,
      fn := ⟨oc, od, doc, pm, an, cda, cc, ct, osl, vs, file, tf, ccl, cdd, ccs, cl, cld, csl, l1, c1, l2, fl, fm, l3⟩ },
    pS, pX, pO,
    { gN := PySem.W.mg_of X G gC, gP := PySem.W.mg_of X G gP, gS := pS.g, gX := pX.g, gO := pO.g, rep := PySem.W.mg_none_of X G rep, isi := PySem.W.mg_none_of X G isi, nn := nn,
      sn := fun k => (match k with | 0 => n0 | 1 => n1 | _ + 2 => n2), sp := fun k => (match k with | 0 => p0 | 1 => p1 | _ + 2 => p2), xf := ⟨ga, gg, exC, hdC⟩, nov := noV, ec := fun k => (match k with | 0 => eS | 1 => eX | _ + 2 => eO),
      kS := fun k hk => (match k, hk with | 0, _ => q00 | 1, _ => q10 | 2, _ => q20), kX := fun k hk => (match k, hk with | 0, _ => q01 | 1, _ => q11 | 2, _ => q21), kO := fun k hk => (match k, hk with | 0, _ => q02 | 1, _ => q12 | 2, _ => q22) }⟩
theorem nm_mk {t1 t2 t3 t4 : Tok} (X : K.In h) (G : h.Ns mainGlobals mg) (z1 : PySem.W.nsIn K mainGlobals "isinstance" = some none) (z2 : PySem.W.nsIn K mainGlobals "int" = some none) (z3 : PySem.W.nsIn K mainGlobals "bool" = some none) (z4 : PySem.W.nsIn K mainGlobals "str" = some none)
    (z5 : PySem.W.nsIn K mainGlobals "tuple" = some none) (z6 : PySem.W.nsIn K mainGlobals "len" = some none) (y1 : PySem.W.nsIn K mainGlobals "MIN_BASE" = some (some (.int 2 t1))) (y2 : PySem.W.nsIn K mainGlobals "MAX_BASE" = some (some (.int 5 t2))) (y3 : PySem.W.nsIn K mainGlobals "MAX_ROOTS" = some (some (.int 5000 t3)))
    (y4 : PySem.W.nsIn K mainGlobals "DIGITS" = some (some (.str "01234" t4))) (z7 : PySem.W.nsIn K mainGlobals "range" = some none) (z8 : PySem.W.nsIn K mainGlobals "max" = some none) (z9 : PySem.W.nsIn K mainGlobals "min" = some none) (z10 : PySem.W.nsIn K mainGlobals "abs" = some none) :
    Nm mg ∧ mg "range" = none ∧ mg "max" = none ∧ mg "min" = none ∧ mg "abs" = none :=
  ⟨⟨PySem.W.mg_none_of X G z1, PySem.W.mg_none_of X G z2, PySem.W.mg_none_of X G z3, PySem.W.mg_none_of X G z4, PySem.W.mg_none_of X G z5, PySem.W.mg_none_of X G z6, ⟨t1, PySem.W.mg_of X G y1⟩, ⟨t2, PySem.W.mg_of X G y2⟩, ⟨t3, PySem.W.mg_of X G y3⟩, ⟨t4, PySem.W.mg_of X G y4⟩⟩,
    PySem.W.mg_none_of X G z7, PySem.W.mg_none_of X G z8, PySem.W.mg_none_of X G z9, PySem.W.mg_none_of X G z10⟩
theorem told_mk {f : Addr} {oc kV doc pm cd ct : Value} {od an : Option Addr} {sl : Array (Option Value)} (X : K.In h) (G : h.Ns mainGlobals mg)
    (a : PySem.W.nsIn K mainGlobals "_law_told" = some (some (.ref f))) (l : K.lookup f = some ⟨oc, od, .func (PySem.W.fnOf "_law_told" "_law_told" (defArgs sTold) (defBody sTold) (defScope sTold) .none kV doc pm an cd ct), sl⟩) (c : PySem.W.codeIn K cd "_law_told" = true) (k : PySem.W.keepIn K (.ref f) = true) : ∃ g, ToldFn K mg g :=
  ⟨f, PySem.W.mg_of X G a, k, oc, od, kV, doc, pm, an, cd, ct, sl, l, c, (fun_mk (st := sTold) l c k).binds fun _ _ _ _ _ _ us hl => match us, hl with | [_], _ => rfl⟩
/-- the defs, joined -/
theorem law_mk {l : PySem.W.OpenLaw} {w : World} {fa c c1 P1 P2 f g CN fI CS CP CX CO fE fR fIsInt fWithin fReqNum fReqBase fReqRoots fWordForm fPfxForm fReqPfx fIsStream fStreamForm fReqStream fShort fNormal fLead fIsUnder fBegins fWithBeg fReplaced fDice fPull fWord fLNormal fLStream fLBeg fLUnder fLReplaced fLBase fNoBase fNoStream fNoPfx fNear : Addr} {fdIsInt fdWithin fdReqNum fdReqBase fdReqRoots fdWordForm fdPfxForm fdReqPfx fdIsStream fdStreamForm fdReqStream fdShort fdNormal fdLead fdIsUnder fdBegins fdWithBeg fdReplaced fdDice fdPull fdWord fdLNormal fdLStream fdLBeg fdLUnder fdLReplaced fdLBase fdNoBase fdNoStream fdNoPfx fdNear : FuncData} {oc kV doc pm cd ct ocE kVE docE pmE ctE ocR kVR docR pmR ctR : Value} {od an odE anE odR anR : Option Addr} {sl slE slR : Array (Option Value)} (X : K.In h) (G : h.Ns mainGlobals mg) (hfa : mg "law" = some (.ref fa))
    (a : PySem.W.nsIn K mainGlobals "law" = some (some (.ref f))) (lk : K.lookup f = some ⟨oc, od, .func (PySem.W.fnOf "law" "law" (defArgs sLaw) (defBody sLaw) (defScope sLaw) .none kV doc pm an cd ct), sl⟩) (cc : PySem.W.codeIn K cd "law" = true) (k : PySem.W.keepIn K (.ref f) = true)
    (aE : PySem.W.nsIn K mainGlobals "_law_errors_right" = some (some (.ref fE))) (lE : K.lookup fE = some ⟨ocE, odE, .func (PySem.W.fnOf "_law_errors_right" "_law_errors_right" (defArgs sErr) (defBody sErr) (defScope sErr) .none kVE docE pmE anE (.ref c) ctE), slE⟩) (cE : PySem.W.codeIn K (.ref c) "_law_errors_right" = true) (kE : PySem.W.keepIn K (.ref fE) = true)
    (aR : PySem.W.nsIn K mainGlobals "_law_right" = some (some (.ref fR))) (lR : K.lookup fR = some ⟨ocR, odR, .func (PySem.W.fnOf "_law_right" "_law_right" (defArgs sRight) (defBody sRight) (defScope sRight) .none kVR docR pmR anR (.ref c1) ctR), slR⟩) (cR : PySem.W.codeIn K (.ref c1) "_law_right" = true) (kR : PySem.W.keepIn K (.ref fR) = true)
    (hT : h.get? P2 = some { cls := .none, data := .fields #[] }) (nT : K.lookup P2 = none) (hh : PySem.W.codeHdIn K c P2 = true) (hT1 : h.get? P1 = some { cls := .none, data := .fields #[] }) (nT1 : K.lookup P1 = none) (hh1 : PySem.W.codeHdIn K c1 P1 = true) (n12 : P1 ≠ P2)
    (num : VNum.NumTxt l.prog K mg CN fI) (pfx : PfxTxt K mg "InvalidStream" CS) (pfX : PfxTxt K mg "InvalidPrefix" CX) (pfO : PfxTxt K mg "InvalidOperation" CO) (told : ToldTxt K mg CN CP CS CX CO) (TF : ToldFn K mg g) (NN : Nm mg ∧ mg "range" = none ∧ mg "max" = none ∧ mg "min" = none ∧ mg "abs" = none)
    (FIsInt : Fun K "is_integer" "is_integer" sIsInt fIsInt fdIsInt) (cIsInt : Cal K mg "is_integer" fIsInt fdIsInt ["value"])
    (FWithin : Fun K "is_integer_within" "is_integer_within" sWithin fWithin fdWithin) (cWithin : Cal K mg "is_integer_within" fWithin fdWithin ["low", "high", "value"])
    (FReqNum : Fun K "require_number" "require_number" sReqNum fReqNum fdReqNum) (cReqNum : Cal K mg "require_number" fReqNum fdReqNum ["low", "high", "number"])
    (FReqBase : Fun K "require_base" "require_base" sReqBase fReqBase fdReqBase) (cReqBase : Cal K mg "require_base" fReqBase fdReqBase ["base"])
    (FReqRoots : Fun K "require_roots" "require_roots" sReqRoots fReqRoots fdReqRoots) (cReqRoots : Cal K mg "require_roots" fReqRoots fdReqRoots ["roots"])
    (FWordForm : Fun K "has_word_form" "has_word_form" sWordForm fWordForm fdWordForm) (cWordForm : Cal K mg "has_word_form" fWordForm fdWordForm ["base", "value"])
    (FPfxForm : Fun K "has_prefix_form" "has_prefix_form" sPfxForm fPfxForm fdPfxForm) (cPfxForm : Cal K mg "has_prefix_form" fPfxForm fdPfxForm ["base", "roots", "value"])
    (FReqPfx : Fun K "require_prefix" "require_prefix" sReqPfx fReqPfx fdReqPfx) (cReqPfx : Cal K mg "require_prefix" fReqPfx fdReqPfx ["base", "roots", "prefix"])
    (FIsStream : Fun K "is_stream" "is_stream" sIsStream fIsStream fdIsStream) (cIsStream : Cal K mg "is_stream" fIsStream fdIsStream ["base", "roots", "value"])
    (FStreamForm : Fun K "has_stream_form" "has_stream_form" sStreamForm fStreamForm fdStreamForm) (cStreamForm : Cal K mg "has_stream_form" fStreamForm fdStreamForm ["base", "roots", "value"])
    (FReqStream : Fun K "require_stream" "require_stream" sReqStream fReqStream fdReqStream) (cReqStream : Cal K mg "require_stream" fReqStream fdReqStream ["base", "roots", "stream"])
    (FShort : Fun K "shortest_period" "shortest_period" sShortest fShort fdShort) (cShort : Cal K mg "shortest_period" fShort fdShort ["period"])
    (FNormal : Fun K "normal_stream" "normal_stream" sNormal fNormal fdNormal) (cNormal : Cal K mg "normal_stream" fNormal fdNormal ["root", "head", "period"])
    (FLead : Fun K "leading_word" "leading_word" sLead fLead fdLead) (cLead : Cal K mg "leading_word" fLead fdLead ["stream", "count"])
    (FIsUnder : Fun K "is_under" "is_under" sIsUnder fIsUnder fdIsUnder) (cIsUnder : Cal K mg "is_under" fIsUnder fdIsUnder ["stream", "prefix"])
    (FBegins : Fun K "begins_with" "begins_with" sBegins fBegins fdBegins) (cBegins : Cal K mg "begins_with" fBegins fdBegins ["base", "stream", "prefix"])
    (FWithBeg : Fun K "with_beginning" "with_beginning" sWithBeg fWithBeg fdWithBeg) (cWithBeg : Cal K mg "with_beginning" fWithBeg fdWithBeg ["stream", "old", "new"])
    (FReplaced : Fun K "replaced" "replaced" sReplaced fReplaced fdReplaced) (cReplaced : Cal K mg "replaced" fReplaced fdReplaced ["base", "stream", "old", "new"])
    (FDice : Fun K "_law_dice" "_law_dice" sDice fDice fdDice) (cDice : Cal K mg "_law_dice" fDice fdDice ["script", "at"])
    (FPull : Fun K "_law_pull" "_law_pull" sPull fPull fdPull) (cPull : Cal K mg "_law_pull" fPull fdPull ["die", "many"])
    (FWord : Fun K "_law_word" "_law_word" sWord fWord fdWord) (cWord : Cal K mg "_law_word" fWord fdWord ["die", "base", "high"])
    (FLNormal : Fun K "_law_normal" "_law_normal" sLNormal fLNormal fdLNormal) (cLNormal : Cal K mg "_law_normal" fLNormal fdLNormal ["root", "head", "period"])
    (FLStream : Fun K "_law_stream" "_law_stream" sLStream fLStream fdLStream) (cLStream : Cal K mg "_law_stream" fLStream fdLStream ["die", "base", "wide", "high"])
    (FLBeg : Fun K "_law_beginning" "_law_beginning" sLBeg fLBeg fdLBeg) (cLBeg : Cal K mg "_law_beginning" fLBeg fdLBeg ["stream", "many"])
    (FLUnder : Fun K "_law_is_under" "_law_is_under" sLUnder fLUnder fdLUnder) (cLUnder : Cal K mg "_law_is_under" fLUnder fdLUnder ["stream", "prefix"])
    (FLReplaced : Fun K "_law_replaced" "_law_replaced" sLReplaced fLReplaced fdLReplaced) (cLReplaced : Cal K mg "_law_replaced" fLReplaced fdLReplaced ["stream", "old", "new"])
    (FLBase : Fun K "_law_base" "_law_base" sLBase fLBase fdLBase) (cLBase : Cal K mg "_law_base" fLBase fdLBase ["die"])
    (FNoBase : Fun K "_law_no_base" "_law_no_base" sNoBase fNoBase fdNoBase) (cNoBase : Cal K mg "_law_no_base" fNoBase fdNoBase ["die"])
    (FNoStream : Fun K "_law_no_stream" "_law_no_stream" sNoStream fNoStream fdNoStream) (cNoStream : Cal K mg "_law_no_stream" fNoStream fdNoStream ["die", "base"])
    (FNoPfx : Fun K "_law_no_prefix" "_law_no_prefix" sNoPfx fNoPfx fdNoPfx) (cNoPfx : Cal K mg "_law_no_prefix" fNoPfx fdNoPfx ["die", "base"])
    (FNear : Fun K "_law_near" "_law_near" sNear fNear fdNear) (cNear : Cal K mg "_law_near" fNear fdNear ["die", "base", "stream"]) : VG.LawG l w K 9 63 "script" mg fa h := by
  obtain ⟨N, nr, nx, nn, nab⟩ := NN
  have e := hfa.symm.trans (PySem.W.mg_of X G a)
  cases e
  refine ⟨PySem.W.fnOf "law" "law" (defArgs sLaw) (defBody sLaw) (defScope sLaw) .none kV doc pm an cd ct, [(c1, P1), (c, P2)], spLaw K P1 P2, fun p hp => ?_, fun p hp => ?_, fun p hp => ?_, fun s v => .of_eq rfl, fun H a ns hl ht hs => ?_, fun base KB GB TB => ?_⟩
  · rcases List.mem_cons.mp hp with z | z
    · rw [z]
      exact hT1
    · rw [List.mem_singleton.mp z]
      exact hT
  · rcases List.mem_cons.mp hp with z | z
    · rw [z]
      exact nT1
    · rw [List.mem_singleton.mp z]
      exact nT
  · rcases List.mem_cons.mp hp with z | z
    · rw [z]
      exact PySem.W.codeHd_of_K X hh1
    · rw [List.mem_singleton.mp z]
      exact PySem.W.codeHd_of_K X hh
  · refine ⟨a, ns, rfl, hs, hl, fun p hp => ?_, fun _ => rfl⟩
    rcases List.mem_cons.mp hp with z | z
    · rw [z]
      exact LamX.TabS.nil (ht _ (List.Mem.head _))
    · rw [List.mem_singleton.mp z]
      exact LamX.TabS.nil (ht _ (List.Mem.tail _ (List.Mem.head _)))
  · have GIsInt := ok_isint (P := l.prog) (w := w) (base := base) FIsInt N
    have GWithin := ok_within FWithin GIsInt cIsInt
    have GReqNum := ok_reqnum FReqNum GWithin cWithin num
    have GReqBase := ok_reqbase FReqBase GReqNum cReqNum N
    have GReqRoots := ok_reqroots FReqRoots GReqNum cReqNum N
    have GWordForm := ok_wordform (P := l.prog) (w := w) (base := base) FWordForm N
    have GShort := ok_short (P := l.prog) (w := w) (mg := mg) (base := base) FShort
    have GStreamForm := ok_streamform FStreamForm GWithin cWithin GWordForm cWordForm GShort cShort N
    have GIsStream := ok_isstream FIsStream GReqBase cReqBase GReqRoots cReqRoots GStreamForm cStreamForm
    have GReqStream := ok_reqstream FReqStream GStreamForm cStreamForm pfx
    have GPfxForm := ok_pfxform FPfxForm GWithin cWithin GWordForm cWordForm N
    have GReqPfx := ok_reqpfx FReqPfx GPfxForm cPfxForm pfX
    have GNormal := ok_normal FNormal GShort cShort N.len
    have GLead := ok_lead (P := l.prog) (w := w) (base := base) FLead N.len nx
    have GIsUnder := ok_under FIsUnder GLead cLead N.len
    have GBegins := ok_begins FBegins GReqBase cReqBase GReqStream cReqStream GReqPfx cReqPfx GIsUnder cIsUnder N
    have GWithBeg := ok_withbeg FWithBeg GNormal cNormal N.len nx
    have GReplaced := ok_replaced FReplaced GReqBase cReqBase GReqStream cReqStream GReqPfx cReqPfx GIsUnder cIsUnder GWithBeg cWithBeg pfO N
    have GDice := ok_dice (P := l.prog) (w := w) (base := base) FDice N.len nab N.int nx
    have GPull := ok_pull (P := l.prog) (w := w) (mg := mg) (base := base) FPull
    have GWord := ok_word FWord GPull cPull nr
    have GLNormal := ok_lnormal (P := l.prog) (w := w) (base := base) FLNormal N.len nr
    have GLStream := ok_lstream FLStream GPull cPull GWord cWord GLNormal cLNormal
    have GLBeg := ok_lbeg (P := l.prog) (w := w) (base := base) FLBeg N.len
    have GLUnder := ok_lunder FLUnder GLBeg cLBeg N.len
    have GLReplaced := ok_lreplaced FLReplaced GLNormal cLNormal N.len
    have GLBase := ok_base FLBase GPull cPull
    have GNoBase := ok_nobase FNoBase GPull cPull
    have GNoStream := ok_nostream FNoStream GPull cPull N.str
    have GNoPfx := ok_nopfx FNoPfx GPull cPull N.str
    have GNear := ok_near FNear GPull cPull GWord cWord GLBeg cLBeg N.len
    have FRR := fun_mk (st := sRight) lR cR kR
    have bR := FRR.binds (ps := ["die", "base"]) fun _ _ _ _ _ _ us hl => match us, hl with | [_, _], _ => rfl
    have GRight := ok_right (P1 := P1) (P2 := P2) (c := c1) FRR GPull cPull GWord cWord GLStream cLStream GNear cNear GLUnder cLUnder GBegins cBegins GReplaced cReplaced GLReplaced cLReplaced GIsStream cIsStream TF told (TB _ (List.Mem.head _)) (fun cdv hx => by
      obtain ⟨_, _, _, _, _, _, _, _, q⟩ := hx
      rw [lR] at q
      injection q with q
      injection q with _ _ q _
      injection q with q
      exact (congrArg FuncData.code q).symm) n12 N nr
    have FE := fun_mk (st := sErr) lE cE kE
    have bE := FE.binds (ps := ["die", "base"]) fun _ _ _ _ _ _ us hl => match us, hl with | [_, _], _ => rfl
    have GErr := ok_err (P1 := P1) (P2 := P2) (c := c) FE GNoBase cNoBase GNoStream cNoStream GNoPfx cNoPfx GLStream cLStream GBegins cBegins GReplaced cReplaced TF told (TB _ (List.Mem.tail _ (List.Mem.head _))) (fun cdv hx => by
      obtain ⟨_, _, _, _, _, _, _, _, q⟩ := hx
      rw [lE] at q
      injection q with q
      injection q with _ _ q _
      injection q with q
      exact (congrArg FuncData.code q).symm) n12
    exact ok_law (fun_mk (st := sLaw) lk cc k) GDice cDice GLBase cLBase GRight ⟨PySem.W.mg_of X G aR, kR, bR⟩ GErr ⟨PySem.W.mg_of X G aE, kE, bE⟩ GReplaced cReplaced N nr nx nn
end
end Vf


set_option Elab.async false
open PySem PySem.W PyProof.Rows
set_option maxRecDepth 100000 in
set_option maxHeartbeats 0 in
theorem PySem.Challenge.cw_prefixtable_k04_beginnings_replaced_holds : PySem.Challenge.rw_prefixtable_k04_beginnings_replaced.Holds := by
  w_on; o_law; k_head; (case hw => w_witness2)
  k_fill
  refine VG.walkG (l := PySem.Challenge.rw_prefixtable_k04_beginnings_replaced) (n := 63) (k := 9) (x := "script") rfl (by decide) rfl ⟨rfl, by decide, by decide⟩ (fun w h Y => PySem.W.km_in_of Y) ?F
  case F =>
    intro w mg fa h Y KX G hmg
    have hT := PySem.W.km_tabs_of Y
    refine' Exists.elim (Vf.def_mk (x := "is_integer") (st := Vf.sIsInt) (ps := ["value"]) KX G ?aIsInt ?lIsInt ?cIsInt ?kIsInt ?bIsInt) ?_
    (case aIsInt => k_is); (case lIsInt => k_is); (case cIsInt => k_is); (case kIsInt => k_is)
    (case bIsInt => exact fun fd F => F.binds fun _ _ _ _ _ _ us hl => match us, hl with | [_], _ => rfl)
    rintro fIsInt ⟨fdIsInt, FIsInt, cIsInt⟩
    refine' Exists.elim (Vf.def_mk (x := "is_integer_within") (st := Vf.sWithin) (ps := ["low", "high", "value"]) KX G ?aWithin ?lWithin ?cWithin ?kWithin ?bWithin) ?_
    (case aWithin => k_is); (case lWithin => k_is); (case cWithin => k_is); (case kWithin => k_is)
    (case bWithin => exact fun fd F => F.binds fun _ _ _ _ _ _ us hl => match us, hl with | [_, _, _], _ => rfl)
    rintro fWithin ⟨fdWithin, FWithin, cWithin⟩
    refine' Exists.elim (Vf.def_mk (x := "require_number") (st := Vf.sReqNum) (ps := ["low", "high", "number"]) KX G ?aReqNum ?lReqNum ?cReqNum ?kReqNum ?bReqNum) ?_
    (case aReqNum => k_is); (case lReqNum => k_is); (case cReqNum => k_is); (case kReqNum => k_is)
    (case bReqNum => exact fun fd F => F.binds fun _ _ _ _ _ _ us hl => match us, hl with | [_, _, _], _ => rfl)
    rintro fReqNum ⟨fdReqNum, FReqNum, cReqNum⟩
    refine' Exists.elim (Vf.def_mk (x := "require_base") (st := Vf.sReqBase) (ps := ["base"]) KX G ?aReqBase ?lReqBase ?cReqBase ?kReqBase ?bReqBase) ?_
    (case aReqBase => k_is); (case lReqBase => k_is); (case cReqBase => k_is); (case kReqBase => k_is)
    (case bReqBase => exact fun fd F => F.binds fun _ _ _ _ _ _ us hl => match us, hl with | [_], _ => rfl)
    rintro fReqBase ⟨fdReqBase, FReqBase, cReqBase⟩
    refine' Exists.elim (Vf.def_mk (x := "require_roots") (st := Vf.sReqRoots) (ps := ["roots"]) KX G ?aReqRoots ?lReqRoots ?cReqRoots ?kReqRoots ?bReqRoots) ?_
    (case aReqRoots => k_is); (case lReqRoots => k_is); (case cReqRoots => k_is); (case kReqRoots => k_is)
    (case bReqRoots => exact fun fd F => F.binds fun _ _ _ _ _ _ us hl => match us, hl with | [_], _ => rfl)
    rintro fReqRoots ⟨fdReqRoots, FReqRoots, cReqRoots⟩
    refine' Exists.elim (Vf.def_mk (x := "has_word_form") (st := Vf.sWordForm) (ps := ["base", "value"]) KX G ?aWordForm ?lWordForm ?cWordForm ?kWordForm ?bWordForm) ?_
    (case aWordForm => k_is); (case lWordForm => k_is); (case cWordForm => k_is); (case kWordForm => k_is)
    (case bWordForm => exact fun fd F => F.binds fun _ _ _ _ _ _ us hl => match us, hl with | [_, _], _ => rfl)
    rintro fWordForm ⟨fdWordForm, FWordForm, cWordForm⟩
    refine' Exists.elim (Vf.def_mk (x := "has_prefix_form") (st := Vf.sPfxForm) (ps := ["base", "roots", "value"]) KX G ?aPfxForm ?lPfxForm ?cPfxForm ?kPfxForm ?bPfxForm) ?_
    (case aPfxForm => k_is); (case lPfxForm => k_is); (case cPfxForm => k_is); (case kPfxForm => k_is)
    (case bPfxForm => exact fun fd F => F.binds fun _ _ _ _ _ _ us hl => match us, hl with | [_, _, _], _ => rfl)
    rintro fPfxForm ⟨fdPfxForm, FPfxForm, cPfxForm⟩
    refine' Exists.elim (Vf.def_mk (x := "require_prefix") (st := Vf.sReqPfx) (ps := ["base", "roots", "prefix"]) KX G ?aReqPfx ?lReqPfx ?cReqPfx ?kReqPfx ?bReqPfx) ?_
    (case aReqPfx => k_is); (case lReqPfx => k_is); (case cReqPfx => k_is); (case kReqPfx => k_is)
    (case bReqPfx => exact fun fd F => F.binds fun _ _ _ _ _ _ us hl => match us, hl with | [_, _, _], _ => rfl)
    rintro fReqPfx ⟨fdReqPfx, FReqPfx, cReqPfx⟩
    refine' Exists.elim (Vf.def_mk (x := "is_stream") (st := Vf.sIsStream) (ps := ["base", "roots", "value"]) KX G ?aIsStream ?lIsStream ?cIsStream ?kIsStream ?bIsStream) ?_
    (case aIsStream => k_is); (case lIsStream => k_is); (case cIsStream => k_is); (case kIsStream => k_is)
    (case bIsStream => exact fun fd F => F.binds fun _ _ _ _ _ _ us hl => match us, hl with | [_, _, _], _ => rfl)
    rintro fIsStream ⟨fdIsStream, FIsStream, cIsStream⟩
    refine' Exists.elim (Vf.def_mk (x := "has_stream_form") (st := Vf.sStreamForm) (ps := ["base", "roots", "value"]) KX G ?aStreamForm ?lStreamForm ?cStreamForm ?kStreamForm ?bStreamForm) ?_
    (case aStreamForm => k_is); (case lStreamForm => k_is); (case cStreamForm => k_is); (case kStreamForm => k_is)
    (case bStreamForm => exact fun fd F => F.binds fun _ _ _ _ _ _ us hl => match us, hl with | [_, _, _], _ => rfl)
    rintro fStreamForm ⟨fdStreamForm, FStreamForm, cStreamForm⟩
    refine' Exists.elim (Vf.def_mk (x := "require_stream") (st := Vf.sReqStream) (ps := ["base", "roots", "stream"]) KX G ?aReqStream ?lReqStream ?cReqStream ?kReqStream ?bReqStream) ?_
    (case aReqStream => k_is); (case lReqStream => k_is); (case cReqStream => k_is); (case kReqStream => k_is)
    (case bReqStream => exact fun fd F => F.binds fun _ _ _ _ _ _ us hl => match us, hl with | [_, _, _], _ => rfl)
    rintro fReqStream ⟨fdReqStream, FReqStream, cReqStream⟩
    refine' Exists.elim (Vf.def_mk (x := "shortest_period") (st := Vf.sShortest) (ps := ["period"]) KX G ?aShort ?lShort ?cShort ?kShort ?bShort) ?_
    (case aShort => k_is); (case lShort => k_is); (case cShort => k_is); (case kShort => k_is)
    (case bShort => exact fun fd F => F.binds fun _ _ _ _ _ _ us hl => match us, hl with | [_], _ => rfl)
    rintro fShort ⟨fdShort, FShort, cShort⟩
    refine' Exists.elim (Vf.def_mk (x := "normal_stream") (st := Vf.sNormal) (ps := ["root", "head", "period"]) KX G ?aNormal ?lNormal ?cNormal ?kNormal ?bNormal) ?_
    (case aNormal => k_is); (case lNormal => k_is); (case cNormal => k_is); (case kNormal => k_is)
    (case bNormal => exact fun fd F => F.binds fun _ _ _ _ _ _ us hl => match us, hl with | [_, _, _], _ => rfl)
    rintro fNormal ⟨fdNormal, FNormal, cNormal⟩
    refine' Exists.elim (Vf.def_mk (x := "leading_word") (st := Vf.sLead) (ps := ["stream", "count"]) KX G ?aLead ?lLead ?cLead ?kLead ?bLead) ?_
    (case aLead => k_is); (case lLead => k_is); (case cLead => k_is); (case kLead => k_is)
    (case bLead => exact fun fd F => F.binds fun _ _ _ _ _ _ us hl => match us, hl with | [_, _], _ => rfl)
    rintro fLead ⟨fdLead, FLead, cLead⟩
    refine' Exists.elim (Vf.def_mk (x := "is_under") (st := Vf.sIsUnder) (ps := ["stream", "prefix"]) KX G ?aIsUnder ?lIsUnder ?cIsUnder ?kIsUnder ?bIsUnder) ?_
    (case aIsUnder => k_is); (case lIsUnder => k_is); (case cIsUnder => k_is); (case kIsUnder => k_is)
    (case bIsUnder => exact fun fd F => F.binds fun _ _ _ _ _ _ us hl => match us, hl with | [_, _], _ => rfl)
    rintro fIsUnder ⟨fdIsUnder, FIsUnder, cIsUnder⟩
    refine' Exists.elim (Vf.def_mk (x := "begins_with") (st := Vf.sBegins) (ps := ["base", "stream", "prefix"]) KX G ?aBegins ?lBegins ?cBegins ?kBegins ?bBegins) ?_
    (case aBegins => k_is); (case lBegins => k_is); (case cBegins => k_is); (case kBegins => k_is)
    (case bBegins => exact fun fd F => F.binds fun _ _ _ _ _ _ us hl => match us, hl with | [_, _, _], _ => rfl)
    rintro fBegins ⟨fdBegins, FBegins, cBegins⟩
    refine' Exists.elim (Vf.def_mk (x := "with_beginning") (st := Vf.sWithBeg) (ps := ["stream", "old", "new"]) KX G ?aWithBeg ?lWithBeg ?cWithBeg ?kWithBeg ?bWithBeg) ?_
    (case aWithBeg => k_is); (case lWithBeg => k_is); (case cWithBeg => k_is); (case kWithBeg => k_is)
    (case bWithBeg => exact fun fd F => F.binds fun _ _ _ _ _ _ us hl => match us, hl with | [_, _, _], _ => rfl)
    rintro fWithBeg ⟨fdWithBeg, FWithBeg, cWithBeg⟩
    refine' Exists.elim (Vf.def_mk (x := "replaced") (st := Vf.sReplaced) (ps := ["base", "stream", "old", "new"]) KX G ?aReplaced ?lReplaced ?cReplaced ?kReplaced ?bReplaced) ?_
    (case aReplaced => k_is); (case lReplaced => k_is); (case cReplaced => k_is); (case kReplaced => k_is)
    (case bReplaced => exact fun fd F => F.binds fun _ _ _ _ _ _ us hl => match us, hl with | [_, _, _, _], _ => rfl)
    rintro fReplaced ⟨fdReplaced, FReplaced, cReplaced⟩
    refine' Exists.elim (Vf.def_mk (x := "_law_dice") (st := Vf.sDice) (ps := ["script", "at"]) KX G ?aDice ?lDice ?cDice ?kDice ?bDice) ?_
    (case aDice => k_is); (case lDice => k_is); (case cDice => k_is); (case kDice => k_is)
    (case bDice => exact fun fd F => F.binds fun _ _ _ _ _ _ us hl => match us, hl with | [_, _], _ => rfl)
    rintro fDice ⟨fdDice, FDice, cDice⟩
    refine' Exists.elim (Vf.def_mk (x := "_law_pull") (st := Vf.sPull) (ps := ["die", "many"]) KX G ?aPull ?lPull ?cPull ?kPull ?bPull) ?_
    (case aPull => k_is); (case lPull => k_is); (case cPull => k_is); (case kPull => k_is)
    (case bPull => exact fun fd F => F.binds fun _ _ _ _ _ _ us hl => match us, hl with | [_, _], _ => rfl)
    rintro fPull ⟨fdPull, FPull, cPull⟩
    refine' Exists.elim (Vf.def_mk (x := "_law_word") (st := Vf.sWord) (ps := ["die", "base", "high"]) KX G ?aWord ?lWord ?cWord ?kWord ?bWord) ?_
    (case aWord => k_is); (case lWord => k_is); (case cWord => k_is); (case kWord => k_is)
    (case bWord => exact fun fd F => F.binds fun _ _ _ _ _ _ us hl => match us, hl with | [_, _, _], _ => rfl)
    rintro fWord ⟨fdWord, FWord, cWord⟩
    refine' Exists.elim (Vf.def_mk (x := "_law_normal") (st := Vf.sLNormal) (ps := ["root", "head", "period"]) KX G ?aLNormal ?lLNormal ?cLNormal ?kLNormal ?bLNormal) ?_
    (case aLNormal => k_is); (case lLNormal => k_is); (case cLNormal => k_is); (case kLNormal => k_is)
    (case bLNormal => exact fun fd F => F.binds fun _ _ _ _ _ _ us hl => match us, hl with | [_, _, _], _ => rfl)
    rintro fLNormal ⟨fdLNormal, FLNormal, cLNormal⟩
    refine' Exists.elim (Vf.def_mk (x := "_law_stream") (st := Vf.sLStream) (ps := ["die", "base", "wide", "high"]) KX G ?aLStream ?lLStream ?cLStream ?kLStream ?bLStream) ?_
    (case aLStream => k_is); (case lLStream => k_is); (case cLStream => k_is); (case kLStream => k_is)
    (case bLStream => exact fun fd F => F.binds fun _ _ _ _ _ _ us hl => match us, hl with | [_, _, _, _], _ => rfl)
    rintro fLStream ⟨fdLStream, FLStream, cLStream⟩
    refine' Exists.elim (Vf.def_mk (x := "_law_beginning") (st := Vf.sLBeg) (ps := ["stream", "many"]) KX G ?aLBeg ?lLBeg ?cLBeg ?kLBeg ?bLBeg) ?_
    (case aLBeg => k_is); (case lLBeg => k_is); (case cLBeg => k_is); (case kLBeg => k_is)
    (case bLBeg => exact fun fd F => F.binds fun _ _ _ _ _ _ us hl => match us, hl with | [_, _], _ => rfl)
    rintro fLBeg ⟨fdLBeg, FLBeg, cLBeg⟩
    refine' Exists.elim (Vf.def_mk (x := "_law_is_under") (st := Vf.sLUnder) (ps := ["stream", "prefix"]) KX G ?aLUnder ?lLUnder ?cLUnder ?kLUnder ?bLUnder) ?_
    (case aLUnder => k_is); (case lLUnder => k_is); (case cLUnder => k_is); (case kLUnder => k_is)
    (case bLUnder => exact fun fd F => F.binds fun _ _ _ _ _ _ us hl => match us, hl with | [_, _], _ => rfl)
    rintro fLUnder ⟨fdLUnder, FLUnder, cLUnder⟩
    refine' Exists.elim (Vf.def_mk (x := "_law_replaced") (st := Vf.sLReplaced) (ps := ["stream", "old", "new"]) KX G ?aLReplaced ?lLReplaced ?cLReplaced ?kLReplaced ?bLReplaced) ?_
    (case aLReplaced => k_is); (case lLReplaced => k_is); (case cLReplaced => k_is); (case kLReplaced => k_is)
    (case bLReplaced => exact fun fd F => F.binds fun _ _ _ _ _ _ us hl => match us, hl with | [_, _, _], _ => rfl)
    rintro fLReplaced ⟨fdLReplaced, FLReplaced, cLReplaced⟩
    refine' Exists.elim (Vf.def_mk (x := "_law_base") (st := Vf.sLBase) (ps := ["die"]) KX G ?aLBase ?lLBase ?cLBase ?kLBase ?bLBase) ?_
    (case aLBase => k_is); (case lLBase => k_is); (case cLBase => k_is); (case kLBase => k_is)
    (case bLBase => exact fun fd F => F.binds fun _ _ _ _ _ _ us hl => match us, hl with | [_], _ => rfl)
    rintro fLBase ⟨fdLBase, FLBase, cLBase⟩
    refine' Exists.elim (Vf.def_mk (x := "_law_no_base") (st := Vf.sNoBase) (ps := ["die"]) KX G ?aNoBase ?lNoBase ?cNoBase ?kNoBase ?bNoBase) ?_
    (case aNoBase => k_is); (case lNoBase => k_is); (case cNoBase => k_is); (case kNoBase => k_is)
    (case bNoBase => exact fun fd F => F.binds fun _ _ _ _ _ _ us hl => match us, hl with | [_], _ => rfl)
    rintro fNoBase ⟨fdNoBase, FNoBase, cNoBase⟩
    refine' Exists.elim (Vf.def_mk (x := "_law_no_stream") (st := Vf.sNoStream) (ps := ["die", "base"]) KX G ?aNoStream ?lNoStream ?cNoStream ?kNoStream ?bNoStream) ?_
    (case aNoStream => k_is); (case lNoStream => k_is); (case cNoStream => k_is); (case kNoStream => k_is)
    (case bNoStream => exact fun fd F => F.binds fun _ _ _ _ _ _ us hl => match us, hl with | [_, _], _ => rfl)
    rintro fNoStream ⟨fdNoStream, FNoStream, cNoStream⟩
    refine' Exists.elim (Vf.def_mk (x := "_law_no_prefix") (st := Vf.sNoPfx) (ps := ["die", "base"]) KX G ?aNoPfx ?lNoPfx ?cNoPfx ?kNoPfx ?bNoPfx) ?_
    (case aNoPfx => k_is); (case lNoPfx => k_is); (case cNoPfx => k_is); (case kNoPfx => k_is)
    (case bNoPfx => exact fun fd F => F.binds fun _ _ _ _ _ _ us hl => match us, hl with | [_, _], _ => rfl)
    rintro fNoPfx ⟨fdNoPfx, FNoPfx, cNoPfx⟩
    refine' Exists.elim (Vf.def_mk (x := "_law_near") (st := Vf.sNear) (ps := ["die", "base", "stream"]) KX G ?aNear ?lNear ?cNear ?kNear ?bNear) ?_
    (case aNear => k_is); (case lNear => k_is); (case cNear => k_is); (case kNear => k_is)
    (case bNear => exact fun fd F => F.binds fun _ _ _ _ _ _ us hl => match us, hl with | [_, _, _], _ => rfl)
    rintro fNear ⟨fdNear, FNear, cNear⟩
    refine' Exists.elim (Vf.cls_mk (P := PySem.Challenge.rw_prefixtable_k04_beginnings_replaced.prog) KX G ?j_gC ?j_noSuper ?j_cls ?j_sa ?j_ga ?j_gg ?j_ov ?j_qi ?j_tk ?j_noV ?j_hdC ?j_iC ?j_tC ?j_any ?j_sup ?j_sI ?j_mro ?j_kC ?j_exC ?j_tyC ?j_top ?j_l1 ?j_c1 ?j_l2 ?j_fl ?j_fm ?j_l3 ?j_gP ?j_rep ?j_isi ?j_pS ?j_pX ?j_pO ?j_eS ?j_eX ?j_eO ?j_nn ?j_n0 ?j_n1 ?j_n2 ?j_p0 ?j_p1 ?j_p2 ?j_q00 ?j_q01 ?j_q02 ?j_q10 ?j_q11 ?j_q12 ?j_q20 ?j_q21 ?j_q22) ?_
    (case j_gC => k_is)
    (case j_noSuper => k_is)
    (case j_cls => k_is)
    (case j_sa => k_is)
    (case j_ga => k_is)
    (case j_gg => k_is)
    (case j_ov => first | rfl | kernel_rfl)
    (case j_qi => first | rfl | kernel_rfl)
    (case j_tk => k_is)
    (case j_noV => k_is)
    (case j_hdC => k_is)
    (case j_iC => k_is)
    (case j_tC => k_is)
    (case j_any => k_is)
    (case j_sup => first | ks_is | rfl | kernel_rfl)
    (case j_sI => k_is)
    (case j_mro => k_is)
    (case j_kC => k_is)
    (case j_exC => k_is)
    (case j_tyC => k_is)
    (case j_top => decide +kernel)
    (case j_l1 => k_is)
    (case j_c1 => k_is)
    (case j_l2 => k_is)
    (case j_fl => rfl)
    (case j_fm => first | rfl | decide +kernel)
    (case j_l3 => k_is)
    (case j_gP => k_is)
    (case j_rep => k_is)
    (case j_isi => k_is)
    (case j_pS => refine' Vf.pfx_mk KX G ?gpS ?epS ?kpS ?bpS ?tpS; (case gpS => k_is); (case epS => first | rfl | kernel_rfl); (case kpS => k_is); (case bpS => k_is); (case tpS => k_is))
    (case j_pX => refine' Vf.pfx_mk KX G ?gpX ?epX ?kpX ?bpX ?tpX; (case gpX => k_is); (case epX => first | rfl | kernel_rfl); (case kpX => k_is); (case bpX => k_is); (case tpX => k_is))
    (case j_pO => refine' Vf.pfx_mk KX G ?gpO ?epO ?kpO ?bpO ?tpO; (case gpO => k_is); (case epO => first | rfl | kernel_rfl); (case kpO => k_is); (case bpO => k_is); (case tpO => k_is))
    (case j_eS => refine' Vf.exc_mk ?beS ?a1eS ?a2eS ?a4eS ?a5eS ?a6eS ?a7eS ?a8eS; (case beS => k_is); (case a1eS => k_is); (case a2eS => k_is); (case a4eS => k_is); (case a5eS => k_is); (case a6eS => k_is); (case a7eS => k_is); (case a8eS => k_is))
    (case j_eX => refine' Vf.exc_mk ?beX ?a1eX ?a2eX ?a4eX ?a5eX ?a6eX ?a7eX ?a8eX; (case beX => k_is); (case a1eX => k_is); (case a2eX => k_is); (case a4eX => k_is); (case a5eX => k_is); (case a6eX => k_is); (case a7eX => k_is); (case a8eX => k_is))
    (case j_eO => refine' Vf.exc_mk ?beO ?a1eO ?a2eO ?a4eO ?a5eO ?a6eO ?a7eO ?a8eO; (case beO => k_is); (case a1eO => k_is); (case a2eO => k_is); (case a4eO => k_is); (case a5eO => k_is); (case a6eO => k_is); (case a7eO => k_is); (case a8eO => k_is))
    (case j_nn => first | rfl | kernel_rfl)
    (case j_n0 => first | rfl | kernel_rfl)
    (case j_n1 => first | rfl | kernel_rfl)
    (case j_n2 => first | rfl | kernel_rfl)
    (case j_p0 => first | rfl | kernel_rfl)
    (case j_p1 => first | rfl | kernel_rfl)
    (case j_p2 => first | rfl | kernel_rfl)
    (case j_q00 => first | rfl | kernel_rfl)
    (case j_q01 => first | rfl | kernel_rfl)
    (case j_q02 => first | rfl | kernel_rfl)
    (case j_q10 => first | rfl | kernel_rfl)
    (case j_q11 => first | rfl | kernel_rfl)
    (case j_q12 => first | rfl | kernel_rfl)
    (case j_q20 => first | rfl | kernel_rfl)
    (case j_q21 => first | rfl | kernel_rfl)
    (case j_q22 => first | rfl | kernel_rfl)
    rintro CN ⟨fI, CS, CP, CX, CO, num, pfx, pfX, pfO, told⟩
    have NN : Vf.Nm mg ∧ mg "range" = none ∧ mg "max" = none ∧ mg "min" = none ∧ mg "abs" = none := by
      refine' Vf.nm_mk KX G ?z1 ?z2 ?z3 ?z4 ?z5 ?z6 ?y1 ?y2 ?y3 ?y4 ?z7 ?z8 ?z9 ?z10
      (case z1 => k_is)
      (case z2 => k_is)
      (case z3 => k_is)
      (case z4 => k_is)
      (case z5 => k_is)
      (case z6 => k_is)
      (case y1 => k_is)
      (case y2 => k_is)
      (case y3 => k_is)
      (case y4 => k_is)
      (case z7 => k_is)
      (case z8 => k_is)
      (case z9 => k_is)
      (case z10 => k_is)
    refine' Exists.elim (Vf.told_mk KX G ?ta ?tl ?tc ?tk) ?_
    (case ta => k_is); (case tl => k_is); (case tc => k_is); (case tk => k_is)
    rintro g TF
    refine' Vf.law_mk (P1 := 309) (P2 := 316) KX G hmg ?ga ?lk ?cc ?gk ?aE ?lE ?cE ?kE ?aR ?lR ?cR ?kR (hT _ (by simp)) ?nT ?hh (hT _ (by simp)) ?nT1 ?hh1 (by decide) num pfx pfX pfO told TF NN FIsInt cIsInt FWithin cWithin FReqNum cReqNum FReqBase cReqBase FReqRoots cReqRoots FWordForm cWordForm FPfxForm cPfxForm FReqPfx cReqPfx FIsStream cIsStream FStreamForm cStreamForm FReqStream cReqStream FShort cShort FNormal cNormal FLead cLead FIsUnder cIsUnder FBegins cBegins FWithBeg cWithBeg FReplaced cReplaced FDice cDice FPull cPull FWord cWord FLNormal cLNormal FLStream cLStream FLBeg cLBeg FLUnder cLUnder FLReplaced cLReplaced FLBase cLBase FNoBase cNoBase FNoStream cNoStream FNoPfx cNoPfx FNear cNear
    (case ga => k_is); (case lk => k_is); (case cc => k_is); (case gk => k_is)
    (case aE => k_is); (case lE => k_is); (case cE => k_is); (case kE => k_is)
    (case aR => k_is); (case lR => k_is); (case cR => k_is); (case kR => k_is)
    (case nT => first | rfl | kernel_rfl)
    (case hh => first | rfl | kernel_rfl)
    (case nT1 => first | rfl | kernel_rfl)
    (case hh1 => first | rfl | kernel_rfl)


