import PyProof.Rows.All
import Wide.All
import OpenK.AllK
import Wide.FinOn
import HandS.ForMost
import HandS.StrMore
import HandS.SortRule
import HandS.TupLe
import HandS.Conv
import KE.DataFind
import HandS.TryMany
import HandS.Lambda
import HandS.EndTab
import HandS.IsInst
import HandS.Wide
import HandS.WideMore
import HandS.ExcField
import HandS.ExcIs
import HandS.Style
import HandS.WordsExc
import HandS.Deep
import HandS.SetFor
import HandS.Flow
import PyProof.ReprRoads
import KE.KExcSuper
import KE.KNestM
import PySem.Challenge.RW_prefixtable_k07_codes_recognized
import KE.KRevSl
import PyProof.NeData
import PyProof.ReprBulk
import PyProof.Rows.ReprOcc
import HandS.Walk
import HandS.TupAny
import HandS.Zip
import HandS.Star
set_option Elab.async false
set_option maxRecDepth 100000
set_option maxHeartbeats 4000000
set_option exponentiation.threshold 3000
/-! Streams made: the text by places, and rules of my own. -/
namespace Vf
open PySem L2
def top (i : Nat) : Stmt := PySem.Challenge.pw_prefixtable_k07_codes_recognized.main.body.getD i (.Pass ⟨0, 0, 0, 0⟩)
abbrev sIsInt : Stmt := top 6
abbrev sWithin : Stmt := top 7
abbrev sReqNum : Stmt := top 8
abbrev sReqBase : Stmt := top 14
abbrev sReqRoots : Stmt := top 15
abbrev sWordForm : Stmt := top 16
abbrev sPfxForm : Stmt := top 17
abbrev sReqPfx : Stmt := top 18
abbrev sDice : Stmt := top 30
abbrev sPull : Stmt := top 31
abbrev sLBase : Stmt := top 37
abbrev sTold : Stmt := top 44
abbrev sLaw : Stmt := top 46
abbrev sMadeRight : Stmt := top 45
abbrev sOdd : Stmt := top 38
abbrev sBent : Stmt := top 39
abbrev sStartB : Stmt := top 21
abbrev sCovers : Stmt := top 22
abbrev sIsCode : Stmt := top 23
abbrev sCodeForm : Stmt := top 24
abbrev sReqPfxs : Stmt := top 25
abbrev sRootCode : Stmt := top 26
abbrev sMakeCode : Stmt := top 27
abbrev sCodeFrom : Stmt := top 28
abbrev sShuf : Stmt := top 32
abbrev sIsAbove : Stmt := top 33
abbrev sLonger : Stmt := top 34
abbrev sChildren : Stmt := top 35
abbrev sLCode : Stmt := top 36
abbrev sIsWhole : Stmt := top 40
abbrev sLIsPfx : Stmt := top 41
abbrev sLIsCode : Stmt := top 42
abbrev sValues : Stmt := top 43
abbrev sCIN : Stmt := top 4
/-! ### the dice: three ints in a list -/
structure DieV (d0 d1 d2 : Int) : Prop where
  p0 : 0 ≤ d0
  w0 : d0.natAbs < 2 ^ 2300
  p1 : 0 ≤ d1
  p2 : 0 ≤ d2
def dieL (d : Int × Int × Int) : List V := [.int d.1, .int d.2.1, .int d.2.2]
def DieOk (d : Int × Int × Int) : Prop := DieV d.1 d.2.1 d.2.2
/-- everything but a is as before -/
def Kp (a : Addr) (H H' : Hp) : Prop := ∀ b o, b ≠ a → H b = some o → H' b = some o
theorem Kp.refl (a : Addr) (H : Hp) : Kp a H H := fun _ _ _ h => h
theorem Kp.trans {a : Addr} {H H1 H2 : Hp} (x : Kp a H H1) (y : Kp a H1 H2) : Kp a H H2 := fun b o n h => y b o n (x b o n h)
theorem Kp.upd {a : Addr} {H : Hp} {o : HO} : Kp a H (upd H a o) := fun b u n h => by rw [upd_ne n]; exact h
theorem Kp.new {a p : Addr} {H : Hp} {o : HO} (h : H p = none) : Kp a H (L2.upd H p o) := fun b u _ e => by rw [upd_ne (ne_of_none e h)]; exact e
theorem Kp.same {a : Addr} {H H' : Hp} (e : Same H H') : Kp a H H' := fun b o _ h => e b o h
/-- _law_pull: a draw below many -/
def spPull : Sp := fun vs H Q _ => ∃ (a : Addr) (d : Int × Int × Int) (many : Int), vs = [.ref a, .int many] ∧ H a = some (.lst (dieL d)) ∧ DieOk d ∧ 1 ≤ many ∧ many ≤ 5000 ∧
  d.2.2 ≤ 1000000000 ∧ ∀ (r : Int) (d' : Int × Int × Int), DieOk d' → d'.2.2 ≤ d.2.2 + 1 → 0 ≤ r → r < many → Q (.int r) (upd H a (.lst (dieL d')))
theorem pull_bound (d1 d2 : Int) (p1 : 0 ≤ d1) (p2 : 0 ≤ d2) (hc : d2 ≤ 1000000000) :
    0 ≤ (d1 + 3266489917 * (d2 + 1)) % 36028797018963913 ∧ (d1 + 3266489917 * (d2 + 1)) % 36028797018963913 < 36028797018963913 ∧
    0 ≤ (d1 + 3266489917 * (d2 + 1)) % 36028797018963913 * ((d1 + 3266489917 * (d2 + 1)) % 36028797018963913) % 18014398509481951 ∧
    (d1 + 3266489917 * (d2 + 1)) % 36028797018963913 * ((d1 + 3266489917 * (d2 + 1)) % 36028797018963913) % 18014398509481951 < 18014398509481951 ∧
    ((d1 + 3266489917 * (d2 + 1)) % 36028797018963913 * ((d1 + 3266489917 * (d2 + 1)) % 36028797018963913) % 18014398509481951 * ((d1 + 3266489917 * (d2 + 1)) % 36028797018963913) + 668265263 * (d2 + 1) + d1 % 65521).natAbs < 2 ^ 120 := by
  generalize (d1 + 3266489917 * (d2 + 1)) % 36028797018963913 = one, Int.emod_nonneg (d1 + 3266489917 * (d2 + 1)) (show (36028797018963913 : Int) ≠ 0 by decide) = o0, Int.emod_lt_of_pos (d1 + 3266489917 * (d2 + 1)) (show (0 : Int) < 36028797018963913 by decide) = o1
  have t0 : 0 ≤ one * one % 18014398509481951 := Int.emod_nonneg _ (by decide)
  have t1 : one * one % 18014398509481951 < 18014398509481951 := Int.emod_lt_of_pos _ (by decide)
  generalize one * one % 18014398509481951 = two at t0 t1
  refine ⟨o0, o1, t0, t1, ?_⟩
  have b1 : (two * one).natAbs < 2 ^ 110 := wide_lt (a := 55) (b := 55) (by omega) (by omega)
  have b1' : 0 ≤ two * one := Int.mul_nonneg t0 o0
  generalize two * one = three at b1 b1'
  have m0 : 0 ≤ d1 % 65521 := Int.emod_nonneg _ (by decide)
  have m1 : d1 % 65521 < 65521 := Int.emod_lt_of_pos _ (by decide)
  have e : (2 : Nat) ^ 110 = 1298074214633706907132624082305024 := by decide
  have e' : (2 : Nat) ^ 120 = 1329227995784915872903807060280344576 := by decide
  omega
section
variable {P : Program} {w : World} {K : PySem.W.Frag} {mg : Str → Option Value} {base : Heap}
theorem scPull : FnScope ["die", "many", "found", "one", "two"] ["die", "many"] (defScope sPull) := ⟨rfl, rfl, rfl, by decide +kernel, rfl, by decide +kernel, by decide +kernel⟩
theorem ok_pull {f : Addr} {fd : FuncData} (F : Fun K "_law_pull" "_law_pull" sPull f fd) : FnOk P w K mg base CX0 1 f fd ["die", "many"] spPull := by
  refine F.ok scPull (fun vs H Q E h => ?_) (fun cdv A outer s H vs Q E hr h => ?_)
  · obtain ⟨a, d, many, rfl, _⟩ := h
    rfl
  · obtain ⟨a, ⟨d0, d1, d2⟩, many, rfl, ha, hd, h1, h2, hc, k⟩ := h
    have hc : d2 ≤ 1000000000 := hc
    have nd := scPull.nd
    refine ⟨_, pss_cons (ps_if (pt_cmpR op_gt (pe_ix ix_list (pv 0) pe_int (fun _ _ => rfl)) pe_int (nomark _))
        (pss_cons (ps_set (i := 2) nd rfl (Or.inl rfl) (pe_op op_mod (pe_ix ix_list (pv 0) pe_int (fun _ _ => rfl)) (pv 1)))
        (pss_cons (ps_asg (pe_op op_fdivW (pe_ix ix_list (pv 0) pe_int (fun _ _ => rfl)) (pv 1)) (pg_sub (pv 0) pe_int set_list))
        (pss_one (ps_ret (pv 2))))) pss_nil)
      (pss_cons (ps_asg (pe_op op_add (pe_ix ix_list (pv 0) pe_int (fun _ _ => rfl)) pe_int) (pg_sub (pv 0) pe_int set_list))
      (pss_cons (ps_set (i := 3) nd rfl (Or.inl rfl) (pe_op op_mod (pe_op op_add (pe_ix ix_list (pv 0) pe_int (fun _ _ => rfl)) (pe_op op_mul pe_int (pe_ix ix_list (pv 0) pe_int (fun _ _ => rfl)))) pe_int))
      (pss_cons (ps_set (i := 4) nd rfl (Or.inl rfl) (pe_op op_mul (pe_op op_mod (pe_op op_mul (pv 3) (pv 3)) pe_int) (pv 3)))
      (pss_cons (ps_set (i := 4) nd rfl (Or.inl rfl) (pe_op op_add (pe_op op_add (pv 4) (pe_op op_mul pe_int (pe_ix ix_list (pv 0) pe_int (fun _ _ => rfl)))) (pe_op op_mod (pe_ix ix_list (pv 0) pe_int (fun _ _ => rfl)) pe_int)))
      (pss_one (ps_ret (pe_op op_mod (pe_op op_fdiv (pe_op op_mod (pe_op op_mulW (pv 4) (pv 4)) pe_int) pe_int) (pv 1)))))))), ?_⟩
    obtain ⟨hp0, hw0, hp1, hp2⟩ := id hd
    have hp0 : 0 ≤ d0 := hp0
    have hp1 : 0 ≤ d1 := hp1
    have hp2 : 0 ≤ d2 := hp2
    have hw0 : d0.natAbs < 2 ^ 2300 := hw0
    have ix0 : atI (dieL (d0, d1, d2)) 0 = some (.int d0) := rfl
    have ix1 : atI (dieL (d0, d1, d2)) 1 = some (.int d1) := rfl
    have ix2 : atI (dieL (d0, d1, d2)) 2 = some (.int d2) := rfl
    refine ⟨_, rfl, a, _, _, _, rfl, rfl, SqL.of ha, ix0, _, _, rfl, rfl, _, rfl, ?_⟩
    refine ite2 (fun c => ?_) (fun c => ?_)
    · refine ⟨_, rfl, a, _, _, _, rfl, rfl, SqL.of ha, ix0, _, rfl, _, _, rfl, rfl, (by show (0 : Int) < many; omega), ?_⟩
      refine ⟨_, rfl, a, _, _, _, rfl, rfl, SqL.of ha, ix0, _, rfl, _, _, rfl, rfl, (wide_div (b := 13) (by omega) (by omega) (by omega) (by omega)), ?_⟩
      refine ⟨_, rfl, a, _, _, _, rfl, rfl, ha, rfl, ?_⟩
      refine ⟨_, rfl, ?_⟩
      have q := k (d0 % many) (d0 / many, d1, d2) ⟨Int.ediv_nonneg hp0 (by omega), ?_, hp1, hp2⟩ (by show d2 ≤ d2 + 1; omega) (Int.emod_nonneg _ (by omega)) (Int.emod_lt_of_pos _ (by omega))
      · exact q
      · show (d0 / many).natAbs < 2 ^ 2300
        refine wide_le (j := d0) (Int.ediv_nonneg hp0 (by omega)) (Int.ediv_le_self _ hp0) hw0
    · have hb : upd H a (.lst (dieL (d0, d1, d2 + 1))) a = some (.lst (dieL (d0, d1, d2 + 1))) := upd_same
      have jx0 : atI (dieL (d0, d1, d2 + 1)) 0 = some (.int d0) := rfl
      have jx1 : atI (dieL (d0, d1, d2 + 1)) 1 = some (.int d1) := rfl
      have jx2 : atI (dieL (d0, d1, d2 + 1)) 2 = some (.int (d2 + 1)) := rfl
      refine ⟨_, rfl, a, _, _, _, rfl, rfl, SqL.of ha, ix2, _, _, rfl, rfl, ?_⟩
      refine ⟨_, rfl, a, _, _, _, rfl, rfl, ha, rfl, ?_⟩
      have pos1 : (0 : Int) < 36028797018963913 := by decide
      have pos2 : (0 : Int) < 18014398509481951 := by decide
      have pos3 : (0 : Int) < 65521 := by decide
      have pos4 : (0 : Int) < 1125899906842597 := by decide
      refine ⟨_, rfl, a, _, _, _, rfl, rfl, SqL.of hb, jx1, _, rfl, a, _, _, _, rfl, rfl, SqL.of hb, jx2, _, _, rfl, rfl, .inl ⟨by decide, by decide⟩, _, _, rfl, rfl, _, _, rfl, rfl, pos1, ?_⟩
      -- one * one % .. * one
      obtain ⟨o0, o1, t0, t1, b2⟩ := pull_bound d1 d2 hp1 hp2 hc
      have one63 : (d1 + 3266489917 * (d2 + 1)) % 36028797018963913 < 2 ^ 64 := Int.lt_trans o1 (by decide)
      have one63' : -(2 ^ 64) < (d1 + 3266489917 * (d2 + 1)) % 36028797018963913 := Int.lt_of_lt_of_le (by decide) o0
      refine ⟨_, rfl, _, rfl, _, _, rfl, rfl, .inl ⟨one63', one63⟩, _, _, rfl, rfl, pos2, _, rfl, _, _, rfl, rfl, .inr ⟨one63', one63⟩, ?_⟩
      refine ⟨_, rfl, _, rfl, a, _, _, _, rfl, rfl, SqL.of hb, jx2, _, _, rfl, rfl, .inl ⟨by decide, by decide⟩, _, _, rfl, rfl, _, rfl, a, _, _, _, rfl, rfl, SqL.of hb, jx1, _, _, rfl, rfl, pos3, _, _, rfl, rfl, ?_⟩
      refine ⟨_, rfl, _, rfl, _, _, rfl, rfl, wide_mul (a := 120) (b := 120) b2 b2 (by decide) (by decide) (by decide), _, _, rfl, rfl, pos4, _, _, rfl, rfl, ⟨by decide, by decide⟩, _, rfl, _, _, rfl, rfl, (by show (0 : Int) < many; omega), ?_⟩
      exact k _ (d0, d1, d2 + 1) ⟨hp0, hw0, hp1, by show (0 : Int) ≤ d2 + 1; have : (0 : Int) ≤ d2 := hp2; omega⟩ (by show d2 + 1 ≤ d2 + 1; omega) (Int.emod_nonneg _ (by omega)) (Int.emod_lt_of_pos _ (by omega))
end
end Vf


set_option Elab.async false
set_option maxRecDepth 100000
set_option maxHeartbeats 4000000
set_option exponentiation.threshold 3000
namespace Vf
open PySem L2 SX
/-! ### digits as code points -/
/-- a word of the base -/
def IsW (b : Int) (l : List Nat) : Prop := ∀ c ∈ l, 48 ≤ c ∧ (c : Int) < 48 + b
theorem IsW.nil (b : Int) : IsW b [] := fun _ h => by cases h
theorem IsW.app {b : Int} {l m : List Nat} (h1 : IsW b l) (h2 : IsW b m) : IsW b (l ++ m) := fun c h => by
  rcases List.mem_append.mp h with h | h
  · exact h1 c h
  · exact h2 c h
theorem IsW.of {b : Int} {l m : List Nat} (h1 : IsW b l) (h : ∀ c ∈ m, c ∈ l) : IsW b m := fun c hc => h1 c (h c hc)
theorem str_empty : ("" : Str) = S [] := by decide +kernel
theorem s01234 : ("01234" : Str) = S [48, 49, 50, 51, 52] := by decide +kernel
/-- a def of the module as it is called -/
structure Cal (K : PySem.W.Frag) (mg : Str → Option Value) (x : Str) (f : Addr) (fd : FuncData) (ps : List Str) : Prop where
  mg : mg x = some (.ref f)
  kp : PySem.W.keepIn K (.ref f) = true
  b : Binds K fd ps []
def spBase : Sp := fun vs H Q _ => ∃ (a : Addr) (d : Int × Int × Int), vs = [.ref a] ∧ H a = some (.lst (dieL d)) ∧ DieOk d ∧ d.2.2 ≤ 1000000000 ∧
  ∀ (b : Int) (d' : Int × Int × Int) (H' : Hp), DieOk d' → d'.2.2 ≤ d.2.2 + 1 → 2 ≤ b → b ≤ 5 → Kp a H H' → H' a = some (.lst (dieL d')) → Q (.int b) H'
def spWord : Sp := fun vs H Q _ => ∃ (a : Addr) (d : Int × Int × Int) (base high : Int), vs = [.ref a, .int base, .int high] ∧ H a = some (.lst (dieL d)) ∧ DieOk d ∧ d.2.2 ≤ 999000000 ∧ 2 ≤ base ∧ base ≤ 5 ∧ 0 ≤ high ∧ high ≤ 100 ∧
  ∀ (l : List Nat) (d' : Int × Int × Int), DieOk d' → d'.2.2 ≤ d.2.2 + 1 + high → IsW base l → (l.length : Int) ≤ high → Q (.str (S l)) (upd H a (.lst (dieL d')))
section
variable {P : Program} {w : World} {K : PySem.W.Frag} {mg : Str → Option Value} {base : Heap}
theorem scBase : FnScope ["die"] ["die"] (defScope sLBase) := ⟨rfl, rfl, rfl, by decide +kernel, rfl, by decide +kernel, by decide +kernel⟩
theorem ok_base {f fP : Addr} {fd fdP : FuncData} (F : Fun K "_law_base" "_law_base" sLBase f fd) (GP : FnOk P w K mg base CX0 1 fP fdP ["die", "many"] spPull) (cP : Cal K mg "_law_pull" fP fdP ["die", "many"]) : FnOk P w K mg base CX0 2 f fd ["die"] spBase := by
  refine F.ok scBase (fun vs H Q E h => ?_) (fun cdv A outer s H vs Q E hr h => ?_)
  · obtain ⟨a, d, rfl, _⟩ := h
    rfl
  · obtain ⟨a, d, rfl, ha, hd, hc, k⟩ := h
    refine ⟨_, pss_one (ps_ret (pe_ix ix_list (pe_lst (pa_cons pe_int (pa_cons pe_int (pa_cons pe_int (pa_cons pe_int (pa_cons pe_int (pa_cons pe_int (pa_cons pe_int pa_nil))))))))
      (pe_call GP hr rfl cP.mg cP.kp cP.b .nil pass0 (pa_cons (pv 0) (pa_cons pe_int pa_nil))) (fun _ _ => rfl))), ?_⟩
    refine ⟨by decide, fun p hp => ?_⟩
    have npa : a ≠ p := ne_of_none ha hp
    refine ⟨_, rfl, a, d, _, rfl, by rw [upd_ne npa]; exact ha, hd, by decide, by decide, hc, fun r d' hd' hc' r0 r1 => ?_⟩
    obtain ⟨v, hv, v2, v5⟩ : ∃ v : Int, atI ([.int 2, .int 2, .int 2, .int 3, .int 3, .int 4, .int 5] : List V) r = some (.int v) ∧ 2 ≤ v ∧ v ≤ 5 := by
      have : r = 0 ∨ r = 1 ∨ r = 2 ∨ r = 3 ∨ r = 4 ∨ r = 5 ∨ r = 6 := by omega
      rcases this with e | e | e | e | e | e | e <;> subst e <;> exact ⟨_, rfl, by decide, by decide⟩
    refine ⟨p, _, r, _, rfl, rfl, SqL.of (by rw [upd_ne npa.symm, upd_same]), hv, ?_⟩
    exact k v d' _ hd' hc' v2 v5 ((Kp.new hp).trans Kp.upd) upd_same
theorem upd_upd' {H : Hp} {a : Addr} {o o' : HO} : upd (upd H a o) a o' = upd H a o' := by
  funext b
  by_cases h : b = a
  · subst h
    rw [upd_same, upd_same]
  · rw [upd_ne h, upd_ne h, upd_ne h]
end
end Vf


set_option Elab.async false
set_option maxRecDepth 100000
set_option maxHeartbeats 4000000
set_option exponentiation.threshold 3000
namespace Vf
open PySem L2 SX
section
variable {X : Cx}
def CPowB (i j : Int) : Prop := 0 ≤ j ∧ (Builtin.Int.intBits i : Int) * j ≤ 2 ^ 27
/-- ** of a great base, as the size of the power allows -/
theorem op_powB : OpR X (binaryOp .Pow) (rI CPowB fun i j => .int (i ^ j.toNat)) := opI fun _ _ _ _ _ _ _ hc q => PyProof.Rows.pow_int hc.1 hc.2 q
end
/-- _law_dice: a new die -/
def spDice (K : PySem.W.Frag) : Sp := fun vs H Q _ => ∃ (a : Addr) (ns : List Int) (at' : Nat), vs = [.ref a, .int at'] ∧ SqL K H a (ns.map V.int) ∧ ns.length ≤ 63 ∧ at' ≤ 100 ∧
  ∀ (p : Addr) (d' : Int × Int × Int), DieOk d' → d'.2.2 = 0 → H p = none → Q (.ref p) (upd H p (.lst (dieL d')))
theorem big660 : (((10 : Int) ^ (60 : Int).toNat) ^ (11 : Int).toNat).natAbs < 2 ^ 2300 := by decide +kernel
theorem pos660 : (0 : Int) < ((10 : Int) ^ (60 : Int).toNat) ^ (11 : Int).toNat := by decide +kernel
section
variable {P : Program} {w : World} {K : PySem.W.Frag} {mg : Str → Option Value} {base : Heap}
theorem scDice : FnScope ["script", "at", "cell", "great", "mixed"] ["script", "at"] (defScope sDice) := ⟨rfl, rfl, rfl, by decide +kernel, rfl, by decide +kernel, by decide +kernel⟩
theorem dice_end {g at' : Int} {b : Int} (hg0 : 0 ≤ g) (hg : g < ((10 : Int) ^ (60 : Int).toNat) ^ (11 : Int).toNat) :
    DieOk ((if g - 10 ^ (18 : Int).toNat + 1 > 0 then g - 10 ^ (18 : Int).toNat + 1 else 0), (g * 2862933555777941757 + 3037000493 * at' + 7 * b) % 72057594037927931, 0) := by
  have h18 : (0 : Int) < 10 ^ (18 : Int).toNat := by decide +kernel
  have h1 : (1 : Int) ≤ 10 ^ (18 : Int).toNat := by decide +kernel
  have hbig := big660
  generalize ((10 : Int) ^ (60 : Int).toNat) ^ (11 : Int).toNat = N at hg hbig
  generalize (10 : Int) ^ (18 : Int).toNat = M at h18 h1
  refine ⟨?_, ?_, Int.emod_nonneg _ (by decide), Int.le_refl _⟩
  · show 0 ≤ (if g - M + 1 > 0 then g - M + 1 else 0)
    split <;> omega
  · show (if g - M + 1 > 0 then g - M + 1 else 0).natAbs < 2 ^ 2300
    refine wide_le (j := N) ?_ ?_ hbig
    · split <;> omega
    · split <;> omega
theorem ok_dice {f : Addr} {fd : FuncData} (F : Fun K "_law_dice" "_law_dice" sDice f fd) (ml : mg "len" = none) (ma : mg "abs" = none) (mi : mg "int" = none) (mm : mg "max" = none) : FnOk P w K mg base CX0 1 f fd ["script", "at"] (spDice K) := by
  refine F.ok scDice (fun vs H Q E h => ?_) (fun cdv A outer s H vs Q E hr h => ?_)
  · obtain ⟨a, ns, at', rfl, _⟩ := h
    rfl
  · obtain ⟨a, ns, at', rfl, ha, hl, hat, k⟩ := h
    have nd := scDice.nd
    refine ⟨_, pss_cons (ps_set (i := 2) nd rfl (.inl rfl) (pe_ifExp (pt_cmpR op_lt (pv 1) (pe_callB call_len_seq (by rfl) ml boot_len (pa_cons (pv 0) pa_nil)) (nomark _)) (pe_ix ix_list (pv 0) (pv 1) (fun _ _ => rfl)) (pe_op op_add (pe_op op_mul pe_int (pv 1)) pe_int)))
      (pss_cons (ps_set (i := 3) nd rfl (.inl rfl) (pe_op op_mod (pe_callB call_abs (by rfl) ma PyProof.Rows.boot_abs (pa_cons (pv 2) pa_nil)) (pe_op op_powB (pe_op op_pow pe_int pe_int) pe_int)))
      (pss_cons (ps_set (i := 4) nd rfl (.inl rfl) (pe_op op_mod (pe_op op_add (pe_op op_add (pe_op op_mul (pv 3) pe_int) (pe_op op_mul pe_int (pv 1))) (pe_op op_mul pe_int (pe_callTy call_int1 (by rfl) mi PyProof.Rows.boot_int (pa_cons (pe_cmpR op_lt (pv 2) pe_int (nomark _)) pa_nil)))) pe_int))
      (pss_one (ps_ret (pe_lst (pa_cons (pe_callB (call_max2 rfl) (by rfl) mm PyProof.Rows.boot_max (pa_cons pe_int (pa_cons (pe_op op_add (pe_op op_sub (pv 3) (pe_op op_pow pe_int pe_int)) pe_int) pa_nil))) (pa_cons (pv 4) (pa_cons pe_int pa_nil))))))))
      , ?_⟩
    have pos1 : (0 : Int) < 72057594037927931 := by decide
    refine ⟨_, rfl, _, rfl, a, _, rfl, .inl ha, _, _, rfl, rfl, _, rfl, ?_⟩
    refine ite2 (fun c => ?_) (fun c => ?_)
    · have c' : (at' : Int) < ((ns.map V.int).length : Int) := of_decide_eq_true c
      have c2 : at' < ns.length := by rw [List.length_map] at c'; omega
      refine ⟨_, rfl, _, rfl, a, _, _, V.int ns[at'], rfl, rfl, ha, atI_nat (by rw [List.getElem?_map, List.getElem?_eq_getElem c2]; rfl), ?_⟩
      refine ⟨_, rfl, _, rfl, _, _, rfl, rfl, ⟨by decide, by decide, by decide +kernel⟩, _, _, rfl, rfl, ⟨by decide, by decide +kernel⟩, _, _, rfl, rfl, pos660, ?_⟩
      refine ⟨_, rfl, _, _, rfl, rfl, .inr ⟨by decide, by decide⟩, _, rfl, _, _, rfl, rfl, .inl ⟨by decide, by decide⟩, _, _, rfl, rfl, _, rfl, _, _, rfl, rfl, .inr ⟨_, rfl, _, _, rfl, rfl, .inl ⟨by decide, by decide⟩, _, _, rfl, rfl, _, _, rfl, rfl, pos1, ?_⟩⟩
      refine ⟨_, rfl, _, _, rfl, rfl, ⟨by decide, by decide, by decide +kernel⟩, _, _, rfl, rfl, _, _, rfl, rfl, _, _, rfl, _, rfl, (by show 3 ≤ sizeLine; decide), fun p hp => ?_⟩
      exact k p _ (dice_end (Int.emod_nonneg _ (by have := pos660; omega)) (Int.emod_lt_of_pos _ pos660)) rfl hp
    · refine ⟨_, rfl, _, _, rfl, rfl, .inl ⟨by decide, by decide⟩, _, _, rfl, rfl, ?_⟩
      refine ⟨_, rfl, _, rfl, _, _, rfl, rfl, ⟨by decide, by decide, by decide +kernel⟩, _, _, rfl, rfl, ⟨by decide, by decide +kernel⟩, _, _, rfl, rfl, pos660, ?_⟩
      refine ⟨_, rfl, _, _, rfl, rfl, .inr ⟨by decide, by decide⟩, _, rfl, _, _, rfl, rfl, .inl ⟨by decide, by decide⟩, _, _, rfl, rfl, _, rfl, _, _, rfl, rfl, .inr ⟨_, rfl, _, _, rfl, rfl, .inl ⟨by decide, by decide⟩, _, _, rfl, rfl, _, _, rfl, rfl, pos1, ?_⟩⟩
      refine ⟨_, rfl, _, _, rfl, rfl, ⟨by decide, by decide, by decide +kernel⟩, _, _, rfl, rfl, _, _, rfl, rfl, _, _, rfl, _, rfl, (by show 3 ≤ sizeLine; decide), fun p hp => ?_⟩
      exact k p _ (dice_end (Int.emod_nonneg _ (by have := pos660; omega)) (Int.emod_lt_of_pos _ pos660)) rfl hp
end
end Vf


/-! # Words that repeat, and streams in normal form: the mathematics, over lists of numbers -/
namespace Vm
/-- the i-th of the endless repetition of q -/
def g (q : List Nat) (i : Nat) : Nat := q.getD (i % q.length) 0
/-- the i-th of h and then q again and again -/
def ev (h q : List Nat) (i : Nat) : Nat := if i < h.length then h.getD i 0 else g q (i - h.length)
theorem ev_lt {h q : List Nat} {i : Nat} (hi : i < h.length) : ev h q i = h.getD i 0 := if_pos hi
theorem ev_ge {h q : List Nat} {i : Nat} (hi : h.length ≤ i) : ev h q i = g q (i - h.length) := if_neg (by omega)
theorem g_add (q : List Nat) (i : Nat) : g q (i + q.length) = g q i := by unfold g; rw [Nat.add_mod_right]
theorem g_mul (q : List Nat) (i k : Nat) : g q (i + k * q.length) = g q i := by unfold g; rw [Nat.add_mul_mod_self_right]
theorem g_mod (q : List Nat) (i : Nat) : g q (i % q.length) = g q i := by unfold g; rw [Nat.mod_mod]
theorem g_lt {q : List Nat} {i : Nat} (h : i < q.length) : g q i = q.getD i 0 := by unfold g; rw [Nat.mod_eq_of_lt h]
theorem ext_getD {l m : List Nat} (hl : l.length = m.length) (h : ∀ i, i < l.length → l.getD i 0 = m.getD i 0) : l = m := by
  refine List.ext_getElem hl fun i h1 h2 => ?_
  have q := h i h1
  rw [List.getD_eq_getElem?_getD, List.getD_eq_getElem?_getD, List.getElem?_eq_getElem h1, List.getElem?_eq_getElem h2] at q
  exact q
/-- h and q are the normal form of f -/
structure Nf (f : Nat → Nat) (h q : List Nat) : Prop where
  ne : 0 < q.length
  is : ∀ i, ev h q i = f i
  prim : ∀ s m, 0 < s → s < q.length → ¬ ∀ i, m ≤ i → f (i + s) = f i
  trim : 0 < h.length → f (h.length - 1 + q.length) ≠ f (h.length - 1)
theorem Nf.per {f : Nat → Nat} {h q : List Nat} (n : Nf f h q) {i : Nat} (hi : h.length ≤ i) : f (i + q.length) = f i := by
  rw [← n.is, ← n.is, ev_ge hi, ev_ge (by omega), show i + q.length - h.length = i - h.length + q.length by omega, g_add]
theorem Nf.len {f : Nat → Nat} {h q h' q' : List Nat} (n : Nf f h q) (n' : Nf f h' q') : q.length ≤ q'.length := by
  refine Nat.le_of_not_lt fun hlt => n.prim q'.length h'.length n'.ne hlt fun i hi => n'.per hi
theorem Nf.hlen {f : Nat → Nat} {h q h' q' : List Nat} (n : Nf f h q) (n' : Nf f h' q') : h.length ≤ h'.length := by
  refine Nat.le_of_not_lt fun hlt => ?_
  have e : q.length = q'.length := Nat.le_antisymm (n.len n') (n'.len n)
  have z := n'.per (i := h.length - 1) (by omega)
  rw [← e] at z
  exact n.trim (by omega) z
theorem Nf.unique {f : Nat → Nat} {h q h' q' : List Nat} (n : Nf f h q) (n' : Nf f h' q') : h = h' ∧ q = q' := by
  have e : q.length = q'.length := Nat.le_antisymm (n.len n') (n'.len n)
  have e2 : h.length = h'.length := Nat.le_antisymm (n.hlen n') (n'.hlen n)
  refine ⟨ext_getD e2 fun i hi => ?_, ext_getD e fun i hi => ?_⟩
  · have z := (n.is i).trans (n'.is i).symm
    rw [ev_lt hi, ev_lt (by omega)] at z
    exact z
  · have z := (n.is (i + h.length)).trans (n'.is (i + h.length)).symm
    rw [ev_ge (by omega), ev_ge (by omega), e2, Nat.add_sub_cancel, g_lt hi, g_lt (by omega)] at z
    exact z
/-! ### periods -/
def Per (q : List Nat) (s : Nat) : Prop := ∀ i, g q (i + s) = g q i
theorem per_len (q : List Nat) : Per q q.length := fun i => g_add q i
theorem Per.mul {q : List Nat} {s : Nat} (p : Per q s) : ∀ k i, g q (i + k * s) = g q i
  | 0, i => by rw [Nat.zero_mul]; rfl
  | k + 1, i => by rw [Nat.succ_mul, ← Nat.add_assoc, p, Per.mul p k i]
/-- what holds from some place on holds from the start -/
theorem per_late {q : List Nat} {s m : Nat} (hq : 0 < q.length) (h : ∀ i, m ≤ i → g q (i + s) = g q i) : Per q s := fun i => by
  have z := h (i + m * q.length) (Nat.le_trans (Nat.le_mul_of_pos_right m hq) (Nat.le_add_left _ _))
  rw [show i + m * q.length + s = i + s + m * q.length by omega, g_mul, g_mul] at z
  exact z
theorem per_small {q : List Nat} {s : Nat} (h : ∀ i, i < q.length → g q (i + s) = g q i) (hq : 0 < q.length) : Per q s := fun i => by
  have z := h (i % q.length) (Nat.mod_lt _ hq)
  rw [g_mod] at z
  rw [← z]
  show q.getD ((i + s) % q.length) 0 = q.getD ((i % q.length + s) % q.length) 0
  rw [Nat.mod_add_mod]
/-- s is the least one -/
structure Least (q : List Nat) (s : Nat) : Prop where
  pos : 0 < s
  per : Per q s
  min : ∀ t, 0 < t → t < s → ¬ Per q t
theorem Least.unique {q : List Nat} {s t : Nat} (a : Least q s) (b : Least q t) : s = t := by
  rcases Nat.lt_trichotomy s t with h | h | h
  · exact (b.min s a.pos h a.per).elim
  · exact h
  · exact (a.min t b.pos h b.per).elim
theorem Least.le {q : List Nat} {s : Nat} (a : Least q s) (hq : 0 < q.length) : s ≤ q.length := Nat.le_of_not_lt fun h => a.min _ hq h (per_len q)
theorem Least.dvd {q : List Nat} {s n : Nat} (a : Least q s) (hn : Per q n) : n % s = 0 := by
  refine Classical.byContradiction fun h => ?_
  refine a.min (n % s) (by omega) (Nat.mod_lt _ a.pos) fun i => ?_
  have e : n % s + n / s * s = n := by rw [Nat.mul_comm]; exact Nat.mod_add_div n s
  have z := hn i
  rw [← a.per.mul (n / s) (i + n % s), Nat.add_assoc, e]
  exact z
theorem take_len {q : List Nat} {s : Nat} (h : s ≤ q.length) : (q.take s).length = s := by rw [List.length_take]; omega
theorem getD_take {q : List Nat} {s i : Nat} (h : i < s) : (q.take s).getD i 0 = q.getD i 0 := by
  rw [List.getD_eq_getElem?_getD, List.getD_eq_getElem?_getD, List.getElem?_take_of_lt h]
theorem getD_drop {q : List Nat} {s i : Nat} : (q.drop s).getD i 0 = q.getD (s + i) 0 := by
  rw [List.getD_eq_getElem?_getD, List.getD_eq_getElem?_getD, List.getElem?_drop]
theorem getD_app {l m : List Nat} {i : Nat} (h : i < l.length) : (l ++ m).getD i 0 = l.getD i 0 := by
  rw [List.getD_eq_getElem?_getD, List.getD_eq_getElem?_getD, List.getElem?_append_left h]
theorem getD_app2 {l m : List Nat} {i : Nat} (h : l.length ≤ i) : (l ++ m).getD i 0 = m.getD (i - l.length) 0 := by
  rw [List.getD_eq_getElem?_getD, List.getD_eq_getElem?_getD, List.getElem?_append_right h]
theorem Least.g {q : List Nat} {s : Nat} (a : Least q s) (hq : 0 < q.length) (i : Nat) : g (q.take s) i = g q i := by
  have hl := a.le hq
  have hlt := Nat.mod_lt i a.pos
  have e : i % s + i / s * s = i := by rw [Nat.mul_comm]; exact Nat.mod_add_div i s
  unfold Vm.g
  rw [take_len hl, getD_take hlt]
  have z := a.per.mul (i / s) (i % s)
  rw [e, g_lt (Nat.lt_of_lt_of_le hlt hl)] at z
  exact z.symm
/-- the tail has the least period -/
theorem Least.prim {q h : List Nat} {s : Nat} (a : Least q s) (hq : 0 < q.length) (t m : Nat) (h0 : 0 < t) (ht : t < s) : ¬ ∀ i, m ≤ i → ev h q (i + t) = ev h q i := fun z => by
  refine a.min t h0 ht (per_late (m := m) hq fun i hi => ?_)
  have y := z (i + h.length) (by omega)
  rw [ev_ge (by omega), ev_ge (by omega), Nat.add_sub_cancel, show i + h.length + t - h.length = i + t by omega] at y
  exact y
/-! ### the two searches for the least period -/
/-- by looking for the word in its double -/
theorem find_per {q : List Nat} {k : Nat} (hk : k ≤ q.length) (hq : 0 < q.length) : (((q ++ q).drop k).take q.length = q) ↔ Per q k := by
  have len : (((q ++ q).drop k).take q.length).length = q.length := by rw [List.length_take, List.length_drop, List.length_append]; omega
  have at_ : ∀ i, i < q.length → (((q ++ q).drop k).take q.length).getD i 0 = g q (i + k) := fun i hi => by
    rw [getD_take hi, getD_drop]
    by_cases h : k + i < q.length
    · rw [getD_app h, Nat.add_comm i k, g_lt h]
    · rw [getD_app2 (by omega), show i + k = (k + i - q.length) + q.length by omega, g_add, g_lt (by omega)]
  constructor
  · intro e
    refine per_small (fun i hi => ?_) hq
    rw [← at_ i hi, e, g_lt hi]
  · intro p
    refine ext_getD len fun i hi => ?_
    rw [len] at hi
    rw [at_ i hi, p i, g_lt hi]
/-- by repeating the beginning -/
theorem rep_get {l : List Nat} {k i : Nat} (h : i < k * l.length) : ((List.replicate k l).flatten).getD i 0 = g l i := by
  induction k generalizing i with
  | zero => rw [Nat.zero_mul] at h; omega
  | succ k ih =>
    rw [List.replicate_succ, List.flatten_cons]
    by_cases hl : i < l.length
    · rw [getD_app hl, g_lt hl]
    · have hl' : l.length ≤ i := by omega
      rw [getD_app2 hl', ih (by rw [Nat.succ_mul] at h; omega)]
      have z := g_add l (i - l.length)
      rw [Nat.sub_add_cancel hl'] at z
      exact z.symm
theorem rep_len {l : List Nat} {k : Nat} : ((List.replicate k l).flatten).length = k * l.length := by
  induction k with
  | zero => simp
  | succ k ih => rw [List.replicate_succ, List.flatten_cons, List.length_append, ih, Nat.succ_mul, Nat.add_comm]
theorem rep_per {q : List Nat} {s : Nat} (hs : 0 < s) (hsq : s ≤ q.length) : ((List.replicate (q.length / s) (q.take s)).flatten = q) ↔ (Per q s ∧ q.length % s = 0) := by
  have tl := take_len hsq
  constructor
  · intro e
    have el : q.length / s * s = q.length := by
      have z := congrArg List.length e
      rw [rep_len, tl] at z
      exact z
    have em : q.length % s = 0 := by
      have z := Nat.mod_add_div q.length s
      rw [Nat.mul_comm] at z
      omega
    refine ⟨?_, em⟩
    have at_ : ∀ i, g q i = g (q.take s) i := fun i => by
      have hq : 0 < q.length := by omega
      have hi := Nat.mod_lt i hq
      have z : q.getD (i % q.length) 0 = g (q.take s) (i % q.length) := by
        have y := rep_get (l := q.take s) (k := q.length / s) (i := i % q.length) (by rw [tl, el]; exact hi)
        rw [e] at y
        exact y
      show q.getD (i % q.length) 0 = _
      rw [z]
      unfold g
      rw [tl, Nat.mod_mod_of_dvd _ (Nat.dvd_of_mod_eq_zero em)]
    intro i
    have z := g_add (q.take s) i
    rw [tl] at z
    rw [at_, at_, z]
  · rintro ⟨p, em⟩
    have el : q.length / s * s = q.length := by
      have z := Nat.mod_add_div q.length s
      rw [Nat.mul_comm] at z
      omega
    refine ext_getD (by rw [rep_len, tl, el]) fun i hi => ?_
    rw [rep_len, tl, el] at hi
    rw [rep_get (by rw [tl, el]; exact hi)]
    have hlt := Nat.mod_lt i hs
    have e : i % s + i / s * s = i := by rw [Nat.mul_comm]; exact Nat.mod_add_div i s
    have z := p.mul (i / s) (i % s)
    rw [e, g_lt hi, g_lt (by omega)] at z
    unfold g
    rw [tl, getD_take hlt, z]
/-! ### turning the period -/
theorem g_rot {q : List Nat} {c : Nat} (hc : c ≤ q.length) (i : Nat) : g (q.drop c ++ q.take c) i = g q (i + c) := by
  have hl : (q.drop c ++ q.take c).length = q.length := by rw [List.length_append, List.length_drop, List.length_take]; omega
  by_cases hq : q.length = 0
  · have e : q = [] := List.length_eq_zero_iff.mp hq
    subst e
    simp [g]
  · have hi := Nat.mod_lt i (show 0 < q.length by omega)
    show (q.drop c ++ q.take c).getD (i % (q.drop c ++ q.take c).length) 0 = q.getD ((i + c) % q.length) 0
    rw [hl, ← Nat.mod_add_mod]
    generalize i % q.length = j at hi
    by_cases h : j < q.length - c
    · rw [getD_app (by rw [List.length_drop]; exact h), getD_drop, Nat.add_comm c j, Nat.mod_eq_of_lt (by omega)]
    · rw [getD_app2 (by rw [List.length_drop]; omega), List.length_drop, getD_take (by omega), Nat.mod_eq_sub_mod (by omega), Nat.mod_eq_of_lt (by omega)]
      congr 1
      omega
/-- one digit less in the head: the last of the head goes to the front of the period -/
theorem ev_less (l r : List Nat) (c : Nat) : ∀ i, ev l (c :: r) i = ev (l ++ [c]) (r ++ [c]) i := fun i => by
  have hl : (l ++ [c]).length = l.length + 1 := by simp
  have rot : ∀ j, g (r ++ [c]) j = g (c :: r) (j + 1) := fun j => g_rot (q := c :: r) (c := 1) (by simp) j
  rcases Nat.lt_trichotomy i l.length with h | h | h
  · rw [ev_lt h, ev_lt (by omega), getD_app h]
  · rw [ev_ge (by omega), ev_lt (by omega), getD_app2 (by omega), h, Nat.sub_self]
    unfold g
    rw [Nat.zero_mod]
    rfl
  · rw [ev_ge (by omega), ev_ge (by omega), rot, hl]
    congr 1
    omega
/-- the trimmed head and the turned period, t digits less -/
def trimH (h : List Nat) (t : Nat) : List Nat := h.take (h.length - t)
def turnQ (q : List Nat) (t : Nat) : List Nat := q.drop (q.length - t % q.length) ++ q.take (q.length - t % q.length)
theorem trimH_len {h : List Nat} {t : Nat} : (trimH h t).length = h.length - t := by unfold trimH; rw [List.length_take]; omega
theorem turnQ_len {q : List Nat} {t : Nat} : (turnQ q t).length = q.length := by unfold turnQ; rw [List.length_append, List.length_drop, List.length_take]; omega
theorem turn_g {q : List Nat} {t : Nat} (i : Nat) : g (turnQ q t) i = g q (i + (q.length - t % q.length)) := g_rot (Nat.sub_le _ _) i
/-- the digits that were taken off agree -/
def Agree (h q : List Nat) (t : Nat) : Prop := t ≤ h.length ∧ ∀ j, j < t → h.getD (h.length - 1 - j) 0 = q.getD (q.length - 1 - j % q.length) 0
theorem trim_ev {h q : List Nat} {t : Nat} (hq : 0 < q.length) (a : Agree h q t) (i : Nat) : ev (trimH h t) (turnQ q t) i = ev h q i := by
  obtain ⟨ht, ha⟩ := a
  by_cases h1 : i < h.length - t
  · rw [ev_lt (by rw [trimH_len]; exact h1), ev_lt (by omega)]
    exact getD_take h1
  · rw [ev_ge (by rw [trimH_len]; omega), trimH_len, turn_g]
    have hr := Nat.mod_lt t hq
    have et : t = t / q.length * q.length + t % q.length := by rw [Nat.mul_comm]; exact (Nat.div_add_mod t q.length).symm
    by_cases h2 : i < h.length
    · rw [ev_lt h2]
      have z := ha (h.length - 1 - i) (by omega)
      rw [show h.length - 1 - (h.length - 1 - i) = i by omega] at z
      rw [z]
      have hj := Nat.mod_lt (h.length - 1 - i) hq
      have ej : h.length - 1 - i = (h.length - 1 - i) / q.length * q.length + (h.length - 1 - i) % q.length := by rw [Nat.mul_comm]; exact (Nat.div_add_mod _ q.length).symm
      rw [← g_lt (show q.length - 1 - (h.length - 1 - i) % q.length < q.length by omega)]
      have m2 := g_mul q (q.length - 1 - (h.length - 1 - i) % q.length) (t / q.length - (h.length - 1 - i) / q.length)
      have le : (h.length - 1 - i) / q.length ≤ t / q.length := Nat.div_le_div_right (by omega)
      rw [Nat.sub_mul] at m2
      have le2 : (h.length - 1 - i) / q.length * q.length ≤ t / q.length * q.length := Nat.mul_le_mul_right _ le
      generalize t / q.length * q.length = T at *
      generalize (h.length - 1 - i) / q.length * q.length = J at *
      rw [← m2]
      congr 1
      omega
    · rw [ev_ge (by omega)]
      have m1 := g_mul q (i - (h.length - t) + (q.length - t % q.length)) (t / q.length)
      have m2 := g_mul q (i - h.length) (t / q.length + 1 + 0)
      have m3 : (t / q.length + 1 + 0) * q.length = t / q.length * q.length + q.length := by rw [Nat.add_zero, Nat.succ_mul]
      rw [m3] at m2
      generalize t / q.length * q.length = T at *
      have m4 := g_add q (i - h.length + T)
      have m5 : g q (i - (h.length - t) + (q.length - t % q.length)) = g q (i - h.length + (t + (q.length - t % q.length))) := by congr 1; omega
      rw [m5, show t + (q.length - t % q.length) = T + q.length by omega]
      exact m2
/-- the end of the trimming: a normal form -/
theorem trim_nf {h q : List Nat} {t : Nat} {f : Nat → Nat} (hf : ∀ i, ev h q i = f i) (hq : 0 < q.length) (a : Agree h q t) (stop : t < h.length → h.getD (h.length - 1 - t) 0 ≠ q.getD (q.length - 1 - t % q.length) 0)
    (prim : ∀ s m, 0 < s → s < q.length → ¬ ∀ i, m ≤ i → f (i + s) = f i) : Nf f (trimH h t) (turnQ q t) := by
  refine ⟨by rw [turnQ_len]; exact hq, fun i => (trim_ev hq a i).trans (hf i), by rw [turnQ_len]; exact prim, fun h0 => ?_⟩
  rw [trimH_len] at h0 ⊢
  rw [turnQ_len]
  have ht : t < h.length := by omega
  have e1 : f (h.length - t - 1) = h.getD (h.length - 1 - t) 0 := by
    rw [← hf, ev_lt (by omega)]
    congr 1
    omega
  have e2 : f (h.length - t - 1 + q.length) = q.getD (q.length - 1 - t % q.length) 0 := by
    have hr := Nat.mod_lt t hq
    rw [← hf, ← trim_ev hq a, ev_ge (by rw [trimH_len]; omega), trimH_len, turn_g]
    have z := g_add q (q.length - 1 - t % q.length)
    have y : g q (q.length - 1 - t % q.length) = q.getD (q.length - 1 - t % q.length) 0 := g_lt (by omega)
    rw [← y, ← z]
    congr 1
    omega
  rw [e1, e2]
  exact fun z => stop ht z.symm
/-- the same for the word that is taken off digit by digit -/
theorem last_nf {l r : List Nat} {f : Nat → Nat} (hf : ∀ i, ev l r i = f i) (hr : 0 < r.length) (prim : ∀ s m, 0 < s → s < r.length → ¬ ∀ i, m ≤ i → f (i + s) = f i)
    (stop : 0 < l.length → l.getD (l.length - 1) 0 ≠ r.getD (r.length - 1) 0) : Nf f l r := by
  refine ⟨hr, hf, prim, fun h0 => ?_⟩
  rw [← hf, ← hf, ev_lt (show l.length - 1 < l.length by omega), ev_ge (show l.length ≤ l.length - 1 + r.length by omega), show l.length - 1 + r.length - l.length = r.length - 1 by omega, g_lt (show r.length - 1 < r.length by omega)]
  exact fun z => stop h0 z.symm
/-! ### beginnings -/
def beg (h q : List Nat) (k many : Nat) : List Nat := (h ++ (List.replicate k q).flatten).take many
theorem beg_get {h q : List Nat} {k many i : Nat} (hk : many ≤ h.length + k * q.length) (hi : i < many) : (beg h q k many).getD i 0 = ev h q i := by
  unfold beg
  rw [getD_take hi]
  by_cases h1 : i < h.length
  · rw [getD_app h1, ev_lt h1]
  · rw [getD_app2 (by omega), ev_ge (by omega), rep_get (by omega)]
theorem beg_len {h q : List Nat} {k many : Nat} (hk : many ≤ h.length + k * q.length) : (beg h q k many).length = many := by
  unfold beg
  rw [List.length_take, List.length_append, rep_len]
  omega
theorem beg_eq {h q h' q' : List Nat} {k k' many : Nat} (hk : many ≤ h.length + k * q.length) (hk' : many ≤ h'.length + k' * q'.length) :
    beg h q k many = beg h' q' k' many ↔ ∀ i, i < many → ev h q i = ev h' q' i := by
  constructor
  · intro e i hi
    rw [← beg_get hk hi, ← beg_get hk' hi, e]
  · intro e
    refine ext_getD (by rw [beg_len hk, beg_len hk']) fun i hi => ?_
    rw [beg_len hk] at hi
    rw [beg_get hk hi, beg_get hk' hi, e i hi]
theorem ev_per {h q : List Nat} {i k : Nat} (hi : h.length ≤ i) : ev h q (i + k * q.length) = ev h q i := by
  rw [ev_ge hi, ev_ge (by omega), show i + k * q.length - h.length = i - h.length + k * q.length by omega, g_mul]
/-- what agrees long enough agrees for ever -/
theorem ev_all {h q h' q' : List Nat} {many : Nat} (hm : h.length ≤ many) (hm' : h'.length ≤ many) (hq : 0 < q.length) (hq' : 0 < q'.length) (e : ∀ i, i < many + q.length * q'.length → ev h q i = ev h' q' i) (i : Nat) : ev h q i = ev h' q' i := by
  by_cases hi : i < many
  · exact e i (by omega)
  · have hp : 0 < q.length * q'.length := Nat.mul_pos hq hq'
    have hlt := Nat.mod_lt (i - many) hp
    have ei : many + (i - many) % (q.length * q'.length) + (i - many) / (q.length * q'.length) * (q.length * q'.length) = i := by
      have z := Nat.div_add_mod (i - many) (q.length * q'.length)
      rw [Nat.mul_comm] at z
      omega
    have a1 := ev_per (h := h) (q := q) (i := many + (i - many) % (q.length * q'.length)) (k := (i - many) / (q.length * q'.length) * q'.length) (by omega)
    have a2 := ev_per (h := h') (q := q') (i := many + (i - many) % (q.length * q'.length)) (k := (i - many) / (q.length * q'.length) * q.length) (by omega)
    rw [Nat.mul_assoc, Nat.mul_comm q'.length, ei] at a1
    rw [Nat.mul_assoc, ei] at a2
    rw [a1, a2]
    exact e _ (by omega)
/-- the period told several times over -/
theorem ev_rep {h q : List Nat} {k : Nat} (hk : 0 < k) (i : Nat) : ev h ((List.replicate k q).flatten) i = ev h q i := by
  by_cases h1 : i < h.length
  · rw [ev_lt h1, ev_lt h1]
  · rw [ev_ge (by omega), ev_ge (by omega)]
    generalize i - h.length = j
    by_cases hq : q.length = 0
    · have e : q = [] := List.length_eq_zero_iff.mp hq
      subst e
      simp
    · show ((List.replicate k q).flatten).getD (j % ((List.replicate k q).flatten).length) 0 = _
      rw [rep_len, rep_get (Nat.mod_lt _ (Nat.mul_pos hk (by omega)))]
      unfold g
      rw [Nat.mod_mod_of_dvd _ (Nat.dvd_mul_left _ _)]
/-! ### the normal form that the law finds, and that of the program: one and the same -/
/-- the shorter period told by the least one -/
theorem short_nf {h q : List Nat} {s : Nat} (a : Least q s) (hq : 0 < q.length) (i : Nat) : ev h (q.take s) i = ev h q i := by
  by_cases h1 : i < h.length
  · rw [ev_lt h1, ev_lt h1]
  · rw [ev_ge (by omega), ev_ge (by omega), a.g hq]
end Vm


set_option Elab.async false
set_option maxRecDepth 100000
set_option maxHeartbeats 4000000
set_option exponentiation.threshold 3000
namespace Vf
open PySem L2 SX Vm
theorem find_least {q : List Nat} (hq : 0 < q.length) : ∃ s : Nat, Txt.find3 (S (q ++ q)) (S q) 1 = (s : Int) ∧ Least q s := by
  have e1 : PySem.fromIndex (S (q ++ q)).length 1 = 1 := by
    rw [S_len, List.length_append]
    unfold PySem.fromIndex
    rw [if_neg (by decide)]
    rfl
  have key : ∀ i, 1 ≤ i → (PySem.StrLaws.At (S (q ++ q)) (S q) (S (q ++ q)).length i ↔ i ≤ q.length ∧ Per q i) := fun i hi => by
    unfold PySem.StrLaws.At
    rw [PySem.StrLaws.subAt_eq, S_len, S_len, List.length_append]
    constructor
    · rintro ⟨h1, h2⟩
      have h : i ≤ q.length := by omega
      exact ⟨h, (find_per h hq).mp (beq_iff_eq.mp h2)⟩
    · rintro ⟨h1, h2⟩
      exact ⟨by omega, beq_iff_eq.mpr ((find_per h1 hq).mpr h2)⟩
  rcases PySem.StrLaws.occ_head_from (S (q ++ q)) (S q) 1 1 (Nat.le_refl 1) with ⟨_, hn⟩ | ⟨k, r, h0, hlo, hk, hn⟩
  · exact absurd ((key q.length hq).mpr ⟨Nat.le_refl _, per_len q⟩) (hn q.length hq)
  · refine ⟨k, ?_, hlo, ((key k hlo).mp hk).2, fun t h1 h2 p => hn t h1 h2 ((key t h1).mpr ⟨?_, p⟩)⟩
    · unfold Txt.find3
      rw [e1, h0]
    · have := ((key k hlo).mp hk).1
      omega
theorem cut_take {q : List Nat} {s : Nat} (h : s ≤ q.length) : cutS (S q) none (some (s : Int)) = S (q.take s) := by
  unfold cutS
  rw [S_len, HT.sIx_none, HT.sIx_nat, Nat.min_eq_left h]
  rfl
theorem cut_drop {q : List Nat} {s : Nat} (h : s ≤ q.length) : cutS (S q) (some (s : Int)) none = S (q.drop s) := by
  unfold cutS
  rw [S_len, HT.sIx_none, HT.sIx_nat, Nat.min_eq_left h]
  congr 2
  rw [List.take_of_length_le]
  rw [List.length_drop]
  exact Nat.le_refl _
/-- the shorter period -/
def spShort : Sp := fun vs H Q _ => ∃ q : List Nat, vs = [.str (S q)] ∧ 0 < q.length ∧ q.length ≤ 1000 ∧ ∀ s, Least q s → s ≤ q.length → Q (.str (S (q.take s))) H
section
variable {P : Program} {w : World} {K : PySem.W.Frag} {mg : Str → Option Value} {base : Heap}
end
end Vf


set_option Elab.async false
set_option maxRecDepth 100000
set_option maxHeartbeats 4000000
set_option exponentiation.threshold 3000
namespace Vf
open PySem L2 SX Vm
theorem at_back {l : List Nat} {i : Int} {t : Nat} (ht : t < l.length) (hi : i = -1 - (t : Int)) : atI l i = some (l.getD (l.length - 1 - t) 0) := by
  unfold atI ixN
  rw [if_neg (by omega), if_pos (by omega)]
  show l[(i + (l.length : Int)).toNat]? = _
  rw [show (i + (l.length : Int)).toNat = l.length - 1 - t by omega, List.getD_eq_getElem?_getD, List.getElem?_eq_getElem (by omega)]
  rfl
theorem one_eq {a b : Nat} : (V.str ⟨#[a]⟩ = V.str ⟨#[b]⟩) ↔ a = b := by
  constructor
  · intro h
    have h1 := V.str.inj h
    have h2 := congrArg (fun s : Str => s.cps.toList) h1
    exact (List.cons.inj h2).1
  · intro h
    rw [h]
theorem emod_nat {t s : Nat} : ((t : Int) % (s : Int)) = ((t % s : Nat) : Int) := by omega
/-- from a row of digits to what lies in a row of digits -/
def Sub (m l : List Nat) : Prop := ∀ c ∈ m, c ∈ l
theorem sub_trimH {h : List Nat} {t : Nat} : Sub (trimH h t) h := fun _ hc => List.mem_of_mem_take hc
theorem sub_turnQ {q : List Nat} {t : Nat} : Sub (turnQ q t) q := fun c hc => by
  rcases List.mem_append.mp hc with h | h
  · exact List.mem_of_mem_drop h
  · exact List.mem_of_mem_take h
theorem cut_len (l : List Nat) (a b : Option Int) : (cutS (S l) a b).length ≤ l.length := by
  unfold cutS
  rw [S_len, List.length_take, List.length_drop]
  exact Nat.le_trans (Nat.min_le_right _ _) (Nat.sub_le _ _)
theorem fin_len {a b : Option Int} {q : List Nat} (hq : q.length ≤ 1000) : (cutS (S q) a none).length + (cutS (S q) none b).length ≤ sizeLine := by
  have h1 := cut_len q a none
  have h2 := cut_len q none b
  exact Nat.le_trans (show _ ≤ 2000 by omega) (by decide)
theorem val_head {h : List Nat} {t : Nat} (ht : t ≤ h.length) : cutS (S h) none (some (((S h).length : Int) - (t : Int))) = S (trimH h t) := by
  rw [S_len, show ((h.length : Int) - (t : Int)) = ((h.length - t : Nat) : Int) by omega, cut_take (Nat.sub_le _ _)]
  rfl
theorem val_per {q : List Nat} {t s : Nat} (hs : q.length = s) (h0 : 0 < s) :
    cutS (S q) (some ((s : Int) - (t : Int) % (s : Int))) none ++ cutS (S q) none (some ((s : Int) - (t : Int) % (s : Int))) = S (turnQ q t) := by
  have hm := Nat.mod_lt t h0
  rw [show ((s : Int) - (t : Int) % (s : Int)) = ((q.length - t % q.length : Nat) : Int) by rw [emod_nat, hs]; omega, cut_drop (Nat.sub_le _ _), cut_take (Nat.sub_le _ _), S_cat]
  rfl
def spNormal : Sp := fun vs H Q _ => ∃ (r : V) (h q : List Nat), vs = [r, .str (S h), .str (S q)] ∧ 0 < q.length ∧ q.length ≤ 1000 ∧ h.length ≤ 1000 ∧
  ∀ (h' q' : List Nat) (p : Addr), Nf (ev h q) h' q' → h'.length ≤ h.length → q'.length ≤ q.length → Sub h' h → Sub q' q → H p = none → Q (.ref p) (upd H p (.tup [r, .str (S h'), .str (S q')]))
theorem small_len {l : List Nat} (h : l.length ≤ 1000) : (S l).length ≤ sizeLine := by rw [S_len]; exact Nat.le_trans h (by decide)
theorem small_lenG {l : List Nat} (h : l.length ≤ 9000) : (S l).length ≤ sizeLine := by rw [S_len]; exact Nat.le_trans h (by decide)
section
variable {P : Program} {w : World} {K : PySem.W.Frag} {mg : Str → Option Value} {base : Heap}
end
end Vf


set_option Elab.async false
set_option maxRecDepth 100000
set_option maxHeartbeats 4000000
set_option exponentiation.threshold 3000
namespace Vf
open PySem L2 SX Vm
section
variable {X : Cx}
theorem fold_flat (l : List Nat) : ∀ (k : Nat) (acc : Array Nat), ((List.replicate k l.toArray).foldl (· ++ ·) acc) = acc ++ ((List.replicate k l).flatten).toArray
  | 0, acc => by simp
  | k + 1, acc => by
    rw [List.replicate_succ, List.foldl_cons, fold_flat l k, List.replicate_succ, List.flatten_cons]
    simp
/-- a text times a number -/
def rMulS : R2 := fun x y H Q => ∃ (l : List Nat) (k : Nat), x = .str (S l) ∧ y = .int (k : Int) ∧ k ≤ 100000 ∧ l.length ≤ 100000 ∧ k * l.length ≤ 1000000 ∧ Q (.str (S ((List.replicate k l).flatten))) H
theorem op_mul_str : OpR X (binaryOp .Mult) rMulS := by
  intro pins s σ H x y v u Q I rx ry h
  obtain ⟨l, k, rfl, rfl, h1, h2, h3, q⟩ := h
  obtain ⟨t, rfl⟩ := rx
  obtain ⟨t', rfl⟩ := ry
  refine PySem.P.mul_str ?_ (fun a b => ?_) (fun a b => ?_) ?_
  · rw [decide_eq_false (show ¬ ((k : Int) < -(2 ^ 63 : Int)) by omega), decide_eq_false (show ¬ ((k : Int) ≥ 2 ^ 63) by omega)]
    rfl
  · rw [S_len]
    have hk : (0 : Int) < (k : Int) := by omega
    have : (l.length : Int) ≤ (2 ^ 63 - 1) / (k : Int) := by
      rw [Int.le_ediv_iff_mul_le hk]
      have e : ((l.length : Int) * (k : Int)) = ((k * l.length : Nat) : Int) := by rw [Int.natCast_mul, Int.mul_comm]
      rw [e]
      omega
    omega
  · rw [S_len, Int.toNat_natCast, Nat.mul_comm]
    have : k * l.length ≤ sizeLine := Nat.le_trans h3 (by decide)
    unfold Builtin.Str.tooLong
    exact decide_eq_false (by omega)
  · have hlen : ((List.replicate k l).flatten).length ≤ sizeLine := by rw [rep_len]; exact Nat.le_trans h3 (by decide)
    by_cases c1 : (k : Int) < 1
    · have e : k = 0 := by omega
      subst e
      rw [if_pos c1]
      exact ⟨by decide, .str _, H, I.tok _, ⟨_, rfl⟩, q⟩
    · rw [if_neg c1]
      by_cases c2 : ((k : Int) == 1 || (S l).length == 0) = true
      · rw [if_pos c2]
        have e : (List.replicate k l).flatten = l := by
          rw [Bool.or_eq_true, beq_iff_eq, beq_iff_eq, S_len] at c2
          rcases c2 with c | c
          · have e : k = 1 := by omega
            subst e
            simp
          · have e : l = [] := List.length_eq_zero_iff.mp c
            subst e
            simp
        rw [e] at q
        exact ⟨.str _, H, I, ⟨_, rfl⟩, q⟩
      · rw [if_neg c2, Int.toNat_natCast]
        have e : (⟨(List.replicate k (S l).cps).foldl (· ++ ·) #[]⟩ : Str) = S ((List.replicate k l).flatten) := by
          have z := fold_flat l k #[]
          show Str.mk _ = Str.mk _
          rw [z]
          simp
        rw [e]
        exact ⟨by rw [S_len]; exact hlen, .str _, H, I.tok _, ⟨_, rfl⟩, q⟩
end
/-- the first one that passes -/
theorem filter_head {p : Nat → Bool} {s : Nat} (hp : p s = true) : ∀ n a, a ≤ s → s < a + n → (∀ t, a ≤ t → t < s → p t = false) → ((List.range' a n).filter p)[0]? = some s
  | 0, a, h1, h2, _ => absurd h2 (by omega)
  | n + 1, a, h1, h2, h3 => by
    rw [List.range'_succ]
    by_cases e : a = s
    · subst e
      rw [List.filter_cons_of_pos hp]
      rfl
    · rw [List.filter_cons_of_neg (by rw [h3 a (Nat.le_refl _) (by omega)]; exact Bool.false_ne_true)]
      exact filter_head hp n (a + 1) (by omega) (by omega) fun t h4 h5 => h3 t (by omega) h5
def okB (q : List Nat) (m : Nat) : Bool := decide ((List.replicate (q.length / m) (q.take m)).flatten = q)
theorem first_size {q : List Nat} {s : Nat} (h0 : 0 < q.length) (l : Least q s) : ((List.range' 1 q.length).filter (okB q))[0]? = some s := by
  have hle := l.le h0
  have hp := l.pos
  refine filter_head (decide_eq_true ((rep_per hp hle).mpr ⟨l.per, l.dvd (per_len q)⟩)) _ _ hp (by omega) fun t h1 h2 => decide_eq_false fun z => ?_
  exact l.min t h1 h2 ((rep_per h1 (by omega)).mp z).1
theorem filter_snoc {p : Nat → Bool} {i : Nat} : (List.range' 1 (i + 1)).filter p = (List.range' 1 i).filter p ++ (if p (1 + i) = true then [1 + i] else []) := by
  rw [List.range'_concat, List.filter_append, Nat.one_mul]
  congr 1
  by_cases h : p (1 + i) = true
  · rw [if_pos h, List.filter_cons_of_pos h]
    rfl
  · rw [if_neg h, List.filter_cons_of_neg h]
    rfl
theorem str_ne_empty {l : List Nat} : (V.str (S l) = V.str ("" : Str)) ↔ l = [] := by
  rw [str_empty]
  constructor
  · intro h
    exact S_inj (V.str.inj h)
  · intro h
    rw [h]
theorem str_eq {l m : List Nat} : (V.str (S l) = V.str (S m)) ↔ l = m := ⟨fun h => S_inj (V.str.inj h), fun h => by rw [h]⟩
theorem cut_last (l : List Nat) (c : Nat) : cutS (S (l ++ [c])) none (some (-1)) = S l := by
  unfold cutS
  rw [S_len, HT.sIx_none, List.length_append]
  have e : HT.sIx (l.length + [c].length) (l.length + [c].length) (some (-1)) = l.length := by
    show (if (-1 : Int) < 0 then ((-1 : Int) + ((l.length + 1 : Nat) : Int)).toNat else min (-1 : Int).toNat (l.length + 1)) = l.length
    rw [if_pos (by decide)]
    omega
  rw [e]
  show S ((List.drop 0 (l ++ [c])).take (l.length - 0)) = S l
  rw [List.drop_zero, Nat.sub_zero, List.take_left']
  rfl
theorem last_at (l : List Nat) (c : Nat) : atI (S (l ++ [c])).cps.toList (-1) = some c := by
  have z := at_back (l := l ++ [c]) (i := -1) (t := 0) (by simp) (by decide)
  have e : (l ++ [c]).getD ((l ++ [c]).length - 1 - 0) 0 = c := by
    rw [List.getD_eq_getElem?_getD]
    simp
  rw [e] at z
  exact z
theorem last_getD (l : List Nat) (c : Nat) : (l ++ [c]).getD ((l ++ [c]).length - 1) 0 = c := by
  rw [List.getD_eq_getElem?_getD]
  simp
theorem iteTB {c : Bool} {A B : Prop} (hc : c = true) (h : A) : if c = true then A else B := by rw [if_pos hc]; exact h
theorem iteFB {c : Bool} {A B : Prop} (hc : c = false) (h : B) : if c = true then A else B := by rw [hc, if_neg Bool.false_ne_true]; exact h
/-- the law's normal form -/
def spLNormal : Sp := fun vs H Q _ => ∃ (r : V) (h q : List Nat), vs = [r, .str (S h), .str (S q)] ∧ 0 < q.length ∧ q.length ≤ 1000 ∧ h.length ≤ 1000 ∧
  ∀ (h' q' : List Nat) (p : Addr) (H' : Hp), Nf (ev h q) h' q' → h'.length ≤ h.length → q'.length ≤ q.length → Sub h' h → Sub q' q → Same H H' → H p = none → H' p = some (.tup [r, .str (S h'), .str (S q')]) → Q (.ref p) H'
section
variable {P : Program} {w : World} {K : PySem.W.Frag} {mg : Str → Option Value} {base : Heap}
end
end Vf

set_option Elab.async false
set_option maxRecDepth 100000
set_option maxHeartbeats 4000000
set_option exponentiation.threshold 3000
namespace Vf
open PySem L2 SX Vm
theorem pos_pull {b q : Int} (h0 : 0 ≤ q) (h1 : q < b) (h5 : b ≤ 5) : ∃ c : Nat, atI (("01234" : Str).cps.toList) q = some c ∧ 48 ≤ c ∧ (c : Int) < 48 + b := by
  rw [s01234]
  have : q = 0 ∨ q = 1 ∨ q = 2 ∨ q = 3 ∨ q = 4 := by omega
  rcases this with e | e | e | e | e <;> subst e <;> exact ⟨_, rfl, by decide, by omega⟩
theorem len5 : ("01234" : Str).length ≤ sizeLine := by decide +kernel
theorem S_one (c : Nat) (l : List Nat) : (⟨#[c]⟩ : Str) ++ S l = S (c :: l) := S_cat [c] l
theorem S_snoc (c : Nat) (l : List Nat) : S l ++ (⟨#[c]⟩ : Str) = S (l ++ [c]) := S_cat l [c]
/-- a drawn stream -/
def spLStream : Sp := fun vs H Q _ => ∃ (a : Addr) (d : Int × Int × Int) (base wide high : Int), vs = [.ref a, .int base, .int wide, .int high] ∧ H a = some (.lst (dieL d)) ∧ DieOk d ∧ d.2.2 ≤ 990000000 ∧ 2 ≤ base ∧ base ≤ 5 ∧ 1 ≤ wide ∧ wide ≤ 5000 ∧ 1 ≤ high ∧ high ≤ 100 ∧
  ∀ (r : Int) (h q : List Nat) (f : Nat → Nat) (d' : Int × Int × Int) (p : Addr) (H' : Hp), 0 ≤ r → r < wide → (h.length : Int) ≤ high → (q.length : Int) ≤ high → Nf f h q → IsW base h → IsW base q → DieOk d' → d'.2.2 ≤ d.2.2 + 3 + 2 * high →
    Kp a H H' → H' a = some (.lst (dieL d')) → H p = none → H' p = some (.tup [.int r, .str (S h), .str (S q)]) → Q (.ref p) H'
/-- the beginning of a stream -/
def spLBeg (K : PySem.W.Frag) : Sp := fun vs H Q _ => ∃ (p : Addr) (r : V) (h q : List Nat) (many : Nat), vs = [.ref p, .int (many : Int)] ∧ SqT K H p [r, .str (S h), .str (S q)] ∧ 0 < q.length ∧ q.length ≤ 1000 ∧ h.length ≤ 1000 ∧ many ≤ 2000 ∧
  Q (.str (S (beg h q (many / q.length + 1) many))) H
/-- the same stream told otherwise -/
def spOther : Sp := fun vs H Q _ => ∃ (a p : Addr) (d : Int × Int × Int) (r : V) (h q : List Nat), vs = [.ref a, .ref p] ∧ H a = some (.lst (dieL d)) ∧ DieOk d ∧ d.2.2 ≤ 990000000 ∧ H p = some (.tup [r, .str (S h), .str (S q)]) ∧ 0 < q.length ∧ q.length ≤ 100 ∧ h.length ≤ 100 ∧
  ∀ (h' q' : List Nat) (d' : Int × Int × Int) (p' : Addr) (H' : Hp), (∀ i, ev h' q' i = ev h q i) → 0 < q'.length → q'.length ≤ 300 → h'.length ≤ 110 → Sub h' (h ++ q) → Sub q' q → DieOk d' → d'.2.2 ≤ d.2.2 + 2 →
    Kp a H H' → H' a = some (.lst (dieL d')) → H p' = none → H' p' = some (.tup [r, .str (S h'), .str (S q')]) → Q (.ref p') H'
section
variable {P : Program} {w : World} {K : PySem.W.Frag} {mg : Str → Option Value} {base : Heap}
end
end Vf


set_option Elab.async false
set_option maxRecDepth 100000
set_option maxHeartbeats 4000000
/-! An error class over IndexError whose __init__ calls that of its base and keeps a value. -/
namespace VNum
open PySem PySem.W PySem.Calls PyProof.Rows L2
def mainArgs : Arguments := defArgs (inClass (Vf.top 4) 0)
def mainBody : List Stmt := defBody (inClass (Vf.top 4) 0)
def mainScope : Scope := defScope (inClass (Vf.top 4) 0)
abbrev bmI : List Value := [.type "IndexError", .type "LookupError", .type "Exception", .type "BaseException", .type "object"]
/-- what the written part says of the class at C and of its __init__ at fI -/
structure NumTxt (P : Program) (K : Frag) (mg : Str → Option Value) (C fI : Addr) : Prop where
  gC : mg "InvalidNumber" = some (.ref C)
  noSuper : mg "super" = none
  cls : ∃ nm q N bs sn sub ab col dd k0 k1 k2 k3 k5, K.lookup C = some (excClassObj nm q C N bs bmI true sn sub ab col dd k0 k1 k2 k3 k5 "IndexError.__new__")
  sa : findIn K (.ref C) "__setattr__" = some (some (.builtin "object.__setattr__"))
  ga : findIn K (.ref C) "__getattribute__" = some (some (.builtin "BaseException.__getattribute__"))
  gg : findIn K (.ref C) "__getattr__" = some none
  ov : excOver K C bmI = true
  qi : excInitIn K C bmI "IndexError.__new__" = true
  tk : takerIn K C "value" = some none
  noV : findIn K (.ref C) "value" = some none
  hdC : hasDictIn K C = true
  iC : findIn K (.ref C) "__init__" = some (some (.ref fI))
  tC : typeIn K (.ref fI) = some (.type "function")
  any : nsIn K cStatics "thirdparty.any" = some none
  sup : ks_superIn K C C "__init__" = some (some (.builtin "IndexError.__init__"))
  sI : subIn K (.ref C) (.type "IndexError") = some true
  mro : mroIn K C (.ref C) = some true
  kC : keepIn K (.ref C) = true
  exC : subIn K (.ref C) (.type "BaseException") = some true
  tyC : typeIn K (.ref C) = some (.type "type")
  top : (P.main.scope.names.lookup ("super" : Str)).isSome = false
  fn : ∃ (oc : Value) (od : Option Addr) (doc pm : Value) (an : Option Addr) (cda cc : Addr) (ct : Value) (osl : Array (Option Value)) (vs : Array Value) (file : Str) (tf : Tok) (ccl : Value) (cdd : Option Addr) (ccs : Array (Option Value)) (cl : Value) (cld : Option Addr) (csl : Array (Option Value)),
    K.lookup fI = some ⟨oc, od, .func (ksFn "__init__" "InvalidNumber.__init__" mainArgs mainBody mainScope .none .none doc pm an (.ref cda) ct cc), osl⟩ ∧ codeIn K (.ref cda) "InvalidNumber.__init__" = true ∧
    K.lookup cda = some ⟨ccl, cdd, .fields vs, ccs⟩ ∧ vs[2]? = some (.str file tf) ∧ ((P.main.file : Str) == file) = true ∧ K.lookup cc = some ⟨cl, cld, .cell (some (.ref C)), csl⟩
/-- what __init__ leaves of a fresh exception at x -/
structure InitEnd (h h' : Heap) (x C dx t1 : Addr) (v : Value) : Prop where
  keep : ∀ b o, b ≠ x → h.get? b = some o → h'.get? b = some o
  obj : h'.get? x = some { cls := .ref C, dict := some dx, data := .fields #[.ref t1, .none, .none, .none, .bool false, .none] }
  dbig : h.objs.size ≤ dx
  dne : dx ≠ x
  ns : h'.Ns1 dx (fun y => if y = "value" then some v else none)
theorem ns1_one {h : Heap} {dx : Addr} {hs : Int} {t : Tok} {v : Value} {es : List DictEntry} {n : Nat} (e : (putL "value" hs (.str "value" t) v [], putN "value" [] 0) = (es, n)) (hd : h.get? dx = some (dictOf es n)) : h.Ns1 dx (fun y => if y = "value" then some v else none) := by
  obtain ⟨e1, e2⟩ := Prod.mk.inj e
  subst e1
  subst e2
  refine ⟨_, _, _, hd, rfl, ?_, ?_, fun name => ?_⟩
  · intro e he
    have he' : e ∈ [(⟨hs, .str "value" t, v⟩ : DictEntry)] := Array.mem_toList_iff.mpr he
    rw [List.mem_singleton.mp he']
    exact ⟨_, _, rfl⟩
  · exact List.pairwise_singleton _ _
  · show ((#[(⟨hs, .str "value" t, v⟩ : DictEntry)] : Array DictEntry).find? fun e => e.key.isStr name).map (·.val) = if name = "value" then some v else none
    by_cases hn : name = "value"
    · subst hn
      rw [if_pos rfl]
      simp [Value.isStr]
    · rw [if_neg hn]
      have : (("value" : Str) == name) = false := by simpa using (fun z => hn z.symm)
      simp [Value.isStr, this]
section
variable {P : Program} {w : World} {A : Around} {R : Result → Shared → Prop} {s : Shared} {K : Frag} {mg : Str → Option Value} {C fI : Addr}
theorem num_init (T : NumTxt P K mg C fI) {x t0 : Addr} {v : Value} (X : K.In s.heap) (hg : s.heap.Ns mainGlobals mg) {mb : Str → Option Value} (hb : s.heap.Ns builtinsNs mb) (hbb : ∀ x : Str, x ≠ "__name__" → mb x = bootBuiltins x) (hlim : s.heap.NoLimit)
    (hx : s.heap.get? x = some (HandSPX.excO C t0)) (hnx : K.lookup x = none) (hroom : A.depth < recursionLimit) (hq : ∀ h' tk dx t1, InitEnd s.heap h' x C dx t1 v → R (.ok (.ret .none)) { s with heap := h', toks := tk }) :
    codeAny (model P w) A (.call (.ref fI) ⟨[.ref x, v], []⟩) R s := by
  obtain ⟨oc, od, doc, pm, an, cda, cc, ct, osl, vs, file, tf, ccl, cdd, ccs, cl, cld, csl, ho, hcd, hco, hvs, hfile, hcell⟩ := T.fn
  obtain ⟨nm, q, N, bs, sn, sub, ab, col, dd, k0, k1, k2, k3, k5, hC⟩ := T.cls
  refine ks_codeAny_call_defAt (fd := ksFn "__init__" "InvalidNumber.__init__" mainArgs mainBody mainScope .none .none doc pm an (.ref cda) ct cc) (body := mainBody) (binds := [("self", .ref x), ("value", v)]) hroom (X _ _ ho) rfl hlim (codeRec_of X hcd) rfl (BindsTo.of_eq rfl) (show ∀ x ∈ mainScope.names, x.2 ≠ .cell by decide +kernel) (locs rfl) (fun h₁ hns hk₁ => ?_)
  have F0 : Fr (hideAll s.heap [x]) s.heap.objs.size h₁ (fun y => [(("self" : Str), Value.ref x), ("value", v)].reverse.lookup y) := ⟨hns, fun b o e => hk₁ b o (of_hideAll _ e), Nat.le_of_eq (hideAll_size _ _)⟩
  have N0 : News (hideAll s.heap [x]) s.heap.objs.size h₁ [(x, excObj C t0 none .none)] := fun p hp => by
    rw [List.mem_singleton.mp hp]
    exact ⟨hk₁ _ _ hx, Nat.ne_of_lt (Heap.lt_size hx), hideAll_none _ (List.mem_singleton_self _)⟩
  have X₀ : K.In (hideAll s.heap [x]) := fun b o e => hideAll_get _ (X b o e) (fun z => by rw [List.mem_singleton.mp z, hnx] at e; cases e)
  have X₁ : K.In h₁ := X.keeps hk₁
  refine ks_wpAt_execs_cons (ks_wpAt_Expr_any (ks_wpAt_MethodCall ?_))
  refine ks_wpAt_super_base (env := ksEnv "InvalidNumber.__init__" mainScope s.heap.objs.size fI (.ref cda) cc) rfl rfl (by decide +kernel) rfl (X₁ _ _ ho) rfl rfl rfl (X₁ _ _ hco) rfl hvs hfile T.top ?_
  refine ks_loadName_global rfl rfl (loadGlobal_builtin (env := ksEnv "InvalidNumber.__init__" mainScope s.heap.objs.size fI (.ref cda) cc) (hg.keeps hk₁) T.noSuper (hb.keeps hk₁) ((hbb _ (by decide +kernel)).trans (by decide +kernel)) ⟨rfl, ?_⟩)
  refine wpAny_loadName_free rfl rfl rfl ⟨_, X₁ _ _ hcell, rfl⟩ ?_
  refine wpAny_loadName_local rfl rfl hns rfl ?_
  refine ks_wpAny_isType_cls (X₁ _ _ hC) rfl ⟨rfl, ?_⟩
  have I1 : InstAt h₁ x (HandSPX.excO C t0) C none := ⟨hk₁ _ _ hx, rfl, rfl, trivial⟩
  refine ks_wpAny_call_super (X₁ _ _ hC) rfl I1.at_ I1.cls (fun c e => nomatch e) (looks_mroIn X₁ T.mro) (fun h₂ e2 k2 => ?_)
  obtain ⟨F2, N2, l2⟩ := ks_newsPush (s := { s with heap := h₁ }) F0 N0 rfl e2 k2
  refine kxs_method kxs_IndexError F2 X₀ N2 (List.Mem.head _) (InstAt.of_exc0 (t := t0) (c2 := .none) N2 (List.Mem.tail _ (List.Mem.head _))) T.any T.sup T.sI (by decide +kernel) (fun q3 h₃ F3 N3 l3 => ?_)
  refine kxs_callWith1 (i := "IndexError.__init__") (x := x) N3 (List.Mem.head _) ?_
  refine Calls.spliced_cons (Calls.Constant_str (k := 0) (pos := ⟨0, 0, 0, 0⟩) ?_)
  refine Calls.spliced_nil ⟨kxs_at N3 (List.Mem.head _), ?_⟩
  have n1 : x ≠ h₁.objs.size := Nat.ne_of_lt (Heap.lt_size I1.at_)
  have n2 : x ≠ q3 := Nat.ne_of_lt (l3 _ (List.Mem.tail _ (List.Mem.head _)))
  refine kxs_call F3 X₀ N3 PySem.F.excBase_IndexError T.qi (List.Mem.head _) (.tail (Ne.symm n2) (.tail (Ne.symm n1) (.head (fun p hp => by cases hp)))) (by show 1 ≤ sizeLine; decide) (fun t4 h₄ F4 N4 l4 => ?_)
  refine ks_wpAt_execs_cons (ks_wpAt_Assign_Attr ?_)
  refine wpAt_of_wpAny (wpAny_Name (wpAny_loadName_local rfl rfl F4.ns rfl (wpAny_Name (wpAny_loadName_local rfl rfl F4.ns rfl ?_) (by decide))) (by decide))
  obtain ⟨es, n, ee⟩ : ∃ es n, (putL "value" (PyData.keyHash w.params "value") (.str "value" (s.toks + 2 + 1 + 1 + 1)) v [], putN "value" [] 0) = (es, n) := ⟨_, _, rfl⟩
  refine set_exc0 PySem.F.store_IndexError F4 X₀ N4 (List.Mem.tail _ (List.Mem.tail _ (List.Mem.tail _ (List.Mem.head _)))) T.sa T.ov T.tk T.hdC ee (.tail ?_ (.tail (Ne.symm n2) (.tail (Ne.symm n1) (.head (fun p hp => by cases hp))))) ?_ (fun dx h₅ F5 N5 l5 => ?_)
  · exact Nat.ne_of_gt (l4 _ (List.Mem.tail _ (List.Mem.tail _ (List.Mem.head _))))
  · rw [← (Prod.mk.inj ee).1]
    show 1 ≤ 1000
    decide
  · have a1 : t4 < dx := l5 _ (List.Mem.head _)
    have a2 : x < dx := l5 _ (List.Mem.tail _ (List.Mem.tail _ (List.Mem.tail _ (List.Mem.head _))))
    have a3 : h₁.objs.size < t4 := l4 _ (List.Mem.tail _ (List.Mem.head _))
    have a4 : s.heap.objs.size < h₁.objs.size := hns.lt
    refine wpAt_of_wpAny (wpAny_execs_nil (hq h₅ _ dx t4 ⟨fun b o hb e => F5.keep b o (hideAll_get _ e (fun z => hb (List.mem_singleton.mp z))), ?_, Nat.le_of_lt (Nat.lt_trans a4 (Nat.lt_trans a3 a1)), Nat.ne_of_gt a2, ns1_one ee (N5 _ (List.Mem.head _)).1⟩))
    exact (N5 _ (List.Mem.tail _ (List.Mem.tail _ (List.Mem.tail _ (List.Mem.tail _ (List.Mem.head _)))))).1
/-- a made error -/
structure OwnMade (h h' : Heap) (e C d : Addr) (v : Value) : Prop where
  keep : ∀ b o, h.get? b = some o → h'.get? b = some o
  new : h.objs.size ≤ e
  obj : ∃ oe vs, h'.get? e = some oe ∧ oe.cls = .ref C ∧ oe.dict = some d ∧ oe.data = .fields vs ∧ vs[1]? = some .none
  dbig : h.objs.size ≤ d
  dne : d ≠ e
  ns : h'.Ns1 d (fun y => if y = "value" then some v else none)
theorem bmI_contains : ∀ X : String, bmI.contains (.type X) = bmI.contains (.type X) := fun _ => rfl
theorem num_made (T : NumTxt P K mg C fI) {v : Value} (X : K.In s.heap) (hg : s.heap.Ns mainGlobals mg) {mb : Str → Option Value} (hb : s.heap.Ns builtinsNs mb) (hbb : ∀ x : Str, x ≠ "__name__" → mb x = bootBuiltins x) (hlim : s.heap.NoLimit) (hroom : A.depth + 1 < recursionLimit)
    (hq : ∀ h' tk e d, OwnMade s.heap h' e C d v → R (.ok (.ret (.ref e))) { s with heap := h', toks := tk }) : codeAny (model P w) A (.call (.ref C) ⟨[v], []⟩) R s := by
  obtain ⟨nm, q, N, bs, sn, sub, ab, col, dd, k0, k1, k2, k3, k5, hC⟩ := T.cls
  obtain ⟨hp, g, dr, tk, os⟩ := s
  have k : ∀ b o, hp.get? b = some o → ((hp.push (kdv_tup [v])).push (HandSPX.excO C hp.objs.size)).get? b = some o := fun b o e => Heap.get?_push_of_some _ (Heap.get?_push_of_some _ e)
  have hget : ((hp.push (kdv_tup [v])).push (HandSPX.excO C hp.objs.size)).get? (hp.objs.size + 1) = some (HandSPX.excO C hp.objs.size) := by heap_get
  have hnx : K.lookup (hp.objs.size + 1) = none := by
    cases e : K.lookup (hp.objs.size + 1) with
    | none => rfl
    | some o =>
      have z : hp.get? (hp.objs.size + 1) = some o := X _ _ e
      exact absurd (Nat.lt_of_succ_lt (Heap.lt_size z)) (Nat.lt_irrefl _)
  refine HandSPX.call_own PySem.F.excBase_IndexError bmI_contains (X _ _ hC) (looks_findIn X T.iC) (fun self => bind_fn X self T.tC) (by show 1 ≤ sizeLine; decide) ?_
  refine num_init (s := ⟨(hp.push (kdv_tup [v])).push (HandSPX.excO C hp.objs.size), g, dr, tk, os⟩) T (X.keeps k) (hg.keeps k) (hb.keeps k) hbb (hlim.keeps k) hget hnx ?_ fun h' tk' dx t1 M => ?_
  · show A.depth + 1 < recursionLimit
    exact hroom
  · obtain ⟨k', hx, dn, dne, hns⟩ := M
    have old : ∀ b o, hp.get? b = some o → h'.get? b = some o := fun b o e => k' b o (Nat.ne_of_lt (Nat.lt_succ_of_lt (Heap.lt_size e))) (k b o e)
    have z : hp.objs.size + 1 + 1 ≤ dx := by
      first
        | (simpa only [Heap.size_push] using dn)
        | exact dn
    exact ⟨rfl, hq h' tk' (hp.objs.size + 1) dx ⟨old, Nat.le_succ _, ⟨_, _, hx, rfl, rfl, rfl, rfl⟩, Nat.le_trans (Nat.le_trans (Nat.le_succ _) (Nat.le_succ _)) z, dne, hns⟩⟩
end
end VNum
namespace VNum
open PySem PySem.Spec PyProof.Rows L2
theorem relO_num {v : V} {v' : Value} (r : RelV v v') (f : Str) : RelO (List.lookup f [(("value" : Str), v)]) (if f = "value" then some v' else none) := by
  by_cases hw : f = "value"
  · subst hw
    rw [if_pos rfl]
    have q : List.lookup ("value" : Str) [(("value" : Str), v)] = some v := by simp [List.lookup]
    rw [q]
    exact r
  · rw [if_neg hw]
    have qw : (f == ("value" : Str)) = false := by simpa using hw
    have q2 : List.lookup f [(("value" : Str), v)] = none := by simp [List.lookup, qw]
    rw [q2]
    trivial
section
variable {X : Cx} {C fI : Addr}
/-- InvalidNumber(e) -/
def tMkNum (C : Addr) (ta : TA) : L2.St → Hp → XK → Prop := fun σ H Q => ta σ H fun vs H1 => ∃ v, vs = [v] ∧ ∀ d, H1 d = none → Q (.ref C) (some d) (upd H1 d (.xd [(("value" : Str), v)]))
theorem pmk_num {a : Expr} {ta : TA} {p pos : Pos} {k : Nat} (T : NumTxt X.prog X.K X.mg C fI) (hr : Room k X.A) (ha : PA X [a] ta) (hg : Gl X "InvalidNumber" := by rfl)
    (he : starEach (a :: []) X.env = (false, eval a X.env) :: starEach [] X.env := by rfl) (hpl : (backTo pos (starEach [] X.env)).any (·.1) = false := by rfl) :
    PMk X (.Call (.Name "InvalidNumber" p) [a] [] pos) (tMkNum C ta) := by
  intro pins s σ H Q I h
  refine wpAny_Call_Name_kw (ld_glob I hg T.gC ?_)
  refine PySem.W.callWith_K (h₀ := X.base) I.ok.mod.kin T.kC (thn (ha.run pos pins s σ H _ I h) fun us s1 hh => ?_) he hpl
  obtain ⟨vs, H1, I1, r1, v, ev, q1⟩ := hh
  subst ev
  refine ⟨I1.kIn, ?_⟩
  cases r1 with
  | cons rv rn =>
    rename_i v' us'
    cases rn
    show wpAny _ _ (call (.ref C) [v']) _ _ _
    have hlim := I1.nolimit
    have hG := I1.mod.glob.keeps I1.bk
    obtain ⟨mb, hB, hbb⟩ := I1.mod.blt
    have hB' := hB.keeps I1.bk
    obtain ⟨hp, g, dr, tk, os⟩ := s1
    refine wpAny_call (num_made T I1.kIn hG hB' hbb hlim (by have := hr.dp; omega) fun h' tk' e d M => ?_)
    show MkP X pins σ Q (.ref e) ⟨h', g, dr, tk', os⟩
    obtain ⟨oe, fv, hoe, hc, hd, hdat, h1⟩ := M.obj
    have hns := M.ns
    obtain ⟨G', g1, g2⟩ := restrict h' fun b => decide (b ≠ e)
    have gk : ∀ b, b ≠ e → G'.get? b = h'.get? b := fun b hb => g1 b (decide_eq_true hb)
    have ge : G'.get? e = none := g2 e (by simp)
    have old : ∀ b o, hp.get? b = some o → G'.get? b = some o := fun b o q => (gk b (Nat.ne_of_lt (Nat.lt_of_lt_of_le (Heap.lt_size q) M.new))).trans (M.keep b o q)
    have ob : ObjOk X.prog X.w (upd H1 d (.xd [(("value" : Str), v)])) G' d (.xd [(("value" : Str), v)]) :=
      ⟨_, hns.at (fun o q => (gk d M.dne).trans q), fun f => relO_num rv f⟩
    have J : Inv X pins σ (upd H1 d (.xd [(("value" : Str), v)])) ⟨G', g, dr, tk', os⟩ := I1.laid (t' := tk') old M.dbig ob
    refine ⟨e, oe, fv, ⟨G', g, dr, tk', os⟩, _, .ref C, some d, rfl, J, fun b o q => ?_, ge, hoe, ⟨hc, hd⟩, hdat, h1, ?_, rfl, I1.bare, raises_own T.exC T.tyC, q1 d (I1.hok.fresh M.dbig)⟩
    · by_cases hb : b = e
      · have q' : G'.get? b = some o := q
        rw [hb, ge] at q'; cases q'
      · exact (gk b hb).symm.trans q
    · rw [upd_ne (Ne.symm M.dne)]
      exact I1.hok.fresh M.new
end
end VNum


set_option Elab.async false
set_option maxRecDepth 100000
set_option maxHeartbeats 4000000
set_option exponentiation.threshold 3000
namespace Vf
open PySem L2 SX Vm
open PySem.Builtin.Str PySem.StrLaws
/-- a plain value, and its class -/
inductive Pl (H : Hp) : V → Value → Prop where
  | non : Pl H .non (.type "NoneType")
  | bl (b : Bool) : Pl H (.bl b) (.type "bool")
  | int (n : Int) : Pl H (.int n) (.type "int")
  | str (s : Str) (h : s.length ≤ 9000) : Pl H (.str s) (.type "str")
  | lst {p : Addr} {xs : List V} (h : H p = some (.lst xs)) : Pl H (.ref p) (.type "list")
  | tup {p : Addr} {xs : List V} (h : H p = some (.tup xs)) : Pl H (.ref p) (.type "tuple")
  | dct {p : Addr} {kvs : List (Key × V)} (h : H p = some (.dK kvs)) : Pl H (.ref p) (.type "dict")
theorem Pl.tyx {K : PySem.W.Frag} {H : Hp} {v : V} {t : Value} (p : Pl H v t) : TyX K H v t := by
  cases p with
  | non => exact .base .non
  | bl b => exact .base (.bl b)
  | int n => exact .base (.int n)
  | str s _ => exact .base (.str s)
  | lst h => exact .base (.lst h)
  | tup h => exact .base (.tup h)
  | dct h => exact .base (.dK h)
theorem Pl.same {H H' : Hp} {v : V} {t : Value} (p : Pl H v t) (s : ∀ b o, H b = some o → (∃ xs, o = .lst xs ∨ o = .tup xs) ∨ (∃ kvs, o = .dK kvs) → H' b = some o) : Pl H' v t := by
  cases p with
  | non => exact .non
  | bl b => exact .bl b
  | int n => exact .int n
  | str x h => exact .str x h
  | lst h => exact .lst (s _ _ h (.inl ⟨_, .inl rfl⟩))
  | tup h => exact .tup (s _ _ h (.inl ⟨_, .inr rfl⟩))
  | dct h => exact .dct (s _ _ h (.inr ⟨_, rfl⟩))
def isIntV : V → Bool
  | .int _ => true
  | _ => false
def withinV (lo hi : Int) : V → Bool
  | .int n => decide (lo ≤ n) && decide (n ≤ hi)
  | _ => false
/-- the digits of a base -/
def digs (b : Nat) : List Nat := [48, 49, 50, 51, 52].take b
def wordV (b : Nat) : V → Bool
  | .str s => s.cps.toList.all fun c => decide (48 ≤ c) && decide (c < 48 + b)
  | _ => false
theorem strip_empty (l ds : List Nat) : (Txt.stripChars (S l) (S ds) = ("" : Str)) ↔ ∀ c ∈ l, c ∈ ds := by
  rw [str_empty]
  unfold Txt.stripChars
  rw [PyProof.Rows.stripBy_eq]
  obtain ⟨a1, a2, a3⟩ := PyProof.Rows.lo_facts (S ds).cps.contains (S l)
  obtain ⟨b1, b2, b3, b4⟩ := PyProof.Rows.hi_facts (S ds).cps.contains (S l) _ a1
  generalize stripLo (S ds).cps.contains true (S l) = lo at *
  generalize stripHi (S ds).cps.contains true (S l) lo = hi at *
  have gd : ∀ k, k < l.length → (S l).cps.getD k 0 ∈ l := fun k hk => by
    have : (S l).cps.getD k 0 = l[k] := by simp [Array.getD, hk]
    rw [this]
    exact List.getElem_mem hk
  have gc : ∀ c, (S ds).cps.contains c = true ↔ c ∈ ds := fun c => by simp
  rw [S_len] at a1 a3 b2 b3
  constructor
  · intro e
    have sz : hi - lo = 0 := by
      have z := congrArg (fun s : Str => s.cps.size) e
      have z' : hi - lo = 0 ∨ l.length - lo = 0 := by simpa [strSub] using z
      omega
    intro c hc
    obtain ⟨k, hk, rfl⟩ := List.getElem_of_mem hc
    have gk : (S l).cps.getD k 0 = l[k] := by simp [Array.getD, hk]
    rw [← gc, ← gk]
    rcases Nat.lt_or_ge k lo with h | h
    · exact a2 k h
    · exact b3 k (by omega) hk
  · intro e
    have lo_l : lo = l.length := by
      rcases a3 with h | h
      · exact h
      · refine Classical.byContradiction fun hn => ?_
        have hlt : lo < l.length := by omega
        have z := (gc _).mpr (e _ (gd lo hlt))
        rw [z] at h
        cases h
    have : hi = l.length := by omega
    rw [this, lo_l]
    show Str.mk _ = Str.mk _
    simp
theorem digs_mem {b c : Nat} (h5 : b ≤ 5) : c ∈ digs b ↔ 48 ≤ c ∧ c < 48 + b := by
  unfold digs
  have : b = 0 ∨ b = 1 ∨ b = 2 ∨ b = 3 ∨ b = 4 ∨ b = 5 := by omega
  rcases this with e | e | e | e | e | e <;> subst e <;> simp <;> omega
theorem word_strip (s : Str) {b : Nat} (h5 : b ≤ 5) : decide (V.str (Txt.stripChars s (S (digs b))) = V.str ("" : Str)) = wordV b (.str s) := by
  have e : s = S s.cps.toList := (S_tl s).symm
  have key := strip_empty s.cps.toList (digs b)
  rw [← e] at key
  show _ = s.cps.toList.all fun c => decide (48 ≤ c) && decide (c < 48 + b)
  by_cases h : ∀ c ∈ s.cps.toList, c ∈ digs b
  · rw [key.mpr h, decide_eq_true rfl]
    symm
    rw [List.all_eq_true]
    intro c hc
    have := (digs_mem h5).mp (h c hc)
    simp [this.1, this.2]
  · rw [decide_eq_false (fun z => h (key.mp (V.str.inj z)))]
    symm
    rw [List.all_eq_false]
    obtain ⟨c, hc⟩ := Classical.not_forall.mp h
    obtain ⟨h1, h2⟩ := Classical.not_imp.mp hc
    refine ⟨c, h1, fun z => h2 ((digs_mem h5).mpr ?_)⟩
    simpa using z
/-- names that the module has not taken, and its constants -/
structure Nm (mg : Str → Option Value) : Prop where
  isinst : mg "isinstance" = none
  int : mg "int" = none
  bool : mg "bool" = none
  str : mg "str" = none
  tuple : mg "tuple" = none
  len : mg "len" = none
  minB : ∃ t, mg "MIN_BASE" = some (.int 2 t)
  maxB : ∃ t, mg "MAX_BASE" = some (.int 5 t)
  maxR : ∃ t, mg "MAX_ROOTS" = some (.int 5000 t)
  dig : ∃ t, mg "DIGITS" = some (.str "01234" t)
def spIsInt : Sp := fun vs H Q _ => ∃ (v : V) (t : Value), vs = [v] ∧ Pl H v t ∧ Q (.bl (isIntV v)) H
def spWithin : Sp := fun vs H Q _ => ∃ (lo hi : Int) (v : V) (t : Value), vs = [.int lo, .int hi, v] ∧ Pl H v t ∧ Q (.bl (withinV lo hi v)) H
def spReqNum (C : Addr) : Sp := fun vs H Q E => ∃ (lo hi : Int) (v : V) (t : Value), vs = [.int lo, .int hi, v] ∧ Pl H v t ∧ (withinV lo hi v = true → Q .non H) ∧ (withinV lo hi v = false → ∀ d, H d = none → E (.ref C) (some d) (upd H d (.xd [(("value" : Str), v)])))
def spReqB (C : Addr) (lo hi : Int) : Sp := fun vs H Q E => ∃ (v : V) (t : Value), vs = [v] ∧ Pl H v t ∧ (withinV lo hi v = true → Q .non H) ∧ (withinV lo hi v = false → ∀ d, H d = none → E (.ref C) (some d) (upd H d (.xd [(("value" : Str), v)])))
def spWordForm : Sp := fun vs H Q _ => ∃ (b : Nat) (v : V) (t : Value), vs = [.int (b : Int), v] ∧ 2 ≤ b ∧ b ≤ 5 ∧ Pl H v t ∧ Q (.bl (wordV b v)) H
section
variable {P : Program} {w : World} {K : PySem.W.Frag} {mg : Str → Option Value} {base : Heap}
theorem scIsInt : FnScope ["value"] ["value"] (defScope sIsInt) := ⟨rfl, rfl, rfl, by decide +kernel, rfl, by decide +kernel, by decide +kernel⟩
theorem kit_int {H : Hp} {v : V} {t : Value} (p : Pl H v t) : ∃ b1 b2, PySem.W.kitOne K t (.type "int") = some b1 ∧ PySem.W.kitOne K t (.type "bool") = some b2 ∧ (b1 && !b2) = isIntV v := by
  cases p with
  | non => exact ⟨false, false, kit_ty (by decide +kernel), kit_ty (by decide +kernel), rfl⟩
  | bl b => exact ⟨true, true, kit_ty (by decide +kernel), kit_ty (by decide +kernel), rfl⟩
  | int n => exact ⟨true, false, kit_ty (by decide +kernel), kit_ty (by decide +kernel), rfl⟩
  | str s => exact ⟨false, false, kit_ty (by decide +kernel), kit_ty (by decide +kernel), rfl⟩
  | lst h => exact ⟨false, false, kit_ty (by decide +kernel), kit_ty (by decide +kernel), rfl⟩
  | tup h => exact ⟨false, false, kit_ty (by decide +kernel), kit_ty (by decide +kernel), rfl⟩
  | dct h => exact ⟨false, false, kit_ty (by decide +kernel), kit_ty (by decide +kernel), rfl⟩
theorem ok_isint {f : Addr} {fd : FuncData} (F : Fun K "is_integer" "is_integer" sIsInt f fd) (N : Nm mg) : FnOk P w K mg base CX0 1 f fd ["value"] spIsInt := by
  refine F.ok scIsInt (fun vs H Q E h => ?_) (fun cdv A outer s H vs Q E hr h => ?_)
  · obtain ⟨v, t, rfl, _⟩ := h
    rfl
  · obtain ⟨v, t, rfl, pl, k⟩ := h
    refine ⟨_, pss_one (ps_ret (pe_and (pe_callB call_isi (by rfl) N.isinst PyProof.Rows.boot_isinstance (pa_cons (pv 0) (pa_cons (pe_bltn (v := .ty "int") (by rfl) N.int PyProof.Rows.boot_int rfl) pa_nil)))
      (pe_one (pe_not (pe_callB call_isi (by rfl) N.isinst PyProof.Rows.boot_isinstance (pa_cons (pv 0) (pa_cons (pe_bltn (v := .ty "bool") (by rfl) N.bool PyProof.Rows.boot_bool rfl) pa_nil))))))), ?_⟩
    obtain ⟨b1, b2, e1, e2, e3⟩ := kit_int (K := K) pl
    refine ⟨_, rfl, _, _, _, _, b1, rfl, .ty "int", pl.tyx, e1, _, rfl, ?_⟩
    cases b1 with
    | false =>
      refine iteF ?_
      rw [← e3] at k
      exact k
    | true =>
      refine iteT ?_
      refine ⟨_, rfl, _, _, _, _, b2, rfl, .ty "bool", pl.tyx, e2, _, rfl, ?_⟩
      rw [← e3] at k
      exact k
theorem scWithin : FnScope ["low", "high", "value"] ["low", "high", "value"] (defScope sWithin) := ⟨rfl, rfl, rfl, by decide +kernel, rfl, by decide +kernel, by decide +kernel⟩
theorem ok_within {f fI : Addr} {fd fdI : FuncData} (F : Fun K "is_integer_within" "is_integer_within" sWithin f fd) (GI : FnOk P w K mg base CX0 1 fI fdI ["value"] spIsInt) (cI : Cal K mg "is_integer" fI fdI ["value"]) : FnOk P w K mg base CX0 2 f fd ["low", "high", "value"] spWithin := by
  refine F.ok scWithin (fun vs H Q E h => ?_) (fun cdv A outer s H vs Q E hr h => ?_)
  · obtain ⟨lo, hi, v, t, rfl, _⟩ := h
    rfl
  · obtain ⟨lo, hi, v, t, rfl, pl, k⟩ := h
    refine ⟨_, pss_one (ps_ret (pe_and (pe_call GI hr rfl cI.mg cI.kp cI.b .nil pass0 (pa_cons (pv 2) pa_nil)) (pe_one (pe_chain op_le op_le (pv 0) (pv 2) (pv 1))))), ?_⟩
    refine ⟨_, rfl, v, t, rfl, pl, _, rfl, ?_⟩
    cases v with
    | int n =>
      refine iteT ?_
      refine ⟨_, rfl, _, rfl, _, _, rfl, rfl, _, rfl, ?_⟩
      by_cases h1 : lo ≤ n
      · refine iteTB (decide_eq_true h1) ?_
        refine ⟨_, rfl, _, _, rfl, rfl, ?_⟩
        have e : withinV lo hi (.int n) = decide (n ≤ hi) := by
          show (decide (lo ≤ n) && decide (n ≤ hi)) = _
          rw [decide_eq_true h1, Bool.true_and]
        rw [e] at k
        exact k
      · refine iteFB (decide_eq_false h1) ?_
        have e : withinV lo hi (.int n) = false := by
          show (decide (lo ≤ n) && decide (n ≤ hi)) = _
          rw [decide_eq_false h1, Bool.false_and]
        rw [e] at k
        exact k
    | _ => exact iteF k
theorem scReqNum : FnScope ["low", "high", "number"] ["low", "high", "number"] (defScope sReqNum) := ⟨rfl, rfl, rfl, by decide +kernel, rfl, by decide +kernel, by decide +kernel⟩
theorem ok_reqnum {f fI C fC : Addr} {fd fdI : FuncData} (F : Fun K "require_number" "require_number" sReqNum f fd) (GI : FnOk P w K mg base CX0 2 fI fdI ["low", "high", "value"] spWithin) (cI : Cal K mg "is_integer_within" fI fdI ["low", "high", "value"])
    (T : VNum.NumTxt P K mg C fC) : FnOk P w K mg base (L2.CX P w) 3 f fd ["low", "high", "number"] (spReqNum C) := by
  refine F.okX scReqNum (fun vs H Q E h => ?_) (fun cdv A outer s H vs Q E hr h => ?_)
  · obtain ⟨lo, hi, v, t, rfl, _⟩ := h
    rfl
  · obtain ⟨lo, hi, v, t, rfl, pl, k1, k2⟩ := h
    refine ⟨_, pss_one (ps_if (pt_not (pt_val (pe_call GI hr rfl cI.mg cI.kp cI.b .nil pass0 (pa_cons (pv 0) (pa_cons (pv 1) (pa_cons (pv 2) pa_nil))))))
      (pss_one (ps_raise rfl (takes_of rfl rfl rfl rfl) (VNum.pmk_num T hr (pa_cons (pv 2) pa_nil)))) pss_nil), ?_⟩
    refine ⟨_, rfl, _, rfl, _, rfl, lo, hi, v, t, rfl, pl, _, rfl, ?_⟩
    cases e : withinV lo hi v with
    | true => exact iteF (k1 e)
    | false =>
      refine iteT ?_
      exact ⟨_, rfl, v, rfl, fun d hd => k2 e d hd⟩
theorem scReqBase : FnScope ["base"] ["base"] (defScope sReqBase) := ⟨rfl, rfl, rfl, by decide +kernel, rfl, by decide +kernel, by decide +kernel⟩
theorem ok_reqbase {f fN C : Addr} {fd fdN : FuncData} (F : Fun K "require_base" "require_base" sReqBase f fd) (GN : FnOk P w K mg base (L2.CX P w) 3 fN fdN ["low", "high", "number"] (spReqNum C)) (cN : Cal K mg "require_number" fN fdN ["low", "high", "number"]) (N : Nm mg) :
    FnOk P w K mg base (L2.CX P w) 4 f fd ["base"] (spReqB C 2 5) := by
  refine F.okX scReqBase (fun vs H Q E h => ?_) (fun cdv A outer s H vs Q E hr h => ?_)
  · obtain ⟨v, t, rfl, _⟩ := h
    rfl
  · obtain ⟨v, t, rfl, pl, k1, k2⟩ := h
    obtain ⟨t1, m1⟩ := N.minB
    obtain ⟨t2, m2⟩ := N.maxB
    refine ⟨_, pss_one (ps_expr (pe_call GN hr rfl cN.mg cN.kp cN.b .nil (passes_call (takes_of rfl rfl rfl rfl) (fun _ _ _ _ h => h)) (pa_cons (pe_glob (v := .int 2) rfl m1 ⟨_, rfl⟩) (pa_cons (pe_glob (v := .int 5) rfl m2 ⟨_, rfl⟩) (pa_cons (pv 0) pa_nil))))), ?_⟩
    exact ⟨_, rfl, 2, 5, v, t, rfl, pl, k1, k2⟩
theorem scReqRoots : FnScope ["roots"] ["roots"] (defScope sReqRoots) := ⟨rfl, rfl, rfl, by decide +kernel, rfl, by decide +kernel, by decide +kernel⟩
theorem ok_reqroots {f fN C : Addr} {fd fdN : FuncData} (F : Fun K "require_roots" "require_roots" sReqRoots f fd) (GN : FnOk P w K mg base (L2.CX P w) 3 fN fdN ["low", "high", "number"] (spReqNum C)) (cN : Cal K mg "require_number" fN fdN ["low", "high", "number"]) (N : Nm mg) :
    FnOk P w K mg base (L2.CX P w) 4 f fd ["roots"] (spReqB C 1 5000) := by
  refine F.okX scReqRoots (fun vs H Q E h => ?_) (fun cdv A outer s H vs Q E hr h => ?_)
  · obtain ⟨v, t, rfl, _⟩ := h
    rfl
  · obtain ⟨v, t, rfl, pl, k1, k2⟩ := h
    obtain ⟨t2, m2⟩ := N.maxR
    refine ⟨_, pss_one (ps_expr (pe_call GN hr rfl cN.mg cN.kp cN.b .nil (passes_call (takes_of rfl rfl rfl rfl) (fun _ _ _ _ h => h)) (pa_cons pe_int (pa_cons (pe_glob (v := .int 5000) rfl m2 ⟨_, rfl⟩) (pa_cons (pv 0) pa_nil))))), ?_⟩
    exact ⟨_, rfl, 1, 5000, v, t, rfl, pl, k1, k2⟩
theorem scWordForm : FnScope ["base", "value"] ["base", "value"] (defScope sWordForm) := ⟨rfl, rfl, rfl, by decide +kernel, rfl, by decide +kernel, by decide +kernel⟩
theorem kit_str {H : Hp} {v : V} {t : Value} (p : Pl H v t) : (∃ s, v = .str s ∧ s.length ≤ 9000 ∧ PySem.W.kitOne K t (.type "str") = some true) ∨ (PySem.W.kitOne K t (.type "str") = some false ∧ ∀ b, wordV b v = false) := by
  cases p with
  | str s h => exact .inl ⟨s, rfl, h, kit_ty (by decide +kernel)⟩
  | _ => exact .inr ⟨kit_ty (by decide +kernel), fun _ => rfl⟩
theorem ok_wordform {f : Addr} {fd : FuncData} (F : Fun K "has_word_form" "has_word_form" sWordForm f fd) (N : Nm mg) : FnOk P w K mg base CX0 1 f fd ["base", "value"] spWordForm := by
  refine F.ok scWordForm (fun vs H Q E h => ?_) (fun cdv A outer s H vs Q E hr h => ?_)
  · obtain ⟨b, v, t, rfl, _⟩ := h
    rfl
  · obtain ⟨b, v, t, rfl, b2, b5, pl, k⟩ := h
    obtain ⟨td, md⟩ := N.dig
    refine ⟨_, pss_one (ps_ret (pe_and (pe_callB call_isi (by rfl) N.isinst PyProof.Rows.boot_isinstance (pa_cons (pv 1) (pa_cons (pe_bltn (v := .ty "str") (by rfl) N.str PyProof.Rows.boot_str rfl) pa_nil)))
      (pe_one (pe_cmpR op_eq (pe_bm PySem.F.plainAttrs_str PySem.F.slot_str_strip PySem.F.type_str_strip mt_stripChars (pv 1) (pa_cons (pe_slice sl_str (pe_glob (v := .str "01234") rfl md ⟨_, rfl⟩) po_none (po_some (pv 0))) pa_nil)) pe_str (nomark _))))), ?_⟩
    have ed : cutS ("01234" : Str) none (some (b : Int)) = S (digs b) := by
      rw [s01234, cut_take (by simpa using b5)]
      rfl
    rcases kit_str (K := K) pl with ⟨s1, rfl, hs, e⟩ | ⟨e, hw⟩
    · refine ⟨_, rfl, _, _, _, _, true, rfl, .ty "str", pl.tyx, e, _, rfl, ?_⟩
      refine iteT ?_
      refine ⟨_, rfl, rfl, _, rfl, _, rfl, _, rfl, len5, _, _, rfl, rfl, Nat.le_trans hs (by decide), rfl, ?_⟩
      rw [ed, word_strip s1 b5]
      exact k
    · refine ⟨_, rfl, _, _, _, _, false, rfl, .ty "str", pl.tyx, e, _, rfl, ?_⟩
      rw [hw] at k
      exact iteF k
end
end Vf


set_option Elab.async false
set_option maxRecDepth 100000
set_option maxHeartbeats 4000000
set_option exponentiation.threshold 3000
namespace Vf
open PySem L2 SX Vm
open PySem.Builtin.Str PySem.StrLaws
theorem nf_least {f : Nat → Nat} {h q : List Nat} {s : Nat} (n : Nf f h q) (l : Least q s) : s = q.length := by
  rcases Nat.lt_or_ge s q.length with hlt | hge
  · refine absurd (fun i hi => ?_) (n.prim s h.length l.pos hlt)
    rw [← n.is, ← n.is, ev_ge (by omega), ev_ge hi, show i + s - h.length = i - h.length + s by omega]
    exact l.per _
  · exact Nat.le_antisymm (l.le n.ne) hge
theorem nf_ends {f : Nat → Nat} {h q : List Nat} (n : Nf f h q) : Txt.endswith (S h) ⟨#[q.getD (q.length - 1) 0]⟩ = false := by
  have hq := n.ne
  unfold Txt.endswith
  rw [Bool.and_eq_false_iff]
  by_cases h0 : h.length = 0
  · left
    have e : h = [] := List.length_eq_zero_iff.mp h0
    subst e
    rfl
  · right
    refine Bool.eq_false_iff.mpr fun z => ?_
    have key := (subAt_one (S h) (q.getD (q.length - 1) 0) (h.length - 1)).mp ⟨by rw [S_len]; show h.length - 1 + 1 ≤ h.length; omega, by rw [S_len] at z; exact z⟩
    refine n.trim (by omega) ?_
    rw [← n.is, ← n.is, ev_lt (show h.length - 1 < h.length by omega), ev_ge (show h.length ≤ h.length - 1 + q.length by omega), show h.length - 1 + q.length - h.length = q.length - 1 by omega, g_lt (show q.length - 1 < q.length by omega)]
    have key' : h[h.length - 1]? = some (q.getD (q.length - 1) 0) := key
    rw [show h.getD (h.length - 1) 0 = h[h.length - 1]?.getD 0 from List.getD_eq_getElem?_getD, key']
    rfl
theorem wordV_of {b : Nat} {l : List Nat} (w : IsW (b : Int) l) : wordV b (.str (S l)) = true := by
  show l.all _ = true
  rw [List.all_eq_true]
  intro c hc
  obtain ⟨h1, h2⟩ := w c hc
  have h2' : c < 48 + b := by omega
  simp [h1, h2']
theorem of_wordV {b : Nat} {s : Str} (w : wordV b (.str s) = true) : IsW (b : Int) s.cps.toList := fun c hc => by
  have z := (List.all_eq_true.mp (show s.cps.toList.all _ = true from w)) c hc
  simp at z
  omega
noncomputable instance decLeast (y : List Nat) (s : Nat) : Decidable (Least y s) := Classical.propDecidable _
/-- whether words are those of a normal form -/
noncomputable def sfB (x y : List Nat) : Bool := decide (Least y y.length) && !(Txt.endswith (S x) ⟨#[y.getD (y.length - 1) 0]⟩)
theorem sfB_nf {f : Nat → Nat} {x y : List Nat} (n : Nf f x y) : sfB x y = true := by
  unfold sfB
  obtain ⟨s, e, l⟩ := find_least n.ne
  have := nf_least n l
  subst this
  rw [decide_eq_true l, nf_ends n]
  rfl
/-- what has_stream_form says -/
inductive SF (H : Hp) (b : Nat) (R : Int) : V → Bool → Prop where
  | non {v : V} {t : Value} (p : Pl H v t) (n : ∀ q xs, v = .ref q → H q ≠ some (.tup xs)) : SF H b R v false
  | len {p : Addr} {xs : List V} (h : H p = some (.tup xs)) (n : xs.length ≠ 3) : SF H b R (.ref p) false
  | root {p : Addr} {r x y : V} {tr : Value} (h : H p = some (.tup [r, x, y])) (pr : ∀ H0 : Hp, Pl H0 r tr) (n : withinV 0 (R - 1) r = false) : SF H b R (.ref p) false
  | head {p : Addr} {r x y : V} {tr tx : Value} (h : H p = some (.tup [r, x, y])) (pr : ∀ H0 : Hp, Pl H0 r tr) (w : withinV 0 (R - 1) r = true) (px : ∀ H0 : Hp, Pl H0 x tx) (n : wordV b x = false) : SF H b R (.ref p) false
  | per {p : Addr} {r x y : V} {tr tx ty : Value} (h : H p = some (.tup [r, x, y])) (pr : ∀ H0 : Hp, Pl H0 r tr) (w : withinV 0 (R - 1) r = true) (px : ∀ H0 : Hp, Pl H0 x tx) (wx : wordV b x = true) (py : ∀ H0 : Hp, Pl H0 y ty) (n : wordV b y = false ∨ y = .str "") : SF H b R (.ref p) false
  | fin {p : Addr} {r : V} {x y : List Nat} {tr : Value} (h : H p = some (.tup [r, .str (S x), .str (S y)])) (pr : ∀ H0 : Hp, Pl H0 r tr) (w : withinV 0 (R - 1) r = true) (wx : IsW b x) (wy : IsW b y) (y0 : 0 < y.length) (lx : x.length ≤ 9000) (ly : y.length ≤ 1000) : SF H b R (.ref p) (sfB x y)
theorem pl_keep0 {H H' : Hp} {v : V} {t : Value} (h : Pl H v t) (k : ∀ q o, v = .ref q → (∀ ps, o ≠ .tbl ps) → H q = some o → H' q = some o) : Pl H' v t := by
  cases h with
  | non => exact .non
  | bl b => exact .bl b
  | int n => exact .int n
  | str x h => exact .str x h
  | lst e => exact .lst (k _ _ rfl (fun _ z => nomatch z) e)
  | tup e => exact .tup (k _ _ rfl (fun _ z => nomatch z) e)
  | dct e => exact .dct (k _ _ rfl (fun _ z => nomatch z) e)
theorem nt_keep {H H' : Hp} {v : V} {t : Value} (p : Pl H v t) (n : ∀ q xs, v = .ref q → H q ≠ some (.tup xs)) (k : ∀ q o, v = .ref q → (∀ ps, o ≠ .tbl ps) → H q = some o → H' q = some o) : ∀ q xs, v = .ref q → H' q ≠ some (.tup xs) := by
  intro q xs e
  cases p with
  | lst h =>
    cases e
    rw [k _ (.lst _) rfl (fun _ z => nomatch z) h]
    intro z
    cases z
  | tup h =>
    cases e
    exact absurd h (n _ _ rfl)
  | dct h =>
    cases e
    rw [k _ (.dK _) rfl (fun _ z => nomatch z) h]
    intro z
    cases z
  | _ => cases e
theorem SF.keep {H H' : Hp} {b : Nat} {R : Int} {v : V} {res : Bool} (s : SF H b R v res) (k : ∀ q o, v = .ref q → (∀ ps, o ≠ .tbl ps) → H q = some o → H' q = some o) : SF H' b R v res := by
  cases s with
  | non p n => exact .non (pl_keep0 p k) (nt_keep p n k)
  | len h n => exact .len (k _ _ rfl (fun _ z => nomatch z) h) n
  | root h pr n => exact .root (k _ _ rfl (fun _ z => nomatch z) h) pr n
  | head h pr w px n => exact .head (k _ _ rfl (fun _ z => nomatch z) h) pr w px n
  | per h pr w px wx py n => exact .per (k _ _ rfl (fun _ z => nomatch z) h) pr w px wx py n
  | fin h pr w wx wy y0 lx ly => exact .fin (k _ _ rfl (fun _ z => nomatch z) h) pr w wx wy y0 lx ly
def spStreamForm : Sp := fun vs H Q _ => ∃ (b : Nat) (R : Int) (v : V) (res : Bool), vs = [.int (b : Int), .int R, v] ∧ 2 ≤ b ∧ b ≤ 5 ∧ SF H b R v res ∧ Q (.bl res) H
def spIsStream : Sp := fun vs H Q _ => ∃ (b : Nat) (R r : Int) (p : Addr) (h q : List Nat) (f : Nat → Nat), vs = [.int (b : Int), .int R, .ref p] ∧ 2 ≤ b ∧ b ≤ 5 ∧ 1 ≤ R ∧ R ≤ 5000 ∧ 0 ≤ r ∧ r ≤ R - 1 ∧ H p = some (.tup [.int r, .str (S h), .str (S q)]) ∧ Nf f h q ∧ h.length ≤ 1000 ∧ q.length ≤ 1000 ∧ IsW b h ∧ IsW b q ∧ Q (.bl true) H
theorem SF.right {H : Hp} {b : Nat} {R r : Int} {p : Addr} {h q : List Nat} {f : Nat → Nat} (hp : H p = some (.tup [.int r, .str (S h), .str (S q)])) (r0 : 0 ≤ r) (r1 : r ≤ R - 1) (nf : Nf f h q) (hl : h.length ≤ 9000) (ql : q.length ≤ 1000) (wh : IsW b h) (wq : IsW b q) : SF H b R (.ref p) true := by
  have w1 : withinV 0 (R - 1) (.int r) = true := by
    show (decide (0 ≤ r) && decide (r ≤ R - 1)) = true
    rw [decide_eq_true r0, decide_eq_true r1]
    rfl
  rw [← sfB_nf nf]
  exact .fin hp (fun _ => .int r) w1 wh wq nf.ne hl ql
theorem kit_tup {K : PySem.W.Frag} {H : Hp} {v : V} {t : Value} (p : Pl H v t) (n : ∀ q xs, v = .ref q → H q ≠ some (.tup xs)) : PySem.W.kitOne K t (.type "tuple") = some false := by
  cases p with
  | tup h => exact absurd h (n _ _ rfl)
  | _ => exact kit_ty (by decide +kernel)
section
variable {P : Program} {w : World} {K : PySem.W.Frag} {mg : Str → Option Value} {base : Heap}
/-- what is asked of an error class of the program's own without __init__ -/
structure PfxTxt (K : PySem.W.Frag) (mg : Str → Option Value) (x : Str) (C : Addr) : Prop where
  g : mg x = some (.ref C)
  ex : PySem.W.excIn K C [.type "ValueError", .type "Exception", .type "BaseException", .type "object"] "ValueError.__new__" = true
  kp : PySem.W.keepIn K (.ref C) = true
  bs : PySem.W.subIn K (.ref C) (.type "BaseException") = some true
  ty : PySem.W.typeIn K (.ref C) = some (.type "type")
/-- require_stream -/
def spReqStream (CS : Addr) : Sp := fun vs H Q E => ∃ (b : Nat) (R : Int) (v : V) (res : Bool), vs = [.int (b : Int), .int R, v] ∧ 2 ≤ b ∧ b ≤ 5 ∧ SF H b R v res ∧ (res = true → Q .non H) ∧ (res = false → E (.ref CS) none H)
/-- what has_prefix_form says -/
inductive PF (H : Hp) (b : Nat) (R : Int) : V → Bool → Prop where
  | non {v : V} {t : Value} (p : Pl H v t) (n : ∀ q xs, v = .ref q → H q ≠ some (.tup xs)) : PF H b R v false
  | len {p : Addr} {xs : List V} (h : H p = some (.tup xs)) (n : xs.length ≠ 2) : PF H b R (.ref p) false
  | fin {p : Addr} {r x : V} {tr tx : Value} (h : H p = some (.tup [r, x])) (pr : ∀ H0 : Hp, Pl H0 r tr) (px : ∀ H0 : Hp, Pl H0 x tx) : PF H b R (.ref p) (withinV 0 (R - 1) r && wordV b x)
theorem PF.keep {H H' : Hp} {b : Nat} {R : Int} {v : V} {res : Bool} (s : PF H b R v res) (k : ∀ q o, v = .ref q → (∀ ps, o ≠ .tbl ps) → H q = some o → H' q = some o) : PF H' b R v res := by
  cases s with
  | non p n => exact .non (pl_keep0 p k) (nt_keep p n k)
  | len h n => exact .len (k _ _ rfl (fun _ z => nomatch z) h) n
  | fin h pr px => exact .fin (k _ _ rfl (fun _ z => nomatch z) h) pr px
def spPfxForm : Sp := fun vs H Q _ => ∃ (b : Nat) (R : Int) (v : V) (res : Bool), vs = [.int (b : Int), .int R, v] ∧ 2 ≤ b ∧ b ≤ 5 ∧ PF H b R v res ∧ Q (.bl res) H
theorem scPfxForm : FnScope ["base", "roots", "value", "root", "word"] ["base", "roots", "value"] (defScope sPfxForm) := ⟨rfl, rfl, rfl, by decide +kernel, rfl, by decide +kernel, by decide +kernel⟩
theorem ok_pfxform {f fI fW : Addr} {fd fdI fdW : FuncData} (F : Fun K "has_prefix_form" "has_prefix_form" sPfxForm f fd) (GI : FnOk P w K mg base CX0 2 fI fdI ["low", "high", "value"] spWithin) (cI : Cal K mg "is_integer_within" fI fdI ["low", "high", "value"])
    (GW : FnOk P w K mg base CX0 1 fW fdW ["base", "value"] spWordForm) (cW : Cal K mg "has_word_form" fW fdW ["base", "value"]) (N : Nm mg) : FnOk P w K mg base CX0 3 f fd ["base", "roots", "value"] spPfxForm := by
  refine F.ok scPfxForm (fun vs H Q E h => ?_) (fun cdv A outer s H vs Q E hr h => ?_)
  · obtain ⟨b, R, v, res, rfl, _⟩ := h
    rfl
  · obtain ⟨b, R, v, res, rfl, b2, b5, sf, k⟩ := h
    have nd := scPfxForm.nd
    have hr1 := hr.mono (show 1 ≤ 2 by decide)
    refine ⟨_, pss_cons (ps_if (PW.pt (pw_or (pt_not (pt_val (pe_callB call_isi (by rfl) N.isinst PyProof.Rows.boot_isinstance (pa_cons (pv 2) (pa_cons (pe_bltn (v := .ty "tuple") (by rfl) N.tuple PyProof.Rows.boot_tuple rfl) pa_nil)))))
        (pw_or1 (pt_cmpR op_ne (pe_callB call_len_seq (by rfl) N.len boot_len (pa_cons (pv 2) pa_nil)) pe_int (nomark _)))))
        (pss_one (ps_ret pe_bl)) pss_nil)
      (pss_cons (ps_asg (pv 2) (pg_tup rfl (pgs_cons (pg_name (i := 3) nd rfl (.inl rfl)) (pgs_cons (pg_name (i := 4) nd rfl (.inl rfl)) pgs_nil))))
      (pss_one (ps_ret (pe_and (pe_call GI hr rfl cI.mg cI.kp cI.b .nil pass0 (pa_cons pe_int (pa_cons (pe_op op_sub (pv 1) pe_int) (pa_cons (pv 3) pa_nil))))
        (pe_one (pe_call GW hr1 rfl cW.mg cW.kp cW.b .nil pass0 (pa_cons (pv 0) (pa_cons (pv 4) pa_nil)))))))), ?_⟩
    cases sf with
    | non p n =>
      refine ⟨_, rfl, _, _, _, _, false, rfl, .ty "tuple", p.tyx, kit_tup p n, _, rfl, ?_⟩
      refine iteT ?_
      exact iteT k
    | @len p xs hp n =>
      refine ⟨_, rfl, _, _, _, _, true, rfl, .ty "tuple", (Pl.tup hp).tyx, kit_ty (by decide +kernel), _, rfl, ?_⟩
      refine iteF ?_
      refine ⟨_, rfl, _, _, rfl, .inr (SqT.of hp), rfl, _, rfl, ?_⟩
      exact iteTB (by rw [decide_eq_false (fun z => n (by have := V.int.inj z; omega))]; rfl) k
    | @fin p r x tr tx hp pr px =>
      refine ⟨_, rfl, _, _, _, _, true, rfl, .ty "tuple", (Pl.tup hp).tyx, kit_ty (by decide +kernel), _, rfl, ?_⟩
      refine iteF ?_
      refine ⟨_, rfl, p, _, rfl, .inr (SqT.of hp), rfl, _, rfl, ?_⟩
      refine iteFB rfl ?_
      refine ⟨_, rfl, p, _, rfl, SqT.of hp, rfl, _, _, rfl, _, _, rfl, rfl, ?_⟩
      refine ⟨_, rfl, _, _, rfl, rfl, _, rfl, 0, R - 1, _, _, rfl, pr _, _, rfl, ?_⟩
      cases hw : withinV 0 (R - 1) r with
      | false =>
        rw [hw] at k
        exact iteF k
      | true =>
        refine iteT ?_
        rw [hw] at k
        exact ⟨_, rfl, _, rfl, b, x, _, rfl, b2, b5, px _, k⟩
/-- require_prefix -/
def spReqPfx (CX : Addr) : Sp := fun vs H Q E => ∃ (b : Nat) (R : Int) (v : V) (res : Bool), vs = [.int (b : Int), .int R, v] ∧ 2 ≤ b ∧ b ≤ 5 ∧ PF H b R v res ∧ (res = true → Q .non H) ∧ (res = false → E (.ref CX) none H)
theorem scReqPfx : FnScope ["base", "roots", "prefix"] ["base", "roots", "prefix"] (defScope sReqPfx) := ⟨rfl, rfl, rfl, by decide +kernel, rfl, by decide +kernel, by decide +kernel⟩
theorem ok_reqpfx {f fF CX : Addr} {fd fdF : FuncData} (F : Fun K "require_prefix" "require_prefix" sReqPfx f fd) (GF : FnOk P w K mg base CX0 3 fF fdF ["base", "roots", "value"] spPfxForm) (cF : Cal K mg "has_prefix_form" fF fdF ["base", "roots", "value"])
    (TS : PfxTxt K mg "InvalidPrefix" CX) : FnOk P w K mg base (L2.CX P w) 4 f fd ["base", "roots", "prefix"] (spReqPfx CX) := by
  refine F.okX scReqPfx (fun vs H Q E h => ?_) (fun cdv A outer s H vs Q E hr h => ?_)
  · obtain ⟨b, R, v, res, rfl, _⟩ := h
    rfl
  · obtain ⟨b, R, v, res, rfl, b2, b5, sf, k1, k2⟩ := h
    refine ⟨_, pss_one (ps_if (pt_not (pt_val (pe_call GF hr rfl cF.mg cF.kp cF.b .nil pass0 (pa_cons (pv 0) (pa_cons (pv 1) (pa_cons (pv 2) pa_nil))))))
      (pss_one (ps_raise rfl (takes_of rfl rfl rfl rfl) (pmk_own PySem.F.excBase_ValueError TS.ex TS.g TS.kp (raises_own TS.bs TS.ty) rfl))) pss_nil), ?_⟩
    refine ⟨_, rfl, _, rfl, _, rfl, b, R, v, res, rfl, b2, b5, sf, _, rfl, ?_⟩
    cases res with
    | true => exact iteF (k1 rfl)
    | false =>
      refine iteT ?_
      exact k2 rfl
end
end Vf


set_option Elab.async false
set_option maxRecDepth 100000
set_option maxHeartbeats 4000000
set_option exponentiation.threshold 3000
namespace Vm
/-- the first n digits -/
def begN (h q : List Nat) (n : Nat) : List Nat := (List.range n).map (ev h q)
theorem begN_len {h q : List Nat} {n : Nat} : (begN h q n).length = n := by unfold begN; rw [List.length_map, List.length_range]
theorem begN_get {h q : List Nat} {n i : Nat} (hi : i < n) : (begN h q n).getD i 0 = ev h q i := by
  unfold begN
  rw [List.getD_eq_getElem?_getD, List.getElem?_map, List.getElem?_range hi]
  rfl
theorem beg_N {h q : List Nat} {k many : Nat} (hk : many ≤ h.length + k * q.length) : beg h q k many = begN h q many := by
  refine ext_getD (by rw [beg_len hk, begN_len]) fun i hi => ?_
  rw [beg_len hk] at hi
  rw [beg_get hk hi, begN_get hi]
theorem begN_eq {h q h' q' : List Nat} {n : Nat} : begN h q n = begN h' q' n ↔ ∀ i, i < n → ev h q i = ev h' q' i := by
  constructor
  · intro e i hi
    rw [← begN_get hi, e, begN_get hi]
  · intro e
    refine ext_getD (by rw [begN_len, begN_len]) fun i hi => ?_
    rw [begN_len] at hi
    rw [begN_get hi, begN_get hi, e i hi]
theorem begN_is {h q w : List Nat} : begN h q w.length = w ↔ ∀ i, i < w.length → ev h q i = w.getD i 0 := by
  constructor
  · intro e i hi
    rw [← begN_get hi, e]
  · intro e
    refine ext_getD begN_len fun i hi => ?_
    rw [begN_len] at hi
    rw [begN_get hi, e i hi]
/-- w in the place of the first b digits -/
def shF (w : List Nat) (b : Nat) (f : Nat → Nat) (i : Nat) : Nat := if i < w.length then w.getD i 0 else f (i - w.length + b)
theorem shF_lt {w : List Nat} {b : Nat} {f : Nat → Nat} {i : Nat} (h : i < w.length) : shF w b f i = w.getD i 0 := if_pos h
theorem shF_ge {w : List Nat} {b : Nat} {f : Nat → Nat} {i : Nat} (h : w.length ≤ i) : shF w b f i = f (i - w.length + b) := if_neg (by omega)
theorem ev_sh1 {h q w : List Nat} {b : Nat} (hb : b ≤ h.length) (i : Nat) : ev (w ++ h.drop b) q i = shF w b (ev h q) i := by
  have hl : (w ++ h.drop b).length = w.length + (h.length - b) := by rw [List.length_append, List.length_drop]
  by_cases hi : i < w.length
  · rw [shF_lt hi, ev_lt (by omega), getD_app hi]
  · rw [shF_ge (by omega)]
    by_cases h2 : i - w.length + b < h.length
    · rw [ev_lt h2, ev_lt (by omega), getD_app2 (by omega), getD_drop, Nat.add_comm b]
    · rw [ev_ge (by omega), ev_ge (by omega)]
      congr 1
      omega
theorem ev_sh2 {h q w : List Nat} {b : Nat} (hb : h.length ≤ b) (q0 : 0 < q.length) (i : Nat) : ev w (q.drop ((b - h.length) % q.length) ++ q.take ((b - h.length) % q.length)) i = shF w b (ev h q) i := by
  by_cases hi : i < w.length
  · rw [shF_lt hi, ev_lt hi]
  · have hm := Nat.mod_lt (b - h.length) q0
    rw [shF_ge (by omega), ev_ge (by omega), g_rot (by omega), ev_ge (by omega)]
    unfold g
    rw [Nat.add_mod_mod]
    congr 2
    omega
theorem ev_sh {h q w : List Nat} {b : Nat} (q0 : 0 < q.length) (i : Nat) : ev (w ++ h.drop b) (q.drop ((b - h.length) % q.length) ++ q.take ((b - h.length) % q.length)) i = shF w b (ev h q) i := by
  rcases Nat.le_total b h.length with hb | hb
  · have : b - h.length = 0 := by omega
    rw [this, Nat.zero_mod, List.drop_zero, List.take_zero, List.append_nil]
    exact ev_sh1 hb i
  · rw [List.drop_eq_nil_of_le hb, List.append_nil]
    exact ev_sh2 hb q0 i
/-- twice in the place of one another -/
theorem shF_shF {w v : List Nat} {b : Nat} {f g : Nat → Nat} (hg : ∀ i, g i = shF w b f i) (i : Nat) : shF v w.length g i = shF v b f i := by
  by_cases hi : i < v.length
  · rw [shF_lt hi, shF_lt hi]
  · rw [shF_ge (by omega), shF_ge (by omega), hg, shF_ge (by omega)]
    congr 1
    omega
theorem shF_back {w : List Nat} {f : Nat → Nat} (h : ∀ i, i < w.length → f i = w.getD i 0) (i : Nat) : shF w w.length f i = f i := by
  by_cases hi : i < w.length
  · rw [shF_lt hi, h i hi]
  · rw [shF_ge (by omega)]
    congr 1
    omega
end Vm


set_option Elab.async false
set_option maxRecDepth 100000
set_option maxHeartbeats 4000000
/-! Calls of which it is known that no repr is under way around them; repr of plain data; counting in a list. -/
namespace VG
open PySem PySem.Spec PyProof.Rows L2
/-- a def's promise, where no repr runs around the call -/
structure FnG (P : Program) (w : World) (K : PySem.W.Frag) (mg : Str → Option Value) (base : Heap) (k : Nat) (f : Addr) (fd : FuncData) (ps : List Str) (sp : Sp) : Prop where
  len : ∀ vs H Q E, sp vs H Q E → vs.length = ps.length
  at_ : ∀ {A : Around} {outer : List Env} {s : Shared} {H : Hp} {args : Args} {us : List Value} {vs : List V} {Q : VK} {E : XK}, A.guards = some [] → Room k A → Env0 P w K mg base A outer s H → BindsTo s fd args (ps.zip us) → Vals vs us → sp vs H Q E →
    codeAny (model P w) A (.call (.ref f) args) (CR L2.CX0 outer P w H s Q E) s
section
variable {P : Program} {w : World} {K : PySem.W.Frag} {mg : Str → Option Value} {base : Heap}
theorem FnG.of {x qual : Str} {st : Stmt} {f : Addr} {fd : FuncData} {N ps : List Str} {k : Nat} {sp : Sp} (F : Fun K x qual st f fd) (S : FnScope N ps (defScope st)) (len : ∀ vs H Q E, sp vs H Q E → vs.length = ps.length)
    (body : ∀ (cdv : Value) (A : Around) (outer : List Env) (s : Shared) (H : Hp) (vs : List V) (Q : VK) (E : XK), A.guards = some [] → Room k (A.deeper (envOfC qual (defScope st) s.heap.objs.size f cdv)) → PySem.W.codeIn K cdv qual = true → (∃ (oc : Value) (od : Option Addr) (kV doc pm : Value) (an : Option Addr) (ct : Value) (osl : Array (Option Value)), K.lookup f = some ⟨oc, od, .func (PySem.W.fnOf x qual (defArgs st) (defBody st) (defScope st) .none kV doc pm an cdv ct), osl⟩) → sp vs H Q E →
      ∃ t, PSs (cxOf L2.CX0 P w K mg base N qual (defScope st) f cdv A outer s H E).nox (defBody st) t ∧ t { nx := fun _ H' => Q .non H', rt := Q } (L2.start N vs) H) : FnG P w K mg base (k + 1) f fd ps sp := by
  obtain ⟨oc, od, kV, doc, pm, an, cdv, ct, osl, rfl, lk, hcd⟩ := F.ex
  refine ⟨len, fun {A outer s H args us vs Q E} hg hr e0 hb r hs => LamX.run_ofS lk hcd S hr e0 hb r (len _ _ _ _ hs) fun hr' => ?_⟩
  obtain ⟨t, h1, h2⟩ := body cdv A outer s H vs Q E hg hr' hcd ⟨_, _, _, _, _, _, _, _, lk⟩ hs
  exact ⟨t, h1.nox, h2⟩
end
section
variable {X : Cx} {k : Nat} {f : Addr} {fd : FuncData} {ps : List Str} {sp : Sp} {x : Str} {p pos : Pos} {e : Expr} {es : List Expr} {t : TA}
theorem pe_callG (G : FnG X.prog X.w X.K X.mg X.base k f fd ps sp) (gd : X.A.guards = some []) (hr : Room k X.A) (hg : Gl X x) (hm : X.mg x = some (.ref f)) (hk : PySem.W.keepIn X.K (.ref f) = true) (hb : Binds X.K fd ps [])
    (ha : PA X (e :: es) t) (hdb : (x == ("__debug__" : Str)) = false := by decide) (he : starEach (e :: es) X.env = (false, eval e X.env) :: starEach es X.env := by rfl) (hpl : (backTo pos (starEach es X.env)).any (·.1) = false := by rfl) :
    PE X (.Call (.Name x p) (e :: es) [] pos) (tCall sp [] E0 t) := by
  constructor
  intro pins s σ H Q I h
  refine wpAny_Call_Name_kw (ld_glob I hg hm (PySem.W.callWith_K I.ok.mod.kin hk (thn (ha.run pos pins s σ H _ I h) ?_) he hpl) hdb)
  rintro us s1 ⟨vs, H1, J, rv, q⟩
  refine ⟨J.kIn, ?_⟩
  have q' : sp vs H1 Q E0 := by
    have q0 : sp (vs ++ []) H1 Q E0 := q
    rw [List.append_nil] at q0
    exact q0
  have hz : (us ++ []).length = ps.length := by rw [List.append_nil, ← rv.length, G.len _ _ _ _ q']
  have hbt := hb s1 us J.kIn hz
  rw [List.append_nil] at hbt
  refine wpAny_call (codeAny_mono (G.at_ gd hr J.env0 hbt rv q') fun r s2 z => ?_)
  match r, z with
  | .ok (.ret _), z => exact J.after z
  | .ok .next, z => exact z.elim
  | .ok .brk, z => exact z.elim
  | .ok .cont, z => exact z.elim
  | .error _, z => exact (show False from z).elim
end
end VG


set_option Elab.async false
set_option maxRecDepth 100000
set_option maxHeartbeats 4000000
/-! The end of a law whose def's promise is of the kind FnG, with tables of code objects. -/
namespace VG
open PySem PySem.Spec PyProof.Rows L2
theorem endG {P : Program} {w : World} {K : PySem.W.Frag} {mg mb : Str → Option Value} {k : Nat} {fa a : Addr} {cs : List (Addr × Addr)} {fd : FuncData} {x : Str} {sp : Sp} {s : Shared} {vs : List Value} {ns : List Int}
    (kin : K.In s.heap) (gl : s.heap.Ns mainGlobals mg) (bl : s.heap.Ns builtinsNs mb) (bb : ∀ y : Str, y ≠ "__name__" → mb y = bootBuiltins y) (lim : s.heap.NoLimit) (gens : s.gens = #[])
    (tab : ∀ p ∈ cs, s.heap.get? p.2 = some { cls := .none, data := .fields #[] }) (out : ∀ p ∈ cs, K.lookup p.2 = none) (code : ∀ p ∈ cs, PySem.W.CodeHd s.heap p.1 p.2)
    (bm : ∃ (m : Addr) (o : Obj), mg "__builtins__" = some (.ref m) ∧ m ≠ builtinsNs ∧ s.heap.get? m = some o ∧ o.cls = .type "module" ∧ o.dict = some builtinsNs ∧ o.data = .plain)
    (scr : s.heap.get? a = some { cls := .type "list", data := .seq vs.toArray }) (hia : IntsAre vs ns) (sz : ns.length ≤ sizeLine) (room : Room k callerA)
    (F : ∀ base : Heap, K.In base → base.Ns mainGlobals mg → (∀ p ∈ cs, LamX.TabB base mg p.1 p.2) → FnG P w K mg base k fa fd [x] sp) (bind : ∀ (s : Shared) (u : Value), BindsTo s fd ⟨[u], []⟩ [(x, u)])
    (hsp : ∀ H : Hp, (∀ p ∈ cs, H p.2 = some (.tbl #[])) → SqL K H a (ns.map V.int) → sp [.ref a] H (fun v _ => v = .bl true) fun _ _ _ => False) :
    codeAny (model P w) callerA (.call (.ref fa) ⟨[.ref a], []⟩) (fun r s' => r = .ok (.ret (.bool true)) ∧ OldK s.heap s'.heap ∧ s'.os = s.os ∧ AllBare s'.gens) s := by
  classical
  have rv := vals_ints hia
  -- what is tracked: the tables, and the script unless the module holds it
  obtain ⟨H, hT, hA, hN⟩ : ∃ H : Hp, (∀ p ∈ cs, H p.2 = some (.tbl #[])) ∧ (K.lookup a = none → H a = some (.frz { cls := .type "list", data := .seq vs.toArray } (.lst (ns.map V.int)))) ∧
      ∀ b o, H b = some o → (o = .tbl #[] ∧ ∃ p ∈ cs, p.2 = b) ∨ (o = .frz { cls := .type "list", data := .seq vs.toArray } (.lst (ns.map V.int)) ∧ b = a ∧ K.lookup a = none) := by
    refine ⟨fun b => if ∃ p ∈ cs, p.2 = b then some (.tbl #[]) else if b = a ∧ K.lookup a = none then some (.frz { cls := .type "list", data := .seq vs.toArray } (.lst (ns.map V.int))) else none, fun p hp => if_pos ⟨p, hp, rfl⟩, fun hk => ?_, fun b o e => ?_⟩
    · have no : ¬ ∃ p ∈ cs, p.2 = a := fun ⟨p, hp, e⟩ => by
        have z := tab p hp
        rw [e, scr] at z
        cases z
      exact (if_neg no).trans (if_pos ⟨rfl, hk⟩)
    · by_cases c1 : ∃ p ∈ cs, p.2 = b
      · simp only [if_pos c1] at e
        exact .inl ⟨(Option.some.inj e).symm, c1⟩
      · simp only [if_neg c1] at e
        by_cases c2 : b = a ∧ K.lookup a = none
        · simp only [if_pos c2] at e
          exact .inr ⟨(Option.some.inj e).symm, c2⟩
        · simp only [if_neg c2] at e
          cases e
  have hseq : SqL K H a (ns.map V.int) := by
    cases hk : K.lookup a with
    | none => exact .inl (.inr ⟨_, hA hk⟩)
    | some o =>
      have e := kin a o hk
      rw [scr] at e
      cases e
      exact .inr ⟨_, vs.toArray, _, hk, rfl, rfl, rfl, by rw [List.size_toArray, hia.length]; exact sz, by simpa using rv⟩
  have ok : HOk P w H s.heap := fun b o e => by
    rcases hN b o e with ⟨rfl, p, hp, rfl⟩ | ⟨rfl, rfl, _⟩
    · exact tab p hp
    · exact ⟨scr, by rw [List.length_map]; exact sz, vs, _, rv, scr⟩
  -- an object of another shape is not tracked
  have off : ∀ {b : Addr} {o : Obj}, s.heap.get? b = some o → (∀ z n, o.data ≠ .seq z n) → o.data ≠ .fields #[] → H b = none := fun {b o} e h1 h2 => by
    cases q : H b with
    | none => rfl
    | some u =>
      rcases hN b u q with ⟨_, p, hp, rfl⟩ | ⟨_, rfl, _⟩
      · rw [tab p hp] at e
        cases e
        exact (h2 rfl).elim
      · rw [scr] at e
        cases e
        exact (h1 _ _ rfl).elim
  have offD : ∀ {b : Addr} {m : Str → Option Value}, s.heap.Ns b m → (hidT s.heap H).Ns b m := fun {b m} ⟨o, es, ep, e, d, r⟩ =>
    ⟨o, es, ep, hidT_get e (off e (fun z n y => by rw [d] at y; cases y) (fun y => by rw [d] at y; cases y)), d, r⟩
  have kinB : K.In (hidT s.heap H) := fun b o e => hidT_get (kin b o e) (by
    cases q : H b with
    | none => rfl
    | some u =>
      rcases hN b u q with ⟨_, p, hp, rfl⟩ | ⟨_, rfl, hk⟩
      · rw [out p hp] at e; cases e
      · rw [hk] at e; cases e)
  have md : L2.Mod K mg (hidT s.heap H) := ⟨kinB, offD gl, ⟨mb, offD bl, bb⟩, let ⟨mc, h1, h2⟩ := lim; ⟨mc, offD h1, h2⟩⟩
  have TB : ∀ p ∈ cs, LamX.TabB (hidT s.heap H) mg p.1 p.2 := fun p hp => by
    refine ⟨?_, ?_, fun z => ?_⟩
    · obtain ⟨o, us, file, tf, flags, tg, inF, text, tt, e1, c1, c2, c3, r⟩ := code p hp
      refine ⟨o, us, file, tf, flags, tg, inF, text, tt, hidT_get e1 (off e1 (fun z n y => ?_) (fun y => ?_)), c1, c2, c3, r⟩
      · rw [c2] at y; cases y
      · rw [c2] at y
        cases y
        simp at c3
    · obtain ⟨m, o, b1, b2, b3, b4, b5, b6⟩ := bm
      refine ⟨m, o, b1, b2, fun z => ?_, fun z => ?_, hidT_get b3 (off b3 (fun z n y => by rw [b6] at y; cases y) (fun y => by rw [b6] at y; cases y)), b4, b5, b6⟩
      · obtain ⟨o', es, ep, e, d, _⟩ := gl
        rw [z, e] at b3
        cases b3
        rw [d] at b6
        cases b6
      · rw [z, tab p hp] at b3
        cases b3
        cases b6
    · obtain ⟨o', es, ep, e, d, _⟩ := gl
      rw [z, tab p hp] at e
      cases e
      cases d
  have e0 : Env0 P w K mg (hidT s.heap H) callerA [] s H :=
    ⟨rfl, md, fun _ _ e => of_hidT e, Nat.le_of_eq (hidT_size _ _), trivial, fun _ hb => absurd hb (List.not_mem_nil), ok, .of_eq gens⟩
  refine codeAny_mono ((F _ kinB (offD gl) TB).at_ (args := ⟨[.ref a], []⟩) (us := [.ref a]) (vs := [.ref a]) rfl room e0 (bind s (.ref a)) (.cons rfl .nil) (hsp H hT hseq)) fun r s' z => ?_
  match r, z with
  | .ok .next, z => exact z.elim
  | .ok .brk, z => exact z.elim
  | .ok .cont, z => exact z.elim
  | .error _, z => exact (show False from z).elim
  | .ok (.ret u), z =>
    obtain ⟨v, H', os, bare, un, ok', rel, q⟩ := z
    have q' : v = .bl true := q
    subst q'
    obtain rfl : u = Value.bool true := rel
    -- every object but the tables is as it was; the tables have grown
    have same : ∀ b o, (∀ p ∈ cs, p.2 ≠ b) → s.heap.get? b = some o → s'.heap.get? b = some o := fun b o nb e => by
      cases q : H b with
      | none => exact un.keep b o e q (fun y => absurd y List.not_mem_nil) (fun y => absurd y List.not_mem_nil)
      | some t =>
        rcases hN b t q with ⟨_, p, hp, y⟩ | ⟨rfl, rfl, _⟩
        · exact absurd y (nb p hp)
        · have y := ok' b _ (un.frzs b _ _ q)
          rw [scr] at e
          cases e
          exact y.1
    have grown : ∀ p ∈ cs, ∃ more : Array Value, s'.heap.get? p.2 = some { cls := .none, data := .fields more } := fun p hp => by
      obtain ⟨more, y⟩ := un.tbls p.2 #[] (hT p hp)
      exact ⟨_, ok' p.2 _ y⟩
    refine ⟨rfl, ⟨fun b o e => ?_, fun b o e => ?_⟩, os, bare⟩
    · by_cases c : ∃ p ∈ cs, p.2 = b
      · obtain ⟨p, hp, rfl⟩ := c
        obtain ⟨more, y⟩ := grown p hp
        rw [tab p hp] at e
        cases e
        exact .inr (.inl ⟨((code p hp).tab (tab p hp)).isCodeTable, rfl, #[], more, rfl, by rw [Array.empty_append]; exact y⟩)
      · exact .inl (same b o (fun p hp y => c ⟨p, hp, y⟩) e)
    · by_cases c : ∃ p ∈ cs, p.2 = b
      · obtain ⟨p, hp, rfl⟩ := c
        obtain ⟨more, y⟩ := grown p hp
        exact ⟨_, y⟩
      · exact ⟨o, same b o (fun p hp y => c ⟨p, hp, y⟩) e⟩
/-- what is known of the law's def at the head's heap -/
def LawG (l : PySem.W.OpenLaw) (w : World) (K : PySem.W.Frag) (k n : Nat) (x : Str) (mg : Str → Option Value) (fa : Addr) (h : Heap) : Prop :=
  ∃ (fd : FuncData) (cs : List (Addr × Addr)) (sp : Sp), (∀ p ∈ cs, h.get? p.2 = some { cls := .none, data := .fields #[] }) ∧ (∀ p ∈ cs, K.lookup p.2 = none) ∧ (∀ p ∈ cs, PySem.W.CodeHd h p.1 p.2) ∧ (∀ (s : Shared) (u : Value), BindsTo s fd ⟨[u], []⟩ [(x, u)]) ∧
    (∀ (H : Hp) (a : Addr) (ns : List Int), ns.length ≤ n → (∀ p ∈ cs, H p.2 = some (.tbl #[])) → SqL K H a (ns.map V.int) → sp [.ref a] H (fun v _ => v = .bl true) fun _ _ _ => False) ∧
    ∀ base : Heap, K.In base → base.Ns mainGlobals mg → (∀ p ∈ cs, LamX.TabB base mg p.1 p.2) → FnG l.prog w K mg base k fa fd [x] sp
theorem walkG {l : PySem.W.OpenLaw} {n k : Nat} {q : Program} {loose : List Str} {XP : (Str → Option Value) → Heap → Prop} {YP : World → Heap → Prop} {d : DefRec} {K : Params → PySem.W.Frag} {x : Str}
    (hn : l.most = some n) (hn2 : n ≤ sizeLine) (hdf : d.params.defaults = []) (hr : Room k callerA) (hY : ∀ (w : World) (h : Heap), YP w h → (K w.params).In h)
    (F : ∀ (w : World) (mg : Str → Option Value) (fa : Addr) (h : Heap), YP w h → (K w.params).In h → h.Ns mainGlobals mg → mg d.name = some (.ref fa) → LawG l w (K w.params) k n x mg fa h) :
    PySem.W.WalkO q loose XP YP l.row.toRowW d [] (fun f vs => PySem.call f vs) := by
  refine Att.attach_callB hn hdf fun w s₀ s₁ mg mb fa o pm cd doc a vs ns G Y ho hd hcd hmg hobj hints hlen hbits hg => ?_
  obtain ⟨fd, cs, sp, h1, h2, h3, h4, h5, h6⟩ := F w mg fa _ Y (hY w _ Y) G.T.g hmg
  exact endG (hY w _ Y) G.T.g G.T.b G.T.builtins G.T.nolimit hg h1 h2 h3 G.T.bmain hobj hints (Nat.le_trans hlen hn2) hr h6 h4 fun H t sq => h5 H a ns hlen t sq
end VG


set_option Elab.async false
set_option maxRecDepth 100000
set_option maxHeartbeats 4000000
/-! repr of plain data; how often a value lies in a list. -/
namespace VG
open PySem PySem.Spec PyProof.Rows L2
inductive Fl : V → PyData → Prop where
  | non : Fl .non .none
  | bl (b : Bool) : Fl (.bl b) (.bool b)
  | int (n : Int) : Fl (.int n) (.int n)
  | str (s : Str) : Fl (.str s) (.str s)
inductive Fls : List V → List PyData → Prop where
  | nil : Fls [] []
  | cons {v d vs ds} : Fl v d → Fls vs ds → Fls (v :: vs) (d :: ds)
/-- what a value shows, as the abstract heap tells it -/
inductive Sh (H : Hp) : V → PyData → Prop where
  | fl {v d} (h : Fl v d) : Sh H v d
  | lst {p xs ds} (h : H p = some (.lst xs)) (f : Fls xs ds) : Sh H (.ref p) (.list ds)
  | tup {p xs ds} (h : H p = some (.tup xs)) (f : Fls xs ds) : Sh H (.ref p) (.tuple ds)
  | dct {p} (h : H p = some (.dK [])) : Sh H (.ref p) (.dict [])
theorem Fls.flat : ∀ {vs : List V} {ds : List PyData}, Fls vs ds → PyData.depthAll ds = 0 ∧ PyData.hasDictAll ds = false
  | _, _, .nil => ⟨rfl, rfl⟩
  | _, _, .cons a r => by
    obtain ⟨h1, h2⟩ := r.flat
    cases a <;> exact ⟨by show max _ _ = 0; rw [h1]; rfl, by show (_ || _) = false; rw [h2]; rfl⟩
theorem reads_fl {h : Heap} {v : V} {d : PyData} {u : Value} (f : Fl v d) (r : RelV v u) : Reads h u d [] := by
  cases f with
  | non => cases (show u = Value.none from r); exact .none
  | bl b => cases (show u = Value.bool b from r); exact .bool b
  | int n => obtain ⟨t, rfl⟩ := (show ∃ t, u = Value.int n t from r); exact .int n t
  | str s => obtain ⟨t, rfl⟩ := (show ∃ t, u = Value.str s t from r); exact .str s t
theorem reads_fls {h : Heap} : ∀ {vs : List V} {ds : List PyData} {us : List Value}, Fls vs ds → Vals vs us → ReadsAll h us ds []
  | _, _, _, .nil, .nil => .nil
  | _, _, _, .cons a b, .cons r t => by
    have z := ReadsAll.cons (reads_fl (h := h) a r) (reads_fls b t)
    exact z
section
variable {X : Cx}
/-- repr(v), where no repr is under way -/
def rRepr : List V → Hp → VK → Prop := fun xs H Q => ∃ (v : V) (d : PyData), xs = [v] ∧ Sh H v d ∧ d.showable = true ∧ d.shown.length ≤ sizeLine ∧ Q (.str d.shown) H
theorem call_repr (gd : X.A.guards = some []) (hu : X.A.units + 10 < cLine) : CallR X (.builtin "repr") rRepr := by
  intro pins s σ H xs us Q I r h
  obtain ⟨v, d, rfl, sh, hs, hz, q⟩ := h
  obtain ⟨u, rfl, ru⟩ : ∃ u, us = [u] ∧ RelV v u := by
    cases r with
    | cons a b => cases b; exact ⟨_, rfl, a⟩
  have fin : ∀ (h' : Heap) (t : Tok) (tk : Tok), (∀ b o, s.heap.get? b = some o → h'.get? b = some o) → EP X pins σ Q (.str d.shown t) { s with heap := h', toks := tk } := fun h' t tk k => ⟨.str d.shown, H, I.kept (t' := tk) k, ⟨t, rfl⟩, q⟩
  cases sh with
  | fl f =>
    cases f with
    | non => cases (show u = Value.none from ru); exact PySem.P.repr_of_none (fin s.heap _ _ fun _ _ z => z)
    | bl b => cases (show u = Value.bool b from ru); refine PySem.P.repr_of_bool ?_; cases b <;> exact fin s.heap _ _ fun _ _ z => z
    | int n => obtain ⟨t, rfl⟩ := (show ∃ t, u = Value.int n t from ru); exact PySem.P.repr_of_int (of_decide_eq_true hs) (fin s.heap _ _ fun _ _ z => z)
    | str x => obtain ⟨t, rfl⟩ := (show ∃ t, u = Value.str x t from ru); exact PySem.P.repr_of_str (fin s.heap _ _ fun _ _ z => z) hz
  | @lst p vs ds hp f =>
    cases (show u = Value.ref p from ru)
    obtain ⟨_, its, n, rv, ho⟩ := (show ObjOk X.prog X.w H s.heap p (.lst vs) from I.hok p _ hp)
    obtain ⟨f1, f2⟩ := f.flat
    have rd : Reads s.heap (.ref p) (.list ds) (p :: []) := .list ho rfl rfl (reads_fls f rv)
    refine repr_of_reads' rd hs (PyData.noDict_hsm f2) gd ?_ (fun _ _ e => e) (fun h' t tk k => fin h' t tk k) hz
    show X.A.units + (PyData.depthAll ds + 1 + 1) < cLine
    rw [f1]
    omega
  | @tup p vs ds hp f =>
    cases (show u = Value.ref p from ru)
    obtain ⟨_, its, rv, o, h1, h2, n, h3⟩ := (show ObjOk X.prog X.w H s.heap p (.tup vs) from I.hok p _ hp)
    obtain ⟨f1, f2⟩ := f.flat
    have rd : Reads s.heap (.ref p) (.tuple ds) [] := .tuple h1 h2 h3 (reads_fls f rv)
    refine repr_of_reads' rd hs (PyData.noDict_hsm f2) gd ?_ (fun _ _ e => e) (fun h' t tk k => fin h' t tk k) hz
    show X.A.units + (PyData.depthAll ds + 1 + 1) < cLine
    rw [f1]
    omega
  | @dct p hp =>
    cases (show u = Value.ref p from ru)
    obtain ⟨_, hm, vs, kv, o, es, ep, h1, h2, h3⟩ := (show ObjOk X.prog X.w H s.heap p (.dK []) from I.hok p _ hp)
    cases kv
    obtain ⟨hd, _, hp2, _⟩ := h3
    have he : es.toList = [] := by
      generalize es.toList = l at hp2
      cases hp2
      rfl
    have rd : Reads s.heap (.ref p) (.dict []) (p :: [] ++ []) := .dict h1 h2.1 hd (by rw [he]; exact .nil) (by rw [he]; exact .nil)
    refine repr_of_reads' rd hs (fun _ z => ?_) gd ?_ (fun _ _ e => e) (fun h' t tk k => fin h' t tk k) hz
    · have z' : sysModules = p := by simpa using z
      rw [z'] at hm
      simp at hm
    · show X.A.units + (0 + 1 + 1) < cLine
      omega
/-- how often a plain value lies in a list of such -/
def rCount (K : PySem.W.Frag) : V → List V → Hp → VK → Prop := fun x xs H Q => ∃ (a : Addr) (ys : List V) (y : V), x = .ref a ∧ xs = [y] ∧ SqL K H a ys ∧ flatV y = true ∧ ys.all flatV = true ∧ Q (.int ((ys.countP fun z => eqV z y : Nat) : Int)) H
theorem countP_vals {y : V} : ∀ {ys : List V} {us : List Value}, Vals ys us → ys.all flatV = true → us.countP (eqU y) = ys.countP fun z => eqV z y
  | _, _, .nil, _ => rfl
  | z :: ys, u :: us, .cons r t, f => by
    rw [List.all_cons, Bool.and_eq_true] at f
    rw [List.countP_cons, List.countP_cons, countP_vals t f.2, eqU_of r f.1]
theorem mt_count : MtR X "list.count" (rCount X.K) := by
  intro pins s σ H x xs v us Q I rx rxs h
  obtain ⟨a, ys, y, rfl, rfl, hs, fy, fys, q⟩ := h
  cases (show v = Value.ref a from rx)
  obtain ⟨u, rfl, ru⟩ := rxs.one
  obtain ⟨its, rv, ⟨⟨cls, dd, data, sl⟩, n, ho, hc, hdn, hd⟩, hlen⟩ := I.list hs
  simp only at hc hd
  subst hc hd
  refine call_meets PySem.F.slot_list_count ⟨_, ho, rfl⟩ PySem.F.entry_list_count (PySem.F.args_list_count_2 _ _) (SeqAt.list_countAt a its.toArray n dd sl u (eqU y)) ⟨ho, fun z hz => mem_eqAt ru fy rv fys z (by simpa using hz), ?_⟩
  rw [List.toList_toArray, countP_vals rv fys]
  exact ⟨.int _, H, I.tok _, ⟨_, rfl⟩, q⟩
end
end VG


set_option Elab.async false
set_option maxRecDepth 100000
set_option maxHeartbeats 4000000
/-! try with two clauses that name what they catch; whatever the body raises is caught. -/
namespace VG
open PySem PySem.Spec PyProof.Rows L2
/-- an exception at a, landed: the state is h3's, the slots and the abstract heap as when it was raised -/
structure Down (X : Cx) (pins : List (Addr × Obj)) (a : Addr) (cls : Value) (d : Option Addr) (σ : L2.St) (H : Hp) (sI : Shared) (B h3 : Heap) (s' : Shared) : Prop where
  inv : Inv X pins σ H sI
  nb : ∀ b o, sI.heap.get? b = some o → b ∉ frs X.stack → B.get? b = some o
  fly : HandSPX.FlyingZ B (X.env :: X.outer) a (Zc cls d) h3
  up : sI.heap.UpToSlots h3
  os : s'.os = sI.os
  bare : AllBare s'.gens
  new : H a = none
section
variable {X : Cx} {pins : List (Addr × Obj)} {a : Addr} {cls : Value} {d : Option Addr} {σ : L2.St} {H : Hp} {sI s' : Shared} {B h3 : Heap}
theorem Down.at_ (y : Down X pins a cls d σ H sI B h3 s') : Inv X pins σ H { s' with heap := h3 } := y.inv.landed y.nb y.fly.1 y.up y.os y.bare
/-- as a suite sees it -/
theorem Down.seen (y : Down X pins a cls d σ H sI B h3 s') (hf : X.env.frame = some X.env.locals) : ∃ (oe : Obj) (vs : Array Value), h3.get? a = some oe ∧ Zc cls d oe ∧ oe.data = .fields vs ∧ Inv (X.suite a ((a, oe) :: (X.pn ++ pins))) [] σ H { s' with heap := h3 } := by
  obtain ⟨oe, vs, e1, e2, e3⟩ := y.fly.there
  have out : a ∉ frs (X.env :: X.outer) := fun hm => by
    obtain ⟨_, o, eo, ho⟩ := y.fly.2.2.1.mem hm
    rw [e1] at eo
    cases eo
    exact ho _ e3
  have o1 : a ≠ X.env.locals := fun z => out (List.mem_filterMap.mpr ⟨X.env, .head _, by rw [hf, z]⟩)
  have o2 : a ∉ X.fs := fun hm => out (let ⟨v, hv, q⟩ := List.mem_filterMap.mp hm; List.mem_filterMap.mpr ⟨v, .tail _ hv, q⟩)
  exact ⟨oe, vs, e1, e2, e3, y.at_.suite e1 e3 y.new o1 o2⟩
/-- the clause's class is asked -/
theorem Down.ask (y : Down X pins a cls d σ H sI B h3 s') (hf : X.env.frame = some X.env.locals) {x : Str} {c : Value} {np : Pos} {b : Bool} {E : Value → Shared → Prop} {R : Bool → Shared → Prop} (nm : Names X x c) (m : PySem.W.exmOne X.K cls c = some b)
    (r : R b { s' with heap := h3 }) : wpAny (model X.prog X.w) (X.A.mark (some (.ref a))) (eval (.Name x np) X.env) (fun cv s1 => wpAny (model X.prog X.w) (X.A.mark (some (.ref a))) (excMatches (.ref a) cv) R E s1) E { s' with heap := h3 } := by
  obtain ⟨oe, vs, e1, e2, e3, J⟩ := y.seen hf
  have ty : PySem.W.Looks (model X.prog X.w) h3 (typeOf (.ref a)) cls := fun A Q E s k q => wpAny_typeOf_ref (k _ _ e1) (by rw [e2.1]; exact q)
  have lm := PySem.W.exm_one (M := model X.prog X.w) y.at_.kIn ty m
  obtain ⟨g1, g2, g3⟩ := nm
  rcases g3 with g3 | ⟨g3, g4, g5⟩
  · exact ld_glob (X := X.suite a ((a, oe) :: (X.pn ++ pins))) J g1 g3 (lm.here r) g2
  · exact ld_blt (X := X.suite a ((a, oe) :: (X.pn ++ pins))) J g1 g3 g4 (lm.here r) g5 g2
/-- a clause that does not match -/
theorem Down.skip (y : Down X pins a cls d σ H sI B h3 s') (hf : X.env.frame = some X.env.locals) {x : Str} {c : Value} {np pos : Pos} {nm : Option Str} {body : List Stmt} {rest : List ExceptHandler} {D : Ends} (n : Names X x c) (m : PySem.W.exmOne X.K cls c = some false)
    (h : wpAny (model X.prog X.w) X.A (handleBy (.ref a) X.env rest) (SP X pins D) X.xe { s' with heap := h3 }) :
    wpAny (model X.prog X.w) X.A (handleBy (.ref a) X.env (.ExceptHandler (some (.Name x np)) nm body pos :: rest)) (SP X pins D) X.xe { s' with heap := h3 } :=
  wpAny_handleBy_cons (codeAny_handlers_test (y.ask hf n m h)) fun z => nomatch z
/-- a clause that matches: its suite, then its name goes -/
theorem Down.take (y : Down X pins a cls d σ H sI B h3 s') (hf : X.env.frame = some X.env.locals) {x n : Str} {i : Nat} {c : Value} {np pos : Pos} {b₀ : Stmt} {body : List Stmt} {rest : List ExceptHandler} {D : Ends} {ts : TS} (nm : Names X x c) (m : PySem.W.exmOne X.K cls c = some true)
    (hN : X.N.Nodup) (hi : X.N[i]? = some n) (hl : X.env.kindOf n = some .local)
    (su : ∀ (oe : Obj) (pn : List (Addr × Obj)), Zc cls d oe → (∃ vs, oe.data = .fields vs) → PSs (X.suite a ((a, oe) :: pn)) (b₀ :: body) ts)
    (h : ts { nx := fun σ' H' => D.nx (σ'.set i none) H', rt := D.rt, bk := fun σ' H' => D.bk (σ'.set i none) H', ct := fun σ' H' => D.ct (σ'.set i none) H' } (σ.set i (some (.ref a))) H) :
    wpAny (model X.prog X.w) X.A (handleBy (.ref a) X.env (.ExceptHandler (some (.Name x np)) (some n) (b₀ :: body) pos :: rest)) (SP X pins D) X.xe { s' with heap := h3 } := by
  have ok := y.inv.ok
  refine wpAny_handleBy_cons (codeAny_handlers_test (y.ask hf nm m (codeAny_handlers_suite_as ?_))) fun z => nomatch z
  refine HandSPX.lands_againZ y.fly fun h4 f4 u4 => ?_
  have y4 : Down X pins a cls d σ H sI B h4 s' := ⟨y.inv, y.nb, f4, y.up.trans u4, y.os, y.bare, y.new⟩
  obtain ⟨oe, vs, e1, e2, e3, J⟩ := y4.seen hf
  refine store_ok (X := X.suite a ((a, oe) :: (X.pn ++ pins))) (v := .ref a) J hN hi (.inl hl) rfl (fun s5 J5 => ?_) (.inr hl)
  refine wpAny_mono ((su oe (X.pn ++ pins) e2 ⟨_, e3⟩).run [] s5 _ H _ J5 h) (fun fl s6 z => ?_) fun _ _ z => z.elim
  match fl, z with
  | .next, ⟨_, _, J6, q⟩ => exact gone_ok (J6.unsuite ok) hN hi hl fun _ J7 => ⟨_, _, J7, q⟩
  | .brk, ⟨_, _, J6, q⟩ => exact gone_ok (J6.unsuite ok) hN hi hl fun _ J7 => ⟨_, _, J7, q⟩
  | .cont, ⟨_, _, J6, q⟩ => exact gone_ok (J6.unsuite ok) hN hi hl fun _ J7 => ⟨_, _, J7, q⟩
  | .ret _, ⟨_, _, _, J6, r6, q⟩ => exact gone_ok (J6.unsuite ok) hN hi hl fun _ J7 => ⟨_, _, _, J7, r6, q⟩
end
/-- what two clauses 'except x as n' wish of what the body raises; nothing else is raised -/
def wTwo (K : PySem.W.Frag) (nl i : Nat) (c1 c2 : Value) (t1 t2 : Addr → Value → Option Addr → TS) (D : Ends) : WX := fun cls d σ H => σ.length = nl →
  (PySem.W.exmOne K cls c1 = some true ∧ ∀ a, H a = none → t1 a cls d { nx := fun σ' H' => D.nx (σ'.set i none) H', rt := D.rt, bk := fun σ' H' => D.bk (σ'.set i none) H', ct := fun σ' H' => D.ct (σ'.set i none) H' } (σ.set i (some (.ref a))) H) ∨
  (PySem.W.exmOne K cls c1 = some false ∧ PySem.W.exmOne K cls c2 = some true ∧ ∀ a, H a = none → t2 a cls d { nx := fun σ' H' => D.nx (σ'.set i none) H', rt := D.rt, bk := fun σ' H' => D.bk (σ'.set i none) H', ct := fun σ' H' => D.ct (σ'.set i none) H' } (σ.set i (some (.ref a))) H)
section
variable {X : Cx} {x1 x2 n : Str} {c1 c2 : Value} {i : Nat} {body r1 r2 : List Stmt} {b1 b2 : Stmt} {n1 n2 p1 p2 pos : Pos} {tb : WX → TS} {t1 t2 : Addr → Value → Option Addr → TS}
theorem ps_try_two (hs : X.stack = X.env :: X.outer) (hf : X.env.frame = some X.env.locals) (hN : X.N.Nodup) (hi : X.N[i]? = some n) (hl : X.env.kindOf n = some .local) (m1 : Names X x1 c1) (m2 : Names X x2 c2)
    (hb : ∀ (W : WX) (pn : List (Addr × Obj)) (xe : Value → Shared → Prop), Takes (X.tr pn xe) W → PassesOwn (model X.prog X.w) X.A X.env xe → PSs (X.tr pn xe) body (tb W))
    (s1 : ∀ (a : Addr) (oe : Obj) (cls : Value) (d : Option Addr) (pn : List (Addr × Obj)), Zc cls d oe → (∃ vs, oe.data = .fields vs) → PSs (X.suite a ((a, oe) :: pn)) (b1 :: r1) (t1 a cls d))
    (s2 : ∀ (a : Addr) (oe : Obj) (cls : Value) (d : Option Addr) (pn : List (Addr × Obj)), Zc cls d oe → (∃ vs, oe.data = .fields vs) → PSs (X.suite a ((a, oe) :: pn)) (b2 :: r2) (t2 a cls d)) :
    PS X (.Try body [.ExceptHandler (some (.Name x1 n1)) (some n) (b1 :: r1) p1, .ExceptHandler (some (.Name x2 n2)) (some n) (b2 :: r2) p2] [] [] pos) (fun D σ H => tb (wTwo X.K X.N.length i c1 c2 t1 t2 D) D σ H) := by
  constructor
  intro pins s σ H D I h
  have ok := I.ok
  have fr : X.A.frames = some (X.env :: X.outer) := ok.frames.trans (congrArg some hs)
  refine wpAny_Try_except (wpAny_mono ((hb (wTwo X.K X.N.length i c1 c2 t1 t2 D) (X.pn ++ pins) _ (fun u s2' xx => ?_) PassesOwn.looking).run [] s σ H D (I.toTry _) h) (fun fl s3 z => ?_) fun _ _ z => z)
  · obtain ⟨a, B, sI, pins', σ', H', cls, d, rfl, J', nb, up, sky, na, os, ag, wish⟩ := xx
    have J : Inv X pins σ' H' sI := J'.ofTry ok
    rw [show (X.tr (X.pn ++ pins) _).stack = X.env :: X.outer from hs] at sky
    refine Sky.land Zc.steady fr hf sky fun h3 f3 u3 => ?_
    have y : Down X pins a cls d σ' H' sI B h3 s2' := ⟨J, nb, f3, up.trans u3, os, ag, na⟩
    rcases wish J.len with ⟨w1, w2⟩ | ⟨w1, w2, w3⟩
    · exact y.take hf m1 w1 hN hi hl (fun oe pn z1 z2 => s1 a oe cls d pn z1 z2) (w2 a na)
    · exact y.skip hf m1 w1 (y.take hf m2 w2 hN hi hl (fun oe pn z1 z2 => s2 a oe cls d pn z1 z2) (w3 a na))
  · match fl, z with
    | .next, ⟨_, _, J, q⟩ => exact wpAny_execs_nil ⟨_, _, J.ofTry ok, q⟩
    | .brk, ⟨_, _, J, q⟩ => exact ⟨_, _, J.ofTry ok, q⟩
    | .cont, ⟨_, _, J, q⟩ => exact ⟨_, _, J.ofTry ok, q⟩
    | .ret _, ⟨_, _, _, J, r, q⟩ => exact ⟨_, _, _, J.ofTry ok, r, q⟩
end
end VG


set_option Elab.async false
set_option maxRecDepth 100000
set_option maxHeartbeats 4000000
/-! t[::-1] of tuples and texts; lists that stand behind the start; t != (); data of any depth, and what they show. -/
namespace VG
open PySem PySem.Spec PyProof.Rows L2
section
variable {prog : Program} {w : World} {A : Around} {E : Value → Shared → Prop} {s : Shared}
theorem adjust_rev (n : Nat) : Builtin.Slice.sliceAdjust none none (-1) (n : Int) = ((n : Int) - 1, -1) := by
  unfold Builtin.Slice.sliceAdjust
  rfl
theorem places_rev (n : Nat) : Builtin.Slice.slicePlaces ((n : Int) - 1) (-1) (-1) = n := by
  unfold Builtin.Slice.slicePlaces
  have h1 : ¬ ((-1 : Int) > 0) := by decide
  simp only [h1, if_false]
  rw [show (- -1 : Int) = 1 by decide, Int.ediv_one]
  split <;> omega
theorem sliceApplied_rev {sl : Addr} {vl vu vs : Value} {n : Nat} {Q : Int × Int × Nat → Shared → Prop} (hs : s.heap.IsSliceOf sl vl vu vs) (pl : IsPart vl none) (pu : IsPart vu none) (ps : IsPart vs (some (-1)))
    (h : Q ((n : Int) - 1, -1, n) s) : wpAny (model prog w) A (Builtin.Slice.sliceApplied (.ref sl) (pure (n : Int))) Q E s := by
  obtain ⟨os, hos, hcs, hds⟩ := id hs
  unfold Builtin.Slice.sliceApplied Builtin.Slice.sliceFields
  refine wpAny_bind (wpAny_bind (wpAny_field hos hds (x := vl) rfl (wpAny_bind (wpAny_field hos hds (x := vu) rfl (wpAny_bind (wpAny_field hos hds (x := vs) rfl (wpAny_pure ?_)))))))
  refine wpAny_bind (HT.slicePart_ ps ?_)
  show wpAny _ _ (if ((-1 : Int) == 0) = true then _ else _) _ _ s
  rw [if_neg (by decide)]
  refine wpAny_bind (HT.slicePart_ pl (wpAny_bind (HT.slicePart_ pu (wpAny_bind (wpAny_pure ?_)))))
  show wpAny _ _ (match Builtin.Slice.sliceAdjust none none (-1) (n : Int) with | (lo, hi) => pure (lo, (-1 : Int), Builtin.Slice.slicePlaces lo hi (-1))) _ _ s
  rw [adjust_rev]
  show wpAny _ _ (pure ((n : Int) - 1, (-1 : Int), Builtin.Slice.slicePlaces ((n : Int) - 1) (-1) (-1))) _ _ s
  rw [places_rev]
  exact wpAny_pure h
theorem fm_congr {α β : Type} {f g : α → Option β} : ∀ {l : List α}, (∀ x ∈ l, f x = g x) → l.filterMap f = l.filterMap g
  | [], _ => rfl
  | x :: l, h => by
    rw [List.filterMap_cons, List.filterMap_cons, h x List.mem_cons_self, fm_congr fun y hy => h y (List.mem_cons_of_mem _ hy)]
theorem pick_rev (xs : Array Value) : ((List.range xs.size).filterMap fun (k : Nat) => xs[(((xs.size : Int) - 1) + (k : Int) * (-1)).toNat]?).toArray = xs.toList.reverse.toArray := by
  have h := PySem.W.krv_pick xs
  unfold slicePick at h
  rw [PySem.W.krv_bounds] at h
  have h' : ((sliceRange ((xs.size : Int) - 1) (-1) (-1)).filterMap (xs[·]?)).toArray = xs.toList.reverse.toArray := h
  rw [PySem.W.krv_sliceRange, List.filterMap_map] at h'
  rw [← h']
  congr 1
  refine fm_congr fun k hk => ?_
  have := List.mem_range.mp hk
  show xs[(((xs.size : Int) - 1) + (k : Int) * (-1)).toNat]? = xs[xs.size - 1 - k]?
  congr 1
  omega
theorem getItem_tuple_rev {t sl : Addr} {items : Array Value} {vl vu vs : Value} {Q : Value → Shared → Prop} (ht : IsTup s.heap t items) (hs : s.heap.IsSliceOf sl vl vu vs) (pl : IsPart vl none) (pu : IsPart vu none) (ps : IsPart vs (some (-1)))
    (h : Q (.ref s.heap.objs.size) { s with heap := s.heap.push { cls := .type "tuple", data := .seq items.toList.reverse.toArray } })
    (hsz : items.size ≤ sizeLine) : wpAny (model prog w) A (getItem (.ref t) (.ref sl)) Q E s := by
  have htake : sizeOk (.seq items.toList.reverse.toArray) := by
    show items.toList.reverse.toArray.size ≤ sizeLine
    rw [List.size_toArray, List.length_reverse, Array.length_toList]
    exact hsz
  obtain ⟨os, hos, hcs, hds⟩ := id hs
  have hTs : s.TypeIs (.ref sl) "slice" := ⟨os, hos, hcs⟩
  unfold getItem
  try with_reducible refine wpAny_holding ?_
  first | refine wpAny_bind (wpAny_pure ?_) | skip
  refine wpAny_bind (wpAny_sequenceKey ht.typeIs (by decide) ?_)
  refine wpAny_bind (wpAny_callSpecial?_slot (name := Str.ofString "__getitem__") ht.typeIs PyProof.Rows.slot_tuple_getitem
    (wpAny_call_entry PyProof.Rows.slot_tuple_getitem ht.typeIs entry_tuple_getitem ?_ (args_tuple_getitem _ _)))
  show wpAny _ _ (Builtin.Tuple.tupleItemsOf (.ref t) >>= _) _ _ s
  refine wpAny_bind (tupleItemsOf_ ht ?_)
  refine wpAny_bind (wpAny_typeOf hTs ?_)
  rw [if_pos (by decide)]
  refine wpAny_bind (sliceApplied_rev hs pl pu ps ?_)
  have hno : ¬ ((((items.size : Int) - 1) == 0 && (-1 : Int) == 1 && items.size == items.size) = true) := by
    intro q
    rw [Bool.and_eq_true, Bool.and_eq_true] at q
    exact absurd q.1.2 (by decide)
  show wpAny _ _ (if (((items.size : Int) - 1) == 0 && (-1 : Int) == 1 && items.size == items.size) = true then _ else _) _ _ s
  rw [if_neg hno, pick_rev]
  first
    | exact wpAny_bind (m := Builtin.Tuple.tupleExact _) (wpAny_newObj_type (wpAny_pure ⟨_, rfl, wpAny_pure h⟩) htake)
    | exact wpAny_bind (m := Builtin.Tuple.tupleExact _) (wpAny_newObj_type (wpAny_bind (wpAny_pure (wpAny_pure ⟨_, rfl, wpAny_pure h⟩))) htake)
    | exact wpAny_bind (wpAny_bind (m := Builtin.Tuple.tupleExact _) (wpAny_newObj_type (wpAny_pure (wpAny_pure ⟨_, rfl, wpAny_pure h⟩)) htake))
    | exact wpAny_bind (wpAny_bind (m := Builtin.Tuple.tupleExact _) (wpAny_newObj_type (wpAny_pure ⟨_, rfl, wpAny_pure h⟩) htake))
theorem str_pick_rev (z : Str) : ((Builtin.Str.strSliceIndices none none (-1) z.length).filterMap (z.cps[·]?)).toArray = z.cps.toList.reverse.toArray := by
  have e : Builtin.Str.strSliceIndices none none (-1) z.length = sliceRange ((z.length : Int) - 1) (-1) (-1) := rfl
  rw [e, PySem.W.krv_sliceRange, PySem.W.krv_range, List.filterMap_reverse]
  congr 2
  exact PySem.W.krv_all z.cps
theorem getItem_str_rev {z : Str} {t : Tok} {sl : Addr} {vl vu vs : Value} {Q : Value → Shared → Prop} (hs : s.heap.IsSliceOf sl vl vu vs) (pl : IsPart vl none) (pu : IsPart vu none) (ps : IsPart vs (some (-1)))
    (hz : z.length ≤ sizeLine) (h : ∀ t' tk, Q (.str ⟨z.cps.toList.reverse.toArray⟩ t') { s with toks := tk }) : wpAny (model prog w) A (getItem (.str z t) (.ref sl)) Q E s := by
  obtain ⟨os, hos, hcs, hds⟩ := hs
  cases pl
  cases pu
  cases ps with
  | int i ti =>
    refine wpAny_getItem_str_slice (l := none) (u := none) (st := some (-1, ti)) ⟨os, hos, hcs, hds⟩ rfl ?_
    show Made.post (if ((-1 : Int) == 1 && _) = true then Made.val (.str z t) else Made.str ⟨((Builtin.Str.strSliceIndices none none (-1) z.length).filterMap (z.cps[·]?)).toArray⟩) Q s
    rw [if_neg (by intro q; rw [Bool.and_eq_true] at q; exact absurd q.1 (by decide)), str_pick_rev]
    refine ⟨?_, h _ _⟩
    show (z.cps.toList.reverse.toArray).size ≤ sizeLine
    rw [List.size_toArray, List.length_reverse, Array.length_toList]
    exact hz
end
section
variable {X : Cx} {e : Expr} {te : TE} {k : Nat} {p1 p2 p3 pos : Pos}
/-- e[::-1], e a text or a tuple -/
def tRevA (K : PySem.W.Frag) (te : TE) : TE := fun σ H Q => te σ H fun x H1 => (∃ z : Str, x = .str z ∧ z.length ≤ sizeLine ∧ Q (.str ⟨z.cps.toList.reverse.toArray⟩) H1) ∨ ∃ a xs, x = .ref a ∧ SqT K H1 a xs ∧ ∀ p, H1 p = none → Q (.ref p) (upd H1 p (.tup xs.reverse))
theorem pe_revA (he : PE X e te) : PE X (.Subscript e (.Slice none none (some (.UnaryOp .USub (.Constant (.int 1) k p1) p2)) p3) pos) (tRevA X.K te) := by
  refine ⟨fun pins s σ H Q I h => ?_⟩
  refine Subscript_ (thn (he.run pins s σ H _ I h) fun v s1 ⟨x, H1, I1, r1, q1⟩ => ?_)
  have hst : PO X (some (.UnaryOp .USub (.Constant (.int 1) k p1) p2)) (tPart (tUn (rU fun i => .int (-i)) (tC (.int 1)))) := po_some (pe_un un_neg pe_int)
  refine wpAny_Slice (thn (po_none.run pins s1 σ H1 (fun o H2 => o = none ∧ H2 = H1) I1 ⟨rfl, rfl⟩) fun vl s2 ⟨l, H2, I2, pl, el, e2⟩ => ?_)
  subst el e2
  refine thn (po_none.run pins s2 σ H2 (fun o H3 => o = none ∧ H3 = H2) I2 ⟨rfl, rfl⟩) fun vu s3 ⟨u, H3, I3, pu, eu, e3⟩ => ?_
  subst eu e3
  refine thn (hst.run pins s3 σ H3 (fun o H4 => o = some (-1) ∧ H4 = H3) I3 ⟨1, rfl, -1, rfl, rfl, rfl⟩) fun vs s4 ⟨o, H4, I4, ps, eo, e4⟩ => ?_
  subst eo e4
  have I5 : Inv X pins σ H4 { s4 with heap := s4.heap.push { cls := .type "slice", data := .fields #[vl, vu, vs] } } := I4.kept (t' := s4.toks) fun b ob q => Heap.get?_push_of_some _ q
  rcases q1 with ⟨z, rfl, hz, q⟩ | ⟨a, xs, rfl, hx, q⟩
  · obtain ⟨t, rfl⟩ := r1
    show wpAny (model X.prog X.w) X.A (subscriptTail e (.Slice none none (some (.UnaryOp .USub (.Constant (.int 1) k p1) p2)) p3) (.str z t) (.ref s4.heap.objs.size)) (EP X pins σ Q) X.xe { s4 with heap := s4.heap.push { cls := .type "slice", data := .fields #[vl, vu, vs] } }
    refine tail_any (ops := [.str z t, .ref s4.heap.objs.size]) (typeIs_str _ _ _) (PySem.F.slot_str_getitem.lookup) ?_ (by with_unfolding_all rfl)
    exact getItem_str_rev (Heap.IsSliceOf.new _ vl vu vs) pl pu ps hz fun t' tk => ⟨.str _, H4, I5.tok _, ⟨_, rfl⟩, q⟩
  · cases r1
    obtain ⟨its, r, ht, hz⟩ := I5.tuple hx
    show wpAny (model X.prog X.w) X.A (subscriptTail e (.Slice none none (some (.UnaryOp .USub (.Constant (.int 1) k p1) p2)) p3) (.ref a) (.ref s4.heap.objs.size)) (EP X pins σ Q) X.xe { s4 with heap := s4.heap.push { cls := .type "slice", data := .fields #[vl, vu, vs] } }
    refine tail_any (ops := [.ref a, .ref s4.heap.objs.size]) ht.typeIs (PyProof.Rows.slot_tuple_getitem.lookup) ?_ (by with_unfolding_all rfl)
    have hlen := r.length
    refine getItem_tuple_rev ht (Heap.IsSliceOf.new _ vl vu vs) pl pu ps ?_ (by rw [List.size_toArray]; omega)
    refine ⟨.ref _, _, I5.laid (t' := s4.toks) (o := .tup xs.reverse) (fun b ob q => Heap.get?_push_of_some _ q) (Nat.le_refl _) ?_, rfl, q _ (I5.hok.fresh (Nat.le_refl _))⟩
    exact ⟨by rw [List.length_reverse]; exact hz, _, r.reverse, ⟨_, Heap.get?_push_size _ rfl, rfl, _, rfl⟩⟩
/-- a list display; the list is not the table of modules -/
def tLstB (t : TA) : TE := fun σ H Q => t σ H fun xs H1 => xs.length ≤ sizeLine ∧ ∀ p, sysModules ≠ p → H1 p = none → Q (.ref p) (upd H1 p (.lst xs))
theorem pe_lstB {es : List Expr} {t : TA} (h : PA X es t) : PE X (.List es pos) (tLstB t) := by
  refine ⟨fun pins s σ H Q I hq => ?_⟩
  refine wpAny_List_spliced (thn (h.run pos pins s σ H _ I hq) fun us s1 ⟨xs, H1, I1, r, z, q⟩ => ⟨by rw [← r.length]; exact z, ?_⟩)
  have hf : H1 s1.heap.objs.size = none := I1.hok.fresh (Nat.le_refl _)
  refine ⟨.ref s1.heap.objs.size, upd H1 s1.heap.objs.size (.lst xs), I1.laid (t' := s1.toks) (fun b u e => Heap.get?_push_of_some _ e) (Nat.le_refl _) ?_, rfl, q _ (Nat.ne_of_lt I1.big) hf⟩
  exact ⟨z, us, 0, r, Heap.get?_push_size _ rfl⟩
theorem call_list_ofB : CallR X (.type "list") (fun xs H Q => ∃ p ys, xs = [.ref p] ∧ (SqL X.K H p ys ∨ SqT X.K H p ys) ∧ ∀ l, sysModules ≠ l → H l = none → Q (.ref l) (upd H l (.lst ys))) := by
  intro pins s σ H xs us Q I r h
  obtain ⟨p, ys, rfl, hq, q⟩ := h
  obtain ⟨u, rfl, rx⟩ := vals1 r
  cases rx
  have fin : ∀ (its : List Value), Vals ys its → ys.length ≤ sizeLine → ∀ (h' : Heap) (c' : Nat), (∀ b o', s.heap.get? b = some o' → h'.get? b = some o') →
      h'.get? s.heap.objs.size = some { cls := .type "list", dict := none, data := .seq its.toArray c', slots := #[] } → EP X pins σ Q (.ref s.heap.objs.size) { s with heap := h' } := fun its r' hz h' c' kp e =>
    ⟨.ref s.heap.objs.size, _, I.laid (t' := s.toks) kp (Nat.le_refl _) (show ObjOk X.prog X.w _ h' _ (.lst ys) from ⟨hz, its, c', r', e⟩), rfl, q _ (Nat.ne_of_lt I.big) (I.hok.fresh (Nat.le_refl _))⟩
  rcases hq with hq | hq
  · obtain ⟨its, r', pl, hz⟩ := I.list hq
    have hlen := r'.length
    obtain ⟨o, ho, hc, n, hd⟩ := pl.isList
    exact call_list_seq p (.inl rfl) ho hc hd (fun h' c' kp e => fin its r' hz h' c' kp e) (by simp only [List.size_toArray] <;> omega)
  · obtain ⟨its, r', pl, hz⟩ := I.tuple hq
    have hlen := r'.length
    obtain ⟨o, ho, hc, n, hd⟩ := pl
    exact call_list_seq p (.inr rfl) ho hc hd (fun h' c' kp e => fin its r' hz h' c' kp e) (by simp only [List.size_toArray] <;> omega)
/-- t != (), whatever is in t -/
def rNeT0 (K : PySem.W.Frag) : R2 := fun x y H Q => ∃ (a b : Addr) (xs : List V), x = .ref a ∧ y = .ref b ∧ SqT K H a xs ∧ SqT K H b [] ∧ Q (.bl (decide (xs ≠ []))) H
end
/-! ### data of any depth -/
mutual
inductive Vd (a : Addr) (H : Hp) : V → PyData → Prop
  | non : Vd a H .non .none
  | bl (b : Bool) : Vd a H (.bl b) (.bool b)
  | int (i : Int) : Vd a H (.int i) (.int i)
  | str (x : Str) : Vd a H (.str x) (.str x)
  | lst {p : Addr} {xs : List V} {ds : List PyData} : p ≠ a → sysModules ≠ p → H p = some (.lst xs) → VdAll a H xs ds → Vd a H (.ref p) (.list ds)
  | tup {p : Addr} {xs : List V} {ds : List PyData} : p ≠ a → H p = some (.tup xs) → VdAll a H xs ds → Vd a H (.ref p) (.tuple ds)
  | d0 {p : Addr} : p ≠ a → H p = some (.dK []) → Vd a H (.ref p) (.dict [])
  | d1 {p : Addr} : p ≠ a → H p = some (.dK [(.inl 0, .int 0)]) → Vd a H (.ref p) (.dict [(.int 0, .int 0)])
inductive VdAll (a : Addr) (H : Hp) : List V → List PyData → Prop
  | nil : VdAll a H [] []
  | cons {v : V} {vs : List V} {d : PyData} {ds : List PyData} : Vd a H v d → VdAll a H vs ds → VdAll a H (v :: vs) (d :: ds)
end
section
variable {a : Addr} {H H' : Hp}
mutual
theorem Vd.keep (k : ∀ q o, q ≠ a → (∀ ps, o ≠ .tbl ps) → H q = some o → H' q = some o) : ∀ (d : PyData) (v : V), Vd a H v d → Vd a H' v d
  | .none, _, h => by cases h; exact .non
  | .bool b, _, h => by cases h; exact .bl b
  | .int i, _, h => by cases h; exact .int i
  | .str x, _, h => by cases h; exact .str x
  | .list ds, _, h => by
    cases h with
    | lst n m e r => exact .lst n m (k _ _ n (fun _ z => nomatch z) e) (VdAll.keep k ds _ r)
  | .tuple ds, _, h => by
    cases h with
    | tup n e r => exact .tup n (k _ _ n (fun _ z => nomatch z) e) (VdAll.keep k ds _ r)
  | .dict ds, _, h => by
    cases h with
    | d0 n e => exact .d0 n (k _ _ n (fun _ z => nomatch z) e)
    | d1 n e => exact .d1 n (k _ _ n (fun _ z => nomatch z) e)
theorem VdAll.keep (k : ∀ q o, q ≠ a → (∀ ps, o ≠ .tbl ps) → H q = some o → H' q = some o) : ∀ (ds : List PyData) (vs : List V), VdAll a H vs ds → VdAll a H' vs ds
  | [], _, h => by cases h; exact .nil
  | d :: ds, _, h => by
    cases h with
    | cons h1 h2 => exact .cons (Vd.keep k d _ h1) (VdAll.keep k ds _ h2)
end
theorem VdAll.take : ∀ {vs : List V} {ds : List PyData} (n : Nat), VdAll a H vs ds → VdAll a H (vs.take n) (ds.take n)
  | _, _, 0, _ => .nil
  | _, _, _ + 1, .nil => .nil
  | _, _, n + 1, .cons h r => .cons h (VdAll.take n r)
theorem VdAll.drop : ∀ {vs : List V} {ds : List PyData} (n : Nat), VdAll a H vs ds → VdAll a H (vs.drop n) (ds.drop n)
  | _, _, 0, r => r
  | _, _, _ + 1, .nil => .nil
  | _, _, n + 1, .cons _ r => VdAll.drop n r
theorem VdAll.app : ∀ {vs us : List V} {ds es : List PyData}, VdAll a H vs ds → VdAll a H us es → VdAll a H (vs ++ us) (ds ++ es)
  | _, _, _, _, .nil, s => s
  | _, _, _, _, .cons h r, s => .cons h (VdAll.app r s)
theorem VdAll.rev : ∀ {vs : List V} {ds : List PyData}, VdAll a H vs ds → VdAll a H vs.reverse ds.reverse
  | _, _, .nil => .nil
  | _, _, .cons h r => by
    rw [List.reverse_cons, List.reverse_cons]
    exact (VdAll.rev r).app (.cons h .nil)
theorem VdAll.len : ∀ {vs : List V} {ds : List PyData}, VdAll a H vs ds → vs.length = ds.length
  | _, _, .nil => rfl
  | _, _, .cons _ r => by rw [List.length_cons, List.length_cons, r.len]
theorem VdAll.at_ : ∀ {vs : List V} {ds : List PyData} {i : Nat} {v : V}, VdAll a H vs ds → vs[i]? = some v → ∃ d, ds[i]? = some d ∧ Vd a H v d
  | _, _, _, _, .nil, h => by cases h
  | _, _, 0, _, .cons h _, e => by cases e; exact ⟨_, rfl, h⟩
  | _, _, i + 1, _, .cons _ r, e => VdAll.at_ (i := i) r e
end
section
variable {X : Cx} {a : Addr} {pins : List (Addr × Obj)} {σ : L2.St} {H : Hp} {s : Shared}
mutual
theorem Vd.reads (I : Inv X pins σ H s) : ∀ (d : PyData) (v : V) (u : Value), Vd a H v d → RelV v u → ∃ as, Reads s.heap u d as ∧ sysModules ∉ as
  | .none, _, _, h, r => by
    cases h
    cases r
    exact ⟨_, Reads.none, by simp⟩
  | .bool b, _, _, h, r => by
    cases h
    cases r
    exact ⟨_, Reads.bool b, by simp⟩
  | .int i, _, _, h, r => by
    cases h
    obtain ⟨t, rfl⟩ := r
    exact ⟨_, Reads.int i t, by simp⟩
  | .str x, _, _, h, r => by
    cases h
    obtain ⟨t, rfl⟩ := r
    exact ⟨_, Reads.str x t, by simp⟩
  | .list ds, _, _, h, r => by
    cases h with
    | lst n m e q =>
      cases r
      obtain ⟨z, its, k, rv, ho⟩ := I.hok _ _ e
      obtain ⟨as, hr, ha⟩ := Vd.readsAll I ds _ its q rv
      refine ⟨_, Reads.list ho rfl rfl hr, ?_⟩
      intro hm
      rcases List.mem_cons.mp hm with hm | hm
      · exact m hm
      · exact ha hm
  | .tuple ds, _, _, h, r => by
    cases h with
    | tup n e q =>
      cases r
      obtain ⟨z, its, rv, o, h1, h2, k, h3⟩ := I.hok _ _ e
      obtain ⟨as, hr, ha⟩ := Vd.readsAll I ds _ its q rv
      exact ⟨_, Reads.tuple h1 h2 h3 hr, ha⟩
  | .dict ds, _, _, h, r => by
    cases h with
    | @d0 p n e =>
      cases r
      obtain ⟨_, hm, vs, kv, o, es, ep, h1, h2, h3⟩ := (show ObjOk X.prog X.w H s.heap p (.dK []) from I.hok p _ e)
      cases kv
      obtain ⟨hd, _, hp2, _⟩ := h3
      have he : es.toList = [] := by
        generalize es.toList = l at hp2
        cases hp2
        rfl
      have rd : Reads s.heap (.ref p) (.dict []) (p :: [] ++ []) := .dict h1 h2.1 hd (by rw [he]; exact .nil) (by rw [he]; exact .nil)
      refine ⟨_, rd, fun z => ?_⟩
      have z' : sysModules = p := by simpa using z
      rw [z'] at hm
      simp at hm
    | @d1 p n e =>
      cases r
      obtain ⟨_, hm, vs, kv, o, es, ep, h1, h2, h3⟩ := (show ObjOk X.prog X.w H s.heap p (.dK [(.inl 0, .int 0)]) from I.hok p _ e)
      obtain ⟨hd, _, hp2, _⟩ := h3
      obtain ⟨q, eq, e1, e2⟩ : ∃ q, vs = [q] ∧ (Sum.inl 0 : Key) = q.1 ∧ RelV (.int 0) q.2 := by
        cases kv with
        | cons k1 k2 =>
          cases k2
          exact ⟨_, rfl, k1.1, k1.2⟩
      subst eq
      obtain ⟨t, e3⟩ := (show ∃ t, q.2 = Value.int 0 t from e2)
      obtain ⟨en, ht, hk, hv⟩ : ∃ en, es.toList = [en] ∧ keyIs q.1 en.key = true ∧ en.val = q.2 := by
        generalize es.toList = l at hp2
        cases hp2 with
        | cons a1 a2 a3 =>
          cases a3
          exact ⟨_, rfl, a1, a2⟩
      rw [← e1] at hk
      rcases keyIs_shape hk with ⟨i, t', hi, ek⟩ | ⟨x, t', hi, ek⟩
      · cases hi
        have rd : Reads s.heap (.ref p) (.dict [(.int 0, .int 0)]) (p :: ([] ++ []) ++ ([] ++ [])) := .dict h1 h2.1 hd (by rw [ht]; show ReadsAll s.heap [en.key] [.int 0] _; rw [ek]; exact .cons (.int 0 t') .nil) (by rw [ht]; show ReadsAll s.heap [en.val] [.int 0] _; rw [hv, e3]; exact .cons (.int 0 t) .nil)
        refine ⟨_, rd, fun z => ?_⟩
        have z' : sysModules = p := by simpa using z
        rw [z'] at hm
        simp at hm
      · cases hi
theorem Vd.readsAll (I : Inv X pins σ H s) : ∀ (ds : List PyData) (vs : List V) (us : List Value), VdAll a H vs ds → Vals vs us → ∃ as, ReadsAll s.heap us ds as ∧ sysModules ∉ as
  | [], _, _, h, r => by
    cases h
    cases r
    exact ⟨_, ReadsAll.nil, by simp⟩
  | d :: ds, _, _, h, r => by
    cases h with
    | cons h1 h2 =>
      cases r with
      | cons r1 r2 =>
        obtain ⟨as, q1, n1⟩ := Vd.reads I d _ _ h1 r1
        obtain ⟨bs, q2, n2⟩ := Vd.readsAll I ds _ _ h2 r2
        exact ⟨_, ReadsAll.cons q1 q2, fun z => (List.mem_append.mp z).elim n1 n2⟩
end
/-- repr(v) of data of any depth -/
def rReprV : List V → Hp → VK → Prop := fun xs H Q => ∃ (v : V) (d : PyData) (a : Addr), xs = [v] ∧ Vd a H v d ∧ d.showable = true ∧ d.shown.length ≤ sizeLine ∧ d.depth ≤ 40 ∧ Q (.str d.shown) H
theorem call_reprV (gd : X.A.guards = some []) (hu : X.A.units + 64 < cLine) : CallR X (.builtin "repr") rReprV := by
  intro pins s σ H xs us Q I r h
  obtain ⟨v, d, a, rfl, vd, hs, hz, dp, q⟩ := h
  obtain ⟨u, rfl, ru⟩ : ∃ u, us = [u] ∧ RelV v u := by
    cases r with
    | cons a b => cases b; exact ⟨_, rfl, a⟩
  have fin : ∀ (h' : Heap) (t : Tok) (tk : Tok), (∀ b o, s.heap.get? b = some o → h'.get? b = some o) → EP X pins σ Q (.str d.shown t) { s with heap := h', toks := tk } := fun h' t tk k => ⟨.str d.shown, H, I.kept (t' := tk) k, ⟨t, rfl⟩, q⟩
  obtain ⟨as, rd, ns⟩ := Vd.reads I d v u vd ru
  have ref : ∀ p, u = .ref p → wpAny (model X.prog X.w) X.A (call (.builtin "repr") [u]) (EP X pins σ Q) X.xe s := fun p e => by
    subst e
    exact repr_of_reads' rd hs (fun _ => ns) gd (by omega) (fun _ _ e => e) (fun h' t tk k => fin h' t tk k) hz
  cases vd with
  | non => cases (show u = Value.none from ru); exact PySem.P.repr_of_none (fin s.heap _ _ fun _ _ z => z)
  | bl b => cases (show u = Value.bool b from ru); refine PySem.P.repr_of_bool ?_; cases b <;> exact fin s.heap _ _ fun _ _ z => z
  | int n => obtain ⟨t, rfl⟩ := (show ∃ t, u = Value.int n t from ru); exact PySem.P.repr_of_int (of_decide_eq_true hs) (fin s.heap _ _ fun _ _ z => z)
  | str x => obtain ⟨t, rfl⟩ := (show ∃ t, u = Value.str x t from ru); exact PySem.P.repr_of_str (fin s.heap _ _ fun _ _ z => z) hz
  | lst _ _ _ _ => exact ref _ ru
  | tup _ _ _ => exact ref _ ru
  | d0 _ _ => exact ref _ ru
  | d1 _ _ => exact ref _ ru
theorem op_neT0 (hu : X.A.units < cLine) : OpR X (compareOp .NotEq) (rNeT0 X.K) := by
  intro pins s σ H x y v u Q I rx ry h
  obtain ⟨a, b, xs, rfl, rfl, ha, hb, q⟩ := h
  cases rx
  cases ry
  obtain ⟨its, r1, p1, _⟩ := I.tuple ha
  obtain ⟨its2, r2, p2, _⟩ := I.tuple hb
  cases r2
  refine PySem.SeqAt.RcNeAt.tuples (e := fun _ => true) p1 p2 hu (fun j _ j2 => absurd j2 (Nat.not_lt_zero _)) _ _ _ _ ?_
  have hlen := r1.length
  have e : (!((List.range (min its.toArray.size ([] : List Value).toArray.size)).all (fun _ => true) && its.toArray.size == ([] : List Value).toArray.size)) = decide (xs ≠ []) := by
    cases xs with
    | nil =>
      cases r1
      rfl
    | cons x xs =>
      cases r1
      simp
  rw [e]
  exact ⟨.bl _, H, I, rfl, q⟩
end
end VG


set_option Elab.async false
set_option maxRecDepth 100000
set_option maxHeartbeats 4000000
set_option exponentiation.threshold 3000
/-! how great data of any depth may be -/
namespace VG
open PySem L2
mutual
def okD (N : Nat) : PyData → Prop
  | .none => True
  | .bool _ => True
  | .int i => i.natAbs ≤ N
  | .str x => ∀ c ∈ x.cps.toList, c < 128
  | .list xs => okAll N xs
  | .tuple xs => okAll N xs
  | .dict kvs => kvs = [] ∨ kvs = [(.int 0, .int 0)]
def okAll (N : Nat) : List PyData → Prop
  | [] => True
  | x :: xs => okD N x ∧ okAll N xs
end
theorem okAll_mem {N : Nat} : ∀ {xs : List PyData}, okAll N xs ↔ ∀ x ∈ xs, okD N x
  | [] => by unfold okAll; simp
  | x :: xs => by
    unfold okAll
    rw [okAll_mem (xs := xs)]
    simp
mutual
theorem okD_mono {N M : Nat} (h : N ≤ M) : ∀ d : PyData, okD N d → okD M d
  | .none, q => q
  | .bool _, q => q
  | .int i, q => Nat.le_trans (show i.natAbs ≤ N by unfold okD at q; exact q) h
  | .str x, q => by unfold okD at q ⊢; exact q
  | .list xs, q => by unfold okD at q ⊢; exact okAll_mono h xs q
  | .tuple xs, q => by unfold okD at q ⊢; exact okAll_mono h xs q
  | .dict kvs, q => by unfold okD at q ⊢; exact q
theorem okAll_mono {N M : Nat} (h : N ≤ M) : ∀ ds : List PyData, okAll N ds → okAll M ds
  | [], q => by unfold okAll; exact True.intro
  | d :: ds, q => by
    unfold okAll at q ⊢
    exact ⟨okD_mono h d q.1, okAll_mono h ds q.2⟩
end
theorem int_short {i : Int} (h : i.natAbs ≤ 10 ^ 50) : (PyData.shown (.int i)).length ≤ 60 := by
  have e := int_text_length_le10 (a := i) (k := 51) (by decide) (Nat.lt_of_le_of_lt h (by decide))
  show (Str.ofString (toString i)).length ≤ 60
  rw [ofString_length]
  omega
theorem int_log {i : Int} (h : i.natAbs ≤ 10 ^ 50) : i.natAbs.log2 < 1920 := by
  by_cases h0 : i.natAbs = 0
  · rw [h0]
    decide
  · exact (Nat.log2_lt h0).mpr (Nat.lt_of_le_of_lt h (by decide))
mutual
theorem okD_short {N : Nat} (h : N ≤ 10 ^ 50) : ∀ d : PyData, okD N d → d.leavesShort 60 = true ∧ d.showable = true
  | .none, q => ⟨rfl, rfl⟩
  | .bool _, q => ⟨rfl, rfl⟩
  | .int i, q => by
    unfold okD at q
    exact ⟨decide_eq_true (int_short (Nat.le_trans q h)), decide_eq_true (int_log (Nat.le_trans q h))⟩
  | .str x, q => by
    unfold okD at q
    refine ⟨?_, rfl⟩
    show (x.cps.toList.all fun c => decide (c < 16 ^ 8)) = true
    rw [List.all_eq_true]
    exact fun c hc => decide_eq_true (Nat.lt_of_lt_of_le (q c hc) (by decide))
  | .list xs, q => by unfold okD at q; exact okAll_short h xs q
  | .tuple xs, q => by unfold okD at q; exact okAll_short h xs q
  | .dict kvs, q => by
    unfold okD at q
    rcases q with q | q <;> subst q
    · exact ⟨rfl, rfl⟩
    · exact ⟨by decide +kernel, by decide +kernel⟩
theorem okAll_short {N : Nat} (h : N ≤ 10 ^ 50) : ∀ ds : List PyData, okAll N ds → PyData.leavesShortAll 60 ds = true ∧ PyData.showableAll ds = true
  | [], q => ⟨rfl, rfl⟩
  | d :: ds, q => by
    unfold okAll at q
    obtain ⟨a1, a2⟩ := okD_short h d q.1
    obtain ⟨b1, b2⟩ := okAll_short h ds q.2
    unfold PyData.leavesShortAll PyData.showableAll
    rw [a1, a2, b1, b2]
    exact ⟨rfl, rfl⟩
end
/-- bounds of a value: its integers, how deep it is nested, how long it is -/
structure Fine (N n m : Nat) (d : PyData) : Prop where
  ok : okD N d
  dp : d.depth ≤ n
  bk : d.bulk ≤ m
structure FineL (N n m : Nat) (ds : List PyData) : Prop where
  ok : okAll N ds
  dp : PyData.depthAll ds ≤ n
  bk : PyData.bulkAll ds ≤ m
theorem Fine.up {N n m N' n' m' : Nat} {d : PyData} (f : Fine N n m d) (h1 : N ≤ N') (h2 : n ≤ n') (h3 : m ≤ m') : Fine N' n' m' d := ⟨okD_mono h1 _ f.ok, Nat.le_trans f.dp h2, Nat.le_trans f.bk h3⟩
theorem FineL.up {N n m N' n' m' : Nat} {ds : List PyData} (f : FineL N n m ds) (h1 : N ≤ N') (h2 : n ≤ n') (h3 : m ≤ m') : FineL N' n' m' ds := ⟨okAll_mono h1 _ f.ok, Nat.le_trans f.dp h2, Nat.le_trans f.bk h3⟩
theorem Fine.show {N n m : Nat} {d : PyData} (f : Fine N n m d) (h1 : N ≤ 10 ^ 50) (h2 : n ≤ 40) (h3 : m ≤ 100000) : d.showable = true ∧ d.shown.length ≤ sizeLine ∧ d.depth ≤ 40 := by
  obtain ⟨a, b⟩ := okD_short h1 d f.ok
  refine ⟨b, ?_, Nat.le_trans f.dp h2⟩
  have z := PyData.shown_le_bulk 60 (by decide) d a
  have q := f.bk
  exact Nat.le_trans (show d.shown.length ≤ 62 * 100000 + 60 by omega) (by decide)
theorem fine_tup {N n m : Nat} {ds : List PyData} : Fine N (n + 1) m (.tuple ds) ↔ FineL N n m ds := by
  constructor
  · intro f
    have a := f.ok
    have b := f.dp
    have c := f.bk
    unfold okD at a
    unfold PyData.depth at b
    unfold PyData.bulk at c
    exact ⟨a, by omega, c⟩
  · intro f
    refine ⟨?_, ?_, ?_⟩
    · unfold okD; exact f.ok
    · unfold PyData.depth; have := f.dp; omega
    · unfold PyData.bulk; exact f.bk
theorem fine_lst {N n m : Nat} {ds : List PyData} : Fine N (n + 1) m (.list ds) ↔ FineL N n m ds := by
  constructor
  · intro f
    have a := f.ok
    have b := f.dp
    have c := f.bk
    unfold okD at a
    unfold PyData.depth at b
    unfold PyData.bulk at c
    exact ⟨a, by omega, c⟩
  · intro f
    refine ⟨?_, ?_, ?_⟩
    · unfold okD; exact f.ok
    · unfold PyData.depth; have := f.dp; omega
    · unfold PyData.bulk; exact f.bk
theorem fineL_nil {N n m : Nat} : FineL N n m [] := ⟨by unfold okAll; exact True.intro, Nat.zero_le _, Nat.zero_le _⟩
theorem fineL_cons {N n m k : Nat} {d : PyData} {ds : List PyData} (a : Fine N n m d) (b : FineL N n k ds) : FineL N n (m + 1 + k) (d :: ds) := by
  refine ⟨?_, ?_, ?_⟩
  · unfold okAll; exact ⟨a.ok, b.ok⟩
  · unfold PyData.depthAll; exact Nat.max_le.mpr ⟨a.dp, b.dp⟩
  · unfold PyData.bulkAll; have := a.bk; have := b.bk; omega
theorem FineL.head {N n m : Nat} {d : PyData} {ds : List PyData} (f : FineL N n m (d :: ds)) : ∃ k j, k + 1 + j ≤ m ∧ Fine N n k d ∧ FineL N n j ds := by
  have a := f.ok
  have b := f.dp
  have c := f.bk
  unfold okAll at a
  unfold PyData.depthAll at b
  unfold PyData.bulkAll at c
  exact ⟨d.bulk, PyData.bulkAll ds, c, ⟨a.1, (Nat.max_le.mp b).1, Nat.le_refl _⟩, ⟨a.2, (Nat.max_le.mp b).2, Nat.le_refl _⟩⟩
theorem FineL.app {N n : Nat} : ∀ {m k : Nat} {ds es : List PyData}, FineL N n m ds → FineL N n k es → FineL N n (m + k) (ds ++ es)
  | m, k, [], es, _, g => g.up (Nat.le_refl _) (Nat.le_refl _) (by omega)
  | m, k, d :: ds, es, f, g => by
    obtain ⟨a, b, hm, f1, f2⟩ := f.head
    exact (fineL_cons f1 (FineL.app f2 g)).up (Nat.le_refl _) (Nat.le_refl _) (by omega)
theorem FineL.split {N n : Nat} : ∀ {m : Nat} {ds : List PyData} (i : Nat), FineL N n m ds → ∃ k j, k + j ≤ m ∧ FineL N n k (ds.take i) ∧ FineL N n j (ds.drop i)
  | m, ds, 0, f => ⟨0, m, by omega, fineL_nil, f⟩
  | m, [], i + 1, f => ⟨0, 0, by omega, fineL_nil, fineL_nil⟩
  | m, d :: ds, i + 1, f => by
    obtain ⟨a, b, hm, f1, f2⟩ := f.head
    obtain ⟨k, j, h, g1, g2⟩ := FineL.split i f2
    exact ⟨a + 1 + k, j, by omega, fineL_cons f1 g1, g2⟩
theorem FineL.at_ {N n : Nat} : ∀ {m : Nat} {ds : List PyData} {i : Nat} {d : PyData}, FineL N n m ds → ds[i]? = some d → ∃ k j, k + 1 + j ≤ m ∧ Fine N n k d ∧ (∀ {N' n' k' : Nat} {d' : PyData}, N ≤ N' → n ≤ n' → Fine N' n' k' d' → FineL N' n' (k' + 1 + j) (ds.take i ++ d' :: ds.drop (i + 1)))
  | m, [], i, d, f, e => by cases e
  | m, x :: xs, 0, d, f, e => by
    obtain ⟨a, b, hm, f1, f2⟩ := f.head
    cases e
    exact ⟨a, b, hm, f1, fun h1 h2 q => fineL_cons q (f2.up h1 h2 (Nat.le_refl _))⟩
  | m, x :: xs, i + 1, d, f, e => by
    obtain ⟨a, b, hm, f1, f2⟩ := f.head
    obtain ⟨k, j, h, g1, g2⟩ := FineL.at_ (i := i) f2 e
    exact ⟨k, a + 1 + j, by omega, g1, fun h1 h2 q => (fineL_cons (f1.up h1 h2 (Nat.le_refl _)) (g2 h1 h2 q)).up (Nat.le_refl _) (Nat.le_refl _) (by omega)⟩
theorem FineL.rev {N n : Nat} : ∀ {m : Nat} {ds : List PyData}, FineL N n m ds → FineL N n m ds.reverse
  | m, [], f => f
  | m, d :: ds, f => by
    obtain ⟨a, b, hm, f1, f2⟩ := f.head
    rw [List.reverse_cons]
    exact (FineL.app (FineL.rev f2) (fineL_cons f1 (fineL_nil (m := 0)))).up (Nat.le_refl _) (Nat.le_refl _) (by omega)
theorem FineL.len {N n : Nat} : ∀ {m : Nat} {ds : List PyData}, FineL N n m ds → ds.length ≤ m
  | m, [], f => Nat.zero_le _
  | m, d :: ds, f => by
    obtain ⟨a, b, hm, f1, f2⟩ := f.head
    have := FineL.len f2
    rw [List.length_cons]
    omega
theorem fine_str {N n m : Nat} {x : Str} (h : ∀ c ∈ x.cps.toList, c < 128) (hl : x.length ≤ m) : Fine N n m (.str x) := ⟨by unfold okD; exact h, Nat.zero_le _, hl⟩
theorem fine_int {N n m : Nat} {i : Int} (h : i.natAbs ≤ N) : Fine N n m (.int i) := ⟨by unfold okD; exact h, Nat.zero_le _, Nat.zero_le _⟩
theorem fine_non {N n m : Nat} : Fine N n m .none := ⟨by unfold okD; exact True.intro, Nat.zero_le _, Nat.zero_le _⟩
theorem fine_bl {N n m : Nat} {b : Bool} : Fine N n m (.bool b) := ⟨by unfold okD; exact True.intro, Nat.zero_le _, Nat.zero_le _⟩
theorem Fine.str_ {N n m : Nat} {x : Str} (f : Fine N n m (.str x)) : (∀ c ∈ x.cps.toList, c < 128) ∧ x.length ≤ m := ⟨by have := f.ok; unfold okD at this; exact this, f.bk⟩
theorem Fine.int_ {N n m : Nat} {i : Int} (f : Fine N n m (.int i)) : i.natAbs ≤ N := by have := f.ok; unfold okD at this; exact this
theorem int_chars {i : Int} : ∀ c ∈ (Str.ofString (toString i)).cps.toList, c < 128 := fun c hc => by
  refine Classical.byContradiction fun hn => ?_
  exact PyProof.Rows.shown_int_free' (k := c) ⟨by omega, .inr (by omega)⟩ i hc
/-- a part of a tuple, as data -/
def cutD (n : Nat) (ds : List PyData) (lo hi : Option Int) : List PyData := (ds.drop (HT.sIx n 0 lo)).take (HT.sIx n n hi - HT.sIx n 0 lo)
theorem FineL.cut {N n m k : Nat} {ds : List PyData} {lo hi : Option Int} (f : FineL N n m ds) : FineL N n m (cutD k ds lo hi) := by
  obtain ⟨_, j, h, _, f2⟩ := f.split (HT.sIx k 0 lo)
  obtain ⟨i, _, h2, f3, _⟩ := f2.split (HT.sIx k k hi - HT.sIx k 0 lo)
  exact f3.up (Nat.le_refl _) (Nat.le_refl _) (by omega)
theorem VdAll.cut {a : Addr} {H : Hp} {xs : List V} {ds : List PyData} {lo hi : Option Int} (r : VdAll a H xs ds) : VdAll a H (cutV xs lo hi) (cutD xs.length ds lo hi) := (r.drop _).take _
theorem cutV_take {xs : List V} {k : Nat} (h : k ≤ xs.length) : cutV xs none (some (k : Int)) = xs.take k := by
  unfold cutV
  rw [HT.sIx_none, HT.sIx_nat, Nat.min_eq_left h, List.drop_zero, Nat.sub_zero]
theorem cutV_drop {xs : List V} {k : Nat} (h : k ≤ xs.length) : cutV xs (some (k : Int)) none = xs.drop k := by
  unfold cutV
  rw [HT.sIx_none, HT.sIx_nat, Nat.min_eq_left h, List.take_of_length_le (by rw [List.length_drop]; exact Nat.le_refl _)]
theorem cutS_in {z : Str} {lo hi : Option Int} : (∀ c ∈ (cutS z lo hi).cps.toList, c ∈ z.cps.toList) ∧ (cutS z lo hi).length ≤ z.length := by
  unfold cutS
  constructor
  · intro c hc
    exact List.mem_of_mem_drop (List.mem_of_mem_take (by simpa using hc))
  · show (List.toArray _).size ≤ z.length
    rw [List.size_toArray, List.length_take, List.length_drop, Array.length_toList]
    show min _ (z.length - _) ≤ z.length
    omega
section
variable {a : Addr} {H : Hp}
theorem Vd.up {v : V} {d : PyData} {p : Addr} {o : HO} (hp : H p = none) (r : Vd a H v d) : Vd a (upd H p o) v d := Vd.keep (fun q _ _ _ e => by rw [upd_ne (ne_of_none e hp)]; exact e) d v r
end
end VG


set_option Elab.async false
set_option maxRecDepth 100000
set_option maxHeartbeats 8000000
set_option exponentiation.threshold 3000
namespace Vf
open PySem L2 SX Vm
/-! what the program and the law say of a value of any kind -/
inductive SG (H : Hp) (b : Nat) (R : Int) : V → Bool → Prop where
  | non {v : V} {t : Value} (p : Pl H v t) (n : ∀ q xs, v = .ref q → H q ≠ some (.tup xs)) : SG H b R v false
  | len {p : Addr} {xs : List V} (h : H p = some (.tup xs)) (n : xs.length ≠ 3) : SG H b R (.ref p) false
  | root {p : Addr} {r x y : V} {tr : Value} (h : H p = some (.tup [r, x, y])) (pr : Pl H r tr) (n : withinV 0 (R - 1) r = false) : SG H b R (.ref p) false
  | head {p : Addr} {r x y : V} {tr tx : Value} (h : H p = some (.tup [r, x, y])) (pr : Pl H r tr) (w : withinV 0 (R - 1) r = true) (px : Pl H x tx) (n : wordV b x = false) : SG H b R (.ref p) false
  | per {p : Addr} {r x y : V} {tr tx ty : Value} (h : H p = some (.tup [r, x, y])) (pr : Pl H r tr) (w : withinV 0 (R - 1) r = true) (px : Pl H x tx) (wx : wordV b x = true) (py : Pl H y ty) (n : wordV b y = false ∨ y = .str "") : SG H b R (.ref p) false
  | fin {p : Addr} {r : V} {x y : List Nat} {tr : Value} (h : H p = some (.tup [r, .str (S x), .str (S y)])) (pr : Pl H r tr) (w : withinV 0 (R - 1) r = true) (wx : IsW b x) (wy : IsW b y) (y0 : 0 < y.length) (lx : x.length ≤ 1000) (ly : y.length ≤ 1000) : SG H b R (.ref p) (sfB x y)
inductive PG (H : Hp) (b : Nat) (R : Int) : V → Bool → Prop where
  | non {v : V} {t : Value} (p : Pl H v t) (n : ∀ q xs, v = .ref q → H q ≠ some (.tup xs)) : PG H b R v false
  | len {p : Addr} {xs : List V} (h : H p = some (.tup xs)) (n : xs.length ≠ 2) : PG H b R (.ref p) false
  | fin {p : Addr} {r x : V} {tr tx : Value} (h : H p = some (.tup [r, x])) (pr : Pl H r tr) (px : Pl H x tx) : PG H b R (.ref p) (withinV 0 (R - 1) r && wordV b x)
def spStreamFormG : Sp := fun vs H Q _ => ∃ (b : Nat) (R : Int) (v : V) (res : Bool), vs = [.int (b : Int), .int R, v] ∧ 2 ≤ b ∧ b ≤ 5 ∧ SG H b R v res ∧ Q (.bl res) H
def spPfxFormG : Sp := fun vs H Q _ => ∃ (b : Nat) (R : Int) (v : V) (res : Bool), vs = [.int (b : Int), .int R, v] ∧ 2 ≤ b ∧ b ≤ 5 ∧ PG H b R v res ∧ Q (.bl res) H
section
variable {P : Program} {w : World} {K : PySem.W.Frag} {mg : Str → Option Value} {base : Heap}
theorem ok_pfxformG {f fI fW : Addr} {fd fdI fdW : FuncData} (F : Fun K "has_prefix_form" "has_prefix_form" sPfxForm f fd) (GI : FnOk P w K mg base CX0 2 fI fdI ["low", "high", "value"] spWithin) (cI : Cal K mg "is_integer_within" fI fdI ["low", "high", "value"])
    (GW : FnOk P w K mg base CX0 1 fW fdW ["base", "value"] spWordForm) (cW : Cal K mg "has_word_form" fW fdW ["base", "value"]) (N : Nm mg) : FnOk P w K mg base CX0 3 f fd ["base", "roots", "value"] spPfxFormG := by
  refine F.ok scPfxForm (fun vs H Q E h => ?_) (fun cdv A outer s H vs Q E hr h => ?_)
  · obtain ⟨b, R, v, res, rfl, _⟩ := h
    rfl
  · obtain ⟨b, R, v, res, rfl, b2, b5, sf, k⟩ := h
    have nd := scPfxForm.nd
    have hr1 := hr.mono (show 1 ≤ 2 by decide)
    refine ⟨_, pss_cons (ps_if (PW.pt (pw_or (pt_not (pt_val (pe_callB call_isi (by rfl) N.isinst PyProof.Rows.boot_isinstance (pa_cons (pv 2) (pa_cons (pe_bltn (v := .ty "tuple") (by rfl) N.tuple PyProof.Rows.boot_tuple rfl) pa_nil)))))
        (pw_or1 (pt_cmpR op_ne (pe_callB call_len_seq (by rfl) N.len boot_len (pa_cons (pv 2) pa_nil)) pe_int (nomark _)))))
        (pss_one (ps_ret pe_bl)) pss_nil)
      (pss_cons (ps_asg (pv 2) (pg_tup rfl (pgs_cons (pg_name (i := 3) nd rfl (.inl rfl)) (pgs_cons (pg_name (i := 4) nd rfl (.inl rfl)) pgs_nil))))
      (pss_one (ps_ret (pe_and (pe_call GI hr rfl cI.mg cI.kp cI.b .nil pass0 (pa_cons pe_int (pa_cons (pe_op op_sub (pv 1) pe_int) (pa_cons (pv 3) pa_nil))))
        (pe_one (pe_call GW hr1 rfl cW.mg cW.kp cW.b .nil pass0 (pa_cons (pv 0) (pa_cons (pv 4) pa_nil)))))))), ?_⟩
    cases sf with
    | non p n =>
      refine ⟨_, rfl, _, _, _, _, false, rfl, .ty "tuple", p.tyx, kit_tup p n, _, rfl, ?_⟩
      refine iteT ?_
      exact iteT k
    | @len p xs hp n =>
      refine ⟨_, rfl, _, _, _, _, true, rfl, .ty "tuple", (Pl.tup hp).tyx, kit_ty (by decide +kernel), _, rfl, ?_⟩
      refine iteF ?_
      refine ⟨_, rfl, _, _, rfl, .inr (SqT.of hp), rfl, _, rfl, ?_⟩
      exact iteTB (by rw [decide_eq_false (fun z => n (by have := V.int.inj z; omega))]; rfl) k
    | @fin p r x tr tx hp pr px =>
      refine ⟨_, rfl, _, _, _, _, true, rfl, .ty "tuple", (Pl.tup hp).tyx, kit_ty (by decide +kernel), _, rfl, ?_⟩
      refine iteF ?_
      refine ⟨_, rfl, p, _, rfl, .inr (SqT.of hp), rfl, _, rfl, ?_⟩
      refine iteFB rfl ?_
      refine ⟨_, rfl, p, _, rfl, SqT.of hp, rfl, _, _, rfl, _, _, rfl, rfl, ?_⟩
      refine ⟨_, rfl, _, _, rfl, rfl, _, rfl, 0, R - 1, _, _, rfl, pr, _, rfl, ?_⟩
      cases hw : withinV 0 (R - 1) r with
      | false =>
        rw [hw] at k
        exact iteF k
      | true =>
        refine iteT ?_
        rw [hw] at k
        exact ⟨_, rfl, _, rfl, b, x, _, rfl, b2, b5, px, k⟩
end
/-! ### the same of data -/
def cntD (lo hi : Int) : PyData → Bool
  | .int n => decide (lo ≤ n) && decide (n ≤ hi)
  | _ => false
def digD (b : Nat) : PyData → Bool
  | .str s => s.cps.toList.all fun c => decide (48 ≤ c) && decide (c < 48 + b)
  | _ => false
def plcD (b : Nat) (R : Int) : PyData → Bool
  | .tuple [r, x] => cntD 0 (R - 1) r && digD b x
  | _ => false
noncomputable def tlD : PyData → PyData → Bool
  | .str x, .str y => decide (y.cps.toList ≠ []) && sfB x.cps.toList y.cps.toList
  | _, _ => false
noncomputable def endD (b : Nat) (R : Int) : PyData → Bool
  | .tuple [r, x, y] => cntD 0 (R - 1) r && (digD b x && (digD b y && tlD x y))
  | _ => false
open VG in
theorem vd_cnt {a : Addr} {H : Hp} {v : V} {d : PyData} {lo hi : Int} (h : Vd a H v d) : withinV lo hi v = cntD lo hi d := by
  cases h <;> rfl
open VG in
theorem vd_dig {a : Addr} {H : Hp} {v : V} {d : PyData} {b : Nat} (h : Vd a H v d) : wordV b v = digD b d := by
  cases h <;> rfl
open VG in
theorem vd_pl {a : Addr} {H : Hp} {v : V} {d : PyData} {N n m : Nat} (h : Vd a H v d) (f : Fine N n m d) (hm : m ≤ 9000) : ∃ t, Pl H v t := by
  cases h with
  | non => exact ⟨_, .non⟩
  | bl b => exact ⟨_, .bl b⟩
  | int i => exact ⟨_, .int i⟩
  | str x => exact ⟨_, .str x (Nat.le_trans f.str_.2 hm)⟩
  | lst _ _ e _ => exact ⟨_, .lst e⟩
  | tup _ e _ => exact ⟨_, .tup e⟩
  | d0 _ e => exact ⟨_, .dct e⟩
  | d1 _ e => exact ⟨_, .dct e⟩
open VG in
theorem vd_nt {a : Addr} {H : Hp} {v : V} {d : PyData} (h : Vd a H v d) (n : ∀ ds, d ≠ .tuple ds) : ∀ q xs, v = .ref q → H q ≠ some (.tup xs) := by
  intro q xs e z
  cases h with
  | lst _ _ e1 _ => cases e; rw [e1] at z; cases z
  | tup _ e1 _ => exact n _ rfl
  | d0 _ e1 => cases e; rw [e1] at z; cases z
  | d1 _ e1 => cases e; rw [e1] at z; cases z
  | _ => cases e
open VG in
theorem vd_two {a : Addr} {H : Hp} {xs : List V} {r x : PyData} (h : VdAll a H xs [r, x]) : ∃ u y, xs = [u, y] ∧ Vd a H u r ∧ Vd a H y x := by
  cases h with
  | cons h1 h => cases h with
    | cons h2 h => cases h; exact ⟨_, _, rfl, h1, h2⟩
open VG in
theorem vd_three {a : Addr} {H : Hp} {xs : List V} {r x z : PyData} (h : VdAll a H xs [r, x, z]) : ∃ u y t, xs = [u, y, t] ∧ Vd a H u r ∧ Vd a H y x ∧ Vd a H t z := by
  cases h with
  | cons h1 h => cases h with
    | cons h2 h => cases h with
      | cons h3 h => cases h; exact ⟨_, _, _, rfl, h1, h2, h3⟩
open VG in
theorem vd_pg {a : Addr} {H : Hp} {v : V} {d : PyData} {N n m : Nat} {b : Nat} {R : Int} (h : Vd a H v d) (f : Fine N n m d) (hm : m ≤ 1000) : PG H b R v (plcD b R d) := by
  obtain ⟨t, pl⟩ := vd_pl h f (Nat.le_trans hm (by decide))
  have other : (∀ ds, d ≠ .tuple ds) → PG H b R v (plcD b R d) := fun nt => by
    have e : plcD b R d = false := by
      cases d with
      | tuple ds => exact absurd rfl (nt ds)
      | _ => rfl
    rw [e]
    exact .non pl (vd_nt h nt)
  cases h with
  | @tup p xs ds n1 e r =>
    by_cases hl : ds.length = 2
    · match ds, hl with
      | [r0, x0], _ =>
        obtain ⟨u, y, rfl, h1, h2⟩ := vd_two r
        have fl := fine_tup.mp (f.up (Nat.le_refl _) (Nat.le_succ _) (Nat.le_refl _))
        obtain ⟨k, j, hk, f1, f2⟩ := fl.head
        obtain ⟨k2, j2, hk2, f3, _⟩ := f2.head
        obtain ⟨t1, p1⟩ := vd_pl h1 f1 (by omega)
        obtain ⟨t2, p2⟩ := vd_pl h2 f3 (by omega)
        show PG H b R (.ref p) (cntD 0 (R - 1) r0 && digD b x0)
        rw [← vd_cnt h1, ← vd_dig h2]
        exact .fin e p1 p2
    · have ee : plcD b R (.tuple ds) = false := by
        match ds, hl with
        | [], _ => rfl
        | [_], _ => rfl
        | [_, _], hl => exact absurd rfl hl
        | _ :: _ :: _ :: _, _ => rfl
      rw [ee]
      exact .len e (by rw [r.len]; exact hl)
  | _ => exact other (fun _ z => nomatch z)
open VG in
theorem vd_sg {a : Addr} {H : Hp} {v : V} {d : PyData} {N n m : Nat} {b : Nat} {R : Int} (h : Vd a H v d) (f : Fine N n m d) (hm : m ≤ 1000) : SG H b R v (endD b R d) := by
  obtain ⟨t, pl⟩ := vd_pl h f (Nat.le_trans hm (by decide))
  have other : (∀ ds, d ≠ .tuple ds) → SG H b R v (endD b R d) := fun nt => by
    have e : endD b R d = false := by
      cases d with
      | tuple ds => exact absurd rfl (nt ds)
      | _ => rfl
    rw [e]
    exact .non pl (vd_nt h nt)
  cases h with
  | @tup p xs ds n1 e r =>
    by_cases hl : ds.length = 3
    · match ds, hl with
      | [r0, x0, y0], _ =>
        obtain ⟨u, y, z, rfl, h1, h2, h3⟩ := vd_three r
        have fl := fine_tup.mp (f.up (Nat.le_refl _) (Nat.le_succ _) (Nat.le_refl _))
        obtain ⟨k, j, hk, f1, f2⟩ := fl.head
        obtain ⟨k2, j2, hk2, f3, f4⟩ := f2.head
        obtain ⟨k3, j3, hk3, f5, _⟩ := f4.head
        obtain ⟨t1, p1⟩ := vd_pl h1 f1 (by omega)
        obtain ⟨t2, p2⟩ := vd_pl h2 f3 (by omega)
        obtain ⟨t3, p3⟩ := vd_pl h3 f5 (by omega)
        show SG H b R (.ref p) (cntD 0 (R - 1) r0 && (digD b x0 && (digD b y0 && tlD x0 y0)))
        cases c1 : cntD 0 (R - 1) r0 with
        | false => exact .root e p1 (by rw [vd_cnt h1]; exact c1)
        | true =>
          have w1 := (vd_cnt h1).trans c1
          cases c2 : digD b x0 with
          | false => exact .head e p1 w1 p2 (by rw [vd_dig h2]; exact c2)
          | true =>
            have w2 := (vd_dig h2).trans c2
            cases c3 : digD b y0 with
            | false => exact .per e p1 w1 p2 w2 p3 (.inl (by rw [vd_dig h3]; exact c3))
            | true =>
              have w3 := (vd_dig h3).trans c3
              cases h2 with
              | str x =>
                cases h3 with
                | str y' =>
                  by_cases hy : y'.cps.toList = []
                  · have ez : y' = "" := by rw [← S_tl y', hy]; exact str_empty.symm
                    have et : tlD (.str x) (.str y') = false := by
                      show (decide (y'.cps.toList ≠ []) && _) = false
                      rw [decide_eq_false (fun z => z hy)]
                      rfl
                    rw [et]
                    exact .per e p1 w1 p2 w2 p3 (.inr (by rw [ez]))
                  · have et : tlD (.str x) (.str y') = sfB x.cps.toList y'.cps.toList := by
                      show (decide (y'.cps.toList ≠ []) && _) = _
                      rw [decide_eq_true hy]
                      rfl
                    rw [et]
                    have e' : H p = some (.tup [u, .str (S x.cps.toList), .str (S y'.cps.toList)]) := by rw [S_tl, S_tl]; exact e
                    have lx : x.cps.toList.length ≤ 1000 := by have := f3.str_.2; rw [Array.length_toList]; exact Nat.le_trans this (by omega)
                    have ly : y'.cps.toList.length ≤ 1000 := by have := f5.str_.2; rw [Array.length_toList]; exact Nat.le_trans this (by omega)
                    exact .fin e' p1 w1 (of_wordV w2) (of_wordV w3) (List.length_pos_iff.mpr hy) lx ly
                | _ => cases c3
              | _ => cases c2
    · have ee : endD b R (.tuple ds) = false := by
        match ds, hl with
        | [], _ => rfl
        | [_], _ => rfl
        | [_, _], _ => rfl
        | [_, _, _], hl => exact absurd rfl hl
        | _ :: _ :: _ :: _ :: _, _ => rfl
      rw [ee]
      exact .len e (by rw [r.len]; exact hl)
  | _ => exact other (fun _ z => nomatch z)
/-! ### the program's judges, whatever stands before -/
def XNum (CN : Addr) (v : V) : XK → Hp → Prop := fun E H => ∀ d, H d = none → E (.ref CN) (some d) (upd H d (.xd [(("value" : Str), v)]))
def spIsBase : Sp := fun vs H Q _ => ∃ (v : V) (t : Value), vs = [v] ∧ Pl H v t ∧ Q (.bl (withinV 2 5 v)) H
def spIsWord (CN : Addr) : Sp := fun vs H Q E => ∃ (vb v : V) (tb : Value), vs = [vb, v] ∧ Pl H vb tb ∧ (withinV 2 5 vb = false → XNum CN vb E H) ∧
  (∀ b : Nat, vb = .int (b : Int) → 2 ≤ b → b ≤ 5 → ∃ t, Pl H v t ∧ Q (.bl (wordV b v)) H)
def spIsPfxG (CN : Addr) : Sp := fun vs H Q E => ∃ (vb vr v : V) (tb tr : Value), vs = [vb, vr, v] ∧ Pl H vb tb ∧ Pl H vr tr ∧ (withinV 2 5 vb = false → XNum CN vb E H) ∧ (withinV 2 5 vb = true → withinV 1 5000 vr = false → XNum CN vr E H) ∧
  (∀ (b : Nat) (R : Int), vb = .int (b : Int) → vr = .int R → 2 ≤ b → b ≤ 5 → 1 ≤ R → R ≤ 5000 → ∃ res, PG H b R v res ∧ Q (.bl res) H)
def spIsStrG (CN : Addr) : Sp := fun vs H Q E => ∃ (vb vr v : V) (tb tr : Value), vs = [vb, vr, v] ∧ Pl H vb tb ∧ Pl H vr tr ∧ (withinV 2 5 vb = false → XNum CN vb E H) ∧ (withinV 2 5 vb = true → withinV 1 5000 vr = false → XNum CN vr E H) ∧
  (∀ (b : Nat) (R : Int), vb = .int (b : Int) → vr = .int R → 2 ≤ b → b ≤ 5 → 1 ≤ R → R ≤ 5000 → ∃ res, SG H b R v res ∧ Q (.bl res) H)
theorem within_int {lo hi : Int} {v : V} (h : withinV lo hi v = true) : ∃ n, v = .int n ∧ lo ≤ n ∧ n ≤ hi := by
  cases v with
  | int n =>
    have h' : (decide (lo ≤ n) && decide (n ≤ hi)) = true := h
    rw [Bool.and_eq_true, decide_eq_true_eq, decide_eq_true_eq] at h'
    exact ⟨n, rfl, h'.1, h'.2⟩
  | _ => cases h
section
variable {P : Program} {w : World} {K : PySem.W.Frag} {mg : Str → Option Value} {base : Heap}
end
end Vf


set_option Elab.async false
set_option maxRecDepth 100000
set_option maxHeartbeats 8000000
set_option exponentiation.threshold 3000
namespace VG
open PySem PySem.Spec PyProof.Rows L2
section
variable {X : Cx}
/-- l == [], whatever is in l -/
def rEqL0 (K : PySem.W.Frag) : R2 := fun x y H Q => ∃ (a b : Addr) (xs : List V), x = .ref a ∧ y = .ref b ∧ SqL K H a xs ∧ SqL K H b [] ∧ Q (.bl (decide (xs = []))) H
theorem op_eqL0 (hu : X.A.units < cLine) : OpR X (compareOp .Eq) (rEqL0 X.K) := by
  intro pins s σ H x y v u Q I rx ry h
  obtain ⟨a, b, xs, rfl, rfl, ha, hb, q⟩ := h
  cases rx
  cases ry
  obtain ⟨its, r1, p1, _⟩ := I.list ha
  obtain ⟨its2, r2, p2, _⟩ := I.list hb
  cases r2
  cases xs with
  | nil =>
    cases r1
    exact PySem.SeqAt.eq_listAt (e := fun _ => true) p1.isList p2.isList rfl hu (fun j _ j2 => absurd j2 (Nat.not_lt_zero _)) ⟨.bl _, H, I, rfl, q⟩
  | cons x xs =>
    cases r1 with
    | cons r r' => exact PySem.SeqAt.eq_list_lengthsAt p1.isList p2.isList (by simp) hu ⟨.bl _, H, I, rfl, q⟩
end
end VG
namespace Vf
open PySem L2 SX Vm
open PySem.Builtin.Str PySem.StrLaws
theorem isW_small' {b : Int} (b5 : b ≤ 5) {l : List Nat} (w : IsW b l) : ∀ c ∈ l, c < 100 := fun c hc => by
  have := (w c hc).2
  omega
theorem lay_S' {l : List Nat} (w : ∀ c ∈ l, c < 100) : PyData.canLay0 (.str (S l)) = true := by
  show (S l).cps.all _ = true
  rw [Array.all_eq_true']
  intro c hc
  exact decide_eq_true (Nat.lt_trans (w c (by simpa using hc)) (by decide))
theorem shaped3' {r : Int} {h q : List Nat} (wh : ∀ c ∈ h, c < 100) (wq : ∀ c ∈ q, c < 100) : SeqAt.shaped (.tuple [.int r, .str (S h), .str (S q)]) = true := by
  unfold SeqAt.shaped
  have e : PyData.canLay0 (.tuple [.int r, .str (S h), .str (S q)]) = true := by
    show (PyData.canLay0 (.int r) && (PyData.canLay0 (.str (S h)) && (PyData.canLay0 (.str (S q)) && true))) = true
    rw [lay_S' wh, lay_S' wq]
    rfl
  rw [e]
  rfl
theorem eqv3' {r : Int} {h q h' q' : List Nat} : PyData.eqv (.tuple [.int r, .str (S h), .str (S q)]) (.tuple [.int r, .str (S h'), .str (S q')]) = decide (h = h' ∧ q = q') := by
  show ((r == r) && ((S h == S h') && ((S q == S q') && true))) = _
  by_cases c1 : h = h'
  · subst c1
    by_cases c2 : q = q'
    · subst c2
      simp
    · have : (S q == S q') = false := by
        refine Bool.eq_false_iff.mpr fun z => c2 (S_inj (eq_of_beq z))
      rw [this]
      simp [c2]
  · have : (S h == S h') = false := by
      refine Bool.eq_false_iff.mpr fun z => c1 (S_inj (eq_of_beq z))
    rw [this]
    simp [c1]
theorem ends_last {x y : List Nat} (_y0 : 0 < y.length) (h : Txt.endswith (S x) ⟨#[y.getD (y.length - 1) 0]⟩ = false) : 0 < x.length → x.getD (x.length - 1) 0 ≠ y.getD (y.length - 1) 0 := fun h0 z => by
  unfold Txt.endswith at h
  have key := (subAt_one (S x) (y.getD (y.length - 1) 0) (x.length - 1)).mpr (by
    show x[x.length - 1]? = some _
    rw [← z, List.getD_eq_getElem?_getD, List.getElem?_eq_getElem (by omega)]
    rfl)
  have e2 : subAt (S x) ⟨#[y.getD (y.length - 1) 0]⟩ ((S x).length - 1) = true := by rw [S_len]; exact key.2
  have e1 : decide (0 + (⟨#[y.getD (y.length - 1) 0]⟩ : Str).length ≤ (S x).length) = true := decide_eq_true (by rw [S_len]; show 0 + 1 ≤ x.length; omega)
  have e3 : (⟨#[y.getD (y.length - 1) 0]⟩ : Str).length = 1 := rfl
  rw [e1, e3, e2] at h
  cases h
/-- the normal form that the law finds is the value itself exactly if the program says so -/
theorem sf_iff {h q h' q' : List Nat} (n : Nf (ev h q) h' q') (q0 : 0 < q.length) : decide (h' = h ∧ q' = q) = sfB h q := by
  cases e : sfB h q with
  | true =>
    unfold sfB at e
    rw [Bool.and_eq_true, decide_eq_true_eq] at e
    have nf : Nf (ev h q) h q := last_nf (fun _ => rfl) q0 (fun s m a b => e.1.prim q0 s m a b) (ends_last q0 (by simpa using e.2))
    obtain ⟨e1, e2⟩ := n.unique nf
    exact decide_eq_true ⟨e1, e2⟩
  | false =>
    refine decide_eq_false fun z => ?_
    obtain ⟨rfl, rfl⟩ := z
    rw [sfB_nf n] at e
    cases e
def badC (b : Nat) (c : Nat) : Bool := !(decide (48 ≤ c) && decide (c < 48 + b))
theorem bad_nil {b : Nat} {l : List Nat} : decide ((l.filter (badC b)) = []) = l.all fun c => decide (48 ≤ c) && decide (c < 48 + b) := by
  rw [Bool.eq_iff_iff, decide_eq_true_eq, List.filter_eq_nil_iff, List.all_eq_true]
  constructor
  · intro h c hc
    have := h c hc
    unfold badC at this
    simpa using this
  · intro h c hc
    have := h c hc
    unfold badC
    simpa using this
theorem notin_digs {b c : Nat} (b5 : b ≤ 5) : (!(!(occurrences (S (digs b)) ⟨#[c]⟩ 0 (S (digs b)).length 1).isEmpty)) = badC b c := by
  have e := in_one (digs b) c
  have e' : (!(occurrences (S (digs b)) ⟨#[c]⟩ 0 (S (digs b)).length 1).isEmpty) = decide (c ∈ digs b) := e
  rw [e']
  unfold badC
  congr 1
  rw [Bool.eq_iff_iff, decide_eq_true_eq, digs_mem b5]
  simp
def spIsCount : Sp := fun vs H Q _ => ∃ (lo hi : Int) (v : V) (t : Value), vs = [v, .int lo, .int hi] ∧ Pl H v t ∧ Q (.bl (withinV lo hi v)) H
def spIsDig : Sp := fun vs H Q _ => ∃ (b : Nat) (v : V) (t : Value), vs = [.int (b : Int), v] ∧ 2 ≤ b ∧ b ≤ 5 ∧ Pl H v t ∧ ∀ H', Same H H' → Q (.bl (wordV b v)) H'
section
variable {P : Program} {w : World} {K : PySem.W.Frag} {mg : Str → Option Value} {base : Heap}
end
end Vf


set_option Elab.async false
set_option maxRecDepth 100000
set_option maxHeartbeats 8000000
set_option exponentiation.threshold 3000
namespace Vf
open PySem L2 SX Vm
def spIsPlace : Sp := fun vs H Q _ => ∃ (b : Nat) (R : Int) (v : V) (res : Bool), vs = [.int (b : Int), .int R, v] ∧ 2 ≤ b ∧ b ≤ 5 ∧ PG H b R v res ∧ ∀ H', Same H H' → Q (.bl res) H'
def spIsEnd : Sp := fun vs H Q _ => ∃ (b : Nat) (R : Int) (v : V) (res : Bool), vs = [.int (b : Int), .int R, v] ∧ 2 ≤ b ∧ b ≤ 5 ∧ SG H b R v res ∧ ∀ H', Same H H' → Q (.bl res) H'
theorem pl_same {H H' : Hp} {v : V} {t : Value} (p : Pl H v t) (s : Same H H') : Pl H' v t := p.same fun b o e _ => s b o e
section
variable {P : Program} {w : World} {K : PySem.W.Frag} {mg : Str → Option Value} {base : Heap}
end
end Vf


set_option Elab.async false
set_option maxRecDepth 100000
set_option maxHeartbeats 16000000
set_option exponentiation.threshold 3000
namespace Vf
open PySem L2 SX Vm VG
/-- the greatest number among the odd values, and some room -/
def N0 : Nat := 10 ^ 41 + 10
theorem fine_d0 {N n m : Nat} : Fine N (n + 1) m (.dict []) := ⟨by unfold okD; exact .inl rfl, Nat.succ_le_succ (Nat.zero_le _), Nat.zero_le _⟩
theorem fine_d1 {N n m : Nat} : Fine N (n + 1) (m + 2) (.dict [(.int 0, .int 0)]) := ⟨by unfold okD; exact .inr rfl, Nat.succ_le_succ (Nat.zero_le _), (by show 2 ≤ m + 2; omega)⟩
theorem ne_die {H : Hp} {a p : Addr} {l : List V} (h : H a = some (.lst l)) (n : H p = none) : p ≠ a := fun z => by rw [z, h] at n; cases n
theorem VdAll.kp {a : Addr} {H H' : Hp} {vs : List V} {ds : List PyData} (r : VdAll a H vs ds) (k : Kp a H H') : VdAll a H' vs ds := VG.VdAll.keep (fun q o n _ e => k q o n e) ds vs r
theorem Vd.kp {a : Addr} {H H' : Hp} {v : V} {d : PyData} (r : Vd a H v d) (k : Kp a H H') : Vd a H' v d := VG.Vd.keep (fun q o n _ e => k q o n e) d v r
theorem VdAll.up {a p : Addr} {H : Hp} {o : HO} {vs : List V} {ds : List PyData} (n : H p = none) (r : VdAll a H vs ds) : VdAll a (upd H p o) vs ds := VdAll.kp r (Kp.new n)
/-- what has grown since H0: all that was is kept, the dice, and the values made -/
structure Gr (a : Addr) (D : List V) (H0 J : Hp) (vs : List V) (ds : List PyData) : Prop where
  kp : Kp a H0 J
  da : J a = some (.lst D)
  r : VdAll a J vs ds
section
variable {a p : Addr} {D : List V} {H0 J J2 : Hp} {vs us : List V} {ds es : List PyData}
theorem Gr.new (g : Gr a D H0 J vs ds) (n : J p = none) {o : HO} : Gr a D H0 (upd J p o) vs ds := ⟨g.kp.trans (Kp.new n), by rw [upd_ne (ne_die g.da n).symm]; exact g.da, VdAll.up n g.r⟩
theorem Gr.add (g : Gr a D H0 J vs ds) {v : V} {d : PyData} (h : Vd a J v d) : Gr a D H0 J (vs ++ [v]) (ds ++ [d]) := ⟨g.kp, g.da, g.r.app (.cons h .nil)⟩
theorem Gr.here (g : Gr a D H0 J vs ds) : Gr a D J J [] [] := ⟨Kp.refl _ _, g.da, .nil⟩
theorem Gr.join (g : Gr a D H0 J vs ds) (f : Gr a D J J2 us es) : Gr a D H0 J2 (vs ++ us) (ds ++ es) := ⟨g.kp.trans f.kp, f.da, (VdAll.kp g.r f.kp).app f.r⟩
end
def oddL : List PyData := [.none, .bool true, .bool false, .int (-1), .int 0, .int 1, .int 2, .int 9, .int (10 ^ (40 : Int).toNat), .int (1 - 10 ^ (41 : Int).toNat), .str "", .str "0", .str "01", .str "a", .tuple [], .tuple [.int 0], .tuple [.int 0, .str ""], .tuple [.int 0, .str "0"], .list [], .list [.int 0], .dict [], .tuple [.tuple [.int 0, .str ""]], .tuple [.int 0, .str "", .str "0"], .tuple [.int 0, .str "0", .str "10"], .tuple [.int 1, .str "", .str ""], .tuple [.bool true, .str ""], .dict [(.int 0, .int 0)], .tuple [.int 0, .int 0], .tuple [.str "", .int 0]]
theorem odd_fine : ∀ d ∈ oddL, Fine N0 2 12 d := by
  unfold oddL
  exact (List.forall_mem_cons.mpr ⟨VG.fine_non, (List.forall_mem_cons.mpr ⟨VG.fine_bl, (List.forall_mem_cons.mpr ⟨VG.fine_bl, (List.forall_mem_cons.mpr ⟨(VG.Fine.up (n := 2) (m := 0) (VG.fine_int (N := N0) (i := ((-1))) (by decide +kernel)) (Nat.le_refl _) (Nat.le_refl 2) (by decide)), (List.forall_mem_cons.mpr ⟨(VG.Fine.up (n := 2) (m := 0) (VG.fine_int (N := N0) (i := (0)) (by decide +kernel)) (Nat.le_refl _) (Nat.le_refl 2) (by decide)), (List.forall_mem_cons.mpr ⟨(VG.Fine.up (n := 2) (m := 0) (VG.fine_int (N := N0) (i := (1)) (by decide +kernel)) (Nat.le_refl _) (Nat.le_refl 2) (by decide)), (List.forall_mem_cons.mpr ⟨(VG.Fine.up (n := 2) (m := 0) (VG.fine_int (N := N0) (i := (2)) (by decide +kernel)) (Nat.le_refl _) (Nat.le_refl 2) (by decide)), (List.forall_mem_cons.mpr ⟨(VG.Fine.up (n := 2) (m := 0) (VG.fine_int (N := N0) (i := (9)) (by decide +kernel)) (Nat.le_refl _) (Nat.le_refl 2) (by decide)), (List.forall_mem_cons.mpr ⟨(VG.Fine.up (n := 2) (m := 0) (VG.fine_int (N := N0) (i := ((10 ^ (40 : Int).toNat))) (by decide +kernel)) (Nat.le_refl _) (Nat.le_refl 2) (by decide)), (List.forall_mem_cons.mpr ⟨(VG.Fine.up (n := 2) (m := 0) (VG.fine_int (N := N0) (i := ((1 - 10 ^ (41 : Int).toNat))) (by decide +kernel)) (Nat.le_refl _) (Nat.le_refl 2) (by decide)), (List.forall_mem_cons.mpr ⟨(VG.Fine.up (n := 2) (m := 0) (VG.fine_str (N := N0) (x := "") (by decide +kernel) (by decide +kernel)) (Nat.le_refl _) (Nat.le_refl 2) (by decide)), (List.forall_mem_cons.mpr ⟨(VG.Fine.up (n := 2) (m := 1) (VG.fine_str (N := N0) (x := "0") (by decide +kernel) (by decide +kernel)) (Nat.le_refl _) (Nat.le_refl 2) (by decide)), (List.forall_mem_cons.mpr ⟨(VG.Fine.up (n := 2) (m := 2) (VG.fine_str (N := N0) (x := "01") (by decide +kernel) (by decide +kernel)) (Nat.le_refl _) (Nat.le_refl 2) (by decide)), (List.forall_mem_cons.mpr ⟨(VG.Fine.up (n := 2) (m := 1) (VG.fine_str (N := N0) (x := "a") (by decide +kernel) (by decide +kernel)) (Nat.le_refl _) (Nat.le_refl 2) (by decide)), (List.forall_mem_cons.mpr ⟨(VG.Fine.up (((VG.fine_tup (N := N0) (n := 1) (m := 0)).mpr (VG.fineL_nil (N := N0) (n := 1) (m := 0)))) (Nat.le_refl _) (Nat.le_refl 2) (by decide)), (List.forall_mem_cons.mpr ⟨(VG.Fine.up (((VG.fine_tup (N := N0) (n := 1) (m := 1)).mpr (VG.fineL_cons (N := N0) (n := 1) (m := 0) (k := 0) (VG.fine_int (N := N0) (i := (0)) (by decide +kernel)) (VG.fineL_nil (N := N0) (n := 1) (m := 0))))) (Nat.le_refl _) (Nat.le_refl 2) (by decide)), (List.forall_mem_cons.mpr ⟨(VG.Fine.up (((VG.fine_tup (N := N0) (n := 1) (m := 2)).mpr (VG.fineL_cons (N := N0) (n := 1) (m := 0) (k := 1) (VG.fine_int (N := N0) (i := (0)) (by decide +kernel)) (VG.fineL_cons (N := N0) (n := 1) (m := 0) (k := 0) (VG.fine_str (N := N0) (x := "") (by decide +kernel) (by decide +kernel)) (VG.fineL_nil (N := N0) (n := 1) (m := 0)))))) (Nat.le_refl _) (Nat.le_refl 2) (by decide)), (List.forall_mem_cons.mpr ⟨(VG.Fine.up (((VG.fine_tup (N := N0) (n := 1) (m := 3)).mpr (VG.fineL_cons (N := N0) (n := 1) (m := 0) (k := 2) (VG.fine_int (N := N0) (i := (0)) (by decide +kernel)) (VG.fineL_cons (N := N0) (n := 1) (m := 1) (k := 0) (VG.fine_str (N := N0) (x := "0") (by decide +kernel) (by decide +kernel)) (VG.fineL_nil (N := N0) (n := 1) (m := 0)))))) (Nat.le_refl _) (Nat.le_refl 2) (by decide)), (List.forall_mem_cons.mpr ⟨(VG.Fine.up (((VG.fine_lst (N := N0) (n := 1) (m := 0)).mpr (VG.fineL_nil (N := N0) (n := 1) (m := 0)))) (Nat.le_refl _) (Nat.le_refl 2) (by decide)), (List.forall_mem_cons.mpr ⟨(VG.Fine.up (((VG.fine_lst (N := N0) (n := 1) (m := 1)).mpr (VG.fineL_cons (N := N0) (n := 1) (m := 0) (k := 0) (VG.fine_int (N := N0) (i := (0)) (by decide +kernel)) (VG.fineL_nil (N := N0) (n := 1) (m := 0))))) (Nat.le_refl _) (Nat.le_refl 2) (by decide)), (List.forall_mem_cons.mpr ⟨fine_d0, (List.forall_mem_cons.mpr ⟨(VG.Fine.up (((VG.fine_tup (N := N0) (n := 1) (m := 3)).mpr (VG.fineL_cons (N := N0) (n := 1) (m := 2) (k := 0) ((VG.fine_tup (N := N0) (n := 0) (m := 2)).mpr (VG.fineL_cons (N := N0) (n := 0) (m := 0) (k := 1) (VG.fine_int (N := N0) (i := (0)) (by decide +kernel)) (VG.fineL_cons (N := N0) (n := 0) (m := 0) (k := 0) (VG.fine_str (N := N0) (x := "") (by decide +kernel) (by decide +kernel)) (VG.fineL_nil (N := N0) (n := 0) (m := 0))))) (VG.fineL_nil (N := N0) (n := 1) (m := 0))))) (Nat.le_refl _) (Nat.le_refl 2) (by decide)), (List.forall_mem_cons.mpr ⟨(VG.Fine.up (((VG.fine_tup (N := N0) (n := 1) (m := 4)).mpr (VG.fineL_cons (N := N0) (n := 1) (m := 0) (k := 3) (VG.fine_int (N := N0) (i := (0)) (by decide +kernel)) (VG.fineL_cons (N := N0) (n := 1) (m := 0) (k := 2) (VG.fine_str (N := N0) (x := "") (by decide +kernel) (by decide +kernel)) (VG.fineL_cons (N := N0) (n := 1) (m := 1) (k := 0) (VG.fine_str (N := N0) (x := "0") (by decide +kernel) (by decide +kernel)) (VG.fineL_nil (N := N0) (n := 1) (m := 0))))))) (Nat.le_refl _) (Nat.le_refl 2) (by decide)), (List.forall_mem_cons.mpr ⟨(VG.Fine.up (((VG.fine_tup (N := N0) (n := 1) (m := 6)).mpr (VG.fineL_cons (N := N0) (n := 1) (m := 0) (k := 5) (VG.fine_int (N := N0) (i := (0)) (by decide +kernel)) (VG.fineL_cons (N := N0) (n := 1) (m := 1) (k := 3) (VG.fine_str (N := N0) (x := "0") (by decide +kernel) (by decide +kernel)) (VG.fineL_cons (N := N0) (n := 1) (m := 2) (k := 0) (VG.fine_str (N := N0) (x := "10") (by decide +kernel) (by decide +kernel)) (VG.fineL_nil (N := N0) (n := 1) (m := 0))))))) (Nat.le_refl _) (Nat.le_refl 2) (by decide)), (List.forall_mem_cons.mpr ⟨(VG.Fine.up (((VG.fine_tup (N := N0) (n := 1) (m := 3)).mpr (VG.fineL_cons (N := N0) (n := 1) (m := 0) (k := 2) (VG.fine_int (N := N0) (i := (1)) (by decide +kernel)) (VG.fineL_cons (N := N0) (n := 1) (m := 0) (k := 1) (VG.fine_str (N := N0) (x := "") (by decide +kernel) (by decide +kernel)) (VG.fineL_cons (N := N0) (n := 1) (m := 0) (k := 0) (VG.fine_str (N := N0) (x := "") (by decide +kernel) (by decide +kernel)) (VG.fineL_nil (N := N0) (n := 1) (m := 0))))))) (Nat.le_refl _) (Nat.le_refl 2) (by decide)), (List.forall_mem_cons.mpr ⟨(VG.Fine.up (((VG.fine_tup (N := N0) (n := 1) (m := 2)).mpr (VG.fineL_cons (N := N0) (n := 1) (m := 0) (k := 1) VG.fine_bl (VG.fineL_cons (N := N0) (n := 1) (m := 0) (k := 0) (VG.fine_str (N := N0) (x := "") (by decide +kernel) (by decide +kernel)) (VG.fineL_nil (N := N0) (n := 1) (m := 0)))))) (Nat.le_refl _) (Nat.le_refl 2) (by decide)), (List.forall_mem_cons.mpr ⟨fine_d1, (List.forall_mem_cons.mpr ⟨(VG.Fine.up (((VG.fine_tup (N := N0) (n := 1) (m := 2)).mpr (VG.fineL_cons (N := N0) (n := 1) (m := 0) (k := 1) (VG.fine_int (N := N0) (i := (0)) (by decide +kernel)) (VG.fineL_cons (N := N0) (n := 1) (m := 0) (k := 0) (VG.fine_int (N := N0) (i := (0)) (by decide +kernel)) (VG.fineL_nil (N := N0) (n := 1) (m := 0)))))) (Nat.le_refl _) (Nat.le_refl 2) (by decide)), (List.forall_mem_cons.mpr ⟨(VG.Fine.up (((VG.fine_tup (N := N0) (n := 1) (m := 2)).mpr (VG.fineL_cons (N := N0) (n := 1) (m := 0) (k := 1) (VG.fine_str (N := N0) (x := "") (by decide +kernel) (by decide +kernel)) (VG.fineL_cons (N := N0) (n := 1) (m := 0) (k := 0) (VG.fine_int (N := N0) (i := (0)) (by decide +kernel)) (VG.fineL_nil (N := N0) (n := 1) (m := 0)))))) (Nat.le_refl _) (Nat.le_refl 2) (by decide)), (by intro _ z; cases z)⟩)⟩)⟩)⟩)⟩)⟩)⟩)⟩)⟩)⟩)⟩)⟩)⟩)⟩)⟩)⟩)⟩)⟩)⟩)⟩)⟩)⟩)⟩)⟩)⟩)⟩)⟩)⟩)⟩)
def spOdd : Sp := fun vs H Q _ => ∃ (a : Addr) (d : Int × Int × Int), vs = [.ref a] ∧ H a = some (.lst (dieL d)) ∧ DieOk d ∧ d.2.2 ≤ 990000000 ∧
  ∀ (v : V) (pd : PyData) (d' : Int × Int × Int) (H' : Hp), Vd a H' v pd → Fine N0 2 12 pd → DieOk d' → d'.2.2 ≤ d.2.2 + 1 → Kp a H H' → H' a = some (.lst (dieL d')) → Q v H'
section
variable {P : Program} {w : World} {K : PySem.W.Frag} {mg : Str → Option Value} {base : Heap}
theorem scOdd : FnScope ["die", "some"] ["die"] (defScope sOdd) := ⟨rfl, rfl, rfl, by decide +kernel, rfl, by decide +kernel, by decide +kernel⟩
theorem ok_odd {f fP : Addr} {fd fdP : FuncData} (F : Fun K "_law_odd" "_law_odd" sOdd f fd) (GP : FnOk P w K mg base CX0 1 fP fdP ["die", "many"] spPull) (cP : Cal K mg "_law_pull" fP fdP ["die", "many"]) : FnOk P w K mg base CX0 2 f fd ["die"] spOdd := by
  refine F.ok scOdd (fun vs H Q E h => ?_) (fun cdv A outer s H vs Q E hr h => ?_)
  · obtain ⟨a, d, rfl, _⟩ := h
    rfl
  · obtain ⟨a, d, rfl, ha, hd, hc, k⟩ := h
    have nd := scOdd.nd
    refine ⟨_, pss_cons (ps_set (i := 1) nd rfl (.inl rfl) (pe_lst (pa_cons pe_non (pa_cons pe_bl (pa_cons pe_bl (pa_cons (pe_un un_neg pe_int) (pa_cons pe_int (pa_cons pe_int (pa_cons pe_int (pa_cons pe_int (pa_cons (pe_op op_pow pe_int pe_int) (pa_cons (pe_op op_sub pe_int (pe_op op_pow pe_int pe_int)) (pa_cons pe_str (pa_cons pe_str (pa_cons pe_str (pa_cons pe_str (pa_cons (pe_tup pa_nil) (pa_cons (pe_tup (pa_cons pe_int pa_nil)) (pa_cons (pe_tup (pa_cons pe_int (pa_cons pe_str pa_nil))) (pa_cons (pe_tup (pa_cons pe_int (pa_cons pe_str pa_nil))) pa_nil))))))))))))))))))))
      (pss_cons (ps_set (i := 1) nd rfl (.inl rfl) (pe_op op_cat (pv 1) (pe_lst (pa_cons (VG.pe_lstB pa_nil) (pa_cons (VG.pe_lstB (pa_cons pe_int pa_nil)) (pa_cons pe_dnewK (pa_cons (pe_tup (pa_cons (pe_tup (pa_cons pe_int (pa_cons pe_str pa_nil))) pa_nil)) (pa_cons (pe_tup (pa_cons pe_int (pa_cons pe_str (pa_cons pe_str pa_nil)))) (pa_cons (pe_tup (pa_cons pe_int (pa_cons pe_str (pa_cons pe_str pa_nil)))) (pa_cons (pe_tup (pa_cons pe_int (pa_cons pe_str (pa_cons pe_str pa_nil)))) (pa_cons (pe_tup (pa_cons pe_bl (pa_cons pe_str pa_nil))) (pa_cons (pe_disp (pps_cons pe_int pe_int pps_nil) rfl rfl (by decide) (by decide)) pa_nil))))))))))))
      (pss_cons (ps_set (i := 1) nd rfl (.inl rfl) (pe_op op_cat (pv 1) (pe_lst (pa_cons (pe_tup (pa_cons pe_int (pa_cons pe_int pa_nil))) (pa_cons (pe_tup (pa_cons pe_str (pa_cons pe_int pa_nil))) pa_nil)))))
      (pss_one (ps_ret (pe_ix ix_list (pv 1) (pe_call GP hr rfl cP.mg cP.kp cP.b .nil pass0 (pa_cons (pv 0) (pa_cons pe_int pa_nil))) (fun _ _ => rfl)))))), ?_⟩
    have g0 : Gr a (dieL d) H H [] [] := ⟨Kp.refl _ _, ha, .nil⟩
    have g1 := g0.add .non
    have g2 := g1.add (.bl true)
    have g3 := g2.add (.bl false)
    have g4 := g3.add (.int ((-1)))
    have g5 := g4.add (.int (0))
    have g6 := g5.add (.int (1))
    have g7 := g6.add (.int (2))
    have g8 := g7.add (.int (9))
    have g9 := g8.add (.int ((10 ^ (40 : Int).toNat)))
    have g10 := g9.add (.int ((1 - 10 ^ (41 : Int).toNat)))
    have g11 := g10.add (.str "")
    have g12 := g11.add (.str "0")
    have g13 := g12.add (.str "01")
    have g14 := g13.add (.str "a")
    refine ⟨_, rfl, _, _, rfl, rfl, ⟨by decide, by decide, by decide +kernel⟩, _, _, rfl, rfl, ⟨by decide, by decide, by decide +kernel⟩, _, _, rfl, rfl, (by show 0 ≤ sizeLine; decide), fun p15 n15 => ?_⟩
    have ne15 : p15 ≠ a := ne_die g14.da n15
    have v15 : Vd a (upd H p15 (.tup [])) (.ref p15) (.tuple []) := .tup ne15 upd_same (VdAll.up n15 .nil)
    have g15 := g14.new n15 (o := (.tup []))
    generalize upd H p15 (.tup []) = J15 at v15 g15 ⊢
    have g16 := g15.add v15
    refine ⟨(by show 1 ≤ sizeLine; decide), fun p17 n17 => ?_⟩
    have ne17 : p17 ≠ a := ne_die g16.da n17
    have v17 : Vd a (upd J15 p17 (.tup [V.int 0])) (.ref p17) (.tuple [.int 0]) := .tup ne17 upd_same (VdAll.up n17 (.cons (.int (0)) .nil))
    have g17 := g16.new n17 (o := (.tup [V.int 0]))
    generalize upd J15 p17 (.tup [V.int 0]) = J17 at v17 g17 ⊢
    have g18 := g17.add v17
    refine ⟨(by show 2 ≤ sizeLine; decide), fun p19 n19 => ?_⟩
    have ne19 : p19 ≠ a := ne_die g18.da n19
    have v19 : Vd a (upd J17 p19 (.tup [V.int 0, V.str ""])) (.ref p19) (.tuple [.int 0, .str ""]) := .tup ne19 upd_same (VdAll.up n19 (.cons (.int (0)) (.cons (.str "") .nil)))
    have g19 := g18.new n19 (o := (.tup [V.int 0, V.str ""]))
    generalize upd J17 p19 (.tup [V.int 0, V.str ""]) = J19 at v19 g19 ⊢
    have g20 := g19.add v19
    refine ⟨(by show 2 ≤ sizeLine; decide), fun p21 n21 => ?_⟩
    have ne21 : p21 ≠ a := ne_die g20.da n21
    have v21 : Vd a (upd J19 p21 (.tup [V.int 0, V.str "0"])) (.ref p21) (.tuple [.int 0, .str "0"]) := .tup ne21 upd_same (VdAll.up n21 (.cons (.int (0)) (.cons (.str "0") .nil)))
    have g21 := g20.new n21 (o := (.tup [V.int 0, V.str "0"]))
    generalize upd J19 p21 (.tup [V.int 0, V.str "0"]) = J21 at v21 g21 ⊢
    have g22 := g21.add v21
    refine ⟨(by show 18 ≤ sizeLine; decide), fun l1 nl1 => ?_⟩
    have r1 := g22.new nl1 (o := .lst [V.non, V.bl true, V.bl false, V.int (-1), V.int 0, V.int 1, V.int 2, V.int 9, V.int (10 ^ (40 : Int).toNat), V.int (1 - 10 ^ (41 : Int).toNat), V.str "", V.str "0", V.str "01", V.str "a", V.ref p15, V.ref p17, V.ref p19, V.ref p21])
    have w1 : l1 ≠ a := ne_die g22.da nl1
    have e1 : upd J21 l1 (.lst [V.non, V.bl true, V.bl false, V.int (-1), V.int 0, V.int 1, V.int 2, V.int 9, V.int (10 ^ (40 : Int).toNat), V.int (1 - 10 ^ (41 : Int).toNat), V.str "", V.str "0", V.str "01", V.str "a", V.ref p15, V.ref p17, V.ref p19, V.ref p21]) l1 = some (.lst [V.non, V.bl true, V.bl false, V.int (-1), V.int 0, V.int 1, V.int 2, V.int 9, V.int (10 ^ (40 : Int).toNat), V.int (1 - 10 ^ (41 : Int).toNat), V.str "", V.str "0", V.str "01", V.str "a", V.ref p15, V.ref p17, V.ref p19, V.ref p21]) := upd_same
    generalize upd J21 l1 (.lst [V.non, V.bl true, V.bl false, V.int (-1), V.int 0, V.int 1, V.int 2, V.int 9, V.int (10 ^ (40 : Int).toNat), V.int (1 - 10 ^ (41 : Int).toNat), V.str "", V.str "0", V.str "01", V.str "a", V.ref p15, V.ref p17, V.ref p19, V.ref p21]) = A1 at r1 e1 ⊢
    have h1 := r1.here
    refine ⟨_, rfl, (by show 0 ≤ sizeLine; decide), fun p23 s23 n23 => ?_⟩
    have ne23 : p23 ≠ a := ne_die h1.da n23
    have v23 : Vd a (upd A1 p23 (.lst [])) (.ref p23) (.list []) := .lst ne23 s23 upd_same (VdAll.up n23 .nil)
    have g23 := h1.new n23 (o := (.lst []))
    generalize upd A1 p23 (.lst []) = J23 at v23 g23 ⊢
    have g24 := g23.add v23
    refine ⟨(by show 1 ≤ sizeLine; decide), fun p25 s25 n25 => ?_⟩
    have ne25 : p25 ≠ a := ne_die g24.da n25
    have v25 : Vd a (upd J23 p25 (.lst [V.int 0])) (.ref p25) (.list [.int 0]) := .lst ne25 s25 upd_same (VdAll.up n25 (.cons (.int (0)) .nil))
    have g25 := g24.new n25 (o := (.lst [V.int 0]))
    generalize upd J23 p25 (.lst [V.int 0]) = J25 at v25 g25 ⊢
    have g26 := g25.add v25
    refine fun p27 n27 => ?_
    have ne27 : p27 ≠ a := ne_die g26.da n27
    have v27 : Vd a (upd J25 p27 (.dK [])) (.ref p27) (.dict []) := .d0 ne27 upd_same
    have g27 := g26.new n27 (o := .dK [])
    generalize upd J25 p27 (.dK []) = J27 at v27 g27 ⊢
    have g28 := g27.add v27
    refine ⟨(by show 2 ≤ sizeLine; decide), fun p29 n29 => ?_⟩
    have ne29 : p29 ≠ a := ne_die g28.da n29
    have v29 : Vd a (upd J27 p29 (.tup [V.int 0, V.str ""])) (.ref p29) (.tuple [.int 0, .str ""]) := .tup ne29 upd_same (VdAll.up n29 (.cons (.int (0)) (.cons (.str "") .nil)))
    have g29 := g28.new n29 (o := (.tup [V.int 0, V.str ""]))
    generalize upd J27 p29 (.tup [V.int 0, V.str ""]) = J29 at v29 g29 ⊢
    refine ⟨(by show 1 ≤ sizeLine; decide), fun p30 n30 => ?_⟩
    have ne30 : p30 ≠ a := ne_die g29.da n30
    have v30 : Vd a (upd J29 p30 (.tup [V.ref p29])) (.ref p30) (.tuple [.tuple [.int 0, .str ""]]) := .tup ne30 upd_same (VdAll.up n30 (.cons v29 .nil))
    have g30 := g29.new n30 (o := (.tup [V.ref p29]))
    generalize upd J29 p30 (.tup [V.ref p29]) = J30 at v30 g30 ⊢
    have g31 := g30.add v30
    refine ⟨(by show 3 ≤ sizeLine; decide), fun p32 n32 => ?_⟩
    have ne32 : p32 ≠ a := ne_die g31.da n32
    have v32 : Vd a (upd J30 p32 (.tup [V.int 0, V.str "", V.str "0"])) (.ref p32) (.tuple [.int 0, .str "", .str "0"]) := .tup ne32 upd_same (VdAll.up n32 (.cons (.int (0)) (.cons (.str "") (.cons (.str "0") .nil))))
    have g32 := g31.new n32 (o := (.tup [V.int 0, V.str "", V.str "0"]))
    generalize upd J30 p32 (.tup [V.int 0, V.str "", V.str "0"]) = J32 at v32 g32 ⊢
    have g33 := g32.add v32
    refine ⟨(by show 3 ≤ sizeLine; decide), fun p34 n34 => ?_⟩
    have ne34 : p34 ≠ a := ne_die g33.da n34
    have v34 : Vd a (upd J32 p34 (.tup [V.int 0, V.str "0", V.str "10"])) (.ref p34) (.tuple [.int 0, .str "0", .str "10"]) := .tup ne34 upd_same (VdAll.up n34 (.cons (.int (0)) (.cons (.str "0") (.cons (.str "10") .nil))))
    have g34 := g33.new n34 (o := (.tup [V.int 0, V.str "0", V.str "10"]))
    generalize upd J32 p34 (.tup [V.int 0, V.str "0", V.str "10"]) = J34 at v34 g34 ⊢
    have g35 := g34.add v34
    refine ⟨(by show 3 ≤ sizeLine; decide), fun p36 n36 => ?_⟩
    have ne36 : p36 ≠ a := ne_die g35.da n36
    have v36 : Vd a (upd J34 p36 (.tup [V.int 1, V.str "", V.str ""])) (.ref p36) (.tuple [.int 1, .str "", .str ""]) := .tup ne36 upd_same (VdAll.up n36 (.cons (.int (1)) (.cons (.str "") (.cons (.str "") .nil))))
    have g36 := g35.new n36 (o := (.tup [V.int 1, V.str "", V.str ""]))
    generalize upd J34 p36 (.tup [V.int 1, V.str "", V.str ""]) = J36 at v36 g36 ⊢
    have g37 := g36.add v36
    refine ⟨(by show 2 ≤ sizeLine; decide), fun p38 n38 => ?_⟩
    have ne38 : p38 ≠ a := ne_die g37.da n38
    have v38 : Vd a (upd J36 p38 (.tup [V.bl true, V.str ""])) (.ref p38) (.tuple [.bool true, .str ""]) := .tup ne38 upd_same (VdAll.up n38 (.cons (.bl true) (.cons (.str "") .nil)))
    have g38 := g37.new n38 (o := (.tup [V.bl true, V.str ""]))
    generalize upd J36 p38 (.tup [V.bl true, V.str ""]) = J38 at v38 g38 ⊢
    have g39 := g38.add v38
    refine fun p40 n40 => ?_
    refine ⟨upd_same, [(.inl 0, .int 0)], rfl, by decide, ?_⟩
    rw [upd_upd', show mergeK [] [(Sum.inl 0, V.int 0)] = [(Sum.inl 0, V.int 0)] from rfl]
    have ne40 : p40 ≠ a := ne_die g39.da n40
    have v40 : Vd a (upd J38 p40 (.dK [(.inl 0, .int 0)])) (.ref p40) (.dict [(.int 0, .int 0)]) := .d1 ne40 upd_same
    have g40 := g39.new n40 (o := .dK [(.inl 0, .int 0)])
    generalize upd J38 p40 (.dK [(.inl 0, .int 0)]) = J40 at v40 g40 ⊢
    have g41 := g40.add v40
    refine ⟨(by show 9 ≤ sizeLine; decide), fun l2 nl2 => ?_⟩
    have r2 := g41.new nl2 (o := .lst [V.ref p23, V.ref p25, V.ref p27, V.ref p30, V.ref p32, V.ref p34, V.ref p36, V.ref p38, V.ref p40])
    have e2 : upd J40 l2 (.lst [V.ref p23, V.ref p25, V.ref p27, V.ref p30, V.ref p32, V.ref p34, V.ref p36, V.ref p38, V.ref p40]) l2 = some (.lst [V.ref p23, V.ref p25, V.ref p27, V.ref p30, V.ref p32, V.ref p34, V.ref p36, V.ref p38, V.ref p40]) := upd_same
    generalize upd J40 l2 (.lst [V.ref p23, V.ref p25, V.ref p27, V.ref p30, V.ref p32, V.ref p34, V.ref p36, V.ref p38, V.ref p40]) = A2 at r2 e2 ⊢
    have h2 := r1.join r2
    refine ⟨l1, l2, _, _, rfl, rfl, r2.kp _ _ w1 e1, e2, (by show 27 ≤ sizeLine; decide), fun l3 nl3 => ?_⟩
    have r3 := h2.new nl3 (o := .lst ([V.non, V.bl true, V.bl false, V.int (-1), V.int 0, V.int 1, V.int 2, V.int 9, V.int (10 ^ (40 : Int).toNat), V.int (1 - 10 ^ (41 : Int).toNat), V.str "", V.str "0", V.str "01", V.str "a", V.ref p15, V.ref p17, V.ref p19, V.ref p21] ++ [V.ref p23, V.ref p25, V.ref p27, V.ref p30, V.ref p32, V.ref p34, V.ref p36, V.ref p38, V.ref p40]))
    have w3 : l3 ≠ a := ne_die h2.da nl3
    have e3 : upd A2 l3 (.lst ([V.non, V.bl true, V.bl false, V.int (-1), V.int 0, V.int 1, V.int 2, V.int 9, V.int (10 ^ (40 : Int).toNat), V.int (1 - 10 ^ (41 : Int).toNat), V.str "", V.str "0", V.str "01", V.str "a", V.ref p15, V.ref p17, V.ref p19, V.ref p21] ++ [V.ref p23, V.ref p25, V.ref p27, V.ref p30, V.ref p32, V.ref p34, V.ref p36, V.ref p38, V.ref p40])) l3 = some (.lst ([V.non, V.bl true, V.bl false, V.int (-1), V.int 0, V.int 1, V.int 2, V.int 9, V.int (10 ^ (40 : Int).toNat), V.int (1 - 10 ^ (41 : Int).toNat), V.str "", V.str "0", V.str "01", V.str "a", V.ref p15, V.ref p17, V.ref p19, V.ref p21] ++ [V.ref p23, V.ref p25, V.ref p27, V.ref p30, V.ref p32, V.ref p34, V.ref p36, V.ref p38, V.ref p40])) := upd_same
    generalize upd A2 l3 (.lst ([V.non, V.bl true, V.bl false, V.int (-1), V.int 0, V.int 1, V.int 2, V.int 9, V.int (10 ^ (40 : Int).toNat), V.int (1 - 10 ^ (41 : Int).toNat), V.str "", V.str "0", V.str "01", V.str "a", V.ref p15, V.ref p17, V.ref p19, V.ref p21] ++ [V.ref p23, V.ref p25, V.ref p27, V.ref p30, V.ref p32, V.ref p34, V.ref p36, V.ref p38, V.ref p40])) = A3 at r3 e3 ⊢
    have h3 := r3.here
    refine ⟨_, rfl, (by show 2 ≤ sizeLine; decide), fun p42 n42 => ?_⟩
    have ne42 : p42 ≠ a := ne_die h3.da n42
    have v42 : Vd a (upd A3 p42 (.tup [V.int 0, V.int 0])) (.ref p42) (.tuple [.int 0, .int 0]) := .tup ne42 upd_same (VdAll.up n42 (.cons (.int (0)) (.cons (.int (0)) .nil)))
    have g42 := h3.new n42 (o := (.tup [V.int 0, V.int 0]))
    generalize upd A3 p42 (.tup [V.int 0, V.int 0]) = J42 at v42 g42 ⊢
    have g43 := g42.add v42
    refine ⟨(by show 2 ≤ sizeLine; decide), fun p44 n44 => ?_⟩
    have ne44 : p44 ≠ a := ne_die g43.da n44
    have v44 : Vd a (upd J42 p44 (.tup [V.str "", V.int 0])) (.ref p44) (.tuple [.str "", .int 0]) := .tup ne44 upd_same (VdAll.up n44 (.cons (.str "") (.cons (.int (0)) .nil)))
    have g44 := g43.new n44 (o := (.tup [V.str "", V.int 0]))
    generalize upd J42 p44 (.tup [V.str "", V.int 0]) = J44 at v44 g44 ⊢
    have g45 := g44.add v44
    refine ⟨(by show 2 ≤ sizeLine; decide), fun l4 nl4 => ?_⟩
    have r4 := g45.new nl4 (o := .lst [V.ref p42, V.ref p44])
    have e4 : upd J44 l4 (.lst [V.ref p42, V.ref p44]) l4 = some (.lst [V.ref p42, V.ref p44]) := upd_same
    generalize upd J44 l4 (.lst [V.ref p42, V.ref p44]) = A4 at r4 e4 ⊢
    have h4 := r3.join r4
    refine ⟨l3, l4, _, _, rfl, rfl, r4.kp _ _ w3 e3, e4, (by show 29 ≤ sizeLine; decide), fun l5 nl5 => ?_⟩
    have r5 := h4.new nl5 (o := .lst (([V.non, V.bl true, V.bl false, V.int (-1), V.int 0, V.int 1, V.int 2, V.int 9, V.int (10 ^ (40 : Int).toNat), V.int (1 - 10 ^ (41 : Int).toNat), V.str "", V.str "0", V.str "01", V.str "a", V.ref p15, V.ref p17, V.ref p19, V.ref p21] ++ [V.ref p23, V.ref p25, V.ref p27, V.ref p30, V.ref p32, V.ref p34, V.ref p36, V.ref p38, V.ref p40]) ++ [V.ref p42, V.ref p44]))
    have w5 : l5 ≠ a := ne_die h4.da nl5
    have e5 : upd A4 l5 (.lst (([V.non, V.bl true, V.bl false, V.int (-1), V.int 0, V.int 1, V.int 2, V.int 9, V.int (10 ^ (40 : Int).toNat), V.int (1 - 10 ^ (41 : Int).toNat), V.str "", V.str "0", V.str "01", V.str "a", V.ref p15, V.ref p17, V.ref p19, V.ref p21] ++ [V.ref p23, V.ref p25, V.ref p27, V.ref p30, V.ref p32, V.ref p34, V.ref p36, V.ref p38, V.ref p40]) ++ [V.ref p42, V.ref p44])) l5 = some (.lst (([V.non, V.bl true, V.bl false, V.int (-1), V.int 0, V.int 1, V.int 2, V.int 9, V.int (10 ^ (40 : Int).toNat), V.int (1 - 10 ^ (41 : Int).toNat), V.str "", V.str "0", V.str "01", V.str "a", V.ref p15, V.ref p17, V.ref p19, V.ref p21] ++ [V.ref p23, V.ref p25, V.ref p27, V.ref p30, V.ref p32, V.ref p34, V.ref p36, V.ref p38, V.ref p40]) ++ [V.ref p42, V.ref p44])) := upd_same
    generalize upd A4 l5 (.lst (([V.non, V.bl true, V.bl false, V.int (-1), V.int 0, V.int 1, V.int 2, V.int 9, V.int (10 ^ (40 : Int).toNat), V.int (1 - 10 ^ (41 : Int).toNat), V.str "", V.str "0", V.str "01", V.str "a", V.ref p15, V.ref p17, V.ref p19, V.ref p21] ++ [V.ref p23, V.ref p25, V.ref p27, V.ref p30, V.ref p32, V.ref p34, V.ref p36, V.ref p38, V.ref p40]) ++ [V.ref p42, V.ref p44])) = A5 at r5 e5 ⊢
    refine ⟨_, rfl, _, rfl, a, d, 29, rfl, r5.da, hd, by decide, by decide, by omega, fun r d' hd' hc' r0 r29 => ?_⟩
    obtain ⟨j, rfl⟩ : ∃ j : Nat, r = (j : Int) := ⟨r.toNat, by omega⟩
    have kf : Kp a A5 (upd A5 a (.lst (dieL d'))) := Kp.upd
    have rf := VdAll.kp r5.r kf
    obtain ⟨v, hv⟩ : ∃ v, ((([V.non, V.bl true, V.bl false, V.int (-1), V.int 0, V.int 1, V.int 2, V.int 9, V.int (10 ^ (40 : Int).toNat), V.int (1 - 10 ^ (41 : Int).toNat), V.str "", V.str "0", V.str "01", V.str "a", V.ref p15, V.ref p17, V.ref p19, V.ref p21] ++ [V.ref p23, V.ref p25, V.ref p27, V.ref p30, V.ref p32, V.ref p34, V.ref p36, V.ref p38, V.ref p40]) ++ [V.ref p42, V.ref p44]) : List V)[j]? = some v := ⟨_, List.getElem?_eq_getElem (show j < 29 by omega)⟩
    obtain ⟨pd, hpd, vdv⟩ := rf.at_ hv
    refine ⟨l5, _, _, v, rfl, rfl, SqL.of (kf _ _ w5 e5), atI_nat hv, ?_⟩
    exact k v pd d' _ vdv (odd_fine pd (List.mem_of_getElem? hpd)) hd' hc' (r5.kp.trans kf) upd_same
end
end Vf


set_option Elab.async false
set_option maxRecDepth 100000
set_option maxHeartbeats 16000000
set_option exponentiation.threshold 3000
namespace Vf
open PySem L2 SX Vm VG
theorem Gr.move {a : Addr} {D : List V} {H0 J J' : Hp} {vs : List V} {ds : List PyData} (g : Gr a D H0 J vs ds) (k : Kp a J J') (e : J' a = some (.lst D)) : Gr a D H0 J' vs ds := ⟨g.kp.trans k, e, VdAll.kp g.r k⟩
section
variable {K : PySem.W.Frag} {a p q : Addr} {D : List V} {J : Hp} {xs ys : List V} {Q : VK} {lo hi : Option Int}
theorem slA_gr (hp : J p = some (.tup xs)) (np : p ≠ a) (da : J a = some (.lst D)) (h : ∀ q J', Kp a J J' → J' a = some (.lst D) → J' q = some (.tup (cutV xs lo hi)) → q ≠ a → Q (.ref q) J') : rSlA K (.ref p) lo hi J Q := by
  refine ⟨p, xs, rfl, SqT.of hp, fun hw => ?_, fun _ r nr => ?_⟩
  · refine h p J (Kp.refl _ _) da ?_ np
    have e : cutV xs lo hi = xs := by
      unfold cutV
      rw [hw.1, hw.2, List.drop_zero, Nat.sub_zero, List.take_length]
    rw [e]
    exact hp
  · exact h r _ (Kp.new nr) (by rw [upd_ne (ne_die da nr).symm]; exact da) upd_same (ne_die da nr)
theorem catA_gr (hp : J p = some (.tup xs)) (np : p ≠ a) (hq : J q = some (.tup ys)) (nq : q ≠ a) (da : J a = some (.lst D)) (hz : xs.length + ys.length ≤ sizeLine)
    (h : ∀ r J', Kp a J J' → J' a = some (.lst D) → J' r = some (.tup (xs ++ ys)) → r ≠ a → Q (.ref r) J') : rCatA K (.ref p) (.ref q) J Q := by
  refine ⟨p, q, xs, ys, rfl, rfl, SqT.of hp, SqT.of hq, hz, fun e => ?_, fun _ e => ?_, fun _ _ r nr => ?_⟩
  · subst e
    exact h q J (Kp.refl _ _) da hq nq
  · subst e
    exact h p J (Kp.refl _ _) da (by rw [List.append_nil]; exact hp) np
  · exact h r _ (Kp.new nr) (by rw [upd_ne (ne_die da nr).symm]; exact da) upd_same (ne_die da nr)
end
/-- what a bent value may be -/
def BentK (Q : VK) (a : Addr) (c : Int) (N n m : Nat) (H : Hp) : Prop := ∀ (v : V) (pd : PyData) (d : Int × Int × Int) (H' : Hp), Vd a H' v pd → Fine (N + 1) (n + 4) (2 * m + 100) pd → DieOk d → d.2.2 ≤ c → Kp a H H' → H' a = some (.lst (dieL d)) → Q v H'
def spB : Nat → Sp
  | 0 => fun _ _ _ _ => False
  | j + 1 => fun vs H Q _ => ∃ (a : Addr) (d : Int × Int × Int) (v : V) (deep : Int) (pd : PyData) (N n m : Nat), vs = [.ref a, v, .int deep] ∧ H a = some (.lst (dieL d)) ∧ DieOk d ∧ d.2.2 + 3 * ((j : Int) + 1) ≤ 980000000 ∧ deep ≤ (j : Int) ∧ Vd a H v pd ∧ Fine N n m pd ∧
    N0 ≤ N ∧ N ≤ 10 ^ 42 ∧ n ≤ 20 ∧ m ≤ 900 ∧ BentK Q a (d.2.2 + 3 * ((j : Int) + 1)) N n m H
def tTail : TS := fun D σ H => ∃ (a : Addr) (d : Int × Int × Int) (v deep : V) (pd : PyData) (N n m : Nat) (c : Int), σ = [some (.ref a), some v, some deep, none, none] ∧ H a = some (.lst (dieL d)) ∧ DieOk d ∧ d.2.2 ≤ 980001000 ∧ Vd a H v pd ∧ Fine N n m pd ∧
    N0 ≤ N ∧ N ≤ 10 ^ 42 ∧ n ≤ 20 ∧ m ≤ 900 ∧ d.2.2 + 2 ≤ c ∧ BentK D.rt a c N n m H
theorem pss_imp' {X : Cx} {body : List Stmt} {t t' : TS} (h : PSs X body t) (imp : ∀ D σ H, σ.length = X.N.length → t' D σ H → t D σ H) : PSs X body t' := ⟨fun pins s σ H D I q => h.run pins s σ H D I (imp D σ H I.len q)⟩
theorem fine_app {N n : Nat} {x y : Str} {m k : Nat} (f : Fine N n m (.str x)) (g : Fine N n k (.str y)) : Fine N n (m + k) (.str (x ++ y)) := by
  refine fine_str (fun c hc => ?_) ?_
  · have e : (x ++ y).cps.toList = x.cps.toList ++ y.cps.toList := by
      show (x.cps ++ y.cps).toList = _
      simp
    rw [e] at hc
    rcases List.mem_append.mp hc with h | h
    · exact f.str_.1 c h
    · exact g.str_.1 c h
  · have e : (x ++ y).length = x.length + y.length := by
      show (x.cps ++ y.cps).size = _
      simp
      rfl
    rw [e]
    exact Nat.add_le_add f.str_.2 g.str_.2
theorem fine_cut {N n m : Nat} {z : Str} {lo hi : Option Int} (f : Fine N n m (.str z)) : Fine N n m (.str (cutS z lo hi)) :=
  fine_str (fun c hc => f.str_.1 c (cutS_in.1 c hc)) (Nat.le_trans cutS_in.2 f.str_.2)
theorem pick {a : Addr} {H : Hp} {vs : List V} {ds : List PyData} {r : Int} {n : Nat} (g : VdAll a H vs ds) (hn : vs.length = n) (r0 : 0 ≤ r) (r1 : r < n) : ∃ v pd, atI vs r = some v ∧ pd ∈ ds ∧ Vd a H v pd := by
  obtain ⟨j, rfl⟩ : ∃ j : Nat, r = (j : Int) := ⟨r.toNat, by omega⟩
  have hv := List.getElem?_eq_getElem (show j < vs.length by omega)
  obtain ⟨pd, hpd, vd⟩ := g.at_ hv
  exact ⟨_, pd, atI_nat hv, List.mem_of_getElem? hpd, vd⟩
theorem Vd.tup_inv {a p : Addr} {H : Hp} {xs : List V} {pd : PyData} (h : Vd a H (.ref p) pd) (e : H p = some (.tup xs)) : ∃ ds, pd = .tuple ds ∧ p ≠ a ∧ VdAll a H xs ds := by
  cases h with
  | tup n e1 r =>
    rw [e] at e1
    cases e1
    exact ⟨_, rfl, n, r⟩
  | lst _ _ e1 _ => rw [e] at e1; cases e1
  | d0 _ e1 => rw [e] at e1; cases e1
  | d1 _ e1 => rw [e] at e1; cases e1
theorem fine_tup' {N n m : Nat} {ds : List PyData} (f : Fine N n m (.tuple ds)) : ∃ k, n = k + 1 ∧ FineL N k m ds := by
  have b := f.dp
  unfold PyData.depth at b
  obtain ⟨k, rfl⟩ : ∃ k, n = k + 1 := ⟨n - 1, by omega⟩
  exact ⟨k, rfl, fine_tup.mp f⟩
end Vf


set_option Elab.async false
set_option maxRecDepth 100000
set_option maxHeartbeats 16000000
set_option exponentiation.threshold 3000
namespace Vf
open PySem L2 SX Vm VG
theorem slN {K : PySem.W.Frag} {σ : L2.St} {x : V} {lo : Option Int} {J : Hp} {Q : VK} (h : rSlA K x lo none J Q) : tNoPart σ J (fun u H3 => rSlA K x lo u H3 Q) := h
theorem slNS {σ : L2.St} {x : V} {lo : Option Int} {J : Hp} {Q : VK} (h : rSlS x lo none J Q) : tNoPart σ J (fun u H3 => rSlS x lo u H3 Q) := h
theorem sz2 {xs ys : List V} (h1 : xs.length ≤ 2000) (h2 : ys.length ≤ 2000) : xs.length + ys.length ≤ sizeLine := Nat.le_trans (show xs.length + ys.length ≤ 4000 by omega) (by decide)
theorem cut_sz {xs : List V} {lo hi : Option Int} (h : xs.length ≤ 900) : (cutV xs lo hi).length ≤ 900 := Nat.le_trans (cutV_length _ _ _) h
theorem str_sz {x y : Str} (h1 : x.length ≤ 5000) (h2 : y.length ≤ 5000) : x.length + y.length ≤ sizeLine := Nat.le_trans (show x.length + y.length ≤ 10000 by omega) (by decide)
theorem app_len {x y : Str} : (x ++ y).length = x.length + y.length := by
  show (x.cps ++ y.cps).size = _
  simp
  rfl
section
variable {P : Program} {w : World} {K : PySem.W.Frag} {mg : Str → Option Value} {base : Heap}
theorem scBent : FnScope ["die", "thing", "deep", "at", "some"] ["die", "thing", "deep"] (defScope sBent) := ⟨rfl, rfl, rfl, by decide +kernel, rfl, by decide +kernel, by decide +kernel⟩
/-- the names that the law has not taken -/
structure NmL (mg : Str → Option Value) : Prop where
  isinst : mg "isinstance" = none
  int : mg "int" = none
  bool : mg "bool" = none
  str : mg "str" = none
  tuple : mg "tuple" = none
  list : mg "list" = none
  len : mg "len" = none
  rep : mg "repr" = none
theorem ok_bent {j : Nat} {f fP fO : Addr} {fd fdP fdO : FuncData} (F : Fun K "_law_bent" "_law_bent" sBent f fd) (GP : FnOk P w K mg base CX0 1 fP fdP ["die", "many"] spPull) (cP : Cal K mg "_law_pull" fP fdP ["die", "many"])
    (GO : FnOk P w K mg base CX0 2 fO fdO ["die"] spOdd) (cO : Cal K mg "_law_odd" fO fdO ["die"]) (GB : FnOk P w K mg base CX0 (j + 2) f fd ["die", "thing", "deep"] (spB j)) (cB : Cal K mg "_law_bent" f fd ["die", "thing", "deep"]) (N : NmL mg) :
    FnOk P w K mg base CX0 (j + 3) f fd ["die", "thing", "deep"] (spB (j + 1)) := by
  refine F.ok scBent (fun vs H Q E h => ?_) (fun cdv A outer s H vs Q E hr h => ?_)
  · obtain ⟨a, d, v, deep, pd, N1, n, m, rfl, _⟩ := h
    rfl
  · obtain ⟨a, d, v, deep, pd, N1, n, m, rfl, ha, hd, hc, hdeep, vd, fi, N0N, NN, n20, m9, k⟩ := h
    have nd := scBent.nd
    have hr1 := hr.mono (show 1 ≤ j + 2 by omega)
    have hr2 := hr.mono (show 2 ≤ j + 2 by omega)
    have hun := Nat.lt_of_le_of_lt (Nat.le_add_right _ 64) hr.units
    refine ⟨_, pss_cons (ps_if (PW.pt (pw_and (pt_val (pe_callB call_isi (by rfl) N.isinst PyProof.Rows.boot_isinstance (pa_cons (pv 1) (pa_cons (pe_bltn (v := .ty "tuple") (by rfl) N.tuple PyProof.Rows.boot_tuple rfl) pa_nil))))
        (pw_and (pt_cmpR (VG.op_neT0 hun) (pv 1) (pe_tup pa_nil) (nomark _)) (pw_and (pt_cmpR op_gt (pv 2) pe_int (nomark _))
        (pw_and1 (pt_cmpR op_gt (pe_call GP hr1 rfl cP.mg cP.kp cP.b .nil pass0 (pa_cons (pv 0) (pa_cons pe_int pa_nil))) pe_int (nomark _)))))))
        (pss_cons (ps_set (i := 3) nd rfl (.inl rfl) (pe_call GP hr1 rfl cP.mg cP.kp cP.b .nil pass0 (pa_cons (pv 0) (pa_cons (pe_callB call_len_seq (by rfl) N.len boot_len (pa_cons (pv 1) pa_nil)) pa_nil))))
        (pss_one (ps_ret (pe_op op_catA (pe_op op_catA (pe_slice sl_tupA (pv 1) po_none (po_some (pv 3)))
          (pe_tup (pa_cons (pe_call GB hr rfl cB.mg cB.kp cB.b .nil pass0 (pa_cons (pv 0) (pa_cons (pe_ix ix_tup (pv 1) (pv 3) (fun _ _ => rfl)) (pa_cons (pe_op op_sub (pv 2) pe_int) pa_nil)))) pa_nil)))
          (pe_slice sl_tupA (pv 1) (po_some (pe_op op_add (pv 3) pe_int)) po_none))))) pss_nil)
      (pss_imp' (t' := tTail) (pss_cons (ps_if (pt_val (pe_callB call_isi (by rfl) N.isinst PyProof.Rows.boot_isinstance (pa_cons (pv 1) (pa_cons (pe_bltn (v := .ty "tuple") (by rfl) N.tuple PyProof.Rows.boot_tuple rfl) pa_nil))))
        (pss_cons (ps_set (i := 3) nd rfl (.inl rfl) (pe_call GP hr1 rfl cP.mg cP.kp cP.b .nil pass0 (pa_cons (pv 0) (pa_cons (pe_op op_add (pe_callB call_len_seq (by rfl) N.len boot_len (pa_cons (pv 1) pa_nil)) pe_int) pa_nil))))
        (pss_cons (ps_set (i := 4) nd rfl (.inl rfl) (pe_lst (pa_cons (pe_callTy VG.call_list_ofB (by rfl) N.list PyProof.Rows.boot_list (pa_cons (pv 1) pa_nil))
          (pa_cons (pe_op op_catA (pe_slice sl_tupA (pv 1) po_none (po_some (pv 3))) (pe_slice sl_tupA (pv 1) (po_some (pe_op op_add (pv 3) pe_int)) po_none))
          (pa_cons (pe_op op_catA (pe_op op_catA (pe_slice sl_tupA (pv 1) po_none (po_some (pv 3))) (pe_tup (pa_cons pe_int pa_nil))) (pe_slice sl_tupA (pv 1) (po_some (pv 3)) po_none))
          (pa_cons (VG.pe_revA (pv 1)) (pa_cons (pe_tup (pa_cons (pv 1) pa_nil)) (pa_cons (pe_tup pa_nil) pa_nil))))))))
        (pss_one (ps_ret (pe_ix ix_list (pe_op op_cat (pv 4) (pe_lst (pa_cons (pe_op op_catA (pv 1) (pe_slice sl_tupA (pv 1) (po_some (pe_un un_neg pe_int)) po_none)) pa_nil)))
          (pe_call GP hr1 rfl cP.mg cP.kp cP.b .nil pass0 (pa_cons (pv 0) (pa_cons pe_int pa_nil))) (fun _ _ => rfl)))))) pss_nil)
      (pss_cons (ps_if (pt_val (pe_callB call_isi (by rfl) N.isinst PyProof.Rows.boot_isinstance (pa_cons (pv 1) (pa_cons (pe_bltn (v := .ty "str") (by rfl) N.str PyProof.Rows.boot_str rfl) pa_nil))))
        (pss_cons (ps_set (i := 3) nd rfl (.inl rfl) (pe_call GP hr1 rfl cP.mg cP.kp cP.b .nil pass0 (pa_cons (pv 0) (pa_cons (pe_op op_add (pe_callB call_len_str (by rfl) N.len boot_len (pa_cons (pv 1) pa_nil)) pe_int) pa_nil))))
        (pss_cons (ps_set (i := 4) nd rfl (.inl rfl) (pe_lst (pa_cons (pe_op op_add_str (pe_op op_add_str (pe_slice sl_str (pv 1) po_none (po_some (pv 3))) pe_str) (pe_slice sl_str (pv 1) (po_some (pv 3)) po_none))
          (pa_cons (pe_op op_add_str (pe_slice sl_str (pv 1) po_none (po_some (pv 3))) (pe_slice sl_str (pv 1) (po_some (pe_op op_add (pv 3) pe_int)) po_none))
          (pa_cons (pe_op op_add_str (pv 1) pe_str) (pa_cons (VG.pe_revA (pv 1)) (pa_cons pe_non (pa_cons (pe_tup (pa_cons (pv 1) pa_nil)) pa_nil))))))))
        (pss_one (ps_ret (pe_ix ix_list (pe_op op_cat (pv 4) (pe_lst (pa_cons (pe_op op_add_str (pv 1) pe_str) (pa_cons (pe_op op_add_str (pv 1) pe_str) (pa_cons pe_int pa_nil)))))
          (pe_call GP hr1 rfl cP.mg cP.kp cP.b .nil pass0 (pa_cons (pv 0) (pa_cons pe_int pa_nil))) (fun _ _ => rfl)))))) pss_nil)
      (pss_cons (ps_if (PW.pt (pw_and (pt_val (pe_callB call_isi (by rfl) N.isinst PyProof.Rows.boot_isinstance (pa_cons (pv 1) (pa_cons (pe_bltn (v := .ty "int") (by rfl) N.int PyProof.Rows.boot_int rfl) pa_nil))))
          (pw_and1 (pt_not (pt_val (pe_callB call_isi (by rfl) N.isinst PyProof.Rows.boot_isinstance (pa_cons (pv 1) (pa_cons (pe_bltn (v := .ty "bool") (by rfl) N.bool PyProof.Rows.boot_bool rfl) pa_nil))))))))
        (pss_one (ps_ret (pe_ix ix_list (pe_lst (pa_cons (pe_op op_add (pv 1) pe_int) (pa_cons (pe_op op_sub (pv 1) pe_int) (pa_cons (pe_op op_sub pe_int (pv 1)) (pa_cons (pe_callTy call_str_int (by rfl) N.str PyProof.Rows.boot_str (pa_cons (pv 1) pa_nil))
          (pa_cons (pe_cmpR op_eq (pv 1) pe_int (nomark _)) (pa_cons (pe_tup (pa_cons (pv 1) pa_nil)) (pa_cons pe_non pa_nil))))))))
          (pe_call GP hr1 rfl cP.mg cP.kp cP.b .nil pass0 (pa_cons (pv 0) (pa_cons pe_int pa_nil))) (fun _ _ => rfl)))) pss_nil)
      (pss_one (ps_ret (pe_call GO hr2 rfl cO.mg cO.kp cO.b .nil pass0 (pa_cons (pv 0) pa_nil))))))) ?_), ?_⟩
    · rintro D σ H - ⟨a, d, v, deep, pd, N1, n, m, c, rfl, ha, hd, hc, vd, fi, N0N, NN, n20, m9, hcc, k⟩
      have odd : spOdd [.ref a] H D.rt E := ⟨a, d, rfl, ha, hd, by omega, fun v pd d' H' vd' f' hd' hc' kp' a' => k v pd d' H' vd' (f'.up (by omega) (by omega) (by omega)) hd' (by omega) kp' a'⟩
      cases vd with
      | @tup p xs ds np e r =>
        obtain ⟨n1, rfl, fl⟩ := fine_tup' fi
        have lx : xs.length ≤ 900 := by rw [r.len]; exact Nat.le_trans fl.len m9
        refine ⟨_, rfl, _, _, _, _, true, rfl, .ty "tuple", (Pl.tup e).tyx, kit_ty (by decide +kernel), _, rfl, ?_⟩
        refine iteT ?_
        refine ⟨_, rfl, _, rfl, p, xs, rfl, .inr (SqT.of e), _, _, rfl, rfl, a, d, _, rfl, ha, hd, by omega, by omega, by omega, fun at_ d1 hd1 hc1 at0 at1 => ?_⟩
        obtain ⟨i, rfl⟩ : ∃ i : Nat, at_ = (i : Int) := ⟨at_.toNat, by omega⟩
        have g0 : Gr a (dieL d1) H (upd H a (.lst (dieL d1))) [] [] := ⟨Kp.upd, upd_same, .nil⟩
        generalize upd H a (.lst (dieL d1)) = J0 at g0 ⊢
        refine ⟨_, rfl, p, xs, rfl, .inr (SqT.of (g0.kp _ _ np e)), fun p1 s1 n1' => ?_⟩
        have g1 := (g0.new n1' (o := .lst xs)).add (.lst (ne_die g0.da n1') s1 upd_same (VdAll.up n1' (VdAll.kp r g0.kp)))
        generalize upd J0 p1 (.lst xs) = J1 at g1 ⊢
        refine ⟨_, rfl, _, rfl, _, rfl, ?_⟩
        refine slA_gr (g1.kp _ _ np e) np g1.da (fun q2 J2 k2 d2 e2 ne2 => ?_)
        have g2 := g1.move k2 d2
        refine ⟨_, rfl, _, rfl, _, _, rfl, rfl, _, rfl, ?_⟩
        refine slN ?_
        refine slA_gr (g2.kp _ _ np e) np g2.da (fun q3 J3 k3 d3 e3 ne3 => ?_)
        have g3 := g2.move k3 d3
        refine catA_gr (k3 _ _ ne2 e2) ne2 e3 ne3 g3.da (sz2 (Nat.le_trans (cut_sz lx) (by decide)) (Nat.le_trans (cut_sz lx) (by decide))) (fun q4 J4 k4 d4 e4 ne4 => ?_)
        have g4' := g3.move k4 d4
        have g4 := g4'.add (.tup ne4 e4 ((VdAll.kp r g4'.kp).cut.app (VdAll.kp r g4'.kp).cut))
        refine ⟨_, rfl, _, rfl, _, rfl, ?_⟩
        refine slA_gr (g4.kp _ _ np e) np g4.da (fun q5 J5 k5 d5 e5 ne5 => ?_)
        have g5 := g4.move k5 d5
        refine ⟨(by show 1 ≤ sizeLine; decide), fun q6 n6 => ?_⟩
        have ne6 := ne_die g5.da n6
        have e5' := Kp.new (o := .tup [.int 0]) n6 _ _ ne5 e5
        have e6 : upd J5 q6 (.tup [.int 0]) q6 = some (.tup [.int 0]) := upd_same
        have g6 := g5.new n6 (o := .tup [.int 0])
        generalize upd J5 q6 (.tup [.int 0]) = J6 at g6 e6 e5' ⊢
        refine catA_gr e5' ne5 e6 ne6 g6.da (sz2 (Nat.le_trans (cut_sz lx) (by decide)) (by show 1 ≤ 2000; decide)) (fun q7 J7 k7 d7 e7 ne7 => ?_)
        have g7 := g6.move k7 d7
        refine ⟨_, rfl, _, rfl, _, rfl, ?_⟩
        refine slN ?_
        refine slA_gr (g7.kp _ _ np e) np g7.da (fun q8 J8 k8 d8 e8 ne8 => ?_)
        have g8 := g7.move k8 d8
        refine catA_gr (k8 _ _ ne7 e7) ne7 e8 ne8 g8.da (sz2 (by rw [List.length_append]; have := cut_sz (lo := none) (hi := some (i : Int)) lx; show _ + 1 ≤ 2000; omega) (Nat.le_trans (cut_sz lx) (by decide))) (fun q9 J9 k9 d9 e9 ne9 => ?_)
        have g9' := g8.move k9 d9
        have g9 := g9'.add (.tup ne9 e9 (((VdAll.kp r g9'.kp).cut.app (.cons (.int 0) .nil)).app (VdAll.kp r g9'.kp).cut))
        refine ⟨_, rfl, .inr ⟨p, xs, rfl, SqT.of (g9.kp _ _ np e), fun q10 n10 => ?_⟩⟩
        have g10 := (g9.new n10 (o := .tup xs.reverse)).add (.tup (ne_die g9.da n10) upd_same (VdAll.up n10 (VdAll.kp r g9.kp)).rev)
        generalize upd J9 q10 (.tup xs.reverse) = J10 at g10 ⊢
        refine ⟨_, rfl, (by show 1 ≤ sizeLine; decide), fun q11 n11 => ?_⟩
        have vt : Vd a J10 (.ref p) (.tuple ds) := .tup np (g10.kp _ _ np e) (VdAll.kp r g10.kp)
        have g11 := (g10.new n11 (o := .tup [.ref p])).add (.tup (ne_die g10.da n11) upd_same (.cons (Vd.up n11 vt) .nil))
        generalize upd J10 q11 (.tup [.ref p]) = J11 at g11 ⊢
        refine ⟨(by show 0 ≤ sizeLine; exact Nat.zero_le _), fun q12 n12 => ?_⟩
        have g12 := (g11.new n12 (o := .tup [])).add (.tup (ne_die g11.da n12) upd_same .nil)
        generalize upd J11 q12 (.tup []) = J12 at g12 ⊢
        refine ⟨(by show 6 ≤ sizeLine; decide), fun l1 nl1 => ?_⟩
        have gl1 := g12.new nl1 (o := .lst [V.ref p1, V.ref q4, V.ref q9, V.ref q10, V.ref q11, V.ref q12])
        have wl1 := ne_die g12.da nl1
        have el1 : upd J12 l1 (.lst [V.ref p1, V.ref q4, V.ref q9, V.ref q10, V.ref q11, V.ref q12]) l1 = some (.lst [V.ref p1, V.ref q4, V.ref q9, V.ref q10, V.ref q11, V.ref q12]) := upd_same
        generalize upd J12 l1 (.lst [V.ref p1, V.ref q4, V.ref q9, V.ref q10, V.ref q11, V.ref q12]) = J13 at gl1 el1 ⊢
        refine ⟨_, rfl, _, rfl, _, rfl, _, rfl, _, rfl, ?_⟩
        refine slN ?_
        refine slA_gr (gl1.kp _ _ np e) np gl1.da (fun q14 J14 k14 d14 e14 ne14 => ?_)
        have g14 := gl1.move k14 d14
        refine catA_gr (g14.kp _ _ np e) np e14 ne14 g14.da (sz2 (by omega) (Nat.le_trans (cut_sz lx) (by decide))) (fun q15 J15 k15 d15 e15 ne15 => ?_)
        have g15' := g14.move k15 d15
        have g15 := g15'.add (.tup ne15 e15 ((VdAll.kp r g15'.kp).app (VdAll.kp r g15'.kp).cut))
        refine ⟨(by show 1 ≤ sizeLine; decide), fun l2 nl2 => ?_⟩
        have gl2 := g15.new nl2 (o := .lst [V.ref q15])
        have el2 : upd J15 l2 (.lst [V.ref q15]) l2 = some (.lst [V.ref q15]) := upd_same
        have el1' := ((k14.trans k15).trans (Kp.new (o := .lst [V.ref q15]) nl2)) _ _ wl1 el1
        generalize upd J15 l2 (.lst [V.ref q15]) = J16 at gl2 el2 el1' ⊢
        refine ⟨l1, l2, _, _, rfl, rfl, el1', el2, (by show 7 ≤ sizeLine; decide), fun l3 nl3 => ?_⟩
        have gl3 := gl2.new nl3 (o := .lst ([V.ref p1, V.ref q4, V.ref q9, V.ref q10, V.ref q11, V.ref q12] ++ [V.ref q15]))
        have wl3 := ne_die gl2.da nl3
        have el3 : upd J16 l3 (.lst ([V.ref p1, V.ref q4, V.ref q9, V.ref q10, V.ref q11, V.ref q12] ++ [V.ref q15])) l3 = some (.lst ([V.ref p1, V.ref q4, V.ref q9, V.ref q10, V.ref q11, V.ref q12] ++ [V.ref q15])) := upd_same
        generalize upd J16 l3 (.lst ([V.ref p1, V.ref q4, V.ref q9, V.ref q10, V.ref q11, V.ref q12] ++ [V.ref q15])) = J17 at gl3 el3 ⊢
        refine ⟨_, rfl, a, d1, 7, rfl, gl3.da, hd1, by decide, by decide, by omega, fun r7 d2' hd2 hc2 r70 r71 => ?_⟩
        have kf : Kp a J17 (upd J17 a (.lst (dieL d2'))) := Kp.upd
        obtain ⟨v, pd, hat, hmem, hvd⟩ := pick (VdAll.kp gl3.r kf) rfl r70 r71
        refine ⟨l3, _, _, v, rfl, rfl, SqL.of (kf _ _ wl3 el3), hat, ?_⟩
        refine k v pd d2' _ hvd ?_ hd2 (by omega) (gl3.kp.trans kf) upd_same
        have fu : ∀ {ds' : List PyData} {m' : Nat}, FineL N1 n1 m' ds' → m' ≤ 2 * m + 100 → Fine (N1 + 1) (n1 + 1 + 4) (2 * m + 100) (.tuple ds') := fun f h => (fine_tup.mpr f).up (by omega) (by omega) h
        have zero : FineL N1 n1 1 [.int 0] := fineL_cons (m := 0) (k := 0) (fine_int (Nat.zero_le _)) fineL_nil
        have F : ∀ x ∈ ([.list ds, .tuple (cutD xs.length ds none (some (i : Int)) ++ cutD xs.length ds (some ((i : Int) + 1)) none), .tuple ((cutD xs.length ds none (some (i : Int)) ++ [.int 0]) ++ cutD xs.length ds (some (i : Int)) none), .tuple ds.reverse, .tuple [.tuple ds], .tuple [], .tuple (ds ++ cutD xs.length ds (some (-1)) none)] : List PyData), Fine (N1 + 1) (n1 + 1 + 4) (2 * m + 100) x :=
          List.forall_mem_cons.mpr ⟨(fine_lst.mpr fl).up (by omega) (by omega) (by omega), List.forall_mem_cons.mpr ⟨fu (fl.cut.app fl.cut) (by omega), List.forall_mem_cons.mpr ⟨fu ((fl.cut.app zero).app fl.cut) (by omega), List.forall_mem_cons.mpr ⟨fu fl.rev (by omega),
            List.forall_mem_cons.mpr ⟨(fine_tup.mpr (fineL_cons (fine_tup.mpr fl) (fineL_nil (m := 0)))).up (by omega) (by omega) (by omega), List.forall_mem_cons.mpr ⟨fu (fineL_nil (m := 0)) (by omega), List.forall_mem_cons.mpr ⟨fu (fl.app fl.cut) (by omega), by intro _ z; cases z⟩⟩⟩⟩⟩⟩⟩
        exact F pd hmem
      | str z =>
        have lz : z.length ≤ 900 := Nat.le_trans fi.str_.2 m9
        have lzl : z.length ≤ sizeLine := Nat.le_trans lz (by decide)
        have pl : Pl H (.str z) (.type "str") := .str z (Nat.le_trans lz (by decide))
        refine ⟨_, rfl, _, _, _, _, false, rfl, .ty "tuple", pl.tyx, kit_tup pl (fun _ _ z => nomatch z), _, rfl, ?_⟩
        refine iteF ?_
        refine ⟨_, rfl, _, _, _, _, true, rfl, .ty "str", pl.tyx, kit_ty (by decide +kernel), _, rfl, ?_⟩
        refine iteT ?_
        refine ⟨_, rfl, _, rfl, z, rfl, lzl, _, _, rfl, rfl, a, d, _, rfl, ha, hd, by omega, by omega, by omega, fun at_ d1 hd1 hc1 at0 at1 => ?_⟩
        obtain ⟨i, rfl⟩ : ∃ i : Nat, at_ = (i : Int) := ⟨at_.toNat, by omega⟩
        have g0 : Gr a (dieL d1) H (upd H a (.lst (dieL d1))) [] [] := ⟨Kp.upd, upd_same, .nil⟩
        generalize upd H a (.lst (dieL d1)) = J0 at g0 ⊢
        have c1 : ∀ {lo hi : Option Int}, (cutS z lo hi).length ≤ 900 := fun {lo hi} => Nat.le_trans cutS_in.2 lz
        have o1 : ∀ {x : Str}, x.length ≤ 900 → (x ++ ("0" : Str)).length ≤ 901 := fun h => by rw [app_len]; show _ + 1 ≤ 901; omega
        refine ⟨_, rfl, _, rfl, _, rfl, z, rfl, lzl, _, _, rfl, rfl, str_sz (Nat.le_trans c1 (by decide)) (by decide), _, rfl, _, rfl, _, rfl, ?_⟩
        refine slNS ⟨z, rfl, lzl, _, _, rfl, rfl, str_sz (Nat.le_trans (o1 c1) (by decide)) (Nat.le_trans c1 (by decide)), _, rfl, _, rfl, _, rfl, z, rfl, lzl, _, rfl, _, rfl, _, _, rfl, rfl, _, rfl, ?_⟩
        refine slNS ⟨z, rfl, lzl, _, _, rfl, rfl, str_sz (Nat.le_trans c1 (by decide)) (Nat.le_trans c1 (by decide)), _, rfl, _, _, rfl, rfl, str_sz (Nat.le_trans lz (by decide)) (by decide), _, rfl, .inl ⟨z, rfl, lzl, _, rfl, (by show 1 ≤ sizeLine; decide), fun q6 n6 => ?_⟩⟩
        have g1 := (((((g0.add (.str ((cutS z none (some (i : Int)) ++ "0") ++ cutS z (some (i : Int)) none))).add (.str (cutS z none (some (i : Int)) ++ cutS z (some ((i : Int) + 1)) none))).add (.str (z ++ "1"))).add (.str ⟨z.cps.toList.reverse.toArray⟩)).add .non)
        have g6 := (g1.new n6 (o := .tup [.str z])).add (.tup (ne_die g1.da n6) upd_same (.cons (.str z) .nil))
        generalize upd J0 q6 (.tup [.str z]) = J6 at g6 ⊢
        refine ⟨(by show 6 ≤ sizeLine; decide), fun l1 nl1 => ?_⟩
        have gl1 := g6.new nl1 (o := .lst [.str ((cutS z none (some (i : Int)) ++ "0") ++ cutS z (some (i : Int)) none), .str (cutS z none (some (i : Int)) ++ cutS z (some ((i : Int) + 1)) none), .str (z ++ "1"), .str ⟨z.cps.toList.reverse.toArray⟩, .non, .ref q6])
        have wl1 := ne_die g6.da nl1
        have el1 : upd J6 l1 (.lst [.str ((cutS z none (some (i : Int)) ++ "0") ++ cutS z (some (i : Int)) none), .str (cutS z none (some (i : Int)) ++ cutS z (some ((i : Int) + 1)) none), .str (z ++ "1"), .str ⟨z.cps.toList.reverse.toArray⟩, .non, .ref q6]) l1 = some (.lst [.str ((cutS z none (some (i : Int)) ++ "0") ++ cutS z (some (i : Int)) none), .str (cutS z none (some (i : Int)) ++ cutS z (some ((i : Int) + 1)) none), .str (z ++ "1"), .str ⟨z.cps.toList.reverse.toArray⟩, .non, .ref q6]) := upd_same
        generalize upd J6 l1 (.lst [.str ((cutS z none (some (i : Int)) ++ "0") ++ cutS z (some (i : Int)) none), .str (cutS z none (some (i : Int)) ++ cutS z (some ((i : Int) + 1)) none), .str (z ++ "1"), .str ⟨z.cps.toList.reverse.toArray⟩, .non, .ref q6]) = J7 at gl1 el1 ⊢
        refine ⟨_, rfl, _, rfl, _, _, rfl, rfl, str_sz (Nat.le_trans lz (by decide)) (by decide), _, rfl, _, _, rfl, rfl, str_sz (Nat.le_trans lz (by decide)) (by decide), (by show 3 ≤ sizeLine; decide), fun l2 nl2 => ?_⟩
        have gx := ((gl1.add (.str (z ++ "5"))).add (.str (z ++ " "))).add (.int 0)
        have gl2 := gx.new nl2 (o := .lst [.str (z ++ "5"), .str (z ++ " "), .int 0])
        have el2 : upd J7 l2 (.lst [.str (z ++ "5"), .str (z ++ " "), .int 0]) l2 = some (.lst [.str (z ++ "5"), .str (z ++ " "), .int 0]) := upd_same
        have el1' := (Kp.new (o := .lst [.str (z ++ "5"), .str (z ++ " "), .int 0]) nl2) _ _ wl1 el1
        generalize upd J7 l2 (.lst [.str (z ++ "5"), .str (z ++ " "), .int 0]) = J8 at gl2 el2 el1' ⊢
        refine ⟨l1, l2, _, _, rfl, rfl, el1', el2, (by show 9 ≤ sizeLine; decide), fun l3 nl3 => ?_⟩
        generalize hL : ([V.str ((cutS z none (some (i : Int)) ++ "0") ++ cutS z (some (i : Int)) none), .str (cutS z none (some (i : Int)) ++ cutS z (some ((i : Int) + 1)) none), .str (z ++ "1"), .str ⟨z.cps.toList.reverse.toArray⟩, .non, .ref q6] ++ [.str (z ++ "5"), .str (z ++ " "), .int 0] : List V) = L at *
        have gl3 := gl2.new nl3 (o := .lst L)
        have wl3 := ne_die gl2.da nl3
        have el3 : upd J8 l3 (.lst L) l3 = some (.lst L) := upd_same
        generalize upd J8 l3 (.lst L) = J9 at gl3 el3 ⊢
        refine ⟨_, rfl, a, d1, 9, rfl, gl3.da, hd1, by decide, by decide, by omega, fun r7 d2' hd2 hc2 r70 r71 => ?_⟩
        have kf : Kp a J9 (upd J9 a (.lst (dieL d2'))) := Kp.upd
        obtain ⟨v, pd, hat, hmem, hvd⟩ := pick (VdAll.kp gl3.r kf) rfl r70 r71
        refine ⟨l3, _, _, v, rfl, rfl, SqL.of (kf _ _ wl3 el3), by rw [← hL]; exact hat, ?_⟩
        refine k v pd d2' _ hvd ?_ hd2 (by omega) (gl3.kp.trans kf) upd_same
        have fs : ∀ {x : Str} {m' : Nat}, Fine N1 n m' (.str x) → m' ≤ 2 * m + 100 → Fine (N1 + 1) (n + 4) (2 * m + 100) (.str x) := fun f h => f.up (by omega) (by omega) h
        have one : ∀ {x : Str}, (∀ c ∈ x.cps.toList, c < 128) → x.length ≤ 1 → Fine N1 n 1 (.str x) := fun h1 h2 => fine_str h1 h2
        have rv : Fine N1 n m (.str ⟨z.cps.toList.reverse.toArray⟩) := fine_str (fun c hc => fi.str_.1 c (by simpa using hc)) (by show (List.toArray _).size ≤ m; rw [List.size_toArray, List.length_reverse, Array.length_toList]; exact fi.str_.2)
        have F : ∀ x ∈ ([.str ((cutS z none (some (i : Int)) ++ "0") ++ cutS z (some (i : Int)) none), .str (cutS z none (some (i : Int)) ++ cutS z (some ((i : Int) + 1)) none), .str (z ++ "1"), .str ⟨z.cps.toList.reverse.toArray⟩, .none, .tuple [.str z], .str (z ++ "5"), .str (z ++ " "), .int 0] : List PyData), Fine (N1 + 1) (n + 4) (2 * m + 100) x :=
          List.forall_mem_cons.mpr ⟨fs (fine_app (fine_app (fine_cut fi) (one (by decide +kernel) (by decide))) (fine_cut fi)) (by omega), List.forall_mem_cons.mpr ⟨fs (fine_app (fine_cut fi) (fine_cut fi)) (by omega), List.forall_mem_cons.mpr ⟨fs (fine_app fi (one (by decide +kernel) (by decide))) (by omega),
            List.forall_mem_cons.mpr ⟨fs rv (by omega), List.forall_mem_cons.mpr ⟨fine_non, List.forall_mem_cons.mpr ⟨(fine_tup.mpr (fineL_cons fi (fineL_nil (m := 0)))).up (by omega) (by omega) (by omega), List.forall_mem_cons.mpr ⟨fs (fine_app fi (one (by decide +kernel) (by decide))) (by omega),
            List.forall_mem_cons.mpr ⟨fs (fine_app fi (one (by decide +kernel) (by decide))) (by omega), List.forall_mem_cons.mpr ⟨fine_int (Nat.zero_le _), by intro _ z; cases z⟩⟩⟩⟩⟩⟩⟩⟩⟩
        exact F pd hmem
      | int i =>
        have pl : Pl H (.int i) (.type "int") := .int i
        have hi := fi.int_
        refine ⟨_, rfl, _, _, _, _, false, rfl, .ty "tuple", pl.tyx, kit_tup pl (fun _ _ z => nomatch z), _, rfl, ?_⟩
        refine iteF ?_
        refine ⟨_, rfl, _, _, _, _, false, rfl, .ty "str", pl.tyx, kit_ty (by decide +kernel), _, rfl, ?_⟩
        refine iteF ?_
        refine ⟨_, rfl, _, _, _, _, true, rfl, .ty "int", pl.tyx, kit_ty (by decide +kernel), _, rfl, ?_⟩
        refine iteT ?_
        refine ⟨_, rfl, _, _, _, _, false, rfl, .ty "bool", pl.tyx, kit_ty (by decide +kernel), _, rfl, ?_⟩
        refine iteT ?_
        have hbig : i.natAbs ≤ 10 ^ 50 := Nat.le_trans hi (Nat.le_trans NN (by decide))
        refine ⟨_, rfl, _, _, rfl, rfl, _, rfl, _, _, rfl, rfl, _, rfl, _, _, rfl, rfl, _, rfl, i, rfl, int_log hbig, _, rfl, rfl, _, rfl, (by show 1 ≤ sizeLine; decide), fun q6 n6 => ?_⟩
        have g0 : Gr a (dieL d) H H [] [] := ⟨Kp.refl _ _, ha, .nil⟩
        have g1 := (((((g0.add (.int (i + 1))).add (.int (i - 1))).add (.int (0 - i))).add (.str (toString i))).add (.bl (decide (V.int i = V.int 1))))
        have g6 := ((g1.new n6 (o := .tup [.int i])).add (.tup (ne_die g1.da n6) upd_same (.cons (.int i) .nil))).add .non
        generalize upd H q6 (.tup [.int i]) = J6 at g6 ⊢
        refine ⟨(by show 7 ≤ sizeLine; decide), fun l1 nl1 => ?_⟩
        have gl1 := g6.new nl1 (o := .lst [.int (i + 1), .int (i - 1), .int (0 - i), .str (toString i), .bl (decide (V.int i = V.int 1)), .ref q6, .non])
        have wl1 := ne_die g6.da nl1
        have el1 : upd J6 l1 (.lst [.int (i + 1), .int (i - 1), .int (0 - i), .str (toString i), .bl (decide (V.int i = V.int 1)), .ref q6, .non]) l1 = some (.lst [.int (i + 1), .int (i - 1), .int (0 - i), .str (toString i), .bl (decide (V.int i = V.int 1)), .ref q6, .non]) := upd_same
        generalize upd J6 l1 (.lst [.int (i + 1), .int (i - 1), .int (0 - i), .str (toString i), .bl (decide (V.int i = V.int 1)), .ref q6, .non]) = J9 at gl1 el1 ⊢
        refine ⟨_, rfl, a, d, 7, rfl, gl1.da, hd, by decide, by decide, by omega, fun r7 d2' hd2 hc2 r70 r71 => ?_⟩
        have kf : Kp a J9 (upd J9 a (.lst (dieL d2'))) := Kp.upd
        obtain ⟨v, pd, hat, hmem, hvd⟩ := pick (VdAll.kp gl1.r kf) rfl r70 r71
        refine ⟨l1, _, _, v, rfl, rfl, SqL.of (kf _ _ wl1 el1), hat, ?_⟩
        refine k v pd d2' _ hvd ?_ hd2 (by omega) (gl1.kp.trans kf) upd_same
        have F : ∀ x ∈ ([.int (i + 1), .int (i - 1), .int (0 - i), .str (toString i), .bool (decide (V.int i = V.int 1)), .tuple [.int i], .none] : List PyData), Fine (N1 + 1) (n + 4) (2 * m + 100) x :=
          List.forall_mem_cons.mpr ⟨fine_int (by omega), List.forall_mem_cons.mpr ⟨fine_int (by omega), List.forall_mem_cons.mpr ⟨fine_int (by omega), List.forall_mem_cons.mpr ⟨(fine_str int_chars (Nat.le_trans (int_short hbig) (by omega))),
            List.forall_mem_cons.mpr ⟨fine_bl, List.forall_mem_cons.mpr ⟨(fine_tup.mpr (fineL_cons fi (fineL_nil (m := 0)))).up (by omega) (by omega) (by omega), List.forall_mem_cons.mpr ⟨fine_non, by intro _ z; cases z⟩⟩⟩⟩⟩⟩⟩
        exact F pd hmem
      | non =>
        have pl : Pl H .non (.type "NoneType") := .non
        refine ⟨_, rfl, _, _, _, _, false, rfl, .ty "tuple", pl.tyx, kit_ty (by decide +kernel), _, rfl, ?_⟩
        refine iteF ?_
        refine ⟨_, rfl, _, _, _, _, false, rfl, .ty "str", pl.tyx, kit_ty (by decide +kernel), _, rfl, ?_⟩
        refine iteF ?_
        refine ⟨_, rfl, _, _, _, _, false, rfl, .ty "int", pl.tyx, kit_ty (by decide +kernel), _, rfl, ?_⟩
        refine iteF ?_
        refine iteF ?_
        exact ⟨_, rfl, odd⟩
      | bl b =>
        have pl : Pl H (.bl b) (.type "bool") := .bl b
        refine ⟨_, rfl, _, _, _, _, false, rfl, .ty "tuple", pl.tyx, kit_ty (by decide +kernel), _, rfl, ?_⟩
        refine iteF ?_
        refine ⟨_, rfl, _, _, _, _, false, rfl, .ty "str", pl.tyx, kit_ty (by decide +kernel), _, rfl, ?_⟩
        refine iteF ?_
        refine ⟨_, rfl, _, _, _, _, true, rfl, .ty "int", pl.tyx, kit_ty (by decide +kernel), _, rfl, ?_⟩
        refine iteT ?_
        refine ⟨_, rfl, _, _, _, _, true, rfl, .ty "bool", pl.tyx, kit_ty (by decide +kernel), _, rfl, ?_⟩
        refine iteF ?_
        exact ⟨_, rfl, odd⟩
      | lst n1 n2 e1 r =>
        have pl := Pl.lst e1
        refine ⟨_, rfl, _, _, _, _, false, rfl, .ty "tuple", pl.tyx, kit_ty (by decide +kernel), _, rfl, ?_⟩
        refine iteF ?_
        refine ⟨_, rfl, _, _, _, _, false, rfl, .ty "str", pl.tyx, kit_ty (by decide +kernel), _, rfl, ?_⟩
        refine iteF ?_
        refine ⟨_, rfl, _, _, _, _, false, rfl, .ty "int", pl.tyx, kit_ty (by decide +kernel), _, rfl, ?_⟩
        refine iteF ?_
        refine iteF ?_
        exact ⟨_, rfl, odd⟩
      | d0 n1 e1 =>
        have pl := Pl.dct e1
        refine ⟨_, rfl, _, _, _, _, false, rfl, .ty "tuple", pl.tyx, kit_ty (by decide +kernel), _, rfl, ?_⟩
        refine iteF ?_
        refine ⟨_, rfl, _, _, _, _, false, rfl, .ty "str", pl.tyx, kit_ty (by decide +kernel), _, rfl, ?_⟩
        refine iteF ?_
        refine ⟨_, rfl, _, _, _, _, false, rfl, .ty "int", pl.tyx, kit_ty (by decide +kernel), _, rfl, ?_⟩
        refine iteF ?_
        refine iteF ?_
        exact ⟨_, rfl, odd⟩
      | d1 n1 e1 =>
        have pl := Pl.dct e1
        refine ⟨_, rfl, _, _, _, _, false, rfl, .ty "tuple", pl.tyx, kit_ty (by decide +kernel), _, rfl, ?_⟩
        refine iteF ?_
        refine ⟨_, rfl, _, _, _, _, false, rfl, .ty "str", pl.tyx, kit_ty (by decide +kernel), _, rfl, ?_⟩
        refine iteF ?_
        refine ⟨_, rfl, _, _, _, _, false, rfl, .ty "int", pl.tyx, kit_ty (by decide +kernel), _, rfl, ?_⟩
        refine iteF ?_
        refine iteF ?_
        exact ⟨_, rfl, odd⟩
    · have tail : ∀ (D : Ends) (J : Hp) (d1 : Int × Int × Int), D.rt = Q → Kp a H J → J a = some (.lst (dieL d1)) → DieOk d1 → d1.2.2 ≤ d.2.2 + 1 → tTail D [some (.ref a), some v, some (.int deep), none, none] J := fun D J d1 eD kp da hd1 hc1 =>
        ⟨a, d1, v, .int deep, pd, N1, n, m, d.2.2 + 3 * ((j : Int) + 1), rfl, da, hd1, by omega, Vd.kp vd kp, fi, N0N, NN, n20, m9, by omega, by rw [eD]; exact fun v' pd' d' H' x1 x2 x3 x4 x5 x6 => k v' pd' d' H' x1 x2 x3 x4 (kp.trans x5) x6⟩
      obtain ⟨t, pl⟩ := vd_pl vd fi (by omega)
      by_cases ht : ∃ ds, pd = .tuple ds
      · obtain ⟨ds, rfl⟩ := ht
        cases vd with
        | @tup p xs _ np e r =>
          obtain ⟨n1, rfl, fl⟩ := fine_tup' fi
          have lx : xs.length ≤ 900 := by rw [r.len]; exact Nat.le_trans fl.len m9
          refine ⟨_, rfl, _, _, _, _, true, rfl, .ty "tuple", (Pl.tup e).tyx, kit_ty (by decide +kernel), _, rfl, ?_⟩
          refine iteT ?_
          refine ⟨_, rfl, (by show 0 ≤ sizeLine; exact Nat.zero_le _), fun q nq => ?_⟩
          have kq : Kp a H (upd H q (.tup [])) := Kp.new nq
          have aq : upd H q (.tup []) a = some (.lst (dieL d)) := by rw [upd_ne (ne_die ha nq).symm]; exact ha
          have eq : upd H q (.tup []) q = some (.tup []) := upd_same
          generalize upd H q (.tup []) = J1 at kq aq eq ⊢
          refine ⟨p, q, xs, rfl, rfl, SqT.of (kq _ _ np e), SqT.of eq, _, rfl, ?_⟩
          by_cases hx : xs = []
          · refine iteFB (decide_eq_false (fun z => z hx)) ?_
            refine iteF ?_
            exact tail _ J1 d rfl kq aq hd (by omega)
          · refine iteTB (decide_eq_true hx) ?_
            refine ⟨_, rfl, _, _, rfl, rfl, _, rfl, ?_⟩
            by_cases hdp : 0 < deep
            · refine iteTB (decide_eq_true hdp) ?_
              obtain ⟨j', rfl⟩ : ∃ j', j = j' + 1 := ⟨j - 1, by omega⟩
              refine ⟨_, rfl, a, d, 4, rfl, aq, hd, by decide, by decide, by omega, fun r4 d1 hd1 hc1 r40 r41 => ?_⟩
              have k1 : Kp a H (upd J1 a (.lst (dieL d1))) := kq.trans Kp.upd
              have a1 : upd J1 a (.lst (dieL d1)) a = some (.lst (dieL d1)) := upd_same
              generalize upd J1 a (.lst (dieL d1)) = J2 at k1 a1 ⊢
              refine ⟨_, _, rfl, rfl, _, rfl, ?_⟩
              by_cases h4 : 0 < r4
              · refine iteTB (decide_eq_true h4) ?_
                have x0 : 0 < xs.length := List.length_pos_iff.mpr hx
                refine ⟨_, rfl, _, rfl, p, xs, rfl, .inr (SqT.of (k1 _ _ np e)), a, d1, _, rfl, a1, hd1, by omega, by omega, by omega, fun at_ d2 hd2 hc2 at0 at1 => ?_⟩
                obtain ⟨i, rfl⟩ : ∃ i : Nat, at_ = (i : Int) := ⟨at_.toNat, by omega⟩
                have hi : i < xs.length := by omega
                have g0 : Gr a (dieL d2) H (upd J2 a (.lst (dieL d2))) [] [] := ⟨k1.trans Kp.upd, upd_same, .nil⟩
                generalize upd J2 a (.lst (dieL d2)) = J3 at g0 ⊢
                refine ⟨_, rfl, _, rfl, _, rfl, ?_⟩
                refine slA_gr (g0.kp _ _ np e) np g0.da (fun q1 J4 k4 d4 e4 ne4 => ?_)
                rw [cutV_take (by omega)] at e4
                have g4 := g0.move k4 d4
                have hv := List.getElem?_eq_getElem hi
                obtain ⟨x, hpd, vdx⟩ := (VdAll.kp r g4.kp).at_ hv
                obtain ⟨kk, jj, hkj, fx, cl⟩ := fl.at_ hpd
                refine ⟨_, rfl, _, rfl, _, rfl, p, xs, (i : Int), _, rfl, rfl, SqT.of (g4.kp _ _ np e), atI_nat hv, _, rfl, _, _, rfl, rfl, ?_⟩
                refine ⟨a, d2, _, deep - 1, x, N1, n1, kk, rfl, g4.da, hd2, by omega, by omega, vdx, fx, N0N, NN, by omega, by omega, fun v' pd' d3 J5 hv' hf' hd3 hc3 kp5 a5 => ?_⟩
                refine ⟨(by show 1 ≤ sizeLine; decide), fun q2 n2 => ?_⟩
                have g5 : Gr a (dieL d3) H J5 [] [] := ⟨g4.kp.trans kp5, a5, .nil⟩
                have ne6 := ne_die g5.da n2
                have e4' := Kp.new (o := .tup [v']) n2 _ _ ne4 (kp5 _ _ ne4 e4)
                have hv6 := Vd.up (o := .tup [v']) n2 hv'
                have e6 : upd J5 q2 (.tup [v']) q2 = some (.tup [v']) := upd_same
                have g6 := g5.new n2 (o := .tup [v'])
                generalize upd J5 q2 (.tup [v']) = J6 at g6 e6 e4' hv6 ⊢
                have lt : (xs.take i).length ≤ 900 := by rw [List.length_take]; omega
                refine catA_gr e4' ne4 e6 ne6 g6.da (sz2 (Nat.le_trans lt (by decide)) (by show 1 ≤ 2000; decide)) (fun q7 J7 k7 d7 e7 ne7 => ?_)
                have g7 := g6.move k7 d7
                refine ⟨_, rfl, _, rfl, _, _, rfl, rfl, _, rfl, ?_⟩
                refine slN ?_
                refine slA_gr (g7.kp _ _ np e) np g7.da (fun q8 J8 k8 d8 e8 ne8 => ?_)
                rw [show ((i : Int) + 1) = ((i + 1 : Nat) : Int) by omega, cutV_drop (by omega)] at e8
                have g8 := g7.move k8 d8
                refine catA_gr (k8 _ _ ne7 e7) ne7 e8 ne8 g8.da (sz2 (by rw [List.length_append]; show _ + 1 ≤ 2000; omega) (by rw [List.length_drop]; omega)) (fun q9 J9 k9 d9 e9 ne9 => ?_)
                have g9 := g8.move k9 d9
                have rr := VdAll.kp r g9.kp
                have ff := cl (N' := N1 + 1) (n' := n1 + 4) (by omega) (by omega) hf'
                have eds : (ds.take i ++ [pd']) ++ ds.drop (i + 1) = ds.take i ++ pd' :: ds.drop (i + 1) := by rw [List.append_assoc]; rfl
                refine k _ (.tuple ((ds.take i ++ [pd']) ++ ds.drop (i + 1))) d3 J9 (.tup ne9 e9 (((rr.take i).app (.cons (Vd.kp hv6 (k7.trans (k8.trans k9))) .nil)).app (rr.drop (i + 1)))) ?_ hd3 (by omega) g9.kp g9.da
                rw [eds]
                exact (fine_tup.mpr ff).up (Nat.le_refl _) (by omega) (by omega)
              · refine iteFB (decide_eq_false h4) ?_
                exact tail _ J2 d1 rfl k1 a1 hd1 (by omega)
            · refine iteFB (decide_eq_false hdp) ?_
              refine iteF ?_
              exact tail _ J1 d rfl kq aq hd (by omega)
      · refine ⟨_, rfl, _, _, _, _, false, rfl, .ty "tuple", pl.tyx, kit_tup pl (vd_nt vd (fun ds z => ht ⟨ds, z⟩)), _, rfl, ?_⟩
        refine iteF ?_
        refine iteF ?_
        exact tail _ H d rfl (Kp.refl _ _) ha hd (by omega)
end
end Vf


set_option Elab.async false
set_option maxRecDepth 100000
set_option maxHeartbeats 4000000
/-! Codes: words as intervals. -/
namespace Vf
/-- what a word tells as a number -/
def val (b : Nat) (w : List Nat) : Nat := w.foldl (fun a c => a * b + (c - 48)) 0
theorem foldl_val (b : Nat) : ∀ (w : List Nat) (a : Nat), w.foldl (fun a c => a * b + (c - 48)) a = a * b ^ w.length + val b w
  | [], a => by simp [val]
  | c :: w, a => by
    show w.foldl _ (a * b + (c - 48)) = a * b ^ (w.length + 1) + w.foldl _ (0 * b + (c - 48))
    rw [foldl_val b w, foldl_val b w, Nat.zero_mul, Nat.zero_add, Nat.add_mul, Nat.pow_succ, Nat.mul_assoc, Nat.mul_comm b (b ^ w.length), Nat.add_assoc]
theorem val_app {b : Nat} (u w : List Nat) : val b (u ++ w) = val b u * b ^ w.length + val b w := by
  show (u ++ w).foldl _ 0 = _
  rw [List.foldl_append, foldl_val]
  rfl
theorem val_nil {b : Nat} : val b [] = 0 := rfl
theorem val_one {b c : Nat} : val b [c] = c - 48 := by
  show 0 * b + (c - 48) = _
  omega
theorem val_snoc {b : Nat} (u : List Nat) (c : Nat) : val b (u ++ [c]) = val b u * b + (c - 48) := by
  rw [val_app, val_one]
  show val b u * b ^ 1 + _ = _
  rw [Nat.pow_one]
/-- digits alone -/
def Dg (b : Nat) (w : List Nat) : Prop := ∀ c ∈ w, 48 ≤ c ∧ c < 48 + b
theorem Dg.left {b : Nat} {u w : List Nat} (h : Dg b (u ++ w)) : Dg b u := fun c hc => h c (List.mem_append.mpr (.inl hc))
theorem Dg.right {b : Nat} {u w : List Nat} (h : Dg b (u ++ w)) : Dg b w := fun c hc => h c (List.mem_append.mpr (.inr hc))
theorem Dg.app {b : Nat} {u w : List Nat} (h : Dg b u) (h2 : Dg b w) : Dg b (u ++ w) := fun c hc => (List.mem_append.mp hc).elim (h c) (h2 c)
theorem val_lt {b : Nat} : ∀ {w : List Nat}, Dg b w → val b w < b ^ w.length
  | [], _ => by simp [val]
  | c :: w, h => by
    have h1 := h c List.mem_cons_self
    have h2 := val_lt (w := w) fun x hx => h x (List.mem_cons_of_mem _ hx)
    have e : val b (c :: w) = (c - 48) * b ^ w.length + val b w := by
      have z := val_app (b := b) [c] w
      rw [val_one] at z
      exact z
    rw [e]
    have h3 : (c - 48 + 1) * b ^ w.length ≤ b * b ^ w.length := Nat.mul_le_mul_right _ (by omega)
    rw [Nat.add_mul, Nat.one_mul] at h3
    show _ < b ^ (w.length + 1)
    rw [Nat.pow_succ, Nat.mul_comm (b ^ w.length) b]
    omega
/-- where a word's interval begins and ends -/
def lo (b N : Nat) (w : List Nat) : Nat := val b w * b ^ (N - w.length)
def hi (b N : Nat) (w : List Nat) : Nat := (val b w + 1) * b ^ (N - w.length)
theorem hi_eq {b N : Nat} (w : List Nat) : hi b N w = lo b N w + b ^ (N - w.length) := by
  unfold hi lo
  rw [Nat.add_mul, Nat.one_mul]
theorem lo_lt_hi {b N : Nat} (b0 : 0 < b) (w : List Nat) : lo b N w < hi b N w := by
  rw [hi_eq]
  have := Nat.pow_pos (n := N - w.length) b0
  omega
theorem pow_sub_add {b N n k : Nat} (h : n + k ≤ N) : b ^ k * b ^ (N - (n + k)) = b ^ (N - n) := by
  rw [← Nat.pow_add]
  congr 1
  omega
theorem hi_le {b N : Nat} {w : List Nat} (h : Dg b w) (hN : w.length ≤ N) : hi b N w ≤ b ^ N := by
  have h1 := val_lt h
  have h2 : (val b w + 1) * b ^ (N - w.length) ≤ b ^ w.length * b ^ (N - w.length) := Nat.mul_le_mul_right _ h1
  rw [show b ^ w.length * b ^ (N - w.length) = b ^ N by rw [← Nat.pow_add]; congr 1; omega] at h2
  exact h2
/-- a longer word lies within -/
theorem lo_app {b N : Nat} {u w : List Nat} (hN : (u ++ w).length ≤ N) : lo b N (u ++ w) = lo b N u + val b w * b ^ (N - (u ++ w).length) := by
  unfold lo
  rw [List.length_append] at hN
  rw [val_app, Nat.add_mul, Nat.mul_assoc, List.length_append, pow_sub_add hN]
theorem in_app {b N : Nat} {u w : List Nat} (hw : Dg b w) (hN : (u ++ w).length ≤ N) : lo b N u ≤ lo b N (u ++ w) ∧ hi b N (u ++ w) ≤ hi b N u := by
  have e := lo_app (b := b) hN
  refine ⟨by omega, ?_⟩
  rw [hi_eq, hi_eq, e]
  have h1 := val_lt hw
  have h2 : (val b w + 1) * b ^ (N - (u ++ w).length) ≤ b ^ w.length * b ^ (N - (u ++ w).length) := Nat.mul_le_mul_right _ h1
  rw [Nat.add_mul, Nat.one_mul] at h2
  rw [List.length_append] at hN h2 ⊢
  rw [pow_sub_add hN] at h2
  omega
/-- one word goes on as the other, or they part -/
theorem part : ∀ a b : List Nat, (∃ t, b = a ++ t) ∨ (∃ t, a = b ++ t) ∨ ∃ p c d r s, a = p ++ c :: r ∧ b = p ++ d :: s ∧ c ≠ d
  | [], b => .inl ⟨b, rfl⟩
  | a, [] => .inr (.inl ⟨a, rfl⟩)
  | x :: a, y :: b => by
    by_cases e : x = y
    · subst e
      rcases part a b with ⟨t, h⟩ | ⟨t, h⟩ | ⟨p, c, d, r, s, h1, h2, h3⟩
      · exact .inl ⟨t, by rw [h]; rfl⟩
      · exact .inr (.inl ⟨t, by rw [h]; rfl⟩)
      · exact .inr (.inr ⟨x :: p, c, d, r, s, by rw [h1]; rfl, by rw [h2]; rfl, h3⟩)
    · exact .inr (.inr ⟨[], x, y, a, b, rfl, rfl, e⟩)
theorem part_lt {b N : Nat} {p r s : List Nat} {c d : Nat} (ha : Dg b (p ++ c :: r)) (hb : Dg b (p ++ d :: s)) (na : (p ++ c :: r).length ≤ N) (nb : (p ++ d :: s).length ≤ N) (h : c < d) : hi b N (p ++ c :: r) ≤ lo b N (p ++ d :: s) := by
  have ea : p ++ c :: r = (p ++ [c]) ++ r := by simp
  have eb : p ++ d :: s = (p ++ [d]) ++ s := by simp
  rw [ea] at ha na ⊢
  rw [eb] at hb nb ⊢
  have h1 := (in_app ha.right na).2
  have h2 := (in_app hb.right nb).1
  have hc := ha.left.right c List.mem_cons_self
  have hd := hb.left.right d List.mem_cons_self
  have l1 : (p ++ [c]).length = p.length + 1 := by simp
  have l2 : (p ++ [d]).length = p.length + 1 := by simp
  refine Nat.le_trans h1 (Nat.le_trans ?_ h2)
  unfold hi lo
  rw [val_snoc, val_snoc, l1, l2]
  exact Nat.mul_le_mul_right _ (by omega)
end Vf


set_option Elab.async false
set_option maxRecDepth 100000
set_option maxHeartbeats 4000000
/-! Codes: the order of words, and the word behind one. -/
namespace Vf
theorem lex_part {p r s : List Nat} {c d : Nat} (h : c < d) : p ++ c :: r < p ++ d :: s := by
  induction p with
  | nil => exact List.Lex.rel h
  | cons x p ih => exact List.Lex.cons ih
theorem lex_more (a : List Nat) {t : List Nat} (h : t ≠ []) : a < a ++ t := by
  induction a with
  | nil =>
    cases t with
    | nil => exact absurd rfl h
    | cons c t => exact List.Lex.nil
  | cons x a ih => exact List.Lex.cons ih
/-- a comes before b and is not above it: a's interval lies before b's -/
theorem before_iff {b N : Nat} (b0 : 0 < b) {u w : List Nat} (hu : Dg b u) (hw : Dg b w) (nu : u.length ≤ N) (nw : w.length ≤ N) : (u < w ∧ ¬ ∃ t, w = u ++ t) ↔ hi b N u ≤ lo b N w := by
  rcases part u w with ⟨t, rfl⟩ | ⟨t, rfl⟩ | ⟨p, c, d, r, s, rfl, rfl, ne⟩
  · constructor
    · rintro ⟨_, h⟩
      exact absurd ⟨t, rfl⟩ h
    · intro h
      have h1 := (in_app hw.right nw).2
      have h2 := lo_lt_hi (N := N) b0 (u ++ t)
      omega
  · constructor
    · rintro ⟨h, n⟩
      by_cases e : t = []
      · subst e
        exact absurd ⟨[], by simp⟩ n
      · exact absurd (lex_more w e) (List.lt_asymm h)
    · intro h
      have h1 := (in_app hu.right nu).1
      have h2 := lo_lt_hi (N := N) b0 (w ++ t)
      omega
  · rcases Nat.lt_or_ge c d with h | h
    · refine ⟨fun _ => part_lt hu hw nu nw h, fun _ => ⟨lex_part h, ?_⟩⟩
      rintro ⟨t, e⟩
      rw [List.append_assoc] at e
      have e2 := List.append_cancel_left e
      cases e2
      exact ne rfl
    · have h' : d < c := by omega
      constructor
      · rintro ⟨x, _⟩
        exact absurd (lex_part (p := p) (r := s) (s := r) h') (List.lt_asymm x)
      · intro x
        have h1 := part_lt hw hu nw nu h'
        have h2 := lo_lt_hi (N := N) b0 (p ++ c :: r)
        have h3 := lo_lt_hi (N := N) b0 (p ++ d :: s)
        omega
/-- all of it is the digit zero -/
def Zs (w : List Nat) : Prop := ∀ c ∈ w, c = 48
theorem val_zero {b : Nat} (b0 : 0 < b) : ∀ {w : List Nat}, Dg b w → (val b w = 0 ↔ Zs w)
  | [], _ => ⟨fun _ c h => (by cases h), fun _ => rfl⟩
  | c :: w, h => by
    have e : val b (c :: w) = (c - 48) * b ^ w.length + val b w := by
      have z := val_app (b := b) [c] w
      rw [val_one] at z
      exact z
    have h1 := h c List.mem_cons_self
    have ih := val_zero b0 (w := w) fun x hx => h x (List.mem_cons_of_mem _ hx)
    have pp := Nat.pow_pos (n := w.length) b0
    rw [e]
    constructor
    · intro z x hx
      have z1 : (c - 48) * b ^ w.length = 0 := by omega
      have z2 : val b w = 0 := by omega
      rcases List.mem_cons.mp hx with y | y
      · rcases Nat.mul_eq_zero.mp z1 with q | q
        · omega
        · omega
      · exact ih.mp z2 x y
    · intro z
      have hc := z c List.mem_cons_self
      rw [hc, ih.mpr fun x hx => z x (List.mem_cons_of_mem _ hx)]
      simp
/-- it ends with a digit that is not zero, or is empty -/
def Trim (s : List Nat) : Prop := s = [] ∨ ∃ u c, s = u ++ [c] ∧ 48 < c
theorem start_iff {b N : Nat} (b2 : 2 ≤ b) {s w : List Nat} (hs : Dg b s) (hw : Dg b w) (ns : s.length ≤ N) (nw : w.length ≤ N) (tr : Trim s) : (∃ t, w = s ++ t ∧ Zs t) ↔ lo b N w = lo b N s := by
  have b0 : 0 < b := by omega
  constructor
  · rintro ⟨t, rfl, z⟩
    rw [lo_app nw, (val_zero b0 hw.right).mpr z, Nat.zero_mul, Nat.add_zero]
  · intro e
    rcases part s w with ⟨t, rfl⟩ | ⟨t, rfl⟩ | ⟨p, c, d, r, q, rfl, rfl, ne⟩
    · refine ⟨t, rfl, (val_zero b0 hw.right).mp ?_⟩
      rw [lo_app nw] at e
      have z : val b t * b ^ (N - (s ++ t).length) = 0 := by omega
      rcases Nat.mul_eq_zero.mp z with y | y
      · exact y
      · have := Nat.pow_pos (n := N - (s ++ t).length) b0
        omega
    · rcases tr with z | ⟨u, c, z, hc⟩
      · have : t = [] := (List.append_eq_nil_iff.mp z).2
        subst this
        exact ⟨[], by simp, fun _ h => by cases h⟩
      · rw [lo_app ns] at e
        have y : val b t * b ^ (N - (w ++ t).length) = 0 := by omega
        have pp := Nat.pow_pos (n := N - (w ++ t).length) b0
        have y2 : val b t = 0 := by
          rcases Nat.mul_eq_zero.mp y with y | y
          · exact y
          · omega
        have zt := (val_zero b0 hs.right).mp y2
        by_cases te : t = []
        · subst te
          exact ⟨[], by simp, fun _ h => by cases h⟩
        · obtain ⟨t', x, rfl⟩ : ∃ t' x, t = t' ++ [x] := ⟨t.dropLast, t.getLast te, (List.dropLast_concat_getLast te).symm⟩
          have zx := zt x (by simp)
          rw [← List.append_assoc] at z
          have := (List.append_inj' z rfl).2
          cases this
          omega
    · rcases Nat.lt_or_ge c d with h | h
      · have h1 := part_lt hs hw ns nw h
        have h2 := lo_lt_hi (N := N) b0 (p ++ c :: r)
        omega
      · have h1 := part_lt hw hs nw ns (show d < c by omega)
        have h2 := lo_lt_hi (N := N) b0 (p ++ d :: q)
        omega
/-- the greatest digits at the end -/
theorem val_max {b : Nat} (b0 : 0 < b) : ∀ k, val b (List.replicate k (48 + (b - 1))) + 1 = b ^ k
  | 0 => rfl
  | k + 1 => by
    rw [List.replicate_succ', val_snoc]
    have ih := val_max b0 k
    rw [Nat.pow_succ, ← ih, Nat.add_mul, Nat.one_mul]
    omega
theorem hi_max {b N k : Nat} (b0 : 0 < b) {u : List Nat} (hN : u.length + k ≤ N) : hi b N (u ++ List.replicate k (48 + (b - 1))) = hi b N u := by
  unfold hi
  have m := val_max b0 k
  rw [val_app, List.length_append, List.length_replicate, Nat.add_assoc, m]
  have e : val b u * b ^ k + b ^ k = (val b u + 1) * b ^ k := by rw [Nat.add_mul, Nat.one_mul]
  rw [e, Nat.mul_assoc, pow_sub_add hN]
theorem hi_next {b N : Nat} {v : List Nat} {c : Nat} (hc : 48 ≤ c) : hi b N (v ++ [c]) = lo b N (v ++ [c + 1]) := by
  unfold hi lo
  rw [val_snoc, val_snoc, show (v ++ [c]).length = (v ++ [c + 1]).length by simp]
  congr 1
  omega
theorem hi_nil {b N : Nat} : hi b N [] = b ^ N := by
  unfold hi
  rw [val_nil]
  simp
end Vf


set_option Elab.async false
set_option maxRecDepth 100000
set_option maxHeartbeats 4000000
/-! Codes: rows of prefixes that cover all, told in two ways. -/
namespace Vf
abbrev Pf : Type := Nat × List Nat
/-- one behind the other, with nothing between: the walk of the program -/
def covT (b N roots : Nat) : Nat → Nat → List Pf → Bool
  | root, _, [] => decide (root = roots)
  | root, x, e :: L => if e.1 = root ∧ lo b N e.2 = x then (if hi b N e.2 = b ^ N then covT b N roots (root + 1) 0 L else covT b N roots root (hi b N e.2) L) else false
def Ord (b N : Nat) (x y : Pf) : Prop := x.1 < y.1 ∨ (x.1 = y.1 ∧ hi b N x.2 ≤ lo b N y.2)
def chainO (b N : Nat) : List Pf → Prop
  | [] => True
  | [_] => True
  | x :: y :: L => Ord b N x y ∧ chainO b N (y :: L)
/-- the share of a root -/
def tot (b N r : Nat) : List Pf → Nat
  | [] => 0
  | e :: L => (if e.1 = r then b ^ (N - e.2.length) else 0) + tot b N r L
structure PfOk (b N roots : Nat) (e : Pf) : Prop where
  r : e.1 < roots
  dg : Dg b e.2
  le : e.2.length ≤ N
theorem Ord.trans {b N : Nat} (b0 : 0 < b) {x y z : Pf} (h : Ord b N x y) (h2 : Ord b N y z) : Ord b N x z := by
  have := lo_lt_hi (N := N) b0 y.2
  rcases h with h | ⟨h, h'⟩ <;> rcases h2 with h2 | ⟨h2, h2'⟩
  · exact .inl (by omega)
  · exact .inl (by omega)
  · exact .inl (by omega)
  · exact .inr ⟨by omega, by omega⟩
theorem chainO.tail {b N : Nat} {x : Pf} {L : List Pf} (h : chainO b N (x :: L)) : chainO b N L := by
  cases L with
  | nil => trivial
  | cons y L => exact h.2
theorem chainO.all {b N : Nat} (b0 : 0 < b) {x : Pf} {L : List Pf} (h : chainO b N (x :: L)) : ∀ e ∈ L, Ord b N x e := by
  induction L generalizing x with
  | nil => intro e he; cases he
  | cons y L ih =>
    intro e he
    rcases List.mem_cons.mp he with z | z
    · rw [z]; exact h.1
    · exact h.1.trans b0 (ih h.2 e z)
theorem chainO.mk {b N : Nat} {x : Pf} {L : List Pf} (h : chainO b N L) (h2 : ∀ e ∈ L, Ord b N x e) : chainO b N (x :: L) := by
  cases L with
  | nil => trivial
  | cons y L => exact ⟨h2 y List.mem_cons_self, h⟩
theorem tot_none {b N r : Nat} : ∀ {L : List Pf}, (∀ e ∈ L, e.1 ≠ r) → tot b N r L = 0
  | [], _ => rfl
  | e :: L, h => by
    show (if e.1 = r then _ else 0) + tot b N r L = 0
    rw [if_neg (h e List.mem_cons_self), tot_none fun x hx => h x (List.mem_cons_of_mem _ hx)]
theorem tot_le {b N r roots : Nat} (b0 : 0 < b) : ∀ {L : List Pf} {y : Nat}, chainO b N L → (∀ e ∈ L, PfOk b N roots e) → (∀ e ∈ L, e.1 = r → y ≤ lo b N e.2) → y ≤ b ^ N → tot b N r L + y ≤ b ^ N
  | [], y, _, _, _, hy => by
    show 0 + y ≤ _
    omega
  | e :: L, y, ch, ok, hl, hy => by
    have okL : ∀ x ∈ L, PfOk b N roots x := fun x hx => ok x (List.mem_cons_of_mem _ hx)
    show (if e.1 = r then _ else 0) + tot b N r L + y ≤ _
    by_cases c : e.1 = r
    · rw [if_pos c]
      have h1 := hl e List.mem_cons_self c
      have h2 := tot_le (r := r) b0 (y := hi b N e.2) ch.tail okL (fun x hx hr => by
        rcases ch.all b0 x hx with z | ⟨_, z⟩
        · omega
        · exact z) (hi_le (ok e List.mem_cons_self).dg (ok e List.mem_cons_self).le)
      have h3 := hi_eq (b := b) (N := N) e.2
      omega
    · rw [if_neg c]
      have h2 := tot_le (r := r) b0 (y := y) ch.tail okL (fun x hx hr => hl x (List.mem_cons_of_mem _ hx) hr) hy
      omega
theorem cov_to {b N roots : Nat} (b0 : 0 < b) : ∀ {L : List Pf} {root x : Nat}, (∀ e ∈ L, PfOk b N roots e) → covT b N roots root x L = true →
    chainO b N L ∧ (∀ e ∈ L, root ≤ e.1 ∧ (e.1 = root → x ≤ lo b N e.2)) ∧ root ≤ roots ∧ (root < roots → tot b N root L + x = b ^ N) ∧ ∀ r, root < r → r < roots → tot b N r L = b ^ N
  | [], root, x, _, h => by
    have e : root = roots := of_decide_eq_true h
    exact ⟨trivial, fun e he => (by cases he), by omega, fun z => by omega, fun r h1 h2 => by omega⟩
  | e :: L, root, x, ok, h => by
    have okL : ∀ x ∈ L, PfOk b N roots x := fun x hx => ok x (List.mem_cons_of_mem _ hx)
    have oke := ok e List.mem_cons_self
    unfold covT at h
    by_cases c : e.1 = root ∧ lo b N e.2 = x
    · rw [if_pos c] at h
      obtain ⟨c1, c2⟩ := c
      have h3 := hi_eq (b := b) (N := N) e.2
      have rl := oke.r
      by_cases d : hi b N e.2 = b ^ N
      · rw [if_pos d] at h
        obtain ⟨a1, a2, a3, a4, a5⟩ := cov_to b0 okL h
        have far : ∀ y ∈ L, root < y.1 := fun y hy => by
          have := (a2 y hy).1
          omega
        refine ⟨a1.mk fun y hy => .inl (by have := far y hy; omega), fun y hy => ?_, by omega, fun _ => ?_, fun r h1 h2 => ?_⟩
        · rcases List.mem_cons.mp hy with z | z
          · rw [z]
            exact ⟨by omega, fun _ => by omega⟩
          · have := far y z
            exact ⟨by omega, fun _ => by omega⟩
        · show (if e.1 = root then _ else 0) + tot b N root L + x = _
          rw [if_pos c1, tot_none fun y hy => by have := far y hy; omega]
          omega
        · show (if e.1 = r then _ else 0) + tot b N r L = _
          rw [if_neg (by omega)]
          rcases Nat.lt_or_ge (root + 1) r with q | q
          · have := a5 r q h2
            omega
          · obtain rfl : r = root + 1 := by omega
            have := a4 h2
            omega
      · rw [if_neg d] at h
        obtain ⟨a1, a2, a3, a4, a5⟩ := cov_to b0 okL h
        refine ⟨a1.mk fun y hy => ?_, fun y hy => ?_, a3, fun hr => ?_, fun r h1 h2 => ?_⟩
        · have z := a2 y hy
          rcases Nat.lt_or_ge e.1 y.1 with q | q
          · exact .inl q
          · exact .inr ⟨by omega, z.2 (by omega)⟩
        · rcases List.mem_cons.mp hy with z | z
          · rw [z]
            exact ⟨by omega, fun _ => by omega⟩
          · have q := a2 y z
            exact ⟨q.1, fun w => by have := q.2 w; omega⟩
        · show (if e.1 = root then _ else 0) + tot b N root L + x = _
          rw [if_pos c1]
          have := a4 hr
          omega
        · show (if e.1 = r then _ else 0) + tot b N r L = _
          rw [if_neg (by omega)]
          have := a5 r h1 h2
          omega
    · rw [if_neg c] at h
      cases h
theorem cov_of {b N roots : Nat} (b0 : 0 < b) : ∀ {L : List Pf} {root x : Nat}, (∀ e ∈ L, PfOk b N roots e) → chainO b N L → (∀ e ∈ L, root ≤ e.1 ∧ (e.1 = root → x ≤ lo b N e.2)) → root ≤ roots → x < b ^ N → (root < roots → tot b N root L + x = b ^ N) →
    (∀ r, root < r → r < roots → tot b N r L = b ^ N) → covT b N roots root x L = true
  | [], root, x, _, _, _, hr, hx, ht, _ => by
    have e : root = roots := by
      rcases Nat.lt_or_ge root roots with c | c
      · have h : 0 + x = b ^ N := ht c
        omega
      · omega
    exact decide_eq_true e
  | e :: L, root, x, ok, ch, hl, hr, hx, ht, hts => by
    have okL : ∀ x ∈ L, PfOk b N roots x := fun x hx => ok x (List.mem_cons_of_mem _ hx)
    have oke := ok e List.mem_cons_self
    have rl := oke.r
    have z0 := hl e List.mem_cons_self
    have ht' := ht (by omega)
    have h3 := hi_eq (b := b) (N := N) e.2
    have all := ch.all b0
    have c1 : e.1 = root := by
      rcases Nat.lt_or_ge root e.1 with q | q
      · have none_ : tot b N root (e :: L) = 0 := tot_none fun y hy => by
          rcases List.mem_cons.mp hy with z | z
          · rw [z]; omega
          · rcases all y z with w | ⟨w, _⟩ <;> omega
        omega
      · omega
    have c2 : lo b N e.2 = x := by
      have h4 := tot_le (r := root) (roots := roots) b0 (y := lo b N e.2) ch ok (fun y hy hyr => by
        rcases List.mem_cons.mp hy with z | z
        · rw [z]; exact Nat.le_refl _
        · rcases all y z with w | ⟨_, w⟩
          · omega
          · have := lo_lt_hi (N := N) b0 e.2
            omega) (by
        have := hi_le oke.dg oke.le
        have := lo_lt_hi (N := N) b0 e.2
        omega)
      have := z0.2 c1
      omega
    have tr : tot b N root (e :: L) = b ^ (N - e.2.length) + tot b N root L := by
      show (if e.1 = root then _ else 0) + _ = _
      rw [if_pos c1]
    have to : ∀ r, root < r → tot b N r (e :: L) = tot b N r L := fun r h => by
      show (if e.1 = r then _ else 0) + _ = _
      rw [if_neg (by omega), Nat.zero_add]
    unfold covT
    rw [if_pos ⟨c1, c2⟩]
    by_cases d : hi b N e.2 = b ^ N
    · rw [if_pos d]
      refine cov_of b0 okL ch.tail (fun y hy => ?_) (by omega) (Nat.pow_pos b0) (fun h => ?_) fun r h1 h2 => ?_
      · have oy := okL y hy
        have h5 := hi_le oy.dg oy.le
        have h6 := lo_lt_hi (N := N) b0 y.2
        refine ⟨?_, fun _ => Nat.zero_le _⟩
        rcases all y hy with w | ⟨w, w2⟩
        · omega
        · omega
      · have := hts (root + 1) (by omega) h
        rw [to _ (by omega)] at this
        omega
      · have := hts r (by omega) h2
        rw [to _ (by omega)] at this
        exact this
    · rw [if_neg d]
      refine cov_of b0 okL ch.tail (fun y hy => ⟨?_, fun q => ?_⟩) hr ?_ (fun h => ?_) fun r h1 h2 => ?_
      · rcases all y hy with w | ⟨w, _⟩ <;> omega
      · rcases all y hy with w | ⟨_, w⟩
        · omega
        · exact w
      · have := hi_le oke.dg oke.le
        omega
      · omega
      · have := hts r h1 h2
        rw [to _ h1] at this
        exact this
theorem cov_iff {b N roots : Nat} (b0 : 0 < b) {L : List Pf} (ok : ∀ e ∈ L, PfOk b N roots e) : covT b N roots 0 0 L = true ↔ chainO b N L ∧ ∀ r, r < roots → tot b N r L = b ^ N := by
  constructor
  · intro h
    obtain ⟨a1, _, _, a4, a5⟩ := cov_to b0 ok h
    refine ⟨a1, fun r hr => ?_⟩
    rcases Nat.eq_zero_or_pos r with z | z
    · subst z
      exact a4 hr
    · exact a5 r z hr
  · rintro ⟨ch, ht⟩
    exact cov_of b0 ok ch (fun e _ => ⟨Nat.zero_le _, fun _ => Nat.zero_le _⟩) (Nat.zero_le _) (Nat.pow_pos b0) (fun h => ht 0 h) fun r _ h => ht r h
end Vf


set_option Elab.async false
set_option maxRecDepth 100000
set_option maxHeartbeats 4000000
/-! Pairs of a number and a text: their order, sorted lists of them; remove by value. -/
namespace VG
open PySem PySem.Spec PyProof.Rows L2
/-- x before y: by the number, then by the text -/
def lexS (p q : Int × Str) : Bool := if p.1 = q.1 then decide (p.2.cps.toList < q.2.cps.toList) else decide (p.1 < q.1)
theorem lexS_iff {p q : Int × Str} : lexS p q = true ↔ p.1 < q.1 ∨ (p.1 = q.1 ∧ p.2.cps.toList < q.2.cps.toList) := by
  unfold lexS
  by_cases e : p.1 = q.1
  · rw [if_pos e, decide_eq_true_eq]
    constructor
    · exact fun h => .inr ⟨e, h⟩
    · rintro (h | h)
      · omega
      · exact h.2
  · rw [if_neg e, decide_eq_true_eq]
    constructor
    · exact fun h => .inl h
    · rintro (h | h)
      · exact h
      · exact absurd h.1 e
theorem lexS_no {p q : Int × Str} : lexS p q = false ↔ ¬ (p.1 < q.1 ∨ (p.1 = q.1 ∧ p.2.cps.toList < q.2.cps.toList)) := by
  rw [← lexS_iff]
  cases lexS p q <;> simp
theorem nat_lt_asymm {l m : List Nat} (h : l < m) : ¬ m < l := fun h2 => List.lt_irrefl l (List.lt_trans h h2)
theorem nat_le_trans {l m n : List Nat} (h : ¬ m < l) (h2 : ¬ n < m) : ¬ n < l := fun h3 => by
  have a : l ≤ m := List.not_lt.mp h
  have b : m ≤ n := List.not_lt.mp h2
  exact List.not_lt.mpr (List.le_trans a b) h3
theorem swo_lexS {α : Type} (k : α → Int × Str) : SrtO.Swo fun v u => lexS (k v) (k u) := by
  refine ⟨fun x y h => ?_, fun x y z h1 h2 => ?_⟩
  · have a := lexS_iff.mp h
    refine lexS_no.mpr ?_
    rintro (c | c)
    · rcases a with a | a
      · omega
      · omega
    · rcases a with a | a
      · omega
      · exact nat_lt_asymm a.2 c.2
  · have a := lexS_no.mp h1
    have b := lexS_no.mp h2
    refine lexS_no.mpr ?_
    rintro (c | c)
    · by_cases e1 : (k y).1 < (k x).1
      · exact a (.inl e1)
      · by_cases e2 : (k z).1 < (k y).1
        · exact b (.inl e2)
        · omega
    · by_cases e1 : (k y).1 < (k x).1
      · exact a (.inl e1)
      · by_cases e2 : (k z).1 < (k y).1
        · exact b (.inl e2)
        · refine nat_le_trans (fun q => a (.inr ⟨by omega, q⟩)) (fun q => b (.inr ⟨by omega, q⟩)) c.2
def IsPS (h : Heap) (v : Value) (x : Int) (y : Str) : Prop := ∃ a o t u n, v = .ref a ∧ h.get? a = some o ∧ o.cls = .type "tuple" ∧ o.data = .seq #[.int x t, .str y u] n
theorem IsPS.keeps {h h' : Heap} {v : Value} {x : Int} {y : Str} (p : IsPS h v x y) (k : ∀ b o, h.get? b = some o → o.cls = .type "tuple" → h'.get? b = some o) : IsPS h' v x y := by
  obtain ⟨a, o, t, u, n, e, ho, hc, hd⟩ := p
  exact ⟨a, o, t, u, n, e, k _ _ ho hc, hc, hd⟩
theorem firstsS {h : Heap} : ∀ {vs : List Value}, (∀ v ∈ vs, ∃ x y, IsPS h v x y) → ∃ fs : List Value, PySem.W.KatTups h vs fs ∧ fs.length = vs.length ∧ ∀ f ∈ fs, ∃ x t, f = Value.int x t
  | [], _ => ⟨[], PySem.W.KatTups.nil, rfl, fun _ hm => by simp at hm⟩
  | v :: vs, hp => by
    obtain ⟨fs, h1, h2, h3⟩ := firstsS (vs := vs) fun v' hm => hp v' (List.mem_cons_of_mem _ hm)
    obtain ⟨x, y, a, o, t, u, n, e, ho, hc, hd⟩ := hp v (List.mem_cons_self ..)
    subst e
    refine ⟨.int x t :: fs, PySem.W.KatTups.cons ho hc hd rfl h1, by rw [List.length_cons, List.length_cons, h2], fun f hm => ?_⟩
    rcases List.mem_cons.mp hm with rfl | hm
    · exact ⟨x, t, rfl⟩
    · exact h3 f hm
section
variable {prog : Program} {w : World} {A : Around} {E : Value → Shared → Prop} {s : Shared}
open SrtO
theorem str_beq {x y : Str} : (x == y) = decide (x = y) := by
  by_cases e : x = y
  · rw [decide_eq_true e]; exact beq_iff_eq.mpr e
  · rw [decide_eq_false e]; exact beq_eq_false_iff_ne.mpr e
theorem cmpS {vs : List Value} {k : Value → Int × Str} (hp : ∀ v ∈ vs, IsPS s.heap v (k v).1 (k v).2) : Cmp prog w A s (tuples' true) (fun p => p.1 ∈ vs) (lt2 fun v u => lexS (k v) (k u)) := by
  intro p q hm hm'
  have h1 := hp _ hm
  have h2 := hp _ hm'
  show wpAny (model prog w) A (keyLt' (tuples' true) p.1 q.1) (fun r s' => s' = s ∧ r = lexS (k p.1) (k q.1)) (fun _ _ => False) s
  unfold lexS
  generalize (k p.1).1 = x at h1 ⊢
  generalize (k p.1).2 = y at h1 ⊢
  generalize (k q.1).1 = x' at h2 ⊢
  generalize (k q.1).2 = y' at h2 ⊢
  obtain ⟨a, o, t, u, n, e, ho, hc, hd⟩ := h1
  obtain ⟨a', o', t', u', n', e', ho', hc', hd'⟩ := h2
  rw [e, e']
  refine PySem.W.kat_lt ho hd ho' hd' ?_
  show PySem.W.KatLex prog w A true (decide (2 < 2)) _ [(.int x t, .int x' t'), (.str y u, .str y' u')] 0 s
  refine PySem.W.kat_cons (SeqAt.EqAt.int_int x t x' t' prog w _ _ ?_)
  refine PySem.W.kat_go (fun e1 => ?_) (fun e1 => ?_)
  · have ex : x = x' := by simpa using e1
    refine PySem.W.kat_yes (PySem.W.kat_cons (SeqAt.EqAt.str_str y u y' u' prog w _ _ ?_))
    refine PySem.W.kat_go (fun e2 => ?_) (fun e2 => ?_)
    · have ey : y = y' := by simpa using e2
      have e3 : (if x = x' then decide (y.cps.toList < y'.cps.toList) else decide (x < x')) = false := by
        rw [if_pos ex, ey]
        exact decide_eq_false (List.lt_irrefl _)
      exact PySem.W.kat_yes (PySem.W.kat_nil ⟨rfl, e3.symm⟩)
    · have e3 : (if x = x' then decide (y.cps.toList < y'.cps.toList) else decide (x < x')) = decide (y.cps.toList < y'.cps.toList) := if_pos ex
      refine PySem.W.kat_no (PySem.W.kat_one _ _ (PyProof.Rows.lt_str ?_))
      exact (show s = s ∧ decide (y.cps.toList < y'.cps.toList) = (if x = x' then decide (y.cps.toList < y'.cps.toList) else decide (x < x')) from ⟨rfl, e3.symm⟩)
  · have ex : ¬ x = x' := by simpa using e1
    have e3 : (if x = x' then decide (y.cps.toList < y'.cps.toList) else decide (x < x')) = decide (x < x') := if_neg ex
    exact PySem.W.kat_no (oneLt_int ⟨rfl, e3.symm⟩)
theorem sortableS {a : Addr} {vs : List Value} {k : Value → Int × Str} (h0 : 0 < vs.length) (hp : ∀ v ∈ vs, IsPS s.heap v (k v).1 (k v).2) (ha : ∀ o, s.heap.get? a = some o → o.cls ≠ .type "tuple") : SortableO prog w A s a vs fun v u => lexS (k v) (k u) := by
  intro h' keep
  have hp' : ∀ v ∈ vs, IsPS h' v (k v).1 (k v).2 := fun v hm => (hp v hm).keeps fun b o e c => keep b o (fun z => by subst z; exact ha o e c) e
  obtain ⟨fs, h1, h2, h3⟩ := firstsS fun v hm => ⟨_, _, hp' v hm⟩
  refine ⟨tuples' true, fun Q E hq => ?_, cmpS hp'⟩
  refine PySem.W.kat_kind (T := .type "int") h1 (by omega) (fun f hm => ?_) (by rfl) ?_
  · obtain ⟨x, t, rfl⟩ := h3 f hm
    exact PySem.W.Looks.now
  · have e : (Value.type "int" != Value.type "tuple") = true := by first | decide +kernel | rfl | decide
    rw [e]
    exact hq
theorem sortedS_run {l : Addr} {vs : List Value} {k : Value → Int × Str} {Q : Value → Shared → Prop} (hl : s.heap.IsList l vs.toArray) (hz : vs.length ≤ sizeLine) (hp : ∀ v ∈ vs, IsPS s.heap v (k v).1 (k v).2)
    (h : ∀ (h' : Heap) (d : Addr) (out : List Value), Srtd (fun v u => lexS (k v) (k u)) out → Stb (fun v u => lexS (k v) (k u)) out vs → (∀ b o, s.heap.get? b = some o → h'.get? b = some o) → s.heap.objs.size ≤ d → (∃ n, h'.get? d = some (seqObj "list" out.toArray n)) → Q (.ref d) { s with heap := h' }) :
    wpAny (model prog w) A (call (.builtin "sorted") [.ref l]) Q E s := by
  refine sorted_ord (swo_lexS k) hl hz (fun h2 h₁ a ha kk => ?_) fun out hs hb => ?_
  · refine sortableS (s := { s with heap := h₁ }) (by omega) (fun v hm => (hp v hm).keeps fun b o e _ => (kk b o e).2) fun o e => ?_
    have e' : some o = some (seqObj "list" vs.toArray 0) := e.symm.trans ha
    cases e'
    intro c
    exact absurd (Value.type.inj c) (by decide)
  · exact h _ _ out hs hb (fun b o e => sortedAll_old e) (Nat.le_succ _) (sortedAll_at s.heap vs out.toArray)
end
/-- by the pairs that k tells -/
abbrev ltS (k : V → Int × Str) (x y : V) : Bool := lexS (k x) (k y)
/-- sorted(xs), xs a list of pairs of a number and a text: a new list, sorted, equal ones in their order -/
def rSortedIS (K : PySem.W.Frag) : List V → Hp → VK → Prop := fun vs H Q => ∃ (a : Addr) (xs : List V) (k : V → Int × Str), vs = [V.ref a] ∧ SqL K H a xs ∧ (∀ x ∈ xs, ∃ t, x = V.ref t ∧ H t = some (.tup [.int (k x).1, .str (k x).2])) ∧
  ∀ ys p, SrtO.Srtd (ltS k) ys → SrtO.Stb (ltS k) ys xs → H p = none → Q (.ref p) (upd H p (.lst ys))
section
variable {X : Cx}
theorem cr_sortedIS : CallR X (.builtin "sorted") (rSortedIS X.K) := by
  intro pins s σ H vs us Q I r h
  obtain ⟨a, xs, k, rfl, hs, hx, q⟩ := h
  obtain ⟨its, rv, hl, hz⟩ := I.list hs
  obtain ⟨u, rfl, ru⟩ := vals1 r
  obtain rfl : u = Value.ref a := ru
  obtain ⟨e1, e2⟩ := refs_back rv fun x m => by
    obtain ⟨t, e, _⟩ := hx x m
    exact ⟨t, e⟩
  refine sortedS_run (k := fun u => k (backV u)) hl.isList (by rw [← rv.length]; exact hz) (fun v hv => ?_) fun h' d out h1 h2 kp hd hn => ?_
  · obtain ⟨t, rfl⟩ := e2 v hv
    have hm : V.ref t ∈ xs := by rw [e1]; exact List.mem_map.mpr ⟨_, hv, rfl⟩
    obtain ⟨t', e, ht⟩ := hx _ hm
    cases e
    obtain ⟨_, its2, r2, o, ho, hc, n, hd⟩ := I.hok _ _ ht
    obtain ⟨u1, u2, rfl, ri, rj⟩ := vals2 r2
    obtain ⟨t1, rfl⟩ := ri
    obtain ⟨t2, rfl⟩ := rj
    exact ⟨t, o, t1, t2, n, rfl, ho, hc, hd⟩
  · have h3 : ∀ u ∈ out, ∃ a, u = Value.ref a := fun u hu => e2 u (h2.perm.mem_iff.mp hu)
    obtain ⟨n, hn⟩ := hn
    have hb : SrtO.Stb (ltS k) (out.map backV) xs := by
      rw [e1]
      exact SrtO.Stb.map (swo_lexS k) backV h2
    refine ⟨.ref d, upd H d (.lst (out.map backV)), I.laid (t' := s.toks) kp hd ⟨?_, out, n, vals_back h3, hn⟩, rfl, q _ d (SrtO.srtd_map h1) hb (I.hok.fresh hd)⟩
    rw [hb.len]
    exact hz
/-- < of two pairs of a number and a text -/
def rLtIS (K : PySem.W.Frag) : R2 := fun x y H Q => ∃ (a b : Addr) (i j : Int) (u v : Str), x = .ref a ∧ y = .ref b ∧ SqT K H a [.int i, .str u] ∧ SqT K H b [.int j, .str v] ∧ Q (.bl (lexS (i, u) (j, v))) H
theorem op_ltIS (hu : X.A.units < cLine) : OpR X (compareOp .Lt) (rLtIS X.K) := by
  intro pins s σ H x y v u Q I rx ry h
  obtain ⟨a, b, i, j, p, q, rfl, rfl, ha, hb, qq⟩ := h
  cases rx
  cases ry
  obtain ⟨its, r1, p1, _⟩ := I.tuple ha
  obtain ⟨its2, r2, p2, _⟩ := I.tuple hb
  obtain ⟨u1, u2, rfl, ri, rj⟩ := vals2 r1
  obtain ⟨t1, rfl⟩ := ri
  obtain ⟨t2, rfl⟩ := rj
  obtain ⟨w1, w2, rfl, ri, rj⟩ := vals2 r2
  obtain ⟨t3, rfl⟩ := ri
  obtain ⟨t4, rfl⟩ := rj
  have R := Ob.RcOp.tuples_lt (A := X.A) (s := s) (e := fun n => if n = 0 then i == j else p == q) (r := fun n => if n = 0 then decide (i < j) else decide (p.cps.toList < q.cps.toList)) p1 p2 hu (fun n h1 h2 => by
    have hn : n = 0 ∨ n = 1 := by simp at h1; omega
    rcases hn with rfl | rfl
    · exact SeqAt.EqAt.int_int _ _ _ _
    · exact SeqAt.EqAt.str_str _ _ _ _) (fun n h1 h2 _ => by
    have hn : n = 0 ∨ n = 1 := by simp at h1; omega
    rcases hn with rfl | rfl
    · exact Ob.RcOp.lt_int _ _ _ _
    · exact fun _ _ _ _ h => PyProof.Rows.lt_str h)
  have e : Ob.lexAt (fun n => if n = 0 then i == j else p == q) (fun n => if n = 0 then decide (i < j) else decide (p.cps.toList < q.cps.toList)) (decide (2 < 2)) 0 2 = lexS (i, p) (j, q) := by
    show (if (i == j) = true then (if (p == q) = true then decide (2 < 2) else decide (p.cps.toList < q.cps.toList)) else decide (i < j)) = (if i = j then decide (p.cps.toList < q.cps.toList) else decide (i < j))
    by_cases c : i = j
    · rw [if_pos (beq_iff_eq.mpr c), if_pos c]
      by_cases c2 : p = q
      · rw [if_pos (beq_iff_eq.mpr c2), c2]
        exact (decide_eq_false (List.lt_irrefl _)).symm
      · rw [if_neg (fun z => c2 (beq_iff_eq.mp z))]
    · rw [if_neg (fun z => c (beq_iff_eq.mp z)), if_neg c]
  have z : wpAny (model X.prog X.w) X.A (compareOp .Lt (.ref a) (.ref b)) (EP X pins σ Q) X.xe s := R X.prog X.w X.xe (EP X pins σ Q) (by
    show EP X pins σ Q (.bool (Ob.lexAt (fun n => if n = 0 then i == j else p == q) (fun n => if n = 0 then decide (i < j) else decide (p.cps.toList < q.cps.toList)) (decide (2 < 2)) 0 2)) s
    rw [e]
    exact ⟨.bl _, H, I, rfl, qq⟩)
  exact z
/-- xs.remove(y): the first place of an equal one goes -/
def rRemD (K : PySem.W.Frag) : V → List V → Hp → VK → Prop := fun x xs H Q => ∃ (a : Addr) (vs : List V) (y : V) (d : PyData) (ds : List PyData) (j : Nat) (z : PyData), x = V.ref a ∧ xs = [y] ∧ H a = some (.lst vs) ∧ DpAll K H vs ds ∧ Dp K H y d ∧
  SeqAt.shaped (.list ds) = true ∧ SeqAt.shaped d = true ∧ ds[j]? = some z ∧ PyData.eqv z d = true ∧ (∀ (m : Nat) (z' : PyData), m < j → ds[m]? = some z' → PyData.eqv z' d = false) ∧ Q .non (upd H a (.lst (vs.eraseIdx j)))
theorem mt_removeD (hu : X.A.units + 65 < cLine) : MtM X "list.remove" (rRemD X.K) := by
  intro pins s σ H x xs v us Q I rx rxs h
  obtain ⟨a, vs, y, d, ds, j, z, rfl, rfl, hl, hd, hy, sl, sd, hz, hzj, hno, q⟩ := h
  cases rx
  obtain ⟨uy, rfl, ry⟩ := rxs.one
  obtain ⟨bs, r1⟩ := Dp.reads I d y uy hy ry
  have hxs : PyData.canLayAll0 ds = true := SeqAt.canLay_of_shaped sl
  have hroom : X.A.units + 1 + min (PyData.depthAll ds) d.depth < cLine := room_in_shaped sd hu
  obtain ⟨hlen, its, n, rv, hvl, ho'⟩ := I.lstM hl
  obtain ⟨as, h4⟩ := Dp.readsAll I ds _ its hd rv
  have hn : its.length = ds.length := SeqAt.ReadsAll.length ds its as h4
  have hmap : its.map (SeqAt.readOf s.heap) = ds := SeqAt.readsAll_map ds its as hxs h4
  have hsl := sizeLine_eq
  obtain ⟨hjd, _⟩ := List.getElem?_eq_some_iff.mp hz
  have hjl : j < its.length := by omega
  have hj : j < its.toArray.size := by simpa using hjl
  have at_ : ∀ (m : Nat) (hm : m < its.toArray.size) (z' : PyData), ds[m]? = some z' → SeqAt.readOf s.heap its.toArray[m] = z' := by
    intro m hm z' hz'
    have hml : m < its.length := by simpa using hm
    rw [← hmap, List.getElem?_map, List.getElem?_eq_getElem hml] at hz'
    have e1 : SeqAt.readOf s.heap its[m] = z' := Option.some.inj (show some (SeqAt.readOf s.heap its[m]) = some z' from hz')
    simpa using e1
  refine call_meets PySem.F.slot_list_remove ⟨_, ho', rfl⟩ PySem.F.entry_list_remove (PySem.F.args_list_remove_2 _ _)
    (SeqAt.list_removeAt a its.toArray n _ _ uy (fun u => PyData.eqv (SeqAt.readOf s.heap u) d) j hj ?_ ?_ (by rw [List.size_toArray]; omega)) ⟨ho', SeqAt.items_eqAt (vs := its.toArray) (show ReadsAll s.heap its.toArray.toList ds as from h4) r1 hxs (SeqAt.canLay_of_shaped sd) hroom, ?_⟩
  · show PyData.eqv (SeqAt.readOf s.heap its.toArray[j]) d = true
    rw [at_ j hj z hz]
    exact hzj
  · intro m hm hmj
    have hmd : m < ds.length := by omega
    have hz' : ds[m]? = some ds[m] := List.getElem?_eq_getElem hmd
    show PyData.eqv (SeqAt.readOf s.heap its.toArray[m]) d = false
    rw [at_ m hm _ hz']
    exact hno m _ hmj hz'
  · refine ⟨.non, _, I.lset (its' := its.eraseIdx j) (t' := s.toks) hl ho' ?_ (rv.eraseIdx j) ?_, rfl, q⟩
    · show its.toArray.eraseIdxIfInBounds j = (its.eraseIdx j).toArray
      rw [List.eraseIdxIfInBounds_toArray]
    · have := List.length_eraseIdx_le vs j
      omega
end
end VG


set_option Elab.async false
set_option maxRecDepth 100000
set_option maxHeartbeats 4000000
/-! sorted of a tuple of pairs. -/
namespace VG
open PySem PySem.Spec PyProof.Rows L2 SrtO
section
variable {prog : Program} {w : World} {A : Around} {E : Value → Shared → Prop} {s : Shared}
/-- what a tuple holds, gathered in a new list -/
theorem gather_tup {l : Addr} {vs : List Value} {Q : List Value → Shared → Prop} (hl : s.heap.IsTuple l vs.toArray) (hsz : vs.length ≤ sizeLine)
    (h : Q vs { s with heap := (s.heap.push (seqObj "list" #[] 0)).update s.heap.objs.size (Obj.mapSeq (· ++ vs.toArray)) }) : wpAny (model prog w) A (collect (.ref l)) Q E s := by
  obtain ⟨o, ho, hc, n, hd⟩ := id hl
  have kept := Heap.get?_push_of_some (seqObj "list" #[] 0) ho
  have made : (s.heap.push (seqObj "list" #[] 0)).get? s.heap.objs.size = some (seqObj "list" #[] 0) := Heap.get?_push_size _ rfl
  unfold collect
  refine wpAny_bind (wpAny_runValue (codeAny_builtin entry_proto_collect' ?_))
  show wpAny _ _ (do again (.builtin "list.__iadd__" ⟨[← newList [], .ref l], []⟩)) _ _ s
  refine wpAny_bind (wpAny_newList (wpAny_pure ⟨Code.quiet_builtin _ (by decide +kernel), codeAny_builtin entry_list_iadd' ?_⟩))
  show wpAny _ _ (Builtin.List.listExtendWith (.ref s.heap.objs.size) (.ref l) (.ref s.heap.objs.size)) _ _ { s with heap := s.heap.push (seqObj "list" #[] 0) }
  unfold Builtin.List.listExtendWith
  refine wpAny_bind (wpAny_typeOf (T := "tuple") ⟨o, kept, hc⟩ ?_)
  rw [if_pos (by rw [show (Value.type "tuple" == Value.type "tuple") = true from rfl]; simp)]
  refine wpAny_bind (listItems_at kept hd (wpAny_bind (listItems_at (xs := #[]) (n := 0) made rfl ?_)))
  rw [if_neg (by simp)]
  refine wpAny_bind (listUpdate_at (xs := #[]) (n := 0) made rfl ?_ (Nat.zero_le _) (by show (#[] ++ vs.toArray).size ≤ sizeLine + 1; simp only [Array.size_append, List.size_toArray, List.length_nil]; omega))
  refine wpAny_pure ?_
  show wpAny (model prog w) A (do let o ← load s.heap.objs.size; match o.data with | .seq xs _ => pure xs.toList | _ => unsupported "internal:collect") Q E { s with heap := (s.heap.push (seqObj "list" #[] 0)).update s.heap.objs.size (Obj.mapSeq (· ++ vs.toArray)) }
  refine wpAny_bind (wpAny_load (get?_update_seq made _) ?_)
  show wpAny _ _ (pure ((#[] : Array Value) ++ vs.toArray).toList) Q E _
  rw [show ((#[] : Array Value) ++ vs.toArray).toList = vs by simp]
  exact wpAny_pure h
theorem sortedS_tup {l : Addr} {vs : List Value} {k : Value → Int × Str} {Q : Value → Shared → Prop} (hl : s.heap.IsTuple l vs.toArray) (hz : vs.length ≤ sizeLine) (hp : ∀ v ∈ vs, IsPS s.heap v (k v).1 (k v).2)
    (h : ∀ (h' : Heap) (d : Addr) (out : List Value), Srtd (fun v u => lexS (k v) (k u)) out → Stb (fun v u => lexS (k v) (k u)) out vs → (∀ b o, s.heap.get? b = some o → h'.get? b = some o) → s.heap.objs.size ≤ d → (∃ n, h'.get? d = some (seqObj "list" out.toArray n)) → Q (.ref d) { s with heap := h' }) :
    wpAny (model prog w) A (call (.builtin "sorted") [.ref l]) Q E s := by
  refine Calls.call_function_entry kind_sorted plain_sorted entry_sorted (args_sorted1 _) ?_
  unfold Builtin.«sorted»
  refine wpAny_bind (m := checkCount "sorted" 1 1 _) (wpAny_pure (wpAny_bind (gather_tup hl hz (wpAny_bind (wpAny_newList ?_ hz)))))
  have size1 : ((s.heap.push (seqObj "list" #[] 0)).update s.heap.objs.size (Obj.mapSeq (· ++ vs.toArray))).objs.size = s.heap.objs.size + 1 := by rw [Heap.size_update, size_push']
  have made : (((s.heap.push (seqObj "list" #[] 0)).update s.heap.objs.size (Obj.mapSeq (· ++ vs.toArray))).push (seqObj "list" vs.toArray 0)).get? (s.heap.objs.size + 1) = some (seqObj "list" vs.toArray 0) := by
    rw [← size1]
    exact Heap.get?_push_size _ rfl
  have old : ∀ b o, s.heap.get? b = some o → b ≠ s.heap.objs.size + 1 ∧ (((s.heap.push (seqObj "list" #[] 0)).update s.heap.objs.size (Obj.mapSeq (· ++ vs.toArray))).push (seqObj "list" vs.toArray 0)).get? b = some o := fun b o q => by
    have lt : b < s.heap.objs.size := Heap.lt_size q
    refine ⟨Nat.ne_of_lt (Nat.lt_succ_of_lt lt), Heap.get?_push_of_some _ ?_⟩
    rw [Heap.get?_update_ne _ _ _ _ (Nat.ne_of_lt lt)]
    exact Heap.get?_push_of_some _ q
  show wpAny _ _ _ _ _ { s with heap := ((s.heap.push (seqObj "list" #[] 0)).update s.heap.objs.size (Obj.mapSeq (· ++ vs.toArray))).push (seqObj "list" vs.toArray 0) }
  rw [size1]
  refine wpAny_bind (wpAny_holding (wpAny_call_entry slot_list_sort ⟨_, made, rfl⟩ entry_list_sort (list_sort_ord (swo_lexS k) made hz (fun h2 => ?_) fun out hs hb => ⟨_, rfl, wpAny_pure ⟨_, rfl, ?_⟩⟩) (args_list_sort _)))
  · refine sortableS (s := { s with heap := ((s.heap.push (seqObj "list" #[] 0)).update s.heap.objs.size (Obj.mapSeq (· ++ vs.toArray))).push (seqObj "list" vs.toArray 0) }) (by omega) (fun v hm => (hp v hm).keeps fun b o e _ => (old b o e).2) fun o e => ?_
    have e' : some o = some (seqObj "list" vs.toArray 0) := e.symm.trans made
    cases e'
    intro c
    exact absurd (Value.type.inj c) (by decide)
  · exact h _ _ out hs hb (fun b o e => sortedAll_old e) (Nat.le_succ _) (sortedAll_at s.heap vs out.toArray)
end
section
variable {X : Cx}
/-- sorted(xs), xs a tuple of pairs of a number and a text -/
def rSortedIST (K : PySem.W.Frag) : List V → Hp → VK → Prop := fun vs H Q => ∃ (a : Addr) (xs : List V) (k : V → Int × Str), vs = [V.ref a] ∧ SqT K H a xs ∧ (∀ x ∈ xs, ∃ t, x = V.ref t ∧ H t = some (.tup [.int (k x).1, .str (k x).2])) ∧
  ∀ ys p, SrtO.Srtd (ltS k) ys → SrtO.Stb (ltS k) ys xs → H p = none → Q (.ref p) (upd H p (.lst ys))
theorem cr_sortedIST : CallR X (.builtin "sorted") (rSortedIST X.K) := by
  intro pins s σ H vs us Q I r h
  obtain ⟨a, xs, k, rfl, hs, hx, q⟩ := h
  obtain ⟨its, rv, hl, hz⟩ := I.tuple hs
  obtain ⟨u, rfl, ru⟩ := vals1 r
  obtain rfl : u = Value.ref a := ru
  obtain ⟨e1, e2⟩ := refs_back rv fun x m => by
    obtain ⟨t, e, _⟩ := hx x m
    exact ⟨t, e⟩
  refine sortedS_tup (k := fun u => k (backV u)) hl (by rw [← rv.length]; exact hz) (fun v hv => ?_) fun h' d out h1 h2 kp hd hn => ?_
  · obtain ⟨t, rfl⟩ := e2 v hv
    obtain ⟨t', e, ht⟩ := hx (V.ref t) (by rw [e1]; exact List.mem_map.mpr ⟨_, hv, rfl⟩)
    cases e
    obtain ⟨_, its2, r2, o, ho, hc, n, hd⟩ := I.hok _ _ ht
    obtain ⟨u1, u2, rfl, ⟨t1, rfl⟩, ⟨t2, rfl⟩⟩ := vals2 r2
    exact ⟨t, o, t1, t2, n, rfl, ho, hc, hd⟩
  · have h3 : ∀ u ∈ out, ∃ a, u = Value.ref a := fun u hu => e2 u (h2.perm.mem_iff.mp hu)
    obtain ⟨n, hn⟩ := hn
    have hb : SrtO.Stb (ltS k) (out.map backV) xs := by
      rw [e1]
      exact SrtO.Stb.map (swo_lexS k) backV h2
    refine ⟨.ref d, upd H d (.lst (out.map backV)), I.laid (t' := s.toks) kp hd ⟨by rw [hb.len]; exact hz, out, n, vals_back h3, hn⟩, rfl, q _ d (SrtO.srtd_map h1) hb (I.hok.fresh hd)⟩
end
end VG


set_option Elab.async false
set_option maxRecDepth 100000
set_option maxHeartbeats 8000000
set_option exponentiation.threshold 3000
/-! The word behind a word. -/
namespace Vf
open PySem L2 SX
theorem rstrip_is (l : List Nat) (m : Nat) : ∃ (u : List Nat) (k : Nat), l = u ++ List.replicate k m ∧ Txt.rstripChars (S l) ⟨#[m]⟩ = S u ∧ (u = [] ∨ ∃ v c, u = v ++ [c] ∧ c ≠ m) := by
  unfold Txt.rstripChars
  rw [PyProof.Rows.stripBy_eq]
  obtain ⟨b1, b2, b3, b4⟩ := PyProof.Rows.hi_facts (⟨#[m]⟩ : Str).cps.contains (S l) 0 (Nat.zero_le _)
  have e0 : stripLo (⟨#[m]⟩ : Str).cps.contains false (S l) = 0 := rfl
  rw [e0]
  generalize stripHi (⟨#[m]⟩ : Str).cps.contains true (S l) 0 = hi at *
  rw [S_len] at b2 b3
  have gd : ∀ k, k < l.length → (S l).cps.getD k 0 = l.getD k 0 := fun k hk => by simp [Array.getD, hk]
  have gc : ∀ c, (⟨#[m]⟩ : Str).cps.contains c = true ↔ c = m := fun c => by simp
  refine ⟨l.take hi, l.length - hi, ?_, ?_, ?_⟩
  · have e : l.drop hi = List.replicate (l.length - hi) m := by
      refine List.eq_replicate_iff.mpr ⟨List.length_drop, fun x hx => ?_⟩
      obtain ⟨k, hk, rfl⟩ := List.getElem_of_mem hx
      rw [List.length_drop] at hk
      have z := (gc _).mp (b3 (hi + k) (by omega) (by omega))
      rw [gd _ (by omega), List.getD_eq_getElem?_getD, List.getElem?_eq_getElem (by omega)] at z
      rw [List.getElem_drop]
      exact z
    rw [← e, List.take_append_drop]
  · show Str.mk _ = Str.mk _
    simp
  · rcases b4 with z | z
    · left
      rw [z]
      rfl
    · rcases Nat.eq_zero_or_pos hi with h0 | h0
      · left
        rw [h0]
        rfl
      · right
        refine ⟨l.take (hi - 1), l.getD (hi - 1) 0, ?_, fun q => ?_⟩
        · have e : hi = hi - 1 + 1 := by omega
          conv => lhs; rw [e, List.take_add_one]
          rw [List.getD_eq_getElem?_getD, List.getElem?_eq_getElem (show hi - 1 < l.length by omega)]
          rfl
        · rw [gd _ (by omega), q] at z
          have := (gc m).mpr rfl
          rw [this] at z
          cases z
/-- what stands behind a word, if anything -/
def Behind (b : Nat) (w : List Nat) : Option (List Nat) → Prop
  | none => ∃ k, w = List.replicate k (48 + (b - 1))
  | some s => ∃ v c k, w = v ++ [c] ++ List.replicate k (48 + (b - 1)) ∧ c ≠ 48 + (b - 1) ∧ s = v ++ [c + 1]
theorem behind_none {b N : Nat} (b0 : 0 < b) {w : List Nat} (h : Behind b w none) (nw : w.length ≤ N) : hi b N w = b ^ N := by
  obtain ⟨k, rfl⟩ := h
  have z := hi_max (N := N) (k := k) b0 (u := []) (by simpa using nw)
  rw [List.nil_append] at z
  rw [z, hi_nil]
theorem behind_some {b N : Nat} (b0 : 0 < b) {w s : List Nat} (hw : Dg b w) (h : Behind b w (some s)) (nw : w.length ≤ N) : hi b N w = lo b N s ∧ Trim s ∧ Dg b s ∧ s.length ≤ N ∧ hi b N w < b ^ N := by
  obtain ⟨v, c, k, rfl, ne, rfl⟩ := h
  have hc := hw.left.right c List.mem_cons_self
  have ln : (v ++ [c]).length + k ≤ N := by
    rw [List.length_append, List.length_replicate] at nw
    exact nw
  have e1 := hi_max (N := N) b0 (u := v ++ [c]) ln
  have e2 := hi_next (b := b) (N := N) (v := v) hc.1
  have dg : Dg b (v ++ [c + 1]) := hw.left.left.app fun x hx => by
    rw [List.mem_singleton.mp hx]
    omega
  have l2 : (v ++ [c + 1]).length ≤ N := by
    rw [List.length_append] at ln ⊢
    simp at ln ⊢
    omega
  refine ⟨e1.trans e2, .inr ⟨v, c + 1, rfl, by omega⟩, dg, l2, ?_⟩
  rw [e1, e2]
  exact Nat.lt_of_lt_of_le (lo_lt_hi b0 _) (hi_le dg l2)
def spStartB : Sp := fun vs H Q _ => ∃ (b : Nat) (w : List Nat), vs = [.int (b : Int), .str (S w)] ∧ 2 ≤ b ∧ b ≤ 5 ∧ Dg b w ∧ w.length ≤ 9000 ∧ (Behind b w none → Q .non H) ∧ ∀ s, Behind b w (some s) → Q (.str (S s)) H
section
variable {P : Program} {w : World} {K : PySem.W.Frag} {mg : Str → Option Value} {base : Heap}
theorem digit_at {b : Nat} (b1 : 1 ≤ b) (b5 : b ≤ 5) : atI (("01234" : Str).cps.toList) ((b : Int) - 1) = some (48 + (b - 1)) := by
  have e : b = 1 ∨ b = 2 ∨ b = 3 ∨ b = 4 ∨ b = 5 := by omega
  rcases e with e | e | e | e | e <;> subst e <;> decide +kernel
theorem digit_next {b c : Nat} (b5 : b ≤ 5) (h0 : 48 ≤ c) (h1 : c < 48 + b) (ne : c ≠ 48 + (b - 1)) : PySem.intText? (⟨#[c]⟩ : Str) = some ((c : Int) - 48) ∧ atI (("01234" : Str).cps.toList) ((c : Int) - 48 + 1) = some (c + 1) := by
  have hc : c = 48 ∨ c = 49 ∨ c = 50 ∨ c = 51 := by omega
  rcases hc with e | e | e | e <;> subst e <;> exact ⟨by decide +kernel, by decide +kernel⟩
theorem scStartB : FnScope ["base", "word", "short"] ["base", "word"] (defScope sStartB) := ⟨rfl, rfl, rfl, by decide +kernel, rfl, by decide +kernel, by decide +kernel⟩
theorem ok_startb {f : Addr} {fd : FuncData} (F : Fun K "start_behind" "start_behind" sStartB f fd) (N : Nm mg) : FnOk P w K mg base CX0 1 f fd ["base", "word"] spStartB := by
  refine F.ok scStartB (fun vs H Q E h => ?_) (fun cdv A outer s H vs Q E hr h => ?_)
  · obtain ⟨b, w, rfl, _⟩ := h
    rfl
  · obtain ⟨b, w, rfl, b2, b5, hw, hl, k1, k2⟩ := h
    have nd := scStartB.nd
    obtain ⟨t2, m2⟩ := N.dig
    refine ⟨_, pss_cons (ps_set (i := 2) nd rfl (.inl rfl) (pe_bm PySem.F.plainAttrs_str PySem.F.slot_str_rstrip PySem.F.type_str_rstrip mt_rstripChars (pv 1) (pa_cons (pe_ix ix_str (pe_glob (v := .str "01234") rfl m2 ⟨_, rfl⟩) (pe_op op_sub (pv 0) pe_int) (fun _ _ => rfl)) pa_nil)))
      (pss_cons (ps_if (pt_cmpR op_eq (pv 2) pe_str (nomark _)) (pss_one (ps_ret pe_non)) pss_nil)
      (pss_one (ps_ret (pe_op op_add_str (pe_slice sl_str (pv 2) po_none (po_some (pe_un un_neg pe_int))) (pe_ix ix_str (pe_glob (v := .str "01234") rfl m2 ⟨_, rfl⟩) (pe_op op_add (pe_callTy call_int_str (by rfl) N.int PyProof.Rows.boot_int (pa_cons (pe_ix ix_str (pv 2) (pe_un un_neg pe_int) (fun _ _ => rfl)) pa_nil)) pe_int) (fun _ _ => rfl)))))), ?_⟩
    obtain ⟨u, n, ew, eu, hu⟩ := rstrip_is w (48 + (b - 1))
    have lu : u.length ≤ w.length := by rw [ew, List.length_append]; omega
    refine ⟨_, rfl, rfl, _, rfl, _, _, rfl, rfl, _, _, _, rfl, rfl, (by decide +kernel), digit_at (by omega) b5, _, _, rfl, rfl, small_lenG hl, ?_⟩
    rw [eu]
    refine ⟨_, rfl, rfl, _, rfl, ?_⟩
    rcases hu with z | ⟨v, c, z, ne⟩
    · subst z
      refine iteTB (decide_eq_true (str_ne_empty.mpr rfl)) ?_
      exact k1 ⟨n, ew⟩
    · subst z
      refine iteFB (decide_eq_false (fun q => by have := str_ne_empty.mp q; simp at this)) ?_
      have hc := hw c (by rw [ew]; simp)
      obtain ⟨d1, d2⟩ := digit_next b5 hc.1 hc.2 ne
      have lv : v.length ≤ 9000 := by
        rw [List.length_append] at lu
        omega
      have ls : (S (v ++ [c])).length ≤ sizeLine := small_lenG (by omega)
      refine ⟨_, rfl, _, rfl, _, rfl, _, rfl, ls, _, rfl, _, rfl, _, _, _, rfl, rfl, ls, last_at v c, _, _, rfl, d1, by show 1 ≤ 640; decide, _, _, rfl, rfl, _, _, _, rfl, rfl, (by decide +kernel), d2, _, _, rfl, rfl, ?_, ?_⟩
      · rw [cut_last, S_len]
        show v.length + 1 ≤ sizeLine
        exact Nat.le_trans (show v.length + 1 ≤ 9001 by omega) (by decide)
      · rw [cut_last, S_snoc]
        exact k2 _ ⟨v, c, n, ew, ne, rfl⟩
end
end Vf


set_option Elab.async false
set_option maxRecDepth 100000
set_option maxHeartbeats 8000000
set_option exponentiation.threshold 3000
/-! The walk over a row of prefixes. -/
namespace Vf
open PySem L2 SX
/-- a row of prefixes, each with its place -/
abbrev Pr : Type := List (Addr × Pf)
abbrev prefs (L : Pr) : List V := L.map fun e => .ref e.1
abbrev pfs (L : Pr) : List Pf := L.map fun e => e.2
abbrev pfO (e : Pf) : HO := .tup [.int (e.1 : Int), .str (S e.2)]
def PGood (b N : Nat) (H : Hp) (L : Pr) : Prop := ∀ e ∈ L, H e.1 = some (pfO e.2) ∧ Dg b e.2.2 ∧ e.2.2.length ≤ N
theorem starts_iff {w s : List Nat} : Txt.startswith (S w) (S s) = true ↔ ∃ t, w = s ++ t := by
  unfold Txt.startswith
  rw [Bool.and_eq_true, decide_eq_true_iff, PySem.StrLaws.subAt_eq, S_len, S_len, beq_iff_eq]
  show 0 + s.length ≤ w.length ∧ (w.drop 0).take s.length = s ↔ _
  rw [List.drop_zero]
  constructor
  · rintro ⟨_, h⟩
    exact ⟨w.drop s.length, by conv => lhs; rw [← List.take_append_drop s.length w, h]⟩
  · rintro ⟨t, rfl⟩
    refine ⟨by rw [List.length_append]; omega, ?_⟩
    rw [List.take_left]
def spCovers : Sp := fun vs H Q _ => ∃ (b N : Nat) (roots : Nat) (a : Addr) (L : Pr), vs = [.int (b : Int), .int (roots : Int), .ref a] ∧ 2 ≤ b ∧ b ≤ 5 ∧ H a = some (.tup (prefs L)) ∧ PGood b N H L ∧ N ≤ 9000 ∧
  Q (.bl (covT b N roots 0 0 (pfs L))) H
section
variable {P : Program} {w : World} {K : PySem.W.Frag} {mg : Str → Option Value} {base : Heap}
theorem scCovers : FnScope ["base", "roots", "prefixes", "at", "root", "start", "word"] ["base", "roots", "prefixes"] (defScope sCovers) := ⟨rfl, rfl, rfl, by decide +kernel, rfl, by decide +kernel, by decide +kernel⟩
theorem ok_covers {f fS : Addr} {fd fdS : FuncData} (F : Fun K "covers" "covers" sCovers f fd) (GS : FnOk P w K mg base CX0 1 fS fdS ["base", "word"] spStartB) (cS : Cal K mg "start_behind" fS fdS ["base", "word"]) (ml : mg "len" = none) :
    FnOk P w K mg base CX0 2 f fd ["base", "roots", "prefixes"] spCovers := by
  refine F.ok scCovers (fun vs H Q E h => ?_) (fun cdv A outer s H vs Q E hr h => ?_)
  · obtain ⟨b, N, roots, a, L, rfl, _⟩ := h
    rfl
  · obtain ⟨b, N, roots, a, L, rfl, b2, b5, ha, gL, hN, k⟩ := h
    have nd := scCovers.nd
    have b0 : 0 < b := by omega
    have eem : ("" : Str) = S [] := by decide +kernel
    have e0 : ("0" : Str) = S [48] := by decide +kernel
    refine ⟨_, pss_cons (ps_set (i := 4) nd rfl (.inl rfl) pe_int)
      (pss_cons (ps_set (i := 5) nd rfl (.inl rfl) pe_str)
      (pss_cons (ps_for PassesOwn.never rfl (pi_tup (pv 2)) (pg_tup rfl (pgs_cons (pg_name (i := 3) nd rfl (.inl rfl)) (pgs_cons (pg_name (i := 6) nd rfl (.inl rfl)) pgs_nil)))
        (pss_cons (ps_if (PW.pt (pw_or (pt_cmpR op_ne (pv 3) (pv 4) (nomark _)) (pw_or (pt_not (pt_val (pe_bm PySem.F.plainAttrs_str PySem.F.slot_str_startswith PySem.F.type_str_startswith mt_startswith (pv 6) (pa_cons (pv 5) pa_nil))))
          (pw_or1 (pt_cmpR op_ne (pe_bm PySem.F.plainAttrs_str PySem.F.slot_str_strip PySem.F.type_str_strip mt_stripChars (pe_slice sl_str (pv 6) (po_some (pe_callB call_len_str (by rfl) ml boot_len (pa_cons (pv 5) pa_nil))) po_none) (pa_cons pe_str pa_nil)) pe_str (nomark _)))))) (pss_one (ps_ret pe_bl)) pss_nil)
        (pss_cons (ps_set (i := 5) nd rfl (.inl rfl) (pe_call GS hr rfl cS.mg cS.kp cS.b .nil pass0 (pa_cons (pv 0) (pa_cons (pv 6) pa_nil))))
        (pss_one (ps_if (pt_cmpR op_isN (pv 5) pe_non (nomark _)) (pss_cons (ps_aug (i := 4) nd rfl (.inl rfl) pe_int ip_add) (pss_one (ps_set (i := 5) nd rfl (.inl rfl) pe_str))) pss_nil)))))
      (pss_one (ps_ret (pe_cmpR op_eq (pv 4) (pv 1) (nomark _)))))), ?_⟩
    refine ⟨_, rfl, a, rfl, ⟨_, SqT.of ha⟩, for_tup (xs := prefs L) (fun i σ Hx => ∃ (u3 u6 : Option V) (root : Nat) (sw : List Nat), σ = [some (.int (b : Int)), some (.int (roots : Int)), some (.ref a), u3, some (.int (root : Int)), some (.str (S sw)), u6] ∧ Hx = H ∧ Trim sw ∧ Dg b sw ∧ sw.length ≤ N ∧ covT b N roots 0 0 (pfs L) = covT b N roots root (lo b N sw) ((pfs L).drop i)) ?_ ?_ ?_ ?_⟩
    · refine ⟨none, none, 0, [], ?_, rfl, .inl rfl, fun c hc => (by cases hc), Nat.zero_le _, ?_⟩
      · rw [← eem]
        rfl
      · rw [show lo b N [] = 0 by unfold lo; rw [val_nil, Nat.zero_mul]]
        rfl
    · rintro i σ Hx _ ⟨u3, u6, root, sw, rfl, rfl, _⟩
      exact SqT.of ha
    · rintro i x σ Hx hx ⟨u3, u6, root, sw, rfl, rfl, tr, dg, ls, ec⟩
      obtain ⟨e, he, rfl⟩ : ∃ e, L[i]? = some e ∧ x = .ref e.1 := by
        rw [List.getElem?_map] at hx
        cases z : L[i]? with
        | none => rw [z] at hx; cases hx
        | some y => rw [z] at hx; cases hx; exact ⟨y, rfl, rfl⟩
      obtain ⟨ge, gd, gl⟩ := gL e (List.mem_of_getElem? he)
      obtain ⟨p, r, wd⟩ := e
      have gd : Dg b wd := gd
      have ge : Hx p = some (.tup [.int (r : Int), .str (S wd)]) := ge
      have gl : wd.length ≤ N := gl
      have drop : (pfs L).drop i = (r, wd) :: (pfs L).drop (i + 1) := by
        have hi' : i < (pfs L).length := by
          rw [List.length_map]
          exact (List.getElem?_eq_some_iff.mp he).1
        rw [List.drop_eq_getElem_cons hi']
        congr 1
        rw [List.getElem_map]
        have := (List.getElem?_eq_some_iff.mp he).2
        rw [this]
      rw [drop] at ec
      refine ⟨p, _, rfl, SqT.of ge, rfl, _, _, rfl, _, _, rfl, rfl, ?_⟩
      have lw : (S wd).length ≤ sizeLine := small_lenG (by omega)
      have lsw : (S sw).length ≤ sizeLine := small_lenG (by omega)
      have wrong : ¬ (r = root ∧ lo b N wd = lo b N sw) → Q (.bl false) Hx := fun n => by
        rw [ec] at k
        unfold covT at k
        rw [if_neg n] at k
        exact k
      refine ⟨_, rfl, _, rfl, rfl, _, rfl, ?_⟩
      by_cases cr : r = root
      · refine iteFB (by rw [cr, decide_eq_true rfl]; rfl) ?_
        refine ⟨_, rfl, rfl, _, rfl, _, _, rfl, rfl, _, rfl, ?_⟩
        by_cases cs : Txt.startswith (S wd) (S sw) = true
        · rw [cs]
          refine iteF ?_
          obtain ⟨t, rfl⟩ := starts_iff.mp cs
          refine ⟨_, rfl, _, rfl, _, rfl, lsw, _, rfl, _, rfl, lw, rfl, _, _, rfl, rfl, ?_, ?_⟩
          · exact Nat.le_trans (cut_len _ _ _) (Nat.le_trans (show (sw ++ t).length ≤ 9000 by omega) (by decide))
          rw [S_len, cut_drop (by rw [List.length_append]; omega), List.drop_left, e0]
          refine ⟨rfl, _, rfl, ?_⟩
          by_cases cz : Zs t
          · have z := (strip_empty t [48]).mpr fun c hc => List.mem_singleton.mpr (cz c hc)
            refine iteFB (by rw [z, decide_eq_true rfl]; rfl) ?_
            have cl : lo b N (sw ++ t) = lo b N sw := (start_iff b2 dg gd ls gl tr).mp ⟨t, rfl, cz⟩
            refine ⟨_, rfl, _, rfl, b, sw ++ t, rfl, b2, b5, gd, by omega, fun h => ?_, fun s h => ?_⟩
            · refine ⟨_, rfl, rfl, _, rfl, ?_⟩
              refine iteTB (decide_eq_true rfl) ?_
              refine ⟨_, rfl, _, _, rfl, rfl, ?_⟩
              refine ⟨some (.int (r : Int)), some (.str (S (sw ++ t))), root + 1, [], ?_, rfl, .inl rfl, fun c hc => (by cases hc), Nat.zero_le _, ?_⟩
              · rw [← eem]
                rfl
              · rw [ec]
                conv => lhs; unfold covT
                rw [if_pos ⟨cr, cl⟩, if_pos (behind_none b0 h gl), show lo b N [] = 0 by unfold lo; rw [val_nil, Nat.zero_mul]]
            · obtain ⟨h1, h2, h3, h4, h5⟩ := behind_some b0 gd h gl
              refine ⟨_, rfl, rfl, _, rfl, ?_⟩
              refine iteFB (decide_eq_false (fun z => by cases z)) ?_
              refine ⟨_, _, root, s, rfl, rfl, h2, h3, h4, ?_⟩
              rw [ec]
              conv => lhs; unfold covT
              rw [if_pos ⟨cr, cl⟩, if_neg (by show ¬ hi b N (sw ++ t) = _; omega)]
              show covT b N roots root (hi b N (sw ++ t)) _ = _
              rw [h1]
          · refine iteTB (by rw [decide_eq_false (fun z => cz fun c hc => List.mem_singleton.mp ((strip_empty t [48]).mp (V.str.inj z) c hc))]; rfl) ?_
            refine wrong fun z => cz ?_
            obtain ⟨t', h, hz⟩ := (start_iff b2 dg gd ls gl tr).mpr z.2
            rw [List.append_cancel_left h]
            exact hz
        · rw [Bool.eq_false_iff.mpr cs]
          refine iteT ?_
          refine iteT ?_
          exact wrong fun z => cs (starts_iff.mpr (by
            obtain ⟨t, h, _⟩ := (start_iff b2 dg gd ls gl tr).mpr z.2
            exact ⟨t, h⟩))
      · refine iteTB (by rw [decide_eq_false (fun z => cr (by have := V.int.inj z; omega))]; rfl) ?_
        refine iteT ?_
        exact wrong fun z => cr z.1
    · rintro σ Hx ⟨u3, u6, root, sw, rfl, rfl, _, _, _, ec⟩
      refine ⟨_, rfl, _, rfl, rfl, ?_⟩
      have e2 : (pfs L).drop (prefs L).length = [] := List.drop_eq_nil_iff.mpr (by rw [List.length_map, List.length_map]; exact Nat.le_refl _)
      rw [e2] at ec
      rw [ec] at k
      have e3 : decide (V.int (root : Int) = V.int (roots : Int)) = covT b N roots root (lo b N sw) [] := by
        show _ = decide (root = roots)
        by_cases c : root = roots
        · rw [c, decide_eq_true rfl, decide_eq_true rfl]
        · rw [decide_eq_false c, decide_eq_false (fun z => c (by have := V.int.inj z; omega))]
      rw [e3]
      exact k
end
end Vf


set_option Elab.async false
set_option maxRecDepth 100000
set_option maxHeartbeats 8000000
set_option exponentiation.threshold 3000
/-! Whether a value is a code. -/
namespace Vf
open PySem L2 SX
/-- what the program says of a value of any kind -/
inductive CG (H : Hp) (b R : Nat) : V → Bool → Prop where
  | non {v : V} {t : Value} (p : Pl H v t) (n : ∀ q xs, v = .ref q → H q ≠ some (.tup xs)) : CG H b R v false
  | big {p : Addr} {xs : List V} (h : H p = some (.tup xs)) (n : 5000 < xs.length) : CG H b R (.ref p) false
  | bad {p : Addr} {xs : List V} {rs : List Bool} (h : H p = some (.tup xs)) (n : xs.length ≤ 5000) (hl : rs.length = xs.length) (g : ∀ (i : Nat) (x : V) (r : Bool), xs[i]? = some x → rs[i]? = some r → PG H b R x r) (no : rs.all id = false) : CG H b R (.ref p) false
  | fin {p : Addr} {L : Pr} {N : Nat} (h : H p = some (.tup (prefs L))) (n : L.length ≤ 5000) (g : PGood b N H L) (hN : N ≤ 9000) (hr : ∀ e ∈ L, e.2.1 < R) : CG H b R (.ref p) (covT b N R 0 0 (pfs L))
theorem same_new' {H : Hp} {p : Addr} {o : HO} (n : H p = none) : Same H (upd H p o) := fun b u e => by rw [upd_ne (ne_of_none e n)]; exact e
def spCodeForm : Sp := fun vs H Q _ => ∃ (b R : Nat) (v : V) (res : Bool), vs = [.int (b : Int), .int (R : Int), v] ∧ 2 ≤ b ∧ b ≤ 5 ∧ CG H b R v res ∧ ∀ H', Same H H' → Q (.bl res) H'
theorem pg_same {H H' : Hp} {b : Nat} {R : Int} {v : V} {r : Bool} (g : PG H b R v r) (s : Same H H') : PG H' b R v r := by
  cases g with
  | non p n =>
    rename_i t
    exact .non (pl_keep0 p fun q o _ _ e => s _ _ e) (nt_keep p n fun q o _ _ e => s _ _ e)
  | len h n => exact .len (s _ _ h) n
  | fin h pr px => exact .fin (s _ _ h) (pl_keep0 pr fun q o _ _ e => s _ _ e) (pl_keep0 px fun q o _ _ e => s _ _ e)
theorem pg_right {H : Hp} {b R : Nat} {p : Addr} {e : Pf} (h : H p = some (pfO e)) (dg : Dg b e.2) (hl : e.2.length ≤ 9000) (hr : e.1 < R) : PG H b (R : Int) (.ref p) true := by
  have w : (withinV 0 ((R : Int) - 1) (.int (e.1 : Int)) && wordV b (.str (S e.2))) = true := by
    have a1 : withinV 0 ((R : Int) - 1) (.int (e.1 : Int)) = true := by
      show (decide ((0 : Int) ≤ (e.1 : Int)) && decide ((e.1 : Int) ≤ (R : Int) - 1)) = true
      rw [decide_eq_true (by omega), decide_eq_true (by omega)]
      rfl
    rw [a1, wordV_of fun c hc => by have := dg c hc; omega]
    rfl
  rw [← w]
  exact .fin h (.int _) (.str _ (by rw [S_len]; exact hl))
section
variable {P : Program} {w : World} {K : PySem.W.Frag} {mg : Str → Option Value} {base : Heap}
theorem scCodeForm : FnScope ["base", "roots", "value", "prefix"] ["base", "roots", "value"] (defScope sCodeForm) := ⟨rfl, rfl, rfl, by decide +kernel, rfl, by decide +kernel, by decide +kernel⟩
theorem ok_codeform {f fP fC : Addr} {fd fdP fdC : FuncData} (F : Fun K "has_code_form" "has_code_form" sCodeForm f fd) (GP : FnOk P w K mg base CX0 3 fP fdP ["base", "roots", "value"] spPfxFormG) (cP : Cal K mg "has_prefix_form" fP fdP ["base", "roots", "value"])
    (GC : FnOk P w K mg base CX0 2 fC fdC ["base", "roots", "prefixes"] spCovers) (cC : Cal K mg "covers" fC fdC ["base", "roots", "prefixes"]) (N : Nm mg) (mall : mg "all" = none) (mr : ∃ t, mg "MAX_ROWS" = some (.int 5000 t)) :
    FnOk P w K mg base CX0 4 f fd ["base", "roots", "value"] spCodeForm := by
  refine F.ok scCodeForm (fun vs H Q E h => ?_) (fun cdv A outer s H vs Q E hr h => ?_)
  · obtain ⟨b, R, v, res, rfl, _⟩ := h
    rfl
  · obtain ⟨b, R, v, res, rfl, b2, b5, cg, k⟩ := h
    have nd := scCodeForm.nd
    have hr2 := hr.mono (show 2 ≤ 3 by decide)
    obtain ⟨t2, m2⟩ := mr
    refine ⟨_, pss_cons (ps_if (PW.pt (pw_or (pt_not (pt_val (pe_callB call_isi (by rfl) N.isinst PyProof.Rows.boot_isinstance (pa_cons (pv 2) (pa_cons (pe_bltn (v := .ty "tuple") (by rfl) N.tuple PyProof.Rows.boot_tuple rfl) pa_nil)))))
        (pw_or1 (pt_cmpR op_gt (pe_callB call_len_seq (by rfl) N.len boot_len (pa_cons (pv 2) pa_nil)) (pe_glob (v := .int 5000) rfl m2 ⟨_, rfl⟩) (nomark _)))))
        (pss_one (ps_ret pe_bl)) pss_nil)
      (pss_one (ps_ret (pe_and (pe_callB (cr_all rfl) (by rfl) mall PyProof.Rows.boot_all (pa_cons (pe_lc (own := [("prefix", 3)]) (g := gName 3) rfl nd (pi_tup (pv 2))
          (blkOk_by (N := ["base", "roots", "value", "prefix"]) (sc := defScope sCodeForm) (by decide +kernel)) (fun _ _ _ _ _ => pg_name (i := 3) nd rfl (Or.inl rfl))
          (fun _ _ _ _ _ => pts_nil) (fun _ _ _ _ _ => pe_call GP hr rfl cP.mg cP.kp cP.b .nil pass0 (pa_cons (pv 0) (pa_cons (pv 1) (pa_cons (pv 3) pa_nil))))) pa_nil))
        (pe_one (pe_call GC hr2 rfl cC.mg cC.kp cC.b .nil pass0 (pa_cons (pv 0) (pa_cons (pv 1) (pa_cons (pv 2) pa_nil)))))))), ?_⟩
    have cg' : (∃ t, Pl H v t ∧ (∀ q xs, v = .ref q → H q ≠ some (.tup xs)) ∧ res = false) ∨ (∃ p xs, v = .ref p ∧ H p = some (.tup xs) ∧ 5000 < xs.length ∧ res = false) ∨ ∃ (p : Addr) (xs : List V) (rs : List Bool), v = .ref p ∧ H p = some (.tup xs) ∧ xs.length ≤ 5000 ∧ rs.length = xs.length ∧
        (∀ (i : Nat) (x : V) (r : Bool), xs[i]? = some x → rs[i]? = some r → PG H b R x r) ∧ ((rs.all id = false ∧ res = false) ∨ (rs.all id = true ∧ ∃ (L : Pr) (M : Nat), xs = prefs L ∧ PGood b M H L ∧ M ≤ 9000 ∧ res = covT b M R 0 0 (pfs L))) := by
      cases cg with
      | non p n => exact .inl ⟨_, p, n, rfl⟩
      | big h n => exact .inr (.inl ⟨_, _, rfl, h, n, rfl⟩)
      | bad h n hl g no => exact .inr (.inr ⟨_, _, _, rfl, h, n, hl, g, .inl ⟨no, rfl⟩⟩)
      | @fin p L M h n g hN hrt =>
        refine .inr (.inr ⟨p, _, List.replicate L.length true, rfl, h, by rw [List.length_map]; exact n, by rw [List.length_replicate, List.length_map], fun i x r hx hr => ?_, .inr ⟨?_, L, M, rfl, g, hN, rfl⟩⟩)
        · rw [List.getElem?_map] at hx
          cases z : L[i]? with
          | none => rw [z] at hx; cases hx
          | some e =>
            rw [z] at hx
            cases hx
            have em := List.mem_of_getElem? z
            have hi : i < L.length := (List.getElem?_eq_some_iff.mp z).1
            rw [List.getElem?_replicate, if_pos hi] at hr
            cases hr
            obtain ⟨g1, g2, g3⟩ := g e em
            exact pg_right g1 g2 (by omega) (hrt e em)
        · rw [List.all_eq_true]
          intro x hx
          rw [List.eq_of_mem_replicate hx]
          rfl
    rcases cg' with ⟨t, p, n, rfl⟩ | ⟨p, xs, rfl, hp, n, rfl⟩ | ⟨p, xs, rs, rfl, hp, n, hl, g, fin⟩
    · refine ⟨_, rfl, _, _, _, _, false, rfl, .ty "tuple", p.tyx, kit_tup p n, _, rfl, ?_⟩
      refine iteT ?_
      exact iteT (k H fun _ _ e => e)
    · refine ⟨_, rfl, _, _, _, _, true, rfl, .ty "tuple", (Pl.tup hp).tyx, kit_ty (by decide +kernel), _, rfl, ?_⟩
      refine iteF ?_
      refine ⟨_, rfl, _, _, rfl, .inr (SqT.of hp), _, _, rfl, rfl, _, rfl, ?_⟩
      exact iteTB (decide_eq_true (by omega)) (k H fun _ _ e => e)
    · refine ⟨_, rfl, _, _, _, _, true, rfl, .ty "tuple", (Pl.tup hp).tyx, kit_ty (by decide +kernel), _, rfl, ?_⟩
      refine iteF ?_
      refine ⟨_, rfl, _, _, rfl, .inr (SqT.of hp), _, _, rfl, rfl, _, rfl, ?_⟩
      refine iteFB (decide_eq_false (by omega)) ?_
      refine ⟨_, rfl, p, rfl, ⟨_, SqT.of hp⟩, fun D hD => ?_⟩
      have sD : ∀ o, Same H (upd H D o) := fun o => same_new' hD
      refine lc_tup (xs := xs) (fun i Hy => Hy = upd H D (.lst ((rs.take i).map V.bl))) rfl ?_ ?_ ?_
      · rintro i Hy _ rfl
        exact SqT.of (sD _ _ _ hp)
      · rintro i x Hy hx rfl
        have hi : i < xs.length := (List.getElem?_eq_some_iff.mp hx).1
        have hr : rs[i]? = some rs[i] := List.getElem?_eq_getElem (by omega)
        refine ⟨rfl, _, rfl, _, rfl, _, rfl, b, (R : Int), x, _, rfl, b2, b5, pg_same (g i x _ hx hr) (sD _), _, upd_same, ?_, ?_⟩
        · rw [List.length_map, List.length_take]
          exact Nat.lt_of_le_of_lt (show min i rs.length ≤ 5000 by omega) (by decide)
        · rw [upd_upd', List.take_add_one, hr, List.map_append]
          rfl
      · rintro Hy rfl
        rw [show rs.take xs.length = rs by rw [← hl, List.take_length]]
        refine ⟨D, rs, rfl, SqL.of upd_same, _, rfl, ?_⟩
        rcases fin with ⟨no, rfl⟩ | ⟨yes, L, M, rfl, gL, hM, rfl⟩
        · exact iteFB no (k _ (sD _))
        · refine iteTB yes ?_
          exact ⟨_, rfl, _, rfl, _, rfl, b, M, R, p, L, rfl, b2, b5, sD _ _ _ hp, fun e he => ⟨sD _ _ _ (gL e he).1, (gL e he).2⟩, hM, k _ (sD _)⟩
end
end Vf


set_option Elab.async false
set_option maxRecDepth 100000
set_option maxHeartbeats 8000000
set_option exponentiation.threshold 3000
/-! Codes made. -/
namespace Vf
open PySem L2 SX
theorem within_b {b : Nat} (b2 : 2 ≤ b) (b5 : b ≤ 5) : withinV 2 5 (.int (b : Int)) = true := by
  show (decide ((2 : Int) ≤ b) && decide ((b : Int) ≤ 5)) = true
  rw [decide_eq_true (by omega), decide_eq_true (by omega)]
  rfl
theorem within_r {R : Nat} (r1 : 1 ≤ R) (r5 : R ≤ 5000) : withinV 1 5000 (.int (R : Int)) = true := by
  show (decide ((1 : Int) ≤ R) && decide ((R : Int) ≤ 5000)) = true
  rw [decide_eq_true (by omega), decide_eq_true (by omega)]
  rfl
theorem takes0 {X : Cx} : Takes X (fun _ _ _ _ => False) := fun _ _ x => by
  obtain ⟨a, B, sI, pins', σ', H', cls, d, rfl, J', nb, up, sky, na, os, ag, wish⟩ := x
  exact wish.elim
def spIsCode : Sp := fun vs H Q _ => ∃ (b R : Nat) (v : V) (res : Bool), vs = [.int (b : Int), .int (R : Int), v] ∧ 2 ≤ b ∧ b ≤ 5 ∧ 1 ≤ R ∧ R ≤ 5000 ∧ CG H b R v res ∧ ∀ H', Same H H' → Q (.bl res) H'
/-- a row of prefixes that are right -/
structure Row (b R N : Nat) (H : Hp) (a : Addr) (L : Pr) : Prop where
  at_ : H a = some (.tup (prefs L))
  good : PGood b N H L
  len : L.length ≤ 6000
  rt : ∀ e ∈ L, e.2.1 < R
theorem Row.same {b R N : Nat} {H H' : Hp} {a : Addr} {L : Pr} (r : Row b R N H a L) (s : Same H H') : Row b R N H' a L := ⟨s _ _ r.at_, fun e he => ⟨s _ _ (r.good e he).1, (r.good e he).2⟩, r.len, r.rt⟩
def spReqPfxs : Sp := fun vs H Q _ => ∃ (b R N : Nat) (a : Addr) (L : Pr), vs = [.int (b : Int), .int (R : Int), .ref a] ∧ 2 ≤ b ∧ b ≤ 5 ∧ Row b R N H a L ∧ N ≤ 1000 ∧ Q .non H
def spRootCode : Sp := fun vs H Q _ => ∃ R : Nat, vs = [.int (R : Int)] ∧ 1 ≤ R ∧ R ≤ 5000 ∧ ∀ (L : Pr) (p : Addr) (H' : Hp), pfs L = (List.range R).map (fun r => (r, [])) → Same H H' → (∀ e ∈ L, H' e.1 = some (pfO e.2)) → H' p = some (.tup (prefs L)) → H p = none → Q (.ref p) H'
section
variable {P : Program} {w : World} {K : PySem.W.Frag} {mg : Str → Option Value} {base : Heap}
theorem scIsCode : FnScope ["base", "roots", "value"] ["base", "roots", "value"] (defScope sIsCode) := ⟨rfl, rfl, rfl, by decide +kernel, rfl, by decide +kernel, by decide +kernel⟩
theorem ok_iscode {f fB fR fC CN : Addr} {fd fdB fdR fdC : FuncData} (F : Fun K "is_code" "is_code" sIsCode f fd) (GB : FnOk P w K mg base (L2.CX P w) 4 fB fdB ["base"] (spReqB CN 2 5)) (cB : Cal K mg "require_base" fB fdB ["base"])
    (GR : FnOk P w K mg base (L2.CX P w) 4 fR fdR ["roots"] (spReqB CN 1 5000)) (cR : Cal K mg "require_roots" fR fdR ["roots"]) (GC : FnOk P w K mg base CX0 4 fC fdC ["base", "roots", "value"] spCodeForm) (cC : Cal K mg "has_code_form" fC fdC ["base", "roots", "value"]) :
    FnOk P w K mg base (L2.CX P w) 5 f fd ["base", "roots", "value"] spIsCode := by
  refine F.okX scIsCode (fun vs H Q E h => ?_) (fun cdv A outer s H vs Q E hr h => ?_)
  · obtain ⟨b, R, v, res, rfl, _⟩ := h
    rfl
  · obtain ⟨b, R, v, res, rfl, b2, b5, r1, r5, cg, k⟩ := h
    refine ⟨_, pss_cons (ps_expr (pe_call GB hr rfl cB.mg cB.kp cB.b .nil (passes_call (takes_of rfl rfl rfl rfl) (fun _ _ _ _ h => h)) (pa_cons (pv 0) pa_nil)))
      (pss_cons (ps_expr (pe_call GR hr rfl cR.mg cR.kp cR.b .nil (passes_call (takes_of rfl rfl rfl rfl) (fun _ _ _ _ h => h)) (pa_cons (pv 1) pa_nil)))
      (pss_one (ps_ret (pe_call GC hr rfl cC.mg cC.kp cC.b .nil pass0 (pa_cons (pv 0) (pa_cons (pv 1) (pa_cons (pv 2) pa_nil))))))), ?_⟩
    refine ⟨_, rfl, _, _, rfl, .int _, fun _ => ?_, fun z => absurd z (by rw [within_b b2 b5]; decide)⟩
    refine ⟨_, rfl, _, _, rfl, .int _, fun _ => ?_, fun z => absurd z (by rw [within_r r1 r5]; decide)⟩
    exact ⟨_, rfl, _, rfl, _, rfl, b, R, v, res, rfl, b2, b5, cg, k⟩
theorem pf_right {H : Hp} {b R : Nat} {p : Addr} {e : Pf} (h : H p = some (pfO e)) (dg : Dg b e.2) (hl : e.2.length ≤ 9000) (hr : e.1 < R) : PF H b (R : Int) (.ref p) true := by
  have a1 : (withinV 0 ((R : Int) - 1) (.int (e.1 : Int)) && wordV b (.str (S e.2))) = true := by
    have a1 : withinV 0 ((R : Int) - 1) (.int (e.1 : Int)) = true := by
      show (decide ((0 : Int) ≤ (e.1 : Int)) && decide ((e.1 : Int) ≤ (R : Int) - 1)) = true
      rw [decide_eq_true (by omega), decide_eq_true (by omega)]
      rfl
    rw [a1, wordV_of fun c hc => by have := dg c hc; omega]
    rfl
  rw [← a1]
  exact .fin h (fun _ => .int _) (fun _ => .str _ (by rw [S_len]; exact hl))
theorem scReqPfxs : FnScope ["base", "roots", "prefixes", "prefix"] ["base", "roots", "prefixes"] (defScope sReqPfxs) := ⟨rfl, rfl, rfl, by decide +kernel, rfl, by decide +kernel, by decide +kernel⟩
theorem ok_reqpfxs {f fP CX : Addr} {fd fdP : FuncData} (F : Fun K "require_prefixes" "require_prefixes" sReqPfxs f fd) (GP : FnOk P w K mg base (L2.CX P w) 4 fP fdP ["base", "roots", "prefix"] (spReqPfx CX)) (cP : Cal K mg "require_prefix" fP fdP ["base", "roots", "prefix"])
    (TX : PfxTxt K mg "InvalidPrefix" CX) (N : Nm mg) : FnOk P w K mg base CX0 5 f fd ["base", "roots", "prefixes"] spReqPfxs := by
  refine F.ok scReqPfxs (fun vs H Q E h => ?_) (fun cdv A outer s H vs Q E hr h => ?_)
  · obtain ⟨b, R, M, a, L, rfl, _⟩ := h
    rfl
  · obtain ⟨b, R, M, a, L, rfl, b2, b5, row, hM, k⟩ := h
    have nd := scReqPfxs.nd
    refine ⟨_, pss_cons (ps_if (pt_not (pt_val (pe_callB call_isi (by rfl) N.isinst PyProof.Rows.boot_isinstance (pa_cons (pv 2) (pa_cons (pe_bltn (v := .ty "tuple") (by rfl) N.tuple PyProof.Rows.boot_tuple rfl) pa_nil)))))
        (pss_one (ps_raise rfl takes0 (pmk_own PySem.F.excBase_ValueError TX.ex TX.g TX.kp (raises_own TX.bs TX.ty) rfl))) pss_nil)
      (pss_one (ps_for PassesOwn.never rfl (pi_tup (pv 2)) (pg_name (i := 3) nd rfl (.inl rfl))
        (pss_one (ps_expr (pe_call GP hr rfl cP.mg cP.kp cP.b .nil (passes_call takes0 (fun _ _ _ _ h => h)) (pa_cons (pv 0) (pa_cons (pv 1) (pa_cons (pv 3) pa_nil)))))))), ?_⟩
    refine ⟨_, rfl, _, _, _, _, true, rfl, .ty "tuple", (Pl.tup row.at_).tyx, kit_ty (by decide +kernel), _, rfl, ?_⟩
    refine iteF ?_
    refine ⟨_, rfl, a, rfl, ⟨_, SqT.of row.at_⟩, for_tup (xs := prefs L) (fun i σ Hx => ∃ u : Option V, σ = [some (.int (b : Int)), some (.int (R : Int)), some (.ref a), u] ∧ Hx = H) ⟨none, rfl, rfl⟩ ?_ ?_ ?_⟩
    · rintro i σ Hx _ ⟨u, rfl, rfl⟩
      exact SqT.of row.at_
    · rintro i x σ Hx hx ⟨u, rfl, rfl⟩
      obtain ⟨e, he, rfl⟩ : ∃ e, L[i]? = some e ∧ x = .ref e.1 := by
        rw [List.getElem?_map] at hx
        cases z : L[i]? with
        | none => rw [z] at hx; cases hx
        | some y => rw [z] at hx; cases hx; exact ⟨y, rfl, rfl⟩
      have em := List.mem_of_getElem? he
      obtain ⟨g1, g2, g3⟩ := row.good e em
      exact ⟨_, rfl, _, rfl, _, rfl, b, (R : Int), _, true, rfl, b2, b5, pf_right g1 g2 (by omega) (row.rt e em), fun _ => ⟨_, rfl, rfl⟩, fun z => by cases z⟩
    · rintro σ Hx ⟨u, rfl, rfl⟩
      exact k
end
end Vf


set_option Elab.async false
set_option maxRecDepth 100000
set_option maxHeartbeats 8000000
set_option exponentiation.threshold 3000
/-! Codes made of prefixes in any order. -/
namespace Vf
open PySem L2 SX
def kP (e : Pf) : Int × Str := ((e.1 : Int), S e.2)
theorem perm_lift {α β : Type} (f : α → β) : ∀ (L : List α) {ys : List β}, ys.Perm (L.map f) → ∃ L' : List α, L'.Perm L ∧ L'.map f = ys
  | [], ys, h => ⟨[], List.Perm.refl _, (List.Perm.eq_nil h).symm⟩
  | x :: L, ys, h => by
    have m : f x ∈ ys := h.mem_iff.mpr List.mem_cons_self
    obtain ⟨a, b, rfl⟩ := List.append_of_mem m
    have h2 : (a ++ b).Perm (L.map f) := (List.perm_middle.symm.trans h).cons_inv
    obtain ⟨L', p, e⟩ := perm_lift f L h2
    refine ⟨L'.take a.length ++ x :: L'.drop a.length, ?_, ?_⟩
    · refine List.perm_middle.trans ((List.Perm.cons x ?_))
      rw [List.take_append_drop]
      exact p
    · rw [List.map_append, List.map_cons, List.map_take, List.map_drop, e, List.take_left, List.drop_left]
/-- what a place tells -/
def keyAt (H : Hp) : V → Int × Str
  | .ref c => match H c with
    | some (.tup [.int i, .str s]) => (i, s)
    | _ => (0, "")
  | _ => (0, "")
theorem keyAt_of {H : Hp} {c : Addr} {i : Int} {s : Str} (h : H c = some (.tup [.int i, .str s])) : keyAt H (.ref c) = (i, s) := by
  unfold keyAt
  simp only [h]
def SrtP (L : List Pf) : Prop := SrtO.Srtd VG.lexS (L.map kP)
theorem lexS_anti {p q : Int × Str} (h1 : VG.lexS p q = false) (h2 : VG.lexS q p = false) : p = q := by
  have a := VG.lexS_no.mp h1
  have b := VG.lexS_no.mp h2
  have e1 : p.1 = q.1 := by
    rcases Int.lt_trichotomy p.1 q.1 with z | z | z
    · exact absurd (.inl z) a
    · exact z
    · exact absurd (.inl z) b
  have c1 : ¬ p.2.cps.toList < q.2.cps.toList := fun z => a (.inr ⟨e1, z⟩)
  have c2 : ¬ q.2.cps.toList < p.2.cps.toList := fun z => b (.inr ⟨e1.symm, z⟩)
  have e2 : p.2.cps.toList = q.2.cps.toList := List.le_antisymm (List.not_lt.mp c2) (List.not_lt.mp c1)
  obtain ⟨i, ⟨u⟩⟩ := p
  obtain ⟨j, ⟨v⟩⟩ := q
  have e3 : u = v := Array.toList_inj.mp e2
  have e1' : i = j := e1
  rw [e1', e3]
theorem key_uniq : ∀ {l m : List (Int × Str)}, SrtO.Srtd VG.lexS l → SrtO.Srtd VG.lexS m → l.Perm m → l = m
  | [], m, _, _, h => (List.Perm.eq_nil h.symm).symm
  | x :: l, [], _, _, h => absurd h.length_eq (by simp)
  | x :: l, y :: m, hl, hm, h => by
    have O := VG.swo_lexS (α := Int × Str) id
    have h1 : VG.lexS x y = false := by
      rcases List.mem_cons.mp (h.mem_iff.mp (List.mem_cons_self (a := x) (l := l))) with e | hx
      · rw [e]
        exact O.refl y
      · exact SrtO.srtd_head hm x hx
    have h2 : VG.lexS y x = false := by
      rcases List.mem_cons.mp (h.mem_iff.mpr (List.mem_cons_self (a := y) (l := m))) with e | hy
      · rw [e]
        exact O.refl x
      · exact SrtO.srtd_head hl y hy
    have e := lexS_anti h1 h2
    subst e
    rw [key_uniq (List.pairwise_cons.mp hl).2 (List.pairwise_cons.mp hm).2 h.cons_inv]
theorem kP_inj {a b : Pf} (h : kP a = kP b) : a = b := by
  obtain ⟨r, x⟩ := a
  obtain ⟨q, y⟩ := b
  have h1 : (r : Int) = q := congrArg Prod.fst h
  have h2 : S x = S y := congrArg Prod.snd h
  have h3 : x = y := by
    have := congrArg (fun s : Str => s.cps.toList) h2
    simpa using this
  rw [h3, show r = q by omega]
theorem map_inj {α β : Type} {f : α → β} (i : ∀ a b, f a = f b → a = b) : ∀ {l m : List α}, l.map f = m.map f → l = m
  | [], [], _ => rfl
  | [], _ :: _, h => by cases h
  | _ :: _, [], h => by cases h
  | x :: l, y :: m, h => by
    rw [List.map_cons, List.map_cons] at h
    injection h with h1 h2
    rw [i _ _ h1, map_inj i h2]
/-- a sorted row is told by what it holds -/
theorem srt_uniq {l m : List Pf} (a : SrtP l) (b : SrtP m) (p : l.Perm m) : l = m := map_inj (fun _ _ => kP_inj) (key_uniq a b (p.map kP))
def codeB (b R N : Nat) (L : List Pf) : Bool := decide (L.length ≤ 5000) && covT b N R 0 0 L
def spCodeFrom (CI : Addr) : Sp := fun vs H Q E => ∃ (b R N : Nat) (a : Addr) (L : Pr), vs = [.int (b : Int), .int (R : Int), .ref a] ∧ 2 ≤ b ∧ b ≤ 5 ∧ 1 ≤ R ∧ R ≤ 5000 ∧ Row b R N H a L ∧ N ≤ 1000 ∧
  ∀ (L' : Pr) (p : Addr) (H' : Hp), SrtP (pfs L') → L'.Perm L → Same H H' → Row b R N H' p L' → H p = none → (codeB b R N (pfs L') = true → Q (.ref p) H') ∧ (codeB b R N (pfs L') = false → E (.ref CI) none H')
theorem srtd_of_map {f : V → Int × Str} : ∀ {ys : List V}, SrtO.Srtd (VG.ltS f) ys → SrtO.Srtd VG.lexS (ys.map f) := fun {ys} h => List.pairwise_map.mpr h
section
variable {P : Program} {w : World} {K : PySem.W.Frag} {mg : Str → Option Value} {base : Heap}
theorem scRootCode : FnScope ["roots", "root"] ["roots"] (defScope sRootCode) := ⟨rfl, rfl, rfl, by decide +kernel, rfl, by decide +kernel, by decide +kernel⟩
theorem ok_rootcode {f fR CN : Addr} {fd fdR : FuncData} (F : Fun K "root_code" "root_code" sRootCode f fd) (GR : FnOk P w K mg base (L2.CX P w) 4 fR fdR ["roots"] (spReqB CN 1 5000)) (cR : Cal K mg "require_roots" fR fdR ["roots"]) (N : Nm mg) (nr : mg "range" = none) :
    FnOk P w K mg base CX0 5 f fd ["roots"] spRootCode := by
  refine F.ok scRootCode (fun vs H Q E h => ?_) (fun cdv A outer s H vs Q E hr h => ?_)
  · obtain ⟨R, rfl, _⟩ := h
    rfl
  · obtain ⟨R, rfl, r1, r5, k⟩ := h
    have nd := scRootCode.nd
    have eem : ("" : Str) = S [] := by decide +kernel
    refine ⟨_, pss_cons (ps_expr (pe_call GR hr rfl cR.mg cR.kp cR.b .nil (passes_call takes0 (fun _ _ _ _ h => h)) (pa_cons (pv 0) pa_nil)))
      (pss_one (ps_ret (pe_callTy call_tuple_of (by rfl) N.tuple PyProof.Rows.boot_tuple (pa_cons (pe_lc (own := [("root", 1)]) (g := gName 1) rfl nd (pi_range1 rfl nr (pa_cons (pv 0) pa_nil))
          (blkOk_by (N := ["roots", "root"]) (sc := defScope sRootCode) (by decide +kernel)) (fun _ _ _ _ _ => pg_name (i := 1) nd rfl (Or.inl rfl))
          (fun _ _ _ _ _ => pts_nil) (fun _ _ _ _ _ => pe_tup (pa_cons (pv 1) (pa_cons pe_str pa_nil)))) pa_nil)))), ?_⟩
    refine ⟨_, rfl, _, _, rfl, .int _, fun _ => ?_, fun z => absurd z (by rw [within_r r1 r5]; decide)⟩
    refine ⟨_, rfl, _, rfl, by omega, by omega, fun D hD => ?_⟩
    refine lc_range (n := R) (fun i Hy => ∃ L : Pr, pfs L = (List.range i).map (fun r => (r, [])) ∧ Hy D = some (.lst (prefs L)) ∧ (∀ e ∈ L, Hy e.1 = some (pfO e.2)) ∧ ∀ c o, H c = some o → Hy c = some o) ?_ ?_ ?_
    · exact ⟨[], rfl, upd_same, fun e he => (by cases he), fun c o e => by rw [upd_ne (ne_of_none e hD)]; exact e⟩
    · rintro i Hy hi ⟨L, e1, e2, e3, e4⟩
      have lL : L.length = i := by
        have z := congrArg List.length e1
        rw [List.length_map, List.length_map, List.length_range] at z
        exact z
      refine ⟨rfl, ?_⟩
      refine ⟨_, rfl, (by show 2 ≤ sizeLine; decide), fun t nt => ?_⟩
      have nD : D ≠ t := ne_of_none e2 nt
      refine ⟨_, by rw [upd_ne nD]; exact e2, ?_, L ++ [(t, (i, []))], ?_, ?_, fun z hz => ?_, fun c o ec => ?_⟩
      · rw [List.length_map, lL]
        exact Nat.lt_of_lt_of_le (show i < 6000 by omega) (by decide)
      · rw [show pfs (L ++ [(t, (i, []))]) = pfs L ++ [(i, [])] from List.map_append, e1, List.range_succ, List.map_append]
        rfl
      · rw [upd_same]
        show some (HO.lst (prefs L ++ [V.ref t])) = some (HO.lst (prefs (L ++ [(t, (i, []))])))
        rw [show prefs (L ++ [(t, (i, []))]) = prefs L ++ [V.ref t] from List.map_append]
      · rcases List.mem_append.mp hz with y | y
        · have g := e3 z y
          rw [upd_ne (fun w => by rw [w, e2] at g; cases g), upd_ne (ne_of_none g nt)]
          exact g
        · rw [List.mem_singleton.mp y, upd_ne nD.symm, upd_same]
          show some (HO.tup [.int (0 + (i : Int)), .str ""]) = some (HO.tup [.int (i : Int), .str (S [])])
          rw [eem, Int.zero_add]
      · rw [upd_ne (ne_of_none ec hD), upd_ne (ne_of_none (e4 _ _ ec) nt)]
        exact e4 _ _ ec
    · rintro Hy ⟨L, e1, e2, e3, e4⟩
      refine ⟨D, _, rfl, .inl ⟨SqL.of e2, fun p hp => ?_⟩⟩
      have sp : Same Hy (upd Hy p (.tup (prefs L))) := same_new' hp
      have np : H p = none := by
        cases z : H p with
        | none => rfl
        | some o => rw [e4 _ _ z] at hp; cases hp
      exact k L p _ e1 (fun _ _ e => sp _ _ (e4 _ _ e)) (fun e he => sp _ _ (e3 e he)) upd_same np
end
end Vf


set_option Elab.async false
set_option maxRecDepth 100000
set_option maxHeartbeats 8000000
set_option exponentiation.threshold 3000
/-! code_from. -/
namespace Vf
open PySem L2 SX
section
variable {P : Program} {w : World} {K : PySem.W.Frag} {mg : Str → Option Value} {base : Heap}
theorem row_cg {b R N : Nat} {H : Hp} {a : Addr} {L : Pr} (r : Row b R N H a L) (hN : N ≤ 9000) : CG H b R (.ref a) (codeB b R N (pfs L)) := by
  unfold codeB
  rw [List.length_map]
  rcases Nat.lt_or_ge 5000 L.length with c | c
  · rw [decide_eq_false (by omega), Bool.false_and]
    exact .big r.at_ (by rw [List.length_map]; exact c)
  · rw [decide_eq_true c, Bool.true_and]
    exact .fin r.at_ c r.good hN r.rt
theorem scCodeFrom : FnScope ["base", "roots", "prefixes", "code"] ["base", "roots", "prefixes"] (defScope sCodeFrom) := ⟨rfl, rfl, rfl, by decide +kernel, rfl, by decide +kernel, by decide +kernel⟩
theorem ok_codefrom {f fB fR fP fC CN CI : Addr} {fd fdB fdR fdP fdC : FuncData} (F : Fun K "code_from" "code_from" sCodeFrom f fd) (GB : FnOk P w K mg base (L2.CX P w) 4 fB fdB ["base"] (spReqB CN 2 5)) (cB : Cal K mg "require_base" fB fdB ["base"])
    (GR : FnOk P w K mg base (L2.CX P w) 4 fR fdR ["roots"] (spReqB CN 1 5000)) (cR : Cal K mg "require_roots" fR fdR ["roots"]) (GP : FnOk P w K mg base CX0 5 fP fdP ["base", "roots", "prefixes"] spReqPfxs) (cP : Cal K mg "require_prefixes" fP fdP ["base", "roots", "prefixes"])
    (GC : FnOk P w K mg base CX0 4 fC fdC ["base", "roots", "value"] spCodeForm) (cC : Cal K mg "has_code_form" fC fdC ["base", "roots", "value"]) (TI : PfxTxt K mg "InvalidCode" CI) (N : Nm mg) (mso : mg "sorted" = none) :
    FnOk P w K mg base (L2.CX P w) 6 f fd ["base", "roots", "prefixes"] (spCodeFrom CI) := by
  refine F.okX scCodeFrom (fun vs H Q E h => ?_) (fun cdv A outer s H vs Q E hr h => ?_)
  · obtain ⟨b, R, M, a, L, rfl, _⟩ := h
    rfl
  · obtain ⟨b, R, M, a, L, rfl, b2, b5, r1, r5, row, hM, k⟩ := h
    have nd := scCodeFrom.nd
    have hr4 := hr.mono (show 4 ≤ 5 by decide)
    refine ⟨_, pss_cons (ps_expr (pe_call GB hr4 rfl cB.mg cB.kp cB.b .nil (passes_call takes0 (fun _ _ _ _ h => h)) (pa_cons (pv 0) pa_nil)))
      (pss_cons (ps_expr (pe_call GR hr4 rfl cR.mg cR.kp cR.b .nil (passes_call takes0 (fun _ _ _ _ h => h)) (pa_cons (pv 1) pa_nil)))
      (pss_cons (ps_expr (pe_call GP hr rfl cP.mg cP.kp cP.b .nil pass0 (pa_cons (pv 0) (pa_cons (pv 1) (pa_cons (pv 2) pa_nil)))))
      (pss_cons (ps_set (i := 3) nd rfl (.inl rfl) (pe_callTy call_tuple_of (by rfl) N.tuple PyProof.Rows.boot_tuple (pa_cons (pe_callB VG.cr_sortedIST (by rfl) mso PyProof.Rows.boot_sorted (pa_cons (pv 2) pa_nil)) pa_nil)))
      (pss_cons (ps_if (pt_not (pt_val (pe_call GC hr4 rfl cC.mg cC.kp cC.b .nil pass0 (pa_cons (pv 0) (pa_cons (pv 1) (pa_cons (pv 3) pa_nil))))))
        (pss_one (ps_raise rfl (takes_of rfl rfl rfl rfl) (pmk_own PySem.F.excBase_ValueError TI.ex TI.g TI.kp (raises_own TI.bs TI.ty) rfl))) pss_nil)
      (pss_one (ps_ret (pv 3))))))), ?_⟩
    refine ⟨_, rfl, _, _, rfl, .int _, fun _ => ?_, fun z => absurd z (by rw [within_b b2 b5]; decide)⟩
    refine ⟨_, rfl, _, _, rfl, .int _, fun _ => ?_, fun z => absurd z (by rw [within_r r1 r5]; decide)⟩
    refine ⟨_, rfl, _, rfl, _, rfl, b, R, M, a, L, rfl, b2, b5, row, hM, ?_⟩
    refine ⟨_, rfl, a, prefs L, keyAt H, rfl, SqT.of row.at_, fun x hx => ?_, fun ys l hs hb nl => ?_⟩
    · obtain ⟨e, he, rfl⟩ := List.mem_map.mp hx
      have g := (row.good e he).1
      refine ⟨e.1, rfl, ?_⟩
      rw [keyAt_of g]
      exact g
    · obtain ⟨L', pm, ey⟩ := perm_lift (fun e : Addr × Pf => V.ref e.1) L hb.perm
      subst ey
      have s1 : Same H (upd H l (.lst (prefs L'))) := same_new' nl
      have g1 : upd H l (.lst (prefs L')) l = some (.lst (prefs L')) := upd_same
      generalize upd H l (.lst (prefs L')) = H1 at s1 g1 ⊢
      refine ⟨l, _, rfl, .inl ⟨SqL.of g1, fun p hp => ?_⟩⟩
      have s2 : Same H1 (upd H1 p (.tup (prefs L'))) := same_new' hp
      have g2 : upd H1 p (.tup (prefs L')) p = some (.tup (prefs L')) := upd_same
      have np : H p = none := by
        cases z : H p with
        | none => rfl
        | some o => rw [s1 _ _ z] at hp; cases hp
      generalize upd H1 p (.tup (prefs L')) = H2 at s2 g2 ⊢
      have S12 : Same H H2 := fun _ _ e => s2 _ _ (s1 _ _ e)
      have row' : Row b R M H2 p L' := ⟨g2, fun e he => ⟨S12 _ _ (row.good e (pm.mem_iff.mp he)).1, (row.good e (pm.mem_iff.mp he)).2⟩, by rw [pm.length_eq]; exact row.len, fun e he => row.rt e (pm.mem_iff.mp he)⟩
      have srt : SrtP (pfs L') := by
        have z := srtd_of_map hs
        have e : (prefs L').map (keyAt H) = (pfs L').map kP := by
          rw [List.map_map, List.map_map]
          refine List.map_congr_left fun e he => ?_
          exact keyAt_of (row.good e (pm.mem_iff.mp he)).1
        rw [e] at z
        exact z
      refine ⟨_, rfl, _, rfl, _, rfl, b, R, _, _, rfl, b2, b5, row_cg row' (by omega), fun H3 s3 => ⟨_, rfl, ?_⟩⟩
      have S13 : Same H H3 := fun _ _ e => s3 _ _ (S12 _ _ e)
      obtain ⟨k1, k2⟩ := k L' p H3 srt pm S13 (row'.same s3) np
      cases c : codeB b R M (pfs L') with
      | true =>
        refine iteF ?_
        exact ⟨_, rfl, k1 c⟩
      | false =>
        refine iteT ?_
        exact k2 c
end
end Vf


set_option Elab.async false
set_option maxRecDepth 100000
set_option maxHeartbeats 8000000
set_option exponentiation.threshold 3000
/-! The law's ways with prefixes. -/
namespace Vf
open PySem L2 SX
def kids (b : Nat) (e : Pf) : List Pf := (List.range b).map fun i => (e.1, e.2 ++ [48 + i])
def spLonger : Sp := fun vs H Q _ => ∃ (p : Addr) (e : Pf) (wd : List Nat), vs = [.ref p, .str (S wd)] ∧ H p = some (pfO e) ∧ e.2.length + wd.length ≤ 9000 ∧ ∀ t, H t = none → Q (.ref t) (upd H t (pfO (e.1, e.2 ++ wd)))
def spChildren : Sp := fun vs H Q _ => ∃ (b : Nat) (p : Addr) (e : Pf), vs = [.int (b : Int), .ref p] ∧ 2 ≤ b ∧ b ≤ 5 ∧ H p = some (pfO e) ∧ e.2.length ≤ 8000 ∧
  ∀ (L : Pr) (D : Addr) (H' : Hp), pfs L = kids b e → Same H H' → (∀ x ∈ L, H' x.1 = some (pfO x.2)) → H' D = some (.lst (prefs L)) → H D = none → Q (.ref D) H'
section
variable {P : Program} {w : World} {K : PySem.W.Frag} {mg : Str → Option Value} {base : Heap}
theorem scLonger : FnScope ["prefix", "word"] ["prefix", "word"] (defScope sLonger) := ⟨rfl, rfl, rfl, by decide +kernel, rfl, by decide +kernel, by decide +kernel⟩
theorem ok_longer {f : Addr} {fd : FuncData} (F : Fun K "_law_longer" "_law_longer" sLonger f fd) : FnOk P w K mg base CX0 1 f fd ["prefix", "word"] spLonger := by
  refine F.ok scLonger (fun vs H Q E h => ?_) (fun cdv A outer s H vs Q E hr h => ?_)
  · obtain ⟨p, e, wd, rfl, _⟩ := h
    rfl
  · obtain ⟨p, e, wd, rfl, hp, hl, k⟩ := h
    refine ⟨_, pss_one (ps_ret (pe_tup (pa_cons (pe_ix ix_tup (pv 0) pe_int (fun _ _ => rfl)) (pa_cons (pe_op op_add_str (pe_ix ix_tup (pv 0) pe_int (fun _ _ => rfl)) (pv 1)) pa_nil)))), ?_⟩
    refine ⟨_, rfl, p, _, _, _, rfl, rfl, SqT.of hp, rfl, _, rfl, p, _, _, _, rfl, rfl, SqT.of hp, rfl, _, rfl, _, _, rfl, rfl, ?_, (by show 2 ≤ sizeLine; decide), fun t nt => ?_⟩
    · rw [S_len, S_len]
      exact Nat.le_trans hl (by decide)
    · rw [S_cat]
      exact k t nt
theorem scChildren : FnScope ["base", "prefix", "digit"] ["base", "prefix"] (defScope sChildren) := ⟨rfl, rfl, rfl, by decide +kernel, rfl, by decide +kernel, by decide +kernel⟩
theorem digs_at {b i c : Nat} (b5 : b ≤ 5) (h : (digs b)[i]? = some c) : i < b ∧ c = 48 + i := by
  unfold digs at h
  rw [List.getElem?_take] at h
  by_cases hi : i < b
  · rw [if_pos hi] at h
    have e : i = 0 ∨ i = 1 ∨ i = 2 ∨ i = 3 ∨ i = 4 := by omega
    rcases e with e | e | e | e | e <;> subst e <;> exact ⟨hi, (Option.some.inj h).symm⟩
  · rw [if_neg hi] at h
    cases h
theorem digs_len {b : Nat} (b5 : b ≤ 5) : (digs b).length = b := by
  unfold digs
  rw [List.length_take]
  show min b 5 = b
  omega
theorem ok_children {f fL : Addr} {fd fdL : FuncData} (F : Fun K "_law_children" "_law_children" sChildren f fd) (GL : FnOk P w K mg base CX0 1 fL fdL ["prefix", "word"] spLonger) (cL : Cal K mg "_law_longer" fL fdL ["prefix", "word"]) :
    FnOk P w K mg base CX0 2 f fd ["base", "prefix"] spChildren := by
  refine F.ok scChildren (fun vs H Q E h => ?_) (fun cdv A outer s H vs Q E hr h => ?_)
  · obtain ⟨b, p, e, rfl, _⟩ := h
    rfl
  · obtain ⟨b, p, e, rfl, b2, b5, hp, hl, k⟩ := h
    have nd := scChildren.nd
    refine ⟨_, pss_one (ps_ret (pe_lc (own := [("digit", 2)]) (g := gName 2) rfl nd (pi_str (pe_slice sl_str pe_str po_none (po_some (pv 0))))
          (blkOk_by (N := ["base", "prefix", "digit"]) (sc := defScope sChildren) (by decide +kernel)) (fun _ _ _ _ _ => pg_name (i := 2) nd rfl (Or.inl rfl))
          (fun _ _ _ _ _ => pts_nil) (fun _ _ _ _ _ => pe_call GL hr rfl cL.mg cL.kp cL.b .nil pass0 (pa_cons (pv 1) (pa_cons (pv 2) pa_nil))))), ?_⟩
    have ed : cutS ("01234" : Str) none (some (b : Int)) = S (digs b) := by
      rw [s01234, cut_take (by simpa using b5)]
      rfl
    refine ⟨_, rfl, _, rfl, _, rfl, len5, ?_⟩
    rw [ed]
    refine ⟨_, rfl, fun D hD => ?_⟩
    refine lc_it (walk_str (z := S (digs b))) (fun i Hy => ∃ L : Pr, pfs L = (List.range i).map (fun i => (e.1, e.2 ++ [48 + i])) ∧ Hy D = some (.lst (prefs L)) ∧ (∀ x ∈ L, Hy x.1 = some (pfO x.2)) ∧ ∀ c o, H c = some o → Hy c = some o) ?_ (fun _ _ _ _ => True.intro) ?_ ?_
    · exact ⟨[], rfl, upd_same, fun x hx => (by cases hx), fun c o e => by rw [upd_ne (ne_of_none e hD)]; exact e⟩
    · rintro i x Hy H' hi ⟨L, e1, e2, e3, e4⟩ ⟨rfl, c, hc, rfl⟩
      obtain ⟨hi', rfl⟩ := digs_at b5 (show (digs b)[i]? = some c by simpa using hc)
      have lL : L.length = i := by
        have z := congrArg List.length e1
        rw [List.length_map, List.length_map, List.length_range] at z
        exact z
      refine ⟨rfl, _, rfl, _, rfl, p, e, [48 + i], rfl, e4 _ _ hp, by show e.2.length + 1 ≤ 9000; omega, fun t nt => ?_⟩
      have nD : D ≠ t := ne_of_none e2 nt
      refine ⟨_, by rw [upd_ne nD]; exact e2, ?_, L ++ [(t, (e.1, e.2 ++ [48 + i]))], ?_, ?_, fun z hz => ?_, fun c o ec => ?_⟩
      · rw [List.length_map, lL]
        exact Nat.lt_of_lt_of_le (show i < 6 by omega) (by decide)
      · rw [show pfs (L ++ [(t, (e.1, e.2 ++ [48 + i]))]) = pfs L ++ [(e.1, e.2 ++ [48 + i])] from List.map_append, e1, List.range_succ, List.map_append]
        rfl
      · rw [upd_same]
        show some (HO.lst (prefs L ++ [V.ref t])) = some (HO.lst (prefs (L ++ [(t, (e.1, e.2 ++ [48 + i]))])))
        rw [show prefs (L ++ [(t, (e.1, e.2 ++ [48 + i]))]) = prefs L ++ [V.ref t] from List.map_append]
      · rcases List.mem_append.mp hz with y | y
        · have g := e3 z y
          rw [upd_ne (fun w => by rw [w, e2] at g; cases g), upd_ne (ne_of_none g nt)]
          exact g
        · rw [List.mem_singleton.mp y, upd_ne nD.symm, upd_same]
      · rw [upd_ne (ne_of_none ec hD), upd_ne (ne_of_none (e4 _ _ ec) nt)]
        exact e4 _ _ ec
    · rintro Hy ⟨L, e1, e2, e3, e4⟩
      have el : (S (digs b)).cps.size = b := by
        show (digs b).toArray.size = b
        rw [List.size_toArray, digs_len b5]
      rw [el] at e1
      exact k L D Hy e1 e4 e3 e2 hD
end
end Vf


set_option Elab.async false
set_option maxRecDepth 100000
set_option maxHeartbeats 4000000
/-! Codes: rows in any order. -/
namespace Vf
open PySem L2 SX
def Disj (b N : Nat) (x y : Pf) : Prop := x.1 ≠ y.1 ∨ hi b N x.2 ≤ lo b N y.2 ∨ hi b N y.2 ≤ lo b N x.2
theorem Disj.symm {b N : Nat} {x y : Pf} (h : Disj b N x y) : Disj b N y x := by
  rcases h with h | h | h
  · exact .inl fun z => h z.symm
  · exact .inr (.inr h)
  · exact .inr (.inl h)
structure Leaf (b N R : Nat) (L : List Pf) : Prop where
  ok : ∀ e ∈ L, PfOk b N R e
  dj : L.Pairwise (Disj b N)
  tt : ∀ r, r < R → tot b N r L = b ^ N
theorem tot_app {b N r : Nat} : ∀ (A B : List Pf), tot b N r (A ++ B) = tot b N r A + tot b N r B
  | [], B => (Nat.zero_add _).symm
  | e :: A, B => by
    show (if e.1 = r then _ else 0) + tot b N r (A ++ B) = (if e.1 = r then _ else 0) + tot b N r A + tot b N r B
    rw [tot_app A B, Nat.add_assoc]
theorem tot_perm {b N r : Nat} {A B : List Pf} (h : A.Perm B) : tot b N r A = tot b N r B := by
  induction h with
  | nil => rfl
  | cons x _ ih =>
    show (if x.1 = r then _ else 0) + _ = (if x.1 = r then _ else 0) + _
    rw [ih]
  | swap x y l =>
    show (if y.1 = r then _ else 0) + ((if x.1 = r then _ else 0) + tot b N r l) = (if x.1 = r then _ else 0) + ((if y.1 = r then _ else 0) + tot b N r l)
    omega
  | trans _ _ h1 h2 => exact h1.trans h2
theorem Leaf.perm {b N R : Nat} {A B : List Pf} (h : Leaf b N R A) (p : A.Perm B) : Leaf b N R B :=
  ⟨fun e he => h.ok e (p.mem_iff.mpr he), p.pairwise h.dj fun h => h.symm, fun r hr => by rw [← tot_perm p]; exact h.tt r hr⟩
theorem leaf_root {b N R : Nat} : Leaf b N R ((List.range R).map fun r => (r, [])) := by
  refine ⟨fun e he => ?_, ?_, ?_⟩
  · obtain ⟨r, hr, rfl⟩ := List.mem_map.mp he
    exact ⟨List.mem_range.mp hr, fun c hc => (by cases hc), Nat.zero_le _⟩
  · rw [List.pairwise_map]
    exact List.pairwise_lt_range.imp fun h => .inl (Nat.ne_of_lt h)
  · have key : ∀ (n r : Nat), tot b N r ((List.range n).map fun r => (r, [])) = if r < n then b ^ N else 0 := fun n r => by
      induction n with
      | zero => rfl
      | succ n ih =>
        rw [List.range_succ, List.map_append, tot_app, ih]
        show _ + ((if n = r then b ^ (N - 0) else 0) + 0) = _
        rcases Nat.lt_trichotomy r n with c | c | c
        · rw [if_pos c, if_neg (by omega), if_pos (by omega)]
          omega
        · rw [if_neg (by omega), if_pos c.symm, if_pos (by omega), Nat.sub_zero]
          omega
        · rw [if_neg (by omega), if_neg (by omega), if_neg (by omega)]
    intro r hr
    rw [key, if_pos hr]
theorem kid_mem {b : Nat} {e x : Pf} (h : x ∈ kids b e) : ∃ i, i < b ∧ x = (e.1, e.2 ++ [48 + i]) := by
  obtain ⟨i, hi, rfl⟩ := List.mem_map.mp h
  exact ⟨i, List.mem_range.mp hi, rfl⟩
theorem kid_ok {b N R : Nat} {e x : Pf} (ok : PfOk b N R e) (hN : e.2.length < N) (h : x ∈ kids b e) : PfOk b N R x ∧ x.1 = e.1 ∧ lo b N e.2 ≤ lo b N x.2 ∧ hi b N x.2 ≤ hi b N e.2 := by
  obtain ⟨i, hi, rfl⟩ := kid_mem h
  have d : Dg b [48 + i] := fun c hc => by rw [List.mem_singleton.mp hc]; omega
  have l : (e.2 ++ [48 + i]).length ≤ N := by rw [List.length_append]; show e.2.length + 1 ≤ N; omega
  have z := in_app (b := b) (u := e.2) d l
  exact ⟨⟨ok.r, ok.dg.app d, l⟩, rfl, z.1, z.2⟩
theorem kids_tot {b N r : Nat} {e : Pf} (hN : e.2.length < N) : tot b N r (kids b e) = if e.1 = r then b ^ (N - e.2.length) else 0 := by
  have key : ∀ n, tot b N r ((List.range n).map fun i => (e.1, e.2 ++ [48 + i])) = if e.1 = r then n * b ^ (N - (e.2.length + 1)) else 0 := fun n => by
    induction n with
    | zero => show 0 = _; split <;> simp
    | succ n ih =>
      rw [List.range_succ, List.map_append, tot_app, ih]
      show _ + ((if e.1 = r then b ^ (N - (e.2 ++ [48 + n]).length) else 0) + 0) = _
      rw [show (e.2 ++ [48 + n]).length = e.2.length + 1 by simp]
      by_cases c : e.1 = r
      · rw [if_pos c, if_pos c, if_pos c, Nat.add_mul, Nat.one_mul]
        rfl
      · rw [if_neg c, if_neg c, if_neg c]
  unfold kids
  rw [key]
  by_cases c : e.1 = r
  · rw [if_pos c, if_pos c, show N - e.2.length = N - (e.2.length + 1) + 1 by omega, Nat.pow_succ, Nat.mul_comm]
  · rw [if_neg c, if_neg c]
theorem Leaf.split {b N R : Nat} {A B : List Pf} {e : Pf} (h : Leaf b N R (A ++ e :: B)) (hN : e.2.length < N) : Leaf b N R (A ++ B ++ kids b e) := by
  have pm : (A ++ e :: B).Perm (e :: (A ++ B)) := List.perm_middle
  have h2 := h.perm pm
  have oke := h2.ok e List.mem_cons_self
  obtain ⟨d1, d2⟩ := List.pairwise_cons.mp h2.dj
  refine ⟨fun x hx => ?_, ?_, fun r hr => ?_⟩
  · rcases List.mem_append.mp hx with z | z
    · exact h2.ok x (List.mem_cons_of_mem _ z)
    · exact (kid_ok oke hN z).1
  · refine List.pairwise_append.mpr ⟨d2, ?_, fun x hx y hy => ?_⟩
    · unfold kids
      rw [List.pairwise_map]
      refine List.Pairwise.imp_of_mem (fun {i j} hi hj lt => ?_) List.pairwise_lt_range
      have hi' := List.mem_range.mp hi
      have hj' := List.mem_range.mp hj
      have dg : ∀ k, k < b → Dg b (e.2 ++ [48 + k]) := fun k hk => oke.dg.app fun c hc => by rw [List.mem_singleton.mp hc]; omega
      have ln : ∀ k, (e.2 ++ [48 + k]).length ≤ N := fun k => by rw [List.length_append]; show e.2.length + 1 ≤ N; omega
      exact .inr (.inl (part_lt (dg i hi') (dg j hj') (ln i) (ln j) (by omega)))
    · obtain ⟨_, k1, k2, k3⟩ := kid_ok oke hN hy
      rcases d1 x hx with z | z | z
      · exact .inl fun q => z (by rw [q, k1])
      · exact .inr (.inr (by omega))
      · exact .inr (.inl (by omega))
  · have z := h2.tt r hr
    rw [tot_app, kids_tot hN]
    have z : (if e.1 = r then b ^ (N - e.2.length) else 0) + tot b N r (A ++ B) = b ^ N := z
    omega
theorem chain_of_pairs {b N : Nat} : ∀ {L : List Pf}, L.Pairwise (Ord b N) → chainO b N L
  | [], _ => trivial
  | x :: L, h => (chain_of_pairs (List.pairwise_cons.mp h).2).mk (List.pairwise_cons.mp h).1
theorem Leaf.cov {b N R : Nat} (b0 : 0 < b) {L : List Pf} (h : Leaf b N R L) (s : SrtP L) : covT b N R 0 0 L = true := by
  refine (cov_iff b0 h.ok).mpr ⟨chain_of_pairs ?_, h.tt⟩
  have s' : L.Pairwise fun x y => VG.lexS (kP y) (kP x) = false := List.pairwise_map.mp s
  refine List.Pairwise.imp_of_mem (fun {x y} hx hy z => ?_) (List.pairwise_and_iff.mpr ⟨s', h.dj⟩)
  have no := VG.lexS_no.mp z.1
  have ox := h.ok x hx
  have oy := h.ok y hy
  have c0 : ¬ y.1 < x.1 := fun q => no (.inl (by show (y.1 : Int) < x.1; omega))
  rcases Nat.lt_or_ge x.1 y.1 with c | c
  · exact .inl c
  · have e : x.1 = y.1 := by omega
    refine .inr ⟨e, ?_⟩
    rcases z.2 with q | q | q
    · exact absurd e q
    · exact q
    · have bf := (before_iff b0 oy.dg ox.dg oy.le ox.le).mpr q
      exact absurd (.inr ⟨by show (y.1 : Int) = x.1; omega, by show (S y.2).cps.toList < (S x.2).cps.toList; simpa using bf.1⟩) no
end Vf


set_option Elab.async false
set_option maxRecDepth 100000
set_option maxHeartbeats 8000000
set_option exponentiation.threshold 3000
/-! A code drawn. -/
namespace Vf
open PySem L2 SX
/-- a row in a list -/
structure RowL (H : Hp) (D : Addr) (L : Pr) : Prop where
  at_ : H D = some (.lst (prefs L))
  good : ∀ e ∈ L, H e.1 = some (pfO e.2)
theorem RowL.add {Hy : Hp} {D t : Addr} {L : Pr} {e : Pf} (r : RowL Hy D L) (nt : Hy t = none) : RowL (upd (upd Hy t (pfO e)) D (.lst (prefs L ++ [.ref t]))) D (L ++ [(t, e)]) := by
  have nD : D ≠ t := ne_of_none r.at_ nt
  refine ⟨?_, fun z hz => ?_⟩
  · rw [upd_same]
    show some (HO.lst (prefs L ++ [V.ref t])) = some (HO.lst (prefs (L ++ [(t, e)])))
    rw [show prefs (L ++ [(t, e)]) = prefs L ++ [V.ref t] from List.map_append]
  · rcases List.mem_append.mp hz with y | y
    · have g := r.good z y
      rw [upd_ne (fun w => by rw [w, r.at_] at g; cases g), upd_ne (ne_of_none g nt)]
      exact g
    · rw [List.mem_singleton.mp y, upd_ne nD.symm, upd_same]
def spLCode : Sp := fun vs H Q _ => ∃ (a : Addr) (d : Int × Int × Int) (b R inner : Nat), vs = [.ref a, .int (b : Int), .int (R : Int), .int (inner : Int)] ∧ H a = some (.lst (dieL d)) ∧ DieOk d ∧ d.2.2 ≤ 980000000 ∧ 2 ≤ b ∧ b ≤ 5 ∧ 1 ≤ R ∧ R ≤ 100 ∧ inner ≤ 100 ∧
  ∀ (L : Pr) (p : Addr) (d' : Int × Int × Int) (H' : Hp), Leaf b inner R (pfs L) → SrtP (pfs L) → L.length = R + (b - 1) * inner → DieOk d' → d'.2.2 ≤ d.2.2 + 1 + 2 * (inner : Int) → Kp a H H' → H' a = some (.lst (dieL d')) → Row b R inner H' p L → p ≠ a → Q (.ref p) H'
section
variable {P : Program} {w : World} {K : PySem.W.Frag} {mg : Str → Option Value} {base : Heap}
theorem scLCode : FnScope ["die", "base", "wide", "inner", "found", "way", "turn", "at", "root"] ["die", "base", "wide", "inner"] (defScope sLCode) := ⟨rfl, rfl, rfl, by decide +kernel, rfl, by decide +kernel, by decide +kernel⟩
theorem ok_lcode {f fP fC : Addr} {fd fdP fdC : FuncData} (F : Fun K "_law_code" "_law_code" sLCode f fd) (GP : FnOk P w K mg base CX0 1 fP fdP ["die", "many"] spPull) (cP : Cal K mg "_law_pull" fP fdP ["die", "many"])
    (GC : FnOk P w K mg base CX0 2 fC fdC ["base", "prefix"] spChildren) (cC : Cal K mg "_law_children" fC fdC ["base", "prefix"]) (N : Nm mg) (nr : mg "range" = none) (nn : mg "min" = none) (mso : mg "sorted" = none) :
    FnOk P w K mg base CX0 3 f fd ["die", "base", "wide", "inner"] spLCode := by
  refine F.ok scLCode (fun vs H Q E h => ?_) (fun cdv A outer s H vs Q E hr h => ?_)
  · obtain ⟨a, d, b, R, inner, rfl, _⟩ := h
    rfl
  · obtain ⟨a, d, b, R, inner, rfl, ha, hd, hc, b2, b5, r1, r5, hi, k⟩ := h
    have nd := scLCode.nd
    have hr1 := hr.mono (show 1 ≤ 2 by decide)
    have eem : ("" : Str) = S [] := by decide +kernel
    refine ⟨_, pss_cons (ps_par (i := 4) (j := 5) rfl nd rfl rfl (by decide) rfl rfl (pa_cons (pe_lc (own := [("root", 8)]) (g := gName 8) rfl nd (pi_range1 rfl nr (pa_cons (pv 2) pa_nil))
          (blkOk_by (N := ["die", "base", "wide", "inner", "found", "way", "turn", "at", "root"]) (sc := defScope sLCode) (by decide +kernel)) (fun _ _ _ _ _ => pg_name (i := 8) nd rfl (Or.inl rfl))
          (fun _ _ _ _ _ => pts_nil) (fun _ _ _ _ _ => pe_tup (pa_cons (pv 8) (pa_cons pe_str pa_nil)))) (pa_cons (pe_call GP hr1 rfl cP.mg cP.kp cP.b .nil pass0 (pa_cons (pv 0) (pa_cons pe_int pa_nil))) pa_nil)) rfl)
      (pss_cons (ps_for PassesOwn.never rfl (pi_range1 rfl nr (pa_cons (pv 3) pa_nil)) (pg_name (i := 6) nd rfl (.inl rfl))
        (pss_cons (ps_set (i := 7) nd rfl (.inl rfl) (pe_ix ix_list (pe_lst (pa_cons (pe_call GP hr1 rfl cP.mg cP.kp cP.b .nil pass0 (pa_cons (pv 0) (pa_cons (pe_callB call_len_seq (by rfl) N.len boot_len (pa_cons (pv 4) pa_nil)) pa_nil)))
            (pa_cons (pe_op op_sub (pe_callB call_len_seq (by rfl) N.len boot_len (pa_cons (pv 4) pa_nil)) pe_int)
            (pa_cons (pe_op op_sub (pe_op op_sub (pe_callB call_len_seq (by rfl) N.len boot_len (pa_cons (pv 4) pa_nil)) pe_int) (pe_call GP hr1 rfl cP.mg cP.kp cP.b .nil pass0 (pa_cons (pv 0) (pa_cons (pe_callB (call_min2 rfl) (by rfl) nn PyProof.Rows.boot_min (pa_cons (pv 1) (pa_cons (pe_callB call_len_seq (by rfl) N.len boot_len (pa_cons (pv 4) pa_nil)) pa_nil))) pa_nil)))) pa_nil)))) (pv 5) (fun _ _ => rfl)))
        (pss_one (ps_set (i := 4) nd rfl (.inl rfl) (pe_op op_cat (pe_op op_cat (pe_slice sl_list (pv 4) po_none (po_some (pv 7))) (pe_slice sl_list (pv 4) (po_some (pe_op op_add (pv 7) pe_int)) po_none))
            (pe_call GC hr rfl cC.mg cC.kp cC.b .nil pass0 (pa_cons (pv 1) (pa_cons (pe_ix ix_list (pv 4) (pv 7) (fun _ _ => rfl)) pa_nil))))))))
      (pss_one (ps_ret (pe_callTy call_tuple_of (by rfl) N.tuple PyProof.Rows.boot_tuple (pa_cons (pe_callB VG.cr_sortedIS (by rfl) mso PyProof.Rows.boot_sorted (pa_cons (pv 4) pa_nil)) pa_nil))))), ?_⟩
    refine ⟨_, rfl, _, rfl, by omega, by omega, fun D hD => ?_⟩
    refine lc_range (n := R) (fun i Hy => ∃ L : Pr, pfs L = (List.range i).map (fun r => (r, [])) ∧ RowL Hy D L ∧ ∀ c o, H c = some o → Hy c = some o) ?_ ?_ ?_
    · exact ⟨[], rfl, ⟨upd_same, fun e he => (by cases he)⟩, fun c o e => by rw [upd_ne (ne_of_none e hD)]; exact e⟩
    · rintro i Hy hi ⟨L, e1, ⟨e2, e3⟩, e4⟩
      have lL : L.length = i := by
        have z := congrArg List.length e1
        rw [List.length_map, List.length_map, List.length_range] at z
        exact z
      refine ⟨rfl, ?_⟩
      refine ⟨_, rfl, (by show 2 ≤ sizeLine; decide), fun t nt => ?_⟩
      rw [Int.zero_add, eem]
      refine ⟨_, by rw [upd_ne (ne_of_none e2 nt)]; exact e2, ?_, L ++ [(t, (i, []))], ?_, RowL.add (e := (i, [])) ⟨e2, e3⟩ nt, fun c o ec => ?_⟩
      · rw [List.length_map, lL]
        exact Nat.lt_of_lt_of_le (show i < 6000 by omega) (by decide)
      · rw [show pfs (L ++ [(t, (i, []))]) = pfs L ++ [(i, [])] from List.map_append, e1, List.range_succ, List.map_append]
        rfl
      · rw [upd_ne (ne_of_none ec hD), upd_ne (ne_of_none (e4 _ _ ec) nt)]
        exact e4 _ _ ec
    · rintro Hy ⟨L0, e1, row0, e4⟩
      have ay := e4 _ _ ha
      have nDa : D ≠ a := (ne_of_none ha hD).symm
      refine ⟨_, rfl, a, d, _, rfl, ay, hd, by decide, by decide, by omega, fun way d1 hd1 hc1 w0 w3 => ?_⟩
      have w3 : way < 3 := w3
      have nA : ∀ {J : Hp} {c : Addr} {dd : Int × Int × Int} {x : List V}, J a = some (.lst (dieL dd)) → J c = some (.tup x) → c ≠ a := fun h1 h2 z => by rw [z, h1] at h2; cases h2
      have row1 : RowL (upd Hy a (.lst (dieL d1))) D L0 := ⟨by rw [upd_ne nDa]; exact row0.at_, fun e he => by rw [upd_ne (nA ay (row0.good e he))]; exact row0.good e he⟩
      have lL0 : L0.length = R := by
        have z := congrArg List.length e1
        rw [List.length_map, List.length_map, List.length_range] at z
        exact z
      refine ⟨_, _, rfl, ?_⟩
      refine ⟨_, rfl, _, rfl, by omega, by omega, for_range (n := inner) (fun i σ Hx => ∃ (u6 u7 u8 : Option V) (D' : Addr) (L : Pr) (dx : Int × Int × Int), σ = [some (.ref a), some (.int (b : Int)), some (.int (R : Int)), some (.int (inner : Int)), some (.ref D'), some (.int way), u6, u7, u8] ∧ Kp a H Hx ∧ Hx a = some (.lst (dieL dx)) ∧ DieOk dx ∧ dx.2.2 ≤ d.2.2 + 1 + 2 * (i : Int) ∧
          RowL Hx D' L ∧ D' ≠ a ∧ Leaf b inner R (pfs L) ∧ (∀ e ∈ L, e.2.2.length ≤ i) ∧ L.length = R + (b - 1) * i) ?_ ?_ ?_⟩
      · refine ⟨_, _, _, D, L0, d1, rfl, fun c o n e => by rw [upd_ne n]; exact e4 _ _ e, upd_same, hd1, by omega, row1, nDa, ?_, fun e he => ?_, by rw [lL0]; omega⟩
        · rw [e1]
          exact leaf_root
        · have z : e.2 ∈ pfs L0 := List.mem_map.mpr ⟨e, he, rfl⟩
          rw [e1] at z
          obtain ⟨r, _, z⟩ := List.mem_map.mp z
          rw [← z]
          exact Nat.zero_le _
      · rintro i σ Hx hi' ⟨u6, u7, u8, D', L, dx, rfl, kx, ax, hdx, hcx, row, nD', leaf, shrt, lL⟩
        have hi' : i < inner := hi'
        have big : (b - 1) * i ≤ 400 := Nat.le_trans (Nat.mul_le_mul (show b - 1 ≤ 4 by omega) (show i ≤ 100 by omega)) (by decide)
        have lR : (prefs L).length = L.length := List.length_map ..
        have sq := SqL.of (K := K) row.at_
        refine ⟨_, rfl, _, rfl, D', _, rfl, .inl sq, a, dx, _, rfl, ax, hdx, ?_, ?_, by omega, fun y0 d2 hd2 hc2 y00 y01 => ?_⟩
        · rw [lR]; omega
        · rw [lR]; omega
        rw [lR] at y01
        have y01 : y0 < (L.length : Int) := y01
        have k2 : Kp a H (upd Hx a (.lst (dieL d2))) := kx.trans Kp.upd
        have a2 : upd Hx a (.lst (dieL d2)) a = some (.lst (dieL d2)) := upd_same
        have row2 : RowL (upd Hx a (.lst (dieL d2))) D' L := ⟨by rw [upd_ne nD']; exact row.at_, fun e he => by rw [upd_ne (nA ax (row.good e he))]; exact row.good e he⟩
        generalize upd Hx a (.lst (dieL d2)) = J2 at k2 a2 row2 ⊢
        have sq2 := SqL.of (K := K) row2.at_
        refine ⟨_, rfl, D', _, rfl, .inl sq2, _, _, rfl, rfl, ?_⟩
        refine ⟨_, rfl, D', _, rfl, .inl sq2, _, _, rfl, rfl, _, rfl, _, rfl, _, rfl, D', _, rfl, .inl sq2, _, _, rfl, a, d2, _, rfl, a2, hd2, ?_, ?_, by omega, fun y1 d3 hd3 hc3 y10 y11 => ?_⟩
        · rw [lR]
          show 1 ≤ (if ((L.length : Nat) : Int) < (b : Int) then ((L.length : Nat) : Int) else (b : Int))
          split <;> omega
        · rw [lR]
          show (if ((L.length : Nat) : Int) < (b : Int) then ((L.length : Nat) : Int) else (b : Int)) ≤ 5000
          split <;> omega
        rw [lR] at y11
        have y11 : y1 < (if ((L.length : Nat) : Int) < (b : Int) then ((L.length : Nat) : Int) else (b : Int)) := y11
        have y12 : y1 < (L.length : Int) := by
          revert y11
          split <;> omega
        have k3 : Kp a H (upd J2 a (.lst (dieL d3))) := k2.trans Kp.upd
        have a3 : upd J2 a (.lst (dieL d3)) a = some (.lst (dieL d3)) := upd_same
        have row3 : RowL (upd J2 a (.lst (dieL d3))) D' L := ⟨by rw [upd_ne nD']; exact row2.at_, fun e he => by rw [upd_ne (nA a2 (row2.good e he))]; exact row2.good e he⟩
        generalize upd J2 a (.lst (dieL d3)) = J3 at k3 a3 row3 ⊢
        rw [lR]
        refine ⟨_, _, rfl, rfl, (by show 3 ≤ sizeLine; decide), fun l nl => ?_⟩
        obtain ⟨x, hx, x0, x1⟩ : ∃ x : Int, atI [V.int y0, .int ((L.length : Int) - 1), .int ((L.length : Int) - 1 - y1)] way = some (.int x) ∧ 0 ≤ x ∧ x < (L.length : Int) := by
          obtain rfl | rfl | rfl : way = 0 ∨ way = 1 ∨ way = 2 := by omega
          · exact ⟨_, rfl, y00, y01⟩
          · exact ⟨_, rfl, by omega, by omega⟩
          · exact ⟨_, rfl, by omega, by omega⟩
        have s4 : Same J3 (upd J3 l (.lst [.int y0, .int ((L.length : Int) - 1), .int ((L.length : Int) - 1 - y1)])) := same_new' nl
        have g4 : upd J3 l (.lst [.int y0, .int ((L.length : Int) - 1), .int ((L.length : Int) - 1 - y1)]) l = some (.lst [.int y0, .int ((L.length : Int) - 1), .int ((L.length : Int) - 1 - y1)]) := upd_same
        refine ⟨_, rfl, l, _, way, _, rfl, rfl, SqL.of g4, hx, ?_⟩
        generalize upd J3 l (.lst [.int y0, .int ((L.length : Int) - 1), .int ((L.length : Int) - 1 - y1)]) = J4 at s4 g4 ⊢
        obtain ⟨n, rfl⟩ := Int.eq_ofNat_of_zero_le x0
        have hn : n < L.length := by omega
        have rowS : ∀ {J J' : Hp}, RowL J D' L → Same J J' → RowL J' D' L := fun r s => ⟨s _ _ r.at_, fun e he => s _ _ (r.good e he)⟩
        have row4 := rowS row3 s4
        have a4 := s4 _ _ a3
        have k4 : Kp a H J4 := k3.trans (Kp.same s4)
        clear g4 s4 nl row3 a3 k3 row2 a2 k2 sq2
        refine ⟨_, rfl, _, rfl, _, rfl, D', _, rfl, SqL.of row4.at_, fun p1 n1 => ?_⟩
        rw [VG.cutV_take (by rw [lR]; omega)]
        have s5 : Same J4 (upd J4 p1 (.lst ((prefs L).take n))) := same_new' n1
        have g5 : upd J4 p1 (.lst ((prefs L).take n)) p1 = some (.lst ((prefs L).take n)) := upd_same
        generalize upd J4 p1 (.lst ((prefs L).take n)) = J5 at s5 g5 ⊢
        have row5 := rowS row4 s5
        refine ⟨_, rfl, _, rfl, _, _, rfl, rfl, _, rfl, D', _, rfl, SqL.of row5.at_, fun p2 n2 => ?_⟩
        rw [show ((n : Int) + 1) = ((n + 1 : Nat) : Int) by omega, VG.cutV_drop (by rw [lR]; omega)]
        have s6 : Same J5 (upd J5 p2 (.lst ((prefs L).drop (n + 1)))) := same_new' n2
        have g6 : upd J5 p2 (.lst ((prefs L).drop (n + 1))) p2 = some (.lst ((prefs L).drop (n + 1))) := upd_same
        generalize upd J5 p2 (.lst ((prefs L).drop (n + 1))) = J6 at s6 g6 ⊢
        refine ⟨p1, p2, _, _, rfl, rfl, s6 _ _ g5, g6, ?_, fun p3 n3 => ?_⟩
        · rw [List.length_take, List.length_drop, lR]
          exact Nat.le_trans (show min n L.length + (L.length - (n + 1)) ≤ 6000 by omega) (by decide)
        have s7 : Same J6 (upd J6 p3 (.lst ((prefs L).take n ++ (prefs L).drop (n + 1)))) := same_new' n3
        have g7 : upd J6 p3 (.lst ((prefs L).take n ++ (prefs L).drop (n + 1))) p3 = some (.lst ((prefs L).take n ++ (prefs L).drop (n + 1))) := upd_same
        generalize upd J6 p3 (.lst ((prefs L).take n ++ (prefs L).drop (n + 1))) = J7 at s7 g7 ⊢
        have row7 := rowS row5 fun _ _ e => s7 _ _ (s6 _ _ e)
        have S47 : Same J4 J7 := fun _ _ e => s7 _ _ (s6 _ _ (s5 _ _ e))
        have hLn : L[n]? = some L[n] := List.getElem?_eq_getElem hn
        have hrn : atI (prefs L) ((n : Nat) : Int) = some (.ref (L[n]).1) := atI_nat (by rw [List.getElem?_map, hLn]; rfl)
        have em : L[n] ∈ L := List.getElem_mem hn
        have gn := row7.good _ em
        have ln := shrt _ em
        refine ⟨_, rfl, _, rfl, _, rfl, D', _, _, _, rfl, rfl, SqL.of row7.at_, hrn, b, _, _, rfl, b2, b5, gn, by omega, fun Kd Dk H8 ek sk gk atk nk => ?_⟩
        have lK : Kd.length = b := by
          have z := congrArg List.length ek
          rw [List.length_map] at z
          rw [z]
          unfold kids
          rw [List.length_map, List.length_range]
        refine ⟨p3, Dk, _, _, rfl, rfl, sk _ _ g7, atk, ?_, fun p4 n4 => ?_⟩
        · rw [List.length_append, List.length_take, List.length_drop, lR, List.length_map, lK]
          exact Nat.le_trans (show min n L.length + (L.length - (n + 1)) + b ≤ 6000 by omega) (by decide)
        have eP : (prefs L).take n ++ (prefs L).drop (n + 1) ++ prefs Kd = prefs (L.take n ++ L.drop (n + 1) ++ Kd) := by
          simp only [prefs, List.map_append, List.map_take, List.map_drop]
        rw [eP]
        have s9 : Same H8 (upd H8 p4 (.lst (prefs (L.take n ++ L.drop (n + 1) ++ Kd)))) := same_new' n4
        have g9 : upd H8 p4 (.lst (prefs (L.take n ++ L.drop (n + 1) ++ Kd))) p4 = some (.lst (prefs (L.take n ++ L.drop (n + 1) ++ Kd))) := upd_same
        generalize upd H8 p4 (.lst (prefs (L.take n ++ L.drop (n + 1) ++ Kd))) = J9 at s9 g9 ⊢
        have S49 : Same J4 J9 := fun _ _ e => s9 _ _ (sk _ _ (S47 _ _ e))
        have a9 := S49 _ _ a4
        have split : L = L.take n ++ L[n] :: L.drop (n + 1) := by
          rw [List.getElem_cons_drop, List.take_append_drop]
        refine ⟨_, _, _, p4, _, d3, rfl, k4.trans (Kp.same S49), a9, hd3, by omega, ⟨g9, fun e he => ?_⟩, (ne_of_none (sk _ _ (S47 _ _ a4)) n4).symm, ?_, fun e he => ?_, ?_⟩
        · rcases List.mem_append.mp he with z | z
          · have mL : e ∈ L := by
              rcases List.mem_append.mp z with y | y
              · exact List.mem_of_mem_take y
              · exact List.mem_of_mem_drop y
            exact S49 _ _ (row4.good e mL)
          · exact s9 _ _ (gk e z)
        · have e1 : pfs L = pfs (L.take n) ++ (L[n]).2 :: pfs (L.drop (n + 1)) := by
            conv => lhs; rw [split]
            simp only [pfs, List.map_append, List.map_cons]
          rw [e1] at leaf
          have z := leaf.split (by omega)
          have e2 : pfs (L.take n ++ L.drop (n + 1) ++ Kd) = pfs (L.take n) ++ pfs (L.drop (n + 1)) ++ kids b (L[n]).2 := by
            simp only [pfs, List.map_append]
            rw [← ek]
          rw [e2]
          exact z
        · rcases List.mem_append.mp he with z | z
          · have mL : e ∈ L := by
              rcases List.mem_append.mp z with y | y
              · exact List.mem_of_mem_take y
              · exact List.mem_of_mem_drop y
            have := shrt e mL
            omega
          · have mk : e.2 ∈ kids b (L[n]).2 := by
              rw [← ek]
              exact List.mem_map.mpr ⟨e, z, rfl⟩
            obtain ⟨j, _, q⟩ := kid_mem mk
            rw [q, List.length_append]
            show (L[n]).2.2.length + 1 ≤ i + 1
            omega
        · rw [List.length_append, List.length_append, List.length_take, List.length_drop, lK, Nat.mul_succ]
          omega
      · rintro σ Hx ⟨u6, u7, u8, D', L, dx, rfl, kx, ax, hdx, hcx, row, nD', leaf, shrt, lL⟩
        have big : (b - 1) * inner ≤ 400 := Nat.le_trans (Nat.mul_le_mul (show b - 1 ≤ 4 by omega) (show inner ≤ 100 by omega)) (by decide)
        refine ⟨_, rfl, D', prefs L, keyAt Hx, rfl, SqL.of row.at_, fun x hx => ?_, fun ys l hs hb nl => ?_⟩
        · obtain ⟨e, he, rfl⟩ := List.mem_map.mp hx
          have g := row.good e he
          refine ⟨e.1, rfl, ?_⟩
          rw [keyAt_of g]
          exact g
        · obtain ⟨L', pm, ey⟩ := perm_lift (fun e : Addr × Pf => V.ref e.1) L hb.perm
          subst ey
          have s1 : Same Hx (upd Hx l (.lst (prefs L'))) := same_new' nl
          have g1 : upd Hx l (.lst (prefs L')) l = some (.lst (prefs L')) := upd_same
          generalize upd Hx l (.lst (prefs L')) = H1 at s1 g1 ⊢
          refine ⟨l, _, rfl, .inl ⟨SqL.of g1, fun p hp => ?_⟩⟩
          have s2 : Same H1 (upd H1 p (.tup (prefs L'))) := same_new' hp
          have g2 : upd H1 p (.tup (prefs L')) p = some (.tup (prefs L')) := upd_same
          generalize upd H1 p (.tup (prefs L')) = H2 at s2 g2 ⊢
          have S12 : Same Hx H2 := fun _ _ e => s2 _ _ (s1 _ _ e)
          have srt : SrtP (pfs L') := by
            have z := srtd_of_map hs
            have e : (prefs L').map (keyAt Hx) = (pfs L').map kP := by
              rw [List.map_map, List.map_map]
              refine List.map_congr_left fun e he => ?_
              exact keyAt_of (row.good e (pm.mem_iff.mp he))
            rw [e] at z
            exact z
          have leaf' : Leaf b inner R (pfs L') := leaf.perm (pm.symm.map _)
          have a2 := S12 _ _ ax
          refine k L' p dx H2 leaf' srt (by rw [pm.length_eq, lL]) hdx (by omega) (kx.trans (Kp.same S12)) a2 ⟨g2, fun e he => ?_, by rw [pm.length_eq, lL]; omega, fun e he => ?_⟩ (nA a2 g2)
          · have ok := leaf'.ok e.2 (List.mem_map.mpr ⟨e, he, rfl⟩)
            exact ⟨S12 _ _ (row.good e (pm.mem_iff.mp he)), ok.dg, ok.le⟩
          · exact (leaf'.ok e.2 (List.mem_map.mpr ⟨e, he, rfl⟩)).r
end
end Vf


set_option Elab.async false
set_option maxRecDepth 100000
set_option maxHeartbeats 8000000
set_option exponentiation.threshold 3000
/-! The law's own look at prefixes. -/
namespace Vf
open PySem L2 SX
open PySem.Builtin.Str PySem.StrLaws
def spLIsPfx : Sp := fun vs H Q _ => ∃ (b : Nat) (R : Int) (v : V) (res : Bool), vs = [.int (b : Int), .int R, v] ∧ 2 ≤ b ∧ b ≤ 5 ∧ PG H b R v res ∧ ∀ H', Same H H' → Q (.bl res) H'
section
variable {P : Program} {w : World} {K : PySem.W.Frag} {mg : Str → Option Value} {base : Heap}
theorem scIsWhole : FnScope ["value", "low", "high"] ["value", "low", "high"] (defScope sIsWhole) := ⟨rfl, rfl, rfl, by decide +kernel, rfl, by decide +kernel, by decide +kernel⟩
theorem ok_iswhole {f : Addr} {fd : FuncData} (F : Fun K "_law_is_whole" "_law_is_whole" sIsWhole f fd) (mi : mg "isinstance" = none) (m1 : mg "int" = none) (m2 : mg "bool" = none) : FnOk P w K mg base CX0 1 f fd ["value", "low", "high"] spIsCount := by
  refine F.ok scIsWhole (fun vs H Q E h => ?_) (fun cdv A outer s H vs Q E hr h => ?_)
  · obtain ⟨lo, hi, v, t, rfl, _⟩ := h
    rfl
  · obtain ⟨lo, hi, v, t, rfl, pl, k⟩ := h
    refine ⟨_, pss_one (ps_ret (pe_and (pe_callB call_isi (by rfl) mi PyProof.Rows.boot_isinstance (pa_cons (pv 0) (pa_cons (pe_bltn (v := .ty "int") (by rfl) m1 PyProof.Rows.boot_int rfl) pa_nil)))
      (pe_and (pe_not (pe_callB call_isi (by rfl) mi PyProof.Rows.boot_isinstance (pa_cons (pv 0) (pa_cons (pe_bltn (v := .ty "bool") (by rfl) m2 PyProof.Rows.boot_bool rfl) pa_nil))))
      (pe_one (pe_chain op_le op_le (pv 1) (pv 0) (pv 2)))))), ?_⟩
    obtain ⟨b1, b2, e1, e2, e3⟩ := kit_int (K := K) pl
    refine ⟨_, rfl, _, _, _, _, b1, rfl, .ty "int", pl.tyx, e1, _, rfl, ?_⟩
    cases b1 with
    | false =>
      refine iteF ?_
      have : withinV lo hi v = false := by
        cases v with
        | int n => cases e3
        | _ => rfl
      rw [this] at k
      exact k
    | true =>
      refine iteT ?_
      refine ⟨_, rfl, _, _, _, _, b2, rfl, .ty "bool", pl.tyx, e2, _, rfl, _, rfl, ?_⟩
      cases b2 with
      | true =>
        refine iteF ?_
        have : withinV lo hi v = false := by
          cases v with
          | int n => cases e3
          | _ => rfl
        rw [this] at k
        exact k
      | false =>
        refine iteT ?_
        cases v with
        | int n =>
          refine ⟨_, rfl, _, rfl, _, _, rfl, rfl, _, rfl, ?_⟩
          by_cases h1 : lo ≤ n
          · refine iteTB (decide_eq_true h1) ?_
            refine ⟨_, rfl, _, _, rfl, rfl, ?_⟩
            have e : withinV lo hi (.int n) = decide (n ≤ hi) := by
              show (decide (lo ≤ n) && decide (n ≤ hi)) = _
              rw [decide_eq_true h1, Bool.true_and]
            rw [e] at k
            exact k
          · refine iteFB (decide_eq_false h1) ?_
            have e : withinV lo hi (.int n) = false := by
              show (decide (lo ≤ n) && decide (n ≤ hi)) = _
              rw [decide_eq_false h1, Bool.false_and]
            rw [e] at k
            exact k
        | _ => cases e3
theorem scLIsPfx : FnScope ["base", "wide", "value", "letter"] ["base", "wide", "value"] (defScope sLIsPfx) := ⟨rfl, rfl, rfl, by decide +kernel, rfl, by decide +kernel, by decide +kernel⟩
theorem ok_lispfx {f fC : Addr} {fd fdC : FuncData} (F : Fun K "_law_is_prefix" "_law_is_prefix" sLIsPfx f fd) (GC : FnOk P w K mg base CX0 1 fC fdC ["value", "low", "high"] spIsCount) (cC : Cal K mg "_law_is_whole" fC fdC ["value", "low", "high"])
    (N : Nm mg) : FnOk P w K mg base CX0 2 f fd ["base", "wide", "value"] spLIsPfx := by
  refine F.ok scLIsPfx (fun vs H Q E h => ?_) (fun cdv A outer s H vs Q E hr h => ?_)
  · obtain ⟨b, R, v, res, rfl, _⟩ := h
    rfl
  · obtain ⟨b, R, v, res, rfl, b2, b5, pg, k⟩ := h
    have nd := scLIsPfx.nd
    have hun := Nat.lt_of_le_of_lt (Nat.le_add_right _ 64) hr.units
    have k0 := k H (Same.refl H)
    refine ⟨_, pss_cons (ps_if (PW.pt (pw_or (pt_not (pt_val (pe_callB call_isi (by rfl) N.isinst PyProof.Rows.boot_isinstance (pa_cons (pv 2) (pa_cons (pe_bltn (v := .ty "tuple") (by rfl) N.tuple PyProof.Rows.boot_tuple rfl) pa_nil)))))
        (pw_or (pt_cmpR op_ne (pe_callB call_len_seq (by rfl) N.len boot_len (pa_cons (pv 2) pa_nil)) pe_int (nomark _))
        (pw_or1 (pt_not (pt_val (pe_call GC hr rfl cC.mg cC.kp cC.b .nil pass0 (pa_cons (pe_ix ix_tup (pv 2) pe_int (fun _ _ => rfl)) (pa_cons pe_int (pa_cons (pe_op op_sub (pv 1) pe_int) pa_nil)))))))))) (pss_one (ps_ret pe_bl)) pss_nil)
      (pss_one (ps_ret (pe_and (pe_callB call_isi (by rfl) N.isinst PyProof.Rows.boot_isinstance (pa_cons (pe_ix ix_tup (pv 2) pe_int (fun _ _ => rfl)) (pa_cons (pe_bltn (v := .ty "str") (by rfl) N.str PyProof.Rows.boot_str rfl) pa_nil)))
        (pe_one (pe_cmpR (VG.op_eqL0 hun) (pe_lc (own := [("letter", 3)]) (g := gName 3) rfl nd (pi_str (pe_ix ix_tup (pv 2) pe_int (fun _ _ => rfl)))
          (blkOk_by (N := ["base", "wide", "value", "letter"]) (sc := defScope sLIsPfx) (by decide +kernel)) (fun _ _ _ _ _ => pg_name (i := 3) nd rfl (Or.inl rfl))
          (fun _ _ _ _ _ => pts_one (pt_cmpR op_notIn_str (pv 3) (pe_slice sl_str pe_str po_none (po_some (pv 0))) (by rfl))) (fun _ _ _ _ _ => pe_int)) (pe_lst pa_nil) (nomark _)))))), ?_⟩
    have ed : cutS ("01234" : Str) none (some (b : Int)) = S (digs b) := by
      rw [s01234, cut_take (by simpa using b5)]
      rfl
    cases pg with
    | non p n =>
      refine ⟨_, rfl, _, _, _, _, false, rfl, .ty "tuple", p.tyx, kit_tup p n, _, rfl, ?_⟩
      refine iteT ?_
      exact iteT k0
    | @len p xs hp n =>
      refine ⟨_, rfl, _, _, _, _, true, rfl, .ty "tuple", (Pl.tup hp).tyx, kit_ty (by decide +kernel), _, rfl, ?_⟩
      refine iteF ?_
      refine ⟨_, rfl, _, _, rfl, .inr (SqT.of hp), rfl, _, rfl, ?_⟩
      refine iteTB (by rw [decide_eq_false (fun z => n (by have := V.int.inj z; omega))]; rfl) ?_
      exact iteT k0
    | @fin p r x tr tx hp pr px =>
      refine ⟨_, rfl, _, _, _, _, true, rfl, .ty "tuple", (Pl.tup hp).tyx, kit_ty (by decide +kernel), _, rfl, ?_⟩
      refine iteF ?_
      refine ⟨_, rfl, p, _, rfl, .inr (SqT.of hp), rfl, _, rfl, ?_⟩
      refine iteFB rfl ?_
      refine ⟨_, rfl, p, [r, x], 0, r, rfl, rfl, SqT.of hp, rfl, _, rfl, _, _, rfl, rfl, 0, R - 1, r, tr, rfl, pr, _, rfl, ?_⟩
      cases hw : withinV 0 (R - 1) r with
      | false =>
        rw [hw] at k0
        exact iteT k0
      | true =>
        refine iteF ?_
        rw [hw] at k
        rcases kit_str (K := K) px with ⟨z, rfl, hs, e⟩ | ⟨e, hw2⟩
        · refine ⟨_, rfl, p, [r, .str z], 1, _, rfl, rfl, SqT.of hp, rfl, _, _, _, _, true, rfl, .ty "str", px.tyx, e, _, rfl, ?_⟩
          refine iteT ?_
          refine ⟨_, rfl, p, [r, .str z], 1, _, rfl, rfl, SqT.of hp, rfl, _, rfl, fun D hD => ?_⟩
          refine lc_it (walk_str (z := z)) (fun i H2 => H2 = upd H D (.lst (((z.cps.toList.take i).filter (badC b)).map fun _ => V.int 1))) rfl (fun _ _ _ _ => True.intro) ?_ ?_
          · rintro i x H2 H' hi rfl ⟨rfl, c, hc, rfl⟩
            have ht : z.cps.toList.take (i + 1) = z.cps.toList.take i ++ [c] := by
              rw [List.take_add_one]
              have : z.cps.toList[i]? = some c := by simpa using hc
              rw [this]
              rfl
            refine ⟨rfl, _, rfl, _, rfl, _, rfl, _, rfl, len5, _, _, rfl, rfl, _, rfl, ?_⟩
            rw [ed, notin_digs b5, ht, List.filter_append]
            cases hb : badC b c with
            | true =>
              refine iteT ?_
              refine ⟨_, upd_same, ?_, ?_⟩
              · rw [List.length_map]
                exact Nat.lt_of_le_of_lt (Nat.le_trans (List.length_filter_le _ _) (Nat.le_trans (List.length_take_le' _ _) (show z.cps.toList.length ≤ 9000 by rw [Array.length_toList]; exact hs))) (by decide)
              · rw [upd_upd', List.filter_cons_of_pos hb, List.map_append]
                rfl
            | false =>
              refine iteF ?_
              rw [List.filter_cons_of_neg (by rw [hb]; exact Bool.false_ne_true), List.filter_nil, List.append_nil]
          · rintro H2 rfl
            have hfull : z.cps.toList.take z.cps.size = z.cps.toList := List.take_of_length_le (by rw [Array.length_toList]; exact Nat.le_refl _)
            rw [hfull]
            refine ⟨(by show 0 ≤ sizeLine; exact Nat.zero_le _), fun q hq => ?_⟩
            have ne : D ≠ q := fun zz => by rw [← zz, upd_same] at hq; cases hq
            refine ⟨D, q, _, rfl, rfl, SqL.of (by rw [upd_ne ne]; exact upd_same), SqL.of upd_same, ?_⟩
            have eb : decide ((((z.cps.toList).filter (badC b)).map fun _ => V.int 1) = []) = wordV b (.str z) := by
              show _ = z.cps.toList.all fun c => decide (48 ≤ c) && decide (c < 48 + b)
              rw [← bad_nil (b := b) (l := z.cps.toList)]
              rw [Bool.eq_iff_iff, decide_eq_true_eq, decide_eq_true_eq, List.map_eq_nil_iff]
            rw [eb]
            exact k _ fun c o ec => same_new' hq _ _ (same_new' hD _ _ ec)
        · refine ⟨_, rfl, p, [r, x], 1, _, rfl, rfl, SqT.of hp, rfl, _, _, _, _, false, rfl, .ty "str", px.tyx, e, _, rfl, ?_⟩
          refine iteF ?_
          rw [hw2 b] at k
          exact k H (Same.refl H)
end
end Vf


set_option Elab.async false
set_option maxRecDepth 100000
set_option maxHeartbeats 8000000
set_option exponentiation.threshold 3000
/-! Rows shuffled; one prefix above another. -/
namespace Vf
open PySem L2 SX
def aboveB (e e2 : Pf) : Bool := decide (e.1 = e2.1) && decide (e2.2.take e.2.length = e.2)
def spIsAbove : Sp := fun vs H Q _ => ∃ (p p2 : Addr) (e e2 : Pf), vs = [.ref p, .ref p2] ∧ H p = some (pfO e) ∧ H p2 = some (pfO e2) ∧ e.2.length ≤ 9000 ∧ e2.2.length ≤ 9000 ∧ Q (.bl (aboveB e e2)) H
def spShuf : Sp := fun vs H Q _ => ∃ (a p : Addr) (d : Int × Int × Int) (L : Pr), vs = [.ref a, .ref p] ∧ H a = some (.lst (dieL d)) ∧ DieOk d ∧ d.2.2 ≤ 980000000 ∧ H p = some (.tup (prefs L)) ∧ (∀ e ∈ L, H e.1 = some (pfO e.2)) ∧ L.length ≤ 1000 ∧ (∀ e ∈ L, ∀ c ∈ e.2.2, c < 100) ∧
  ∀ (L' : Pr) (D : Addr) (d' : Int × Int × Int) (H' : Hp), L'.Perm L → DieOk d' → d'.2.2 ≤ d.2.2 + (L.length : Int) → Kp a H H' → H' a = some (.lst (dieL d')) → RowL H' D L' → D ≠ a → H D = none → Q (.ref D) H'
theorem seq_at {n m : Nat} (h : n < m) : seqIndex? (n : Int) m = some n := by
  unfold seqIndex?
  have h0 : ¬ (n : Int) < 0 := by omega
  simp only [h0, if_false]
  rw [if_pos (by rw [Bool.and_eq_true, decide_eq_true_iff, decide_eq_true_iff]; exact ⟨by omega, by omega⟩)]
  rfl
theorem erase_perm {α : Type} : ∀ {l : List α} {i : Nat} {x : α}, l[i]? = some x → l.Perm (x :: l.eraseIdx i)
  | [], _, _, h => by cases h
  | a :: l, 0, x, h => by
    cases h
    exact List.Perm.refl _
  | a :: l, i + 1, x, h => ((erase_perm (l := l) (i := i) h).cons a).trans (List.Perm.swap _ _ _)
theorem map_erase {α β : Type} (f : α → β) : ∀ (M : List α) (j : Nat), (M.map f).eraseIdx j = (M.eraseIdx j).map f
  | [], _ => rfl
  | _ :: _, 0 => rfl
  | e :: M, j + 1 => by
    show f e :: (M.map f).eraseIdx j = f e :: (M.eraseIdx j).map f
    rw [map_erase f M j]
abbrev pfD (e : Pf) : PyData := .tuple [.int (e.1 : Int), .str (S e.2)]
theorem pdp_all {K : PySem.W.Frag} {H : Hp} : ∀ {L : Pr}, (∀ e ∈ L, H e.1 = some (pfO e.2)) → DpAll K H (prefs L) (L.map fun e => pfD e.2)
  | [], _ => .nil
  | e :: L, g => .cons (.tup (SqT.of (g e List.mem_cons_self)) (.cons (.int _) (.cons (.str _) .nil))) (pdp_all fun x hx => g x (List.mem_cons_of_mem _ hx))
theorem lay_S {l : List Nat} (w : ∀ c ∈ l, c < 100) : PyData.canLay0 (.str (S l)) = true := by
  show (S l).cps.all _ = true
  rw [Array.all_eq_true']
  intro c hc
  exact decide_eq_true (Nat.lt_trans (w c (by simpa using hc)) (by decide))
theorem pds_lay : ∀ {L : Pr}, (∀ e ∈ L, ∀ c ∈ e.2.2, c < 100) → PyData.canLayAll0 (L.map fun e => pfD e.2) = true ∧ PyData.depthAll (L.map fun e => pfD e.2) ≤ 1
  | [], _ => ⟨rfl, by show 0 ≤ 1; decide⟩
  | e :: L, g => by
    obtain ⟨h1, h2⟩ := pds_lay (L := L) fun x hx => g x (List.mem_cons_of_mem _ hx)
    constructor
    · show ((PyData.canLay0 (.int e.2.1) && (PyData.canLay0 (.str (S e.2.2)) && true)) && PyData.canLayAll0 (L.map fun e => pfD e.2)) = true
      rw [lay_S (g e List.mem_cons_self), h1]
      rfl
    · show max (PyData.depth (pfD e.2)) (PyData.depthAll (L.map fun e => pfD e.2)) ≤ 1
      have : PyData.depth (pfD e.2) = 1 := rfl
      omega
theorem shaped_pds {L : Pr} (g : ∀ e ∈ L, ∀ c ∈ e.2.2, c < 100) : SeqAt.shaped (.list (L.map fun e => pfD e.2)) = true := by
  obtain ⟨h1, h2⟩ := pds_lay g
  show (PyData.canLay0 (.list (L.map fun e => pfD e.2)) && decide (PyData.depth (.list (L.map fun e => pfD e.2)) ≤ 64)) = true
  rw [Bool.and_eq_true]
  refine ⟨h1, decide_eq_true ?_⟩
  show PyData.depthAll (L.map fun e => pfD e.2) + 1 ≤ 64
  omega
section
variable {P : Program} {w : World} {K : PySem.W.Frag} {mg : Str → Option Value} {base : Heap}
theorem scIsAbove : FnScope ["one", "other"] ["one", "other"] (defScope sIsAbove) := ⟨rfl, rfl, rfl, by decide +kernel, rfl, by decide +kernel, by decide +kernel⟩
theorem ok_isabove {f : Addr} {fd : FuncData} (F : Fun K "_law_is_above" "_law_is_above" sIsAbove f fd) (ml : mg "len" = none) : FnOk P w K mg base CX0 1 f fd ["one", "other"] spIsAbove := by
  refine F.ok scIsAbove (fun vs H Q E h => ?_) (fun cdv A outer s H vs Q E hr h => ?_)
  · obtain ⟨p, p2, e, e2, rfl, _⟩ := h
    rfl
  · obtain ⟨p, p2, e, e2, rfl, hp, hp2, l1, l2, k⟩ := h
    refine ⟨_, pss_one (ps_ret (pe_and (pe_cmpR op_eq (pe_ix ix_tup (pv 0) pe_int (fun _ _ => rfl)) (pe_ix ix_tup (pv 1) pe_int (fun _ _ => rfl)) (nomark _))
      (pe_one (pe_cmpR op_eq (pe_slice sl_str (pe_ix ix_tup (pv 1) pe_int (fun _ _ => rfl)) po_none (po_some (pe_callB call_len_str (by rfl) ml boot_len (pa_cons (pe_ix ix_tup (pv 0) pe_int (fun _ _ => rfl)) pa_nil)))) (pe_ix ix_tup (pv 0) pe_int (fun _ _ => rfl)) (nomark _))))), ?_⟩
    unfold aboveB at k
    refine ⟨_, rfl, p, _, _, _, rfl, rfl, SqT.of hp, rfl, _, rfl, p2, _, _, _, rfl, rfl, SqT.of hp2, rfl, rfl, _, rfl, ?_⟩
    by_cases c : e.1 = e2.1
    · refine iteTB (by rw [c]; exact decide_eq_true rfl) ?_
      refine ⟨_, rfl, p2, _, _, _, rfl, rfl, SqT.of hp2, rfl, _, rfl, p, _, _, _, rfl, rfl, SqT.of hp, rfl, _, rfl, small_lenG l1, _, rfl, _, rfl, small_lenG l2, ?_⟩
      refine ⟨_, rfl, p, _, _, _, rfl, rfl, SqT.of hp, rfl, rfl, ?_⟩
      rw [decide_eq_true c, Bool.true_and] at k
      have ec : cutS (S e2.2) none (some ((S e.2).length : Int)) = S (e2.2.take e.2.length) := by
        rw [S_len]
        rcases Nat.le_total e.2.length e2.2.length with h | h
        · exact cut_take h
        · unfold cutS
          rw [S_len, HT.sIx_none, HT.sIx_nat, Nat.min_eq_right h, List.take_of_length_le h]
          show Str.mk _ = Str.mk _
          simp
      rw [ec]
      have ee : decide (V.str (S (e2.2.take e.2.length)) = V.str (S e.2)) = decide (e2.2.take e.2.length = e.2) := by
        by_cases z : e2.2.take e.2.length = e.2
        · rw [decide_eq_true z, decide_eq_true (str_eq.mpr z)]
        · rw [decide_eq_false z, decide_eq_false (fun q => z (str_eq.mp q))]
      rw [ee]
      exact k
    · refine iteFB (decide_eq_false (fun z => c (by have := V.int.inj z; omega))) ?_
      rw [decide_eq_false c, Bool.false_and] at k
      exact k
theorem scShuf : FnScope ["die", "items", "left", "found"] ["die", "items"] (defScope sShuf) := ⟨rfl, rfl, rfl, by decide +kernel, rfl, by decide +kernel, by decide +kernel⟩
theorem ok_shuf {f fP : Addr} {fd fdP : FuncData} (F : Fun K "_law_shuffled" "_law_shuffled" sShuf f fd) (GP : FnOk P w K mg base CX0 1 fP fdP ["die", "many"] spPull) (cP : Cal K mg "_law_pull" fP fdP ["die", "many"]) (N : Nm mg) (mli : mg "list" = none) :
    FnOk P w K mg base CX0 2 f fd ["die", "items"] spShuf := by
  refine F.ok scShuf (fun vs H Q E h => ?_) (fun cdv A outer s H vs Q E hr h => ?_)
  · obtain ⟨a, p, d, L, rfl, _⟩ := h
    rfl
  · obtain ⟨a, p, d, L, rfl, ha, hd, hc, hp, gd, hL, sm, k⟩ := h
    have nd := scShuf.nd
    have hun : A.units + 3 + 64 < cLine := hr.units
    refine ⟨_, pss_cons (ps_par (i := 2) (j := 3) rfl nd rfl rfl (by decide) rfl rfl (pa_cons (pe_callTy call_list_of (by rfl) mli PyProof.Rows.boot_list (pa_cons (pv 1) pa_nil)) (pa_cons (pe_lst pa_nil) pa_nil)) rfl)
      (pss_cons (ps_while PassesOwn.never (pt_cmpR (op_neD hun) (pv 2) (pe_lst pa_nil) (nomark _))
        (pss_one (ps_expr (pe_bm PySem.F.plainAttrs_list PySem.F.slot_list_append PySem.F.type_list_append mt_append (pv 3) (pa_cons (pe_bm PySem.F.plainAttrs_list PySem.F.slot_list_pop PySem.F.type_list_pop mt_popAt (pv 2) (pa_cons (pe_call GP hr rfl cP.mg cP.kp cP.b .nil pass0 (pa_cons (pv 0) (pa_cons (pe_callB call_len_seq (by rfl) N.len boot_len (pa_cons (pv 2) pa_nil)) pa_nil))) pa_nil)) pa_nil)))))
      (pss_one (ps_ret (pv 3)))), ?_⟩
    refine ⟨_, rfl, p, _, rfl, .inr (SqT.of hp), fun l nl => ?_⟩
    have s1 : Same H (upd H l (.lst (prefs L))) := same_new' nl
    have g1 : upd H l (.lst (prefs L)) l = some (.lst (prefs L)) := upd_same
    generalize upd H l (.lst (prefs L)) = H1 at s1 g1 ⊢
    refine ⟨(by show 0 ≤ sizeLine; decide), fun fo nfo => ?_⟩
    have s2 : Same H1 (upd H1 fo (.lst [])) := same_new' nfo
    have g2 : upd H1 fo (.lst []) fo = some (.lst []) := upd_same
    have nlf : l ≠ fo := ne_of_none g1 nfo
    have nla : l ≠ a := (ne_of_none ha nl).symm
    have nfa : fo ≠ a := (ne_of_none (s1 _ _ ha) nfo).symm
    have nf0 : H fo = none := by
      cases z : H fo with
      | none => rfl
      | some o => rw [s1 _ _ z] at nfo; cases nfo
    generalize upd H1 fo (.lst []) = H2 at s2 g2 ⊢
    refine ⟨_, _, rfl, ?_⟩
    have nG : ∀ {J : Hp} {c x : Addr} {xs : List V} {e : Pf}, J x = some (.lst xs) → J c = some (pfO e) → c ≠ x := fun h1 h2 z => by rw [z, h1] at h2; cases h2
    refine ⟨fun m σ Hx => ∃ (Ll Lf : Pr) (dx : Int × Int × Int), m = Ll.length ∧ σ = [some (.ref a), some (.ref p), some (.ref l), some (.ref fo)] ∧ (∀ c o, c ≠ a → H c = some o → Hx c = some o) ∧ Hx a = some (.lst (dieL dx)) ∧ DieOk dx ∧ dx.2.2 + (Ll.length : Int) ≤ d.2.2 + (L.length : Int) ∧
      Hx l = some (.lst (prefs Ll)) ∧ Hx fo = some (.lst (prefs Lf)) ∧ (Lf ++ Ll).Perm L, ⟨L.length, L, [], d, rfl, rfl, fun c o _ e => s2 _ _ (s1 _ _ e), s2 _ _ (s1 _ _ ha), hd, Int.le_refl _, s2 _ _ g1, g2, List.Perm.refl _⟩, ?_⟩
    rintro m σ Hx ⟨Ll, Lf, dx, rfl, rfl, old, ax, hdx, hcx, gl, gf, pm⟩
    have gX : ∀ e ∈ L, Hx e.1 = some (pfO e.2) := fun e he => old _ _ (nG ha (gd e he)) (gd e he)
    have inL : ∀ e ∈ Ll, e ∈ L := fun e he => pm.mem_iff.mp (List.mem_append.mpr (.inr he))
    have ln : Lf.length + Ll.length = L.length := by rw [← List.length_append]; exact pm.length_eq
    refine ⟨_, rfl, (by show 0 ≤ sizeLine; decide), fun e0 ne0 => ?_⟩
    have s3 : Same Hx (upd Hx e0 (.lst [])) := same_new' ne0
    have g3 : upd Hx e0 (.lst []) e0 = some (.lst []) := upd_same
    generalize upd Hx e0 (.lst []) = H3 at s3 g3 ⊢
    refine ⟨.list _, .list [], .lst (SqL.of (s3 _ _ gl)) (pdp_all fun e he => s3 _ _ (gX e (inL e he))), .lst (SqL.of g3) .nil, shaped_pds fun e he => sm e (inL e he), rfl, _, rfl, ?_⟩
    rcases Ll with _ | ⟨x, M⟩
    · refine iteFB rfl ?_
      rw [List.append_nil] at pm
      refine ⟨_, rfl, ?_⟩
      exact k Lf fo dx H3 pm hdx (by have : (([] : Pr).length : Int) = 0 := rfl; omega) (fun c o n e => s3 _ _ (old c o n e)) (s3 _ _ ax) ⟨s3 _ _ gf, fun e he => s3 _ _ (gX e (pm.mem_iff.mp he))⟩ nfa nf0
    · refine iteTB rfl ?_
      have lR : (prefs (x :: M)).length = M.length + 1 := by rw [List.length_map]; rfl
      have l1 : M.length + 1 ≤ L.length := by rw [List.length_cons] at ln; omega
      refine ⟨fun σ' H' => ∃ m', m' < (x :: M).length ∧ _, fun σ' H' z => z, ?_⟩
      refine ⟨_, rfl, .inl ⟨rfl, _, SqL.of (s3 _ _ gf)⟩, _, rfl, .inl ⟨rfl, _, SqL.of (s3 _ _ gl)⟩, _, rfl, _, rfl, l, _, rfl, .inl (SqL.of (s3 _ _ gl)), a, dx, _, rfl, s3 _ _ ax, hdx, ?_, ?_, ?_, fun r d5 hd5 hc5 r0 r1 => ?_⟩
      · rw [lR]; omega
      · rw [lR]; omega
      · omega
      rw [lR] at r1
      have r1 : r < ((M.length + 1 : Nat) : Int) := r1
      obtain ⟨n, rfl⟩ := Int.eq_ofNat_of_zero_le r0
      have hn : n < (x :: M).length := by rw [List.length_cons]; omega
      have a3 := s3 _ _ ax
      have gl5 : upd H3 a (.lst (dieL d5)) l = some (.lst (prefs (x :: M))) := by rw [upd_ne nla]; exact s3 _ _ gl
      have gf5 : upd H3 a (.lst (dieL d5)) fo = some (.lst (prefs Lf)) := by rw [upd_ne nfa]; exact s3 _ _ gf
      have a5 : upd H3 a (.lst (dieL d5)) a = some (.lst (dieL d5)) := upd_same
      have old5 : ∀ c o, c ≠ a → H c = some o → upd H3 a (.lst (dieL d5)) c = some o := fun c o n e => by rw [upd_ne n]; exact s3 _ _ (old c o n e)
      generalize upd H3 a (.lst (dieL d5)) = H5 at gl5 gf5 a5 old5 ⊢
      have hx : (prefs (x :: M))[n]? = some (.ref ((x :: M)[n]).1) := by rw [List.getElem?_map, List.getElem?_eq_getElem hn]; rfl
      refine ⟨l, _, (n : Int), n, _, rfl, rfl, gl5, by omega, by omega, ?_, hx, ?_⟩
      · rw [lR]
        exact seq_at (by rw [List.length_cons] at hn; exact hn)
      have gf6 : upd H5 l (.lst ((prefs (x :: M)).eraseIdx n)) fo = some (.lst (prefs Lf)) := by rw [upd_ne nlf.symm]; exact gf5
      have nlp : ∀ c o, H c = some o → c ≠ l := fun c o e => ne_of_none e nl
      have nfp : ∀ c o, H c = some o → c ≠ fo := fun c o e => ne_of_none e nf0
      refine ⟨fo, _, _, rfl, rfl, gf6, ?_, (x :: M).length - 1, by rw [List.length_cons]; omega, (x :: M).eraseIdx n, Lf ++ [(x :: M)[n]], d5, ?_, rfl, fun c o nc e => ?_, ?_, hd5, ?_, ?_, ?_, ?_⟩
      · rw [List.length_map]
        exact Nat.lt_of_le_of_lt (show Lf.length ≤ 1000 by omega) (by decide)
      · rw [List.length_eraseIdx, if_pos hn]
      · rw [upd_ne (nfp c o e), upd_ne (nlp c o e)]
        exact old5 c o nc e
      · rw [upd_ne nfa.symm, upd_ne nla.symm]
        exact a5
      · have e : ((x :: M).eraseIdx n).length = M.length := by
          rw [List.length_eraseIdx, if_pos hn, List.length_cons]
          rfl
        rw [e]
        rw [List.length_cons] at hcx
        omega
      · rw [upd_ne nlf, upd_same]
        show some (HO.lst ((List.map _ (x :: M)).eraseIdx n)) = some (HO.lst (List.map _ ((x :: M).eraseIdx n)))
        rw [map_erase]
      · rw [upd_same]
        show some (HO.lst (prefs Lf ++ [V.ref ((x :: M)[n]).1])) = some (HO.lst (prefs (Lf ++ [(x :: M)[n]])))
        rw [show prefs (Lf ++ [(x :: M)[n]]) = prefs Lf ++ [V.ref ((x :: M)[n]).1] from List.map_append]
      · refine List.Perm.trans ?_ pm
        rw [List.append_assoc]
        exact List.Perm.append_left Lf (erase_perm (List.getElem?_eq_getElem hn)).symm
end
end Vf


set_option Elab.async false
set_option maxRecDepth 100000
set_option maxHeartbeats 4000000
/-! list(zip(..)) of two tuples: the second item and those behind it. -/
namespace GZ
open PySem PyProof.Rows L2
/-- a zip that has handed out the tuple at T0 -/
def ZipOut (h : Heap) (z TI TO T0 : Addr) (f : Bool) : Prop := h.get? z = some { cls := .type "zip", dict := none, data := .fields #[rawInt T0, .bool f, .bool false, .ref TI, .ref TO], slots := #[] }
section
variable {prog : Program} {w : World} {A : Around} {E : Value → Shared → Prop} {s : Shared}
theorem alive_yes {a : Addr} {o : Obj} {Q : Option Obj → Shared → Prop} (ho : s.heap.get? a = some o) (h : Q (some o) s) : wpAny (model prog w) A (loadIfAlive a) Q E s := fun Γ p hΓ => by
  show Q (s.heap.get? a) s
  rw [ho]
  exact h
theorem owned_no {z TI TO T0 : Addr} {f : Bool} {o : Obj} {Q : Bool → Shared → Prop} (hz : ZipOut s.heap z TI TO T0 f) (ho : s.heap.get? T0 = some o)
    (h : ∀ h', ZipOut h' z TI TO T0 true → Heap.SameBut z s.heap h' → Q false { s with heap := h' }) : wpAny (model prog w) A (Builtin.SmallTypes.ownedTupleIsFree (.ref z)) Q E s := by
  unfold Builtin.SmallTypes.ownedTupleIsFree
  refine wpAny_bind (wpAny_field hz rfl (x := rawInt T0) rfl ?_)
  refine wpAny_bind (alive_yes ho ?_)
  simp only [Option.isNone_some, Bool.false_eq_true, if_false]
  refine wpAny_bind (wpAny_field hz rfl (x := .bool f) rfl ?_)
  cases f with
  | true => exact wpAny_pure (h _ hz ⟨rfl, fun _ _ => rfl⟩)
  | false =>
    refine wpAny_bind (wpAny_setField_rec hz (by simp) fun h₁ hz₁ hs₁ => ?_)
    exact wpAny_pure (h h₁ hz₁ hs₁)
theorem zipT_later_item {z TI TO T0 i1 i2 l1 l2 : Addr} {f : Bool} {o : Obj} {k1 k2 : Nat} {xs ys : Array Value} {x y : Value} {Q : Value → Shared → Prop} (D : ZipApart z TI TO i1 i2 l1 l2)
    (hz : ZipOut s.heap z TI TO T0 f) (ho : s.heap.get? T0 = some o) (hTI : IsPair s.heap TI (.ref i1) (.ref i2))
    (h1 : s.heap.IsTupleIter i1 l1 k1) (h2 : s.heap.IsTupleIter i2 l2 k2) (hl1 : s.heap.IsTuple l1 xs) (hl2 : s.heap.IsTuple l2 ys) (hx : xs[k1]? = some x) (hy : ys[k2]? = some y)
    (hQ : ∀ h', ZipOut h' z TI TO T0 true → h'.IsTupleIter i1 l1 (k1 + 1) → h'.IsTupleIter i2 l2 (k2 + 1) → IsPair h' s.heap.objs.size x y → h'.objs.size = s.heap.objs.size + 1 →
      (∀ c o, c ≠ z → c ≠ i1 → c ≠ i2 → s.heap.get? c = some o → h'.get? c = some o) → Q (.ref s.heap.objs.size) { s with heap := h' }) :
    wpAny (model prog w) A (Builtin.«zip.__next__» ⟨[.ref z], []⟩) (fun fin s' => ∃ v, fin = .done (.ret v) ∧ Q v s') E s := by
  show wpAny _ _ (field (.ref z) 2 >>= _) _ _ _
  refine wpAny_bind (wpAny_field hz rfl (x := .bool false) rfl ?_)
  show wpAny _ _ (field (.ref z) 3 >>= _) _ _ _
  refine wpAny_bind (wpAny_field hz rfl (x := .ref TI) rfl ?_)
  refine wpAny_bind (wpAny_seqItems hTI rfl ?_)
  show wpAny _ _ (Builtin.SmallTypes.ownedTupleIsFree (.ref z) >>= _) _ _ _
  refine wpAny_bind (owned_no hz ho fun h₁ hz₁ hs₁ => ?_)
  simp only [Bool.false_eq_true, if_false]
  rw [← Array.forIn_toList]
  simp only [List.forIn_cons, List.forIn_nil]
  refine wpAny_bind (wpAny_bind (wpAny_bind (wpAny_holding ?_)))
  show wpAny _ _ (Builtin.SmallTypes.nextOf (.ref i1) >>= _) _ _ _
  refine wpAny_bind (RZ.nextOf_tuple_item (h1.extBut hs₁.extBut D.i1z) (hl1.extBut hs₁.extBut D.l1z) hx fun h₂ h1₂ hs₂ => wpAny_pure (wpAny_pure ?_))
  refine wpAny_bind (wpAny_bind (wpAny_holding ?_))
  show wpAny _ _ (Builtin.SmallTypes.nextOf (.ref i2) >>= _) _ _ _
  refine wpAny_bind (RZ.nextOf_tuple_item ((h2.extBut hs₁.extBut D.i2z).extBut hs₂.extBut D.i12.symm) ((hl2.extBut hs₁.extBut D.l2z).extBut hs₂.extBut D.l2i1) hy fun h₃ h2₃ hs₃ => wpAny_pure (wpAny_pure (wpAny_pure ?_)))
  show wpAny _ _ (newTuple [x, y] >>= fun v => ret v) _ _ _
  refine wpAny_bind (wpAny_newTuple (wpAny_pure ⟨_, rfl, ?_⟩))
  have hsz : h₃.objs.size = s.heap.objs.size := by rw [hs₃.1, hs₂.1, hs₁.1]
  have up : ∀ c o, c ≠ z → c ≠ i1 → c ≠ i2 → s.heap.get? c = some o → (h₃.push { cls := .type "tuple", data := .seq #[x, y] }).get? c = some o := fun c o c1 c2 c3 e => Heap.get?_push_of_some _ (hs₃.extBut _ _ c3 (hs₂.extBut _ _ c2 (hs₁.extBut _ _ c1 e)))
  have hz₃ : ZipOut (h₃.push { cls := .type "tuple", data := .seq #[x, y] }) z TI TO T0 true := Heap.get?_push_of_some _ (hs₃.extBut _ _ D.i2z.symm (hs₂.extBut _ _ D.i1z.symm hz₁))
  have h1₃ : (h₃.push { cls := .type "tuple", data := .seq #[x, y] }).IsTupleIter i1 l1 (k1 + 1) := (h1₂.extBut hs₃.extBut D.i12).at fun o e => Heap.get?_push_of_some _ e
  have h2₄ : (h₃.push { cls := .type "tuple", data := .seq #[x, y] }).IsTupleIter i2 l2 (k2 + 1) := h2₃.at fun o e => Heap.get?_push_of_some _ e
  have hT : IsPair (h₃.push { cls := .type "tuple", data := .seq #[x, y] }) h₃.objs.size x y := Heap.get?_push_size _ rfl
  have hz4 : (h₃.push { cls := .type "tuple", data := .seq #[x, y] }).objs.size = s.heap.objs.size + 1 := by rw [Heap.size_push, hsz]
  show Q (.ref h₃.objs.size) _
  rw [hsz] at hT ⊢
  exact hQ _ hz₃ h1₃ h2₄ hT hz4 up
theorem zipT_later_end {z TI TO T0 i1 i2 l1 l2 : Addr} {f : Bool} {o : Obj} {k1 k2 : Nat} {xs ys : Array Value} {Q : PySem.Fin → Shared → Prop} (hh : A.handled = none) (D : ZipApart z TI TO i1 i2 l1 l2)
    (hz : ZipOut s.heap z TI TO T0 f) (ho : s.heap.get? T0 = some o) (hTI : IsPair s.heap TI (.ref i1) (.ref i2))
    (h1 : s.heap.IsTupleIter i1 l1 k1) (h2 : s.heap.IsTupleIter i2 l2 k2) (hl1 : s.heap.IsTuple l1 xs) (hl2 : s.heap.IsTuple l2 ys) (hend : xs[k1]? = none ∨ ys[k2]? = none)
    (hE : ∀ h' e, (∀ c o, c ≠ z → c ≠ i1 → c ≠ i2 → s.heap.get? c = some o → h'.get? c = some o) → (∃ o, h'.get? e = some o ∧ o.cls = .type "StopIteration") → E (.ref e) { s with heap := h' }) :
    wpAny (model prog w) A (Builtin.«zip.__next__» ⟨[.ref z], []⟩) Q E s := by
  show wpAny _ _ (field (.ref z) 2 >>= _) _ _ _
  refine wpAny_bind (wpAny_field hz rfl (x := .bool false) rfl ?_)
  show wpAny _ _ (field (.ref z) 3 >>= _) _ _ _
  refine wpAny_bind (wpAny_field hz rfl (x := .ref TI) rfl ?_)
  refine wpAny_bind (wpAny_seqItems hTI rfl ?_)
  show wpAny _ _ (Builtin.SmallTypes.ownedTupleIsFree (.ref z) >>= _) _ _ _
  refine wpAny_bind (owned_no hz ho fun h₁ hz₁ hs₁ => ?_)
  simp only [Bool.false_eq_true, if_false]
  rw [← Array.forIn_toList]
  simp only [List.forIn_cons, List.forIn_nil]
  refine wpAny_bind (wpAny_bind (wpAny_bind (wpAny_holding ?_)))
  show wpAny _ _ (Builtin.SmallTypes.nextOf (.ref i1) >>= _) _ _ _
  cases hx : xs[k1]? with
  | none =>
    refine wpAny_bind (RZ.nextOf_tuple_end hh (h1.extBut hs₁.extBut D.i1z) (hl1.extBut hs₁.extBut D.l1z) hx fun h₂ e hs₂ he => ?_)
    exact hE h₂ e (fun c o c1 c2 _ x => hs₂ _ _ c2 (hs₁.extBut _ _ c1 x)) he
  | some x =>
    have hy : ys[k2]? = none := by rcases hend with h | h; rw [hx] at h; cases h; exact h
    refine wpAny_bind (RZ.nextOf_tuple_item (h1.extBut hs₁.extBut D.i1z) (hl1.extBut hs₁.extBut D.l1z) hx fun h₂ h1₂ hs₂ => wpAny_pure (wpAny_pure ?_))
    refine wpAny_bind (wpAny_bind (wpAny_holding ?_))
    show wpAny _ _ (Builtin.SmallTypes.nextOf (.ref i2) >>= _) _ _ _
    refine wpAny_bind (RZ.nextOf_tuple_end hh ((h2.extBut hs₁.extBut D.i2z).extBut hs₂.extBut D.i12.symm) ((hl2.extBut hs₁.extBut D.l2z).extBut hs₂.extBut D.l2i1) hy fun h₃ e hs₃ he => ?_)
    exact hE h₃ e (fun c o c1 c2 c3 x => hs₃ _ _ c3 (hs₂.extBut _ _ c2 (hs₁.extBut _ _ c1 x))) he
end
end GZ


set_option Elab.async false
set_option maxRecDepth 100000
set_option maxHeartbeats 4000000
namespace GZ
open PySem PyProof.Rows L2
structure ZSt (h : Heap) (z TI TO i1 i2 a b : Addr) (i : Nat) : Prop where
  out : (IsZip h z TI TO .none ∧ ∃ x y, IsPair h TO x y) ∨ ∃ T0 f o, ZipOut h z TI TO T0 f ∧ h.get? T0 = some o
  ti : IsPair h TI (.ref i1) (.ref i2)
  n1 : h.IsTupleIter i1 a i
  n2 : h.IsTupleIter i2 b i
section
variable {prog : Program} {w : World} {A : Around} {E : Value → Shared → Prop} {s : Shared}
theorem ZSt.ty {z TI TO i1 i2 a b : Addr} {i : Nat} (S : ZSt s.heap z TI TO i1 i2 a b i) : s.TypeIs (.ref z) "zip" := by
  rcases S.out with ⟨h, _⟩ | ⟨_, _, _, h, _⟩
  · exact ⟨_, h, rfl⟩
  · exact ⟨_, h, rfl⟩
/-- one item more -/
theorem zip_next {z TI TO i1 i2 l1 l2 : Addr} {i : Nat} {xs ys : Array Value} {x y : Value} {Q : Option Value → Shared → Prop} (D : ZipApart z TI TO i1 i2 l1 l2) (S : ZSt s.heap z TI TO i1 i2 l1 l2 i)
    (hl1 : s.heap.IsTuple l1 xs) (hl2 : s.heap.IsTuple l2 ys) (hx : xs[i]? = some x) (hy : ys[i]? = some y)
    (hQ : ∀ h', ZSt h' z TI TO i1 i2 l1 l2 (i + 1) → IsPair h' s.heap.objs.size x y → h'.objs.size = s.heap.objs.size + 1 → (∀ c o, c ≠ z → c ≠ TO → c ≠ i1 → c ≠ i2 → s.heap.get? c = some o → h'.get? c = some o) → Q (some (.ref s.heap.objs.size)) { s with heap := h' }) :
    wpAny (model prog w) A (pyNext (.ref z)) Q E s := by
  have hT := S.ty
  unfold pyNext
  refine wpAny_bind (wpAny_attempt (wpAny_callSpecial?_slot (name := Str.ofString "__next__") hT F.slot_zip_next (wpAny_call_entry F.slot_zip_next hT F.entry_zip_next ?_ (F.args_zip_next_1 _))))
  rcases S.out with ⟨hz, u, v, hTO⟩ | ⟨T0, f, o, hz, ho⟩
  · refine RZ.zipT_next_item D hz S.ti hTO S.n1 S.n2 hl1 hl2 hx hy fun h' a1 a2 a3 a4 a5 a6 a7 => wpAny_pure (hQ h' ⟨.inr ⟨s.heap.objs.size, false, _, a1, a5⟩, a7 _ _ D.TIz D.TITO D.TIi1 D.TIi2 S.ti, a3, a4⟩ a5 a6 a7)
  · refine zipT_later_item D hz ho S.ti S.n1 S.n2 hl1 hl2 hx hy fun h' a1 a3 a4 a5 a6 a7 => wpAny_pure (hQ h' ⟨?_, a7 _ _ D.TIz D.TIi1 D.TIi2 S.ti, a3, a4⟩ a5 a6 fun c o c1 _ c3 c4 e => a7 c o c1 c3 c4 e)
    by_cases c1 : T0 = z
    · subst c1
      exact .inr ⟨T0, true, { cls := .type "zip", dict := none, data := .fields #[rawInt T0, .bool true, .bool false, .ref TI, .ref TO], slots := #[] }, a1, a1⟩
    · by_cases c2 : T0 = i1
      · obtain ⟨o1, e1, _⟩ := id a3
        exact .inr ⟨T0, true, o1, a1, by rw [c2]; exact e1⟩
      · by_cases c3 : T0 = i2
        · obtain ⟨o1, e1, _⟩ := id a4
          exact .inr ⟨T0, true, o1, a1, by rw [c3]; exact e1⟩
        · exact .inr ⟨T0, true, o, a1, a7 _ _ c1 c2 c3 ho⟩
/-- no item more -/
theorem zip_stop {z TI TO i1 i2 l1 l2 : Addr} {i : Nat} {xs ys : Array Value} {Q : Option Value → Shared → Prop} (hh : A.handled = none) (D : ZipApart z TI TO i1 i2 l1 l2) (S : ZSt s.heap z TI TO i1 i2 l1 l2 i)
    (hl1 : s.heap.IsTuple l1 xs) (hl2 : s.heap.IsTuple l2 ys) (hend : xs[i]? = none ∨ ys[i]? = none)
    (hQ : ∀ h', (∀ c o, c ≠ z → c ≠ TO → c ≠ i1 → c ≠ i2 → s.heap.get? c = some o → h'.get? c = some o) → Q none { s with heap := h' }) :
    wpAny (model prog w) A (pyNext (.ref z)) Q E s := by
  have hT := S.ty
  rcases S.out with ⟨hz, u, v, hTO⟩ | ⟨T0, f, o, hz, ho⟩
  · exact RZ.pyNext_zipT_end hh D hz S.ti hTO S.n1 S.n2 hl1 hl2 hend hQ
  · unfold pyNext
    refine wpAny_bind (wpAny_attempt (wpAny_callSpecial?_slot (name := Str.ofString "__next__") hT F.slot_zip_next (wpAny_call_entry F.slot_zip_next hT F.entry_zip_next (zipT_later_end hh D hz ho S.ti S.n1 S.n2 hl1 hl2 hend fun h' e hk he => ?_) (F.args_zip_next_1 _))))
    obtain ⟨o, ho, hc⟩ := he
    refine wpAny_bind (wpAny_isInstance (T := "StopIteration") (b := true) ⟨o, ho, hc⟩ isSubtype_stop ?_)
    exact wpAny_pure (hQ _ fun c o c1 _ c3 c4 e => hk c o c1 c3 c4 e)
end
/-- the pairs that stand in the new list -/
structure PairsAt (H1 H : Hp) (q : Addr) (ts : List Addr) (ps : List (V × V)) : Prop where
  at_ : H q = some (.lst (ts.map V.ref))
  len : ts.length = ps.length
  each : ∀ (j : Nat) (t : Addr) (p : V × V), ts[j]? = some t → ps[j]? = some p → H t = some (.tup [p.1, p.2])
  old : ∀ c o, H1 c = some o → H c = some o
theorem ZSt.keep {h h' : Heap} {q z TI TO i1 i2 a b : Addr} {i : Nat} (S : ZSt h z TI TO i1 i2 a b i) (k : ∀ c o, c ≠ q → h.get? c = some o → h'.get? c = some o) (kq : ∀ o, h.get? q = some o → ∃ o', h'.get? q = some o') (n : ∀ c ∈ [z, TI, TO, i1, i2], c ≠ q) : ZSt h' z TI TO i1 i2 a b i := by
  have nz := n z (by simp)
  have nti := n TI (by simp)
  have nto := n TO (by simp)
  have n1 := n i1 (by simp)
  have n2 := n i2 (by simp)
  refine ⟨?_, k _ _ nti S.ti, S.n1.at fun o e => k _ _ n1 e, S.n2.at fun o e => k _ _ n2 e⟩
  rcases S.out with ⟨hz, u, v, hTO⟩ | ⟨T0, f, o, hz, ho⟩
  · exact .inl ⟨k _ _ nz hz, u, v, k _ _ nto hTO⟩
  · by_cases e : T0 = q
    · subst e
      obtain ⟨o', h1⟩ := kq o ho
      exact .inr ⟨T0, f, o', k _ _ nz hz, h1⟩
    · exact .inr ⟨T0, f, o, k _ _ nz hz, k _ _ e ho⟩
section
variable {X : Cx} {pins : List (Addr × Obj)} {σ : L2.St}
theorem fp_next {H H' : Hp} {c : Addr} (f : FpOk X pins H c) (n : H' c = none) : FpOk X pins H' c := ⟨n, f.2⟩
theorem zip_loop {H1 : Hp} {q z TI TO i1 i2 a b : Addr} {xs ys : List V} {A1 : Around} {Rs : Result → Shared → Prop} (hh : A1.in1.handled = none) (D : ZipApart z TI TO i1 i2 a b) (ha : H1 a = some (.tup xs)) (hb : H1 b = some (.tup ys)) (hlen : xs.length ≤ 6000) (nq : H1 q = none)
    (hdone : ∀ ts H s, L2.Inv X pins σ H s → PairsAt H1 H q ts (xs.zip ys) → Rs (.ok (.ret .none)) s) :
    ∀ (m i : Nat) (ts : List Addr) (H : Hp) (s : Shared), m = (xs.zip ys).length - i → i ≤ (xs.zip ys).length → L2.Inv X pins σ H s → PairsAt H1 H q ts ((xs.zip ys).take i) → (∀ c ∈ [z, TI, TO, i1, i2], FpOk X pins H c ∧ c ≠ q ∧ c < s.heap.objs.size) → ZSt s.heap z TI TO i1 i2 a b i →
      codeAny (model X.prog X.w) A1 (.builtin "list.extend.loop" ⟨[.ref q, .ref z, .none], []⟩) Rs s := by
  intro m
  induction m with
  | zero =>
    intro i ts H s hm hi I P hc S
    have ei : i = (xs.zip ys).length := by omega
    have lz : (xs.zip ys).length = min xs.length ys.length := List.length_zip ..
    obtain ⟨its, rv, pa, _⟩ := I.tuple (SqT.of (P.old _ _ ha))
    obtain ⟨its2, rv2, pb, _⟩ := I.tuple (SqT.of (P.old _ _ hb))
    refine codeAny_builtin PySem.F.entry_extend_loop ?_
    rw [Around.under_plainId PySem.F.plain_extend_loop _]
    show wpAny _ A1.in1 (pyNext (.ref z) >>= _) _ _ s
    refine wpAny_bind (zip_stop hh D S pa pb ?_ fun h' hk => ?_)
    · have l1 := rv.length
      have l2 := rv2.length
      rcases Nat.lt_or_ge i xs.length with c | c
      · right
        rw [Array.getElem?_eq_none (by rw [List.size_toArray]; omega)]
      · left
        rw [Array.getElem?_eq_none (by rw [List.size_toArray]; omega)]
    · refine wpAny_pure (hdone ts H _ (I.turnedL (t' := s.toks) (ch := [z, TO, i1, i2]) (fun c o hb e => hk c o (fun w => hb (by simp [w])) (fun w => hb (by simp [w])) (fun w => hb (by simp [w])) (fun w => hb (by simp [w])) e) fun c hcm => (hc c (by
        have : c = z ∨ c = TO ∨ c = i1 ∨ c = i2 := by simpa using hcm
        rcases this with w | w | w | w <;> simp [w])).1) ?_)
      rw [ei, List.take_length] at P
      exact P
  | succ m ih =>
    intro i ts H s hm hi I P hc S
    have lt : i < (xs.zip ys).length := by omega
    have lz : (xs.zip ys).length = min xs.length ys.length := List.length_zip ..
    have lx : i < xs.length := by omega
    have ly : i < ys.length := by omega
    have ex : xs[i]? = some xs[i] := List.getElem?_eq_getElem lx
    have ey : ys[i]? = some ys[i] := List.getElem?_eq_getElem ly
    have ez : (xs.zip ys)[i]? = some (xs[i], ys[i]) := by
      rw [List.getElem?_eq_getElem lt, List.getElem_zip]
    obtain ⟨its, rv, pa, _⟩ := I.tuple (SqT.of (P.old _ _ ha))
    obtain ⟨its2, rv2, pb, _⟩ := I.tuple (SqT.of (P.old _ _ hb))
    obtain ⟨u, hu, ru⟩ := rv.get ex
    obtain ⟨u2, hu2, ru2⟩ := rv2.get ey
    refine codeAny_builtin PySem.F.entry_extend_loop ?_
    rw [Around.under_plainId PySem.F.plain_extend_loop _]
    show wpAny _ A1.in1 (pyNext (.ref z) >>= _) _ _ s
    refine wpAny_bind (zip_next D S pa pb (x := u) (y := u2) (by simpa using hu) (by simpa using hu2) fun h' S' hT hsz hk => ?_)
    have new : ObjOk X.prog X.w (upd H s.heap.objs.size (.tup [xs[i], ys[i]])) h' s.heap.objs.size (.tup [xs[i], ys[i]]) := ⟨by show 2 ≤ sizeLine; decide, [u, u2], .cons ru (.cons ru2 .nil), ⟨_, hT, rfl, _, rfl⟩⟩
    have hkc : ∀ c o, c ∉ [z, TO, i1, i2] → s.heap.get? c = some o → h'.get? c = some o := fun c o hb e => hk c o (fun w => hb (by simp [w])) (fun w => hb (by simp [w])) (fun w => hb (by simp [w])) (fun w => hb (by simp [w])) e
    have I1 : L2.Inv X pins σ (upd H s.heap.objs.size (.tup [xs[i], ys[i]])) { s with heap := h' } := I.turnedNew (t' := s.toks) (ch := [z, TO, i1, i2]) hkc (fun c hcm => (hc c (by
      have : c = z ∨ c = TO ∨ c = i1 ∨ c = i2 := by simpa using hcm
      rcases this with w | w | w | w <;> simp [w])).1) (Nat.le_refl _) new
    have fresh : H s.heap.objs.size = none := I.hok.fresh (Nat.le_refl _)
    have nqT : q ≠ s.heap.objs.size := ne_of_none P.at_ fresh
    generalize eT : s.heap.objs.size = T at *
    have hq' : upd H T (.tup [xs[i], ys[i]]) q = some (.lst (ts.map V.ref)) := by rw [upd_ne nqT]; exact P.at_
    obtain ⟨zz, its3, kk, r3, hl3, e3⟩ := I1.lstM hq'
    have lts : (ts.map V.ref).length = i := by rw [List.length_map, P.len, List.length_take]; omega
    have lts' : ts.length = i := by rw [← lts, List.length_map]
    have lT : ((ts ++ [T]).map V.ref).length ≤ sizeLine := by
      rw [List.length_map, List.length_append, lts', sizeLine_eq]
      show i + 1 ≤ _
      omega
    show wpAny _ A1.in1 (updateSeq q (·.push (.ref T)) >>= _) _ _ _
    refine wpAny_bind (wpAny_updateSeq e3 rfl (wpAny_pure ⟨plainId_quiet PySem.F.plain_extend_loop _, ?_⟩) (by rw [List.size_toArray, sizeLine_eq]; omega) (by show (its3.toArray.push (Value.ref T)).size ≤ sizeLine + 1; rw [Array.size_push, List.size_toArray, sizeLine_eq]; omega))
    refine ih (i + 1) (ts ++ [T]) _ _ (by omega) lt (I1.lset (its' := its3 ++ [.ref T]) (ys := (ts ++ [T]).map V.ref) (t' := s.toks) hq' e3 (by simp) (by rw [List.map_append]; exact r3.append (.cons rfl .nil)) lT) ⟨upd_same, ?_, fun j t p hj hp => ?_, fun c o e => ?_⟩ (fun c hcm => ?_) ?_
    · rw [List.length_append, P.len, List.length_take, List.length_take]
      show min i _ + 1 = _
      omega
    · have tup : ∀ {t' : Addr} {vs : List V}, H t' = some (.tup vs) → upd (upd H T (.tup [xs[i], ys[i]])) q (.lst ((ts ++ [T]).map V.ref)) t' = some (.tup vs) := fun {t' vs} e => by
        rw [upd_ne (fun w => by rw [w, P.at_] at e; cases e), upd_ne (ne_of_none e fresh)]
        exact e
      rcases Nat.lt_or_ge j i with c | c
      · rw [List.getElem?_append_left (by rw [lts']; exact c)] at hj
        rw [List.getElem?_take, if_pos (by omega)] at hp
        exact tup (P.each j t p hj (by rw [List.getElem?_take, if_pos c]; exact hp))
      · rw [List.getElem?_append_right (by rw [lts']; exact c)] at hj
        have ej : j = i := by
          rcases Nat.lt_or_ge i j with w | w
          · rw [List.getElem?_eq_none (by simp; omega)] at hj
            cases hj
          · omega
        subst ej
        rw [lts', Nat.sub_self] at hj
        cases hj
        rw [List.getElem?_take, if_pos (by omega), ez] at hp
        cases hp
        rw [upd_ne nqT.symm, upd_same]
    · have n1 : c ≠ q := ne_of_none e nq
      rw [upd_ne n1, upd_ne (ne_of_none (P.old _ _ e) fresh)]
      exact P.old _ _ e
    · obtain ⟨f1, f2, f3⟩ := hc c hcm
      refine ⟨fp_next f1 ?_, f2, ?_⟩
      · rw [upd_ne f2, upd_ne (Nat.ne_of_lt f3)]
        exact f1.1
      · show c < (h'.update q _).objs.size
        rw [Heap.size_update, hsz]
        exact Nat.lt_succ_of_lt f3
    · refine S'.keep (q := q) (fun c o n e => (Heap.get?_update_other _ _ n.symm).trans e) (fun o e => ?_) fun c hcm => (hc c hcm).2.1
      exact ⟨_, Heap.get?_update_self _ e3 rfl⟩
end
end GZ


set_option Elab.async false
set_option maxRecDepth 100000
set_option maxHeartbeats 4000000
/-! list(zip(x, y)), x and y tuples. -/
namespace GZ
open PySem PyProof.Rows L2
def tListZip (t : TA) : TE := fun σ H Q => t σ H fun vs H1 => ∃ (a b : Addr) (xs ys : List V), vs = [.ref a, .ref b] ∧ H1 a = some (.tup xs) ∧ H1 b = some (.tup ys) ∧ xs.length ≤ 6000 ∧
  ∀ (q : Addr) (ts : List Addr) (H2 : Hp), H1 q = none → PairsAt H1 H2 q ts (xs.zip ys) → Q (.ref q) H2
section
variable {X : Cx} {pins : List (Addr × Obj)} {σ : L2.St}
theorem nolen_zip : typeLookup (.type "zip") "__len__" = pure none := by kernel_rfl
theorem nohint_zip : typeLookup (.type "zip") "__length_hint__" = pure none := by kernel_rfl
theorem list_of_zip {s : Shared} {H1 : Hp} {Q : VK} {z TI TO i1 i2 a b : Addr} {xs ys : List V} (hr : Room 1 X.A) (I : L2.Inv X pins σ H1 s) (D : ZipApart z TI TO i1 i2 a b) (S : ZSt s.heap z TI TO i1 i2 a b 0) (hz : IsZip s.heap z TI TO .none) (ha : H1 a = some (.tup xs)) (hb : H1 b = some (.tup ys)) (hlen : xs.length ≤ 6000)
    (fz : ∀ c ∈ [z, TI, TO, i1, i2], FpOk X pins H1 c ∧ c < s.heap.objs.size) (q : ∀ (q : Addr) (ts : List Addr) (H2 : Hp), H1 q = none → PairsAt H1 H2 q ts (xs.zip ys) → Q (.ref q) H2) :
    wpAny (model X.prog X.w) X.A (call (.type "list") [.ref z]) (EP X pins σ Q) X.xe s := by
  refine callType_codes (Q₁ := fun obj s₁ => obj = .ref s.heap.objs.size ∧ s₁ = { s with heap := s.heap.push { cls := .type "list", data := .seq #[] } }) PySem.F.called_list (PySem.F.typeCall_list_1 _) PySem.F.entry_list_init
    (code_list_new _ ⟨rfl, rfl⟩) fun obj s₁ h₁ => ?_
  obtain ⟨rfl, rfl⟩ := h₁
  have made : (s.heap.push { cls := .type "list", data := .seq #[] }).get? s.heap.objs.size = some { cls := .type "list", data := .seq #[] } := Heap.get?_push_size _ rfl
  refine ⟨⟨_, made, rfl⟩, PySem.F.args_list_init_2 _ _, ?_⟩
  have fr : H1 s.heap.objs.size = none := I.hok.fresh (Nat.le_refl _)
  have I1 : L2.Inv X pins σ (upd H1 s.heap.objs.size (.lst [])) { s with heap := s.heap.push { cls := .type "list", data := .seq #[] } } := I.lnew (its := []) (t' := s.toks) .nil (Nat.zero_le _)
  have nq : ∀ c ∈ [z, TI, TO, i1, i2], c ≠ s.heap.objs.size := fun c hcm => Nat.ne_of_lt (fz c hcm).2
  show wpAny _ _ (do let old ← Builtin.List.listItems (.ref s.heap.objs.size); Builtin.List.listUpdate (.ref s.heap.objs.size) (fun _ => #[]); letGo old.toList.reverse; Builtin.List.listExtendWith (.ref s.heap.objs.size) (.ref z) .none) _ _ _
  refine wpAny_bind ?_
  unfold Builtin.List.listItems
  refine wpAny_bind (wpAny_seqItems made rfl (wpAny_pure ?_))
  show wpAny _ _ (updateSeq s.heap.objs.size (fun _ => #[]) >>= fun _ => letGo (#[] : Array Value).toList.reverse >>= fun _ => Builtin.List.listExtendWith (.ref s.heap.objs.size) (.ref z) .none) _ _ _
  refine wpAny_bind (wpAny_updateSeq made rfl ?_)
  have I2 := I1.lset (f := fun _ => #[]) (its := []) (its' := []) (ys := []) (t' := s.toks) upd_same made rfl .nil (Nat.zero_le _)
  rw [upd_upd] at I2
  refine wpAny_bind (wpAny_letGo ?_)
  generalize eq' : s.heap.objs.size = q' at *
  have kp : ∀ c o, c ≠ q' → s.heap.get? c = some o → ((s.heap.push { cls := .type "list", data := .seq #[] }).update q' (Obj.mapSeq (fun _ => (#[] : Array Value)))).get? c = some o := fun c o n e => (Heap.get?_update_other _ _ n.symm).trans (Heap.get?_push_of_some _ e)
  have S2 := S.keep (q := q') kp (fun o e => absurd (Heap.lt_size e) (by rw [eq']; exact Nat.lt_irrefl _)) nq
  have hz2 : IsZip ((s.heap.push { cls := .type "list", data := .seq #[] }).update q' (Obj.mapSeq (fun _ => (#[] : Array Value)))) z TI TO .none := kp _ _ (nq z (by simp)) hz
  have sz2 : ((s.heap.push { cls := .type "list", data := .seq #[] }).update q' (Obj.mapSeq (fun _ => (#[] : Array Value)))).objs.size = q' + 1 := by rw [Heap.size_update, Heap.size_push, eq']
  generalize (s.heap.push { cls := .type "list", data := .seq #[] }).update q' (Obj.mapSeq (fun _ => (#[] : Array Value))) = h2 at I2 S2 hz2 sz2 ⊢
  have hTz : ({ s with heap := h2 } : Shared).TypeIs (.ref z) "zip" := ⟨_, hz2, rfl⟩
  unfold Builtin.List.listExtendWith
  refine wpAny_bind (wpAny_typeOf (T := "zip") hTz ?_)
  have n1 : Builtin.List.listSameRef (.ref q') (.ref z) = false := by simp [Builtin.List.listSameRef, (nq z (by simp)).symm]
  have n2 : (Value.type "zip" == Value.type "list") = false := by decide +kernel
  have n3 : (Value.type "zip" == Value.type "tuple") = false := by decide +kernel
  simp only [n1, n2, n3, Bool.or_false, Bool.false_eq_true, if_false]
  refine wpAny_bind (wpAny_pyIter_zip hz2 ?_)
  refine wpAny_bind (wpAny_holding ?_)
  unfold Builtin.List.listLengthHint
  refine wpAny_bind (wpAny_specialOf hTz nolen_zip ?_)
  show wpAny _ _ (specialOf (Value.ref z) (Str.ofString "__length_hint__") >>= _) _ _ _
  refine wpAny_bind (wpAny_specialOf hTz nohint_zip ?_)
  refine wpAny_pure ?_
  have hh : X.A.in1.in1.handled = none := by
    have := hr.hd
    exact this
  obtain ⟨z4, its, k4, r4, hl4, e4⟩ := I2.lstM upd_same
  cases r4
  have fin : ∀ (s' : Shared), L2.Inv X pins σ (upd H1 q' (.lst [])) s' → ZSt s'.heap z TI TO i1 i2 a b 0 → s'.heap.objs.size = q' + 1 → codeAny (model X.prog X.w) X.A.in1 (.builtin "list.extend.loop" ⟨[.ref q', .ref z, .none], []⟩) (wants (fun r s₂ => r = .none ∧ EP X pins σ Q (.ref q') s₂) X.xe) s' := fun s' I' S' sz' =>
    zip_loop (A1 := X.A.in1) (q := q') hh D ha hb hlen fr (fun ts H s I P => ⟨rfl, .ref q', H, I, rfl, q q' ts H fr P⟩) _ 0 [] _ s' rfl (Nat.zero_le _) I' ⟨upd_same, rfl, fun j t p hj => (by cases hj), fun c o e => by rw [upd_ne (ne_of_none e fr)]; exact e⟩ (fun c hcm => ⟨fp_next (fz c hcm).1 (by rw [upd_ne (nq c hcm)]; exact (fz c hcm).1.1), nq c hcm, by rw [sz']; exact Nat.lt_succ_of_lt (fz c hcm).2⟩) S'
  refine wpAny_ite_split (fun _ => ?_) (fun _ => wpAny_pure ⟨plainId_quiet PySem.F.plain_extend_loop _, fin _ I2 S2 sz2⟩)
  refine wpAny_bind (wpAny_rule ?_)
  refine wpAny_bind ?_
  show wpAny _ _ (updateSeq q' (·.push .none) >>= fun _ => updateSeq q' (·.pop)) _ _ _
  refine wpAny_bind (wpAny_updateSeq e4 rfl ?_)
  have I3 := I2.lset (f := (·.push Value.none)) (its' := [Value.none]) (ys := [.non]) (t' := s.toks) upd_same e4 (by simp) (.cons rfl .nil) (by rw [List.length_singleton, sizeLine_eq]; decide)
  obtain ⟨z5, its5, k5, r5, hl5, e5⟩ := I3.lstM upd_same
  obtain ⟨u5, rfl, ru5⟩ := r5.one
  refine wpAny_updateSeq e5 rfl ?_ (by show 1 ≤ sizeLine; rw [sizeLine_eq]; decide) (by show 0 ≤ sizeLine + 1; exact Nat.zero_le _)
  refine wpAny_pure ⟨plainId_quiet PySem.F.plain_extend_loop _, fin _ ?_ ?_ ?_⟩
  · have I4 := I3.lset (f := (·.pop)) (its := [u5]) (its' := []) (ys := []) (t' := s.toks) upd_same e5 (by rfl) .nil (Nat.zero_le _)
    rw [upd_upd, upd_upd] at I4
    exact I4
  · refine (S2.keep (q := q') (fun c o n e => (Heap.get?_update_other _ _ n.symm).trans e) (fun o e => ⟨_, Heap.get?_update_self _ e4 rfl⟩) nq).keep (q := q') (fun c o n e => (Heap.get?_update_other _ _ n.symm).trans e) (fun o e => ⟨_, Heap.get?_update_self _ e5 rfl⟩) nq
  · rw [Heap.size_update, Heap.size_update, sz2]
theorem pe_listZip {e1 e2 : Expr} {t : TA} {p1 p2 p3 p4 : Pos} (hc : X.calm = true) (hr : Room 1 X.A) (gl : Gl X "list") (ml : X.mg "list" = none) (gz : Gl X "zip") (mz : X.mg "zip" = none) (h12 : PA X [e1, e2] t)
    (q1 : starEach [Expr.Call (.Name "zip" p2) [e1, e2] [] p3] X.env = [(false, eval (.Call (.Name "zip" p2) [e1, e2] [] p3) X.env)]) (q2 : starEach [e1, e2] X.env = (false, eval e1 X.env) :: starEach [e2] X.env) (q3 : (backTo p3 (starEach [e2] X.env)).any (·.1) = false) :
    PE X (.Call (.Name "list" p1) [.Call (.Name "zip" p2) [e1, e2] [] p3] [] p4) (tListZip t) := by
  refine ⟨fun pins s σ H Q I h => ?_⟩
  refine wpAny_Call_Name_kw (ld_blt I gl ml PyProof.Rows.boot_list (PyProof.Rows.callWith_type1 ?_ (by rw [q1]; rfl) rfl))
  rw [q1]
  refine Calls.spliced_cons (wpAny_Call_Name_kw (ld_blt I gz mz PyProof.Rows.boot_zip (PyProof.Rows.callWith_type1 (thn (h12.run p3 pins s σ H _ I h) fun us s1 ⟨vs, H1, I1, r1, a, b, xs, ys, ev, hxa, hyb, hlen, q⟩ => ?_) q2 q3)))
  subst ev
  cases r1 with
  | cons ra rr =>
    cases rr with
    | cons rb rr =>
      cases rr
      cases ra
      cases rb
      obtain ⟨its, rv, pa, _⟩ := I1.tuple (SqT.of hxa)
      obtain ⟨its2, rv2, pb, _⟩ := I1.tuple (SqT.of hyb)
      obtain ⟨o1, ho1, _⟩ := id pa
      obtain ⟨o2, ho2, _⟩ := id pb
      refine RZ.call_zipT (show s1.heap.IsTuple a its.toArray from pa) (show s1.heap.IsTuple b its2.toArray from pb) fun h' hz hTI hTO h1 h2 hsz hk => Calls.spliced_nil ?_
      have I2 : L2.Inv X pins σ H1 { s1 with heap := h' } := I1.kept (t' := s1.toks) hk
      refine list_of_zip hr I2 (PySem.W.ktu_apart s1.heap.objs.size a b (Heap.lt_size ho1) (Heap.lt_size ho2)) ⟨.inl ⟨hz, _, _, hTO⟩, hTI, h1, h2⟩ hz hxa hyb hlen (fun c hcm => ?_) q
      have e' : c = s1.heap.objs.size + 4 ∨ c = s1.heap.objs.size + 2 ∨ c = s1.heap.objs.size + 3 ∨ c = s1.heap.objs.size ∨ c = s1.heap.objs.size + 1 := by simpa using hcm
      have hle : s1.heap.objs.size ≤ c ∧ c < s1.heap.objs.size + 5 := by
        rcases e' with w | w | w | w | w <;> rw [w]
        · exact ⟨Nat.le_add_right _ _, Nat.lt_succ_self _⟩
        · exact ⟨Nat.le_add_right _ _, Nat.add_lt_add_left (by decide) _⟩
        · exact ⟨Nat.le_add_right _ _, Nat.add_lt_add_left (by decide) _⟩
        · exact ⟨Nat.le_refl _, Nat.lt_add_of_pos_right (by decide)⟩
        · exact ⟨Nat.le_add_right _ _, Nat.add_lt_add_left (by decide) _⟩
      refine ⟨I1.fpOk hle.1 (I1.hok.fresh hle.1), ?_⟩
      show c < h'.objs.size
      rw [hsz]
      exact hle.2
end
end GZ


set_option Elab.async false
set_option maxRecDepth 100000
set_option maxHeartbeats 4000000
namespace VG
open PySem PySem.Spec PyProof.Rows L2
section
variable {X : Cx}
/-- >= of two pairs of a number and a text -/
def rGeIS : R2 := fun x y H Q => ∃ (a b : Addr) (i j : Int) (u v : Str), x = .ref a ∧ y = .ref b ∧ H a = some (.tup [.int i, .str u]) ∧ H b = some (.tup [.int j, .str v]) ∧ Q (.bl (!lexS (i, u) (j, v))) H
theorem op_geIS (hu : X.A.units < cLine) : OpR X (compareOp .GtE) rGeIS := by
  intro pins s σ H x y v u Q I rx ry h
  obtain ⟨a, b, i, j, p, q, rfl, rfl, ha, hb, qq⟩ := h
  cases rx
  cases ry
  obtain ⟨its, r1, p1, _⟩ := I.tuple (SqT.of ha)
  obtain ⟨its2, r2, p2, _⟩ := I.tuple (SqT.of hb)
  obtain ⟨u1, u2, rfl, ⟨t1, rfl⟩, ⟨t2, rfl⟩⟩ := vals2 r1
  obtain ⟨w1, w2, rfl, ⟨t3, rfl⟩, ⟨t4, rfl⟩⟩ := vals2 r2
  have R := Ob.RcOp.tuples_ge (A := X.A) (s := s) (e := fun n => if n = 0 then i == j else p == q) (r := fun n => if n = 0 then decide (j ≤ i) else !decide (p.cps.toList < q.cps.toList)) p1 p2 hu (fun n h1 h2 => by
    have hn : n = 0 ∨ n = 1 := by simp at h1; omega
    rcases hn with rfl | rfl
    · exact SeqAt.EqAt.int_int _ _ _ _
    · exact SeqAt.EqAt.str_str _ _ _ _) (fun n h1 h2 _ => by
    have hn : n = 0 ∨ n = 1 := by simp at h1; omega
    rcases hn with rfl | rfl
    · exact Ob.RcOp.ge_int _ _ _ _
    · exact fun _ _ _ _ h => PySem.P.ge_str h)
  have e : Ob.lexAt (fun n => if n = 0 then i == j else p == q) (fun n => if n = 0 then decide (j ≤ i) else !decide (p.cps.toList < q.cps.toList)) (decide (2 ≥ 2)) 0 2 = !lexS (i, p) (j, q) := by
    show (if (i == j) = true then (if (p == q) = true then decide (2 ≥ 2) else !decide (p.cps.toList < q.cps.toList)) else decide (j ≤ i)) = !(if i = j then decide (p.cps.toList < q.cps.toList) else decide (i < j))
    by_cases c : i = j
    · rw [if_pos (beq_iff_eq.mpr c), if_pos c]
      by_cases c2 : p = q
      · rw [if_pos (beq_iff_eq.mpr c2), c2, decide_eq_false (List.lt_irrefl _)]
        rfl
      · rw [if_neg (fun z => c2 (beq_iff_eq.mp z))]
    · rw [if_neg (fun z => c (beq_iff_eq.mp z)), if_neg c]
      by_cases c3 : i < j
      · rw [decide_eq_true c3, decide_eq_false (by omega)]
        rfl
      · rw [decide_eq_false c3, decide_eq_true (by omega)]
        rfl
  have z : wpAny (model X.prog X.w) X.A (compareOp .GtE (.ref a) (.ref b)) (EP X pins σ Q) X.xe s := R X.prog X.w X.xe (EP X pins σ Q) (by
    show EP X pins σ Q (.bool (Ob.lexAt (fun n => if n = 0 then i == j else p == q) (fun n => if n = 0 then decide (j ≤ i) else !decide (p.cps.toList < q.cps.toList)) (decide (2 ≥ 2)) 0 2)) s
    rw [e]
    exact ⟨.bl _, H, I, rfl, qq⟩)
  exact z
end
end VG


set_option Elab.async false
set_option maxRecDepth 100000
set_option maxHeartbeats 8000000
set_option exponentiation.threshold 3000
/-! Neighbours in a list of prefixes. -/
namespace Vf
open PySem L2 SX
def badP (q : Pf × Pf) : Bool := !VG.lexS (kP q.1) (kP q.2) || aboveB q.1 q.2
def nbr (M : List Pf) : List (Pf × Pf) := M.zip (M.drop 1)
theorem nbr_at {M : List Pf} {i : Nat} (h : i + 1 < M.length) : (nbr M)[i]? = some (M[i], M[i + 1]) :=
  List.getElem?_zip_eq_some.mpr ⟨List.getElem?_eq_getElem (by omega), by rw [List.getElem?_drop, Nat.add_comm 1 i]; exact List.getElem?_eq_getElem h⟩
theorem take_iff {u w : List Nat} : w.take u.length = u ↔ ∃ t, w = u ++ t := by
  constructor
  · intro h
    exact ⟨w.drop u.length, by conv => rhs; lhs; rw [← h]
                               exact (List.take_append_drop _ _).symm⟩
  · rintro ⟨t, rfl⟩
    exact List.take_left
theorem bad_ord {b N R : Nat} (b0 : 0 < b) {x y : Pf} (ox : PfOk b N R x) (oy : PfOk b N R y) : badP (x, y) = false ↔ Ord b N x y := by
  have h1 : badP (x, y) = false ↔ VG.lexS (kP x) (kP y) = true ∧ aboveB x y = false := by
    show (!VG.lexS (kP x) (kP y) || aboveB x y) = false ↔ _
    cases VG.lexS (kP x) (kP y) <;> cases aboveB x y <;> simp
  have h2 : VG.lexS (kP x) (kP y) = true ↔ x.1 < y.1 ∨ (x.1 = y.1 ∧ x.2 < y.2) := by
    rw [VG.lexS_iff]
    show ((x.1 : Int) < y.1 ∨ ((x.1 : Int) = y.1 ∧ (S x.2).cps.toList < (S y.2).cps.toList)) ↔ _
    have e : ((S x.2).cps.toList < (S y.2).cps.toList) ↔ x.2 < y.2 := by simp
    rw [e]
    constructor
    · rintro (h | ⟨h, h'⟩)
      · exact .inl (by omega)
      · exact .inr ⟨by omega, h'⟩
    · rintro (h | ⟨h, h'⟩)
      · exact .inl (by omega)
      · exact .inr ⟨by omega, h'⟩
  have h3 : aboveB x y = false ↔ ¬ (x.1 = y.1 ∧ ∃ t, y.2 = x.2 ++ t) := by
    unfold aboveB
    rw [← take_iff]
    by_cases c1 : x.1 = y.1 <;> by_cases c2 : y.2.take x.2.length = x.2 <;> simp [c1, c2]
  have bf := before_iff (N := N) b0 ox.dg oy.dg ox.le oy.le
  rw [h1, h2, h3]
  constructor
  · rintro ⟨h | ⟨h, h'⟩, n⟩
    · exact .inl h
    · exact .inr ⟨h, bf.mp ⟨h', fun z => n ⟨h, z⟩⟩⟩
  · rintro (h | ⟨h, h'⟩)
    · exact ⟨.inl h, fun z => by omega⟩
    · have := bf.mpr h'
      exact ⟨.inr ⟨h, this.1⟩, fun z => this.2 z.2⟩
theorem bad_chain {b N R : Nat} (b0 : 0 < b) : ∀ {M : List Pf}, (∀ e ∈ M, PfOk b N R e) → ((nbr M).filter badP = [] ↔ chainO b N M)
  | [], _ => ⟨fun _ => trivial, fun _ => rfl⟩
  | [_], _ => ⟨fun _ => trivial, fun _ => rfl⟩
  | x :: y :: L, ok => by
    have ih := bad_chain (R := R) b0 (M := y :: L) fun e he => ok e (List.mem_cons_of_mem _ he)
    have h := bad_ord b0 (ok x List.mem_cons_self) (ok y (List.mem_cons_of_mem _ List.mem_cons_self))
    show ((x, y) :: nbr (y :: L)).filter badP = [] ↔ Ord b N x y ∧ chainO b N (y :: L)
    rw [← ih, ← h]
    cases c : badP (x, y) with
    | true =>
      rw [List.filter_cons_of_pos c]
      exact ⟨fun z => (by cases z), fun z => (by cases z.1)⟩
    | false =>
      rw [List.filter_cons_of_neg (by rw [c]; exact Bool.false_ne_true)]
      exact ⟨fun z => ⟨rfl, z⟩, fun z => z.2⟩
end Vf


set_option Elab.async false
set_option maxRecDepth 100000
set_option maxHeartbeats 8000000
set_option exponentiation.threshold 3000
/-! The shares of the roots as a list. -/
namespace Vf
open PySem L2 SX
def shrs (b N R : Nat) (M : List Pf) : List V := (List.range R).map fun r => V.int ((tot b N r M : Nat) : Int)
theorem shrs_len {b N R : Nat} {M : List Pf} : (shrs b N R M).length = R := by
  unfold shrs
  rw [List.length_map, List.length_range]
theorem shrs_at {b N R r : Nat} {M : List Pf} (h : r < R) : (shrs b N R M)[r]? = some (.int ((tot b N r M : Nat) : Int)) := by
  unfold shrs
  rw [List.getElem?_map, List.getElem?_range h]
  rfl
theorem shrs_nil {b N R : Nat} : (List.replicate R [V.int 0]).flatten = shrs b N R [] := by
  unfold shrs
  rw [List.flatten_replicate_singleton]
  show _ = (List.range R).map fun _ => V.int 0
  rw [List.map_const', List.length_range]
theorem shrs_set {b N R : Nat} {M : List Pf} {e : Pf} : (shrs b N R M).set e.1 (.int ((tot b N e.1 M : Nat) + (b ^ (N - e.2.length) : Nat) : Int)) = shrs b N R (M ++ [e]) := by
  refine List.ext_getElem (by rw [List.length_set, shrs_len, shrs_len]) fun n h1 h2 => ?_
  have hn : n < R := by rw [shrs_len] at h2; exact h2
  have e1 : ∀ (M : List Pf) (h : n < (shrs b N R M).length), (shrs b N R M)[n] = .int ((tot b N n M : Nat) : Int) := fun M h => by
    have := shrs_at (b := b) (N := N) (M := M) hn
    rw [List.getElem?_eq_getElem h] at this
    exact Option.some.inj this
  rw [List.getElem_set, e1 (M ++ [e]), tot_app]
  have t1 : tot b N n [e] = if e.1 = n then b ^ (N - e.2.length) else 0 := rfl
  rw [t1]
  by_cases c : e.1 = n
  · rw [if_pos c, if_pos c, c, Int.natCast_add]
  · rw [if_neg c, if_neg c, e1 M, Nat.add_zero]
/-- shares that are not the whole -/
theorem shrs_whole {b N R : Nat} {M : List Pf} {w : Nat} : (shrs b N R M).filter (fun v => !decide (v = V.int (w : Int))) = [] ↔ ∀ r, r < R → tot b N r M = w := by
  rw [List.filter_eq_nil_iff]
  constructor
  · intro h r hr
    have := h _ (List.mem_of_getElem? (shrs_at (b := b) (N := N) (M := M) hr))
    by_cases c : tot b N r M = w
    · exact c
    · refine absurd ?_ this
      rw [decide_eq_false fun z => c (by have := V.int.inj z; omega)]
      rfl
  · intro h v hv
    unfold shrs at hv
    obtain ⟨r, hr, rfl⟩ := List.mem_map.mp hv
    rw [h r (List.mem_range.mp hr), decide_eq_true rfl]
    exact Bool.false_ne_true
end Vf


set_option Elab.async false
set_option maxRecDepth 100000
set_option maxHeartbeats 8000000
set_option exponentiation.threshold 3000
/-! The law's own look at codes. -/
namespace VG
open PySem PySem.Spec PyProof.Rows L2
section
variable {X : Cx}
/-- l != [], whatever is in l -/
theorem op_neL0 (hu : X.A.units < cLine) : OpR X (compareOp .NotEq) (fun x y H Q => ∃ (a b : Addr) (xs : List V), x = .ref a ∧ y = .ref b ∧ SqL X.K H a xs ∧ SqL X.K H b [] ∧ Q (.bl (!decide (xs = []))) H) := by
  intro pins s σ H x y v u Q I rx ry h
  obtain ⟨a, b, xs, rfl, rfl, ha, hb, q⟩ := h
  cases rx
  cases ry
  obtain ⟨its, r1, p1, _⟩ := I.list ha
  obtain ⟨its2, r2, p2, _⟩ := I.list hb
  cases r2
  cases xs with
  | nil =>
    cases r1
    exact PySem.SeqAt.RcNeAt.lists (e := fun _ => true) p1.isList p2.isList rfl hu (fun j _ j2 => absurd j2 (Nat.not_lt_zero _)) _ _ _ _ ⟨.bl _, H, I, rfl, q⟩
  | cons x xs =>
    cases r1 with
    | cons r r' => exact PySem.SeqAt.RcNeAt.lists_lengths p1.isList p2.isList (by simp) hu _ _ _ _ ⟨.bl _, H, I, rfl, q⟩
end
end VG
namespace Vf
open PySem L2 SX GZ
theorem cut_rest (xs : List V) : cutV xs (some 1) none = xs.drop 1 := by
  unfold cutV
  rw [show (some (1 : Int)) = some ((1 : Nat) : Int) from rfl, HT.sIx_nat, HT.sIx_none]
  cases xs with
  | nil => rfl
  | cons x l =>
    rw [Nat.min_eq_left (by rw [List.length_cons]; omega)]
    exact List.take_of_length_le (by rw [List.length_drop]; exact Nat.le_refl _)
theorem slA_rest {K : PySem.W.Frag} {J : Hp} {p : Addr} {xs : List V} {Q : VK} (hp : J p = some (.tup xs)) (h : ∀ q J', Same J J' → J' q = some (.tup (xs.drop 1)) → Q (.ref q) J') : rSlA K (.ref p) (some 1) none J Q := by
  refine ⟨p, xs, rfl, SqT.of hp, fun w => h p J (Same.refl J) ?_, fun w q nq => h q _ (same_new' nq) (by rw [upd_same, cut_rest])⟩
  have e := w.1
  rw [show (some (1 : Int)) = some ((1 : Nat) : Int) from rfl, HT.sIx_nat] at e
  cases xs with
  | nil => exact hp
  | cons x l => rw [List.length_cons] at e; omega
def mx (L : List Pf) : Nat := L.foldr (fun e m => max e.2.length m) 0
theorem mx_le : ∀ {L : List Pf} {e : Pf}, e ∈ L → e.2.length ≤ mx L
  | x :: L, e, h => by
    show _ ≤ max x.2.length (mx L)
    rcases List.mem_cons.mp h with z | z
    · rw [z]; omega
    · have := mx_le (L := L) z
      omega
theorem mx_mem : ∀ (L : List Pf), mx L = 0 ∨ ∃ e ∈ L, e.2.length = mx L
  | [] => .inl rfl
  | x :: L => by
    show max x.2.length (mx L) = 0 ∨ ∃ e ∈ x :: L, e.2.length = max x.2.length (mx L)
    rcases Nat.le_total (mx L) x.2.length with h | h
    · exact .inr ⟨x, List.mem_cons_self, by omega⟩
    · rcases mx_mem L with z | ⟨e, he, z⟩
      · exact .inl (by omega)
      · exact .inr ⟨e, List.mem_cons_of_mem _ he, by omega⟩
def lens (L : List Pf) : List Int := L.map fun e => (e.2.length : Int)
theorem mx_max {L : List Pf} {m : Int} (h : m ∈ (0 : Int) :: lens L) (g : ∀ y, y ∈ (0 : Int) :: lens L → y ≤ m) : m = (mx L : Int) := by
  have h1 : m ≤ (mx L : Int) := by
    rcases List.mem_cons.mp h with z | z
    · omega
    · obtain ⟨e, he, rfl⟩ := List.mem_map.mp z
      have := mx_le he
      omega
  have h2 : (mx L : Int) ≤ m := by
    rcases mx_mem L with z | ⟨e, he, z⟩
    · rw [z]
      exact g 0 List.mem_cons_self
    · rw [← z]
      exact g _ (List.mem_cons_of_mem _ (List.mem_map.mpr ⟨e, he, rfl⟩))
  omega
def pows (b n : Nat) : List V := (List.range n).map fun i => V.int ((b ^ i : Nat) : Int)
theorem pows_succ (b n : Nat) : pows b (n + 1) = pows b n ++ [V.int ((b ^ n : Nat) : Int)] := by
  unfold pows
  rw [List.range_succ, List.map_append]
  rfl
theorem ixN_nat {n i : Nat} (h : i < n) : ixN n (i : Int) = some i := by
  unfold ixN
  rw [if_pos (by omega), if_pos (by omega)]
  rfl
/-- what the law says of a value of any kind -/
inductive LG (H : Hp) (b R : Nat) : V → Bool → Prop
  | non {v : V} {t : Value} (p : Pl H v t) (n : ∀ q xs, v = .ref q → H q ≠ some (.tup xs)) : LG H b R v false
  | bad {p : Addr} {xs : List V} {rs : List Bool} (h : H p = some (.tup xs)) (n : xs.length ≤ 5000) (hl : rs.length = xs.length) (g : ∀ (i : Nat) (x : V) (r : Bool), xs[i]? = some x → rs[i]? = some r → PG H b R x r) (no : rs.all id = false) : LG H b R (.ref p) false
  | fin {p : Addr} {L : Pr} (h : H p = some (.tup (prefs L))) (n : L.length ≤ 5000) (g : PGood b (mx (pfs L)) H L) (hm : mx (pfs L) ≤ 1000) (hr : ∀ e ∈ L, e.2.1 < R) : LG H b R (.ref p) (covT b (mx (pfs L)) R 0 0 (pfs L))
def spLIsCode : Sp := fun vs H Q _ => ∃ (b R : Nat) (v : V) (res : Bool), vs = [.int (b : Int), .int (R : Int), v] ∧ 2 ≤ b ∧ b ≤ 5 ∧ R ≤ 100 ∧ LG H b R v res ∧ ∀ H', Same H H' → Q (.bl res) H'
section
variable {P : Program} {w : World} {K : PySem.W.Frag} {mg : Str → Option Value} {base : Heap}
theorem scLIsCode : FnScope ["base", "wide", "value", "pairs", "powers", "turn", "shares", "root", "word", "one", "other", "share"] ["base", "wide", "value"] (defScope sLIsCode) := ⟨rfl, rfl, rfl, by decide +kernel, rfl, by decide +kernel, by decide +kernel⟩
theorem ok_liscode {f fP fA : Addr} {fd fdP fdA : FuncData} (F : Fun K "_law_is_code" "_law_is_code" sLIsCode f fd) (GP : FnOk P w K mg base CX0 2 fP fdP ["base", "wide", "value"] spLIsPfx) (cP : Cal K mg "_law_is_prefix" fP fdP ["base", "wide", "value"])
    (GA : FnOk P w K mg base CX0 1 fA fdA ["one", "other"] spIsAbove) (cA : Cal K mg "_law_is_above" fA fdA ["one", "other"]) (N : Nm mg) (mli : mg "list" = none) (mz : mg "zip" = none) (mx' : mg "max" = none) (nr : mg "range" = none) :
    FnOk P w K mg base CX0 3 f fd ["base", "wide", "value"] spLIsCode := by
  refine F.ok scLIsCode (fun vs H Q E h => ?_) (fun cdv A outer s H vs Q E hr h => ?_)
  · obtain ⟨b, R, v, res, rfl, _⟩ := h
    rfl
  · obtain ⟨b, R, v, res, rfl, b2, b5, r5, lg, k⟩ := h
    have nd := scLIsCode.nd
    have hr1 := hr.mono (show 1 ≤ 2 by decide)
    have hun := Nat.lt_of_le_of_lt (Nat.le_add_right _ 64) hr.units
    refine ⟨_, pss_cons (ps_if (PW.pt (pw_or (pt_not (pt_val (pe_callB call_isi (by rfl) N.isinst PyProof.Rows.boot_isinstance (pa_cons (pv 2) (pa_cons (pe_bltn (v := .ty "tuple") (by rfl) N.tuple PyProof.Rows.boot_tuple rfl) pa_nil)))))
        (pw_or1 (pt_cmpR (VG.op_neL0 hun) (pe_lc (own := [("one", 9)]) (g := gName 9) rfl nd (pi_tup (pv 2)) (blkOk_by (N := ["base", "wide", "value", "pairs", "powers", "turn", "shares", "root", "word", "one", "other", "share"]) (sc := defScope sLIsCode) (by decide +kernel)) (fun _ _ _ _ _ => pg_name (i := 9) nd rfl (Or.inl rfl))
          (fun _ _ _ _ _ => pts_one (pt_not (pt_val (pe_call GP hr rfl cP.mg cP.kp cP.b .nil pass0 (pa_cons (pv 0) (pa_cons (pv 1) (pa_cons (pv 9) pa_nil))))))) (fun _ _ _ _ _ => pe_int)) (pe_lst pa_nil) (nomark _)))))
        (pss_one (ps_ret pe_bl)) pss_nil)
      (pss_cons (ps_set (i := 3) nd rfl (.inl rfl) (pe_listZip rfl hr1 (by rfl) mli (by rfl) mz (pa_cons (pv 2) (pa_cons (pe_slice sl_tupA (pv 2) (po_some pe_int) po_none) pa_nil)) (by rfl) (by rfl) (by rfl)))
      (pss_cons (ps_if (pt_cmpR (VG.op_neL0 hun) (pe_lc (own := [("one", 9), ("other", 10)]) (g := gTup K 2 (gCons (gName 9) (gCons (gName 10) gNil))) rfl nd (pi_list (pv 3)) (blkOk_by (N := ["base", "wide", "value", "pairs", "powers", "turn", "shares", "root", "word", "one", "other", "share"]) (sc := defScope sLIsCode) (by decide +kernel)) (fun _ _ _ _ _ => pg_tup rfl (pgs_cons (pg_name (i := 9) nd rfl (Or.inl rfl)) (pgs_cons (pg_name (i := 10) nd rfl (Or.inl rfl)) pgs_nil)))
          (fun _ _ _ _ _ => pts_one (PW.pt (pw_or (pt_cmpR (VG.op_geIS hun) (pv 9) (pv 10) (nomark _)) (pw_or1 (pt_val (pe_call GA hr1 rfl cA.mg cA.kp cA.b .nil pass0 (pa_cons (pv 9) (pa_cons (pv 10) pa_nil)))))))) (fun _ _ _ _ _ => pe_int)) (pe_lst pa_nil) (nomark _)) (pss_one (ps_ret pe_bl)) pss_nil)
      (pss_cons (ps_set (i := 4) nd rfl (.inr rfl) (pe_lst (pa_cons pe_int pa_nil)))
      (pss_cons (ps_for PassesOwn.never rfl (pi_range1 rfl nr (pa_cons (pe_callB (cr_max rfl) (by rfl) mx' PyProof.Rows.boot_max (pa_cons (pe_op op_cat (pe_lst (pa_cons pe_int pa_nil)) (pe_lc (own := [("root", 7), ("word", 8)]) (g := gTup K 2 (gCons (gName 7) (gCons (gName 8) gNil))) rfl nd (pi_tup (pv 2)) (blkOk_by (N := ["base", "wide", "value", "pairs", "powers", "turn", "shares", "root", "word", "one", "other", "share"]) (sc := defScope sLIsCode) (by decide +kernel)) (fun _ _ _ _ _ => pg_tup rfl (pgs_cons (pg_name (i := 7) nd rfl (Or.inl rfl)) (pgs_cons (pg_name (i := 8) nd rfl (Or.inl rfl)) pgs_nil)))
          (fun _ _ _ _ _ => pts_nil) (fun _ _ _ _ _ => pe_callB call_len_str (by rfl) N.len boot_len (pa_cons (pv 8) pa_nil)))) pa_nil)) pa_nil)) (pg_name (i := 5) nd rfl (.inl rfl))
        (pss_one (ps_expr (pe_bm PySem.F.plainAttrs_list PySem.F.slot_list_append PySem.F.type_list_append mt_append (pv 4) (pa_cons (pe_op op_mul (pe_ix ix_list (pv 4) (pe_un un_neg pe_int) (fun _ _ => rfl)) (pv 0)) pa_nil)))))
      (pss_cons (ps_set (i := 6) nd rfl (.inl rfl) (pe_op op_rep (pe_lst (pa_cons pe_int pa_nil)) (pv 1)))
      (pss_cons (ps_for PassesOwn.never rfl (pi_tup (pv 2)) (pg_tup rfl (pgs_cons (pg_name (i := 7) nd rfl (.inl rfl)) (pgs_cons (pg_name (i := 8) nd rfl (.inl rfl)) pgs_nil)))
        (pss_one (ps_asg (pe_op op_add (pe_ix ix_list (pv 6) (pv 7) (fun _ _ => rfl)) (pe_ix ix_list (pv 4) (pe_op op_sub (pe_op op_sub (pe_callB call_len_seq (by rfl) N.len boot_len (pa_cons (pv 4) pa_nil)) pe_int) (pe_callB call_len_str (by rfl) N.len boot_len (pa_cons (pv 8) pa_nil))) (fun _ _ => rfl))) (pg_sub (pv 6) (pv 7) set_list))))
      (pss_one (ps_ret (pe_cmpR (VG.op_eqL0 hun) (pe_lc (own := [("share", 11)]) (g := gName 11) rfl nd (pi_list (pv 6)) (blkOk_by (N := ["base", "wide", "value", "pairs", "powers", "turn", "shares", "root", "word", "one", "other", "share"]) (sc := defScope sLIsCode) (by decide +kernel)) (fun _ _ _ _ _ => pg_name (i := 11) nd rfl (Or.inl rfl))
          (fun _ _ _ _ _ => pts_one (pt_cmpR op_ne (pv 11) (pe_ix (show IxR _ (rIxL K) from ix_list) (pv 4) (pe_un un_neg pe_int) (fun _ _ => rfl)) (nomark _))) (fun _ _ _ _ _ => pv 11)) (pe_lst pa_nil) (nomark _)))))))))), ?_⟩
    have lg' : (∃ t, Pl H v t ∧ (∀ q xs, v = .ref q → H q ≠ some (.tup xs)) ∧ res = false) ∨ ∃ (p : Addr) (xs : List V) (rs : List Bool), v = .ref p ∧ H p = some (.tup xs) ∧ xs.length ≤ 5000 ∧ rs.length = xs.length ∧
        (∀ (i : Nat) (x : V) (r : Bool), xs[i]? = some x → rs[i]? = some r → PG H b R x r) ∧ ((rs.all id = false ∧ res = false) ∨ (rs.all id = true ∧ ∃ (L : Pr), xs = prefs L ∧ PGood b (mx (pfs L)) H L ∧ mx (pfs L) ≤ 1000 ∧ (∀ e ∈ L, e.2.1 < R) ∧ res = covT b (mx (pfs L)) R 0 0 (pfs L))) := by
      cases lg with
      | non p n => exact .inl ⟨_, p, n, rfl⟩
      | bad h n hl g no => exact .inr ⟨_, _, _, rfl, h, n, hl, g, .inl ⟨no, rfl⟩⟩
      | @fin p L h n g hm hrt =>
        refine .inr ⟨p, _, List.replicate L.length true, rfl, h, by rw [List.length_map]; exact n, by rw [List.length_replicate, List.length_map], fun i x r hx hr => ?_, .inr ⟨?_, L, rfl, g, hm, hrt, rfl⟩⟩
        · rw [List.getElem?_map] at hx
          cases z : L[i]? with
          | none => rw [z] at hx; cases hx
          | some e =>
            rw [z] at hx
            cases hx
            have em := List.mem_of_getElem? z
            have hi : i < L.length := (List.getElem?_eq_some_iff.mp z).1
            rw [List.getElem?_replicate, if_pos hi] at hr
            cases hr
            obtain ⟨g1, g2, g3⟩ := g e em
            exact pg_right g1 g2 (by omega) (hrt e em)
        · rw [List.all_eq_true]
          intro x hx
          rw [List.eq_of_mem_replicate hx]
          rfl
    rcases lg' with ⟨t, p, n, rfl⟩ | ⟨p, xs, rs, rfl, hp, n, hl, g, fin⟩
    · refine ⟨_, rfl, _, _, _, _, false, rfl, .ty "tuple", p.tyx, kit_tup p n, _, rfl, ?_⟩
      refine iteT ?_
      exact iteT (k H fun _ _ e => e)
    · refine ⟨_, rfl, _, _, _, _, true, rfl, .ty "tuple", (Pl.tup hp).tyx, kit_ty (by decide +kernel), _, rfl, ?_⟩
      refine iteF ?_
      refine ⟨_, rfl, p, rfl, ⟨_, SqT.of hp⟩, fun D hD => ?_⟩
      have sD : ∀ o, Same H (upd H D o) := fun o => same_new' hD
      have DH : ∀ {c o}, H c = some o → c ≠ D := fun e => ne_of_none e hD
      refine lc_tup (xs := xs) (fun i Hy => Same H Hy ∧ Hy D = some (.lst (((rs.take i).filter not).map fun _ => V.int 1))) ⟨sD _, upd_same⟩ ?_ ?_ ?_
      · rintro i Hy _ ⟨sy, _⟩
        exact SqT.of (sy _ _ hp)
      · rintro i x Hy hx ⟨sy, gy⟩
        have hi : i < xs.length := (List.getElem?_eq_some_iff.mp hx).1
        have hr : rs[i]? = some rs[i] := List.getElem?_eq_getElem (by omega)
        have ht : rs.take (i + 1) = rs.take i ++ [rs[i]] := by
          rw [List.take_add_one, hr]
          rfl
        refine ⟨rfl, _, rfl, _, rfl, _, rfl, b, (R : Int), x, _, rfl, b2, b5, pg_same (g i x _ hx hr) sy, fun H' s' => ?_⟩
        rw [ht, List.filter_append]
        have g' := s' _ _ gy
        cases hb : rs[i] with
        | true =>
          refine ⟨_, rfl, ?_⟩
          refine iteF ?_
          exact ⟨fun c o e => s' _ _ (sy _ _ e), by rw [show List.filter not [true] = [] from rfl, List.append_nil]; exact g'⟩
        | false =>
          refine ⟨_, rfl, ?_⟩
          refine iteT ?_
          refine ⟨_, g', ?_, fun c o e => by rw [upd_ne (DH e)]; exact s' _ _ (sy _ _ e), ?_⟩
          · rw [List.length_map]
            exact Nat.lt_of_le_of_lt (Nat.le_trans (List.length_filter_le _ _) (Nat.le_trans (List.length_take_le' _ _) (show rs.length ≤ 5000 by omega))) (by decide)
          · rw [upd_same, List.map_append]
            rfl
      · rintro Hy ⟨sy, gy⟩
        rw [show rs.take xs.length = rs by rw [← hl, List.take_length]] at gy
        refine ⟨(by show 0 ≤ sizeLine; exact Nat.zero_le _), fun q hq => ?_⟩
        have sq : Same Hy (upd Hy q (.lst [])) := same_new' hq
        refine ⟨D, q, _, rfl, rfl, SqL.of (sq _ _ gy), SqL.of upd_same, ?_⟩
        have sq' : Same H (upd Hy q (.lst [])) := fun c o e => sq _ _ (sy _ _ e)
        generalize upd Hy q (.lst []) = H1 at sq sq' ⊢
        have eb : (!decide (((rs.filter not).map fun _ => V.int 1) = [])) = !rs.all id := by
          cases ha : rs.all id with
          | true =>
            have e : rs.filter not = [] := List.filter_eq_nil_iff.mpr fun r hr z => by
              have := List.all_eq_true.mp ha r hr
              cases r with
              | true => cases z
              | false => cases this
            rw [e]
            rfl
          | false =>
            have ne : rs.filter not ≠ [] := fun e => by
              have a : rs.all id = true := List.all_eq_true.mpr fun r hr => by
                have := List.filter_eq_nil_iff.mp e r hr
                cases r with
                | true => rfl
                | false => exact absurd rfl this
              rw [a] at ha
              cases ha
            rw [decide_eq_false fun z => ne (List.map_eq_nil_iff.mp z)]
        rw [eb]
        rcases fin with ⟨no, rfl⟩ | ⟨yes, L, rfl, gL, hM, hrL, rfl⟩
        · rw [no]
          exact ⟨_, rfl, iteT (k _ sq')⟩
        · rw [yes]
          refine ⟨_, rfl, iteF ?_⟩
          have hp1 := sq' _ _ hp
          refine ⟨_, rfl, _, rfl, _, rfl, slN (slA_rest hp1 fun q2 J2 s2 g2 => ?_)⟩
          have hp2 := s2 _ _ hp1
          refine ⟨p, q2, prefs L, (prefs L).drop 1, rfl, hp2, g2, by omega, fun pq ts H3 npq pa => ?_⟩
          have s3 : Same H H3 := fun c o e => pa.old _ _ (s2 _ _ (sq' _ _ e))
          have g3 := pa.at_
          have tl : ts.length = (prefs L).length - 1 := by
            rw [pa.len, List.length_zip, List.length_drop]
            omega
          have lL : (prefs L).length = L.length := by rw [List.length_map]
          have lM : (pfs L).length = L.length := by rw [List.length_map]
          have te : ∀ (i : Nat) (t : Addr) (h : i + 1 < L.length), ts[i]? = some t → H3 t = some (.tup [.ref L[i].1, .ref L[i + 1].1]) := fun i t h ht => by
            refine pa.each i t (.ref L[i].1, .ref L[i + 1].1) ht (List.getElem?_zip_eq_some.mpr ⟨?_, ?_⟩)
            · rw [List.getElem?_map, List.getElem?_eq_getElem (show i < L.length by omega)]
              rfl
            · rw [List.getElem?_drop, Nat.add_comm 1 i, List.getElem?_map, List.getElem?_eq_getElem h]
              rfl
          clear pa
          refine ⟨_, rfl, pq, rfl, ⟨_, SqL.of g3⟩, fun D2 hD2 => ?_⟩
          have nD2 : ∀ {c o}, H3 c = some o → c ≠ D2 := fun e => ne_of_none e hD2
          refine lc_list (xs := ts.map V.ref) (fun i Hy => Hy = upd H3 D2 (.lst ((((nbr (pfs L)).take i).filter badP).map fun _ => V.int 1))) rfl ?_ ?_ ?_
          · rintro i Hy _ rfl
            exact SqL.of (by rw [upd_ne (nD2 g3)]; exact g3)
          · rintro i x Hy hx rfl
            have sy : ∀ o, Same H3 (upd H3 D2 o) := fun o => same_new' hD2
            obtain ⟨t, ht, rfl⟩ : ∃ t, ts[i]? = some t ∧ x = .ref t := by
              rw [List.getElem?_map] at hx
              cases z : ts[i]? with
              | none => rw [z] at hx; cases hx
              | some y => rw [z] at hx; cases hx; exact ⟨y, rfl, rfl⟩
            have hi : i < ts.length := (List.getElem?_eq_some_iff.mp ht).1
            have hi2 : i + 1 < L.length := by omega
            have gt := te i t hi2 ht
            have m1 : L[i] ∈ L := List.getElem_mem (by omega)
            have m2 : L[i + 1] ∈ L := List.getElem_mem hi2
            have hn : (nbr (pfs L))[i]? = some (L[i].2, L[i + 1].2) := by
              rw [nbr_at (by omega), List.getElem_map, List.getElem_map]
            obtain ⟨d1, d2, d3⟩ := gL _ m1
            obtain ⟨f1, f2, f3⟩ := gL _ m2
            have d1 := s3 _ _ d1
            have f1 := s3 _ _ f1
            generalize L[i] = e at d1 d2 d3 gt hn m1
            generalize L[i + 1] = e2 at f1 f2 f3 gt hn m2
            obtain ⟨p1, r1, w1⟩ := e
            obtain ⟨p2, r2, w2⟩ := e2
            have d1 : H3 p1 = some (.tup [.int (r1 : Int), .str (S w1)]) := d1
            have f1 : H3 p2 = some (.tup [.int (r2 : Int), .str (S w2)]) := f1
            have d3 : w1.length ≤ _ := d3
            have f3 : w2.length ≤ _ := f3
            have ht2 : (nbr (pfs L)).take (i + 1) = (nbr (pfs L)).take i ++ [((r1, w1), (r2, w2))] := by
              rw [List.take_add_one, hn]
              rfl
            rw [ht2, List.filter_append]
            have fin1 : ∀ (Hz : Hp), Hz = upd H3 D2 (.lst ((((nbr (pfs L)).take i).filter badP).map fun _ => V.int 1)) → badP ((r1, w1), (r2, w2)) = true → ∃ acc, Hz D2 = some (.lst acc) ∧ acc.length < sizeLine ∧ upd Hz D2 (.lst (acc ++ [V.int 1])) = upd H3 D2 (.lst ((((nbr (pfs L)).take i).filter badP ++ List.filter badP [((r1, w1), (r2, w2))]).map fun _ => V.int 1)) := by
              rintro Hz rfl hb
              refine ⟨_, upd_same, ?_, ?_⟩
              · rw [List.length_map]
                exact Nat.lt_of_le_of_lt (Nat.le_trans (List.length_filter_le _ _) (Nat.le_trans (List.length_take_le _ _) (show i ≤ 5000 by omega))) (by decide)
              · rw [upd_upd', List.filter_cons_of_pos hb, List.map_append]
                rfl
            have fin2 : ∀ (Hz : Hp), Hz = upd H3 D2 (.lst ((((nbr (pfs L)).take i).filter badP).map fun _ => V.int 1)) → badP ((r1, w1), (r2, w2)) = false → Hz = upd H3 D2 (.lst ((((nbr (pfs L)).take i).filter badP ++ List.filter badP [((r1, w1), (r2, w2))]).map fun _ => V.int 1)) := by
              rintro Hz rfl hb
              rw [List.filter_cons_of_neg (by rw [hb]; exact Bool.false_ne_true), List.filter_nil, List.append_nil]
            refine ⟨t, [.ref p1, .ref p2], rfl, SqT.of (sy _ _ _ gt), rfl, _, _, rfl, _, _, rfl, rfl, ?_⟩
            refine ⟨rfl, _, rfl, _, rfl, p1, p2, _, _, _, _, rfl, rfl, sy _ _ _ d1, sy _ _ _ f1, _, rfl, ?_⟩
            cases hb1 : VG.lexS ((r1 : Int), S w1) ((r2 : Int), S w2) with
            | false =>
              have hb : badP ((r1, w1), (r2, w2)) = true := by
                show (!VG.lexS ((r1 : Int), S w1) ((r2 : Int), S w2) || _) = true
                rw [hb1]
                rfl
              refine iteT ?_
              refine iteT ?_
              exact fin1 _ rfl hb
            | true =>
              have hb : badP ((r1, w1), (r2, w2)) = aboveB (r1, w1) (r2, w2) := by
                show (!VG.lexS ((r1 : Int), S w1) ((r2 : Int), S w2) || _) = _
                rw [hb1]
                rfl
              refine iteF ?_
              refine ⟨_, rfl, _, rfl, p1, p2, (r1, w1), (r2, w2), rfl, sy _ _ _ d1, sy _ _ _ f1, by show w1.length ≤ 9000; omega, by show w2.length ≤ 9000; omega, _, rfl, ?_⟩
              cases ha : aboveB (r1, w1) (r2, w2) with
              | true => exact iteT (fin1 _ rfl (by rw [hb, ha]))
              | false => exact iteF (fin2 _ rfl (by rw [hb, ha]))
          · rintro Hy rfl
            have ok : ∀ e ∈ pfs L, PfOk b (mx (pfs L)) R e := fun e he => by
              obtain ⟨x, hx, rfl⟩ := List.mem_map.mp he
              obtain ⟨z1, z2, z3⟩ := gL x hx
              exact ⟨hrL x hx, z2, z3⟩
            have b0 : 0 < b := by omega
            have fu : (nbr (pfs L)).take (ts.map V.ref).length = nbr (pfs L) := List.take_of_length_le (by
              rw [List.length_map, tl, lL]
              unfold nbr
              rw [List.length_zip, List.length_drop, lM]
              omega)
            rw [fu]
            have bc := bad_chain (M := pfs L) b0 ok
            have ci := cov_iff (roots := R) b0 ok
            have gD2 : upd H3 D2 (.lst (((nbr (pfs L)).filter badP).map fun _ => V.int 1)) D2 = some (.lst (((nbr (pfs L)).filter badP).map fun _ => V.int 1)) := upd_same
            have s4 : Same H (upd H3 D2 (.lst (((nbr (pfs L)).filter badP).map fun _ => V.int 1))) := fun c o e => same_new' hD2 _ _ (s3 _ _ e)
            generalize upd H3 D2 (.lst (((nbr (pfs L)).filter badP).map fun _ => V.int 1)) = H4 at gD2 s4 ⊢
            refine ⟨(by show 0 ≤ sizeLine; exact Nat.zero_le _), fun q5 nq5 => ?_⟩
            have s5 : Same H4 (upd H4 q5 (.lst [])) := same_new' nq5
            have g5 : upd H4 q5 (.lst []) q5 = some (.lst []) := upd_same
            generalize upd H4 q5 (.lst []) = H5 at s5 g5 ⊢
            refine ⟨D2, q5, _, rfl, rfl, SqL.of (s5 _ _ gD2), SqL.of g5, ?_⟩
            have s5 : Same H H5 := fun c o e => s5 _ _ (s4 _ _ e)
            by_cases cb : (nbr (pfs L)).filter badP = []
            · rw [cb]
              refine ⟨_, rfl, ?_⟩
              refine iteFB rfl ?_
              have ch := bc.mp cb
              clear g5 gD2 s4 te g3 s3
              refine ⟨(by show 1 ≤ sizeLine; decide), fun fw nfw => ?_⟩
              have s6 : Same H5 (upd H5 fw (.lst [.int 1])) := same_new' nfw
              have g6 : upd H5 fw (.lst [.int 1]) fw = some (.lst [.int 1]) := upd_same
              generalize upd H5 fw (.lst [.int 1]) = H6 at s6 g6 ⊢
              have s6 : Same H H6 := fun c o e => s6 _ _ (s5 _ _ e)
              refine ⟨(by show 1 ≤ sizeLine; decide), fun q6 n6 => ?_⟩
              have s7 : Same H6 (upd H6 q6 (.lst [.int 0])) := same_new' n6
              have g7 : upd H6 q6 (.lst [.int 0]) q6 = some (.lst [.int 0]) := upd_same
              generalize upd H6 q6 (.lst [.int 0]) = H7 at s7 g7 ⊢
              have gw7 := s7 _ _ g6
              have s7 : Same H H7 := fun c o e => s7 _ _ (s6 _ _ e)
              refine ⟨_, rfl, p, rfl, ⟨_, SqT.of (s7 _ _ hp)⟩, fun D3 nD3 => ?_⟩
              refine lc_tup (xs := prefs L) (fun i Hy => Hy = upd H7 D3 (.lst (((lens (pfs L)).take i).map V.int))) rfl ?_ ?_ ?_
              · rintro i Hy _ rfl
                exact SqT.of (same_new' nD3 _ _ (s7 _ _ hp))
              · rintro i x Hy hx rfl
                obtain ⟨e, he, rfl⟩ : ∃ e, L[i]? = some e ∧ x = .ref e.1 := by
                  rw [List.getElem?_map] at hx
                  cases z : L[i]? with
                  | none => rw [z] at hx; cases hx
                  | some y => rw [z] at hx; cases hx; exact ⟨y, rfl, rfl⟩
                obtain ⟨ge, gd, gl⟩ := gL e (List.mem_of_getElem? he)
                have ge := same_new' (o := .lst (((lens (pfs L)).take i).map V.int)) nD3 _ _ (s7 _ _ ge)
                have hl : (lens (pfs L))[i]? = some (e.2.2.length : Int) := by
                  unfold lens
                  rw [List.getElem?_map, List.getElem?_map, he]
                  rfl
                obtain ⟨pe, r, wd⟩ := e
                have ge : upd H7 D3 (.lst (((lens (pfs L)).take i).map V.int)) pe = some (.tup [.int (r : Int), .str (S wd)]) := ge
                have gl : wd.length ≤ _ := gl
                have hl : (lens (pfs L))[i]? = some (wd.length : Int) := hl
                refine ⟨pe, _, rfl, SqT.of ge, rfl, _, _, rfl, _, _, rfl, rfl, rfl, _, rfl, _, rfl, small_lenG (by omega), _, upd_same, ?_, ?_⟩
                · rw [List.length_map]
                  have : i < L.length := (List.getElem?_eq_some_iff.mp he).1
                  exact Nat.lt_of_le_of_lt (Nat.le_trans (List.length_take_le _ _) (show i ≤ 5000 by omega)) (by decide)
                · rw [upd_upd', List.take_add_one, hl, List.map_append, S_len]
                  rfl
              · rintro Hy rfl
                rw [lL, show (lens (pfs L)).take L.length = lens (pfs L) from List.take_of_length_le (by unfold lens; rw [List.length_map, lM]; exact Nat.le_refl _)]
                have g8 : upd H7 D3 (.lst ((lens (pfs L)).map V.int)) D3 = some (.lst ((lens (pfs L)).map V.int)) := upd_same
                have s8 : Same H7 (upd H7 D3 (.lst ((lens (pfs L)).map V.int))) := same_new' nD3
                generalize upd H7 D3 (.lst ((lens (pfs L)).map V.int)) = H8 at g8 s8 ⊢
                refine ⟨q6, D3, [.int 0], _, rfl, rfl, s8 _ _ g7, g8, ?_, fun q9 n9 => ?_⟩
                · unfold lens
                  rw [List.length_map, List.length_map, lM]
                  exact Nat.le_trans (show 1 + L.length ≤ 6000 by omega) (by decide)
                have g9 : upd H8 q9 (.lst ([V.int 0] ++ (lens (pfs L)).map V.int)) q9 = some (.lst (((0 : Int) :: lens (pfs L)).map V.int)) := upd_same
                have s9 : Same H8 (upd H8 q9 (.lst ([V.int 0] ++ (lens (pfs L)).map V.int))) := same_new' n9
                generalize upd H8 q9 (.lst ([V.int 0] ++ (lens (pfs L)).map V.int)) = H9 at g9 s9 ⊢
                have gw9 := s9 _ _ (s8 _ _ gw7)
                have s9 : Same H H9 := fun c o e => s9 _ _ (s8 _ _ (s7 _ _ e))
                refine ⟨q9, _, rfl, SqL.of g9, Nat.succ_pos _, fun m hm hy => ?_⟩
                obtain rfl := mx_max hm hy
                refine ⟨_, rfl, by omega, by omega, ?_⟩
                rw [Int.toNat_natCast]
                clear g9 g8 g7 gw7 s8 s7 s6 g6
                refine for_range (fun i σ Hx => ∃ u5 : Option V, σ = [some (.int (b : Int)), some (.int (R : Int)), some (.ref p), some (.ref pq), some (.ref fw), u5, none, none, none, none, none, none] ∧ Same H Hx ∧ Hx fw = some (.lst (pows b (i + 1)))) ⟨none, rfl, s9, gw9⟩ ?_ ?_
                · rintro i σ Hx hi ⟨u5, rfl, sx, gx⟩
                  have pl : (pows b (i + 1)).length = i + 1 := by
                    unfold pows
                    rw [List.length_map, List.length_range]
                  have at1 : atI (pows b (i + 1)) (-1) = some (.int ((b ^ i : Nat) : Int)) := by
                    rw [pows_succ]
                    exact atI_last _ _
                  refine ⟨_, rfl, .inl ⟨rfl, _, SqL.of gx⟩, _, rfl, _, rfl, fw, _, _, _, rfl, rfl, SqL.of gx, at1, _, rfl, _, _, rfl, rfl, .inr ⟨by omega, by omega⟩, fw, _, _, rfl, rfl, gx, ?_, ?_⟩
                  · rw [pl]
                    exact Nat.lt_of_le_of_lt (show i + 1 ≤ 1000 by omega) (by decide)
                  · refine ⟨_, rfl, fun c o e => ?_, ?_⟩
                    · rw [upd_ne (ne_of_none (s5 _ _ e) nfw)]
                      exact sx _ _ e
                    · rw [upd_same, pows_succ b (i + 1), Nat.pow_succ, Int.natCast_mul]
                · rintro σ Hx ⟨u5, rfl, sx, gx⟩
                  refine ⟨(by show 1 ≤ sizeLine; decide), fun q1 n1 => ?_⟩
                  have g1 : upd Hx q1 (.lst [.int 0]) q1 = some (.lst [.int 0]) := upd_same
                  have s1 : Same Hx (upd Hx q1 (.lst [.int 0])) := same_new' n1
                  generalize upd Hx q1 (.lst [.int 0]) = J1 at g1 s1 ⊢
                  refine ⟨_, rfl, q1, (R : Int), _, rfl, rfl, g1, by omega, by omega, ?_, fun fs nfs => ?_⟩
                  · rw [Int.toNat_natCast]
                    exact Nat.le_trans (show 1 * R ≤ 1000 by omega) (by decide)
                  rw [Int.toNat_natCast, shrs_nil (b := b) (N := mx (pfs L))]
                  have g2 : upd J1 fs (.lst (shrs b (mx (pfs L)) R [])) fs = some (.lst (shrs b (mx (pfs L)) R [])) := upd_same
                  have s2 : Same J1 (upd J1 fs (.lst (shrs b (mx (pfs L)) R []))) := same_new' nfs
                  generalize upd J1 fs (.lst (shrs b (mx (pfs L)) R [])) = J2 at g2 s2 ⊢
                  have gw2' := gx
                  have nfs : ∀ {c o}, Hx c = some o → c ≠ fs := fun e => ne_of_none (s1 _ _ e) nfs
                  have s2 : Same Hx J2 := fun c o e => s2 _ _ (s1 _ _ e)
                  clear s1 g1
                  refine ⟨_, rfl, p, rfl, ⟨_, SqT.of (s2 _ _ (sx _ _ hp))⟩, for_tup (xs := prefs L) (fun i σ Hy => ∃ u7 u8 : Option V, σ = [some (.int (b : Int)), some (.int (R : Int)), some (.ref p), some (.ref pq), some (.ref fw), u5, some (.ref fs), u7, u8, none, none, none] ∧ (∀ c o, Hx c = some o → Hy c = some o) ∧ Hy fs = some (.lst (shrs b (mx (pfs L)) R ((pfs L).take i)))) ?_ ?_ ?_ ?_⟩
                  · exact ⟨none, none, rfl, s2, g2⟩
                  · rintro i σ Hy _ ⟨u7, u8, rfl, sy, gy⟩
                    exact SqT.of (sy _ _ (sx _ _ hp))
                  · rintro i x σ Hy hx ⟨u7, u8, rfl, sy, gy⟩
                    obtain ⟨e, he, rfl⟩ : ∃ e, L[i]? = some e ∧ x = .ref e.1 := by
                      rw [List.getElem?_map] at hx
                      cases z : L[i]? with
                      | none => rw [z] at hx; cases hx
                      | some y => rw [z] at hx; cases hx; exact ⟨y, rfl, rfl⟩
                    have em := List.mem_of_getElem? he
                    obtain ⟨ge, gd, gl⟩ := gL e em
                    have rr := hrL e em
                    have ge := sy _ _ (sx _ _ ge)
                    have hM : (pfs L).take (i + 1) = (pfs L).take i ++ [e.2] := by
                      rw [List.take_add_one, List.getElem?_map, he]
                      rfl
                    obtain ⟨pe, r, wd⟩ := e
                    have ge : Hy pe = some (.tup [.int (r : Int), .str (S wd)]) := ge
                    have gl : wd.length ≤ mx (pfs L) := gl
                    have rr : r < R := rr
                    have hM : (pfs L).take (i + 1) = (pfs L).take i ++ [(r, wd)] := hM
                    have gwy := sy _ _ gw2'
                    have a1 : atI (shrs b (mx (pfs L)) R ((pfs L).take i)) (r : Int) = some (.int ((tot b (mx (pfs L)) r ((pfs L).take i) : Nat) : Int)) := atI_nat (shrs_at rr)
                    have a2 : atI (pows b (mx (pfs L) + 1)) ((mx (pfs L) - wd.length : Nat) : Int) = some (.int ((b ^ (mx (pfs L) - wd.length) : Nat) : Int)) := atI_nat (by
                      unfold pows
                      rw [List.getElem?_map, List.getElem?_range (by omega)]
                      rfl)
                    refine ⟨pe, _, rfl, SqT.of ge, rfl, _, _, rfl, _, _, rfl, rfl, ?_⟩
                    refine ⟨_, rfl, _, rfl, fs, _, _, _, rfl, rfl, SqL.of gy, a1, _, rfl, ?_⟩
                    refine ⟨_, rfl, fw, _, rfl, .inl (SqL.of gwy), _, _, rfl, rfl, _, rfl, _, rfl, small_lenG (l := wd) (by omega), _, _, rfl, rfl, fw, _, _, .int ((b ^ (mx (pfs L) - wd.length) : Nat) : Int), rfl, rfl, SqL.of gwy, ?_, ?_⟩
                    rotate_left
                    · refine ⟨_, _, rfl, rfl, _, rfl, _, rfl, fs, _, _, r, rfl, rfl, gy, ixN_nat (by rw [shrs_len]; exact rr), some (.int (r : Int)), some (.str (S wd)), rfl, fun c o ec => ?_, ?_⟩
                      · rw [upd_ne (nfs ec)]
                        exact sy _ _ ec
                      · rw [upd_same, hM, ← shrs_set]
                    · rw [← a2]
                      congr 1
                      rw [S_len, show (pows b (mx (pfs L) + 1)).length = mx (pfs L) + 1 from by unfold pows; rw [List.length_map, List.length_range]]
                      omega
                  · rintro σ Hy ⟨u7, u8, rfl, sy, gy⟩
                    have fu : (pfs L).take (prefs L).length = pfs L := List.take_of_length_le (by rw [lM, lL]; exact Nat.le_refl _)
                    rw [fu] at gy
                    have gwy := sy _ _ gw2'
                    have sy : Same H Hy := fun c o e => sy _ _ (sx _ _ e)
                    refine ⟨_, rfl, fs, rfl, ⟨_, SqL.of gy⟩, fun D4 nD4 => ?_⟩
                    refine lc_list (xs := shrs b (mx (pfs L)) R (pfs L)) (fun i Hz => Hz = upd Hy D4 (.lst (((shrs b (mx (pfs L)) R (pfs L)).take i).filter fun v => !decide (v = V.int ((b ^ mx (pfs L) : Nat) : Int))))) rfl ?_ ?_ ?_
                    · rintro i Hz _ rfl
                      exact SqL.of (same_new' nD4 _ _ gy)
                    · rintro i x Hz hx rfl
                      have hi : i < R := by
                        have := (List.getElem?_eq_some_iff.mp hx).1
                        rw [shrs_len] at this
                        exact this
                      have hx' := hx
                      rw [shrs_at hi] at hx'
                      obtain rfl := Option.some.inj hx'
                      have ht : (shrs b (mx (pfs L)) R (pfs L)).take (i + 1) = (shrs b (mx (pfs L)) R (pfs L)).take i ++ [V.int ((tot b (mx (pfs L)) i (pfs L) : Nat) : Int)] := by
                        rw [List.take_add_one, hx]
                        rfl
                      rw [ht, List.filter_append]
                      have gwz := same_new' (o := .lst (((shrs b (mx (pfs L)) R (pfs L)).take i).filter fun v => !decide (v = V.int ((b ^ mx (pfs L) : Nat) : Int)))) nD4 _ _ gwy
                      refine ⟨rfl, _, rfl, _, rfl, _, rfl, fw, _, _, .int ((b ^ mx (pfs L) : Nat) : Int), rfl, rfl, SqL.of gwz, by rw [pows_succ]; exact atI_last _ _, rfl, _, rfl, ?_⟩
                      by_cases c : V.int ((tot b (mx (pfs L)) i (pfs L) : Nat) : Int) = V.int ((b ^ mx (pfs L) : Nat) : Int)
                      · rw [decide_eq_true c]
                        refine iteF ?_
                        rw [List.filter_cons_of_neg (by rw [decide_eq_true c]; exact Bool.false_ne_true), List.filter_nil, List.append_nil]
                      · rw [decide_eq_false c]
                        refine iteT ?_
                        refine ⟨_, rfl, _, upd_same, ?_, ?_⟩
                        · refine Nat.lt_of_le_of_lt (Nat.le_trans (List.length_filter_le _ _) (Nat.le_trans (List.length_take_le _ _) (show i ≤ 100 by omega))) (by decide)
                        · rw [upd_upd', List.filter_cons_of_pos (by rw [decide_eq_false c]; rfl)]
                          rfl
                    · rintro Hz rfl
                      rw [show (shrs b (mx (pfs L)) R (pfs L)).take (shrs b (mx (pfs L)) R (pfs L)).length = _ from List.take_length]
                      have sw := shrs_whole (b := b) (N := mx (pfs L)) (R := R) (M := pfs L) (w := b ^ mx (pfs L))
                      have g4 : upd Hy D4 (.lst ((shrs b (mx (pfs L)) R (pfs L)).filter fun v => !decide (v = V.int ((b ^ mx (pfs L) : Nat) : Int)))) D4 = _ := upd_same
                      have s4 : Same H (upd Hy D4 (.lst ((shrs b (mx (pfs L)) R (pfs L)).filter fun v => !decide (v = V.int ((b ^ mx (pfs L) : Nat) : Int))))) := fun c o e => same_new' nD4 _ _ (sy _ _ e)
                      generalize upd Hy D4 (.lst ((shrs b (mx (pfs L)) R (pfs L)).filter fun v => !decide (v = V.int ((b ^ mx (pfs L) : Nat) : Int)))) = J4 at g4 s4 ⊢
                      refine ⟨(by show 0 ≤ sizeLine; exact Nat.zero_le _), fun q8 nq8 => ?_⟩
                      refine ⟨D4, q8, _, rfl, rfl, SqL.of (same_new' nq8 _ _ g4), SqL.of upd_same, ?_⟩
                      have ev : decide (((shrs b (mx (pfs L)) R (pfs L)).filter fun v => !decide (v = V.int ((b ^ mx (pfs L) : Nat) : Int))) = []) = covT b (mx (pfs L)) R 0 0 (pfs L) := by
                        rw [Bool.eq_iff_iff, decide_eq_true_eq, ci, sw]
                        exact ⟨fun h => ⟨ch, h⟩, fun h => h.2⟩
                      rw [ev]
                      exact k _ fun c o e => same_new' nq8 _ _ (s4 _ _ e)
            · have cf : covT b (mx (pfs L)) R 0 0 (pfs L) = false := by
                cases z : covT b (mx (pfs L)) R 0 0 (pfs L) with
                | false => rfl
                | true => exact absurd (bc.mpr (ci.mp z).1) cb
              rw [cf] at k
              rw [decide_eq_false fun z => cb (List.map_eq_nil_iff.mp z)]
              refine ⟨_, rfl, ?_⟩
              refine iteTB rfl ?_
              exact k _ s5
end
end Vf


set_option Elab.async false
set_option maxRecDepth 100000
set_option maxHeartbeats 8000000
set_option exponentiation.threshold 3000
/-! Whether prefixes are a code does not hang on how fine the shares are. -/
namespace Vf
open PySem L2 SX
theorem tot_more {b N k r : Nat} : ∀ {M : List Pf}, (∀ e ∈ M, e.2.length ≤ N) → tot b (N + k) r M = tot b N r M * b ^ k
  | [], _ => (Nat.zero_mul _).symm
  | e :: M, h => by
    have ih := tot_more (b := b) (k := k) (r := r) fun x hx => h x (List.mem_cons_of_mem e hx)
    have he := h e List.mem_cons_self
    show (if e.1 = r then b ^ (N + k - e.2.length) else 0) + tot b (N + k) r M = ((if e.1 = r then b ^ (N - e.2.length) else 0) + tot b N r M) * b ^ k
    rw [ih, Nat.add_mul]
    by_cases c : e.1 = r
    · rw [if_pos c, if_pos c, ← Nat.pow_add, show N + k - e.2.length = N - e.2.length + k by omega]
    · rw [if_neg c, if_neg c, Nat.zero_mul]
theorem cov_more {b N k R : Nat} (b0 : 0 < b) {M : List Pf} (ok : ∀ e ∈ M, PfOk b N R e) : covT b (N + k) R 0 0 M = covT b N R 0 0 M := by
  have ok' : ∀ e ∈ M, PfOk b (N + k) R e := fun e he => ⟨(ok e he).r, (ok e he).dg, by have := (ok e he).le; omega⟩
  rw [Bool.eq_iff_iff, cov_iff b0 ok', cov_iff b0 ok, ← bad_chain b0 ok', ← bad_chain b0 ok]
  refine and_congr_right fun _ => forall_congr' fun r => forall_congr' fun _ => ?_
  rw [tot_more fun e he => (ok e he).le, Nat.pow_add]
  exact ⟨fun h => Nat.eq_of_mul_eq_mul_right (Nat.pow_pos b0) h, fun h => by rw [h]⟩
/-- the law and the program say the same of the same prefixes -/
theorem cov_mx {b N R : Nat} (b0 : 0 < b) {M : List Pf} (ok : ∀ e ∈ M, PfOk b N R e) : covT b N R 0 0 M = covT b (mx M) R 0 0 M := by
  have h : mx M ≤ N := by
    rcases mx_mem M with z | ⟨e, he, z⟩
    · omega
    · have := (ok e he).le
      omega
  have ok' : ∀ e ∈ M, PfOk b (mx M) R e := fun e he => ⟨(ok e he).r, (ok e he).dg, mx_le he⟩
  have := cov_more (k := N - mx M) b0 ok'
  rw [show mx M + (N - mx M) = N by omega] at this
  exact this
/-- what the program is asked follows from what the law says -/
theorem LG.cg {H : Hp} {b R : Nat} {v : V} {r : Bool} (g : LG H b R v r) : CG H b R v r := by
  cases g with
  | non p n => exact .non p n
  | bad h n hl g no => exact .bad h n hl g no
  | fin h n g hm hr => exact .fin h n g (by omega) hr
end Vf


set_option Elab.async false
set_option maxRecDepth 100000
set_option maxHeartbeats 8000000
set_option exponentiation.threshold 3000
/-! What the law says of a value of any depth. -/
namespace Vf
open PySem L2 SX Vm VG
theorem plc_good {a : Addr} {H : Hp} {v : V} {d : PyData} {N n m b R : Nat} (h : Vd a H v d) (f : Fine N n m d) (g : plcD b (R : Int) d = true) : ∃ (p : Addr) (e : Pf), v = .ref p ∧ H p = some (pfO e) ∧ Dg b e.2 ∧ e.2.length ≤ m ∧ e.1 < R := by
  cases h with
  | @tup p xs ds n1 e r =>
    match ds, g with
    | [r0, x0], g =>
      obtain ⟨u, y, rfl, h1, h2⟩ := vd_two r
      have fl := fine_tup.mp (f.up (Nat.le_refl _) (Nat.le_succ _) (Nat.le_refl _))
      obtain ⟨k, j, hk, f1, f2⟩ := fl.head
      obtain ⟨k2, j2, hk2, f3, _⟩ := f2.head
      have g : (cntD 0 ((R : Int) - 1) r0 && digD b x0) = true := g
      rw [Bool.and_eq_true] at g
      obtain ⟨g1, g2⟩ := g
      cases h1 with
      | int i =>
        have g1 : (decide ((0 : Int) ≤ i) && decide (i ≤ (R : Int) - 1)) = true := g1
        rw [Bool.and_eq_true, decide_eq_true_eq, decide_eq_true_eq] at g1
        obtain ⟨i, rfl⟩ := Int.eq_ofNat_of_zero_le g1.1
        cases h2 with
        | str x =>
          have g2 : (x.cps.toList.all fun c => decide (48 ≤ c) && decide (c < 48 + b)) = true := g2
          have xs : x = S x.cps.toList := rfl
          refine ⟨p, (i, x.cps.toList), rfl, ?_, fun c hc => ?_, ?_, by show i < R; omega⟩
          · rw [e]
          · have := List.all_eq_true.mp g2 c hc
            rw [Bool.and_eq_true, decide_eq_true_eq, decide_eq_true_eq] at this
            exact this
          · show x.cps.toList.length ≤ m
            rw [Array.length_toList]
            exact Nat.le_trans f3.str_.2 (by omega)
        | _ => cases g2
      | _ => cases g1
    | [], g => cases g
    | [_], g => cases g
    | _ :: _ :: _ :: _, g => cases g
  | _ => cases g
theorem all_good {a : Addr} {H : Hp} {N n b R : Nat} : ∀ {xs : List V} {ds : List PyData} {m : Nat}, VdAll a H xs ds → FineL N n m ds → (ds.all fun d => plcD b (R : Int) d) = true → ∃ L : Pr, xs = prefs L ∧ (∀ e ∈ L, H e.1 = some (pfO e.2) ∧ Dg b e.2.2 ∧ e.2.2.length ≤ m) ∧ ∀ e ∈ L, e.2.1 < R
  | _, _, m, .nil, _, _ => ⟨[], rfl, fun e he => (by cases he), fun e he => (by cases he)⟩
  | _, _, m, .cons (ds := ds) h r, f, g => by
    obtain ⟨k, j, hm, f1, f2⟩ := f.head
    rw [List.all_cons, Bool.and_eq_true] at g
    obtain ⟨p, e, rfl, h1, h2, h3, h4⟩ := plc_good h f1 g.1
    obtain ⟨L, rfl, l1, l2⟩ := all_good r f2 g.2
    refine ⟨(p, e) :: L, rfl, fun x hx => ?_, fun x hx => ?_⟩
    · rcases List.mem_cons.mp hx with z | z
      · rw [z]
        exact ⟨h1, h2, by show e.2.length ≤ m; omega⟩
      · obtain ⟨a1, a2, a3⟩ := l1 x z
        exact ⟨a1, a2, by omega⟩
    · rcases List.mem_cons.mp hx with z | z
      · rw [z]
        exact h4
      · exact l2 x z
theorem mx_le_of {L : List Pf} {m : Nat} (h : ∀ e ∈ L, e.2.length ≤ m) : mx L ≤ m := by
  rcases mx_mem L with z | ⟨e, he, z⟩
  · omega
  · have := h e he
    omega
/-- each value of any depth is told -/
theorem vd_lg {a : Addr} {H : Hp} {v : V} {d : PyData} {N n m b R : Nat} (h : Vd a H v d) (f : Fine N n m d) (hm : m ≤ 1000) : ∃ r, LG H b R v r := by
  obtain ⟨t, pl⟩ := vd_pl h f (Nat.le_trans hm (by decide))
  cases h with
  | @tup p xs ds n1 e r =>
    have fl := fine_tup.mp (f.up (Nat.le_refl _) (Nat.le_succ _) (Nat.le_refl _))
    have ln : xs.length ≤ 5000 := by
      have := fl.len
      rw [r.len]
      omega
    cases g : ds.all fun d => plcD b (R : Int) d with
    | true =>
      obtain ⟨L, rfl, l1, l2⟩ := all_good r fl g
      have lm : mx (pfs L) ≤ m := mx_le_of fun x hx => by
        obtain ⟨y, hy, rfl⟩ := List.mem_map.mp hx
        exact (l1 y hy).2.2
      refine ⟨_, .fin e (by rw [List.length_map] at ln; exact ln) (fun x hx => ?_) (by omega) l2⟩
      exact ⟨(l1 x hx).1, (l1 x hx).2.1, mx_le (List.mem_map.mpr ⟨x, hx, rfl⟩)⟩
    | false =>
      refine ⟨false, .bad (rs := ds.map fun d => plcD b (R : Int) d) e ln (by rw [List.length_map, r.len]) (fun i x q hx hq => ?_) ?_⟩
      · obtain ⟨d, hd, vd⟩ := r.at_ hx
        rw [List.getElem?_map, hd] at hq
        cases hq
        obtain ⟨k, j, hk, fd, _⟩ := fl.at_ hd
        exact vd_pg vd fd (by omega)
      · rw [List.all_map]
        exact g
  | non => exact ⟨false, .non pl (vd_nt (a := a) .non fun _ z => nomatch z)⟩
  | bl b => exact ⟨false, .non pl (vd_nt (a := a) (.bl b) fun _ z => nomatch z)⟩
  | int i => exact ⟨false, .non pl (vd_nt (a := a) (.int i) fun _ z => nomatch z)⟩
  | str x => exact ⟨false, .non pl (vd_nt (a := a) (.str x) fun _ z => nomatch z)⟩
  | lst n1 n2 e r => exact ⟨false, .non pl (vd_nt (a := a) (.lst n1 n2 e r) fun _ z => nomatch z)⟩
  | d0 n1 e => exact ⟨false, .non pl (vd_nt (a := a) (.d0 n1 e) fun _ z => nomatch z)⟩
  | d1 n1 e => exact ⟨false, .non pl (vd_nt (a := a) (.d1 n1 e) fun _ z => nomatch z)⟩
end Vf


set_option Elab.async false
set_option maxRecDepth 100000
set_option maxHeartbeats 8000000
set_option exponentiation.threshold 3000
/-! Rows as values. -/
namespace Vf
open PySem L2 SX Vm VG
theorem rows_vd {a : Addr} {H : Hp} : ∀ {L : Pr}, (∀ e ∈ L, e.1 ≠ a ∧ H e.1 = some (pfO e.2)) → VdAll a H (prefs L) (L.map fun e => pfD e.2)
  | [], _ => .nil
  | e :: L, g => .cons (.tup (g e List.mem_cons_self).1 (g e List.mem_cons_self).2 (.cons (.int _) (.cons (.str _) .nil))) (rows_vd fun x hx => g x (List.mem_cons_of_mem _ hx))
theorem pf_fine {e : Pf} {w : Nat} (h1 : e.1 ≤ 200) (h2 : e.2.length ≤ w) (h3 : ∀ c ∈ e.2, c < 128) : Fine N0 1 (w + 2) (pfD e) := by
  have f1 : Fine N0 0 0 (.int (e.1 : Int)) := fine_int (by rw [Int.natAbs_natCast]; exact Nat.le_trans h1 (by decide))
  have f2 : Fine N0 0 w (.str (S e.2)) := fine_str (fun c hc => h3 c (by simpa using hc)) (by rw [S_len]; exact h2)
  exact (fine_tup.mpr (fineL_cons f1 (fineL_cons f2 fineL_nil (k := 0)))).up (Nat.le_refl _) (Nat.le_refl _) (by omega)
theorem rows_fine {w : Nat} : ∀ {L : Pr}, (∀ e ∈ L, e.2.1 ≤ 200 ∧ e.2.2.length ≤ w ∧ ∀ c ∈ e.2.2, c < 128) → FineL N0 1 (L.length * (w + 3)) (L.map fun e => pfD e.2)
  | [], _ => fineL_nil
  | e :: L, g => by
    obtain ⟨h1, h2, h3⟩ := g e List.mem_cons_self
    refine (fineL_cons (pf_fine h1 h2 h3) (rows_fine fun x hx => g x (List.mem_cons_of_mem _ hx))).up (Nat.le_refl _) (Nat.le_refl _) ?_
    rw [List.length_cons, Nat.add_mul]
    omega
/-- a list of values, told of one by one -/
structure FL (a : Addr) (H : Hp) (D : Addr) (xs : List V) (ds : List PyData) : Prop where
  at_ : H D = some (.lst xs)
  ne : D ≠ a
  vd : VdAll a H xs ds
  fine : ∀ x ∈ ds, Fine N0 20 900 x
  len : xs.length ≤ 40
theorem FL.same {a : Addr} {H H' : Hp} {D : Addr} {xs : List V} {ds : List PyData} (f : FL a H D xs ds) (s : Same H H') : FL a H' D xs ds := ⟨s _ _ f.at_, f.ne, VdAll.keep (fun q o _ _ e => s _ _ e) _ _ f.vd, f.fine, f.len⟩
end Vf


set_option Elab.async false
set_option maxRecDepth 100000
set_option maxHeartbeats 8000000
set_option exponentiation.threshold 3000
/-! A list that grows beside the die. -/
namespace Vf
open PySem L2 SX Vm VG
def hid (J : Hp) (f : Addr) : Hp := fun q => if q = f then none else J q
theorem hid_ne {J : Hp} {f q : Addr} (h : q ≠ f) : hid J f q = J q := if_neg h
theorem hid_some {J : Hp} {f q : Addr} {o : HO} (h : hid J f q = some o) : q ≠ f ∧ J q = some o := by
  by_cases c : q = f
  · rw [c] at h
    have : hid J f f = none := if_pos rfl
    rw [this] at h
    cases h
  · rw [hid_ne c] at h
    exact ⟨c, h⟩
/-- what has grown beside the die a and the list f -/
structure Gf (a f : Addr) (D : List V) (H0 J : Hp) (vs : List V) (ds : List PyData) : Prop where
  kp : ∀ c o, c ≠ a → H0 c = some o → J c = some o
  n0 : H0 f = none
  nf : f ≠ a
  da : J a = some (.lst D)
  fa : J f = some (.lst vs)
  r : VdAll a (hid J f) vs ds
variable {a f p : Addr} {D D' : List V} {H0 J : Hp} {vs : List V} {ds : List PyData} {o : HO} {v : V} {d : PyData}
theorem Gf.old (g : Gf a f D H0 J vs ds) {c : Addr} {o : HO} (h : c ≠ a) (e : H0 c = some o) : hid J f c = some o := by
  rw [hid_ne (ne_of_none e g.n0)]
  exact g.kp _ _ h e
theorem Gf.new (g : Gf a f D H0 J vs ds) (n : J p = none) : Gf a f D H0 (upd J p o) vs ds :=
  ⟨fun c u h e => by rw [upd_ne (ne_of_none (g.kp _ _ h e) n)]; exact g.kp _ _ h e, g.n0, g.nf, by rw [upd_ne (ne_of_none g.da n)]; exact g.da, by rw [upd_ne (ne_of_none g.fa n)]; exact g.fa,
    VdAll.keep (fun q u _ _ e => by
      obtain ⟨n1, e⟩ := hid_some e
      rw [hid_ne n1, upd_ne (ne_of_none e n)]
      exact e) _ _ g.r⟩
theorem Gf.push (g : Gf a f D H0 J vs ds) (h : Vd a (hid J f) v d) : Gf a f D H0 (upd J f (.lst (vs ++ [v]))) (vs ++ [v]) (ds ++ [d]) :=
  ⟨fun c u h e => by rw [upd_ne (ne_of_none e g.n0)]; exact g.kp _ _ h e, g.n0, g.nf, by rw [upd_ne g.nf.symm]; exact g.da, upd_same,
    VdAll.keep (H := hid J f) (fun q u _ _ e => by
      obtain ⟨n1, e⟩ := hid_some e
      rw [hid_ne n1, upd_ne n1]
      exact e) _ _ (g.r.app (.cons h .nil))⟩
theorem Gf.moved {J' : Hp} (g : Gf a f D H0 J vs ds) (k : ∀ c o, c ≠ a → J c = some o → J' c = some o) (e : J' a = some (.lst D')) : Gf a f D' H0 J' vs ds :=
  ⟨fun c u h e => k _ _ h (g.kp _ _ h e), g.n0, g.nf, e, k _ _ g.nf g.fa, VdAll.keep (fun q u h _ e => by
      obtain ⟨n1, e⟩ := hid_some e
      rw [hid_ne n1]
      exact k _ _ h e) _ _ g.r⟩
theorem Gf.all (g : Gf a f D H0 J vs ds) : VdAll a J vs ds := VdAll.keep (fun q u _ _ e => (hid_some e).2) _ _ g.r
theorem Gf.start {J0 : Hp} (k : ∀ c o, c ≠ a → H0 c = some o → J0 c = some o) (da : J0 a = some (.lst D)) (n : J0 f = none) (n0 : H0 f = none) (r : VdAll a J0 vs ds) : Gf a f D H0 (upd J0 f (.lst vs)) vs ds :=
  ⟨fun c u h e => by rw [upd_ne (ne_of_none (k _ _ h e) n)]; exact k _ _ h e, n0, (ne_of_none da n).symm, by rw [upd_ne (ne_of_none da n)]; exact da, upd_same,
    VdAll.keep (fun q u _ _ e => by
      rw [hid_ne (ne_of_none e n), upd_ne (ne_of_none e n)]
      exact e) _ _ r⟩
theorem shaped_pf {e : Pf} (h : ∀ c ∈ e.2, c < 100) : SeqAt.shaped (pfD e) = true := by
  show (PyData.canLay0 (pfD e) && decide (PyData.depth (pfD e) ≤ 64)) = true
  rw [Bool.and_eq_true]
  refine ⟨?_, decide_eq_true (by show (1 : Nat) ≤ 64; decide)⟩
  show (PyData.canLay0 (.int (e.1 : Int)) && (PyData.canLay0 (.str (S e.2)) && true)) = true
  rw [lay_S h]
  rfl
end Vf


set_option Elab.async false
set_option maxRecDepth 100000
set_option maxHeartbeats 8000000
set_option exponentiation.threshold 3000
/-! A list that is set aside while an expression runs: nothing that the expression hands back holds it. -/
namespace Vf
open PySem PySem.Spec PyProof.Rows L2 SX Vm VG
section
variable {X : Cx} {pins : List (Addr × Obj)} {σ : L2.St} {H H1 : Hp} {s s1 : Shared} {f : Addr} {xs : List V} {o : Obj}
theorem hid_none {b : Addr} (n : H b = none) : hid H f b = none := by
  unfold hid
  split
  · rfl
  · exact n
theorem inv_fs (I : Inv X pins σ H s) {b : Addr} (hb : b ∈ X.fs) : H b = none := by
  obtain ⟨_, o, ho, _⟩ := I.ok.funs.mem hb
  exact I.base.free b o ho (I.ok.frf b hb) fun z => I.ok.exfs b z hb
theorem inv_hid (I : Inv X pins σ H s) (h : H f = some (.lst xs)) : xs.length ≤ sizeLine ∧ ∃ (its : List Value) (n : Nat), Vals xs its ∧ s.heap.get? f = some { cls := .type "list", data := .seq its.toArray n } ∧
    Inv X ((f, { cls := .type "list", data := .seq its.toArray n }) :: pins) σ (hid H f) s := by
  obtain ⟨z, its, n, r, e⟩ := I.hok f _ h
  have ne : ∀ {b : Addr} {u : HO}, H b = some u → u ≠ .lst xs → b ≠ f := fun e1 e2 z => by
    rw [z, h] at e1
    exact e2 (Option.some.inj e1).symm
  refine ⟨z, its, n, r, e, I.ok, I.os, I.bare, ⟨I.base.keep, I.base.slot, fun b o e n hx => hid_none (I.base.free b o e n hx), I.base.there, fun b ys q => ?_, fun b o u q => ?_, fun b ps q => ?_⟩, I.loc, I.cell, hid_none I.free, fun x c e => hid_none (I.freeC x c e), fun p hp => ?_, fun b u q => ?_, I.len⟩
  · have q := I.base.tups b ys q
    rw [hid_ne (ne q (fun z => nomatch z))]
    exact q
  · have q := I.base.frzs b o u q
    rw [hid_ne (ne q (fun z => nomatch z))]
    exact q
  · obtain ⟨more, q⟩ := I.base.tbls b ps q
    refine ⟨more, ?_⟩
    rw [hid_ne (ne q (fun z => nomatch z))]
    exact q
  · rcases List.mem_append.mp hp with hp | hp
    · obtain ⟨a1, a2, a3⟩ := I.pin p (List.mem_append_left _ hp)
      exact ⟨a1, hid_none a2, a3⟩
    · rcases List.mem_cons.mp hp with hp | hp
      · subst hp
        refine ⟨e, if_pos rfl, fun z => ?_, fun z => ?_, fun v z => nomatch z⟩
        · have z : f = X.env.locals := z
          have y := I.free
          rw [← z, h] at y
          cases y
        · have y := inv_fs I (show f ∈ X.fs from z)
          rw [h] at y
          cases y
      · obtain ⟨a1, a2, a3⟩ := I.pin p (List.mem_append_right _ hp)
        exact ⟨a1, hid_none a2, a3⟩
  · obtain ⟨n1, q⟩ := hid_some q
    refine (I.hok b u q).stay (fun _ _ _ y => y) (fun c y => ?_) fun c ys y => ?_
    · rw [hid_ne (ne y (fun z => nomatch z))]
      exact y
    · rw [hid_ne (ne y (fun z => nomatch z))]
      exact y
theorem inv_unhid {its : List Value} {n : Nat} (I : Inv X pins σ H s) (h : H f = some (.lst xs)) (z : xs.length ≤ sizeLine) (r : Vals xs its)
    (J : Inv X ((f, { cls := .type "list", data := .seq its.toArray n }) :: pins) σ H1 s1) : H1 f = none ∧ Inv X pins σ (upd H1 f (.lst xs)) s1 := by
  obtain ⟨e, nf, _⟩ := J.pin (f, { cls := .type "list", data := .seq its.toArray n }) (List.mem_append_right _ List.mem_cons_self)
  have e : s1.heap.get? f = some { cls := .type "list", data := .seq its.toArray n } := e
  have nf : H1 f = none := nf
  have nn : ∀ {b : Addr}, H b = none → b ≠ f := fun y z => by rw [z, h] at y; cases y
  have n1 : ∀ {b : Addr} {u : HO}, H1 b = some u → upd H1 f (.lst xs) b = some u := fun y => by rw [upd_ne (ne_of_none y nf)]; exact y
  refine ⟨nf, J.ok, J.os, J.bare, ⟨J.base.keep, J.base.slot, fun b o e n hx => ?_, J.base.there, fun b ys q => n1 (J.base.tups b ys q), fun b o u q => n1 (J.base.frzs b o u q), fun b ps q => ?_⟩, J.loc, J.cell, ?_, fun x c e => ?_, fun p hp => ?_, fun b u q => ?_, J.len⟩
  · obtain ⟨o', e'⟩ := I.base.there b o e hx
    rw [upd_ne (nn (I.base.free b o e n hx))]
    exact J.base.free b o e n hx
  · obtain ⟨more, q⟩ := J.base.tbls b ps q
    exact ⟨more, n1 q⟩
  · rw [upd_ne (nn I.free)]
    exact J.free
  · rw [upd_ne (nn (I.freeC x c e))]
    exact J.freeC x c e
  · have hp' : p ∈ X.pn ++ ((f, { cls := .type "list", data := .seq its.toArray n }) :: pins) := by
      rcases List.mem_append.mp hp with y | y
      · exact List.mem_append_left _ y
      · exact List.mem_append_right _ (List.mem_cons_of_mem _ y)
    obtain ⟨a1, a2, a3⟩ := J.pin p hp'
    refine ⟨a1, ?_, a3⟩
    rw [upd_ne (nn (I.pin p hp).2.1)]
    exact a2
  · by_cases hb : b = f
    · subst hb
      rw [upd_same] at q
      cases q
      exact ⟨z, its, n, r, e⟩
    · rw [upd_ne hb] at q
      exact (J.hok b u q).stay (fun _ _ _ y => y) (fun c y => n1 y) fun c ys y => n1 y
end
section
variable {X : Cx} {e : Expr} {te : TE}
/-- e, while the list at f is set aside -/
def tHid (te : TE) : TE := fun σ H Q => ∃ (f : Addr) (xs : List V), H f = some (.lst xs) ∧ te σ (hid H f) fun x H1 => H1 f = none → Q x (upd H1 f (.lst xs))
theorem pe_hid (he : PE X e te) : PE X e (tHid te) := by
  refine ⟨fun pins s σ H Q I q => ?_⟩
  obtain ⟨f, xs, hf, q⟩ := q
  obtain ⟨z, its, n, r, e1, J⟩ := inv_hid I hf
  refine thn (he.run _ s σ (hid H f) _ J q) fun v s1 ⟨x, H1, J1, r1, q1⟩ => ?_
  obtain ⟨nf, J2⟩ := inv_unhid I hf z r J1
  exact ⟨x, _, J2, r1, q1 nf⟩
end
variable {a f : Addr} {D D' : List V} {H0 J J' : Hp} {vs : List V} {ds : List PyData}
theorem hid_upd {o : HO} (n : J f = none) : hid (upd J f o) f = J := by
  funext q
  by_cases c : q = f
  · rw [c, n]
    exact if_pos rfl
  · rw [hid_ne c, upd_ne c]
theorem Gf.aside (g : Gf a f D H0 J vs ds) (k : ∀ c o, c ≠ a → hid J f c = some o → J' c = some o) (e : J' a = some (.lst D')) (n : J' f = none) : Gf a f D' H0 (upd J' f (.lst vs)) vs ds :=
  ⟨fun c u h e => by rw [upd_ne (ne_of_none e g.n0)]; exact k _ _ h (g.old h e), g.n0, g.nf, by rw [upd_ne g.nf.symm]; exact e, upd_same, by
    rw [hid_upd n]
    exact VdAll.keep (fun q u h _ e => k _ _ h e) _ _ g.r⟩
end Vf


set_option Elab.async false
set_option maxRecDepth 100000
set_option maxHeartbeats 8000000
set_option exponentiation.threshold 3000
/-! Codes and values near them. -/
namespace Vf
open PySem L2 SX Vm VG
def spValues : Sp := fun vs H Q _ => ∃ (a p : Addr) (d : Int × Int × Int) (b R : Nat) (L : Pr), vs = [.ref a, .int (b : Int), .int (R : Int), .ref p] ∧ H a = some (.lst (dieL d)) ∧ DieOk d ∧ d.2.2 ≤ 970000000 ∧ 2 ≤ b ∧ b ≤ 5 ∧ R ≤ 100 ∧ H p = some (.tup (prefs L)) ∧ p ≠ a ∧ (∀ e ∈ L, H e.1 = some (pfO e.2) ∧ Dg b e.2.2 ∧ e.2.2.length ≤ 8 ∧ e.2.1 ≤ 100) ∧ 0 < L.length ∧ L.length ≤ 35 ∧
  ∀ (D : Addr) (xs : List V) (ds : List PyData) (d' : Int × Int × Int) (H' : Hp), Kp a H H' → H' a = some (.lst (dieL d')) → DieOk d' → d'.2.2 ≤ d.2.2 + 200 → H' D = some (.lst xs) → D ≠ a → VdAll a H' xs ds → (∀ x ∈ ds, Fine (N0 + 1) 20 900 x) → Q (.ref D) H'
section
variable {P : Program} {w : World} {K : PySem.W.Frag} {mg : Str → Option Value} {base : Heap}
theorem scValues : FnScope ["die", "base", "wide", "code", "at", "found", "one", "root", "word", "turn"] ["die", "base", "wide", "code"] (defScope sValues) := ⟨rfl, rfl, rfl, by decide +kernel, rfl, by decide +kernel, by decide +kernel⟩
theorem ok_values {l : Nat} {f fP fC fB fO : Addr} {fd fdP fdC fdB fdO : FuncData} (F : Fun K "_law_values" "_law_values" sValues f fd) (GP : FnOk P w K mg base CX0 1 fP fdP ["die", "many"] spPull) (cP : Cal K mg "_law_pull" fP fdP ["die", "many"])
    (GC : FnOk P w K mg base CX0 2 fC fdC ["base", "prefix"] spChildren) (cC : Cal K mg "_law_children" fC fdC ["base", "prefix"]) (GB : FnOk P w K mg base CX0 l fB fdB ["die", "thing", "deep"] (spB 4)) (cB : Cal K mg "_law_bent" fB fdB ["die", "thing", "deep"])
    (GO : FnOk P w K mg base CX0 2 fO fdO ["die"] spOdd) (cO : Cal K mg "_law_odd" fO fdO ["die"]) (hl : 2 ≤ l) (N : Nm mg) (nr : mg "range" = none) (mso : mg "sorted" = none) (mli : mg "list" = none) :
    FnOk P w K mg base CX0 (l + 1) f fd ["die", "base", "wide", "code"] spValues := by
  refine F.ok scValues (fun vs H Q E h => ?_) (fun cdv A outer s H vs Q E hr h => ?_)
  · obtain ⟨a, p, d, b, R, L, rfl, _⟩ := h
    rfl
  · obtain ⟨a, p, d, b, R, L, rfl, ha, hd, hc, b2, b5, r5, hp, npa, gL, l0, l60, k⟩ := h
    have nd := scValues.nd
    have hr2 := hr.mono hl
    have hr1 := hr2.mono (show 1 ≤ 2 by decide)
    have hun := Nat.lt_of_le_of_lt (Nat.le_add_right _ 64) hr.units
    refine ⟨_, pss_cons (ps_set (i := 4) nd rfl (.inr rfl) (pe_call GP hr1 rfl cP.mg cP.kp cP.b .nil pass0 (pa_cons (pv 0) (pa_cons (pe_callB call_len_seq (by rfl) N.len boot_len (pa_cons (pv 3) pa_nil)) pa_nil))))
      (pss_cons (ps_set (i := 5) nd rfl (.inl rfl) (pe_lstB (pa_cons (pv 3)
        (pa_cons (pe_op op_catA (pe_slice sl_tupA (pv 3) po_none (po_some (pv 4))) (pe_slice sl_tupA (pv 3) (po_some (pe_op op_add (pv 4) pe_int)) po_none))
        (pa_cons (pe_op op_catA (pv 3) (pe_slice sl_tupA (pv 3) (po_some (pv 4)) (po_some (pe_op op_add (pv 4) pe_int))))
        (pa_cons (pe_revA (pv 3))
        (pa_cons (pe_callTy VG.call_list_ofB (by rfl) mli PyProof.Rows.boot_list (pa_cons (pv 3) pa_nil))
        (pa_cons (pe_tup pa_nil) pa_nil))))))))
      (pss_cons (ps_expr (pe_bm PySem.F.plainAttrs_list PySem.F.slot_list_append PySem.F.type_list_append mt_append (pv 5) (pa_cons (pe_op op_catA (pv 3) (pe_tup (pa_cons (pe_tup (pa_cons (pv 2) (pa_cons pe_str pa_nil))) pa_nil))) pa_nil)))
      (pss_cons (ps_expr (pe_bm PySem.F.plainAttrs_list PySem.F.slot_list_append PySem.F.type_list_append mt_append (pv 5) (pa_cons (pe_callTy call_tuple_of (by rfl) N.tuple PyProof.Rows.boot_tuple (pa_cons (pe_callB VG.cr_sortedIS (by rfl) mso PyProof.Rows.boot_sorted
          (pa_cons (pe_op op_cat (pe_callTy call_list_of (by rfl) mli PyProof.Rows.boot_list (pa_cons (pv 3) pa_nil)) (pe_call GC hr2 rfl cC.mg cC.kp cC.b .nil pass0 (pa_cons (pv 1) (pa_cons (pe_ix ix_tup (pv 3) (pv 4) (fun _ _ => rfl)) pa_nil)))) pa_nil)) pa_nil)) pa_nil)))
      (pss_cons (ps_expr (pe_bm PySem.F.plainAttrs_list PySem.F.slot_list_append PySem.F.type_list_append mt_append (pv 5) (pa_cons (pe_callTy call_tuple_of (by rfl) N.tuple PyProof.Rows.boot_tuple (pa_cons (pe_callB VG.cr_sortedIS (by rfl) mso PyProof.Rows.boot_sorted
          (pa_cons (pe_op op_cat (pe_lc (own := [("one", 6)]) (g := gName 6) rfl nd (pi_tup (pv 3)) (blkOk_by (N := ["die", "base", "wide", "code", "at", "found", "one", "root", "word", "turn"]) (sc := defScope sValues) (by decide +kernel)) (fun _ _ _ _ _ => pg_name (i := 6) nd rfl (Or.inl rfl))
            (fun _ _ _ _ _ => pts_one (pt_cmpR (show OpR _ _ (rNeD K) from op_neD hr.units) (pv 6) (pe_ix (show IxR _ (rIxT K) from ix_tup) (pv 3) (pv 4) (fun _ _ => rfl)) (nomark _))) (fun _ _ _ _ _ => pv 6)) (pe_call GC hr2 rfl cC.mg cC.kp cC.b .nil pass0 (pa_cons (pv 1) (pa_cons (pe_ix ix_tup (pv 3) (pv 4) (fun _ _ => rfl)) pa_nil)))) pa_nil)) pa_nil)) pa_nil)))
      (pss_cons (ps_expr (pe_bm PySem.F.plainAttrs_list PySem.F.slot_list_append PySem.F.type_list_append mt_append (pv 5) (pa_cons (pe_callTy call_tuple_of (by rfl) N.tuple PyProof.Rows.boot_tuple (pa_cons
          (pe_lc (own := [("root", 7), ("word", 8)]) (g := gTup K 2 (gCons (gName 7) (gCons (gName 8) gNil))) rfl nd (pi_tup (pv 3)) (blkOk_by (N := ["die", "base", "wide", "code", "at", "found", "one", "root", "word", "turn"]) (sc := defScope sValues) (by decide +kernel)) (fun _ _ _ _ _ => pg_tup rfl (pgs_cons (pg_name (i := 7) nd rfl (Or.inl rfl)) (pgs_cons (pg_name (i := 8) nd rfl (Or.inl rfl)) pgs_nil)))
            (fun _ _ _ _ _ => pts_nil) (fun _ _ _ _ _ => pe_tup (pa_cons (pe_op op_add (pv 7) pe_int) (pa_cons (pv 8) pa_nil)))) pa_nil)) pa_nil)))
      (pss_one (ps_ret (pe_op op_cat (pe_op op_cat (pv 5) (pe_lc (own := [("turn", 9)]) (g := gName 9) rfl nd (pi_range1 rfl nr (pa_cons pe_int pa_nil)) (blkOk_by (N := ["die", "base", "wide", "code", "at", "found", "one", "root", "word", "turn"]) (sc := defScope sValues) (by decide +kernel)) (fun _ _ _ _ _ => pg_name (i := 9) nd rfl (Or.inl rfl))
            (fun _ _ _ _ _ => pts_nil) (fun _ _ _ _ _ => pe_hid (pe_call GB hr rfl cB.mg cB.kp cB.b .nil pass0 (pa_cons (pv 0) (pa_cons (pv 3) (pa_cons pe_int pa_nil)))))))
          (pe_lst (pa_cons (pe_call GO hr2 rfl cO.mg cO.kp cO.b .nil pass0 (pa_cons (pv 0) pa_nil)) pa_nil)))))))))), ?_⟩
    have gA : ∀ e ∈ L, e.1 ≠ a ∧ H e.1 = some (pfO e.2) := fun e he => by
      have h := (gL e he).1
      refine ⟨fun z => ?_, h⟩
      rw [z, ha] at h
      cases h
    have r : VdAll a H (prefs L) (L.map fun e => pfD e.2) := rows_vd gA
    have lx : (prefs L).length ≤ 900 := by rw [List.length_map]; omega
    have lP : (prefs L).length = L.length := by rw [List.length_map]
    refine ⟨_, rfl, _, rfl, p, _, rfl, .inr (SqT.of hp), a, d, _, rfl, ha, hd, by omega, by omega, by omega, fun at_ d1 hd1 hc1 at0 at1 => ?_⟩
    obtain ⟨i, rfl⟩ : ∃ i : Nat, at_ = (i : Int) := ⟨at_.toNat, by omega⟩
    have hi : i < L.length := by omega
    have g0 : Gr a (dieL d1) H (upd H a (.lst (dieL d1))) [] [] := ⟨Kp.upd, upd_same, .nil⟩
    generalize upd H a (.lst (dieL d1)) = J0 at g0 ⊢
    have vt0 : Vd a J0 (.ref p) (.tuple (L.map fun e => pfD e.2)) := .tup npa (g0.kp _ _ npa hp) (VdAll.kp r g0.kp)
    have g1 := g0.add vt0
    refine ⟨_, rfl, _, rfl, _, rfl, _, rfl, ?_⟩
    refine slA_gr (g1.kp _ _ npa hp) npa g1.da (fun q2 J2 k2 d2 e2 ne2 => ?_)
    have g2 := g1.move k2 d2
    refine ⟨_, rfl, _, rfl, _, _, rfl, rfl, _, rfl, ?_⟩
    refine slN ?_
    refine slA_gr (g2.kp _ _ npa hp) npa g2.da (fun q3 J3 k3 d3 e3 ne3 => ?_)
    have g3 := g2.move k3 d3
    refine catA_gr (k3 _ _ ne2 e2) ne2 e3 ne3 g3.da (sz2 (Nat.le_trans (cut_sz lx) (by decide)) (Nat.le_trans (cut_sz lx) (by decide))) (fun q4 J4 k4 d4 e4 ne4 => ?_)
    have g4' := g3.move k4 d4
    have g4 := g4'.add (.tup ne4 e4 ((VdAll.kp r g4'.kp).cut.app (VdAll.kp r g4'.kp).cut))
    refine ⟨_, rfl, _, rfl, _, rfl, _, rfl, _, rfl, _, _, rfl, rfl, _, rfl, ?_⟩
    refine slA_gr (g4.kp _ _ npa hp) npa g4.da (fun q5 J5 k5 d5 e5 ne5 => ?_)
    have g5 := g4.move k5 d5
    refine catA_gr (g5.kp _ _ npa hp) npa e5 ne5 g5.da (sz2 (Nat.le_trans lx (by decide)) (Nat.le_trans (cut_sz lx) (by decide))) (fun q6 J6 k6 d6 e6 ne6 => ?_)
    have g6' := g5.move k6 d6
    have g6 := g6'.add (.tup ne6 e6 ((VdAll.kp r g6'.kp).app (VdAll.kp r g6'.kp).cut))
    refine ⟨_, rfl, .inr ⟨p, prefs L, rfl, SqT.of (g6.kp _ _ npa hp), fun q10 n10 => ?_⟩⟩
    have g10 := (g6.new n10 (o := .tup (prefs L).reverse)).add (.tup (ne_die g6.da n10) upd_same (VdAll.up n10 (VdAll.kp r g6.kp)).rev)
    generalize upd J6 q10 (.tup (prefs L).reverse) = J10 at g10 ⊢
    refine ⟨_, rfl, p, prefs L, rfl, .inr (SqT.of (g10.kp _ _ npa hp)), fun p1 s1 n1' => ?_⟩
    have g11 := (g10.new n1' (o := .lst (prefs L))).add (.lst (ne_die g10.da n1') s1 upd_same (VdAll.up n1' (VdAll.kp r g10.kp)))
    generalize upd J10 p1 (.lst (prefs L)) = J11 at g11 ⊢
    refine ⟨(by show 0 ≤ sizeLine; exact Nat.zero_le _), fun q12 n12 => ?_⟩
    have g12 := (g11.new n12 (o := .tup [])).add (.tup (ne_die g11.da n12) upd_same .nil)
    generalize upd J11 q12 (.tup []) = J12 at g12 ⊢
    refine ⟨(by show 6 ≤ sizeLine; decide), fun fo sfo nfo => ?_⟩
    have nfa : fo ≠ a := ne_die g12.da nfo
    have n0 : H fo = none := by
      cases z : H fo with
      | none => rfl
      | some o => rw [g12.kp _ _ nfa z] at nfo; cases nfo
    have gf : Gf a fo (dieL d1) H (upd J12 fo (.lst [.ref p, .ref q4, .ref q6, .ref q10, .ref p1, .ref q12])) [.ref p, .ref q4, .ref q6, .ref q10, .ref p1, .ref q12] _ := Gf.start g12.kp g12.da nfo n0 g12.r
    generalize upd J12 fo (.lst [.ref p, .ref q4, .ref q6, .ref q10, .ref p1, .ref q12]) = J13 at gf ⊢
    clear g12 g11 g10 g6 g6' g5 g4 g4' g3 g2 g1 g0 vt0 n12 nfo n1' n10 k2 k3 k4 k5 k6 d2 d3 d4 d5 d6 e2 e3 e4 e5 e6
    have rH : ∀ {J : Hp} {vs ds D}, Gf a fo D H J vs ds → VdAll a (hid J fo) (prefs L) (L.map fun e => pfD e.2) := fun g => VdAll.keep (fun q o h _ e => g.old h e) _ _ r
    refine ⟨_, rfl, .inl ⟨rfl, _, SqL.of gf.fa⟩, _, rfl, _, rfl, ?_⟩
    refine ⟨(by show 2 ≤ sizeLine; decide), fun t1 nt1 => ?_⟩
    have h1 : upd J13 t1 (.tup [.int (R : Int), .str ""]) t1 = some (.tup [.int (R : Int), .str ""]) := upd_same
    have gf1 := gf.new nt1 (o := .tup [.int (R : Int), .str ""])
    have nt1a := ne_die gf.da nt1
    generalize upd J13 t1 (.tup [.int (R : Int), .str ""]) = J14 at gf1 h1 ⊢
    refine ⟨(by show 1 ≤ sizeLine; decide), fun t2 nt2 => ?_⟩
    have h2 : upd J14 t2 (.tup [.ref t1]) t2 = some (.tup [.ref t1]) := upd_same
    have gf2 := gf1.new nt2 (o := .tup [.ref t1])
    have h1 := Kp.new (a := a) (o := .tup [.ref t1]) nt2 _ _ nt1a h1
    have nt2a := ne_die gf1.da nt2
    generalize upd J14 t2 (.tup [.ref t1]) = J15 at gf2 h1 h2 ⊢
    refine catA_gr (gf2.kp _ _ npa hp) npa h2 nt2a gf2.da (sz2 (Nat.le_trans lx (by decide)) (by show 1 ≤ 2000; decide)) (fun t3 J16 k16 d16 e16 ne16 => ?_)
    have gf3 := gf2.moved k16 d16
    have h1 := k16 _ _ nt1a h1
    have vt3 : Vd a (hid J16 fo) (.ref t3) (.tuple ((L.map fun e => pfD e.2) ++ [.tuple [.int (R : Int), .str ""]])) := by
      have nl : ∀ {c xs}, J16 c = some (.tup xs) → c ≠ fo := fun e z => by
        rw [z, gf3.fa] at e
        cases e
      refine .tup ne16 (by rw [hid_ne (nl e16)]; exact e16) ((rH gf3).app (.cons (.tup nt1a (by rw [hid_ne (nl h1)]; exact h1) (.cons (.int _) (.cons (.str _) .nil))) .nil))
    refine ⟨fo, _, _, rfl, rfl, gf3.fa, by show 6 < sizeLine; decide, ?_⟩
    have gf4 := gf3.push vt3
    generalize upd J16 fo _ = J17 at gf4 ⊢
    clear vt3 gf3 gf2 gf1 gf h1 h2 e16 k16 d16 nt1 nt2
    have hLi : L[i]? = some L[i] := List.getElem?_eq_getElem hi
    have hri : atI (prefs L) ((i : Nat) : Int) = some (.ref (L[i]).1) := atI_nat (by rw [List.getElem?_map, hLi]; rfl)
    have em : L[i] ∈ L := List.getElem_mem hi
    generalize L[i] = e at hri em
    obtain ⟨ge, gdg, gln, grt⟩ := gL e em
    refine ⟨_, rfl, .inl ⟨rfl, _, SqL.of gf4.fa⟩, _, rfl, p, prefs L, rfl, .inr (SqT.of (gf4.kp _ _ npa hp)), fun l1 nl1 => ?_⟩
    have z1 : upd J17 l1 (.lst (prefs L)) l1 = some (.lst (prefs L)) := upd_same
    have gf5 := gf4.new nl1 (o := .lst (prefs L))
    have nl1a := ne_die gf4.da nl1
    generalize upd J17 l1 (.lst (prefs L)) = J18 at gf5 z1 ⊢
    refine ⟨_, rfl, _, rfl, _, rfl, p, _, _, _, rfl, rfl, SqT.of (gf5.kp _ _ npa hp), hri, b, e.1, e.2, rfl, b2, b5, gf5.kp _ _ (gA e em).1 ge, by omega, fun M D1 J19 hM s19 gM hD1 nD1 => ?_⟩
    have gf6 := gf5.moved (fun c o _ e => s19 _ _ e) (s19 _ _ gf5.da)
    have z1 := s19 _ _ z1
    refine ⟨l1, D1, _, _, rfl, rfl, z1, hD1, ?_, fun q1 nq1 => ?_⟩
    · rw [lP, List.length_map]
      have : M.length = (kids b e.2).length := by rw [← hM, List.length_map]
      rw [this]
      unfold kids
      rw [List.length_map, List.length_range]
      exact Nat.le_trans (show L.length + b ≤ 2000 by omega) (by decide)
    have eLM : prefs L ++ prefs M = prefs (L ++ M) := List.map_append.symm
    rw [eLM]
    have gLM : ∀ x ∈ L ++ M, J19 x.1 = some (pfO x.2) := fun x hx => by
      rcases List.mem_append.mp hx with z | z
      · exact gf6.kp _ _ (gA x z).1 (gA x z).2
      · exact gM x z
    have mLM : ∀ x ∈ L ++ M, x.2.1 ≤ 200 ∧ x.2.2.length ≤ 9 ∧ ∀ c ∈ x.2.2, c < 128 := fun x hx => by
      rcases List.mem_append.mp hx with z | z
      · obtain ⟨_, y1, y2, y3⟩ := gL x z
        exact ⟨by omega, by omega, fun c hc => by have := y1 c hc; omega⟩
      · have mk : x.2 ∈ kids b e.2 := by
          rw [← hM]
          exact List.mem_map.mpr ⟨x, z, rfl⟩
        obtain ⟨j, hj, q⟩ := kid_mem mk
        rw [q]
        refine ⟨by show e.2.1 ≤ 200; omega, by rw [List.length_append]; show e.2.2.length + 1 ≤ 9; omega, fun c hc => ?_⟩
        rcases List.mem_append.mp hc with w | w
        · have := gdg c w
          omega
        · have := List.mem_singleton.mp w
          omega
    have row : RowL (upd J19 q1 (.lst (prefs (L ++ M)))) q1 (L ++ M) := ⟨upd_same, fun x hx => by rw [upd_ne (ne_of_none (gLM x hx) nq1)]; exact gLM x hx⟩
    have gf7 := gf6.new nq1 (o := .lst (prefs (L ++ M)))
    generalize upd J19 q1 (.lst (prefs (L ++ M))) = J20 at gf7 row ⊢
    refine ⟨q1, prefs (L ++ M), keyAt J20, rfl, SqL.of row.at_, fun x hx => ?_, fun ys l hs hb nl => ?_⟩
    · obtain ⟨y, hy, rfl⟩ := List.mem_map.mp hx
      have g := row.good y hy
      refine ⟨y.1, rfl, ?_⟩
      rw [keyAt_of g]
      exact g
    obtain ⟨M2, pm, ey⟩ := perm_lift (fun e : Addr × Pf => V.ref e.1) (L ++ M) hb.perm
    subst ey
    have gf8 := gf7.new nl (o := .lst (prefs M2))
    have z8 : upd J20 l (.lst (prefs M2)) l = some (.lst (prefs M2)) := upd_same
    have r8 : ∀ x ∈ M2, upd J20 l (.lst (prefs M2)) x.1 = some (pfO x.2) := fun x hx => same_new' nl _ _ (row.good x (pm.mem_iff.mp hx))
    generalize upd J20 l (.lst (prefs M2)) = J21 at gf8 z8 r8 ⊢
    refine ⟨l, _, rfl, .inl ⟨SqL.of z8, fun t5 nt5 => ?_⟩⟩
    have gf9 := gf8.new nt5 (o := .tup (prefs M2))
    have z9 : upd J21 t5 (.tup (prefs M2)) t5 = some (.tup (prefs M2)) := upd_same
    have r9 : ∀ x ∈ M2, upd J21 t5 (.tup (prefs M2)) x.1 = some (pfO x.2) := fun x hx => same_new' nt5 _ _ (r8 x hx)
    have nt5a := ne_die gf8.da nt5
    generalize upd J21 t5 (.tup (prefs M2)) = J22 at gf9 z9 r9 ⊢
    have v9 : Vd a (hid J22 fo) (.ref t5) (.tuple (M2.map fun e => pfD e.2)) := by
      have nl : ∀ {c xs}, J22 c = some (.tup xs) → c ≠ fo ∧ c ≠ a := fun e => ⟨fun z => (by rw [z, gf9.fa] at e; cases e), fun z => (by rw [z, gf9.da] at e; cases e)⟩
      exact .tup nt5a (by rw [hid_ne (nl z9).1]; exact z9) (rows_vd fun x hx => ⟨(nl (r9 x hx)).2, by rw [hid_ne (nl (r9 x hx)).1]; exact r9 x hx⟩)
    refine ⟨fo, _, _, rfl, rfl, gf9.fa, by show 7 < sizeLine; decide, ?_⟩
    have gf10 := gf9.push v9
    have m2 : ∀ x ∈ M2, x.2.1 ≤ 200 ∧ x.2.2.length ≤ 9 ∧ ∀ c ∈ x.2.2, c < 128 := fun x hx => mLM x (pm.mem_iff.mp hx)
    have l2 : M2.length ≤ 40 := by
      rw [pm.length_eq, List.length_append]
      have : M.length = (kids b e.2).length := by rw [← hM, List.length_map]
      rw [this]
      unfold kids
      rw [List.length_map, List.length_range]
      omega
    generalize upd J22 fo _ = J23 at gf10 ⊢
    clear v9 gf9 z9 r9 gf8 z8 r8 gf7 row gf6 gf5 gf4 z1 gM hM hD1 s19 nq1 nl nt5 nl1 hs hb mLM gLM eLM nD1
    refine ⟨_, rfl, .inl ⟨rfl, _, SqL.of gf10.fa⟩, _, rfl, p, rfl, ⟨_, SqT.of (gf10.kp _ _ npa hp)⟩, fun D2 nD2 => ?_⟩
    refine lc_tup (xs := prefs L) (fun i Hy => ∃ Lk : Pr, Hy = upd J23 D2 (.lst (prefs Lk)) ∧ (∀ x ∈ Lk, x ∈ L) ∧ Lk.length ≤ i) ⟨[], rfl, fun x hx => (by cases hx), Nat.le_refl _⟩ ?_ ?_ ?_
    · rintro i Hy _ ⟨Lk, rfl, _⟩
      exact SqT.of (same_new' nD2 _ _ (gf10.kp _ _ npa hp))
    · rintro j x Hy hx ⟨Lk, rfl, inL, lk⟩
      obtain ⟨y, hy, rfl⟩ : ∃ y, L[j]? = some y ∧ x = .ref y.1 := by
        rw [List.getElem?_map] at hx
        cases z : L[j]? with
        | none => rw [z] at hx; cases hx
        | some y => rw [z] at hx; cases hx; exact ⟨y, rfl, rfl⟩
      have ym := List.mem_of_getElem? hy
      have hj : j < L.length := (List.getElem?_eq_some_iff.mp hy).1
      have gy := same_new' (o := .lst (prefs Lk)) nD2 _ _ (gf10.kp _ _ (gA y ym).1 (gA y ym).2)
      have ge' := same_new' (o := .lst (prefs Lk)) nD2 _ _ (gf10.kp _ _ (gA e em).1 (gA e em).2)
      have hp' := same_new' (o := .lst (prefs Lk)) nD2 _ _ (gf10.kp _ _ npa hp)
      refine ⟨rfl, _, rfl, _, rfl, _, rfl, p, _, _, _, rfl, rfl, SqT.of hp', hri, pfD y.2, pfD e.2, .tup (SqT.of gy) (.cons (.int _) (.cons (.str _) .nil)), .tup (SqT.of ge') (.cons (.int _) (.cons (.str _) .nil)), ?_, ?_, _, rfl, ?_⟩
      · exact shaped_pf fun c hc => by have := (gL y ym).2.1 c hc; omega
      · exact shaped_pf fun c hc => by have := (gL e em).2.1 c hc; omega
      generalize PyData.eqv (pfD y.2) (pfD e.2) = tst
      cases tst with
      | true =>
        refine iteF ?_
        exact ⟨Lk, rfl, inL, by omega⟩
      | false =>
        refine iteT ?_
        refine ⟨_, rfl, _, upd_same, ?_, Lk ++ [y], ?_, fun z hz => ?_, by rw [List.length_append]; show Lk.length + 1 ≤ j + 1; omega⟩
        · rw [List.length_map]
          exact Nat.lt_of_le_of_lt (show Lk.length ≤ 35 by omega) (by decide)
        · rw [upd_upd']
          show _ = upd J23 D2 (.lst (prefs (Lk ++ [y])))
          rw [show prefs (Lk ++ [y]) = prefs Lk ++ [V.ref y.1] from List.map_append]
        · rcases List.mem_append.mp hz with w | w
          · exact inL z w
          · rw [List.mem_singleton.mp w]
            exact ym
    rintro Hy ⟨Lk, rfl, inL, lk⟩
    rw [lP] at lk
    have z1 : upd J23 D2 (.lst (prefs Lk)) D2 = some (.lst (prefs Lk)) := upd_same
    have gf5 := gf10.new nD2 (o := .lst (prefs Lk))
    generalize upd J23 D2 (.lst (prefs Lk)) = J24 at gf5 z1 ⊢
    refine ⟨_, rfl, _, rfl, _, rfl, p, _, _, _, rfl, rfl, SqT.of (gf5.kp _ _ npa hp), hri, b, e.1, e.2, rfl, b2, b5, gf5.kp _ _ (gA e em).1 ge, by omega, fun M D3 J25 hM s25 gM hD3 nD3 => ?_⟩
    have gf6 := gf5.moved (fun c o _ e => s25 _ _ e) (s25 _ _ gf5.da)
    have z1 := s25 _ _ z1
    have lMb : M.length = b := by
      have : M.length = (kids b e.2).length := by rw [← hM, List.length_map]
      rw [this]
      unfold kids
      rw [List.length_map, List.length_range]
    refine ⟨D2, D3, _, _, rfl, rfl, z1, hD3, ?_, fun q2 nq2 => ?_⟩
    · rw [List.length_map, List.length_map, lMb]
      exact Nat.le_trans (show Lk.length + b ≤ 2000 by omega) (by decide)
    have eLM : prefs Lk ++ prefs M = prefs (Lk ++ M) := List.map_append.symm
    rw [eLM]
    have gLM : ∀ x ∈ Lk ++ M, J25 x.1 = some (pfO x.2) := fun x hx => by
      rcases List.mem_append.mp hx with z | z
      · exact gf6.kp _ _ (gA x (inL x z)).1 (gA x (inL x z)).2
      · exact gM x z
    have mLM : ∀ x ∈ Lk ++ M, x.2.1 ≤ 200 ∧ x.2.2.length ≤ 9 ∧ ∀ c ∈ x.2.2, c < 128 := fun x hx => by
      rcases List.mem_append.mp hx with z | z
      · obtain ⟨_, y1, y2, y3⟩ := gL x (inL x z)
        exact ⟨by omega, by omega, fun c hc => by have := y1 c hc; omega⟩
      · have mk : x.2 ∈ kids b e.2 := by
          rw [← hM]
          exact List.mem_map.mpr ⟨x, z, rfl⟩
        obtain ⟨j, hj, q⟩ := kid_mem mk
        rw [q]
        refine ⟨by show e.2.1 ≤ 200; omega, by rw [List.length_append]; show e.2.2.length + 1 ≤ 9; omega, fun c hc => ?_⟩
        rcases List.mem_append.mp hc with w | w
        · have := gdg c w
          omega
        · have := List.mem_singleton.mp w
          omega
    have row : RowL (upd J25 q2 (.lst (prefs (Lk ++ M)))) q2 (Lk ++ M) := ⟨upd_same, fun x hx => by rw [upd_ne (ne_of_none (gLM x hx) nq2)]; exact gLM x hx⟩
    have gf7 := gf6.new nq2 (o := .lst (prefs (Lk ++ M)))
    generalize upd J25 q2 (.lst (prefs (Lk ++ M))) = J26 at gf7 row ⊢
    refine ⟨q2, prefs (Lk ++ M), keyAt J26, rfl, SqL.of row.at_, fun x hx => ?_, fun ys l hs hb nl => ?_⟩
    · obtain ⟨y, hy, rfl⟩ := List.mem_map.mp hx
      have g := row.good y hy
      refine ⟨y.1, rfl, ?_⟩
      rw [keyAt_of g]
      exact g
    obtain ⟨M3, pm3, ey⟩ := perm_lift (fun e : Addr × Pf => V.ref e.1) (Lk ++ M) hb.perm
    subst ey
    have gf8 := gf7.new nl (o := .lst (prefs M3))
    have z8 : upd J26 l (.lst (prefs M3)) l = some (.lst (prefs M3)) := upd_same
    have r8 : ∀ x ∈ M3, upd J26 l (.lst (prefs M3)) x.1 = some (pfO x.2) := fun x hx => same_new' nl _ _ (row.good x (pm3.mem_iff.mp hx))
    generalize upd J26 l (.lst (prefs M3)) = J27 at gf8 z8 r8 ⊢
    refine ⟨l, _, rfl, .inl ⟨SqL.of z8, fun t6 nt6 => ?_⟩⟩
    have gf9 := gf8.new nt6 (o := .tup (prefs M3))
    have z9 : upd J27 t6 (.tup (prefs M3)) t6 = some (.tup (prefs M3)) := upd_same
    have r9 : ∀ x ∈ M3, upd J27 t6 (.tup (prefs M3)) x.1 = some (pfO x.2) := fun x hx => same_new' nt6 _ _ (r8 x hx)
    have nt6a := ne_die gf8.da nt6
    generalize upd J27 t6 (.tup (prefs M3)) = J28 at gf9 z9 r9 ⊢
    have v9 : Vd a (hid J28 fo) (.ref t6) (.tuple (M3.map fun e => pfD e.2)) := by
      have nl : ∀ {c xs}, J28 c = some (.tup xs) → c ≠ fo ∧ c ≠ a := fun e => ⟨fun z => (by rw [z, gf9.fa] at e; cases e), fun z => (by rw [z, gf9.da] at e; cases e)⟩
      exact .tup nt6a (by rw [hid_ne (nl z9).1]; exact z9) (rows_vd fun x hx => ⟨(nl (r9 x hx)).2, by rw [hid_ne (nl (r9 x hx)).1]; exact r9 x hx⟩)
    refine ⟨fo, _, _, rfl, rfl, gf9.fa, by show 8 < sizeLine; decide, ?_⟩
    have gf11 := gf9.push v9
    have m3 : ∀ x ∈ M3, x.2.1 ≤ 200 ∧ x.2.2.length ≤ 9 ∧ ∀ c ∈ x.2.2, c < 128 := fun x hx => mLM x (pm3.mem_iff.mp hx)
    have l3 : M3.length ≤ 40 := by
      rw [pm3.length_eq, List.length_append, lMb]
      omega
    generalize upd J28 fo _ = J29 at gf11 ⊢
    clear v9 gf9 z9 r9 gf8 z8 r8 gf7 row gf6 gf5 z1 gM hM hD3 s25 nq2 nl nt6 hs hb mLM gLM eLM nD3 nD2 gf10
    refine ⟨_, rfl, .inl ⟨rfl, _, SqL.of gf11.fa⟩, _, rfl, p, rfl, ⟨_, SqT.of (gf11.kp _ _ npa hp)⟩, fun D4 nD4 => ?_⟩
    refine lc_tup (xs := prefs L) (fun i Hy => ∃ Lr : Pr, Same J29 Hy ∧ Hy D4 = some (.lst (prefs Lr)) ∧ (∀ x ∈ Lr, Hy x.1 = some (pfO x.2)) ∧ (∀ x ∈ Lr, x.2.1 ≤ 200 ∧ x.2.2.length ≤ 9 ∧ ∀ c ∈ x.2.2, c < 128) ∧ Lr.length ≤ i) ⟨[], same_new' nD4, upd_same, fun x hx => (by cases hx), fun x hx => (by cases hx), Nat.le_refl _⟩ ?_ ?_ ?_
    · rintro j Hy _ ⟨Lr, gy, _⟩
      exact SqT.of (gy _ _ (gf11.kp _ _ npa hp))
    · rintro j x Hy hx ⟨Lr, gy, dy, ry, my, ly⟩
      obtain ⟨y, hy, rfl⟩ : ∃ y, L[j]? = some y ∧ x = .ref y.1 := by
        rw [List.getElem?_map] at hx
        cases z : L[j]? with
        | none => rw [z] at hx; cases hx
        | some y => rw [z] at hx; cases hx; exact ⟨y, rfl, rfl⟩
      have ym := List.mem_of_getElem? hy
      have hj : j < L.length := (List.getElem?_eq_some_iff.mp hy).1
      have hy1 := gy _ _ (gf11.kp _ _ (gA y ym).1 (gA y ym).2)
      obtain ⟨_, y1, y2, y3⟩ := gL y ym
      obtain ⟨py, r0, wd⟩ := y
      have hy1 : Hy py = some (.tup [.int (r0 : Int), .str (S wd)]) := hy1
      have y1 : Dg b wd := y1
      have y2 : wd.length ≤ 8 := y2
      have y3 : r0 ≤ 100 := y3
      refine ⟨py, _, rfl, SqT.of hy1, rfl, _, _, rfl, _, _, rfl, rfl, rfl, _, rfl, _, _, rfl, rfl, _, rfl, (by show 2 ≤ sizeLine; decide), fun t nt => ?_⟩
      have nDt : D4 ≠ t := ne_of_none dy nt
      refine ⟨_, by rw [upd_ne nDt]; exact dy, ?_, Lr ++ [(t, (r0 + 1, wd))], fun c o ec => ?_, ?_, fun x hx => ?_, fun x hx => ?_, by rw [List.length_append]; show Lr.length + 1 ≤ j + 1; omega⟩
      · rw [List.length_map]
        exact Nat.lt_of_le_of_lt (show Lr.length ≤ 35 by omega) (by decide)
      · rw [upd_ne (ne_of_none ec nD4), upd_ne (ne_of_none (gy _ _ ec) nt)]
        exact gy _ _ ec
      · rw [upd_same]
        show _ = some (HO.lst (prefs (Lr ++ [(t, (r0 + 1, wd))])))
        rw [show prefs (Lr ++ [(t, (r0 + 1, wd))]) = prefs Lr ++ [V.ref t] from List.map_append]
      · rcases List.mem_append.mp hx with z | z
        · have g := ry x z
          rw [upd_ne (fun q => by rw [q, dy] at g; cases g), upd_ne (ne_of_none g nt)]
          exact g
        · rw [List.mem_singleton.mp z, upd_ne nDt.symm, upd_same]
          show some (HO.tup [V.int ((r0 : Int) + 1), V.str (S wd)]) = some (HO.tup [V.int ((r0 + 1 : Nat) : Int), V.str (S wd)])
          rw [Int.natCast_add]
          rfl
      · rcases List.mem_append.mp hx with z | z
        · exact my x z
        · rw [List.mem_singleton.mp z]
          exact ⟨by show r0 + 1 ≤ 200; omega, by show wd.length ≤ 9; omega, fun c hc => by have := y1 c hc; omega⟩
    rintro Hy ⟨Lr, gy, dy, ry, my, ly⟩
    have gf12 := gf11.moved (fun c o _ e => gy _ _ e) (gy _ _ gf11.da)
    refine ⟨D4, _, rfl, .inl ⟨SqL.of dy, fun t7 nt7 => ?_⟩⟩
    have gf13 := gf12.new nt7 (o := .tup (prefs Lr))
    have z9 : upd Hy t7 (.tup (prefs Lr)) t7 = some (.tup (prefs Lr)) := upd_same
    have r9 : ∀ x ∈ Lr, upd Hy t7 (.tup (prefs Lr)) x.1 = some (pfO x.2) := fun x hx => same_new' nt7 _ _ (ry x hx)
    have nt7a := ne_die gf12.da nt7
    generalize upd Hy t7 (.tup (prefs Lr)) = J30 at gf13 z9 r9 ⊢
    have v9 : Vd a (hid J30 fo) (.ref t7) (.tuple (Lr.map fun e => pfD e.2)) := by
      have nl : ∀ {c xs}, J30 c = some (.tup xs) → c ≠ fo ∧ c ≠ a := fun e => ⟨fun z => (by rw [z, gf13.fa] at e; cases e), fun z => (by rw [z, gf13.da] at e; cases e)⟩
      exact .tup nt7a (by rw [hid_ne (nl z9).1]; exact z9) (rows_vd fun x hx => ⟨(nl (r9 x hx)).2, by rw [hid_ne (nl (r9 x hx)).1]; exact r9 x hx⟩)
    refine ⟨fo, _, _, rfl, rfl, gf13.fa, by show 9 < sizeLine; decide, ?_⟩
    have gf14 := gf13.push v9
    have l4 : Lr.length ≤ 40 := by rw [lP] at ly; omega
    generalize upd J30 fo _ = J31 at gf14 ⊢
    clear v9 gf13 z9 r9 gf12 gf11 dy ry gy nt7 nD4 ly
    refine ⟨_, rfl, _, rfl, by decide, by decide, fun D5 nD5 => ?_⟩
    have fc : Fine N0 2 385 (.tuple (L.map fun e => pfD e.2)) := by
      have h : ∀ e ∈ L, e.2.1 ≤ 200 ∧ e.2.2.length ≤ 8 ∧ ∀ c ∈ e.2.2, c < 128 := fun e he => by
        obtain ⟨_, y1, y2, y3⟩ := gL e he
        exact ⟨by omega, y2, fun c hc => by have := y1 c hc; omega⟩
      exact (fine_tup.mpr (rows_fine h)).up (Nat.le_refl _) (Nat.le_refl _) (by omega)
    have n1 : N0 ≤ 10 ^ 42 := by decide +kernel
    refine lc_range (fun i Hy => ∃ (xs : List V) (ds : List PyData) (dx : Int × Int × Int), Gf a D5 (dieL dx) J31 Hy xs ds ∧ DieOk dx ∧ dx.2.2 ≤ d1.2.2 + 12 * (i : Int) ∧ (∀ x ∈ ds, Fine (N0 + 1) 20 900 x) ∧ xs.length ≤ i) ⟨[], [], d1, Gf.start (Kp.refl a J31) gf14.da nD5 nD5 .nil, hd1, by omega, fun x hx => (by cases hx), Nat.le_refl _⟩ ?_ ?_
    · rintro j Hy hj ⟨xs, ds, dx, gy, hdx, hcx, fx, ly⟩
      have vp : Vd a (hid Hy D5) (.ref p) (.tuple (L.map fun e => pfD e.2)) := .tup npa (gy.old npa (gf14.kp _ _ npa hp)) (VdAll.keep (fun q o h _ e => gy.old h e) _ _ (VdAll.kp r gf14.kp))
      have hda : hid Hy D5 a = some (.lst (dieL dx)) := by rw [hid_ne gy.nf.symm]; exact gy.da
      refine ⟨rfl, D5, xs, gy.fa, _, rfl, _, rfl, a, dx, .ref p, 3, _, N0, 2, 385, rfl, hda, hdx, (by show dx.2.2 + 3 * (((3 : Nat) : Int) + 1) ≤ 980000000; omega), by decide, vp, fc, Nat.le_refl _, n1, by decide, by decide, fun v pd d' H' vd' f' hd' hc' kp' a' nf' => ?_⟩
      have hc' : d'.2.2 ≤ dx.2.2 + 3 * (((3 : Nat) : Int) + 1) := hc'
      have gm := gy.aside kp' a' nf'
      have vh : Vd a (hid (upd H' D5 (.lst xs)) D5) v pd := by
        rw [hid_upd nf']
        exact vd'
      refine ⟨xs, gm.fa, Nat.lt_of_le_of_lt (show xs.length ≤ 8 by omega) (by decide), xs ++ [v], ds ++ [pd], d', gm.push vh, hd', by omega, fun x hx => ?_, by rw [List.length_append]; show xs.length + 1 ≤ j + 1; omega⟩
      rcases List.mem_append.mp hx with z | z
      · exact fx x z
      · rw [List.mem_singleton.mp z]
        exact f'.up (Nat.le_refl _) (by decide) (by decide)
    rintro Hy ⟨xs, ds, dx, gy, hdx, hcx, fx, ly⟩
    have fL : FineL N0 1 385 (L.map fun e => pfD e.2) := (rows_fine (w := 8) fun e he => by
      obtain ⟨_, y1, y2, y3⟩ := gL e he
      exact ⟨by omega, y2, fun c hc => by have := y1 c hc; omega⟩).up (Nat.le_refl _) (Nat.le_refl _) (by show L.length * 11 ≤ 385; omega)
    have fM2 : FineL N0 1 480 (M2.map fun e => pfD e.2) := (rows_fine m2).up (Nat.le_refl _) (Nat.le_refl _) (by show M2.length * 12 ≤ 480; omega)
    have fM3 : FineL N0 1 480 (M3.map fun e => pfD e.2) := (rows_fine m3).up (Nat.le_refl _) (Nat.le_refl _) (by show M3.length * 12 ≤ 480; omega)
    have fLr : FineL N0 1 480 (Lr.map fun e => pfD e.2) := (rows_fine my).up (Nat.le_refl _) (Nat.le_refl _) (by show Lr.length * 12 ≤ 480; omega)
    have ft : ∀ {m : Nat} {zs : List PyData}, m ≤ 900 → FineL N0 1 m zs → Fine (N0 + 1) 20 900 (.tuple zs) := fun h f => (fine_tup.mpr f).up (Nat.le_succ _) (by decide) h
    have fR : Fine N0 1 2 (.tuple [PyData.int R, PyData.str ""]) := by
      have f1 : Fine N0 0 0 (.int (R : Int)) := fine_int (by rw [Int.natAbs_natCast]; exact Nat.le_trans r5 (by decide))
      have f2 : Fine N0 0 0 (.str "") := fine_str (fun c hc => by cases hc) (Nat.le_refl _)
      exact (fine_tup.mpr (fineL_cons f1 (fineL_cons f2 fineL_nil (k := 0)))).up (Nat.le_refl _) (Nat.le_refl _) (by omega)
    obtain ⟨vs14, ds14, g14, f14, l14⟩ : ∃ vs ds, Gf a fo (dieL d1) H J31 vs ds ∧ (∀ x ∈ ds, Fine (N0 + 1) 20 900 x) ∧ vs.length ≤ 20 := by
      refine ⟨_, _, gf14, fun x hx => ?_, by show 10 ≤ 20; decide⟩
      simp only [List.mem_append, List.mem_singleton, List.not_mem_nil, false_or, or_assoc] at hx
      rcases hx with rfl | rfl | rfl | rfl | rfl | rfl | rfl | rfl | rfl | rfl
      · exact ft (by decide) fL
      · exact ft (by decide) (fL.cut.app fL.cut)
      · exact ft (by decide) (fL.app fL.cut)
      · exact ft (by decide) fL.rev
      · exact (fine_lst.mpr fL).up (Nat.le_succ _) (by decide) (by decide)
      · exact ft (m := 0) (by decide) fineL_nil
      · exact ft (by decide) (fL.app (fineL_cons fR (fineL_nil (m := 0))))
      · exact ft (by decide) fM2
      · exact ft (by decide) fM3
      · exact ft (by decide) fLr
    clear gf14
    have ly : xs.length ≤ 8 := ly
    have hcx : dx.2.2 ≤ d1.2.2 + 12 * 8 := hcx
    refine ⟨fo, D5, vs14, xs, rfl, rfl, gy.kp _ _ nfa g14.fa, gy.fa, Nat.le_trans (show vs14.length + xs.length ≤ 40 by omega) (by decide), fun q7 nq7 => ?_⟩
    have r16 := VdAll.up (o := .lst (vs14 ++ xs)) nq7 ((VdAll.kp g14.all gy.kp).app gy.all)
    have z7 : upd Hy q7 (.lst (vs14 ++ xs)) q7 = some (.lst (vs14 ++ xs)) := upd_same
    have d7 : upd Hy q7 (.lst (vs14 ++ xs)) a = some (.lst (dieL dx)) := by rw [upd_ne (ne_of_none gy.da nq7)]; exact gy.da
    have k7 : Kp a H (upd Hy q7 (.lst (vs14 ++ xs))) := fun c o h e => by rw [upd_ne (ne_of_none (gy.kp _ _ h (g14.kp _ _ h e)) nq7)]; exact gy.kp _ _ h (g14.kp _ _ h e)
    have q7a := (ne_of_none gy.da nq7).symm
    generalize upd Hy q7 (.lst (vs14 ++ xs)) = J40 at r16 z7 d7 k7 ⊢
    refine ⟨_, rfl, a, dx, rfl, d7, hdx, by omega, fun v pd d' J41 vv fv hd' hc' kp' a' => ?_⟩
    refine ⟨by show 1 ≤ sizeLine; decide, fun q8 nq8 => ?_⟩
    have z7 := kp' _ _ q7a z7
    refine ⟨q7, q8, vs14 ++ xs, [v], rfl, rfl, by rw [upd_ne (ne_of_none z7 nq8)]; exact z7, upd_same, Nat.le_trans (show (vs14 ++ xs).length + 1 ≤ 50 by rw [List.length_append]; omega) (by decide), fun q9 nq9 => ?_⟩
    have r17 := VdAll.up (o := .lst (vs14 ++ xs ++ [v])) nq9 (VdAll.up (o := .lst [v]) nq8 ((VdAll.kp r16 kp').app (.cons vv .nil)))
    have k9 : ∀ c o, J41 c = some o → upd (upd J41 q8 (.lst [v])) q9 (.lst (vs14 ++ xs ++ [v])) c = some o := fun c o e => by
      have e2 : upd J41 q8 (.lst [v]) c = some o := by rw [upd_ne (ne_of_none e nq8)]; exact e
      rw [upd_ne (ne_of_none e2 nq9)]
      exact e2
    refine k q9 _ _ d' _ (fun c o h e => k9 _ _ (kp' _ _ h (k7 _ _ h e))) (k9 _ _ a') hd' (by omega) upd_same (fun z => ?_) r17 (fun x hx => ?_)
    · have e2 : upd J41 q8 (.lst [v]) a = some (.lst (dieL d')) := by rw [upd_ne (ne_of_none a' nq8)]; exact a'
      exact ne_of_none e2 nq9 z.symm
    · rcases List.mem_append.mp hx with hx | hx
      · rcases List.mem_append.mp hx with hx | hx
        · exact f14 x hx
        · exact fx x hx
      · rw [List.mem_singleton.mp hx]
        exact fv.up (Nat.le_succ _) (by decide) (by decide)
end
end Vf


set_option Elab.async false
set_option maxRecDepth 100000
set_option maxHeartbeats 8000000
set_option exponentiation.threshold 3000
/-! What the law's try gives; a def with a star parameter. -/
namespace Vf
open PySem PySem.Spec PyProof.Rows L2 SX Vm
section
variable {X : Cx} {CX : CXT} {k : Nat} {f : Addr} {sp : Sp} {E : XK} {x : Str} {e : Expr} {es : List Expr} {t : TA} {p pos : Pos}
/-- x(e, ..), x a def of any kind of parameters -/
theorem pe_callR (F : FnR X.prog X.w X.K X.mg X.base CX k f sp) (hr : Room k X.A) (hg : Gl X x) (hm : X.mg x = some (.ref f)) (hk : PySem.W.keepIn X.K (.ref f) = true) (hx : Passes CX X E) (ha : PA X (e :: es) t) (hd : (x == ("__debug__" : Str)) = false := by decide)
    (he : starEach (e :: es) X.env = (false, eval e X.env) :: starEach es X.env := by rfl) (hpl : (backTo pos (starEach es X.env)).any (·.1) = false := by rfl) :
    PE X (.Call (.Name x p) (e :: es) [] pos) (fun σ H Q => t σ H fun vs H1 => sp vs H1 Q E) := by
  refine ⟨fun pins s σ H Q I h => ?_⟩
  refine wpAny_Call_Name_kw (ld_glob I hg hm (PySem.W.callWith_K I.ok.mod.kin hk (thn (ha.run pos pins s σ H _ I h) fun us s1 ⟨vs, H1, I1, r, q⟩ => ⟨I1.kIn, ?_⟩) he hpl) hd)
  exact wpAny_call (run_fnR F hr hx I1 r q)
end
/-- the classes of the law's try -/
structure Told7 (K : PySem.W.Frag) (mg : Str → Option Value) (CI CX : Addr) : Prop where
  gI : mg "InvalidCode" = some (.ref CI)
  gX : mg "InvalidPrefix" = some (.ref CX)
  ii : PySem.W.exmOne K (.ref CI) (.ref CI) = some true
/-- what is told of a call: its value, or the word for an InvalidCode -/
def TT7 (CI : Addr) : (XK → Hp → VK → Prop) → Hp → VK → Prop := fun tl H Q => tl (fun cls _ H' => cls = .ref CI ∧ Q (.str "code") H') H Q
section
variable {X : Cx}
theorem scTold7 : FnScope ["call"] ["call"] (defScope sTold) := ⟨rfl, rfl, rfl, by decide +kernel, rfl, by decide +kernel, by decide +kernel⟩
theorem told7_gives {CI CE g : Addr} {cdg : Value} {q : Str} (T : Told7 X.K X.mg CI CE) : LamX.GivesTo X ["call"] "_law_told" (defScope sTold) g cdg (defBody sTold) "call" q (TT7 CI) := by
  intro f c' s H Q tl act hc h
  refine ⟨_, pss_one (ps_try_many (X := (cxOf C8.CX0 X.prog X.w X.K X.mg X.base ["call"] "_law_told" (defScope sTold) g cdg X.A X.stack s H C8.E0).nox)
      (tb := fun W D σ H => ∃ Ech : XK, (∀ cls d σ' H', Ech cls d H' → W cls d σ' H') ∧ σ[0]? = some (some (.ref f)) ∧ H c' = some (LamX.CodeO c' q) ∧ tl Ech H D.rt)
      (l := [(.ref CI, fun _ _ _ D _ H => D.rt (.str "code") H), (.ref CE, fun _ _ _ D _ H => D.rt (.str "prefix") H)])
      rfl rfl takes_none5 (fun W pn xe tk _ => ?_)
      (.cons ⟨by rfl, by decide, .inl T.gI⟩ (fun a oe cls d pn _ _ => pss_one (ps_ret pe_str)) (.cons ⟨by rfl, by decide, .inl T.gX⟩ (fun a oe cls d pn _ _ => pss_one (ps_ret pe_str)) .nil))), ?_⟩
  · refine ⟨fun pins s' σ H' D I h' => ?_⟩
    obtain ⟨Ech, hW, h1, h2, h3⟩ := h'
    exact (pss_one (ps_ret (act W pn xe Ech _ _ tk hW))).run pins s' σ H' D I ⟨h1, h2, h3⟩
  · refine ⟨fun cls d H' => cls = .ref CI ∧ Q (.str "code") H', fun cls d σ' H' hE => ?_, rfl, hc, h⟩
    obtain ⟨rfl, hq⟩ := hE
    exact ⟨true, T.ii, fun _ a _ => hq, fun z => nomatch z⟩
end
section
variable {P : Program} {w : World} {K : PySem.W.Frag} {mg : Str → Option Value} {base : Heap}
/-- make_code: the prefixes as a new tuple -/
def spMakeCode (CI : Addr) : Sp := fun vs H Q E => ∃ ws rest, vs = ws ++ rest ∧ ws.length = ["base", "roots"].length ∧ rest.length ≤ sizeLine ∧ ∀ p, H p = Option.none → spCodeFrom CI (ws ++ [V.ref p]) (upd H p (.tup rest)) Q E
theorem scMakeCode : FnScope ["base", "roots", "prefixes"] ["base", "roots", "prefixes"] (defScope sMakeCode) := ⟨rfl, rfl, rfl, by decide +kernel, rfl, by decide +kernel, by decide +kernel⟩
theorem ok_makecode {f fC CI : Addr} {fd fdC : FuncData} (F : Fun K "make_code" "make_code" sMakeCode f fd) (GC : FnOk P w K mg base (L2.CX P w) 6 fC fdC ["base", "roots", "prefixes"] (spCodeFrom CI)) (cC : Cal K mg "code_from" fC fdC ["base", "roots", "prefixes"]) :
    FnR P w K mg base (L2.CX P w) 7 f (spMakeCode CI) := by
  obtain ⟨oc, od, kV, doc, pm, an, cdv, ct, osl, rfl, lk, hcd⟩ := F.ex
  refine StX.fn_star (ps := ["base", "roots"]) (pv := "prefixes") lk hcd scMakeCode StX.cxUp (StX.bind_star2 (B := fun us => bindArgs _ ⟨us, []⟩) (fun a b => rfl) (fun a b r rs => rfl)) fun A outer s H vs Q E hr h => ?_
  have hl : ∃ a b c, vs = [a, b, c] := by
    obtain ⟨_, _, _, _, _, e, _⟩ := h
    exact ⟨_, _, _, e⟩
  obtain ⟨a, b, c, rfl⟩ := hl
  refine ⟨_, pss_one (ps_ret (pe_call GC hr rfl cC.mg cC.kp cC.b .nil (passes_call (takes_of rfl rfl rfl rfl) (fun _ _ _ _ h => h)) (pa_cons (pv 0) (pa_cons (pv 1) (pa_cons (pv 2) pa_nil))))), ?_⟩
  exact ⟨_, rfl, _, rfl, _, rfl, h⟩
end
end Vf


set_option Elab.async false
set_option maxRecDepth 100000
set_option maxHeartbeats 8000000
set_option exponentiation.threshold 3000
/-! What code_from tells of prefixes, and what the law says of them. -/
namespace Vf
open PySem PySem.Spec PyProof.Rows L2 SX Vm
/-- v is what code_from tells of the prefixes in M -/
def Tl (b R N : Nat) (M : List Pf) (H : Hp) (v : V) : Prop := ∃ Ms : Pr, SrtP (pfs Ms) ∧ (pfs Ms).Perm M ∧ (∀ e ∈ Ms, H e.1 = some (pfO e.2)) ∧
  ((codeB b R N (pfs Ms) = true ∧ ∃ t, v = .ref t ∧ H t = some (.tup (prefs Ms))) ∨ (codeB b R N (pfs Ms) = false ∧ v = .str "code"))
/-- all but the tables stays -/
theorem Tl.keep {b R N : Nat} {M : List Pf} {H H' : Hp} {v : V} (h : Tl b R N M H v) (k : ∀ c o, (∀ ps, o ≠ .tbl ps) → (∀ xs, o ≠ .lst xs) → H c = some o → H' c = some o) : Tl b R N M H' v := by
  obtain ⟨Ms, h1, h2, h3, h4⟩ := h
  refine ⟨Ms, h1, h2, fun e he => k _ _ (fun _ z => nomatch z) (fun _ z => nomatch z) (h3 e he), ?_⟩
  rcases h4 with ⟨c, t, e, ht⟩ | h4
  · exact .inl ⟨c, t, e, k _ _ (fun _ z => nomatch z) (fun _ z => nomatch z) ht⟩
  · exact .inr h4
theorem pfs_perm {A B : Pr} (h : A.Perm B) : (pfs A).Perm (pfs B) := h.map _
theorem tl_sorted {b R N : Nat} {H : Hp} {p : Addr} {L : Pr} (s : SrtP (pfs L)) (c : codeB b R N (pfs L) = true) (r : Row b R N H p L) : Tl b R N (pfs L) H (.ref p) :=
  ⟨L, s, List.Perm.refl _, fun e he => (r.good e he).1, .inl ⟨c, p, rfl, r.at_⟩⟩
theorem rows_dp {K : PySem.W.Frag} {H : Hp} : ∀ {L : Pr}, (∀ e ∈ L, H e.1 = some (pfO e.2)) → DpAll K H (prefs L) ((pfs L).map pfD)
  | [], _ => .nil
  | e :: L, g => .cons (.tup (SqT.of (g e List.mem_cons_self)) (.cons (.int _) (.cons (.str _) .nil))) (rows_dp fun x hx => g x (List.mem_cons_of_mem _ hx))
theorem rows_lay : ∀ {L : List Pf}, (∀ e ∈ L, ∀ c ∈ e.2, c < 100) → PyData.canLayAll0 (L.map pfD) = true
  | [], _ => rfl
  | e :: L, g => by
    show (PyData.canLay0 (pfD e) && PyData.canLayAll0 (L.map pfD)) = true
    rw [rows_lay fun x hx => g x (List.mem_cons_of_mem _ hx), Bool.and_true]
    show (PyData.canLay0 (.int (e.1 : Int)) && (PyData.canLay0 (.str (S e.2)) && true)) = true
    rw [lay_S (g e List.mem_cons_self)]
    rfl
theorem rows_depth : ∀ {L : List Pf}, PyData.depthAll (L.map pfD) ≤ 1
  | [] => Nat.zero_le _
  | e :: L => by
    show max (PyData.depth (pfD e)) (PyData.depthAll (L.map pfD)) ≤ 1
    exact Nat.max_le.mpr ⟨Nat.le_refl 1, rows_depth⟩
theorem rows_shaped {L : List Pf} (g : ∀ e ∈ L, ∀ c ∈ e.2, c < 100) : PyData.canLay0 (.tuple (L.map pfD)) = true ∧ SeqAt.shaped (.tuple (L.map pfD)) = true := by
  have h : PyData.canLay0 (.tuple (L.map pfD)) = true := rows_lay g
  refine ⟨h, ?_⟩
  unfold SeqAt.shaped
  rw [h, Bool.true_and]
  refine decide_eq_true ?_
  have := rows_depth (L := L)
  show PyData.depthAll (L.map pfD) + 1 ≤ 64
  omega
theorem tl_cmp {K : PySem.W.Frag} {b R N : Nat} {M M' : List Pf} {H : Hp} {v u : V} (pm : M.Perm M') (g : ∀ e ∈ M, ∀ c ∈ e.2, c < 100) (h : Tl b R N M H v) (h' : Tl b R N M' H u) :
    ∃ d e, Dp K H v d ∧ Dp K H u e ∧ SeqAt.shaped d = true ∧ SeqAt.shaped e = true ∧ PyData.eqv d e = true := by
  obtain ⟨A, a1, a2, a3, a4⟩ := h
  obtain ⟨B, b1, b2, b3, b4⟩ := h'
  have e : pfs A = pfs B := srt_uniq a1 b1 (a2.trans (pm.trans b2.symm))
  rcases a4 with ⟨c, t, rfl, ht⟩ | ⟨c, rfl⟩
  · rcases b4 with ⟨c', t', rfl, ht'⟩ | ⟨c', _⟩
    · obtain ⟨l, s⟩ := rows_shaped (L := pfs A) fun e he => g e (a2.mem_iff.mp he)
      refine ⟨_, _, .tup (SqT.of ht) (rows_dp a3), .tup (SqT.of ht') (rows_dp b3), s, by rw [← e]; exact s, ?_⟩
      rw [← e]
      exact PySem.SeqAt.eqv_refl _ l
    · rw [e, c'] at c
      cases c
  · rcases b4 with ⟨c', _⟩ | ⟨c', rfl⟩
    · rw [e, c'] at c
      cases c
    · exact ⟨_, _, .str _, .str _, by decide +kernel, by decide +kernel, by decide +kernel⟩
theorem ne_tl {K : PySem.W.Frag} {b R N : Nat} {M M' : List Pf} {H : Hp} {v u : V} {Q : VK} (pm : M.Perm M') (g : ∀ e ∈ M, ∀ c ∈ e.2, c < 100) (h : Tl b R N M H v) (h' : Tl b R N M' H u) (k : Q (.bl false) H) : rNeD K v u H Q := by
  obtain ⟨d, e, h1, h2, h3, h4, h5⟩ := tl_cmp (K := K) pm g h h'
  exact ⟨d, e, h1, h2, h3, h4, by rw [h5]; exact k⟩
theorem eq_tl {K : PySem.W.Frag} {b R N : Nat} {M M' : List Pf} {H : Hp} {v u : V} {Q : VK} (pm : M.Perm M') (g : ∀ e ∈ M, ∀ c ∈ e.2, c < 100) (h : Tl b R N M H v) (h' : Tl b R N M' H u) (k : Q (.bl true) H) : rEqD K v u H Q := by
  obtain ⟨d, e, h1, h2, h3, h4, h5⟩ := tl_cmp (K := K) pm g h h'
  exact ⟨d, e, h1, h2, h3, h4, by rw [h5]; exact k⟩
/-! ### what is called -/
theorem cf_tl {CI a : Addr} {b R N : Nat} {M : Pr} {H : Hp} {Q : VK} (b2 : 2 ≤ b) (b5 : b ≤ 5) (r1 : 1 ≤ R) (r5 : R ≤ 5000) (row : Row b R N H a M) (hN : N ≤ 1000) (k : ∀ v H', Same H H' → Tl b R N (pfs M) H' v → Q v H') :
    spCodeFrom CI [.int (b : Int), .int (R : Int), .ref a] H Q (fun cls _ H' => cls = .ref CI ∧ Q (.str "code") H') :=
  ⟨b, R, N, a, M, rfl, b2, b5, r1, r5, row, hN, fun L' p H' srt pm same row' np => ⟨fun c => k _ _ same ⟨L', srt, pfs_perm pm, fun e he => (row'.good e he).1, .inl ⟨c, p, rfl, row'.at_⟩⟩,
    fun c => ⟨rfl, k _ _ same ⟨L', srt, pfs_perm pm, fun e he => (row'.good e he).1, .inr ⟨c, rfl⟩⟩⟩⟩⟩
theorem cf_k {CI : Addr} {b R N : Nat} {M : Pr} {H : Hp} {Q : VK} (k : ∀ v H', Same H H' → Tl b R N (pfs M) H' v → Q v H') : ∀ (L' : Pr) (p : Addr) (H' : Hp), SrtP (pfs L') → L'.Perm M → Same H H' → Row b R N H' p L' → H p = none →
    (codeB b R N (pfs L') = true → Q (.ref p) H') ∧ (codeB b R N (pfs L') = false → (Value.ref CI = Value.ref CI ∧ Q (.str "code") H')) :=
  fun L' p H' srt pm same row' np => ⟨fun c => k _ _ same ⟨L', srt, pfs_perm pm, fun e he => (row'.good e he).1, .inl ⟨c, p, rfl, row'.at_⟩⟩, fun c => ⟨rfl, k _ _ same ⟨L', srt, pfs_perm pm, fun e he => (row'.good e he).1, .inr ⟨c, rfl⟩⟩⟩⟩
theorem cf_k2 {b R N : Nat} {M : Pr} {H : Hp} {Q : VK} {E : Prop} (ok : ∀ L : List Pf, SrtP L → L.Perm (pfs M) → codeB b R N L = true) (k : ∀ v H', Same H H' → Tl b R N (pfs M) H' v → Q v H') : ∀ (L' : Pr) (p : Addr) (H' : Hp), SrtP (pfs L') → L'.Perm M → Same H H' → Row b R N H' p L' → H p = none →
    (codeB b R N (pfs L') = true → Q (.ref p) H') ∧ (codeB b R N (pfs L') = false → E) :=
  fun L' p H' srt pm same row' np => ⟨fun c => k _ _ same ⟨L', srt, pfs_perm pm, fun e he => (row'.good e he).1, .inl ⟨c, p, rfl, row'.at_⟩⟩, fun c => by rw [ok _ srt (pfs_perm pm)] at c; cases c⟩
/-- code_from, where it is known to be a code -/
theorem cf_ok {CI a : Addr} {b R N : Nat} {M : Pr} {H : Hp} {Q : VK} {E : XK} (b2 : 2 ≤ b) (b5 : b ≤ 5) (r1 : 1 ≤ R) (r5 : R ≤ 5000) (row : Row b R N H a M) (hN : N ≤ 1000) (ok : ∀ L : List Pf, SrtP L → L.Perm (pfs M) → codeB b R N L = true) (k : ∀ v H', Same H H' → Tl b R N (pfs M) H' v → Q v H') :
    spCodeFrom CI [.int (b : Int), .int (R : Int), .ref a] H Q E :=
  ⟨b, R, N, a, M, rfl, b2, b5, r1, r5, row, hN, fun L' p H' srt pm same row' np => ⟨fun c => k _ _ same ⟨L', srt, pfs_perm pm, fun e he => (row'.good e he).1, .inl ⟨c, p, rfl, row'.at_⟩⟩,
    fun c => by rw [ok _ srt (pfs_perm pm)] at c; cases c⟩⟩
theorem row_new {b R N : Nat} {H : Hp} {p : Addr} {M : Pr} (hp : H p = none) (g : PGood b N H M) (hl : M.length ≤ 6000) (hr : ∀ e ∈ M, e.2.1 < R) : Row b R N (upd H p (.tup (prefs M))) p M :=
  ⟨upd_same, fun e he => ⟨by rw [upd_ne (ne_of_none (g e he).1 hp)]; exact (g e he).1, (g e he).2⟩, hl, hr⟩
theorem mk_tl {CI : Addr} {b R N : Nat} {M : Pr} {H : Hp} {Q : VK} (b2 : 2 ≤ b) (b5 : b ≤ 5) (r1 : 1 ≤ R) (r5 : R ≤ 5000) (g : PGood b N H M) (hl : M.length ≤ 6000) (hr : ∀ e ∈ M, e.2.1 < R) (hN : N ≤ 1000) (k : ∀ v H', Same H H' → Tl b R N (pfs M) H' v → Q v H') :
    spMakeCode CI (V.int (b : Int) :: V.int (R : Int) :: prefs M) H Q (fun cls _ H' => cls = .ref CI ∧ Q (.str "code") H') :=
  ⟨[.int (b : Int), .int (R : Int)], prefs M, rfl, rfl, by rw [List.length_map]; exact Nat.le_trans hl (by decide), fun p hp => cf_tl b2 b5 r1 r5 (row_new hp g hl hr) hN fun v H' s t => k v H' (fun c o e => s _ _ (same_new' hp _ _ e)) t⟩
theorem mk_ok {CI : Addr} {b R N : Nat} {M : Pr} {H : Hp} {Q : VK} {E : XK} (b2 : 2 ≤ b) (b5 : b ≤ 5) (r1 : 1 ≤ R) (r5 : R ≤ 5000) (g : PGood b N H M) (hl : M.length ≤ 6000) (hr : ∀ e ∈ M, e.2.1 < R) (hN : N ≤ 1000) (ok : ∀ L : List Pf, SrtP L → L.Perm (pfs M) → codeB b R N L = true)
    (k : ∀ v H', Same H H' → Tl b R N (pfs M) H' v → Q v H') : spMakeCode CI (V.int (b : Int) :: V.int (R : Int) :: prefs M) H Q E :=
  ⟨[.int (b : Int), .int (R : Int)], prefs M, rfl, rfl, by rw [List.length_map]; exact Nat.le_trans hl (by decide), fun p hp => cf_ok b2 b5 r1 r5 (row_new hp g hl hr) hN ok fun v H' s t => k v H' (fun c o e => s _ _ (same_new' hp _ _ e)) t⟩
/-! ### codes -/
theorem row_ok {b R N : Nat} {H : Hp} {a : Addr} {L : Pr} (r : Row b R N H a L) : ∀ e ∈ pfs L, PfOk b N R e := fun e he => by
  obtain ⟨x, hx, rfl⟩ := List.mem_map.mp he
  exact ⟨r.rt x hx, (r.good x hx).2.1, (r.good x hx).2.2⟩
theorem code_same {b R N : Nat} (b0 : 0 < b) {M : List Pf} (ok : ∀ e ∈ M, PfOk b N R e) (hl : M.length ≤ 5000) : codeB b R N M = covT b (mx M) R 0 0 M := by
  unfold codeB
  rw [decide_eq_true hl, Bool.true_and]
  exact cov_mx b0 ok
theorem code_leaf {b R N : Nat} (b0 : 0 < b) {M : List Pf} (h : Leaf b N R M) (s : SrtP M) (hl : M.length ≤ 5000) : codeB b R N M = true := by
  unfold codeB
  rw [decide_eq_true hl, Bool.true_and]
  exact h.cov b0 s
theorem code_twice {b R N : Nat} (b0 : 0 < b) {M M' : List Pf} (h : Leaf b N R M) {e : Pf} (he : e ∈ M) (pm : M'.Perm (M ++ [e])) : codeB b R N M' = false := by
  cases c : codeB b R N M' with
  | false => rfl
  | true =>
    exfalso
    unfold codeB at c
    rw [Bool.and_eq_true] at c
    have ok : ∀ x ∈ M', PfOk b N R x := fun x hx => by
      rcases List.mem_append.mp (pm.mem_iff.mp hx) with z | z
      · exact h.ok x z
      · rw [List.mem_singleton.mp z]
        exact h.ok e he
    have t := ((cov_iff b0 ok).mp c.2).2 e.1 (h.ok e he).r
    rw [tot_perm pm, tot_app, h.tt _ (h.ok e he).r] at t
    have t2 : tot b N e.1 [e] = b ^ (N - e.2.length) := by
      show (if e.1 = e.1 then b ^ (N - e.2.length) else 0) + 0 = _
      rw [if_pos rfl, Nat.add_zero]
    rw [t2] at t
    have := Nat.pow_pos (n := N - e.2.length) b0
    omega
theorem row_lg {b R N : Nat} {H : Hp} {a : Addr} {L : Pr} (r : Row b R N H a L) (hN : N ≤ 1000) (hl : L.length ≤ 5000) : LG H b R (.ref a) (covT b (mx (pfs L)) R 0 0 (pfs L)) :=
  .fin r.at_ hl (fun e he => ⟨(r.good e he).1, (r.good e he).2.1, mx_le (List.mem_map.mpr ⟨e, he, rfl⟩)⟩) (Nat.le_trans (mx_le_of fun x hx => (row_ok r x hx).le) hN) r.rt
/-! ### tuple(sorted(x)) -/
section
variable {X : Cx} {e : Expr} {te te' : TE}
theorem pe_imp (h : PE X e te) (i : ∀ σ H Q, te' σ H Q → te σ H Q) : PE X e te' := ⟨fun pins s σ H Q I q => h.run pins s σ H Q I (i σ H Q q)⟩
def rSortT : Hp → V → VK → Prop := fun H v Q => ∃ (p : Addr) (L : Pr), v = .ref p ∧ H p = some (.tup (prefs L)) ∧ (∀ e ∈ L, H e.1 = some (pfO e.2)) ∧
  ∀ (L' : Pr) (t : Addr) (H' : Hp), SrtP (pfs L') → (pfs L').Perm (pfs L) → Same H H' → (∀ e ∈ L', H' e.1 = some (pfO e.2)) → (∀ e ∈ L', e ∈ L) → H' t = some (.tup (prefs L')) → H t = none → L'.length = L.length → Q (.ref t) H'
theorem sort_rows {K : PySem.W.Frag} {H : Hp} {v : V} {Q : VK} (h : rSortT H v Q) :
    VG.rSortedIST K [v] H (fun x H1 => ∃ p ys, [x] = [.ref p] ∧ ((SqL K H1 p ys ∧ ∀ l, H1 l = none → Q (.ref l) (upd H1 l (.tup ys))) ∨ (SqT K H1 p ys ∧ Q (.ref p) H1))) := by
  obtain ⟨p, L, rfl, hp, g, k⟩ := h
  refine ⟨p, prefs L, keyAt H, rfl, SqT.of hp, fun x hx => ?_, fun ys l hs hb nl => ?_⟩
  · obtain ⟨e, he, rfl⟩ := List.mem_map.mp hx
    have g := g e he
    refine ⟨e.1, rfl, ?_⟩
    rw [keyAt_of g]
    exact g
  · obtain ⟨L', pm, ey⟩ := perm_lift (fun e : Addr × Pf => V.ref e.1) L hb.perm
    subst ey
    have s1 : Same H (upd H l (.lst (prefs L'))) := same_new' nl
    have g1 : upd H l (.lst (prefs L')) l = some (.lst (prefs L')) := upd_same
    generalize upd H l (.lst (prefs L')) = H1 at s1 g1 ⊢
    refine ⟨l, _, rfl, .inl ⟨SqL.of g1, fun t ht => ?_⟩⟩
    have s2 : Same H1 (upd H1 t (.tup (prefs L'))) := same_new' ht
    have np : H t = none := by
      cases z : H t with
      | none => rfl
      | some o => rw [s1 _ _ z] at ht; cases ht
    have S12 : Same H (upd H1 t (.tup (prefs L'))) := fun _ _ e => s2 _ _ (s1 _ _ e)
    refine k L' t _ ?_ (pfs_perm pm) S12 (fun e he => S12 _ _ (g e (pm.mem_iff.mp he))) (fun e he => pm.mem_iff.mp he) upd_same np pm.length_eq
    have z := srtd_of_map hs
    have e : (prefs L').map (keyAt H) = (pfs L').map kP := by
      rw [List.map_map, List.map_map]
      refine List.map_congr_left fun e he => ?_
      exact keyAt_of (g e (pm.mem_iff.mp he))
    rw [e] at z
    exact z
end
end Vf


set_option Elab.async false
set_option maxRecDepth 100000
set_option maxHeartbeats 16000000
set_option exponentiation.threshold 3000
/-! Codes made of prefixes in any order, and of some that are no code. -/
namespace Vf
open PySem L2 SX Vm VG
/-- all but lists and tables stays -/
def KX (H H' : Hp) : Prop := ∀ c o, (∀ ps, o ≠ .tbl ps) → (∀ xs, o ≠ .lst xs) → H c = some o → H' c = some o
/-- all but a and the tables stays -/
def KT (a : Addr) (H H' : Hp) : Prop := ∀ b o, b ≠ a → (∀ ps, o ≠ .tbl ps) → H b = some o → H' b = some o
theorem KT.refl (a : Addr) (H : Hp) : KT a H H := fun _ _ _ _ e => e
theorem KT.kp {a : Addr} {H H1 H2 : Hp} (x : KT a H H1) (y : Kp a H1 H2) : KT a H H2 := fun b o n nt e => y b o n (x b o n nt e)
theorem KT.sm {a : Addr} {H H1 H2 : Hp} (x : KT a H H1) (y : Same H1 H2) : KT a H H2 := fun b o n nt e => y b o (x b o n nt e)
theorem KT.ex {a : Addr} {H H1 H2 : Hp} (x : KT a H H1) (y : LamX.ExtN H1 H2) : KT a H H2 := fun b o n nt e => y b o (x b o n nt e) nt
theorem KT.trans {a : Addr} {H H1 H2 : Hp} (x : KT a H H1) (y : KT a H1 H2) : KT a H H2 := fun b o n nt e => y b o n nt (x b o n nt e)
theorem KT.kx {a : Addr} {H H' : Hp} {D : List V} (x : KT a H H') (ha : H a = some (.lst D)) : KX H H' := fun c o nt nl e => x c o (fun z => by rw [z, ha] at e; exact nl D (Option.some.inj e).symm) nt e
theorem KX.of {H H' : Hp} (s : Same H H') : KX H H' := fun c o _ _ e => s c o e
theorem KX.ex {H H' : Hp} (s : LamX.ExtN H H') : KX H H' := fun c o nt _ e => s c o e nt
theorem KX.trans {H H1 H2 : Hp} (x : KX H H1) (y : KX H1 H2) : KX H H2 := fun c o nt nl e => y c o nt nl (x c o nt nl e)
theorem Row.kx {b R N : Nat} {H H' : Hp} {p : Addr} {L : Pr} (r : Row b R N H p L) (k : KX H H') : Row b R N H' p L :=
  ⟨k _ _ (fun _ z => nomatch z) (fun _ z => nomatch z) r.at_, fun e he => ⟨k _ _ (fun _ z => nomatch z) (fun _ z => nomatch z) (r.good e he).1, (r.good e he).2⟩, r.len, r.rt⟩
theorem tabs_kp {T : List (Addr × Str)} {H H' : Hp} {a : Addr} {l : List V} (t : LamX.Tabs T H) (ha : H a = some (.lst l)) (k : Kp a H H') : LamX.Tabs T H' := fun p hp => by
  obtain ⟨ps, h1, h2, h3⟩ := t p hp
  have n1 : p.1 ≠ a := fun z => by rw [z, ha] at h1; cases h1
  refine ⟨ps, k _ _ n1 h1, h2, fun pos cv hc => ?_⟩
  obtain ⟨c, e1, e2⟩ := h3 pos cv hc
  have n2 : c ≠ a := fun z => by
    rw [z, ha] at e2
    unfold LamX.CodeO at e2
    cases e2
  exact ⟨c, e1, k _ _ n2 e2⟩
abbrev qMade : Str := "_law_made_right" ++ ".<locals>." ++ "<lambda>"
abbrev qLaw : Str := "law" ++ ".<locals>." ++ "<lambda>"
abbrev t7 (P1 P2 : Addr) : List (Addr × Str) := [(P1, qMade), (P2, qLaw)]
/-- the def that calls what it got, as its text stands -/
structure TFn (K : PySem.W.Frag) (mg : Str → Option Value) (g : Addr) : Prop where
  m : mg "_law_told" = some (.ref g)
  kp : PySem.W.keepIn K (.ref g) = true
  lk : ∃ (oc : Value) (od : Option Addr) (kV doc pm : Value) (an : Option Addr) (cdv ct : Value) (osl : Array (Option Value)), K.lookup g = some ⟨oc, od, .func (PySem.W.fnOf "_law_told" "_law_told" (defArgs sTold) (defBody sTold) (defScope sTold) .none kV doc pm an cdv ct), osl⟩ ∧ PySem.W.codeIn K cdv "_law_told" = true ∧
    Binds K (PySem.W.fnOf "_law_told" "_law_told" (defArgs sTold) (defBody sTold) (defScope sTold) .none kV doc pm an cdv ct) ["call"] []
/-! ### what is due -/
def tDue (i : Nat) : TE := fun σ H Q => ∃ (b R N : Nat) (p : Addr) (M : Pr), σ[1]? = some (some (.int (b : Int))) ∧ σ[2]? = some (some (.int (R : Int))) ∧ σ[i]? = some (some (.ref p)) ∧ 2 ≤ b ∧ b ≤ 5 ∧ R ≤ 100 ∧ Row b R N H p M ∧ N ≤ 1000 ∧ M.length ≤ 5000 ∧ ∀ v H', Same H H' → Tl b R N (pfs M) H' v → Q v H'
def sortK (K : PySem.W.Frag) (i : Nat) : TE := fun σ H Q => ∃ v, σ[i]? = some (some v) ∧ VG.rSortedIST K [v] H (fun x H1 => ∃ p ys, [x] = [.ref p] ∧ ((SqL K H1 p ys ∧ ∀ l, H1 l = none → Q (.ref l) (upd H1 l (.tup ys))) ∨ (SqT K H1 p ys ∧ Q (.ref p) H1)))
theorem sort_i {K : PySem.W.Frag} {i : Nat} {σ : L2.St} {H : Hp} {Q : VK} (h : ∃ v, σ[i]? = some (some v) ∧ rSortT H v Q) : sortK K i σ H Q := by
  obtain ⟨v, e, h⟩ := h
  exact ⟨v, e, sort_rows h⟩
theorem due_yes {K : PySem.W.Frag} {i : Nat} {σ : L2.St} {H : Hp} {Q : VK} (h : tDue i σ H Q) : tIf (tB (tCall spLIsCode [] E0 (tCons (tVar 1) (tCons (tVar 2) (tCons (sortK K i) tNil))))) (sortK K i) (tC (.str "code")) σ H Q := by
  obtain ⟨b, R, N, p, M, e1, e2, e3, b2, b5, r5, row, hN, hl, k⟩ := h
  refine ⟨_, e1, _, e2, sort_i ⟨_, e3, p, M, rfl, row.at_, fun e he => (row.good e he).1, fun Ms t H1 srt pm s1 g1 sub ht nt lm => ?_⟩⟩
  have row1 : Row b R N H1 t Ms := ⟨ht, fun e he => ⟨g1 e he, (row.good e (sub e he)).2⟩, by omega, fun e he => row.rt e (sub e he)⟩
  refine ⟨b, R, .ref t, _, rfl, b2, b5, r5, row_lg row1 hN (by omega), fun H2 s2 => ⟨_, rfl, ?_⟩⟩
  rw [← code_same (by omega) (row_ok row1) (by rw [List.length_map]; omega)]
  have S12 : Same H H2 := fun _ _ e => s2 _ _ (s1 _ _ e)
  cases c : codeB b R N (pfs Ms) with
  | false =>
    refine iteF ?_
    exact k _ H2 S12 ⟨Ms, srt, pm, fun e he => s2 _ _ (g1 e he), .inr ⟨c, rfl⟩⟩
  | true =>
    refine iteT ?_
    refine sort_i ⟨_, e3, p, M, rfl, S12 _ _ row.at_, fun e he => S12 _ _ (row.good e he).1, fun Ms2 t2 H3 srt2 pm2 s3 g3 sub2 ht2 nt2 lm2 => ?_⟩
    refine k _ H3 (fun _ _ e => s3 _ _ (S12 _ _ e)) ⟨Ms2, srt2, pm2, g3, .inl ⟨?_, t2, rfl, ht2⟩⟩
    rw [srt_uniq srt2 srt (pm2.trans pm.symm)]
    exact c
theorem due_no {K : PySem.W.Frag} {i : Nat} {σ : L2.St} {H : Hp} {Q : VK} (h : tDue i σ H Q) : tIf (tNot (tB (tCall spLIsCode [] E0 (tCons (tVar 1) (tCons (tVar 2) (tCons (sortK K i) tNil)))))) (tC (.str "code")) (sortK K i) σ H Q := by
  obtain ⟨b, R, N, p, M, e1, e2, e3, b2, b5, r5, row, hN, hl, k⟩ := h
  refine ⟨_, e1, _, e2, sort_i ⟨_, e3, p, M, rfl, row.at_, fun e he => (row.good e he).1, fun Ms t H1 srt pm s1 g1 sub ht nt lm => ?_⟩⟩
  have row1 : Row b R N H1 t Ms := ⟨ht, fun e he => ⟨g1 e he, (row.good e (sub e he)).2⟩, by omega, fun e he => row.rt e (sub e he)⟩
  refine ⟨b, R, .ref t, _, rfl, b2, b5, r5, row_lg row1 hN (by omega), fun H2 s2 => ⟨_, rfl, ?_⟩⟩
  rw [← code_same (by omega) (row_ok row1) (by rw [List.length_map]; omega)]
  have S12 : Same H H2 := fun _ _ e => s2 _ _ (s1 _ _ e)
  cases c : codeB b R N (pfs Ms) with
  | false =>
    refine iteT ?_
    exact k _ H2 S12 ⟨Ms, srt, pm, fun e he => s2 _ _ (g1 e he), .inr ⟨c, rfl⟩⟩
  | true =>
    refine iteF ?_
    refine sort_i ⟨_, e3, p, M, rfl, S12 _ _ row.at_, fun e he => S12 _ _ (row.good e he).1, fun Ms2 t2 H3 srt2 pm2 s3 g3 sub2 ht2 nt2 lm2 => ?_⟩
    refine k _ H3 (fun _ _ e => s3 _ _ (S12 _ _ e)) ⟨Ms2, srt2, pm2, g3, .inl ⟨?_, t2, rfl, ht2⟩⟩
    rw [srt_uniq srt2 srt (pm2.trans pm.symm)]
    exact c
/-- tuple(x) -/
def rTupK (K : PySem.W.Frag) : List V → Hp → VK → Prop := fun xs H Q => ∃ p ys, xs = [.ref p] ∧ ((SqL K H p ys ∧ ∀ l, H l = none → Q (.ref l) (upd H l (.tup ys))) ∨ (SqT K H p ys ∧ Q (.ref p) H))
theorem two {A B C G1 G2 T : Prop} (c : C) (h1 : A → T → G1) (h2 : B → T → G2) (t : T) : (A → G1) ∧ (B → C ∧ G2) := ⟨fun a => h1 a t, fun b => ⟨c, h2 b t⟩⟩
theorem tl1 {b R N : Nat} {M Ls : Pr} {H : Hp} {p : Addr} (srt : SrtP (pfs Ls)) (pm : Ls.Perm M) (row : Row b R N H p Ls) (c : codeB b R N (pfs Ls) = true) : Tl b R N (pfs M) H (.ref p) := ⟨Ls, srt, pfs_perm pm, fun e he => (row.good e he).1, .inl ⟨c, p, rfl, row.at_⟩⟩
theorem tl0 {b R N : Nat} {M Ls : Pr} {H : Hp} {p : Addr} (srt : SrtP (pfs Ls)) (pm : Ls.Perm M) (row : Row b R N H p Ls) (c : codeB b R N (pfs Ls) = false) : Tl b R N (pfs M) H (.str "code") := ⟨Ls, srt, pfs_perm pm, fun e he => (row.good e he).1, .inr ⟨c, rfl⟩⟩
theorem slNL {K : PySem.W.Frag} {σ : L2.St} {x : V} {lo : Option Int} {J : Hp} {Q : VK} (h : rSlL K x lo none J Q) : tNoPart σ J (fun u H3 => rSlL K x lo u H3 Q) := h
theorem KX.kp {a : Addr} {H H' : Hp} {D : List V} (k : Kp a H H') (ha : H a = some (.lst D)) : KX H H' := fun c o _ nl e => k c o (fun z => by rw [z, ha] at e; exact nl D (Option.some.inj e).symm) e
theorem KX.refl (H : Hp) : KX H H := fun _ _ _ _ e => e
theorem tl_no {b R N : Nat} {M : List Pf} {H : Hp} {v : V} (h : Tl b R N M H v) (c : ∀ L : List Pf, L.Perm M → codeB b R N L = false) : v = .str "code" := by
  obtain ⟨Ms, h1, h2, h3, ⟨h4, _⟩ | ⟨_, h4⟩⟩ := h
  · rw [c _ h2] at h4
    cases h4
  · exact h4
theorem ne_no {K : PySem.W.Frag} {H : Hp} {v : V} {Q : VK} (e : v = .str "code") (k : Q (.bl false) H) : rNeD K v (.str "code") H Q := by
  subst e
  exact ⟨_, _, .str _, .str _, by decide +kernel, by decide +kernel, (show Q (.bl (!PyData.eqv (.str "code") (.str "code"))) H by rw [show PyData.eqv (.str "code") (.str "code") = true by decide +kernel]; exact k)⟩
def spMade (P1 P2 : Addr) : Sp := fun vs H Q _ => ∃ (a p : Addr) (d : Int × Int × Int) (b R N : Nat) (L : Pr), vs = [.ref a, .int (b : Int), .int (R : Int), .ref p] ∧ H a = some (.lst (dieL d)) ∧ DieOk d ∧ d.2.2 ≤ 960000000 ∧ 2 ≤ b ∧ b ≤ 5 ∧ 1 ≤ R ∧ R ≤ 100 ∧ N ≤ 1000 ∧ Row b R N H p L ∧
  Leaf b N R (pfs L) ∧ SrtP (pfs L) ∧ p ≠ a ∧ 0 < L.length ∧ L.length ≤ 100 ∧ LamX.Tabs (t7 P1 P2) H ∧ ∀ d' H', DieOk d' → d'.2.2 ≤ d.2.2 + 110 → KT a H H' → H' a = some (.lst (dieL d')) → LamX.Tabs (t7 P1 P2) H' → Q (.bl true) H'
section
variable {P : Program} {w : World} {K : PySem.W.Frag} {mg : Str → Option Value} {base : Heap}
theorem scMade : FnScope ["die", "base", "wide", "code", "some", "less", "due", "one", "other", "pair"] ["die", "base", "wide", "code"] (defScope sMadeRight) := ⟨rfl, rfl, rfl, by decide +kernel, rfl, by decide +kernel, by decide +kernel⟩
theorem ok_made {f fP fS fI fC fM g c P1 P2 CI CE : Addr} {fd fdP fdS fdI fdC : FuncData} (F : Fun K "_law_made_right" "_law_made_right" sMadeRight f fd)
    (GP : FnOk P w K mg base CX0 1 fP fdP ["die", "many"] spPull) (cP : Cal K mg "_law_pull" fP fdP ["die", "many"])
    (GS : FnOk P w K mg base CX0 2 fS fdS ["die", "items"] spShuf) (cS : Cal K mg "_law_shuffled" fS fdS ["die", "items"])
    (GI : FnOk P w K mg base CX0 3 fI fdI ["base", "wide", "value"] spLIsCode) (cI : Cal K mg "_law_is_code" fI fdI ["base", "wide", "value"])
    (GC : FnOk P w K mg base (L2.CX P w) 6 fC fdC ["base", "roots", "prefixes"] (spCodeFrom CI)) (cC : Cal K mg "code_from" fC fdC ["base", "roots", "prefixes"])
    (GM : FnR P w K mg base (L2.CX P w) 7 fM (spMakeCode CI)) (mM : mg "make_code" = some (.ref fM)) (kM : PySem.W.keepIn K (.ref fM) = true)
    (TF : TFn K mg g) (T : Told7 K mg CI CE) (TB : LamX.TabB base mg c P1) (hcd : ∀ (cdv : Value), (∃ (oc : Value) (od : Option Addr) (kV doc pm : Value) (an : Option Addr) (ct : Value) (osl : Array (Option Value)), K.lookup f = some ⟨oc, od, .func (PySem.W.fnOf "_law_made_right" "_law_made_right" (defArgs sMadeRight) (defBody sMadeRight) (defScope sMadeRight) .none kV doc pm an cdv ct), osl⟩) → cdv = .ref c)
    (n12 : P1 ≠ P2) (N : Nm mg) (mso : mg "sorted" = none) : VG.FnG P w K mg base 10 f fd ["die", "base", "wide", "code"] (spMade P1 P2) := by
  obtain ⟨oc, od, kV, doc, pm, an, cdg, ct, osl, lkT, hcT, bT⟩ := TF.lk
  refine VG.FnG.of F scMade (fun vs H Q E h => ?_) (fun cdv A outer s H vs Q E gd hr _ hlk h => ?_)
  · obtain ⟨a, p, d, b, R, N, L, rfl, _⟩ := h
    rfl
  · have ecd := hcd cdv hlk
    obtain ⟨a, p, d, b, R, M, L, rfl, ha, hd, hc, b2, b5, r1, r5, hM, row, leaf, srt, npa, l0, l1, tabs, k⟩ := h
    have nd := scMade.nd
    have hr1 := hr.mono (show 1 ≤ 9 by decide)
    have hr2 := hr.mono (show 2 ≤ 9 by decide)
    have hr3 := hr.mono (show 3 ≤ 9 by decide)
    have hun : A.units + 3 + 64 < cLine := hr.units
    have hu12 : ∀ p ∈ t7 P1 P2, p.1 = P1 → p.2 = qMade := fun p hp e => by
      rcases List.mem_cons.mp hp with z | z
      · rw [z]
      · rw [List.mem_singleton.mp z] at e
        exact absurd e.symm n12
    have c67 : 6 ≤ 7 := by decide
    refine ⟨_, pss_cons (ps_set (i := 4) nd rfl (.inr rfl) (pe_call GS hr2 rfl cS.mg cS.kp cS.b .nil pass0 (pa_cons (pv 0) (pa_cons (pv 3) pa_nil))))
      (pss_cons (ps_if (pt_cmpR (show OpR _ _ (rNeD K) from op_neD hun) (LamX.pe_lamcall (T := t7 P1 P2) rfl TF.m TF.kp lkT hcT bT scTold7 rfl (.inl rfl) (told7_gives T) TB ecd (by exact List.Mem.head _) hu12 hr (LamX.lamS_by (by show LamX.lamSB (defScope sMadeRight) _ = true; decide +kernel)) rfl (fun _ _ _ _ _ => rfl)
          (fun A' outer' s' H' E' f' c' hr' => pe_call GC (hr'.mono c67) rfl cC.mg cC.kp cC.b .nil (passes_call (takes_of rfl rfl rfl rfl) (fun _ _ _ _ h => h)) (pa_cons (pv 1) (pa_cons (pv 2) (pa_cons (pe_callTy (show CallR _ _ (rTupK K) from call_tuple_of) (by rfl) N.tuple PyProof.Rows.boot_tuple (pa_cons (pv 4) pa_nil)) pa_nil))))) (pv 3) (nomark _)) (pss_one (ps_ret pe_bl)) pss_nil)
      (pss_cons (ps_set (i := 5) nd rfl (.inr rfl) (pe_callTy call_tuple_of (by rfl) N.tuple PyProof.Rows.boot_tuple (pa_cons (pe_slice sl_list (pv 4) (po_some pe_int) po_none) pa_nil)))
      (pss_cons (ps_set (i := 6) nd rfl (.inl rfl) (pe_imp (te' := tDue 5) (pe_ifExp (pt_not (pt_val (pe_call GI hr3 rfl cI.mg cI.kp cI.b .nil pass0 (pa_cons (pv 1) (pa_cons (pv 2) (pa_cons (pe_callTy call_tuple_of (by rfl) N.tuple PyProof.Rows.boot_tuple (pa_cons (pe_callB VG.cr_sortedIST (by rfl) mso PyProof.Rows.boot_sorted (pa_cons (pv 5) pa_nil)) pa_nil)) pa_nil)))))) pe_str
          (pe_callTy call_tuple_of (by rfl) N.tuple PyProof.Rows.boot_tuple (pa_cons (pe_callB VG.cr_sortedIST (by rfl) mso PyProof.Rows.boot_sorted (pa_cons (pv 5) pa_nil)) pa_nil))) (fun σ H Q h => due_no h)))
      (pss_cons (ps_if (pt_cmpR (show OpR _ _ (rNeD K) from op_neD hun) (LamX.pe_lamcall (T := t7 P1 P2) rfl TF.m TF.kp lkT hcT bT scTold7 rfl (.inl rfl) (told7_gives T) TB ecd (by exact List.Mem.head _) hu12 hr (LamX.lamS_by (by show LamX.lamSB (defScope sMadeRight) _ = true; decide +kernel)) rfl (fun _ _ _ _ _ => rfl)
          (fun A' outer' s' H' E' f' c' hr' => pe_call GC (hr'.mono c67) rfl cC.mg cC.kp cC.b .nil (passes_call (takes_of rfl rfl rfl rfl) (fun _ _ _ _ h => h)) (pa_cons (pv 1) (pa_cons (pv 2) (pa_cons (pv 5) pa_nil))))) (pv 6) (nomark _)) (pss_one (ps_ret pe_bl)) pss_nil)
      (pss_cons (ps_if (pt_cmpR (show OpR _ _ (rNeD K) from op_neD hun) (LamX.pe_lamcall (T := t7 P1 P2) rfl TF.m TF.kp lkT hcT bT scTold7 rfl (.inl rfl) (told7_gives T) TB ecd (by exact List.Mem.head _) hu12 hr (LamX.lamS_by (by show LamX.lamSB (defScope sMadeRight) _ = true; decide +kernel)) rfl (fun _ _ _ _ _ => rfl)
          (fun A' outer' s' H' E' f' c' hr' => pe_call GC (hr'.mono c67) rfl cC.mg cC.kp cC.b .nil (passes_call (takes_of rfl rfl rfl rfl) (fun _ _ _ _ h => h)) (pa_cons (pv 1) (pa_cons (pv 2) (pa_cons (pe_op (show OpR _ _ (rCatA K) from op_catA) (pv 3) (pe_slice (show SlR _ (rSlA K) from sl_tupA) (pv 3) po_none (po_some pe_int))) pa_nil))))) pe_str (nomark _)) (pss_one (ps_ret pe_bl)) pss_nil)
      (pss_cons (ps_asg (pe_tup (pa_cons (pe_call GP hr1 rfl cP.mg cP.kp cP.b .nil pass0 (pa_cons (pv 0) (pa_cons (pe_callB call_len_seq (by rfl) N.len boot_len (pa_cons (pv 3) pa_nil)) pa_nil))) (pa_cons (pe_call GP hr1 rfl cP.mg cP.kp cP.b .nil pass0 (pa_cons (pv 0) (pa_cons (pe_callB call_len_seq (by rfl) N.len boot_len (pa_cons (pv 3) pa_nil)) pa_nil))) pa_nil)))
          (pg_tup rfl (pgs_cons (pg_name (i := 7) nd rfl (.inr rfl)) (pgs_cons (pg_name (i := 8) nd rfl (.inr rfl)) pgs_nil))))
      (pss_cons (ps_set (i := 9) nd rfl (.inl rfl) (pe_tup (pa_cons (pe_ix ix_tup (pv 3) (pv 7) (fun _ _ => rfl)) (pa_cons (pe_ix ix_tup (pv 3) (pv 8) (fun _ _ => rfl)) pa_nil))))
      (pss_cons (ps_set (i := 6) nd rfl (.inl rfl) (pe_imp (te' := tDue 9) (pe_ifExp (pt_val (pe_call GI hr3 rfl cI.mg cI.kp cI.b .nil pass0 (pa_cons (pv 1) (pa_cons (pv 2) (pa_cons (pe_callTy call_tuple_of (by rfl) N.tuple PyProof.Rows.boot_tuple (pa_cons (pe_callB VG.cr_sortedIST (by rfl) mso PyProof.Rows.boot_sorted (pa_cons (pv 9) pa_nil)) pa_nil)) pa_nil)))))
          (pe_callTy call_tuple_of (by rfl) N.tuple PyProof.Rows.boot_tuple (pa_cons (pe_callB VG.cr_sortedIST (by rfl) mso PyProof.Rows.boot_sorted (pa_cons (pv 9) pa_nil)) pa_nil)) pe_str) (fun σ H Q h => due_yes h)))
      (pss_one (ps_ret (pe_cmpR (show OpR _ _ (rEqD K) from op_eqD hun) (LamX.pe_lamcall (T := t7 P1 P2) rfl TF.m TF.kp lkT hcT bT scTold7 rfl (.inl rfl) (told7_gives T) TB ecd (by exact List.Mem.head _) hu12 hr (LamX.lamS_by (by show LamX.lamSB (defScope sMadeRight) _ = true; decide +kernel)) rfl (fun _ _ _ _ _ => rfl)
          (fun A' outer' s' H' E' f' c' hr' => pe_callR GM hr' rfl mM kM (passes_call (takes_of rfl rfl rfl rfl) (fun _ _ _ _ h => h)) (pa_cons (pv 1) (pa_cons (pv 2) (pa_cons (pe_ix (show IxR _ (rIxT K) from ix_tup) (pv 3) (pv 7) (fun _ _ => rfl)) (pa_cons (pe_ix (show IxR _ (rIxT K) from ix_tup) (pv 3) (pv 8) (fun _ _ => rfl)) pa_nil)))))) (pv 6) (nomark _)))))))))))), ?_⟩
    have chr : ∀ e ∈ pfs L, ∀ c ∈ e.2, c < 100 := fun e he c hc => by have := (leaf.ok e he).dg c hc; omega
    have b0 : 0 < b := by omega
    have codeL : codeB b R M (pfs L) = true := code_leaf b0 leaf srt (by rw [List.length_map]; omega)
    -- some
    refine ⟨_, rfl, _, rfl, a, p, d, L, rfl, ha, hd, by omega, row.at_, fun e he => (row.good e he).1, by omega, fun e he => chr e.2 (List.mem_map.mpr ⟨e, he, rfl⟩), fun L' D d1 H1 pm hd1 hc1 kp1 a1 rl1 nDa nD => ?_⟩
    have tb1 := tabs_kp tabs ha kp1
    have kt1 : KT a H H1 := (KT.refl a H).kp kp1
    have gP : ∀ {J : Hp} {A : Pr}, KX H J → (∀ e ∈ A, e ∈ L) → PGood b M J A := fun kx hs e he => ⟨kx _ _ (fun _ z => nomatch z) (fun _ z => nomatch z) (row.good e (hs e he)).1, (row.good e (hs e he)).2⟩
    have cP : ∀ {A : Pr}, (∀ e ∈ A, e ∈ L) → ∀ e ∈ pfs A, ∀ c ∈ e.2, c < 100 := fun hs e he => by
      obtain ⟨x, hx, rfl⟩ := List.mem_map.mp he
      exact chr _ (List.mem_map.mpr ⟨x, hs x hx, rfl⟩)
    have in' : ∀ e ∈ L', e ∈ L := fun e he => pm.mem_iff.mp he
    -- code_from of the shuffled
    refine ⟨tb1, fun K1 f1 U1 => ?_⟩
    have x1 : KX H K1 := (kt1.kx ha).trans (KX.ex f1)
    refine ⟨_, rfl, _, rfl, _, rfl, D, _, rfl, .inl ⟨SqL.of (f1 _ _ rl1.at_ (fun _ z => nomatch z)), fun t nt => ?_⟩⟩
    have xS : ∀ {J}, Same (upd K1 t (.tup (prefs L'))) J → KX H J := fun s => x1.trans (KX.of fun c o e => s _ _ (same_new' nt _ _ e))
    refine ⟨b, R, M, t, L', rfl, b2, b5, r1, by omega, row_new nt (gP x1 in') (by rw [pm.length_eq]; omega) (fun e he => row.rt e (in' e he)), hM, fun Ls p2 J2 srt2 pm2 s2 row2 np2 =>
      two rfl (fun c tail => ⟨_, rfl, ne_tl (pfs_perm pm) (cP in') (tl1 srt2 pm2 row2 c) (tl_sorted srt codeL (row.kx (xS s2))) ⟨_, rfl, iteF tail⟩⟩) (fun c tail => ⟨_, rfl, ne_tl (pfs_perm pm) (cP in') (tl0 srt2 pm2 row2 c) (tl_sorted srt codeL (row.kx (xS s2))) ⟨_, rfl, iteF tail⟩⟩) ?_⟩
    have sK : Same K1 J2 := fun c o e => s2 _ _ (same_new' nt _ _ e)
    have e2 : LamX.ExtN H1 J2 := f1.trans (LamX.ExtN.of sK)
    have kt2 : KT a H J2 := kt1.ex e2
    have tb2 := U1.ext sK
    have a2 := e2 _ _ a1 (fun _ z => nomatch z)
    have D2 := e2 _ _ rl1.at_ (fun _ z => nomatch z)
    clear xS s2 sK nt x1 f1 U1 e2 kt1 tb1 a1 rl1 kp1
    -- less
    refine ⟨_, rfl, _, rfl, slNL ⟨D, _, rfl, SqL.of D2, fun q nq => ?_⟩⟩
    refine ⟨q, _, rfl, .inl ⟨SqL.of upd_same, fun t2 nt2 => ?_⟩⟩
    have ec : cutV (prefs L') (some 1) none = prefs (L'.drop 1) := by
      rw [show (1 : Int) = ((1 : Nat) : Int) from rfl, VG.cutV_drop (by rw [List.length_map, pm.length_eq]; omega)]
      exact List.map_drop.symm
    rw [ec] at nt2 ⊢
    have sJ : Same J2 (upd (upd J2 q (.lst (prefs (L'.drop 1)))) t2 (.tup (prefs (L'.drop 1)))) := fun c o e => same_new' nt2 _ _ (same_new' nq _ _ e)
    have inD : ∀ e ∈ L'.drop 1, e ∈ L := fun e he => in' e (List.mem_of_mem_drop he)
    have lD : (L'.drop 1).length ≤ 100 := by
      rw [List.length_drop, pm.length_eq]
      omega
    have ht2 : upd (upd J2 q (.lst (prefs (L'.drop 1)))) t2 (.tup (prefs (L'.drop 1))) t2 = some (.tup (prefs (L'.drop 1))) := upd_same
    have kt3 := kt2.sm sJ
    have tb3 := tb2.ext sJ
    have a3 := sJ _ _ a2
    generalize upd (upd J2 q (.lst (prefs (L'.drop 1)))) t2 (.tup (prefs (L'.drop 1))) = J3 at sJ ht2 kt3 tb3 a3 ⊢
    clear sJ nt2 nq ec kt2 tb2 a2 D2
    have row3 : Row b R M J3 t2 (L'.drop 1) := ⟨ht2, gP (kt3.kx ha) inD, by omega, fun e he => row.rt e (inD e he)⟩
    -- due
    refine ⟨b, R, M, t2, L'.drop 1, rfl, rfl, rfl, b2, b5, r5, row3, hM, by omega, fun due J4 s4 tlD => ?_⟩
    have kt4 := kt3.sm s4
    have a4 := s4 _ _ a3
    refine ⟨tb3.ext s4, fun K4 f4 U4 => ?_⟩
    refine ⟨_, rfl, _, rfl, _, rfl, ?_⟩
    refine ⟨b, R, M, t2, _, rfl, b2, b5, r1, by omega, row3.kx ((KX.of s4).trans (KX.ex f4)), hM, fun Ls p5 J5 srt5 pm5 s5 row5 np5 =>
      two rfl (fun c tail => ⟨_, rfl, ne_tl (List.Perm.refl _) (cP inD) (tl1 srt5 pm5 row5 c) (tlD.keep ((KX.ex f4).trans (KX.of s5))) ⟨_, rfl, iteF tail⟩⟩) (fun c tail => ⟨_, rfl, ne_tl (List.Perm.refl _) (cP inD) (tl0 srt5 pm5 row5 c) (tlD.keep ((KX.ex f4).trans (KX.of s5))) ⟨_, rfl, iteF tail⟩⟩) ?_⟩
    have kt5 := (kt4.ex f4).sm s5
    have tb5 := U4.ext s5
    have a5 := s5 _ _ (f4 _ _ a4 (fun _ z => nomatch z))
    clear s5 f4 U4 tlD s4 kt4 a4 row3 kt3 tb3 a3 ht2
    -- one twice
    refine ⟨tb5, fun K5 f5 U5 => ?_⟩
    have x5 : KX H K5 := (kt5.kx ha).trans (KX.ex f5)
    have a6 := f5 _ _ a5 (fun _ z => nomatch z)
    have p6 := (row.kx x5).at_
    have lx : (prefs L).length ≤ 900 := by rw [List.length_map]; omega
    refine ⟨_, rfl, _, rfl, _, rfl, _, rfl, _, rfl, ?_⟩
    refine slA_gr p6 npa a6 (fun q6 J6 k6 d6 e6 ne6 => ?_)
    refine catA_gr (k6 _ _ npa p6) npa e6 ne6 d6 (sz2 (Nat.le_trans lx (by decide)) (Nat.le_trans (cut_sz lx) (by decide))) (fun q7 J7 k7 d7 e7 ne7 => ?_)
    have ec : cutV (prefs L) none (some 1) = prefs (L.take 1) := by
      rw [show (1 : Int) = ((1 : Nat) : Int) from rfl, VG.cutV_take (by rw [List.length_map]; omega)]
      exact List.map_take.symm
    rw [ec, show prefs L ++ prefs (L.take 1) = prefs (L ++ L.take 1) from List.map_append.symm] at e7
    have in7 : ∀ e ∈ L ++ L.take 1, e ∈ L := fun e he => (List.mem_append.mp he).elim id List.mem_of_mem_take
    have k67 : Kp a K5 J7 := k6.trans k7
    have x7 : KX H J7 := x5.trans (KX.kp k67 a6)
    have l7 : (L ++ L.take 1).length ≤ 200 := by
      rw [List.length_append, List.length_take]
      omega
    have row7 : Row b R M J7 q7 (L ++ L.take 1) := ⟨e7, gP x7 in7, by omega, fun e he => row.rt e (in7 e he)⟩
    have no8 : ∀ A : List Pf, A.Perm (pfs (L ++ L.take 1)) → codeB b R M A = false := fun A pA => by
      obtain ⟨e, L2, rfl⟩ : ∃ e L2, L = e :: L2 := by
        cases L with
        | nil => exact absurd l0 (by decide)
        | cons e L2 => exact ⟨e, L2, rfl⟩
      refine code_twice b0 leaf (e := e.2) List.mem_cons_self ?_
      have : pfs ((e :: L2) ++ (e :: L2).take 1) = pfs (e :: L2) ++ [e.2] := List.map_append
      rw [this] at pA
      exact pA
    refine ⟨b, R, M, q7, _, rfl, b2, b5, r1, by omega, row7, hM, fun Ls p8 J8 srt8 pm8 s8 row8 np8 => ⟨fun c => (by rw [no8 _ (pfs_perm pm8)] at c; cases c), fun _ => ⟨rfl, _, _, .str _, .str _, by decide +kernel, by decide +kernel, _, rfl, iteFB (by decide +kernel) ?_⟩⟩⟩
    have kt8 : KT a H J8 := ((kt5.ex f5).kp k67).sm s8
    have tb8 : LamX.Tabs (t7 P1 P2) J8 := (tabs_kp U5 a6 k67).ext s8
    have a8 := s8 _ _ d7
    clear no8 s8 row7 x7 k67 e7 ec k7 k6 e6 d6 d7 p6 a6 x5 f5 U5 kt5 tb5 a5
    have p8 := (row.kx (kt8.kx ha)).at_
    have lP : (prefs L).length = L.length := List.length_map ..
    -- one, other
    refine ⟨_, rfl, _, rfl, p, _, rfl, .inr (SqT.of p8), a, d1, _, rfl, a8, hd1, by omega, by omega, by omega, fun i d9 hd9 hc9 i0 i1 => ?_⟩
    have kt9 : KT a H (upd J8 a (.lst (dieL d9))) := kt8.kp Kp.upd
    have tb9 : LamX.Tabs (t7 P1 P2) (upd J8 a (.lst (dieL d9))) := tabs_kp tb8 a8 Kp.upd
    have a9 : upd J8 a (.lst (dieL d9)) a = some (.lst (dieL d9)) := upd_same
    generalize upd J8 a (.lst (dieL d9)) = J9 at kt9 tb9 a9 ⊢
    have p9 := (row.kx (kt9.kx ha)).at_
    refine ⟨_, rfl, _, rfl, p, _, rfl, .inr (SqT.of p9), a, d9, _, rfl, a9, hd9, by omega, by omega, by omega, fun j dA hdA hcA j0 j1 => ?_⟩
    have ktA : KT a H (upd J9 a (.lst (dieL dA))) := kt9.kp Kp.upd
    have tbA : LamX.Tabs (t7 P1 P2) (upd J9 a (.lst (dieL dA))) := tabs_kp tb9 a9 Kp.upd
    have aA : upd J9 a (.lst (dieL dA)) a = some (.lst (dieL dA)) := upd_same
    generalize upd J9 a (.lst (dieL dA)) = JA at ktA tbA aA ⊢
    clear kt9 tb9 a9 p9 kt8 tb8 a8 p8
    refine ⟨(by show 2 ≤ sizeLine; decide), fun pt npt => ?_⟩
    have sB : Same JA (upd JA pt (.tup [.int i, .int j])) := same_new' npt
    have et : upd JA pt (.tup [.int i, .int j]) pt = some (.tup [.int i, .int j]) := upd_same
    generalize upd JA pt (.tup [.int i, .int j]) = JB at sB et ⊢
    refine ⟨pt, _, rfl, SqT.of et, rfl, _, _, rfl, _, _, rfl, rfl, ?_⟩
    have ktB := ktA.sm sB
    have tbB := tbA.ext sB
    have aB := sB _ _ aA
    clear et npt sB ktA tbA aA
    obtain ⟨m, rfl⟩ : ∃ m : Nat, i = (m : Int) := ⟨i.toNat, by omega⟩
    obtain ⟨n, rfl⟩ : ∃ n : Nat, j = (n : Int) := ⟨j.toNat, by omega⟩
    have hm : m < L.length := by omega
    have hn : n < L.length := by omega
    have hxm : atI (prefs L) ((m : Nat) : Int) = some (.ref (L[m]).1) := atI_nat (by rw [List.getElem?_map, List.getElem?_eq_getElem hm]; rfl)
    have hxn : atI (prefs L) ((n : Nat) : Int) = some (.ref (L[n]).1) := atI_nat (by rw [List.getElem?_map, List.getElem?_eq_getElem hn]; rfl)
    have em : L[m] ∈ L := List.getElem_mem hm
    have en : L[n] ∈ L := List.getElem_mem hn
    generalize L[m] = x at hxm em
    generalize L[n] = y at hxn en
    have in2 : ∀ e ∈ [x, y], e ∈ L := fun e he => by
      rcases List.mem_cons.mp he with z | z
      · rw [z]; exact em
      · rw [List.mem_singleton.mp z]; exact en
    have pB := (row.kx (ktB.kx ha)).at_
    -- pair
    refine ⟨_, rfl, _, rfl, p, _, _, _, rfl, rfl, SqT.of pB, hxm, _, rfl, _, rfl, p, _, _, _, rfl, rfl, SqT.of pB, hxn, (by show 2 ≤ sizeLine; decide), fun t8 nt8 => ?_⟩
    have sC : Same JB (upd JB t8 (.tup [.ref x.1, .ref y.1])) := same_new' nt8
    have rowC : Row b R M (upd JB t8 (.tup [.ref x.1, .ref y.1])) t8 [x, y] := row_new nt8 (gP (ktB.kx ha) in2) (by show 2 ≤ 6000; decide) (fun e he => row.rt e (in2 e he))
    have ktC := ktB.sm sC
    have tbC := tbB.ext sC
    have aC := sC _ _ aB
    generalize upd JB t8 (.tup [.ref x.1, .ref y.1]) = JC at rowC ktC tbC aC ⊢
    refine ⟨b, R, M, t8, [x, y], rfl, rfl, rfl, b2, b5, r5, rowC, hM, by show 2 ≤ 5000; decide, fun due2 JD sD tlE => ?_⟩
    refine ⟨tbC.ext sD, fun KE fE UE => ?_⟩
    have ktE := (ktC.sm sD).ex fE
    have pE := (row.kx (ktE.kx ha)).at_
    refine ⟨_, rfl, _, rfl, _, rfl, _, rfl, p, _, _, _, rfl, rfl, SqT.of pE, hxm, _, rfl, _, rfl, p, _, _, _, rfl, rfl, SqT.of pE, hxn, ?_⟩
    refine ⟨[.int (b : Int), .int (R : Int)], [.ref x.1, .ref y.1], rfl, rfl, by show 2 ≤ sizeLine; decide, fun tF ntF => ⟨b, R, M, tF, [x, y], rfl, b2, b5, r1, by omega, row_new ntF (gP (ktE.kx ha) in2) (by show 2 ≤ 6000; decide) (fun e he => row.rt e (in2 e he)), hM, fun Ls pF JF srtF pmF sF' rowF npF =>
      two rfl (fun c tail => ⟨_, rfl, eq_tl (List.Perm.refl _) (cP in2) (tl1 srtF pmF rowF c) (tlE.keep ((KX.ex fE).trans (KX.of fun c o e => sF' _ _ (same_new' ntF _ _ e)))) tail⟩) (fun c tail => ⟨_, rfl, eq_tl (List.Perm.refl _) (cP in2) (tl0 srtF pmF rowF c) (tlE.keep ((KX.ex fE).trans (KX.of fun c o e => sF' _ _ (same_new' ntF _ _ e)))) tail⟩) ?_⟩⟩
    have sF : Same KE JF := fun c o e => sF' _ _ (same_new' ntF _ _ e)
    exact k dA JF hdA (by omega) (ktE.sm sF) (sF _ _ (fE _ _ (sD _ _ aC) (fun _ z => nomatch z))) (UE.ext sF)
end
end Vf


set_option Elab.async false
set_option maxRecDepth 100000
set_option maxHeartbeats 8000000
set_option exponentiation.threshold 3000
/-! The codes that the law writes. -/
namespace Vf
open PySem L2 SX Vm VG
theorem code_nil {b R N : Nat} (r1 : 1 ≤ R) : codeB b R N [] = false := by
  unfold codeB covT
  rw [decide_eq_false (show ¬ (0 = R) by omega), Bool.and_false]
theorem code_less {b R N : Nat} (b0 : 0 < b) {M M' : List Pf} {e : Pf} (h : Leaf b N R (e :: M)) (pm : M'.Perm M) : codeB b R N M' = false := by
  cases c : codeB b R N M' with
  | false => rfl
  | true =>
    exfalso
    unfold codeB at c
    rw [Bool.and_eq_true] at c
    have ok : ∀ x ∈ M', PfOk b N R x := fun x hx => h.ok x (List.mem_cons_of_mem _ (pm.mem_iff.mp hx))
    have t := ((cov_iff b0 ok).mp c.2).2 e.1 (h.ok e List.mem_cons_self).r
    rw [tot_perm pm] at t
    have t2 := h.tt e.1 (h.ok e List.mem_cons_self).r
    have t3 : tot b N e.1 (e :: M) = b ^ (N - e.2.length) + tot b N e.1 M := by
      show (if e.1 = e.1 then b ^ (N - e.2.length) else 0) + tot b N e.1 M = _
      rw [if_pos rfl]
    rw [t3, t] at t2
    have := Nat.pow_pos (n := N - e.2.length) b0
    omega
theorem srt_roots {R : Nat} : SrtP ((List.range R).map fun r => (r, [])) := by
  unfold SrtP
  refine List.pairwise_map.mpr (List.pairwise_map.mpr ((List.pairwise_lt_range (n := R)).imp fun {x y} h => ?_))
  refine lexS_no.mpr fun z => ?_
  rcases z with z | ⟨z, _⟩
  · have z : (y : Int) < (x : Int) := z
    omega
  · have z : (y : Int) = (x : Int) := z
    omega
theorem code_roots {b R N : Nat} (b0 : 0 < b) (h : R ≤ 5000) : codeB b R N ((List.range R).map fun r => (r, [])) = true :=
  code_leaf b0 leaf_root srt_roots (by rw [List.length_map, List.length_range]; exact h)
/-- ones -/
abbrev ones (k : Nat) : List Nat := List.replicate k 49
def chainL (k : Nat) : List Pf := (List.range k).map (fun j => (0, ones j ++ [48])) ++ [(0, ones k)]
theorem leaf_chain {N : Nat} : ∀ k, k ≤ N → Leaf 2 N 1 (chainL k)
  | 0, _ => leaf_root (b := 2) (N := N) (R := 1)
  | k + 1, h => by
    have ih := leaf_chain (N := N) k (by omega)
    have s := Leaf.split (A := (List.range k).map (fun j => (0, ones j ++ [48]))) (B := []) (e := (0, ones k)) ih (by show (ones k).length < N; rw [List.length_replicate]; omega)
    have e : chainL (k + 1) = (List.range k).map (fun j => ((0, ones j ++ [48]) : Pf)) ++ [] ++ kids 2 (0, ones k) := by
      unfold chainL
      rw [List.range_succ, List.map_append, List.append_nil, List.append_assoc]
      congr 1
      show [((0, ones k ++ [48]) : Pf)] ++ [(0, ones (k + 1))] = [(0, ones k ++ [48 + 0]), (0, ones k ++ [48 + 1])]
      rw [show ones (k + 1) = ones k ++ [49] from List.replicate_succ']
      rfl
    rw [e]
    exact s
theorem chain_len (k : Nat) : (chainL k).length = k + 1 := by
  unfold chainL
  rw [List.length_append, List.length_map, List.length_range]
  rfl
/-- two rows that hold the same -/
theorem ne_rows {K : PySem.W.Frag} {H : Hp} {p q : Addr} {A B : Pr} {Q : VK} (ha : H p = some (.tup (prefs A))) (hb : H q = some (.tup (prefs B))) (ga : ∀ e ∈ A, H e.1 = some (pfO e.2)) (gb : ∀ e ∈ B, H e.1 = some (pfO e.2)) (e : pfs A = pfs B)
    (c : ∀ e ∈ pfs A, ∀ c ∈ e.2, c < 100) (k : Q (.bl false) H) : rNeD K (.ref p) (.ref q) H Q := by
  obtain ⟨l, s⟩ := rows_shaped c
  refine ⟨_, _, .tup (SqT.of ha) (rows_dp ga), .tup (SqT.of hb) (rows_dp gb), s, by rw [← e]; exact s, ?_⟩
  rw [← e, PySem.SeqAt.eqv_refl _ l]
  exact k
theorem S_ones {k : Nat} : ∀ c ∈ ones k, c < 100 := fun c hc => by rw [List.eq_of_mem_replicate hc]; decide
/-- the five of the document -/
def fiveL : List Pf := [(0, [48]), (0, [49, 48, 48]), (0, [49, 48, 49]), (0, [49, 49, 48]), (0, [49, 49, 49])]
theorem five_srt : SrtP fiveL := by
  unfold SrtP SrtO.Srtd fiveL
  decide +kernel
theorem five_code : codeB 2 1 3 fiveL = true := by decide +kernel
theorem slA_s {K : PySem.W.Frag} {p : Addr} {J : Hp} {xs : List V} {Q : VK} {lo hi : Option Int} (hp : J p = some (.tup xs)) (h : ∀ q J', Same J J' → J' q = some (.tup (cutV xs lo hi)) → Q (.ref q) J') : rSlA K (.ref p) lo hi J Q := by
  refine ⟨p, xs, rfl, SqT.of hp, fun hw => ?_, fun _ r nr => ?_⟩
  · refine h p J (Same.refl _) ?_
    have e : cutV xs lo hi = xs := by
      unfold cutV
      rw [hw.1, hw.2, List.drop_zero, Nat.sub_zero, List.take_length]
    rw [e]
    exact hp
  · exact h r _ (same_new' nr) upd_same
theorem catA_s {K : PySem.W.Frag} {p q : Addr} {J : Hp} {xs ys : List V} {Q : VK} (hp : J p = some (.tup xs)) (hq : J q = some (.tup ys)) (hz : xs.length + ys.length ≤ sizeLine)
    (h : ∀ r J', Same J J' → J' r = some (.tup (xs ++ ys)) → Q (.ref r) J') : rCatA K (.ref p) (.ref q) J Q := by
  refine ⟨p, q, xs, ys, rfl, rfl, SqT.of hp, SqT.of hq, hz, fun e => ?_, fun _ e => ?_, fun _ _ r nr => ?_⟩
  · subst e
    exact h q J (Same.refl _) hq
  · subst e
    exact h p J (Same.refl _) (by rw [List.append_nil]; exact hp)
  · exact h r _ (same_new' nr) upd_same
theorem sql_ext {K : PySem.W.Frag} {H H' : Hp} {a : Addr} {xs : List V} (h : SqL K H a xs) (e : LamX.ExtN H H') : SqL K H' a xs := by
  rcases h with (h | ⟨o, h⟩) | h
  · exact .inl (.inl (e _ _ h (fun _ z => nomatch z)))
  · exact .inl (.inr ⟨o, e _ _ h (fun _ z => nomatch z)⟩)
  · exact .inr h
end Vf


set_option Elab.async false
set_option maxRecDepth 100000
set_option maxHeartbeats 16000000
set_option exponentiation.threshold 3000
/-! The law. -/
namespace Vf
open PySem L2 SX Vm VG
def spLaw (K : PySem.W.Frag) (P1 P2 : Addr) : Sp := fun vs H Q _ => ∃ (a : Addr) (ns : List Int), vs = [.ref a] ∧ SqL K H a (ns.map V.int) ∧ ns.length ≤ 63 ∧ LamX.Tabs (t7 P1 P2) H ∧ ∀ H', Q (.bl true) H'
section
variable {P : Program} {w : World} {K : PySem.W.Frag} {mg : Str → Option Value} {base : Heap}
theorem scLaw : FnScope ["script", "k", "die", "base", "wide", "code", "value", "kept", "many", "five", "whole", "longer", "chain", "root", "at"] ["script"] (defScope sLaw) := ⟨rfl, rfl, rfl, by decide +kernel, rfl, by decide +kernel, by decide +kernel⟩
theorem show_bl (b : Bool) : (PyData.bool b).showable = true ∧ (PyData.bool b).shown.length ≤ sizeLine ∧ (PyData.bool b).depth ≤ 40 := by
  cases b <;> exact ⟨rfl, by decide +kernel, by decide +kernel⟩
theorem lg_same {H H' : Hp} {b R : Nat} {v : V} {r : Bool} (g : LG H b R v r) (s : Same H H') : LG H' b R v r := by
  cases g with
  | non p n => exact .non (pl_keep0 p fun q o _ _ e => s _ _ e) (nt_keep p n fun q o _ _ e => s _ _ e)
  | bad h n hl g no => exact .bad (s _ _ h) n hl (fun i x q hx hq => pg_same (g i x q hx hq) s) no
  | fin h n g hm hr => exact .fin (s _ _ h) n (fun e he => ⟨s _ _ (g e he).1, (g e he).2⟩) hm hr
theorem perm_nil_code {b R N : Nat} (r1 : 1 ≤ R) {Ls : Pr} (pm : Ls.Perm []) : codeB b R N (pfs Ls) = false := by
  rw [List.Perm.eq_nil pm]
  exact code_nil r1
theorem ne_same {s : Str} : (!decide (V.str s = V.str s)) = false := by rw [decide_eq_true rfl]; rfl
theorem ok_law {f fD fB fP fL fV fIs fI fMd fR fC fM g c P1 P2 CI CE : Addr} {fd fdD fdB fdP fdL fdV fdIs fdI fdMd fdR fdC : FuncData} (F : Fun K "law" "law" sLaw f fd)
    (GD : FnOk P w K mg base CX0 1 fD fdD ["script", "at"] (spDice K)) (cD : Cal K mg "_law_dice" fD fdD ["script", "at"])
    (GB : FnOk P w K mg base CX0 2 fB fdB ["die"] spBase) (cB : Cal K mg "_law_base" fB fdB ["die"])
    (GP : FnOk P w K mg base CX0 1 fP fdP ["die", "many"] spPull) (cP : Cal K mg "_law_pull" fP fdP ["die", "many"])
    (GL : FnOk P w K mg base CX0 3 fL fdL ["die", "base", "wide", "inner"] spLCode) (cL : Cal K mg "_law_code" fL fdL ["die", "base", "wide", "inner"])
    (GV : FnOk P w K mg base CX0 7 fV fdV ["die", "base", "wide", "code"] spValues) (cV : Cal K mg "_law_values" fV fdV ["die", "base", "wide", "code"])
    (GIs : FnOk P w K mg base (L2.CX P w) 5 fIs fdIs ["base", "roots", "value"] spIsCode) (cIs : Cal K mg "is_code" fIs fdIs ["base", "roots", "value"])
    (GI : FnOk P w K mg base CX0 3 fI fdI ["base", "wide", "value"] spLIsCode) (cI : Cal K mg "_law_is_code" fI fdI ["base", "wide", "value"])
    (GMd : VG.FnG P w K mg base 10 fMd fdMd ["die", "base", "wide", "code"] (spMade P1 P2)) (cMd : Cal K mg "_law_made_right" fMd fdMd ["die", "base", "wide", "code"])
    (GR : FnOk P w K mg base CX0 5 fR fdR ["roots"] spRootCode) (cR : Cal K mg "root_code" fR fdR ["roots"])
    (GC : FnOk P w K mg base (L2.CX P w) 6 fC fdC ["base", "roots", "prefixes"] (spCodeFrom CI)) (cC : Cal K mg "code_from" fC fdC ["base", "roots", "prefixes"])
    (GM : FnR P w K mg base (L2.CX P w) 7 fM (spMakeCode CI)) (mM : mg "make_code" = some (.ref fM)) (kM : PySem.W.keepIn K (.ref fM) = true)
    (TF : TFn K mg g) (T : Told7 K mg CI CE) (TB : LamX.TabB base mg c P2) (hcd : ∀ (cdv : Value), (∃ (oc : Value) (od : Option Addr) (kV doc pm : Value) (an : Option Addr) (ct : Value) (osl : Array (Option Value)), K.lookup f = some ⟨oc, od, .func (PySem.W.fnOf "law" "law" (defArgs sLaw) (defBody sLaw) (defScope sLaw) .none kV doc pm an cdv ct), osl⟩) → cdv = .ref c)
    (n12 : P1 ≠ P2) (N : Nm mg) (nr : mg "range" = none) (nx : mg "max" = none) (nn : mg "min" = none) (mso : mg "sorted" = none) (rep : mg "repr" = none) (mr : ∃ t, mg "MAX_ROWS" = some (.int 5000 t)) : VG.FnG P w K mg base 11 f fd ["script"] (spLaw K P1 P2) := by
  obtain ⟨oc, od, kV, doc, pm, an, cdg, ct, osl, lkT, hcT, bT⟩ := TF.lk
  obtain ⟨tmr, mr⟩ := mr
  refine VG.FnG.of F scLaw (fun vs H Q E h => ?_) (fun cdv A outer s H vs Q E gd hr _ hlk h => ?_)
  · obtain ⟨a, ns, rfl, _⟩ := h
    rfl
  · have ecd := hcd cdv hlk
    obtain ⟨a, ns, rfl, hs, hn, tabs, k⟩ := h
    have nd := scLaw.nd
    have hr1 := hr.mono (show 1 ≤ 10 by decide)
    have hr2 := hr.mono (show 2 ≤ 10 by decide)
    have hr3 := hr.mono (show 3 ≤ 10 by decide)
    have hr5 := hr.mono (show 5 ≤ 10 by decide)
    have hr7 := hr.mono (show 7 ≤ 10 by decide)
    have hr9 := hr.mono (show 9 ≤ 10 by decide)
    have hun : A.units + 3 + 64 < cLine := hr.units
    have hu12 : ∀ p ∈ t7 P1 P2, p.1 = P2 → p.2 = qLaw := fun p hp e => by
      rcases List.mem_cons.mp hp with z | z
      · rw [z] at e
        exact absurd e n12
      · rw [List.mem_singleton.mp z]
    have c67 : 6 ≤ 7 := by decide
    refine ⟨_, pss_cons (ps_for PassesOwn.never rfl (pi_range1 rfl nr (pa_cons (pe_callB (call_max2 rfl) (by rfl) nx PyProof.Rows.boot_max (pa_cons pe_int (pa_cons (pe_callB (call_min2 rfl) (by rfl) nn PyProof.Rows.boot_min (pa_cons pe_int (pa_cons (pe_callB call_len_seq (by rfl) N.len boot_len (pa_cons (pv 0) pa_nil)) pa_nil))) pa_nil))) pa_nil)) (pg_name (i := 1) nd rfl (.inl rfl))
        (pss_cons (ps_set (i := 2) nd rfl (.inl rfl) (pe_call GD hr1 rfl cD.mg cD.kp cD.b .nil pass0 (pa_cons (pv 0) (pa_cons (pv 1) pa_nil))))
        (pss_cons (ps_asg (pe_tup (pa_cons (pe_call GB hr2 rfl cB.mg cB.kp cB.b .nil pass0 (pa_cons (pv 2) pa_nil)) (pa_cons (pe_op op_add pe_int (pe_call GP hr1 rfl cP.mg cP.kp cP.b .nil pass0 (pa_cons (pv 2) (pa_cons pe_int pa_nil)))) pa_nil)))
          (pg_tup rfl (pgs_cons (pg_name (i := 3) nd rfl (.inr rfl)) (pgs_cons (pg_name (i := 4) nd rfl (.inr rfl)) pgs_nil))))
        (pss_cons (ps_set (i := 5) nd rfl (.inl rfl) (pe_call GL hr3 rfl cL.mg cL.kp cL.b .nil pass0 (pa_cons (pv 2) (pa_cons (pv 3) (pa_cons (pv 4) (pa_cons (pe_call GP hr1 rfl cP.mg cP.kp cP.b .nil pass0 (pa_cons (pv 2) (pa_cons pe_int pa_nil))) pa_nil))))))
        (pss_cons (ps_for PassesOwn.never rfl (pi_list (pe_call GV hr7 rfl cV.mg cV.kp cV.b .nil pass0 (pa_cons (pv 2) (pa_cons (pv 3) (pa_cons (pv 4) (pa_cons (pv 5) pa_nil)))))) (pg_name (i := 6) nd rfl (.inl rfl))
          (pss_cons (ps_set (i := 7) nd rfl (.inl rfl) (pe_callB (VG.call_reprV gd hun) (by rfl) rep PyProof.Rows.boot_repr (pa_cons (pv 6) pa_nil)))
          (pss_cons (ps_for PassesOwn.never rfl (pi_tup (pe_tup (pa_cons (pv 4) (pa_cons (pe_op op_add (pv 4) pe_int) pa_nil)))) (pg_name (i := 8) nd rfl (.inl rfl))
            (pss_one (ps_if (pt_cmpR op_ne (pe_callB (VG.call_reprV gd hun) (by rfl) rep PyProof.Rows.boot_repr (pa_cons (pe_call GIs hr5 rfl cIs.mg cIs.kp cIs.b .nil (passes_call takes0 (fun _ _ _ _ h => h)) (pa_cons (pv 3) (pa_cons (pv 8) (pa_cons (pv 6) pa_nil)))) pa_nil))
              (pe_callB (VG.call_reprV gd hun) (by rfl) rep PyProof.Rows.boot_repr (pa_cons (pe_call GI hr3 rfl cI.mg cI.kp cI.b .nil pass0 (pa_cons (pv 3) (pa_cons (pv 8) (pa_cons (pv 6) pa_nil)))) pa_nil)) (nomark _)) (pss_one (ps_ret pe_bl)) pss_nil)))
          (pss_one (ps_if (pt_cmpR op_ne (pe_callB (VG.call_reprV gd hun) (by rfl) rep PyProof.Rows.boot_repr (pa_cons (pv 6) pa_nil)) (pv 7) (nomark _)) (pss_one (ps_ret pe_bl)) pss_nil)))))
        (pss_cons (ps_if (PW.pt (pw_or (pt_not (pt_val (VG.pe_callG GMd gd hr rfl cMd.mg cMd.kp cMd.b (pa_cons (pv 2) (pa_cons (pv 3) (pa_cons (pv 4) (pa_cons (pv 5) pa_nil)))))))
            (pw_or1 (pt_cmpR (show OpR _ _ (rNeD K) from op_neD hun) (LamX.pe_lamcall (T := t7 P1 P2) rfl TF.m TF.kp lkT hcT bT scTold7 rfl (.inl rfl) (told7_gives T) TB ecd (by exact List.Mem.tail _ (List.Mem.head _)) hu12 hr9 (LamX.lamS_by (by show LamX.lamSB (defScope sLaw) _ = true; decide +kernel)) rfl (fun _ _ _ _ _ => rfl)
              (fun A' outer' s' H' E' f' c' hr' => pe_callR GM hr' rfl mM kM (passes_call (takes_of rfl rfl rfl rfl) (fun _ _ _ _ h => h)) (pa_cons (pv 3) (pa_cons (pv 4) pa_nil)))) pe_str (nomark _))))) (pss_one (ps_ret pe_bl)) pss_nil)
        (pss_one (ps_if (pt_cmpR (show OpR _ _ (rNeD K) from op_neD hun) (pe_call GR hr5 rfl cR.mg cR.kp cR.b .nil pass0 (pa_cons (pv 4) pa_nil)) (pe_callTy call_tuple_of (by rfl) N.tuple PyProof.Rows.boot_tuple (pa_cons (pe_lc (own := [("root", 13)]) (g := gName 13) rfl nd (pi_range1 rfl nr (pa_cons (pv 4) pa_nil))
            (blkOk_by (N := ["script", "k", "die", "base", "wide", "code", "value", "kept", "many", "five", "whole", "longer", "chain", "root", "at"]) (sc := defScope sLaw) (by decide +kernel)) (fun _ _ _ _ _ => pg_name (i := 13) nd rfl (Or.inl rfl))
            (fun _ _ _ _ _ => pts_nil) (fun _ _ _ _ _ => pe_tup (pa_cons (pv 13) (pa_cons pe_str pa_nil)))) pa_nil)) (nomark _)) (pss_one (ps_ret pe_bl)) pss_nil))))))))
      (pss_cons (ps_set (i := 9) nd rfl (.inl rfl) (pe_tup (pa_cons (pe_tup (pa_cons pe_int (pa_cons pe_str pa_nil))) (pa_cons (pe_tup (pa_cons pe_int (pa_cons pe_str pa_nil))) (pa_cons (pe_tup (pa_cons pe_int (pa_cons pe_str pa_nil))) (pa_cons (pe_tup (pa_cons pe_int (pa_cons pe_str pa_nil))) (pa_cons (pe_tup (pa_cons pe_int (pa_cons pe_str pa_nil))) pa_nil)))))))
      (pss_cons (ps_if (pt_cmpR (show OpR _ _ (rNeD K) from op_neD hun) (pe_callR GM hr7 rfl mM kM (passes_call takes0 (fun _ _ _ _ h => h)) (pa_cons pe_int (pa_cons pe_int (pa_cons (pe_ix (show IxR _ (rIxT K) from ix_tup) (pv 9) pe_int (fun _ _ => rfl)) (pa_cons (pe_ix (show IxR _ (rIxT K) from ix_tup) (pv 9) pe_int (fun _ _ => rfl)) (pa_cons (pe_ix (show IxR _ (rIxT K) from ix_tup) (pv 9) pe_int (fun _ _ => rfl)) (pa_cons (pe_ix (show IxR _ (rIxT K) from ix_tup) (pv 9) pe_int (fun _ _ => rfl)) (pa_cons (pe_ix (show IxR _ (rIxT K) from ix_tup) (pv 9) pe_int (fun _ _ => rfl)) pa_nil)))))))) (pv 9) (nomark _)) (pss_one (ps_ret pe_bl)) pss_nil)
      (pss_cons (ps_set (i := 10) nd rfl (.inl rfl) (pe_call GR hr5 rfl cR.mg cR.kp cR.b .nil pass0 (pa_cons pe_int pa_nil)))
      (pss_cons (ps_set (i := 11) nd rfl (.inr rfl) (pe_op (show OpR _ _ (rCatA K) from op_catA) (pe_slice (show SlR _ (rSlA K) from sl_tupA) (pv 10) po_none (po_some pe_int)) (pe_tup (pa_cons (pe_tup (pa_cons pe_int (pa_cons pe_str pa_nil))) (pa_cons (pe_tup (pa_cons pe_int (pa_cons pe_str pa_nil))) pa_nil)))))
      (pss_cons (ps_if (PW.pt (pw_or (pt_cmpR op_notBl (pe_call GIs hr5 rfl cIs.mg cIs.kp cIs.b .nil (passes_call takes0 (fun _ _ _ _ h => h)) (pa_cons pe_int (pa_cons pe_int (pa_cons (pv 10) pa_nil)))) pe_bl (nomark _))
          (pw_or1 (pt_cmpR op_notBl (pe_call GIs hr5 rfl cIs.mg cIs.kp cIs.b .nil (passes_call takes0 (fun _ _ _ _ h => h)) (pa_cons pe_int (pa_cons pe_int (pa_cons (pv 11) pa_nil)))) pe_bl (nomark _))))) (pss_one (ps_ret pe_bl)) pss_nil)
      (pss_cons (ps_if (pt_cmpR (show OpR _ _ (rNeD K) from op_neD hun) (LamX.pe_lamcall (T := t7 P1 P2) rfl TF.m TF.kp lkT hcT bT scTold7 rfl (.inl rfl) (told7_gives T) TB ecd (by exact List.Mem.tail _ (List.Mem.head _)) hu12 hr9 (LamX.lamS_by (by show LamX.lamSB (defScope sLaw) _ = true; decide +kernel)) rfl (fun _ _ _ _ _ => rfl)
          (fun A' outer' s' H' E' f' c' hr' => pe_call GC (hr'.mono c67) rfl cC.mg cC.kp cC.b .nil (passes_call (takes_of rfl rfl rfl rfl) (fun _ _ _ _ h => h)) (pa_cons pe_int (pa_cons pe_int (pa_cons (pv 11) pa_nil))))) pe_str (nomark _)) (pss_one (ps_ret pe_bl)) pss_nil)
      (pss_cons (ps_set (i := 12) nd rfl (.inl rfl) (pe_callTy call_tuple_of (by rfl) N.tuple PyProof.Rows.boot_tuple (pa_cons (pe_callB VG.cr_sortedIS (by rfl) mso PyProof.Rows.boot_sorted (pa_cons (pe_op op_cat (pe_lc (own := [("at", 14)]) (g := gName 14) rfl nd (pi_range1 rfl nr (pa_cons pe_int pa_nil))
            (blkOk_by (N := ["script", "k", "die", "base", "wide", "code", "value", "kept", "many", "five", "whole", "longer", "chain", "root", "at"]) (sc := defScope sLaw) (by decide +kernel)) (fun _ _ _ _ _ => pg_name (i := 14) nd rfl (Or.inl rfl))
            (fun _ _ _ _ _ => pts_nil) (fun _ _ _ _ _ => pe_tup (pa_cons pe_int (pa_cons (pe_op op_add_str (pe_op op_mul_str pe_str (pv 14)) pe_str) pa_nil))))
          (pe_lst (pa_cons (pe_tup (pa_cons pe_int (pa_cons (pe_op op_mul_str pe_str pe_int) pa_nil))) pa_nil))) pa_nil)) pa_nil)))
      (pss_one (ps_ret (pe_and (pe_cmpR op_isBl (pe_call GIs hr5 rfl cIs.mg cIs.kp cIs.b .nil (passes_call takes0 (fun _ _ _ _ h => h)) (pa_cons pe_int (pa_cons pe_int (pa_cons (pv 12) pa_nil)))) pe_bl (nomark _))
        (pe_and (pe_cmpR op_isBl (pe_call GIs hr5 rfl cIs.mg cIs.kp cIs.b .nil (passes_call takes0 (fun _ _ _ _ h => h)) (pa_cons pe_int (pa_cons pe_int (pa_cons (pe_slice (show SlR _ (rSlA K) from sl_tupA) (pv 12) (po_some pe_int) po_none) pa_nil)))) pe_bl (nomark _))
        (pe_one (pe_cmpR op_eq (pe_glob (v := .int 5000) rfl mr ⟨_, rfl⟩) pe_int (nomark _)))))))))))))), ?_⟩
    refine ⟨_, rfl, a, _, rfl, .inl hs, 8, _, rfl, 1, _, rfl, ?_⟩
    refine ⟨_, rfl, ?_, ?_, for_range (fun _ σ H2 => ∃ u1 u2 u3 u4 u5 u6 u7 u8 : Option V, σ = [some (.ref a), u1, u2, u3, u4, u5, u6, u7, u8, none, none, none, none, none, none] ∧ LamX.ExtN H H2 ∧ LamX.Tabs (t7 P1 P2) H2) ?_ ?_ ?_⟩
    · split <;> split <;> omega
    · split <;> split <;> omega
    · exact ⟨none, none, none, none, none, none, none, none, rfl, LamX.ExtN.refl H, tabs⟩
    · rintro i σ H2 hi ⟨u1, u2, u3, u4, u5, u6, u7, u8, rfl, eN, tt⟩
      have hi8 : i < 10 := by
        revert hi
        split <;> split <;> omega
      refine ⟨_, rfl, _, rfl, a, ns, i, by rw [Int.zero_add]; rfl, sql_ext hs eN, hn, by omega, fun p d0 hd0 hz0 np => ?_⟩
      have x1 : Same H2 (upd H2 p (.lst (dieL d0))) := same_new' np
      have nb : ∀ c o, H2 c = some o → c ≠ p := fun c o e => ne_of_none e np
      have tt1 := tt.ext x1
      refine ⟨_, rfl, p, d0, rfl, upd_same, hd0, by omega, fun b0 d1 H3 hd1 hc1 b2' b5' kp3 a3 => ?_⟩
      obtain ⟨b, rfl⟩ := Int.eq_ofNat_of_zero_le (show 0 ≤ b0 by omega)
      have b2 : 2 ≤ b := by omega
      have b5 : b ≤ 5 := by omega
      refine ⟨_, rfl, p, d1, 3, rfl, a3, hd1, by decide, by decide, by omega, fun wi d2 hd2 hc2 w0 w1 => ?_⟩
      obtain ⟨wn, rfl⟩ := Int.eq_ofNat_of_zero_le w0
      refine ⟨_, _, rfl, rfl, ?_⟩
      have eR : (1 : Int) + (wn : Int) = ((1 + wn : Nat) : Int) := by omega
      simp only [eR]
      have r1 : 1 ≤ 1 + wn := by omega
      have r3 : 1 + wn ≤ 3 := by omega
      generalize 1 + wn = R at r1 r3 ⊢
      refine ⟨(by show 2 ≤ sizeLine; decide), fun pt npt => ?_⟩
      have k4 : Kp p H3 (upd (upd H3 p (.lst (dieL d2))) pt (.tup [.int (b : Int), .int (R : Int)])) := Kp.trans Kp.upd (Kp.new npt)
      have a4 : upd (upd H3 p (.lst (dieL d2))) pt (.tup [.int (b : Int), .int (R : Int)]) p = some (.lst (dieL d2)) := by rw [upd_ne (ne_of_none upd_same npt), upd_same]
      have et : upd (upd H3 p (.lst (dieL d2))) pt (.tup [.int (b : Int), .int (R : Int)]) pt = some (.tup [.int (b : Int), .int (R : Int)]) := upd_same
      generalize upd (upd H3 p (.lst (dieL d2))) pt (.tup [.int (b : Int), .int (R : Int)]) = H4 at k4 a4 et ⊢
      refine ⟨pt, _, rfl, SqT.of et, rfl, _, _, rfl, _, _, rfl, rfl, ?_⟩
      have k14 := kp3.trans k4
      clear et npt k4 kp3 a3
      -- code
      refine ⟨_, rfl, _, rfl, _, rfl, _, rfl, p, d2, 9, rfl, a4, hd2, by decide, by decide, by omega, fun inn d3 hd3 hc3 in0 in9 => ?_⟩
      obtain ⟨inner, rfl⟩ := Int.eq_ofNat_of_zero_le in0
      refine ⟨p, d3, b, R, inner, rfl, upd_same, hd3, by omega, b2, b5, r1, by omega, by omega, fun L pc d4 H7 leaf srt lL hd4 hc4 kp7 a7 row npc => ?_⟩
      have in8 : inner ≤ 8 := by omega
      have big : (b - 1) * inner ≤ 4 * 8 := Nat.mul_le_mul (by omega) in8
      have l35 : L.length ≤ 35 := by omega
      have l0 : 0 < L.length := by omega
      have k17 : Kp p (upd H2 p (.lst (dieL d0))) H7 := k14.trans (Kp.trans Kp.upd kp7)
      have t7' : LamX.Tabs (t7 P1 P2) H7 := tabs_kp tt1 upd_same k17
      have x7 : LamX.ExtN H2 H7 := fun c o e _ => k17 c o (nb c o e) (x1 c o e)
      clear kp7 k14 a4 k17 tt1
      have hc4' : d4.2.2 ≤ 40 := by omega
      -- values
      refine ⟨_, rfl, _, rfl, _, rfl, _, rfl, p, pc, d4, b, R, L, rfl, a7, hd4, by omega, b2, b5, by omega, row.at_, npc, fun e he => ⟨(row.good e he).1, (row.good e he).2.1, Nat.le_trans (row.good e he).2.2 in8, by have := row.rt e he; omega⟩, l0, l35, fun D xs ds d5 H8 kp8 a8 hd5 hc5 hD nD vd fi => ?_⟩
      refine ⟨D, rfl, ⟨_, SqL.of hD⟩, for_list (xs := xs) (fun _ σ Hx => ∃ v6 v7 v8 : Option V, σ = [some (.ref a), some (.int (0 + (i : Int))), some (.ref p), some (.int (b : Int)), some (.int (R : Int)), some (.ref pc), v6, v7, v8, none, none, none, none, none, none] ∧ Same H8 Hx) ?_ ?_ ?_ ?_⟩
      · exact ⟨u6, u7, u8, rfl, Same.refl _⟩
      · rintro m σ Hx _ ⟨v6, v7, v8, rfl, sx⟩
        exact SqL.of (sx _ _ hD)
      · rintro m x σ Hx hx ⟨v6, v7, v8, rfl, sx⟩
        obtain ⟨pd, hpd, vdx⟩ := vd.at_ hx
        have fx := fi pd (List.mem_of_getElem? hpd)
        replace vdx := Vd.kp vdx (Kp.same sx)
        obtain ⟨sh1, sh2, sh3⟩ := fx.show (by decide +kernel) (by decide) (by decide)
        refine ⟨_, rfl, x, pd, p, rfl, vdx, sh1, sh2, sh3, ?_⟩
        refine ⟨_, rfl, _, rfl, _, _, rfl, rfl, (by show 2 ≤ sizeLine; decide), fun tw ntw => ?_⟩
        have etw : upd Hx tw (.tup [.int (R : Int), .int ((R : Int) + 1)]) tw = some (.tup [.int (R : Int), .int ((R : Int) + 1)]) := upd_same
        have s9 : Same Hx (upd Hx tw (.tup [.int (R : Int), .int ((R : Int) + 1)])) := same_new' ntw
        generalize upd Hx tw (.tup [.int (R : Int), .int ((R : Int) + 1)]) = H9 at etw s9 ⊢
        refine ⟨tw, rfl, ⟨_, SqT.of etw⟩, for_tup (xs := [.int (R : Int), .int ((R : Int) + 1)]) (fun _ σ Hy => ∃ v8 : Option V, σ = [some (.ref a), some (.int (0 + (i : Int))), some (.ref p), some (.int (b : Int)), some (.int (R : Int)), some (.ref pc), some x, some (.str pd.shown), v8, none, none, none, none, none, none] ∧ Same H9 Hy) ?_ ?_ ?_ ?_⟩
        · exact ⟨_, rfl, Same.refl _⟩
        · rintro n σ Hy _ ⟨w8, rfl, sy⟩
          exact SqT.of (sy _ _ etw)
        · rintro n y σ Hy hy ⟨w8, rfl, sy⟩
          obtain ⟨q, rfl, q1, q2⟩ : ∃ q : Nat, y = .int (q : Int) ∧ 1 ≤ q ∧ q ≤ 100 := by
            match n, hy with
            | 0, rfl => exact ⟨R, rfl, by omega, by omega⟩
            | 1, rfl => exact ⟨R + 1, rfl, by omega, by omega⟩
            | n + 2, h => cases h
          have vdy := Vd.kp vdx (Kp.same (fun c o e => sy _ _ (s9 _ _ e)))
          obtain ⟨res, lg⟩ := vd_lg (b := b) (R := q) vdy fx (by decide)
          obtain ⟨b1, b2', b3⟩ := show_bl res
          refine ⟨_, rfl, _, rfl, _, rfl, b, q, x, res, rfl, b2, b5, q1, by omega, lg.cg, fun Hz sz => ?_⟩
          refine ⟨.bl res, .bool res, p, rfl, .bl res, b1, b2', b3, ?_⟩
          refine ⟨_, rfl, _, rfl, _, rfl, b, q, x, res, rfl, b2, b5, q2, lg_same lg sz, fun Hw sw => ?_⟩
          refine ⟨.bl res, .bool res, p, rfl, .bl res, b1, b2', b3, ?_⟩
          refine ⟨rfl, _, rfl, iteFB ne_same ?_⟩
          exact ⟨_, rfl, fun c o e => sw _ _ (sz _ _ (sy _ _ e))⟩
        · rintro σ Hy ⟨w8, rfl, sy⟩
          have vdy := Vd.kp vdx (Kp.same (fun c o e => sy _ _ (s9 _ _ e)))
          refine ⟨_, rfl, x, pd, p, rfl, vdy, sh1, sh2, sh3, _, rfl, rfl, _, rfl, iteFB ne_same ?_⟩
          exact ⟨_, _, _, rfl, fun c o e => sy _ _ (s9 _ _ (sx _ _ e))⟩
      · rintro σ Hx ⟨v6, v7, v8, rfl, sx⟩
        have k8x : Kp p H7 Hx := fun c o h e => sx _ _ (kp8 _ _ h e)
        have tx : LamX.Tabs (t7 P1 P2) Hx := tabs_kp t7' a7 k8x
        have ax := sx _ _ a8
        refine ⟨_, rfl, _, rfl, _, rfl, _, rfl, p, pc, d5, b, R, inner, L, rfl, ax, hd5, by omega, b2, b5, r1, by omega, by omega, row.kx (KX.kp k8x a7), leaf, srt, npc, l0, by omega, tx, fun d6 H9 hd6 hc6 kt9 a9 t9 => ⟨_, rfl, ?_⟩⟩
        refine iteF ?_
        -- make_code of nothing
        refine ⟨t9, fun K1 f1 U1 => ?_⟩
        refine ⟨_, rfl, _, rfl, ?_⟩
        refine ⟨[.int (b : Int), .int (R : Int)], [], rfl, rfl, Nat.zero_le _, fun tF ntF => ⟨b, R, 0, tF, [], rfl, b2, b5, r1, by omega, row_new (M := []) ntF (fun e he => by cases he) (Nat.zero_le _) (fun e he => by cases he), by decide, fun Ls pF JF srtF pmF sF rowF npF => ⟨fun c => (by rw [perm_nil_code r1 pmF] at c; cases c), fun _ => ⟨rfl, _, _, .str _, .str _, by decide +kernel, by decide +kernel, _, rfl, iteFB (by decide +kernel) ?_⟩⟩⟩⟩
        have sJ : Same K1 JF := fun c o e => sF _ _ (same_new' ntF _ _ e)
        have xJ : LamX.ExtN H9 JF := f1.trans (LamX.ExtN.of sJ)
        have tJ := U1.ext sJ
        clear ntF npF rowF srtF pmF sF sJ f1 U1
        -- root_code
        refine ⟨_, rfl, R, rfl, r1, by omega, fun LR pR HR eLR sR gR atR npR => ?_⟩
        refine ⟨_, rfl, _, rfl, by omega, by omega, fun D2 hD2 => ?_⟩
        have eem : ("" : Str) = S [] := by decide +kernel
        refine lc_range (n := R) (fun i Hy => ∃ L : Pr, pfs L = (List.range i).map (fun r => (r, [])) ∧ Hy D2 = some (.lst (prefs L)) ∧ (∀ e ∈ L, Hy e.1 = some (pfO e.2)) ∧ ∀ c o, HR c = some o → Hy c = some o) ?_ ?_ ?_
        · exact ⟨[], rfl, upd_same, fun e he => (by cases he), fun c o e => by rw [upd_ne (ne_of_none e hD2)]; exact e⟩
        · rintro j Hy hj ⟨L2, e1, e2, e3, e4⟩
          have lL2 : L2.length = j := by
            have z := congrArg List.length e1
            rw [List.length_map, List.length_map, List.length_range] at z
            exact z
          refine ⟨rfl, ?_⟩
          refine ⟨_, rfl, (by show 2 ≤ sizeLine; decide), fun t nt => ?_⟩
          have nD2 : D2 ≠ t := ne_of_none e2 nt
          refine ⟨_, by rw [upd_ne nD2]; exact e2, ?_, L2 ++ [(t, (j, []))], ?_, ?_, fun z hz => ?_, fun c o ec => ?_⟩
          · rw [List.length_map, lL2]
            exact Nat.lt_of_lt_of_le (show j < 6000 by omega) (by decide)
          · rw [show pfs (L2 ++ [(t, (j, []))]) = pfs L2 ++ [(j, [])] from List.map_append, e1, List.range_succ, List.map_append]
            rfl
          · rw [upd_same]
            show some (HO.lst (prefs L2 ++ [V.ref t])) = some (HO.lst (prefs (L2 ++ [(t, (j, []))])))
            rw [show prefs (L2 ++ [(t, (j, []))]) = prefs L2 ++ [V.ref t] from List.map_append]
          · rcases List.mem_append.mp hz with y | y
            · have g := e3 z y
              rw [upd_ne (fun w => by rw [w, e2] at g; cases g), upd_ne (ne_of_none g nt)]
              exact g
            · rw [List.mem_singleton.mp y, upd_ne nD2.symm, upd_same]
              show some (HO.tup [.int (0 + (j : Int)), .str ""]) = some (HO.tup [.int (j : Int), .str (S [])])
              rw [eem, Int.zero_add]
          · rw [upd_ne (ne_of_none ec hD2), upd_ne (ne_of_none (e4 _ _ ec) nt)]
            exact e4 _ _ ec
        · rintro Hy ⟨L2, e1, e2, e3, e4⟩
          refine ⟨D2, _, rfl, .inl ⟨SqL.of e2, fun q hq => ?_⟩⟩
          have sq : Same Hy (upd Hy q (.tup (prefs L2))) := same_new' hq
          have sRy : Same HR (upd Hy q (.tup (prefs L2))) := fun c o e => sq _ _ (e4 _ _ e)
          refine ne_rows (sRy _ _ atR) upd_same (fun e he => sRy _ _ (gR e he)) (fun e he => sq _ _ (e3 e he)) (eLR.trans e1.symm) (fun e he c hc => ?_) ⟨_, rfl, iteF ?_⟩
          · rw [eLR] at he
            obtain ⟨r, _, z⟩ := List.mem_map.mp he
            rw [← z] at hc
            cases hc
          · have sJq : Same JF (upd Hy q (.tup (prefs L2))) := fun c o e => sRy _ _ (sR _ _ e)
            refine ⟨_, _, _, _, _, _, _, _, rfl, fun c o e nt => ?_, tJ.ext sJq⟩
            have e := eN _ _ e nt
            exact sJq _ _ (xJ _ _ (kt9 _ _ (nb _ _ e) nt (k8x _ _ (nb _ _ e) (x7 _ _ e nt))) nt)
    · rintro σ H2 ⟨u1, u2, u3, u4, u5, u6, u7, u8, rfl, eN, tt⟩
      have e0 : ("0" : Str) = S [48] := by decide +kernel
      have e1 : ("1" : Str) = S [49] := by decide +kernel
      have e100 : ("100" : Str) = S [49, 48, 48] := by decide +kernel
      have e101 : ("101" : Str) = S [49, 48, 49] := by decide +kernel
      have e110 : ("110" : Str) = S [49, 49, 48] := by decide +kernel
      have e111 : ("111" : Str) = S [49, 49, 49] := by decide +kernel
      -- five
      refine ⟨(by show 2 ≤ sizeLine; decide), fun t1 n1 => ?_⟩
      have g1 : upd H2 t1 (.tup [.int 0, .str "0"]) t1 = some (pfO (0, [48])) := by rw [upd_same, e0]; rfl
      have s1 : Same H2 (upd H2 t1 (.tup [.int 0, .str "0"])) := same_new' n1
      generalize upd H2 t1 (.tup [.int 0, .str "0"]) = I1 at g1 s1 ⊢
      refine ⟨(by show 2 ≤ sizeLine; decide), fun t2 n2 => ?_⟩
      have g2 : upd I1 t2 (.tup [.int 0, .str "100"]) t2 = some (pfO (0, [49, 48, 48])) := by rw [upd_same, e100]; rfl
      have s2 : Same I1 (upd I1 t2 (.tup [.int 0, .str "100"])) := same_new' n2
      generalize upd I1 t2 (.tup [.int 0, .str "100"]) = I2 at g2 s2 ⊢
      refine ⟨(by show 2 ≤ sizeLine; decide), fun t3 n3 => ?_⟩
      have g3 : upd I2 t3 (.tup [.int 0, .str "101"]) t3 = some (pfO (0, [49, 48, 49])) := by rw [upd_same, e101]; rfl
      have s3 : Same I2 (upd I2 t3 (.tup [.int 0, .str "101"])) := same_new' n3
      generalize upd I2 t3 (.tup [.int 0, .str "101"]) = I3 at g3 s3 ⊢
      refine ⟨(by show 2 ≤ sizeLine; decide), fun t4 n4 => ?_⟩
      have g4 : upd I3 t4 (.tup [.int 0, .str "110"]) t4 = some (pfO (0, [49, 49, 48])) := by rw [upd_same, e110]; rfl
      have s4 : Same I3 (upd I3 t4 (.tup [.int 0, .str "110"])) := same_new' n4
      generalize upd I3 t4 (.tup [.int 0, .str "110"]) = I4 at g4 s4 ⊢
      refine ⟨(by show 2 ≤ sizeLine; decide), fun t5 n5 => ?_⟩
      have g5 : upd I4 t5 (.tup [.int 0, .str "111"]) t5 = some (pfO (0, [49, 49, 49])) := by rw [upd_same, e111]; rfl
      have s5 : Same I4 (upd I4 t5 (.tup [.int 0, .str "111"])) := same_new' n5
      generalize upd I4 t5 (.tup [.int 0, .str "111"]) = I5 at g5 s5 ⊢
      refine ⟨(by show 5 ≤ sizeLine; decide), fun tf nf => ?_⟩
      have gf : upd I5 tf (.tup [.ref t1, .ref t2, .ref t3, .ref t4, .ref t5]) tf = some (.tup (prefs [(t1, (0, [48])), (t2, (0, [49, 48, 48])), (t3, (0, [49, 48, 49])), (t4, (0, [49, 49, 48])), (t5, (0, [49, 49, 49]))])) := upd_same
      have s6 : Same I5 (upd I5 tf (.tup [.ref t1, .ref t2, .ref t3, .ref t4, .ref t5])) := same_new' nf
      generalize upd I5 tf (.tup [.ref t1, .ref t2, .ref t3, .ref t4, .ref t5]) = I6 at gf s6 ⊢
      replace g4 := s6 _ _ (s5 _ _ g4)
      replace g3 := s6 _ _ (s5 _ _ (s4 _ _ g3))
      replace g2 := s6 _ _ (s5 _ _ (s4 _ _ (s3 _ _ g2)))
      replace g1 := s6 _ _ (s5 _ _ (s4 _ _ (s3 _ _ (s2 _ _ g1))))
      replace g5 := s6 _ _ g5
      have sA : Same H2 I6 := fun c o e => s6 _ _ (s5 _ _ (s4 _ _ (s3 _ _ (s2 _ _ (s1 _ _ e)))))
      have eNA : LamX.ExtN H I6 := eN.trans (LamX.ExtN.of sA)
      have tA := tt.ext sA
      clear n1 n2 n3 n4 n5 nf s1 s2 s3 s4 s5 s6 sA eN tt
      have gall : ∀ e ∈ ([(t1, (0, [48])), (t2, (0, [49, 48, 48])), (t3, (0, [49, 48, 49])), (t4, (0, [49, 49, 48])), (t5, (0, [49, 49, 49]))] : Pr), I6 e.1 = some (pfO e.2) :=
        List.forall_mem_cons.mpr ⟨g1, List.forall_mem_cons.mpr ⟨g2, List.forall_mem_cons.mpr ⟨g3, List.forall_mem_cons.mpr ⟨g4, List.forall_mem_cons.mpr ⟨g5, fun e he => by cases he⟩⟩⟩⟩⟩
      -- make_code
      refine ⟨_, rfl, tf, _, _, _, rfl, rfl, SqT.of gf, rfl, _, rfl, tf, _, _, _, rfl, rfl, SqT.of gf, rfl, _, rfl, tf, _, _, _, rfl, rfl, SqT.of gf, rfl, _, rfl, tf, _, _, _, rfl, rfl, SqT.of gf, rfl, _, rfl, tf, _, _, _, rfl, rfl, SqT.of gf, rfl, ?_⟩
      have okF : ∀ e ∈ fiveL, PfOk 2 3 1 e := fun e he => by
        have : e = (0, [48]) ∨ e = (0, [49, 48, 48]) ∨ e = (0, [49, 48, 49]) ∨ e = (0, [49, 49, 48]) ∨ e = (0, [49, 49, 49]) := by simpa [fiveL] using he
        rcases this with e | e | e | e | e <;> subst e <;> exact ⟨by decide, by unfold Dg; decide, by decide⟩
      have pmX : (pfs [(t5, (0, [49, 49, 49])), (t1, (0, [48])), (t3, (0, [49, 48, 49])), (t4, (0, [49, 49, 48])), (t2, (0, [49, 48, 48]))]).Perm fiveL := by
        show ([(0, [49, 49, 49]), (0, [48]), (0, [49, 48, 49]), (0, [49, 49, 48]), (0, [49, 48, 48])] : List Pf).Perm fiveL
        decide +kernel
      have gX : ∀ e ∈ ([(t5, (0, [49, 49, 49])), (t1, (0, [48])), (t3, (0, [49, 48, 49])), (t4, (0, [49, 49, 48])), (t2, (0, [49, 48, 48]))] : Pr), I6 e.1 = some (pfO e.2) :=
        List.forall_mem_cons.mpr ⟨g5, List.forall_mem_cons.mpr ⟨g1, List.forall_mem_cons.mpr ⟨g3, List.forall_mem_cons.mpr ⟨g4, List.forall_mem_cons.mpr ⟨g2, fun e he => by cases he⟩⟩⟩⟩⟩
      refine ⟨[.int 2, .int 1], [.ref t5, .ref t1, .ref t3, .ref t4, .ref t2], rfl, rfl, by show 5 ≤ sizeLine; decide, fun tq ntq => ⟨2, 1, 3, tq, [(t5, (0, [49, 49, 49])), (t1, (0, [48])), (t3, (0, [49, 48, 49])), (t4, (0, [49, 49, 48])), (t2, (0, [49, 48, 48]))], rfl, by decide, by decide, by decide, by decide,
        row_new (M := [(t5, (0, [49, 49, 49])), (t1, (0, [48])), (t3, (0, [49, 48, 49])), (t4, (0, [49, 49, 48])), (t2, (0, [49, 48, 48]))]) ntq (fun e he => ⟨gX e he, (okF e.2 (pmX.mem_iff.mp (List.mem_map.mpr ⟨e, he, rfl⟩))).dg, (okF e.2 (pmX.mem_iff.mp (List.mem_map.mpr ⟨e, he, rfl⟩))).le⟩) (by show 5 ≤ 6000; decide) (fun e he => (okF e.2 (pmX.mem_iff.mp (List.mem_map.mpr ⟨e, he, rfl⟩))).r), by decide,
        fun Ls pF JF srtF pmF sF rowF npF => ⟨fun c => ?_, fun c => ?_⟩⟩⟩
      rotate_left
      · rw [srt_uniq srtF five_srt ((pfs_perm pmF).trans pmX), five_code] at c
        cases c
      have sB : Same I6 JF := fun c o e => sF _ _ (same_new' ntq _ _ e)
      have eF : pfs Ls = fiveL := srt_uniq srtF five_srt ((pfs_perm pmF).trans pmX)
      refine ⟨_, rfl, ne_rows rowF.at_ (sB _ _ gf) (fun e he => (rowF.good e he).1) (fun e he => sB _ _ (gall e he)) eF (fun e he c hc => ?_) ⟨_, rfl, iteF ?_⟩⟩
      · rw [eF] at he
        have := (okF e he).dg c hc
        omega
      have tB := tA.ext sB
      clear gX gall okF pmX gf g1 g2 g3 g4 g5 ntq npF rowF srtF pmF sF c eF
      -- whole
      refine ⟨5000, rfl, by decide, by decide, fun LW pw HW eLW sW gW atW npW => ?_⟩
      have tW := tB.ext sW
      have wIn : ∀ e ∈ LW, e.2.1 < 5000 ∧ e.2.2 = [] := fun e he => by
        have z : e.2 ∈ pfs LW := List.mem_map.mpr ⟨e, he, rfl⟩
        rw [eLW] at z
        obtain ⟨r, hr, z⟩ := List.mem_map.mp z
        rw [← z]
        exact ⟨List.mem_range.mp hr, rfl⟩
      have lW : LW.length = 5000 := by
        have z := congrArg List.length eLW
        rw [List.length_map, List.length_map, List.length_range] at z
        exact z
      have rowW : Row 2 5000 1 HW pw LW := ⟨atW, fun e he => ⟨gW e he, (by rw [(wIn e he).2]; intro c hc; cases hc), (by rw [(wIn e he).2]; exact Nat.zero_le _)⟩, by omega, fun e he => (wIn e he).1⟩
      have codeW : codeB 2 5000 1 (pfs LW) = true := by rw [eLW]; exact code_roots (by decide) (by decide)
      clear tB sW npW
      -- longer
      refine ⟨_, rfl, _, rfl, ?_⟩
      refine slA_s rowW.at_ (fun q7 J7 s7 e7 => ?_)
      have ec : cutV (prefs LW) none (some 4999) = prefs (LW.take 4999) := by
        rw [show (4999 : Int) = ((4999 : Nat) : Int) from rfl, VG.cutV_take (by rw [List.length_map, lW]; decide)]
        exact List.map_take.symm
      rw [ec] at e7
      refine ⟨(by show 2 ≤ sizeLine; decide), fun y1 m1 => ?_⟩
      have g1 : upd J7 y1 (.tup [.int 4999, .str "0"]) y1 = some (pfO (4999, [48])) := by rw [upd_same, e0]; rfl
      have s1 : Same J7 (upd J7 y1 (.tup [.int 4999, .str "0"])) := same_new' m1
      generalize upd J7 y1 (.tup [.int 4999, .str "0"]) = I1 at g1 s1 ⊢
      refine ⟨(by show 2 ≤ sizeLine; decide), fun y2 m2 => ?_⟩
      have g2 : upd I1 y2 (.tup [.int 4999, .str "1"]) y2 = some (pfO (4999, [49])) := by rw [upd_same, e1]; rfl
      have s2 : Same I1 (upd I1 y2 (.tup [.int 4999, .str "1"])) := same_new' m2
      generalize upd I1 y2 (.tup [.int 4999, .str "1"]) = I2 at g2 s2 ⊢
      refine ⟨(by show 2 ≤ sizeLine; decide), fun y3 m3 => ?_⟩
      have g3 : upd I2 y3 (.tup [.ref y1, .ref y2]) y3 = some (.tup (prefs [(y1, (4999, [48])), (y2, (4999, [49]))])) := upd_same
      have s3 : Same I2 (upd I2 y3 (.tup [.ref y1, .ref y2])) := same_new' m3
      generalize upd I2 y3 (.tup [.ref y1, .ref y2]) = I3 at g3 s3 ⊢
      have s73 : Same J7 I3 := fun c o e => s3 _ _ (s2 _ _ (s1 _ _ e))
      have lT : (LW.take 4999).length = 4999 := by rw [List.length_take, lW]; rfl
      refine catA_s (s73 _ _ e7) g3 (by rw [List.length_map, lT]; show 5001 ≤ sizeLine; decide) (fun q8 J8 s8 e8 => ?_)
      have e8' : J8 q8 = some (.tup (prefs (LW.take 4999 ++ [(y1, (4999, [48])), (y2, (4999, [49]))]))) := by
        rw [e8, show prefs (LW.take 4999 ++ [(y1, (4999, [48])), (y2, (4999, [49]))]) = prefs (LW.take 4999) ++ prefs [(y1, (4999, [48])), (y2, (4999, [49]))] from List.map_append]
      have sW8 : Same HW J8 := fun c o e => s8 _ _ (s73 _ _ (s7 _ _ e))
      have lLo : (LW.take 4999 ++ [(y1, (4999, [48])), (y2, (4999, [49]))]).length = 5001 := by
        rw [List.length_append, lT]
        rfl
      have row8 : Row 2 5000 1 J8 q8 (LW.take 4999 ++ [(y1, (4999, [48])), (y2, (4999, [49]))]) := by
        have h1 : ∀ e ∈ (LW.take 4999 ++ [(y1, (4999, [48])), (y2, (4999, [49]))] : Pr), (J8 e.1 = some (pfO e.2) ∧ Dg 2 e.2.2 ∧ e.2.2.length ≤ 1) ∧ e.2.1 < 5000 := fun e he => by
          rcases List.mem_append.mp he with z | z
          · have z := List.mem_of_mem_take z
            obtain ⟨a1, a2, a3⟩ := rowW.good e z
            exact ⟨⟨sW8 _ _ a1, a2, a3⟩, rowW.rt e z⟩
          · rcases List.mem_cons.mp z with z | z
            · rw [z]
              exact ⟨⟨s8 _ _ (s3 _ _ (s2 _ _ g1)), (by show Dg 2 [48]; unfold Dg; decide), (by show 1 ≤ 1; decide)⟩, (by show 4999 < 5000; decide)⟩
            · rw [List.mem_singleton.mp z]
              exact ⟨⟨s8 _ _ (s3 _ _ g2), (by show Dg 2 [49]; unfold Dg; decide), (by show 1 ≤ 1; decide)⟩, (by show 4999 < 5000; decide)⟩
        exact ⟨e8', fun e he => (h1 e he).1, by omega, fun e he => (h1 e he).2⟩
      generalize LW.take 4999 ++ [(y1, (4999, [48])), (y2, (4999, [49]))] = Lo at e8' lLo row8
      have t8 := tW.ext sW8
      have rowW8 := rowW.kx (KX.of sW8)
      clear e8 g1 g2 g3 s1 s2 s3 m1 m2 m3 s73 e7 ec lT s7 s8 sW8 tW rowW
      -- is_code of both
      refine ⟨_, rfl, 2, 5000, .ref pw, true, rfl, by decide, by decide, by decide, by decide, by rw [← codeW]; exact row_cg rowW8 (by decide), fun H9 s9 => ⟨_, _, rfl, rfl, _, rfl, iteFB rfl ?_⟩⟩
      refine ⟨_, rfl, 2, 5000, .ref q8, false, rfl, by decide, by decide, by decide, by decide, .big (s9 _ _ e8') (by rw [List.length_map, lLo]; decide), fun HA sA => ⟨_, _, rfl, rfl, _, rfl, iteFB rfl ?_⟩⟩
      have s8A : Same J8 HA := fun c o e => sA _ _ (s9 _ _ e)
      have rowA := row8.kx (KX.of s8A)
      have tA8 := t8.ext s8A
      clear s9 sA t8 row8 rowW8 e8'
      -- told
      refine ⟨tA8, fun K1 f1 U1 => ?_⟩
      refine ⟨_, rfl, 2, 5000, 1, q8, Lo, rfl, by decide, by decide, by decide, by decide, rowA.kx (KX.ex f1), by decide, fun Ls pF JF srtF pmF sF rowF npF => ⟨fun c => ?_, fun _ => ⟨rfl, _, _, .str _, .str _, by decide +kernel, by decide +kernel, _, rfl, iteFB (by decide +kernel) ?_⟩⟩⟩
      · unfold codeB at c
        rw [List.length_map, pmF.length_eq, lLo, decide_eq_false (by decide), Bool.false_and] at c
        cases c
      clear srtF pmF sF rowF npF f1 U1 rowA tA8 s8A
      -- the chain
      refine ⟨_, rfl, by decide, by decide, fun D nD => ?_⟩
      refine lc_range (n := 200) (fun i Hy => ∃ L : Pr, pfs L = (List.range i).map (fun j => (0, ones j ++ [48])) ∧ RowL Hy D L) ?_ ?_ ?_
      · exact ⟨[], rfl, upd_same, fun e he => (by cases he)⟩
      · rintro j Hy hj ⟨L2, e1', row⟩
        have lL2 : L2.length = j := by
          have z := congrArg List.length e1'
          rw [List.length_map, List.length_map, List.length_range] at z
          exact z
        have fl : (List.replicate j [49]).flatten = ones j := List.flatten_replicate_singleton
        refine ⟨rfl, ?_⟩
        refine ⟨_, rfl, [49], j, by rw [← e1], by rw [Int.zero_add], by omega, by decide, by show j * 1 ≤ 1000000; omega, S ((List.replicate j [49]).flatten), S [48], rfl, by rw [← e0], ?_, (by show 2 ≤ sizeLine; decide), fun t nt => ?_⟩
        · rw [fl, S_len, S_len, List.length_replicate]
          exact Nat.le_trans (show j + 1 ≤ 300 by omega) (by decide)
        have ev : (.tup [.int 0, .str (S ((List.replicate j [49]).flatten) ++ S [48])] : HO) = pfO (0, ones j ++ [48]) := by
          rw [fl, S_cat]
          rfl
        rw [ev]
        have nD2 : D ≠ t := ne_of_none row.at_ nt
        refine ⟨prefs L2, by rw [upd_ne nD2]; exact row.at_, by rw [List.length_map, lL2]; exact Nat.lt_of_lt_of_le (show j < 6000 by omega) (by decide), L2 ++ [(t, (0, ones j ++ [48]))], ?_, RowL.add row nt⟩
        rw [show pfs (L2 ++ [(t, (0, ones j ++ [48]))]) = pfs L2 ++ [(0, ones j ++ [48])] from List.map_append, e1', List.range_succ, List.map_append]
        rfl
      · rintro Hy ⟨L2, eL2, row⟩
        have lL2 : L2.length = 200 := by
          have z := congrArg List.length eL2
          rw [List.length_map, List.length_map, List.length_range] at z
          exact z
        have fl : (List.replicate 200 [49]).flatten = ones 200 := List.flatten_replicate_singleton
        refine ⟨[49], 200, by rw [← e1], rfl, by decide, by decide, by decide, (by show 2 ≤ sizeLine; decide), fun t nt => ?_⟩
        have ev : (.tup [.int 0, .str (S ((List.replicate 200 [49]).flatten))] : HO) = pfO (0, ones 200) := by
          rw [fl]
          rfl
        rw [ev]
        have s1 : Same Hy (upd Hy t (pfO (0, ones 200))) := same_new' nt
        have g1 : upd Hy t (pfO (0, ones 200)) t = some (pfO (0, ones 200)) := upd_same
        generalize upd Hy t (pfO (0, ones 200)) = I1 at s1 g1 ⊢
        refine ⟨(by show 1 ≤ sizeLine; decide), fun l2 nl2 => ?_⟩
        have s2 : Same I1 (upd I1 l2 (.lst [.ref t])) := same_new' nl2
        have g2 : upd I1 l2 (.lst [.ref t]) l2 = some (.lst [.ref t]) := upd_same
        generalize upd I1 l2 (.lst [.ref t]) = I2 at s2 g2 ⊢
        refine ⟨D, l2, _, _, rfl, rfl, s2 _ _ (s1 _ _ row.at_), g2, by rw [List.length_map, lL2]; show 201 ≤ sizeLine; decide, fun q nq => ?_⟩
        have eLM : prefs L2 ++ [V.ref t] = prefs (L2 ++ [(t, (0, ones 200))]) := (show prefs (L2 ++ [(t, (0, ones 200))]) = prefs L2 ++ [V.ref t] from List.map_append).symm
        rw [eLM]
        have s3 : Same I2 (upd I2 q (.lst (prefs (L2 ++ [(t, (0, ones 200))])))) := same_new' nq
        have rowq : RowL (upd I2 q (.lst (prefs (L2 ++ [(t, (0, ones 200))])))) q (L2 ++ [(t, (0, ones 200))]) := by
          refine ⟨upd_same, fun e he => ?_⟩
          rcases List.mem_append.mp he with z | z
          · exact s3 _ _ (s2 _ _ (s1 _ _ (row.good e z)))
          · rw [List.mem_singleton.mp z]
            exact s3 _ _ (s2 _ _ g1)
        have ech : pfs (L2 ++ [(t, (0, ones 200))]) = chainL 200 := by
          rw [show pfs (L2 ++ [(t, (0, ones 200))]) = pfs L2 ++ [(0, ones 200)] from List.map_append, eL2]
          rfl
        have lch : (L2 ++ [(t, (0, ones 200))]).length = 201 := by
          rw [List.length_append, lL2]
          rfl
        generalize upd I2 q (.lst (prefs (L2 ++ [(t, (0, ones 200))]))) = I3 at rowq ⊢
        generalize L2 ++ [(t, (0, ones 200))] = Lc at rowq ech lch ⊢
        refine ⟨q, prefs Lc, keyAt I3, rfl, SqL.of rowq.at_, fun x hx => ?_, fun ys l hs hb nl => ?_⟩
        · obtain ⟨y, hy, rfl⟩ := List.mem_map.mp hx
          have g := rowq.good y hy
          refine ⟨y.1, rfl, ?_⟩
          rw [keyAt_of g]
          exact g
        obtain ⟨Lo2, pm, ey⟩ := perm_lift (fun e : Addr × Pf => V.ref e.1) Lc hb.perm
        subst ey
        have srt : SrtP (pfs Lo2) := by
          have z := srtd_of_map hs
          have e : (prefs Lo2).map (keyAt I3) = (pfs Lo2).map kP := by
            rw [List.map_map, List.map_map]
            refine List.map_congr_left fun e he => ?_
            exact keyAt_of (rowq.good e (pm.mem_iff.mp he))
          rw [e] at z
          exact z
        have s4 : Same I3 (upd I3 l (.lst (prefs Lo2))) := same_new' nl
        have g4 : upd I3 l (.lst (prefs Lo2)) l = some (.lst (prefs Lo2)) := upd_same
        generalize upd I3 l (.lst (prefs Lo2)) = I4 at s4 g4 ⊢
        refine ⟨l, _, rfl, .inl ⟨SqL.of g4, fun tc ntc => ?_⟩⟩
        have s5 : Same I4 (upd I4 tc (.tup (prefs Lo2))) := same_new' ntc
        have g5 : upd I4 tc (.tup (prefs Lo2)) tc = some (.tup (prefs Lo2)) := upd_same
        generalize upd I4 tc (.tup (prefs Lo2)) = I5 at s5 g5 ⊢
        have pmc : (pfs Lo2).Perm (chainL 200) := by
          rw [← ech]
          exact pfs_perm pm
        have leafc : Leaf 2 200 1 (pfs Lo2) := (leaf_chain (N := 200) 200 (Nat.le_refl _)).perm pmc.symm
        have rowc : Row 2 1 200 I5 tc Lo2 := ⟨g5, fun e he => ⟨s5 _ _ (s4 _ _ (rowq.good e (pm.mem_iff.mp he))), (leafc.ok e.2 (List.mem_map.mpr ⟨e, he, rfl⟩)).dg, (leafc.ok e.2 (List.mem_map.mpr ⟨e, he, rfl⟩)).le⟩, by rw [pm.length_eq, lch]; decide, fun e he => (leafc.ok e.2 (List.mem_map.mpr ⟨e, he, rfl⟩)).r⟩
        have lo2 : Lo2.length = 201 := by rw [pm.length_eq, lch]
        have codec : codeB 2 1 200 (pfs Lo2) = true := code_leaf (by decide) leafc srt (by rw [List.length_map, lo2]; decide)
        refine ⟨_, rfl, 2, 1, .ref tc, true, rfl, by decide, by decide, by decide, by decide, by rw [← codec]; exact row_cg rowc (by decide), fun H9 s9 => ⟨_, _, rfl, rfl, _, rfl, iteTB rfl ?_⟩⟩
        refine ⟨_, rfl, _, rfl, slN ?_⟩
        refine slA_s (s9 _ _ rowc.at_) (fun q7 J7 s7 e7 => ?_)
        have ec : cutV (prefs Lo2) (some 1) none = prefs (Lo2.drop 1) := by
          rw [show (1 : Int) = ((1 : Nat) : Int) from rfl, VG.cutV_drop (by rw [List.length_map, lo2]; decide)]
          exact List.map_drop.symm
        rw [ec] at e7
        have rowd : Row 2 1 200 J7 q7 (Lo2.drop 1) := ⟨e7, fun e he => ⟨s7 _ _ (s9 _ _ (rowc.good e (List.mem_of_mem_drop he)).1), (rowc.good e (List.mem_of_mem_drop he)).2⟩, by rw [List.length_drop, lo2]; decide, fun e he => rowc.rt e (List.mem_of_mem_drop he)⟩
        have coded : codeB 2 1 200 (pfs (Lo2.drop 1)) = false := by
          obtain ⟨e, L9, rfl⟩ : ∃ e L9, Lo2 = e :: L9 := by
            cases Lo2 with
            | nil => cases lo2
            | cons e L9 => exact ⟨e, L9, rfl⟩
          exact code_less (by decide) (e := e.2) (M := pfs L9) leafc (List.Perm.refl _)
        refine ⟨2, 1, .ref q7, false, rfl, by decide, by decide, by decide, by decide, by rw [← coded]; exact row_cg rowd (by decide), fun HB sB => ⟨_, _, rfl, rfl, _, rfl, iteTB rfl ?_⟩⟩
        refine ⟨rfl, ?_⟩
        rw [decide_eq_true rfl]
        exact k HB
end
end Vf


set_option Elab.async false
set_option maxRecDepth 100000
set_option maxHeartbeats 8000000
set_option exponentiation.threshold 3000
namespace Vf
open PySem L2 SX Vm
theorem bent0 {P : Program} {w : World} {K : PySem.W.Frag} {mg : Str → Option Value} {base : Heap} {f : Addr} {fd : FuncData} (F : Fun K "_law_bent" "_law_bent" sBent f fd) : FnOk P w K mg base CX0 2 f fd ["die", "thing", "deep"] (spB 0) := by
  refine F.ok scBent (fun vs H Q E h => ?_) (fun cdv A outer s H vs Q E hr h => ?_)
  · exact False.elim h
  · exact False.elim h
/-! ### what the top has written -/
section
variable {K : PySem.W.Frag} {mg : Str → Option Value} {h : Heap}
theorem def_mk {x : Str} {st : Stmt} {ps : List Str} {f : Addr} {oc kV doc pm cd ct : Value} {od an : Option Addr} {sl : Array (Option Value)} (X : K.In h) (G : h.Ns mainGlobals mg)
    (a : PySem.W.nsIn K mainGlobals x = some (some (.ref f))) (l : K.lookup f = some ⟨oc, od, .func (PySem.W.fnOf x x (defArgs st) (defBody st) (defScope st) .none kV doc pm an cd ct), sl⟩) (c : PySem.W.codeIn K cd x = true) (k : PySem.W.keepIn K (.ref f) = true)
    (b : ∀ fd, Fun K x x st f fd → Binds K fd ps []) : ∃ (f : Addr) (fd : FuncData), Fun K x x st f fd ∧ Cal K mg x f fd ps :=
  ⟨f, _, fun_mk (st := st) l c k, PySem.W.mg_of X G a, k, b _ (fun_mk (st := st) l c k)⟩
theorem pfx_mk {x : Str} {C : Addr} (X : K.In h) (G : h.Ns mainGlobals mg) (gS : PySem.W.nsIn K mainGlobals x = some (some (.ref C))) (exS : PySem.W.excIn K C [.type "ValueError", .type "Exception", .type "BaseException", .type "object"] "ValueError.__new__" = true) (kS : PySem.W.keepIn K (.ref C) = true) (bS : PySem.W.subIn K (.ref C) (.type "BaseException") = some true) (tS : PySem.W.typeIn K (.ref C) = some (.type "type")) : PfxTxt K mg x C := ⟨PySem.W.mg_of X G gS, exS, kS, bS, tS⟩
theorem cls_mk {P : Program} {C fI cda cc : Addr} {nm q N : _} {bs : List Value} {sn : List Str} {sub : List Value} {ab : Bool} {col : Option Bool} {dd : Option Addr} {k0 k1 k2 k3 k5 : Option Value}
    {oc doc pm ct ccl cl : Value} {od an cdd cld : Option Addr} {osl ccs csl : Array (Option Value)} {vs : Array Value} {file : Str} {tf : Tok} (X : K.In h) (G : h.Ns mainGlobals mg)
    (gC : PySem.W.nsIn K mainGlobals "InvalidNumber" = some (some (.ref C))) (noSuper : PySem.W.nsIn K mainGlobals "super" = some none)
    (cls : K.lookup C = some (excClassObj nm q C N bs VNum.bmI true sn sub ab col dd k0 k1 k2 k3 k5 "IndexError.__new__"))
    (sa : PySem.W.findIn K (.ref C) "__setattr__" = some (some (.builtin "object.__setattr__"))) (ga : PySem.W.findIn K (.ref C) "__getattribute__" = some (some (.builtin "BaseException.__getattribute__"))) (gg : PySem.W.findIn K (.ref C) "__getattr__" = some none)
    (ov : PySem.W.excOver K C VNum.bmI = true) (qi : PySem.W.excInitIn K C VNum.bmI "IndexError.__new__" = true) (tk : PySem.W.takerIn K C "value" = some none) (noV : PySem.W.findIn K (.ref C) "value" = some none) (hdC : PySem.W.hasDictIn K C = true)
    (iC : PySem.W.findIn K (.ref C) "__init__" = some (some (.ref fI))) (tC : PySem.W.typeIn K (.ref fI) = some (.type "function")) (any : PySem.W.nsIn K PySem.cStatics "thirdparty.any" = some none) (sup : PySem.W.ks_superIn K C C "__init__" = some (some (.builtin "IndexError.__init__")))
    (sI : PySem.W.subIn K (.ref C) (.type "IndexError") = some true) (mro : PySem.W.mroIn K C (.ref C) = some true) (kC : PySem.W.keepIn K (.ref C) = true) (exC : PySem.W.subIn K (.ref C) (.type "BaseException") = some true) (tyC : PySem.W.typeIn K (.ref C) = some (.type "type"))
    (top : (P.main.scope.names.lookup ("super" : Str)).isSome = false)
    (l1 : K.lookup fI = some ⟨oc, od, .func (PySem.W.ksFn "__init__" "InvalidNumber.__init__" VNum.mainArgs VNum.mainBody VNum.mainScope .none .none doc pm an (.ref cda) ct cc), osl⟩) (c1 : PySem.W.codeIn K (.ref cda) "InvalidNumber.__init__" = true)
    (l2 : K.lookup cda = some ⟨ccl, cdd, .fields vs, ccs⟩) (fl : vs[2]? = some (.str file tf)) (fm : ((P.main.file : Str) == file) = true) (l3 : K.lookup cc = some ⟨cl, cld, .cell (some (.ref C)), csl⟩) :
    ∃ CN f : Addr, VNum.NumTxt P K mg CN f :=
  ⟨C, fI,
    { gC := PySem.W.mg_of X G gC, noSuper := PySem.W.mg_none_of X G noSuper, cls := ⟨nm, q, N, bs, sn, sub, ab, col, dd, k0, k1, k2, k3, k5, cls⟩, sa := sa, ga := ga, gg := gg, ov := ov, qi := qi, tk := tk, noV := noV, hdC := hdC, iC := iC, tC := tC, any := any, sup := sup, sI := sI, mro := mro, kC := kC, exC := exC, tyC := tyC, top := top,
      fn := ⟨oc, od, doc, pm, an, cda, cc, ct, osl, vs, file, tf, ccl, cdd, ccs, cl, cld, csl, l1, c1, l2, fl, fm, l3⟩ }⟩
theorem told7_mk {CX CI : Addr} (X : K.In h) (G : h.Ns mainGlobals mg) (gX : PySem.W.nsIn K mainGlobals "InvalidPrefix" = some (some (.ref CX))) (eX : PySem.W.excIn K CX [.type "ValueError", .type "Exception", .type "BaseException", .type "object"] "ValueError.__new__" = true) (kX : PySem.W.keepIn K (.ref CX) = true) (bX : PySem.W.subIn K (.ref CX) (.type "BaseException") = some true) (tX : PySem.W.typeIn K (.ref CX) = some (.type "type"))
    (gI : PySem.W.nsIn K mainGlobals "InvalidCode" = some (some (.ref CI))) (eI : PySem.W.excIn K CI [.type "ValueError", .type "Exception", .type "BaseException", .type "object"] "ValueError.__new__" = true) (kI : PySem.W.keepIn K (.ref CI) = true) (bI : PySem.W.subIn K (.ref CI) (.type "BaseException") = some true) (tI : PySem.W.typeIn K (.ref CI) = some (.type "type")) (ii : PySem.W.exmOne K (.ref CI) (.ref CI) = some true) :
    ∃ CI CX : Addr, PfxTxt K mg "InvalidPrefix" CX ∧ PfxTxt K mg "InvalidCode" CI ∧ Told7 K mg CI CX :=
  ⟨CI, CX, pfx_mk X G gX eX kX bX tX, pfx_mk X G gI eI kI bI tI, ⟨PySem.W.mg_of X G gI, PySem.W.mg_of X G gX, ii⟩⟩
theorem nm_mk {t1 t2 t3 t4 t5 : Tok} (X : K.In h) (G : h.Ns mainGlobals mg) (z1 : PySem.W.nsIn K mainGlobals "isinstance" = some none) (z2 : PySem.W.nsIn K mainGlobals "int" = some none) (z3 : PySem.W.nsIn K mainGlobals "bool" = some none) (z4 : PySem.W.nsIn K mainGlobals "str" = some none) (z5 : PySem.W.nsIn K mainGlobals "tuple" = some none) (z6 : PySem.W.nsIn K mainGlobals "len" = some none) (z7 : PySem.W.nsIn K mainGlobals "range" = some none) (z8 : PySem.W.nsIn K mainGlobals "max" = some none) (z9 : PySem.W.nsIn K mainGlobals "min" = some none) (z10 : PySem.W.nsIn K mainGlobals "abs" = some none) (z11 : PySem.W.nsIn K mainGlobals "list" = some none) (z12 : PySem.W.nsIn K mainGlobals "repr" = some none) (z13 : PySem.W.nsIn K mainGlobals "zip" = some none) (z14 : PySem.W.nsIn K mainGlobals "sorted" = some none) (z15 : PySem.W.nsIn K mainGlobals "all" = some none)
    (y1 : PySem.W.nsIn K mainGlobals "MIN_BASE" = some (some (.int 2 t1))) (y2 : PySem.W.nsIn K mainGlobals "MAX_BASE" = some (some (.int 5 t2))) (y3 : PySem.W.nsIn K mainGlobals "MAX_ROOTS" = some (some (.int 5000 t3)))
    (y4 : PySem.W.nsIn K mainGlobals "DIGITS" = some (some (.str "01234" t4))) (y5 : PySem.W.nsIn K mainGlobals "MAX_ROWS" = some (some (.int 5000 t5))) :
    Nm mg ∧ NmL mg ∧ mg "range" = none ∧ mg "max" = none ∧ mg "min" = none ∧ mg "abs" = none ∧ mg "list" = none ∧ mg "repr" = none ∧ mg "zip" = none ∧ mg "sorted" = none ∧ mg "all" = none ∧ ∃ t, mg "MAX_ROWS" = some (.int 5000 t) :=
  ⟨⟨PySem.W.mg_none_of X G z1, PySem.W.mg_none_of X G z2, PySem.W.mg_none_of X G z3, PySem.W.mg_none_of X G z4, PySem.W.mg_none_of X G z5, PySem.W.mg_none_of X G z6, ⟨t1, PySem.W.mg_of X G y1⟩, ⟨t2, PySem.W.mg_of X G y2⟩, ⟨t3, PySem.W.mg_of X G y3⟩, ⟨t4, PySem.W.mg_of X G y4⟩⟩,
    ⟨PySem.W.mg_none_of X G z1, PySem.W.mg_none_of X G z2, PySem.W.mg_none_of X G z3, PySem.W.mg_none_of X G z4, PySem.W.mg_none_of X G z5, PySem.W.mg_none_of X G z11, PySem.W.mg_none_of X G z6, PySem.W.mg_none_of X G z12⟩,
    PySem.W.mg_none_of X G z7, PySem.W.mg_none_of X G z8, PySem.W.mg_none_of X G z9, PySem.W.mg_none_of X G z10, PySem.W.mg_none_of X G z11, PySem.W.mg_none_of X G z12, PySem.W.mg_none_of X G z13, PySem.W.mg_none_of X G z14, PySem.W.mg_none_of X G z15, t5, PySem.W.mg_of X G y5⟩
theorem told_mk {f : Addr} {oc kV doc pm cd ct : Value} {od an : Option Addr} {sl : Array (Option Value)} (X : K.In h) (G : h.Ns mainGlobals mg)
    (a : PySem.W.nsIn K mainGlobals "_law_told" = some (some (.ref f))) (l : K.lookup f = some ⟨oc, od, .func (PySem.W.fnOf "_law_told" "_law_told" (defArgs sTold) (defBody sTold) (defScope sTold) .none kV doc pm an cd ct), sl⟩) (c : PySem.W.codeIn K cd "_law_told" = true) (k : PySem.W.keepIn K (.ref f) = true) : ∃ g, TFn K mg g :=
  ⟨f, PySem.W.mg_of X G a, k, oc, od, kV, doc, pm, an, cd, ct, sl, l, c, (fun_mk (st := sTold) l c k).binds fun _ _ _ _ _ _ us hl => match us, hl with | [_], _ => rfl⟩
/-- the defs, joined -/
theorem law_mk {l : PySem.W.OpenLaw} {w : World} {fa c1 c2 P1 P2 g CN fI CI CX fMC fMR fW fIsInt fWithin fReqNum fReqBase fReqRoots fWordForm fPfxForm fReqPfx fStartB fCovers fIsCode fCodeForm fReqPfxs fRootCode fCodeFrom fDice fPull fShuf fIsAbove fLonger fChildren fLCode fLBase fOdd fBent fIsWhole fLIsPfx fLIsCode fValues : Addr} {fdIsInt fdWithin fdReqNum fdReqBase fdReqRoots fdWordForm fdPfxForm fdReqPfx fdStartB fdCovers fdIsCode fdCodeForm fdReqPfxs fdRootCode fdCodeFrom fdDice fdPull fdShuf fdIsAbove fdLonger fdChildren fdLCode fdLBase fdOdd fdBent fdIsWhole fdLIsPfx fdLIsCode fdValues : FuncData} {cdMC ocMC kVMC docMC pmMC ctMC ocMR kVMR docMR pmMR ctMR ocW kVW docW pmW ctW : Value} {odMC anMC odMR anMR odW anW : Option Addr} {slMC slMR slW : Array (Option Value)} (X : K.In h) (G : h.Ns mainGlobals mg) (hfa : mg "law" = some (.ref fa))
    (aMC : PySem.W.nsIn K mainGlobals "make_code" = some (some (.ref fMC))) (lMC : K.lookup fMC = some ⟨ocMC, odMC, .func (PySem.W.fnOf "make_code" "make_code" (defArgs sMakeCode) (defBody sMakeCode) (defScope sMakeCode) .none kVMC docMC pmMC anMC cdMC ctMC), slMC⟩) (cMC : PySem.W.codeIn K cdMC "make_code" = true) (kMC : PySem.W.keepIn K (.ref fMC) = true)
    (aMR : PySem.W.nsIn K mainGlobals "_law_made_right" = some (some (.ref fMR))) (lMR : K.lookup fMR = some ⟨ocMR, odMR, .func (PySem.W.fnOf "_law_made_right" "_law_made_right" (defArgs sMadeRight) (defBody sMadeRight) (defScope sMadeRight) .none kVMR docMR pmMR anMR (.ref c1) ctMR), slMR⟩) (cMR : PySem.W.codeIn K (.ref c1) "_law_made_right" = true) (kMR : PySem.W.keepIn K (.ref fMR) = true)
    (aW : PySem.W.nsIn K mainGlobals "law" = some (some (.ref fW))) (lW : K.lookup fW = some ⟨ocW, odW, .func (PySem.W.fnOf "law" "law" (defArgs sLaw) (defBody sLaw) (defScope sLaw) .none kVW docW pmW anW (.ref c2) ctW), slW⟩) (cW : PySem.W.codeIn K (.ref c2) "law" = true) (kW : PySem.W.keepIn K (.ref fW) = true)
    (hT1 : h.get? P1 = some { cls := .none, data := .fields #[] }) (nT1 : K.lookup P1 = none) (hh1 : PySem.W.codeHdIn K c1 P1 = true) (hT2 : h.get? P2 = some { cls := .none, data := .fields #[] }) (nT2 : K.lookup P2 = none) (hh2 : PySem.W.codeHdIn K c2 P2 = true) (n12 : P1 ≠ P2)
    (num : VNum.NumTxt l.prog K mg CN fI) (pfX : PfxTxt K mg "InvalidPrefix" CX) (pfI : PfxTxt K mg "InvalidCode" CI) (told : Told7 K mg CI CX) (TF : TFn K mg g) (NN : Nm mg ∧ NmL mg ∧ mg "range" = none ∧ mg "max" = none ∧ mg "min" = none ∧ mg "abs" = none ∧ mg "list" = none ∧ mg "repr" = none ∧ mg "zip" = none ∧ mg "sorted" = none ∧ mg "all" = none ∧ ∃ t, mg "MAX_ROWS" = some (.int 5000 t))
    (FIsInt : Fun K "is_integer" "is_integer" sIsInt fIsInt fdIsInt) (cIsInt : Cal K mg "is_integer" fIsInt fdIsInt ["value"])
    (FWithin : Fun K "is_integer_within" "is_integer_within" sWithin fWithin fdWithin) (cWithin : Cal K mg "is_integer_within" fWithin fdWithin ["low", "high", "value"])
    (FReqNum : Fun K "require_number" "require_number" sReqNum fReqNum fdReqNum) (cReqNum : Cal K mg "require_number" fReqNum fdReqNum ["low", "high", "number"])
    (FReqBase : Fun K "require_base" "require_base" sReqBase fReqBase fdReqBase) (cReqBase : Cal K mg "require_base" fReqBase fdReqBase ["base"])
    (FReqRoots : Fun K "require_roots" "require_roots" sReqRoots fReqRoots fdReqRoots) (cReqRoots : Cal K mg "require_roots" fReqRoots fdReqRoots ["roots"])
    (FWordForm : Fun K "has_word_form" "has_word_form" sWordForm fWordForm fdWordForm) (cWordForm : Cal K mg "has_word_form" fWordForm fdWordForm ["base", "value"])
    (FPfxForm : Fun K "has_prefix_form" "has_prefix_form" sPfxForm fPfxForm fdPfxForm) (cPfxForm : Cal K mg "has_prefix_form" fPfxForm fdPfxForm ["base", "roots", "value"])
    (FReqPfx : Fun K "require_prefix" "require_prefix" sReqPfx fReqPfx fdReqPfx) (cReqPfx : Cal K mg "require_prefix" fReqPfx fdReqPfx ["base", "roots", "prefix"])
    (FStartB : Fun K "start_behind" "start_behind" sStartB fStartB fdStartB) (cStartB : Cal K mg "start_behind" fStartB fdStartB ["base", "word"])
    (FCovers : Fun K "covers" "covers" sCovers fCovers fdCovers) (cCovers : Cal K mg "covers" fCovers fdCovers ["base", "roots", "prefixes"])
    (FIsCode : Fun K "is_code" "is_code" sIsCode fIsCode fdIsCode) (cIsCode : Cal K mg "is_code" fIsCode fdIsCode ["base", "roots", "value"])
    (FCodeForm : Fun K "has_code_form" "has_code_form" sCodeForm fCodeForm fdCodeForm) (cCodeForm : Cal K mg "has_code_form" fCodeForm fdCodeForm ["base", "roots", "value"])
    (FReqPfxs : Fun K "require_prefixes" "require_prefixes" sReqPfxs fReqPfxs fdReqPfxs) (cReqPfxs : Cal K mg "require_prefixes" fReqPfxs fdReqPfxs ["base", "roots", "prefixes"])
    (FRootCode : Fun K "root_code" "root_code" sRootCode fRootCode fdRootCode) (cRootCode : Cal K mg "root_code" fRootCode fdRootCode ["roots"])
    (FCodeFrom : Fun K "code_from" "code_from" sCodeFrom fCodeFrom fdCodeFrom) (cCodeFrom : Cal K mg "code_from" fCodeFrom fdCodeFrom ["base", "roots", "prefixes"])
    (FDice : Fun K "_law_dice" "_law_dice" sDice fDice fdDice) (cDice : Cal K mg "_law_dice" fDice fdDice ["script", "at"])
    (FPull : Fun K "_law_pull" "_law_pull" sPull fPull fdPull) (cPull : Cal K mg "_law_pull" fPull fdPull ["die", "many"])
    (FShuf : Fun K "_law_shuffled" "_law_shuffled" sShuf fShuf fdShuf) (cShuf : Cal K mg "_law_shuffled" fShuf fdShuf ["die", "items"])
    (FIsAbove : Fun K "_law_is_above" "_law_is_above" sIsAbove fIsAbove fdIsAbove) (cIsAbove : Cal K mg "_law_is_above" fIsAbove fdIsAbove ["one", "other"])
    (FLonger : Fun K "_law_longer" "_law_longer" sLonger fLonger fdLonger) (cLonger : Cal K mg "_law_longer" fLonger fdLonger ["prefix", "word"])
    (FChildren : Fun K "_law_children" "_law_children" sChildren fChildren fdChildren) (cChildren : Cal K mg "_law_children" fChildren fdChildren ["base", "prefix"])
    (FLCode : Fun K "_law_code" "_law_code" sLCode fLCode fdLCode) (cLCode : Cal K mg "_law_code" fLCode fdLCode ["die", "base", "wide", "inner"])
    (FLBase : Fun K "_law_base" "_law_base" sLBase fLBase fdLBase) (cLBase : Cal K mg "_law_base" fLBase fdLBase ["die"])
    (FOdd : Fun K "_law_odd" "_law_odd" sOdd fOdd fdOdd) (cOdd : Cal K mg "_law_odd" fOdd fdOdd ["die"])
    (FBent : Fun K "_law_bent" "_law_bent" sBent fBent fdBent) (cBent : Cal K mg "_law_bent" fBent fdBent ["die", "thing", "deep"])
    (FIsWhole : Fun K "_law_is_whole" "_law_is_whole" sIsWhole fIsWhole fdIsWhole) (cIsWhole : Cal K mg "_law_is_whole" fIsWhole fdIsWhole ["value", "low", "high"])
    (FLIsPfx : Fun K "_law_is_prefix" "_law_is_prefix" sLIsPfx fLIsPfx fdLIsPfx) (cLIsPfx : Cal K mg "_law_is_prefix" fLIsPfx fdLIsPfx ["base", "wide", "value"])
    (FLIsCode : Fun K "_law_is_code" "_law_is_code" sLIsCode fLIsCode fdLIsCode) (cLIsCode : Cal K mg "_law_is_code" fLIsCode fdLIsCode ["base", "wide", "value"])
    (FValues : Fun K "_law_values" "_law_values" sValues fValues fdValues) (cValues : Cal K mg "_law_values" fValues fdValues ["die", "base", "wide", "code"]) :
    VG.LawG l w K 11 63 "script" mg fa h := by
  obtain ⟨N, NL, nr, nx, nn, nab, mli, mrp, mz, mso, mall, mr⟩ := NN
  have e := hfa.symm.trans (PySem.W.mg_of X G aW)
  cases e
  refine ⟨PySem.W.fnOf "law" "law" (defArgs sLaw) (defBody sLaw) (defScope sLaw) .none kVW docW pmW anW (.ref c2) ctW, [(c1, P1), (c2, P2)], spLaw K P1 P2, fun p hp => ?_, fun p hp => ?_, fun p hp => ?_, fun s v => .of_eq rfl, fun H a ns hl ht hs => ?_, fun base KB GB TB => ?_⟩
  · rcases List.mem_cons.mp hp with z | z
    · rw [z]
      exact hT1
    · rw [List.mem_singleton.mp z]
      exact hT2
  · rcases List.mem_cons.mp hp with z | z
    · rw [z]
      exact nT1
    · rw [List.mem_singleton.mp z]
      exact nT2
  · rcases List.mem_cons.mp hp with z | z
    · rw [z]
      exact PySem.W.codeHd_of_K X hh1
    · rw [List.mem_singleton.mp z]
      exact PySem.W.codeHd_of_K X hh2
  · refine ⟨a, ns, rfl, hs, hl, fun p hp => ?_, fun _ => rfl⟩
    rcases List.mem_cons.mp hp with z | z
    · rw [z]
      exact LamX.TabS.nil (ht _ (List.Mem.head _))
    · rw [List.mem_singleton.mp z]
      exact LamX.TabS.nil (ht _ (List.Mem.tail _ (List.Mem.head _)))
  · have GIsInt := ok_isint (P := l.prog) (w := w) (base := base) FIsInt N
    have GWithin := ok_within FWithin GIsInt cIsInt
    have GReqNum := ok_reqnum FReqNum GWithin cWithin num
    have GReqBase := ok_reqbase FReqBase GReqNum cReqNum N
    have GReqRoots := ok_reqroots FReqRoots GReqNum cReqNum N
    have GWordForm := ok_wordform (P := l.prog) (w := w) (base := base) FWordForm N
    have GPfxForm := ok_pfxformG FPfxForm GWithin cWithin GWordForm cWordForm N
    have GReqPfx := ok_reqpfx FReqPfx (ok_pfxform FPfxForm GWithin cWithin GWordForm cWordForm N) cPfxForm pfX
    have GStartB := ok_startb (P := l.prog) (w := w) (base := base) FStartB N
    have GCovers := ok_covers FCovers GStartB cStartB N.len
    have GCodeForm := ok_codeform FCodeForm GPfxForm cPfxForm GCovers cCovers N mall mr
    have GIsCode := ok_iscode FIsCode GReqBase cReqBase GReqRoots cReqRoots GCodeForm cCodeForm
    have GReqPfxs := ok_reqpfxs FReqPfxs GReqPfx cReqPfx pfX N
    have GRootCode := ok_rootcode FRootCode GReqRoots cReqRoots N nr
    have GCodeFrom := ok_codefrom FCodeFrom GReqBase cReqBase GReqRoots cReqRoots GReqPfxs cReqPfxs GCodeForm cCodeForm pfI N mso
    have GMakeCode := ok_makecode (fun_mk (st := sMakeCode) lMC cMC kMC) GCodeFrom cCodeFrom
    have GDice := ok_dice (P := l.prog) (w := w) (base := base) FDice N.len nab N.int nx
    have GPull := ok_pull (P := l.prog) (w := w) (mg := mg) (base := base) FPull
    have GShuf := ok_shuf FShuf GPull cPull N mli
    have GIsAbove := ok_isabove (P := l.prog) (w := w) (base := base) FIsAbove N.len
    have GLonger := ok_longer (P := l.prog) (w := w) (mg := mg) (base := base) FLonger
    have GChildren := ok_children FChildren GLonger cLonger
    have GLCode := ok_lcode FLCode GPull cPull GChildren cChildren N nr nn mso
    have GLBase := ok_base FLBase GPull cPull
    have GOdd := ok_odd FOdd GPull cPull
    have GB0 := bent0 (P := l.prog) (w := w) (mg := mg) (base := base) FBent
    have GB1 := ok_bent FBent GPull cPull GOdd cOdd GB0 cBent NL
    have GB2 := ok_bent FBent GPull cPull GOdd cOdd GB1 cBent NL
    have GB3 := ok_bent FBent GPull cPull GOdd cOdd GB2 cBent NL
    have GB4 := ok_bent FBent GPull cPull GOdd cOdd GB3 cBent NL
    have GValues := ok_values FValues GPull cPull GChildren cChildren GB4 cBent GOdd cOdd (by decide) N nr mso mli
    have GIsWhole := ok_iswhole (P := l.prog) (w := w) (base := base) FIsWhole NL.isinst NL.int NL.bool
    have GLIsPfx := ok_lispfx FLIsPfx GIsWhole cIsWhole N
    have GLIsCode := ok_liscode FLIsCode GLIsPfx cLIsPfx GIsAbove cIsAbove N mli mz nx nr
    have mM := PySem.W.mg_of X G aMC
    have FRR := fun_mk (st := sMadeRight) lMR cMR kMR
    have bR := FRR.binds (ps := ["die", "base", "wide", "code"]) fun _ _ _ _ _ _ us hl => match us, hl with | [_, _, _, _], _ => rfl
    have GMade := ok_made (P1 := P1) (P2 := P2) (c := c1) FRR GPull cPull GShuf cShuf GLIsCode cLIsCode GCodeFrom cCodeFrom GMakeCode mM kMC TF told (TB _ (List.Mem.head _)) (fun cdv hx => by
      obtain ⟨_, _, _, _, _, _, _, _, q⟩ := hx
      rw [lMR] at q
      injection q with q
      injection q with _ _ q _
      injection q with q
      exact (congrArg FuncData.code q).symm) n12 N mso
    exact ok_law (P1 := P1) (P2 := P2) (c := c2) (fun_mk (st := sLaw) lW cW kW) GDice cDice GLBase cLBase GPull cPull GLCode cLCode GValues cValues GIsCode cIsCode GLIsCode cLIsCode GMade ⟨PySem.W.mg_of X G aMR, kMR, bR⟩ GRootCode cRootCode GCodeFrom cCodeFrom GMakeCode mM kMC TF told (TB _ (List.Mem.tail _ (List.Mem.head _))) (fun cdv hx => by
      obtain ⟨_, _, _, _, _, _, _, _, q⟩ := hx
      rw [lW] at q
      injection q with q
      injection q with _ _ q _
      injection q with q
      exact (congrArg FuncData.code q).symm) n12 N nr nx nn mso mrp mr
end
end Vf


set_option Elab.async false
open PySem PySem.W PyProof.Rows
set_option maxRecDepth 100000 in
set_option maxHeartbeats 0 in
theorem PySem.Challenge.cw_prefixtable_k07_codes_recognized_holds : PySem.Challenge.rw_prefixtable_k07_codes_recognized.Holds := by
  w_on; o_law; k_head; (case hw => w_witness2)
  k_fill
  refine VG.walkG (l := PySem.Challenge.rw_prefixtable_k07_codes_recognized) (n := 63) (k := 11) (x := "script") rfl (by decide) rfl ⟨rfl, by decide, by decide⟩ (fun w h Y => PySem.W.km_in_of Y) ?F
  case F =>
    intro w mg fa h Y KX G hmg
    have hT := PySem.W.km_tabs_of Y
    refine' Exists.elim (Vf.def_mk (x := "is_integer") (st := Vf.sIsInt) (ps := ["value"]) KX G ?aIsInt ?lIsInt ?cIsInt ?kIsInt ?bIsInt) ?_
    (case aIsInt => k_is); (case lIsInt => k_is); (case cIsInt => k_is); (case kIsInt => k_is)
    (case bIsInt => exact fun fd F => F.binds fun _ _ _ _ _ _ us hl => match us, hl with | [_], _ => rfl)
    rintro fIsInt ⟨fdIsInt, FIsInt, cIsInt⟩
    refine' Exists.elim (Vf.def_mk (x := "is_integer_within") (st := Vf.sWithin) (ps := ["low", "high", "value"]) KX G ?aWithin ?lWithin ?cWithin ?kWithin ?bWithin) ?_
    (case aWithin => k_is); (case lWithin => k_is); (case cWithin => k_is); (case kWithin => k_is)
    (case bWithin => exact fun fd F => F.binds fun _ _ _ _ _ _ us hl => match us, hl with | [_, _, _], _ => rfl)
    rintro fWithin ⟨fdWithin, FWithin, cWithin⟩
    refine' Exists.elim (Vf.def_mk (x := "require_number") (st := Vf.sReqNum) (ps := ["low", "high", "number"]) KX G ?aReqNum ?lReqNum ?cReqNum ?kReqNum ?bReqNum) ?_
    (case aReqNum => k_is); (case lReqNum => k_is); (case cReqNum => k_is); (case kReqNum => k_is)
    (case bReqNum => exact fun fd F => F.binds fun _ _ _ _ _ _ us hl => match us, hl with | [_, _, _], _ => rfl)
    rintro fReqNum ⟨fdReqNum, FReqNum, cReqNum⟩
    refine' Exists.elim (Vf.def_mk (x := "require_base") (st := Vf.sReqBase) (ps := ["base"]) KX G ?aReqBase ?lReqBase ?cReqBase ?kReqBase ?bReqBase) ?_
    (case aReqBase => k_is); (case lReqBase => k_is); (case cReqBase => k_is); (case kReqBase => k_is)
    (case bReqBase => exact fun fd F => F.binds fun _ _ _ _ _ _ us hl => match us, hl with | [_], _ => rfl)
    rintro fReqBase ⟨fdReqBase, FReqBase, cReqBase⟩
    refine' Exists.elim (Vf.def_mk (x := "require_roots") (st := Vf.sReqRoots) (ps := ["roots"]) KX G ?aReqRoots ?lReqRoots ?cReqRoots ?kReqRoots ?bReqRoots) ?_
    (case aReqRoots => k_is); (case lReqRoots => k_is); (case cReqRoots => k_is); (case kReqRoots => k_is)
    (case bReqRoots => exact fun fd F => F.binds fun _ _ _ _ _ _ us hl => match us, hl with | [_], _ => rfl)
    rintro fReqRoots ⟨fdReqRoots, FReqRoots, cReqRoots⟩
    refine' Exists.elim (Vf.def_mk (x := "has_word_form") (st := Vf.sWordForm) (ps := ["base", "value"]) KX G ?aWordForm ?lWordForm ?cWordForm ?kWordForm ?bWordForm) ?_
    (case aWordForm => k_is); (case lWordForm => k_is); (case cWordForm => k_is); (case kWordForm => k_is)
    (case bWordForm => exact fun fd F => F.binds fun _ _ _ _ _ _ us hl => match us, hl with | [_, _], _ => rfl)
    rintro fWordForm ⟨fdWordForm, FWordForm, cWordForm⟩
    refine' Exists.elim (Vf.def_mk (x := "has_prefix_form") (st := Vf.sPfxForm) (ps := ["base", "roots", "value"]) KX G ?aPfxForm ?lPfxForm ?cPfxForm ?kPfxForm ?bPfxForm) ?_
    (case aPfxForm => k_is); (case lPfxForm => k_is); (case cPfxForm => k_is); (case kPfxForm => k_is)
    (case bPfxForm => exact fun fd F => F.binds fun _ _ _ _ _ _ us hl => match us, hl with | [_, _, _], _ => rfl)
    rintro fPfxForm ⟨fdPfxForm, FPfxForm, cPfxForm⟩
    refine' Exists.elim (Vf.def_mk (x := "require_prefix") (st := Vf.sReqPfx) (ps := ["base", "roots", "prefix"]) KX G ?aReqPfx ?lReqPfx ?cReqPfx ?kReqPfx ?bReqPfx) ?_
    (case aReqPfx => k_is); (case lReqPfx => k_is); (case cReqPfx => k_is); (case kReqPfx => k_is)
    (case bReqPfx => exact fun fd F => F.binds fun _ _ _ _ _ _ us hl => match us, hl with | [_, _, _], _ => rfl)
    rintro fReqPfx ⟨fdReqPfx, FReqPfx, cReqPfx⟩
    refine' Exists.elim (Vf.def_mk (x := "start_behind") (st := Vf.sStartB) (ps := ["base", "word"]) KX G ?aStartB ?lStartB ?cStartB ?kStartB ?bStartB) ?_
    (case aStartB => k_is); (case lStartB => k_is); (case cStartB => k_is); (case kStartB => k_is)
    (case bStartB => exact fun fd F => F.binds fun _ _ _ _ _ _ us hl => match us, hl with | [_, _], _ => rfl)
    rintro fStartB ⟨fdStartB, FStartB, cStartB⟩
    refine' Exists.elim (Vf.def_mk (x := "covers") (st := Vf.sCovers) (ps := ["base", "roots", "prefixes"]) KX G ?aCovers ?lCovers ?cCovers ?kCovers ?bCovers) ?_
    (case aCovers => k_is); (case lCovers => k_is); (case cCovers => k_is); (case kCovers => k_is)
    (case bCovers => exact fun fd F => F.binds fun _ _ _ _ _ _ us hl => match us, hl with | [_, _, _], _ => rfl)
    rintro fCovers ⟨fdCovers, FCovers, cCovers⟩
    refine' Exists.elim (Vf.def_mk (x := "is_code") (st := Vf.sIsCode) (ps := ["base", "roots", "value"]) KX G ?aIsCode ?lIsCode ?cIsCode ?kIsCode ?bIsCode) ?_
    (case aIsCode => k_is); (case lIsCode => k_is); (case cIsCode => k_is); (case kIsCode => k_is)
    (case bIsCode => exact fun fd F => F.binds fun _ _ _ _ _ _ us hl => match us, hl with | [_, _, _], _ => rfl)
    rintro fIsCode ⟨fdIsCode, FIsCode, cIsCode⟩
    refine' Exists.elim (Vf.def_mk (x := "has_code_form") (st := Vf.sCodeForm) (ps := ["base", "roots", "value"]) KX G ?aCodeForm ?lCodeForm ?cCodeForm ?kCodeForm ?bCodeForm) ?_
    (case aCodeForm => k_is); (case lCodeForm => k_is); (case cCodeForm => k_is); (case kCodeForm => k_is)
    (case bCodeForm => exact fun fd F => F.binds fun _ _ _ _ _ _ us hl => match us, hl with | [_, _, _], _ => rfl)
    rintro fCodeForm ⟨fdCodeForm, FCodeForm, cCodeForm⟩
    refine' Exists.elim (Vf.def_mk (x := "require_prefixes") (st := Vf.sReqPfxs) (ps := ["base", "roots", "prefixes"]) KX G ?aReqPfxs ?lReqPfxs ?cReqPfxs ?kReqPfxs ?bReqPfxs) ?_
    (case aReqPfxs => k_is); (case lReqPfxs => k_is); (case cReqPfxs => k_is); (case kReqPfxs => k_is)
    (case bReqPfxs => exact fun fd F => F.binds fun _ _ _ _ _ _ us hl => match us, hl with | [_, _, _], _ => rfl)
    rintro fReqPfxs ⟨fdReqPfxs, FReqPfxs, cReqPfxs⟩
    refine' Exists.elim (Vf.def_mk (x := "root_code") (st := Vf.sRootCode) (ps := ["roots"]) KX G ?aRootCode ?lRootCode ?cRootCode ?kRootCode ?bRootCode) ?_
    (case aRootCode => k_is); (case lRootCode => k_is); (case cRootCode => k_is); (case kRootCode => k_is)
    (case bRootCode => exact fun fd F => F.binds fun _ _ _ _ _ _ us hl => match us, hl with | [_], _ => rfl)
    rintro fRootCode ⟨fdRootCode, FRootCode, cRootCode⟩
    refine' Exists.elim (Vf.def_mk (x := "code_from") (st := Vf.sCodeFrom) (ps := ["base", "roots", "prefixes"]) KX G ?aCodeFrom ?lCodeFrom ?cCodeFrom ?kCodeFrom ?bCodeFrom) ?_
    (case aCodeFrom => k_is); (case lCodeFrom => k_is); (case cCodeFrom => k_is); (case kCodeFrom => k_is)
    (case bCodeFrom => exact fun fd F => F.binds fun _ _ _ _ _ _ us hl => match us, hl with | [_, _, _], _ => rfl)
    rintro fCodeFrom ⟨fdCodeFrom, FCodeFrom, cCodeFrom⟩
    refine' Exists.elim (Vf.def_mk (x := "_law_dice") (st := Vf.sDice) (ps := ["script", "at"]) KX G ?aDice ?lDice ?cDice ?kDice ?bDice) ?_
    (case aDice => k_is); (case lDice => k_is); (case cDice => k_is); (case kDice => k_is)
    (case bDice => exact fun fd F => F.binds fun _ _ _ _ _ _ us hl => match us, hl with | [_, _], _ => rfl)
    rintro fDice ⟨fdDice, FDice, cDice⟩
    refine' Exists.elim (Vf.def_mk (x := "_law_pull") (st := Vf.sPull) (ps := ["die", "many"]) KX G ?aPull ?lPull ?cPull ?kPull ?bPull) ?_
    (case aPull => k_is); (case lPull => k_is); (case cPull => k_is); (case kPull => k_is)
    (case bPull => exact fun fd F => F.binds fun _ _ _ _ _ _ us hl => match us, hl with | [_, _], _ => rfl)
    rintro fPull ⟨fdPull, FPull, cPull⟩
    refine' Exists.elim (Vf.def_mk (x := "_law_shuffled") (st := Vf.sShuf) (ps := ["die", "items"]) KX G ?aShuf ?lShuf ?cShuf ?kShuf ?bShuf) ?_
    (case aShuf => k_is); (case lShuf => k_is); (case cShuf => k_is); (case kShuf => k_is)
    (case bShuf => exact fun fd F => F.binds fun _ _ _ _ _ _ us hl => match us, hl with | [_, _], _ => rfl)
    rintro fShuf ⟨fdShuf, FShuf, cShuf⟩
    refine' Exists.elim (Vf.def_mk (x := "_law_is_above") (st := Vf.sIsAbove) (ps := ["one", "other"]) KX G ?aIsAbove ?lIsAbove ?cIsAbove ?kIsAbove ?bIsAbove) ?_
    (case aIsAbove => k_is); (case lIsAbove => k_is); (case cIsAbove => k_is); (case kIsAbove => k_is)
    (case bIsAbove => exact fun fd F => F.binds fun _ _ _ _ _ _ us hl => match us, hl with | [_, _], _ => rfl)
    rintro fIsAbove ⟨fdIsAbove, FIsAbove, cIsAbove⟩
    refine' Exists.elim (Vf.def_mk (x := "_law_longer") (st := Vf.sLonger) (ps := ["prefix", "word"]) KX G ?aLonger ?lLonger ?cLonger ?kLonger ?bLonger) ?_
    (case aLonger => k_is); (case lLonger => k_is); (case cLonger => k_is); (case kLonger => k_is)
    (case bLonger => exact fun fd F => F.binds fun _ _ _ _ _ _ us hl => match us, hl with | [_, _], _ => rfl)
    rintro fLonger ⟨fdLonger, FLonger, cLonger⟩
    refine' Exists.elim (Vf.def_mk (x := "_law_children") (st := Vf.sChildren) (ps := ["base", "prefix"]) KX G ?aChildren ?lChildren ?cChildren ?kChildren ?bChildren) ?_
    (case aChildren => k_is); (case lChildren => k_is); (case cChildren => k_is); (case kChildren => k_is)
    (case bChildren => exact fun fd F => F.binds fun _ _ _ _ _ _ us hl => match us, hl with | [_, _], _ => rfl)
    rintro fChildren ⟨fdChildren, FChildren, cChildren⟩
    refine' Exists.elim (Vf.def_mk (x := "_law_code") (st := Vf.sLCode) (ps := ["die", "base", "wide", "inner"]) KX G ?aLCode ?lLCode ?cLCode ?kLCode ?bLCode) ?_
    (case aLCode => k_is); (case lLCode => k_is); (case cLCode => k_is); (case kLCode => k_is)
    (case bLCode => exact fun fd F => F.binds fun _ _ _ _ _ _ us hl => match us, hl with | [_, _, _, _], _ => rfl)
    rintro fLCode ⟨fdLCode, FLCode, cLCode⟩
    refine' Exists.elim (Vf.def_mk (x := "_law_base") (st := Vf.sLBase) (ps := ["die"]) KX G ?aLBase ?lLBase ?cLBase ?kLBase ?bLBase) ?_
    (case aLBase => k_is); (case lLBase => k_is); (case cLBase => k_is); (case kLBase => k_is)
    (case bLBase => exact fun fd F => F.binds fun _ _ _ _ _ _ us hl => match us, hl with | [_], _ => rfl)
    rintro fLBase ⟨fdLBase, FLBase, cLBase⟩
    refine' Exists.elim (Vf.def_mk (x := "_law_odd") (st := Vf.sOdd) (ps := ["die"]) KX G ?aOdd ?lOdd ?cOdd ?kOdd ?bOdd) ?_
    (case aOdd => k_is); (case lOdd => k_is); (case cOdd => k_is); (case kOdd => k_is)
    (case bOdd => exact fun fd F => F.binds fun _ _ _ _ _ _ us hl => match us, hl with | [_], _ => rfl)
    rintro fOdd ⟨fdOdd, FOdd, cOdd⟩
    refine' Exists.elim (Vf.def_mk (x := "_law_bent") (st := Vf.sBent) (ps := ["die", "thing", "deep"]) KX G ?aBent ?lBent ?cBent ?kBent ?bBent) ?_
    (case aBent => k_is); (case lBent => k_is); (case cBent => k_is); (case kBent => k_is)
    (case bBent => exact fun fd F => F.binds fun _ _ _ _ _ _ us hl => match us, hl with | [_, _, _], _ => rfl)
    rintro fBent ⟨fdBent, FBent, cBent⟩
    refine' Exists.elim (Vf.def_mk (x := "_law_is_whole") (st := Vf.sIsWhole) (ps := ["value", "low", "high"]) KX G ?aIsWhole ?lIsWhole ?cIsWhole ?kIsWhole ?bIsWhole) ?_
    (case aIsWhole => k_is); (case lIsWhole => k_is); (case cIsWhole => k_is); (case kIsWhole => k_is)
    (case bIsWhole => exact fun fd F => F.binds fun _ _ _ _ _ _ us hl => match us, hl with | [_, _, _], _ => rfl)
    rintro fIsWhole ⟨fdIsWhole, FIsWhole, cIsWhole⟩
    refine' Exists.elim (Vf.def_mk (x := "_law_is_prefix") (st := Vf.sLIsPfx) (ps := ["base", "wide", "value"]) KX G ?aLIsPfx ?lLIsPfx ?cLIsPfx ?kLIsPfx ?bLIsPfx) ?_
    (case aLIsPfx => k_is); (case lLIsPfx => k_is); (case cLIsPfx => k_is); (case kLIsPfx => k_is)
    (case bLIsPfx => exact fun fd F => F.binds fun _ _ _ _ _ _ us hl => match us, hl with | [_, _, _], _ => rfl)
    rintro fLIsPfx ⟨fdLIsPfx, FLIsPfx, cLIsPfx⟩
    refine' Exists.elim (Vf.def_mk (x := "_law_is_code") (st := Vf.sLIsCode) (ps := ["base", "wide", "value"]) KX G ?aLIsCode ?lLIsCode ?cLIsCode ?kLIsCode ?bLIsCode) ?_
    (case aLIsCode => k_is); (case lLIsCode => k_is); (case cLIsCode => k_is); (case kLIsCode => k_is)
    (case bLIsCode => exact fun fd F => F.binds fun _ _ _ _ _ _ us hl => match us, hl with | [_, _, _], _ => rfl)
    rintro fLIsCode ⟨fdLIsCode, FLIsCode, cLIsCode⟩
    refine' Exists.elim (Vf.def_mk (x := "_law_values") (st := Vf.sValues) (ps := ["die", "base", "wide", "code"]) KX G ?aValues ?lValues ?cValues ?kValues ?bValues) ?_
    (case aValues => k_is); (case lValues => k_is); (case cValues => k_is); (case kValues => k_is)
    (case bValues => exact fun fd F => F.binds fun _ _ _ _ _ _ us hl => match us, hl with | [_, _, _, _], _ => rfl)
    rintro fValues ⟨fdValues, FValues, cValues⟩
    refine' Exists.elim (Vf.cls_mk (P := PySem.Challenge.rw_prefixtable_k07_codes_recognized.prog) KX G ?j_gC ?j_noSuper ?j_cls ?j_sa ?j_ga ?j_gg ?j_ov ?j_qi ?j_tk ?j_noV ?j_hdC ?j_iC ?j_tC ?j_any ?j_sup ?j_sI ?j_mro ?j_kC ?j_exC ?j_tyC ?j_top ?j_l1 ?j_c1 ?j_l2 ?j_fl ?j_fm ?j_l3) ?_
    (case j_gC => k_is)
    (case j_noSuper => k_is)
    (case j_cls => k_is)
    (case j_sa => k_is)
    (case j_ga => k_is)
    (case j_gg => k_is)
    (case j_ov => first | rfl | kernel_rfl)
    (case j_qi => first | rfl | kernel_rfl)
    (case j_tk => k_is)
    (case j_noV => k_is)
    (case j_hdC => k_is)
    (case j_iC => k_is)
    (case j_tC => k_is)
    (case j_any => k_is)
    (case j_sup => first | ks_is | rfl | kernel_rfl)
    (case j_sI => k_is)
    (case j_mro => k_is)
    (case j_kC => k_is)
    (case j_exC => k_is)
    (case j_tyC => k_is)
    (case j_top => decide +kernel)
    (case j_l1 => k_is)
    (case j_c1 => k_is)
    (case j_l2 => k_is)
    (case j_fl => rfl)
    (case j_fm => first | rfl | decide +kernel)
    (case j_l3 => k_is)
    rintro CN ⟨fI, num⟩
    refine' Exists.elim (Vf.told7_mk KX G ?gX ?eX ?kX ?bX ?tX ?gI ?eI ?kI ?bI ?tI ?ii) ?_
    (case gX => k_is); (case eX => first | rfl | kernel_rfl); (case kX => k_is); (case bX => k_is); (case tX => k_is)
    (case gI => k_is); (case eI => first | rfl | kernel_rfl); (case kI => k_is); (case bI => k_is); (case tI => k_is)
    (case ii => first | rfl | kernel_rfl)
    rintro CI ⟨CX, pfX, pfI, told⟩
    have NN : Vf.Nm mg ∧ Vf.NmL mg ∧ mg "range" = none ∧ mg "max" = none ∧ mg "min" = none ∧ mg "abs" = none ∧ mg "list" = none ∧ mg "repr" = none ∧ mg "zip" = none ∧ mg "sorted" = none ∧ mg "all" = none ∧ ∃ t, mg "MAX_ROWS" = some (.int 5000 t) := by
      refine' Vf.nm_mk KX G ?z1 ?z2 ?z3 ?z4 ?z5 ?z6 ?z7 ?z8 ?z9 ?z10 ?z11 ?z12 ?z13 ?z14 ?z15 ?y1 ?y2 ?y3 ?y4 ?y5
      (case z1 => k_is)
      (case z2 => k_is)
      (case z3 => k_is)
      (case z4 => k_is)
      (case z5 => k_is)
      (case z6 => k_is)
      (case z7 => k_is)
      (case z8 => k_is)
      (case z9 => k_is)
      (case z10 => k_is)
      (case z11 => k_is)
      (case z12 => k_is)
      (case z13 => k_is)
      (case z14 => k_is)
      (case z15 => k_is)
      (case y1 => k_is)
      (case y2 => k_is)
      (case y3 => k_is)
      (case y4 => k_is)
      (case y5 => k_is)
    refine' Exists.elim (Vf.told_mk KX G ?ta ?tl ?tc ?tk) ?_
    (case ta => k_is); (case tl => k_is); (case tc => k_is); (case tk => k_is)
    rintro g TF
    refine' Vf.law_mk (P1 := 278) (P2 := 285) KX G hmg ?aMC ?lMC ?cMC ?kMC ?aMR ?lMR ?cMR ?kMR ?aW ?lW ?cW ?kW (hT _ (by simp)) ?nT1 ?hh1 (hT _ (by simp)) ?nT2 ?hh2 (by decide) num pfX pfI told TF NN FIsInt cIsInt FWithin cWithin FReqNum cReqNum FReqBase cReqBase FReqRoots cReqRoots FWordForm cWordForm FPfxForm cPfxForm FReqPfx cReqPfx FStartB cStartB FCovers cCovers FIsCode cIsCode FCodeForm cCodeForm FReqPfxs cReqPfxs FRootCode cRootCode FCodeFrom cCodeFrom FDice cDice FPull cPull FShuf cShuf FIsAbove cIsAbove FLonger cLonger FChildren cChildren FLCode cLCode FLBase cLBase FOdd cOdd FBent cBent FIsWhole cIsWhole FLIsPfx cLIsPfx FLIsCode cLIsCode FValues cValues
    (case aMC => k_is); (case lMC => k_is); (case cMC => k_is); (case kMC => k_is)
    (case aMR => k_is); (case lMR => k_is); (case cMR => k_is); (case kMR => k_is)
    (case aW => k_is); (case lW => k_is); (case cW => k_is); (case kW => k_is)
    (case nT1 => first | rfl | kernel_rfl)
    (case hh1 => first | rfl | kernel_rfl)
    (case nT2 => first | rfl | kernel_rfl)
    (case hh2 => first | rfl | kernel_rfl)


