import PyProof.Rows.All
import Wide.All
import OpenK.AllK
import Wide.FinOn
import HandS.Base
import HandS.Call
import HandS.List
import HandS.Comp
import HandS.Dict
import HandS.Words
import HandS.Lambda
import HandS.Codes
import HandS.Wide
import HandS.IsInst
import HandS.TupAny
import HandS.Style
import HandS.Walk
import HandS.Flow
import KE.GoesNew
import KE.GoesZip
import KE.GoesMore
import KE.KDictZip
import PyProof.ZipIter
import PyProof.ListNew
import PyProof.ListRange
import HandS.Zip
import HandS.Set
import HandS.SetFor
import HandS.TupSets
import HandS.Strs
import HandS.NamedTupSort
import HandS.SortInts
import HandS.Conv
import KE.BitLaws
import HandS.TupMul
import HandS.Deep
import HandS.Defaults
import KE.KMinBuiltin
import PyProof.Rows.CallKwBuiltin
import PyProof.WalkInts
import HandS.MakeKwOnly
import HandS.MakeKw
import PySem.Challenge.RW_pursesapart_k84_whole_who_can_pay_and_wh
set_option Elab.async false
set_option linter.all false
set_option maxRecDepth 100000
set_option maxHeartbeats 0
namespace Pu
open PySem L2
def top (i : Nat) : Stmt := PySem.Challenge.pw_pursesapart_k84_whole_who_can_pay_and_wh.main.body.getD i (.Pass ⟨0, 0, 0, 0⟩)
abbrev sBegun : Stmt := top 41
abbrev sBlend : Stmt := top 42
abbrev sDraw : Stmt := top 43
abbrev sPick : Stmt := top 44

/-! ### heaps: all stays but at the state's dict d and the list g -/
def Kp (d g : Addr) (H H' : Hp) : Prop := ∀ b o, H b = some o → b ≠ d → b ≠ g → H' b = some o
theorem Kp.refl (d g : Addr) (H : Hp) : Kp d g H H := fun _ _ h _ _ => h
theorem Kp.trans {d g : Addr} {H H1 H2 : Hp} (a : Kp d g H H1) (b : Kp d g H1 H2) : Kp d g H H2 := fun c o h x y => b c o (a c o h x y) x y
theorem Kp.of {d g : Addr} {H H' : Hp} (s : Same H H') : Kp d g H H' := fun c o h _ _ => s c o h
theorem Kp.new {d g p : Addr} {H : Hp} {o : HO} (n : H p = none) : Kp d g H (upd H p o) := fun c u h _ _ => by
  rw [upd_ne (ne_of_none h n)]; exact h
theorem Kp.atD {d g : Addr} {H : Hp} {o : HO} : Kp d g H (upd H d o) := fun c u h x _ => by
  rw [upd_ne x]; exact h
theorem Kp.atG {d g : Addr} {H : Hp} {o : HO} : Kp d g H (upd H g o) := fun c u h _ y => by
  rw [upd_ne y]; exact h
theorem Kp.rd {d g a : Addr} {H H' : Hp} {u : HO} (k : Kp d g H H') (h : Rd H a u) (x : a ≠ d) (y : a ≠ g) : Rd H' a u := by
  rcases h with h | ⟨o, h⟩
  · exact .inl (k _ _ h x y)
  · exact .inr ⟨o, k _ _ h x y⟩
theorem Kp.seqL {K : PySem.W.Frag} {d g a : Addr} {H H' : Hp} {xs : List V} (k : Kp d g H H') (h : SqL K H a xs) (x : a ≠ d) (y : a ≠ g) : SqL K H' a xs := by
  rcases h with h | h
  · exact .inl (k.rd h x y)
  · exact .inr h
theorem Kp.seqT {K : PySem.W.Frag} {d g a : Addr} {H H' : Hp} {xs : List V} (k : Kp d g H H') (h : SqT K H a xs) (x : a ≠ d) (y : a ≠ g) : SqT K H' a xs := by
  rcases h with h | h
  · exact .inl (k.rd h x y)
  · exact .inr h

/-! ### the state of the draws -/
theorem n_gc : ¬ (("great" : Str) = "cells") := by decide +kernel
theorem n_gl : ¬ (("great" : Str) = "left") := by decide +kernel
theorem n_gt : ¬ (("great" : Str) = "turn") := by decide +kernel
theorem n_cl : ¬ (("cells" : Str) = "left") := by decide +kernel
theorem n_ct : ¬ (("cells" : Str) = "turn") := by decide +kernel
theorem n_lt : ¬ (("left" : Str) = "turn") := by decide +kernel
theorem n_tl : ¬ (("turn" : Str) = "left") := by decide +kernel
def stk (g c : Addr) (l t : Int) : List (Key × V) := [(.inr "great", .ref g), (.inr "cells", .ref c), (.inr "left", .int l), (.inr "turn", .int t)]
theorem stk_great (g c : Addr) (l t : Int) : valV (stk g c l t) (.inr "great" : Key) = some (.ref g) := valV_pos rfl
theorem stk_cells (g c : Addr) (l t : Int) : valV (stk g c l t) (.inr "cells" : Key) = some (.ref c) :=
  (valV_neg fun e => n_gc (Sum.inr.inj e)).trans (valV_pos rfl)
theorem stk_left (g c : Addr) (l t : Int) : valV (stk g c l t) (.inr "left" : Key) = some (.int l) :=
  (valV_neg fun e => n_gl (Sum.inr.inj e)).trans ((valV_neg fun e => n_cl (Sum.inr.inj e)).trans (valV_pos rfl))
theorem stk_turn (g c : Addr) (l t : Int) : valV (stk g c l t) (.inr "turn" : Key) = some (.int t) :=
  (valV_neg fun e => n_gt (Sum.inr.inj e)).trans ((valV_neg fun e => n_ct (Sum.inr.inj e)).trans ((valV_neg fun e => n_lt (Sum.inr.inj e)).trans (valV_pos rfl)))
theorem stk_putL (g c : Addr) (l t z : Int) : putK (stk g c l t) (.inr "left" : Key) (.int z) = stk g c z t := by
  unfold putK
  rw [valV_any, stk_left]
  rw [if_pos (by rfl)]
  simp only [stk, List.map_cons, List.map_nil, Sum.inr.injEq, n_gl, n_cl, n_tl, if_true, if_false]
theorem stk_putT (g c : Addr) (l t z : Int) : putK (stk g c l t) (.inr "turn" : Key) (.int z) = stk g c l z := by
  unfold putK
  rw [valV_any, stk_turn]
  rw [if_pos (by rfl)]
  simp only [stk, List.map_cons, List.map_nil, Sum.inr.injEq, n_gt, n_ct, n_lt, if_true, if_false]
theorem stk_merge (g c : Addr) (l t : Int) : mergeK [] (stk g c l t) = stk g c l t := by
  have e1 : putK ([] : List (Key × V)) (.inr "great") (.ref g) = [(.inr "great", .ref g)] := putK_new _ rfl
  have e2 : putK ([(.inr "great", .ref g)] : List (Key × V)) (.inr "cells") (.ref c) = [(.inr "great", .ref g), (.inr "cells", .ref c)] :=
    putK_new _ ((valV_neg fun e => n_gc (Sum.inr.inj e)).trans rfl)
  have e3 : putK ([(.inr "great", .ref g), (.inr "cells", .ref c)] : List (Key × V)) (.inr "left") (.int l) = [(.inr "great", .ref g), (.inr "cells", .ref c), (.inr "left", .int l)] :=
    putK_new _ ((valV_neg fun e => n_gl (Sum.inr.inj e)).trans ((valV_neg fun e => n_cl (Sum.inr.inj e)).trans rfl))
  have e4 : putK ([(.inr "great", .ref g), (.inr "cells", .ref c), (.inr "left", .int l)] : List (Key × V)) (.inr "turn") (.int t) = stk g c l t :=
    putK_new _ ((valV_neg fun e => n_gt (Sum.inr.inj e)).trans ((valV_neg fun e => n_ct (Sum.inr.inj e)).trans ((valV_neg fun e => n_lt (Sum.inr.inj e)).trans rfl)))
  show putK (putK (putK (putK ([] : List (Key × V)) (.inr "great") (.ref g)) (.inr "cells") (.ref c)) (.inr "left") (.int l)) (.inr "turn") (.int t) = _
  rw [e1, e2, e3, e4]
/-- the state stands at d: its lists at g and c, T the most turns that were -/
structure StA (H : Hp) (d g c : Addr) (T : Int) : Prop where
  dk : ∃ l t, H d = some (.dK (stk g c l t)) ∧ 0 ≤ l ∧ 0 ≤ t ∧ t ≤ T
  gr : ∃ gs : List Int, H g = some (.lst (gs.map V.int)) ∧ ∀ z ∈ gs, 0 ≤ z
  ce : ∃ cs : List Int, H c = some (.lst (cs.map V.int)) ∧ ∀ z ∈ cs, 0 ≤ z
  gc : g ≠ c
theorem StA.dg {H : Hp} {d g c : Addr} {T : Int} (S : StA H d g c T) : d ≠ g := by
  obtain ⟨l, t, h, _⟩ := S.dk; obtain ⟨gs, h2, _⟩ := S.gr
  exact ne_of h h2 (by intro z; cases z)
theorem StA.dc {H : Hp} {d g c : Addr} {T : Int} (S : StA H d g c T) : d ≠ c := by
  obtain ⟨l, t, h, _⟩ := S.dk; obtain ⟨gs, h2, _⟩ := S.ce
  exact ne_of h h2 (by intro z; cases z)
theorem StA.mono {H : Hp} {d g c : Addr} {T T' : Int} (S : StA H d g c T) (h : T ≤ T') : StA H d g c T' := by
  obtain ⟨l, t, h1, h2, h3, h4⟩ := S.dk
  exact ⟨⟨l, t, h1, h2, h3, Int.le_trans h4 h⟩, S.gr, S.ce, S.gc⟩
theorem StA.same {H H' : Hp} {d g c : Addr} {T : Int} (S : StA H d g c T) (s : Same H H') : StA H' d g c T := by
  obtain ⟨l, t, h1, h2, h3, h4⟩ := S.dk
  obtain ⟨gs, h5, h6⟩ := S.gr
  obtain ⟨cs, h7, h8⟩ := S.ce
  exact ⟨⟨l, t, s _ _ h1, h2, h3, h4⟩, ⟨gs, s _ _ h5, h6⟩, ⟨cs, s _ _ h7, h8⟩, S.gc⟩
theorem StA.new {H : Hp} {d g c p : Addr} {T : Int} {o : HO} (S : StA H d g c T) (n : H p = none) : StA (upd H p o) d g c T :=
  S.same fun b u e => by rw [upd_ne (ne_of_none e n)]; exact e
/-- the bound of the turns: far beyond what a law draws -/
abbrev TB : Int := 1000000000000

def spBegun (K : PySem.W.Frag) : Sp := fun vs H Q _ => ∃ (a : Addr) (ns : List Int), vs = [.ref a] ∧ SqL K H a (ns.map V.int) ∧ ns.length ≤ 1000 ∧
  ∀ (d g c : Addr) (H' : Hp), Same H H' → H d = none → H g = none → H c = none → StA H' d g c 0 → Q (.ref d) H'
def spBlend : Sp := fun vs H Q _ => ∃ (d g c : Addr) (T : Int), vs = [.ref d] ∧ StA H d g c T ∧ T < TB ∧
  ∀ (f : Int) (H' : Hp), 0 ≤ f → Kp d g H H' → StA H' d g c (T + 1) → Q (.int f) H'
def spDraw : Sp := fun vs H Q _ => ∃ (d g c : Addr) (T n : Int), vs = [.ref d, .int n] ∧ StA H d g c T ∧ T < TB ∧ 0 < n ∧ n ≤ 1000000000000000000 ∧
  ∀ (r : Int) (H' : Hp), 0 ≤ r → r < n → Kp d g H H' → StA H' d g c (T + 1) → Q (.int r) H'
def spPick (K : PySem.W.Frag) : Sp := fun vs H Q _ => ∃ (d g c p : Addr) (T : Int) (xs : List V), vs = [.ref d, .ref p] ∧ StA H d g c T ∧ T < TB ∧ (SqL K H p xs ∨ SqT K H p xs) ∧ p ≠ d ∧ p ≠ g ∧ xs ≠ [] ∧ xs.length ≤ 100000 ∧
  ∀ (x : V) (H' : Hp), x ∈ xs → Kp d g H H' → StA H' d g c (T + 1) → Q x H'
end Pu

namespace Pu
open PySem L2
theorem getS {H : Hp} {d : Addr} {kvs : List (Key × V)} {k : Key} {v : V} (h : H d = some (.dK kvs)) (e : valV kvs k = some v) : DGet H d (kV k) (some v) := e ▸ DGet.k h
def primes : List Int := [2147483249, 2147483237, 2147483179]
theorem prime_at {i : Nat} {y : V} (h : (primes.map V.int)[i]? = some y) : ∃ z : Int, y = .int z ∧ 0 < z ∧ z < 2147483648 := by
  match i, h with
  | 0, h => exact ⟨_, (Option.some.inj h).symm, by decide, by decide⟩
  | 1, h => exact ⟨_, (Option.some.inj h).symm, by decide, by decide⟩
  | 2, h => exact ⟨_, (Option.some.inj h).symm, by decide, by decide⟩
  | n + 3, h => cases h
theorem int_at {ns : List Int} {i : Nat} {y : V} (h : (ns.map V.int)[i]? = some y) : ∃ z, ns[i]? = some z ∧ y = .int z := by
  rw [List.getElem?_map] at h
  cases e : ns[i]? with
  | none => rw [e] at h; cases h
  | some z => rw [e] at h; exact ⟨z, rfl, (Option.some.inj h).symm⟩
section
variable {P : Program} {w : World} {K : PySem.W.Frag} {mg : Str → Option Value} {base : Heap}
theorem scBl : FnScope ["state", "turn", "found", "prime", "blend", "cell"] ["state"] (defScope sBlend) := ⟨rfl, rfl, rfl, by decide +kernel, rfl, by decide +kernel, by decide +kernel⟩
theorem ok_blend {f : Addr} {fd : FuncData} (F : Fun K "_law_blended" "_law_blended" sBlend f fd) (mi : mg "int" = none) : FnOk P w K mg base CX0 1 f fd ["state"] spBlend := by
  refine F.ok scBl (fun vs H Q E h => ?_) (fun cdv A outer s H vs Q E hr h => ?_)
  · obtain ⟨d, g, c, T, rfl, _⟩ := h
    rfl
  · obtain ⟨d, g, c, T, rfl, S, hT, k⟩ := h
    have hu := hu_of hr
    have hT' : T < 1000000000000 := hT
    obtain ⟨⟨l, t, hd, l0, t0, tT⟩, ⟨gs, hg, g0⟩, ⟨cs, hc, c0⟩, gc⟩ := id S
    refine ⟨_, pss_cons (ps_par (i := 1) (j := 2) rfl scBl.nd rfl rfl (by decide) rfl rfl (pa_cons (pe_op op_add (pe_dget hu (pv 0) pe_str (fun _ _ => rfl)) pe_int) (pa_cons pe_int pa_nil)) (by rfl))
      (pss_cons (ps_dput hu (pv 0) pe_str (pv 1) rfl)
      (pss_cons (ps_for PassesOwn.never rfl (pi_list (pe_lst (pa_cons pe_int (pa_cons pe_int (pa_cons pe_int pa_nil))))) (pg_name (i := 3) scBl.nd rfl (Or.inl rfl))
        (pss_cons (ps_set (i := 4) scBl.nd rfl (Or.inl rfl) (pe_op op_add (pe_op op_mul pe_int (pv 1)) (pe_op op_fdiv (pv 3) pe_int)))
        (pss_cons (ps_for PassesOwn.never rfl (pi_list (pe_dget hu (pv 0) pe_str (fun _ _ => rfl))) (pg_name (i := 5) scBl.nd rfl (Or.inl rfl))
          (pss_one (ps_set (i := 4) scBl.nd rfl (Or.inl rfl) (pe_op op_mod (pe_callTy call_int1 (by rfl) mi (by decide +kernel) (pa_cons (pe_op op_add (pe_op op_add (pe_op op_mul (pv 4) pe_int) (pv 5)) (pv 1)) pa_nil)) (pv 3)))))
        (pss_one (ps_set (i := 2) scBl.nd rfl (Or.inl rfl) (pe_op op_add (pe_op op_mul (pv 2) pe_int) (pe_op op_mod (pe_callTy call_int1 (by rfl) mi (by decide +kernel) (pa_cons (pe_op op_pow (pv 4) pe_int) pa_nil)) (pv 3))))))))
      (pss_one (ps_ret (pv 2))))), ?_⟩
    refine ⟨_, rfl, d, .int t, rfl, getS hd (stk_turn g c l t), t, 1, rfl, rfl, .int (t + 1), .int 0, rfl, ?_⟩
    refine ⟨_, rfl, _, rfl, d, _, rfl, DPut.k (k := Sum.inr "turn") hd (by show 4 < sizeLine; decide), ?_⟩
    rw [stk_putT]
    have hdc := S.dc
    have hdg := S.dg
    refine ⟨(by show 3 ≤ sizeLine; decide), fun p hp => ?_⟩
    have np : H p = none := by
      by_cases e : p = d
      · rw [e, upd_same] at hp; cases hp
      · rw [upd_ne e] at hp; exact hp
    have pd : d ≠ p := ne_of_none hd np
    have pg : g ≠ p := ne_of_none hg np
    have pc : c ≠ p := ne_of_none hc np
    obtain ⟨H2, eH⟩ : ∃ H2, H2 = upd (upd H d (.dK (stk g c l (t + 1)))) p (.lst [V.int 2147483249, V.int 2147483237, V.int 2147483179]) := ⟨_, rfl⟩
    have hd2 : H2 d = some (.dK (stk g c l (t + 1))) := by rw [eH, upd_ne pd, upd_same]
    have hg2 : H2 g = some (.lst (gs.map V.int)) := by rw [eH, upd_ne pg, upd_ne hdg.symm]; exact hg
    have hc2 : H2 c = some (.lst (cs.map V.int)) := by rw [eH, upd_ne pc, upd_ne hdc.symm]; exact hc
    have kp : Kp d g H H2 := by rw [eH]; exact Kp.trans Kp.atD (Kp.new hp)
    have hp2 : H2 p = some (.lst (primes.map V.int)) := by rw [eH]; exact upd_same
    rw [← eH]
    clear eH
    refine ⟨p, rfl, ⟨_, SqL.of hp2⟩, for_list (K := K) (a := p) (xs := primes.map V.int)
      (fun i σ H' => H2 = H' ∧ ∃ (f : Int) (o3 o4 o5 : Option V), σ = [some (.ref d), some (.int (t + 1)), some (.int f), o3, o4, o5] ∧ 0 ≤ f)
      ⟨rfl, 0, none, none, none, rfl, Int.le_refl 0⟩ (fun i σ H' _ h => by obtain ⟨rfl, _⟩ := h; exact SqL.of hp2) ?_ ?_⟩
    · rintro i y σ H' hi ⟨rfl, f, o3, o4, o5, rfl, hf⟩
      obtain ⟨z, rfl, z0, z1⟩ := prime_at hi
      refine ⟨_, rfl, _, _, rfl, rfl, .inl ⟨by decide, by decide⟩, _, rfl, z, 73, rfl, rfl, ⟨by decide, by decide⟩, _, _, rfl, rfl, ?_⟩
      -- for cell in state['cells']
      have q0 : (0 : Int) ≤ z / 73 := Int.ediv_nonneg (by omega) (by decide)
      have q1 : z / 73 ≤ z := Int.ediv_le_self _ (by omega)
      refine ⟨_, rfl, d, _, rfl, getS hd2 (stk_cells g c l (t + 1)), c, rfl, ⟨_, SqL.of hc2⟩, for_list (K := K) (a := c) (xs := cs.map V.int)
        (fun j σ H' => H2 = H' ∧ ∃ (b : Int) (o5 : Option V), σ = [some (.ref d), some (.int (t + 1)), some (.int f), some (.int z), some (.int b), o5] ∧ 0 ≤ b ∧ b < 2 ^ 64)
        ⟨rfl, _, o5, rfl, by omega, by omega⟩ (fun i σ H' _ h => by obtain ⟨rfl, _⟩ := h; exact SqL.of hc2) ?_ ?_⟩
      · rintro j x σ H' hj ⟨rfl, b, o5, rfl, b0, b1⟩
        obtain ⟨e, _, rfl⟩ := int_at hj
        refine ⟨_, rfl, _, _, rfl, rfl, .inr ⟨by decide, by decide⟩, _, rfl, _, e, rfl, rfl, _, rfl, _, t + 1, rfl, rfl, .inl ⟨_, rfl, _, rfl, _, z, rfl, rfl, z0, ?_⟩⟩
        have m0 := Int.emod_nonneg (b * 69621 + e + (t + 1)) (show z ≠ 0 by omega)
        have m1 := Int.emod_lt_of_pos (b * 69621 + e + (t + 1)) z0
        exact ⟨rfl, _, _, rfl, m0, by omega⟩
      · rintro σ H' ⟨rfl, b, o5, rfl, b0, b1⟩
        refine ⟨_, rfl, _, _, rfl, rfl, .inr ⟨by decide, by decide⟩, _, rfl, b, 5, rfl, rfl, ⟨by decide, by decide, by omega⟩, .inl ⟨_, rfl, _, rfl, _, z, rfl, rfl, z0, _, _, rfl, rfl, ?_⟩⟩
        have m0 := Int.emod_nonneg (b ^ (5 : Int).toNat) (show z ≠ 0 by omega)
        exact ⟨rfl, _, _, _, _, rfl, by omega⟩
    · rintro σ H' ⟨rfl, f, o3, o4, o5, rfl, hf⟩
      refine ⟨_, rfl, ?_⟩
      exact k f _ hf kp ⟨⟨l, t + 1, hd2, l0, by omega, by omega⟩, ⟨gs, hg2, g0⟩, ⟨cs, hc2, c0⟩, gc⟩
end
end Pu

namespace Pu
open PySem L2
theorem dp_ints {K : PySem.W.Frag} {H : Hp} : ∀ gs : List Int, DpAll K H (gs.map V.int) (gs.map PyData.int)
  | [] => .nil
  | i :: r => .cons (.int i) (dp_ints r)
theorem lay_ints : ∀ gs : List Int, PyData.canLayAll0 (gs.map PyData.int) = true
  | [] => rfl
  | i :: r => by
    show (PyData.canLay0 (.int i) && PyData.canLayAll0 (r.map PyData.int)) = true
    rw [lay_ints r]; rfl
theorem dep_ints : ∀ gs : List Int, PyData.depthAll (gs.map PyData.int) = 0
  | [] => rfl
  | i :: r => by
    show max (PyData.depth (.int i)) (PyData.depthAll (r.map PyData.int)) = 0
    rw [dep_ints r]; rfl
theorem shaped_ints (gs : List Int) : SeqAt.shaped (.list (gs.map PyData.int)) = true := by
  show (PyData.canLayAll0 (gs.map PyData.int) && decide (PyData.depthAll (gs.map PyData.int) + 1 ≤ 64)) = true
  rw [lay_ints, dep_ints]; rfl
theorem eqv_nil (gs : List Int) : PyData.eqv (.list (gs.map PyData.int)) (.list []) = gs.isEmpty := by
  cases gs <;> rfl
section
variable {P : Program} {w : World} {K : PySem.W.Frag} {mg : Str → Option Value} {base : Heap}
theorem scDr : FnScope ["state", "size_here", "found"] ["state", "size_here"] (defScope sDraw) := ⟨rfl, rfl, rfl, by decide +kernel, rfl, by decide +kernel, by decide +kernel⟩
/-- behind a bound on the state: what the draw does with what is left -/
theorem ok_draw {f fB : Addr} {fd fdB : FuncData} (F : Fun K "_law_draw" "_law_draw" sDraw f fd) (mi : mg "int" = none)
    (GB : FnOk P w K mg base CX0 1 fB fdB ["state"] spBlend) (bB : Binds K fdB ["state"] []) (kB : PySem.W.keepIn K (.ref fB) = true) (mB : mg "_law_blended" = some (.ref fB)) :
    FnOk P w K mg base CX0 2 f fd ["state", "size_here"] spDraw := by
  refine F.ok scDr (fun vs H Q E h => ?_) (fun cdv A outer s H vs Q E hr h => ?_)
  · obtain ⟨d, g, c, T, n, rfl, _⟩ := h
    rfl
  · obtain ⟨d, g, c, T, n, rfl, S, hT, n0, n1, k⟩ := h
    have hu := hu_of hr
    obtain ⟨⟨l, t, hd, l0, t0, tT⟩, ⟨gs, hg, g0⟩, ⟨cs, hc, c0⟩, gc⟩ := id S
    have hdg := S.dg
    refine ⟨_, C8.pss_cut (ps_if (pt_cmpR op_eq (pe_dget hu (pv 0) pe_str (fun _ _ => rfl)) pe_int (nomark _))
        (pss_one (ps_dput hu (pv 0) pe_str (pe_ifExp (pt_cmpR (op_neD hr.units) (pe_dget hu (pv 0) pe_str (fun _ _ => rfl)) (pe_lst pa_nil) (nomark _))
          (pe_bm PySem.F.plainAttrs_list PySem.F.slot_list_pop PySem.F.type_list_pop mt_popAt (pe_dget hu (pv 0) pe_str (fun _ _ => rfl)) (pa_cons pe_int pa_nil))
          (pe_call GB hr rfl mB kB bB .nil pass0 (pa_cons (pv 0) pa_nil))) rfl)) pss_nil)
      (pss_cons (ps_set (i := 2) scDr.nd rfl (Or.inl rfl) (pe_op op_mod (pe_callTy call_int1 (by rfl) mi (by decide +kernel) (pa_cons (pe_dget hu (pv 0) pe_str (fun _ _ => rfl)) pa_nil)) (pv 1)))
      (pss_cons (ps_dput hu (pv 0) pe_str (pe_op op_fdivW (pe_dget hu (pv 0) pe_str (fun _ _ => rfl)) (pv 1)) rfl)
      (pss_one (ps_ret (pv 2))))), ?_⟩
    -- between: z is left
    refine ⟨fun σ' H' => σ' = [some (.ref d), some (.int n), none] ∧ Kp d g H H' ∧ StA H' d g c (T + 1), ?_, ?_⟩
    · refine ⟨_, rfl, d, _, rfl, getS hd (stk_left g c l t), rfl, _, rfl, ?_⟩
      refine ite2 (fun _ => ?_) (fun _ => ?_)
      · refine ⟨_, rfl, d, _, rfl, getS hd (stk_great g c l t), (by show 0 ≤ sizeLine; exact Nat.zero_le _), fun p hp => ?_⟩
        have pg : g ≠ p := ne_of_none hg hp
        have pd : d ≠ p := ne_of_none hd hp
        have pc : c ≠ p := ne_of_none hc hp
        have kp : Kp d g H (upd H p (.lst [])) := Kp.new hp
        have hg1 : (upd H p (.lst [])) g = some (.lst (gs.map V.int)) := by rw [upd_ne pg]; exact hg
        have hd1 : (upd H p (.lst [])) d = some (.dK (stk g c l t)) := by rw [upd_ne pd]; exact hd
        have hc1 : (upd H p (.lst [])) c = some (.lst (cs.map V.int)) := by rw [upd_ne pc]; exact hc
        have S1 : StA (upd H p (.lst [])) d g c T := S.new hp
        refine ⟨.list (gs.map PyData.int), .list [], .lst (SqL.of hg1) (dp_ints gs), .lst (SqL.of upd_same) .nil, shaped_ints gs, shaped_ints [], _, rfl, ?_⟩
        rw [eqv_nil]
        generalize upd H p (.lst []) = H1 at kp hg1 hd1 hc1 S1
        cases gs with
        | nil =>
          refine iteF ?_
          refine ⟨_, rfl, d, g, c, T, rfl, S1, hT, fun f H2 f0 kp2 S2 => ?_⟩
          obtain ⟨l2, t2, hd2, _, t20, tT2⟩ := S2.dk
          refine ⟨_, rfl, d, _, rfl, DPut.k (k := Sum.inr "left") hd2 (by show 4 < sizeLine; decide), ?_⟩
          rw [stk_putL]
          refine ⟨rfl, (kp.trans kp2).trans Kp.atD, ⟨f, t2, upd_same, f0, t20, tT2⟩, ?_, ?_, gc⟩
          · obtain ⟨gs', h1, h2⟩ := S2.gr
            exact ⟨gs', by rw [upd_ne hdg.symm]; exact h1, h2⟩
          · obtain ⟨cs', h1, h2⟩ := S2.ce
            exact ⟨cs', by rw [upd_ne S.dc.symm]; exact h1, h2⟩
        | cons z r =>
          refine iteT ?_
          refine ⟨_, rfl, d, _, rfl, getS hd1 (stk_great g c l t), .inl ⟨rfl, _, SqL.of hg1⟩, g, _, 0, 0, .int z, rfl, rfl, hg1, by decide, by decide, (ixN_seq (by unfold ixN; simp)).1, rfl, ?_⟩
          have hd2 : (upd H1 g (.lst (((z :: r).map V.int).eraseIdx 0))) d = some (.dK (stk g c l t)) := by rw [upd_ne hdg]; exact hd1
          refine ⟨_, rfl, d, _, rfl, DPut.k (k := Sum.inr "left") hd2 (by show 4 < sizeLine; decide), ?_⟩
          rw [stk_putL]
          refine ⟨rfl, (kp.trans Kp.atG).trans Kp.atD, ⟨z, t, upd_same, g0 z List.mem_cons_self, t0, by omega⟩, ⟨r, ?_, fun y hy => g0 y (List.mem_cons_of_mem _ hy)⟩, ⟨cs, ?_, c0⟩, gc⟩
          · rw [upd_ne hdg.symm]; exact upd_same
          · rw [upd_ne S.dc.symm, upd_ne gc.symm]; exact hc1
      · exact ⟨rfl, Kp.refl d g H, S.mono (by omega)⟩
    · rintro σ' H' ⟨rfl, kp, S'⟩
      obtain ⟨z, t', hd1, z0, t0', tT'⟩ := S'.dk
      have m0 := Int.emod_nonneg z (show n ≠ 0 by omega)
      have m1 := Int.emod_lt_of_pos z n0
      refine ⟨_, rfl, d, _, rfl, getS hd1 (stk_left g c z t'), .inl ⟨z, rfl, _, rfl, z, n, rfl, rfl, n0, ?_⟩⟩
      refine ⟨_, rfl, d, _, rfl, getS hd1 (stk_left g c z t'), _, rfl, z, n, rfl, rfl, wide_div (b := 60) n0 (by omega) (by decide) (by decide), ?_⟩
      refine ⟨_, rfl, d, _, rfl, DPut.k (k := Sum.inr "left") hd1 (by show 4 < sizeLine; decide), ?_⟩
      rw [stk_putL]
      refine ⟨_, rfl, ?_⟩
      refine k _ _ m0 m1 (kp.trans Kp.atD) ⟨⟨z / n, t', upd_same, Int.ediv_nonneg z0 (by omega), t0', tT'⟩, ?_, ?_, gc⟩
      · obtain ⟨gs', h1, h2⟩ := S'.gr
        exact ⟨gs', by rw [upd_ne hdg.symm]; exact h1, h2⟩
      · obtain ⟨cs', h1, h2⟩ := S'.ce
        exact ⟨cs', by rw [upd_ne S.dc.symm]; exact h1, h2⟩
end
end Pu

namespace Pu
open PySem L2
section
variable {P : Program} {w : World} {K : PySem.W.Frag} {mg : Str → Option Value} {base : Heap}
theorem scPi : FnScope ["state", "several"] ["state", "several"] (defScope sPick) := ⟨rfl, rfl, rfl, by decide +kernel, rfl, by decide +kernel, by decide +kernel⟩
theorem ok_pick {f fD : Addr} {fd fdD : FuncData} (F : Fun K "_law_pick" "_law_pick" sPick f fd) (ml : mg "len" = none)
    (GD : FnOk P w K mg base CX0 2 fD fdD ["state", "size_here"] spDraw) (bD : Binds K fdD ["state", "size_here"] []) (kD : PySem.W.keepIn K (.ref fD) = true) (mD : mg "_law_draw" = some (.ref fD)) :
    FnOk P w K mg base CX0 3 f fd ["state", "several"] (spPick K) := by
  refine F.ok scPi (fun vs H Q E h => ?_) (fun cdv A outer s H vs Q E hr h => ?_)
  · obtain ⟨d, g, c, p, T, xs, rfl, _⟩ := h
    rfl
  · obtain ⟨d, g, c, p, T, xs, rfl, S, hT, hx, pd, pg, x0, x1, k⟩ := h
    refine ⟨_, pss_one (ps_ret (pe_ix ix_seq (pv 1) (pe_call GD hr rfl mD kD bD .nil pass0 (pa_cons (pv 0) (pa_cons (pe_callB call_len_seq (by rfl) ml boot_len (pa_cons (pv 1) pa_nil)) pa_nil))) (fun _ _ => rfl))), ?_⟩
    have l0 : 0 < xs.length := List.length_pos_iff.mpr x0
    refine ⟨_, rfl, _, rfl, _, rfl, p, xs, rfl, hx, d, g, c, T, _, rfl, S, hT, by omega, by omega, fun r H' r0 r1 kp S' => ?_⟩
    have hk : r.toNat < xs.length := by omega
    have e : atI xs r = some xs[r.toNat] := by
      have q := atI_nat (xs := xs) (j := r.toNat) (v := xs[r.toNat]) (List.getElem?_eq_getElem hk)
      rw [show ((r.toNat : Nat) : Int) = r by omega] at q
      exact q
    rcases hx with hx | hx
    · exact .inl ⟨p, xs, r, _, rfl, rfl, kp.seqL hx pd pg, e, k _ _ (List.getElem_mem hk) kp S'⟩
    · exact .inr (.inl ⟨p, xs, r, _, rfl, rfl, kp.seqT hx pd pg, e, k _ _ (List.getElem_mem hk) kp S'⟩)

theorem scBe : FnScope ["script", "great", "cell"] ["script"] (defScope sBegun) := ⟨rfl, rfl, rfl, by decide +kernel, rfl, by decide +kernel, by decide +kernel⟩
theorem abs_nn (z : Int) : 0 ≤ (if z < 0 then -z else z) := by split <;> omega
theorem ok_begun {f : Addr} {fd : FuncData} (F : Fun K "_law_begun" "_law_begun" sBegun f fd) (ma : mg "abs" = none) : FnOk P w K mg base CX0 1 f fd ["script"] (spBegun K) := by
  refine F.ok scBe (fun vs H Q E h => ?_) (fun cdv A outer s H vs Q E hr h => ?_)
  · obtain ⟨a, ns, rfl, _⟩ := h
    rfl
  · obtain ⟨a, ns, rfl, hS, hl, k⟩ := h
    refine ⟨_, pss_cons (ps_setLc (i := 1) (own := [("cell", 2)]) (g := gName 2) rfl scBe.nd rfl rfl (sw_true rfl rfl rfl (by decide +kernel)) (pi_list (pv 0)) (blkOk_by (own := [("cell", 2)]) (N := ["script", "great", "cell"]) (sc := defScope sBegun) (by decide +kernel)) (fun _ _ _ _ _ => pg_name (i := 2) scBe.nd rfl (Or.inl rfl))
          (fun _ _ _ _ _ => pts_one (pt_cmpR op_ge (pe_callB call_abs (by rfl) ma (by decide +kernel) (pa_cons (pv 2) pa_nil)) (pe_op op_pow pe_int pe_int) (nomark _)))
          (fun _ _ _ _ _ => pe_op op_sub (pe_callB call_abs (by rfl) ma (by decide +kernel) (pa_cons (pv 2) pa_nil)) (pe_op op_pow pe_int pe_int)))
      (pss_one (ps_ret (pe_disp (pps_cons pe_str (pv 1) (pps_cons pe_str (pe_lc (own := [("cell", 2)]) (g := gName 2) rfl scBe.nd (pi_list (pv 0)) (blkOk_by (own := [("cell", 2)]) (N := ["script", "great", "cell"]) (sc := defScope sBegun) (by decide +kernel)) (fun _ _ _ _ _ => pg_name (i := 2) scBe.nd rfl (Or.inl rfl)) (fun _ _ _ _ _ => pts_nil)
          (fun _ _ _ _ _ => pe_callB call_abs (by rfl) ma (by decide +kernel) (pa_cons (pv 2) pa_nil))) (pps_cons pe_str pe_int (pps_cons pe_str pe_int pps_nil)))) (by rfl) (by rfl) (fun z => by cases z) (by decide)))), ?_⟩
    refine ⟨_, rfl, a, rfl, ⟨_, hS⟩, fun D hD => lc_list (K := K) (a := a) (xs := ns.map V.int) (fun i H' => ∃ gs : List Int, H' = upd H D (.lst (gs.map V.int)) ∧ (∀ z ∈ gs, 0 ≤ z) ∧ gs.length ≤ i)
      ⟨[], rfl, (fun z hz => nomatch hz), Nat.le_refl 0⟩ (fun i H' _ ⟨gs, e, _⟩ => by rw [e]; exact Same.seq (fun b o q => by rw [upd_ne (ne_of_none q hD)]; exact q) hS) ?_ ?_⟩
    · rintro i x H' hx ⟨gs, rfl, g0, gl⟩
      have hil : i < ns.length := by have := (List.getElem?_eq_some_iff.mp hx).1; rwa [List.length_map] at this
      obtain ⟨z, hz, rfl⟩ := int_at hx
      refine ⟨rfl, _, rfl, z, rfl, 10, 18, rfl, rfl, ⟨by decide, by decide, by decide⟩, _, _, rfl, rfl, _, rfl, ?_⟩
      refine ite2 (fun c => ?_) (fun _ => ?_)
      · have c' := of_decide_eq_true c
        refine ⟨_, rfl, z, rfl, 10, 18, rfl, rfl, ⟨by decide, by decide, by decide⟩, _, _, rfl, rfl, _, upd_same, ?_, gs ++ [(if z < 0 then -z else z) - 10 ^ (18 : Int).toNat], ?_, ?_, ?_⟩
        · exact small1000 (by rw [List.length_map]; omega)
        · rw [upd_upd, List.map_append]; rfl
        · intro y hy
          rcases List.mem_append.mp hy with hy | hy
          · exact g0 y hy
          · have e : y = _ := List.mem_singleton.mp hy
            rw [e]; omega
        · rw [List.length_append]; exact Nat.succ_le_succ gl
      · exact ⟨gs, rfl, g0, Nat.le_succ_of_le gl⟩
    · rintro H' ⟨gs, rfl, g0, gl⟩
      have nD : a ≠ D ∨ True := .inr trivial
      have s1 : Same H (upd H D (.lst (gs.map V.int))) := fun b o q => by rw [upd_ne (ne_of_none q hD)]; exact q
      refine fun p hp => ?_
      have np : H p = none := s1.free hp
      have pD : D ≠ p := fun e => by rw [← e, upd_same] at hp; cases hp
      have s2 : Same (upd H D (.lst (gs.map V.int))) (upd (upd H D (.lst (gs.map V.int))) p (.dK [])) := fun b o q => by rw [upd_ne (ne_of_none q hp)]; exact q
      refine ⟨_, rfl, _, rfl, a, rfl, ⟨_, (s1.trans s2).seq hS⟩, fun D2 hD2 => ?_⟩
      have nD2 : H D2 = none := (s1.trans s2).free hD2
      have D2D : D ≠ D2 := fun e => by rw [← e, upd_ne pD, upd_same] at hD2; cases hD2
      have D2p : p ≠ D2 := fun e => by rw [← e, upd_same] at hD2; cases hD2
      have s3 : ∀ o, Same (upd (upd H D (.lst (gs.map V.int))) p (.dK [])) (upd (upd (upd H D (.lst (gs.map V.int))) p (.dK [])) D2 o) := fun o' b o q => by rw [upd_ne (ne_of_none q hD2)]; exact q
      refine lc_list (K := K) (a := a) (xs := ns.map V.int) (fun i H' => ∃ cs : List Int, H' = upd (upd (upd H D (.lst (gs.map V.int))) p (.dK [])) D2 (.lst (cs.map V.int)) ∧ (∀ z ∈ cs, 0 ≤ z) ∧ cs.length ≤ i)
        ⟨[], rfl, (fun z hz => nomatch hz), Nat.le_refl 0⟩ (fun i H' _ ⟨cs, e, _⟩ => by rw [e]; exact ((s1.trans s2).trans (s3 _)).seq hS) ?_ ?_
      · rintro i x H' hx ⟨cs, rfl, c0, cl⟩
        have hil : i < ns.length := by have := (List.getElem?_eq_some_iff.mp hx).1; rwa [List.length_map] at this
        obtain ⟨z, hz, rfl⟩ := int_at hx
        refine ⟨rfl, ?_⟩
        dsimp only [tYes]
        refine iteT ?_
        refine ⟨_, rfl, z, rfl, _, upd_same, ?_, cs ++ [if z < 0 then -z else z], ?_, ?_, ?_⟩
        · exact small1000 (by rw [List.length_map]; omega)
        · rw [upd_upd, List.map_append]; rfl
        · intro y hy
          rcases List.mem_append.mp hy with hy | hy
          · exact c0 y hy
          · have e : y = _ := List.mem_singleton.mp hy
            rw [e]; exact abs_nn z
        · rw [List.length_append]; exact Nat.succ_le_succ cl
      · rintro H' ⟨cs, rfl, c0, cl⟩
        refine ⟨by rw [upd_ne D2p, upd_same], stk D D2 0 0, rfl, (by show 4 ≤ 15; decide), ?_⟩
        rw [stk_merge]
        refine k p D D2 _ ?_ np hD nD2 ⟨⟨0, 0, upd_same, Int.le_refl 0, Int.le_refl 0, Int.le_refl 0⟩, ⟨gs, ?_, g0⟩, ⟨cs, ?_, c0⟩, D2D⟩
        · intro b o q
          rw [upd_ne (ne_of_none q np)]
          exact ((s1.trans s2).trans (s3 _)) b o q
        · rw [upd_ne pD, upd_ne D2D, upd_ne pD, upd_same]
        · rw [upd_ne D2p.symm, upd_same]
end
end Pu

namespace Ch
/-! charters: the mathematics -/
def rng (n : Nat) : List Int := (List.range n).map Int.ofNat
theorem mem_rng {n : Nat} {x : Int} : x ∈ rng n ↔ 0 ≤ x ∧ x < n := by
  unfold rng
  rw [List.mem_map]
  constructor
  · rintro ⟨a, h, rfl⟩
    have := List.mem_range.mp h
    show 0 ≤ (a : Int) ∧ (a : Int) < n
    omega
  · intro h
    exact ⟨x.toNat, List.mem_range.mpr (by omega), Int.toNat_of_nonneg h.1⟩
theorem rng_len (n : Nat) : (rng n).length = n := by simp [rng]
theorem rng_get {n i : Nat} (h : i < n) : (rng n)[i]? = some (i : Int) := by
  unfold rng
  rw [List.getElem?_map, List.getElem?_range h]; rfl
def has (lots : List (List Int)) (S : Int → Bool) : Bool := lots.any fun lot => lot.all S
theorem has_iff {lots : List (List Int)} {S : Int → Bool} : has lots S = true ↔ ∃ l ∈ lots, ∀ o ∈ l, S o = true := by
  unfold has
  simp [List.any_eq_true, List.all_eq_true]
structure Charter (many : Nat) (props : List Int) (lots : List (List Int)) : Prop where
  m1 : 1 ≤ many
  m6 : many ≤ 6
  pne : props ≠ []
  pasc : props.Pairwise (· < ·)
  pin : ∀ p ∈ props, 0 ≤ p ∧ p < many
  lne : lots ≠ []
  llen : lots.length ≤ 64
  one : ∀ l ∈ lots, l ≠ [] ∧ l.Pairwise (· < ·) ∧ ∀ o ∈ l, 0 ≤ o ∧ o < many
section
variable {many : Nat} {props : List Int} {lots : List (List Int)}
theorem has_mono (C : Charter many props lots) {S T : Int → Bool} (h : ∀ o : Int, 0 ≤ o → o < many → S o = true → T o = true) (w : has lots S = true) : has lots T = true := by
  obtain ⟨l, hl, q⟩ := has_iff.mp w
  exact has_iff.mpr ⟨l, hl, fun o ho => h o ((C.one l hl).2.2 o ho).1 ((C.one l hl).2.2 o ho).2 (q o ho)⟩
theorem has_congr (C : Charter many props lots) {S T : Int → Bool} (h : ∀ o : Int, 0 ≤ o → o < many → S o = T o) : has lots S = has lots T := by
  cases e : has lots S with
  | true => exact (has_mono C (fun o a b z => by rw [← h o a b]; exact z) e).symm
  | false =>
    cases e2 : has lots T with
    | false => rfl
    | true =>
      have := has_mono C (T := S) (fun o a b z => by rw [h o a b]; exact z) e2
      rw [e] at this; cases this
theorem has_all (C : Charter many props lots) {S : Int → Bool} (h : ∀ o : Int, 0 ≤ o → o < many → S o = true) : has lots S = true := by
  obtain ⟨l, hl⟩ := List.exists_mem_of_ne_nil _ C.lne
  exact has_iff.mpr ⟨l, hl, fun o ho => h o ((C.one l hl).2.2 o ho).1 ((C.one l hl).2.2 o ho).2⟩
theorem has_none (C : Charter many props lots) {S : Int → Bool} (h : ∀ o : Int, 0 ≤ o → o < many → S o = false) : has lots S = false := by
  cases e : has lots S with
  | false => rfl
  | true =>
    obtain ⟨l, hl, q⟩ := has_iff.mp e
    obtain ⟨o, ho⟩ := List.exists_mem_of_ne_nil _ (C.one l hl).1
    have a := (C.one l hl).2.2 o ho
    have b := q o ho
    rw [h o a.1 a.2] at b; cases b
/-- what an owner's item is -/
def at_ (row : List Int) (o : Int) : Int := row.getD o.toNat 0
structure Split (many : Nat) (props row : List Int) : Prop where
  len : row.length = many
  ins : ∀ h ∈ row, h ∈ props
  own : ∀ h ∈ row, at_ row h = h
def heads (props : List Int) (lots : List (List Int)) (row : List Int) : List Int := props.filter fun h => has lots fun o => at_ row o == h
theorem at_mem {row : List Int} {o : Int} (h0 : 0 ≤ o) (h1 : o < row.length) : at_ row o ∈ row := by
  unfold at_
  rw [List.getD_eq_getElem?_getD, List.getElem?_eq_getElem (by omega), Option.getD_some]
  exact List.getElem_mem _
/-- a split as a function -/
structure Fn (many : Nat) (props : List Int) (f : Int → Int) : Prop where
  ins : ∀ o : Int, 0 ≤ o → o < many → f o ∈ props
  own : ∀ o : Int, 0 ≤ o → o < many → f (f o) = f o
def rowOf (many : Nat) (f : Int → Int) : List Int := (rng many).map f
theorem at_row {f : Int → Int} {o : Int} (h0 : 0 ≤ o) (h1 : o < many) : at_ (rowOf many f) o = f o := by
  unfold at_ rowOf
  rw [List.getD_eq_getElem?_getD, List.getElem?_map, rng_get (by omega)]
  simp only [Option.map_some, Option.getD_some]
  congr 1; omega
theorem Fn.split (C : Charter many props lots) {f : Int → Int} (F : Fn many props f) : Split many props (rowOf many f) := by
  refine ⟨by simp [rowOf, rng_len], fun h hh => ?_, fun h hh => ?_⟩
  · obtain ⟨o, ho, rfl⟩ := List.mem_map.mp hh
    exact F.ins o (mem_rng.mp ho).1 (mem_rng.mp ho).2
  · obtain ⟨o, ho, rfl⟩ := List.mem_map.mp hh
    have b := mem_rng.mp ho
    have p := C.pin _ (F.ins o b.1 b.2)
    rw [at_row p.1 p.2, F.own o b.1 b.2]
theorem heads_row (C : Charter many props lots) {f : Int → Int} : heads props lots (rowOf many f) = props.filter fun h => has lots fun o => f o == h := by
  unfold heads
  refine List.filter_congr fun h _ => has_congr C fun o a b => ?_
  rw [at_row a b]
theorem one_ex {P : Int → Bool} {l : List Int} (h : (l.filter P).length = 1) : ∃ x, x ∈ l ∧ P x = true ∧ ∀ y ∈ l, P y = true → y = x := by
  obtain ⟨x, e⟩ := List.length_eq_one_iff.mp h
  have hx : x ∈ l.filter P := by rw [e]; simp
  refine ⟨x, (List.mem_filter.mp hx).1, (List.mem_filter.mp hx).2, fun y hy hp => ?_⟩
  have : y ∈ l.filter P := List.mem_filter.mpr ⟨hy, hp⟩
  rw [e] at this
  simpa using this
/-- just one proposal is signed in each split -/
def Sure (many : Nat) (props : List Int) (lots : List (List Int)) : Prop := ∀ row, Split many props row → (heads props lots row).length = 1
theorem sure_fn (C : Charter many props lots) (U : Sure many props lots) {f : Int → Int} (F : Fn many props f) : ∃ x, x ∈ props ∧ has lots (fun o => f o == x) = true ∧ ∀ y ∈ props, has lots (fun o => f o == y) = true → y = x := by
  have h := U _ (F.split C)
  rw [heads_row C] at h
  exact one_ex h
theorem two (C : Charter many props lots) (U : Sure many props lots) {S : Int → Bool} {p q : Int} (hp : p ∈ props) (hq : q ∈ props) (sp : S p = true) (sq : S q = false) :
    has lots (fun o => !S o) = !has lots S := by
  have ne : p ≠ q := by rintro rfl; rw [sp] at sq; cases sq
  have F : Fn many props (fun o => if S o = true then p else q) := by
    refine ⟨fun o _ _ => ?_, fun o _ _ => ?_⟩
    · show (if S o = true then p else q) ∈ props
      split <;> assumption
    · show (if S (if S o = true then p else q) = true then p else q) = if S o = true then p else q
      by_cases h : S o = true
      · simp [h, sp]
      · simp [h, sq]
  obtain ⟨x, hx, wx, ux⟩ := sure_fn C U F
  have ep : has lots (fun o => (if S o = true then p else q) == p) = has lots S := has_congr C fun o _ _ => by
    by_cases h : S o = true
    · simp [h]
    · simp [h, Ne.symm ne]
  have eq : has lots (fun o => (if S o = true then p else q) == q) = has lots (fun o => !S o) := has_congr C fun o _ _ => by
    by_cases h : S o = true
    · simp [h, ne]
    · simp [h]
  have up := ux p hp
  have uq := ux q hq
  have hpq : x = p ∨ x = q := by
    obtain ⟨l, hl, w⟩ := has_iff.mp wx
    obtain ⟨o, ho⟩ := List.exists_mem_of_ne_nil _ (C.one l hl).1
    have w1 := w o ho
    simp only [beq_iff_eq] at w1
    by_cases h : S o = true
    · simp [h] at w1; exact .inl w1.symm
    · simp [h] at w1; exact .inr w1.symm
  rw [ep] at up
  rw [eq] at uq
  rcases hpq with rfl | rfl
  · rw [ep] at wx
    rw [wx]
    cases e : has lots (fun o => !S o) with
    | false => rfl
    | true => exact absurd (uq e) (Ne.symm ne)
  · rw [eq] at wx
    rw [wx]
    cases e : has lots S with
    | false => rfl
    | true => exact absurd (up e) ne
/-- three blocks: if one wins the two others don't; one wins -/
theorem three (C : Charter many props lots) (U : Sure many props lots) {S T : Int → Bool} {p q r : Int} (hp : p ∈ props) (hq : q ∈ props) (hr : r ∈ props) (sp : S p = true) (sq : S q = false) (tq : T q = true)
    (sr : S r = false) (tr : T r = false) : has lots S = true ∨ has lots (fun o => !S o && T o) = true ∨ has lots (fun o => !S o && !T o) = true := by
  have F : Fn many props (fun o => if S o = true then p else if T o = true then q else r) := by
    refine ⟨fun o _ _ => ?_, fun o _ _ => ?_⟩
    · show (if S o = true then p else if T o = true then q else r) ∈ props
      split
      · assumption
      · split <;> assumption
    · show (if S (if S o = true then p else if T o = true then q else r) = true then p else if T (if S o = true then p else if T o = true then q else r) = true then q else r) = (if S o = true then p else if T o = true then q else r)
      by_cases h : S o = true
      · simp [h, sp]
      · by_cases h2 : T o = true
        · simp [h, h2, sq, tq]
        · simp [h, h2, sr, tr]
  obtain ⟨x, hx, wx, _⟩ := sure_fn C U F
  have n1 : p ≠ q := by rintro rfl; rw [sp] at sq; cases sq
  have n2 : p ≠ r := by rintro rfl; rw [sp] at sr; cases sr
  have n3 : q ≠ r := by rintro rfl; rw [tq] at tr; cases tr
  obtain ⟨l, hl, w⟩ := has_iff.mp wx
  obtain ⟨o, ho⟩ := List.exists_mem_of_ne_nil _ (C.one l hl).1
  have w1 := w o ho
  simp only [beq_iff_eq] at w1
  have cs : x = p ∨ x = q ∨ x = r := by
    by_cases h : S o = true
    · simp [h] at w1; exact .inl w1.symm
    · by_cases h2 : T o = true
      · simp [h, h2] at w1; exact .inr (.inl w1.symm)
      · simp [h, h2] at w1; exact .inr (.inr w1.symm)
  rcases cs with rfl | rfl | rfl
  · exact .inl (has_mono C (fun o _ _ z => by
      by_cases h : S o = true
      · exact h
      · by_cases h2 : T o = true
        · simp [h, h2] at z; exact absurd z.symm n1
        · simp [h, h2] at z; exact absurd z.symm n2) wx)
  · exact .inr (.inl (has_mono C (fun o _ _ z => by
      by_cases h : S o = true
      · simp [h] at z; exact absurd z n1
      · by_cases h2 : T o = true
        · simp [h, h2]
        · simp [h, h2] at z; exact absurd z.symm n3) wx))
  · exact .inr (.inr (has_mono C (fun o _ _ z => by
      by_cases h : S o = true
      · simp [h] at z; exact absurd z n2
      · by_cases h2 : T o = true
        · simp [h, h2] at z; exact absurd z n3
        · simp [h, h2]) wx))
/-- how many owners are in -/
def cnt (many : Nat) (S : Int → Bool) : Nat := ((rng many).filter S).length
theorem filter_lt : ∀ {l : List Int} {S T : Int → Bool}, (∀ o ∈ l, S o = true → T o = true) → (∃ x ∈ l, T x = true ∧ S x = false) → (l.filter S).length < (l.filter T).length
  | [], _, _, _, ⟨x, hx, _⟩ => nomatch hx
  | y :: r, S, T, h, ⟨x, hx, ht, hs⟩ => by
    have le : (r.filter S).length ≤ (r.filter T).length := by
      clear hx
      induction r with
      | nil => simp
      | cons z r ih =>
        have ih := ih (fun o ho => h o (by rcases List.mem_cons.mp ho with e | e <;> simp [e]))
        by_cases e : S z = true
        · have := h z (by simp) e
          simp [List.filter_cons, e, this]; exact ih
        · by_cases e2 : T z = true
          · simp [List.filter_cons, e, e2]; omega
          · simp [List.filter_cons, e, e2]; exact ih
    rcases List.mem_cons.mp hx with rfl | hx
    · simp [List.filter_cons, ht, hs]; omega
    · have ih := filter_lt (l := r) (S := S) (T := T) (fun o ho => h o (by simp [ho])) ⟨x, hx, ht, hs⟩
      by_cases e : S y = true
      · have := h y (by simp) e
        simp [List.filter_cons, e, this]; exact ih
      · by_cases e2 : T y = true
        · simp [List.filter_cons, e, e2]; omega
        · simp [List.filter_cons, e, e2]; exact ih
theorem cnt_lt {S T : Int → Bool} (h : ∀ o : Int, 0 ≤ o → o < many → S o = true → T o = true) {x : Int} (x0 : 0 ≤ x) (x1 : x < many) (ht : T x = true) (hs : S x = false) : cnt many S < cnt many T :=
  filter_lt (fun o ho => h o (mem_rng.mp ho).1 (mem_rng.mp ho).2) ⟨x, mem_rng.mpr ⟨x0, x1⟩, ht, hs⟩
/-- d, with each proposer, has a lot -/
def Dec (props : List Int) (lots : List (List Int)) (d : Int) : Prop := ∀ q ∈ props, has lots (fun o => o == q || o == d) = true
theorem dec_pair (C : Charter many props lots) (U : Sure many props lots) (h3 : ∀ p q : Int, ∃ r ∈ props, r ≠ p ∧ r ≠ q) {p t : Int} (hp : p ∈ props) (ht : t ∉ props) (w : has lots (fun o => o == p || o == t) = true)
    (nw : has lots (fun o => o == p) = false) : Dec props lots t := by
  intro q hq
  by_cases e : q = p
  · rw [e]; exact w
  · obtain ⟨r, hr, r1, r2⟩ := h3 p q
    have tp : t ≠ p := fun z => ht (z ▸ hp)
    have tq : t ≠ q := fun z => ht (z ▸ hq)
    have tr : t ≠ r := fun z => ht (z ▸ hr)
    have k := three C U (S := fun o => o == p) (T := fun o => o == q || o == t) hp hq hr (by simp) (by simp [e]) (by simp) (by simp [r1]) (by simp [r2, Ne.symm tr])
    have w2 := two C U (S := fun o => o == p || o == t) hp hq (by simp) (by simp [e, Ne.symm tq])
    rw [w] at w2
    rcases k with k | k | k
    · rw [nw] at k; cases k
    · exact has_mono C (fun o _ _ z => by simp at z; simp [z.2]) k
    · have := has_mono C (T := fun o => !(o == p || o == t)) (fun o _ _ z => by simp at z; simp [z.1, z.2.2]) k
      rw [w2] at this; cases this
theorem dec_ex (C : Charter many props lots) (U : Sure many props lots) (h3 : ∀ p q : Int, ∃ r ∈ props, r ≠ p ∧ r ≠ q) : ∀ (n : Nat) (S : Int → Bool), cnt many S ≤ n → (∃ p ∈ props, S p = true) → (∃ r ∈ props, S r = false) → has lots S = true → ∃ d : Int, 0 ≤ d ∧ d < many ∧ Dec props lots d := by
  intro n
  induction n with
  | zero =>
    intro S hn ⟨p, hp, sp⟩ _ _
    have b := C.pin p hp
    have : cnt many (fun _ => false) < cnt many S := cnt_lt (fun o _ _ z => by cases z) b.1 b.2 sp rfl
    omega
  | succ n ih =>
    intro S hn ⟨p, hp, sp⟩ ⟨r, hr, sr⟩ w
    have bp := C.pin p hp
    have w2 := two C U hp hr sp sr
    rw [w] at w2
    by_cases many2 : ∃ p' ∈ props, p' ≠ p ∧ S p' = true
    · obtain ⟨p', hp', ne, sp'⟩ := many2
      have bp' := C.pin p' hp'
      have k := three C U (S := fun o => S o && !(o == p')) (T := fun o => o == p') hp hp' hr (by simp [sp, Ne.symm ne]) (by simp) (by simp) (by simp [sr]) (by
        have : r ≠ p' := by rintro rfl; rw [sp'] at sr; cases sr
        simp [this])
      rcases k with k | k | k
      · refine ih _ (Nat.le_of_lt_succ (Nat.lt_of_lt_of_le (cnt_lt (T := S) (fun o _ _ z => by simp at z; exact z.1) bp'.1 bp'.2 sp' (by simp)) hn)) ⟨p, hp, by simp [sp, Ne.symm ne]⟩ ⟨r, hr, by simp [sr]⟩ k
      · have k2 : has lots (fun o => o == p') = true := has_mono C (fun o _ _ z => by simp at z; simp [z.2]) k
        refine ih _ (Nat.le_of_lt_succ (Nat.lt_of_lt_of_le (cnt_lt (S := fun o => o == p') (T := S) (fun o _ _ z => by simp at z; rw [z]; exact sp') bp.1 bp.2 sp (by simp [Ne.symm ne])) hn)) ⟨p', hp', by simp⟩ ⟨r, hr, by
          have : r ≠ p' := by rintro rfl; rw [sp'] at sr; cases sr
          simp [this]⟩ k2
      · have := has_mono C (T := fun o => !S o) (fun o _ _ z => by
          simp only [Bool.and_eq_true, Bool.not_eq_true', Bool.and_eq_false_iff] at z
          simp only [Bool.not_eq_true']
          rcases z.1 with h | h
          · exact h
          · simp at h; rw [h] at z; simp at z) k
        rw [w2] at this; cases this
    · have only : ∀ p' ∈ props, S p' = true → p' = p := fun p' h s => Classical.byContradiction fun ne => many2 ⟨p', h, ne, s⟩
      by_cases wp : has lots (fun o => o == p) = true
      · exact ⟨p, bp.1, bp.2, fun q _ => has_mono C (fun o _ _ z => by simp at z; simp [z]) wp⟩
      · have nw : has lots (fun o => o == p) = false := by simpa using wp
        -- an owner besides
        have ex : ∃ t : Int, 0 ≤ t ∧ t < many ∧ S t = true ∧ t ≠ p := Classical.byContradiction fun no => by
          have := has_mono C (T := fun o => o == p) (fun o a b z => by
            simp only [beq_iff_eq]
            exact Classical.byContradiction fun ne => no ⟨o, a, b, z, ne⟩) w
          rw [nw] at this; cases this
        obtain ⟨t, t0, t1, st, tp⟩ := ex
        have tn : t ∉ props := fun h => tp (only t h st)
        by_cases more : ∃ t' : Int, 0 ≤ t' ∧ t' < many ∧ S t' = true ∧ t' ≠ p ∧ t' ≠ t
        · obtain ⟨t', a0, a1, st', t'p, t't⟩ := more
          obtain ⟨q, hq, q1, q2⟩ := h3 p r
          have sq : S q = false := by
            cases e : S q with
            | false => rfl
            | true => exact absurd (only q hq e) q1
          have tq : t ≠ q := fun z => tn (z ▸ hq)
          have tr : t ≠ r := fun z => tn (z ▸ hr)
          have k := three C U (S := fun o => S o && !(o == t)) (T := fun o => o == q || o == t) hp hq hr (by simp [sp, Ne.symm tp]) (by simp [sq]) (by simp) (by simp [sr]) (by simp [Ne.symm q2, Ne.symm tr])
          rcases k with k | k | k
          · exact ih _ (Nat.le_of_lt_succ (Nat.lt_of_lt_of_le (cnt_lt (T := S) (fun o _ _ z => by simp at z; exact z.1) t0 t1 st (by simp)) hn)) ⟨p, hp, by simp [sp, Ne.symm tp]⟩ ⟨r, hr, by simp [sr]⟩ k
          · have k2 : has lots (fun o => o == q || o == t) = true := has_mono C (fun o _ _ z => by simp at z; simp [z.2]) k
            by_cases wq : has lots (fun o => o == q) = true
            · have bq := C.pin q hq
              exact ⟨q, bq.1, bq.2, fun q' _ => has_mono C (fun o _ _ z => by simp at z; simp [z]) wq⟩
            · exact ⟨t, t0, t1, dec_pair C U h3 hq tn k2 (by simpa using wq)⟩
          · have := has_mono C (T := fun o => !S o) (fun o _ _ z => by
              simp only [Bool.and_eq_true, Bool.not_eq_true', Bool.and_eq_false_iff, Bool.or_eq_false_iff] at z
              simp only [Bool.not_eq_true']
              rcases z.1 with h | h
              · exact h
              · simp at h; rw [h] at z; simp at z) k
            rw [w2] at this; cases this
        · have w3 : has lots (fun o => o == p || o == t) = true := has_mono C (fun o a b z => by
            simp only [Bool.or_eq_true, beq_iff_eq]
            exact Classical.byContradiction fun ne => more ⟨o, a, b, z, fun h => ne (.inl h), fun h => ne (.inr h)⟩) w
          exact ⟨t, t0, t1, dec_pair C U h3 hp tn w3 nw⟩
theorem decider_ex (C : Charter many props lots) (U : Sure many props lots) (h : 3 ≤ props.length) : ∃ d : Int, 0 ≤ d ∧ d < many ∧ Dec props lots d := by
  have nd : props.Pairwise (· ≠ ·) := C.pasc.imp fun h => Int.ne_of_lt h
  have h3 : ∀ p q : Int, ∃ r ∈ props, r ≠ p ∧ r ≠ q := by
    intro p q
    match props, h, nd with
    | a :: b :: c :: l, _, nd =>
      simp only [List.pairwise_cons, List.mem_cons] at nd
      have ab := nd.1 b (by simp)
      have ac := nd.1 c (by simp)
      have bc := nd.2.1 c (by simp)
      by_cases e1 : a ≠ p ∧ a ≠ q
      · exact ⟨a, by simp, e1⟩
      · by_cases e2 : b ≠ p ∧ b ≠ q
        · exact ⟨b, by simp, e2⟩
        · refine ⟨c, by simp, ?_⟩
          omega
  obtain ⟨p, hp⟩ := List.exists_mem_of_ne_nil _ C.pne
  obtain ⟨q, hq, qp, _⟩ := h3 p p
  have w := two C U (S := fun o => o == p) hp hq (by simp) (by simp [qp])
  by_cases e : has lots (fun o => o == p) = true
  · exact dec_ex C U h3 _ _ (Nat.le_refl _) ⟨p, hp, by simp⟩ ⟨q, hq, by simp [qp]⟩ e
  · have e' : has lots (fun o => !(o == p)) = true := by rw [w]; simpa using e
    exact dec_ex C U h3 _ _ (Nat.le_refl _) ⟨q, hq, by simp [qp]⟩ ⟨p, hp, by simp⟩ e'
/-- who decides -/
def Dcd (many : Nat) (props : List Int) (lots : List (List Int)) (o : Int) : Prop := ∀ row, Split many props row → heads props lots row = [at_ row o]
theorem dec_dcd (C : Charter many props lots) (U : Sure many props lots) {d : Int} (d0 : 0 ≤ d) (d1 : d < many) (D : Dec props lots d) : Dcd many props lots d := by
  intro row S
  obtain ⟨x, e⟩ := List.length_eq_one_iff.mp (U row S)
  have hm : at_ row d ∈ row := at_mem d0 (by rw [S.len]; exact d1)
  have hp := S.ins _ hm
  have w : has lots (fun o => at_ row o == at_ row d) = true := has_mono C (fun o _ _ z => by
    simp only [Bool.or_eq_true, beq_iff_eq] at z
    rcases z with z | z
    · rw [z, S.own _ hm]; simp
    · rw [z]; simp) (D _ hp)
  have hin : at_ row d ∈ heads props lots row := List.mem_filter.mpr ⟨hp, w⟩
  rw [e] at hin ⊢
  rw [List.mem_singleton.mp hin]
theorem dcd_sure {o : Int} (D : Dcd many props lots o) : Sure many props lots := fun row S => by rw [D row S]; rfl
theorem dcd_uniq (C : Charter many props lots) (h : 2 ≤ props.length) {a b : Int} (a0 : 0 ≤ a) (a1 : a < many) (b0 : 0 ≤ b) (b1 : b < many) (A : Dcd many props lots a) (B : Dcd many props lots b) : a = b := by
  refine Classical.byContradiction fun ne => ?_
  obtain ⟨p, q, hp, hq, pq⟩ : ∃ p q, p ∈ props ∧ q ∈ props ∧ p ≠ q := by
    have nd : props.Pairwise (· ≠ ·) := C.pasc.imp fun h => Int.ne_of_lt h
    match props, h, nd with
    | x :: y :: l, _, nd =>
      simp only [List.pairwise_cons, List.mem_cons] at nd
      exact ⟨x, y, by simp, by simp, nd.1 y (by simp)⟩
  have go : ∀ p q : Int, p ∈ props → q ∈ props → p ≠ q → a ≠ q → b ≠ p → False := fun p q hp hq pq aq bp => by
    have F : Fn many props (fun o => if o = p ∨ o = a then p else q) := by
      refine ⟨fun o _ _ => ?_, fun o _ _ => ?_⟩
      · show (if o = p ∨ o = a then p else q) ∈ props
        split <;> assumption
      · show (if (if o = p ∨ o = a then p else q) = p ∨ (if o = p ∨ o = a then p else q) = a then p else q) = (if o = p ∨ o = a then p else q)
        by_cases e : o = p ∨ o = a
        · simp [e]
        · have : ¬ (q = p ∨ q = a) := by rintro (z | z); exact pq z.symm; exact aq z.symm
          simp [e, this]
    have s := F.split C
    have e := (A _ s).symm.trans (B _ s)
    rw [at_row a0 a1, at_row b0 b1] at e
    have e1 : (if a = p ∨ a = a then p else q) = (if b = p ∨ b = a then p else q) := by simpa using e
    rw [if_pos (.inr rfl), if_neg (by rintro (z | z); exact bp z; exact ne z.symm)] at e1
    exact pq e1
  by_cases c : a = q ∨ b = p
  · refine go q p hq hp (Ne.symm pq) ?_ ?_
    · rintro rfl
      rcases c with c | c
      · exact pq c
      · exact ne c.symm
    · rintro rfl
      rcases c with c | c
      · exact ne c
      · exact pq c.symm
  · exact go p q hp hq pq (fun z => c (.inl z)) (fun z => c (.inr z))
/-- decider: with each proposer a lot -/
theorem dcd_dec (C : Charter many props lots) (h : 3 ≤ props.length) {o : Int} (o0 : 0 ≤ o) (o1 : o < many) (D : Dcd many props lots o) : Dec props lots o := by
  obtain ⟨d, d0, d1, hd⟩ := decider_ex C (dcd_sure D) h
  have := dcd_uniq C (by omega) o0 o1 d0 d1 D (dec_dcd C (dcd_sure D) d0 d1 hd)
  rw [this]; exact hd
end
end Ch

namespace Pu
open PySem PySem.Spec PyProof.Rows L2
abbrev NP := Addr → Prop
theorem same_upd {H : Hp} {p : Addr} {o : HO} (n : H p = none) : Same H (upd H p o) := fun b u e => by rw [upd_ne (ne_of_none e n)]; exact e
/-! ### plain data at addresses of N -/
mutual
inductive Rp (N : NP) (H : Hp) : V → PyData → Prop
  | non : Rp N H .non .none
  | bl (b : Bool) : Rp N H (.bl b) (.bool b)
  | int (i : Int) : Rp N H (.int i) (.int i)
  | str (x : Str) : Rp N H (.str x) (.str x)
  | lst {a : Addr} {xs : List V} {ds : List PyData} : N a → H a = some (.lst xs) → Rps N H xs ds → Rp N H (.ref a) (.list ds)
  | tup {a : Addr} {xs : List V} {ds : List PyData} : N a → H a = some (.tup xs) → Rps N H xs ds → Rp N H (.ref a) (.tuple ds)
inductive Rps (N : NP) (H : Hp) : List V → List PyData → Prop
  | nil : Rps N H [] []
  | cons {v : V} {vs : List V} {d : PyData} {ds : List PyData} : Rp N H v d → Rps N H vs ds → Rps N H (v :: vs) (d :: ds)
end
section
variable {K : PySem.W.Frag} {N N' : NP} {H H' : Hp}
mutual
theorem Rp.mono (k : ∀ a o, N a → H a = some o → N' a ∧ H' a = some o) : ∀ (d : PyData) {v : V}, Rp N H v d → Rp N' H' v d
  | .none, _, h => by cases h; exact .non
  | .bool b, _, h => by cases h; exact .bl b
  | .int i, _, h => by cases h; exact .int i
  | .str x, _, h => by cases h; exact .str x
  | .list ds, _, h => by
    cases h with
    | lst n e r => exact .lst (k _ _ n e).1 (k _ _ n e).2 (Rps.mono k ds r)
  | .tuple ds, _, h => by
    cases h with
    | tup n e r => exact .tup (k _ _ n e).1 (k _ _ n e).2 (Rps.mono k ds r)
  | .dict ds, _, h => nomatch h
theorem Rps.mono (k : ∀ a o, N a → H a = some o → N' a ∧ H' a = some o) : ∀ (ds : List PyData) {vs : List V}, Rps N H vs ds → Rps N' H' vs ds
  | [], _, h => by cases h; exact .nil
  | d :: ds, _, h => by
    cases h with
    | cons r t => exact .cons (Rp.mono k d r) (Rps.mono k ds t)
end
mutual
theorem Rp.dp : ∀ (d : PyData) {v : V}, Rp N H v d → Dp K H v d
  | .none, _, h => by cases h; exact .non
  | .bool b, _, h => by cases h; exact .bl b
  | .int i, _, h => by cases h; exact .int i
  | .str x, _, h => by cases h; exact .str x
  | .list ds, _, h => by
    cases h with
    | lst n e r => exact .lst (SqL.of e) (Rps.dp ds r)
  | .tuple ds, _, h => by
    cases h with
    | tup n e r => exact .tup (SqT.of e) (Rps.dp ds r)
  | .dict ds, _, h => nomatch h
theorem Rps.dp : ∀ (ds : List PyData) {vs : List V}, Rps N H vs ds → DpAll K H vs ds
  | [], _, h => by cases h; exact .nil
  | d :: ds, _, h => by
    cases h with
    | cons r t => exact .cons (Rp.dp d r) (Rps.dp ds t)
end
theorem Rp.same {d : PyData} {v : V} (s : Same H H') (h : Rp N H v d) : Rp N H' v d := Rp.mono (fun a o n e => ⟨n, s a o e⟩) d h
theorem Rps.same {ds : List PyData} {vs : List V} (s : Same H H') (h : Rps N H vs ds) : Rps N H' vs ds := Rps.mono (fun a o n e => ⟨n, s a o e⟩) ds h
theorem Rps.len {ds : List PyData} {vs : List V} (h : Rps N H vs ds) : vs.length = ds.length := by
  induction ds generalizing vs with
  | nil => cases h; rfl
  | cons d ds ih =>
    cases h with
    | cons r t => simp [ih t]
theorem Rps.get {ds : List PyData} {vs : List V} (h : Rps N H vs ds) {i : Nat} {v : V} (e : vs[i]? = some v) : ∃ d, ds[i]? = some d ∧ Rp N H v d := by
  induction ds generalizing vs i with
  | nil => cases h; cases i <;> cases e
  | cons d ds ih =>
    cases h with
    | cons r t =>
      cases i with
      | zero => cases e; exact ⟨d, rfl, r⟩
      | succ i => exact ih t (by simpa using e)
theorem Rps.get' {ds : List PyData} {vs : List V} (h : Rps N H vs ds) {i : Nat} {d : PyData} (e : ds[i]? = some d) : ∃ v, vs[i]? = some v ∧ Rp N H v d := by
  induction ds generalizing vs i with
  | nil => cases i <;> cases e
  | cons d ds ih =>
    cases h with
    | cons r t =>
      cases i with
      | zero => cases e; exact ⟨_, rfl, r⟩
      | succ i => exact ih t (by simpa using e)
theorem Rps.app {ds es : List PyData} {vs us : List V} (h : Rps N H vs ds) (h2 : Rps N H us es) : Rps N H (vs ++ us) (ds ++ es) := by
  induction ds generalizing vs with
  | nil => cases h; exact h2
  | cons d ds ih =>
    cases h with
    | cons r t => exact .cons r (ih t)
theorem Rps.drop {ds : List PyData} {vs : List V} (h : Rps N H vs ds) (n : Nat) : Rps N H (vs.drop n) (ds.drop n) := by
  induction n generalizing ds vs with
  | zero => exact h
  | succ n ih =>
    cases h with
    | nil => exact .nil
    | cons r t => exact ih t
theorem Rps.take {ds : List PyData} {vs : List V} (h : Rps N H vs ds) (n : Nat) : Rps N H (vs.take n) (ds.take n) := by
  induction n generalizing ds vs with
  | zero => exact .nil
  | succ n ih =>
    cases h with
    | nil => exact .nil
    | cons r t => exact .cons r (ih t)
theorem Rps.mem {ds : List PyData} {vs : List V} (h : Rps N H vs ds) {v : V} (e : v ∈ vs) : ∃ d, d ∈ ds ∧ Rp N H v d := by
  obtain ⟨i, hi, rfl⟩ := List.getElem_of_mem e
  obtain ⟨d, hd, r⟩ := h.get (List.getElem?_eq_getElem hi)
  exact ⟨d, List.mem_of_getElem? hd, r⟩
theorem Rps.erase {ds : List PyData} {vs : List V} (h : Rps N H vs ds) (n : Nat) : Rps N H (vs.eraseIdx n) (ds.eraseIdx n) := by
  induction n generalizing ds vs with
  | zero => cases h with
    | nil => exact .nil
    | cons r t => exact t
  | succ n ih =>
    cases h with
    | nil => exact .nil
    | cons r t => exact .cons r (ih t)
/-- ints -/
theorem Rps.ints : ∀ {ns : List Int} {vs : List V}, Rps N H vs (ns.map PyData.int) → vs = ns.map V.int
  | [], _, h => by cases h; rfl
  | n :: ns, _, h => by
    cases h with
    | cons r t => cases r; rw [Rps.ints t]; rfl
theorem rps_ints : ∀ (ns : List Int), Rps N H (ns.map V.int) (ns.map PyData.int)
  | [] => .nil
  | n :: ns => .cons (.int n) (rps_ints ns)
theorem Rps.bls : ∀ {ns : List Bool} {vs : List V}, Rps N H vs (ns.map PyData.bool) → vs = ns.map V.bl
  | [], _, h => by cases h; rfl
  | n :: ns, _, h => by
    cases h with
    | cons r t => cases r; rw [Rps.bls t]; rfl
end
/-- new addresses are of N -/
def Fr (N : NP) (H : Hp) : Prop := ∀ a, H a = none → N a
theorem Fr.same {N : NP} {H H' : Hp} (f : Fr N H) (s : Same H H') : Fr N H' := fun a e => f a (s.free e)
/-- what stood in N stands still, in N' -/
def Up (N : NP) (H : Hp) (N' : NP) (H' : Hp) : Prop := ∀ a o, N a → H a = some o → N' a ∧ H' a = some o
theorem Up.refl (N : NP) (H : Hp) : Up N H N H := fun _ _ n e => ⟨n, e⟩
theorem Up.trans {N N1 N2 : NP} {H H1 H2 : Hp} (u : Up N H N1 H1) (w : Up N1 H1 N2 H2) : Up N H N2 H2 := fun a o n e => w a o (u a o n e).1 (u a o n e).2
theorem Up.of {N : NP} {H H' : Hp} (s : Same H H') : Up N H N H' := fun a o n e => ⟨n, s a o e⟩
theorem Up.same {N N1 : NP} {H H1 H2 : Hp} (u : Up N H N1 H1) (s : Same H1 H2) : Up N H N1 H2 := u.trans (Up.of s)
theorem Rp.up {N N' : NP} {H H' : Hp} {v : V} {d : PyData} (u : Up N H N' H') (h : Rp N H v d) : Rp N' H' v d := Rp.mono u d h
theorem Rps.up {N N' : NP} {H H' : Hp} {v : List V} {d : List PyData} (u : Up N H N' H') (h : Rps N H v d) : Rps N' H' v d := Rps.mono u d h
/-! ### what evaluates to which data -/
def DE (N : NP) (te : TE) (σ : L2.St) (H : Hp) (d : PyData) : Prop := ∀ N1 H1, Up N H N1 H1 → Fr N1 H1 → ∀ Q : VK, (∀ v H2, Same H1 H2 → Rp N1 H2 v d → Q v H2) → te σ H1 Q
def DA (N : NP) (ta : TA) (σ : L2.St) (H : Hp) (ds : List PyData) : Prop := ∀ N1 H1, Up N H N1 H1 → Fr N1 H1 → ∀ Q : List V → Hp → Prop, (∀ vs H2, Same H1 H2 → Rps N1 H2 vs ds → Q vs H2) → ta σ H1 Q
def DT (N : NP) (tt : TT) (σ : L2.St) (H : Hp) (b : Bool) : Prop := ∀ N1 H1, Up N H N1 H1 → Fr N1 H1 → ∀ Q : Bool → Hp → Prop, (∀ H2, Same H1 H2 → Q b H2) → tt σ H1 Q
def DO (N : NP) (to : TO) (σ : L2.St) (H : Hp) (o : Option Int) : Prop := ∀ N1 H1, Up N H N1 H1 → Fr N1 H1 → ∀ Q : Option Int → Hp → Prop, (∀ H2, Same H1 H2 → Q o H2) → to σ H1 Q
/-- an operation on values, a call on values, by data -/
def R2D (r : R2) (x y z : PyData) : Prop := ∀ (N : NP) (H : Hp) (v u : V) (Q : VK), Fr N H → Rp N H v x → Rp N H u y → (∀ w H', Same H H' → Rp N H' w z → Q w H') → r v u H Q
def RCD (r : List V → Hp → VK → Prop) (xs : List PyData) (z : PyData) : Prop := ∀ (N : NP) (H : Hp) (vs : List V) (Q : VK), Fr N H → Rps N H vs xs → (∀ w H', Same H H' → Rp N H' w z → Q w H') → r vs H Q
section
variable {K : PySem.W.Frag} {N N' : NP} {σ : L2.St} {H H' : Hp} {ta tb te tx : TE} {t u : TT} {d x y z : PyData} {v : V}
theorem DE.up (s : Up N H N' H') (h : DE N te σ H d) : DE N' te σ H' d := fun N1 H1 a f Q q => h N1 H1 (s.trans a) f Q q
theorem DT.up {b : Bool} (s : Up N H N' H') (h : DT N t σ H b) : DT N' t σ H' b := fun N1 H1 a f Q q => h N1 H1 (s.trans a) f Q q
theorem DA.up {ta : TA} {ds : List PyData} (s : Up N H N' H') (h : DA N ta σ H ds) : DA N' ta σ H' ds := fun N1 H1 a f Q q => h N1 H1 (s.trans a) f Q q
theorem DE.run (h : DE N te σ H d) (f : Fr N H) {Q : VK} (q : ∀ v H2, Same H H2 → Rp N H2 v d → Q v H2) : te σ H Q := h N H (Up.refl N H) f Q q
theorem DT.run {b : Bool} (h : DT N t σ H b) (f : Fr N H) {Q : Bool → Hp → Prop} (q : ∀ H2, Same H H2 → Q b H2) : t σ H Q := h N H (Up.refl N H) f Q q
theorem DA.run {ta : TA} {ds : List PyData} (h : DA N ta σ H ds) (f : Fr N H) {Q : List V → Hp → Prop} (q : ∀ v H2, Same H H2 → Rps N H2 v ds → Q v H2) : ta σ H Q := h N H (Up.refl N H) f Q q
theorem DE.is (h : DE N te σ H x) (e : x = y) : DE N te σ H y := e ▸ h
theorem DT.is {a b : Bool} (h : DT N t σ H a) (e : a = b) : DT N t σ H b := e ▸ h
theorem de_var {i : Nat} (h : σ[i]? = some (some v)) (r : Rp N H v d) : DE N (tVar i) σ H d := fun _ H1 s _ _ q => ⟨v, h, q v H1 (Same.refl H1) (r.up s)⟩
theorem de_int {i : Int} : DE N (tC (.int i)) σ H (.int i) := fun _ H1 _ _ _ q => q _ H1 (Same.refl H1) (.int i)
theorem de_bl {b : Bool} : DE N (tC (.bl b)) σ H (.bool b) := fun _ H1 _ _ _ q => q _ H1 (Same.refl H1) (.bl b)
theorem de_non : DE N (tC .non) σ H .none := fun _ H1 _ _ _ q => q _ H1 (Same.refl H1) .non
theorem de_str {b : Str} : DE N (tC (.str b)) σ H (.str b) := fun _ H1 _ _ _ q => q _ H1 (Same.refl H1) (.str b)
theorem de_op {r : R2} (ha : DE N ta σ H x) (hb : DE N tb σ H y) (hr : R2D r x y z) : DE N (tOp r ta tb) σ H z := fun N1 H1 s f Q q =>
  ha N1 H1 s f _ fun v H2 s2 r2 => hb N1 H2 (s.same s2) (f.same s2) _ fun u H3 s3 r3 => hr N1 H3 v u Q ((f.same s2).same s3) (r2.same s3) r3 fun w H4 s4 r4 => q w H4 ((s2.trans s3).trans s4) r4
theorem da_nil : DA N tNil σ H [] := fun _ H1 _ _ _ q => q [] H1 (Same.refl H1) .nil
theorem da_cons {tr : TA} {ds : List PyData} (h : DE N te σ H d) (hr : DA N tr σ H ds) : DA N (tCons te tr) σ H (d :: ds) := fun N1 H1 s f Q q =>
  h N1 H1 s f _ fun v H2 s2 r2 => hr N1 H2 (s.same s2) (f.same s2) _ fun vs H3 s3 r3 => q (v :: vs) H3 (s2.trans s3) (.cons (r2.same s3) r3)
theorem de_tup {ta : TA} {ds : List PyData} (h : DA N ta σ H ds) (hl : ds.length ≤ 1000 := by first | decide | simp) : DE N (tTup ta) σ H (.tuple ds) := fun N1 H1 s f Q q =>
  h N1 H1 s f _ fun vs H2 s2 r2 => ⟨Nat.le_of_lt (small1000 (by rw [r2.len]; exact hl)), fun p hp => q _ _ (s2.trans (same_upd hp)) (.tup (f p (s2.free hp)) upd_same (r2.same (same_upd hp)))⟩
theorem de_lst {ta : TA} {ds : List PyData} (h : DA N ta σ H ds) (hl : ds.length ≤ 1000 := by first | decide | simp) : DE N (tLst ta) σ H (.list ds) := fun N1 H1 s f Q q =>
  h N1 H1 s f _ fun vs H2 s2 r2 => ⟨Nat.le_of_lt (small1000 (by rw [r2.len]; exact hl)), fun p hp => q _ _ (s2.trans (same_upd hp)) (.lst (f p (s2.free hp)) upd_same (r2.same (same_upd hp)))⟩
theorem de_cb {r : List V → Hp → VK → Prop} {ta : TA} {ds : List PyData} (h : DA N ta σ H ds) (hr : RCD r ds z) : DE N (tCB r ta) σ H z := fun N1 H1 s f Q q =>
  h N1 H1 s f _ fun vs H2 s2 r2 => hr N1 H2 vs Q (f.same s2) r2 fun w H3 s3 r3 => q w H3 (s2.trans s3) r3
theorem do_none : DO N tNoPart σ H none := fun _ H1 _ _ _ q => q H1 (Same.refl H1)
theorem do_some {i : Int} (h : DE N te σ H (.int i)) : DO N (tPart te) σ H (some i) := fun N1 H1 s f Q q => h N1 H1 s f _ fun v H2 s2 r2 => by cases r2; exact ⟨i, rfl, q H2 s2⟩
-- tests
theorem dt_test {b : Bool} (h : DE N te σ H (.bool b)) : DT N (tTest te) σ H b := fun N1 H1 s f _ q => h N1 H1 s f _ fun v H2 s2 r2 => by cases r2; exact ⟨b, rfl, q H2 s2⟩
theorem dt_B {b : Bool} (h : DE N te σ H (.bool b)) : DT N (tB te) σ H b := fun N1 H1 s f _ q => h N1 H1 s f _ fun v H2 s2 r2 => by cases r2; exact ⟨b, rfl, q H2 s2⟩
theorem dt_and {a b : Bool} (h1 : DT N t σ H a) (h2 : a = true → DT N u σ H b) : DT N (tAnd t u) σ H (a && b) := fun N1 H1 s f Q q => h1 N1 H1 s f _ fun H2 s2 => by
  cases a with
  | true => exact h2 rfl N1 H2 (s.same s2) (f.same s2) Q fun H3 s3 => q H3 (s2.trans s3)
  | false => exact q H2 s2
theorem dt_or {a b : Bool} (h1 : DT N t σ H a) (h2 : a = false → DT N u σ H b) : DT N (tOr t u) σ H (a || b) := fun N1 H1 s f Q q => h1 N1 H1 s f _ fun H2 s2 => by
  cases a with
  | true => exact q H2 s2
  | false => exact h2 rfl N1 H2 (s.same s2) (f.same s2) Q fun H3 s3 => q H3 (s2.trans s3)
theorem dt_not {a : Bool} (h1 : DT N t σ H a) : DT N (tNot t) σ H (!a) := fun N1 H1 s f _ q => h1 N1 H1 s f _ fun H2 s2 => q H2 s2
theorem dt_yes : DT N tYes σ H true := fun _ H1 _ _ _ q => q H1 (Same.refl H1)
theorem de_andV {a b : Bool} (h1 : DE N ta σ H (.bool a)) (h2 : a = true → DE N tb σ H (.bool b)) : DE N (tAndV ta tb) σ H (.bool (a && b)) := fun N1 H1 s f Q q => h1 N1 H1 s f _ fun v H2 s2 r2 => by
  cases r2
  refine ⟨a, rfl, ?_⟩
  cases a with
  | true => exact h2 rfl N1 H2 (s.same s2) (f.same s2) Q fun w H3 s3 r3 => q w H3 (s2.trans s3) r3
  | false => exact q _ H2 s2 (.bl false)
theorem de_orV {a b : Bool} (h1 : DE N ta σ H (.bool a)) (h2 : a = false → DE N tb σ H (.bool b)) : DE N (tOrV ta tb) σ H (.bool (a || b)) := fun N1 H1 s f Q q => h1 N1 H1 s f _ fun v H2 s2 r2 => by
  cases r2
  refine ⟨a, rfl, ?_⟩
  cases a with
  | true => exact q _ H2 s2 (.bl true)
  | false => exact h2 rfl N1 H2 (s.same s2) (f.same s2) Q fun w H3 s3 r3 => q w H3 (s2.trans s3) r3
theorem de_notV {a : Bool} (h1 : DE N ta σ H (.bool a)) : DE N (tNotV ta) σ H (.bool (!a)) := fun N1 H1 s f _ q => h1 N1 H1 s f _ fun v H2 s2 r2 => by
  cases r2
  exact ⟨a, rfl, q _ H2 s2 (.bl _)⟩
theorem de_if {b : Bool} (h : DT N t σ H b) (h1 : b = true → DE N ta σ H d) (h2 : b = false → DE N tb σ H d) : DE N (tIf t ta tb) σ H d := fun N1 H1 s f Q q => h N1 H1 s f _ fun H2 s2 => by
  cases b with
  | true => exact h1 rfl N1 H2 (s.same s2) (f.same s2) Q fun w H3 s3 r3 => q w H3 (s2.trans s3) r3
  | false => exact h2 rfl N1 H2 (s.same s2) (f.same s2) Q fun w H3 s3 r3 => q w H3 (s2.trans s3) r3
def nonD : PyData → Bool
  | .none => true
  | _ => false
theorem de_isN (h : DE N ta σ H x) : DE N (tIsN ta) σ H (.bool (nonD x)) := fun N1 H1 s f Q q => h N1 H1 s f _ fun v H2 s2 r2 => by
  have e : (V.bl (decide (v = .non))) = .bl (nonD x) := by cases r2 <;> rfl
  show Q (.bl (decide (v = .non))) H2
  rw [e]; exact q _ H2 s2 (.bl _)
theorem de_notN (h : DE N ta σ H x) : DE N (tNotN ta) σ H (.bool (!nonD x)) := fun N1 H1 s f Q q => h N1 H1 s f _ fun v H2 s2 r2 => by
  have e : (V.bl (!decide (v = .non))) = .bl (!nonD x) := by cases r2 <;> rfl
  show Q (.bl (!decide (v = .non))) H2
  rw [e]; exact q _ H2 s2 (.bl _)
-- operations
theorem r2_i {g : Int → Int → Int} {i j : Int} : R2D (rI0 fun a b => .int (g a b)) (.int i) (.int j) (.int (g i j)) := fun N H v u Q _ r1 r2 q => by
  cases r1; cases r2; exact ⟨i, j, rfl, rfl, q _ H (Same.refl H) (.int _)⟩
theorem r2_b {g : Int → Int → Bool} {i j : Int} : R2D (rI0 fun a b => .bl (g a b)) (.int i) (.int j) (.bool (g i j)) := fun N H v u Q _ r1 r2 q => by
  cases r1; cases r2; exact ⟨i, j, rfl, rfl, q _ H (Same.refl H) (.bl _)⟩
theorem r2_ic {C : Int → Int → Prop} {g : Int → Int → Int} {i j : Int} (c : C i j) : R2D (rI C fun a b => .int (g a b)) (.int i) (.int j) (.int (g i j)) := fun N H v u Q _ r1 r2 q => by
  cases r1; cases r2; exact ⟨i, j, rfl, rfl, c, q _ H (Same.refl H) (.int _)⟩
theorem r2_eqD (sx : SeqAt.shaped x = true) (sy : SeqAt.shaped y = true) : R2D (rEqD K) x y (.bool (PyData.eqv x y)) := fun N H v u Q _ r1 r2 q => ⟨x, y, r1.dp, r2.dp, sx, sy, q _ H (Same.refl H) (.bl _)⟩
theorem r2_neD (sx : SeqAt.shaped x = true) (sy : SeqAt.shaped y = true) : R2D (rNeD K) x y (.bool (!PyData.eqv x y)) := fun N H v u Q _ r1 r2 q => ⟨x, y, r1.dp, r2.dp, sx, sy, q _ H (Same.refl H) (.bl _)⟩
/-- the items of a list or a tuple -/
def itemsD : PyData → Option (List PyData)
  | .list ds => some ds
  | .tuple ds => some ds
  | _ => none
theorem Rp.items {ds : List PyData} (h : Rp N H v d) (e : itemsD d = some ds) : ∃ a xs, v = .ref a ∧ N a ∧ (H a = some (.lst xs) ∨ H a = some (.tup xs)) ∧ Rps N H xs ds := by
  cases h <;> cases e
  · exact ⟨_, _, rfl, ‹_›, .inl ‹_›, ‹_›⟩
  · exact ⟨_, _, rfl, ‹_›, .inr ‹_›, ‹_›⟩
theorem Rp.seq {ds : List PyData} (h : Rp N H v d) (e : itemsD d = some ds) : ∃ a xs, v = .ref a ∧ N a ∧ (SqL K H a xs ∨ SqT K H a xs) ∧ Rps N H xs ds := by
  obtain ⟨a, xs, e1, n, h1, r⟩ := h.items e
  exact ⟨a, xs, e1, n, h1.imp SqL.of SqT.of, r⟩
theorem inV_ints (i : Int) : ∀ ns : List Int, inV (.int i) (ns.map V.int) = decide (i ∈ ns)
  | [] => by simp [inV]
  | n :: ns => by
    have ih := inV_ints i ns
    unfold inV at ih ⊢
    simp only [List.map_cons, List.any_cons]
    rw [ih]
    have e : eqV (.int n) (.int i) = decide (n = i) := by first | rfl | simp [eqV]
    rw [e]
    by_cases h : n = i
    · subst h; simp
    · simp [h, Ne.symm h]
theorem r2_in {i : Int} {ns : List Int} (e : itemsD y = some (ns.map PyData.int) := by rfl) : R2D (rIn K false) (.int i) y (.bool (decide (i ∈ ns))) := fun N H v u Q _ r1 r2 q => by
  cases r1
  obtain ⟨a, xs, rfl, _, h, r⟩ := r2.seq (K := K) e
  have hx := r.ints
  subst hx
  refine ⟨a, _, rfl, h, rfl, ?_, ?_⟩
  · simp [List.all_eq_true, flatV]
  · show Q (.bl (inV (.int i) (ns.map V.int))) H
    rw [inV_ints]; exact q _ H (Same.refl H) (.bl _)
theorem r2_nin {i : Int} {ns : List Int} (e : itemsD y = some (ns.map PyData.int) := by rfl) : R2D (rIn K true) (.int i) y (.bool (!decide (i ∈ ns))) := fun N H v u Q _ r1 r2 q => by
  cases r1
  obtain ⟨a, xs, rfl, _, h, r⟩ := r2.seq (K := K) e
  have hx := r.ints
  subst hx
  refine ⟨a, _, rfl, h, rfl, ?_, ?_⟩
  · simp [List.all_eq_true, flatV]
  · show Q (.bl (!inV (.int i) (ns.map V.int))) H
    rw [inV_ints]; exact q _ H (Same.refl H) (.bl _)
theorem r2_catT {xs ys : List PyData} (hl : xs.length + ys.length ≤ 10000000) : R2D (rCatA K) (.tuple xs) (.tuple ys) (.tuple (xs ++ ys)) := fun N H v u Q f r1 r2 q => by
  cases r1 with
  | tup n1 h1 q1 =>
    cases r2 with
    | tup n2 h2 q2 =>
      refine ⟨_, _, _, _, rfl, rfl, SqT.of h1, SqT.of h2, Nat.le_trans (by rw [q1.len, q2.len]; exact hl) (by decide : 10000000 ≤ sizeLine), fun e => ?_, fun _ e => ?_, fun _ _ p hp => ?_⟩
      · subst e
        cases q1
        exact q _ H (Same.refl H) (.tup n2 h2 q2)
      · subst e
        cases q2
        rw [List.append_nil] at q
        exact q _ H (Same.refl H) (.tup n1 h1 q1)
      · exact q _ _ (same_upd hp) (.tup (f p hp) upd_same ((q1.app q2).same (same_upd hp)))
theorem r2_catL {xs ys : List PyData} (hl : xs.length + ys.length ≤ 10000000) : R2D rCat (.list xs) (.list ys) (.list (xs ++ ys)) := fun N H v u Q f r1 r2 q => by
  cases r1 with
  | lst n1 h1 q1 =>
    cases r2 with
    | lst n2 h2 q2 =>
      exact ⟨_, _, _, _, rfl, rfl, h1, h2, Nat.le_trans (by rw [q1.len, q2.len]; exact hl) (by decide : 10000000 ≤ sizeLine), fun p hp => q _ _ (same_upd hp) (.lst (f p hp) upd_same ((q1.app q2).same (same_upd hp)))⟩
theorem Rps.atI {xs : List V} {ds : List PyData} (h : Rps N H xs ds) {i : Int} {z : PyData} (e : L2.atI ds i = some z) : ∃ w, L2.atI xs i = some w ∧ Rp N H w z := by
  unfold L2.atI at e ⊢
  rw [h.len]
  cases e2 : ixN ds.length i with
  | none => rw [e2] at e; cases e
  | some j =>
    rw [e2] at e
    obtain ⟨w, hw, r⟩ := h.get' (i := j) e
    exact ⟨w, hw, r⟩
theorem r2_ix {ds : List PyData} {i : Int} (e : L2.atI ds i = some z) (ex : itemsD x = some ds := by rfl) : R2D (rIx K) x (.int i) z := fun N H v u Q f r1 r2 q => by
  cases r2
  obtain ⟨a, xs, rfl, _, h, r⟩ := r1.seq (K := K) ex
  obtain ⟨w, hw, rw'⟩ := r.atI e
  rcases h with h | h
  · exact .inl ⟨a, xs, i, w, rfl, rfl, h, hw, q w H (Same.refl H) rw'⟩
  · exact .inr (.inl ⟨a, xs, i, w, rfl, rfl, h, hw, q w H (Same.refl H) rw'⟩)
def cutD (xs : List PyData) (lo hi : Option Int) : List PyData := (xs.drop (HT.sIx xs.length 0 lo)).take (HT.sIx xs.length xs.length hi - HT.sIx xs.length 0 lo)
theorem Rps.cut {xs : List V} {ds : List PyData} (h : Rps N H xs ds) (lo hi : Option Int) : Rps N H (cutV xs lo hi) (cutD ds lo hi) := by
  unfold cutV cutD
  rw [h.len]
  exact (h.drop _).take _
theorem cutD_all {ds : List PyData} {lo hi : Option Int} (h : HT.sIx ds.length 0 lo = 0 ∧ HT.sIx ds.length ds.length hi = ds.length) : cutD ds lo hi = ds := by
  unfold cutD
  rw [h.1, h.2]
  simp
theorem de_slT {tl th : TO} {ds : List PyData} {lo hi : Option Int} (h : DE N te σ H (.tuple ds)) (h1 : DO N tl σ H lo) (h2 : DO N th σ H hi) : DE N (tSl (rSlA K) te tl th) σ H (.tuple (cutD ds lo hi)) := fun N1 H1 s f Q q =>
  h N1 H1 s f _ fun v H2 s2 r2 => h1 N1 H2 (s.same s2) (f.same s2) _ fun H3 s3 => h2 N1 H3 ((s.same s2).same s3) ((f.same s2).same s3) _ fun H4 s4 => by
    have r4 := (r2.same s3).same s4
    have f4 := ((f.same s2).same s3).same s4
    have s14 := (s2.trans s3).trans s4
    cases r4 with
    | tup n h q4 =>
      refine ⟨_, _, rfl, SqT.of h, fun w => ?_, fun _ p hp => ?_⟩
      · rw [q4.len] at w
        refine q _ H4 s14 ?_
        rw [cutD_all w]
        exact .tup n h q4
      · exact q _ _ (s14.trans (same_upd hp)) (.tup (f4 p hp) upd_same ((q4.cut lo hi).same (same_upd hp)))
theorem de_slL {tl th : TO} {ds : List PyData} {lo hi : Option Int} (h : DE N te σ H (.list ds)) (h1 : DO N tl σ H lo) (h2 : DO N th σ H hi) : DE N (tSl (rSlL K) te tl th) σ H (.list (cutD ds lo hi)) := fun N1 H1 s f Q q =>
  h N1 H1 s f _ fun v H2 s2 r2 => h1 N1 H2 (s.same s2) (f.same s2) _ fun H3 s3 => h2 N1 H3 ((s.same s2).same s3) ((f.same s2).same s3) _ fun H4 s4 => by
    have r4 := (r2.same s3).same s4
    have f4 := ((f.same s2).same s3).same s4
    have s14 := (s2.trans s3).trans s4
    cases r4 with
    | lst n h q4 => exact ⟨_, _, rfl, SqL.of h, fun p hp => q _ _ (s14.trans (same_upd hp)) (.lst (f4 p hp) upd_same ((q4.cut lo hi).same (same_upd hp)))⟩
-- built-ins
theorem rc_len {ds : List PyData} (e : itemsD x = some ds := by rfl) : RCD (fun xs H Q => ∃ p ys, xs = [.ref p] ∧ (SqL K H p ys ∨ SqT K H p ys) ∧ Q (.int ys.length) H) [x] (.int (ds.length : Nat)) := fun N H vs Q f r q => by
  cases r with
  | cons r t =>
    cases t
    obtain ⟨a, xs, rfl, _, h, r⟩ := r.seq (K := K) e
    exact ⟨a, xs, rfl, h, by rw [r.len]; exact q _ H (Same.refl H) (.int _)⟩
theorem rc_list {ds : List PyData} (e : itemsD x = some ds := by rfl) : RCD (fun xs H Q => ∃ p ys, xs = [.ref p] ∧ (SqL K H p ys ∨ SqT K H p ys) ∧ ∀ l, H l = none → Q (.ref l) (upd H l (.lst ys))) [x] (.list ds) := fun N H vs Q f r q => by
  cases r with
  | cons r t =>
    cases t
    obtain ⟨a, xs, rfl, _, h, r⟩ := r.seq (K := K) e
    exact ⟨a, xs, rfl, h, fun l hl => q _ _ (same_upd hl) (.lst (f l hl) upd_same (r.same (same_upd hl)))⟩
theorem rc_tuple {ds : List PyData} : RCD (fun xs H Q => ∃ p ys, xs = [.ref p] ∧ ((SqL K H p ys ∧ ∀ l, H l = none → Q (.ref l) (upd H l (.tup ys))) ∨ (SqT K H p ys ∧ Q (.ref p) H))) [.list ds] (.tuple ds) := fun N H vs Q f r q => by
  cases r with
  | cons r t =>
    cases t
    cases r with
    | lst n h r => exact ⟨_, _, rfl, .inl ⟨SqL.of h, fun l hl => q _ _ (same_upd hl) (.tup (f l hl) upd_same (r.same (same_upd hl)))⟩⟩
theorem rc_all {bs : List Bool} : RCD (rAll K) [.list (bs.map PyData.bool)] (.bool (bs.all id)) := fun N H vs Q f r q => by
  cases r with
  | cons r t =>
    cases t
    cases r with
    | lst n h r => 
      have e := r.bls
      subst e
      exact ⟨_, bs, rfl, SqL.of h, q _ H (Same.refl H) (.bl _)⟩
theorem rc_any {bs : List Bool} : RCD (rAny K) [.list (bs.map PyData.bool)] (.bool (bs.any id)) := fun N H vs Q f r q => by
  cases r with
  | cons r t =>
    cases t
    cases r with
    | lst n h r => 
      have e := r.bls
      subst e
      exact ⟨_, bs, rfl, SqL.of h, q _ H (Same.refl H) (.bl _)⟩
theorem rc_sum {ns : List Int} : RCD (rSum K) [.list (ns.map PyData.int)] (.int ns.sum) := fun N H vs Q f r q => by
  cases r with
  | cons r t =>
    cases t
    cases r with
    | lst n h r => 
      have e := r.ints
      subst e
      exact ⟨_, ns, rfl, SqL.of h, q _ H (Same.refl H) (.int _)⟩
theorem rc_min2 {i j : Int} : RCD (fun xs H Q => ∃ i j, xs = [.int i, .int j] ∧ Q (.int (if j < i then j else i)) H) [.int i, .int j] (.int (if j < i then j else i)) := fun N H vs Q f r q => by
  cases r with
  | cons r t =>
    cases t with
    | cons r2 t =>
      cases t; cases r; cases r2
      exact ⟨i, j, rfl, q _ H (Same.refl H) (.int _)⟩
/-- which kind data are of -/
def kindD : PyData → String
  | .none => "NoneType"
  | .bool _ => "bool"
  | .int _ => "int"
  | .str _ => "str"
  | .list _ => "list"
  | .tuple _ => "tuple"
  | .dict _ => "dict"
theorem Rp.ty (h : Rp N H v d) : TyX K H v (.type (kindD d)) := by
  cases h with
  | non => exact .base .non
  | bl b => exact .base (.bl b)
  | int i => exact .base (.int i)
  | str x => exact .base (.str x)
  | lst n e r => exact .base (.lst e)
  | tup n e r => exact .base (.tup e)
/-- x is a kind: told by its name -/
def rTyc (c : String) : List V → Hp → VK → Prop := fun _ _ _ => True
theorem de_tru (h : DE N ta σ H x) {k : Bool} (hk : (∃ b, x = .bool b ∧ k = b) ∨ (∃ i, x = .int i ∧ k = (i != 0)) ∨ ∃ ds, itemsD x = some ds ∧ k = !ds.isEmpty) : DT N (fun σ H Q => ta σ H fun x H' => ∃ k, TruV K x H' k ∧ Q k H') σ H k := fun N1 H1 s f Q q =>
  h N1 H1 s f _ fun v H2 s2 r2 => by
    refine ⟨k, ?_, q H2 s2⟩
    rcases hk with ⟨b, rfl, rfl⟩ | ⟨i, rfl, rfl⟩ | ⟨ds, e, rfl⟩
    · cases r2; rfl
    · cases r2; rfl
    · obtain ⟨a, xs, rfl, _, h, r⟩ := r2.seq (K := K) e
      have e2 : xs.isEmpty = ds.isEmpty := by
        cases r <;> rfl
      rcases h with h | h
      · exact .inl ⟨xs, h, by rw [e2]⟩
      · exact .inr (.inl ⟨xs, h, by rw [e2]⟩)
end
section
variable {X : Cx} {N : NP} {σ : L2.St} {H : Hp} {ta tb te tx : TE} {t u : TT} {d x y z : PyData} {v : V}
/-- isinstance(e, T): T told by its name -/
def rIsK : List V → Hp → VK → Prop := fun xs H Q => ∃ (x : V) (c : String) (d : PyData) (N : NP) (b : Bool), xs = [x, .ty c] ∧ Rp N H x d ∧ kitB (kindD d) c = some b ∧ Q (.bl b) H
theorem call_isK : CallR X (.builtin "isinstance") rIsK := fun pn s σ H xs us Q I r ⟨x, c, d, N, b, e, h, hk, q⟩ =>
  call_isi pn s σ H xs us Q I r ⟨x, .ty c, _, _, _, e, .ty c, h.ty, kit_ty hk, q⟩
theorem pe_tyn {x : Str} {pos : Pos} (n : String) (hg : Gl X x) (hm : X.mg x = none) (hv : bootBuiltins x = some (.type n)) (hn : x ≠ "__name__" := by decide) (hd : (x == ("__debug__" : Str)) = false := by decide) : PE X (.Name x pos) (tC (.ty n)) :=
  pe_bltn (v := .ty n) hg hm hv (by rfl) hn hd
theorem de_isK {c : String} {b : Bool} (h : DE N te σ H d) (hk : kitB (kindD d) c = some b := by ((try simp only [kindD]); decide +kernel)) : DE N (tCB rIsK (tCons te (tCons (tC (.ty c)) tNil))) σ H (.bool b) := fun N1 H1 s f Q q =>
  h N1 H1 s f _ fun v H2 s2 r2 => ⟨v, c, d, N1, b, rfl, r2, hk, q _ H2 s2 (.bl b)⟩
end
end Pu

namespace Pu
open PySem PySem.Spec PyProof.Rows L2
/-! ### the library's walks that give new pairs, as turns of the tracked heap -/
/-- each turn a new pair, of which says tells what it holds -/
def ItP (go : Nat → Hp → Prop) (says : Nat → Hp → V → V → Prop) (stop : Nat → Hp → Prop) : It where
  go := go
  yld := fun i H v H' => ∃ r p q, (v = .ref r ∧ H r = none ∧ H' = upd H r (.tup [p, q])) ∧ says i H p q
  stop := stop
/-- at its i-th turn the iterator at it walks so as the library tells: n pairs in all -/
def Pairs (P : Program) (w : World) (A : Around) (tg : Expr) (it : Addr) (fp : List Addr) (tn : Nat → Heap → Prop) (i n : Nat) (h : Heap) (pt : Nat → Value → Value → Prop) : Prop :=
  ∃ fr wr St, GoesN P w A tg it fr wr n (fun j h0 v h1 => ∃ r, v = .ref r ∧ h0.objs.size ≤ r ∧ ∃ a b, pt j a b ∧ h1.IsTuple r #[a, b]) St ∧ (∀ c ∈ wr, c ∈ fp) ∧ St i h ∧ ∀ g, St (i + 1) g → tn (i + 1) g
theorem turn_pairs {P : Program} {w : World} {K : PySem.W.Frag} {elts : List Expr} {kk : Nat} {tpos : Pos} {it : Addr} {fp : List Addr} {tn : Nat → Heap → Prop} {go stop : Nat → Hp → Prop} {says : Nat → Hp → V → V → Prop} (mem : it ∈ fp)
    (obj : ∀ i h, tn i h → ∀ c ∈ fp, ∃ o, h.get? c = some o ∧ ∀ v, o.data ≠ .cell v) (keep : ∀ i h h', tn i h → (∀ c ∈ fp, ∀ o, h.get? c = some o → h'.get? c = some o) → tn i h')
    (self : ∀ (A : Around) (i : Nat) (s : Shared) (Q : Value → Shared → Prop) (E : Value → Shared → Prop), tn i s.heap → Q (.ref it) s → wpAny (model P w) A (pyIter (.ref it)) Q E s)
    (walk : ∀ (X : Cx), X.prog = P → X.w = w → X.K = K → X.A.handled = none → ∀ (i : Nat) (pins : List (Addr × Obj)) (s : Shared) (σ : L2.St) (H : Hp), Inv X pins σ H s → tn i s.heap → go i H ∨ stop i H →
      ∃ n pt, Pairs P w X.A (.Tuple elts kk tpos) it fp tn i n s.heap pt ∧ (go i H → i < n ∧ ∀ a b, pt i a b → ∃ p q, RelV p a ∧ RelV q b ∧ says i H p q) ∧ (stop i H → i = n)) :
    Turn P w K (.Tuple elts kk tpos) (ItP go says stop) fp it tn where
  mem := mem
  obj := obj
  keep := keep
  self := self
  item := by
    rintro X rfl rfl rfl calm i pins s σ H E I own st more
    obtain ⟨n, pt, ⟨fr, wr, St, W, sub, now, nxt⟩, told, _⟩ := walk X rfl rfl rfl (I.ok.hd calm) i pins s σ H I st (.inl more)
    refine W.goes i s _ E (told more).1 now fun v h' tk ⟨r, e, hr, a, b, pab, pair⟩ st' still _ => ?_
    subst e
    obtain ⟨p, q, rp, rq, sy⟩ := (told more).2 a b pab
    have rest : ∀ c o, c ∉ fp → s.heap.get? c = some o → h'.get? c = some o := fun c o nc => still c o fun z => nc (sub c z)
    exact ⟨.ref r, _, I.turnedNew (t' := tk) (ob := .tup [p, q]) rest own hr ⟨(by decide : 2 ≤ sizeLine), [a, b], .cons rp (.cons rq .nil), pair⟩, rfl, ⟨r, p, q, ⟨rfl, I.hok.fresh hr, rfl⟩, sy⟩, nxt h' st', fun c hc => by
      obtain ⟨o, ho, _⟩ := obj i _ st c hc
      rw [upd_ne (Nat.ne_of_lt (Nat.lt_of_lt_of_le (Heap.lt_size ho) hr))]
      exact (own c hc).1⟩
  done := by
    rintro X rfl rfl rfl calm i pins s σ H E I own st over
    obtain ⟨n, pt, ⟨fr, wr, St, W, sub, now, _⟩, _, told⟩ := walk X rfl rfl rfl (I.ok.hd calm) i pins s σ H I st (.inr over)
    exact W.stops s _ E (told over ▸ now) fun h' tk still _ => I.turnedL (t' := tk) (fun c o nc => still c o fun z => nc (sub c z)) own
end Pu

namespace Pu
open PySem PySem.Spec PyProof.Rows L2
open AutoSeq1 (wpAny_loadPart')
/-! ### enumerate(t), t a tuple -/
/-- laid into the heap, one behind the other -/
def born (h : Heap) : List Obj → Heap
  | [] => h
  | o :: rest => born (h.push o) rest
theorem born_old : ∀ (row : List Obj) {h : Heap} {c : Addr} {o : Obj}, h.get? c = some o → (born h row).get? c = some o
  | [], _, _, _, e => e
  | _ :: rest, _, _, _, e => born_old rest (Heap.get?_push_of_some _ e)
theorem born_new (row : List Obj) : ∀ {h : Heap} {c : Addr} {o : Obj} (k : Nat), row[k]? = some o → o.isFreed = false → c = h.objs.size + k → (born h row).get? c = some o := by
  induction row with
  | nil => intro h c o k e; simp at e
  | cons o' rest ih =>
    intro h c o k e f r
    cases k with
    | zero =>
      obtain rfl : o' = o := by simpa using e
      rw [r]
      exact born_old rest (Heap.get?_push_size _ f)
    | succ k => exact ih (h := h.push o') k (by simpa using e) f (by rw [Heap.size_push, r]; exact Nat.add_right_comm _ k 1)
/-- what enumerate makes of the tuple at l, from the place n on -/
def enumRow (n l : Addr) : List Obj := [{ cls := .type "tuple_iterator", data := .fields #[.ref l, .int 0 0] }, { cls := .type "enumerate", data := .fields #[.none, .bool false, .ref n, rawInt 0, .none, .none] }]
theorem enum_new (l : Addr) (items : Array Value) (room : Nat) (dct : Option Addr) (sl : Array (Option Value)) : Meets (Builtin.«enumerate.__new__» ⟨[.type "enumerate", .ref l], []⟩)
    (fun _ R s => s.heap.get? l = some { cls := .type "tuple", dict := dct, data := .seq items room, slots := sl } ∧ R (.ok (.ret (.ref (s.heap.objs.size + 1)))) { s with heap := born s.heap (enumRow s.heap.objs.size l) }) :=
  .of_wp fun prog w A R s given => by
    obtain ⟨g, glob, mods, tok, out⟩ := s
    obtain ⟨at_l, fin⟩ := given
    have is_enum := sub_enumerate
    have tup : Heap.IsTuple (Shared.heap ⟨g, glob, mods, tok, out⟩) l items := ⟨_, at_l, rfl, room, rfl⟩
    have last : R (.ok (.ret (.ref (g.push { cls := .type "tuple_iterator", data := .fields #[.ref l, .int 0 0] }).objs.size))) ⟨(g.push { cls := .type "tuple_iterator", data := .fields #[.ref l, .int 0 0] }).push { cls := .type "enumerate", data := .fields #[.none, .bool false, .ref g.objs.size, rawInt 0, .none, .none] }, glob, mods, tok, out⟩ := by
      rw [Heap.size_push]; exact fin
    clear fin
    wp_walk using wpAny_loadPart' at_l
    refine wpAny_stack_any fun frames => wpAny_pure ?_
    split
    · rename_i c _ _ _ _ _
      cases (c == Value.type "enumerate")
      all_goals
        wp_walk using wpAny_loadPart' at_l, wpAny_pyIter_tuple tup
        exact ⟨_, rfl, last⟩
    · wp_walk using wpAny_loadPart' at_l, wpAny_pyIter_tuple tup
      exact ⟨_, rfl, last⟩
theorem enum_call {prog : Program} {w : World} {A : Around} {E : Value → Shared → Prop} {s : Shared} {l : Addr} {items : Array Value} {Q : Value → Shared → Prop} (tup : s.heap.IsTuple l items)
    (q : Q (.ref (s.heap.objs.size + 1)) { s with heap := born s.heap (enumRow s.heap.objs.size l) }) : wpAny (model prog w) A (call (.type "enumerate") [.ref l]) Q E s := by
  obtain ⟨⟨cls, dct, dat, sl⟩, at_l, e1, room, e2⟩ := tup
  dsimp only at e1 e2
  subst e1 e2
  refine callType_new F.called_enumerate (by decide) (F.typeCall_enumerate_1 _) (F.newCall_enumerate_1 _) (fun o => F.args_object_init_2 o _) F.entry_enumerate_new (enum_new l items room dct sl) ⟨at_l, ?_⟩
  exact ⟨⟨_, born_new _ 1 rfl rfl rfl, rfl⟩, q⟩
/-- the tuple at a, each item in a new pair behind its number -/
def Itet (K : PySem.W.Frag) (a : Addr) : It :=
  ItP (fun i H => ∃ xs, SqT K H a xs ∧ i < xs.length) (fun i H p q => p = .int (i : Nat) ∧ ∀ xs, SqT K H a xs → xs[i]? = some q) (fun i H => ∃ xs, SqT K H a xs ∧ i = xs.length)
theorem on_two {φ : Addr → Prop} {x y : Addr} (h1 : φ x) (h2 : φ y) : ∀ c ∈ [x, y], φ c := fun c hc => by
  rcases List.mem_cons.mp hc with rfl | hc
  · exact h1
  · exact List.mem_singleton.mp hc ▸ h2
theorem turn_enumT {P : Program} {w : World} {K : PySem.W.Frag} {elts : List Expr} {kk : Nat} {tpos : Pos} {a e it : Addr} (n1 : e ≠ it) (n2 : a ≠ it) (n3 : e ≠ a) :
    Turn P w K (.Tuple elts kk tpos) (Itet K a) [e, it] e (fun i h => (∃ last, IsEnum h e it ((0 : Int) + (i : Nat)) last) ∧ h.IsTupleIter it a i) :=
  turn_pairs (by simp) (fun i h ⟨⟨last, me⟩, o, ho, _, dt⟩ => on_two (φ := fun c => ∃ o, h.get? c = some o ∧ ∀ v, o.data ≠ .cell v) ⟨_, me, fun _ z => nomatch z⟩ ⟨o, ho, fun _ z => by rw [dt] at z; cases z⟩)
    (fun i h h' ⟨⟨last, me⟩, at_⟩ k => ⟨⟨last, k e (by simp) _ me⟩, at_.at fun o q => k it (by simp) o q⟩) (fun A i s Q E ⟨⟨_, me⟩, _⟩ q => wpAny_pyIter_enum me q) (by
    rintro X rfl rfl rfl calm i pins s σ H I ⟨me, at_⟩ any
    obtain ⟨xs, tup⟩ : ∃ xs, SqT X.K H a xs := any.elim (fun ⟨xs, t, _⟩ => ⟨xs, t⟩) fun ⟨xs, t, _⟩ => ⟨xs, t⟩
    obtain ⟨us, rel, raw, _⟩ := I.tuple tup
    have len := rel.length
    refine ⟨us.toArray.size, fun j u v => (∃ t, u = .int ((0 : Int) + (j : Nat)) t) ∧ us.toArray[j]? = some v, ⟨_, _, _, (GoesN.enumFrom 0 (Draws.tuple (A := X.A.in1) calm it a n2 us.toArray) e n1 (by simp [n1, n3]) (by simp)).mono fun j h0 v h1 _ ⟨r, t, x, ev, hr, hx, pr⟩ => ⟨r, ev, hr, _, x, ⟨⟨t, rfl⟩, hx⟩, pr⟩, fun c hc => hc, ⟨me, at_, raw⟩, fun g q => ⟨q.1, q.2.1⟩⟩, ?_, ?_⟩
    · rintro ⟨ys, tys, lt⟩
      obtain rfl := I.tuple_inj tys tup
      refine ⟨by simp; omega, fun u v ⟨⟨t, eu⟩, ev⟩ => ?_⟩
      subst eu
      obtain ⟨v', e1, rv⟩ := rel.get (List.getElem?_eq_getElem lt)
      obtain rfl : v' = v := by simpa [e1] using ev
      exact ⟨.int (i : Nat), _, ⟨t, by rw [Int.zero_add]⟩, rv, rfl, fun zs tz => I.tuple_inj tz tup ▸ List.getElem?_eq_getElem lt⟩
    · rintro ⟨ys, tys, eq⟩
      obtain rfl := I.tuple_inj tys tup
      simp; omega)
def iEnumT (K : PySem.W.Frag) (ta : TA) : TI := fun σ H R => ta σ H fun vs H1 => ∃ a, vs = [.ref a] ∧ (∃ xs, SqT K H1 a xs) ∧ R (Itet K a) H1
theorem pi_enumT {X : Cx} {e : Expr} {ta : TA} {p pos tpos : Pos} {elts : List Expr} {kk : Nat} (hg : Gl X "enumerate") (hm : X.mg "enumerate" = none) (ha : PA X [e] ta) (hs : starEach [e] X.env = [(false, eval e X.env)] := by rfl) :
    PI X (.Tuple elts kk tpos) (.Call (.Name "enumerate" p) [e] [] pos) (iEnumT X.K ta) where
  run pins s σ H R J h := Call_ (ld_blt J hg hm boot_enumerate (PyProof.Rows.callWith_type1 (thn (ha.run pos pins s σ H _ J h) fun us t ⟨vs, G, I, rel, a, e0, ⟨xs, tup⟩, q⟩ => by
    subst e0
    obtain ⟨u, rfl, r1⟩ := rel.one
    cases r1
    obtain ⟨its, _, raw, _⟩ := I.tuple tup
    have lt : a < t.heap.objs.size := by
      obtain ⟨o, ho, _⟩ := id raw
      exact Heap.lt_size ho
    refine enum_call raw (wpAny_pyIter_enum (born_new _ 1 rfl rfl rfl) ?_)
    have new : ∀ k, FpOk X pins G (t.heap.objs.size + k) := fun k => I.fpOk (Nat.le_add_right ..) (I.hok.fresh (Nat.le_add_right ..))
    exact ⟨_, _, _, _, G, rfl, I.kept (t' := t.toks) fun _ _ => born_old _, turn_enumT (a := a) (e := t.heap.objs.size + 1) (it := t.heap.objs.size) (Nat.succ_ne_self _) (Nat.ne_of_lt lt) (Nat.ne_of_gt (Nat.lt_succ_of_lt lt)), ⟨⟨_, born_new _ 1 rfl rfl rfl⟩, _, born_new _ 0 rfl rfl rfl, rfl, rfl⟩, on_two (φ := FpOk X pins G) (new 1) (new 0), q⟩) hs rfl))
/-! ### a list or a tuple walked -/
def iSeq (K : PySem.W.Frag) (tl : TE) : TI := fun σ H R => tl σ H fun x H1 => ∃ a, x = .ref a ∧ (((∃ xs, SqL K H1 a xs) ∧ R (Itl K a) H1) ∨ ((∃ xs, SqT K H1 a xs) ∧ R (Itt K a) H1))
theorem pi_seq {X : Cx} {tg l : Expr} {tl : TE} (hl : PE X l tl) : PI X tg l (iSeq X.K tl) where
  run pins s σ H R J h := thn (hl.run pins s σ H _ J h) fun v t ⟨x, G, I, rel, a, e0, c⟩ => by
    subst e0
    cases rel
    have new : ∀ b ∈ [t.heap.objs.size], FpOk X pins G b := fun b hb => List.mem_singleton.mp hb ▸ I.fpOk (Nat.le_refl _) (I.hok.fresh (Nat.le_refl _))
    have put : ∀ (o : Obj), Inv X pins σ G { t with heap := t.heap.push o } := fun o => I.kept (t' := t.toks) fun _ _ => Heap.get?_push_of_some _
    rcases c with ⟨⟨xs, sq⟩, q⟩ | ⟨⟨xs, sq⟩, q⟩
    · obtain ⟨_, _, raw, _⟩ := I.list sq
      exact wpAny_pyIter_list raw.isList ⟨_, _, _, _, G, rfl, put _, turn_list a _, ⟨_, Heap.get?_push_size _ rfl, rfl, rfl⟩, new, q⟩
    · obtain ⟨us, _, raw, _⟩ := I.tuple sq
      exact wpAny_pyIter_tuple (show t.heap.IsTuple a us.toArray from raw) ⟨_, _, _, _, G, rfl, put _, turn_tuple a _, ⟨_, Heap.get?_push_size _ rfl, rfl, rfl⟩, new, q⟩
end Pu

namespace Pu
open PySem PySem.Spec PyProof.Rows L2
/-! ### list(zip(xs, ys)) -/
theorem zip_no_len : typeLookup (.type "zip") "__len__" = pure none := am_miss_of_fast (by decide +kernel)
theorem zip_no_hint : typeLookup (.type "zip") "__length_hint__" = pure none := am_miss_of_fast (by decide +kernel)
/-- the zip's own objects at turn i -/
structure ZSt (h : Heap) (z TI TO i1 i2 l1 l2 : Addr) (X1 X2 : Array Value) (i : Nat) (S : Addr) : Prop where
  ti : IsPair h TI (.ref i1) (.ref i2)
  h1 : h.IsListIter i1 l1 i
  h2 : h.IsListIter i2 l2 i
  a1 : h.IsList l1 X1
  a2 : h.IsList l2 X2
  to : ∃ o, h.get? TO = some o
  zz : (IsZip h z TI TO .none ∧ ∃ a b, IsPair h TO a b) ∨ ∃ T f oT, IsZipHeld h z TI TO T f ∧ h.get? T = some oT ∧ T ≠ z ∧ T ≠ i1 ∧ T ≠ i2 ∧ T ≠ S
theorem ZSt.keep {h h' : Heap} {z TI TO i1 i2 l1 l2 : Addr} {X1 X2 : Array Value} {i : Nat} {S : Addr} (st : ZSt h z TI TO i1 i2 l1 l2 X1 X2 i S) (nS : ∀ b ∈ [z, TI, TO, i1, i2, l1, l2], b ≠ S)
    (k : ∀ b o, b ≠ S → h.get? b = some o → h'.get? b = some o) : ZSt h' z TI TO i1 i2 l1 l2 X1 X2 i S := by
  refine ⟨k _ _ (nS TI (by simp)) st.ti, st.h1.at fun o e => k _ _ (nS i1 (by simp)) e, st.h2.at fun o e => k _ _ (nS i2 (by simp)) e, st.a1.at fun o e => k _ _ (nS l1 (by simp)) e, st.a2.at fun o e => k _ _ (nS l2 (by simp)) e, let ⟨o, e⟩ := st.to; ⟨o, k _ _ (nS TO (by simp)) e⟩, ?_⟩
  rcases st.zz with ⟨hz, a, b, hTO⟩ | ⟨T, f, oT, hz, hT, r1, r2, r3, r4⟩
  · exact .inl ⟨k _ _ (nS z (by simp)) hz, a, b, k _ _ (nS TO (by simp)) hTO⟩
  · exact .inr ⟨T, f, oT, k _ _ (nS z (by simp)) hz, k _ _ r4 hT, r1, r2, r3, r4⟩
section
variable {X : Cx} {pins : List (Addr × Obj)} {σ : L2.St}
theorem refs_ts (ts : List Addr) : Vals (ts.map V.ref) (ts.map Value.ref) := by
  induction ts with
  | nil => exact .nil
  | cons t ts ih => exact .cons rfl ih
theorem zip_loop (hc : X.calm = true) {A : Around} (hA : A.handled = none) {R : Result → Shared → Prop} {z TI TO i1 i2 l1 l2 S : Addr} {X1 X2 : Array Value} {xs ys : List V} (res : Value) (D : ZipApart z TI TO i1 i2 l1 l2)
    (nS : ∀ b ∈ [z, TI, TO, i1, i2, l1, l2], b ≠ S) (v1 : Vals xs X1.toList) (v2 : Vals ys X2.toList) (H1 : Hp) (hS1 : H1 S = none) (hl : xs.length = ys.length) (hz : xs.length ≤ 10000000) :
    ∀ (k i : Nat) (s : Shared) (H : Hp) (ts : List Addr) (c : Nat), xs.length - i = k → i ≤ xs.length → Inv X pins σ H s → (∀ b ∈ [z, TI, TO, i1, i2], FpOk X pins H b) → ZSt s.heap z TI TO i1 i2 l1 l2 X1 X2 i S →
      s.heap.get? S = some { cls := .type "list", dict := none, data := .seq (ts.map Value.ref).toArray c, slots := #[] } → H S = some (.lst (ts.map V.ref)) → ts.length = i → Same H1 H →
      (∀ (j : Nat) (t : Addr), ts[j]? = some t → H1 t = none ∧ t ≠ S ∧ ∃ x y, xs[j]? = some x ∧ ys[j]? = some y ∧ H t = some (.tup [x, y])) →
      (∀ (s' : Shared) (H' : Hp) (ts' : List Addr), Inv X pins σ H' s' → H' S = some (.lst (ts'.map V.ref)) → ts'.length = xs.length → Same H1 H' →
        (∀ (j : Nat) (t : Addr), ts'[j]? = some t → H1 t = none ∧ t ≠ S ∧ ∃ x y, xs[j]? = some x ∧ ys[j]? = some y ∧ H' t = some (.tup [x, y])) → R (.ok (.ret res)) s') →
      codeAny (model X.prog X.w) A (.builtin "list.extend.loop" ⟨[.ref S, .ref z, res], []⟩) R s := by
  intro k
  induction k with
  | zero =>
    intro i s H ts c hk hi I hf st hS hHS hts sm hT fin
    have hin : i = xs.length := by omega
    refine codeAny_builtin F.entry_extend_loop ?_
    rw [Around.under_plainId F.plain_extend_loop _]
    show wpAny _ A.in1 (pyNext (.ref z) >>= _) _ _ s
    have e1 : X1[i]? = none ∨ X2[i]? = none := .inl (by
      have q1 := v1.length
      have q2 : X1.toList.length = X1.size := Array.length_toList
      exact Array.getElem?_eq_none (by omega))
    refine wpAny_bind ?_
    rcases st.zz with ⟨hz', a, b, hTO⟩ | ⟨T, f, oT, hz', hT', r1, r2, r3, r4⟩
    · refine wpAny_pyNext_zip_end (show A.in1.handled = none from hA) D hz' st.ti hTO st.h1 st.h2 st.a1 st.a2 e1 fun h' hk' => ?_
      refine wpAny_pure (fin _ H ts (I.turnedL (t' := s.toks) (ch := [z, TI, TO, i1, i2]) (fun c o hb q => hk' c o (fun q' => hb (by simp [q'])) (fun q' => hb (by simp [q'])) (fun q' => hb (by simp [q'])) (fun q' => hb (by simp [q'])) q) hf) hHS (by omega) sm hT)
    · refine wpAny_pyNext_zip_end_held (show A.in1.handled = none from hA) D hz' hT' st.ti st.h1 st.h2 st.a1 st.a2 e1 fun h' hk' => ?_
      refine wpAny_pure (fin _ H ts (I.turnedL (t' := s.toks) (ch := [z, TI, TO, i1, i2]) (fun c o hb q => hk' c o (fun q' => hb (by simp [q'])) (fun q' => hb (by simp [q'])) (fun q' => hb (by simp [q'])) q) hf) hHS (by omega) sm hT)
  | succ k ih =>
    intro i s H ts c hk hi I hf st hS hHS hts sm hT fin
    have hlt : i < xs.length := by omega
    have l1' := v1.length
    have l2' := v2.length
    obtain ⟨u, hu, ru⟩ := v1.get (List.getElem?_eq_getElem hlt)
    obtain ⟨u2, hu2, ru2⟩ := v2.get (List.getElem?_eq_getElem (show i < ys.length by omega))
    have hu' : X1[i]? = some u := by simpa using hu
    have hu2' : X2[i]? = some u2 := by simpa using hu2
    have lt : ∀ {c o}, s.heap.get? c = some o → s.heap.objs.size ≠ c := fun e => Nat.ne_of_gt (Heap.lt_size e)
    have n1 : s.heap.objs.size ≠ i1 := let ⟨_, e, _⟩ := st.h1; lt e
    have n2 : s.heap.objs.size ≠ i2 := let ⟨_, e, _⟩ := st.h2; lt e
    have nSz : s.heap.objs.size ≠ S := lt hS
    refine codeAny_builtin F.entry_extend_loop ?_
    rw [Around.under_plainId F.plain_extend_loop _]
    show wpAny _ A.in1 (pyNext (.ref z) >>= _) _ _ s
    refine wpAny_bind ?_
    -- what follows the next item
    have next : ∀ h', (∀ c o, c ∉ [z, TI, TO, i1, i2] → s.heap.get? c = some o → h'.get? c = some o) → IsPair h' s.heap.objs.size u u2 → h'.objs.size = s.heap.objs.size + 1 → ZSt h' z TI TO i1 i2 l1 l2 X1 X2 (i + 1) S →
        wpAny (model X.prog X.w) A.in1 (do updateSeq S (·.push (.ref s.heap.objs.size)); again (.builtin "list.extend.loop" ⟨[.ref S, .ref z, res], []⟩))
          (fun fin s' => match fin with | .done f => R (.ok f) s' | .again c' => c'.quiet = true ∧ codeAny (model X.prog X.w) A c' R s') (fun e s' => R (.error e) s') { s with heap := h' } := by
      intro h' hk' hT2 hsz st'
      have hn : H s.heap.objs.size = none := I.hok.fresh (Nat.le_refl _)
      have new : ObjOk X.prog X.w (upd H s.heap.objs.size (.tup [xs[i], ys[i]'(by omega)])) h' s.heap.objs.size (.tup [xs[i], ys[i]'(by omega)]) :=
        ⟨by show 2 ≤ sizeLine; decide, [u, u2], .cons ru (.cons ru2 .nil), ⟨_, hT2, rfl, _, rfl⟩⟩
      have I1 := I.turnedNew (t' := s.toks) (ch := [z, TI, TO, i1, i2]) hk' hf (Nat.le_refl _) new
      have hS' : h'.get? S = some { cls := .type "list", dict := none, data := .seq (ts.map Value.ref).toArray c, slots := #[] } := hk' S _ (fun hm => by
        have hm' : S = z ∨ S = TI ∨ S = TO ∨ S = i1 ∨ S = i2 := by simpa using hm
        rcases hm' with e | e | e | e | e
        · exact nS z (by simp) e.symm
        · exact nS TI (by simp) e.symm
        · exact nS TO (by simp) e.symm
        · exact nS i1 (by simp) e.symm
        · exact nS i2 (by simp) e.symm) hS
      have hHS' : (upd H s.heap.objs.size (.tup [xs[i], ys[i]'(by omega)])) S = some (.lst (ts.map V.ref)) := by rw [upd_ne (Ne.symm nSz)]; exact hHS
      refine wpAny_bind ?_
      have szb : ((ts.map Value.ref).toArray.push (.ref s.heap.objs.size)).size ≤ sizeLine + 1 := by
        rw [Array.size_push]; simp [hts, sizeLine_eq]; omega
      refine wpAny_updateSeq (s := { s with heap := h' }) hS' rfl (wpAny_pure ⟨plainId_quiet F.plain_extend_loop _, ?_⟩) (by simp [hts, sizeLine_eq]; omega) szb
      have eS := Heap.get?_update_self (h := h') (a := S) (Obj.mapSeq (·.push (Value.ref s.heap.objs.size))) hS' rfl
      have oth : ∀ b o, b ≠ S → h'.get? b = some o → (h'.update S (Obj.mapSeq (·.push (Value.ref s.heap.objs.size)))).get? b = some o := fun b o hb e => (Heap.get?_update_other _ _ (Ne.symm hb)).trans e
      have eS2 : (h'.update S (Obj.mapSeq (·.push (Value.ref s.heap.objs.size)))).get? S = some { cls := .type "list", dict := none, data := .seq ((ts ++ [s.heap.objs.size]).map Value.ref).toArray (c + 1), slots := #[] } := by
        rw [eS]; simp [Obj.mapSeq]
      have I2 := I1.write (t' := s.toks) (h' := h'.update S (Obj.mapSeq (·.push (Value.ref s.heap.objs.size)))) (x := S) (e := S) (o := .lst ((ts ++ [s.heap.objs.size]).map V.ref)) (by rw [hHS']; trivial) (.inl rfl) oth ⟨_, eS2⟩
        ⟨by simp [hts, sizeLine_eq]; omega, _, c + 1, refs_ts _, eS2⟩
      refine ih (i + 1) _ _ (ts ++ [s.heap.objs.size]) (c + 1) (by omega) hlt I2 (fun b hb => ?_) (st'.keep nS oth) eS2 upd_same (by simp [hts]) (fun b o e => ?_) (fun j t hj => ?_) fin
      · have f := hf b hb
        have nb : b ≠ S := nS b (by
          have e' : b = z ∨ b = TI ∨ b = TO ∨ b = i1 ∨ b = i2 := by simpa using hb
          rcases e' with q | q | q | q | q <;> simp [q])
        have nT : b ≠ s.heap.objs.size := by
          have e' : b = z ∨ b = TI ∨ b = TO ∨ b = i1 ∨ b = i2 := by simpa using hb
          rcases e' with q | q | q | q | q
          · rw [q]
            rcases st.zz with ⟨hz', _⟩ | ⟨_, _, _, hz', _⟩
            · exact (lt hz').symm
            · exact (lt hz').symm
          · rw [q]; exact (lt st.ti).symm
          · rw [q]
            obtain ⟨_, e⟩ := st.to
            exact (lt e).symm
          · rw [q]; exact n1.symm
          · rw [q]; exact n2.symm
        exact ⟨by rw [upd_ne nb, upd_ne nT]; exact f.1, f.2⟩
      · have nb : b ≠ S := fun q => by rw [q, hS1] at e; cases e
        have nT : b ≠ s.heap.objs.size := fun q => by
          have := sm b o e
          rw [q, hn] at this; cases this
        rw [upd_ne nb, upd_ne nT]
        exact sm b o e
      · by_cases hj' : j < ts.length
        · rw [List.getElem?_append_left hj'] at hj
          obtain ⟨a1, a2, x, y, ex, ey, et⟩ := hT j t hj
          have nT : t ≠ s.heap.objs.size := fun q => by rw [q, hn] at et; cases et
          exact ⟨a1, a2, x, y, ex, ey, by rw [upd_ne a2, upd_ne nT]; exact et⟩
        · have hjl : j < (ts ++ [s.heap.objs.size]).length := (List.getElem?_eq_some_iff.mp hj).1
          have ej : j = ts.length := by simp at hjl; omega
          subst ej
          rw [List.getElem?_append_right (Nat.le_refl _)] at hj
          simp at hj
          subst hj
          refine ⟨sm.free hn, nSz, xs[i], ys[i]'(by omega), by rw [hts]; exact List.getElem?_eq_getElem hlt, by rw [hts]; exact List.getElem?_eq_getElem (by omega), ?_⟩
          rw [upd_ne nSz, upd_same]
    rcases st.zz with ⟨hz', a, b, hTO⟩ | ⟨T, f, oT, hz', hT', r1, r2, r3, r4⟩
    · refine wpAny_pyNext_zip_item D hz' st.ti hTO st.h1 st.h2 st.a1 st.a2 hu' hu2' fun h' a1 a2 a3 a4 a5 a6 hk' => ?_
      exact next h' (fun c o hb q => hk' c o (fun q' => hb (by simp [q'])) (fun q' => hb (by simp [q'])) (fun q' => hb (by simp [q'])) (fun q' => hb (by simp [q'])) q) a5 a6
        ⟨hk' _ _ D.TIz D.TITO D.TIi1 D.TIi2 st.ti, a3, a4, st.a1.at fun o e => hk' _ o D.l1z D.l1TO D.l1i1 D.l1i2 e, st.a2.at fun o e => hk' _ o D.l2z D.l2TO D.l2i1 D.l2i2 e,
          ⟨_, a2⟩, .inr ⟨s.heap.objs.size, false, _, a1, a5, lt hz', n1, n2, nSz⟩⟩
    · refine wpAny_pyNext_zip_item_held D hz' hT' st.ti st.h1 st.h2 st.a1 st.a2 hu' hu2' fun h' a1 a3 a4 a5 a6 hk' => ?_
      exact next h' (fun c o hb q => hk' c o (fun q' => hb (by simp [q'])) (fun q' => hb (by simp [q'])) (fun q' => hb (by simp [q'])) q) a5 a6
        ⟨hk' _ _ D.TIz D.TIi1 D.TIi2 st.ti, a3, a4, st.a1.at fun o e => hk' _ o D.l1z D.l1i1 D.l1i2 e, st.a2.at fun o e => hk' _ o D.l2z D.l2i1 D.l2i2 e,
          let ⟨_, e⟩ := st.to; ⟨_, hk' _ _ D.TOz D.TOi1 D.TOi2 e⟩, .inr ⟨T, true, oT, a1, hk' _ _ r1 r2 r3 hT', r1, r2, r3, r4⟩⟩
end
end Pu

namespace Pu
open PySem PySem.Spec PyProof.Rows L2
/-! ### list(i) of an iterator i of which nothing tells how long it is -/
/-- all that stood in h stands in g, and at S there is the list of xs -/
def Lies (h : Heap) (S : Addr) (xs : Array Value) (g : Heap) : Prop := (∀ b o, h.get? b = some o → g.get? b = some o) ∧ ∃ c, g.get? S = some { cls := .type "list", dict := none, data := .seq xs c, slots := #[] }
section
variable {P : Program} {w : World} {A : Around} {E : Value → Shared → Prop} {s : Shared}
theorem Lies.set {S : Addr} {xs : Array Value} {f : Array Value → Array Value} {Q : Unit → Shared → Prop} {g : Heap} (L : Lies s.heap S xs g) (free : s.heap.get? S = none) (q : ∀ g', Lies s.heap S (f xs) g' → Q () { s with heap := g' }) (n1 : xs.size ≤ sizeLine) (n2 : (f xs).size ≤ sizeLine + 1) :
    wpAny (model P w) A (updateSeq S f) Q E { s with heap := g } := by
  obtain ⟨old, c, at_⟩ := L
  refine wpAny_updateSeq (s := { s with heap := g }) at_ rfl (q _ ⟨fun b o e => ?_, _, Heap.get?_update_self _ at_ rfl⟩) n1 n2
  exact (Heap.get?_update_other _ _ fun z : S = b => by rw [← z, free] at e; cases e).trans (old b o e)
theorem list_iter {T : String} {i : Addr} {Q : Value → Shared → Prop} (ty : ∀ g, (∀ b o, s.heap.get? b = some o → g.get? b = some o) → Shared.TypeIs { s with heap := g } (.ref i) T) (lt : i < s.heap.objs.size) (nl : (Value.type T == Value.type "list") = false) (nt : (Value.type T == Value.type "tuple") = false)
    (len : typeLookup (.type T) "__len__" = pure none) (hint : typeLookup (.type T) "__length_hint__" = pure none)
    (self : ∀ (A : Around) (E Q : Value → Shared → Prop) (g : Heap), (∀ b o, s.heap.get? b = some o → g.get? b = some o) → Q (.ref i) { s with heap := g } → wpAny (model P w) A (pyIter (.ref i)) Q E { s with heap := g })
    (loop : ∀ g, Lies s.heap s.heap.objs.size #[] g → codeAny (model P w) A.in1 (.builtin "list.extend.loop" ⟨[.ref s.heap.objs.size, .ref i, .none], []⟩) (wants (fun r u => r = .none ∧ Q (.ref s.heap.objs.size) u) E) { s with heap := g }) :
    wpAny (model P w) A (call (.type "list") [.ref i]) Q E s := by
  have free : s.heap.get? s.heap.objs.size = none := by
    cases e : s.heap.get? s.heap.objs.size with
    | none => rfl
    | some o => exact absurd (Heap.lt_size e) (Nat.lt_irrefl _)
  have ne : (Value.ref s.heap.objs.size == Value.ref i) = false := by simp; exact Nat.ne_of_gt lt
  refine callType_codes (Q₁ := fun v u => v = .ref s.heap.objs.size ∧ ∃ g, u = { s with heap := g } ∧ Lies s.heap s.heap.objs.size #[] g) F.called_list (F.typeCall_list_1 _) F.entry_list_init
    (code_list_new _ ⟨rfl, _, rfl, fun _ _ => Heap.get?_push_of_some _, 0, Heap.get?_push_size _ rfl⟩) (by
    rintro v u ⟨rfl, g, rfl, L⟩
    obtain ⟨c, at_⟩ := L.2
    refine ⟨⟨_, at_, rfl⟩, F.args_list_init_2 _ _, wpAny_bind (m := Builtin.List.listItems (.ref s.heap.objs.size)) (wpAny_bind (wpAny_seqItems at_ rfl (wpAny_pure (wpAny_bind (m := updateSeq s.heap.objs.size fun _ => #[]) (L.set free (fun g L => wpAny_bind (m := letGo []) (wpAny_letGo ?_)) (by decide) (by decide))))))⟩
    show wpAny _ _ (Builtin.List.listExtendWith _ _ _) _ _ _
    unfold Builtin.List.listExtendWith Builtin.List.listLengthHint
    refine wpAny_bind (wpAny_typeOf (ty g L.1) ?_)
    simp only [show Builtin.List.listSameRef (.ref s.heap.objs.size) (.ref i) = false from by simpa [Builtin.List.listSameRef] using ne, nl, nt, Bool.or_false, Bool.false_eq_true, if_false]
    refine wpAny_bind (self _ _ _ g L.1 (wpAny_bind (wpAny_holding (wpAny_bind (wpAny_specialOf (ty g L.1) len (wpAny_bind (wpAny_specialOf (ty g L.1) hint (wpAny_pure ?_))))))))
    exact wpAny_bind (m := rule "list.extend.makes-room") (wpAny_rule (wpAny_bind (m := Builtin.List.listTouch (.ref s.heap.objs.size)) (wpAny_bind (m := updateSeq s.heap.objs.size (·.push .none)) (L.set free (fun g2 L2 => L2.set free (fun g3 L3 => wpAny_pure ⟨plainId_quiet F.plain_extend_loop _, loop g3 L3⟩) (by decide) (by decide)) (by decide) (by decide))))))
end
/-! ### list(zip(e, e2)) of two lists of one length -/
/-- what is told of the pairs at ts -/
def PairsAt (H1 H' : Hp) (S : Addr) (ts : List Addr) (xs ys : List V) : Prop := ∀ (j : Nat) (t : Addr), ts[j]? = some t → H1 t = none ∧ t ≠ S ∧ ∃ x y, xs[j]? = some x ∧ ys[j]? = some y ∧ H' t = some (.tup [x, y])
def tListZip (K : PySem.W.Frag) (ta : TA) : TE := fun σ H Q => ta σ H fun vs H1 => ∃ a b xs ys, vs = [.ref a, .ref b] ∧ SqL K H1 a xs ∧ SqL K H1 b ys ∧ xs.length = ys.length ∧ xs.length ≤ 10000000 ∧
  ∀ (S : Addr) (ts : List Addr) (H' : Hp), H1 S = none → Same H1 H' → H' S = some (.lst (ts.map V.ref)) → ts.length = xs.length → PairsAt H1 H' S ts xs ys → Q (.ref S) H'
section
variable {X : Cx} {pins : List (Addr × Obj)} {σ : L2.St}
theorem list_of_zip (hc : X.calm = true) {G : Hp} {s : Shared} {a b : Addr} {us vs : List Value} {xs ys : List V} (I : Inv X pins σ G s) (la : s.heap.IsList a us.toArray) (lb : s.heap.IsList b vs.toArray) (ra : Vals xs us) (rb : Vals ys vs) (even : xs.length = ys.length) (few : xs.length ≤ 10000000) {Q : VK}
    (q : ∀ (S : Addr) (ts : List Addr) (H' : Hp), G S = none → Same G H' → H' S = some (.lst (ts.map V.ref)) → ts.length = xs.length → PairsAt G H' S ts xs ys → Q (.ref S) H') :
    wpAny (model X.prog X.w) X.A (call (.type "zip") [.ref a, .ref b]) (fun z u => wpAny (model X.prog X.w) X.A (call (.type "list") [z]) (EP X pins σ Q) X.xe u) X.xe s := by
  have below : ∀ {l : Addr} {ws : Array Value}, s.heap.IsList l ws → l < s.heap.objs.size := fun ⟨o, e, _⟩ => Heap.lt_size e
  refine zip_begins2 (begins_list a us.toArray) (begins_list b vs.toArray) la lb fun g z ti to e1 e2 size old => ?_
  have D := PySem.W.ktu_apart s.heap.objs.size a b (below la) (below lb)
  have J : Inv X pins σ G { s with heap := g } := I.kept (t' := s.toks) old
  have free : G (s.heap.objs.size + 5) = none := I.hok.fresh (Nat.le_add_right ..)
  have part : ∀ c ∈ [s.heap.objs.size + 4, s.heap.objs.size + 2, s.heap.objs.size + 3, s.heap.objs.size, s.heap.objs.size + 1], ∃ k, k < 5 ∧ c = s.heap.objs.size + k := fun c hc => by
    simp only [List.mem_cons, List.not_mem_nil, or_false] at hc
    rcases hc with rfl | rfl | rfl | rfl | rfl
    · exact ⟨4, by decide, rfl⟩
    · exact ⟨2, by decide, rfl⟩
    · exact ⟨3, by decide, rfl⟩
    · exact ⟨0, by decide, rfl⟩
    · exact ⟨1, by decide, rfl⟩
  have away : ∀ c, c < s.heap.objs.size + 5 → c ≠ s.heap.objs.size + 5 := fun c h => Nat.ne_of_lt h
  have own : ∀ c ∈ [s.heap.objs.size + 4, s.heap.objs.size + 2, s.heap.objs.size + 3, s.heap.objs.size, s.heap.objs.size + 1], FpOk X pins G c := fun c hc => by
    obtain ⟨k, _, rfl⟩ := part c hc
    exact I.fpOk (Nat.le_add_right ..) (I.hok.fresh (Nat.le_add_right ..))
  refine list_iter (s := { s with heap := g }) (T := "zip") (fun g' k => ⟨_, k _ _ z, rfl⟩) (Heap.lt_size z) (by decide) (by decide) zip_no_len zip_no_hint (fun A E Q g' k q => wpAny_pyIter_zip (k _ _ z) q) fun g' ⟨k, c, at_⟩ => ?_
  dsimp only at k at_ ⊢
  rw [size] at at_ ⊢
  have mid : Inv X pins σ (upd G (s.heap.objs.size + 5) (.lst [])) { s with heap := g' } := J.laid (t' := s.toks) k (Nat.le_of_eq size) ⟨Nat.zero_le _, [], c, .nil, at_⟩
  have dr : ∀ {l i : Addr} {ws : Array Value}, s.heap.IsList l ws → g.get? i = some { cls := .type "list_iterator", data := .fields #[.ref l, .int 0 0] } → g'.IsListIter i l 0 ∧ g'.IsList l ws := fun l e => ⟨⟨_, k _ _ e, rfl, rfl⟩, l.at fun o e => k _ _ (old _ _ e)⟩
  refine zip_loop (A := X.A.in1) hc (show X.A.in1.handled = none from I.ok.hd hc) .none D (fun c hc => away c ?_) (X1 := us.toArray) (X2 := vs.toArray) (by simpa using ra) (by simpa using rb) G free even few _ 0 _ _ [] c rfl (Nat.zero_le _) mid (fun c hc => ?_)
    ⟨k _ _ ti, (dr la e1).1, (dr lb e2).1, (dr la e1).2, (dr lb e2).2, ⟨_, k _ _ to⟩, .inl ⟨k _ _ z, _, _, k _ _ to⟩⟩ at_ upd_same rfl (same_upd free) (fun j t e => nomatch e) fun u H' ts I' at' len same told => ⟨rfl, .ref _, H', I', rfl, q _ ts H' free same at' len told⟩
  · rcases (List.mem_append (s := [s.heap.objs.size + 4, s.heap.objs.size + 2, s.heap.objs.size + 3, s.heap.objs.size, s.heap.objs.size + 1]) (t := [a, b])).mp hc with hc | hc
    · obtain ⟨k, lt, rfl⟩ := part c hc
      exact Nat.add_lt_add_left lt _
    · rcases List.mem_cons.mp hc with rfl | hc
      · exact Nat.lt_of_lt_of_le (below la) (Nat.le_add_right ..)
      · exact List.mem_singleton.mp hc ▸ Nat.lt_of_lt_of_le (below lb) (Nat.le_add_right ..)
  · obtain ⟨n, lt, rfl⟩ := part c hc
    exact ⟨(upd_ne (away _ (Nat.add_lt_add_left lt _))).trans (own _ hc).1, (own _ hc).2⟩
end
theorem pe_listZip {X : Cx} {e e2 : Expr} {ta : TA} {p p2 pos q : Pos} (hc : X.calm = true) (hg : Gl X "list") (hm : X.mg "list" = none) (hg2 : Gl X "zip") (hm2 : X.mg "zip" = none) (ha : PA X [e, e2] ta)
    (hs : starEach [e, e2] X.env = (false, eval e X.env) :: starEach [e2] X.env := by rfl) (hpl : (backTo q (starEach [e2] X.env)).any (·.1) = false := by rfl)
    (na : starEach [.Call (.Name "zip" p2) [e, e2] [] q] X.env = (false, eval (.Call (.Name "zip" p2) [e, e2] [] q) X.env) :: starEach [] X.env := by rfl) :
    PE X (.Call (.Name "list" p) [.Call (.Name "zip" p2) [e, e2] [] q] [] pos) (tListZip X.K ta) where
  run pins s σ H Q J h := Call_ (ld_blt J hg hm (by decide +kernel : bootBuiltins "list" = some (.type "list")) (PyProof.Rows.callWith_type1 (PyProof.Rows.args_cons (Call_ (ld_blt J hg2 hm2 PyProof.Rows.boot_zip
    (PyProof.Rows.callWith_type1 (thn (ha.run q pins s σ H _ J h) fun us t ⟨vs, G, I, rel, a, b, xs, ys, e0, la, lb, even, few, fin⟩ => by
      subst e0
      obtain ⟨u, v, rfl, r1, r2⟩ := vals2 rel
      cases r1
      cases r2
      obtain ⟨us, ra, wa, _⟩ := I.list la
      obtain ⟨vs, rb, wb, _⟩ := I.list lb
      exact thn (list_of_zip hc I wa.isList wb.isList ra rb even few fin) fun z u h => PyProof.Rows.args_nil h) hs hpl))) na) na rfl))
end Pu

namespace Pu
open PySem PySem.Spec PyProof.Rows L2
/-! ### sets of any keys that are told by value, by the list of their members -/
/-- a kind of key whose values can be read back -/
structure Rdr (P : Program) (w : World) (κ : Type) [DecidableEq κ] where
  kd : PySem.KeyKind P w κ
  rd : Value → κ
  back : ∀ {v : Value} {k : κ}, kd.is k v = true → rd v = k
  scan : ∀ {v : Value} {k : κ}, kd.is k v = true → v.scannable = true
section
variable {P : Program} {w : World} {κ : Type} [DecidableEq κ] (D : Rdr P w κ)
/-- a row of the table that holds a key under the key's own hash -/
def Rdr.row (e : Int × Value) : Prop := D.kd.is (D.rd e.2) e.2 = true ∧ e.1 = D.kd.hash (D.rd e.2)
abbrev Rdr.keys (es : Array (Int × Value)) : List κ := es.toList.map fun e => D.rd e.2
/-- what a walk over the table wants -/
structure Tab (w : World) (n : Nat) (t : SetTable) : Prop where
  few : n < scanBound
  fit : t.fits n = true
  ris : Ris t.place.toList
  led : w.params.followText "set-order" = true ∨ t.led = true
/-- at a stands the set of the keys m -/
structure SetL (h : Heap) (a : Addr) (m : List κ) : Prop where
  nd : m.Nodup
  ex : ∃ o es ep t, h.get? a = some o ∧ o.ExactSet ∧ o.data = .set es ep t ∧ (∀ e ∈ es.toList, D.row e) ∧ (D.keys es).Perm m ∧ Tab w es.size t
variable {D} {h h' : Heap} {a : Addr} {m m' : List κ} {k : κ}
theorem SetL.mv (S : SetL D h a m) (e : h'.get? a = h.get? a) : SetL D h' a m := ⟨S.nd, let ⟨o, es, ep, t, q, r⟩ := S.ex; ⟨o, es, ep, t, e.trans q, r⟩⟩
theorem Rdr.find {es : Array (Int × Value)} (g : ∀ e ∈ es.toList, D.row e) : (∃ e ∈ es.toList, D.kd.is k e.2 = true) ↔ k ∈ D.keys es := by
  constructor
  · intro ⟨e, i, q⟩
    exact List.mem_map.mpr ⟨e, i, D.back q⟩
  · intro q
    obtain ⟨e, i, rfl⟩ := List.mem_map.mp q
    exact ⟨e, i, (g e i).1⟩
theorem Rdr.rows {es : Array (Int × Value)} (g : ∀ e ∈ es.toList, D.row e) : ElemsOf D.kd es.toList := fun e i => ⟨⟨_, g e i⟩, D.scan (g e i).1⟩
end
section
variable {P : Program} {w : World} {κ : Type} [DecidableEq κ] {D : Rdr P w κ} {A : Around} {E : Value → Shared → Prop} {s : Shared} {a : Addr} {m : List κ} {k : κ} {v : Value}
theorem Tab.size {n n' : Nat} {t : SetTable} (T : Tab w n t) (e : n' = n) : Tab w n' t := e ▸ T
/-- a grown table is laid, and made wider where it is full -/
theorem lay_wide {note : Bool → Sem Unit} (quiet : ∀ b (u : Shared) (R : Unit → Shared → Prop), R () u → wpAny (model P w) A (note b) R E u) {o : Obj} {es fs : Array (Int × Value)} {ep : Nat} {t u : SetTable} (at_ : s.heap.get? a = some o) (xo : o.ExactSet) (dt : o.data = .set es ep t)
    (g : ∀ e ∈ fs.toList, D.row e) (nd : m.Nodup) (pm : (D.keys fs).Perm m) (T : Tab w fs.size u) {dm : Bool} {R : Option Bool → Shared → Prop} (fin : ∀ h', Heap.SameBut a s.heap h' → SetL D h' a m → R (some true) { s with heap := h' }) :
    wpAny (model P w) A (storeSet a fs u >>= fun _ => if (!dm && u.tooFull) = true then note (relayAll u fs (SetTable.grown fs.size)).2.2 >>= fun _ => storeSet a (relayAll u fs (SetTable.grown fs.size)).1 (relayAll u fs (SetTable.grown fs.size)).2.1 >>= fun _ => pure (some true) else pure (some true)) R E s := by
  have first := store_at (es' := fs) (t' := u) at_ dt
  have but := Heap.SameBut.update s.heap a (Obj.putSet fs u)
  refine wpAny_bind (wpAny_storeSet_of at_ dt ?_ (fits_of_scanBound T.few))
  by_cases full : (!dm && u.tooFull) = true
  · rw [if_pos full]
    have p2 := relayAll_perm u fs (SetTable.grown fs.size)
    have T2 : Tab w fs.size (relayAll u fs (SetTable.grown fs.size)).2.1 := ⟨T.few, by
      have q := relayAll_fits u fs (SetTable.grown fs.size)
      rwa [show (relayAll u fs (SetTable.grown fs.size)).1.size = fs.size from by simpa using p2.length_eq] at q, relayAll_ris u fs _, T.led.imp_right fun z => (relayAll_led u fs _).trans z⟩
    have len : (relayAll u fs (SetTable.grown fs.size)).1.size = fs.size := by simpa using p2.length_eq
    revert p2 T2 len
    generalize relayAll u fs (SetTable.grown fs.size) = W
    intro p2 T2 len
    have T3 := T2.size len
    refine wpAny_bind (quiet _ _ _ (wpAny_bind (wpAny_storeSet_of first rfl ?_ (fits_of_scanBound T3.few))))
    exact wpAny_pure (fin _ (but.trans (.update ..)) ⟨nd, _, W.1, _, W.2.1, store_at first rfl, xo, rfl, fun e i => g e (p2.mem_iff.mp i), (p2.map _).trans pm, T3⟩)
  · rw [if_neg full]
    exact wpAny_pure (fin _ but ⟨nd, _, fs, _, u, first, xo, rfl, g, pm, T⟩)
/-- one key is put in -/
theorem put_key {R : Bool → Shared → Prop} (S : SetL D s.heap a m) (hv : D.kd.is k v = true) (room : m.length + 1 < scanBound)
    (old : k ∈ m → R false s) (new : k ∉ m → ∀ h', Heap.SameBut a s.heap h' → SetL D h' a (k :: m) → R true { s with heap := h' }) : wpAny (model P w) A (setAddHashed a v (D.kd.hash k)) R E s := by
  obtain ⟨nd, o, es, ep, t, at_, xo, dt, g, pm, T⟩ := S
  have all := Rdr.rows g
  have len : es.size = m.length := by simpa using pm.length_eq
  have hush : ∀ (b : Bool) (u : Shared) (R' : Unit → Shared → Prop), R' () u → wpAny (model P w) A (match b with | true => rule "set.scan.the-table-gave-way" | false => pure ()) R' E u := by
    intro b u R' r
    cases b
    · exact wpAny_pure r
    · exact wpAny_rule r
  have sc := D.scan hv
  unfold setAddHashed setAddHashedIn setAddByScan
  refine wpAny_holding (wpAny_bind (wpAny_setState_of at_ dt T.fit ?_))
  simp only [byScan_of sc T.few all, ↓reduceIte]
  refine wpAny_bind (wpAny_bind (wpAny_rule (wpAny_bind (wpAny_setScan_of hv at_ dt T.fit all ?_))))
  have seen : (List.findIdx? (fun e => D.kd.is k e.2) es.toList).isSome = true ↔ k ∈ m := by
    rw [← pm.mem_iff, ← Rdr.find g, List.findIdx?_isSome, List.any_eq_true]
  cases q : List.findIdx? (fun e => D.kd.is k e.2) es.toList with
  | some j => exact wpAny_pure (wpAny_pure (old (seen.mp (by rw [q]; rfl))))
  | none =>
    have out : k ∉ m := fun z => by
      have := seen.mpr z
      rw [q] at this; cases this
    have p1 := layNew_perm t es (D.kd.hash k) v
    have r1 := layNew_ris t es (D.kd.hash k) v T.ris
    have f1 := layNew_fits t es (D.kd.hash k) v
    have l1 := layNew_led t es (D.kd.hash k) v
    revert p1 r1 f1 l1
    generalize layNew t es (D.kd.hash k) v = W
    obtain ⟨fs, u, dm, gave⟩ := W
    intro p1 r1 f1 l1
    have p2 : fs.toList.Perm ((D.kd.hash k, v) :: es.toList) := (Array.toList_push ▸ p1 : fs.toList.Perm (es.toList ++ [(D.kd.hash k, v)])).trans (List.perm_append_singleton ..)
    have kv : D.rd v = k := D.back hv
    have g2 : ∀ e ∈ fs.toList, D.row e := fun e i => (List.mem_cons.mp (p2.mem_iff.mp i)).elim (fun z => by
      rw [z]
      exact ⟨by show D.kd.is (D.rd v) v = true; rw [kv]; exact hv, by show _ = D.kd.hash (D.rd v); rw [kv]⟩) (g e)
    have p3 : (D.keys fs).Perm (k :: m) := by
      have := p2.map fun e => D.rd e.2
      rw [List.map_cons, kv] at this
      exact this.trans (pm.cons k)
    have n3 : fs.size = m.length + 1 := by simpa using p3.length_eq
    have T2 : Tab w fs.size u := ⟨by omega, f1, r1, T.led.imp_right fun z => l1.trans z⟩
    have close := fun h' b S' => wpAny_pure (M := model P w) (A := A) (E := E) (new out h' b S')
    refine wpAny_bind (hush _ _ _ ?_)
    have last : ∀ h', Heap.SameBut a s.heap h' → SetL D h' a (k :: m) → wpAny (model P w) A (pure true) R E { s with heap := h' } := close
    have n4 : (k :: m).Nodup := List.nodup_cons.mpr ⟨out, nd⟩
    dsimp only
    split
    · rw [hashByValue_scannable 8 sc]
      refine wpAny_bind (wpAny_pure ?_)
      have T3 : Tab w fs.size (if plainKind v = true then u else { u with plain := false }) := by
        split
        · exact T2
        · exact ⟨T2.few, SetTable.fits_plain_off T2.fit, T2.ris, T2.led⟩
      exact lay_wide hush at_ xo dt g2 n4 p3 T3 last
    · refine wpAny_bind (wpAny_pure ?_)
      simp only [↓reduceIte]
      exact lay_wide hush at_ xo dt g2 n4 p3 T2 last
end
end Pu

namespace Pu
open PySem PySem.Spec PyProof.Rows L2
section
variable {P : Program} {w : World} {κ : Type} [DecidableEq κ] {D : Rdr P w κ} {A : Around} {E : Value → Shared → Prop}
/-- what the first i items of ks leave in the set at a -/
def Fed (D : Rdr P w κ) (a : Addr) (ks : List κ) (i : Nat) (h : Heap) : Prop := ∃ m : List κ, SetL D h a m ∧ m.length ≤ i ∧ ∀ k, k ∈ m ↔ k ∈ ks.take i
/-- all that a walk brings is put in -/
theorem feed {it a : Addr} {fp wr : List Addr} {G : Array GenState → Array GenState → Prop} {Pv : Nat → Value → Prop} {St : Nat → Shared → Prop} {R : Result → Shared → Prop} {ks : List κ} {n : Nat} (W : WalksS P w A.in1 it fp wr G n Pv St) (hn : n = ks.length) (na : a ∉ fp) (few : ks.length + 1 < scanBound)
    (tell : ∀ i v, Pv i v → ∃ k, ks[i]? = some k ∧ D.kd.is k v = true) :
    ∀ (left i : Nat) (s : Shared), i + left = ks.length → St i s → Fed D a ks i s.heap → (∀ u, Moved (a :: wr) G s u → Fed D a ks ks.length u.heap → R (.ok (.ret .none)) u) → codeAny (model P w) A (.builtin "set.update.loop" ⟨[.ref a, .ref it], []⟩) R s := by
  subst hn
  have nw : a ∉ wr := fun q => na (W.sub _ q)
  intro left
  induction left with
  | zero =>
    intro i s e st fed fin
    obtain rfl : i = ks.length := by omega
    refine codeAny_builtin F.entry_set_update_loop (Around.under_plainId F.plain_set_update_loop _ ▸ ?_)
    refine wpAny_bind (m := pyNext (.ref it)) (W.done s _ _ st fun u mv => ?_)
    obtain ⟨m, S, lm, hm⟩ := fed
    exact (show wpAny _ A.in1 (ret Value.none) _ _ u from wpAny_pure (fin u (mv.mono fun b q => List.mem_cons_of_mem _ q) ⟨m, ⟨S.nd, let ⟨o, es, ep, t, q, r⟩ := S.ex; ⟨o, es, ep, t, mv.heap a o nw q, r⟩⟩, lm, hm⟩))
  | succ left ih =>
    intro i s e st fed fin
    refine codeAny_builtin F.entry_set_update_loop (Around.under_plainId F.plain_set_update_loop _ ▸ ?_)
    refine wpAny_bind (m := pyNext (.ref it)) (W.item i s _ _ (by omega) st fun v u pv st2 mv => ?_)
    obtain ⟨k, hk, kv⟩ := tell i v pv
    obtain ⟨m, S, lm, hm⟩ := fed
    have S2 : SetL D u.heap a m := ⟨S.nd, let ⟨o, es, ep, t, q, r⟩ := S.ex; ⟨o, es, ep, t, mv.heap a o nw q, r⟩⟩
    have step : ∀ x, x ∈ ks.take (i + 1) ↔ x ∈ ks.take i ∨ x = k := fun x => by rw [List.take_add_one, hk]; simp
    have go : ∀ (h' : Heap) (b : Bool), Heap.SameBut a u.heap h' → Fed D a ks (i + 1) h' → wpAny (model P w) A.in1 (pure (Fin.again (.builtin "set.update.loop" ⟨[.ref a, .ref it], []⟩))) (fun fin s' => match fin with | .done f => R (.ok f) s' | .again c => c.quiet = true ∧ codeAny (model P w) A c R s') (fun e s' => R (.error e) s') { u with heap := h', toks := u.toks + 1 } := fun h' _ sb fed' =>
      wpAny_pure ⟨plainId_quiet F.plain_set_update_loop _, ih (i + 1) _ (by omega) (W.frame _ u _ _ st2 (Nat.le_succ _) fun b q o z => (sb.2 b fun y => na (y ▸ q)).trans z) fed' fun u' mv' f' => fin u' (Moved.trans W.gtrans ((mv.mono fun b q => List.mem_cons_of_mem _ q).then_heap (Nat.le_succ _) fun b o q z => (sb.2 b fun y => q (y ▸ List.mem_cons_self)).trans z) mv') f'⟩
    show wpAny _ A.in1 (holding [v] (setAdd a v) >>= _) _ _ u
    refine wpAny_bind (wpAny_holding ?_)
    unfold setAdd
    refine wpAny_holding (wpAny_bind (D.kd.pyHash kv ?_))
    refine put_key (s := { u with toks := u.toks + 1 }) (D := D) ⟨S2.nd, S2.ex⟩ kv (by omega) (fun old => ?_) fun new h' sb S3 => ?_
    · exact go u.heap true (.refl ..) ⟨m, S2, by omega, fun x => by rw [hm x, step x]; exact ⟨.inl, fun q => q.elim id fun y => y ▸ (hm k).mp old⟩⟩
    · exact go h' true sb ⟨k :: m, S3, by rw [List.length_cons]; omega, fun x => by rw [List.mem_cons, hm x, step x]; exact Or.comm⟩
end
end Pu

namespace Pu
open PySem PySem.Spec PyProof.Rows L2
abbrev noSet (w : World) : Obj := { cls := .type "set", dict := none, data := .set #[] 0 (.fresh 0 0 (!w.params.followText "set-order")) }
section
variable {P : Program} {w : World} {A : Around} {E : Value → Shared → Prop} {s : Shared}
theorem set_none {κ : Type} [DecidableEq κ] {D : Rdr P w κ} {h : Heap} {a : Addr} (q : h.get? a = some (noSet w)) : SetL D h a [] :=
  ⟨.nil, _, #[], 0, _, q, ⟨rfl, rfl, rfl⟩, rfl, (fun e i => nomatch i), .nil, ⟨by decide, rfl, .nil, (Decidable.em (w.params.followText "set-order" = true)).imp_right fun z => by simpa [SetTable.fresh] using z⟩⟩
theorem set_made {κ : Type} [DecidableEq κ] {D : Rdr P w κ} {L : Addr} {vals : Array Value} (zs : List κ) {Q : Value → Shared → Prop} (calm : A.handled = none) (isL : s.heap.IsList L vals) (size_eq : vals.size = zs.length) (each : ∀ (i : Nat) (v : Value), vals[i]? = some v → ∃ k, zs[i]? = some k ∧ D.kd.is k v = true) (few : zs.length + 1 < scanBound)
    (fin : ∀ (h2 : Heap) (tk : Nat) (m : List κ), SetL D h2 s.heap.objs.size m → (∀ k, k ∈ m ↔ k ∈ zs) → (∀ b o, s.heap.get? b = some o → h2.get? b = some o) → Q (.ref s.heap.objs.size) { s with heap := h2, toks := tk }) :
    wpAny (model P w) A (call (.type "set") [.ref L]) Q E s := by
  have hmade := PySem.F.called_set.made
  have hsub := PySem.F.called_set.sub
  obtain ⟨c0, tl0, hmro⟩ := PySem.F.called_set.mro
  refine wpAny_call (codeAny_of_tree ?_)
  show wpAny _ _ (callAny (.type "set") _) _ _ s
  refine wpAny_pure ⟨Code.quiet_builtin _ (by decide +kernel), codeAny_builtin PySem.F.entry_type_call ?_⟩
  rw [Around.under_plain (weight_type_call_type "set" [.ref L] []) rfl]
  have nT := PySem.F.called_set.notType
  have cC := PySem.F.called_set.canCreate
  have tC := PySem.F.typeCall_set_1 (.ref L)
  repeat (any_goals (first | assumption | wp_step))
  refine codeAny_mono (code_set_led1 (.ref L) (E := E) (Q₁ := fun ob s1 => ob = .ref s.heap.objs.size ∧ s1 = { s with heap := s.heap.push (noSet w) }) ⟨rfl, rfl⟩) fun r s1 hr => ?_
  cases r with
  | error e => exact hr
  | ok fl =>
    cases fl with
    | ret obj =>
      obtain ⟨rfl, rfl⟩ := hr
      have atS : (s.heap.push (noSet w)).get? s.heap.objs.size = some (noSet w) := Heap.get?_push_size _ rfl
      have tyS : Shared.TypeIs { s with heap := s.heap.push (noSet w) } (.ref s.heap.objs.size) "set" := ⟨_, atS, rfl⟩
      have lkI := PySem.F.called_set.init.lookup
      have bdI := PySem.F.called_set.init.bind (.ref s.heap.objs.size)
      repeat (any_goals (first | assumption | wp_step))
      refine codeAny_mono (codeAny_call_builtin (R := wants (fun r s2 => r = .none ∧ ∃ h2 tk, ∃ m : List κ, s2 = { s with heap := h2, toks := tk } ∧ SetL D h2 s.heap.objs.size m ∧ (∀ k, k ∈ m ↔ k ∈ zs) ∧
          (∀ b o, s.heap.get? b = some o → h2.get? b = some o)) E) PySem.F.called_set.init.plain PySem.F.entry_set_init (check_set_init_1 tyS ?_)) fun r2 s2 hr2 => ?_
      · obtain ⟨oL, atL, hcl, nL, hdl⟩ := isL
        obtain ⟨ocls, odict, odata, oslots⟩ := oL
        dsimp only at hcl hdl
        subst hcl hdl
        have atL' : (s.heap.push (noSet w)).get? L = some { cls := .type "list", dict := odict, data := .seq vals nL, slots := oslots } := Heap.get?_push_of_some _ atL
        have isL1 : (s.heap.push (noSet w)).IsList L vals := ⟨_, atL', rfl, nL, rfl⟩
        have k1 := PySem.F.sub_list_set
        have k2 := PySem.F.sub_list_frozenset
        have k3 : (Value.type "list" == Value.type "dict") = false := by decide
        unfold Builtin.«set.__init__» noKeywords Builtin.Frozenset.updateFrom
        generalize gI : pyIter = itOf
        wp_walk
        subst gI
        refine wpAny_pyIter_list isL1 (wpAny_bind (wpAny_runValue ?_))
        have ltL : L < s.heap.objs.size := Heap.lt_size atL
        have calm3 : A.in1.in1.in1.handled = none := by simp [calm]
        have nLI : L ≠ (s.heap.push (noSet w)).objs.size := by
          rw [Heap.size_push]
          exact fun e => Nat.ne_of_lt (Nat.lt_succ_of_lt ltL) e
        have nSf : s.heap.objs.size ∉ [(s.heap.push (noSet w)).objs.size, L] := by
          rw [Heap.size_push]
          simp only [List.mem_cons, List.not_mem_nil, or_false]
          rintro (e | e)
          · exact Nat.ne_of_lt (Nat.lt_succ_self _) e
          · exact Nat.ne_of_gt ltL e
        refine feed (D := D) (ks := zs) ((Walks.list calm3 _ L nLI vals).toS) size_eq nSf few each zs.length 0 _ (Nat.zero_add _) ⟨⟨_, Heap.get?_push_size _ rfl, rfl, rfl⟩, isL1.push _⟩ ⟨[], set_none (Heap.get?_push_of_some _ atS), Nat.le_refl _, fun k => by simp⟩ fun s3 mv ⟨m, R3, _, hm⟩ => ?_
        rw [List.take_length] at hm
        obtain ⟨h3, g3, d3, tk3, os3⟩ := s3
        have e1 : g3 = s.gens := mv.gens
        have e2 : d3 = s.drawn := mv.drawn
        have e3 : os3 = s.os := mv.os
        subst e1 e2 e3
        refine wpAny_pure ?_
        refine (show wpAny _ _ (ret Value.none) _ _ _ from wpAny_pure ⟨rfl, h3, tk3, m, rfl, R3, hm, fun b o e => ?_⟩)
        have lt := Heap.lt_size e
        refine mv.heap b o ?_ (Heap.get?_push_of_some _ (Heap.get?_push_of_some _ e))
        rw [Heap.size_push]
        simp only [List.mem_cons, List.not_mem_nil, or_false]
        rintro (e | e)
        · exact Nat.ne_of_lt lt e
        · exact Nat.ne_of_lt (Nat.lt_succ_of_lt lt) e
      · cases r2 with
        | error e => exact hr2
        | ok f2 =>
          cases f2 with
          | ret r =>
            obtain ⟨rfl, h2, tk, m, rfl, R2, le2, kp⟩ := hr2
            repeat (any_goals (first | assumption | wp_step))
            exact fin _ _ _ R2 le2 kp
          | _ => exact hr2.elim
    | _ => exact hr.elim
end
end Pu

namespace Pu
open PySem PySem.Spec PyProof.Rows L2
/-! ### set(l), l a list of whole numbers, any of them again -/
def intOf : Value → Int
  | .int k _ => k
  | _ => 0
theorem is_int {P : Program} {w : World} {v : Value} {k : Int} (h : (PySem.intKind P w).is k v = true) : ∃ t, v = .int k t := by
  cases v with
  | int n t => exact ⟨t, by rw [show n = k from by simpa [PySem.intKind, Value.isInt] using h]⟩
  | _ => simp [PySem.intKind, Value.isInt] at h
def intR (P : Program) (w : World) : Rdr P w Int where
  kd := PySem.intKind P w
  rd := intOf
  back := fun {v k} h => by
    obtain ⟨t, rfl⟩ := is_int h
    rfl
  scan := fun {v k} h => by
    obtain ⟨t, rfl⟩ := is_int h
    rfl
theorem SetL.ints {P : Program} {w : World} {h : Heap} {a : Addr} {m zs : List Int} (S : SetL (intR P w) h a m) (e : ∀ k, k ∈ m ↔ k ∈ zs) : SetR w h a (fun j => decide (j ∈ zs)) m.length := by
  obtain ⟨nd, o, es, ep, t, at_, xo, dt, rows, pm, T⟩ := S
  have same : es.toList.map L2.keyOf = (intR P w).keys es := List.map_congr_left fun x _ => by
    unfold L2.keyOf
    show _ = intOf x.2
    cases x.2 <;> rfl
  refine ⟨o, es, ep, t, at_, xo, dt, fun x hx => ?_, same ▸ pm.nodup_iff.mpr nd, fun k => ?_, T.few, T.fit, by simpa using pm.length_eq, T.ris, T.led⟩
  · obtain ⟨q, hash⟩ := rows x hx
    obtain ⟨tk, z⟩ := is_int q
    exact ⟨_, tk, z, hash⟩
  · rw [same, pm.mem_iff, e, decide_eq_true_eq]
section
variable {X : Cx}
def rSetL (K : PySem.W.Frag) (w : World) : List V → Hp → VK → Prop := fun xs H Q => ∃ (l : Addr) (zs : List Int), xs = [.ref l] ∧ SqL K H l (zs.map V.int) ∧ zs.length ≤ 1000 ∧
  ∀ (p : Addr) (n : Nat), H p = none → n ≤ zs.length → Q (.ref p) (upd H p (SetO w p (fun j => decide (j ∈ zs)) n))
theorem cr_setL (hc : X.calm = true) : CallR X (.type "set") (rSetL X.K X.w) := fun pins s σ H args us Q I rel ⟨l, zs, e0, sq, few, fin⟩ => by
  subst e0
  obtain ⟨_, rfl, r1⟩ := rel.one
  cases r1
  obtain ⟨its, rv, raw, _⟩ := I.list sq
  have ia : IntsAre its.toArray.toList zs := by simpa using Vals.ints rv
  refine set_made (D := intR X.prog X.w) zs (I.ok.hd hc) raw.isList (by simpa using IntsAre.length ia) (fun i v hv => ?_) (by unfold scanBound; omega) fun g tk m S hm old => ?_
  · have lt : i < zs.length := by
      have n1 : its.length = zs.length := by simpa using IntsAre.length ia
      have n2 := (Array.getElem?_eq_some_iff.mp hv).1
      rw [List.size_toArray] at n2
      omega
    obtain ⟨t, e⟩ := PyProof.Rows.IntsAre.int_at ia i v (by simpa using hv)
    exact ⟨zs[i], List.getElem?_eq_getElem lt, by rw [e, List.getD_eq_getElem?_getD, List.getElem?_eq_getElem lt]; exact intKind_is _ _ _ _⟩
  · refine ⟨.ref s.heap.objs.size, upd H s.heap.objs.size (SetO X.w s.heap.objs.size (fun j => decide (j ∈ zs)) m.length), I.laid (t' := tk) old (Nat.le_refl _) (setO_new (S.ints hm)), rfl, fin _ _ (I.hok.fresh (Nat.le_refl _)) ?_⟩
    exact List.Nodup.length_le_of_subset S.nd fun k hk => (hm k).mp hk
end
end Pu

namespace Pu
open PySem PySem.Spec PyProof.Rows L2
/-! ### tuples of whole numbers, of any lengths, in their order -/
section
variable {prog : Program} {w : World} {A : Around} {E : Value → Shared → Prop} {s : Shared}
/-- two rows are compared place by place -/
theorem lex_rows {Q : Bool → Shared → Prop} {b fin : Bool} {xs : List Value} {ns : List Int} (rx : IntsAre xs ns) : ∀ {ys : List Value} {ms : List Int} (i : Nat), IntsAre ys ms → fin = decide (xs.length < ys.length) → Q (HT.lexLt ns ms) s → PySem.W.KatLex prog w A b fin Q (xs.zip ys) i s := by
  induction rx with
  | nil =>
    rintro _ _ i (_ | _) rfl q <;> exact PySem.W.kat_nil q
  | cons n t rest ih =>
    rintro _ _ i (_ | ⟨m, t', rest'⟩) e q
    · exact e ▸ PySem.W.kat_nil q
    · rw [HT.lexLt_cons] at q
      exact PySem.W.kat_cons (SeqAt.EqAt.int_int n t m t' prog w _ _ (PySem.W.kat_go (fun z => PySem.W.kat_yes (ih (i + 1) rest' (by simpa using e) (by rwa [if_pos (by simpa using z)] at q)))
        fun z => PySem.W.kat_no (TS.oneLt_ints _ (by rwa [if_neg (by simpa using z)] at q))))
theorem lex_cmp {vs : List Value} {k : Value → List Int} (hv : ∀ v ∈ vs, TS.TupInts s.heap v (k v)) : SrtO.Cmp prog w A s (tuples' true) (fun p => p.1 ∈ vs) (SrtO.lt2 fun v u => HT.lexLt (k v) (k u)) := fun p q hp hq => by
  have one := hv _ hp
  have two := hv _ hq
  dsimp only [SrtO.lt2]
  revert one two
  generalize k p.1 = ns
  generalize k q.1 = ms
  rintro ⟨a, xs, e1, ⟨o, at1, _, n, d1⟩, r1⟩ ⟨b, ys, e2, ⟨u, at2, _, m, d2⟩, r2⟩
  rw [e1, e2]
  exact PySem.W.kat_lt at1 d1 at2 d2 (lex_rows r1 0 r2 (by simp) ⟨rfl, rfl⟩)
/-- the first numbers of the tuples -/
theorem lex_firsts {h : Heap} {k : Value → List Int} (vs : List Value) : (∀ v ∈ vs, TS.TupInts h v (k v) ∧ k v ≠ []) → ∃ fs : List (Int × Tok), PySem.W.KatTups h vs (fs.map fun f => Value.int f.1 f.2) ∧ fs.length = vs.length := by
  induction vs with
  | nil => exact fun _ => ⟨[], .nil, rfl⟩
  | cons v vs ih =>
    intro each
    obtain ⟨fs, tups, len⟩ := ih fun u hu => each u (.tail _ hu)
    obtain ⟨⟨a, xs, e, ⟨o, ho, hc, n, hd⟩, rows⟩, full⟩ := each v (.head _)
    subst e
    revert full
    revert rows
    generalize k (.ref a) = ns
    generalize hx : xs.toList = ys
    rintro (_ | ⟨m, t, _⟩) full
    · exact absurd rfl full
    · exact ⟨(m, t) :: fs, .cons ho hc hd (by rw [← Array.getElem?_toList, hx]; rfl) tups, congrArg Nat.succ len⟩
theorem lex_sortable {a : Addr} {vs : List Value} {k : Value → List Int} (some1 : 0 < vs.length) (each : ∀ v ∈ vs, TS.TupInts s.heap v (k v) ∧ k v ≠ []) (ha : ∀ o, s.heap.get? a = some o → o.cls ≠ .type "tuple") :
    SrtO.SortableO prog w A s a vs fun v u => HT.lexLt (k v) (k u) := fun g still => by
  have now : ∀ v ∈ vs, TS.TupInts g v (k v) ∧ k v ≠ [] := fun v hv => (each v hv).imp_left fun T => T.keeps fun b o e c => still b o (fun z => ha o (z ▸ e) c) e
  obtain ⟨fs, tups, len⟩ := lex_firsts vs now
  refine ⟨tuples' true, fun Q E q => PySem.W.kat_kind (T := .type "int") tups (by simpa using len ▸ some1) (fun f hf => ?_) (by rfl) ?_, lex_cmp fun v hv => (now v hv).1⟩
  · obtain ⟨x, _, rfl⟩ := List.mem_map.mp hf
    exact PySem.W.Looks.now
  · exact (show (Value.type "int" != Value.type "tuple") = true from by decide) ▸ q
end
/-- a list is no tuple -/
theorem list_no_tup {h : Heap} {a : Addr} {vs : List Value} {n : Nat} (e : h.get? a = some (seqObj "list" vs.toArray n)) : ∀ o, h.get? a = some o → o.cls ≠ .type "tuple" := fun o ho c => by
  obtain rfl := Option.some.inj (ho.symm.trans e)
  simp at c
section
variable {X : Cx}
/-- the whole numbers of a tracked tuple, by its value -/
noncomputable def keyOf (H : Hp) (v : V) : List Int := match v with
  | .ref a => match H a with
    | some (.tup xs) => xs.map fun x => match x with
      | .int i => i
      | _ => 0
    | _ => []
  | _ => []
theorem keyOf_eq {H : Hp} {a : Addr} {ns : List Int} (h : H a = some (.tup (ns.map V.int))) : keyOf H (.ref a) = ns := by
  simp [keyOf, h, Function.comp_def]
/-- sorted(xs), xs a list of tuples of one int or more -/
def rSortLex (K : PySem.W.Frag) : List V → Hp → VK → Prop := fun vs H Q => ∃ (a : Addr) (xs : List V), vs = [V.ref a] ∧ SqL K H a xs ∧ (∀ x ∈ xs, ∃ t ns, x = V.ref t ∧ H t = some (.tup (ns.map V.int)) ∧ ns ≠ []) ∧
  ∀ (ys : List V) (p : Addr), ys.Perm xs → ys.Pairwise (fun x y => HT.lexLt (keyOf H y) (keyOf H x) = false) → H p = none → Q (.ref p) (upd H p (.lst ys))
theorem cr_sortLex : CallR X (.builtin "sorted") (rSortLex X.K) := fun pins s σ H args us Q I rel ⟨a, xs, e0, sq, tups, fin⟩ => by
  subst e0
  obtain ⟨_, rfl, r1⟩ := rel.one
  cases r1
  obtain ⟨its, rv, raw, room⟩ := I.list sq
  obtain ⟨back, refs⟩ := bkV_refs rv fun x m => let ⟨t, _, e, _⟩ := tups x m; ⟨t, e⟩
  have key : ∀ v ∈ its, TS.TupInts s.heap v (keyOf H (bkV v)) ∧ keyOf H (bkV v) ≠ [] := fun v hv => by
    obtain ⟨t, rfl⟩ := refs v hv
    obtain ⟨_, ns, e, at_, full⟩ := tups (.ref t) (back ▸ List.mem_map_of_mem (f := bkV) hv)
    cases e
    rw [show keyOf H (bkV (.ref t)) = ns from keyOf_eq at_]
    exact ⟨tupI_raw I (SqT.of at_), full⟩
  refine SrtO.sorted_ord (ltv := fun v u => HT.lexLt (keyOf H (bkV v)) (keyOf H (bkV u))) (NtL.swo_lexL _) raw.isList (rv.length ▸ room) (fun two g b hb still => lex_sortable (s := { s with heap := g }) (by omega) (fun v hv => (key v hv).imp_left fun T => T.keeps fun c o e _ => (still c o e).2) (list_no_tup hb)) fun out srt stb => ?_
  have perm : (out.map bkV).Perm xs := back ▸ stb.perm.map bkV
  obtain ⟨n, hn⟩ := PyProof.Rows.sortedAll_at s.heap its out.toArray
  exact ⟨.ref (s.heap.objs.size + 1), upd H (s.heap.objs.size + 1) (.lst (out.map bkV)), I.laid (t' := s.toks) (fun _ _ => sortedAll_old) (Nat.le_succ _) ⟨perm.length_eq ▸ room, out, n, bkV_vals fun u hu => refs u (stb.perm.mem_iff.mp hu), hn⟩, rfl, fin _ _ perm (List.pairwise_map.mpr srt) (I.hok.fresh (Nat.le_succ _))⟩
end
end Pu

namespace Pu
open PySem PySem.Spec PyProof.Rows L2
/-- what lies behind a row that is the image of a list in another order -/
theorem perm_pre {α β : Type} {f : α → β} {vs us : List β} (p : vs.Perm us) : ∀ l : List α, us = l.map f → ∃ l' : List α, l'.Perm l ∧ vs = l'.map f := by
  induction p with
  | nil => exact fun l e => ⟨[], by cases l <;> simp_all, rfl⟩
  | cons x _ ih =>
    rintro (_ | ⟨a, l⟩) e
    · cases e
    · obtain ⟨rfl, e1⟩ := List.cons.inj e
      obtain ⟨l', p, rfl⟩ := ih l e1
      exact ⟨a :: l', p.cons a, rfl⟩
  | swap x y _ =>
    rintro (_ | ⟨a, _ | ⟨b, l⟩⟩) e
    · cases e
    · cases e
    · simp only [List.map_cons, List.cons.injEq] at e
      obtain ⟨rfl, rfl, rfl⟩ := e
      exact ⟨b :: a :: l, .swap .., rfl⟩
  | trans _ _ ih1 ih2 =>
    intro l e
    obtain ⟨l2, p2, e2⟩ := ih2 l e
    obtain ⟨l1, p1, e1⟩ := ih1 l2 e2
    exact ⟨l1, p1.trans p2, e1⟩
/-! ### sorted(s), s a set of tuples of whole numbers -/
section
variable {P : Program} {w : World} {A : Around} {E : Value → Shared → Prop} {s : Shared}
abbrev refs (L : List (Addr × List Int)) : List Value := L.map fun q => .ref q.1
theorem sorted_lex {a : Addr} {L : List (Addr × List Int)} {es : Array (Int × Value)} {ep : Nat} {t : SetTable} {Q : Value → Shared → Prop} (T : SetTR P w s.heap a L es ep t) (calm : A.handled = none) (full : ∀ q ∈ L, q.2 ≠ [])
    (fin : ∀ (u : Shared) (p : Addr) (out : List Value) (c : Nat) (M : List (Addr × List Int)), (∀ b o, s.heap.get? b = some o → u.heap.get? b = some o) ∧ u.gens = s.gens ∧ u.os = s.os → s.heap.objs.size ≤ p → u.heap.get? p = some (seqObj "list" out.toArray c) → out = refs M → M.Perm L → M.Pairwise (fun q r => HT.lexLt r.2 q.2 = false) → Q (.ref p) u) :
    wpAny (model P w) A (call (.builtin "sorted") [.ref a]) Q E s := by
  obtain ⟨o, at_, xo, dt⟩ := T.ob
  have small : es.size + 1 < scanBound := by
    have := T.few
    unfold scanBound
    rw [T.size]; omega
  refine Calls.call_function_entry kind_sorted plain_sorted entry_sorted (args_sorted1 _) (wpAny_bind (m := checkCount "sorted" 1 1 _) (wpAny_pure (wpAny_bind (collect_set (A := A.in1) calm ⟨o, at_, xo.1, dt⟩ T.fits (by omega) T.tab.ris T.led fun u vs old grow gen os pv => ?_))))
  obtain ⟨L0, p0, rfl⟩ := perm_pre (f := fun q : Addr × List Int => Value.ref q.1) pv L (by rw [T.rows, rowsOf, List.map_map]; rfl)
  have n0 : (refs L0).length < 64 := by rw [List.length_map, p0.length_eq]; exact T.few
  have fits : (refs L0).length ≤ sizeLine := Nat.le_trans (Nat.le_of_lt n0) (by decide : 64 ≤ sizeLine)
  refine wpAny_bind (wpAny_newList ?_ fits)
  have top : (u.heap.push (seqObj "list" (refs L0).toArray 0)).get? u.heap.objs.size = some (seqObj "list" (refs L0).toArray 0) := Heap.get?_push_size _ rfl
  generalize hg : u.heap.push (seqObj "list" (refs L0).toArray 0) = g at top
  have up : ∀ b o, s.heap.get? b = some o → g.get? b = some o := fun b o e => hg ▸ Heap.get?_push_of_some _ (old b o e)
  have told : ∀ q ∈ L0, TS.TupInts g (.ref q.1) q.2 := fun q hq => tupInts_of (P := P) (w := w) (isT_keep (T.tup q (p0.mem_iff.mp hq)) up)
  have each : ∀ v ∈ refs L0, TS.TupInts g v (TS.intsOf g v) ∧ TS.intsOf g v ≠ [] := fun v hv => by
    obtain ⟨q, hq, rfl⟩ := List.mem_map.mp hv
    rw [(told q hq).ints]
    exact ⟨told q hq, full q (p0.mem_iff.mp hq)⟩
  refine wpAny_bind (wpAny_holding (wpAny_call_entry slot_list_sort ⟨_, top, rfl⟩ entry_list_sort (SrtO.list_sort_ord (s := { u with heap := g }) (ltv := fun v u => HT.lexLt (TS.intsOf g v) (TS.intsOf g u)) (NtL.swo_lexL _) top fits
    (fun two => lex_sortable (by omega) each (list_no_tup top)) fun out srt stb => ⟨_, rfl, ?_⟩) (args_list_sort _)))
  obtain ⟨M, pm, rfl⟩ := perm_pre (f := fun q : Addr × List Int => Value.ref q.1) stb.perm L0 rfl
  obtain ⟨c, hc⟩ := sortedHeap_at (vs := refs L0) (out := (refs M).toArray) top
  refine wpAny_pure ⟨_, rfl, fin _ _ (refs M) c M ⟨fun b o e => ?_, gen, os⟩ grow hc rfl (pm.trans p0) ?_⟩
  · have lt := Heap.lt_size (old b o e)
    exact (sortedHeap_old (Nat.ne_of_lt lt) (Nat.lt_of_lt_of_le lt (hg ▸ Heap.size_push .. ▸ Nat.le_succ _))).trans (up b o e)
  · refine (List.pairwise_map.mp srt).imp_of_mem fun {q r} hq hr le => ?_
    rw [← (told q (pm.mem_iff.mp hq)).ints, ← (told r (pm.mem_iff.mp hr)).ints]
    exact le
end
section
variable {X : Cx}
def rSortedSetLex (K : PySem.W.Frag) (P : Program) (w : World) : List V → Hp → VK → Prop := fun vs H Q => ∃ (a : Addr) (L : List (Addr × List Int)), vs = [V.ref a] ∧ H a = some (SetTO P w a L) ∧ (∀ p ∈ L, SqT K H p.1 (p.2.map V.int) ∧ p.2 ≠ []) ∧
  ∀ (L' : List (Addr × List Int)) (p : Addr), L'.Perm L → (L'.map (·.2)).Nodup → L'.Pairwise (fun q r => HT.lexLt r.2 q.2 = false) → H p = none → Q (.ref p) (upd H p (.lst (L'.map fun q => V.ref q.1)))
theorem cr_sortedSetLex (hc : X.calm = true) : CallR X (.builtin "sorted") (rSortedSetLex X.K X.prog X.w) := fun pins s σ H args us Q I rel ⟨a, L, e0, ha, tups, fin⟩ => by
  subst e0
  obtain ⟨_, rfl, r1⟩ := rel.one
  cases r1
  have S : SetT0 X.prog X.w s.heap a L := (show ObjOk X.prog X.w H s.heap a (SetTO X.prog X.w a L) from I.hok a _ ha).1
  obtain ⟨es, ep, t, T⟩ := S.full fun q hq => I.isT (tups q hq).1
  refine sorted_lex T (I.ok.hd hc) (fun q hq => (tups q hq).2) fun u p out c M ⟨old, gen, os⟩ grow at_ eo pm srt => ?_
  have free : H p = none := I.hok.fresh grow
  have len : (M.map fun q => V.ref q.1).length ≤ sizeLine := by
    rw [List.length_map, pm.length_eq]
    exact Nat.le_trans (Nat.le_of_lt T.few) (by decide)
  refine ⟨.ref p, upd H p (.lst (M.map fun q => V.ref q.1)), ?_, rfl, fin M p pm ((pm.map (·.2)).nodup_iff.mpr T.nd) srt free⟩
  obtain ⟨uh, ug, ud, ut, uo⟩ := u
  obtain rfl : uo = s.os := os
  exact (I.call (ch := []) (Un.laid old grow free) (I.hok.laid old grow ⟨len, out, c, eo ▸ vals_of_refs M, at_⟩) (by rw [show ug = s.gens from gen]; exact I.bare) (fun _ z => nomatch z) : Inv X pins σ (upd H p (.lst (M.map fun q => V.ref q.1))) { s with heap := uh, gens := ug, drawn := ud, toks := ut })
/-- set(t), t a tuple of ints -/
def rSetTI (K : PySem.W.Frag) (w : World) : List V → Hp → VK → Prop := fun xs H Q => ∃ (l : Addr) (zs : List Int), xs = [.ref l] ∧ SqT K H l (zs.map V.int) ∧ zs.length ≤ 1000 ∧
  ∀ (p : Addr) (n : Nat), H p = none → n ≤ zs.length → Q (.ref p) (upd H p (SetO w p (fun j => decide (j ∈ zs)) n))
theorem cr_setTI (hc : X.calm = true) : CallR X (.type "set") (rSetTI X.K X.w) := fun pins s σ H args us Q I rel ⟨l, zs, e0, sq, few, fin⟩ => by
  subst e0
  obtain ⟨_, rfl, r1⟩ := rel.one
  cases r1
  obtain ⟨its, rv, raw, _⟩ := I.tuple sq
  refine call_set_tupI (P := X.prog) (w := X.w) zs (I.ok.hd hc) (show s.heap.IsTuple l its.toArray from raw) (by simpa using Vals.ints rv) (by unfold scanBound; omega) fun g tk n R le old => ?_
  exact ⟨.ref s.heap.objs.size, upd H s.heap.objs.size (SetO X.w s.heap.objs.size (fun j => decide (j ∈ zs)) n), I.laid (t' := tk) old (Nat.le_refl _) (setO_new R), rfl, fin _ n (I.hok.fresh (Nat.le_refl _)) le⟩
end
end Pu

namespace Pu
open PySem PySem.Spec PyProof.Rows L2
/-! ### walks by data -/
structure WalkD (N : NP) (H0 : Hp) (J : It) (ds : List PyData) : Prop where
  go : ∀ N' H', Up N H0 N' H' → ∀ i, i < ds.length → J.go i H'
  yld : ∀ N' H', Up N H0 N' H' → Fr N' H' → ∀ i x H'', i < ds.length → J.yld i H' x H'' → Same H' H'' ∧ ∃ d, ds[i]? = some d ∧ Rp N' H'' x d
  stop : ∀ N' H', Up N H0 N' H' → J.stop ds.length H'
def DI (N : NP) (wi : TI) (σ : L2.St) (H : Hp) (ds : List PyData) : Prop := ∀ N1 H1, Up N H N1 H1 → Fr N1 H1 → ∀ R : It → Hp → Prop, (∀ J H2, Same H1 H2 → WalkD N1 H2 J ds → R J H2) → wi σ H1 R
section
variable {K : PySem.W.Frag} {N N' : NP} {σ : L2.St} {H H' : Hp} {ta tb te tl : TE} {t u : TT} {d x y z : PyData} {v : V} {ds : List PyData}
theorem WalkD.up {J : It} (w : WalkD N H J ds) (u : Up N H N' H') : WalkD N' H' J ds := ⟨fun N1 H1 u1 => w.go N1 H1 (u.trans u1), fun N1 H1 u1 => w.yld N1 H1 (u.trans u1), fun N1 H1 u1 => w.stop N1 H1 (u.trans u1)⟩
theorem walk_lst {a : Addr} {xs : List V} (n : N a) (h : H a = some (.lst xs)) (r : Rps N H xs ds) : WalkD N H (Itl K a) ds := by
  refine ⟨fun N' H' u i hi => ?_, fun N' H' u f i x H'' hi y => ?_, fun N' H' u => ?_⟩
  · have e := r.len
    exact ⟨xs, xs[i]'(by omega), SqL.of (u a _ n h).2, List.getElem?_eq_getElem (by omega)⟩
  · obtain ⟨rfl, y⟩ := y
    have e := y xs (SqL.of (u a _ n h).2)
    obtain ⟨d, hd, rd⟩ := (r.up u).get e
    exact ⟨Same.refl _, d, hd, rd⟩
  · exact ⟨xs, SqL.of (u a _ n h).2, by rw [r.len]; exact Nat.le_refl _⟩
theorem walk_tupl {a : Addr} {xs : List V} (n : N a) (h : H a = some (.tup xs)) (r : Rps N H xs ds) : WalkD N H (Itt K a) ds := by
  refine ⟨fun N' H' u i hi => ?_, fun N' H' u f i x H'' hi y => ?_, fun N' H' u => ?_⟩
  · have e := r.len
    exact ⟨xs, xs[i]'(by omega), SqT.of (u a _ n h).2, List.getElem?_eq_getElem (by omega)⟩
  · obtain ⟨rfl, y⟩ := y
    have e := y xs (SqT.of (u a _ n h).2)
    obtain ⟨d, hd, rd⟩ := (r.up u).get e
    exact ⟨Same.refl _, d, hd, rd⟩
  · exact ⟨xs, SqT.of (u a _ n h).2, by rw [r.len]; exact Nat.le_refl _⟩
theorem di_seq (h : DE N tl σ H d) (e : itemsD d = some ds := by rfl) : DI N (iSeq K tl) σ H ds := fun N1 H1 u f R q =>
  h N1 H1 u f _ fun v H2 s2 r2 => by
    obtain ⟨a, xs, rfl, n, hh, r⟩ := r2.items e
    rcases hh with hh | hh
    · exact ⟨a, rfl, .inl ⟨⟨xs, SqL.of hh⟩, q _ _ s2 (walk_lst n hh r)⟩⟩
    · exact ⟨a, rfl, .inr ⟨⟨xs, SqT.of hh⟩, q _ _ s2 (walk_tupl n hh r)⟩⟩
theorem rng_len' (n : Nat) : ((Ch.rng n).map PyData.int).length = n := by simp [Ch.rng_len]
theorem di_rng {ta : TA} {i : Int} (h : DA N ta σ H [.int i]) (h0 : -1000000 ≤ i) (h1 : i ≤ 1000000) : DI N (iRng1 ta) σ H ((Ch.rng i.toNat).map PyData.int) := fun N1 H1 u f R q =>
  h N1 H1 u f _ fun vs H2 s2 r2 => by
    cases r2 with
    | cons r t =>
      cases t; cases r
      refine ⟨i, rfl, by omega, by omega, q _ _ s2 ⟨fun N' H' u k hk => ?_, fun N' H' u f k x H'' hk y => ?_, fun N' H' u => ?_⟩⟩
      · rw [rng_len'] at hk; exact hk
      · obtain ⟨rfl, rfl⟩ := y
        rw [rng_len'] at hk
        refine ⟨Same.refl _, .int (k : Int), by rw [List.getElem?_map, Ch.rng_get hk]; rfl, ?_⟩
        rw [Int.zero_add]; exact .int _
      · show i.toNat ≤ _
        rw [rng_len']; exact Nat.le_refl _
def enumD (ds : List PyData) : List PyData := ds.zipIdx.map fun p => .tuple [.int (p.2 : Nat), p.1]
theorem enumD_len (ds : List PyData) : (enumD ds).length = ds.length := by simp [enumD]
theorem enumD_get {ds : List PyData} {i : Nat} {d : PyData} (h : ds[i]? = some d) : (enumD ds)[i]? = some (.tuple [.int (i : Nat), d]) := by
  unfold enumD
  rw [List.getElem?_map, List.getElem?_zipIdx, h]
  simp
theorem di_enumT {ta : TA} (h : DA N ta σ H [.tuple ds]) : DI N (iEnumT K ta) σ H (enumD ds) := fun N1 H1 u f R q =>
  h N1 H1 u f _ fun vs H2 s2 r2 => by
    cases r2 with
    | cons r t =>
      cases t
      cases r with
      | @tup a xs _ n hh r =>
        have len := r.len
        have here : ∀ {N' : NP} {G : Hp}, Up N1 H2 N' G → SqT K G a xs := fun u => SqT.of (u a _ n hh).2
        refine ⟨a, rfl, ⟨xs, SqT.of hh⟩, q _ _ s2 ⟨fun N' G u i lt => ⟨xs, here u, by rw [enumD_len] at lt; omega⟩, fun N' G u f i v G' _ ⟨c, x, y, ⟨e, fr, eG⟩, ex, told⟩ => ?_, fun N' G u => ⟨xs, here u, by rw [enumD_len]; omega⟩⟩⟩
        subst e eG ex
        obtain ⟨d, hd, rd⟩ := (r.up u).get (told xs (here u))
        exact ⟨same_upd fr, _, enumD_get hd, .tup (f c fr) upd_same (.cons (.int _) (.cons (rd.same (same_upd fr)) .nil))⟩
/-! ### comprehensions by data -/
theorem up_new {D : Addr} {o : HO} (hD : H D = none) : Up N H (fun a => N a ∧ a ≠ D) (L2.upd H D o) := fun a u n e => ⟨⟨n, ne_of_none e hD⟩, by rw [upd_ne (ne_of_none e hD)]; exact e⟩
theorem up_sub {D : Addr} : Up (fun a => N a ∧ a ≠ D) H N H := fun a u n e => ⟨n.1, e⟩
/-- a store of an item to its target: σ2 what comes -/
def GT (N : NP) (g : TG) (σ0 : L2.St) (d : PyData) (P : L2.St → NP → Hp → Prop) : Prop := ∀ (N' : NP) (H' : Hp) (x : V) (Q : L2.St → Hp → Prop), Rp N' H' x d → (∀ σ2, P σ2 N' H' → Q σ2 H') → g x σ0 H' Q
theorem gt_name {i : Nat} {σ0 : L2.St} {P : L2.St → NP → Hp → Prop} (h : ∀ x N' H', Rp N' H' x d → P (σ0.set i (some x)) N' H') : GT N (gName i) σ0 d P := fun N' H' x Q r q => q _ (h x N' H' r)
theorem gt_pair {i j : Nat} {σ0 : L2.St} {d1 d2 : PyData} {P : L2.St → NP → Hp → Prop} (h : ∀ x y N' H', Rp N' H' x d1 → Rp N' H' y d2 → P ((σ0.set i (some x)).set j (some y)) N' H') :
    GT N (gTup K 2 (gCons (gName i) (gCons (gName j) gNil))) σ0 (.tuple [d1, d2]) P := fun N' H' x Q r q => by
  cases r with
  | tup n h' r =>
    cases r with
    | cons r1 r =>
      cases r with
      | cons r2 r =>
        cases r
        exact ⟨_, _, rfl, SqT.of h', rfl, _, _, rfl, _, _, rfl, rfl, q _ (h _ _ _ _ r1 r2)⟩
theorem de_lcG {α : Type} {xs : List α} {enc : α → PyData} {wi : TI} {g : TG} {tt : TT} {vs : List Nat} (b : α → Bool) (f : α → PyData) (hi : DI N wi σ H (xs.map enc)) (hl : xs.length ≤ 10000000)
    (hb : ∀ N0 H0, Up N H N0 H0 → ∀ a ∈ xs, GT N g (wipe σ vs) (enc a) fun σ2 N' H' => Up N0 H0 N' H' → wipe σ2 vs = wipe σ vs ∧ DT N' tt σ2 H' (b a) ∧ (b a = true → DE N' te σ2 H' (f a))) :
    DE N (tLc wi g tt te vs) σ H (.list ((xs.filter b).map f)) := fun N1 H1 u1 f1 Q q =>
  hi N1 H1 u1 f1 _ fun J H2 s2 w D hD => by
    have hl' : (xs.map enc).length = xs.length := List.length_map _
    refine ⟨fun i m H3 => m = xs.length - i ∧ i ≤ xs.length ∧ ∃ acc, H3 D = some (.lst acc) ∧ Same H2 H3 ∧ Up N1 H2 (fun a => N1 a ∧ a ≠ D) H3 ∧ Fr (fun a => N1 a ∧ a ≠ D) H3 ∧ Rps (fun a => N1 a ∧ a ≠ D) H3 acc (((xs.take i).filter b).map f),
      ⟨_, rfl, Nat.zero_le _, [], upd_same, same_upd hD, up_new hD, fun a ha => ?_, .nil⟩, ?_⟩
    · have na : a ≠ D := fun z => by rw [z, upd_same] at ha; cases ha
      rw [upd_ne na] at ha
      exact ⟨(f1.same s2) a ha, na⟩
    · rintro i m H3 ⟨rfl, hi', acc, hacc, s3, u3, f3, r3⟩
      by_cases hlt : i < xs.length
      · refine .inr ⟨w.go _ _ u3 i (by omega), fun H4 => ∃ acc, H4 D = some (.lst acc) ∧ Same H2 H4 ∧ Up N1 H2 (fun a => N1 a ∧ a ≠ D) H4 ∧ Fr (fun a => N1 a ∧ a ≠ D) H4 ∧ Rps (fun a => N1 a ∧ a ≠ D) H4 acc (((xs.take (i + 1)).filter b).map f),
          fun H4 h4 => ⟨_, by omega, rfl, hlt, h4⟩, fun x H4 y => ?_⟩
        obtain ⟨s4, d, hd, rd⟩ := w.yld _ _ u3 f3 i x H4 (by omega) y
        rw [List.getElem?_map, List.getElem?_eq_getElem hlt] at hd
        have ed : enc xs[i] = d := Option.some.inj hd
        subst ed
        have u4 := u3.same s4
        refine hb (fun a => N1 a ∧ a ≠ D) H4 ((u1.same s2).trans u4) xs[i] (List.getElem_mem hlt) _ H4 x _ rd fun σ2 h2 => ?_
        obtain ⟨ew, dt, de⟩ := h2 (Up.refl _ _)
        refine ⟨ew, dt.run (f3.same s4) fun H5 s5 => ?_⟩
        have etk : xs.take (i + 1) = xs.take i ++ [xs[i]] := by rw [List.take_succ, List.getElem?_eq_getElem hlt]; rfl
        cases hbb : b xs[i] with
        | false =>
          refine iteF ⟨acc, s5 _ _ (s4 _ _ hacc), (s3.trans s4).trans s5, u4.same s5, (f3.same s4).same s5, ?_⟩
          rw [etk, List.filter_append, List.filter_cons_of_neg (by rw [hbb]; simp), List.filter_nil, List.append_nil]
          exact (r3.same s4).same s5
        | true =>
          refine iteT ((de hbb).up (Up.of s5) |>.run ((f3.same s4).same s5) fun y H6 s6 ry => ?_)
          have hD6 : H6 D = some (.lst acc) := s6 _ _ (s5 _ _ (s4 _ _ hacc))
          have up6 : Up (fun a => N1 a ∧ a ≠ D) H6 (fun a => N1 a ∧ a ≠ D) (upd H6 D (.lst (acc ++ [y]))) := fun a o n e => ⟨n, by rw [upd_ne n.2]; exact e⟩
          have ln := r3.len
          refine ⟨acc, hD6, ?_, acc ++ [y], upd_same, fun a o e => ?_, ((u4.same s5).same s6).trans up6, fun a ha => ?_, ?_⟩
          · refine Nat.lt_of_le_of_lt (?_ : acc.length ≤ 10000000) (by decide)
            rw [ln, List.length_map]
            exact Nat.le_trans (List.length_filter_le _ _) (Nat.le_trans (by rw [List.length_take]; exact Nat.min_le_right _ _) hl)
          · have na : a ≠ D := ne_of_none e hD
            rw [upd_ne na]
            exact s6 _ _ (s5 _ _ (s4 _ _ (s3 _ _ e)))
          · have na : a ≠ D := fun z => by rw [z, upd_same] at ha; cases ha
            rw [upd_ne na] at ha
            exact (((f3.same s4).same s5).same s6) a ha
          · rw [etk, List.filter_append, List.filter_cons_of_pos hbb, List.filter_nil, List.map_append]
            exact ((((r3.same s4).same s5).same s6).app (.cons ry .nil)).up up6
      · have e : i = xs.length := by omega
        subst e
        refine .inl ⟨by have := w.stop _ _ u3; rwa [hl'] at this, q _ _ (s2.trans s3) (.lst ((f1.same s2) D hD) hacc ?_)⟩
        rw [List.take_length] at r3
        exact r3.up up_sub
/-- [e for x in xs if t] -/
theorem de_lc {α : Type} {xs : List α} {enc : α → PyData} {wi : TI} {tt : TT} {vs : List Nat} {i : Nat} (b : α → Bool) (f : α → PyData) (hi : DI N wi σ H (xs.map enc)) (hl : xs.length ≤ 10000000)
    (hb : ∀ a ∈ xs, ∀ x N' H', Up N H N' H' → Rp N' H' x (enc a) → DT N' tt ((wipe σ vs).set i (some x)) H' (b a) ∧ (b a = true → DE N' te ((wipe σ vs).set i (some x)) H' (f a)))
    (hw : ∀ x, wipe ((wipe σ vs).set i (some x)) vs = wipe σ vs := by intro _; rfl) :
    DE N (tLc wi (gName i) tt te vs) σ H (.list ((xs.filter b).map f)) :=
  de_lcG b f hi hl fun N0 H0 u0 a ha => gt_name fun x N' H' r u => ⟨hw x, hb a ha x N' H' (u0.trans u) r⟩
/-- [e for x in xs] -/
theorem de_lc0 {α : Type} {xs : List α} {enc : α → PyData} {wi : TI} {vs : List Nat} {i : Nat} (f : α → PyData) (hi : DI N wi σ H (xs.map enc)) (hl : xs.length ≤ 10000000)
    (hb : ∀ a ∈ xs, ∀ x N' H', Up N H N' H' → Rp N' H' x (enc a) → DE N' te ((wipe σ vs).set i (some x)) H' (f a))
    (hw : ∀ x, wipe ((wipe σ vs).set i (some x)) vs = wipe σ vs := by intro _; rfl) :
    DE N (tLc wi (gName i) tYes te vs) σ H (.list (xs.map f)) := by
  have h := de_lc (N := N) (σ := σ) (H := H) (te := te) (tt := tYes) (vs := vs) (i := i) (fun _ => true) f hi hl (fun a ha x N' H' u r => ⟨dt_yes, fun _ => hb a ha x N' H' u r⟩) hw
  rw [List.filter_eq_self.mpr (fun _ _ => rfl)] at h
  exact h
/-- [e for i, j in xs if t] -/
theorem de_lcP {α : Type} {xs : List α} {e1 e2 : α → PyData} {wi : TI} {tt : TT} {vs : List Nat} {i j : Nat} (b : α → Bool) (f : α → PyData) (hi : DI N wi σ H (xs.map fun a => .tuple [e1 a, e2 a])) (hl : xs.length ≤ 10000000)
    (hb : ∀ a ∈ xs, ∀ x y N' H', Up N H N' H' → Rp N' H' x (e1 a) → Rp N' H' y (e2 a) → DT N' tt (((wipe σ vs).set i (some x)).set j (some y)) H' (b a) ∧ (b a = true → DE N' te (((wipe σ vs).set i (some x)).set j (some y)) H' (f a)))
    (hw : ∀ x y, wipe (((wipe σ vs).set i (some x)).set j (some y)) vs = wipe σ vs := by intro _ _; rfl) :
    DE N (tLc wi (gTup K 2 (gCons (gName i) (gCons (gName j) gNil))) tt te vs) σ H (.list ((xs.filter b).map f)) :=
  de_lcG b f hi hl fun N0 H0 u0 a ha => gt_pair fun x y N' H' r1 r2 u => ⟨hw x y, hb a ha x y N' H' (u0.trans u) r1 r2⟩
/-! ### defs whose answer is told by data -/
def spP (R : List PyData → PyData → Prop) : Sp := fun vs H Q _ => ∃ N ds d, Fr N H ∧ Rps N H vs ds ∧ R ds d ∧ ∀ v H', Same H H' → Rp N H' v d → Q v H'
theorem de_call {R : List PyData → PyData → Prop} {E : XK} {ta : TA} (h : DA N ta σ H ds) (r : R ds d) : DE N (tCall (spP R) [] E ta) σ H d := fun N1 H1 u f Q q =>
  h N1 H1 u f _ fun vs H2 s2 r2 => ⟨N1, ds, d, f.same s2, by rw [List.append_nil]; exact r2, r, fun v H3 s3 r3 => q v H3 (s2.trans s3) r3⟩
end
/-! ### tuples of ints, lists of such -/
abbrev tI (ns : List Int) : PyData := .tuple (ns.map PyData.int)
abbrev lI (ns : List Int) : PyData := .list (ns.map PyData.int)
abbrev lT (nss : List (List Int)) : PyData := .list (nss.map tI)
abbrev tT (nss : List (List Int)) : PyData := .tuple (nss.map tI)
theorem eqvAll_ints : ∀ xs ys : List Int, PyData.eqvAll (xs.map PyData.int) (ys.map PyData.int) = decide (xs = ys)
  | [], [] => rfl
  | [], y :: ys => by simp [PyData.eqvAll]
  | x :: xs, [] => by simp [PyData.eqvAll]
  | x :: xs, y :: ys => by
    show (PyData.eqv (.int x) (.int y) && PyData.eqvAll (xs.map PyData.int) (ys.map PyData.int)) = _
    rw [eqvAll_ints xs ys]
    show ((x == y) && decide (xs = ys)) = _
    by_cases h : x = y
    · subst h; simp
    · simp [h]
theorem eqv_tI (xs ys : List Int) : PyData.eqv (tI xs) (tI ys) = decide (xs = ys) := eqvAll_ints xs ys
theorem eqv_lI (xs ys : List Int) : PyData.eqv (lI xs) (lI ys) = decide (xs = ys) := eqvAll_ints xs ys
theorem shaped_tI (gs : List Int) : SeqAt.shaped (tI gs) = true := by
  show (PyData.canLayAll0 (gs.map PyData.int) && decide (PyData.depthAll (gs.map PyData.int) + 1 ≤ 64)) = true
  rw [lay_ints, dep_ints]; rfl
theorem eqv_lnil {ds : List PyData} : PyData.eqv (.list ds) (.list []) = ds.isEmpty := by cases ds <;> rfl
end Pu

namespace Pu
open PySem PySem.Spec PyProof.Rows L2
/-! ### a + b of ints, tuples, lists; a < b of ints, tuples of ints -/
def rAddU (K : PySem.W.Frag) : R2 := fun x y H Q => rI0 (fun i j => .int (i + j)) x y H Q ∨ rCatA K x y H Q ∨ rCat x y H Q
theorem op_addU {X : Cx} : OpR X (binaryOp .Add) (rAddU X.K) := op_add.or (op_catA.or op_cat)
def rLtU (K : PySem.W.Frag) : R2 := fun x y H Q => rI0 (fun i j => .bl (decide (i < j))) x y H Q ∨ rLtT K x y H Q
theorem op_ltU {X : Cx} (hu : X.A.units < cLine) : OpR X (compareOp .Lt) (rLtU X.K) := op_lt.or (op_ltT hu)
section
variable {K : PySem.W.Frag} {N N' : NP} {σ : L2.St} {H H' : Hp} {ta tb tc te tl : TE} {t u : TT} {d x y z : PyData} {v : V} {ds : List PyData}
theorem r2_addI {i j : Int} : R2D (rAddU K) (.int i) (.int j) (.int (i + j)) := fun N H v u Q f r1 r2 q => .inl (r2_i N H v u Q f r1 r2 q)
theorem r2_addT {xs ys : List PyData} (hl : xs.length + ys.length ≤ 10000000) : R2D (rAddU K) (.tuple xs) (.tuple ys) (.tuple (xs ++ ys)) := fun N H v u Q f r1 r2 q => .inr (.inl (r2_catT hl N H v u Q f r1 r2 q))
theorem r2_addL {xs ys : List PyData} (hl : xs.length + ys.length ≤ 10000000) : R2D (rAddU K) (.list xs) (.list ys) (.list (xs ++ ys)) := fun N H v u Q f r1 r2 q => .inr (.inr (r2_catL hl N H v u Q f r1 r2 q))
theorem r2_ltI {i j : Int} : R2D (rLtU K) (.int i) (.int j) (.bool (decide (i < j))) := fun N H v u Q f r1 r2 q => .inl (r2_b N H v u Q f r1 r2 q)
theorem r2_ltT {ns ms : List Int} : R2D (rLtU K) (tI ns) (tI ms) (.bool (HT.lexLt ns ms)) := fun N H v u Q f r1 r2 q => by
  cases r1 with
  | tup n1 h1 q1 =>
    cases r2 with
    | tup n2 h2 q2 =>
      have e1 := q1.ints
      have e2 := q2.ints
      subst e1 e2
      exact .inr ⟨_, _, ns, ms, rfl, rfl, SqT.of h1, SqT.of h2, q _ H (Same.refl H) (.bl _)⟩
theorem r2_eqT {xs ys : List Int} : R2D (rEqD K) (tI xs) (tI ys) (.bool (decide (xs = ys))) := by
  have := r2_eqD (K := K) (shaped_tI xs) (shaped_tI ys)
  rwa [eqv_tI] at this
theorem r2_neT {xs ys : List Int} : R2D (rNeD K) (tI xs) (tI ys) (.bool (!decide (xs = ys))) := by
  have := r2_neD (K := K) (shaped_tI xs) (shaped_tI ys)
  rwa [eqv_tI] at this
theorem r2_eqL {xs ys : List Int} : R2D (rEqD K) (lI xs) (lI ys) (.bool (decide (xs = ys))) := by
  have := r2_eqD (K := K) (shaped_ints xs) (shaped_ints ys)
  rwa [eqv_lI] at this
theorem r2_neL {xs ys : List Int} : R2D (rNeD K) (lI xs) (lI ys) (.bool (!decide (xs = ys))) := by
  have := r2_neD (K := K) (shaped_ints xs) (shaped_ints ys)
  rwa [eqv_lI] at this
theorem r2_eqI {i j : Int} : R2D (rEqD K) (.int i) (.int j) (.bool (decide (i = j))) := by
  have := r2_eqD (K := K) (x := .int i) (y := .int j) (by rfl) (by rfl)
  have e : PyData.eqv (.int i) (.int j) = decide (i = j) := by show (i == j) = _; by_cases h : i = j <;> simp [h]
  rwa [e] at this
theorem r2_neI {i j : Int} : R2D (rNeD K) (.int i) (.int j) (.bool (!decide (i = j))) := by
  have := r2_neD (K := K) (x := .int i) (y := .int j) (by rfl) (by rfl)
  have e : PyData.eqv (.int i) (.int j) = decide (i = j) := by show (i == j) = _; by_cases h : i = j <;> simp [h]
  rwa [e] at this
theorem r2_eqB {a b : Bool} : R2D (rEqD K) (.bool a) (.bool b) (.bool (a == b)) := r2_eqD (K := K) (x := .bool a) (y := .bool b) (by rfl) (by rfl)
theorem r2_neB {a b : Bool} : R2D (rNeD K) (.bool a) (.bool b) (.bool (!(a == b))) := r2_neD (K := K) (x := .bool a) (y := .bool b) (by rfl) (by rfl)
/-- [1 for .. ] == [] -/
theorem ones_map {α : Type} (xs : List α) : xs.map (fun _ => PyData.int 1) = (xs.map (fun _ => (1 : Int))).map PyData.int := by rw [List.map_map]; rfl
theorem r2_none {α : Type} {xs : List α} : R2D (rEqD K) (.list (xs.map fun _ => .int 1)) (.list []) (.bool xs.isEmpty) := by
  rw [ones_map]
  have := r2_eqD (K := K) (shaped_ints (xs.map fun _ => (1 : Int))) (shaped_ints [])
  have e : PyData.eqv (lI (xs.map fun _ => (1 : Int))) (lI []) = xs.isEmpty := by cases xs <;> rfl
  rwa [e] at this
theorem r2_some {α : Type} {xs : List α} : R2D (rNeD K) (.list (xs.map fun _ => .int 1)) (.list []) (.bool (!xs.isEmpty)) := by
  rw [ones_map]
  have := r2_neD (K := K) (shaped_ints (xs.map fun _ => (1 : Int))) (shaped_ints [])
  have e : PyData.eqv (lI (xs.map fun _ => (1 : Int))) (lI []) = xs.isEmpty := by cases xs <;> rfl
  rwa [e] at this
theorem filter_empty {α : Type} (xs : List α) (b : α → Bool) : (xs.filter b).isEmpty = !xs.any b := by
  induction xs with
  | nil => rfl
  | cons x r ih =>
    by_cases h : b x = true
    · simp [List.filter_cons, h]
    · simp [List.filter_cons, h, ih]
theorem de_chain {r r' : R2} {k1 k2 : Bool} (ha : DE N ta σ H x) (hb : DE N tb σ H y) (hc : DE N tc σ H z) (h1 : R2D r x y (.bool k1)) (h2 : R2D r' y z (.bool k2)) : DE N (tChain r r' ta tb tc) σ H (.bool (k1 && k2)) := fun N1 H1 s f Q q =>
  ha N1 H1 s f _ fun v H2 s2 r2 => hb N1 H2 (s.same s2) (f.same s2) _ fun u H3 s3 r3 => h1 N1 H3 v u _ ((f.same s2).same s3) (r2.same s3) r3 fun w H4 s4 r4 => by
    cases r4
    refine ⟨k1, rfl, ?_⟩
    have f4 := ((f.same s2).same s3).same s4
    cases k1 with
    | false => exact q _ H4 ((s2.trans s3).trans s4) (.bl _)
    | true => 
      exact hc N1 H4 (((s.same s2).same s3).same s4) f4 _ fun w' H5 s5 r5 => h2 N1 H5 u w' _ (f4.same s5) ((r3.same s4).same s5) r5 fun w'' H6 s6 r6 => by
        cases r6
        exact q _ H6 ((((s2.trans s3).trans s4).trans s5).trans s6) (.bl _)
end
end Pu

namespace Pu
open PySem PySem.Spec PyProof.Rows L2
/-! ### sorted lists -/
def srtI (ns : List Int) : List Int := ns.mergeSort fun a b => decide (a ≤ b)
def srtL (nss : List (List Int)) : List (List Int) := nss.mergeSort fun a b => !HT.lexLt b a
theorem lex_anti : ∀ a b : List Int, HT.lexLt a b = false → HT.lexLt b a = false → a = b
  | [], [], _, _ => rfl
  | [], y :: ys, h, _ => nomatch h
  | x :: xs, [], _, h => nomatch h
  | x :: xs, y :: ys, h1, h2 => by
    rw [HT.lexLt_cons] at h1 h2
    by_cases e : x = y
    · subst e
      rw [if_pos rfl] at h1 h2
      rw [lex_anti xs ys h1 h2]
    · rw [if_neg e] at h1
      rw [if_neg (Ne.symm e)] at h2
      simp at h1 h2
      omega
theorem srtI_perm (ns : List Int) : (srtI ns).Perm ns := List.mergeSort_perm _ _
theorem srtL_perm (nss : List (List Int)) : (srtL nss).Perm nss := List.mergeSort_perm _ _
theorem srtI_pw (ns : List Int) : (srtI ns).Pairwise (· ≤ ·) := by
  have := List.pairwise_mergeSort (le := fun a b : Int => decide (a ≤ b)) (fun a b c h1 h2 => by simp at *; omega) (fun a b => by simp; omega) ns
  exact this.imp fun h => by simpa using h
theorem srtL_pw (nss : List (List Int)) : (srtL nss).Pairwise (fun a b => HT.lexLt b a = false) := by
  have := List.pairwise_mergeSort (le := fun a b : List Int => !HT.lexLt b a) (fun a b c h1 h2 => by
    simp at *
    exact NtL.lex_tr _ _ _ h1 h2) (fun a b => by
    cases e : HT.lexLt b a with
    | false => rfl
    | true => rw [NtL.lex_asym _ _ e]; rfl) nss
  exact this.imp fun h => by simpa using h
theorem srtI_uniq {ns ms : List Int} (p : ms.Perm ns) (h : ms.Pairwise (· ≤ ·)) : ms = srtI ns :=
  List.Perm.eq_of_pairwise (fun a b _ _ h1 h2 => Int.le_antisymm h1 h2) h (srtI_pw ns) (p.trans (srtI_perm ns).symm)
theorem srtL_uniq {ns ms : List (List Int)} (p : ms.Perm ns) (h : ms.Pairwise (fun a b => HT.lexLt b a = false)) : ms = srtL ns :=
  List.Perm.eq_of_pairwise (fun a b _ _ h1 h2 => lex_anti _ _ h2 h1) h (srtL_pw ns) (p.trans (srtL_perm ns).symm)
/-- each item once -/
def ddp {α : Type} [DecidableEq α] : List α → List α
  | [] => []
  | x :: r => if x ∈ r then ddp r else x :: ddp r
theorem mem_ddp {α : Type} [DecidableEq α] {y : α} : ∀ {l : List α}, y ∈ ddp l ↔ y ∈ l
  | [] => Iff.rfl
  | x :: r => by
    unfold ddp
    split
    · rename_i h
      rw [mem_ddp, List.mem_cons]
      exact ⟨.inr, fun e => e.elim (fun e => e ▸ h) id⟩
    · rw [List.mem_cons, List.mem_cons, mem_ddp]
theorem ddp_nodup {α : Type} [DecidableEq α] : ∀ l : List α, (ddp l).Nodup
  | [] => List.Pairwise.nil
  | x :: r => by
    unfold ddp
    split
    · exact ddp_nodup r
    · rename_i h
      exact List.nodup_cons.mpr ⟨fun e => h (mem_ddp.mp e), ddp_nodup r⟩
def usrtI (ns : List Int) : List Int := srtI (ddp ns)
def usrtL (nss : List (List Int)) : List (List Int) := srtL (ddp nss)
theorem mem_usrtI {y : Int} {ns : List Int} : y ∈ usrtI ns ↔ y ∈ ns := by rw [usrtI, (srtI_perm _).mem_iff, mem_ddp]
theorem mem_usrtL {y : List Int} {ns : List (List Int)} : y ∈ usrtL ns ↔ y ∈ ns := by rw [usrtL, (srtL_perm _).mem_iff, mem_ddp]
theorem usrtI_pw (ns : List Int) : (usrtI ns).Pairwise (· < ·) := by
  have nd : (usrtI ns).Nodup := (srtI_perm _).nodup_iff.mpr (ddp_nodup ns)
  exact (List.pairwise_and_iff.mpr ⟨srtI_pw (ddp ns), nd⟩).imp fun h => by have h1 := h.1; have h2 := h.2; omega
theorem usrtL_pw (ns : List (List Int)) : (usrtL ns).Pairwise (fun a b => HT.lexLt a b = true) := by
  have nd : (usrtL ns).Nodup := (srtL_perm _).nodup_iff.mpr (ddp_nodup ns)
  refine (List.pairwise_and_iff.mpr ⟨srtL_pw (ddp ns), nd⟩).imp fun h => ?_
  cases e : HT.lexLt _ _ with
  | true => rfl
  | false => exact absurd (lex_anti _ _ e h.1) h.2
theorem usrtI_uniq {ns ms : List Int} (h : ms.Pairwise (· < ·)) (m : ∀ k, k ∈ ms ↔ k ∈ ns) : ms = usrtI ns := by
  have n1 : ms.Nodup := h.imp fun h => Int.ne_of_lt h
  refine srtI_uniq ((List.perm_ext_iff_of_nodup n1 (ddp_nodup ns)).mpr fun a => ?_) (h.imp fun h => Int.le_of_lt h)
  rw [m, mem_ddp]
theorem usrtL_uniq {ns ms : List (List Int)} (h : ms.Pairwise (fun a b => HT.lexLt b a = false)) (n1 : ms.Nodup) (m : ∀ k, k ∈ ms ↔ k ∈ ns) : ms = usrtL ns := by
  refine srtL_uniq ((List.perm_ext_iff_of_nodup n1 (ddp_nodup ns)).mpr fun a => ?_) h
  rw [m, mem_ddp]
section
variable {K : PySem.W.Frag} {P : Program} {w : World} {N N' : NP} {σ : L2.St} {H H' : Hp} {ta tb tc te tl : TE} {t u : TT} {d x y z : PyData} {v : V} {ds : List PyData}
theorem rc_sortI {ns : List Int} : RCD (rSortedI K) [lI ns] (lI (srtI ns)) := fun N H vs Q f r q => by
  cases r with
  | cons r t =>
    cases t
    cases r with
    | lst n h r =>
      have e := r.ints
      subst e
      exact ⟨_, ns, rfl, SqL.of h, fun ns' p pm pw hp => q _ _ (same_upd hp) (.lst (f p hp) upd_same (by rw [srtI_uniq pm pw]; exact rps_ints _))⟩
theorem rps_key : ∀ {nss : List (List Int)} {xs : List V}, Rps N H xs (nss.map tI) → xs.map (keyOf H) = nss ∧ ∀ x ∈ xs, ∃ a ns, x = .ref a ∧ N a ∧ H a = some (.tup (ns.map V.int)) ∧ ns ∈ nss ∧ keyOf H x = ns
  | [], _, h => by cases h; exact ⟨rfl, fun x hx => nomatch hx⟩
  | ns :: nss, _, h => by
    cases h with
    | cons r t =>
      obtain ⟨e1, e2⟩ := rps_key t
      cases r with
      | @tup a ys _ n hh r =>
        have e := r.ints
        subst e
        have ek := keyOf_eq hh
        refine ⟨by rw [List.map_cons, e1, ek], fun x hx => ?_⟩
        rcases List.mem_cons.mp hx with rfl | hx
        · exact ⟨a, ns, rfl, n, hh, List.mem_cons_self, ek⟩
        · obtain ⟨a', ns', q1, q2, q3, q4, q5⟩ := e2 x hx
          exact ⟨a', ns', q1, q2, q3, List.mem_cons_of_mem _ q4, q5⟩
theorem rps_of_key : ∀ {ys : List V}, (∀ x ∈ ys, ∃ a ns, x = .ref a ∧ N a ∧ H a = some (.tup (ns.map V.int)) ∧ keyOf H x = ns) → Rps N H ys ((ys.map (keyOf H)).map tI)
  | [], _ => .nil
  | y :: ys, h => by
    obtain ⟨a, ns, rfl, n, hh, ek⟩ := h y List.mem_cons_self
    rw [List.map_cons, List.map_cons, ek]
    exact .cons (.tup n hh (rps_ints ns)) (rps_of_key fun x hx => h x (List.mem_cons_of_mem _ hx))
theorem rc_sortL {nss : List (List Int)} (hne : ∀ ns ∈ nss, ns ≠ []) : RCD (rSortLex K) [lT nss] (lT (srtL nss)) := fun N H vs Q f r q => by
  cases r with
  | cons r t =>
    cases t
    cases r with
    | @lst a xs _ n h r =>
      obtain ⟨e1, e2⟩ := rps_key r
      refine ⟨a, xs, rfl, SqL.of h, fun x hx => ?_, fun ys p pm pw hp => q _ _ (same_upd hp) (.lst (f p hp) upd_same (Rps.same (same_upd hp) ?_))⟩
      · obtain ⟨a', ns, q1, q2, q3, q4, q5⟩ := e2 x hx
        exact ⟨a', ns, q1, q3, hne ns q4⟩
      · have e : ys.map (keyOf H) = srtL nss := srtL_uniq (by rw [← e1]; exact pm.map _) (List.pairwise_map.mpr pw)
        rw [← e]
        exact rps_of_key fun x hx => by
          obtain ⟨a', ns, q1, q2, q3, q4, q5⟩ := e2 x (pm.mem_iff.mp hx)
          exact ⟨a', ns, q1, q2, q3, q5⟩
theorem rps_ks : ∀ {nss : List (List Int)} {xs : List V}, Rps N H xs (nss.map tI) → ∃ ks : List (Addr × List Int), xs = ks.map (fun p => V.ref p.1) ∧ ks.map (·.2) = nss ∧ ∀ p ∈ ks, N p.1 ∧ H p.1 = some (.tup (p.2.map V.int))
  | [], _, h => by cases h; exact ⟨[], rfl, rfl, fun p hp => nomatch hp⟩
  | ns :: nss, _, h => by
    cases h with
    | cons r t =>
      obtain ⟨ks, e1, e2, e3⟩ := rps_ks t
      cases r with
      | @tup a ys _ n hh r =>
        have e := r.ints
        subst e
        refine ⟨(a, ns) :: ks, by rw [e1]; rfl, by rw [List.map_cons, e2], fun p hp => ?_⟩
        rcases List.mem_cons.mp hp with rfl | hp
        · exact ⟨n, hh⟩
        · exact e3 p hp
theorem rps_of_ks : ∀ {L : List (Addr × List Int)}, (∀ p ∈ L, N p.1 ∧ H p.1 = some (.tup (p.2.map V.int))) → Rps N H (L.map fun p => V.ref p.1) ((L.map (·.2)).map tI)
  | [], _ => .nil
  | p :: L, h => .cons (.tup (h p List.mem_cons_self).1 (h p List.mem_cons_self).2 (rps_ints p.2)) (rps_of_ks fun q hq => h q (List.mem_cons_of_mem _ hq))
/-- sorted(set(xs)), xs a list of tuples of one int or more -/
theorem de_usrtL {nss : List (List Int)} (h : DE N te σ H (lT nss)) (hl : nss.length < 64) (hne : ∀ ns ∈ nss, ns ≠ []) :
    DE N (tCB (rSortedSetLex K P w) (tCons (tCB (rSetOfT K P w) (tCons te tNil)) tNil)) σ H (lT (usrtL nss)) := fun N1 H1 u f Q q =>
  h N1 H1 u f _ fun v H2 s2 r2 => by
    cases r2 with
    | @lst a xs _ n hh r =>
      obtain ⟨ks, rfl, e2, e3⟩ := rps_ks r
      refine ⟨a, ks, rfl, SqL.of hh, fun p hp => SqT.of (e3 p hp).2, by have := congrArg List.length e2; rw [List.length_map] at this; omega, fun b L hb l1 l2 => ?_⟩
      have s3 := same_upd (H := H2) (p := b) (o := SetTO P w b L) hb
      refine ⟨b, L, rfl, upd_same, fun p hp => ?_, fun L' p pm nd pw hp => ?_⟩
      · have hk := l1 p hp
        exact ⟨SqT.of (s3 _ _ (e3 p hk).2), hne _ (by rw [← e2]; exact List.mem_map.mpr ⟨p, hk, rfl⟩)⟩
      · have f3 := (f.same s2).same s3
        have s4 := same_upd (H := upd H2 b (SetTO P w b L)) (p := p) (o := .lst (L'.map fun q => V.ref q.1)) hp
        refine q _ _ ((s2.trans s3).trans s4) (.lst (f3 p hp) upd_same ?_)
        have e : L'.map (·.2) = usrtL nss := usrtL_uniq (List.pairwise_map.mpr pw) nd fun k => by
          rw [(pm.map (·.2)).mem_iff, ← e2]
          constructor
          · intro hk
            obtain ⟨p', hp', rfl⟩ := List.mem_map.mp hk
            exact List.mem_map.mpr ⟨p', l1 p' hp', rfl⟩
          · intro hk
            obtain ⟨p', hp', rfl⟩ := List.mem_map.mp hk
            exact l2 p' hp'
        rw [← e]
        exact rps_of_ks fun p' hp' => by
          have hk := e3 p' (l1 p' (pm.mem_iff.mp hp'))
          exact ⟨hk.1, s4 _ _ (s3 _ _ hk.2)⟩
theorem fin_usrtI {ns : List Int} {b : Addr} {n : Nat} {H2 : Hp} (hb : H2 b = some (SetO w b (fun j => decide (j ∈ ns)) n)) (hn : n < 64) (f : Fr N H2) {Q : VK} (q : ∀ v H', Same H2 H' → Rp N H' v (lI (usrtI ns)) → Q v H') :
    rSortedSet w [.ref b] H2 Q := ⟨b, _, n, rfl, hb, hn, fun ms p pw hm hl hp => q _ _ (same_upd hp) (.lst (f p hp) upd_same (by
      rw [usrtI_uniq (ns := ns) pw fun k => by rw [hm k]; simp]
      exact rps_ints _))⟩
/-- sorted(set(xs)), xs a list of ints -/
theorem de_usrtI {ns : List Int} (h : DE N te σ H (lI ns)) (hl : ns.length < 64) : DE N (tCB (rSortedSet w) (tCons (tCB (rSetL K w) (tCons te tNil)) tNil)) σ H (lI (usrtI ns)) := fun N1 H1 u f Q q =>
  h N1 H1 u f _ fun v H2 s2 r2 => by
    cases r2 with
    | @lst a xs _ n hh r =>
      have e := r.ints
      subst e
      refine ⟨a, ns, rfl, SqL.of hh, by omega, fun b n hb hn => ?_⟩
      have s3 := same_upd (H := H2) (p := b) (o := SetO w b (fun j => decide (j ∈ ns)) n) hb
      exact fin_usrtI upd_same (by omega) ((f.same s2).same s3) fun v H' s4 r4 => q v H' ((s2.trans s3).trans s4) r4
/-- sorted(set(xs)), xs a tuple of ints -/
theorem de_usrtT {ns : List Int} (h : DE N te σ H (tI ns)) (hl : ns.length < 64) : DE N (tCB (rSortedSet w) (tCons (tCB (rSetTI K w) (tCons te tNil)) tNil)) σ H (lI (usrtI ns)) := fun N1 H1 u f Q q =>
  h N1 H1 u f _ fun v H2 s2 r2 => by
    cases r2 with
    | @tup a xs _ n hh r =>
      have e := r.ints
      subst e
      refine ⟨a, ns, rfl, SqT.of hh, by omega, fun b n hb hn => ?_⟩
      have s3 := same_upd (H := H2) (p := b) (o := SetO w b (fun j => decide (j ∈ ns)) n) hb
      exact fin_usrtI upd_same (by omega) ((f.same s2).same s3) fun v H' s4 r4 => q v H' ((s2.trans s3).trans s4) r4
/-- list(range(n)), tuple(range(n)) -/
theorem rgV_rng {i : Int} : rgV 0 i = ((Ch.rng i.toNat).map V.int) := by
  unfold rgV Ch.rng
  rw [List.map_map, Int.sub_zero]
  refine List.map_congr_left fun k _ => ?_
  show V.int (0 + (k : Int)) = V.int (k : Int)
  rw [Int.zero_add]
theorem de_listRg {i : Int} (h : DE N te σ H (.int i)) (h0 : 0 ≤ i) (h1 : i ≤ 10000000) : DE N (tLstRg (tRg1 te)) σ H (lI (Ch.rng i.toNat)) := fun N1 H1 u f Q q =>
  h N1 H1 u f _ fun v H2 s2 r2 => by
    cases r2
    refine ⟨i, rfl, RgOk.of_le (Int.le_refl 0) (by omega) (by omega) h0, fun p hp => q _ _ (s2.trans (same_upd hp)) (.lst (f p (s2.free hp)) upd_same ?_)⟩
    rw [rgV_rng]
    exact rps_ints _
theorem de_tupRg {i : Int} (h : DE N te σ H (.int i)) (h0 : 0 ≤ i) (h1 : i ≤ 10000000) : DE N (tTupRg (tRg1 te)) σ H (tI (Ch.rng i.toNat)) := fun N1 H1 u f Q q =>
  h N1 H1 u f _ fun v H2 s2 r2 => by
    cases r2
    refine ⟨i, rfl, RgOk.of_le (Int.le_refl 0) (by omega) (by omega) h0, fun p hp => q _ _ (s2.trans (same_upd hp)) (.tup (f p (s2.free hp)) upd_same ?_)⟩
    rw [rgV_rng]
    exact rps_ints _
/-- list(zip(xs, ys)) -/
theorem de_listZip {ta : TA} {xs ys : List PyData} (h : DA N ta σ H [.list xs, .list ys]) (hl : xs.length = ys.length) (hz : xs.length ≤ 10000000) : DE N (tListZip K ta) σ H (.list ((xs.zip ys).map fun p => .tuple [p.1, p.2])) := fun N1 H1 u f Q q =>
  h N1 H1 u f _ fun vs H2 s2 r2 => by
    cases r2 with
    | cons r1 r =>
      cases r with
      | cons r2 r =>
        cases r
        cases r1 with
        | @lst a vx _ n1 h1 r1 =>
          cases r2 with
          | @lst b vy _ n2 h2 r2 =>
            have l1 := r1.len
            have l2 := r2.len
            refine ⟨a, b, vx, vy, rfl, SqL.of h1, SqL.of h2, by omega, by omega, fun S ts H' hS sm hS' hts hT => q _ _ (s2.trans sm) (.lst ((f.same s2) S hS) hS' ?_)⟩
            have f' := (f.same s2)
            -- item by item
            have go : ∀ (k : Nat), k ≤ ts.length → Rps N1 H' ((ts.drop (ts.length - k)).map V.ref) (((xs.zip ys).drop (ts.length - k)).map fun p => .tuple [p.1, p.2]) := by
              intro k
              induction k with
              | zero =>
                intro _
                have e1 : ts.drop (ts.length - 0) = [] := by rw [Nat.sub_zero, List.drop_length]
                have e2 : (xs.zip ys).drop (ts.length - 0) = [] := List.drop_eq_nil_of_le (by rw [List.length_zip]; omega)
                rw [e1, e2]; exact .nil
              | succ k ih =>
                intro hk
                have hj : ts.length - (k + 1) < ts.length := by omega
                have hjz : ts.length - (k + 1) < (xs.zip ys).length := by rw [List.length_zip]; omega
                rw [List.drop_eq_getElem_cons hj, List.drop_eq_getElem_cons hjz]
                have e3 : ts.length - (k + 1) + 1 = ts.length - k := by omega
                rw [e3, List.map_cons, List.map_cons]
                refine .cons ?_ (ih (by omega))
                obtain ⟨q1, q2, x, y, ex, ey, et⟩ := hT _ _ (List.getElem?_eq_getElem hj)
                obtain ⟨dx, hdx, rx⟩ := r1.get ex
                obtain ⟨dy, hdy, ry⟩ := r2.get ey
                have e4 : (xs.zip ys)[ts.length - (k + 1)] = (dx, dy) := by
                  have : (xs.zip ys)[ts.length - (k + 1)]? = some (dx, dy) := List.getElem?_zip_eq_some.mpr ⟨hdx, hdy⟩
                  rw [List.getElem?_eq_getElem hjz] at this
                  exact Option.some.inj this
                rw [e4]
                exact .tup (f' _ q1) et (.cons (rx.same sm) (.cons (ry.same sm) .nil))
            have := go ts.length (Nat.le_refl _)
            simpa using this
end
end Pu

namespace Pu
open PySem PySem.Spec PyProof.Rows L2
section
variable {K : PySem.W.Frag} {N N' : NP} {σ : L2.St} {H H' : Hp} {ta tb te tl : TE} {t u : TT} {d x y z : PyData} {v : V} {ds : List PyData}
/-- within a list under making at D -/
structure InD (N1 : NP) (H2 : Hp) (D : Addr) (H3 : Hp) (es : List PyData) : Prop where
  same : Same H2 H3
  up : Up N1 H2 (fun a => N1 a ∧ a ≠ D) H3
  fr : Fr (fun a => N1 a ∧ a ≠ D) H3
  acc : ∃ acc, H3 D = some (.lst acc) ∧ Rps (fun a => N1 a ∧ a ≠ D) H3 acc es
theorem InD.new {N1 : NP} {H2 : Hp} {D : Addr} (hD : H2 D = none) (f : Fr N1 H2) : InD N1 H2 D (upd H2 D (.lst [])) [] :=
  ⟨same_upd hD, up_new hD, fun a ha => by
    have na : a ≠ D := fun z => by rw [z, upd_same] at ha; cases ha
    rw [upd_ne na] at ha
    exact ⟨f a ha, na⟩, [], upd_same, .nil⟩
theorem InD.go {N1 : NP} {H2 H3 H4 : Hp} {D : Addr} {es : List PyData} (w : InD N1 H2 D H3 es) (s : Same H3 H4) : InD N1 H2 D H4 es :=
  ⟨w.same.trans s, w.up.same s, w.fr.same s, let ⟨acc, h, r⟩ := w.acc; ⟨acc, s _ _ h, r.same s⟩⟩
theorem InD.app {N1 : NP} {H2 H3 : Hp} {D : Addr} {es : List PyData} (w : InD N1 H2 D H3 es) (hD : H2 D = none) {y : V} {d : PyData} (r : Rp (fun a => N1 a ∧ a ≠ D) H3 y d) (hl : es.length < 10000000) :
    ∃ acc, H3 D = some (.lst acc) ∧ acc.length < sizeLine ∧ InD N1 H2 D (upd H3 D (.lst (acc ++ [y]))) (es ++ [d]) := by
  obtain ⟨acc, h, ra⟩ := w.acc
  have up6 : Up (fun a => N1 a ∧ a ≠ D) H3 (fun a => N1 a ∧ a ≠ D) (upd H3 D (.lst (acc ++ [y]))) := fun a o n e => ⟨n, by rw [upd_ne n.2]; exact e⟩
  refine ⟨acc, h, Nat.lt_of_lt_of_le (by rw [ra.len]; exact hl) (by decide : 10000000 ≤ sizeLine), fun a o e => ?_, w.up.trans up6, fun a ha => ?_, acc ++ [y], upd_same, (ra.app (.cons r .nil)).up up6⟩
  · rw [upd_ne (ne_of_none e hD)]
    exact w.same _ _ e
  · have na : a ≠ D := fun z => by rw [z, upd_same] at ha; cases ha
    rw [upd_ne na] at ha
    exact w.fr a ha
/-- [e for x in xs for y in ys if t] -/
theorem de_lcc {α β : Type} {xs : List α} {enc : α → PyData} {wi wi1 : TI} {tt1 : TT} {vs vs1 : List Nat} {i j : Nat} (ys : α → List β) (enc1 : α → β → PyData) (b : α → β → Bool) (f : α → β → PyData)
    (hi : DI N wi σ H (xs.map enc)) (hl : (xs.flatMap ys).length < 10000000)
    (hb1 : ∀ a ∈ xs, ∀ x N' H', Up N H N' H' → Rp N' H' x (enc a) → DI N' wi1 ((wipe σ vs).set i (some x)) H' ((ys a).map (enc1 a)))
    (hb2 : ∀ a ∈ xs, ∀ c ∈ ys a, ∀ x y N' H', Up N H N' H' → Rp N' H' x (enc a) → Rp N' H' y (enc1 a c) →
      DT N' tt1 ((wipe ((wipe σ vs).set i (some x)) vs1).set j (some y)) H' (b a c) ∧ (b a c = true → DE N' te ((wipe ((wipe σ vs).set i (some x)) vs1).set j (some y)) H' (f a c)))
    (hw : ∀ x, wipe ((wipe σ vs).set i (some x)) vs = wipe σ vs := by intro _; rfl)
    (hw1 : ∀ x y, wipe ((wipe ((wipe σ vs).set i (some x)) vs1).set j (some y)) vs1 = wipe ((wipe σ vs).set i (some x)) vs1 := by intro _ _; rfl) :
    DE N (tLc2 wi (gName i) tYes wi1 (gName j) tt1 te vs vs1) σ H (.list (xs.flatMap fun a => ((ys a).filter (b a)).map (f a))) := fun N1 H1 u1 f1 Q q =>
  hi N1 H1 u1 f1 _ fun J H2 s2 w D hD => by
    have hl' : (xs.map enc).length = xs.length := List.length_map _
    have lb : ∀ i (h : i < xs.length) (k : Nat), (((xs.take i).flatMap fun a => ((ys a).filter (b a)).map (f a)) ++ (((ys xs[i]).take k).filter (b xs[i])).map (f xs[i])).length ≤ (xs.flatMap ys).length := by
      intro i h k
      have key : ∀ l : List α, (l.flatMap fun a => ((ys a).filter (b a)).map (f a)).length ≤ (l.flatMap ys).length := by
        intro l
        induction l with
        | nil => exact Nat.le_refl _
        | cons a l ih =>
          rw [List.flatMap_cons, List.flatMap_cons, List.length_append, List.length_append, List.length_map]
          exact Nat.add_le_add (List.length_filter_le _ _) ih
      have e : xs.flatMap ys = (xs.take i).flatMap ys ++ (ys xs[i] ++ (xs.drop (i + 1)).flatMap ys) := by
        conv => lhs; rw [← List.take_append_drop i xs, List.drop_eq_getElem_cons h]
        rw [List.flatMap_append, List.flatMap_cons]
      rw [e, List.length_append, List.length_append, List.length_append, List.length_map]
      have k1 := key (xs.take i)
      have k2 : (((ys xs[i]).take k).filter (b xs[i])).length ≤ (ys xs[i]).length := Nat.le_trans (List.length_filter_le _ _) (by rw [List.length_take]; exact Nat.min_le_right _ _)
      omega
    refine ⟨fun i m H3 => m = xs.length - i ∧ i ≤ xs.length ∧ InD N1 H2 D H3 ((xs.take i).flatMap fun a => ((ys a).filter (b a)).map (f a)), ⟨_, rfl, Nat.zero_le _, InD.new hD (f1.same s2)⟩, ?_⟩
    rintro i m H3 ⟨rfl, hi', I3⟩
    by_cases hlt : i < xs.length
    · refine .inr ⟨w.go _ _ I3.up i (by omega), fun H4 => InD N1 H2 D H4 ((xs.take (i + 1)).flatMap fun a => ((ys a).filter (b a)).map (f a)), fun H4 h4 => ⟨_, by omega, rfl, hlt, h4⟩, fun x H4 y => ?_⟩
      obtain ⟨s4, d, hd, rd⟩ := w.yld _ _ I3.up I3.fr i x H4 (by omega) y
      rw [List.getElem?_map, List.getElem?_eq_getElem hlt] at hd
      have ed : enc xs[i] = d := Option.some.inj hd
      subst ed
      have I4 := I3.go s4
      have hm := List.getElem_mem hlt
      have etk : xs.take (i + 1) = xs.take i ++ [xs[i]] := by rw [List.take_succ, List.getElem?_eq_getElem hlt]; rfl
      refine ⟨hw x, ?_⟩
      refine iteT (B := InD N1 H2 D H4 ((xs.take (i + 1)).flatMap fun a => ((ys a).filter (b a)).map (f a))) ?_
      refine hb1 xs[i] hm x _ H4 ((u1.same s2).trans I4.up) rd _ H4 (Up.refl _ _) I4.fr _ fun J1 H5 s5 w5 => ?_
      have I5 := I4.go s5
      have rd5 := rd.same s5
      have hl5 : ((ys xs[i]).map (enc1 xs[i])).length = (ys xs[i]).length := List.length_map _
      refine ⟨fun j m H6 => m = (ys xs[i]).length - j ∧ j ≤ (ys xs[i]).length ∧ Up (fun a => N1 a ∧ a ≠ D) H5 (fun a => N1 a ∧ a ≠ D) H6 ∧ InD N1 H2 D H6 (((xs.take i).flatMap fun a => ((ys a).filter (b a)).map (f a)) ++ (((ys xs[i]).take j).filter (b xs[i])).map (f xs[i])),
        ⟨_, rfl, Nat.zero_le _, Up.refl _ _, by simpa using I5⟩, ?_⟩
      rintro j m H6 ⟨rfl, hj', u6, I6⟩
      by_cases hjl : j < (ys xs[i]).length
      · refine .inr ⟨w5.go _ _ u6 j (by omega), fun H7 => Up (fun a => N1 a ∧ a ≠ D) H5 (fun a => N1 a ∧ a ≠ D) H7 ∧ InD N1 H2 D H7 (((xs.take i).flatMap fun a => ((ys a).filter (b a)).map (f a)) ++ (((ys xs[i]).take (j + 1)).filter (b xs[i])).map (f xs[i])),
          fun H7 h7 => ⟨_, by omega, rfl, hjl, h7⟩, fun y' H7 yy => ?_⟩
        obtain ⟨s7, d', hd', rd'⟩ := w5.yld _ _ u6 I6.fr j y' H7 (by omega) yy
        rw [List.getElem?_map, List.getElem?_eq_getElem hjl] at hd'
        have ed' : enc1 xs[i] (ys xs[i])[j] = d' := Option.some.inj hd'
        subst ed'
        have I7 := I6.go s7
        have etj : (ys xs[i]).take (j + 1) = (ys xs[i]).take j ++ [(ys xs[i])[j]] := by rw [List.take_succ, List.getElem?_eq_getElem hjl]; rfl
        obtain ⟨dt, de⟩ := hb2 xs[i] hm (ys xs[i])[j] (List.getElem_mem hjl) x y' _ H7 ((u1.same s2).trans I7.up) (rd5.up (u6.same s7)) rd'
        refine ⟨hw1 x y', dt.run I7.fr fun H8 s8 => ?_⟩
        have u8 := (u6.same s7).same s8
        cases hbb : b xs[i] (ys xs[i])[j] with
        | false =>
          refine iteF ⟨u8, ?_⟩
          have := I7.go s8
          rw [etj, List.filter_append, List.filter_cons_of_neg (by rw [hbb]; simp), List.filter_nil, List.append_nil]
          exact this
        | true =>
          refine iteT (((de hbb).up (Up.of s8)).run (I7.fr.same s8) fun z H9 s9 r9 => ?_)
          obtain ⟨acc, h1, h2, h3⟩ := ((I7.go s8).go s9).app hD r9 (Nat.lt_of_le_of_lt (lb i hlt j) hl)
          refine ⟨acc, h1, h2, ((u8.same s9).trans fun a o n e => ⟨n, by rw [upd_ne n.2]; exact e⟩), ?_⟩
          rw [etj, List.filter_append, List.filter_cons_of_pos hbb, List.filter_nil, List.map_append, ← List.append_assoc]
          exact h3
      · have e : j = (ys xs[i]).length := by omega
        subst e
        refine .inl ⟨by have := w5.stop _ _ u6; rwa [hl5] at this, ?_⟩
        rw [etk, List.flatMap_append, List.flatMap_cons, List.flatMap_nil, List.append_nil]
        rw [List.take_length] at I6
        exact I6
    · have e : i = xs.length := by omega
      subst e
      obtain ⟨acc, hacc, ra⟩ := I3.acc
      rw [List.take_length] at ra
      exact .inl ⟨by have := w.stop _ _ I3.up; rwa [hl'] at this, q _ _ (s2.trans I3.same) (.lst ((f1.same s2) D hD) hacc (ra.up up_sub))⟩
/-! ### loops by data -/
theorem df_for {α : Type} {xs : List α} {enc : α → PyData} {wi : TI} {g : TG} {tb : TS} {D : Ends} (h : DI N wi σ H (xs.map enc)) (f : Fr N H)
    (k : ∀ H2, Same H H2 → ∃ Pv : Nat → L2.St → Hp → Prop, Pv 0 σ H2 ∧ (∀ i σ' H', Pv i σ' H' → Up N H2 N H' ∧ Fr N H') ∧
      (∀ i (hi : i < xs.length) x σ' H' H3, Pv i σ' H' → Same H' H3 → Rp N H3 x (enc xs[i]) → g x σ' H3 fun σ2 H4 => tb { D with nx := Pv (i + 1), ct := Pv (i + 1), bk := D.nx } σ2 H4) ∧
      (∀ σ' H', Pv xs.length σ' H' → D.nx σ' H')) : tFor wi g tb D σ H :=
  h N H (Up.refl N H) f _ fun J H2 s2 w => by
    have hl' : (xs.map enc).length = xs.length := List.length_map _
    obtain ⟨Pv, p0, pu, ps, pd⟩ := k H2 s2
    refine ⟨fun i m σ' H' => m = xs.length - i ∧ i ≤ xs.length ∧ Pv i σ' H', ⟨_, rfl, Nat.zero_le _, p0⟩, ?_⟩
    rintro i m σ' H' ⟨rfl, hi, p⟩
    obtain ⟨u, f'⟩ := pu i σ' H' p
    by_cases hlt : i < xs.length
    · refine .inr ⟨w.go _ _ u i (by omega), Pv (i + 1), fun σ'' H'' p' => ⟨_, by omega, rfl, hlt, p'⟩, fun x H3 y => ?_⟩
      obtain ⟨s3, d, hd, rd⟩ := w.yld _ _ u f' i x H3 (by omega) y
      rw [List.getElem?_map, List.getElem?_eq_getElem hlt] at hd
      have ed : enc xs[i] = d := Option.some.inj hd
      subst ed
      exact ps i hlt x σ' H' H3 p s3 rd
    · have e : i = xs.length := by omega
      subst e
      exact .inl ⟨by have := w.stop _ _ u; rwa [hl'] at this, pd σ' H' p⟩
end
/-! ### the facts of a text's top -/
structure Def (P : Program) (w : World) (K : PySem.W.Frag) (mg : Str → Option Value) (base : Heap) (x : Str) (lv : Nat) (ps : List Str) (sp : Sp) : Prop where
  ex : ∃ (f : Addr) (fd : FuncData), FnOk P w K mg base CX0 lv f fd ps sp ∧ Binds K fd ps [] ∧ PySem.W.keepIn K (.ref f) = true ∧ mg x = some (.ref f)
structure Bi (mg : Str → Option Value) : Prop where
  len : mg "len" = none
  list : mg "list" = none
  tuple : mg "tuple" = none
  all : mg "all" = none
  any : mg "any" = none
  sum : mg "sum" = none
  min : mg "min" = none
  sorted : mg "sorted" = none
  set : mg "set" = none
  range : mg "range" = none
  enumerate : mg "enumerate" = none
  zip : mg "zip" = none
  int : mg "int" = none
  bool : mg "bool" = none
  abs : mg "abs" = none
  isinstance : mg "isinstance" = none
/-- of a def whose promise tells its answer by data: its arguments' number -/
theorem len_spP {R : List PyData → PyData → Prop} {n : Nat} (h : ∀ ds d, R ds d → ds.length = n) : ∀ vs H Q E, spP R vs H Q E → vs.length = n := fun vs H Q E ⟨N, ds, d, f, r, hr, k⟩ => by rw [r.len, h ds d hr]
end Pu

namespace Pu
open PySem PySem.Spec PyProof.Rows L2
/-! ### the rules with the written part told -/
section
variable {X : Cx} (K : PySem.W.Frag)
theorem op_addK (h : X.K = K := by rfl) : OpR X (binaryOp .Add) (rAddU K) := h ▸ op_addU
theorem op_ltK (hu : X.A.units < cLine) (h : X.K = K := by rfl) : OpR X (compareOp .Lt) (rLtU K) := h ▸ op_ltU hu
theorem op_eqK (hu : X.A.units + 64 < cLine) (h : X.K = K := by rfl) : OpR X (compareOp .Eq) (rEqD K) := h ▸ op_eqD hu
theorem op_neK (hu : X.A.units + 64 < cLine) (h : X.K = K := by rfl) : OpR X (compareOp .NotEq) (rNeD K) := h ▸ op_neD hu
theorem op_inK (h : X.K = K := by rfl) : OpR X (compareOp .In) (rIn K false) := h ▸ op_in_seq
theorem op_ninK (h : X.K = K := by rfl) : OpR X (compareOp .NotIn) (rIn K true) := h ▸ op_notIn_seq
theorem ix_K (h : X.K = K := by rfl) : IxR X (rIx K) := h ▸ ix_seq
theorem sl_tK (h : X.K = K := by rfl) : SlR X (rSlA K) := h ▸ sl_tupA
theorem sl_lK (h : X.K = K := by rfl) : SlR X (rSlL K) := h ▸ sl_list
def rLenK : List V → Hp → VK → Prop := fun xs H Q => ∃ p ys, xs = [.ref p] ∧ (SqL K H p ys ∨ SqT K H p ys) ∧ Q (.int ys.length) H
theorem call_lenK (h : X.K = K := by rfl) : CallR X (.builtin "len") (rLenK K) := by subst h; exact call_len_seq
def rListK : List V → Hp → VK → Prop := fun xs H Q => ∃ p ys, xs = [.ref p] ∧ (SqL K H p ys ∨ SqT K H p ys) ∧ ∀ l, H l = none → Q (.ref l) (upd H l (.lst ys))
theorem call_listK (h : X.K = K := by rfl) : CallR X (.type "list") (rListK K) := by subst h; exact call_list_of
def rTupK : List V → Hp → VK → Prop := fun xs H Q => ∃ p ys, xs = [.ref p] ∧ ((SqL K H p ys ∧ ∀ l, H l = none → Q (.ref l) (upd H l (.tup ys))) ∨ (SqT K H p ys ∧ Q (.ref p) H))
theorem call_tupK (h : X.K = K := by rfl) : CallR X (.type "tuple") (rTupK K) := by subst h; exact call_tuple_of
theorem cr_allK (hc : X.calm = true) (h : X.K = K := by rfl) : CallR X (.builtin "all") (rAll K) := h ▸ cr_all hc
theorem cr_anyK (hc : X.calm = true) (h : X.K = K := by rfl) : CallR X (.builtin "any") (rAny K) := h ▸ cr_any hc
theorem cr_sumK (hc : X.calm = true) (h : X.K = K := by rfl) : CallR X (.builtin "sum") (rSum K) := h ▸ cr_sum hc
theorem cr_sortIK (h : X.K = K := by rfl) : CallR X (.builtin "sorted") (rSortedI K) := h ▸ cr_sortedI
theorem cr_sortLK (h : X.K = K := by rfl) : CallR X (.builtin "sorted") (rSortLex K) := h ▸ cr_sortLex
theorem cr_setLK (w : World) (hc : X.calm = true) (h : X.K = K := by rfl) (hw : X.w = w := by rfl) : CallR X (.type "set") (rSetL K w) := by subst h hw; exact cr_setL hc
theorem cr_setTK (w : World) (hc : X.calm = true) (h : X.K = K := by rfl) (hw : X.w = w := by rfl) : CallR X (.type "set") (rSetTI K w) := by subst h hw; exact cr_setTI hc
theorem cr_setIK (w : World) (hc : X.calm = true) (hw : X.w = w := by rfl) : CallR X (.builtin "sorted") (rSortedSet w) := hw ▸ cr_sortedSet hc
theorem cr_setOK (P : Program) (w : World) (hc : X.calm = true) (hu : X.A.units + 64 < cLine) (h : X.K = K := by rfl) (hp : X.prog = P := by rfl) (hw : X.w = w := by rfl) : CallR X (.type "set") (rSetOfT K P w) := by subst h hp hw; exact cr_setOfT hc hu
theorem cr_sortSK (P : Program) (w : World) (hc : X.calm = true) (h : X.K = K := by rfl) (hp : X.prog = P := by rfl) (hw : X.w = w := by rfl) : CallR X (.builtin "sorted") (rSortedSetLex K P w) := by subst h hp hw; exact cr_sortedSetLex hc
theorem pi_seqK {tg l : Expr} {tl : TE} (hl : PE X l tl) (h : X.K = K := by rfl) : PI X tg l (iSeq K tl) := h ▸ pi_seq hl
theorem pi_enumTK {e : Expr} {ta : TA} {p pos tpos : Pos} {elts : List Expr} {kk : Nat} (hg : Gl X "enumerate") (hm : X.mg "enumerate" = none) (ha : PA X [e] ta) (hs : starEach [e] X.env = [(false, eval e X.env)] := by rfl) (h : X.K = K := by rfl) :
    PI X (.Tuple elts kk tpos) (.Call (.Name "enumerate" p) [e] [] pos) (iEnumT K ta) := h ▸ pi_enumT hg hm ha hs
def tTruK (ta : TE) : TT := fun σ H Q => ta σ H fun x H' => ∃ k, TruV K x H' k ∧ Q k H'
theorem pt_truK {a : Expr} {ta : TE} (ha : PE X a ta) (he : ∀ whole, isTrue a X.env whole = (do let v ← whole; standAt a.pos; holding [v] (truthy v))) (h : X.K = K := by rfl) : PT X a (tTruK K ta) := by subst h; exact pt_truth ha he
theorem pg_tupK {es : List Expr} {k : Nat} {pos : Pos} {t : TGs} {n : Nat} (hc : X.calm = true) (h : PGs X es t)
    (hn : (assignEach es X.env).length = n := by rfl) (hst : (assignEach es X.env).findIdx? (·.1) = none := by rfl) (hk : X.K = K := by rfl) : PG X (.Tuple es k pos) (gTup K n t) := hk ▸ pg_tup hc h hn hst
theorem pe_gi {x : Str} {i : Int} {t : Tok} {pos : Pos} (hg : Gl X x) (hm : X.mg x = some (.int i t)) (hd : (x == ("__debug__" : Str)) = false := by decide) : PE X (.Name x pos) (tC (.int i)) := pe_glob (v := .int i) hg hm ⟨_, rfl⟩ hd
end
section
variable {K : PySem.W.Frag} {P : Program} {w : World} {N N' : NP} {σ : L2.St} {H H' : Hp} {ta tb tc te tl : TE} {t u : TT} {d x y z : PyData} {v : V} {ds : List PyData}
theorem rk_len (e : itemsD x = some ds := by rfl) : RCD (rLenK K) [x] (.int (ds.length : Nat)) := rc_len e
theorem rk_lenT {α : Type} {xs : List α} {enc : α → PyData} : RCD (rLenK K) [.tuple (xs.map enc)] (.int (xs.length : Nat)) := by have := rk_len (K := K) (x := .tuple (xs.map enc)); rwa [List.length_map] at this
theorem rk_lenL {α : Type} {xs : List α} {enc : α → PyData} : RCD (rLenK K) [.list (xs.map enc)] (.int (xs.length : Nat)) := by have := rk_len (K := K) (x := .list (xs.map enc)); rwa [List.length_map] at this
theorem rk_list (e : itemsD x = some ds := by rfl) : RCD (rListK K) [x] (.list ds) := rc_list e
theorem rk_tup : RCD (rTupK K) [.list ds] (.tuple ds) := rc_tuple
theorem dt_tru (h : DE N ta σ H x) {k : Bool} (hk : (∃ b, x = .bool b ∧ k = b) ∨ (∃ i, x = .int i ∧ k = (i != 0)) ∨ ∃ ds, itemsD x = some ds ∧ k = !ds.isEmpty) : DT N (tTruK K ta) σ H k := de_tru h hk
theorem dt_truB {b : Bool} (h : DE N ta σ H (.bool b)) : DT N (tTruK K ta) σ H b := dt_tru h (.inl ⟨b, rfl, rfl⟩)
theorem dt_truS (h : DE N ta σ H x) (e : itemsD x = some ds := by rfl) : DT N (tTruK K ta) σ H (!ds.isEmpty) := dt_tru h (.inr (.inr ⟨ds, e, rfl⟩))
theorem dt_truI {i : Int} (h : DE N ta σ H (.int i)) : DT N (tTruK K ta) σ H (i != 0) := dt_tru h (.inr (.inl ⟨i, rfl, rfl⟩))
/-! ### statements by data -/
theorem dq_ret {D : Ends} (h : DE N te σ H d) (f : Fr N H) (q : ∀ v H2, Same H H2 → Rp N H2 v d → D.rt v H2) : tRet te D σ H := h.run f q
theorem dq_set {D : Ends} {rest : TS} {i : Nat} (h : DE N te σ H d) (f : Fr N H) (k : ∀ v H1, Same H H1 → Rp N H1 v d → rest D (σ.set i (some v)) H1) : tSeq (tAsg te (gName i)) rest D σ H := h.run f k
theorem dq_drop {D : Ends} {rest : TS} (h : DE N te σ H d) (f : Fr N H) (k : ∀ H1, Same H H1 → rest D σ H1) : tSeq (tDrop te) rest D σ H := h.run f fun v H1 s _ => k H1 s
theorem dq_iff {D : Ends} {rest : TS} {c : TT} {t : TS} (hc : DT N c σ H false) (f : Fr N H) (h : ∀ H1, Same H H1 → rest D σ H1) : tSeq (tIfS c t tNext) rest D σ H := hc.run f fun H1 s => iteF (h H1 s)
theorem dq_ifN {D : Ends} {rest : TS} {c : TT} {t : TS} {b : Bool} (hc : DT N c σ H b) (f : Fr N H) (h1 : b = true → ∀ H1, Same H H1 → t { D with nx := rest D } σ H1) (h2 : b = false → ∀ H1, Same H H1 → rest D σ H1) :
    tSeq (tIfS c t tNext) rest D σ H := hc.run f fun H1 s => by
  cases b with
  | true => exact iteT (h1 rfl H1 s)
  | false => exact iteF (h2 rfl H1 s)
theorem dq_if {D : Ends} {c : TT} {t u : TS} {b : Bool} (hc : DT N c σ H b) (f : Fr N H) (h1 : b = true → ∀ H1, Same H H1 → t D σ H1) (h2 : b = false → ∀ H1, Same H H1 → u D σ H1) :
    tIfS c t u D σ H := hc.run f fun H1 s => by
  cases b with
  | true => exact iteT (h1 rfl H1 s)
  | false => exact iteF (h2 rfl H1 s)
theorem dq_par {D : Ends} {rest : TS} {i j : Nat} {ta : TA} {d e : PyData} (h : DA N ta σ H [d, e]) (f : Fr N H) (k : ∀ v u H1, Same H H1 → Rp N H1 v d → Rp N H1 u e → rest D ((σ.set i (some v)).set j (some u)) H1) :
    tSeq (tPar i j ta) rest D σ H := h.run f fun vs H1 s r => by
  cases r with
  | cons r1 r =>
    cases r with
    | cons r2 r => cases r; exact ⟨_, _, rfl, k _ _ H1 s r1 r2⟩
theorem atI_i {α : Type} {l : List α} {a : Int} {v : α} (h0 : 0 ≤ a) (h : l[a.toNat]? = some v) : L2.atI l a = some v := by
  have := L2.atI_nat h
  rwa [Int.toNat_of_nonneg h0] at this
end
end Pu

namespace Pu
open PySem PySem.Spec PyProof.Rows L2
section
variable {K : PySem.W.Frag} {P : Program} {w : World} {N N' : NP} {σ : L2.St} {H H' : Hp} {ta tb tc te tl : TE} {t u : TT} {d x y z : PyData} {v : V} {ds : List PyData}
theorem de_allM {α : Type} {xs : List α} {g : α → Bool} {ta : TA} (h : DA N ta σ H [.list (xs.map fun a => .bool (g a))]) : DE N (tCB (rAll K) ta) σ H (.bool (xs.all g)) := by
  have e : (xs.map fun a => PyData.bool (g a)) = (xs.map g).map PyData.bool := by rw [List.map_map]; rfl
  rw [e] at h
  refine (de_cb h rc_all).is ?_
  congr 1
  simp
theorem de_anyM {α : Type} {xs : List α} {g : α → Bool} {ta : TA} (h : DA N ta σ H [.list (xs.map fun a => .bool (g a))]) : DE N (tCB (rAny K) ta) σ H (.bool (xs.any g)) := by
  have e : (xs.map fun a => PyData.bool (g a)) = (xs.map g).map PyData.bool := by rw [List.map_map]; rfl
  rw [e] at h
  refine (de_cb h rc_any).is ?_
  congr 1
  simp
theorem de_sumM {α : Type} {xs : List α} {g : α → Int} {ta : TA} (h : DA N ta σ H [.list (xs.map fun a => .int (g a))]) : DE N (tCB (rSum K) ta) σ H (.int ((xs.map g).sum)) := by
  have e : (xs.map fun a => PyData.int (g a)) = (xs.map g).map PyData.int := by rw [List.map_map]; rfl
  rw [e] at h
  exact de_cb h rc_sum
/-- [e for i, j in xs] -/
theorem de_lcP0 {α : Type} {xs : List α} {e1 e2 : α → PyData} {wi : TI} {vs : List Nat} {i j : Nat} (f : α → PyData) (hi : DI N wi σ H (xs.map fun a => .tuple [e1 a, e2 a])) (hl : xs.length ≤ 10000000)
    (hb : ∀ a ∈ xs, ∀ x y N' H', Up N H N' H' → Rp N' H' x (e1 a) → Rp N' H' y (e2 a) → DE N' te (((wipe σ vs).set i (some x)).set j (some y)) H' (f a))
    (hw : ∀ x y, wipe (((wipe σ vs).set i (some x)).set j (some y)) vs = wipe σ vs := by intro _ _; rfl) :
    DE N (tLc wi (gTup K 2 (gCons (gName i) (gCons (gName j) gNil))) tYes te vs) σ H (.list (xs.map f)) := by
  have h := de_lcP (K := K) (N := N) (σ := σ) (H := H) (te := te) (tt := tYes) (vs := vs) (i := i) (j := j) (fun _ => true) f hi hl (fun a ha x y N' H' u r1 r2 => ⟨dt_yes, fun _ => hb a ha x y N' H' u r1 r2⟩) hw
  rw [List.filter_eq_self.mpr (fun _ _ => rfl)] at h
  exact h
theorem InD.rp {N1 : NP} {H2 H3 : Hp} {D : Addr} {es : List PyData} (w : InD N1 H2 D H3 es) (hD : H2 D = none) (f : Fr N1 H2) : Rp N1 H3 (.ref D) (.list es) := by
  obtain ⟨acc, h, r⟩ := w.acc
  exact .lst (f D hD) h (r.up up_sub)
theorem InD.frN {N1 : NP} {H2 H3 : Hp} {D : Addr} {es : List PyData} (w : InD N1 H2 D H3 es) : Fr N1 H3 := fun a ha => (w.fr a ha).1
theorem InD.upN {N1 : NP} {H2 H3 : Hp} {D : Addr} {es : List PyData} (w : InD N1 H2 D H3 es) : Up N1 H2 N1 H3 := Up.of w.same
/-- l = [] -/
theorem dq_new {D : Ends} {rest : TS} {i : Nat} (f : Fr N H) (k : ∀ p H1, H p = none → InD N H p H1 [] → rest D (σ.set i (some (.ref p))) H1) : tSeq (tAsg (tLst tNil) (gName i)) rest D σ H :=
  ⟨Nat.zero_le _, fun p hp => k p _ hp (InD.new hp f)⟩
/-- l.append(e) -/
theorem dq_app {D : Ends} {i : Nat} {p : Addr} {H2 : Hp} {N1 : NP} {es : List PyData} (w : InD N1 H2 p H es) (hD : H2 p = none) (hσ : σ[i]? = some (some (.ref p))) (h : DE (fun a => N1 a ∧ a ≠ p) te σ H d) (hl : es.length < 10000000)
    (k : ∀ H4, InD N1 H2 p H4 (es ++ [d]) → Up (fun a => N1 a ∧ a ≠ p) H (fun a => N1 a ∧ a ≠ p) H4 → D.nx σ H4) : tDrop (tBM K "list" rAppend (tVar i) (tCons te tNil)) D σ H := by
  obtain ⟨acc, h1, r1⟩ := w.acc
  refine ⟨_, hσ, .inl ⟨rfl, _, Or.inl (Or.inl h1)⟩, h.run w.fr fun v H3 s3 r3 => ?_⟩
  obtain ⟨acc', h2, h3, h4⟩ := (w.go s3).app hD r3 hl
  exact ⟨p, acc', v, rfl, rfl, h2, h3, k _ h4 ((Up.of s3).trans fun a o n e => ⟨n, by rw [upd_ne n.2]; exact e⟩)⟩
/-- l.extend(m), m a list -/
theorem dq_ext {D : Ends} {i j : Nat} {p : Addr} {H2 : Hp} {N1 : NP} {es fs : List PyData} (w : InD N1 H2 p H es) (hD : H2 p = none) (hσ : σ[i]? = some (some (.ref p))) (hτ : σ[j]? = some (some v)) (h : Rp (fun a => N1 a ∧ a ≠ p) H v (.list fs)) (hl : es.length + fs.length ≤ 10000000)
    (k : ∀ H4, InD N1 H2 p H4 (es ++ fs) → Up (fun a => N1 a ∧ a ≠ p) H (fun a => N1 a ∧ a ≠ p) H4 → D.nx σ H4) : tDrop (tBM K "list" rExtend (tVar i) (tCons (tVar j) tNil)) D σ H := by
  obtain ⟨acc, h1, r1⟩ := w.acc
  cases h with
  | @lst b zs _ nb hb rb =>
    refine ⟨_, hσ, .inl ⟨rfl, _, Or.inl (Or.inl h1)⟩, _, hτ, p, b, acc, zs, rfl, rfl, h1, hb, Nat.le_trans (by rw [r1.len, rb.len]; exact hl) (by decide : 10000000 ≤ sizeLine), k _ ?_ fun a o n e => ⟨n, by rw [upd_ne n.2]; exact e⟩⟩
    have up6 : Up (fun a => N1 a ∧ a ≠ p) H (fun a => N1 a ∧ a ≠ p) (upd H p (.lst (acc ++ zs))) := fun a o n e => ⟨n, by rw [upd_ne n.2]; exact e⟩
    refine ⟨fun a o e => ?_, w.up.trans up6, fun a ha => ?_, acc ++ zs, upd_same, (r1.app rb).up up6⟩
    · rw [upd_ne (ne_of_none e hD)]
      exact w.same _ _ e
    · have na : a ≠ p := fun z => by rw [z, upd_same] at ha; cases ha
      rw [upd_ne na] at ha
      exact w.fr a ha
/-- a, b = e; a, b, c = e -/
theorem dq_un2 {D : Ends} {rest : TS} {i j : Nat} (h : DE N te σ H (.tuple [x, y])) (f : Fr N H) (k : ∀ a b H1, Same H H1 → Rp N H1 a x → Rp N H1 b y → rest D ((σ.set i (some a)).set j (some b)) H1) :
    tSeq (tAsg te (gTup K 2 (gCons (gName i) (gCons (gName j) gNil)))) rest D σ H := h.run f fun v H1 s r => by
  cases r with
  | tup n hh r =>
    cases r with
    | cons r1 r =>
      cases r with
      | cons r2 r => cases r; exact ⟨_, _, rfl, SqT.of hh, rfl, _, _, rfl, _, _, rfl, rfl, k _ _ H1 s r1 r2⟩
theorem dq_un3 {D : Ends} {rest : TS} {i j l : Nat} (h : DE N te σ H (.tuple [x, y, z])) (f : Fr N H) (k : ∀ a b c H1, Same H H1 → Rp N H1 a x → Rp N H1 b y → Rp N H1 c z → rest D (((σ.set i (some a)).set j (some b)).set l (some c)) H1) :
    tSeq (tAsg te (gTup K 3 (gCons (gName i) (gCons (gName j) (gCons (gName l) gNil))))) rest D σ H := h.run f fun v H1 s r => by
  cases r with
  | tup n hh r =>
    cases r with
    | cons r1 r =>
      cases r with
      | cons r2 r =>
        cases r with
        | cons r3 r => cases r; exact ⟨_, _, rfl, SqT.of hh, rfl, _, _, rfl, _, _, rfl, _, _, rfl, rfl, k _ _ _ H1 s r1 r2 r3⟩
theorem df_forS {α : Type} {xs : List α} {enc : α → PyData} {wi : TI} {g : TG} {tb rest : TS} {D : Ends} (h : DI N wi σ H (xs.map enc)) (f : Fr N H)
    (k : ∀ H2, Same H H2 → ∃ Pv : Nat → L2.St → Hp → Prop, Pv 0 σ H2 ∧ (∀ i σ' H', Pv i σ' H' → Up N H2 N H' ∧ Fr N H') ∧
      (∀ i (hi : i < xs.length) x σ' H' H3, Pv i σ' H' → Same H' H3 → Rp N H3 x (enc xs[i]) → g x σ' H3 fun σ2 H4 => tb { nx := Pv (i + 1), rt := D.rt, bk := rest D, ct := Pv (i + 1) } σ2 H4) ∧
      (∀ σ' H', Pv xs.length σ' H' → rest D σ' H')) : tSeq (tFor wi g tb) rest D σ H := df_for (D := { D with nx := rest D }) h f k
theorem take_filter {α : Type} (l : List α) (b : α → Bool) {i : Nat} (hi : i < l.length) : (l.take (i + 1)).filter b = (l.take i).filter b ++ (if b l[i] = true then [l[i]] else []) := by
  have e : l.take (i + 1) = l.take i ++ [l[i]] := by rw [List.take_succ, List.getElem?_eq_getElem hi]; rfl
  rw [e, List.filter_append]
  cases h : b l[i] <;> simp [h]
theorem take_last {α : Type} (l : List α) {i : Nat} (hi : i < l.length) : l.take (i + 1) = l.take i ++ [l[i]] := by rw [List.take_succ, List.getElem?_eq_getElem hi]; rfl
end
end Pu

namespace Ch
/-! the rows of choices -/
def chc (heads others : List Int) (o : Int) : List Int := if o ∈ heads then [o] else heads ++ others
def stepR (heads others : List Int) (sm : List (List Int)) (o : Int) : List (List Int) := sm.flatMap fun row => (chc heads others o).map fun c => row ++ [c]
theorem stepR_len {heads others : List Int} (h : heads.length + others.length ≤ 6) (sm : List (List Int)) (o : Int) : (stepR heads others sm o).length ≤ sm.length * 6 := by
  unfold stepR
  have hc : (chc heads others o).length ≤ 6 := by
    unfold chc
    split
    · simp
    · rw [List.length_append]; exact h
  induction sm with
  | nil => simp
  | cons r l ih =>
    rw [List.flatMap_cons, List.length_append, List.length_map, List.length_cons]
    omega
theorem foldR_len {heads others : List Int} (h : heads.length + others.length ≤ 6) : ∀ (owners : List Int) (sm : List (List Int)), (owners.foldl (stepR heads others) sm).length ≤ sm.length * 6 ^ owners.length
  | [], sm => by simp
  | o :: r, sm => by
    rw [List.foldl_cons, List.length_cons, Nat.pow_succ]
    refine Nat.le_trans (foldR_len h r _) ?_
    have := stepR_len h sm o
    calc (stepR heads others sm o).length * 6 ^ r.length ≤ (sm.length * 6) * 6 ^ r.length := Nat.mul_le_mul_right _ this
      _ = sm.length * (6 ^ r.length * 6) := by rw [Nat.mul_assoc, Nat.mul_comm 6]
theorem foldR_row {heads others : List Int} : ∀ (owners : List Int) (sm : List (List Int)) (n : Nat), (∀ r ∈ sm, r.length = n) → ∀ r ∈ owners.foldl (stepR heads others) sm, r.length = n + owners.length
  | [], sm, n, h, r, hr => h r hr
  | o :: l, sm, n, h, r, hr => by
    rw [List.foldl_cons] at hr
    rw [foldR_row l (stepR heads others sm o) (n + 1) (fun r hr => by
      obtain ⟨r', h1, h2⟩ := List.mem_flatMap.mp hr
      obtain ⟨c, _, rfl⟩ := List.mem_map.mp h2
      rw [List.length_append, h r' h1]; rfl) r hr, List.length_cons]
    omega
theorem rng_succ (n : Nat) : rng (n + 1) = rng n ++ [(n : Int)] := by
  unfold rng
  rw [List.range_succ, List.map_append]; rfl
theorem mem_foldR {heads others : List Int} : ∀ (n : Nat) (row : List Int), row ∈ (rng n).foldl (stepR heads others) [[]] ↔ row.length = n ∧ ∀ i : Nat, i < n → ∃ c, row[i]? = some c ∧ c ∈ chc heads others i
  | 0, row => by
    simp only [rng, List.range_zero, List.map_nil, List.foldl_nil, List.mem_singleton]
    constructor
    · rintro rfl; exact ⟨rfl, fun i h => absurd h (by omega)⟩
    · rintro ⟨h, _⟩; exact List.eq_nil_of_length_eq_zero h
  | n + 1, row => by
    rw [rng_succ, List.foldl_append, List.foldl_cons, List.foldl_nil]
    unfold stepR
    rw [List.mem_flatMap]
    constructor
    · rintro ⟨r, hr, hm⟩
      obtain ⟨c, hc, rfl⟩ := List.mem_map.mp hm
      obtain ⟨h1, h2⟩ := (mem_foldR n r).mp hr
      refine ⟨by simp [h1], fun i hi => ?_⟩
      by_cases hl : i < n
      · obtain ⟨c', e, q⟩ := h2 i hl
        exact ⟨c', by rw [List.getElem?_append_left (by omega)]; exact e, q⟩
      · have e : i = n := by omega
        subst e
        exact ⟨c, by rw [List.getElem?_append_right (by omega), h1]; simp, hc⟩
    · rintro ⟨h1, h2⟩
      obtain ⟨c, e, hc⟩ := h2 n (by omega)
      have er : row = row.take n ++ [c] := by
        have := List.take_succ (l := row) (i := n)
        rw [e, List.take_of_length_le (by omega)] at this
        exact this
      refine ⟨row.take n, (mem_foldR n _).mpr ⟨by simp; omega, fun i hi => ?_⟩, List.mem_map.mpr ⟨c, hc, er.symm⟩⟩
      obtain ⟨c', e', q⟩ := h2 i (by omega)
      exact ⟨c', by rw [List.getElem?_take_of_lt hi]; exact e', q⟩
/-- a mask for each choice of items -/
theorem mask_ex (q : Int → Bool) : ∀ l : List Int, ∃ m : Nat, m < 2 ^ l.length ∧ ∀ (i : Nat) (x : Int), l[i]? = some x → (m / 2 ^ i % 2 = 1 ↔ q x = true)
  | [] => ⟨0, by simp, fun i x h => by cases i <;> cases h⟩
  | y :: r => by
    obtain ⟨m, hm, h⟩ := mask_ex q r
    refine ⟨2 * m + (if q y = true then 1 else 0), ?_, fun i x hx => ?_⟩
    · rw [List.length_cons, Nat.pow_succ]
      split <;> omega
    · cases i with
      | zero =>
        have e : y = x := by simpa using hx
        subst e
        rw [Nat.pow_zero, Nat.div_one]
        by_cases hq : q y = true
        · simp [hq]
        · simp [hq]
      | succ i =>
        have hx' : r[i]? = some x := by simpa using hx
        rw [← h i x hx', Nat.pow_succ, Nat.mul_comm (2 ^ i) 2, ← Nat.div_div_eq_div_mul]
        have : (2 * m + (if q y = true then 1 else 0)) / 2 = m := by split <;> omega
        rw [this]
/-- the items of a mask -/
def bitN (m i : Nat) : Bool := m / 2 ^ i % 2 == 1
def headsM (props : List Int) (m : Nat) : List Int := (props.zipIdx.filter fun p => bitN m p.2).map (·.1)
theorem mem_headsM {props : List Int} {m : Nat} {x : Int} : x ∈ headsM props m ↔ ∃ i, props[i]? = some x ∧ bitN m i = true := by
  unfold headsM
  rw [List.mem_map]
  constructor
  · rintro ⟨⟨y, i⟩, hm, rfl⟩
    obtain ⟨h1, h2⟩ := List.mem_filter.mp hm
    exact ⟨i, List.mem_zipIdx_iff_getElem?.mp h1, h2⟩
  · rintro ⟨i, h1, h2⟩
    exact ⟨(x, i), List.mem_filter.mpr ⟨List.mem_zipIdx_iff_getElem?.mpr h1, h2⟩, rfl⟩
theorem headsM_len (props : List Int) (m : Nat) : (headsM props m).length ≤ props.length := by
  unfold headsM
  rw [List.length_map]
  exact Nat.le_trans (List.length_filter_le _ _) (by rw [List.length_zipIdx]; exact Nat.le_refl _)
def rowsC (owners props others : List Int) : List (List Int) := (List.range (2 ^ props.length)).flatMap fun m => owners.foldl (stepR (headsM props m) others) [[]]
section
variable {many : Nat} {props : List Int} {lots : List (List Int)}
theorem at_get {row : List Int} {i : Nat} {c : Int} (h : row[i]? = some c) : at_ row i = c := by
  unfold at_
  rw [List.getD_eq_getElem?_getD, Int.toNat_natCast, h]; rfl
theorem mem_rows (C : Charter many props lots) {row : List Int} : row ∈ rowsC (rng many) props [] ↔ Split many props row := by
  unfold rowsC
  rw [List.mem_flatMap]
  constructor
  · rintro ⟨m, _, hr⟩
    obtain ⟨h1, h2⟩ := (mem_foldR many row).mp hr
    have key : ∀ h ∈ row, h ∈ headsM props m := fun h hh => by
      obtain ⟨i, hi, rfl⟩ := List.getElem_of_mem hh
      obtain ⟨c, e, q⟩ := h2 i (by omega)
      rw [List.getElem?_eq_getElem hi] at e
      have e' := Option.some.inj e
      rw [e']
      unfold chc at q
      split at q
      · rename_i z; rw [List.mem_singleton.mp q]; exact z
      · simpa using q
    have inp : ∀ h ∈ headsM props m, h ∈ props := fun h hh => by
      obtain ⟨i, e, _⟩ := mem_headsM.mp hh
      exact List.mem_of_getElem? e
    refine ⟨h1, fun h hh => inp h (key h hh), fun h hh => ?_⟩
    have b := C.pin h (inp h (key h hh))
    obtain ⟨c, e, q⟩ := h2 h.toNat (by omega)
    have eh : ((h.toNat : Nat) : Int) = h := by omega
    rw [eh] at q
    unfold chc at q
    rw [if_pos (key h hh)] at q
    have := at_get e
    rw [eh] at this
    rw [this]; exact List.mem_singleton.mp q
  · intro S
    obtain ⟨m, hm, hb⟩ := mask_ex (fun x => decide (x ∈ row)) props
    refine ⟨m, List.mem_range.mpr hm, (mem_foldR many row).mpr ⟨S.len, fun i hi => ?_⟩⟩
    have hl : i < row.length := by rw [S.len]; exact hi
    have inH : ∀ x, x ∈ headsM props m ↔ x ∈ props ∧ x ∈ row := fun x => by
      rw [mem_headsM]
      constructor
      · rintro ⟨j, e, b⟩
        have := (hb j x e).mp (by simpa [bitN] using b)
        exact ⟨List.mem_of_getElem? e, by simpa using this⟩
      · rintro ⟨h1, h2⟩
        obtain ⟨j, hj, rfl⟩ := List.getElem_of_mem h1
        refine ⟨j, List.getElem?_eq_getElem hj, ?_⟩
        have := (hb j _ (List.getElem?_eq_getElem hj)).mpr (by simpa using h2)
        simpa [bitN] using this
    have hm' := List.getElem_mem hl
    refine ⟨row[i], List.getElem?_eq_getElem hl, ?_⟩
    unfold chc
    by_cases z : (i : Int) ∈ headsM props m
    · rw [if_pos z]
      have o := S.own _ ((inH _).mp z).2
      rw [at_get (List.getElem?_eq_getElem hl)] at o
      rw [o]; simp
    · rw [if_neg z, List.append_nil]
      exact (inH _).mpr ⟨S.ins _ hm', hm'⟩
end
end Ch

namespace Pu
open PySem PySem.Spec PyProof.Rows L2
section
variable {N : NP} {H : Hp}
theorem rps1 {vs : List V} {d : PyData} (h : Rps N H vs [d]) : ∃ v, vs = [v] ∧ Rp N H v d := by
  cases h with
  | cons r t => cases t; exact ⟨_, rfl, r⟩
theorem rps2 {vs : List V} {d e : PyData} (h : Rps N H vs [d, e]) : ∃ v u, vs = [v, u] ∧ Rp N H v d ∧ Rp N H u e := by
  cases h with
  | cons r t =>
    obtain ⟨u, rfl, r2⟩ := rps1 t
    exact ⟨_, _, rfl, r, r2⟩
theorem rps3 {vs : List V} {d e g : PyData} (h : Rps N H vs [d, e, g]) : ∃ v u x, vs = [v, u, x] ∧ Rp N H v d ∧ Rp N H u e ∧ Rp N H x g := by
  cases h with
  | cons r t =>
    obtain ⟨u, x, rfl, r2, r3⟩ := rps2 t
    exact ⟨_, _, _, rfl, r, r2, r3⟩
theorem de_neg {te : TE} {σ : L2.St} {i : Int} (h : DE N te σ H (.int i)) : DE N (tUn (rU fun i => .int (-i)) te) σ H (.int (-i)) := fun N1 H1 u f Q q =>
  h N1 H1 u f _ fun v H2 s2 r2 => by cases r2; exact ⟨i, rfl, q _ H2 s2 (.int _)⟩
end
def small (i : Int) : Prop := -1000000000000000000 < i ∧ i < 1000000000000000000
def R_num : List PyData → PyData → Prop := fun ds d => ∃ i, ds = [.int i] ∧ small i ∧ d = .bool true
def R_from : List PyData → PyData → Prop := fun ds d => ∃ i l, ds = [.int i, .int l] ∧ small i ∧ d = .bool (decide (l ≤ i))
def R_below : List PyData → PyData → Prop := fun ds d => ∃ i l, ds = [.int i, .int l] ∧ small i ∧ d = .bool (decide (0 ≤ i) && decide (i < l))
def R_asc : List PyData → PyData → Prop := fun ds d => d = .bool true ∧ ((∃ ns : List Int, ds = [tI ns] ∧ ns.length ≤ 10000 ∧ ns.Pairwise (· < ·)) ∨ ∃ nss : List (List Int), ds = [tT nss] ∧ nss.length ≤ 10000 ∧ nss.Pairwise (fun a b => HT.lexLt a b = true))
section
variable {P : Program} {w : World} {K : PySem.W.Frag} {mg : Str → Option Value} {base : Heap}
abbrev s_is_number : Stmt := top 13
theorem sc_is_number : FnScope ["value"] ["value"] (defScope s_is_number) := ⟨rfl, rfl, rfl, by decide +kernel, rfl, by decide +kernel, by decide +kernel⟩
theorem ok_is_number {f : Addr} {fd : FuncData} (F : Fun K "is_number" "is_number" s_is_number f fd) (T : Bi mg) {tF : Tok} (c_FIRST_TOO_LONG : mg "FIRST_TOO_LONG" = some (.int 1000000000000000000 tF)) :
    FnOk P w K mg base CX0 1 f fd ["value"] (spP R_num) := by
  refine F.ok sc_is_number (len_spP (fun ds d ⟨i, e, _⟩ => by rw [e]; rfl)) (fun cdv A outer s H vs Q E hr h => ?_)
  obtain ⟨N, ds, d, fr, rs, ⟨i, rfl, si, rfl⟩, k⟩ := h
  obtain ⟨v, rfl, r⟩ := rps1 rs
  refine ⟨_, pss_cons (ps_if (PW.pt (pw_or (pt_not (pt_truK K (pe_callB call_isK (by rfl) T.isinstance (by decide +kernel) (pa_cons (pv 0) (pa_cons (pe_tyn "int" (by rfl) T.int (by decide +kernel)) pa_nil))) (fun _ => rfl))) (pw_or1 (pt_truK K (pe_callB call_isK (by rfl) T.isinstance (by decide +kernel) (pa_cons (pv 0) (pa_cons (pe_tyn "bool" (by rfl) T.bool (by decide +kernel)) pa_nil))) (fun _ => rfl))))) (pss_one (ps_ret (pe_bl))) pss_nil)
      (pss_one (ps_ret (pe_chain (op_ltK K hr.units0) (op_ltK K hr.units0) (pe_un un_neg (pe_gi rfl c_FIRST_TOO_LONG)) (pv 0) (pe_gi rfl c_FIRST_TOO_LONG)))), ?_⟩
  refine dq_iff ?_ fr fun H1 s1 => dq_ret ?_ (fr.same s1) fun v H2 s2 r2 => k v H2 (s1.trans s2) r2
  · exact dt_or (a := false) (b := false) (dt_not (a := true) (dt_truB (de_isK (de_var rfl r)))) fun _ => dt_truB (de_isK (de_var rfl r))
  refine DE.is (de_chain (de_neg de_int) (de_var rfl (r.same s1)) de_int r2_ltI r2_ltI) ?_
  have := si.1; have := si.2
  simp
  omega
abbrev s_is_number_from : Stmt := top 14
theorem sc_is_number_from : FnScope ["value", "least"] ["value", "least"] (defScope s_is_number_from) := ⟨rfl, rfl, rfl, by decide +kernel, rfl, by decide +kernel, by decide +kernel⟩
theorem ok_is_number_from {f : Addr} {fd : FuncData} (F : Fun K "is_number_from" "is_number_from" s_is_number_from f fd) (D_is_number : Def P w K mg base "is_number" 1 ["value"] (spP R_num)) :
    FnOk P w K mg base CX0 2 f fd ["value", "least"] (spP R_from) := by
  obtain ⟨f_is_number, fd_is_number, G_is_number, b_is_number, k_is_number, m_is_number⟩ := D_is_number.ex
  refine F.ok sc_is_number_from (len_spP (fun ds d ⟨i, l, e, _⟩ => by rw [e]; rfl)) (fun cdv A outer s H vs Q E hr h => ?_)
  obtain ⟨N, ds, d, fr, rs, ⟨i, l, rfl, si, rfl⟩, k⟩ := h
  obtain ⟨v, u, rfl, r1, r2⟩ := rps2 rs
  refine ⟨_, pss_one (ps_ret (pe_and (pe_call G_is_number (hr.mono (by decide)) rfl m_is_number k_is_number b_is_number .nil pass0 (pa_cons (pv 0) pa_nil)) (pe_one (pe_cmpR op_ge (pv 0) (pv 1) (nomark _))))), ?_⟩
  exact DE.run ((de_andV (a := true) (de_call (da_cons (de_var rfl r1) da_nil) ⟨i, rfl, si, rfl⟩) fun _ => de_op (de_var rfl r1) (de_var rfl r2) r2_b).is rfl) fr k
abbrev s_is_number_below : Stmt := top 15
theorem sc_is_number_below : FnScope ["value", "limit"] ["value", "limit"] (defScope s_is_number_below) := ⟨rfl, rfl, rfl, by decide +kernel, rfl, by decide +kernel, by decide +kernel⟩
theorem ok_is_number_below {f : Addr} {fd : FuncData} (F : Fun K "is_number_below" "is_number_below" s_is_number_below f fd) (D_is_number_from : Def P w K mg base "is_number_from" 2 ["value", "least"] (spP R_from)) :
    FnOk P w K mg base CX0 3 f fd ["value", "limit"] (spP R_below) := by
  obtain ⟨f_is_number_from, fd_is_number_from, G_is_number_from, b_is_number_from, k_is_number_from, m_is_number_from⟩ := D_is_number_from.ex
  refine F.ok sc_is_number_below (len_spP (fun ds d ⟨i, l, e, _⟩ => by rw [e]; rfl)) (fun cdv A outer s H vs Q E hr h => ?_)
  obtain ⟨N, ds, d, fr, rs, ⟨i, l, rfl, si, rfl⟩, k⟩ := h
  obtain ⟨v, u, rfl, r1, r2⟩ := rps2 rs
  refine ⟨_, pss_one (ps_ret (pe_and (pe_call G_is_number_from (hr.mono (by decide)) rfl m_is_number_from k_is_number_from b_is_number_from .nil pass0 (pa_cons (pv 0) (pa_cons pe_int pa_nil))) (pe_one (pe_cmpR (op_ltK K hr.units0) (pv 0) (pv 1) (nomark _))))), ?_⟩
  exact DE.run (de_andV (de_call (da_cons (de_var rfl r1) (da_cons de_int da_nil)) ⟨i, 0, rfl, si, rfl⟩) fun _ => de_op (de_var rfl r1) (de_var rfl r2) r2_ltI) fr k
theorem asc_at {α : Type} {R : α → α → Prop} {l : List α} (h : l.Pairwise R) {i : Nat} (hi : i + 1 < l.length) : R (l[i]'(by omega)) l[i + 1] := List.pairwise_iff_getElem.mp h i (i + 1) (by omega) hi (by omega)
theorem de_all_true {N : NP} {σ : L2.St} {H : Hp} {ta : TA} {α : Type} {xs : List α} (h : DA N ta σ H [.list (xs.map fun _ => .bool true)]) : DE N (tCB (rAll K) ta) σ H (.bool true) := by
  have e : (xs.map fun _ => PyData.bool true) = (xs.map fun _ => true).map PyData.bool := by rw [List.map_map]; rfl
  rw [e] at h
  refine (de_cb h rc_all).is ?_
  congr 1
  simp
abbrev s_is_ascending : Stmt := top 16
theorem sc_is_ascending : FnScope ["values", "at"] ["values"] (defScope s_is_ascending) := ⟨rfl, rfl, rfl, by decide +kernel, rfl, by decide +kernel, by decide +kernel⟩
theorem ok_is_ascending {f : Addr} {fd : FuncData} (F : Fun K "is_ascending" "is_ascending" s_is_ascending f fd) (T : Bi mg) :
    FnOk P w K mg base CX0 1 f fd ["values"] (spP R_asc) := by
  refine F.ok sc_is_ascending (len_spP (fun ds d ⟨_, h⟩ => by rcases h with ⟨_, e, _⟩ | ⟨_, e, _⟩ <;> (rw [e]; rfl))) (fun cdv A outer s H vs Q E hr h => ?_)
  obtain ⟨N, ds, d, fr, rs, ⟨rfl, h⟩, k⟩ := h
  refine ⟨_, pss_one (ps_ret (pe_callB (cr_allK K rfl) (by rfl) T.all (by decide +kernel) (pa_cons (pe_lc (own := [("at", 1)]) rfl sc_is_ascending.nd (pi_range1 rfl T.range (pa_cons (pe_op op_sub (pe_callB (call_lenK K) (by rfl) T.len (by decide +kernel) (pa_cons (pv 0) pa_nil)) pe_int) pa_nil)) (blkOk_by (own := [("at", 1)]) (N := ["values", "at"]) (sc := defScope s_is_ascending) (by decide +kernel)) (fun _ _ _ _ _ => pg_name (i := 1) sc_is_ascending.nd rfl (Or.inl rfl)) (fun _ _ _ _ _ => pts_nil) (fun _ _ _ _ _ => pe_cmpR (op_ltK K hr.units0) (pe_ix (ix_K K) (pv 0) (pv 1) (fun _ _ => rfl)) (pe_ix (ix_K K) (pv 0) (pe_op (op_addK K) (pv 1) pe_int) (fun _ _ => rfl)) (nomark _))) pa_nil))), ?_⟩
  have tn : ∀ m : Nat, ((m : Int) - 1).toNat = m - 1 := fun m => by omega
  rcases h with ⟨ns, rfl, hl, pw⟩ | ⟨nss, rfl, hl, pw⟩
  · obtain ⟨v, rfl, r⟩ := rps1 rs
    refine DE.run (de_all_true (xs := Ch.rng ((ns.length : Int) - 1).toNat) (da_cons (de_lc0 _ (di_rng (da_cons (de_op (de_cb (da_cons (de_var rfl r) da_nil) rk_lenT) de_int r2_i) da_nil) (by omega) (by omega)) (by rw [Ch.rng_len]; omega)
      fun a ha x N' H' u rx => ?_) da_nil)) fr k
    have hb := Ch.mem_rng.mp ha
    have h1 : a.toNat + 1 < ns.length := by omega
    have e0 : L2.atI (ns.map PyData.int) a = some (.int (ns[a.toNat]'(by omega))) := atI_i hb.1 (by rw [List.getElem?_map, List.getElem?_eq_getElem (by omega)]; rfl)
    have e1 : L2.atI (ns.map PyData.int) (a + 1) = some (.int ns[a.toNat + 1]) := atI_i (by omega) (by rw [show (a + 1).toNat = a.toNat + 1 by omega, List.getElem?_map, List.getElem?_eq_getElem h1]; rfl)
    refine (de_op (de_op (de_var rfl (r.up u)) (de_var rfl rx) (r2_ix e0)) (de_op (de_var rfl (r.up u)) (de_op (de_var rfl rx) de_int r2_addI) (r2_ix e1)) r2_ltI).is ?_
    rw [decide_eq_true (asc_at pw h1)]
  · obtain ⟨v, rfl, r⟩ := rps1 rs
    refine DE.run (de_all_true (xs := Ch.rng ((nss.length : Int) - 1).toNat) (da_cons (de_lc0 _ (di_rng (da_cons (de_op (de_cb (da_cons (de_var rfl r) da_nil) rk_lenT) de_int r2_i) da_nil) (by omega) (by omega)) (by rw [Ch.rng_len]; omega)
      fun a ha x N' H' u rx => ?_) da_nil)) fr k
    have hb := Ch.mem_rng.mp ha
    have h1 : a.toNat + 1 < nss.length := by omega
    have e0 : L2.atI (nss.map tI) a = some (tI (nss[a.toNat]'(by omega))) := atI_i hb.1 (by rw [List.getElem?_map, List.getElem?_eq_getElem (by omega)]; rfl)
    have e1 : L2.atI (nss.map tI) (a + 1) = some (tI nss[a.toNat + 1]) := atI_i (by omega) (by rw [show (a + 1).toNat = a.toNat + 1 by omega, List.getElem?_map, List.getElem?_eq_getElem h1]; rfl)
    refine (de_op (de_op (de_var rfl (r.up u)) (de_var rfl rx) (r2_ix e0)) (de_op (de_var rfl (r.up u)) (de_op (de_var rfl rx) de_int r2_addI) (r2_ix e1)) r2_ltT).is ?_
    rw [asc_at pw h1]
end
end Pu

namespace Pu
open PySem PySem.Spec PyProof.Rows L2
/-- a charter, as the program asks it -/
structure Ch2 (many : Nat) (props : List Int) (lots : List (List Int)) : Prop where
  c : Ch.Charter many props lots
  lasc : lots.Pairwise (fun a b => HT.lexLt a b = true)
  anti : ∀ a ∈ lots, ∀ b ∈ lots, a ≠ b → ∃ o ∈ b, o ∉ a
abbrev chD (many : Nat) (props : List Int) (lots : List (List Int)) : PyData := .tuple [.int (many : Int), tI props, tT lots]
theorem asc_len {n : Nat} {l : List Int} (h : l.Pairwise (· < ·)) (hb : ∀ x ∈ l, 0 ≤ x ∧ x < n) : l.length ≤ n := by
  have nd : l.Nodup := h.imp fun h => Int.ne_of_lt h
  have := List.Nodup.length_le_of_subset nd (l₂ := Ch.rng n) fun x hx => Ch.mem_rng.mpr (hb x hx)
  rwa [Ch.rng_len] at this
theorem small_of {i : Int} {n : Nat} (h0 : 0 ≤ i) (h1 : i < n) (hn : n ≤ 1000) : small i := ⟨by omega, by omega⟩
def R_noo : List PyData → PyData → Prop := fun ds d => ∃ i : Int, ds = [.int i] ∧ 1 ≤ i ∧ i ≤ 6 ∧ d = .bool true
def R_areo : List PyData → PyData → Prop := fun ds d => ∃ (n : Nat) (ns : List Int), ds = [.int (n : Int), tI ns] ∧ n ≤ 1000 ∧ (∀ o ∈ ns, 0 ≤ o ∧ o < n) ∧ ns.Pairwise (· < ·) ∧ d = .bool true
def R_hasall : List PyData → PyData → Prop := fun ds d => ∃ (x : PyData) (ns ws : List Int), ds = [x, tI ws] ∧ itemsD x = some (ns.map PyData.int) ∧ ws.length ≤ 10000 ∧ d = .bool (ws.all fun o => decide (o ∈ ns))
def R_isch : List PyData → PyData → Prop := fun ds d => ∃ many props lots, ds = [chD many props lots] ∧ Ch2 many props lots ∧ d = .bool true
def R_check : List PyData → PyData → Prop := fun ds d => ∃ many props lots, ds = [chD many props lots] ∧ Ch2 many props lots ∧ d = .none
def R_haslot : List PyData → PyData → Prop := fun ds d => ∃ many props lots x, ∃ ns : List Int, ds = [chD many props lots, x] ∧ itemsD x = some (ns.map PyData.int) ∧ Ch2 many props lots ∧ d = .bool (Ch.has lots fun o => decide (o ∈ ns))
section
variable {P : Program} {w : World} {K : PySem.W.Frag} {mg : Str → Option Value} {base : Heap}
abbrev s_is_number_of_owners : Stmt := top 26
theorem sc_is_number_of_owners : FnScope ["value"] ["value"] (defScope s_is_number_of_owners) := ⟨rfl, rfl, rfl, by decide +kernel, rfl, by decide +kernel, by decide +kernel⟩
theorem ok_is_number_of_owners {f : Addr} {fd : FuncData} (F : Fun K "is_number_of_owners" "is_number_of_owners" s_is_number_of_owners f fd) {t : Tok} (c_MOST_OWNERS : mg "MOST_OWNERS" = some (.int 6 t))
    (D_is_number_from : Def P w K mg base "is_number_from" 2 ["value", "least"] (spP R_from)) : FnOk P w K mg base CX0 3 f fd ["value"] (spP R_noo) := by
  obtain ⟨f_is_number_from, fd_is_number_from, G_is_number_from, b_is_number_from, k_is_number_from, m_is_number_from⟩ := D_is_number_from.ex
  refine F.ok sc_is_number_of_owners (len_spP (fun ds d ⟨i, e, _⟩ => by rw [e]; rfl)) (fun cdv A outer s H vs Q E hr h => ?_)
  obtain ⟨N, ds, d, fr, rs, ⟨i, rfl, i0, i1, rfl⟩, k⟩ := h
  obtain ⟨v, rfl, r⟩ := rps1 rs
  refine ⟨_, pss_one (ps_ret (pe_and (pe_call G_is_number_from (hr.mono (by decide)) rfl m_is_number_from k_is_number_from b_is_number_from .nil pass0 (pa_cons (pv 0) (pa_cons pe_int pa_nil))) (pe_one (pe_cmpR op_le (pv 0) (pe_gi rfl c_MOST_OWNERS) (nomark _))))), ?_⟩
  refine dq_ret ?_ fr k
  refine (de_andV (a := true) (b := true) (de_call (da_cons (de_var rfl r) (da_cons de_int da_nil)) ⟨i, 1, rfl, ⟨by omega, by omega⟩, by rw [decide_eq_true i0]⟩) fun _ => (de_op (de_var rfl r) de_int r2_b).is ?_).is rfl
  rw [decide_eq_true i1]
abbrev s_are_owners : Stmt := top 27
theorem sc_are_owners : FnScope ["many", "value", "owner"] ["many", "value"] (defScope s_are_owners) := ⟨rfl, rfl, rfl, by decide +kernel, rfl, by decide +kernel, by decide +kernel⟩
theorem ok_are_owners {f : Addr} {fd : FuncData} (F : Fun K "are_owners" "are_owners" s_are_owners f fd) (T : Bi mg) (D_is_number_below : Def P w K mg base "is_number_below" 3 ["value", "limit"] (spP R_below))
    (D_is_ascending : Def P w K mg base "is_ascending" 1 ["values"] (spP R_asc)) : FnOk P w K mg base CX0 4 f fd ["many", "value"] (spP R_areo) := by
  obtain ⟨f_is_ascending, fd_is_ascending, G_is_ascending, b_is_ascending, k_is_ascending, m_is_ascending⟩ := D_is_ascending.ex
  obtain ⟨f_is_number_below, fd_is_number_below, G_is_number_below, b_is_number_below, k_is_number_below, m_is_number_below⟩ := D_is_number_below.ex
  refine F.ok sc_are_owners (len_spP (fun ds d ⟨n, ns, e, _⟩ => by rw [e]; rfl)) (fun cdv A outer s H vs Q E hr h => ?_)
  obtain ⟨N, ds, d, fr, rs, ⟨n, ns, rfl, hn, hb, pw, rfl⟩, k⟩ := h
  obtain ⟨v, u, rfl, r1, r2⟩ := rps2 rs
  have hl := asc_len pw hb
  refine ⟨_, pss_cons (ps_if (PW.pt (pw_or (pt_not (pt_truK K (pe_callB call_isK (by rfl) T.isinstance (by decide +kernel) (pa_cons (pv 1) (pa_cons (pe_tyn "tuple" (by rfl) T.tuple (by decide +kernel)) pa_nil))) (fun _ => rfl))) (pw_or1 (pt_not (pt_truK K (pe_callB (cr_allK K rfl) (by rfl) T.all (by decide +kernel) (pa_cons (pe_lc (own := [("owner", 2)]) rfl sc_are_owners.nd (pi_seqK K (pv 1)) (blkOk_by (own := [("owner", 2)]) (N := ["many", "value", "owner"]) (sc := defScope s_are_owners) (by decide +kernel)) (fun _ _ _ _ _ => pg_name (i := 2) sc_are_owners.nd rfl (Or.inl rfl)) (fun _ _ _ _ _ => pts_nil) (fun _ _ _ _ _ => pe_call G_is_number_below (hr.mono (by decide)) rfl m_is_number_below k_is_number_below b_is_number_below .nil pass0 (pa_cons (pv 2) (pa_cons (pv 0) pa_nil)))) pa_nil)) (fun _ => rfl)))))) (pss_one (ps_ret (pe_bl))) pss_nil)
      (pss_one (ps_ret (pe_call G_is_ascending (hr.mono (by decide)) rfl m_is_ascending k_is_ascending b_is_ascending .nil pass0 (pa_cons (pv 1) pa_nil)))), ?_⟩
  refine dq_iff ?_ fr fun H1 s1 => dq_ret ?_ (fr.same s1) fun v H2 s2 r2 => k v H2 (s1.trans s2) r2
  · refine dt_or (a := false) (b := false) (dt_not (a := true) (dt_truB (de_isK (de_var rfl r2)))) fun _ => dt_not (a := true) (dt_truB ((de_allM (g := fun o => decide (0 ≤ o) && decide (o < (n : Int))) (da_cons (de_lc0 (xs := ns) _ (di_seq (de_var rfl r2)) (by omega) fun a ha x N' H' u rx => ?_) da_nil)).is ?_))
    · have ba := hb a ha
      exact de_call (da_cons (de_var rfl rx) (da_cons (de_var rfl (r1.up u)) da_nil)) ⟨a, n, rfl, small_of ba.1 ba.2 hn, rfl⟩
    · congr 1
      rw [List.all_eq_true]
      intro o ho
      have := hb o ho
      simp [this]
  · exact de_call (da_cons (de_var rfl (r2.same s1)) da_nil) ⟨rfl, .inl ⟨ns, rfl, by omega, pw⟩⟩
abbrev s_has_all : Stmt := top 29
theorem sc_has_all : FnScope ["owners", "wanted", "owner"] ["owners", "wanted"] (defScope s_has_all) := ⟨rfl, rfl, rfl, by decide +kernel, rfl, by decide +kernel, by decide +kernel⟩
theorem ok_has_all {f : Addr} {fd : FuncData} (F : Fun K "has_all" "has_all" s_has_all f fd) (T : Bi mg) : FnOk P w K mg base CX0 1 f fd ["owners", "wanted"] (spP R_hasall) := by
  refine F.ok sc_has_all (len_spP (fun ds d ⟨x, ns, ws, e, _⟩ => by rw [e]; rfl)) (fun cdv A outer s H vs Q E hr h => ?_)
  obtain ⟨N, ds, d, fr, rs, ⟨x, ns, ws, rfl, hx, hw, rfl⟩, k⟩ := h
  obtain ⟨v, u, rfl, r1, r2⟩ := rps2 rs
  refine ⟨_, pss_one (ps_ret (pe_callB (cr_allK K rfl) (by rfl) T.all (by decide +kernel) (pa_cons (pe_lc (own := [("owner", 2)]) rfl sc_has_all.nd (pi_seqK K (pv 1)) (blkOk_by (own := [("owner", 2)]) (N := ["owners", "wanted", "owner"]) (sc := defScope s_has_all) (by decide +kernel)) (fun _ _ _ _ _ => pg_name (i := 2) sc_has_all.nd rfl (Or.inl rfl)) (fun _ _ _ _ _ => pts_nil) (fun _ _ _ _ _ => pe_cmpR (op_inK K) (pv 2) (pv 0) rfl)) pa_nil))), ?_⟩
  refine dq_ret ?_ fr k
  exact de_allM (da_cons (de_lc0 (xs := ws) _ (di_seq (de_var rfl r2)) (by omega) fun a ha x N' H' u rx => de_op (de_var rfl rx) (de_var rfl (r1.up u)) (r2_in hx)) da_nil)
abbrev s_has_lot : Stmt := top 30
theorem sc_has_lot : FnScope ["charter", "owners", "lot"] ["charter", "owners"] (defScope s_has_lot) := ⟨rfl, rfl, rfl, by decide +kernel, rfl, by decide +kernel, by decide +kernel⟩
theorem ok_has_lot {f : Addr} {fd : FuncData} (F : Fun K "has_lot" "has_lot" s_has_lot f fd) (T : Bi mg) (D_has_all : Def P w K mg base "has_all" 1 ["owners", "wanted"] (spP R_hasall)) :
    FnOk P w K mg base CX0 2 f fd ["charter", "owners"] (spP R_haslot) := by
  obtain ⟨f_has_all, fd_has_all, G_has_all, b_has_all, k_has_all, m_has_all⟩ := D_has_all.ex
  refine F.ok sc_has_lot (len_spP (fun ds d ⟨many, props, lots, x, ns, e, _⟩ => by rw [e]; rfl)) (fun cdv A outer s H vs Q E hr h => ?_)
  obtain ⟨N, ds, d, fr, rs, ⟨many, props, lots, x, ns, rfl, hx, C, rfl⟩, k⟩ := h
  obtain ⟨v, u, rfl, r1, r2⟩ := rps2 rs
  refine ⟨_, pss_one (ps_ret (pe_callB (cr_anyK K rfl) (by rfl) T.any (by decide +kernel) (pa_cons (pe_lc (own := [("lot", 2)]) rfl sc_has_lot.nd (pi_seqK K (pe_ix (ix_K K) (pv 0) pe_int (fun _ _ => rfl))) (blkOk_by (own := [("lot", 2)]) (N := ["charter", "owners", "lot"]) (sc := defScope s_has_lot) (by decide +kernel)) (fun _ _ _ _ _ => pg_name (i := 2) sc_has_lot.nd rfl (Or.inl rfl)) (fun _ _ _ _ _ => pts_nil) (fun _ _ _ _ _ => pe_call G_has_all (hr.mono (by decide)) rfl m_has_all k_has_all b_has_all .nil pass0 (pa_cons (pv 1) (pa_cons (pv 2) pa_nil)))) pa_nil))), ?_⟩
  refine dq_ret ?_ fr k
  have hl := C.c.llen
  exact de_anyM (da_cons (de_lc0 (xs := lots) _ (di_seq (de_op (de_var rfl r1) de_int (r2_ix (z := tT lots) rfl))) (by omega) fun a ha x N' H' u rx =>
    de_call (da_cons (de_var rfl (r2.up u)) (da_cons (de_var rfl rx) da_nil)) ⟨_, ns, a, rfl, hx, by
      have := asc_len (C.c.one a ha).2.1 (C.c.one a ha).2.2
      have := C.c.m6
      omega, rfl⟩) da_nil)
abbrev s_is_charter : Stmt := top 25
theorem sc_is_charter : FnScope ["value", "many", "proposers", "lots", "lot", "one", "other"] ["value"] (defScope s_is_charter) := ⟨rfl, rfl, rfl, by decide +kernel, rfl, by decide +kernel, by decide +kernel⟩
theorem ok_is_charter {f : Addr} {fd : FuncData} (F : Fun K "is_charter" "is_charter" s_is_charter f fd) (T : Bi mg) (D_is_number_of_owners : Def P w K mg base "is_number_of_owners" 3 ["value"] (spP R_noo))
    (D_are_owners : Def P w K mg base "are_owners" 4 ["many", "value"] (spP R_areo)) (D_is_ascending : Def P w K mg base "is_ascending" 1 ["values"] (spP R_asc)) (D_has_all : Def P w K mg base "has_all" 1 ["owners", "wanted"] (spP R_hasall)) :
    FnOk P w K mg base CX0 5 f fd ["value"] (spP R_isch) := by
  obtain ⟨f_has_all, fd_has_all, G_has_all, b_has_all, k_has_all, m_has_all⟩ := D_has_all.ex
  obtain ⟨f_is_ascending, fd_is_ascending, G_is_ascending, b_is_ascending, k_is_ascending, m_is_ascending⟩ := D_is_ascending.ex
  obtain ⟨f_are_owners, fd_are_owners, G_are_owners, b_are_owners, k_are_owners, m_are_owners⟩ := D_are_owners.ex
  obtain ⟨f_is_number_of_owners, fd_is_number_of_owners, G_is_number_of_owners, b_is_number_of_owners, k_is_number_of_owners, m_is_number_of_owners⟩ := D_is_number_of_owners.ex
  refine F.ok sc_is_charter (len_spP (fun ds d ⟨many, props, lots, e, _⟩ => by rw [e]; rfl)) (fun cdv A outer s H vs Q E hr h => ?_)
  obtain ⟨N, ds, d, fr, rs, ⟨many, props, lots, rfl, C, rfl⟩, k⟩ := h
  obtain ⟨v, rfl, r⟩ := rps1 rs
  have m1 := C.c.m1
  have m6 := C.c.m6
  have hl := C.c.llen
  have lo : ∀ l ∈ lots, l.length ≤ 6 := fun l h => Nat.le_trans (asc_len (C.c.one l h).2.1 (C.c.one l h).2.2) m6
  refine ⟨_, pss_cons (ps_if (PW.pt (pw_or (pt_not (pt_truK K (pe_callB call_isK (by rfl) T.isinstance (by decide +kernel) (pa_cons (pv 0) (pa_cons (pe_tyn "tuple" (by rfl) T.tuple (by decide +kernel)) pa_nil))) (fun _ => rfl))) (pw_or1 (pt_cmpR (op_neK K hr.units) (pe_callB (call_lenK K) (by rfl) T.len (by decide +kernel) (pa_cons (pv 0) pa_nil)) pe_int (nomark _))))) (pss_one (ps_ret (pe_bl))) pss_nil)
      (pss_cons (ps_asg (pv 0) (pg_tupK K (n := 3) rfl (pgs_cons (pg_name (i := 1) sc_is_charter.nd rfl (Or.inr rfl)) (pgs_cons (pg_name (i := 2) sc_is_charter.nd rfl (Or.inl rfl)) (pgs_cons (pg_name (i := 3) sc_is_charter.nd rfl (Or.inr rfl)) pgs_nil)))))
      (pss_cons (ps_if (PW.pt (pw_or (pt_not (pt_truK K (pe_call G_is_number_of_owners (hr.mono (by decide)) rfl m_is_number_of_owners k_is_number_of_owners b_is_number_of_owners .nil pass0 (pa_cons (pv 1) pa_nil)) (fun _ => rfl))) (pw_or (pt_not (pt_truK K (pe_call G_are_owners (hr.mono (by decide)) rfl m_are_owners k_are_owners b_are_owners .nil pass0 (pa_cons (pv 1) (pa_cons (pv 2) pa_nil))) (fun _ => rfl))) (pw_or1 (pt_not (pt_truK K (pv 2) (fun _ => rfl))))))) (pss_one (ps_ret (pe_bl))) pss_nil)
      (pss_cons (ps_if (PW.pt (pw_or (pt_not (pt_truK K (pe_callB call_isK (by rfl) T.isinstance (by decide +kernel) (pa_cons (pv 3) (pa_cons (pe_tyn "tuple" (by rfl) T.tuple (by decide +kernel)) pa_nil))) (fun _ => rfl))) (pw_or1 (pt_not (pt_truK K (pv 3) (fun _ => rfl)))))) (pss_one (ps_ret (pe_bl))) pss_nil)
      (pss_cons (ps_if (PW.pt (pw_or (pt_not (pt_truK K (pe_callB (cr_allK K rfl) (by rfl) T.all (by decide +kernel) (pa_cons (pe_lc (own := [("lot", 4)]) rfl sc_is_charter.nd (pi_seqK K (pv 3)) (blkOk_by (own := [("lot", 4)]) (N := ["value", "many", "proposers", "lots", "lot", "one", "other"]) (sc := defScope s_is_charter) (by decide +kernel)) (fun _ _ _ _ _ => pg_name (i := 4) sc_is_charter.nd rfl (Or.inl rfl)) (fun _ _ _ _ _ => pts_nil) (fun _ _ _ _ _ => pe_and (pe_call G_are_owners (hr.mono (by decide)) rfl m_are_owners k_are_owners b_are_owners .nil pass0 (pa_cons (pv 1) (pa_cons (pv 4) pa_nil))) (pe_one (pe_cmpR op_gt (pe_callB (call_lenK K) (by rfl) T.len (by decide +kernel) (pa_cons (pv 4) pa_nil)) pe_int (nomark _))))) pa_nil)) (fun _ => rfl))) (pw_or1 (pt_not (pt_truK K (pe_call G_is_ascending (hr.mono (by decide)) rfl m_is_ascending k_is_ascending b_is_ascending .nil pass0 (pa_cons (pv 3) pa_nil)) (fun _ => rfl)))))) (pss_one (ps_ret (pe_bl))) pss_nil)
      (pss_one (ps_ret (pe_not (pe_callB (cr_anyK K rfl) (by rfl) T.any (by decide +kernel) (pa_cons (pe_lc2 (own := [("one", 5), ("other", 6)]) (vs1 := [6]) rfl sc_is_charter.nd (pi_seqK K (pv 3)) (blkOk_by (own := [("one", 5), ("other", 6)]) (N := ["value", "many", "proposers", "lots", "lot", "one", "other"]) (sc := defScope s_is_charter) (by decide +kernel)) (by decide) (fun _ _ _ _ _ => pg_name (i := 5) sc_is_charter.nd rfl (Or.inl rfl)) (fun _ _ _ _ _ => pts_nil) (fun _ _ _ _ _ => pi_seqK K (pv 3)) (fun _ _ _ _ _ => pg_name (i := 6) sc_is_charter.nd rfl (Or.inl rfl)) (fun _ _ _ _ _ => pts_one (pt_cmpR (op_neK K hr.units) (pv 5) (pv 6) (nomark _))) (fun _ _ _ _ _ => pe_call G_has_all (hr.mono (by decide)) rfl m_has_all k_has_all b_has_all .nil pass0 (pa_cons (pv 5) (pa_cons (pv 6) pa_nil)))) pa_nil))))))))), ?_⟩
  refine dq_iff ?_ fr fun H1 s1 => ?_
  · exact dt_or (a := false) (b := false) (dt_not (a := true) (dt_truB (de_isK (de_var rfl r)))) fun _ => dt_test (de_op (de_cb (da_cons (de_var rfl r) da_nil) rk_len) de_int r2_neI)
  have f1 := fr.same s1
  have r1 := r.same s1
  refine dq_un3 (de_var rfl r1) f1 fun a b c H1' s1' ra rb rc => ?_
  have f1 := f1.same s1'
  refine dq_iff ?_ f1 fun H2 s2 => ?_
  · refine dt_or (a := false) (b := false) (dt_not (a := true) (dt_truB (de_call (da_cons (de_var rfl ra) da_nil) ⟨many, rfl, by omega, by omega, rfl⟩))) fun _ => dt_or (a := false) (b := false) (dt_not (a := true) (dt_truB
      (de_call (da_cons (de_var rfl ra) (da_cons (de_var rfl rb) da_nil)) ⟨many, props, rfl, by omega, C.c.pin, C.c.pasc, rfl⟩))) fun _ => (dt_not (dt_truS (de_var rfl rb))).is ?_
    have := C.c.pne
    cases props with
    | nil => exact absurd rfl this
    | cons _ _ => rfl
  have f2 := f1.same s2
  refine dq_iff ?_ f2 fun H3 s3 => ?_
  · refine dt_or (a := false) (b := false) (dt_not (a := true) (dt_truB (de_isK (de_var rfl (rc.same s2))))) fun _ => (dt_not (dt_truS (de_var rfl (rc.same s2)))).is ?_
    have := C.c.lne
    cases lots with
    | nil => exact absurd rfl this
    | cons _ _ => rfl
  have f3 := f2.same s3
  have rc3 := (rc.same s2).same s3
  have ra3 := (ra.same s2).same s3
  refine dq_iff ?_ f3 fun H4 s4 => ?_
  · refine dt_or (a := false) (b := false) (dt_not (a := true) (dt_truB ((de_allM (g := fun _ => true) (da_cons (de_lc0 (xs := lots) _ (di_seq (de_var rfl rc3)) (by omega) fun l hl x N' H' u rx => ?_) da_nil)).is (by simp)))) fun _ => dt_not (a := true) (dt_truB
      (de_call (da_cons (de_var rfl rc3) da_nil) ⟨rfl, .inr ⟨lots, rfl, by omega, C.lasc⟩⟩))
    refine (de_andV (a := true) (b := true) (de_call (da_cons (de_var rfl (ra3.up u)) (da_cons (de_var rfl rx) da_nil)) ⟨many, l, rfl, by omega, (C.c.one l hl).2.2, (C.c.one l hl).2.1, rfl⟩) fun _ => (de_op (de_cb (da_cons (de_var rfl rx) da_nil) rk_lenT) de_int r2_b).is ?_).is rfl
    have := List.length_pos_iff.mpr (C.c.one l hl).1
    congr 1
    exact decide_eq_true (by omega)
  have f4 := f3.same s4
  have rc4 := rc3.same s4
  refine dq_ret ?_ f4 fun v H5 s5 r5 => k v H5 (((((s1.trans s1').trans s2).trans s3).trans s4).trans s5) r5
  refine (de_notV (a := false) ?_).is rfl
  have e : (lots.flatMap fun a => (lots.filter fun c => !decide (a = c)).map fun c => PyData.bool (c.all fun o => decide (o ∈ a))) = (lots.flatMap fun a => (lots.filter fun c => !decide (a = c)).map fun c => (c.all fun o => decide (o ∈ a))).map PyData.bool := by
    rw [List.map_flatMap]
    congr 1
    funext a
    rw [List.map_map]; rfl
  refine (de_cb (da_cons ((de_lcc (fun _ => lots) (fun _ c => tI c) (fun a c => !decide (a = c)) (fun a c => .bool (c.all fun o => decide (o ∈ a))) (di_seq (de_var rfl rc4)) ?_ (fun a ha x N' H' u rx => di_seq (de_var rfl (rc4.up u)))
    fun a ha c hc x y N' H' u rx ry => ⟨dt_test (de_op (de_var rfl rx) (de_var rfl ry) r2_neT), fun _ => de_call (da_cons (de_var rfl rx) (da_cons (de_var rfl ry) da_nil)) ⟨_, a, c, rfl, rfl, by have := lo c hc; omega, rfl⟩⟩).is (congrArg PyData.list e)) da_nil) rc_any).is ?_
  · have : (lots.flatMap fun _ => lots).length ≤ 64 * 64 := by
      have key : ∀ l : List (List Int), (l.flatMap fun _ => lots).length = l.length * lots.length := by
        intro l
        induction l with
        | nil => simp
        | cons a l ih => rw [List.flatMap_cons, List.length_append, ih, List.length_cons, Nat.succ_mul, Nat.add_comm]
      rw [key]
      exact Nat.mul_le_mul hl hl
    omega
  · congr 1
    rw [List.any_eq_false]
    intro z hz
    obtain ⟨a, ha, hz⟩ := List.mem_flatMap.mp hz
    obtain ⟨c, hc, rfl⟩ := List.mem_map.mp hz
    obtain ⟨hc, hne⟩ := List.mem_filter.mp hc
    obtain ⟨o, ho, hn⟩ := C.anti a ha c hc (by simpa using hne)
    simp only [id]
    intro h
    rw [List.all_eq_true] at h
    have := h o ho
    simp at this
    exact hn this
end
end Pu

namespace Pu
open PySem PySem.Spec PyProof.Rows L2
/-- the owners whose items are a head -/
def folI (row : List Int) (h : Int) : List Int := (row.zipIdx.filter fun p => decide (p.1 = h)).map fun p => (p.2 : Int)
theorem mem_folI {row : List Int} {h o : Int} : o ∈ folI row h ↔ 0 ≤ o ∧ o < row.length ∧ Ch.at_ row o = h := by
  unfold folI
  rw [List.mem_map]
  constructor
  · rintro ⟨⟨x, i⟩, hm, rfl⟩
    obtain ⟨h1, h2⟩ := List.mem_filter.mp hm
    have h3 := List.mem_zipIdx_iff_getElem?.mp h1
    simp only at h3 h2
    have hl := (List.getElem?_eq_some_iff.mp h3).1
    refine ⟨by omega, by omega, ?_⟩
    unfold Ch.at_
    rw [List.getD_eq_getElem?_getD, Int.toNat_natCast, h3]
    simpa using h2
  · rintro ⟨h0, h1, h2⟩
    have hl : o.toNat < row.length := by omega
    refine ⟨(row[o.toNat], o.toNat), List.mem_filter.mpr ⟨List.mem_zipIdx_iff_getElem?.mpr (List.getElem?_eq_getElem hl), ?_⟩, by simp only; omega⟩
    unfold Ch.at_ at h2
    rw [List.getD_eq_getElem?_getD, List.getElem?_eq_getElem hl, Option.getD_some] at h2
    simp [h2]
theorem has_fol {many : Nat} {props : List Int} {lots : List (List Int)} (C : Ch.Charter many props lots) {row : List Int} (hr : row.length = many) (h : Int) :
    Ch.has lots (fun o => decide (o ∈ folI row h)) = Ch.has lots (fun o => Ch.at_ row o == h) := Ch.has_congr C fun o a b => by
  have e : decide (o ∈ folI row h) = decide (Ch.at_ row o = h) := decide_eq_decide.mpr ⟨fun z => (mem_folI.mp z).2.2, fun z => mem_folI.mpr ⟨a, by omega, z⟩⟩
  rw [e]
  by_cases z : Ch.at_ row o = h <;> simp [z]
def R_fol : List PyData → PyData → Prop := fun ds d => ∃ (row : List Int) (h : Int), ds = [tI row, .int h] ∧ row.length ≤ 1000 ∧ d = lI (folI row h)
def R_heads : List PyData → PyData → Prop := fun ds d => ∃ many props lots, ∃ row : List Int, ds = [chD many props lots, tI row] ∧ Ch2 many props lots ∧ row.length = many ∧ d = tI (Ch.heads props lots row)
section
variable {P : Program} {w : World} {K : PySem.W.Frag} {mg : Str → Option Value} {base : Heap}
abbrev s_check_charter : Stmt := top 28
theorem sc_check_charter : FnScope ["charter"] ["charter"] (defScope s_check_charter) := ⟨rfl, rfl, rfl, by decide +kernel, rfl, by decide +kernel, by decide +kernel⟩
theorem ok_check_charter {f : Addr} {fd : FuncData} (F : Fun K "check_charter" "check_charter" s_check_charter f fd) (D_is_charter : Def P w K mg base "is_charter" 5 ["value"] (spP R_isch)) :
    FnOk P w K mg base CX0 6 f fd ["charter"] (spP R_check) := by
  obtain ⟨f_is_charter, fd_is_charter, G_is_charter, b_is_charter, k_is_charter, m_is_charter⟩ := D_is_charter.ex
  refine F.ok sc_check_charter (len_spP (fun ds d ⟨many, props, lots, e, _⟩ => by rw [e]; rfl)) (fun cdv A outer s H vs Q E hr h => ?_)
  obtain ⟨N, ds, d, fr, rs, ⟨many, props, lots, rfl, C, rfl⟩, k⟩ := h
  obtain ⟨v, rfl, r⟩ := rps1 rs
  refine ⟨_, pss_one (ps_if (pt_not (pt_truK K (pe_call G_is_charter (hr.mono (by decide)) rfl m_is_charter k_is_charter b_is_charter .nil pass0 (pa_cons (pv 0) pa_nil)) (fun _ => rfl))) (pss_one (ps_never)) pss_nil), ?_⟩
  exact dq_if (b := false) (dt_not (a := true) (dt_truB (de_call (da_cons (de_var rfl r) da_nil) ⟨many, props, lots, rfl, C, rfl⟩))) fr (fun h => nomatch h) fun _ H1 s1 => k _ H1 s1 .non
end
end Pu

namespace Pu
open PySem PySem.Spec PyProof.Rows L2
def R_rows : List PyData → PyData → Prop := fun ds d => ∃ owners props : List Int, ds = [lI owners, tI props, lI []] ∧ owners.length ≤ 6 ∧ props.length ≤ 6 ∧ d = lT (Ch.rowsC owners props [])
theorem bit_eq (m i : Nat) : (Builtin.bitAnd ((m : Int) / 2 ^ ((i : Nat) : Int).toNat) 1 != 0) = Ch.bitN m i := by
  rw [bitAnd_m1]
  have e : ((m : Int) / 2 ^ ((i : Nat) : Int).toNat) % 2 = ((m / 2 ^ i % 2 : Nat) : Int) := by
    rw [Int.toNat_natCast]; simp
  rw [e]
  unfold Ch.bitN
  have : m / 2 ^ i % 2 = 0 ∨ m / 2 ^ i % 2 = 1 := by omega
  rcases this with h | h <;> rw [h] <;> rfl
section
variable {P : Program} {w : World} {K : PySem.W.Frag} {mg : Str → Option Value} {base : Heap}
end
end Pu

namespace Pu
open PySem PySem.Spec PyProof.Rows L2
/-- the splits of a charter as the program tells them -/
def spl (many : Nat) (props : List Int) : List (List Int) := srtL (Ch.rowsC (Ch.rng many) props [])
def R_spl : List PyData → PyData → Prop := fun ds d => ∃ many props lots, ds = [chD many props lots] ∧ Ch2 many props lots ∧ d = lT (spl many props)
def tornOf (many : Nat) (props : List Int) (lots : List (List Int)) : Option (List Int) := (spl many props).find? fun row => !decide ((Ch.heads props lots row).length = 1)
def R_torn : List PyData → PyData → Prop := fun ds d => ∃ many props lots, ds = [chD many props lots] ∧ Ch2 many props lots ∧ d = match tornOf many props lots with
  | some row => tI row
  | none => .none
def dcdOf (many : Nat) (props : List Int) (lots : List (List Int)) : List Int := (Ch.rng many).filter fun o => (spl many props).all fun row => decide (Ch.heads props lots row = [Ch.at_ row o])
def R_dcd : List PyData → PyData → Prop := fun ds d => ∃ many props lots, ds = [chD many props lots] ∧ Ch2 many props lots ∧ d = tI (dcdOf many props lots)
section
variable {many : Nat} {props : List Int} {lots : List (List Int)}
theorem mem_spl (C : Ch.Charter many props lots) {row : List Int} : row ∈ spl many props ↔ Ch.Split many props row := by
  rw [spl, (srtL_perm _).mem_iff, Ch.mem_rows C]
theorem spl_len (C : Ch.Charter many props lots) : (spl many props).length ≤ 5000000 := by
  rw [spl, (srtL_perm _).length_eq, Ch.rowsC]
  have hpl : props.length ≤ 6 := Nat.le_trans (asc_len C.pasc C.pin) C.m6
  have bt : ∀ n, ((List.range n).flatMap fun m => (Ch.rng many).foldl (Ch.stepR (Ch.headsM props m) []) [[]]).length ≤ n * 46656 := by
    intro n
    induction n with
    | zero => simp
    | succ n ih =>
      rw [List.range_succ, List.flatMap_append, List.length_append, List.flatMap_cons, List.flatMap_nil, List.append_nil]
      have : ((Ch.rng many).foldl (Ch.stepR (Ch.headsM props n) []) [[]]).length ≤ 46656 := by
        refine Nat.le_trans (Ch.foldR_len (by simpa using Nat.le_trans (Ch.headsM_len props n) hpl) _ _) ?_
        have : 6 ^ (Ch.rng many).length ≤ 6 ^ 6 := Nat.pow_le_pow_right (by decide) (by rw [Ch.rng_len]; exact C.m6)
        simpa using this
      omega
  have := bt (2 ^ props.length)
  have hM : 2 ^ props.length ≤ 64 := Nat.pow_le_pow_right (by decide) hpl
  omega
end
section
variable {P : Program} {w : World} {K : PySem.W.Frag} {mg : Str → Option Value} {base : Heap}
end
end Pu

namespace Ch
/-- all sets of the owners below n -/
def sets : Nat → List (List Int)
  | 0 => [[]]
  | n + 1 => sets n ++ (sets n).map fun part => part ++ [(n : Int)]
theorem sets_len : ∀ n, (sets n).length = 2 ^ n
  | 0 => rfl
  | n + 1 => by rw [sets, List.length_append, List.length_map, sets_len n, Nat.pow_succ]; omega
theorem sets_one : ∀ n, ∀ p ∈ sets n, p.Pairwise (· < ·) ∧ ∀ o ∈ p, 0 ≤ o ∧ o < n
  | 0, p, h => by
    rw [sets, List.mem_singleton] at h
    subst h
    exact ⟨List.Pairwise.nil, fun o h => nomatch h⟩
  | n + 1, p, h => by
    rw [sets, List.mem_append] at h
    rcases h with h | h
    · obtain ⟨h1, h2⟩ := sets_one n p h
      exact ⟨h1, fun o ho => by have := h2 o ho; omega⟩
    · obtain ⟨q, hq, rfl⟩ := List.mem_map.mp h
      obtain ⟨h1, h2⟩ := sets_one n q hq
      refine ⟨List.pairwise_append.mpr ⟨h1, List.pairwise_singleton _ _, fun a ha b hb => ?_⟩, fun o ho => ?_⟩
      · rw [List.mem_singleton.mp hb]; exact (h2 a ha).2
      · rcases List.mem_append.mp ho with ho | ho
        · have := h2 o ho; omega
        · rw [List.mem_singleton.mp ho]; omega
theorem sets_le {n : Nat} (h : n ≤ 6) : (sets n).length ≤ 64 := by
  rw [sets_len]
  exact Nat.pow_le_pow_right (by decide) h
theorem sets_in {n : Nat} (h : n ≤ 6) {p : List Int} (hp : p ∈ sets n) : p.length ≤ 6 := by
  obtain ⟨h1, h2⟩ := sets_one n p hp
  have nd : p.Nodup := h1.imp fun h => Int.ne_of_lt h
  have := List.Nodup.length_le_of_subset nd (l₂ := rng n) fun x hx => mem_rng.mpr (h2 x hx)
  rw [rng_len] at this
  omega
end Ch
namespace Pu
open PySem PySem.Spec PyProof.Rows L2
def R_sets : List PyData → PyData → Prop := fun ds d => ∃ n : Nat, ds = [.int (n : Int)] ∧ n ≤ 6 ∧ d = lT (Ch.sets n)
def R_in : List PyData → PyData → Prop := fun ds d => ∃ (x y : PyData) (ps ws : List Int), ds = [x, y] ∧ itemsD x = some (ps.map PyData.int) ∧ itemsD y = some (ws.map PyData.int) ∧ ps.length ≤ 1000 ∧ d = .bool (ps.all fun o => decide (o ∈ ws))
def R_hasL : List PyData → PyData → Prop := fun ds d => ∃ (x y : PyData) (lots : List (List Int)) (ws : List Int), ds = [x, y] ∧ itemsD x = some (lots.map tI) ∧ itemsD y = some (ws.map PyData.int) ∧ lots.length ≤ 1000 ∧ (∀ l ∈ lots, l.length ≤ 1000) ∧
  d = .bool (Ch.has lots fun o => decide (o ∈ ws))
/-- those that have all of no other one -/
def leastOf (parts : List (List Int)) : List (List Int) := (usrtL parts).filter fun part => !parts.any fun other => !decide (other = part) && other.all fun o => decide (o ∈ part)
def R_least : List PyData → PyData → Prop := fun ds d => ∃ parts : List (List Int), ds = [lT parts] ∧ parts.length < 64 ∧ (∀ p ∈ parts, p ≠ [] ∧ p.length ≤ 1000) ∧ d = tT (leastOf parts)
def blkI (split : List Int) (h : Int) : List Int := (Ch.rng split.length).filter fun o => decide (Ch.at_ split o = h)
def R_block : List PyData → PyData → Prop := fun ds d => ∃ (split : List Int) (h : Int), ds = [tI split, .int h] ∧ split.length ≤ 1000 ∧ d = lI (blkI split h)
theorem not_any_all (ps ws : List Int) : (!ps.any fun o => !decide (o ∈ ws)) = ps.all fun o => decide (o ∈ ws) := by
  induction ps with
  | nil => rfl
  | cons p r ih => simp only [List.all_cons, List.any_cons, Bool.not_or, Bool.not_not, ih]
section
variable {P : Program} {w : World} {K : PySem.W.Frag} {mg : Str → Option Value} {base : Heap}
abbrev s_L_sh_sets : Stmt := top 47
theorem sc_L_sh_sets : FnScope ["many", "found", "owner", "part"] ["many"] (defScope s_L_sh_sets) := ⟨rfl, rfl, rfl, by decide +kernel, rfl, by decide +kernel, by decide +kernel⟩
theorem ok_sets {f : Addr} {fd : FuncData} (F : Fun K "_law_sh_sets" "_law_sh_sets" s_L_sh_sets f fd) (T : Bi mg) : FnOk P w K mg base CX0 1 f fd ["many"] (spP R_sets) := by
  refine F.ok sc_L_sh_sets (len_spP (fun ds d ⟨n, e, _⟩ => by rw [e]; rfl)) (fun cdv A outer s H vs Q E hr h => ?_)
  obtain ⟨N, ds, d, fr, rs, ⟨n, rfl, hn, rfl⟩, k⟩ := h
  obtain ⟨v, rfl, r⟩ := rps1 rs
  refine ⟨_, pss_cons (ps_set (i := 1) sc_L_sh_sets.nd rfl (Or.inl rfl) (pe_lst (pa_cons (pe_tup pa_nil) pa_nil)))
      (pss_cons (ps_for PassesOwn.never rfl (pi_range1 rfl T.range (pa_cons (pv 0) pa_nil)) (pg_name (i := 2) sc_L_sh_sets.nd rfl (Or.inr rfl)) (pss_one (ps_set (i := 1) sc_L_sh_sets.nd rfl (Or.inl rfl) (pe_op (op_addK K) (pv 1) (pe_lc (own := [("part", 3)]) rfl sc_L_sh_sets.nd (pi_seqK K (pv 1)) (blkOk_by (own := [("part", 3)]) (N := ["many", "found", "owner", "part"]) (sc := defScope s_L_sh_sets) (by decide +kernel)) (fun _ _ _ _ _ => pg_name (i := 3) sc_L_sh_sets.nd rfl (Or.inl rfl)) (fun _ _ _ _ _ => pts_nil) (fun _ _ _ _ _ => pe_op (op_addK K) (pv 3) (pe_tup (pa_cons (pv 2) pa_nil))))))))
      (pss_one (ps_ret (pv 1)))), ?_⟩
  refine dq_set (d := lT (Ch.sets 0)) (de_lst (da_cons (de_tup da_nil) da_nil)) fr fun v1 H1 s1 r1 => ?_
  have f1 := fr.same s1
  refine df_forS (N := N) (xs := Ch.rng n) (enc := PyData.int) (by
    have := di_rng (N := N) (σ := [some v, some v1, none, none]) (H := H1) (i := (n : Int)) (da_cons (de_var (i := 0) rfl (r.same s1)) da_nil) (by omega) (by omega)
    rwa [Int.toNat_natCast] at this) f1 fun H2 s2 => ?_
  refine ⟨fun i σ' H' => (∃ z1 z2 z3, σ' = [some v, some z1, z2, z3] ∧ Rp N H' z1 (lT (Ch.sets i))) ∧ Same H2 H', ⟨⟨_, _, _, rfl, r1.same s2⟩, Same.refl _⟩, fun i σ' H' ⟨_, s3⟩ => ⟨Up.of s3, (f1.same s2).same s3⟩, ?_, ?_⟩
  · rintro i hi x σ' H' H3 ⟨⟨z1, z2, z3, rfl, rz⟩, s3⟩ s4 rx
    have hi' : i < n := by rw [Ch.rng_len] at hi; exact hi
    have ei : (Ch.rng n)[i] = (i : Int) := by
      have := Ch.rng_get hi'
      rw [List.getElem?_eq_getElem hi] at this
      exact Option.some.inj this
    rw [ei] at rx
    have sl := Ch.sets_le (n := i) (by omega)
    refine DE.run (N := N) (d := lT (Ch.sets (i + 1))) ((de_op (de_var rfl (rz.same s4)) (de_lc0 (xs := Ch.sets i) (fun part => tI (part ++ [(i : Int)])) (di_seq (de_var rfl (rz.same s4))) (by omega) fun a ha x' N' H'' u rx' => (de_op (de_var rfl rx') (de_tup (da_cons (de_var rfl (rx.up u)) da_nil)) (r2_addT ?_)).is ?_) (r2_addL ?_)).is ?_)
      (((f1.same s2).same s3).same s4) fun v' H5 s5 r5 => ⟨⟨_, _, _, rfl, r5⟩, (s3.trans s4).trans s5⟩
    · have := Ch.sets_in (n := i) (by omega) ha
      simp; omega
    · simp
    · simp; omega
    · rw [Ch.sets, lT, List.map_append, List.map_map]; rfl
  · rintro σ' H' ⟨⟨z1, z2, z3, rfl, rz⟩, s3⟩
    rw [Ch.rng_len] at rz
    exact dq_ret (de_var rfl rz) ((f1.same s2).same s3) fun v' H5 s5 r5 => k v' H5 (((s1.trans s2).trans s3).trans s5) r5
abbrev s_L_sh_in : Stmt := top 48
theorem sc_L_sh_in : FnScope ["part", "whole", "owner"] ["part", "whole"] (defScope s_L_sh_in) := ⟨rfl, rfl, rfl, by decide +kernel, rfl, by decide +kernel, by decide +kernel⟩
theorem ok_in {f : Addr} {fd : FuncData} (F : Fun K "_law_sh_in" "_law_sh_in" s_L_sh_in f fd) : FnOk P w K mg base CX0 1 f fd ["part", "whole"] (spP R_in) := by
  refine F.ok sc_L_sh_in (len_spP (fun ds d ⟨x, y, ps, ws, e, _⟩ => by rw [e]; rfl)) (fun cdv A outer s H vs Q E hr h => ?_)
  obtain ⟨N, ds, d, fr, rs, ⟨x, y, ps, ws, rfl, hx, hy, hl, rfl⟩, k⟩ := h
  obtain ⟨v, u, rfl, r1, r2⟩ := rps2 rs
  refine ⟨_, pss_one (ps_ret (pe_cmpR (op_eqK K hr.units) (pe_lc (own := [("owner", 2)]) rfl sc_L_sh_in.nd (pi_seqK K (pv 0)) (blkOk_by (own := [("owner", 2)]) (N := ["part", "whole", "owner"]) (sc := defScope s_L_sh_in) (by decide +kernel)) (fun _ _ _ _ _ => pg_name (i := 2) sc_L_sh_in.nd rfl (Or.inl rfl)) (fun _ _ _ _ _ => pts_one (pt_cmpR (op_ninK K) (pv 2) (pv 1) rfl)) (fun _ _ _ _ _ => pe_int)) (pe_lst pa_nil) (nomark _))), ?_⟩
  refine dq_ret ((de_op (de_lc (xs := ps) (fun o => !decide (o ∈ ws)) (fun _ => .int 1) (di_seq (de_var rfl r1) hx) (by omega) fun a ha x' N' H' u' rx => ⟨dt_test (de_op (de_var rfl rx) (de_var rfl (r2.up u')) (r2_nin hy)), fun _ => de_int⟩) (de_lst da_nil) r2_none).is ?_) fr k
  rw [filter_empty, not_any_all]
abbrev s_L_sh_has : Stmt := top 49
theorem sc_L_sh_has : FnScope ["lots", "owners", "lot"] ["lots", "owners"] (defScope s_L_sh_has) := ⟨rfl, rfl, rfl, by decide +kernel, rfl, by decide +kernel, by decide +kernel⟩
theorem ok_hasL {f : Addr} {fd : FuncData} (F : Fun K "_law_sh_has" "_law_sh_has" s_L_sh_has f fd) (D_L_sh_in : Def P w K mg base "_law_sh_in" 1 ["part", "whole"] (spP R_in)) : FnOk P w K mg base CX0 2 f fd ["lots", "owners"] (spP R_hasL) := by
  obtain ⟨f_L_sh_in, fd_L_sh_in, G_L_sh_in, b_L_sh_in, k_L_sh_in, m_L_sh_in⟩ := D_L_sh_in.ex
  refine F.ok sc_L_sh_has (len_spP (fun ds d ⟨x, y, ps, ws, e, _⟩ => by rw [e]; rfl)) (fun cdv A outer s H vs Q E hr h => ?_)
  obtain ⟨N, ds, d, fr, rs, ⟨x, y, lots, ws, rfl, hx, hy, hl, hll, rfl⟩, k⟩ := h
  obtain ⟨v, u, rfl, r1, r2⟩ := rps2 rs
  refine ⟨_, pss_one (ps_ret (pe_cmpR (op_neK K hr.units) (pe_lc (own := [("lot", 2)]) rfl sc_L_sh_has.nd (pi_seqK K (pv 0)) (blkOk_by (own := [("lot", 2)]) (N := ["lots", "owners", "lot"]) (sc := defScope s_L_sh_has) (by decide +kernel)) (fun _ _ _ _ _ => pg_name (i := 2) sc_L_sh_has.nd rfl (Or.inl rfl)) (fun _ _ _ _ _ => pts_one (pt_truK K (pe_call G_L_sh_in (hr.mono (by decide)) rfl m_L_sh_in k_L_sh_in b_L_sh_in .nil pass0 (pa_cons (pv 2) (pa_cons (pv 1) pa_nil))) (fun _ => rfl))) (fun _ _ _ _ _ => pe_int)) (pe_lst pa_nil) (nomark _))), ?_⟩
  refine dq_ret ((de_op (de_lc (xs := lots) (fun lot => lot.all fun o => decide (o ∈ ws)) (fun _ => .int 1) (di_seq (de_var rfl r1) hx) (by omega) fun a ha x' N' H' u' rx => ⟨dt_truB (de_call (da_cons (de_var rfl rx) (da_cons (de_var rfl (r2.up u')) da_nil)) ⟨_, _, a, ws, rfl, rfl, hy, hll a ha, rfl⟩), fun _ => de_int⟩) (de_lst da_nil) r2_some).is ?_) fr k
  rw [filter_empty, Bool.not_not]; rfl
abbrev s_L_sh_least : Stmt := top 51
theorem sc_L_sh_least : FnScope ["parts", "found", "part", "other"] ["parts"] (defScope s_L_sh_least) := ⟨rfl, rfl, rfl, by decide +kernel, rfl, by decide +kernel, by decide +kernel⟩
theorem ok_least {f : Addr} {fd : FuncData} (F : Fun K "_law_sh_least" "_law_sh_least" s_L_sh_least f fd) (T : Bi mg) (D_L_sh_in : Def P w K mg base "_law_sh_in" 1 ["part", "whole"] (spP R_in)) : FnOk P w K mg base CX0 2 f fd ["parts"] (spP R_least) := by
  obtain ⟨f_L_sh_in, fd_L_sh_in, G_L_sh_in, b_L_sh_in, k_L_sh_in, m_L_sh_in⟩ := D_L_sh_in.ex
  refine F.ok sc_L_sh_least (len_spP (fun ds d ⟨parts, e, _⟩ => by rw [e]; rfl)) (fun cdv A outer s H vs Q E hr h => ?_)
  obtain ⟨N, ds, d, fr, rs, ⟨parts, rfl, hl, hp, rfl⟩, k⟩ := h
  obtain ⟨v, rfl, r⟩ := rps1 rs
  refine ⟨_, pss_cons (ps_set (i := 1) sc_L_sh_least.nd rfl (Or.inl rfl) (pe_lst pa_nil))
      (pss_cons (ps_for PassesOwn.never rfl (pi_seqK K (pe_callB (cr_sortSK K P w rfl) (by rfl) T.sorted (by decide +kernel) (pa_cons (pe_callTy (cr_setOK K P w rfl hr.units) (by rfl) T.set (by decide +kernel) (pa_cons (pv 0) pa_nil)) pa_nil))) (pg_name (i := 2) sc_L_sh_least.nd rfl (Or.inr rfl)) (pss_one (ps_if (pt_cmpR (op_eqK K hr.units) (pe_lc (own := [("other", 3)]) rfl sc_L_sh_least.nd (pi_seqK K (pv 0)) (blkOk_by (own := [("other", 3)]) (N := ["parts", "found", "part", "other"]) (sc := defScope s_L_sh_least) (by decide +kernel)) (fun _ _ _ _ _ => pg_name (i := 3) sc_L_sh_least.nd rfl (Or.inl rfl)) (fun _ _ _ _ _ => pts_one (PW.pt (pw_and (pt_cmpR (op_neK K hr.units) (pv 3) (pv 2) (nomark _)) (pw_and1 (pt_truK K (pe_call G_L_sh_in (hr.mono (by decide)) rfl m_L_sh_in k_L_sh_in b_L_sh_in .nil pass0 (pa_cons (pv 3) (pa_cons (pv 2) pa_nil))) (fun _ => rfl)))))) (fun _ _ _ _ _ => pe_int)) (pe_lst pa_nil) (nomark _)) (pss_one (ps_expr (pe_bm PySem.F.plainAttrs_list PySem.F.slot_list_append PySem.F.type_list_append mt_append (pv 1) (pa_cons (pv 2) pa_nil)))) pss_nil)))
      (pss_one (ps_ret (pe_callTy (call_tupK K) (by rfl) T.tuple (by decide +kernel) (pa_cons (pv 1) pa_nil))))), ?_⟩
  have ul : (usrtL parts).length ≤ 64 := by
    have nd : (usrtL parts).Nodup := (usrtL_pw parts).imp fun h e => by subst e; have := NtL.lex_asym _ _ h; rw [h] at this; cases this
    have := List.Nodup.length_le_of_subset nd (l₂ := parts) fun x hx => mem_usrtL.mp hx
    omega
  refine dq_new fr fun p H1 hp1 w1 => ?_
  refine df_forS (N := fun a => N a ∧ a ≠ p) (xs := usrtL parts) (enc := tI) (di_seq (de_usrtL (de_var rfl (r.up w1.up)) hl fun ns hn => (hp ns hn).1)) w1.fr fun H2 s2 => ?_
  have w2 := w1.go s2
  refine ⟨fun i σ' H' => (∃ z2 z3, σ' = [some v, some (.ref p), z2, z3]) ∧ Up (fun a => N a ∧ a ≠ p) H2 (fun a => N a ∧ a ≠ p) H' ∧ InD N H p H' ((((usrtL parts).take i).filter fun part => !parts.any fun other => !decide (other = part) && other.all fun o => decide (o ∈ part)).map tI),
    ⟨⟨_, _, rfl⟩, Up.refl _ _, w2⟩, fun i σ' H' ⟨_, u, w⟩ => ⟨u, w.fr⟩, ?_, ?_⟩
  · rintro i hi x σ' H' H3 ⟨⟨z2, z3, rfl⟩, u3, w3⟩ s3 rx
    have w4 := w3.go s3
    have u4 := u3.same s3
    have tf := take_filter (usrtL parts) (fun part => !parts.any fun other => !decide (other = part) && other.all fun o => decide (o ∈ part)) hi
    refine dq_if (N := fun a => N a ∧ a ≠ p) (b := !parts.any fun other => !decide (other = (usrtL parts)[i]) && other.all fun o => decide (o ∈ (usrtL parts)[i])) ((dt_test (de_op (de_lc (xs := parts) (fun other => !decide (other = (usrtL parts)[i]) && other.all fun o => decide (o ∈ (usrtL parts)[i])) (fun _ => .int 1) (di_seq (de_var rfl (r.up w4.up))) (by omega)
        fun a ha x' N' H'' u' rx' => ⟨dt_and (dt_test (de_op (de_var rfl rx') (de_var rfl (rx.up u')) r2_neT)) fun _ => dt_truB (de_call (da_cons (de_var rfl rx') (da_cons (de_var rfl (rx.up u')) da_nil)) ⟨_, _, a, (usrtL parts)[i], rfl, rfl, rfl, (hp a ha).2, rfl⟩), fun _ => de_int⟩) (de_lst da_nil) r2_none)).is (filter_empty _ _)) w4.fr
      (fun hb H5 s5 => ?_) fun hb H5 s5 => ?_
    · refine dq_app (w4.go s5) hp1 rfl (de_var rfl (rx.same s5)) ?_ fun H6 w6 u6 => ⟨⟨_, _, rfl⟩, (u4.same s5).trans u6, ?_⟩
      · rw [List.length_map]
        exact Nat.lt_of_le_of_lt (List.length_filter_le _ _) (by rw [List.length_take]; omega)
      · rw [tf, if_pos hb, List.map_append]
        exact w6
    · refine ⟨⟨_, _, rfl⟩, u4.same s5, ?_⟩
      rw [tf, if_neg (by rw [hb]; simp), List.append_nil]
      exact w4.go s5
  · rintro σ' H' ⟨⟨z2, z3, rfl⟩, u3, w3⟩
    rw [List.take_length] at w3
    exact dq_ret (de_cb (da_cons (de_var rfl (w3.rp hp1 fr)) da_nil) rk_tup) w3.frN fun v H4 s4 r4 => k v H4 (w3.same.trans s4) r4
end
end Pu

namespace Ch
theorem filter_own {o : Int} : ∀ {l : List Int}, l.Nodup → o ∈ l → l.filter (fun h => decide (h = o)) = [o]
  | [], _, h => nomatch h
  | a :: l, n, h => by
    rw [List.nodup_cons] at n
    by_cases e : a = o
    · subst e
      rw [List.filter_cons, if_pos (by simp)]
      congr 1
      rw [List.filter_eq_nil_iff]
      intro x hx
      simp
      rintro rfl
      exact n.1 hx
    · rw [List.filter_cons, if_neg (by simpa using e)]
      exact filter_own n.2 ((List.mem_cons.mp h).resolve_left fun e' => e e'.symm)
theorem chc_filter {heads : List Int} (n : heads.Nodup) (o : Int) : heads.filter (fun h => !decide (o ∈ heads) || decide (h = o)) = chc heads [] o := by
  unfold chc
  by_cases h : o ∈ heads
  · rw [if_pos h]
    simp only [h, decide_true, Bool.not_true, Bool.false_or]
    exact filter_own n h
  · rw [if_neg h, List.append_nil]
    simp [h]
theorem sets_all : ∀ (n : Nat) (p : List Int), p.Pairwise (· < ·) → (∀ o ∈ p, 0 ≤ o ∧ o < n) → p ∈ sets n
  | 0, p, h, b => by
    cases p with
    | nil => exact List.mem_singleton.mpr rfl
    | cons a r => have := b a (List.mem_cons_self ..); omega
  | n + 1, p, h, b => by
    rw [sets, List.mem_append]
    rcases List.eq_nil_or_concat p with rfl | ⟨q, a, rfl⟩
    · exact .inl (sets_all n [] h fun o ho => nomatch ho)
    · rw [List.concat_eq_append] at h b ⊢
      have h' := List.pairwise_append.mp h
      have ba := b a (by simp)
      by_cases e : a = n
      · subst e
        exact .inr (List.mem_map.mpr ⟨q, sets_all n q h'.1 fun o ho => ⟨(b o (by simp [ho])).1, h'.2.2 o ho n (by simp)⟩, rfl⟩)
      · refine .inl (sets_all n _ h fun o ho => ⟨(b o ho).1, ?_⟩)
        rcases List.mem_append.mp ho with ho | ho
        · have := h'.2.2 o ho a (by simp); omega
        · rw [List.mem_singleton.mp ho]; omega
theorem sets_hd : ∀ n, ∃ r, sets n = [] :: r ∧ ∀ p ∈ r, p ≠ []
  | 0 => ⟨[], rfl, fun p h => nomatch h⟩
  | n + 1 => by
    obtain ⟨r, e, h⟩ := sets_hd n
    refine ⟨r ++ (sets n).map (fun part => part ++ [(n : Int)]), by rw [sets, e]; rfl, fun p hp => ?_⟩
    rcases List.mem_append.mp hp with hp | hp
    · exact h p hp
    · obtain ⟨q, _, rfl⟩ := List.mem_map.mp hp
      simp
theorem mem_drop {n : Nat} {p : List Int} : p ∈ (sets n).drop 1 ↔ p ∈ sets n ∧ p ≠ [] := by
  obtain ⟨r, e, h⟩ := sets_hd n
  rw [e]
  simp only [List.drop_succ_cons, List.drop_zero, List.mem_cons]
  constructor
  · intro hp; exact ⟨.inr hp, h p hp⟩
  · rintro ⟨rfl | hp, ne⟩
    · exact absurd rfl ne
    · exact hp
open Pu in
/-- the rows whose heads are just these -/
def rowsH (many : Nat) (heads : List Int) : List (List Int) := ((rng many).foldl (stepR heads []) [[]]).filter fun row => decide (usrtI row = heads)
def rowsL (many : Nat) (props : List Int) : List (List Int) := ((sets many).drop 1).flatMap fun heads => if heads.all (fun o => decide (o ∈ props)) = true then rowsH many heads else []
open Pu in
theorem usrtI_eq {a b : List Int} (h : a.Pairwise (· < ·)) (g : b.Pairwise (· < ·)) (m : ∀ k, k ∈ a ↔ k ∈ b) : a = b := by
  rw [usrtI_uniq h (ns := b) m]
  exact (usrtI_uniq g (ns := b) fun k => Iff.rfl).symm
section
variable {many : Nat} {props : List Int} {lots : List (List Int)}
open Pu in
theorem mem_rowsL (C : Charter many props lots) {row : List Int} : row ∈ rowsL many props ↔ Split many props row := by
  unfold rowsL
  rw [List.mem_flatMap]
  constructor
  · rintro ⟨heads, hh, hr⟩
    split at hr
    · rename_i ha
      rw [List.all_eq_true] at ha
      obtain ⟨h1, h2⟩ := List.mem_filter.mp hr
      have h2 := of_decide_eq_true h2
      obtain ⟨h3, h4⟩ := (mem_foldR many row).mp h1
      have key : ∀ h ∈ row, h ∈ heads := fun h hh => by rw [← h2]; exact mem_usrtI.mpr hh
      refine ⟨h3, fun h hh => by simpa using ha h (key h hh), fun h hh => ?_⟩
      have hp : h ∈ props := by simpa using ha h (key h hh)
      have b := C.pin h hp
      obtain ⟨c, e, q⟩ := h4 h.toNat (by omega)
      have e1 : ((h.toNat : Nat) : Int) = h := by omega
      rw [e1] at q
      unfold chc at q
      rw [if_pos (key h hh), List.mem_singleton] at q
      have := at_get e
      rw [e1] at this
      rw [this, q]
    · cases hr
  · intro S
    have hin : ∀ o ∈ row, 0 ≤ o ∧ o < many := fun o ho => C.pin o (S.ins o ho)
    have m1 := C.m1
    have sl := S.len
    refine ⟨usrtI row, mem_drop.mpr ⟨sets_all many _ (usrtI_pw row) fun o ho => hin o (mem_usrtI.mp ho), fun e => ?_⟩, ?_⟩
    · have : row[0] ∈ usrtI row := mem_usrtI.mpr (List.getElem_mem (by omega))
      rw [e] at this; cases this
    · rw [if_pos (by rw [List.all_eq_true]; exact fun o ho => by simpa using S.ins o (mem_usrtI.mp ho))]
      refine List.mem_filter.mpr ⟨(mem_foldR many row).mpr ⟨S.len, fun i hi => ⟨row[i]'(by omega), List.getElem?_eq_getElem (by omega), ?_⟩⟩, by simp⟩
      unfold chc
      split
      · rename_i h
        have := S.own i (mem_usrtI.mp h)
        rw [at_get (List.getElem?_eq_getElem (by omega))] at this
        rw [this]; simp
      · rw [List.append_nil]
        exact mem_usrtI.mpr (List.getElem_mem _)
open Pu in
theorem heads_eq (C : Charter many props lots) {row : List Int} (S : Split many props row) : ((usrtI row).filter fun h => has lots fun o => decide (o ∈ blkI row h)) = heads props lots row := by
  have sl := S.len
  have e : ∀ h, (has lots fun o => decide (o ∈ blkI row h)) = has lots fun o => at_ row o == h := fun h => has_congr C fun o a b => by
    rw [Bool.eq_iff_iff]
    simp only [decide_eq_true_eq, beq_iff_eq, blkI, List.mem_filter, mem_rng]
    constructor
    · exact fun h => h.2
    · exact fun h => ⟨⟨a, by omega⟩, h⟩
  refine usrtI_eq ((usrtI_pw row).filter _) (C.pasc.filter _) fun k => ?_
  rw [List.mem_filter, heads, List.mem_filter, e, mem_usrtI]
  constructor
  · exact fun h => ⟨S.ins k h.1, h.2⟩
  · rintro ⟨_, h⟩
    refine ⟨?_, h⟩
    by_cases hk : k ∈ row
    · exact hk
    · rw [has_none C] at h
      · cases h
      · intro o a b
        cases e : at_ row o == k with
        | false => rfl
        | true =>
          exact absurd (by rw [← eq_of_beq e]; exact at_mem a (by omega)) hk
/-- just one of two proposals is signed, as the law reckons it -/
def parted (many : Nat) (p q : Int) (lots : List (List Int)) : Bool :=
  !((sets many).any fun part => (part.all fun o => decide (o ∈ (rng many).filter fun o => !decide (o = p ∨ o = q))) &&
    ((has lots fun o => decide (o ∈ part ++ [p])) == (has lots fun o => decide (o ∈ ((rng many).filter fun o => !decide (o = p ∨ o = q)).filter (fun o => !decide (o ∈ part)) ++ [q]))))
theorem two_iff {p q : Int} (C : Charter many [p, q] lots) : parted many p q lots = true ↔ Sure many [p, q] lots := by
  have hp := C.pin p (by simp)
  have hq := C.pin q (by simp)
  have hpq : p ≠ q := by have := C.pasc; simp at this; omega
  have key : ∀ part : List Int, (∀ o ∈ part, 0 ≤ o ∧ o < many ∧ o ≠ p ∧ o ≠ q) →
      (has lots fun o => decide (o ∈ ((rng many).filter fun o => !decide (o = p ∨ o = q)).filter (fun o => !decide (o ∈ part)) ++ [q])) = has lots fun o => !decide (o ∈ part ++ [p]) := fun part hpart => has_congr C fun o a b => by
    rw [Bool.eq_iff_iff]
    simp only [decide_eq_true_eq, List.mem_append, List.mem_filter, mem_rng, List.mem_singleton, Bool.not_eq_true', decide_eq_false_iff_not, not_or]
    constructor
    · rintro (⟨⟨_, h1⟩, h2⟩ | rfl)
      · exact ⟨h2, h1.1⟩
      · exact ⟨fun h => (hpart o h).2.2.2 rfl, fun e => hpq e.symm⟩
    · rintro ⟨h1, h2⟩
      by_cases e : o = q
      · exact .inr e
      · exact .inl ⟨⟨⟨a, b⟩, h2, e⟩, h1⟩
  have inr' : ∀ part : List Int, (part.all fun o => decide (o ∈ (rng many).filter fun o => !decide (o = p ∨ o = q))) = true ↔ ∀ o ∈ part, 0 ≤ o ∧ o < many ∧ o ≠ p ∧ o ≠ q := fun part => by
    simp only [List.all_eq_true, decide_eq_true_eq, List.mem_filter, mem_rng, Bool.not_eq_true', decide_eq_false_iff_not, not_or]
    constructor
    · exact fun h o ho => ⟨(h o ho).1.1, (h o ho).1.2, (h o ho).2.1, (h o ho).2.2⟩
    · exact fun h o ho => ⟨⟨(h o ho).1, (h o ho).2.1⟩, (h o ho).2.2.1, (h o ho).2.2.2⟩
  have pa : parted many p q lots = true ↔ ∀ part ∈ sets many, (∀ o ∈ part, 0 ≤ o ∧ o < many ∧ o ≠ p ∧ o ≠ q) → (has lots fun o => decide (o ∈ part ++ [p])) ≠ has lots fun o => !decide (o ∈ part ++ [p]) := by
    unfold parted
    rw [Bool.not_eq_true', List.any_eq_false]
    constructor
    · intro h part hs hb e
      refine h part hs ?_
      rw [Bool.and_eq_true, beq_iff_eq]
      exact ⟨(inr' part).mpr hb, by rw [key part hb]; exact e⟩
    · intro h part hs hb
      rw [Bool.and_eq_true, beq_iff_eq] at hb
      have b := (inr' part).mp hb.1
      exact h part hs b (by rw [hb.2]; exact key part b)
  rw [pa]
  constructor
  · intro h row S
    have sl := S.len
    have at2 : ∀ o : Int, 0 ≤ o → o < many → at_ row o = p ∨ at_ row o = q := fun o a b => by simpa using S.ins _ (at_mem a (by omega : o < row.length))
    have hd : heads [p, q] lots row = (if (has lots fun o => at_ row o == p) = true then [p] else []) ++ (if (has lots fun o => at_ row o == q) = true then [q] else []) := by
      unfold heads
      rw [List.filter_cons, List.filter_cons, List.filter_nil]
      split <;> split <;> rfl
    have nq : (has lots fun o => at_ row o == q) = has lots fun o => !(at_ row o == p) := has_congr C fun o a b => by
      rcases at2 o a b with e | e <;> rw [e] <;> simp [hpq, Ne.symm hpq]
    have ne : (has lots fun o => at_ row o == p) ≠ has lots fun o => !(at_ row o == p) := by
      by_cases pin : p ∈ row
      · by_cases qin : q ∈ row
        · have := h (((rng many).filter fun o => !decide (o = p)).filter fun o => at_ row o == p) (sets_all many _ ((by
            have : (rng many).Pairwise (· < ·) := by
              unfold rng
              rw [List.pairwise_map]
              exact List.pairwise_lt_range.imp fun h => Int.ofNat_lt.mpr h
            exact (this.filter _).filter _)) fun o ho => by
              have := (List.mem_filter.mp (List.mem_filter.mp ho).1).1
              exact mem_rng.mp this) fun o ho => by
            obtain ⟨h1, h2⟩ := List.mem_filter.mp ho
            obtain ⟨h3, h4⟩ := List.mem_filter.mp h1
            have b := mem_rng.mp h3
            refine ⟨b.1, b.2, by simpa using h4, ?_⟩
            rintro rfl
            rw [S.own o qin] at h2
            exact hpq (eq_of_beq h2).symm
          have e1 : (has lots fun o => decide (o ∈ (((rng many).filter fun o => !decide (o = p)).filter fun o => at_ row o == p) ++ [p])) = has lots fun o => at_ row o == p := has_congr C fun o a b => by
            rw [Bool.eq_iff_iff]
            simp only [decide_eq_true_eq, List.mem_append, List.mem_filter, mem_rng, List.mem_singleton, Bool.not_eq_true', decide_eq_false_iff_not, beq_iff_eq]
            constructor
            · rintro (h | rfl)
              · exact h.2
              · exact S.own o pin
            · intro h
              by_cases e : o = p
              · exact .inr e
              · exact .inl ⟨⟨⟨a, b⟩, e⟩, h⟩
          have e2 : (has lots fun o => !decide (o ∈ (((rng many).filter fun o => !decide (o = p)).filter fun o => at_ row o == p) ++ [p])) = has lots fun o => !(at_ row o == p) := has_congr C fun o a b => by
            congr 1
            rw [Bool.eq_iff_iff]
            simp only [decide_eq_true_eq, List.mem_append, List.mem_filter, mem_rng, List.mem_singleton, Bool.not_eq_true', decide_eq_false_iff_not, beq_iff_eq]
            constructor
            · rintro (h | rfl)
              · exact h.2
              · exact S.own o pin
            · intro h
              by_cases e : o = p
              · exact .inr e
              · exact .inl ⟨⟨⟨a, b⟩, e⟩, h⟩
          rw [e1, e2] at this
          exact this
        · have all : ∀ o : Int, 0 ≤ o → o < many → at_ row o = p := fun o a b => (at2 o a b).resolve_right fun e => qin (by rw [← e]; exact at_mem a (by omega))
          rw [has_all C fun o a b => by rw [all o a b]; simp, has_none C fun o a b => by rw [all o a b]; simp]
          simp
      · have all : ∀ o : Int, 0 ≤ o → o < many → at_ row o = q := fun o a b => (at2 o a b).resolve_left fun e => pin (by rw [← e]; exact at_mem a (by omega))
        have qp : (q == p) = false := by simpa using fun e => hpq e.symm
        rw [has_none C (S := fun o => at_ row o == p) fun o a b => by rw [all o a b, qp], has_all C fun o a b => by rw [all o a b, qp]; rfl]
        simp
    rw [hd, nq]
    cases e1 : (has lots fun o => at_ row o == p) <;> cases e2 : (has lots fun o => !(at_ row o == p)) <;> rw [e1, e2] at ne <;> simp at ne ⊢
  · intro U part hs hb e
    have := two C U (S := fun o => decide (o ∈ part ++ [p])) (p := p) (q := q) (by simp) (by simp) (by simp) (by
      simp only [decide_eq_false_iff_not, List.mem_append, List.mem_singleton, not_or]
      exact ⟨fun h => (hb q h).2.2.2 rfl, fun e => hpq e.symm⟩)
    rw [this] at e
    cases h : (has lots fun o => decide (o ∈ part ++ [p])) <;> rw [h] at e <;> cases e
end
end Ch

namespace Pu
open PySem PySem.Spec PyProof.Rows L2
theorem cutD_from (ds : List PyData) (i : Nat) : cutD ds (some (i : Int)) none = ds.drop i := by
  unfold cutD
  have e : HT.sIx ds.length 0 (some (i : Int)) = min i ds.length := by
    show (if (i : Int) < 0 then ((i : Int) + (ds.length : Int)).toNat else min (i : Int).toNat ds.length) = _
    rw [if_neg (by omega), Int.toNat_natCast]
  have e2 : HT.sIx ds.length ds.length none = ds.length := rfl
  rw [e, e2, List.take_of_length_le (by rw [List.length_drop]; omega)]
  rcases Nat.le_total i ds.length with h | h
  · rw [Nat.min_eq_left h]
  · rw [Nat.min_eq_right h, List.drop_length, List.drop_of_length_le h]
theorem cutD_to (ds : List PyData) (i : Nat) : cutD ds none (some (i : Int)) = ds.take i := by
  unfold cutD
  have e : HT.sIx ds.length ds.length (some (i : Int)) = min i ds.length := by
    show (if (i : Int) < 0 then ((i : Int) + (ds.length : Int)).toNat else min (i : Int).toNat ds.length) = _
    rw [if_neg (by omega), Int.toNat_natCast]
  have e2 : HT.sIx ds.length 0 none = 0 := rfl
  rw [e, e2, List.drop_zero, Nat.sub_zero]
  rcases Nat.le_total i ds.length with h | h
  · rw [Nat.min_eq_left h]
  · rw [Nat.min_eq_right h, List.take_length, List.take_of_length_le h]
theorem cutD_last (ds : List PyData) : cutD ds (some (-1)) none = ds.drop (ds.length - 1) := by
  unfold cutD
  have e : HT.sIx ds.length 0 (some (-1)) = ds.length - 1 := by
    show ((-1 : Int) + (ds.length : Int)).toNat = _
    omega
  have e2 : HT.sIx ds.length ds.length none = ds.length := rfl
  rw [e, e2, List.take_of_length_le (by rw [List.length_drop]; omega)]
abbrev fillR (heads : List Int) (os : List Int) : List (List Int) := os.foldl (Ch.stepR heads []) [[]]
theorem fill_len {heads os : List Int} (h : heads.length ≤ 6) (ho : os.length ≤ 6) : (fillR heads os).length ≤ 46656 := by
  refine Nat.le_trans (Ch.foldR_len (by simpa using h) _ _) ?_
  have : 6 ^ os.length ≤ 6 ^ 6 := Nat.pow_le_pow_right (by decide) ho
  simpa using this
abbrev rowsF (many : Nat) (props heads : List Int) : List (List Int) := if heads.all (fun o => decide (o ∈ props)) = true then Ch.rowsH many heads else []
theorem rowsF_len {many : Nat} {props heads : List Int} (m6 : many ≤ 6) (h : heads.length ≤ 6) : (rowsF many props heads).length ≤ 46656 := by
  unfold rowsF
  split
  · exact Nat.le_trans (List.length_filter_le _ _) (fill_len h (by rw [Ch.rng_len]; exact m6))
  · simp
theorem rowsF_lens {many : Nat} {props : List Int} (m6 : many ≤ 6) : ∀ hs : List (List Int), (∀ h ∈ hs, h.length ≤ 6) → (hs.flatMap (rowsF many props)).length ≤ hs.length * 46656
  | [], _ => by simp
  | h :: hs, b => by
    rw [List.flatMap_cons, List.length_append, List.length_cons]
    have := rowsF_lens (props := props) m6 hs fun x hx => b x (List.mem_cons_of_mem _ hx)
    have := rowsF_len (props := props) m6 (b h (List.mem_cons_self ..))
    omega
def splL (many : Nat) (props : List Int) : List (List Int) := srtL (Ch.rowsL many props)
theorem mem_splL {many : Nat} {props : List Int} {lots : List (List Int)} (C : Ch.Charter many props lots) {row : List Int} : row ∈ splL many props ↔ Ch.Split many props row := by
  rw [splL, (srtL_perm _).mem_iff, Ch.mem_rowsL C]
theorem drop_len {many : Nat} (m6 : many ≤ 6) : ((Ch.sets many).drop 1).length ≤ 63 := by
  have := Ch.sets_le m6
  rw [List.length_drop]; omega
theorem splL_len {many : Nat} {props : List Int} (m6 : many ≤ 6) : (splL many props).length ≤ 5000000 := by
  rw [splL, (srtL_perm _).length_eq]
  have h1 := drop_len m6
  have : (Ch.rowsL many props).length ≤ ((Ch.sets many).drop 1).length * 46656 := rowsF_lens m6 _ fun h hh => Ch.sets_in m6 (List.mem_of_mem_drop hh)
  omega
def R_splL : List PyData → PyData → Prop := fun ds d => ∃ many props lots, ds = [chD many props lots] ∧ Ch.Charter many props lots ∧ d = lT (splL many props)
def R_headsL : List PyData → PyData → Prop := fun ds d => ∃ many props lots, ∃ row : List Int, ds = [chD many props lots, tI row] ∧ Ch2 many props lots ∧ Ch.Split many props row ∧ d = tI (Ch.heads props lots row)
def R_parted : List PyData → PyData → Prop := fun ds d => ∃ (many : Nat) (p q : Int) (lots : List (List Int)), ds = [chD many [p, q] lots] ∧ Ch.Charter many [p, q] lots ∧ d = .bool (Ch.parted many p q lots)
theorem rng_at {n i : Nat} (hi : i < (Ch.rng n).length) : (Ch.rng n)[i] = (i : Int) := by
  have hi' : i < n := by rw [Ch.rng_len] at hi; exact hi
  have := Ch.rng_get hi'
  rw [List.getElem?_eq_getElem hi] at this
  exact Option.some.inj this
section
variable {P : Program} {w : World} {K : PySem.W.Frag} {mg : Str → Option Value} {base : Heap}
end
end Pu

namespace Pu
open PySem PySem.Spec PyProof.Rows L2
/-! ### what evaluates to which data, the state of the draws changing -/
abbrev Sub (d g : Addr) (N : NP) : Prop := ∀ a, N a → a ≠ d ∧ a ≠ g
section
variable {K : PySem.W.Frag} {d g c : Addr} {N N' : NP} {σ : L2.St} {H H' : Hp} {ta tb te tl : TE} {t u : TT} {x y z : PyData} {v : V} {ds : List PyData} {T : Int} {n m : Nat}
theorem Up.kp (s : Sub d g N) (k : Kp d g H H') : Up N H N H' := fun a o n e => ⟨n, k a o e (s a n).1 (s a n).2⟩
theorem Fr.kp (f : Fr N H) (k : Kp d g H H') (S : StA H' d g c T) : Fr N H' := fun a ha => f a (by
  cases e : H a with
  | none => rfl
  | some o =>
    exfalso
    obtain ⟨l, t, hd, _⟩ := S.dk
    obtain ⟨gs, hg, _⟩ := S.gr
    by_cases xd : a = d
    · subst xd; rw [hd] at ha; cases ha
    · by_cases xg : a = g
      · subst xg; rw [hg] at ha; cases ha
      · rw [k a o e xd xg] at ha; cases ha)
theorem StA.put {p : Addr} {o : HO} (S : StA H d g c T) (h1 : d ≠ p) (h2 : g ≠ p) (h3 : c ≠ p) : StA (upd H p o) d g c T := by
  obtain ⟨l, t, hd, q1, q2, q3⟩ := S.dk
  obtain ⟨gs, hg, q4⟩ := S.gr
  obtain ⟨cs, hc, q5⟩ := S.ce
  exact ⟨⟨l, t, by rw [upd_ne h1]; exact hd, q1, q2, q3⟩, ⟨gs, by rw [upd_ne h2]; exact hg, q4⟩, ⟨cs, by rw [upd_ne h3]; exact hc, q5⟩, S.gc⟩
theorem StA.fresh {p : Addr} (S : StA H d g c T) (h : H p = none) : d ≠ p ∧ g ≠ p ∧ c ≠ p := by
  obtain ⟨l, t, hd, _⟩ := S.dk
  obtain ⟨gs, hg, _⟩ := S.gr
  obtain ⟨cs, hc, _⟩ := S.ce
  exact ⟨ne_of_none hd h, ne_of_none hg h, ne_of_none hc h⟩
def SE (d g c : Addr) (n : Nat) (N : NP) (te : TE) (σ : L2.St) (H : Hp) (R : PyData → Prop) : Prop :=
  ∀ N1 H1 T, Up N H N1 H1 → Fr N1 H1 → Sub d g N1 → StA H1 d g c T → T + n ≤ TB → ∀ Q : VK, (∀ v z H2, R z → Kp d g H1 H2 → StA H2 d g c (T + n) → Rp N1 H2 v z → Q v H2) → te σ H1 Q
def SA (d g c : Addr) (n : Nat) (N : NP) (ta : TA) (σ : L2.St) (H : Hp) (R : List PyData → Prop) : Prop :=
  ∀ N1 H1 T, Up N H N1 H1 → Fr N1 H1 → Sub d g N1 → StA H1 d g c T → T + n ≤ TB → ∀ Q : List V → Hp → Prop, (∀ vs zs H2, R zs → Kp d g H1 H2 → StA H2 d g c (T + n) → Rps N1 H2 vs zs → Q vs H2) → ta σ H1 Q
def ST (d g c : Addr) (n : Nat) (N : NP) (tt : TT) (σ : L2.St) (H : Hp) : Prop :=
  ∀ N1 H1 T, Up N H N1 H1 → Fr N1 H1 → Sub d g N1 → StA H1 d g c T → T + n ≤ TB → ∀ Q : Bool → Hp → Prop, (∀ b H2, Kp d g H1 H2 → StA H2 d g c (T + n) → Q b H2) → tt σ H1 Q
def SI (d g c : Addr) (n : Nat) (N : NP) (wi : TI) (σ : L2.St) (H : Hp) (R : List PyData → Prop) : Prop :=
  ∀ N1 H1 T, Up N H N1 H1 → Fr N1 H1 → Sub d g N1 → StA H1 d g c T → T + n ≤ TB → ∀ Q : It → Hp → Prop, (∀ J ds H2, R ds → Kp d g H1 H2 → StA H2 d g c (T + n) → WalkD N1 H2 J ds → Q J H2) → wi σ H1 Q
theorem SE.up {R : PyData → Prop} (s : Up N H N' H') (h : SE d g c n N te σ H R) : SE d g c n N' te σ H' R := fun N1 H1 T a => h N1 H1 T (s.trans a)
theorem SA.up {ta : TA} {R : List PyData → Prop} (s : Up N H N' H') (h : SA d g c n N ta σ H R) : SA d g c n N' ta σ H' R := fun N1 H1 T a => h N1 H1 T (s.trans a)
theorem SE.imp {R R' : PyData → Prop} (h : SE d g c n N te σ H R) (i : ∀ z, R z → R' z) : SE d g c n N te σ H R' := fun N1 H1 T a f s S b Q q => h N1 H1 T a f s S b Q fun v z H2 r => q v z H2 (i z r)
theorem SE.cost {R : PyData → Prop} (h : SE d g c n N te σ H R) (l : n ≤ m) : SE d g c m N te σ H R := fun N1 H1 T a f s S b Q q => h N1 H1 T a f s S (by omega) Q fun v z H2 r k S2 => q v z H2 r k (S2.mono (by omega))
theorem SE.of {R : PyData → Prop} (h : DE N te σ H x) (r : R x) : SE d g c n N te σ H R := fun N1 H1 T a f s S b Q q =>
  h N1 H1 a f Q fun v H2 s2 r2 => q v x H2 r (Kp.of s2) ((S.same s2).mono (by omega)) r2
theorem SA.of {ta : TA} {R : List PyData → Prop} (h : DA N ta σ H ds) (r : R ds) : SA d g c n N ta σ H R := fun N1 H1 T a f s S b Q q =>
  h N1 H1 a f Q fun v H2 s2 r2 => q v ds H2 r (Kp.of s2) ((S.same s2).mono (by omega)) r2
theorem SI.of {wi : TI} {R : List PyData → Prop} (h : DI N wi σ H ds) (r : R ds) : SI d g c n N wi σ H R := fun N1 H1 T a f s S b Q q =>
  h N1 H1 a f Q fun J H2 s2 r2 => q J ds H2 r (Kp.of s2) ((S.same s2).mono (by omega)) r2
theorem se_draw {E : XK} {i : Nat} {m : Int} (hσ : σ[i]? = some (some (.ref d))) (h : DE N te σ H (.int m)) (m0 : 0 < m) (m1 : m ≤ 1000000000000000000 := by omega) :
    SE d g c 1 N (tCall spDraw [] E (tCons (tVar i) (tCons te tNil))) σ H (fun z => ∃ r : Int, z = .int r ∧ 0 ≤ r ∧ r < m) := fun N1 H1 T a f s S b Q q =>
  ⟨_, hσ, h N1 H1 a f _ fun v H2 s2 r2 => by
    cases r2
    exact ⟨d, g, c, T, m, rfl, S.same s2, by omega, m0, m1, fun r H3 r0 r1 k S3 => q _ _ H3 ⟨r, rfl, r0, r1⟩ ((Kp.of s2).trans k) S3 (.int r)⟩⟩
theorem se_pick {E : XK} {i : Nat} (hσ : σ[i]? = some (some (.ref d))) (h : DE N te σ H x) (e : itemsD x = some ds) (ne : ds ≠ []) (l : ds.length ≤ 100000) :
    SE d g c 1 N (tCall (spPick K) [] E (tCons (tVar i) (tCons te tNil))) σ H (fun z => z ∈ ds) := fun N1 H1 T a f s S b Q q =>
  ⟨_, hσ, h N1 H1 a f _ fun v H2 s2 r2 => by
    obtain ⟨p, xs, rfl, np, hh, r⟩ := r2.items e
    have e1 := r.len
    have hx : SqL K H2 p xs ∨ SqT K H2 p xs := hh.imp SqL.of SqT.of
    refine ⟨d, g, c, p, T, xs, rfl, S.same s2, by omega, hx, (s p np).1, (s p np).2, fun z => ?_, by omega, fun x H3 hm k S3 => ?_⟩
    · subst z
      exact ne (List.eq_nil_of_length_eq_zero (by rw [← e1]; rfl))
    · obtain ⟨z, hz, rz⟩ := r.mem hm
      exact q _ z H3 hz ((Kp.of s2).trans k) S3 (rz.up (Up.kp s k))⟩
theorem se_op {r : R2} {R1 R2' R : PyData → Prop} (ha : SE d g c n N ta σ H R1) (hb : SE d g c m N tb σ H R2') (hr : ∀ x y, R1 x → R2' y → ∃ z, R z ∧ R2D r x y z) : SE d g c (n + m) N (tOp r ta tb) σ H R := fun N1 H1 T a f s S b Q q =>
  ha N1 H1 T a f s S (by omega) _ fun v x H2 hx k2 S2 r2 => hb N1 H2 (T + n) (a.trans (Up.kp s k2)) (f.kp k2 S2) s S2 (by omega) _ fun u y H3 hy k3 S3 r3 => by
    obtain ⟨z, hz, w⟩ := hr x y hx hy
    exact w N1 H3 v u Q ((f.kp k2 S2).kp k3 S3) (r2.up (Up.kp s k3)) r3 fun w H4 s4 r4 => q w z H4 hz ((k2.trans k3).trans (Kp.of s4)) ((S3.same s4).mono (by omega)) r4
theorem sa_nil : SA d g c 0 N tNil σ H (fun zs => zs = []) := fun N1 H1 T a f s S b Q q => q [] [] H1 rfl (Kp.refl d g H1) (S.mono (by omega)) .nil
theorem sa_cons {tr : TA} {R : PyData → Prop} {Rs : List PyData → Prop} (h : SE d g c n N te σ H R) (hr : SA d g c m N tr σ H Rs) : SA d g c (n + m) N (tCons te tr) σ H (fun zs => ∃ z rs, zs = z :: rs ∧ R z ∧ Rs rs) := fun N1 H1 T a f s S b Q q =>
  h N1 H1 T a f s S (by omega) _ fun v x H2 hx k2 S2 r2 => hr N1 H2 (T + n) (a.trans (Up.kp s k2)) (f.kp k2 S2) s S2 (by omega) _ fun vs xs H3 hxs k3 S3 r3 =>
    q (v :: vs) (x :: xs) H3 ⟨x, xs, rfl, hx, hxs⟩ (k2.trans k3) (S3.mono (by omega)) (.cons (r2.up (Up.kp s k3)) r3)
theorem se_cb {r : List V → Hp → VK → Prop} {ta : TA} {Rs : List PyData → Prop} {R : PyData → Prop} (h : SA d g c n N ta σ H Rs) (hr : ∀ ds, Rs ds → ∃ z, R z ∧ RCD r ds z) : SE d g c n N (tCB r ta) σ H R := fun N1 H1 T a f s S b Q q =>
  h N1 H1 T a f s S b _ fun vs zs H2 hz k2 S2 r2 => by
    obtain ⟨z, hz, w⟩ := hr zs hz
    exact w N1 H2 vs Q (f.kp k2 S2) r2 fun v H3 s3 r3 => q v z H3 hz (k2.trans (Kp.of s3)) (S2.same s3) r3
theorem se_tup {ta : TA} {Rs : List PyData → Prop} (h : SA d g c n N ta σ H Rs) (hl : ∀ ds, Rs ds → ds.length ≤ 1000) : SE d g c n N (tTup ta) σ H (fun z => ∃ ds, z = .tuple ds ∧ Rs ds) := fun N1 H1 T a f s S b Q q =>
  h N1 H1 T a f s S b _ fun vs zs H2 hz k2 S2 r2 => ⟨Nat.le_of_lt (small1000 (by rw [r2.len]; exact hl zs hz)), fun p hp => q _ _ _ ⟨zs, rfl, hz⟩ (k2.trans (Kp.new hp)) (S2.new hp) (.tup ((f.kp k2 S2) p hp) upd_same (r2.same (same_upd hp)))⟩
theorem se_lst {ta : TA} {Rs : List PyData → Prop} (h : SA d g c n N ta σ H Rs) (hl : ∀ ds, Rs ds → ds.length ≤ 1000) : SE d g c n N (tLst ta) σ H (fun z => ∃ ds, z = .list ds ∧ Rs ds) := fun N1 H1 T a f s S b Q q =>
  h N1 H1 T a f s S b _ fun vs zs H2 hz k2 S2 r2 => ⟨Nat.le_of_lt (small1000 (by rw [r2.len]; exact hl zs hz)), fun p hp => q _ _ _ ⟨zs, rfl, hz⟩ (k2.trans (Kp.new hp)) (S2.new hp) (.lst ((f.kp k2 S2) p hp) upd_same (r2.same (same_upd hp)))⟩
/-- e[:i] of a list -/
theorem se_slL {tl th : TO} {lo hi : Option Int} {Rs : List PyData → Prop} (h : SE d g c n N te σ H (fun z => ∃ ds, z = .list ds ∧ Rs ds)) (h1 : DO N tl σ H lo) (h2 : DO N th σ H hi) :
    SE d g c n N (tSl (rSlL K) te tl th) σ H (fun z => ∃ ds, z = .list (cutD ds lo hi) ∧ Rs ds) := fun N1 H1 T a f s S b Q q =>
  h N1 H1 T a f s S b _ fun v x H2 hx k2 S2 r2 => by
    obtain ⟨ds, rfl, hds⟩ := hx
    have u2 := a.trans (Up.kp s k2)
    have f2 := f.kp k2 S2
    exact h1 N1 H2 u2 f2 _ fun H3 s3 => h2 N1 H3 (u2.same s3) (f2.same s3) _ fun H4 s4 => by
      have r4 := (r2.same s3).same s4
      have f4 := (f2.same s3).same s4
      have s24 := s3.trans s4
      cases r4 with
      | lst n h q4 => exact ⟨_, _, rfl, SqL.of h, fun p hp => q _ _ _ ⟨ds, rfl, hds⟩ (k2.trans (Kp.of (s24.trans (same_upd hp)))) ((S2.same s24).new hp) (.lst (f4 p hp) upd_same ((q4.cut lo hi).same (same_upd hp)))⟩
theorem st_of {b : Bool} (h : DT N t σ H b) : ST d g c n N t σ H := fun N1 H1 T a f s S l Q q => h N1 H1 a f Q fun H2 s2 => q b H2 (Kp.of s2) ((S.same s2).mono (by omega))
theorem st_test {R : PyData → Prop} (h : SE d g c n N te σ H R) (hb : ∀ z, R z → ∃ b, z = .bool b) : ST d g c n N (tTest te) σ H := fun N1 H1 T a f s S l Q q =>
  h N1 H1 T a f s S l _ fun v z H2 hz k2 S2 r2 => by
    obtain ⟨b, rfl⟩ := hb z hz
    cases r2
    exact ⟨b, rfl, q b H2 k2 S2⟩
theorem st_or {b : Bool} (h : DT N t σ H b) (h2 : ST d g c n N u σ H) : ST d g c n N (tOr t u) σ H := fun N1 H1 T a f s S l Q q =>
  h N1 H1 a f _ fun H2 s2 => by
    cases b with
    | true => exact q true H2 (Kp.of s2) ((S.same s2).mono (by omega))
    | false => exact h2 N1 H2 T (a.same s2) (f.same s2) s (S.same s2) l Q fun b H3 k3 S3 => q b H3 ((Kp.of s2).trans k3) S3
theorem se_if {R : PyData → Prop} (h : ST d g c n N t σ H) (h1 : SE d g c m N ta σ H R) (h2 : SE d g c m N tb σ H R) : SE d g c (n + m) N (tIf t ta tb) σ H R := fun N1 H1 T a f s S b Q q =>
  h N1 H1 T a f s S (by omega) _ fun bb H2 k2 S2 => by
    have u2 := a.trans (Up.kp s k2)
    have f2 := f.kp k2 S2
    cases bb with
    | true => exact h1 N1 H2 (T + n) u2 f2 s S2 (by omega) Q fun v z H3 hz k3 S3 => q v z H3 hz (k2.trans k3) (S3.mono (by omega))
    | false => exact h2 N1 H2 (T + n) u2 f2 s S2 (by omega) Q fun v z H3 hz k3 S3 => q v z H3 hz (k2.trans k3) (S3.mono (by omega))
theorem si_rng {R : Int → Prop} (h : SE d g c n N te σ H (fun z => ∃ i : Int, z = .int i ∧ R i)) (b0 : ∀ i, R i → 0 ≤ i ∧ i ≤ 1000) : SI d g c n N (iRng1 (tCons te tNil)) σ H (fun ds => ∃ i, ds = (Ch.rng i.toNat).map PyData.int ∧ R i) := fun N1 H1 T a f s S b Q q =>
  h N1 H1 T a f s S b _ fun v z H2 hz k2 S2 r2 => by
    obtain ⟨i, rfl, hi⟩ := hz
    cases r2
    have := b0 i hi
    have w := di_rng (N := N1) (H := H2) (σ := [some (.int i)]) (ta := tCons (tVar 0) tNil) (i := i) (da_cons (de_var rfl (.int i)) da_nil) (by omega) (by omega)
    have hN := f.kp k2 S2
    have := w N1 H2 (Up.refl _ _) hN Q fun J H3 s3 wj => q J _ H3 ⟨i, rfl, hi⟩ (k2.trans (Kp.of s3)) (S2.same s3) wj
    obtain ⟨v', e, j, e2, j0, j1, hq⟩ := this
    cases e
    cases e2
    exact ⟨i, rfl, j0, j1, hq⟩
/-- [e for x in xs], e drawing -/
theorem se_lc {wi : TI} {vs : List Nat} {i : Nat} {L : Nat} {RI : List PyData → Prop} {R : PyData → Prop} (hi : SI d g c n N wi σ H RI) (hL : ∀ ds, RI ds → ds.length ≤ L) (hl : L ≤ 1000)
    (hb : ∀ ds, RI ds → ∀ a ∈ ds, ∀ x N' H', Up N H N' H' → Rp N' H' x a → SE d g c m N' te ((wipe σ vs).set i (some x)) H' R)
    (hw : ∀ x, wipe ((wipe σ vs).set i (some x)) vs = wipe σ vs := by intro _; rfl) :
    SE d g c (n + L * m) N (tLc wi (gName i) tYes te vs) σ H (fun z => ∃ ds es, RI ds ∧ z = .list es ∧ es.length = ds.length ∧ ∀ e ∈ es, R e) := fun N1 H1 T u1 f1 s1 S1 b Q q =>
  hi N1 H1 T u1 f1 s1 S1 (by omega) _ fun J ds H2 hds k2 S2 w D hD => by
    have f2 := f1.kp k2 S2
    have hdl := hL ds hds
    obtain ⟨dD, gD, cD⟩ := S2.fresh hD
    have sD : Sub d g (fun a => N1 a ∧ a ≠ D) := fun a h => s1 a h.1
    refine ⟨fun j o H3 => o = ds.length - j ∧ j ≤ ds.length ∧ ∃ acc es, H3 D = some (.lst acc) ∧ Kp d g H2 H3 ∧ StA H3 d g c (T + n + (j * m : Nat)) ∧ Up N1 H2 (fun a => N1 a ∧ a ≠ D) H3 ∧ Fr (fun a => N1 a ∧ a ≠ D) H3 ∧ Rps (fun a => N1 a ∧ a ≠ D) H3 acc es ∧ es.length = j ∧ ∀ e ∈ es, R e,
      ⟨_, rfl, Nat.zero_le _, [], [], upd_same, Kp.new hD, (S2.new hD).mono (by omega), up_new hD, fun a ha => ?_, .nil, rfl, fun e h => nomatch h⟩, ?_⟩
    · have na : a ≠ D := fun z => by rw [z, upd_same] at ha; cases ha
      rw [upd_ne na] at ha
      exact ⟨f2 a ha, na⟩
    · rintro j o H3 ⟨rfl, hj, acc, es, hacc, k3, S3, u3, f3, r3, le, he⟩
      by_cases hlt : j < ds.length
      · refine .inr ⟨w.go _ _ u3 j hlt, fun H4 => ∃ acc es, H4 D = some (.lst acc) ∧ Kp d g H2 H4 ∧ StA H4 d g c (T + n + ((j + 1) * m : Nat)) ∧ Up N1 H2 (fun a => N1 a ∧ a ≠ D) H4 ∧ Fr (fun a => N1 a ∧ a ≠ D) H4 ∧ Rps (fun a => N1 a ∧ a ≠ D) H4 acc es ∧ es.length = j + 1 ∧ ∀ e ∈ es, R e,
          fun H4 h4 => ⟨_, by omega, rfl, hlt, h4⟩, fun x H4 y => ?_⟩
        obtain ⟨s4, dd, hdd, rd⟩ := w.yld _ _ u3 f3 j x H4 hlt y
        rw [List.getElem?_eq_getElem hlt] at hdd
        have ed := Option.some.inj hdd
        subst ed
        have u4 := u3.same s4
        have jm : j * m + m ≤ L * m := by
          have : (j + 1) * m ≤ L * m := Nat.mul_le_mul_right m (by omega)
          rw [Nat.succ_mul] at this; exact this
        refine ⟨hw x, ?_⟩
        dsimp only [tYes]
        refine iteT ?_
        refine (hb ds hds _ (List.getElem_mem hlt) x _ H4 (((u1.trans (Up.kp s1 k2))).trans u4) rd _ H4 (T + n + (j * m : Nat)) (Up.refl _ _) (f3.same s4) sD (S3.same s4) (by omega) _ fun yv z H5 hz k5 S5 ry => ?_)
        have hD5 : H5 D = some (.lst acc) := k5 _ _ (s4 _ _ hacc) dD.symm gD.symm
        have up5 := Up.kp sD k5
        have up6 : Up (fun a => N1 a ∧ a ≠ D) H5 (fun a => N1 a ∧ a ≠ D) (upd H5 D (.lst (acc ++ [yv]))) := fun a o n e => ⟨n, by rw [upd_ne n.2]; exact e⟩
        have ln := r3.len
        refine ⟨acc, hD5, ?_, acc ++ [yv], es ++ [z], upd_same, fun a o e x y => ?_, ?_, (u4.trans up5).trans up6, fun a ha => ?_, ?_, by simp [le], fun e h => ?_⟩
        · refine Nat.lt_of_le_of_lt (?_ : acc.length ≤ 1000) (by decide)
          omega
        · have na : a ≠ D := ne_of_none e hD
          rw [upd_ne na]
          exact k5 _ _ (s4 _ _ (k3 _ _ e x y)) x y
        · refine (S5.put dD gD cD).mono ?_
          rw [Nat.succ_mul]
          omega
        · have na : a ≠ D := fun z => by rw [z, upd_same] at ha; cases ha
          rw [upd_ne na] at ha
          exact ((f3.same s4).kp k5 S5) a ha
        · exact (((r3.same s4).up up5).app (.cons ry .nil)).up up6
        · rcases List.mem_append.mp h with h | h
          · exact he e h
          · rw [List.mem_singleton.mp h]; exact hz
      · have e : j = ds.length := by omega
        subst e
        have jm : ds.length * m ≤ L * m := Nat.mul_le_mul_right m hdl
        exact .inl ⟨w.stop _ _ u3, q _ _ _ ⟨ds, es, hds, rfl, le, he⟩ (k2.trans k3) (S3.mono (by omega)) (.lst (f2 D hD) hacc (r3.up up_sub))⟩
/-! ### statements -/
theorem SE.run {R : PyData → Prop} (h : SE d g c n N te σ H R) (f : Fr N H) (s : Sub d g N) (S : StA H d g c T) (b : T + n ≤ TB) {Q : VK} (q : ∀ v z H2, R z → Kp d g H H2 → StA H2 d g c (T + n) → Fr N H2 → Rp N H2 v z → Q v H2) : te σ H Q :=
  h N H T (Up.refl N H) f s S b Q fun v z H2 r k S2 rr => q v z H2 r k S2 (f.kp k S2) rr
theorem sq_set {D : Ends} {rest : TS} {i : Nat} {R : PyData → Prop} (h : SE d g c n N te σ H R) (f : Fr N H) (s : Sub d g N) (S : StA H d g c T) (b : T + n ≤ TB)
    (k : ∀ v z H2, R z → Kp d g H H2 → StA H2 d g c (T + n) → Fr N H2 → Rp N H2 v z → rest D (σ.set i (some v)) H2) : tSeq (tAsg te (gName i)) rest D σ H := h.run f s S b k
theorem sq_ret {D : Ends} {R : PyData → Prop} (h : SE d g c n N te σ H R) (f : Fr N H) (s : Sub d g N) (S : StA H d g c T) (b : T + n ≤ TB)
    (k : ∀ v z H2, R z → Kp d g H H2 → StA H2 d g c (T + n) → Fr N H2 → Rp N H2 v z → D.rt v H2) : tRet te D σ H := h.run f s S b k
theorem sq_par {D : Ends} {rest : TS} {i j : Nat} {ta : TA} {Rs : List PyData → Prop} (h : SA d g c n N ta σ H Rs) (f : Fr N H) (s : Sub d g N) (S : StA H d g c T) (b : T + n ≤ TB) (h2 : ∀ ds, Rs ds → ds.length = 2)
    (k : ∀ v u x y H2, Rs [x, y] → Kp d g H H2 → StA H2 d g c (T + n) → Fr N H2 → Rp N H2 v x → Rp N H2 u y → rest D ((σ.set i (some v)).set j (some u)) H2) :
    tSeq (fun D σ H => ta σ H fun vs H1 => ∃ v u, vs = [v, u] ∧ D.nx ((σ.set i (some v)).set j (some u)) H1) rest D σ H :=
  h N H T (Up.refl N H) f s S b _ fun vs zs H2 r k2 S2 rr => by
    have l2 := h2 zs r
    match zs, l2, rr with
    | [x, y], _, .cons rx (.cons ry .nil) => exact ⟨_, _, rfl, k _ _ x y H2 r k2 S2 (f.kp k2 S2) rx ry⟩
theorem sq_if {D : Ends} {rest : TS} {cc : TT} {t : TS} (h : ST d g c n N cc σ H) (f : Fr N H) (s : Sub d g N) (S : StA H d g c T) (b : T + n ≤ TB)
    (h1 : ∀ H2, Kp d g H H2 → StA H2 d g c (T + n) → Fr N H2 → t { D with nx := rest D } σ H2) (h2 : ∀ H2, Kp d g H H2 → StA H2 d g c (T + n) → Fr N H2 → rest D σ H2) : tSeq (tIfS cc t tNext) rest D σ H :=
  h N H T (Up.refl N H) f s S b _ fun b H2 k2 S2 => by
    cases b with
    | true => exact iteT (h1 H2 k2 S2 (f.kp k2 S2))
    | false => exact iteF (h2 H2 k2 S2 (f.kp k2 S2))
/-! ### defs that draw -/
def spSt (n : Nat) (Dm : List PyData → Prop) (R : List PyData → PyData → Prop) : Sp := fun vs H Q _ => ∃ (d g c : Addr) (T : Int) (N : NP) (us : List V) (ds : List PyData), vs = .ref d :: us ∧ Sub d g N ∧ Fr N H ∧ StA H d g c T ∧ T + n ≤ TB ∧ Rps N H us ds ∧ Dm ds ∧
  ∀ v z H', R ds z → Kp d g H H' → StA H' d g c (T + n) → Rp N H' v z → Q v H'
theorem len_spSt {Dm : List PyData → Prop} {R : List PyData → PyData → Prop} {k : Nat} (h : ∀ ds, Dm ds → ds.length + 1 = k) : ∀ vs H Q E, spSt n Dm R vs H Q E → vs.length = k := fun vs H Q E ⟨d, g, c, T, N, us, ds, e, _, _, _, _, r, hd, _⟩ => by rw [e, List.length_cons, r.len, h ds hd]
theorem se_call {Dm : List PyData → Prop} {R : List PyData → PyData → Prop} {E : XK} {ta : TA} {i : Nat} (hσ : σ[i]? = some (some (.ref d))) (h : DA N ta σ H ds) (hd : Dm ds) : SE d g c n N (tCall (spSt n Dm R) [] E (tCons (tVar i) ta)) σ H (R ds) := fun N1 H1 T a f s S b Q q =>
  ⟨_, hσ, h N1 H1 a f _ fun vs H2 s2 r2 => ⟨d, g, c, T, N1, vs, ds, by rw [List.append_nil], s, f.same s2, S.same s2, b, r2, hd, fun v z H3 hz k S3 r3 => q v z H3 hz ((Kp.of s2).trans k) S3 r3⟩⟩
end
end Pu

namespace Pu
open PySem PySem.Spec PyProof.Rows L2
theorem erase_perm {α : Type} : ∀ {l : List α} {k : Nat} {y : α}, l[k]? = some y → (y :: l.eraseIdx k).Perm l
  | [], k, y, h => by cases k <;> cases h
  | a :: l, 0, y, h => by cases h; exact List.Perm.refl _
  | a :: l, k + 1, y, h => by
    have := erase_perm (l := l) (k := k) (y := y) (by simpa using h)
    exact (List.Perm.swap a y (l.eraseIdx k)).trans (this.cons a)
theorem map_erase {α β : Type} (f : α → β) : ∀ (l : List α) (k : Nat), (l.map f).eraseIdx k = (l.eraseIdx k).map f
  | [], k => by cases k <;> rfl
  | a :: l, 0 => rfl
  | a :: l, k + 1 => by
    show f a :: (l.map f).eraseIdx k = f a :: (l.eraseIdx k).map f
    rw [map_erase f l k]
theorem seqIx {n : Nat} {r : Int} (h0 : 0 ≤ r) (h1 : r < n) : PySem.seqIndex? r n = some r.toNat := by
  refine (ixN_seq ?_).1
  unfold ixN
  rw [if_pos h0, if_pos h1]
/-- the law's own lists of ints, in another sequence -/
def D_mix : List PyData → Prop := fun ds => ∃ ns : List Int, ds = [lI ns] ∧ ns.length ≤ 6
def R_mix : List PyData → PyData → Prop := fun ds z => ∃ ns ms : List Int, ds = [lI ns] ∧ z = lI ms ∧ ms.Perm ns
section
variable {P : Program} {w : World} {K : PySem.W.Frag} {mg : Str → Option Value} {base : Heap}
abbrev s_L_mixed : Stmt := top 45
theorem sc_L_mixed : FnScope ["state", "several", "left", "found"] ["state", "several"] (defScope s_L_mixed) := ⟨rfl, rfl, rfl, by decide +kernel, rfl, by decide +kernel, by decide +kernel⟩
theorem ok_mixed {f : Addr} {fd : FuncData} (F : Fun K "_law_mixed" "_law_mixed" s_L_mixed f fd) (T : Bi mg) (D_L_draw : Def P w K mg base "_law_draw" 2 ["state", "size_here"] spDraw) : FnOk P w K mg base CX0 3 f fd ["state", "several"] (spSt 6 D_mix R_mix) := by
  obtain ⟨f_L_draw, fd_L_draw, G_L_draw, b_L_draw, k_L_draw, m_L_draw⟩ := D_L_draw.ex
  refine F.ok sc_L_mixed (len_spSt fun ds ⟨ns, e, _⟩ => by rw [e]; rfl) (fun cdv A outer s H vs Q E hr h => ?_)
  obtain ⟨d, g, c, T0, N, us, ds, rfl, sb, fr, S, tb, rs, ⟨ns, rfl, hn⟩, k⟩ := h
  obtain ⟨v, rfl, r⟩ := rps1 rs
  refine ⟨_, pss_cons (ps_par (i := 2) (j := 3) rfl sc_L_mixed.nd rfl rfl (by decide) rfl rfl (pa_cons (pe_callTy (call_listK K) (by rfl) T.list (by decide +kernel) (pa_cons (pv 1) pa_nil)) (pa_cons (pe_lst pa_nil) pa_nil)) (by rfl))
      (pss_cons (ps_while PassesOwn.never (pt_cmpR (op_neK K hr.units) (pv 2) (pe_lst pa_nil) (nomark _))
        (pss_one (ps_expr (pe_bm PySem.F.plainAttrs_list PySem.F.slot_list_append PySem.F.type_list_append mt_append (pv 3) (pa_cons (pe_bm PySem.F.plainAttrs_list PySem.F.slot_list_pop PySem.F.type_list_pop mt_popAt (pv 2)
          (pa_cons (pe_call G_L_draw (hr.mono (by decide)) rfl m_L_draw k_L_draw b_L_draw .nil pass0 (pa_cons (pv 0) (pa_cons (pe_callB (call_lenK K) (by rfl) T.len (by decide +kernel) (pa_cons (pv 2) pa_nil)) pa_nil))) pa_nil)) pa_nil)))))
      (pss_one (ps_ret (pv 3)))), ?_⟩
  cases r with
  | @lst a xs _ na ha ra =>
  have ex := ra.ints
  subst ex
  refine ⟨_, rfl, a, _, rfl, .inl (SqL.of ha), fun l hl => ⟨Nat.zero_le _, fun q hq => ⟨_, _, rfl, ?_⟩⟩⟩
  have hq0 : H q = none := by
    by_cases e : q = l
    · rw [e]; exact hl
    · rw [upd_ne e] at hq; exact hq
  have ql : q ≠ l := fun e => by rw [e, upd_same] at hq; cases hq
  obtain ⟨dl, gl, cl⟩ := S.fresh hl
  obtain ⟨dq, gq, cq⟩ := S.fresh hq0
  obtain ⟨H2, e2⟩ : ∃ H2, H2 = upd (upd H l (.lst (ns.map V.int))) q (.lst []) := ⟨_, rfl⟩
  have S2 : StA H2 d g c T0 := by rw [e2]; exact (S.new hl).new hq
  have k2 : Kp d g H H2 := by rw [e2]; exact (Kp.new hl).trans (Kp.new hq)
  have hl2 : H2 l = some (.lst (ns.map V.int)) := by rw [e2, upd_ne ql.symm, upd_same]
  have hq2 : H2 q = some (.lst (([] : List Int).map V.int)) := by rw [e2, upd_same]; rfl
  rw [← e2]
  clear e2 hq
  refine ⟨fun m σ' H' => ∃ ls fs : List Int, σ' = [some (.ref d), some (.ref a), some (.ref l), some (.ref q)] ∧ H' l = some (.lst (ls.map V.int)) ∧ H' q = some (.lst (fs.map V.int)) ∧ Kp d g H H' ∧ StA H' d g c (T0 + fs.length) ∧ (fs ++ ls).Perm ns ∧ m = ls.length,
    ⟨_, ns, [], rfl, hl2, hq2, k2, S2.mono (by simp), List.Perm.refl _, rfl⟩, ?_⟩
  rintro m σ' H' ⟨ls, fs, rfl, hl', hq', k', S', pm, rfl⟩
  have pl := pm.length_eq
  rw [List.length_append] at pl
  have rl : ∀ H3, Same H' H3 → Rp (fun _ => True) H3 (.ref l) (lI ls) := fun H3 s3 => .lst trivial (s3 _ _ hl') (rps_ints ls)
  refine DT.run (N := fun _ => True) (b := !decide (ls = [])) (dt_test (de_op (de_var rfl (rl H' (Same.refl _))) (de_lst da_nil) (r2_neL (ys := [])))) (fun _ _ => trivial) fun H3 s3 => ?_
  have S3 := S'.same s3
  have k3 := k'.trans (Kp.of s3)
  have hl3 := s3 _ _ hl'
  have hq3 := s3 _ _ hq'
  cases ls with
  | nil =>
    refine iteF ?_
    rw [List.append_nil] at pm
    refine ⟨_, rfl, k _ _ H3 ⟨ns, fs, rfl, rfl, pm⟩ k3 (S3.mono (by simp at pl; omega)) (.lst (fr q hq0) hq3 (rps_ints fs))⟩
  | cons y0 ls0 =>
    generalize hgen : y0 :: ls0 = ls at *
    have hpos : 0 < ls.length := by rw [← hgen]; simp
    have hne : (!decide (ls = [])) = true := by rw [← hgen]; simp
    rw [hne]
    refine iteT ⟨fun σ2 H4 => ∃ ls2 fs2 : List Int, σ2 = [some (.ref d), some (.ref a), some (.ref l), some (.ref q)] ∧ H4 l = some (.lst (ls2.map V.int)) ∧ H4 q = some (.lst (fs2.map V.int)) ∧ Kp d g H H4 ∧ StA H4 d g c (T0 + fs2.length) ∧ (fs2 ++ ls2).Perm ns ∧ ls2.length < ls.length,
      fun σ2 H4 ⟨ls2, fs2, q1, q2, q3, q4, q5, q6, q7⟩ => ⟨ls2.length, q7, ls2, fs2, q1, q2, q3, q4, q5, q6, rfl⟩, ?_⟩
    refine ⟨_, rfl, .inl ⟨rfl, _, SqL.of hq3⟩, ?_⟩
    refine ⟨_, rfl, .inl ⟨rfl, _, SqL.of hl3⟩, ?_⟩
    refine ⟨_, rfl, ?_⟩
    refine ⟨_, rfl, l, _, rfl, .inl (SqL.of hl3), d, g, c, T0 + fs.length, _, rfl, S3, by omega, ?_, ?_, fun r H4 r0 r1 k4 S4 => ?_⟩
    · rw [List.length_map]; omega
    · rw [List.length_map]; omega
    rw [List.length_map] at r1
    have hl4 := k4 _ _ hl3 dl.symm gl.symm
    have hq4 := k4 _ _ hq3 dq.symm gq.symm
    have hrt : r.toNat < ls.length := by omega
    refine ⟨l, _, r, r.toNat, .int (ls[r.toNat]), rfl, rfl, hl4, by omega, by omega, seqIx r0 (by rw [List.length_map]; exact r1), ?_, ?_⟩
    · rw [List.getElem?_map, List.getElem?_eq_getElem hrt]; rfl
    have ee : (ls.map V.int).eraseIdx r.toNat = (ls.eraseIdx r.toNat).map V.int := map_erase V.int ls r.toNat
    rw [ee]
    have hq5 : (upd H4 l (.lst ((ls.eraseIdx r.toNat).map V.int))) q = some (.lst (fs.map V.int)) := by rw [upd_ne ql]; exact hq4
    refine ⟨q, _, _, rfl, rfl, hq5, ?_, ls.eraseIdx r.toNat, fs ++ [ls[r.toNat]], rfl, ?_, ?_, ?_, ?_, ?_, ?_⟩
    · exact small1000 (by rw [List.length_map]; omega)
    · rw [upd_ne ql.symm, upd_same]
    · rw [upd_same, List.map_append]; rfl
    · refine fun b o e x y => ?_
      have e4 := (k3.trans k4) b o e x y
      rw [upd_ne (ne_of_none e hq0), upd_ne (ne_of_none e hl)]
      exact e4
    · refine ((S4.put dl gl cl).put dq gq cq).mono ?_
      simp
      omega
    · have := erase_perm (List.getElem?_eq_getElem hrt)
      refine List.Perm.trans ?_ pm
      rw [List.append_assoc]
      exact List.Perm.append_left fs this
    · rw [List.length_eraseIdx_of_lt hrt]; omega
end
end Pu

namespace Ch
open Pu
def every (many : Nat) : List (List Int) := (sets many).filter fun p => !decide (p = [])
theorem mem_every {many : Nat} {p : List Int} : p ∈ every many ↔ p ∈ sets many ∧ p ≠ [] := by
  unfold every
  rw [List.mem_filter]
  simp
theorem of_every {many : Nat} {p : List Int} (h : p ∈ every many) : p ≠ [] ∧ p.Pairwise (· < ·) ∧ ∀ o ∈ p, 0 ≤ o ∧ o < many :=
  ⟨(mem_every.mp h).2, sets_one many p (mem_every.mp h).1⟩
theorem to_every {many : Nat} {p : List Int} (h : p ≠ []) (h1 : p.Pairwise (· < ·)) (h2 : ∀ o ∈ p, 0 ≤ o ∧ o < many) : p ∈ every many := mem_every.mpr ⟨sets_all many p h1 h2, h⟩
theorem single_every {many : Nat} {o : Int} (h0 : 0 ≤ o) (h1 : o < many) : [o] ∈ every many := to_every (by simp) (List.pairwise_singleton _ _) fun x hx => by rw [List.mem_singleton.mp hx]; exact ⟨h0, h1⟩
theorem every_len {many : Nat} (m6 : many ≤ 6) : (every many).length ≤ 63 := by
  obtain ⟨r, e, h⟩ := sets_hd many
  have l := sets_le m6
  unfold every
  rw [e] at l ⊢
  rw [List.filter_cons_of_neg (by simp)]
  have := List.length_filter_le (fun p : List Int => !decide (p = [])) r
  simp at l
  omega
theorem every_ne {many : Nat} (m1 : 1 ≤ many) : every many ≠ [] := List.ne_nil_of_mem (single_every (o := 0) (by omega) (by omega))
theorem with_len {many : Nat} (m1 : 1 ≤ many) (m6 : many ≤ 6) {o : Int} {G : List Int → Bool} : ((every many).filter fun p => decide (o ∈ p) && G p).length ≤ 62 := by
  have l := every_len m6
  by_cases h : many = 1
  · subst h
    refine Nat.le_trans (List.length_filter_le _ _) (by decide +kernel)
  · have hx : ∃ x : Int, 0 ≤ x ∧ x < many ∧ x ≠ o := by
      by_cases e : o = 0
      · exact ⟨1, by omega, by omega, by omega⟩
      · exact ⟨0, by omega, by omega, fun z => e z.symm⟩
    obtain ⟨x, x0, x1, xo⟩ := hx
    have := (List.length_filter_lt_length_iff_exists (l := every many) (p := fun p => decide (o ∈ p) && G p)).mpr ⟨[x], single_every x0 x1, by simp [Ne.symm xo]⟩
    omega
structure Lots (many : Nat) (lots : List (List Int)) : Prop where
  lne : lots ≠ []
  llen : lots.length ≤ 64
  one : ∀ l ∈ lots, l ≠ [] ∧ l.Pairwise (· < ·) ∧ ∀ o ∈ l, 0 ≤ o ∧ o < many
  lasc : lots.Pairwise (fun a b => HT.lexLt a b = true)
  anti : ∀ a ∈ lots, ∀ b ∈ lots, a ≠ b → ∃ o ∈ b, o ∉ a
theorem min_ex : ∀ {l : List (List Int)}, l ≠ [] → ∃ p ∈ l, ∀ q ∈ l, p.length ≤ q.length
  | [], h => absurd rfl h
  | [a], _ => ⟨a, by simp, fun q hq => by rw [List.mem_singleton.mp hq]; exact Nat.le_refl _⟩
  | a :: b :: r, _ => by
    obtain ⟨p, hp, h⟩ := min_ex (l := b :: r) (by simp)
    by_cases e : a.length ≤ p.length
    · refine ⟨a, by simp, fun q hq => ?_⟩
      rcases List.mem_cons.mp hq with rfl | hq
      · exact Nat.le_refl _
      · exact Nat.le_trans e (h q hq)
    · refine ⟨p, List.mem_cons_of_mem _ hp, fun q hq => ?_⟩
      rcases List.mem_cons.mp hq with rfl | hq
      · omega
      · exact h q hq
theorem asc_perm {a b : List Int} (h : a.Pairwise (· < ·)) (g : b.Pairwise (· < ·)) (m : ∀ k ∈ a, k ∈ b) (l : b.length ≤ a.length) : a = b := by
  have n : a.Nodup := h.imp fun h => Int.ne_of_lt h
  refine usrtI_eq h g fun k => ⟨m k, fun hk => ?_⟩
  by_cases hka : k ∈ a
  · exact hka
  · have nk : (k :: a).Nodup := List.nodup_cons.mpr ⟨hka, n⟩
    have := List.Nodup.length_le_of_subset nk (l₂ := b) fun x hx => by
      rcases List.mem_cons.mp hx with rfl | hx
      · exact hk
      · exact m x hx
    simp at this
    omega
theorem lots_ok {many : Nat} {parts : List (List Int)} (ne : parts ≠ []) (hp : ∀ p ∈ parts, p ∈ every many) (hl : parts.length < 64) : Lots many (leastOf parts) := by
  have mem : ∀ p, p ∈ leastOf parts ↔ p ∈ parts ∧ ∀ q ∈ parts, q ≠ p → ∃ o ∈ q, o ∉ p := fun p => by
    unfold leastOf
    rw [List.mem_filter, mem_usrtL]
    refine and_congr_right fun hpp => ?_
    rw [Bool.not_eq_true', List.any_eq_false]
    constructor
    · intro h q hq ne
      have := h q hq
      simp only [ne, decide_false, Bool.not_false, Bool.true_and, List.all_eq_true, decide_eq_true_eq] at this
      by_cases z : ∃ o ∈ q, o ∉ p
      · exact z
      · exact absurd (fun o ho => by
          by_cases y : o ∈ p
          · exact y
          · exact absurd ⟨o, ho, y⟩ z) this
    · intro h q hq c
      simp only [Bool.and_eq_true, Bool.not_eq_true', decide_eq_false_iff_not, List.all_eq_true, decide_eq_true_eq] at c
      obtain ⟨o, ho, hn⟩ := h q hq c.1
      exact hn (c.2 o ho)
  refine ⟨?_, ?_, fun l h => of_every (hp l ((mem l).mp h).1), ?_, fun a ha b hb n => ((mem a).mp ha).2 b ((mem b).mp hb).1 fun e => n e.symm⟩
  · obtain ⟨p, h, hm⟩ := min_ex ne
    refine List.ne_nil_of_mem ((mem p).mpr ⟨h, fun q hq n => ?_⟩)
    by_cases z : ∃ o ∈ q, o ∉ p
    · exact z
    · exact absurd (asc_perm (of_every (hp q hq)).2.1 (of_every (hp p h)).2.1 (fun o ho => by
        by_cases y : o ∈ p
        · exact y
        · exact absurd ⟨o, ho, y⟩ z) (hm q hq)) n
  · refine Nat.le_trans (List.length_filter_le _ _) ?_
    have nd : (usrtL parts).Nodup := (usrtL_pw parts).imp fun h e => by subst e; have := NtL.lex_asym _ _ h; rw [h] at this; cases this
    have := List.Nodup.length_le_of_subset nd (l₂ := parts) fun x hx => mem_usrtL.mp hx
    omega
  · exact (usrtL_pw parts).filter _
end Ch

namespace Pu
open PySem PySem.Spec PyProof.Rows L2
section
variable {K : PySem.W.Frag} {d g c : Addr} {N N' : NP} {σ : L2.St} {H H' : Hp} {ta tb te tl : TE} {t u : TT} {x y z : PyData} {v : V} {ds : List PyData} {T : Int} {n m : Nat}
theorem sq_un2 {D : Ends} {rest : TS} {i j : Nat} {Rs : List PyData → Prop} (h : SE d g c n N te σ H (fun z => ∃ ds, z = .tuple ds ∧ Rs ds)) (f : Fr N H) (s : Sub d g N) (S : StA H d g c T) (b : T + n ≤ TB) (h2 : ∀ ds, Rs ds → ds.length = 2)
    (k : ∀ v u x y H2, Rs [x, y] → Kp d g H H2 → StA H2 d g c (T + n) → Fr N H2 → Rp N H2 v x → Rp N H2 u y → rest D ((σ.set i (some v)).set j (some u)) H2) :
    tSeq (tAsg te (gTup K 2 (gCons (gName i) (gCons (gName j) gNil)))) rest D σ H := h.run f s S b fun v z H2 hz k2 S2 f2 r => by
  obtain ⟨ds, rfl, hds⟩ := hz
  have l2 := h2 ds hds
  match ds, l2, r, hds with
  | [x, y], _, .tup n hh (.cons r1 (.cons r2 .nil)), hds => exact ⟨_, _, rfl, SqT.of hh, rfl, _, _, rfl, _, _, rfl, rfl, k _ _ x y H2 hds k2 S2 f2 r1 r2⟩
theorem lay_tIs : ∀ nss : List (List Int), PyData.canLayAll0 (nss.map tI) = true
  | [] => rfl
  | i :: r => by
    show (PyData.canLay0 (tI i) && PyData.canLayAll0 (r.map tI)) = true
    rw [lay_tIs r, Bool.and_true]
    exact lay_ints i
theorem dep_tIs : ∀ nss : List (List Int), PyData.depthAll (nss.map tI) ≤ 1
  | [] => Nat.zero_le _
  | i :: r => by
    show max (PyData.depth (tI i)) (PyData.depthAll (r.map tI)) ≤ 1
    refine Nat.max_le.mpr ⟨?_, dep_tIs r⟩
    show PyData.depthAll (i.map PyData.int) + 1 ≤ 1
    rw [dep_ints]; exact Nat.le_refl _
theorem shaped_lT (nss : List (List Int)) : SeqAt.shaped (lT nss) = true := by
  show (PyData.canLayAll0 (nss.map tI) && decide (PyData.depthAll (nss.map tI) + 1 ≤ 64)) = true
  have := dep_tIs nss
  rw [lay_tIs, Bool.true_and, decide_eq_true_eq]
  omega
theorem r2_neLT {nss : List (List Int)} : R2D (rNeD K) (lT nss) (.list []) (.bool (!nss.isEmpty)) := by
  have := r2_neD (K := K) (shaped_lT nss) (y := .list []) (by rfl)
  rw [eqv_lnil] at this
  have e : (nss.map tI).isEmpty = nss.isEmpty := by cases nss <;> rfl
  rwa [e] at this
end
/-- ints of a list of data of which each is one -/
theorem ints_of {R : Int → Prop} : ∀ {es : List PyData}, (∀ e ∈ es, ∃ r : Int, e = .int r ∧ R r) → ∃ ws : List Int, es = ws.map PyData.int ∧ ∀ r ∈ ws, R r
  | [], _ => ⟨[], rfl, fun r h => nomatch h⟩
  | e :: es, h => by
    obtain ⟨r, rfl, hr⟩ := h e (by simp)
    obtain ⟨ws, rfl, hw⟩ := ints_of (es := es) fun x hx => h x (List.mem_cons_of_mem _ hx)
    exact ⟨r :: ws, rfl, fun x hx => by
      rcases List.mem_cons.mp hx with rfl | hx
      · exact hr
      · exact hw x hx⟩
theorem tIs_of {R : List Int → Prop} : ∀ {es : List PyData}, (∀ e ∈ es, ∃ r : List Int, e = tI r ∧ R r) → ∃ ws : List (List Int), es = ws.map tI ∧ ∀ r ∈ ws, R r
  | [], _ => ⟨[], rfl, fun r h => nomatch h⟩
  | e :: es, h => by
    obtain ⟨r, rfl, hr⟩ := h e (by simp)
    obtain ⟨ws, rfl, hw⟩ := tIs_of (es := es) fun x hx => h x (List.mem_cons_of_mem _ hx)
    exact ⟨r :: ws, rfl, fun x hx => by
      rcases List.mem_cons.mp hx with rfl | hx
      · exact hr
      · exact hw x hx⟩
theorem sum_le : ∀ {ws : List Int}, (∀ r ∈ ws, 0 ≤ r ∧ r < 4) → 0 ≤ ws.sum ∧ ws.sum ≤ 4 * ws.length
  | [], _ => by simp
  | a :: r, h => by
    have ha := h a (by simp)
    have := sum_le (ws := r) fun x hx => h x (List.mem_cons_of_mem _ hx)
    rw [List.sum_cons, List.length_cons]
    omega
def D_lots : List PyData → Prop := fun ds => ∃ many : Nat, ds = [.int (many : Int)] ∧ 1 ≤ many ∧ many ≤ 6
def R_lots : List PyData → PyData → Prop := fun ds z => ∃ (many : Nat) (lots : List (List Int)), ds = [.int (many : Int)] ∧ z = tT lots ∧ Ch.Lots many lots
section
variable {P : Program} {w : World} {K : PySem.W.Frag} {mg : Str → Option Value} {base : Heap}
abbrev s_L_sh_lots : Stmt := top 52
theorem sc_L_sh_lots : FnScope ["state", "many", "kind_here", "every", "part", "size", "parts", "weights", "owner", "quota", "turn"] ["state", "many"] (defScope s_L_sh_lots) := ⟨rfl, rfl, rfl, by decide +kernel, rfl, by decide +kernel, by decide +kernel⟩
theorem ok_lots {f : Addr} {fd : FuncData} (F : Fun K "_law_sh_lots" "_law_sh_lots" s_L_sh_lots f fd) (T : Bi mg) (D_L_draw : Def P w K mg base "_law_draw" 2 ["state", "size_here"] spDraw) (D_L_pick : Def P w K mg base "_law_pick" 3 ["state", "several"] (spPick K))
    (D_L_sh_sets : Def P w K mg base "_law_sh_sets" 1 ["many"] (spP R_sets)) (D_L_sh_least : Def P w K mg base "_law_sh_least" 2 ["parts"] (spP R_least)) :
    FnOk P w K mg base CX0 4 f fd ["state", "many"] (spSt 16 D_lots R_lots) := by
  obtain ⟨f_L_sh_least, fd_L_sh_least, G_L_sh_least, b_L_sh_least, k_L_sh_least, m_L_sh_least⟩ := D_L_sh_least.ex
  obtain ⟨f_L_draw, fd_L_draw, G_L_draw, b_L_draw, k_L_draw, m_L_draw⟩ := D_L_draw.ex
  obtain ⟨f_L_pick, fd_L_pick, G_L_pick, b_L_pick, k_L_pick, m_L_pick⟩ := D_L_pick.ex
  obtain ⟨f_L_sh_sets, fd_L_sh_sets, G_L_sh_sets, b_L_sh_sets, k_L_sh_sets, m_L_sh_sets⟩ := D_L_sh_sets.ex
  refine F.ok sc_L_sh_lots (len_spSt fun ds ⟨ns, e, _⟩ => by rw [e]; rfl) (fun cdv A outer s H vs Q E hr h => ?_)
  obtain ⟨d, g, c, T0, N, us, ds, rfl, sb, fr, S, tb, rs, ⟨many, rfl, m1, m6⟩, k⟩ := h
  obtain ⟨v, rfl, r⟩ := rps1 rs
  have tb' : T0 + 16 ≤ TB := tb
  have evl := Ch.every_len m6
  refine ⟨_, pss_cons (ps_asg (pe_tup (pa_cons (pe_call G_L_draw (hr.mono (by decide)) rfl m_L_draw k_L_draw b_L_draw .nil pass0 (pa_cons (pv 0) (pa_cons pe_int pa_nil))) (pa_cons (pe_lc (own := [("part", 4)]) rfl sc_L_sh_lots.nd (pi_seqK K (pe_call G_L_sh_sets (hr.mono (by decide)) rfl m_L_sh_sets k_L_sh_sets b_L_sh_sets .nil pass0 (pa_cons (pv 1) pa_nil))) (blkOk_by (own := [("part", 4)]) (N := ["state", "many", "kind_here", "every", "part", "size", "parts", "weights", "owner", "quota", "turn"]) (sc := defScope s_L_sh_lots) (by decide +kernel)) (fun _ _ _ _ _ => pg_name (i := 4) sc_L_sh_lots.nd rfl (Or.inl rfl)) (fun _ _ _ _ _ => pts_one (pt_cmpR (op_neK K hr.units) (pv 4) (pe_tup pa_nil) (nomark _))) (fun _ _ _ _ _ => pv 4)) pa_nil))) (pg_tupK K (n := 2) rfl (pgs_cons (pg_name (i := 2) sc_L_sh_lots.nd rfl (Or.inl rfl)) (pgs_cons (pg_name (i := 3) sc_L_sh_lots.nd rfl (Or.inr rfl)) pgs_nil))))
      (pss_cons (ps_if (pt_cmpR (op_eqK K hr.units) (pv 2) pe_int (nomark _)) (pss_cons (ps_set (i := 5) sc_L_sh_lots.nd rfl (Or.inr rfl) (pe_op (op_addK K) pe_int (pe_call G_L_draw (hr.mono (by decide)) rfl m_L_draw k_L_draw b_L_draw .nil pass0 (pa_cons (pv 0) (pa_cons (pv 1) pa_nil)))))
      (pss_one (ps_setLc (i := 6) (own := [("part", 4)]) rfl sc_L_sh_lots.nd rfl rfl (sw_true rfl rfl rfl (by decide +kernel)) (pi_seqK K (pv 3)) (blkOk_by (own := [("part", 4)]) (N := ["state", "many", "kind_here", "every", "part", "size", "parts", "weights", "owner", "quota", "turn"]) (sc := defScope s_L_sh_lots) (by decide +kernel)) (fun _ _ _ _ _ => pg_name (i := 4) sc_L_sh_lots.nd rfl (Or.inl rfl)) (fun _ _ _ _ _ => pts_one (pt_cmpR (op_eqK K hr.units) (pe_callB (call_lenK K) (by rfl) T.len (by decide +kernel) (pa_cons (pv 4) pa_nil)) (pv 5) (nomark _))) (fun _ _ _ _ _ => pv 4)))) (pss_one (ps_if (pt_cmpR (op_ltK K hr.units0) (pv 2) pe_int (nomark _)) (pss_cons (ps_set (i := 7) sc_L_sh_lots.nd rfl (Or.inr rfl) (pe_lc (own := [("owner", 8)]) rfl sc_L_sh_lots.nd (pi_range1 rfl T.range (pa_cons (pv 1) pa_nil)) (blkOk_by (own := [("owner", 8)]) (N := ["state", "many", "kind_here", "every", "part", "size", "parts", "weights", "owner", "quota", "turn"]) (sc := defScope s_L_sh_lots) (by decide +kernel)) (fun _ _ _ _ _ => pg_name (i := 8) sc_L_sh_lots.nd rfl (Or.inl rfl)) (fun _ _ _ _ _ => pts_nil) (fun _ _ _ _ _ => pe_call G_L_draw (hr.mono (by decide)) rfl m_L_draw k_L_draw b_L_draw .nil pass0 (pa_cons (pv 0) (pa_cons pe_int pa_nil)))))
      (pss_cons (ps_set (i := 9) sc_L_sh_lots.nd rfl (Or.inr rfl) (pe_ifExp (pt_cmpR (op_eqK K hr.units) (pv 2) pe_int (nomark _)) (pe_op (op_addK K) (pe_op op_fdiv (pe_callB (cr_sumK K rfl) (by rfl) T.sum (by decide +kernel) (pa_cons (pv 7) pa_nil)) pe_int) pe_int) (pe_op (op_addK K) pe_int (pe_call G_L_draw (hr.mono (by decide)) rfl m_L_draw k_L_draw b_L_draw .nil pass0 (pa_cons (pv 0) (pa_cons (pe_op (op_addK K) (pe_callB (cr_sumK K rfl) (by rfl) T.sum (by decide +kernel) (pa_cons (pv 7) pa_nil)) pe_int) pa_nil))))))
      (pss_one (ps_setLc (i := 6) (own := [("part", 4)]) rfl sc_L_sh_lots.nd rfl rfl (sw_true rfl rfl rfl (by decide +kernel)) (pi_seqK K (pv 3)) (blkOk_by (own := [("part", 4)]) (N := ["state", "many", "kind_here", "every", "part", "size", "parts", "weights", "owner", "quota", "turn"]) (sc := defScope s_L_sh_lots) (by decide +kernel)) (fun _ _ _ _ _ => pg_name (i := 4) sc_L_sh_lots.nd rfl (Or.inl rfl)) (fun _ _ _ _ _ => pts_one (pt_cmpR op_ge (pe_callB (cr_sumK K rfl) (by rfl) T.sum (by decide +kernel) (pa_cons (pe_lc (own := [("owner", 8)]) rfl sc_L_sh_lots.nd (pi_seqK K (pv 4)) (blkOk_by (own := [("owner", 8)]) (N := ["state", "many", "kind_here", "every", "part", "size", "parts", "weights", "owner", "quota", "turn"]) (sc := { kind := PySem.ScopeKind.function, names := [ (PySem.Str.ofString ".0", PySem.NameKind.local), (PySem.Str.ofString "part", PySem.NameKind.local), (PySem.Str.ofString "sum", PySem.NameKind.globalImplicit), (PySem.Str.ofString "quota", PySem.NameKind.cell), (PySem.Str.ofString "weights", PySem.NameKind.cell)], isGenerator := false, isCoroutine := false, more := [] : PySem.Scope }) (by decide +kernel)) (fun _ _ _ _ _ => pg_name (i := 8) sc_L_sh_lots.nd rfl (Or.inl rfl)) (fun _ _ _ _ _ => pts_nil) (fun _ _ _ _ _ => pe_ix (ix_K K) (pv 7) (pv 8) (fun _ _ => rfl))) pa_nil)) (pv 9) (nomark _))) (fun _ _ _ _ _ => pv 4))))) (pss_one (ps_if (pt_cmpR (op_eqK K hr.units) (pv 2) pe_int (nomark _)) (pss_cons (ps_asg (pe_tup (pa_cons (pe_call G_L_draw (hr.mono (by decide)) rfl m_L_draw k_L_draw b_L_draw .nil pass0 (pa_cons (pv 0) (pa_cons (pv 1) pa_nil))) (pa_cons (pe_call G_L_draw (hr.mono (by decide)) rfl m_L_draw k_L_draw b_L_draw .nil pass0 (pa_cons (pv 0) (pa_cons pe_int pa_nil))) pa_nil))) (pg_tupK K (n := 2) rfl (pgs_cons (pg_name (i := 8) sc_L_sh_lots.nd rfl (Or.inr rfl)) (pgs_cons (pg_name (i := 5) sc_L_sh_lots.nd rfl (Or.inr rfl)) pgs_nil))))
      (pss_cons (ps_setLc (i := 6) (own := [("part", 4)]) rfl sc_L_sh_lots.nd rfl rfl (sw_true rfl rfl rfl (by decide +kernel)) (pi_seqK K (pv 3)) (blkOk_by (own := [("part", 4)]) (N := ["state", "many", "kind_here", "every", "part", "size", "parts", "weights", "owner", "quota", "turn"]) (sc := defScope s_L_sh_lots) (by decide +kernel)) (fun _ _ _ _ _ => pg_name (i := 4) sc_L_sh_lots.nd rfl (Or.inl rfl)) (fun _ _ _ _ _ => pts_one (PW.pt (pw_and (pt_cmpR (op_inK K) (pv 8) (pv 4) rfl) (pw_and1 (pt_cmpR op_gt (pe_callB (call_lenK K) (by rfl) T.len (by decide +kernel) (pa_cons (pv 4) pa_nil)) (pe_callB (call_min2 rfl) (by rfl) T.min (by decide +kernel) (pa_cons (pv 5) (pa_cons (pe_op op_sub (pv 1) pe_int) pa_nil))) (nomark _)))))) (fun _ _ _ _ _ => pv 4))
      (pss_one (ps_set (i := 6) sc_L_sh_lots.nd rfl (Or.inl rfl) (pe_op (op_addK K) (pv 6) (pe_ifExp (pt_cmpR (op_eqK K hr.units) (pe_call G_L_draw (hr.mono (by decide)) rfl m_L_draw k_L_draw b_L_draw .nil pass0 (pa_cons (pv 0) (pa_cons pe_int pa_nil))) pe_int (nomark _)) (pe_lst (pa_cons (pe_call G_L_pick (hr.mono (by decide)) rfl m_L_pick k_L_pick b_L_pick .nil pass0 (pa_cons (pv 0) (pa_cons (pv 3) pa_nil))) pa_nil)) (pe_lst pa_nil))))))) (pss_one (ps_setLc (i := 6) (own := [("turn", 10)]) rfl sc_L_sh_lots.nd rfl rfl (sw_true rfl rfl rfl (by decide +kernel)) (pi_range1 rfl T.range (pa_cons (pe_op (op_addK K) pe_int (pe_call G_L_draw (hr.mono (by decide)) rfl m_L_draw k_L_draw b_L_draw .nil pass0 (pa_cons (pv 0) (pa_cons pe_int pa_nil)))) pa_nil)) (blkOk_by (own := [("turn", 10)]) (N := ["state", "many", "kind_here", "every", "part", "size", "parts", "weights", "owner", "quota", "turn"]) (sc := defScope s_L_sh_lots) (by decide +kernel)) (fun _ _ _ _ _ => pg_name (i := 10) sc_L_sh_lots.nd rfl (Or.inl rfl)) (fun _ _ _ _ _ => pts_nil) (fun _ _ _ _ _ => pe_call G_L_pick (hr.mono (by decide)) rfl m_L_pick k_L_pick b_L_pick .nil pass0 (pa_cons (pv 0) (pa_cons (pv 3) pa_nil))))))))))
      (pss_one (ps_ret (pe_call G_L_sh_least (hr.mono (by decide)) rfl m_L_sh_least k_L_sh_least b_L_sh_least .nil pass0 (pa_cons (pe_ifExp (pt_cmpR (op_neK K hr.units) (pv 6) (pe_lst pa_nil) (nomark _)) (pv 6) (pe_slice (sl_lK K) (pv 3) (po_some (pe_un un_neg pe_int)) po_none)) pa_nil))))), ?_⟩
  refine sq_un2 (n := 1) (se_tup (sa_cons (se_draw (m := 6) rfl de_int (by decide)) (sa_cons (SE.of (R := fun z => z = lT (Ch.every many)) (n := 0) ((de_lc (xs := Ch.sets many) (enc := tI) (fun p => !decide (p = [])) (fun p => tI p) (di_seq (de_call (da_cons (de_var (i := 1) rfl r) da_nil) ⟨many, rfl, m6, rfl⟩)) (by have := Ch.sets_le m6; omega)
      fun a ha x' N' H' u rx => ⟨dt_test (de_op (de_var rfl rx) (de_tup da_nil) (r2_neT (ys := []))), fun _ => de_var rfl rx⟩).is rfl) rfl) sa_nil)) (fun ds ⟨z, rs, e, _, z', rs', e', _, e''⟩ => by subst e'' e' e; simp)) fr sb S (by omega)
    (fun ds ⟨z, rs, e, _, z', rs', e', _, e''⟩ => by subst e'' e' e; rfl) fun v2 v3 x y H1 hxy k1 S1 f1 r2 r3 => ?_
  obtain ⟨_, _, e1, ⟨kd, rfl, kd0, kd6⟩, _, _, e2, rfl, rfl⟩ := hxy
  subst e2
  cases e1
  have fin : ∀ (vp : V) (parts : List (List Int)) (o4 o5 o7 o8 o9 o10 : Option V) (H' : Hp) (T' : Int), Kp d g H1 H' → StA H' d g c T' → T' ≤ T0 + 16 → Rp N H' vp (lT parts) → (∀ p ∈ parts, p ∈ Ch.every many) → parts.length < 64 → ∀ D : Ends, D.rt = Q →
      tRet (tCall (spP R_least) [] E0 (tCons (tIf (tTest (tOp (rNeD K) (tVar 6) (tLst tNil))) (tVar 6) (tSl (rSlL K) (tVar 3) (tPart (tUn (rU fun i => V.int (-i)) (tC (.int 1)))) tNoPart)) tNil)) D [some (.ref d), some v, some v2, some v3, o4, o5, some vp, o7, o8, o9, o10] H' := by
    intro vp parts o4 o5 o7 o8 o9 o10 H' T' k' S' t' rp hp hl D hD
    have f' := f1.kp k' S'
    have r3' := r3.up (Up.kp sb k')
    have ene := Ch.every_ne m1
    obtain ⟨parts2, e2⟩ : ∃ parts2, parts2 = if parts.isEmpty = true then (Ch.every many).drop ((Ch.every many).length - 1) else parts := ⟨_, rfl⟩
    have p2 : parts2 ≠ [] ∧ (∀ p ∈ parts2, p ∈ Ch.every many) ∧ parts2.length < 64 := by
      rw [e2]
      split
      · refine ⟨fun z => ?_, fun p hp => List.mem_of_mem_drop hp, by rw [List.length_drop]; omega⟩
        have h1 := congrArg List.length z
        rw [List.length_drop, List.length_nil] at h1
        have h2 := List.length_pos_iff.mpr ene
        omega
      · rename_i h
        exact ⟨fun z => h (by rw [z]; rfl), hp, hl⟩
    refine dq_ret (de_call (da_cons (de_if (d := lT parts2) (b := !parts.isEmpty) (dt_test (de_op (de_var rfl rp) (de_lst da_nil) r2_neLT)) (fun hb => (de_var rfl rp).is ?_) (fun hb => (de_slL (de_var rfl r3') (do_some (de_neg de_int)) do_none).is ?_)) da_nil)
      ⟨parts2, rfl, p2.2.2, fun p h => ⟨(Ch.of_every (p2.2.1 p h)).1, by have := asc_len (Ch.of_every (p2.2.1 p h)).2.1 (Ch.of_every (p2.2.1 p h)).2.2; omega⟩, rfl⟩) f' fun v' H4 s4 r4 => ?_
    · rw [e2, if_neg (by simpa using hb)]
    · rw [e2, if_pos (by simpa using hb), lT, List.map_drop]
      have := cutD_last ((Ch.every many).map tI)
      rw [List.length_map] at this
      exact congrArg PyData.list this
    · rw [hD]
      exact k v' _ H4 ⟨many, leastOf parts2, rfl, rfl, Ch.lots_ok p2.1 p2.2.1 p2.2.2⟩ ((k1.trans k').trans (Kp.of s4)) ((S'.same s4).mono (by omega)) r4
  refine dq_if (N := N) (b := decide (kd = 0)) (dt_test (de_op (de_var rfl r2) de_int r2_eqI)) f1 (fun hb H2 s2 => ?_) fun hb H2 s2 => ?_
  · -- sets of one size
    have S2 := S1.same s2
    have f2 := f1.same s2
    have k2 : Kp d g H1 H2 := Kp.of s2
    refine sq_set (n := 1) (R := fun z => ∃ s : Int, z = .int s) ((se_op (SE.of (n := 0) (R := fun z => z = .int 1) de_int rfl) (se_draw (m := many) rfl (de_var rfl ((r.up (Up.kp sb k1)).same s2)) (by omega)) fun x y hx ⟨r, hy, _⟩ => ⟨_, ⟨1 + r, rfl⟩, by subst hx hy; exact r2_addI⟩).cost (by decide)) f2 sb S2 (by omega) fun v5 z H3 hz k3 S3 f3 r5 => ?_
    obtain ⟨sz, rfl⟩ := hz
    have k13 := k2.trans k3
    refine DE.run (N := N) (d := lT ((Ch.every many).filter fun p => decide ((p.length : Int) = sz))) (de_lc (xs := Ch.every many) (enc := tI) (fun p => decide ((p.length : Int) = sz)) (fun p => tI p) (di_seq (de_var rfl (r3.up (Up.kp sb k13)))) (by omega)
      fun a ha x' N' H' u rx => ⟨dt_test (de_op (de_cb (da_cons (de_var rfl rx) da_nil) rk_lenT) (de_var rfl (r5.up u)) r2_eqI), fun _ => de_var rfl rx⟩) f3 fun v6 H4 s4 r6 =>
        fin v6 _ _ _ _ _ _ _ H4 _ (k13.trans (Kp.of s4)) (S3.same s4) (by omega) r6 (fun p hp => (List.mem_filter.mp hp).1) (Nat.lt_of_le_of_lt (List.length_filter_le _ _) (by omega)) _ rfl
  · refine dq_if (N := N) (b := decide (kd < 3)) (dt_test (de_op (de_var rfl (r2.same s2)) de_int r2_ltI)) (f1.same s2) (fun hb3 H3 s3 => ?_) fun hb3 H3 s3 => ?_
    · -- weights and a quota
      have s13 := s2.trans s3
      have S3 := S1.same s13
      have f3 := f1.same s13
      have k13 : Kp d g H1 H3 := Kp.of s13
      refine sq_set (n := 0 + 6 * 1) (se_lc (n := 0) (m := 1) (L := 6) (RI := fun ds => ds = (Ch.rng many).map PyData.int) (R := fun e => ∃ r : Int, e = .int r ∧ 0 ≤ r ∧ r < 4) (SI.of (ds := (Ch.rng many).map PyData.int) ?_ rfl) (fun ds e => by rw [e, List.length_map, Ch.rng_len]; exact m6) (by decide)
        fun ds hds a ha x' N' H' u rx => se_draw (m := 4) rfl de_int (by decide)) f3 sb S3 (by omega) fun v7 z H4 hz k4 S4 f4 r7 => ?_
      · have := di_rng (N := N) (H := H3) (i := (many : Int)) (σ := [some (.ref d), some v, some v2, some v3, none, none, none, none, none, none, none]) (da_cons (de_var (i := 1) rfl ((r.up (Up.kp sb k1)).same s13)) da_nil) (by omega) (by omega)
        rwa [Int.toNat_natCast] at this
      obtain ⟨ds, es, rfl, rfl, el, he⟩ := hz
      obtain ⟨ws, rfl, hw⟩ := ints_of he
      rw [List.length_map, List.length_map, Ch.rng_len] at el
      have sm := sum_le hw
      rw [el] at sm
      have k14 := k13.trans k4
      have u14 := Up.kp sb k14
      have dsum : ∀ {σ : L2.St} {N' : NP} {H' : Hp}, σ[7]? = some (some v7) → Rp N' H' v7 (lI ws) → DE N' (tCB (rSum K) (tCons (tVar 7) tNil)) σ H' (.int ws.sum) := fun hσ hr => de_cb (da_cons (de_var hσ hr) da_nil) rc_sum
      refine sq_set (n := 0 + 1) (R := fun z => ∃ q : Int, z = .int q) (se_if (n := 0) (m := 1) (st_of (dt_test (de_op (de_var rfl (r2.up u14)) de_int r2_eqI))) (SE.of (de_op (de_op (dsum rfl r7) de_int (r2_ic ⟨by decide, by decide⟩)) de_int r2_addI) ⟨_, rfl⟩)
        ((se_op (SE.of (n := 0) (R := fun z => z = .int 1) de_int rfl) (se_draw (m := ws.sum + 1) rfl (de_op (dsum rfl r7) de_int r2_addI) (by omega)) fun x y hx ⟨r, hy, _⟩ => ⟨_, ⟨1 + r, rfl⟩, by subst hx hy; exact r2_addI⟩).cost (by decide))) f4 sb S4 (by omega) fun v9 z H5 hz k5 S5 f5 r9 => ?_
      obtain ⟨qu, rfl⟩ := hz
      have k15 := k14.trans k5
      have r75 := r7.up (Up.kp sb k5)
      refine DE.run (N := N) (d := lT ((Ch.every many).filter fun p => decide (qu ≤ (p.map fun o => ws.getD o.toNat 0).sum))) (de_lc (xs := Ch.every many) (enc := tI) (fun p => decide (qu ≤ (p.map fun o => ws.getD o.toNat 0).sum)) (fun p => tI p) (di_seq (de_var rfl (r3.up (Up.kp sb k15)))) (by omega)
        fun a ha x' N' H' u rx => ⟨dt_test (de_op (de_sumM (xs := a) (g := fun o => ws.getD o.toNat 0) (da_cons (de_lc0 (xs := a) (enc := PyData.int) (fun o => .int (ws.getD o.toNat 0)) (di_seq (de_var rfl rx)) (by have := asc_len (Ch.of_every ha).2.1 (Ch.of_every ha).2.2; omega)
          fun o ho y' N'' H'' u' ry => de_op (de_var rfl ((r75.up u).up u')) (de_var rfl ry) (r2_ix (atI_i ((Ch.of_every ha).2.2 o ho).1 ?_))) da_nil)) (de_var rfl (r9.up u)) r2_b), fun _ => de_var rfl rx⟩) f5 fun v6 H6 s6 r6 =>
          fin v6 _ _ _ _ _ _ _ H6 _ (k15.trans (Kp.of s6)) (S5.same s6) (by omega) r6 (fun p hp => (List.mem_filter.mp hp).1) (Nat.lt_of_le_of_lt (List.length_filter_le _ _) (by omega)) _ rfl
      have bo := (Ch.of_every ha).2.2 o ho
      rw [List.getElem?_map, List.getD_eq_getElem?_getD, List.getElem?_eq_getElem (by omega)]; rfl
    · refine dq_if (N := N) (b := decide (kd = 3)) (dt_test (de_op (de_var rfl ((r2.same s2).same s3)) de_int r2_eqI)) ((f1.same s2).same s3) (fun hb4 H4 s4 => ?_) fun hb4 H4 s4 => ?_
      · -- all that hold one owner
        have s14 := (s2.trans s3).trans s4
        have S4 := S1.same s14
        have f4 := f1.same s14
        have k14 : Kp d g H1 H4 := Kp.of s14
        refine sq_un2 (n := 2) (se_tup (sa_cons (se_draw (m := many) rfl (de_var rfl ((r.up (Up.kp sb k1)).same s14)) (by omega)) (sa_cons (se_draw (m := 2) rfl de_int (by decide)) sa_nil)) (fun ds ⟨z, rs, e, _, z', rs', e', _, e''⟩ => by subst e'' e' e; simp)) f4 sb S4 (by omega)
          (fun ds ⟨z, rs, e, _, z', rs', e', _, e''⟩ => by subst e'' e' e; rfl) fun v8 v5 x y H5 hxy k5 S5 f5 r8 r5 => ?_
        obtain ⟨_, _, e1, ⟨ow, rfl, ow0, ow1⟩, _, _, e2, ⟨sz, rfl, sz0, sz1⟩, rfl⟩ := hxy
        subst e2
        cases e1
        have k15 := k14.trans k5
        have rv5 := (r.up (Up.kp sb k1)).up (Up.kp sb k15)
        have r35 := r3.up (Up.kp sb k15)
        refine dq_set (d := lT ((Ch.every many).filter fun p => decide (ow ∈ p) && decide ((if (many : Int) - 1 < sz then (many : Int) - 1 else sz) < (p.length : Int)))) (de_lc (xs := Ch.every many) (enc := tI) (fun p => decide (ow ∈ p) && decide ((if (many : Int) - 1 < sz then (many : Int) - 1 else sz) < (p.length : Int))) (fun p => tI p) (di_seq (de_var rfl r35)) (by omega)
          fun a ha x' N' H' u rx => ⟨dt_and (dt_test (de_op (de_var rfl (r8.up u)) (de_var rfl rx) r2_in)) fun _ => dt_test (de_op (de_cb (da_cons (de_var rfl rx) da_nil) rk_lenT) (de_cb (da_cons (de_var rfl (r5.up u)) (da_cons (de_op (de_var rfl (rv5.up u)) de_int r2_i) da_nil)) rc_min2) r2_b), fun _ => de_var rfl rx⟩) f5 fun v6 H6 s6 r6 => ?_
        have wl := Ch.with_len m1 m6 (o := ow) (G := fun p => decide ((if (many : Int) - 1 < sz then (many : Int) - 1 else sz) < (p.length : Int)))
        have wi : ∀ p ∈ ((Ch.every many).filter fun p => decide (ow ∈ p) && decide ((if (many : Int) - 1 < sz then (many : Int) - 1 else sz) < (p.length : Int))), p ∈ Ch.every many := fun p hp => (List.mem_filter.mp hp).1
        generalize ((Ch.every many).filter fun p => decide (ow ∈ p) && decide ((if (many : Int) - 1 < sz then (many : Int) - 1 else sz) < (p.length : Int))) = parts at *
        refine SE.run (n := 0 + (1 + 0 + (1 + 0))) (R := fun z => ∃ qs : List (List Int), z = lT (parts ++ qs) ∧ qs.length ≤ 1 ∧ ∀ p ∈ qs, p ∈ Ch.every many) (se_op (SE.of (n := 0) (R := fun z => z = lT parts) (de_var rfl r6) rfl)
          (se_if (R := fun z => ∃ qs : List (List Int), z = lT qs ∧ qs.length ≤ 1 ∧ ∀ p ∈ qs, p ∈ Ch.every many) (st_test (R := fun z => ∃ b, z = .bool b) (se_op (se_draw (m := 4) rfl de_int (by decide)) (SE.of (n := 0) (R := fun z => z = .int 0) de_int rfl) fun x y ⟨r, hx, _⟩ hy => ⟨.bool (decide (r = 0)), ⟨_, rfl⟩, by subst hx hy; exact r2_eqI⟩) fun z h => h)
            ((se_lst (sa_cons (se_pick rfl (de_var rfl (r35.same s6)) rfl (by simpa using Ch.every_ne m1) (by rw [List.length_map]; omega)) sa_nil) (fun ds ⟨z, rs, e, _, e'⟩ => by subst e' e; simp)).imp ?_) (SE.of (de_lst da_nil) ⟨[], rfl, by simp, fun p h => nomatch h⟩)) ?_) (f5.same s6) sb (S5.same s6) (by omega) fun v6' z H7 hz k7 S7 f7 r7 => ?_
        · rintro z ⟨ds, rfl, z1, rs, rfl, hz1, rfl⟩
          obtain ⟨p, hp, rfl⟩ := List.mem_map.mp hz1
          exact ⟨[p], rfl, by simp, fun q hq => by rw [List.mem_singleton.mp hq]; exact hp⟩
        · rintro x y rfl ⟨qs, rfl, ql, qe⟩
          refine ⟨lT (parts ++ qs), ⟨qs, rfl, ql, qe⟩, ?_⟩
          have := r2_addL (K := K) (xs := parts.map tI) (ys := qs.map tI) (by rw [List.length_map, List.length_map]; omega)
          rwa [← List.map_append] at this
        · obtain ⟨qs, rfl, ql, qe⟩ := hz
          refine fin v6' _ _ _ _ _ _ _ H7 _ ((k15.trans (Kp.of s6)).trans k7) S7 (by omega) r7 (fun p hp => ?_) (by rw [List.length_append]; omega) _ rfl
          rcases List.mem_append.mp hp with hp | hp
          · exact wi p hp
          · exact qe p hp
      · -- some sets
        have s14 := (s2.trans s3).trans s4
        have S4 := S1.same s14
        have f4 := f1.same s14
        have k14 : Kp d g H1 H4 := Kp.of s14
        refine SE.run (n := 0 + 1 + 4 * 1) (se_lc (n := 0 + 1) (m := 1) (L := 4) (RI := fun ds => ∃ i : Int, ds = (Ch.rng i.toNat).map PyData.int ∧ 0 ≤ i ∧ i ≤ 4) (R := fun e => ∃ p : List Int, e = tI p ∧ p ∈ Ch.every many)
          (si_rng (R := fun i => 0 ≤ i ∧ i ≤ 4) (se_op (SE.of (n := 0) (R := fun z => z = .int 1) de_int rfl) (se_draw (m := 4) rfl de_int (by decide)) fun x y hx ⟨r, hy, r0, r1⟩ => ⟨_, ⟨1 + r, rfl, by omega, by omega⟩, by subst hx hy; exact r2_addI⟩) fun i hi => by omega)
          (fun ds ⟨i, e, i0, i1⟩ => by rw [e, List.length_map, Ch.rng_len]; omega) (by decide)
          fun ds hds a ha x' N' H' u rx => (se_pick rfl (de_var rfl ((r3.same s14).up u)) rfl (by simpa using Ch.every_ne m1) (by rw [List.length_map]; omega)).imp fun z hz => by
            obtain ⟨p, hp, rfl⟩ := List.mem_map.mp hz
            exact ⟨p, rfl, hp⟩) f4 sb S4 (by omega) fun v6 z H5 hz k5 S5 f5 r6 => ?_
        obtain ⟨ds, es, ⟨i, rfl, i0, i1⟩, rfl, el, he⟩ := hz
        obtain ⟨ps, rfl, hp⟩ := tIs_of he
        rw [List.length_map, List.length_map, Ch.rng_len] at el
        exact fin v6 _ _ _ _ _ _ _ H5 _ (k14.trans k5) S5 (by omega) r6 hp (by omega) _ rfl
end
end Pu

namespace Pu
open PySem PySem.Spec PyProof.Rows L2
section
variable {K : PySem.W.Frag} {d g c : Addr} {N N' : NP} {σ : L2.St} {H H' : Hp} {ta tb te tl : TE} {t u : TT} {x y z : PyData} {v : V} {ds : List PyData} {T : Int} {n m : Nat}
/-- if c: x = e -/
theorem sq_ifA {D : Ends} {rest : TS} {cc : TT} {i : Nat} {R : PyData → Prop} {v0 : V} {z0 : PyData} (h : ST d g c n N cc σ H) (ha : SE d g c m N te σ H R) (hσ : σ[i]? = some (some v0)) (r0 : Rp N H v0 z0) (hz0 : R z0) (f : Fr N H) (s : Sub d g N) (S : StA H d g c T) (b : T + (n + m : Nat) ≤ TB)
    (k : ∀ v z H2, R z → Kp d g H H2 → StA H2 d g c (T + (n + m : Nat)) → Fr N H2 → Rp N H2 v z → rest D (σ.set i (some v)) H2) : tSeq (tIfS cc (tAsg te (gName i)) tNext) rest D σ H :=
  sq_if h f s S (by omega) (fun H2 k2 S2 f2 => (ha.up (Up.kp s k2)).run f2 s S2 (by omega) fun v z H3 hz k3 S3 f3 r3 => k v z H3 hz (k2.trans k3) (S3.mono (by omega)) f3 r3)
    fun H2 k2 S2 f2 => by
      have e : σ.set i (some v0) = σ := by
        refine List.ext_getElem? fun j => ?_
        by_cases hj : i = j
        · subst hj
          rw [List.getElem?_set_self (by
            rcases Nat.lt_or_ge i σ.length with h | h
            · exact h
            · rw [List.getElem?_eq_none h] at hσ; cases hσ), hσ]
        · rw [List.getElem?_set_ne hj]
      have := k v0 z0 H2 hz0 k2 (S2.mono (by omega)) f2 (r0.up (Up.kp s k2))
      rwa [e] at this
end
theorem rng_asc (n : Nat) : (Ch.rng n).Pairwise (· < ·) := by
  unfold Ch.rng
  rw [List.pairwise_map]
  exact List.pairwise_lt_range.imp fun h => Int.ofNat_lt.mpr h
theorem props_ok {many k : Nat} {ms : List Int} (m1 : 1 ≤ many) (p : ms.Perm (Ch.rng many)) (k1 : 1 ≤ k) : srtI (ms.take k) ≠ [] ∧ (srtI (ms.take k)).Pairwise (· < ·) ∧ ∀ o ∈ srtI (ms.take k), 0 ≤ o ∧ o < many := by
  have l := p.length_eq
  rw [Ch.rng_len] at l
  have nd : ms.Nodup := p.nodup_iff.mpr ((rng_asc many).imp fun h => Int.ne_of_lt h)
  have sp := srtI_perm (ms.take k)
  refine ⟨fun e => ?_, ?_, fun o ho => Ch.mem_rng.mp (p.mem_iff.mp (List.mem_of_mem_take (sp.mem_iff.mp ho)))⟩
  · have := sp.length_eq
    rw [e, List.length_take, List.length_nil] at this
    omega
  · have n2 : (srtI (ms.take k)).Nodup := sp.nodup_iff.mpr (nd.sublist (List.take_sublist _ _))
    exact (List.pairwise_and_iff.mpr ⟨srtI_pw (ms.take k), n2⟩).imp fun h => by
      have := h.1; have := h.2; omega
theorem ch2_of {many : Nat} {props : List Int} {lots : List (List Int)} (m1 : 1 ≤ many) (m6 : many ≤ 6) (hp : props ≠ [] ∧ props.Pairwise (· < ·) ∧ ∀ o ∈ props, 0 ≤ o ∧ o < many) (L : Ch.Lots many lots) : Ch2 many props lots :=
  ⟨⟨m1, m6, hp.1, hp.2.1, hp.2.2, L.lne, L.llen, L.one⟩, L.lasc, L.anti⟩
def D_char : List PyData → Prop := fun ds => ∃ most : Int, ds = [.int most] ∧ 3 ≤ most ∧ most ≤ 6
def R_char : List PyData → PyData → Prop := fun ds z => ∃ many props lots, z = chD many props lots ∧ Ch2 many props lots
section
variable {P : Program} {w : World} {K : PySem.W.Frag} {mg : Str → Option Value} {base : Heap}
abbrev s_L_sh_charter : Stmt := top 53
theorem sc_L_sh_charter : FnScope ["state", "most", "many", "size", "proposers"] ["state", "most"] (defScope s_L_sh_charter) := ⟨rfl, rfl, rfl, by decide +kernel, rfl, by decide +kernel, by decide +kernel⟩
theorem ok_charter {f : Addr} {fd : FuncData} (F : Fun K "_law_sh_charter" "_law_sh_charter" s_L_sh_charter f fd) (T : Bi mg) (D_L_draw : Def P w K mg base "_law_draw" 2 ["state", "size_here"] spDraw) (D_L_pick : Def P w K mg base "_law_pick" 3 ["state", "several"] (spPick K))
    (D_L_mixed : Def P w K mg base "_law_mixed" 3 ["state", "several"] (spSt 6 D_mix R_mix)) (D_L_sh_lots : Def P w K mg base "_law_sh_lots" 4 ["state", "many"] (spSt 16 D_lots R_lots)) :
    FnOk P w K mg base CX0 5 f fd ["state", "most"] (spSt 24 D_char R_char) := by
  obtain ⟨f_L_sh_lots, fd_L_sh_lots, G_L_sh_lots, b_L_sh_lots, k_L_sh_lots, m_L_sh_lots⟩ := D_L_sh_lots.ex
  obtain ⟨f_L_mixed, fd_L_mixed, G_L_mixed, b_L_mixed, k_L_mixed, m_L_mixed⟩ := D_L_mixed.ex
  obtain ⟨f_L_pick, fd_L_pick, G_L_pick, b_L_pick, k_L_pick, m_L_pick⟩ := D_L_pick.ex
  obtain ⟨f_L_draw, fd_L_draw, G_L_draw, b_L_draw, k_L_draw, m_L_draw⟩ := D_L_draw.ex
  refine F.ok sc_L_sh_charter (len_spSt fun ds ⟨ns, e, _⟩ => by rw [e]; rfl) (fun cdv A outer s H vs Q E hr h => ?_)
  obtain ⟨d, g, c, T0, N, us, ds, rfl, sb, fr, S, tb, rs, ⟨most, rfl, m3, m6⟩, k⟩ := h
  obtain ⟨v, rfl, r⟩ := rps1 rs
  have tb' : T0 + 24 ≤ TB := tb
  refine ⟨_, pss_cons (ps_set (i := 2) sc_L_sh_charter.nd rfl (Or.inl rfl) (pe_op (op_addK K) pe_int (pe_call G_L_draw (hr.mono (by decide)) rfl m_L_draw k_L_draw b_L_draw .nil pass0 (pa_cons (pv 0) (pa_cons (pv 1) pa_nil)))))
      (pss_cons (ps_set (i := 3) sc_L_sh_charter.nd rfl (Or.inl rfl) (pe_callB (call_min2 rfl) (by rfl) T.min (by decide +kernel) (pa_cons (pv 2) (pa_cons (pe_call G_L_pick (hr.mono (by decide)) rfl m_L_pick k_L_pick b_L_pick .nil pass0 (pa_cons (pv 0) (pa_cons (pe_lst (pa_cons pe_int (pa_cons pe_int (pa_cons pe_int (pa_cons pe_int (pa_cons pe_int (pa_cons (pv 2) pa_nil))))))) pa_nil))) pa_nil))))
      (pss_cons (ps_set (i := 4) sc_L_sh_charter.nd rfl (Or.inl rfl) (pe_callTy (call_tupK K) (by rfl) T.tuple (by decide +kernel) (pa_cons (pe_callB (cr_sortIK K) (by rfl) T.sorted (by decide +kernel) (pa_cons (pe_slice (sl_lK K) (pe_call G_L_mixed (hr.mono (by decide)) rfl m_L_mixed k_L_mixed b_L_mixed .nil pass0 (pa_cons (pv 0) (pa_cons (pe_listRg rfl (by rfl) T.list (prg_1 (by rfl) T.range (pv 2))) pa_nil))) po_none (po_some (pv 3))) pa_nil)) pa_nil)))
      (pss_one (ps_ret (pe_tup (pa_cons (pv 2) (pa_cons (pv 4) (pa_cons (pe_call G_L_sh_lots (hr.mono (by decide)) rfl m_L_sh_lots k_L_sh_lots b_L_sh_lots .nil pass0 (pa_cons (pv 0) (pa_cons (pv 2) pa_nil))) pa_nil)))))))), ?_⟩
  refine sq_set (n := 0 + 1) (R := fun z => ∃ m : Nat, z = .int (m : Int) ∧ 1 ≤ m ∧ m ≤ 6) (se_op (SE.of (n := 0) (R := fun z => z = .int 1) de_int rfl) (se_draw (m := most) rfl (de_var rfl r) (by omega)) fun x y hx ⟨r, hy, r0, r1⟩ => ⟨_, ⟨(1 + r).toNat, rfl, by omega, by omega⟩, by
    subst hx hy
    rw [Int.toNat_of_nonneg (by omega)]
    exact r2_addI⟩) fr sb S (by omega) fun v2 z H1 hz k1 S1 f1 r2 => ?_
  obtain ⟨many, rfl, m1, mm6⟩ := hz
  refine sq_set (n := 0 + (1 + 0)) (R := fun z => ∃ s : Nat, z = .int (s : Int) ∧ 1 ≤ s) (se_cb (sa_cons (SE.of (n := 0) (R := fun z => z = .int (many : Int)) (de_var rfl r2) rfl) (sa_cons (se_pick rfl (de_lst (da_cons de_int (da_cons de_int (da_cons de_int (da_cons de_int (da_cons de_int (da_cons (de_var rfl r2) da_nil))))))) rfl (by simp) (by simp)) sa_nil)) ?_) f1 sb S1 (by omega) fun v3 z H2 hz k2 S2 f2 r3 => ?_
  · rintro ds ⟨z, rs, rfl, rfl, z', rs', rfl, hz', rfl⟩
    have : ∃ i : Int, z' = .int i ∧ 1 ≤ i := by
      simp only [List.mem_cons, List.not_mem_nil, or_false] at hz'
      rcases hz' with rfl | rfl | rfl | rfl | rfl | rfl
      · exact ⟨_, rfl, by decide⟩
      · exact ⟨_, rfl, by decide⟩
      · exact ⟨_, rfl, by decide⟩
      · exact ⟨_, rfl, by decide⟩
      · exact ⟨_, rfl, by decide⟩
      · exact ⟨_, rfl, by omega⟩
    obtain ⟨i, rfl, hi⟩ := this
    refine ⟨_, ⟨(if i < (many : Int) then i else (many : Int)).toNat, rfl, ?_⟩, ?_⟩
    · split <;> omega
    · rw [Int.toNat_of_nonneg (by split <;> omega)]
      exact rc_min2
  obtain ⟨sz, rfl, sz1⟩ := hz
  have r22 := r2.up (Up.kp sb k2)
  have rl := de_listRg (te := tVar 2) (N := N) (H := H2) (σ := [some (.ref d), some v, some v2, some v3, none]) (i := (many : Int)) (de_var rfl r22) (by omega) (by omega)
  rw [Int.toNat_natCast] at rl
  refine sq_set (n := 6) (R := fun z => ∃ props : List Int, z = tI props ∧ (props ≠ [] ∧ props.Pairwise (· < ·) ∧ ∀ o ∈ props, 0 ≤ o ∧ o < many)) (se_cb (sa_cons (se_cb (sa_cons (se_slL (Rs := fun ds => ∃ ms : List Int, ds = ms.map PyData.int ∧ ms.Perm (Ch.rng many)) ((se_call rfl (da_cons rl da_nil) ⟨_, rfl, by rw [Ch.rng_len]; exact mm6⟩).imp ?_) do_none (do_some (de_var rfl r3))) sa_nil)
      (R := fun z => ∃ props : List Int, z = lI props ∧ (props ≠ [] ∧ props.Pairwise (· < ·) ∧ ∀ o ∈ props, 0 ≤ o ∧ o < many)) ?_) sa_nil) ?_) f2 sb S2 (by omega) fun v4 z H3 hz k3 S3 f3 r4 => ?_
  · rintro z ⟨ns, ms, e, rfl, pm⟩
    have e' : ns = Ch.rng many := by
      have := List.cons.inj e
      have := PyData.list.inj this.1
      exact (List.map_inj_right (fun a b h => PyData.int.inj h)).mp this.symm
    subst e'
    exact ⟨_, rfl, ms, rfl, pm⟩
  · rintro ds ⟨z, rs, rfl, ⟨ds, rfl, ms, rfl, pm⟩, rfl⟩
    refine ⟨_, ⟨srtI (ms.take sz), rfl, props_ok m1 pm sz1⟩, ?_⟩
    rw [cutD_to, ← List.map_take]
    exact rc_sortI
  · rintro ds ⟨z, rs, rfl, ⟨props, rfl, hp⟩, rfl⟩
    exact ⟨_, ⟨props, rfl, hp⟩, rk_tup⟩
  obtain ⟨props, rfl, hp⟩ := hz
  have r23 := r22.up (Up.kp sb k3)
  refine sq_ret (n := 0 + (0 + (16 + 0))) (se_tup (sa_cons (SE.of (n := 0) (R := fun z => z = .int (many : Int)) (de_var rfl r23) rfl) (sa_cons (SE.of (n := 0) (R := fun z => z = tI props) (de_var rfl r4) rfl) (sa_cons (se_call rfl (da_cons (de_var rfl r23) da_nil) ⟨many, rfl, m1, mm6⟩) sa_nil))) (fun ds ⟨z, rs, e, _, z', rs', e', _, z2, r2, e2, _, e3⟩ => by subst e3 e2 e' e; simp)) f3 sb S3 (by omega)
    fun v5 z H4 hz k4 S4 f4 r5 => ?_
  obtain ⟨ds, rfl, _, _, rfl, rfl, _, _, rfl, rfl, _, _, rfl, ⟨many', lots, e, rfl, L⟩, rfl⟩ := hz
  have e' : many' = many := by
    have := PyData.int.inj (List.cons.inj e).1
    omega
  subst e'
  exact k _ _ H4 ⟨_, props, lots, rfl, ch2_of m1 mm6 hp L⟩ (((k1.trans k2).trans k3).trans k4) (S4.mono (by omega)) r5
end
end Pu

namespace Pu
open PySem PySem.Spec PyProof.Rows L2
def OkP (many n : Nat) (z : PyData) : Prop := ∃ ps : List (List Int), z = lT ps ∧ ps ≠ [] ∧ (∀ p ∈ ps, p ∈ Ch.every many) ∧ ps.length ≤ n
section
variable {P : Program} {w : World} {K : PySem.W.Frag} {mg : Str → Option Value} {base : Heap}
abbrev s_L_sh_any : Stmt := top 54
theorem sc_L_sh_any : FnScope ["state", "most", "many", "owner", "lone", "size", "proposers", "parts", "head"] ["state", "most"] (defScope s_L_sh_any) := ⟨rfl, rfl, rfl, by decide +kernel, rfl, by decide +kernel, by decide +kernel⟩
theorem ok_any {f : Addr} {fd : FuncData} (F : Fun K "_law_sh_any" "_law_sh_any" s_L_sh_any f fd) (T : Bi mg) (D_L_draw : Def P w K mg base "_law_draw" 2 ["state", "size_here"] spDraw) (D_L_pick : Def P w K mg base "_law_pick" 3 ["state", "several"] (spPick K))
    (D_L_mixed : Def P w K mg base "_law_mixed" 3 ["state", "several"] (spSt 6 D_mix R_mix)) (D_L_sh_sets : Def P w K mg base "_law_sh_sets" 1 ["many"] (spP R_sets)) (D_L_sh_least : Def P w K mg base "_law_sh_least" 2 ["parts"] (spP R_least))
    (D_L_sh_charter : Def P w K mg base "_law_sh_charter" 5 ["state", "most"] (spSt 24 D_char R_char)) :
    FnOk P w K mg base CX0 6 f fd ["state", "most"] (spSt 30 D_char R_char) := by
  obtain ⟨f_L_sh_least, fd_L_sh_least, G_L_sh_least, b_L_sh_least, k_L_sh_least, m_L_sh_least⟩ := D_L_sh_least.ex
  obtain ⟨f_L_draw, fd_L_draw, G_L_draw, b_L_draw, k_L_draw, m_L_draw⟩ := D_L_draw.ex
  obtain ⟨f_L_pick, fd_L_pick, G_L_pick, b_L_pick, k_L_pick, m_L_pick⟩ := D_L_pick.ex
  obtain ⟨f_L_sh_sets, fd_L_sh_sets, G_L_sh_sets, b_L_sh_sets, k_L_sh_sets, m_L_sh_sets⟩ := D_L_sh_sets.ex
  obtain ⟨f_L_mixed, fd_L_mixed, G_L_mixed, b_L_mixed, k_L_mixed, m_L_mixed⟩ := D_L_mixed.ex
  obtain ⟨f_L_sh_charter, fd_L_sh_charter, G_L_sh_charter, b_L_sh_charter, k_L_sh_charter, m_L_sh_charter⟩ := D_L_sh_charter.ex
  refine F.ok sc_L_sh_any (len_spSt fun ds ⟨ns, e, _⟩ => by rw [e]; rfl) (fun cdv A outer s H vs Q E hr h => ?_)
  obtain ⟨d, g, c, T0, N, us, ds, rfl, sb, fr, S, tb, rs, ⟨most, rfl, m3, m6⟩, k⟩ := h
  obtain ⟨v, rfl, r⟩ := rps1 rs
  have tb' : T0 + 30 ≤ TB := tb
  refine ⟨_, pss_cons (ps_if (PW.pt (pw_or (pt_cmpR (op_ltK K hr.units0) (pv 1) pe_int (nomark _)) (pw_or1 (pt_cmpR op_gt (pe_call G_L_draw (hr.mono (by decide)) rfl m_L_draw k_L_draw b_L_draw .nil pass0 (pa_cons (pv 0) (pa_cons pe_int pa_nil))) pe_int (nomark _))))) (pss_one (ps_ret (pe_call G_L_sh_charter (hr.mono (by decide)) rfl m_L_sh_charter k_L_sh_charter b_L_sh_charter .nil pass0 (pa_cons (pv 0) (pa_cons (pv 1) pa_nil))))) pss_nil)
      (pss_cons (ps_set (i := 2) sc_L_sh_any.nd rfl (Or.inl rfl) (pe_op (op_addK K) pe_int (pe_call G_L_draw (hr.mono (by decide)) rfl m_L_draw k_L_draw b_L_draw .nil pass0 (pa_cons (pv 0) (pa_cons (pe_op op_sub (pv 1) pe_int) pa_nil)))))
      (pss_cons (ps_asg (pe_tup (pa_cons (pe_call G_L_draw (hr.mono (by decide)) rfl m_L_draw k_L_draw b_L_draw .nil pass0 (pa_cons (pv 0) (pa_cons (pv 2) pa_nil))) (pa_cons (pe_call G_L_draw (hr.mono (by decide)) rfl m_L_draw k_L_draw b_L_draw .nil pass0 (pa_cons (pv 0) (pa_cons pe_int pa_nil))) pa_nil))) (pg_tupK K (n := 2) rfl (pgs_cons (pg_name (i := 3) sc_L_sh_any.nd rfl (Or.inr rfl)) (pgs_cons (pg_name (i := 4) sc_L_sh_any.nd rfl (Or.inl rfl)) pgs_nil))))
      (pss_cons (ps_set (i := 5) sc_L_sh_any.nd rfl (Or.inl rfl) (pe_op (op_addK K) pe_int (pe_call G_L_draw (hr.mono (by decide)) rfl m_L_draw k_L_draw b_L_draw .nil pass0 (pa_cons (pv 0) (pa_cons (pe_op op_sub (pv 2) pe_int) pa_nil)))))
      (pss_cons (ps_set (i := 6) sc_L_sh_any.nd rfl (Or.inl rfl) (pe_callTy (call_tupK K) (by rfl) T.tuple (by decide +kernel) (pa_cons (pe_callB (cr_sortIK K) (by rfl) T.sorted (by decide +kernel) (pa_cons (pe_slice (sl_lK K) (pe_call G_L_mixed (hr.mono (by decide)) rfl m_L_mixed k_L_mixed b_L_mixed .nil pass0 (pa_cons (pv 0) (pa_cons (pe_listRg rfl (by rfl) T.list (prg_1 (by rfl) T.range (pv 2))) pa_nil))) po_none (po_some (pv 5))) pa_nil)) pa_nil)))
      (pss_cons (ps_setLc (i := 7) (own := [("head", 8)]) rfl sc_L_sh_any.nd rfl rfl (sw_true rfl rfl rfl (by decide +kernel)) (pi_seqK K (pv 6)) (blkOk_by (own := [("head", 8)]) (N := ["state", "most", "many", "owner", "lone", "size", "proposers", "parts", "head"]) (sc := defScope s_L_sh_any) (by decide +kernel)) (fun _ _ _ _ _ => pg_name (i := 8) sc_L_sh_any.nd rfl (Or.inl rfl)) (fun _ _ _ _ _ => pts_nil) (fun _ _ _ _ _ => pe_callTy (call_tupK K) (by rfl) T.tuple (by decide +kernel) (pa_cons (pe_callB (cr_setIK w rfl) (by rfl) T.sorted (by decide +kernel) (pa_cons (pe_callTy (cr_setLK K w rfl) (by rfl) T.set (by decide +kernel) (pa_cons (pe_lst (pa_cons (pv 3) (pa_cons (pv 8) pa_nil))) pa_nil)) pa_nil)) pa_nil)))
      (pss_cons (ps_if (pt_cmpR (op_eqK K hr.units) (pv 4) pe_int (nomark _)) (pss_one (ps_set (i := 7) sc_L_sh_any.nd rfl (Or.inl rfl) (pe_lst (pa_cons (pe_tup (pa_cons (pv 3) pa_nil)) pa_nil)))) pss_nil)
      (pss_cons (ps_if (pt_cmpR (op_eqK K hr.units) (pe_call G_L_draw (hr.mono (by decide)) rfl m_L_draw k_L_draw b_L_draw .nil pass0 (pa_cons (pv 0) (pa_cons pe_int pa_nil))) pe_int (nomark _)) (pss_one (ps_set (i := 7) sc_L_sh_any.nd rfl (Or.inl rfl) (pe_op (op_addK K) (pv 7) (pe_lst (pa_cons (pe_call G_L_pick (hr.mono (by decide)) rfl m_L_pick k_L_pick b_L_pick .nil pass0 (pa_cons (pv 0) (pa_cons (pe_slice (sl_lK K) (pe_call G_L_sh_sets (hr.mono (by decide)) rfl m_L_sh_sets k_L_sh_sets b_L_sh_sets .nil pass0 (pa_cons (pv 2) pa_nil)) (po_some pe_int) po_none) pa_nil))) pa_nil))))) pss_nil)
      (pss_cons (ps_if (pt_cmpR (op_eqK K hr.units) (pe_call G_L_draw (hr.mono (by decide)) rfl m_L_draw k_L_draw b_L_draw .nil pass0 (pa_cons (pv 0) (pa_cons pe_int pa_nil))) pe_int (nomark _)) (pss_one (ps_set (i := 7) sc_L_sh_any.nd rfl (Or.inl rfl) (pe_ifExp (pt_cmpR op_gt (pe_callB (call_lenK K) (by rfl) T.len (by decide +kernel) (pa_cons (pv 7) pa_nil)) pe_int (nomark _)) (pe_slice (sl_lK K) (pv 7) (po_some pe_int) po_none) (pv 7)))) pss_nil)
      (pss_one (ps_ret (pe_tup (pa_cons (pv 2) (pa_cons (pv 6) (pa_cons (pe_call G_L_sh_least (hr.mono (by decide)) rfl m_L_sh_least k_L_sh_least b_L_sh_least .nil pass0 (pa_cons (pv 7) pa_nil)) pa_nil)))))))))))))), ?_⟩
  refine sq_if (n := 1 + 0) (st_or (dt_test (de_op (de_var rfl r) de_int r2_ltI)) (st_test (R := fun z => ∃ b, z = .bool b) (se_op (se_draw (m := 3) rfl de_int (by decide)) (SE.of (n := 0) (R := fun z => z = .int 0) de_int rfl) fun x y ⟨r, hx, _⟩ hy => ⟨.bool (decide (0 < r)), ⟨_, rfl⟩, by subst hx hy; exact r2_b⟩) fun z h => h)) fr sb S (by omega)
    (fun H1 k1 S1 f1 => ?_) fun H1 k1 S1 f1 => ?_
  · refine sq_ret (n := 24) (se_call rfl (da_cons (de_var rfl (r.up (Up.kp sb k1))) da_nil) ⟨most, rfl, m3, m6⟩) f1 sb S1 (by omega) fun v5 z H4 hz k4 S4 f4 r5 => ?_
    exact k _ _ H4 hz (k1.trans k4) (S4.mono (by omega)) r5
  have rv1 := r.up (Up.kp sb k1)
  refine sq_set (n := 0 + 1) (R := fun z => ∃ m : Nat, z = .int (m : Int) ∧ 3 ≤ m ∧ m ≤ 6) (se_op (SE.of (n := 0) (R := fun z => z = .int 3) de_int rfl) (se_draw (m := most - 2) rfl (de_op (de_var rfl rv1) de_int r2_i) (by omega)) fun x y hx ⟨r, hy, r0, r1⟩ => ⟨_, ⟨(3 + r).toNat, rfl, by omega, by omega⟩, by
    subst hx hy
    rw [Int.toNat_of_nonneg (by omega)]
    exact r2_addI⟩) f1 sb S1 (by omega) fun v2 z H2 hz k2 S2 f2 r2 => ?_
  obtain ⟨many, rfl, m1, mm6⟩ := hz
  refine sq_un2 (n := 2) (se_tup (sa_cons (se_draw (m := many) rfl (de_var rfl r2) (by omega)) (sa_cons (se_draw (m := 2) rfl de_int (by decide)) sa_nil)) (fun ds ⟨z, rs, e, _, z', rs', e', _, e''⟩ => by subst e'' e' e; simp)) f2 sb S2 (by omega)
    (fun ds ⟨z, rs, e, _, z', rs', e', _, e''⟩ => by subst e'' e' e; rfl) fun v3 v4 x y H3 hxy k3 S3 f3 r3 r4 => ?_
  obtain ⟨_, _, e1, ⟨ow, rfl, ow0, ow1⟩, _, _, e2, ⟨ln, rfl, ln0, ln1⟩, rfl⟩ := hxy
  subst e2
  cases e1
  have r23 := r2.up (Up.kp sb k3)
  refine sq_set (n := 0 + 1) (R := fun z => ∃ s : Nat, z = .int (s : Int) ∧ 1 ≤ s) (se_op (SE.of (n := 0) (R := fun z => z = .int 3) de_int rfl) (se_draw (m := many - 2) rfl (de_op (de_var rfl r23) de_int r2_i) (by omega)) fun x y hx ⟨r, hy, r0, r1⟩ => ⟨_, ⟨(3 + r).toNat, rfl, by omega⟩, by
    subst hx hy
    rw [Int.toNat_of_nonneg (by omega)]
    exact r2_addI⟩) f3 sb S3 (by omega) fun v5 z H4 hz k4 S4 f4 r5 => ?_
  obtain ⟨sz, rfl, sz1⟩ := hz
  have r24 := r23.up (Up.kp sb k4)
  have rl := de_listRg (te := tVar 2) (N := N) (H := H4) (σ := [some (.ref d), some v, some v2, some v3, some v4, some v5, none, none, none]) (i := (many : Int)) (de_var rfl r24) (by omega) (by omega)
  rw [Int.toNat_natCast] at rl
  refine sq_set (n := 6) (R := fun z => ∃ props : List Int, z = tI props ∧ (props ≠ [] ∧ props.Pairwise (· < ·) ∧ ∀ o ∈ props, 0 ≤ o ∧ o < many)) (se_cb (sa_cons (se_cb (sa_cons (se_slL (Rs := fun ds => ∃ ms : List Int, ds = ms.map PyData.int ∧ ms.Perm (Ch.rng many)) ((se_call rfl (da_cons rl da_nil) ⟨_, rfl, by rw [Ch.rng_len]; exact mm6⟩).imp ?_) do_none (do_some (de_var rfl r5))) sa_nil)
      (R := fun z => ∃ props : List Int, z = lI props ∧ (props ≠ [] ∧ props.Pairwise (· < ·) ∧ ∀ o ∈ props, 0 ≤ o ∧ o < many)) ?_) sa_nil) ?_) f4 sb S4 (by omega) fun v6 z H5 hz k5 S5 f5 r6 => ?_
  · rintro z ⟨ns, ms, e, rfl, pm⟩
    have e' : ns = Ch.rng many := by
      have := List.cons.inj e
      have := PyData.list.inj this.1
      exact (List.map_inj_right (fun a b h => PyData.int.inj h)).mp this.symm
    subst e'
    exact ⟨_, rfl, ms, rfl, pm⟩
  · rintro ds ⟨z, rs, rfl, ⟨ds, rfl, ms, rfl, pm⟩, rfl⟩
    refine ⟨_, ⟨srtI (ms.take sz), rfl, props_ok (by omega) pm sz1⟩, ?_⟩
    rw [cutD_to, ← List.map_take]
    exact rc_sortI
  · rintro ds ⟨z, rs, rfl, ⟨props, rfl, hp⟩, rfl⟩
    exact ⟨_, ⟨props, rfl, hp⟩, rk_tup⟩
  obtain ⟨props, rfl, hp⟩ := hz
  have pl : props.length ≤ 6 := Nat.le_trans (asc_len hp.2.1 hp.2.2) mm6
  have r35 := (r3.up (Up.kp sb k4)).up (Up.kp sb k5)
  have r45 := (r4.up (Up.kp sb k4)).up (Up.kp sb k5)
  have r25 := r24.up (Up.kp sb k5)
  have hpair : ∀ a ∈ props, usrtI [ow, a] ∈ Ch.every many := fun a ha => Ch.to_every (List.ne_nil_of_mem (mem_usrtI.mpr (List.mem_cons_self .. : ow ∈ [ow, a]))) (usrtI_pw _) fun o ho => by
    have := mem_usrtI.mp ho
    simp only [List.mem_cons, List.not_mem_nil, or_false] at this
    rcases this with rfl | rfl
    · exact ⟨ow0, ow1⟩
    · exact hp.2.2 _ ha
  refine dq_set (d := lT (props.map fun a => usrtI [ow, a])) ((de_lc0 (xs := props) (enc := PyData.int) (fun a => tI (usrtI [ow, a])) (di_seq (de_var rfl r6)) (by omega) fun a ha x' N' H' u rx =>
    de_cb (da_cons (de_usrtI (ns := [ow, a]) (de_lst (da_cons (de_var rfl (r35.up u)) (da_cons (de_var rfl rx) da_nil))) (by simp)) da_nil) rk_tup).is ?_) f5 fun v7 H6 s6 r7 => ?_
  · rw [lT, List.map_map]; rfl
  have k16 : Kp d g H5 H6 := Kp.of s6
  have S6 := S5.same s6
  have f6 := f5.same s6
  -- if lone == 1
  refine sq_ifA (n := 0) (m := 0) (R := OkP many 6) (st_of (dt_test (de_op (de_var rfl (r45.same s6)) de_int r2_eqI))) (SE.of (x := lT [[ow]]) (de_lst (da_cons (de_tup (da_cons (de_var rfl (r35.same s6)) da_nil)) da_nil)) ⟨[[ow]], rfl, by simp, fun p hp => by rw [List.mem_singleton.mp hp]; exact Ch.single_every ow0 ow1, by simp⟩)
    rfl r7 ⟨_, rfl, by simpa using hp.1, fun p hp => ?_, by rw [List.length_map]; exact pl⟩ f6 sb S6 (by omega) fun v7 z H7 hz k7 S7 f7 r7 => ?_
  · obtain ⟨a, ha, rfl⟩ := List.mem_map.mp hp
    exact hpair a ha
  obtain ⟨ps, rfl, pne, pin, pl6⟩ := hz
  have r27 := (r25.same s6).up (Up.kp sb k7)
  -- if _law_draw(state, 4) == 0: parts = parts + [..]
  refine sq_ifA (n := 1 + 0) (m := 0 + (1 + 0)) (R := OkP many 7) (st_test (R := fun z => ∃ b, z = .bool b) (se_op (se_draw (m := 4) rfl de_int (by decide)) (SE.of (n := 0) (R := fun z => z = .int 0) de_int rfl) fun x y ⟨r, hx, _⟩ hy => ⟨.bool (decide (r = 0)), ⟨_, rfl⟩, by subst hx hy; exact r2_eqI⟩) fun z h => h)
    (se_op (SE.of (n := 0) (R := fun z => z = lT ps) (de_var rfl r7) rfl) (se_lst (sa_cons (se_pick rfl (x := lT ((Ch.sets many).drop 1)) ((de_slL (de_call (da_cons (de_var rfl r27) da_nil) ⟨many, rfl, mm6, rfl⟩) (do_some de_int) do_none).is ?_) rfl ?_ ?_) sa_nil) (fun ds ⟨z, rs, e, _, e'⟩ => by subst e' e; simp)) ?_)
    rfl r7 ⟨ps, rfl, pne, pin, by omega⟩ f7 sb S7 (by omega) fun v7' z H8 hz k8 S8 f8 r8 => ?_
  · rw [lT, List.map_drop]; exact congrArg PyData.list (cutD_from _ 1)
  · simp only [ne_eq, List.map_eq_nil_iff]
    exact List.ne_nil_of_mem (Ch.mem_drop.mpr (Ch.mem_every.mp (Ch.single_every (many := many) (o := 0) (by omega) (by omega))))
  · rw [List.length_map]; have := drop_len mm6; omega
  · rintro x y rfl ⟨ds, rfl, z, rs, rfl, hz, rfl⟩
    obtain ⟨p, hp, rfl⟩ := List.mem_map.mp hz
    refine ⟨lT (ps ++ [p]), ⟨_, rfl, by simp, fun q hq => ?_, by rw [List.length_append]; simp; omega⟩, ?_⟩
    · rcases List.mem_append.mp hq with hq | hq
      · exact pin q hq
      · rw [List.mem_singleton.mp hq]
        exact Ch.mem_every.mpr (Ch.mem_drop.mp hp)
    · have := r2_addL (K := K) (xs := ps.map tI) (ys := [tI p]) (by rw [List.length_map]; simp; omega)
      have e : lT (ps ++ [p]) = .list (ps.map tI ++ [tI p]) := by rw [lT, List.map_append]; rfl
      rw [e]; exact this
  obtain ⟨ps2, rfl, pne2, pin2, pl2⟩ := hz
  -- if _law_draw(state, 4) == 0: parts = parts[1:]
  refine sq_ifA (n := 1 + 0) (m := 0) (R := OkP many 7) (st_test (R := fun z => ∃ b, z = .bool b) (se_op (se_draw (m := 4) rfl de_int (by decide)) (SE.of (n := 0) (R := fun z => z = .int 0) de_int rfl) fun x y ⟨r, hx, _⟩ hy => ⟨.bool (decide (r = 0)), ⟨_, rfl⟩, by subst hx hy; exact r2_eqI⟩) fun z h => h)
    (SE.of (x := lT (if 1 < ps2.length then ps2.drop 1 else ps2)) (de_if (b := decide ((1 : Int) < (ps2.length : Int))) (dt_test (de_op (de_cb (da_cons (de_var rfl r8) da_nil) rk_lenL) de_int r2_b)) (fun hb => (de_slL (de_var rfl r8) (do_some de_int) do_none).is ?_) fun hb => (de_var rfl r8).is ?_) ?_)
    rfl r8 ⟨ps2, rfl, pne2, pin2, pl2⟩ f8 sb S8 (by omega) fun v7'' z H9 hz k9 S9 f9 r9 => ?_
  · have hb := of_decide_eq_true hb
    rw [if_pos (by omega), lT, List.map_drop]; exact congrArg PyData.list (cutD_from _ 1)
  · have hb := of_decide_eq_false hb
    rw [if_neg (by omega)]
  · refine ⟨_, rfl, ?_, fun p hp => ?_, ?_⟩
    · split
      · intro e
        have := congrArg List.length e
        rw [List.length_drop, List.length_nil] at this
        omega
      · exact pne2
    · split at hp
      · exact pin2 p (List.mem_of_mem_drop hp)
      · exact pin2 p hp
    · split
      · rw [List.length_drop]; omega
      · exact pl2
  obtain ⟨ps3, rfl, pne3, pin3, pl3⟩ := hz
  have k69 := ((k16.trans k7).trans k8).trans k9
  have u59 := Up.kp sb k69
  refine sq_ret (n := 0) (SE.of (x := chD many props (leastOf ps3)) (R := R_char [.int most]) (de_tup (da_cons (de_var rfl (r25.up u59)) (da_cons (de_var rfl (r6.up u59)) (da_cons (de_call (da_cons (de_var rfl r9) da_nil) ⟨ps3, rfl, by omega, fun p h => ⟨(Ch.of_every (pin3 p h)).1, by have := asc_len (Ch.of_every (pin3 p h)).2.1 (Ch.of_every (pin3 p h)).2.2; omega⟩, rfl⟩) da_nil)))) ⟨_, _, _, rfl, ch2_of (by omega) mm6 hp (Ch.lots_ok pne3 pin3 (by omega))⟩) f9 sb S9 (by omega)
    fun v5 z H4 hz k4 S4 f4 r5 => ?_
  exact k _ _ H4 hz (((((k1.trans k2).trans k3).trans ‹Kp d g H3 _›).trans k5).trans (k69.trans k4)) (S4.mono (by omega)) r5
end
end Pu

namespace Pu
open PySem
/-- the deciders, as the law finds them -/
def dueOf (many : Nat) (props : List Int) (lots : List (List Int)) : List Int := (Ch.rng many).filter fun o => (splL many props).all fun row => decide (Ch.heads props lots row = [Ch.at_ row o])
section
variable {many : Nat} {props : List Int} {lots : List (List Int)}
theorem mem_dcd (C : Ch.Charter many props lots) {o : Int} : o ∈ dcdOf many props lots ↔ (0 ≤ o ∧ o < many) ∧ Ch.Dcd many props lots o := by
  unfold dcdOf
  rw [List.mem_filter, Ch.mem_rng, List.all_eq_true]
  refine and_congr_right fun _ => ⟨fun h row hr => by simpa using h row ((mem_spl C).mpr hr), fun h row hr => by simpa using h row ((mem_spl C).mp hr)⟩
theorem due_eq (C : Ch.Charter many props lots) : dueOf many props lots = dcdOf many props lots := by
  unfold dueOf dcdOf
  refine List.filter_congr fun o _ => ?_
  rw [Bool.eq_iff_iff, List.all_eq_true, List.all_eq_true]
  exact ⟨fun h row hr => h row ((mem_splL C).mpr ((mem_spl C).mp hr)), fun h row hr => h row ((mem_spl C).mpr ((mem_splL C).mp hr))⟩
theorem torn_iff (C : Ch.Charter many props lots) : (tornOf many props lots).isNone = true ↔ Ch.Sure many props lots := by
  rw [Option.isNone_iff_eq_none, tornOf, List.find?_eq_none]
  exact ⟨fun h row hr => by simpa using h row ((mem_spl C).mpr hr), fun h row hr => by simpa using h row ((mem_spl C).mp hr)⟩
theorem dcd_asc : (dcdOf many props lots).Pairwise (· < ·) := (rng_asc many).filter _
theorem f2 (C : Ch.Charter many props lots) (h : props.length = 1) : (tornOf many props lots).isNone = true ∧ dcdOf many props lots = Ch.rng many := by
  obtain ⟨p, rfl⟩ := List.length_eq_one_iff.mp h
  have key : ∀ row, Ch.Split many [p] row → Ch.heads [p] lots row = [p] ∧ ∀ o : Int, 0 ≤ o → o < many → Ch.at_ row o = p := fun row S => by
    have at1 : ∀ o : Int, 0 ≤ o → o < many → Ch.at_ row o = p := fun o a b => by simpa using S.ins _ (Ch.at_mem a (by rw [S.len]; exact b))
    refine ⟨?_, at1⟩
    unfold Ch.heads
    rw [List.filter_cons, if_pos (Ch.has_all C fun o a b => by rw [at1 o a b]; simp)]; rfl
  refine ⟨(torn_iff C).mpr fun row S => by rw [(key row S).1]; rfl, Ch.usrtI_eq dcd_asc (rng_asc many) fun o => ?_⟩
  rw [mem_dcd C, Ch.mem_rng]
  exact ⟨fun h => h.1, fun h => ⟨h, fun row S => by rw [(key row S).1, (key row S).2 o h.1 h.2]⟩⟩
theorem f3 {p q : Int} (C : Ch.Charter many [p, q] lots) : (tornOf many [p, q] lots).isNone = Ch.parted many p q lots := by
  rw [Bool.eq_iff_iff, torn_iff C, Ch.two_iff C]
theorem f4 (C : Ch.Charter many props lots) (h : 2 ≤ props.length) : (dcdOf many props lots).length ≤ 1 := by
  have asc := dcd_asc (many := many) (props := props) (lots := lots)
  have mem := fun o => mem_dcd C (o := o)
  generalize dcdOf many props lots = l at *
  match l, asc, mem with
  | [], _, _ => simp
  | [a], _, _ => simp
  | a :: b :: r, asc, mem =>
    have ha := (mem a).mp (by simp)
    have hb := (mem b).mp (by simp)
    have := Ch.dcd_uniq C h ha.1.1 ha.1.2 hb.1.1 hb.1.2 ha.2 hb.2
    have := (List.pairwise_cons.mp asc).1 b (by simp)
    omega
theorem f5 (C : Ch.Charter many props lots) (h : 3 ≤ props.length) : (tornOf many props lots).isNone = !(dcdOf many props lots).isEmpty := by
  rw [Bool.eq_iff_iff, torn_iff C]
  constructor
  · intro U
    obtain ⟨d, d0, d1, D⟩ := Ch.decider_ex C U h
    have : d ∈ dcdOf many props lots := (mem_dcd C).mpr ⟨⟨d0, d1⟩, Ch.dec_dcd C U d0 d1 D⟩
    cases e : dcdOf many props lots with
    | nil => rw [e] at this; cases this
    | cons a r => rfl
  · intro e
    cases e2 : dcdOf many props lots with
    | nil => rw [e2] at e; cases e
    | cons a r =>
      have : a ∈ dcdOf many props lots := by rw [e2]; simp
      exact Ch.dcd_sure ((mem_dcd C).mp this).2
theorem f6 (C : Ch.Charter many props lots) (h : 3 ≤ props.length) {d : Int} {r : List Int} (e : dcdOf many props lots = d :: r) {head : Int} (hh : head ∈ props) : (Ch.has lots fun o => decide (o ∈ [head, d])) = true := by
  have : d ∈ dcdOf many props lots := by rw [e]; simp
  obtain ⟨b, D⟩ := (mem_dcd C).mp this
  refine Ch.has_mono C (fun o _ _ z => ?_) (Ch.dcd_dec C h b.1 b.2 D head hh)
  simpa using z
end
end Pu

namespace Pu
open PySem PySem.Spec PyProof.Rows L2
/-! ### calls by a keyword alone -/
section
variable {X : Cx} {CX : CXT} {k : Nat} {f : Addr} {fd : FuncData} {ps ks : List Str} {sp : Sp} {E : XK} {x : Str} {p pos : Pos} {kws : List Keyword} {tk : TA} {g : List Value → List Value → List Value} {gV : List V → List V → List V}
theorem pe_callKw (F : FnOk X.prog X.w X.K X.mg X.base CX k f fd ps sp) (hr : Room k X.A) (hg : Gl X x) (hm : X.mg x = some (.ref f)) (hk : PySem.W.keepIn X.K (.ref f) = true) (hb : KBinds X.K fd ps ks g gV) (hx : Passes CX X E)
    (hkw : PK X kws tk) (hall : (backToKw pos (keywordEach kws X.env)).all (·.1.isSome) = true := by rfl) (hks : (backToKw pos (keywordEach kws X.env)).filterMap (·.1) = ks := by rfl) (hdb : (x == ("__debug__" : Str)) = false := by decide)
    (hpl : ((backTo pos (starEach [] X.env)).any (·.1) || (backToKw pos (keywordEach kws X.env)).any (·.1.isNone)) = false := by rfl) : PE X (.Call (.Name x p) [] kws pos) (tCallK sp gV E tNil tk) := by
  refine ⟨fun pn s σ H Q I h => wpAny_Call_Name_kw (ld_glob I hg hm ?_ hdb)⟩
  refine PySem.W.callWith_KW0 (h₀ := X.base) I.ok.mod.kin hk hall (thn (hkw.run pos pn s σ H _ I h) fun ws t ⟨zs, G, J, rz, q⟩ => ⟨J.kIn, ?_⟩) hpl
  rw [hks]
  exact run_fnk (us := []) (vs := []) F hr hb hx J .nil rz q
end
def g1 : List Value → List Value → List Value := fun us ws => match us with
  | [] => ws
  | _ => []
def gV1 : List V → List V → List V := fun us ws => match us with
  | [] => ws
  | _ => []
theorem kb1 {K : PySem.W.Frag} {fd : FuncData} {p : Str} (h : ∀ w : Value, bindArgs fd ⟨[], [(p, w)]⟩ = pure [(p, w)]) : KBinds K fd [p] [p] g1 gV1 where
  to := fun s us ws _ hl => by
    match us, ws, hl with
    | [], [w], _ => exact .of_eq (h w)
  rel := fun {vs us zs ws} r q => by
    cases r with
    | nil => exact q
    | cons _ _ => exact .nil
theorem de_callK {N : NP} {σ : L2.St} {H : Hp} {R : List PyData → PyData → Prop} {E : XK} {tk : TA} {ds : List PyData} {d : PyData} (h : DA N tk σ H ds) (r : R ds d) : DE N (tCallK (spP R) gV1 E tNil tk) σ H d := fun N1 H1 u f Q q =>
  h N1 H1 u f _ fun vs H2 s2 r2 => ⟨N1, ds, d, f.same s2, r2, r, fun v H3 s3 r3 => q v H3 (s2.trans s3) r3⟩
structure DefK (P : Program) (w : World) (K : PySem.W.Frag) (mg : Str → Option Value) (base : Heap) (x : Str) (lv : Nat) (ps : List Str) (sp : Sp) : Prop where
  ex : ∃ (f : Addr) (fd : FuncData), FnOk P w K mg base CX0 lv f fd ps sp ∧ KBinds K fd ps ps g1 gV1 ∧ PySem.W.keepIn K (.ref f) = true ∧ mg x = some (.ref f)
end Pu

namespace Pu
open PySem PySem.Spec PyProof.Rows L2
def soo (many : Nat) : List (List Int) := (List.range (2 ^ many)).map fun m => (Ch.rng many).filter fun o => Ch.bitN m o.toNat
def canB (props : List Int) (lots : List (List Int)) (ns : List Int) : Bool := (props.any fun p => decide (p ∈ ns)) && Ch.has lots fun o => decide (o ∈ ns)
def ones (ns : List Int) : List (List Int) := (List.range ns.length).map fun i => ns.eraseIdx i
def meetB (ns : List Int) (sets : List (List Int)) : Bool := sets.all fun one => one.any fun o => decide (o ∈ ns)
def minOf (many : Nat) (f : List Int → Bool) : List (List Int) := srtL ((soo many).filter fun ns => f ns && !((ones ns).any f))
def payOf (many : Nat) (props : List Int) (lots : List (List Int)) : List (List Int) := minOf many (canB props lots)
def stopOf (many : Nat) (props : List Int) (lots : List (List Int)) : List (List Int) := minOf many fun ns => meetB ns (payOf many props lots)
def R_soo : List PyData → PyData → Prop := fun ds d => ∃ many : Nat, ds = [.int (many : Int)] ∧ many ≤ 6 ∧ d = lT (soo many)
def R_can : List PyData → PyData → Prop := fun ds d => ∃ many props lots x, ∃ ns : List Int, ds = [chD many props lots, x] ∧ itemsD x = some (ns.map PyData.int) ∧ Ch2 many props lots ∧ d = .bool (canB props lots ns)
def R_ones : List PyData → PyData → Prop := fun ds d => ∃ ns : List Int, ds = [tI ns] ∧ ns.length ≤ 1000 ∧ d = lT (ones ns)
def R_meet : List PyData → PyData → Prop := fun ds d => ∃ (x y : PyData) (ns : List Int) (sets : List (List Int)), ds = [x, y] ∧ itemsD x = some (ns.map PyData.int) ∧ itemsD y = some (sets.map tI) ∧ sets.length ≤ 1000 ∧ (∀ s ∈ sets, s.length ≤ 1000) ∧ d = .bool (meetB ns sets)
def R_pay : List PyData → PyData → Prop := fun ds d => ∃ many props lots, ds = [chD many props lots] ∧ Ch2 many props lots ∧ d = tT (payOf many props lots)
def R_stop : List PyData → PyData → Prop := fun ds d => ∃ many props lots, ds = [chD many props lots] ∧ Ch2 many props lots ∧ d = tT (stopOf many props lots)
theorem soo_len (many : Nat) : (soo many).length = 2 ^ many := by simp [soo]
theorem soo_le {many : Nat} (m6 : many ≤ 6) : (soo many).length ≤ 64 := by rw [soo_len]; exact Nat.pow_le_pow_right (by decide) m6
theorem soo_one {many : Nat} {ns : List Int} (h : ns ∈ soo many) : ns.Pairwise (· < ·) ∧ ∀ o ∈ ns, 0 ≤ o ∧ o < many := by
  obtain ⟨m, _, rfl⟩ := List.mem_map.mp h
  exact ⟨(rng_asc many).filter _, fun o ho => Ch.mem_rng.mp (List.mem_filter.mp ho).1⟩
theorem can_nil {many : Nat} {props : List Int} {lots : List (List Int)} (C : Ch2 many props lots) : canB props lots [] = false := by
  unfold canB
  rw [Ch.has_none C.c fun o _ _ => by simp, Bool.and_false]
section
variable {P : Program} {w : World} {K : PySem.W.Frag} {mg : Str → Option Value} {base : Heap}
abbrev s_sets_of_owners : Stmt := top 32
theorem sc_sets_of_owners : FnScope ["many", "sets", "mask", "owner"] ["many"] (defScope s_sets_of_owners) := ⟨rfl, rfl, rfl, by decide +kernel, rfl, by decide +kernel, by decide +kernel⟩
theorem ok_soo {f : Addr} {fd : FuncData} (F : Fun K "sets_of_owners" "sets_of_owners" s_sets_of_owners f fd) (T : Bi mg) : FnOk P w K mg base CX0 1 f fd ["many"] (spP R_soo) := by
  refine F.ok sc_sets_of_owners (len_spP (fun ds d ⟨many, e, _⟩ => by rw [e]; rfl)) (fun cdv A outer s H vs Q E hr h => ?_)
  obtain ⟨N, ds, d, fr, rs, ⟨many, rfl, m6, rfl⟩, k⟩ := h
  obtain ⟨v, rfl, r⟩ := rps1 rs
  have e2 : (1 * 2 ^ ((many : Nat) : Int).toNat : Int).toNat = 2 ^ many := by
    rw [Int.one_mul, Int.toNat_natCast]
    have : (2 : Int) ^ many = ((2 ^ many : Nat) : Int) := by simp
    rw [this, Int.toNat_natCast]
  have hM : 2 ^ many ≤ 64 := Nat.pow_le_pow_right (by decide) m6
  have hMi : (1 * 2 ^ ((many : Nat) : Int).toNat : Int) = ((2 ^ many : Nat) : Int) := by
    rw [Int.one_mul, Int.toNat_natCast]; simp
  refine ⟨_, pss_cons (ps_set (i := 1) sc_sets_of_owners.nd rfl (Or.inl rfl) (pe_lst pa_nil))
      (pss_cons (ps_for PassesOwn.never rfl (pi_range1 rfl T.range (pa_cons (pe_op op_shl pe_int (pv 0)) pa_nil)) (pg_name (i := 2) sc_sets_of_owners.nd rfl (Or.inr rfl)) (pss_one (ps_expr (pe_bm PySem.F.plainAttrs_list PySem.F.slot_list_append PySem.F.type_list_append mt_append (pv 1) (pa_cons (pe_callTy (call_tupK K) (by rfl) T.tuple (by decide +kernel) (pa_cons (pe_lc (own := [("owner", 3)]) rfl sc_sets_of_owners.nd (pi_range1 rfl T.range (pa_cons (pv 0) pa_nil)) (blkOk_by (own := [("owner", 3)]) (N := ["many", "sets", "mask", "owner"]) (sc := defScope s_sets_of_owners) (by decide +kernel)) (fun _ _ _ _ _ => pg_name (i := 3) sc_sets_of_owners.nd rfl (Or.inl rfl)) (fun _ _ _ _ _ => pts_one (pt_truK K (pe_op op_and (pe_op op_shr (pv 2) (pv 3)) pe_int) (fun _ => rfl))) (fun _ _ _ _ _ => pv 3)) pa_nil)) pa_nil)))))
      (pss_one (ps_ret (pv 1)))), ?_⟩
  refine dq_new fr fun p H1 hp w1 => ?_
  refine df_forS (N := fun a => N a ∧ a ≠ p) (xs := Ch.rng (2 ^ many)) (enc := PyData.int) (by
      have := di_rng (N := fun a => N a ∧ a ≠ p) (σ := [some v, some (.ref p), none, none]) (H := H1) (ta := tCons (tOp (rI CPow fun i j => .int (i * 2 ^ j.toNat)) (tC (.int 1)) (tVar 0)) tNil)
        (i := (1 * 2 ^ ((many : Nat) : Int).toNat : Int)) (da_cons (de_op de_int (de_var rfl (r.up w1.up)) (r2_ic ⟨by omega, by omega, by decide⟩)) da_nil) (by omega) (by omega)
      rwa [e2] at this) w1.fr fun H2 s2 => ?_
  have w2 := w1.go s2
  refine ⟨fun i σ' H' => (∃ o2 o3, σ' = [some v, some (.ref p), o2, o3]) ∧ Up (fun a => N a ∧ a ≠ p) H2 (fun a => N a ∧ a ≠ p) H' ∧ InD N H p H' ((((List.range i).map fun m => (Ch.rng many).filter fun o => Ch.bitN m o.toNat)).map tI),
    ⟨⟨_, _, rfl⟩, Up.refl _ _, w2⟩, fun i σ' H' ⟨_, u, w⟩ => ⟨u, w.fr⟩, ?_, ?_⟩
  · rintro i hi x σ' H' H3 ⟨⟨o2, o3, rfl⟩, u3, w3⟩ s3 rx
    rw [rng_at hi] at rx
    have hi' : i < 2 ^ many := by rw [Ch.rng_len] at hi; exact hi
    have w4 := w3.go s3
    have u4 := u3.same s3
    refine dq_app w4 hp rfl (d := tI ((Ch.rng many).filter fun o => Ch.bitN i o.toNat)) (de_cb (da_cons ((de_lc (xs := Ch.rng many) (enc := PyData.int) (fun o => Ch.bitN i o.toNat) (fun o => .int o) ?_ (by rw [Ch.rng_len]; omega)
      fun o ho x' N' H'' u' rx' => ⟨(dt_truI (de_op (de_op (de_var rfl (rx.up u')) (de_var rfl rx') (r2_ic (by have := Ch.mem_rng.mp ho; omega))) de_int r2_i)).is ?_, fun _ => de_var rfl rx'⟩).is rfl) da_nil) rk_tup) ?_ fun H5 w5 u5 => ⟨⟨_, _, rfl⟩, u4.trans u5, ?_⟩
    · have := di_rng (N := fun a => N a ∧ a ≠ p) (σ := [some v, some (.ref p), some x, none]) (H := H3) (i := (many : Int)) (da_cons (de_var (i := 0) rfl (r.up w4.up)) da_nil) (by omega) (by omega)
      rwa [Int.toNat_natCast] at this
    · have b := Ch.mem_rng.mp ho
      have e : o = ((o.toNat : Nat) : Int) := by omega
      rw [e]
      exact bit_eq i o.toNat
    · rw [List.length_map, List.length_map, List.length_range]; omega
    · rw [List.range_succ, List.map_append, List.map_append]
      exact w5
  · rintro σ' H' ⟨⟨o2, o3, rfl⟩, u3, w3⟩
    rw [Ch.rng_len] at w3
    exact dq_ret (de_var rfl (w3.rp hp fr)) w3.frN fun v H4 s4 r4 => k v H4 (w3.same.trans s4) r4
abbrev s_can_pay : Stmt := top 31
theorem sc_can_pay : FnScope ["charter", "owners", "proposer"] ["charter", "owners"] (defScope s_can_pay) := ⟨rfl, rfl, rfl, by decide +kernel, rfl, by decide +kernel, by decide +kernel⟩
theorem ok_can_pay {f : Addr} {fd : FuncData} (F : Fun K "can_pay" "can_pay" s_can_pay f fd) (T : Bi mg) (D_has_lot : Def P w K mg base "has_lot" 2 ["charter", "owners"] (spP R_haslot)) : FnOk P w K mg base CX0 3 f fd ["charter", "owners"] (spP R_can) := by
  obtain ⟨f_has_lot, fd_has_lot, G_has_lot, b_has_lot, k_has_lot, m_has_lot⟩ := D_has_lot.ex
  refine F.ok sc_can_pay (len_spP (fun ds d ⟨many, props, lots, x, ns, e, _⟩ => by rw [e]; rfl)) (fun cdv A outer s H vs Q E hr h => ?_)
  obtain ⟨N, ds, d, fr, rs, ⟨many, props, lots, x, ns, rfl, hx, C, rfl⟩, k⟩ := h
  obtain ⟨v, u, rfl, r1, r2⟩ := rps2 rs
  have pl6 : props.length ≤ 6 := Nat.le_trans (asc_len C.c.pasc C.c.pin) C.c.m6
  refine ⟨_, pss_one (ps_ret (pe_and (pe_callB (cr_anyK K rfl) (by rfl) T.any (by decide +kernel) (pa_cons (pe_lc (own := [("proposer", 2)]) rfl sc_can_pay.nd (pi_seqK K (pe_ix (ix_K K) (pv 0) pe_int (fun _ _ => rfl))) (blkOk_by (own := [("proposer", 2)]) (N := ["charter", "owners", "proposer"]) (sc := defScope s_can_pay) (by decide +kernel)) (fun _ _ _ _ _ => pg_name (i := 2) sc_can_pay.nd rfl (Or.inl rfl)) (fun _ _ _ _ _ => pts_nil) (fun _ _ _ _ _ => pe_cmpR (op_inK K) (pv 2) (pv 1) rfl)) pa_nil)) (pe_one (pe_call G_has_lot (hr.mono (by decide)) rfl m_has_lot k_has_lot b_has_lot .nil pass0 (pa_cons (pv 0) (pa_cons (pv 1) pa_nil)))))), ?_⟩
  exact dq_ret (de_andV (de_anyM (xs := props) (g := fun p => decide (p ∈ ns)) (da_cons (de_lc0 (xs := props) (enc := PyData.int) (fun p => .bool (decide (p ∈ ns))) (di_seq (de_op (de_var (i := 0) rfl r1) de_int (r2_ix (K := K) (i := 1) (z := tI props) rfl))) (by omega)
    fun a ha x' N' H' u' rx => de_op (de_var rfl rx) (de_var rfl (r2.up u')) (r2_in hx)) da_nil)) fun _ => de_call (da_cons (de_var rfl r1) (da_cons (de_var rfl r2) da_nil)) ⟨many, props, lots, x, ns, rfl, hx, C, rfl⟩) fr k
abbrev s_without_one : Stmt := top 33
theorem sc_without_one : FnScope ["owners", "at"] ["owners"] (defScope s_without_one) := ⟨rfl, rfl, rfl, by decide +kernel, rfl, by decide +kernel, by decide +kernel⟩
theorem ok_without_one {f : Addr} {fd : FuncData} (F : Fun K "without_one" "without_one" s_without_one f fd) (T : Bi mg) : FnOk P w K mg base CX0 1 f fd ["owners"] (spP R_ones) := by
  refine F.ok sc_without_one (len_spP (fun ds d ⟨ns, e, _⟩ => by rw [e]; rfl)) (fun cdv A outer s H vs Q E hr h => ?_)
  obtain ⟨N, ds, d, fr, rs, ⟨ns, rfl, hl, rfl⟩, k⟩ := h
  obtain ⟨v, rfl, r⟩ := rps1 rs
  refine ⟨_, pss_one (ps_ret (pe_lc (own := [("at", 1)]) rfl sc_without_one.nd (pi_range1 rfl T.range (pa_cons (pe_callB (call_lenK K) (by rfl) T.len (by decide +kernel) (pa_cons (pv 0) pa_nil)) pa_nil)) (blkOk_by (own := [("at", 1)]) (N := ["owners", "at"]) (sc := defScope s_without_one) (by decide +kernel)) (fun _ _ _ _ _ => pg_name (i := 1) sc_without_one.nd rfl (Or.inl rfl)) (fun _ _ _ _ _ => pts_nil) (fun _ _ _ _ _ => pe_op (op_addK K) (pe_slice (sl_tK K) (pv 0) po_none (po_some (pv 1))) (pe_slice (sl_tK K) (pv 0) (po_some (pe_op (op_addK K) (pv 1) pe_int)) po_none)))), ?_⟩
  refine dq_ret ((de_lc0 (xs := Ch.rng ns.length) (enc := PyData.int) (fun o => tI (ns.eraseIdx o.toNat)) ?_ (by rw [Ch.rng_len]; omega) fun o ho x' N' H' u' rx => ?_).is ?_) fr k
  · have := di_rng (N := N) (H := H) (i := (ns.length : Int)) (σ := L2.start ["owners", "at"] [v]) (da_cons (de_cb (da_cons (de_var (i := 0) rfl r) da_nil) (rk_lenT (K := K))) da_nil) (by omega) (by omega)
    rwa [Int.toNat_natCast] at this
  · have b := Ch.mem_rng.mp ho
    obtain ⟨i, rfl⟩ : ∃ i : Nat, o = (i : Int) := ⟨o.toNat, by omega⟩
    have e1 : (i : Int) + 1 = ((i + 1 : Nat) : Int) := by omega
    refine (de_op (de_slT (de_var rfl (r.up u')) do_none (do_some (de_var rfl rx))) (de_slT (de_var rfl (r.up u')) (do_some ((de_op (de_var rfl rx) de_int r2_addI).is (congrArg PyData.int e1))) do_none) (r2_addT ?_)).is ?_
    · rw [cutD_to, cutD_from, List.length_take, List.length_drop, List.length_map]; omega
    · rw [cutD_to, cutD_from, Int.toNat_natCast, List.eraseIdx_eq_take_drop_succ, tI, List.map_append, List.map_take, List.map_drop]
  · unfold ones Ch.rng
    rw [List.map_map, lT, List.map_map]; rfl
abbrev s_meets_all : Stmt := top 36
theorem sc_meets_all : FnScope ["owners", "sets", "owner", "one"] ["owners", "sets"] (defScope s_meets_all) := ⟨rfl, rfl, rfl, by decide +kernel, rfl, by decide +kernel, by decide +kernel⟩
theorem ok_meets_all {f : Addr} {fd : FuncData} (F : Fun K "meets_all" "meets_all" s_meets_all f fd) (T : Bi mg) : FnOk P w K mg base CX0 1 f fd ["owners", "sets"] (spP R_meet) := by
  refine F.ok sc_meets_all (len_spP (fun ds d ⟨x, y, ns, sets, e, _⟩ => by rw [e]; rfl)) (fun cdv A outer s H vs Q E hr h => ?_)
  obtain ⟨N, ds, d, fr, rs, ⟨x, y, ns, sets, rfl, hx, hy, hl, hll, rfl⟩, k⟩ := h
  obtain ⟨v, u, rfl, r1, r2⟩ := rps2 rs
  refine ⟨_, pss_one (ps_ret (pe_callB (cr_allK K rfl) (by rfl) T.all (by decide +kernel) (pa_cons (pe_lc (own := [("one", 3)]) rfl sc_meets_all.nd (pi_seqK K (pv 1)) (blkOk_by (own := [("one", 3)]) (N := ["owners", "sets", "owner", "one"]) (sc := defScope s_meets_all) (by decide +kernel)) (fun _ _ _ _ _ => pg_name (i := 3) sc_meets_all.nd rfl (Or.inl rfl)) (fun _ _ _ _ _ => pts_nil) (fun _ _ _ _ _ => pe_callB (cr_anyK K rfl) (by rfl) T.any (by decide +kernel) (pa_cons (pe_lc (own := [("owner", 2)]) rfl sc_meets_all.nd (pi_seqK K (pv 3)) (blkOk_by (own := [("owner", 2)]) (N := ["owners", "sets", "owner", "one"]) (sc := { kind := PySem.ScopeKind.function, names := [ (PySem.Str.ofString ".0", PySem.NameKind.local), (PySem.Str.ofString "one", PySem.NameKind.local), (PySem.Str.ofString "any", PySem.NameKind.globalImplicit), (PySem.Str.ofString "owners", PySem.NameKind.cell)], isGenerator := false, isCoroutine := false, more := [] : PySem.Scope }) (by decide +kernel)) (fun _ _ _ _ _ => pg_name (i := 2) sc_meets_all.nd rfl (Or.inl rfl)) (fun _ _ _ _ _ => pts_nil) (fun _ _ _ _ _ => pe_cmpR (op_inK K) (pv 2) (pv 0) rfl)) pa_nil))) pa_nil))), ?_⟩
  exact dq_ret (de_allM (xs := sets) (g := fun one => one.any fun o => decide (o ∈ ns)) (da_cons (de_lc0 (xs := sets) (enc := tI) (fun one => .bool (one.any fun o => decide (o ∈ ns))) (di_seq (de_var rfl r2) hy) (by omega)
    fun a ha x' N' H' u' rx => de_anyM (xs := a) (g := fun o => decide (o ∈ ns)) (da_cons (de_lc0 (xs := a) (enc := PyData.int) (fun o => .bool (decide (o ∈ ns))) (di_seq (de_var rfl rx)) (by have := hll a ha; omega)
      fun o ho y' N'' H'' u'' ry => de_op (de_var rfl ry) (de_var rfl ((r1.up u').up u'')) (r2_in hx)) da_nil)) da_nil)) fr k
end
end Pu

namespace Pu
open Ch
theorem perm_of {α : Type} [DecidableEq α] : ∀ {a b : List α}, a.Nodup → (∀ x ∈ a, x ∈ b) → b.length ≤ a.length → a.Perm b
  | [], b, _, _, l => by
    have : b = [] := List.eq_nil_of_length_eq_zero (by simpa using l)
    rw [this]
  | x :: t, b, n, h, l => by
    rw [List.nodup_cons] at n
    have hx := h x (by simp)
    have pe := List.perm_cons_erase hx
    have := perm_of (a := t) (b := b.erase x) n.2 (fun y hy => (List.mem_erase_of_ne (by rintro rfl; exact n.1 hy)).mpr (h y (by simp [hy]))) (by rw [List.length_erase_of_mem hx]; simp at l; omega)
    exact (this.cons x).trans pe.symm
theorem sets_nodup : ∀ n, (sets n).Nodup
  | 0 => List.pairwise_singleton _ _
  | n + 1 => by
    rw [sets, List.nodup_append]
    refine ⟨sets_nodup n, ?_, ?_⟩
    · unfold List.Nodup
      rw [List.pairwise_map]
      exact (sets_nodup n).imp fun h e => h (List.append_cancel_right e)
    · rintro a ha b hb rfl
      obtain ⟨q, hq, rfl⟩ := List.mem_map.mp hb
      have := (sets_one n _ ha).2 n (by simp)
      omega
theorem asc_eq {a b : List Int} (h : a.Pairwise (· < ·)) (g : b.Pairwise (· < ·)) (m : ∀ k, k ∈ a ↔ k ∈ b) : a = b := usrtI_eq h g m
theorem mem_sets {many : Nat} {p : List Int} : p ∈ sets many ↔ p.Pairwise (· < ·) ∧ ∀ o ∈ p, 0 ≤ o ∧ o < many := ⟨sets_one many p, fun h => sets_all many p h.1 h.2⟩
theorem mem_soo {many : Nat} {p : List Int} : p ∈ soo many ↔ p ∈ sets many := by
  rw [mem_sets]
  refine ⟨soo_one, fun h => ?_⟩
  obtain ⟨m, hm, hq⟩ := mask_ex (fun o => decide (o ∈ p)) (rng many)
  rw [rng_len] at hm
  refine List.mem_map.mpr ⟨m, List.mem_range.mpr hm, asc_eq ((rng_asc many).filter _) h.1 fun k => ?_⟩
  rw [List.mem_filter, mem_rng]
  constructor
  · rintro ⟨b, e⟩
    have := (hq k.toNat k (by rw [rng_get (by omega)]; congr 1; omega)).mp (by unfold bitN at e; simpa using e)
    simpa using this
  · intro hk
    have b := h.2 k hk
    refine ⟨b, ?_⟩
    have := (hq k.toNat k (by rw [rng_get (by omega)]; congr 1; omega)).mpr (by simpa using hk)
    unfold bitN
    simpa using this
theorem soo_nodup (many : Nat) : (soo many).Nodup :=
  (perm_of (sets_nodup many) (fun x hx => mem_soo.mpr hx) (by rw [soo_len, sets_len]; exact Nat.le_refl _)).nodup_iff.mp (sets_nodup many)
def Mono (many : Nat) (f : List Int → Bool) : Prop := ∀ a ∈ sets many, ∀ b ∈ sets many, (∀ o ∈ a, o ∈ b) → f a = true → f b = true
section
variable {many : Nat} {f : List Int → Bool}
theorem mem_minOf {p : List Int} : p ∈ minOf many f ↔ p ∈ sets many ∧ f p = true ∧ ∀ x ∈ ones p, f x = false := by
  unfold minOf
  rw [(srtL_perm _).mem_iff, List.mem_filter, mem_soo, Bool.and_eq_true, Bool.not_eq_true', List.any_eq_false]
  simp
theorem ones_sets {p x : List Int} (hp : p ∈ sets many) (hx : x ∈ ones p) : x ∈ sets many ∧ x ≠ p ∧ ∀ o ∈ x, o ∈ p := by
  obtain ⟨i, hi, rfl⟩ := List.mem_map.mp hx
  have hi := List.mem_range.mp hi
  have h := mem_sets.mp hp
  have sl := List.eraseIdx_sublist p i
  refine ⟨mem_sets.mpr ⟨h.1.sublist sl, fun o ho => h.2 o (sl.subset ho)⟩, fun e => ?_, fun o ho => sl.subset ho⟩
  have := congrArg List.length e
  rw [List.length_eraseIdx_of_lt hi] at this
  omega
theorem ones_below {p q : List Int} (hp : p ∈ sets many) (hq : q ∈ sets many) (n : q ≠ p) (s : ∀ o ∈ q, o ∈ p) : ∃ x ∈ ones p, ∀ o ∈ q, o ∈ x := by
  have h := mem_sets.mp hp
  have g := mem_sets.mp hq
  have : ∃ o ∈ p, o ∉ q := by
    by_cases z : ∃ o ∈ p, o ∉ q
    · exact z
    · exact absurd (asc_eq g.1 h.1 fun k => ⟨s k, fun hk => by
        by_cases y : k ∈ q
        · exact y
        · exact absurd ⟨k, hk, y⟩ z⟩) n
  obtain ⟨o, ho, hn⟩ := this
  obtain ⟨i, hi, rfl⟩ := List.getElem_of_mem ho
  refine ⟨p.eraseIdx i, List.mem_map.mpr ⟨i, List.mem_range.mpr hi, rfl⟩, fun k hk => ?_⟩
  have pm := erase_perm (List.getElem?_eq_getElem hi)
  have := pm.mem_iff.mpr (s k hk)
  rcases List.mem_cons.mp this with rfl | h
  · exact absurd hk hn
  · exact h
theorem mem_leastOf {parts : List (List Int)} {p : List Int} : p ∈ leastOf parts ↔ p ∈ parts ∧ ∀ q ∈ parts, q ≠ p → ∃ o ∈ q, o ∉ p := by
  unfold leastOf
  rw [List.mem_filter, mem_usrtL]
  refine and_congr_right fun hpp => ?_
  rw [Bool.not_eq_true', List.any_eq_false]
  constructor
  · intro h q hq ne
    have := h q hq
    simp only [ne, decide_false, Bool.not_false, Bool.true_and, List.all_eq_true, decide_eq_true_eq] at this
    by_cases z : ∃ o ∈ q, o ∉ p
    · exact z
    · exact absurd (fun o ho => by
        by_cases y : o ∈ p
        · exact y
        · exact absurd ⟨o, ho, y⟩ z) this
  · intro h q hq c
    simp only [Bool.and_eq_true, Bool.not_eq_true', decide_eq_false_iff_not, List.all_eq_true, decide_eq_true_eq] at c
    obtain ⟨o, ho, hn⟩ := h q hq c.1
    exact hn (c.2 o ho)
theorem least_sorted (parts : List (List Int)) : (leastOf parts).Pairwise (fun a b => HT.lexLt b a = false) ∧ (leastOf parts).Nodup := by
  have h : (leastOf parts).Pairwise (fun a b => HT.lexLt a b = true) := (usrtL_pw parts).filter _
  exact ⟨h.imp fun h => NtL.lex_asym _ _ h, h.imp fun h e => by subst e; have := NtL.lex_asym _ _ h; rw [h] at this; cases this⟩
theorem least_congr {a b : List (List Int)} (h : ∀ k, k ∈ a ↔ k ∈ b) : leastOf a = leastOf b := by
  have m : ∀ k, k ∈ leastOf a ↔ k ∈ leastOf b := fun k => by
    rw [mem_leastOf, mem_leastOf, h]
    exact and_congr_right fun _ => ⟨fun g q hq => g q ((h q).mpr hq), fun g q hq => g q ((h q).mp hq)⟩
  rw [usrtL_uniq (least_sorted a).1 (least_sorted a).2 m]
  exact (usrtL_uniq (least_sorted b).1 (least_sorted b).2 fun k => Iff.rfl).symm
theorem min_eq (M : Mono many f) : minOf many f = leastOf ((sets many).filter f) := by
  have m : ∀ k, k ∈ minOf many f ↔ k ∈ leastOf ((sets many).filter f) := fun p => by
    rw [mem_minOf, mem_leastOf, List.mem_filter, and_assoc]
    refine and_congr_right fun hp => and_congr_right fun hf => ?_
    constructor
    · intro h q hq n
      obtain ⟨hq, hfq⟩ := List.mem_filter.mp hq
      by_cases z : ∃ o ∈ q, o ∉ p
      · exact z
      · obtain ⟨x, hx, hs⟩ := ones_below hp hq n fun o ho => by
          by_cases y : o ∈ p
          · exact y
          · exact absurd ⟨o, ho, y⟩ z
        have := M q hq x (ones_sets hp hx).1 hs hfq
        rw [h x hx] at this; cases this
    · intro h x hx
      obtain ⟨h1, h2, h3⟩ := ones_sets hp hx
      cases e : f x with
      | false => rfl
      | true =>
        obtain ⟨o, ho, hn⟩ := h x (List.mem_filter.mpr ⟨h1, e⟩) h2
        exact absurd (h3 o ho) hn
  have nd : (minOf many f).Nodup := by
    unfold minOf
    exact (srtL_perm _).nodup_iff.mpr ((soo_nodup many).filter _)
  rw [usrtL_uniq (by unfold minOf; exact srtL_pw _) nd m]
  exact (usrtL_uniq (least_sorted _).1 (least_sorted _).2 fun k => Iff.rfl).symm
theorem min_below : ∀ (n : Nat) (p : List Int), p.length ≤ n → p ∈ sets many → f p = true → ∃ q ∈ minOf many f, ∀ o ∈ q, o ∈ p
  | n, p, hn, hp, hf => by
    by_cases z : ∃ x ∈ ones p, f x = true
    · obtain ⟨x, hx, hfx⟩ := z
      obtain ⟨i, hi, e⟩ := List.mem_map.mp hx
      have hi := List.mem_range.mp hi
      have hl : x.length = p.length - 1 := by rw [← e, List.length_eraseIdx_of_lt hi]
      match n with
      | 0 => omega
      | n + 1 =>
        obtain ⟨q, hq, hs⟩ := min_below n x (by omega) (ones_sets hp hx).1 hfx
        exact ⟨q, hq, fun o ho => (ones_sets hp hx).2.2 o (hs o ho)⟩
    · exact ⟨p, mem_minOf.mpr ⟨hp, hf, fun x hx => by
        cases e : f x with
        | false => rfl
        | true => exact absurd ⟨x, hx, e⟩ z⟩, fun o ho => ho⟩
theorem has_min (M : Mono many f) {p : List Int} (hp : p ∈ sets many) : (has (minOf many f) fun o => decide (o ∈ p)) = f p := by
  rw [Bool.eq_iff_iff, has_iff]
  constructor
  · rintro ⟨l, hl, h⟩
    have hm := mem_minOf.mp hl
    exact M l hm.1 p hp (fun o ho => by simpa using h o ho) hm.2.1
  · intro hf
    obtain ⟨q, hq, hs⟩ := min_below p.length p (Nat.le_refl _) hp hf
    exact ⟨q, hq, fun o ho => by simpa using hs o ho⟩
end
/-- the others -/
def restOf (many : Nat) (p : List Int) : List Int := (rng many).filter fun o => !decide (o ∈ p)
section
variable {many : Nat} {props : List Int} {lots : List (List Int)}
theorem rest_sets (p : List Int) : restOf many p ∈ sets many := mem_sets.mpr ⟨(rng_asc many).filter _, fun o ho => mem_rng.mp (List.mem_filter.mp ho).1⟩
theorem mem_rest {p : List Int} {o : Int} : o ∈ restOf many p ↔ (0 ≤ o ∧ o < many) ∧ o ∉ p := by
  unfold restOf
  rw [List.mem_filter, mem_rng]; simp
theorem rest_rest {p : List Int} (hp : p ∈ sets many) : restOf many (restOf many p) = p := by
  have h := mem_sets.mp hp
  refine asc_eq (mem_sets.mp (rest_sets _)).1 h.1 fun o => ?_
  rw [mem_rest, mem_rest]
  constructor
  · rintro ⟨b, n⟩
    by_cases y : o ∈ p
    · exact y
    · exact absurd ⟨b, y⟩ n
  · exact fun ho => ⟨h.2 o ho, fun n => n.2 ho⟩
theorem can_mono : Mono many (canB props lots) := fun a _ b _ s h => by
  unfold canB at h ⊢
  rw [Bool.and_eq_true] at h ⊢
  refine ⟨?_, ?_⟩
  · obtain ⟨p, hp, e⟩ := List.any_eq_true.mp h.1
    exact List.any_eq_true.mpr ⟨p, hp, by simpa using s p (by simpa using e)⟩
  · obtain ⟨l, hl, e⟩ := has_iff.mp h.2
    exact has_iff.mpr ⟨l, hl, fun o ho => by simpa using s o (by simpa using e o ho)⟩
theorem meet_mono {sts : List (List Int)} : Mono many fun ns => meetB ns sts := fun a _ b _ s h => by
  unfold meetB at h ⊢
  rw [List.all_eq_true] at h ⊢
  intro one ho
  obtain ⟨o, h1, h2⟩ := List.any_eq_true.mp (h one ho)
  exact List.any_eq_true.mpr ⟨o, h1, by simpa using s o (by simpa using h2)⟩
/-- a set meets all the least of a kind exactly if the others are none of the kind -/
theorem meet_rest {f : List Int → Bool} (M : Mono many f) {p : List Int} (hp : p ∈ sets many) : meetB p (minOf many f) = !f (restOf many p) := by
  rw [← has_min M (rest_sets p), Bool.eq_iff_iff, Bool.not_eq_true']
  unfold meetB
  rw [List.all_eq_true]
  constructor
  · intro h
    cases e : has (minOf many f) fun o => decide (o ∈ restOf many p) with
    | false => rfl
    | true =>
      obtain ⟨l, hl, g⟩ := has_iff.mp e
      obtain ⟨o, ho, h2⟩ := List.any_eq_true.mp (h l hl)
      have := mem_rest.mp (of_decide_eq_true (g o ho))
      exact absurd (of_decide_eq_true h2) this.2
  · intro h l hl
    cases e : l.any fun o => decide (o ∈ p) with
    | true => rfl
    | false =>
      rw [List.any_eq_false] at e
      have hm := mem_sets.mp (mem_minOf.mp hl).1
      have : (has (minOf many f) fun o => decide (o ∈ restOf many p)) = true := has_iff.mpr ⟨l, hl, fun o ho => decide_eq_true (mem_rest.mpr ⟨hm.2 o ho, by simpa using e o ho⟩)⟩
      rw [h] at this; cases this
theorem pay_eq : payOf many props lots = leastOf ((sets many).filter (canB props lots)) := min_eq can_mono
theorem stop_eq : stopOf many props lots = leastOf ((sets many).filter fun ns => meetB ns (payOf many props lots)) := min_eq meet_mono
theorem has_pay {p : List Int} (hp : p ∈ sets many) : (has (payOf many props lots) fun o => decide (o ∈ p)) = canB props lots p := has_min can_mono hp
theorem has_stop {p : List Int} (hp : p ∈ sets many) : (has (stopOf many props lots) fun o => decide (o ∈ p)) = !canB props lots (restOf many p) := by
  unfold stopOf
  rw [has_min meet_mono hp]
  exact meet_rest can_mono hp
theorem stop_held : leastOf (((sets many).filter fun p => !canB props lots p).map (restOf many)) = stopOf many props lots := by
  rw [stop_eq]
  refine least_congr fun k => ?_
  rw [List.mem_map, List.mem_filter]
  constructor
  · rintro ⟨p, hp, rfl⟩
    obtain ⟨h1, h2⟩ := List.mem_filter.mp hp
    refine ⟨rest_sets p, ?_⟩
    have := meet_rest (f := canB props lots) can_mono (rest_sets (many := many) p)
    rw [rest_rest h1] at this
    exact this.trans h2
  · rintro ⟨h1, h2⟩
    refine ⟨restOf many k, List.mem_filter.mpr ⟨rest_sets k, ?_⟩, rest_rest h1⟩
    have := meet_rest (f := canB props lots) can_mono h1
    exact this.symm.trans h2
/-- what meets all stoppers can pay -/
theorem meet_stop {p : List Int} (hp : p ∈ sets many) : meetB p (stopOf many props lots) = canB props lots p := by
  unfold stopOf
  rw [meet_rest meet_mono hp]
  have := meet_rest (f := canB props lots) can_mono (rest_sets (many := many) p)
  rw [rest_rest hp] at this
  have e : (meetB (restOf many p) (payOf many props lots)) = !canB props lots p := this
  rw [e, Bool.not_not]
theorem all_can (C : Ch2 many props lots) : canB props lots (rng many) = true := by
  unfold canB
  rw [Bool.and_eq_true]
  obtain ⟨p, hp⟩ := List.exists_mem_of_ne_nil _ C.c.pne
  exact ⟨List.any_eq_true.mpr ⟨p, hp, decide_eq_true (mem_rng.mpr (C.c.pin p hp))⟩, has_all C.c fun o a b => decide_eq_true (mem_rng.mpr ⟨a, b⟩)⟩
theorem rng_sets (many : Nat) : rng many ∈ sets many := mem_sets.mpr ⟨rng_asc many, fun o ho => mem_rng.mp ho⟩
theorem pay_ne (C : Ch2 many props lots) : payOf many props lots ≠ [] := by
  obtain ⟨q, hq, _⟩ := min_below (f := canB props lots) (rng many).length (rng many) (Nat.le_refl _) (rng_sets many) (all_can C)
  exact List.ne_nil_of_mem hq
theorem pay_one (C : Ch2 many props lots) {p : List Int} (h : p ∈ payOf many props lots) : p ∈ sets many ∧ p ≠ [] ∧ canB props lots p = true := by
  have := mem_minOf.mp h
  exact ⟨this.1, ⟨fun e => (by have h2 := this.2.1; rw [e, can_nil C] at h2; cases h2), this.2.1⟩⟩
theorem meet_nil (C : Ch2 many props lots) : meetB [] (payOf many props lots) = false := by
  obtain ⟨q, hq⟩ := List.exists_mem_of_ne_nil _ (pay_ne C)
  unfold meetB
  rw [List.all_eq_false]
  exact ⟨q, hq, by simp⟩
theorem stop_one (C : Ch2 many props lots) {p : List Int} (h : p ∈ stopOf many props lots) : p ∈ sets many ∧ p ≠ [] ∧ meetB p (payOf many props lots) = true := by
  have := mem_minOf.mp h
  exact ⟨this.1, ⟨fun e => (by have h2 : meetB p (payOf many props lots) = true := this.2.1; rw [e, meet_nil C] at h2; cases h2), this.2.1⟩⟩
theorem min_len (f : List Int → Bool) (m6 : many ≤ 6) : (minOf many f).length ≤ 64 := by
  unfold minOf
  rw [(srtL_perm _).length_eq]
  exact Nat.le_trans (List.length_filter_le _ _) (soo_le m6)
end
end Pu

namespace Pu
open PySem PySem.Spec PyProof.Rows L2
theorem ones_len {ns x : List Int} (h : x ∈ ones ns) : x.length ≤ ns.length := by
  obtain ⟨i, hi, rfl⟩ := List.mem_map.mp h
  exact List.length_eraseIdx_le _ _
section
variable {P : Program} {w : World} {K : PySem.W.Frag} {mg : Str → Option Value} {base : Heap}
abbrev s_payers : Stmt := top 34
theorem sc_payers : FnScope ["charter", "least", "owners", "fewer"] ["charter"] (defScope s_payers) := ⟨rfl, rfl, rfl, by decide +kernel, rfl, by decide +kernel, by decide +kernel⟩
theorem ok_payers {f : Addr} {fd : FuncData} (F : Fun K "payers" "payers" s_payers f fd) (T : Bi mg) (D_check_charter : Def P w K mg base "check_charter" 6 ["charter"] (spP R_check)) (D_sets_of_owners : Def P w K mg base "sets_of_owners" 1 ["many"] (spP R_soo))
    (D_can_pay : Def P w K mg base "can_pay" 3 ["charter", "owners"] (spP R_can)) (D_without_one : Def P w K mg base "without_one" 1 ["owners"] (spP R_ones)) : FnOk P w K mg base CX0 7 f fd ["charter"] (spP R_pay) := by
  obtain ⟨f_sets_of_owners, fd_sets_of_owners, G_sets_of_owners, b_sets_of_owners, k_sets_of_owners, m_sets_of_owners⟩ := D_sets_of_owners.ex
  obtain ⟨f_without_one, fd_without_one, G_without_one, b_without_one, k_without_one, m_without_one⟩ := D_without_one.ex
  obtain ⟨f_can_pay, fd_can_pay, G_can_pay, b_can_pay, k_can_pay, m_can_pay⟩ := D_can_pay.ex
  obtain ⟨f_check_charter, fd_check_charter, G_check_charter, b_check_charter, k_check_charter, m_check_charter⟩ := D_check_charter.ex
  refine F.ok sc_payers (len_spP (fun ds d ⟨many, props, lots, e, _⟩ => by rw [e]; rfl)) (fun cdv A outer s H vs Q E hr h => ?_)
  obtain ⟨N, ds, d, fr, rs, ⟨many, props, lots, rfl, C, rfl⟩, k⟩ := h
  obtain ⟨v, rfl, r⟩ := rps1 rs
  have m6 := C.c.m6
  have sle := soo_le m6
  refine ⟨_, pss_cons (ps_expr (pe_call G_check_charter (hr.mono (by decide)) rfl m_check_charter k_check_charter b_check_charter .nil pass0 (pa_cons (pv 0) pa_nil)))
      (pss_cons (ps_set (i := 1) sc_payers.nd rfl (Or.inl rfl) (pe_lst pa_nil))
      (pss_cons (ps_for PassesOwn.never rfl (pi_seqK K (pe_call G_sets_of_owners (hr.mono (by decide)) rfl m_sets_of_owners k_sets_of_owners b_sets_of_owners .nil pass0 (pa_cons (pe_ix (ix_K K) (pv 0) pe_int (fun _ _ => rfl)) pa_nil))) (pg_name (i := 2) sc_payers.nd rfl (Or.inl rfl)) (pss_one (ps_if (PW.pt (pw_and (pt_truK K (pe_call G_can_pay (hr.mono (by decide)) rfl m_can_pay k_can_pay b_can_pay .nil pass0 (pa_cons (pv 0) (pa_cons (pv 2) pa_nil))) (fun _ => rfl)) (pw_and1 (pt_not (pt_truK K (pe_callB (cr_anyK K rfl) (by rfl) T.any (by decide +kernel) (pa_cons (pe_lc (own := [("fewer", 3)]) rfl sc_payers.nd (pi_seqK K (pe_call G_without_one (hr.mono (by decide)) rfl m_without_one k_without_one b_without_one .nil pass0 (pa_cons (pv 2) pa_nil))) (blkOk_by (own := [("fewer", 3)]) (N := ["charter", "least", "owners", "fewer"]) (sc := defScope s_payers) (by decide +kernel)) (fun _ _ _ _ _ => pg_name (i := 3) sc_payers.nd rfl (Or.inl rfl)) (fun _ _ _ _ _ => pts_nil) (fun _ _ _ _ _ => pe_call G_can_pay (hr.mono (by decide)) rfl m_can_pay k_can_pay b_can_pay .nil pass0 (pa_cons (pv 0) (pa_cons (pv 3) pa_nil)))) pa_nil)) (fun _ => rfl)))))) (pss_one (ps_expr (pe_bm PySem.F.plainAttrs_list PySem.F.slot_list_append PySem.F.type_list_append mt_append (pv 1) (pa_cons (pv 2) pa_nil)))) pss_nil)))
      (pss_one (ps_ret (pe_callTy (call_tupK K) (by rfl) T.tuple (by decide +kernel) (pa_cons (pe_callB (cr_sortLK K) (by rfl) T.sorted (by decide +kernel) (pa_cons (pv 1) pa_nil)) pa_nil)))))), ?_⟩
  refine dq_drop (de_call (da_cons (de_var rfl r) da_nil) ⟨many, props, lots, rfl, C, rfl⟩) fr fun H1 s1 => ?_
  have f1 := fr.same s1
  refine dq_new f1 fun p H2 hp w1 => ?_
  refine df_forS (N := fun a => N a ∧ a ≠ p) (xs := soo many) (enc := tI) (di_seq (de_call (da_cons (de_op (de_var (i := 0) rfl ((r.same s1).up w1.up)) de_int (r2_ix (K := K) (i := 0) (z := .int (many : Int)) rfl)) da_nil) ⟨many, rfl, m6, rfl⟩)) w1.fr fun H3 s3 => ?_
  have w2 := w1.go s3
  refine ⟨fun i σ' H' => (∃ o2 o3, σ' = [some v, some (.ref p), o2, o3]) ∧ Up (fun a => N a ∧ a ≠ p) H3 (fun a => N a ∧ a ≠ p) H' ∧ InD N H1 p H' ((((soo many).take i).filter fun ns => canB props lots ns && !((ones ns).any (canB props lots))).map tI),
    ⟨⟨_, _, rfl⟩, Up.refl _ _, w2⟩, fun i σ' H' ⟨_, u, w⟩ => ⟨u, w.fr⟩, ?_, ?_⟩
  · rintro i hi x σ' H' H4 ⟨⟨o2, o3, rfl⟩, u3, w3⟩ s4 rx
    have w4 := w3.go s4
    have u4 := u3.same s4
    have tf := take_filter (soo many) (fun ns => canB props lots ns && !((ones ns).any (canB props lots))) hi
    have h1 := soo_one (List.getElem_mem hi)
    have l6 := asc_len h1.1 h1.2
    generalize (soo many)[i] = ns at *
    have rv := (r.same s1).up w4.up
    refine dq_if (N := fun a => N a ∧ a ≠ p) (b := canB props lots ns && !((ones ns).any (canB props lots))) (dt_and (dt_truB (de_call (da_cons (de_var rfl rv) (da_cons (de_var rfl rx) da_nil)) ⟨many, props, lots, _, ns, rfl, rfl, C, rfl⟩))
        fun _ => dt_not (dt_truB (de_anyM (xs := ones ns) (g := canB props lots) (da_cons (de_lc0 (xs := ones ns) (enc := tI) (fun fw => .bool (canB props lots fw)) (di_seq (de_call (da_cons (de_var rfl rx) da_nil) ⟨ns, rfl, by omega, rfl⟩)) (by unfold ones; rw [List.length_map, List.length_range]; omega)
          fun a ha x' N' H' u' rx' => de_call (da_cons (de_var rfl (rv.up u')) (da_cons (de_var rfl rx') da_nil)) ⟨many, props, lots, _, a, rfl, rfl, C, rfl⟩) da_nil)))) w4.fr
      (fun hb H5 s5 => ?_) fun hb H5 s5 => ?_
    · refine dq_app (w4.go s5) hp rfl (de_var rfl (rx.same s5)) ?_ fun H6 w6 u6 => ⟨⟨_, _, rfl⟩, (u4.same s5).trans u6, ?_⟩
      · rw [List.length_map]
        exact Nat.lt_of_le_of_lt (List.length_filter_le _ _) (by rw [List.length_take]; omega)
      · rw [tf, if_pos hb, List.map_append]
        exact w6
    · refine ⟨⟨_, _, rfl⟩, u4.same s5, ?_⟩
      rw [tf, if_neg (by rw [hb]; simp), List.append_nil]
      exact w4.go s5
  · rintro σ' H' ⟨⟨o2, o3, rfl⟩, u3, w3⟩
    rw [List.take_length] at w3
    exact dq_ret (de_cb (da_cons (de_cb (da_cons (de_var rfl (w3.rp hp f1)) da_nil) (rc_sortL fun ns hn => by
      have := (List.mem_filter.mp hn).2
      rintro rfl
      rw [can_nil C] at this; cases this)) da_nil) rk_tup) w3.frN fun v H4 s4 r4 => k v H4 ((s1.trans w3.same).trans s4) r4
abbrev s_stoppers : Stmt := top 35
theorem sc_stoppers : FnScope ["charter", "paying", "least", "owners", "fewer"] ["charter"] (defScope s_stoppers) := ⟨rfl, rfl, rfl, by decide +kernel, rfl, by decide +kernel, by decide +kernel⟩
theorem ok_stoppers {f : Addr} {fd : FuncData} (F : Fun K "stoppers" "stoppers" s_stoppers f fd) (T : Bi mg) (D_payers : Def P w K mg base "payers" 7 ["charter"] (spP R_pay)) (D_sets_of_owners : Def P w K mg base "sets_of_owners" 1 ["many"] (spP R_soo))
    (D_meets_all : Def P w K mg base "meets_all" 1 ["owners", "sets"] (spP R_meet)) (D_without_one : Def P w K mg base "without_one" 1 ["owners"] (spP R_ones)) : FnOk P w K mg base CX0 8 f fd ["charter"] (spP R_stop) := by
  obtain ⟨f_sets_of_owners, fd_sets_of_owners, G_sets_of_owners, b_sets_of_owners, k_sets_of_owners, m_sets_of_owners⟩ := D_sets_of_owners.ex
  obtain ⟨f_without_one, fd_without_one, G_without_one, b_without_one, k_without_one, m_without_one⟩ := D_without_one.ex
  obtain ⟨f_meets_all, fd_meets_all, G_meets_all, b_meets_all, k_meets_all, m_meets_all⟩ := D_meets_all.ex
  obtain ⟨f_payers, fd_payers, G_payers, b_payers, k_payers, m_payers⟩ := D_payers.ex
  refine F.ok sc_stoppers (len_spP (fun ds d ⟨many, props, lots, e, _⟩ => by rw [e]; rfl)) (fun cdv A outer s H vs Q E hr h => ?_)
  obtain ⟨N, ds, d, fr, rs, ⟨many, props, lots, rfl, C, rfl⟩, k⟩ := h
  obtain ⟨v, rfl, r⟩ := rps1 rs
  have m6 := C.c.m6
  have sle := soo_le m6
  have plen : (payOf many props lots).length ≤ 64 := min_len _ m6
  have pone : ∀ s ∈ payOf many props lots, s.length ≤ 1000 := fun s hs => by have := Ch.sets_in m6 (pay_one C hs).1; omega
  refine ⟨_, pss_cons (ps_set (i := 1) sc_stoppers.nd rfl (Or.inr rfl) (pe_call G_payers (hr.mono (by decide)) rfl m_payers k_payers b_payers .nil pass0 (pa_cons (pv 0) pa_nil)))
      (pss_cons (ps_set (i := 2) sc_stoppers.nd rfl (Or.inl rfl) (pe_lst pa_nil))
      (pss_cons (ps_for PassesOwn.never rfl (pi_seqK K (pe_call G_sets_of_owners (hr.mono (by decide)) rfl m_sets_of_owners k_sets_of_owners b_sets_of_owners .nil pass0 (pa_cons (pe_ix (ix_K K) (pv 0) pe_int (fun _ _ => rfl)) pa_nil))) (pg_name (i := 3) sc_stoppers.nd rfl (Or.inl rfl)) (pss_one (ps_if (PW.pt (pw_and (pt_truK K (pe_call G_meets_all (hr.mono (by decide)) rfl m_meets_all k_meets_all b_meets_all .nil pass0 (pa_cons (pv 3) (pa_cons (pv 1) pa_nil))) (fun _ => rfl)) (pw_and1 (pt_not (pt_truK K (pe_callB (cr_anyK K rfl) (by rfl) T.any (by decide +kernel) (pa_cons (pe_lc (own := [("fewer", 4)]) rfl sc_stoppers.nd (pi_seqK K (pe_call G_without_one (hr.mono (by decide)) rfl m_without_one k_without_one b_without_one .nil pass0 (pa_cons (pv 3) pa_nil))) (blkOk_by (own := [("fewer", 4)]) (N := ["charter", "paying", "least", "owners", "fewer"]) (sc := defScope s_stoppers) (by decide +kernel)) (fun _ _ _ _ _ => pg_name (i := 4) sc_stoppers.nd rfl (Or.inl rfl)) (fun _ _ _ _ _ => pts_nil) (fun _ _ _ _ _ => pe_call G_meets_all (hr.mono (by decide)) rfl m_meets_all k_meets_all b_meets_all .nil pass0 (pa_cons (pv 4) (pa_cons (pv 1) pa_nil)))) pa_nil)) (fun _ => rfl)))))) (pss_one (ps_expr (pe_bm PySem.F.plainAttrs_list PySem.F.slot_list_append PySem.F.type_list_append mt_append (pv 2) (pa_cons (pv 3) pa_nil)))) pss_nil)))
      (pss_one (ps_ret (pe_callTy (call_tupK K) (by rfl) T.tuple (by decide +kernel) (pa_cons (pe_callB (cr_sortLK K) (by rfl) T.sorted (by decide +kernel) (pa_cons (pv 2) pa_nil)) pa_nil)))))), ?_⟩
  refine dq_set (de_call (da_cons (de_var rfl r) da_nil) ⟨many, props, lots, rfl, C, rfl⟩) fr fun v1 H1 s1 r1 => ?_
  have f1 := fr.same s1
  refine dq_new f1 fun p H2 hp w1 => ?_
  refine df_forS (N := fun a => N a ∧ a ≠ p) (xs := soo many) (enc := tI) (di_seq (de_call (da_cons (de_op (de_var (i := 0) rfl ((r.same s1).up w1.up)) de_int (r2_ix (K := K) (i := 0) (z := .int (many : Int)) rfl)) da_nil) ⟨many, rfl, m6, rfl⟩)) w1.fr fun H3 s3 => ?_
  have w2 := w1.go s3
  refine ⟨fun i σ' H' => (∃ o2 o3, σ' = [some v, some v1, some (.ref p), o2, o3]) ∧ Up (fun a => N a ∧ a ≠ p) H3 (fun a => N a ∧ a ≠ p) H' ∧ InD N H1 p H' ((((soo many).take i).filter fun ns => meetB ns (payOf many props lots) && !((ones ns).any fun ns => meetB ns (payOf many props lots))).map tI),
    ⟨⟨_, _, rfl⟩, Up.refl _ _, w2⟩, fun i σ' H' ⟨_, u, w⟩ => ⟨u, w.fr⟩, ?_, ?_⟩
  · rintro i hi x σ' H' H4 ⟨⟨o2, o3, rfl⟩, u3, w3⟩ s4 rx
    have w4 := w3.go s4
    have u4 := u3.same s4
    have tf := take_filter (soo many) (fun ns => meetB ns (payOf many props lots) && !((ones ns).any fun ns => meetB ns (payOf many props lots))) hi
    have h1 := soo_one (List.getElem_mem hi)
    have l6 := asc_len h1.1 h1.2
    generalize (soo many)[i] = ns at *
    have rp := r1.up w4.up
    refine dq_if (N := fun a => N a ∧ a ≠ p) (b := meetB ns (payOf many props lots) && !((ones ns).any fun ns => meetB ns (payOf many props lots))) (dt_and (dt_truB (de_call (da_cons (de_var rfl rx) (da_cons (de_var rfl rp) da_nil)) ⟨_, _, ns, payOf many props lots, rfl, rfl, rfl, by omega, pone, rfl⟩))
        fun _ => dt_not (dt_truB (de_anyM (xs := ones ns) (g := fun ns => meetB ns (payOf many props lots)) (da_cons (de_lc0 (xs := ones ns) (enc := tI) (fun fw => .bool (meetB fw (payOf many props lots))) (di_seq (de_call (da_cons (de_var rfl rx) da_nil) ⟨ns, rfl, by omega, rfl⟩)) (by unfold ones; rw [List.length_map, List.length_range]; omega)
          fun a ha x' N' H' u' rx' => de_call (da_cons (de_var rfl rx') (da_cons (de_var rfl (rp.up u')) da_nil)) ⟨_, _, a, payOf many props lots, rfl, rfl, rfl, by omega, pone, rfl⟩) da_nil)))) w4.fr
      (fun hb H5 s5 => ?_) fun hb H5 s5 => ?_
    · refine dq_app (w4.go s5) hp rfl (de_var rfl (rx.same s5)) ?_ fun H6 w6 u6 => ⟨⟨_, _, rfl⟩, (u4.same s5).trans u6, ?_⟩
      · rw [List.length_map]
        exact Nat.lt_of_le_of_lt (List.length_filter_le _ _) (by rw [List.length_take]; omega)
      · rw [tf, if_pos hb, List.map_append]
        exact w6
    · refine ⟨⟨_, _, rfl⟩, u4.same s5, ?_⟩
      rw [tf, if_neg (by rw [hb]; simp), List.append_nil]
      exact w4.go s5
  · rintro σ' H' ⟨⟨o2, o3, rfl⟩, u3, w3⟩
    rw [List.take_length] at w3
    exact dq_ret (de_cb (da_cons (de_cb (da_cons (de_var rfl (w3.rp hp f1)) da_nil) (rc_sortL fun ns hn => by
      have := (List.mem_filter.mp hn).2
      rintro rfl
      rw [meet_nil C] at this; cases this)) da_nil) rk_tup) w3.frN fun v H4 s4 r4 => k v H4 ((s1.trans w3.same).trans s4) r4
end
end Pu

namespace Pu
open PySem PySem.Spec PyProof.Rows L2
section
variable {X : Cx}
theorem op_inDK (K : PySem.W.Frag) (hu : X.A.units + 65 < cLine) (h : X.K = K := by rfl) : OpR X (compareOp .In) (rInD K) := h ▸ op_inD hu
theorem op_ninDK (K : PySem.W.Frag) (hu : X.A.units + 65 < cLine) (h : X.K = K := by rfl) : OpR X (compareOp .NotIn) (rNotInD K) := h ▸ op_notInD hu
end
section
variable {K : PySem.W.Frag}
theorem any_eqv (p : List Int) : ∀ ps : List (List Int), ((ps.map tI).any fun z => z.eqv (tI p)) = decide (p ∈ ps)
  | [] => by simp
  | q :: r => by
    rw [List.map_cons, List.any_cons, any_eqv p r, eqv_tI, Bool.eq_iff_iff]
    simp only [Bool.or_eq_true, decide_eq_true_eq, List.mem_cons]
    exact ⟨fun h => h.imp Eq.symm id, fun h => h.imp Eq.symm id⟩
/-- a tuple of whole numbers in a list of such -/
theorem r2_inL {p : List Int} {ps : List (List Int)} : R2D (rInD K) (tI p) (lT ps) (.bool (decide (p ∈ ps))) := fun N H v u Q f r1 r2 q => by
  refine ⟨tI p, ps.map tI, r1.dp, r2.dp, shaped_tI p, shaped_lT ps, ?_⟩
  rw [any_eqv]
  exact q _ H (Same.refl H) (.bl _)
theorem r2_ninL {p : List Int} {ps : List (List Int)} : R2D (rNotInD K) (tI p) (lT ps) (.bool (!decide (p ∈ ps))) := fun N H v u Q f r1 r2 q => by
  refine ⟨tI p, ps.map tI, r1.dp, r2.dp, shaped_tI p, shaped_lT ps, ?_⟩
  rw [any_eqv]
  exact q _ H (Same.refl H) (.bl _)
end
def R_pays : List PyData → PyData → Prop := fun ds d => ∃ many props lots x, ∃ ns : List Int, ds = [chD many props lots, x] ∧ itemsD x = some (ns.map PyData.int) ∧ Ch2 many props lots ∧ d = .bool (canB props lots ns)
def R_truth : List PyData → PyData → Prop := fun ds d => ∃ a b : Bool, ds = [.bool a, .bool b] ∧ d = .bool (a == b)
/-- the law's banks -/
structure Bk where
  begin : List Int
  members : Nat
  lies : Nat
abbrev Bk.d (b : Bk) : PyData := .tuple [tI b.begin, .int (b.members : Int), .int (b.lies : Int)]
def banks : List Bk := [⟨[5, 0], 4, 1⟩, ⟨[3], 1, 0⟩, ⟨[2, 7], 2, 0⟩, ⟨[1], 3, 0⟩, ⟨[9], 5, 1⟩, ⟨[4, 4], 7, 2⟩]
def D_bank : List PyData → Prop := fun ds => ds = []
def R_bank : List PyData → PyData → Prop := fun _ z => ∃ b ∈ banks, z = b.d
section
variable {P : Program} {w : World} {K : PySem.W.Frag} {mg : Str → Option Value} {base : Heap}
abbrev s_L_sh_pays : Stmt := top 50
theorem sc_L_sh_pays : FnScope ["charter", "owners", "owner"] ["charter", "owners"] (defScope s_L_sh_pays) := ⟨rfl, rfl, rfl, by decide +kernel, rfl, by decide +kernel, by decide +kernel⟩
theorem ok_paysL {f : Addr} {fd : FuncData} (F : Fun K "_law_sh_pays" "_law_sh_pays" s_L_sh_pays f fd) (D_L_sh_has : Def P w K mg base "_law_sh_has" 2 ["lots", "owners"] (spP R_hasL)) : FnOk P w K mg base CX0 3 f fd ["charter", "owners"] (spP R_pays) := by
  obtain ⟨f_L_sh_has, fd_L_sh_has, G_L_sh_has, b_L_sh_has, k_L_sh_has, m_L_sh_has⟩ := D_L_sh_has.ex
  refine F.ok sc_L_sh_pays (len_spP (fun ds d ⟨many, props, lots, x, ns, e, _⟩ => by rw [e]; rfl)) (fun cdv A outer s H vs Q E hr h => ?_)
  obtain ⟨N, ds, d, fr, rs, ⟨many, props, lots, x, ns, rfl, hx, C, rfl⟩, k⟩ := h
  obtain ⟨v, u, rfl, r1, r2⟩ := rps2 rs
  have pl6 : props.length ≤ 6 := Nat.le_trans (asc_len C.c.pasc C.c.pin) C.c.m6
  refine ⟨_, pss_one (ps_ret (pe_and (pe_call G_L_sh_has (hr.mono (by decide)) rfl m_L_sh_has k_L_sh_has b_L_sh_has .nil pass0 (pa_cons (pe_ix (ix_K K) (pv 0) pe_int (fun _ _ => rfl)) (pa_cons (pv 1) pa_nil))) (pe_one (pe_cmpR (op_neK K hr.units) (pe_lc (own := [("owner", 2)]) rfl sc_L_sh_pays.nd (pi_seqK K (pe_ix (ix_K K) (pv 0) pe_int (fun _ _ => rfl))) (blkOk_by (own := [("owner", 2)]) (N := ["charter", "owners", "owner"]) (sc := defScope s_L_sh_pays) (by decide +kernel)) (fun _ _ _ _ _ => pg_name (i := 2) sc_L_sh_pays.nd rfl (Or.inl rfl)) (fun _ _ _ _ _ => pts_one (pt_cmpR (op_inK K) (pv 2) (pv 1) rfl)) (fun _ _ _ _ _ => pe_int)) (pe_lst pa_nil) (nomark _))))), ?_⟩
  refine dq_ret ((de_andV (a := Ch.has lots fun o => decide (o ∈ ns)) (b := props.any fun p => decide (p ∈ ns)) (de_call (da_cons (de_op (de_var (i := 0) rfl r1) de_int (r2_ix (K := K) (i := 2) (z := tT lots) rfl)) (da_cons (de_var rfl r2) da_nil)) ⟨_, _, lots, ns, rfl, rfl, hx, by have := C.c.llen; omega, fun l hl => by
      have h := C.c.one l hl
      have := asc_len h.2.1 h.2.2
      have := C.c.m6
      omega, rfl⟩) fun _ => (de_op (de_lc (xs := props) (enc := PyData.int) (fun p => decide (p ∈ ns)) (fun _ => .int 1) (di_seq (de_op (de_var (i := 0) rfl r1) de_int (r2_ix (K := K) (i := 1) (z := tI props) rfl))) (by omega)
        fun a ha x' N' H' u' rx => ⟨dt_test (de_op (de_var rfl rx) (de_var rfl (r2.up u')) (r2_in hx)), fun _ => de_int⟩) (de_lst da_nil) r2_some).is ?_).is ?_) fr k
  · rw [filter_empty, Bool.not_not]
  · rw [canB, Bool.and_comm]
abbrev s_L_sh_bank : Stmt := top 55
theorem sc_L_sh_bank : FnScope ["state"] ["state"] (defScope s_L_sh_bank) := ⟨rfl, rfl, rfl, by decide +kernel, rfl, by decide +kernel, by decide +kernel⟩
theorem ok_bankL {f : Addr} {fd : FuncData} (F : Fun K "_law_sh_bank" "_law_sh_bank" s_L_sh_bank f fd) (D_L_pick : Def P w K mg base "_law_pick" 3 ["state", "several"] (spPick K)) : FnOk P w K mg base CX0 4 f fd ["state"] (spSt 1 D_bank R_bank) := by
  obtain ⟨f_L_pick, fd_L_pick, G_L_pick, b_L_pick, k_L_pick, m_L_pick⟩ := D_L_pick.ex
  refine F.ok sc_L_sh_bank (len_spSt fun ds e => by rw [e]; rfl) (fun cdv A outer s H vs Q E hr h => ?_)
  obtain ⟨d, g, c, T0, N, us, ds, rfl, sb, fr, S, tb, rs, rfl, k⟩ := h
  cases rs
  refine ⟨_, pss_one (ps_ret (pe_call G_L_pick (hr.mono (by decide)) rfl m_L_pick k_L_pick b_L_pick .nil pass0 (pa_cons (pv 0) (pa_cons (pe_lst (pa_cons (pe_tup (pa_cons (pe_tup (pa_cons pe_int (pa_cons pe_int pa_nil))) (pa_cons pe_int (pa_cons pe_int pa_nil)))) (pa_cons (pe_tup (pa_cons (pe_tup (pa_cons pe_int pa_nil)) (pa_cons pe_int (pa_cons pe_int pa_nil)))) (pa_cons (pe_tup (pa_cons (pe_tup (pa_cons pe_int (pa_cons pe_int pa_nil))) (pa_cons pe_int (pa_cons pe_int pa_nil)))) (pa_cons (pe_tup (pa_cons (pe_tup (pa_cons pe_int pa_nil)) (pa_cons pe_int (pa_cons pe_int pa_nil)))) (pa_cons (pe_tup (pa_cons (pe_tup (pa_cons pe_int pa_nil)) (pa_cons pe_int (pa_cons pe_int pa_nil)))) (pa_cons (pe_tup (pa_cons (pe_tup (pa_cons pe_int (pa_cons pe_int pa_nil))) (pa_cons pe_int (pa_cons pe_int pa_nil)))) pa_nil))))))) pa_nil)))), ?_⟩
  refine sq_ret (n := 1) (se_pick rfl (x := .list (banks.map Bk.d)) (de_lst (da_cons (de_tup (da_cons (de_tup (da_cons de_int (da_cons de_int da_nil))) (da_cons de_int (da_cons de_int da_nil)))) (da_cons (de_tup (da_cons (de_tup (da_cons de_int da_nil)) (da_cons de_int (da_cons de_int da_nil)))) (da_cons (de_tup (da_cons (de_tup (da_cons de_int (da_cons de_int da_nil))) (da_cons de_int (da_cons de_int da_nil))))
    (da_cons (de_tup (da_cons (de_tup (da_cons de_int da_nil)) (da_cons de_int (da_cons de_int da_nil)))) (da_cons (de_tup (da_cons (de_tup (da_cons de_int da_nil)) (da_cons de_int (da_cons de_int da_nil)))) (da_cons (de_tup (da_cons (de_tup (da_cons de_int (da_cons de_int da_nil))) (da_cons de_int (da_cons de_int da_nil)))) da_nil)))))) (by simp [banks])) rfl (by simp [banks]) (by simp [banks])) fr sb S tb fun v z H2 hz k2 S2 f2 r2 => k v z H2 ?_ k2 S2 r2
  obtain ⟨b, hb, rfl⟩ := List.mem_map.mp hz
  exact ⟨b, hb, rfl⟩
abbrev s_L_is_truth : Stmt := top 46
theorem sc_L_is_truth : FnScope ["found", "due"] ["found", "due"] (defScope s_L_is_truth) := ⟨rfl, rfl, rfl, by decide +kernel, rfl, by decide +kernel, by decide +kernel⟩
theorem ok_truth {f : Addr} {fd : FuncData} (F : Fun K "_law_is_truth" "_law_is_truth" s_L_is_truth f fd) : FnOk P w K mg base CX0 1 f fd ["found", "due"] (spP R_truth) := by
  refine F.ok sc_L_is_truth (len_spP (fun ds d ⟨a, b, e, _⟩ => by rw [e]; rfl)) (fun cdv A outer s H vs Q E hr h => ?_)
  obtain ⟨N, ds, d, fr, rs, ⟨a, b, rfl, rfl⟩, k⟩ := h
  obtain ⟨v, u, rfl, r1, r2⟩ := rps2 rs
  cases r1
  cases r2
  refine ⟨_, pss_one (ps_ret (pe_ifExp (pt_val (pv 1)) (pe_cmpR op_isBl (pv 0) pe_bl (nomark _)) (pe_cmpR op_isBl (pv 0) pe_bl (nomark _)))), ?_⟩
  refine ⟨_, rfl, b, rfl, ?_⟩
  have fin := k (.bl (a == b)) H (Same.refl H) (.bl _)
  cases b with
  | true =>
    refine iteT ⟨_, rfl, a, true, rfl, rfl, ?_⟩
    cases a <;> exact fin
  | false =>
    refine iteF ⟨_, rfl, a, false, rfl, rfl, ?_⟩
    cases a <;> exact fin
end
end Pu

namespace Pu
open PySem PySem.Spec PyProof.Rows L2
/-! ### a dict of owners, each with True -/
def ksD (ns : List Int) : List (Key × V) := ns.map fun o => (Sum.inl o, V.bl true)
theorem val_ks (o : Int) : ∀ ns : List Int, (valV (ksD ns) (.inl o : Key)).isSome = decide (o ∈ ns)
  | [] => by simp [ksD, valV]
  | a :: r => by
    have ih := val_ks o r
    by_cases e : a = o
    · subst e
      have : valV (ksD (a :: r)) (.inl a : Key) = some (.bl true) := valV_pos rfl
      rw [this]; simp
    · have : valV (ksD (a :: r)) (.inl o : Key) = valV (ksD r) (.inl o : Key) := valV_neg fun z => e (Sum.inl.inj z)
      rw [this, ih]
      simp [Ne.symm e]
structure DkN (N : NP) (H : Hp) (a : Addr) (ns : List Int) : Prop where
  n : N a
  h : H a = some (.dK (ksD ns))
section
variable {K : PySem.W.Frag} {N N' : NP} {σ : L2.St} {H H' : Hp} {te : TE} {a : Addr} {ns : List Int}
theorem DkN.up (u : Up N H N' H') (k : DkN N H a ns) : DkN N' H' a ns := ⟨(u a _ k.n k.h).1, (u a _ k.n k.h).2⟩
theorem de_din {i : Nat} {o : Int} (hσ : σ[i]? = some (some (.ref a))) (k : DkN N H a ns) (h : DE N te σ H (.int o)) : DE N (tDIn te (tVar i)) σ H (.bool (decide (o ∈ ns))) := fun N1 H1 u f Q q =>
  h N1 H1 u f _ fun v H2 s2 r2 => by
    cases r2
    refine ⟨_, hσ, a, _, rfl, DGet.k (k := (Sum.inl o : Key)) (s2 _ _ (k.up u).h), ?_⟩
    rw [val_ks]
    exact q _ H2 s2 (.bl _)
theorem de_dnin {i : Nat} {o : Int} (hσ : σ[i]? = some (some (.ref a))) (k : DkN N H a ns) (h : DE N te σ H (.int o)) : DE N (tDNotIn te (tVar i)) σ H (.bool (!decide (o ∈ ns))) := fun N1 H1 u f Q q =>
  h N1 H1 u f _ fun v H2 s2 r2 => by
    cases r2
    refine ⟨_, hσ, a, _, rfl, DGet.k (k := (Sum.inl o : Key)) (s2 _ _ (k.up u).h), ?_⟩
    rw [val_ks]
    exact q _ H2 s2 (.bl _)
/-- list(d) -/
theorem de_listD {i : Nat} (hσ : σ[i]? = some (some (.ref a))) (k : DkN N H a ns) : DE N (tCB (fun xs H Q => ∃ a kvs, xs = [V.ref a] ∧ Rd H a (.dK kvs) ∧ ∀ p, H p = none → Q (V.ref p) (upd H p (.lst (kvs.map fun kv => kV kv.1)))) (tCons (tVar i) tNil)) σ H (lI ns) := fun N1 H1 u f Q q =>
  ⟨_, hσ, a, _, rfl, .inl (k.up u).h, fun p hp => by
    have e : (ksD ns).map (fun kv => kV kv.1) = ns.map V.int := by
      unfold ksD
      rw [List.map_map]; rfl
    rw [e]
    exact q _ _ (same_upd hp) (.lst (f p hp) upd_same (rps_ints ns))⟩
end
/-- has_all(d, wanted), has_lot(charter, d) with a dict d -/
def spAllD : Sp := fun vs H Q _ => ∃ (N : NP) (a : Addr) (wv : V) (ns ws : List Int), vs = [.ref a, wv] ∧ Fr N H ∧ DkN N H a ns ∧ Rp N H wv (tI ws) ∧ ws.length ≤ 10000 ∧ ∀ v H', Same H H' → Rp N H' v (.bool (ws.all fun o => decide (o ∈ ns))) → Q v H'
def spLotD : Sp := fun vs H Q _ => ∃ (N : NP) (a : Addr) (cv : V) (ns : List Int) (many : Nat) (props : List Int) (lots : List (List Int)), vs = [cv, .ref a] ∧ Fr N H ∧ DkN N H a ns ∧ Rp N H cv (chD many props lots) ∧ Ch2 many props lots ∧
  ∀ v H', Same H H' → Rp N H' v (.bool (Ch.has lots fun o => decide (o ∈ ns))) → Q v H'
section
variable {P : Program} {w : World} {K : PySem.W.Frag} {mg : Str → Option Value} {base : Heap}
theorem ok_all_d {f : Addr} {fd : FuncData} (F : Fun K "has_all" "has_all" s_has_all f fd) (T : Bi mg) : FnOk P w K mg base CX0 1 f fd ["owners", "wanted"] spAllD := by
  refine F.ok sc_has_all (fun vs H Q E ⟨N, a, wv, ns, ws, e, _⟩ => by rw [e]; rfl) (fun cdv A outer s H vs Q E hr h => ?_)
  obtain ⟨N, a, wv, ns, ws, rfl, fr, kd, r, hl, k⟩ := h
  have hu := hu_of hr
  refine ⟨_, pss_one (ps_ret (pe_callB (cr_allK K rfl) (by rfl) T.all (by decide +kernel) (pa_cons (pe_lc (own := [("owner", 2)]) rfl sc_has_all.nd (pi_seqK K (pv 1)) (blkOk_by (own := [("owner", 2)]) (N := ["owners", "wanted", "owner"]) (sc := defScope s_has_all) (by decide +kernel)) (fun _ _ _ _ _ => pg_name (i := 2) sc_has_all.nd rfl (Or.inl rfl)) (fun _ _ _ _ _ => pts_nil)
    (fun _ _ _ _ _ => pe_cmp (pc_din hu (pv 2) (pv 0)))) pa_nil))), ?_⟩
  exact dq_ret (de_allM (xs := ws) (g := fun o => decide (o ∈ ns)) (da_cons (de_lc0 (xs := ws) (enc := PyData.int) (fun o => .bool (decide (o ∈ ns))) (di_seq (de_var rfl r)) (by omega) fun o ho x' N' H' u rx => de_din rfl (kd.up u) (de_var rfl rx)) da_nil)) fr k
theorem ok_lot_d {f : Addr} {fd : FuncData} (F : Fun K "has_lot" "has_lot" s_has_lot f fd) (T : Bi mg) (D_has_all : Def P w K mg base "has_all" 1 ["owners", "wanted"] spAllD) : FnOk P w K mg base CX0 2 f fd ["charter", "owners"] spLotD := by
  obtain ⟨f_has_all, fd_has_all, G_has_all, b_has_all, k_has_all, m_has_all⟩ := D_has_all.ex
  refine F.ok sc_has_lot (fun vs H Q E ⟨N, a, cv, ns, many, props, lots, e, _⟩ => by rw [e]; rfl) (fun cdv A outer s H vs Q E hr h => ?_)
  obtain ⟨N, a, cv, ns, many, props, lots, rfl, fr, kd, r, C, k⟩ := h
  have llen := C.c.llen
  have m6 := C.c.m6
  refine ⟨_, pss_one (ps_ret (pe_callB (cr_anyK K rfl) (by rfl) T.any (by decide +kernel) (pa_cons (pe_lc (own := [("lot", 2)]) rfl sc_has_lot.nd (pi_seqK K (pe_ix (ix_K K) (pv 0) pe_int (fun _ _ => rfl))) (blkOk_by (own := [("lot", 2)]) (N := ["charter", "owners", "lot"]) (sc := defScope s_has_lot) (by decide +kernel)) (fun _ _ _ _ _ => pg_name (i := 2) sc_has_lot.nd rfl (Or.inl rfl)) (fun _ _ _ _ _ => pts_nil) (fun _ _ _ _ _ => pe_call G_has_all (hr.mono (by decide)) rfl m_has_all k_has_all b_has_all .nil pass0 (pa_cons (pv 1) (pa_cons (pv 2) pa_nil)))) pa_nil))), ?_⟩
  refine dq_ret (de_anyM (xs := lots) (g := fun l => l.all fun o => decide (o ∈ ns)) (da_cons (de_lc0 (xs := lots) (enc := tI) (fun l => .bool (l.all fun o => decide (o ∈ ns))) (di_seq (de_op (de_var (i := 0) rfl r) de_int (r2_ix (K := K) (i := 2) (z := tT lots) rfl))) (by omega)
    fun l hl x' N' H' u rx => ?_) da_nil)) fr k
  have h1 := C.c.one l hl
  have l6 := asc_len h1.2.1 h1.2.2
  have kd' := kd.up u
  exact fun N1 H1 u1 f1 Q q => ⟨_, rfl, _, rfl, N1, a, x', ns, l, rfl, f1, kd'.up u1, rx.up u1, by omega, fun v H' s' r' => q v H' s' r'⟩
end
end Pu

namespace Pu
open PySem PySem.Spec PyProof.Rows L2
/-! ### sum of a tuple -/
theorem pre_take (ns : List Int) : ∀ j, preSum (fun i => ns.getD i 0) j = (ns.take j).sum
  | 0 => by simp [preSum]
  | j + 1 => by
    rw [preSum, pre_take ns j]
    by_cases h : j < ns.length
    · rw [List.take_succ_eq_append_getElem h, List.sum_append]
      simp [List.getD, List.getElem?_eq_getElem h]
    · rw [List.take_of_length_le (by omega), List.take_of_length_le (by omega)]
      simp [List.getD, List.getElem?_eq_none (show ns.length ≤ j by omega)]
theorem vals_int_at {ns : List Int} {us : List Value} (r : Vals (ns.map V.int) us) {i : Nat} {v : Value} (h : us[i]? = some v) : ∃ t, v = .int (ns.getD i 0) t := by
  have hl := r.length
  rw [List.length_map] at hl
  have hi : i < us.length := (List.getElem?_eq_some_iff.mp h).1
  obtain ⟨u, h1, h2⟩ := Vals.get (i := i) (x := V.int (ns.getD i 0)) r (by rw [List.getElem?_map, List.getElem?_eq_getElem (show i < ns.length by omega)]; simp [List.getD, List.getElem?_eq_getElem (show i < ns.length by omega)])
  rw [h] at h1
  cases h1
  exact h2
section
variable {X : Cx}
def rSumT (K : PySem.W.Frag) : List V → Hp → VK → Prop := fun vs H Q => ∃ (a : Addr) (ns : List Int), vs = [V.ref a] ∧ SqT K H a (ns.map V.int) ∧ Q (.int ns.sum) H
theorem cr_sumT (hc : X.calm = true) : CallR X (.builtin "sum") (rSumT X.K) := by
  intro pn s σ H vs us Q I r h
  obtain ⟨a, ns, rfl, hs, q⟩ := h
  obtain ⟨its, rv, hT, _⟩ := I.tuple hs
  rw [Vals.ref1 r]
  have hh : X.A.in1.handled = none := I.ok.hd hc
  have ht : s.heap.IsTuple a its.toArray := hT
  have lt : a < s.heap.objs.size := by obtain ⟨_, e, _⟩ := hT; exact Heap.lt_size e
  refine call_sum_walkG (wpAny_pyIter_tuple ht ?_)
  refine ⟨s.heap.objs.size, [s.heap.objs.size, a], [s.heap.objs.size], its.toArray.size, _, _, fun i => ns.getD i 0, rfl, Walks.tuple hh _ a (Nat.ne_of_lt lt) its.toArray,
    ⟨⟨_, Heap.get?_push_size _ rfl, rfl, rfl⟩, ?_⟩, fun b hb => ?_, fun i v h => vals_int_at rv (by simpa using h), fun h' tk t' hk => ?_⟩
  · obtain ⟨o, e, rest⟩ := hT
    exact ⟨o, Heap.get?_push_of_some _ e, rest⟩
  · show b < (s.heap.push _).objs.size
    rw [Heap.size_push]
    rcases List.mem_cons.mp hb with rfl | hb
    · exact Nat.lt_succ_self _
    · rw [List.mem_singleton.mp hb]; exact Nat.lt_succ_of_lt lt
  · have kp : ∀ b o, s.heap.get? b = some o → h'.get? b = some o := fun b o e => hk b o (fun hm => by
      have e1 := List.mem_singleton.mp hm
      exact absurd (e1 ▸ Heap.lt_size e) (Nat.lt_irrefl _)) (Heap.get?_push_of_some _ e)
    have hl := rv.length
    rw [List.length_map] at hl
    rw [pre_take, List.take_of_length_le (by rw [List.size_toArray, ← hl]; exact Nat.le_refl _)]
    exact ⟨.int _, H, I.kept kp, ⟨_, rfl⟩, q⟩
end
theorem cr_sumTK {X : Cx} (K : PySem.W.Frag) (hc : X.calm = true) (h : X.K = K := by rfl) : CallR X (.builtin "sum") (rSumT K) := h ▸ cr_sumT hc
theorem rc_sumT {K : PySem.W.Frag} {ns : List Int} : RCD (rSumT K) [tI ns] (.int ns.sum) := fun N H vs Q f r q => by
  cases r with
  | cons r t =>
    cases t
    cases r with
    | tup n h r =>
      have e := r.ints
      subst e
      exact ⟨_, ns, rfl, SqT.of h, q _ H (Same.refl H) (.int _)⟩
structure OkBg (bs : List Int) : Prop where
  l1 : 1 ≤ bs.length
  l8 : bs.length ≤ 8
  one : ∀ x ∈ bs, 0 ≤ x ∧ x < 1000000000000000000
  sm : -1000000000000000000 < bs.sum ∧ bs.sum < 1000000000000000000
structure OkB (b : Bk) : Prop where
  bg : OkBg b.begin
  m : 3 * b.lies + 1 ≤ b.members
  m13 : b.members ≤ 13
theorem banks_ok : ∀ b ∈ banks, OkB b := by
  intro b hb
  simp only [banks, List.mem_cons, List.not_mem_nil, or_false] at hb
  rcases hb with rfl | rfl | rfl | rfl | rfl | rfl <;> exact ⟨⟨by decide, by decide, by decide, by decide⟩, by decide, by decide⟩
def R_beg : List PyData → PyData → Prop := fun ds d => ∃ bs : List Int, ds = [tI bs] ∧ OkBg bs ∧ d = .bool true
def R_isbank : List PyData → PyData → Prop := fun ds d => ∃ b : Bk, ds = [b.d] ∧ OkB b ∧ d = .bool true
def R_chkbank : List PyData → PyData → Prop := fun ds d => ∃ b : Bk, ds = [b.d] ∧ OkB b ∧ d = .none
def R_need : List PyData → PyData → Prop := fun ds d => ∃ b : Bk, ds = [b.d] ∧ OkB b ∧ d = .int ((b.members : Int) - (b.lies : Int))
def R_mem : List PyData → PyData → Prop := fun ds d => ∃ (b : Bk) (i : Int), ds = [b.d, .int i] ∧ OkB b ∧ small i ∧ d = .bool (decide (0 ≤ i) && decide (i < (b.members : Int)))
def R_aam : List PyData → PyData → Prop := fun ds d => ∃ b : Bk, ds = [b.d, tI []] ∧ OkB b ∧ d = .bool true
section
variable {P : Program} {w : World} {K : PySem.W.Frag} {mg : Str → Option Value} {base : Heap}
abbrev s_is_begin : Stmt := top 17
theorem sc_is_begin : FnScope ["value", "held"] ["value"] (defScope s_is_begin) := ⟨rfl, rfl, rfl, by decide +kernel, rfl, by decide +kernel, by decide +kernel⟩
theorem ok_is_begin {f : Addr} {fd : FuncData} (F : Fun K "is_begin" "is_begin" s_is_begin f fd) (T : Bi mg) {t : Tok} (c_MOST_PURSES : mg "MOST_PURSES" = some (.int 8 t)) (D_is_number : Def P w K mg base "is_number" 1 ["value"] (spP R_num))
    (D_is_number_from : Def P w K mg base "is_number_from" 2 ["value", "least"] (spP R_from)) : FnOk P w K mg base CX0 3 f fd ["value"] (spP R_beg) := by
  obtain ⟨f_is_number, fd_is_number, G_is_number, b_is_number, k_is_number, m_is_number⟩ := D_is_number.ex
  obtain ⟨f_is_number_from, fd_is_number_from, G_is_number_from, b_is_number_from, k_is_number_from, m_is_number_from⟩ := D_is_number_from.ex
  refine F.ok sc_is_begin (len_spP (fun ds d ⟨bs, e, _⟩ => by rw [e]; rfl)) (fun cdv A outer s H vs Q E hr h => ?_)
  obtain ⟨N, ds, d, fr, rs, ⟨bs, rfl, O, rfl⟩, k⟩ := h
  obtain ⟨v, rfl, r⟩ := rps1 rs
  have l1 := O.l1
  have l8 := O.l8
  refine ⟨_, pss_cons (ps_if (PW.pt (pw_or (pt_not (pt_truK K (pe_callB call_isK (by rfl) T.isinstance (by decide +kernel) (pa_cons (pv 0) (pa_cons (pe_tyn "tuple" (by rfl) T.tuple (by decide +kernel)) pa_nil))) (fun _ => rfl))) (pw_or1 (pt_not (pt_chain op_le op_le pe_int (pe_callB (call_lenK K) (by rfl) T.len (by decide +kernel) (pa_cons (pv 0) pa_nil)) (pe_gi rfl c_MOST_PURSES)))))) (pss_one (ps_ret (pe_bl))) pss_nil)
      (pss_one (ps_ret (pe_and (pe_callB (cr_allK K rfl) (by rfl) T.all (by decide +kernel) (pa_cons (pe_lc (own := [("held", 1)]) rfl sc_is_begin.nd (pi_seqK K (pv 0)) (blkOk_by (own := [("held", 1)]) (N := ["value", "held"]) (sc := defScope s_is_begin) (by decide +kernel)) (fun _ _ _ _ _ => pg_name (i := 1) sc_is_begin.nd rfl (Or.inl rfl)) (fun _ _ _ _ _ => pts_nil) (fun _ _ _ _ _ => pe_call G_is_number_from (hr.mono (by decide)) rfl m_is_number_from k_is_number_from b_is_number_from .nil pass0 (pa_cons (pv 1) (pa_cons pe_int pa_nil)))) pa_nil)) (pe_one (pe_call G_is_number (hr.mono (by decide)) rfl m_is_number k_is_number b_is_number .nil pass0 (pa_cons (pe_callB (cr_sumTK K rfl) (by rfl) T.sum (by decide +kernel) (pa_cons (pv 0) pa_nil)) pa_nil)))))), ?_⟩
  refine dq_iff ?_ fr fun H1 s1 => ?_
  · refine dt_or (a := false) (b := false) (dt_not (a := true) (dt_truB (de_isK (de_var rfl r)))) fun _ => dt_not (a := true) ((dt_test (de_chain (de_int) (de_cb (da_cons (de_var rfl r) da_nil) rk_lenT) de_int r2_b r2_b)).is ?_)
    rw [Bool.and_eq_true, decide_eq_true_eq, decide_eq_true_eq]
    omega
  refine dq_ret ((de_andV (a := true) (b := true) ((de_allM (xs := bs) (g := fun _ => true) (da_cons (de_lc0 (xs := bs) (enc := PyData.int) (fun _ => .bool true) (di_seq (de_var rfl (r.same s1))) (by omega)
    fun a ha x' N' H' u' rx => (de_call (da_cons (de_var rfl rx) (da_cons de_int da_nil)) ⟨a, 0, rfl, ⟨by have := O.one a ha; omega, by have := O.one a ha; omega⟩, rfl⟩).is (by rw [decide_eq_true (O.one a ha).1])) da_nil)).is (by simp)) fun _ =>
      de_call (da_cons (de_cb (da_cons (de_var rfl (r.same s1)) da_nil) rc_sumT) da_nil) ⟨bs.sum, rfl, O.sm, rfl⟩).is rfl) (fr.same s1) fun v' H2 s2 r2 => k v' H2 (s1.trans s2) r2
abbrev s_is_bank : Stmt := top 18
theorem sc_is_bank : FnScope ["value", "begin", "members", "lies"] ["value"] (defScope s_is_bank) := ⟨rfl, rfl, rfl, by decide +kernel, rfl, by decide +kernel, by decide +kernel⟩
theorem ok_is_bank {f : Addr} {fd : FuncData} (F : Fun K "is_bank" "is_bank" s_is_bank f fd) (T : Bi mg) {t : Tok} (c_MOST_MEMBERS : mg "MOST_MEMBERS" = some (.int 13 t)) (D_is_begin : Def P w K mg base "is_begin" 3 ["value"] (spP R_beg))
    (D_is_number_from : Def P w K mg base "is_number_from" 2 ["value", "least"] (spP R_from)) : FnOk P w K mg base CX0 4 f fd ["value"] (spP R_isbank) := by
  obtain ⟨f_is_number_from, fd_is_number_from, G_is_number_from, b_is_number_from, k_is_number_from, m_is_number_from⟩ := D_is_number_from.ex
  obtain ⟨f_is_begin, fd_is_begin, G_is_begin, b_is_begin, k_is_begin, m_is_begin⟩ := D_is_begin.ex
  refine F.ok sc_is_bank (len_spP (fun ds d ⟨b, e, _⟩ => by rw [e]; rfl)) (fun cdv A outer s H vs Q E hr h => ?_)
  obtain ⟨N, ds, d, fr, rs, ⟨b, rfl, O, rfl⟩, k⟩ := h
  obtain ⟨v, rfl, r⟩ := rps1 rs
  have hm := O.m
  have h13 := O.m13
  refine ⟨_, pss_cons (ps_if (PW.pt (pw_or (pt_not (pt_truK K (pe_callB call_isK (by rfl) T.isinstance (by decide +kernel) (pa_cons (pv 0) (pa_cons (pe_tyn "tuple" (by rfl) T.tuple (by decide +kernel)) pa_nil))) (fun _ => rfl))) (pw_or1 (pt_cmpR (op_neK K hr.units) (pe_callB (call_lenK K) (by rfl) T.len (by decide +kernel) (pa_cons (pv 0) pa_nil)) pe_int (nomark _))))) (pss_one (ps_ret (pe_bl))) pss_nil)
      (pss_cons (ps_asg (pv 0) (pg_tupK K (n := 3) rfl (pgs_cons (pg_name (i := 1) sc_is_bank.nd rfl (Or.inl rfl)) (pgs_cons (pg_name (i := 2) sc_is_bank.nd rfl (Or.inl rfl)) (pgs_cons (pg_name (i := 3) sc_is_bank.nd rfl (Or.inl rfl)) pgs_nil)))))
      (pss_cons (ps_if (PW.pt (pw_or (pt_not (pt_truK K (pe_call G_is_begin (hr.mono (by decide)) rfl m_is_begin k_is_begin b_is_begin .nil pass0 (pa_cons (pv 1) pa_nil)) (fun _ => rfl))) (pw_or1 (pt_not (pt_truK K (pe_call G_is_number_from (hr.mono (by decide)) rfl m_is_number_from k_is_number_from b_is_number_from .nil pass0 (pa_cons (pv 3) (pa_cons pe_int pa_nil))) (fun _ => rfl)))))) (pss_one (ps_ret (pe_bl))) pss_nil)
      (pss_one (ps_ret (pe_and (pe_call G_is_number_from (hr.mono (by decide)) rfl m_is_number_from k_is_number_from b_is_number_from .nil pass0 (pa_cons (pv 2) (pa_cons (pe_op (op_addK K) (pe_op op_mul pe_int (pv 3)) pe_int) pa_nil))) (pe_one (pe_cmpR op_le (pv 2) (pe_gi rfl c_MOST_MEMBERS) (nomark _)))))))), ?_⟩
  refine dq_iff ?_ fr fun H1 s1 => ?_
  · exact dt_or (a := false) (b := false) (dt_not (a := true) (dt_truB (de_isK (de_var rfl r)))) fun _ => dt_test (de_op (de_cb (da_cons (de_var rfl r) da_nil) rk_len) de_int r2_neI)
  have f1 := fr.same s1
  refine dq_un3 (de_var rfl (r.same s1)) f1 fun va vb vc H2 s2 ra rb rc => ?_
  have f2 := f1.same s2
  refine dq_iff ?_ f2 fun H3 s3 => ?_
  · exact dt_or (a := false) (b := false) (dt_not (a := true) (dt_truB (de_call (da_cons (de_var rfl ra) da_nil) ⟨b.begin, rfl, O.bg, rfl⟩))) fun _ => dt_not (a := true) (dt_truB ((de_call (da_cons (de_var rfl rc) (da_cons de_int da_nil)) ⟨(b.lies : Int), 0, rfl, ⟨by omega, by omega⟩, rfl⟩).is (by rw [decide_eq_true (by omega)])))
  refine dq_ret ((de_andV (a := true) (b := true) ((de_call (da_cons (de_var rfl (rb.same s3)) (da_cons (de_op (de_op (z := .int (3 * (b.lies : Int))) de_int (de_var rfl (rc.same s3)) (r2_ic (g := fun i j => i * j) (.inl ⟨by decide, by decide⟩))) de_int r2_addI) da_nil)) ⟨(b.members : Int), 3 * (b.lies : Int) + 1, rfl, ⟨by omega, by omega⟩, rfl⟩).is (by rw [decide_eq_true (by omega)])) fun _ =>
    (de_op (de_var rfl (rb.same s3)) de_int (r2_b (g := fun a b => decide (a ≤ b)) (i := (b.members : Int)) (j := 13))).is (by rw [decide_eq_true (by omega)])).is rfl) (f2.same s3) fun v' H4 s4 r4 => k v' H4 (((s1.trans s2).trans s3).trans s4) r4
abbrev s_check_bank : Stmt := top 19
theorem sc_check_bank : FnScope ["bank"] ["bank"] (defScope s_check_bank) := ⟨rfl, rfl, rfl, by decide +kernel, rfl, by decide +kernel, by decide +kernel⟩
theorem ok_check_bank {f : Addr} {fd : FuncData} (F : Fun K "check_bank" "check_bank" s_check_bank f fd) (D_is_bank : Def P w K mg base "is_bank" 4 ["value"] (spP R_isbank)) : FnOk P w K mg base CX0 5 f fd ["bank"] (spP R_chkbank) := by
  obtain ⟨f_is_bank, fd_is_bank, G_is_bank, b_is_bank, k_is_bank, m_is_bank⟩ := D_is_bank.ex
  refine F.ok sc_check_bank (len_spP (fun ds d ⟨b, e, _⟩ => by rw [e]; rfl)) (fun cdv A outer s H vs Q E hr h => ?_)
  obtain ⟨N, ds, d, fr, rs, ⟨b, rfl, O, rfl⟩, k⟩ := h
  obtain ⟨v, rfl, r⟩ := rps1 rs
  refine ⟨_, pss_one (ps_if (pt_not (pt_truK K (pe_call G_is_bank (hr.mono (by decide)) rfl m_is_bank k_is_bank b_is_bank .nil pass0 (pa_cons (pv 0) pa_nil)) (fun _ => rfl))) (pss_one (ps_never)) pss_nil), ?_⟩
  exact dq_if (b := false) (dt_not (a := true) (dt_truB (de_call (da_cons (de_var rfl r) da_nil) ⟨b, rfl, O, rfl⟩))) fr (fun h => nomatch h) fun _ H1 s1 => k _ H1 s1 .non
abbrev s_need_of : Stmt := top 20
theorem sc_need_of : FnScope ["bank"] ["bank"] (defScope s_need_of) := ⟨rfl, rfl, rfl, by decide +kernel, rfl, by decide +kernel, by decide +kernel⟩
theorem ok_need_of {f : Addr} {fd : FuncData} (F : Fun K "need_of" "need_of" s_need_of f fd) (D_check_bank : Def P w K mg base "check_bank" 5 ["bank"] (spP R_chkbank)) : FnOk P w K mg base CX0 6 f fd ["bank"] (spP R_need) := by
  obtain ⟨f_check_bank, fd_check_bank, G_check_bank, b_check_bank, k_check_bank, m_check_bank⟩ := D_check_bank.ex
  refine F.ok sc_need_of (len_spP (fun ds d ⟨b, e, _⟩ => by rw [e]; rfl)) (fun cdv A outer s H vs Q E hr h => ?_)
  obtain ⟨N, ds, d, fr, rs, ⟨b, rfl, O, rfl⟩, k⟩ := h
  obtain ⟨v, rfl, r⟩ := rps1 rs
  refine ⟨_, pss_cons (ps_expr (pe_call G_check_bank (hr.mono (by decide)) rfl m_check_bank k_check_bank b_check_bank .nil pass0 (pa_cons (pv 0) pa_nil)))
      (pss_one (ps_ret (pe_op op_sub (pe_ix (ix_K K) (pv 0) pe_int (fun _ _ => rfl)) (pe_ix (ix_K K) (pv 0) pe_int (fun _ _ => rfl))))), ?_⟩
  refine dq_drop (de_call (da_cons (de_var rfl r) da_nil) ⟨b, rfl, O, rfl⟩) fr fun H1 s1 => ?_
  exact dq_ret (de_op (de_op (de_var (i := 0) rfl (r.same s1)) de_int (r2_ix (K := K) (i := 1) (z := .int (b.members : Int)) rfl)) (de_op (de_var (i := 0) rfl (r.same s1)) de_int (r2_ix (K := K) (i := 2) (z := .int (b.lies : Int)) rfl)) r2_i) (fr.same s1) fun v' H2 s2 r2 => k v' H2 (s1.trans s2) r2
abbrev s_is_member : Stmt := top 21
theorem sc_is_member : FnScope ["bank", "value"] ["bank", "value"] (defScope s_is_member) := ⟨rfl, rfl, rfl, by decide +kernel, rfl, by decide +kernel, by decide +kernel⟩
theorem ok_is_member {f : Addr} {fd : FuncData} (F : Fun K "is_member" "is_member" s_is_member f fd) (D_is_number_below : Def P w K mg base "is_number_below" 3 ["value", "limit"] (spP R_below)) : FnOk P w K mg base CX0 4 f fd ["bank", "value"] (spP R_mem) := by
  obtain ⟨f_is_number_below, fd_is_number_below, G_is_number_below, b_is_number_below, k_is_number_below, m_is_number_below⟩ := D_is_number_below.ex
  refine F.ok sc_is_member (len_spP (fun ds d ⟨b, i, e, _⟩ => by rw [e]; rfl)) (fun cdv A outer s H vs Q E hr h => ?_)
  obtain ⟨N, ds, d, fr, rs, ⟨b, i, rfl, O, hi, rfl⟩, k⟩ := h
  obtain ⟨v, u, rfl, r1, r2⟩ := rps2 rs
  refine ⟨_, pss_one (ps_ret (pe_call G_is_number_below (hr.mono (by decide)) rfl m_is_number_below k_is_number_below b_is_number_below .nil pass0 (pa_cons (pv 1) (pa_cons (pe_ix (ix_K K) (pv 0) pe_int (fun _ _ => rfl)) pa_nil)))), ?_⟩
  exact dq_ret (de_call (da_cons (de_var rfl r2) (da_cons (de_op (de_var (i := 0) rfl r1) de_int (r2_ix (K := K) (i := 1) (z := .int (b.members : Int)) rfl)) da_nil)) ⟨i, _, rfl, hi, rfl⟩) fr k
abbrev s_are_ascending_members : Stmt := top 22
theorem sc_are_ascending_members : FnScope ["bank", "values", "value"] ["bank", "values"] (defScope s_are_ascending_members) := ⟨rfl, rfl, rfl, by decide +kernel, rfl, by decide +kernel, by decide +kernel⟩
theorem ok_aam {f : Addr} {fd : FuncData} (F : Fun K "are_ascending_members" "are_ascending_members" s_are_ascending_members f fd) (T : Bi mg) (D_is_member : Def P w K mg base "is_member" 4 ["bank", "value"] (spP R_mem)) (D_is_ascending : Def P w K mg base "is_ascending" 1 ["values"] (spP R_asc)) :
    FnOk P w K mg base CX0 5 f fd ["bank", "values"] (spP R_aam) := by
  obtain ⟨f_is_ascending, fd_is_ascending, G_is_ascending, b_is_ascending, k_is_ascending, m_is_ascending⟩ := D_is_ascending.ex
  obtain ⟨f_is_member, fd_is_member, G_is_member, b_is_member, k_is_member, m_is_member⟩ := D_is_member.ex
  refine F.ok sc_are_ascending_members (len_spP (fun ds d ⟨b, e, _⟩ => by rw [e]; rfl)) (fun cdv A outer s H vs Q E hr h => ?_)
  obtain ⟨N, ds, d, fr, rs, ⟨b, rfl, O, rfl⟩, k⟩ := h
  obtain ⟨v, u, rfl, r1, r2⟩ := rps2 rs
  refine ⟨_, pss_one (ps_ret (pe_and (pe_callB (cr_allK K rfl) (by rfl) T.all (by decide +kernel) (pa_cons (pe_lc (own := [("value", 2)]) rfl sc_are_ascending_members.nd (pi_seqK K (pv 1)) (blkOk_by (own := [("value", 2)]) (N := ["bank", "values", "value"]) (sc := defScope s_are_ascending_members) (by decide +kernel)) (fun _ _ _ _ _ => pg_name (i := 2) sc_are_ascending_members.nd rfl (Or.inl rfl)) (fun _ _ _ _ _ => pts_nil) (fun _ _ _ _ _ => pe_call G_is_member (hr.mono (by decide)) rfl m_is_member k_is_member b_is_member .nil pass0 (pa_cons (pv 0) (pa_cons (pv 2) pa_nil)))) pa_nil)) (pe_one (pe_call G_is_ascending (hr.mono (by decide)) rfl m_is_ascending k_is_ascending b_is_ascending .nil pass0 (pa_cons (pv 1) pa_nil))))), ?_⟩
  exact dq_ret ((de_andV (a := true) (b := true) ((de_allM (xs := ([] : List Int)) (g := fun _ => true) (da_cons (de_lc0 (xs := ([] : List Int)) (enc := PyData.int) (fun _ => .bool true) (di_seq (de_var rfl r2)) (by simp) fun a ha => nomatch ha) da_nil)).is rfl) fun _ =>
    de_call (da_cons (de_var rfl r2) da_nil) ⟨rfl, .inl ⟨[], rfl, by simp, List.Pairwise.nil⟩⟩).is rfl) fr k
end
end Pu

namespace Pu
open PySem PySem.Spec PyProof.Rows L2
/-! ### an object of the class Sharing, by data -/
theorem lk_hit {k : Str} {v : V} {r : List (Str × V)} : List.lookup k ((k, v) :: r) = some v := by
  show (match k == k with | true => some v | false => List.lookup k r) = some v
  rw [beq_self_eq_true]
theorem lk_miss {k a : Str} {v : V} {r : List (Str × V)} (h : (k == a) = false) : List.lookup k ((a, v) :: r) = List.lookup k r := by
  show (match k == a with | true => some v | false => List.lookup k r) = List.lookup k r
  rw [h]
structure ShD where
  b : Bk
  many : Nat
  props : List Int
  lots : List (List Int)
  fs : List Int
  made : List Int
  seals : List (List Int)
  nv : Nat
  lv : V
/-- the written tuple without items -/
def KT (K : PySem.W.Frag) (v : V) : Prop := ∃ (a : Addr) (o : Obj), v = .ref a ∧ K.lookup a = some o ∧ o.cls = .type "tuple" ∧ ∀ H : Hp, SqT K H a []
def shF (vb vc vf vl : V) (lm ls lv : Addr) : List (Str × V) := [("_bank", vb), ("_charter", vc), ("_false", vf), ("_liars", vl), ("_agreed", .bl false), ("_made", .ref lm), ("_seals", .ref ls), ("_votes", .ref lv)]
section
variable {vb vc vf vl : V} {lm ls lv : Addr}
theorem lk_bank : List.lookup ("_bank" : Str) (shF vb vc vf vl lm ls lv) = some vb := lk_hit
theorem lk_charter : List.lookup ("_charter" : Str) (shF vb vc vf vl lm ls lv) = some vc := by
  unfold shF
  rw [lk_miss (by decide +kernel), lk_hit]
theorem lk_false : List.lookup ("_false" : Str) (shF vb vc vf vl lm ls lv) = some vf := by
  unfold shF
  rw [lk_miss (by decide +kernel), lk_miss (by decide +kernel), lk_hit]
theorem lk_liars : List.lookup ("_liars" : Str) (shF vb vc vf vl lm ls lv) = some vl := by
  unfold shF
  rw [lk_miss (by decide +kernel), lk_miss (by decide +kernel), lk_miss (by decide +kernel), lk_hit]
theorem lk_agreed : List.lookup ("_agreed" : Str) (shF vb vc vf vl lm ls lv) = some (.bl false) := by
  unfold shF
  rw [lk_miss (by decide +kernel), lk_miss (by decide +kernel), lk_miss (by decide +kernel), lk_miss (by decide +kernel), lk_hit]
theorem lk_made : List.lookup ("_made" : Str) (shF vb vc vf vl lm ls lv) = some (.ref lm) := by
  unfold shF
  rw [lk_miss (by decide +kernel), lk_miss (by decide +kernel), lk_miss (by decide +kernel), lk_miss (by decide +kernel), lk_miss (by decide +kernel), lk_hit]
theorem lk_seals : List.lookup ("_seals" : Str) (shF vb vc vf vl lm ls lv) = some (.ref ls) := by
  unfold shF
  rw [lk_miss (by decide +kernel), lk_miss (by decide +kernel), lk_miss (by decide +kernel), lk_miss (by decide +kernel), lk_miss (by decide +kernel), lk_miss (by decide +kernel), lk_hit]
theorem lk_votes : List.lookup ("_votes" : Str) (shF vb vc vf vl lm ls lv) = some (.ref lv) := by
  unfold shF
  rw [lk_miss (by decide +kernel), lk_miss (by decide +kernel), lk_miss (by decide +kernel), lk_miss (by decide +kernel), lk_miss (by decide +kernel), lk_miss (by decide +kernel), lk_miss (by decide +kernel), lk_hit]
end
/-- the object at p: what its fields are; all its addresses in N -/
structure ShN (C : Addr) (N : NP) (H : Hp) (p : Addr) (S : ShD) : Prop where
  ex : ∃ (dx : Addr) (vb vc vf vl : V) (lm ls lv : Addr) (qs ws : List Addr), N p ∧ H p = some (.ins C dx (shF vb vc vf vl lm ls lv)) ∧ Rp N H vb S.b.d ∧ Rp N H vc (chD S.many S.props S.lots) ∧ Rp N H vf (tI S.fs) ∧ vl = S.lv ∧
    (N lm ∧ H lm = some (.lst (S.made.map V.int))) ∧ (N ls ∧ H ls = some (.lst (qs.map V.ref))) ∧ (qs.length = S.seals.length ∧ ∀ (i : Nat) (q : Addr) (s : List Int), qs[i]? = some q → S.seals[i]? = some s → DkN N H q s) ∧
    (N lv ∧ H lv = some (.lst (ws.map V.ref))) ∧ ws.length = S.nv ∧ ∀ q ∈ ws, DkN N H q []
/-- what the walk asks of the class -/
structure ShC (K : PySem.W.Frag) (C : Addr) : Prop where
  cl : Cls K C
  nb : NoAttr K C "_bank"
  nc : NoAttr K C "_charter"
  nf : NoAttr K C "_false"
  nl : NoAttr K C "_liars"
  na : NoAttr K C "_agreed"
  nm : NoAttr K C "_made"
  ns : NoAttr K C "_seals"
  nv : NoAttr K C "_votes"
theorem pe_fldK {X : Cx} {K : PySem.W.Frag} (hK : X.K = K) {e : Expr} {ta : TE} {f : Str} {pos : Pos} (he : PE X e ta) (hb : attributeBase e f X.env (eval e X.env) = eval e X.env) : PE X (.Attribute e f pos) (tFld K ta f) := hK ▸ pe_fld he hb
section
variable {K : PySem.W.Frag} {C : Addr} {N N' : NP} {H H' : Hp} {p : Addr} {S : ShD} {σ : L2.St} {i : Nat}
theorem ShN.up (u : Up N H N' H') (s : ShN C N H p S) : ShN C N' H' p S := by
  obtain ⟨dx, vb, vc, vf, vl, lm, ls, lv, qs, ws, np, hp, rb, rc, rf, rl, hm, hs, ⟨ql, hq⟩, hv, wl, hw⟩ := s.ex
  exact ⟨dx, vb, vc, vf, vl, lm, ls, lv, qs, ws, (u _ _ np hp).1, (u _ _ np hp).2, rb.up u, rc.up u, rf.up u, rl, u _ _ hm.1 hm.2, u _ _ hs.1 hs.2, ⟨ql, fun i q s h1 h2 => (hq i q s h1 h2).up u⟩, u _ _ hv.1 hv.2, wl, fun q h => (hw q h).up u⟩
theorem ShN.same (s : Same H H') (h : ShN C N H p S) : ShN C N H' p S := h.up (Up.of s)
theorem de_bank (T : ShC K C) (hσ : σ[i]? = some (some (.ref p))) (s : ShN C N H p S) : DE N (tFld K (tVar i) "_bank") σ H S.b.d := fun N1 H1 u f Q q => by
  obtain ⟨dx, vb, vc, vf, vl, lm, ls, lv, qs, ws, np, hp, rb, rc, rf, rl, hm, hs, hq, hv, wl, hw⟩ := (s.up u).ex
  exact ⟨_, hσ, p, C, dx, _, _, rfl, hp, T.cl, T.nb, lk_bank, q _ H1 (Same.refl H1) rb⟩
theorem de_charter (T : ShC K C) (hσ : σ[i]? = some (some (.ref p))) (s : ShN C N H p S) : DE N (tFld K (tVar i) "_charter") σ H (chD S.many S.props S.lots) := fun N1 H1 u f Q q => by
  obtain ⟨dx, vb, vc, vf, vl, lm, ls, lv, qs, ws, np, hp, rb, rc, rf, rl, hm, hs, hq, hv, wl, hw⟩ := (s.up u).ex
  exact ⟨_, hσ, p, C, dx, _, _, rfl, hp, T.cl, T.nc, lk_charter, q _ H1 (Same.refl H1) rc⟩
theorem de_false (T : ShC K C) (hσ : σ[i]? = some (some (.ref p))) (s : ShN C N H p S) : DE N (tFld K (tVar i) "_false") σ H (tI S.fs) := fun N1 H1 u f Q q => by
  obtain ⟨dx, vb, vc, vf, vl, lm, ls, lv, qs, ws, np, hp, rb, rc, rf, rl, hm, hs, hq, hv, wl, hw⟩ := (s.up u).ex
  exact ⟨_, hσ, p, C, dx, _, _, rfl, hp, T.cl, T.nf, lk_false, q _ H1 (Same.refl H1) rf⟩
theorem de_ninLiars (T : ShC K C) (hσ : σ[i]? = some (some (.ref p))) (s : ShN C N H p S) (kt : KT K S.lv) {o : Int} {te : TE} (h : DE N te σ H (.int o)) : DE N (tOp (rIn K true) te (tFld K (tVar i) "_liars")) σ H (.bool true) := fun N1 H1 u f Q q =>
  h N1 H1 u f _ fun v H2 s2 r2 => by
    cases r2
    obtain ⟨dx, vb, vc, vf, vl, lm, ls, lv, qs, ws, np, hp, rb, rc, rf, rl, hm, hs, hq, hv, wl, hw⟩ := ((s.up u).same s2).ex
    obtain ⟨a, _, ea, _, _, ht⟩ := kt
    refine ⟨_, hσ, p, C, dx, _, _, rfl, hp, T.cl, T.nl, lk_liars, a, [], rl.trans ea, .inr (ht _), rfl, by simp, ?_⟩
    exact q _ H2 s2 (.bl _)
theorem de_agreed (T : ShC K C) (hσ : σ[i]? = some (some (.ref p))) (s : ShN C N H p S) : DE N (tFld K (tVar i) "_agreed") σ H (.bool false) := fun N1 H1 u f Q q => by
  obtain ⟨dx, vb, vc, vf, vl, lm, ls, lv, qs, ws, np, hp, rb, rc, rf, rl, hm, hs, hq, hv, wl, hw⟩ := (s.up u).ex
  exact ⟨_, hσ, p, C, dx, _, _, rfl, hp, T.cl, T.na, lk_agreed, q _ H1 (Same.refl H1) (.bl false)⟩
theorem de_made (T : ShC K C) (hσ : σ[i]? = some (some (.ref p))) (s : ShN C N H p S) : DE N (tFld K (tVar i) "_made") σ H (lI S.made) := fun N1 H1 u f Q q => by
  obtain ⟨dx, vb, vc, vf, vl, lm, ls, lv, qs, ws, np, hp, rb, rc, rf, rl, hm, hs, hq, hv, wl, hw⟩ := (s.up u).ex
  exact ⟨_, hσ, p, C, dx, _, _, rfl, hp, T.cl, T.nm, lk_made, q _ H1 (Same.refl H1) (.lst hm.1 hm.2 (rps_ints _))⟩
end
/-! ### methods that only read: self, then data -/
def spM (C : Addr) (R : ShD → List PyData → PyData → Prop) : Sp := fun vs H Q _ => ∃ (N : NP) (p : Addr) (S : ShD) (us : List V) (ds : List PyData) (d : PyData), vs = .ref p :: us ∧ Fr N H ∧ ShN C N H p S ∧ Rps N H us ds ∧ R S ds d ∧ ∀ v H', Same H H' → Rp N H' v d → Q v H'
theorem len_spM {C : Addr} {R : ShD → List PyData → PyData → Prop} {n : Nat} (h : ∀ S ds d, R S ds d → ds.length + 1 = n) : ∀ vs H Q E, spM C R vs H Q E → vs.length = n := fun vs H Q E ⟨N, p, S, us, ds, d, e, _, _, r, hr, _⟩ => by rw [e, List.length_cons, r.len, h S ds d hr]
theorem de_methM {C : Addr} {N : NP} {σ : L2.St} {H : Hp} {p : Addr} {S : ShD} {R : ShD → List PyData → PyData → Prop} {E : XK} {m : Str} {i : Nat} {ta : TA} {ds : List PyData} {d : PyData} (hσ : σ[i]? = some (some (.ref p))) (s : ShN C N H p S)
    (hm : ∀ vb vc vf vl lm ls lv, List.lookup m (shF vb vc vf vl lm ls lv) = none) (h : DA N ta σ H ds) (r : R S ds d) : DE N (tMeth C m (spM C R) [] E (tVar i) ta) σ H d := fun N1 H1 u f Q q => by
  obtain ⟨dx, vb, vc, vf, vl, lm, ls, lv, qs, ws, np, hp, _⟩ := (s.up u).ex
  exact ⟨_, hσ, p, dx, _, rfl, hp, hm _ _ _ _ _ _ _, h N1 H1 u f _ fun vs H2 s2 r2 => ⟨N1, p, S, vs, ds, d, by rw [List.append_nil], f.same s2, (s.up u).same s2, r2, r, fun v H3 s3 r3 => q v H3 (s2.trans s3) r3⟩⟩
structure DefM (P : Program) (w : World) (K : PySem.W.Frag) (mg : Str → Option Value) (base : Heap) (C : Addr) (x : Str) (lv : Nat) (ps : List Str) (sp : Sp) : Prop where
  ex : ∃ (f : Addr) (fd : FuncData), FnOk P w K mg base CX0 lv f fd ps sp ∧ Binds K fd ps [] ∧ Meth K C x f
end Pu

namespace Pu
open PySem PySem.Spec PyProof.Rows L2
section
variable {K : PySem.W.Frag} {C : Addr} {N N' : NP} {H H' : Hp} {p : Addr} {S : ShD} {σ : L2.St} {i : Nat}
theorem de_seals0 (T : ShC K C) (hσ : σ[i]? = some (some (.ref p))) (s : ShN C N H p S) (e : S.seals = []) : DE N (tFld K (tVar i) "_seals") σ H (.list []) := fun N1 H1 u f Q q => by
  obtain ⟨dx, vb, vc, vf, vl, lm, ls, lv, qs, ws, np, hp, rb, rc, rf, rl, hm, hs, hq, hv, wl, hw⟩ := (s.up u).ex
  have : qs = [] := List.eq_nil_of_length_eq_zero (by rw [hq.1, e]; rfl)
  subst this
  exact ⟨_, hσ, p, C, dx, _, _, rfl, hp, T.cl, T.ns, lk_seals, q _ H1 (Same.refl H1) (.lst hs.1 hs.2 .nil)⟩
theorem de_votes0 (T : ShC K C) (hσ : σ[i]? = some (some (.ref p))) (s : ShN C N H p S) (e : S.nv = 0) : DE N (tFld K (tVar i) "_votes") σ H (.list []) := fun N1 H1 u f Q q => by
  obtain ⟨dx, vb, vc, vf, vl, lm, ls, lv, qs, ws, np, hp, rb, rc, rf, rl, hm, hs, hq, hv, wl, hw⟩ := (s.up u).ex
  have : ws = [] := List.eq_nil_of_length_eq_zero (by rw [wl, e])
  subst this
  exact ⟨_, hσ, p, C, dx, _, _, rfl, hp, T.cl, T.nv, lk_votes, q _ H1 (Same.refl H1) (.lst hv.1 hv.2 .nil)⟩
end
/-! ### enumerate(list) -/
section
variable {X : Cx} {K : PySem.W.Frag} {N : NP} {σ : L2.St} {H : Hp} {ds : List PyData}
theorem pi_enumLK (K : PySem.W.Frag) {e : Expr} {ta : TA} {p pos tpos : Pos} {elts : List Expr} {kk : Nat} (hg : Gl X "enumerate") (hm : X.mg "enumerate" = none) (ha : PA X [e] ta) (hs : starEach [e] X.env = [(false, eval e X.env)] := by rfl) (h : X.K = K := by rfl) :
    PI X (.Tuple elts kk tpos) (.Call (.Name "enumerate" p) [e] [] pos) (iEnum K ta) := h ▸ pi_enum hg hm ha hs
theorem di_enumL {ta : TA} (h : DA N ta σ H [.list ds]) : DI N (iEnum K ta) σ H (enumD ds) := fun N1 H1 u f R q =>
  h N1 H1 u f _ fun vs H2 s2 r2 => by
    cases r2 with
    | cons r t =>
      cases t
      cases r with
      | @lst a xs _ n hh r =>
        refine ⟨a, xs, rfl, SqL.of hh, q _ _ s2 ⟨fun N' H' u i hi => ?_, fun N' H' u f i x H'' hi y => ?_, fun N' H' u => ?_⟩⟩
        · rw [enumD_len] at hi
          have e := r.len
          exact ⟨xs, xs[i]'(by omega), SqL.of (u a _ n hh).2, List.getElem?_eq_getElem (by omega)⟩
        · rw [enumD_len] at hi
          obtain ⟨T, w, rfl, nT, rfl, y⟩ := y
          have e := y xs (SqL.of (u a _ n hh).2)
          obtain ⟨d, hd, rd⟩ := (r.up u).get e
          exact ⟨same_upd nT, _, enumD_get hd, .tup (f T nT) upd_same (.cons (.int _) (.cons (rd.same (same_upd nT)) .nil))⟩
        · rw [enumD_len]
          exact ⟨xs, SqL.of (u a _ n hh).2, by rw [r.len]; exact Nat.le_refl _⟩
end
/-- one that is told by the class's own words: self stands in a method's frame -/
theorem noF {m : Str} (h1 : (m == ("_bank" : Str)) = false := by decide +kernel) (h2 : (m == ("_charter" : Str)) = false := by decide +kernel) (h3 : (m == ("_false" : Str)) = false := by decide +kernel) (h4 : (m == ("_liars" : Str)) = false := by decide +kernel)
    (h5 : (m == ("_agreed" : Str)) = false := by decide +kernel) (h6 : (m == ("_made" : Str)) = false := by decide +kernel) (h7 : (m == ("_seals" : Str)) = false := by decide +kernel) (h8 : (m == ("_votes" : Str)) = false := by decide +kernel) :
    ∀ vb vc vf vl lm ls lv, List.lookup m (shF vb vc vf vl lm ls lv) = none := fun vb vc vf vl lm ls lv => by
  unfold shF
  rw [lk_miss h1, lk_miss h2, lk_miss h3, lk_miss h4, lk_miss h5, lk_miss h6, lk_miss h7, lk_miss h8]
  all_goals rfl
def R_idle : ShD → List PyData → PyData → Prop := fun S ds d => ∃ o : Int, ds = [.int o] ∧ S.seals = [] ∧ d = .bool (!decide (o ∈ S.fs))
def R_free (K : PySem.W.Frag) : ShD → List PyData → PyData → Prop := fun S ds d => ∃ o : Int, ds = [.int o] ∧ S.nv = 0 ∧ KT K S.lv ∧ d = .bool true
def R_canp : ShD → List PyData → PyData → Prop := fun S ds d => ∃ o : Int, ds = [.int o] ∧ Ch2 S.many S.props S.lots ∧ o ∈ S.props ∧ S.made.length < 30 ∧ (o ∈ S.fs ∨ S.seals = []) ∧ d = .bool true
def R_book : ShD → List PyData → PyData → Prop := fun S ds d => ds = [] ∧ S.nv = 0 ∧ d = .tuple []
section
variable {P : Program} {w : World} {K : PySem.W.Frag} {mg : Str → Option Value} {base : Heap} {C : Addr}
abbrev s_Sharing_p_is_idle : Stmt := inClass (top 39) 11
theorem sc_Sharing_p_is_idle : FnScope ["self", "owner", "owners"] ["self", "owner"] (defScope s_Sharing_p_is_idle) := ⟨rfl, rfl, rfl, by decide +kernel, rfl, by decide +kernel, by decide +kernel⟩
theorem ok_m_is_idle {f : Addr} {fd : FuncData} (F : Fun K "_is_idle" "Sharing._is_idle" s_Sharing_p_is_idle f fd) (T : Bi mg) (SC : ShC K C) : FnOk P w K mg base CX0 1 f fd ["self", "owner"] (spM C R_idle) := by
  refine F.ok sc_Sharing_p_is_idle (len_spM fun S ds d ⟨o, e, _⟩ => by rw [e]; rfl) (fun cdv A outer s H vs Q E hr h => ?_)
  obtain ⟨N, p, S, us, ds, d, rfl, fr, sh, rs, ⟨o, rfl, hs, rfl⟩, k⟩ := h
  obtain ⟨v, rfl, r⟩ := rps1 rs
  refine ⟨_, pss_one (ps_ret (pe_and (pe_cmpR (op_ninK K) (pv 1) (pe_fldK (K := K) rfl (pv 0) rfl) rfl) (pe_one (pe_not (pe_callB (cr_anyK K rfl) (by rfl) T.any (by decide +kernel) (pa_cons (pe_lc (own := [("owners", 2)]) rfl sc_Sharing_p_is_idle.nd (pi_seqK K (pe_fldK (K := K) rfl (pv 0) rfl)) (blkOk_by (own := [("owners", 2)]) (N := ["self", "owner", "owners"]) (sc := defScope s_Sharing_p_is_idle) (by decide +kernel)) (fun _ _ _ _ _ => pg_name (i := 2) sc_Sharing_p_is_idle.nd rfl (Or.inl rfl)) (fun _ _ _ _ _ => pts_nil) (fun _ _ _ _ _ => pe_cmpR (op_inK K) (pv 1) (pv 2) rfl)) pa_nil)))))), ?_⟩
  refine dq_ret ((de_andV (a := !decide (o ∈ S.fs)) (b := true) (de_op (de_var rfl r) (de_false SC rfl sh) (r2_nin rfl)) fun _ => (de_notV (a := false) ((de_anyM (xs := ([] : List Int)) (g := fun _ => true) (da_cons (de_lc0 (xs := ([] : List Int)) (enc := PyData.int) (fun _ => .bool true) (di_seq (de_seals0 SC rfl sh hs)) (by simp) fun a ha => nomatch ha) da_nil)).is rfl)).is rfl).is ?_) fr k
  rw [Bool.and_true]
abbrev s_Sharing_p_is_free : Stmt := inClass (top 39) 12
theorem sc_Sharing_p_is_free : FnScope ["self", "member", "members"] ["self", "member"] (defScope s_Sharing_p_is_free) := ⟨rfl, rfl, rfl, by decide +kernel, rfl, by decide +kernel, by decide +kernel⟩
theorem ok_m_is_free {f : Addr} {fd : FuncData} (F : Fun K "_is_free" "Sharing._is_free" s_Sharing_p_is_free f fd) (T : Bi mg) (SC : ShC K C) : FnOk P w K mg base CX0 1 f fd ["self", "member"] (spM C (R_free K)) := by
  refine F.ok sc_Sharing_p_is_free (len_spM fun S ds d ⟨o, e, _⟩ => by rw [e]; rfl) (fun cdv A outer s H vs Q E hr h => ?_)
  obtain ⟨N, p, S, us, ds, d, rfl, fr, sh, rs, ⟨o, rfl, hs, kt, rfl⟩, k⟩ := h
  obtain ⟨v, rfl, r⟩ := rps1 rs
  refine ⟨_, pss_one (ps_ret (pe_and (pe_cmpR (op_ninK K) (pv 1) (pe_fldK (K := K) rfl (pv 0) rfl) rfl) (pe_one (pe_not (pe_callB (cr_anyK K rfl) (by rfl) T.any (by decide +kernel) (pa_cons (pe_lc (own := [("members", 2)]) rfl sc_Sharing_p_is_free.nd (pi_seqK K (pe_fldK (K := K) rfl (pv 0) rfl)) (blkOk_by (own := [("members", 2)]) (N := ["self", "member", "members"]) (sc := defScope s_Sharing_p_is_free) (by decide +kernel)) (fun _ _ _ _ _ => pg_name (i := 2) sc_Sharing_p_is_free.nd rfl (Or.inl rfl)) (fun _ _ _ _ _ => pts_nil) (fun _ _ _ _ _ => pe_cmpR (op_inK K) (pv 1) (pv 2) rfl)) pa_nil)))))), ?_⟩
  exact dq_ret ((de_andV (a := true) (b := true) (de_ninLiars SC rfl sh kt (de_var rfl r)) fun _ => (de_notV (a := false) ((de_anyM (xs := ([] : List Int)) (g := fun _ => true) (da_cons (de_lc0 (xs := ([] : List Int)) (enc := PyData.int) (fun _ => .bool true) (di_seq (de_votes0 SC rfl sh hs)) (by simp) fun a ha => nomatch ha) da_nil)).is rfl)).is rfl).is rfl) fr k
abbrev s_Sharing_booked : Stmt := inClass (top 39) 7
theorem sc_Sharing_booked : FnScope ["self", "at", "members"] ["self"] (defScope s_Sharing_booked) := ⟨rfl, rfl, rfl, by decide +kernel, rfl, by decide +kernel, by decide +kernel⟩
theorem ok_m_booked {f : Addr} {fd : FuncData} (F : Fun K "booked" "Sharing.booked" s_Sharing_booked f fd) (T : Bi mg) (SC : ShC K C) (D_need_of : Def P w K mg base "need_of" 6 ["bank"] (spP R_need)) :
    FnOk P w K mg base CX0 7 f fd ["self"] (spM C R_book) := by
  obtain ⟨f_need_of, fd_need_of, G_need_of, b_need_of, k_need_of, m_need_of⟩ := D_need_of.ex
  refine F.ok sc_Sharing_booked (len_spM fun S ds d ⟨e, _⟩ => by rw [e]; rfl) (fun cdv A outer s H vs Q E hr h => ?_)
  obtain ⟨N, p, S, us, ds, d, rfl, fr, sh, rs, ⟨rfl, hs, rfl⟩, k⟩ := h
  cases rs
  refine ⟨_, pss_one (ps_ret (pe_callTy (call_tupK K) (by rfl) T.tuple (by decide +kernel) (pa_cons (pe_lc (own := [("at", 1), ("members", 2)]) rfl sc_Sharing_booked.nd (pi_enumLK K (by rfl) T.enumerate (pa_cons (pe_fldK (K := K) rfl (pv 0) rfl) pa_nil)) (blkOk_by (own := [("at", 1), ("members", 2)]) (N := ["self", "at", "members"]) (sc := defScope s_Sharing_booked) (by decide +kernel)) (fun _ _ _ _ _ => pg_tupK K (n := 2) rfl (pgs_cons (pg_name (i := 1) sc_Sharing_booked.nd rfl (Or.inl rfl)) (pgs_cons (pg_name (i := 2) sc_Sharing_booked.nd rfl (Or.inl rfl)) pgs_nil))) (fun _ _ _ _ _ => pts_one (pt_cmpR op_ge (pe_callB (call_lenK K) (by rfl) T.len (by decide +kernel) (pa_cons (pv 2) pa_nil)) (pe_call G_need_of (hr.mono (by decide)) rfl m_need_of k_need_of b_need_of .nil pass0 (pa_cons (pe_fldK (K := K) rfl (pv 0) rfl) pa_nil)) (nomark _))) (fun _ _ _ _ _ => pv 1)) pa_nil))), ?_⟩
  exact dq_ret (de_cb (da_cons ((de_lcP (K := K) (xs := ([] : List Int)) (e1 := PyData.int) (e2 := PyData.int) (fun _ => true) (fun _ => .int 0) (di_enumL (ds := []) (da_cons (de_votes0 SC rfl sh hs) da_nil)) (by simp) fun a ha => nomatch ha).is rfl) da_nil) rk_tup) fr k
abbrev s_Sharing_p_can_propose : Stmt := inClass (top 39) 13
theorem sc_Sharing_p_can_propose : FnScope ["self", "owner"] ["self", "owner"] (defScope s_Sharing_p_can_propose) := ⟨rfl, rfl, rfl, by decide +kernel, rfl, by decide +kernel, by decide +kernel⟩
theorem ok_m_can_propose {f : Addr} {fd : FuncData} (F : Fun K "_can_propose" "Sharing._can_propose" s_Sharing_p_can_propose f fd) (T : Bi mg) (SC : ShC K C) {t : Tok} (c_MOST_PROPOSALS : mg "MOST_PROPOSALS" = some (.int 30 t)) (cSharing : Cls K C)
    (D_is_number_below : Def P w K mg base "is_number_below" 3 ["value", "limit"] (spP R_below)) (D_Sharing_p_is_idle : DefM P w K mg base C "_is_idle" 1 ["self", "owner"] (spM C R_idle)) : FnOk P w K mg base CX0 4 f fd ["self", "owner"] (spM C R_canp) := by
  obtain ⟨f_Sharing_p_is_idle, fd_Sharing_p_is_idle, G_Sharing_p_is_idle, b_Sharing_p_is_idle, h_Sharing_p_is_idle⟩ := D_Sharing_p_is_idle.ex
  obtain ⟨f_is_number_below, fd_is_number_below, G_is_number_below, b_is_number_below, k_is_number_below, m_is_number_below⟩ := D_is_number_below.ex
  refine F.ok sc_Sharing_p_can_propose (len_spM fun S ds d ⟨o, e, _⟩ => by rw [e]; rfl) (fun cdv A outer s H vs Q E hr h => ?_)
  obtain ⟨N, p, S, us, ds, d, rfl, fr, sh, rs, ⟨o, rfl, Cc, ho, hl, hf, rfl⟩, k⟩ := h
  obtain ⟨v, rfl, r⟩ := rps1 rs
  have bo := Cc.c.pin o ho
  have m6 := Cc.c.m6
  refine ⟨_, pss_cons (ps_if (PW.pt (pw_or (pt_not (pt_truK K (pe_call G_is_number_below (hr.mono (by decide)) rfl m_is_number_below k_is_number_below b_is_number_below .nil pass0 (pa_cons (pv 1) (pa_cons (pe_ix (ix_K K) (pe_fldK (K := K) rfl (pv 0) rfl) pe_int (fun _ _ => rfl)) pa_nil))) (fun _ => rfl))) (pw_or1 (pt_cmpR (op_ninK K) (pv 1) (pe_ix (ix_K K) (pe_fldK (K := K) rfl (pv 0) rfl) pe_int (fun _ _ => rfl)) rfl)))) (pss_one (ps_ret (pe_bl))) pss_nil)
      (pss_cons (ps_if (pt_cmpR op_ge (pe_callB (call_lenK K) (by rfl) T.len (by decide +kernel) (pa_cons (pe_fldK (K := K) rfl (pv 0) rfl) pa_nil)) (pe_gi rfl c_MOST_PROPOSALS) (nomark _)) (pss_one (ps_ret (pe_bl))) pss_nil)
      (pss_cons (ps_if (pt_cmpR (op_inK K) (pv 1) (pe_fldK (K := K) rfl (pv 0) rfl) rfl) (pss_one (ps_ret (pe_bl))) pss_nil)
      (pss_one (ps_ret (pe_and (pe_meth (pv 0) cSharing h_Sharing_p_is_idle G_Sharing_p_is_idle (hr.mono (by decide)) b_Sharing_p_is_idle .nil pass0 (pa_cons (pv 1) pa_nil)) (pe_one (pe_not (pe_and (pe_fldK (K := K) rfl (pv 0) rfl) (pe_one (pe_fldK (K := K) rfl (pv 0) rfl)))))))))), ?_⟩
  refine dq_iff ((dt_or (a := false) (b := false) (dt_not (a := true) (dt_truB ((de_call (da_cons (de_var rfl r) (da_cons (de_op (de_charter (i := 0) SC rfl sh) de_int (r2_ix (K := K) (i := 0) (z := .int (S.many : Int)) rfl)) da_nil)) ⟨o, _, rfl, ⟨by omega, by omega⟩, rfl⟩).is (by simp; omega))))
    fun _ => (dt_test (de_op (de_var rfl r) (de_op (de_charter (i := 0) SC rfl sh) de_int (r2_ix (K := K) (i := 1) (z := tI S.props) rfl)) (r2_nin rfl))).is (by simp [ho])).is rfl) fr fun H1 s1 => ?_
  have f1 := fr.same s1
  have sh1 := sh.same s1
  refine dq_iff ((dt_test (de_op (de_cb (da_cons (de_made (i := 0) SC rfl sh1) da_nil) rk_lenL) de_int (r2_b (g := fun a b => decide (b ≤ a)) (i := (S.made.length : Int)) (j := 30)))).is (by simp; omega)) f1 fun H2 s2 => ?_
  have f2 := f1.same s2
  have sh2 := sh1.same s2
  have r2 := (r.same s1).same s2
  refine dq_ifN (N := N) (b := decide (o ∈ S.fs)) (dt_test (de_op (de_var rfl r2) (de_false (i := 0) SC rfl sh2) (r2_in rfl))) f2 (fun hb H3 s3 => ?_) fun hb H3 s3 => ?_
  · exact dq_ret de_bl (f2.same s3) fun v' H4 s4 r4 => k v' H4 (((s1.trans s2).trans s3).trans s4) r4
  · have hb := of_decide_eq_false hb
    have he : S.seals = [] := hf.resolve_left hb
    refine dq_ret ((de_andV (a := true) (b := true) ((de_methM (R := R_idle) rfl (sh2.same s3) noF (da_cons (de_var rfl (r2.same s3)) da_nil) ⟨o, rfl, he, rfl⟩).is (by simp [hb])) fun _ => (de_notV (a := false) ((de_andV (a := false) (b := true) (de_agreed (i := 0) SC rfl (sh2.same s3)) fun h => nomatch h).is rfl)).is rfl).is rfl) (f2.same s3) fun v' H4 s4 r4 => k v' H4 (((s1.trans s2).trans s3).trans s4) r4
end
end Pu

namespace Pu
open PySem PySem.Spec PyProof.Rows L2
section
variable {K : PySem.W.Frag} {C : Addr} {N N' : NP} {H H' : Hp} {p : Addr} {S : ShD} {σ : L2.St} {i j : Nat} {te : TE}
/-- owner in self._seals[proposal] -/
theorem de_inSeal (T : ShC K C) (hσ : σ[i]? = some (some (.ref p))) (s : ShN C N H p S) {n : Nat} (hj : σ[j]? = some (some (.int (n : Int)))) {sl : List Int} (hs : S.seals[n]? = some sl) {o : Int} (h : DE N te σ H (.int o)) :
    DE N (tDIn te (tOp (rIx K) (tFld K (tVar i) "_seals") (tVar j))) σ H (.bool (decide (o ∈ sl))) := fun N1 H1 u f Q q =>
  h N1 H1 u f _ fun v H2 s2 r2 => by
    cases r2
    obtain ⟨dx, vb, vc, vf, vl, lm, ls, lv, qs, ws, np, hp, rb, rc, rf, rl, hm, hS, hq, hv, wl, hw⟩ := ((s.up u).same s2).ex
    have hn : n < qs.length := by rw [hq.1]; exact (List.getElem?_eq_some_iff.mp hs).1
    have hd := hq.2 n qs[n] sl (List.getElem?_eq_getElem hn) hs
    refine ⟨_, hσ, p, C, dx, _, _, rfl, hp, T.cl, T.ns, lk_seals, _, hj, .inl ⟨ls, _, (n : Int), .ref qs[n], rfl, rfl, SqL.of hS.2, ?_, ?_⟩⟩
    · refine atI_i (by omega) ?_
      rw [Int.toNat_natCast, List.getElem?_map, List.getElem?_eq_getElem hn]; rfl
    · refine ⟨qs[n], _, rfl, DGet.k (k := (Sum.inl o : Key)) hd.h, ?_⟩
      rw [val_ks]
      exact q _ H2 s2 (.bl _)
end
def R_cans : ShD → List PyData → PyData → Prop := fun S ds d => ∃ (o : Int) (n : Nat) (sl : List Int), ds = [.int o, .int (n : Int)] ∧ S.many ≤ 6 ∧ 0 ≤ o ∧ o < S.many ∧ S.seals[n]? = some sl ∧ o ∉ sl ∧ o ∈ S.fs ∧ d = .bool true
/-- the acts that the law does -/
def R_isact : ShD → List PyData → PyData → Prop := fun S ds d => d = .bool true ∧ ((∃ o : Int, ds = [.tuple [.str "propose", .int o]] ∧ Ch2 S.many S.props S.lots ∧ o ∈ S.props ∧ S.made.length < 30 ∧ (o ∈ S.fs ∨ S.seals = [])) ∨
  ∃ (o : Int) (n : Nat) (sl : List Int), ds = [.tuple [.str "sign", .int o, .int (n : Int)]] ∧ S.many ≤ 6 ∧ n < S.made.length ∧ S.made.length ≤ 30 ∧ 0 ≤ o ∧ o < S.many ∧ S.seals[n]? = some sl ∧ o ∉ sl ∧ o ∈ S.fs)
section
variable {P : Program} {w : World} {K : PySem.W.Frag} {mg : Str → Option Value} {base : Heap} {C : Addr}
abbrev s_Sharing_p_can_sign : Stmt := inClass (top 39) 14
theorem sc_Sharing_p_can_sign : FnScope ["self", "owner", "proposal"] ["self", "owner", "proposal"] (defScope s_Sharing_p_can_sign) := ⟨rfl, rfl, rfl, by decide +kernel, rfl, by decide +kernel, by decide +kernel⟩
theorem ok_m_can_sign {f : Addr} {fd : FuncData} (F : Fun K "_can_sign" "Sharing._can_sign" s_Sharing_p_can_sign f fd) (T : Bi mg) (SC : ShC K C) (cSharing : Cls K C)
    (D_is_number_below : Def P w K mg base "is_number_below" 3 ["value", "limit"] (spP R_below)) (D_Sharing_p_is_idle : DefM P w K mg base C "_is_idle" 1 ["self", "owner"] (spM C R_idle)) : FnOk P w K mg base CX0 4 f fd ["self", "owner", "proposal"] (spM C R_cans) := by
  obtain ⟨f_Sharing_p_is_idle, fd_Sharing_p_is_idle, G_Sharing_p_is_idle, b_Sharing_p_is_idle, h_Sharing_p_is_idle⟩ := D_Sharing_p_is_idle.ex
  obtain ⟨f_is_number_below, fd_is_number_below, G_is_number_below, b_is_number_below, k_is_number_below, m_is_number_below⟩ := D_is_number_below.ex
  refine F.ok sc_Sharing_p_can_sign (len_spM fun S ds d ⟨o, n, sl, e, _⟩ => by rw [e]; rfl) (fun cdv A outer s H vs Q E hr h => ?_)
  obtain ⟨N, p, S, us, ds, d, rfl, fr, sh, rs, ⟨o, n, sl, rfl, m6, o0, o1, hs, ho, hf, rfl⟩, k⟩ := h
  obtain ⟨v, u, rfl, r1, r2⟩ := rps2 rs
  have hu := hu_of hr
  cases r2
  refine ⟨_, pss_cons (ps_if (PW.pt (pw_or (pt_not (pt_truK K (pe_call G_is_number_below (hr.mono (by decide)) rfl m_is_number_below k_is_number_below b_is_number_below .nil pass0 (pa_cons (pv 1) (pa_cons (pe_ix (ix_K K) (pe_fldK (K := K) rfl (pv 0) rfl) pe_int (fun _ _ => rfl)) pa_nil))) (fun _ => rfl))) (pw_or1 (pt_cmp (pc_din hu (pv 1) (pe_ix (ix_K K) (pe_fldK (K := K) rfl (pv 0) rfl) (pv 2) (fun _ _ => rfl))))))) (pss_one (ps_ret (pe_bl))) pss_nil)
      (pss_cons (ps_if (pt_cmpR (op_inK K) (pv 1) (pe_fldK (K := K) rfl (pv 0) rfl) rfl) (pss_one (ps_ret (pe_bl))) pss_nil)
      (pss_one (ps_ret (pe_and (pe_meth (pv 0) cSharing h_Sharing_p_is_idle G_Sharing_p_is_idle (hr.mono (by decide)) b_Sharing_p_is_idle .nil pass0 (pa_cons (pv 1) pa_nil)) (pe_one (pe_or (pe_cmpR (op_eqK K hr.units) (pv 2) pe_int (nomark _)) (pe_one (pe_not (pe_fldK (K := K) rfl (pv 0) rfl))))))))), ?_⟩
  refine dq_iff ((dt_or (a := false) (b := false) (dt_not (a := true) (dt_truB ((de_call (da_cons (de_var rfl r1) (da_cons (de_op (de_charter (i := 0) SC rfl sh) de_int (r2_ix (K := K) (i := 0) (z := .int (S.many : Int)) rfl)) da_nil)) ⟨o, _, rfl, ⟨by omega, by omega⟩, rfl⟩).is (by simp; omega))))
    fun _ => (dt_B (de_inSeal (i := 0) (j := 2) SC rfl sh rfl hs (de_var rfl r1))).is (by simp [ho])).is rfl) fr fun H1 s1 => ?_
  refine dq_ifN (N := N) (b := decide (o ∈ S.fs)) (dt_test (de_op (de_var rfl (r1.same s1)) (de_false (i := 0) SC rfl (sh.same s1)) (r2_in rfl))) (fr.same s1) (fun hb H3 s3 => ?_) fun hb H3 s3 => ?_
  · exact dq_ret de_bl ((fr.same s1).same s3) fun v' H4 s4 r4 => k v' H4 ((s1.trans s3).trans s4) r4
  · exact absurd hf (of_decide_eq_false hb)
abbrev s_Sharing_is_act : Stmt := inClass (top 39) 1
theorem sc_Sharing_is_act : FnScope ["self", "act", "word", "who", "proposal"] ["self", "act"] (defScope s_Sharing_is_act) := ⟨rfl, rfl, rfl, by decide +kernel, rfl, by decide +kernel, by decide +kernel⟩
theorem ok_m_is_act {f : Addr} {fd : FuncData} (F : Fun K "is_act" "Sharing.is_act" s_Sharing_is_act f fd) (T : Bi mg) (SC : ShC K C) (cSharing : Cls K C) {spv : Sp} (D_Sharing_p_can_vote : DefM P w K mg base C "_can_vote" 5 ["self", "member", "proposal"] spv)
    (D_Sharing_p_can_sign : DefM P w K mg base C "_can_sign" 4 ["self", "owner", "proposal"] (spM C R_cans)) (D_is_number_below : Def P w K mg base "is_number_below" 3 ["value", "limit"] (spP R_below)) (D_Sharing_p_can_propose : DefM P w K mg base C "_can_propose" 4 ["self", "owner"] (spM C R_canp)) :
    FnOk P w K mg base CX0 6 f fd ["self", "act"] (spM C R_isact) := by
  obtain ⟨f_Sharing_p_can_vote, fd_Sharing_p_can_vote, G_Sharing_p_can_vote, b_Sharing_p_can_vote, h_Sharing_p_can_vote⟩ := D_Sharing_p_can_vote.ex
  obtain ⟨f_Sharing_p_can_sign, fd_Sharing_p_can_sign, G_Sharing_p_can_sign, b_Sharing_p_can_sign, h_Sharing_p_can_sign⟩ := D_Sharing_p_can_sign.ex
  obtain ⟨f_is_number_below, fd_is_number_below, G_is_number_below, b_is_number_below, k_is_number_below, m_is_number_below⟩ := D_is_number_below.ex
  obtain ⟨f_Sharing_p_can_propose, fd_Sharing_p_can_propose, G_Sharing_p_can_propose, b_Sharing_p_can_propose, h_Sharing_p_can_propose⟩ := D_Sharing_p_can_propose.ex
  refine F.ok sc_Sharing_is_act (len_spM fun S ds d ⟨_, h⟩ => by
    rcases h with ⟨o, e, _⟩ | ⟨o, n, sl, e, _⟩ <;> rw [e] <;> rfl) (fun cdv A outer s H vs Q E hr h => ?_)
  obtain ⟨N, p, S, us, ds, d, rfl, fr, sh, rs, ⟨rfl, hc⟩, k⟩ := h
  refine ⟨_, pss_cons (ps_if (PW.pt (pw_or (pt_not (pt_truK K (pe_callB call_isK (by rfl) T.isinstance (by decide +kernel) (pa_cons (pv 1) (pa_cons (pe_tyn "tuple" (by rfl) T.tuple (by decide +kernel)) pa_nil))) (fun _ => rfl))) (pw_or1 (pt_not (pt_chain op_le op_le pe_int (pe_callB (call_lenK K) (by rfl) T.len (by decide +kernel) (pa_cons (pv 1) pa_nil)) pe_int))))) (pss_one (ps_ret (pe_bl))) pss_nil)
      (pss_cons (ps_if (pt_cmpR (op_eqK K hr.units) (pe_callB (call_lenK K) (by rfl) T.len (by decide +kernel) (pa_cons (pv 1) pa_nil)) pe_int (nomark _)) (pss_one (ps_ret (pe_and (pe_cmpR (op_eqK K hr.units) (pe_ix (ix_K K) (pv 1) pe_int (fun _ _ => rfl)) pe_str (nomark _)) (pe_one (pe_meth (pv 0) cSharing h_Sharing_p_can_propose G_Sharing_p_can_propose (hr.mono (by decide)) b_Sharing_p_can_propose .nil pass0 (pa_cons (pe_ix (ix_K K) (pv 1) pe_int (fun _ _ => rfl)) pa_nil)))))) pss_nil)
      (pss_cons (ps_asg (pv 1) (pg_tupK K (n := 3) rfl (pgs_cons (pg_name (i := 2) sc_Sharing_is_act.nd rfl (Or.inl rfl)) (pgs_cons (pg_name (i := 3) sc_Sharing_is_act.nd rfl (Or.inl rfl)) (pgs_cons (pg_name (i := 4) sc_Sharing_is_act.nd rfl (Or.inl rfl)) pgs_nil)))))
      (pss_cons (ps_if (pt_not (pt_truK K (pe_call G_is_number_below (hr.mono (by decide)) rfl m_is_number_below k_is_number_below b_is_number_below .nil pass0 (pa_cons (pv 4) (pa_cons (pe_callB (call_lenK K) (by rfl) T.len (by decide +kernel) (pa_cons (pe_fldK (K := K) rfl (pv 0) rfl) pa_nil)) pa_nil))) (fun _ => rfl))) (pss_one (ps_ret (pe_bl))) pss_nil)
      (pss_cons (ps_if (pt_cmpR (op_eqK K hr.units) (pv 2) pe_str (nomark _)) (pss_one (ps_ret (pe_meth (pv 0) cSharing h_Sharing_p_can_sign G_Sharing_p_can_sign (hr.mono (by decide)) b_Sharing_p_can_sign .nil pass0 (pa_cons (pv 3) (pa_cons (pv 4) pa_nil))))) pss_nil)
      (pss_one (ps_ret (pe_and (pe_cmpR (op_eqK K hr.units) (pv 2) pe_str (nomark _)) (pe_one (pe_meth (pv 0) cSharing h_Sharing_p_can_vote G_Sharing_p_can_vote (hr.mono (by decide)) b_Sharing_p_can_vote .nil pass0 (pa_cons (pv 3) (pa_cons (pv 4) pa_nil))))))))))), ?_⟩
  rcases hc with ⟨o, rfl, Cc, ho, hl, hf⟩ | ⟨o, n, sl, rfl, m6, hn, h30, o0, o1, hs, hno, hf⟩
  · obtain ⟨v, rfl, r⟩ := rps1 rs
    refine dq_iff ((dt_or (a := false) (b := false) (dt_not (a := true) (dt_truB (de_isK (de_var rfl r)))) fun _ => dt_not (a := true) ((dt_test (de_chain de_int (de_cb (da_cons (de_var rfl r) da_nil) rk_len) de_int r2_b r2_b)).is ?_)).is rfl) fr fun H1 s1 => ?_
    · rfl
    refine dq_if (N := N) (b := true) ((dt_test (de_op (de_cb (da_cons (de_var rfl (r.same s1)) da_nil) rk_len) de_int r2_eqI)).is (by rfl)) (fr.same s1) (fun _ H2 s2 => ?_) fun h => nomatch h
    have r2 := (r.same s1).same s2
    exact dq_ret ((de_andV (a := true) (b := true) ((de_op (de_op (de_var (i := 1) rfl r2) de_int (r2_ix (K := K) (i := 0) (z := .str "propose") rfl)) de_str (r2_eqD (K := K) (by decide +kernel) (by decide +kernel))).is (congrArg PyData.bool (by decide +kernel))) fun _ => de_methM (R := R_canp) rfl ((sh.same s1).same s2) noF (da_cons (de_op (de_var (i := 1) rfl r2) de_int (r2_ix (K := K) (i := 1) (z := .int o) rfl)) da_nil)
      ⟨o, rfl, Cc, ho, hl, hf, rfl⟩).is rfl) ((fr.same s1).same s2) fun v' H4 s4 r4 => k v' H4 ((s1.trans s2).trans s4) r4
  · obtain ⟨v, rfl, r⟩ := rps1 rs
    refine dq_iff ((dt_or (a := false) (b := false) (dt_not (a := true) (dt_truB (de_isK (de_var rfl r)))) fun _ => dt_not (a := true) ((dt_test (de_chain de_int (de_cb (da_cons (de_var rfl r) da_nil) rk_len) de_int r2_b r2_b)).is ?_)).is rfl) fr fun H1 s1 => ?_
    · rfl
    refine dq_iff ((dt_test (de_op (de_cb (da_cons (de_var rfl (r.same s1)) da_nil) rk_len) de_int r2_eqI)).is (by rfl)) (fr.same s1) fun H2 s2 => ?_
    have r2 := (r.same s1).same s2
    have sh2 := (sh.same s1).same s2
    refine dq_un3 (de_var rfl r2) ((fr.same s1).same s2) fun va vb vc H3 s3 ra rb rc => ?_
    have f3 := ((fr.same s1).same s2).same s3
    have sh3 := sh2.same s3
    refine dq_iff ((dt_not (a := true) (dt_truB ((de_call (da_cons (de_var rfl rc) (da_cons (de_cb (da_cons (de_made (i := 0) SC rfl sh3) da_nil) rk_lenL) da_nil)) ⟨(n : Int), _, rfl, ⟨by omega, by omega⟩, rfl⟩).is (by simp; omega)))).is rfl) f3 fun H4 s4 => ?_
    have f4 := f3.same s4
    refine dq_if (N := N) (b := true) ((dt_test (de_op (de_var rfl (ra.same s4)) de_str (r2_eqD (K := K) (by decide +kernel) (by decide +kernel)))).is (by decide +kernel)) f4 (fun _ H5 s5 => ?_) fun h => nomatch h
    exact dq_ret (de_methM (R := R_cans) rfl ((sh3.same s4).same s5) noF (da_cons (de_var rfl ((rb.same s4).same s5)) (da_cons (de_var rfl ((rc.same s4).same s5)) da_nil)) ⟨o, n, sl, rfl, m6, o0, o1, hs, hno, hf, rfl⟩) (f4.same s5) fun v' H6 s6 r6 => k v' H6 (((((s1.trans s2).trans s3).trans s4).trans s5).trans s6) r6
end
end Pu

namespace Pu
open PySem PySem.Spec PyProof.Rows L2
abbrev out (N : NP) (F : List Addr) : NP := fun a => N a ∧ a ∉ F
/-- the object, its own addresses those of F -/
structure ShO (C : Addr) (N : NP) (F : List Addr) (H : Hp) (p : Addr) (S : ShD) : Prop where
  fin : ∀ a ∈ F, N a ∧ H a ≠ none
  ex : ∃ (dx : Addr) (vb vc vf vl : V) (lm ls lv : Addr) (qs ws : List Addr), p ∈ F ∧ H p = some (.ins C dx (shF vb vc vf vl lm ls lv)) ∧ Rp (out N F) H vb S.b.d ∧ Rp (out N F) H vc (chD S.many S.props S.lots) ∧ Rp (out N F) H vf (tI S.fs) ∧ vl = S.lv ∧
    (lm ∈ F ∧ H lm = some (.lst (S.made.map V.int))) ∧ (ls ∈ F ∧ H ls = some (.lst (qs.map V.ref))) ∧ (qs.length = S.seals.length ∧ ∀ (i : Nat) (q : Addr) (s : List Int), qs[i]? = some q → S.seals[i]? = some s → q ∈ F ∧ H q = some (.dK (ksD s))) ∧
    (lv ∈ F ∧ H lv = some (.lst (ws.map V.ref))) ∧ (ws.length = S.nv ∧ ∀ q ∈ ws, q ∈ F ∧ H q = some (.dK (ksD []))) ∧ qs.Nodup ∧ lm ≠ ls ∧ lm ≠ lv ∧ ls ≠ lv
section
variable {C : Addr} {N N' : NP} {F : List Addr} {H H' : Hp} {p : Addr} {S : ShD}
theorem ShO.toN (s : ShO C N F H p S) : ShN C N H p S := by
  obtain ⟨dx, vb, vc, vf, vl, lm, ls, lv, qs, ws, hF, hp, rb, rc, rf, rl, hm, hs, ⟨ql, hq⟩, hv, ⟨wl, hw⟩, nd⟩ := s.ex
  have u : Up (out N F) H N H := fun a o n e => ⟨n.1, e⟩
  exact ⟨dx, vb, vc, vf, vl, lm, ls, lv, qs, ws, (s.fin p hF).1, hp, rb.up u, rc.up u, rf.up u, rl, ⟨(s.fin _ hm.1).1, hm.2⟩, ⟨(s.fin _ hs.1).1, hs.2⟩, ⟨ql, fun i q t h1 h2 => ⟨(s.fin _ (hq i q t h1 h2).1).1, (hq i q t h1 h2).2⟩⟩, ⟨(s.fin _ hv.1).1, hv.2⟩, wl, fun q h => ⟨(s.fin _ (hw q h).1).1, (hw q h).2⟩⟩
theorem ShO.same (e : Same H H') (s : ShO C N F H p S) : ShO C N F H' p S := by
  obtain ⟨dx, vb, vc, vf, vl, lm, ls, lv, qs, ws, hF, hp, rb, rc, rf, rl, hm, hs, ⟨ql, hq⟩, hv, ⟨wl, hw⟩, nd⟩ := s.ex
  refine ⟨fun a ha => ⟨(s.fin a ha).1, fun z => (s.fin a ha).2 (e.free z)⟩, dx, vb, vc, vf, vl, lm, ls, lv, qs, ws, hF, e _ _ hp, rb.same e, rc.same e, rf.same e, rl, ⟨hm.1, e _ _ hm.2⟩, ⟨hs.1, e _ _ hs.2⟩, ⟨ql, fun i q t h1 h2 => ⟨(hq i q t h1 h2).1, e _ _ (hq i q t h1 h2).2⟩⟩, ⟨hv.1, e _ _ hv.2⟩, ⟨wl, fun q h => ⟨(hw q h).1, e _ _ (hw q h).2⟩⟩, nd⟩
/-- all that stood, but the object's own, stands still; its own new ones are new -/
structure Mv (F F' : List Addr) (H H' : Hp) : Prop where
  sub : ∀ a ∈ F, a ∈ F'
  new : ∀ a ∈ F', a ∉ F → H a = none
  kp : ∀ b o, H b = some o → b ∉ F → H' b = some o
theorem Mv.rp (m : Mv F F' H H') {v : V} {d : PyData} (r : Rp (out N F) H v d) : Rp (out N F') H' v d := r.up fun a o n e => ⟨⟨n.1, fun h => by
  have := m.new a h n.2
  rw [e] at this; cases this⟩, m.kp a o e n.2⟩
end
def madeS (S : ShD) (o : Int) : ShD := { S with made := S.made ++ [o], seals := S.seals ++ [[o]], nv := S.nv + 1 }
def signS (S : ShD) (n : Nat) (sl : List Int) (o : Int) : ShD := { S with seals := S.seals.set n (sl ++ [o]) }
def spActP (C : Addr) : Sp := fun vs H Q _ => ∃ (N : NP) (F : List Addr) (p : Addr) (S : ShD) (av : V) (o : Int), vs = [.ref p, av] ∧ Fr N H ∧ ShO C N F H p S ∧ Rp (out N F) H av (.tuple [.str "propose", .int o]) ∧ Ch2 S.many S.props S.lots ∧ o ∈ S.props ∧ S.made.length < 30 ∧ S.seals.length ≤ 30 ∧ S.nv ≤ 30 ∧ (o ∈ S.fs ∨ S.seals = []) ∧
  ∀ F' H', Mv F F' H H' → Fr N H' → ShO C N F' H' p (madeS S o) → Q .non H'
section
variable {P : Program} {w : World} {K : PySem.W.Frag} {mg : Str → Option Value} {base : Heap} {C : Addr}
abbrev s_Sharing_act : Stmt := inClass (top 39) 2
theorem sc_Sharing_act : FnScope ["self", "act"] ["self", "act"] (defScope s_Sharing_act) := ⟨rfl, rfl, rfl, by decide +kernel, rfl, by decide +kernel, by decide +kernel⟩
theorem ok_m_actP {f : Addr} {fd : FuncData} (F : Fun K "act" "Sharing.act" s_Sharing_act f fd) (T : Bi mg) (SC : ShC K C) (cSharing : Cls K C) (D_Sharing_is_act : DefM P w K mg base C "is_act" 6 ["self", "act"] (spM C R_isact)) : FnOk P w K mg base CX0 7 f fd ["self", "act"] (spActP C) := by
  obtain ⟨f_Sharing_is_act, fd_Sharing_is_act, G_Sharing_is_act, b_Sharing_is_act, h_Sharing_is_act⟩ := D_Sharing_is_act.ex
  refine F.ok sc_Sharing_act (fun vs H Q E ⟨N, F, p, S, av, o, e, _⟩ => by rw [e]; rfl) (fun cdv A outer s H vs Q E hr h => ?_)
  obtain ⟨N, Fo, p, S, av, o, rfl, fr, sh, r, Cc, ho, hl, hsl, hnv, hf, k⟩ := h
  have hu := hu_of hr
  have rN : Rp N H av (.tuple [.str "propose", .int o]) := r.up fun a o n e => ⟨n.1, e⟩
  refine ⟨_, pss_cons (ps_if (pt_not (pt_truK K (pe_meth (pv 0) cSharing h_Sharing_is_act G_Sharing_is_act (hr.mono (by decide)) b_Sharing_is_act .nil pass0 (pa_cons (pv 1) pa_nil)) (fun _ => rfl))) (pss_one (ps_never)) pss_nil)
      (pss_one (ps_if (pt_cmpR (op_eqK K hr.units) (pe_ix (ix_K K) (pv 1) pe_int (fun _ _ => rfl)) pe_str (nomark _)) (pss_cons (ps_expr (pe_bm PySem.F.plainAttrs_list PySem.F.slot_list_append PySem.F.type_list_append mt_append (pe_fldK (K := K) rfl (pv 0) rfl) (pa_cons (pe_ix (ix_K K) (pv 1) pe_int (fun _ _ => rfl)) pa_nil)))
      (pss_cons (ps_expr (pe_bm PySem.F.plainAttrs_list PySem.F.slot_list_append PySem.F.type_list_append mt_append (pe_fldK (K := K) rfl (pv 0) rfl) (pa_cons (pe_disp (pps_cons (pe_ix (ix_K K) (pv 1) pe_int (fun _ _ => rfl)) pe_bl pps_nil) (by rfl) (by rfl) (fun z => by cases z) (by decide)) pa_nil)))
      (pss_one (ps_expr (pe_bm PySem.F.plainAttrs_list PySem.F.slot_list_append PySem.F.type_list_append mt_append (pe_fldK (K := K) rfl (pv 0) rfl) (pa_cons pe_dnewK pa_nil)))))) (pss_one (ps_if (pt_cmpR (op_eqK K hr.units) (pe_ix (ix_K K) (pv 1) pe_int (fun _ _ => rfl)) pe_str (nomark _)) (pss_one (ps_dput hu (pe_ix (ix_K K) (pe_fldK (K := K) rfl (pv 0) rfl) (pe_ix (ix_K K) (pv 1) pe_int (fun _ _ => rfl)) (fun _ _ => rfl)) (pe_ix (ix_K K) (pv 1) pe_int (fun _ _ => rfl)) pe_bl rfl)) (pss_one (ps_dput hu (pe_ix (ix_K K) (pe_fldK (K := K) rfl (pv 0) rfl) (pe_ix (ix_K K) (pv 1) pe_int (fun _ _ => rfl)) (fun _ _ => rfl)) (pe_ix (ix_K K) (pv 1) pe_int (fun _ _ => rfl)) pe_bl rfl)))))), ?_⟩
  refine dq_iff ((dt_not (a := true) (dt_truB (de_methM (R := R_isact) rfl sh.toN noF (da_cons (de_var rfl rN) da_nil) ⟨rfl, .inl ⟨o, rfl, Cc, ho, hl, hf⟩⟩))).is rfl) fr fun H1 s1 => ?_
  refine dq_if (N := N) (b := true) ((dt_test (de_op (de_op (de_var (i := 1) rfl (rN.same s1)) de_int (r2_ix (K := K) (i := 0) (z := .str "propose") rfl)) de_str (r2_eqD (K := K) (by decide +kernel) (by decide +kernel)))).is (by decide +kernel)) (fr.same s1) (fun _ H2 s2 => ?_) fun h => nomatch h
  have s12 := s1.trans s2
  have sh2 := sh.same s12
  have rN2 := rN.same s12
  have f2 := fr.same s12
  obtain ⟨dx, vb, vc, vf, vl, lm, ls, lv, qs, ws, hF, hp, rb, rc, rf, rl, hm, hs, ⟨ql, hq'⟩, hv, ⟨wl, hw⟩, nd⟩ := sh2.ex
  have ne_lm_p : lm ≠ p := ne_of hm.2 hp (by intro z; cases z)
  have ne_ls_p : ls ≠ p := ne_of hs.2 hp (by intro z; cases z)
  have ne_lv_p : lv ≠ p := ne_of hv.2 hp (by intro z; cases z)
  -- self._made.append(act[1])
  obtain ⟨d1, d2, d3⟩ := nd.2
  refine ⟨_, rfl, p, C, dx, _, _, rfl, hp, cSharing, SC.nm, lk_made, .inl ⟨rfl, _, SqL.of hm.2⟩, ?_⟩
  refine DE.run (N := N) (de_op (de_var (i := 1) rfl rN2) de_int (r2_ix (K := K) (i := 1) (z := .int o) rfl)) f2 fun v3 H3 s3 r3 => ?_
  cases r3
  refine ⟨lm, _, _, rfl, rfl, s3 _ _ hm.2, small1000 (by rw [List.length_map]; omega), ?_⟩
  have sh3 := sh2.same s3
  have f3 := f2.same s3
  have rN3 := rN2.same s3
  obtain ⟨H4, e4⟩ : ∃ H4, H4 = upd H3 lm (.lst (S.made.map V.int ++ [V.int o])) := ⟨_, rfl⟩
  rw [← e4]
  have k4 : ∀ b u, H3 b = some u → b ≠ lm → H4 b = some u := fun b u e n => by rw [e4, upd_ne n]; exact e
  have hp4 := k4 _ _ (s3 _ _ hp) ne_lm_p.symm
  have hs4 := k4 _ _ (s3 _ _ hs.2) d1.symm
  -- self._seals.append({act[1]: True})
  have hv4 := k4 _ _ (s3 _ _ hv.2) d2.symm
  have NA : Rp (fun a => a ≠ lm ∧ a ≠ ls ∧ a ≠ lv) H3 av (.tuple [.str "propose", .int o]) := (r.same (s12.trans s3)).up fun a u n e => ⟨⟨fun z => n.2 (z ▸ hm.1), fun z => n.2 (z ▸ hs.1), fun z => n.2 (z ▸ hv.1)⟩, e⟩
  have NA4 : Rp (fun a => a ≠ lm ∧ a ≠ ls ∧ a ≠ lv) H4 av (.tuple [.str "propose", .int o]) := NA.up fun a u n e => ⟨n, k4 _ _ e n.1⟩
  have hm4 : H4 lm = some (.lst (S.made.map V.int ++ [V.int o])) := by rw [e4, upd_same]
  have fA4 : Fr (fun a => a ≠ lm ∧ a ≠ ls ∧ a ≠ lv) H4 := fun a ha => ⟨fun z => (by rw [z, hm4] at ha; cases ha), fun z => (by rw [z, hs4] at ha; cases ha), fun z => (by rw [z, hv4] at ha; cases ha)⟩
  refine ⟨_, rfl, p, C, dx, _, _, rfl, hp4, cSharing, SC.ns, lk_seals, .inl ⟨rfl, _, SqL.of hs4⟩, fun q hq => ?_⟩
  have s5 := same_upd (o := .dK []) hq
  refine DE.run (N := fun a => a ≠ lm ∧ a ≠ ls ∧ a ≠ lv) (de_op (de_var (i := 1) rfl (NA4.same s5)) de_int (r2_ix (K := K) (i := 1) (z := .int o) rfl)) (fA4.same s5) fun v6 H6 s6 r6 => ?_
  cases r6
  refine ⟨s6 _ _ upd_same, [(Sum.inl o, .bl true)], rfl, by simp, ?_⟩
  have em1 : putK ([] : List (Key × V)) (.inl o) (.bl true) = [(.inl o, .bl true)] := putK_new _ rfl
  have em : mergeK ([] : List (Key × V)) [((Sum.inl o : Key), V.bl true)] = ksD [o] := by
    show putK ([] : List (Key × V)) (.inl o) (.bl true) = _
    rw [em1]; rfl
  rw [em]
  have s46 : ∀ b u, H4 b = some u → H6 b = some u := fun b u e => s6 _ _ (s5 _ _ e)
  obtain ⟨H7, e7⟩ : ∃ H7, H7 = upd H6 q (.dK (ksD [o])) := ⟨_, rfl⟩
  rw [← e7]
  have k7 : ∀ b u, H4 b = some u → H7 b = some u := fun b u e => by rw [e7, upd_ne (ne_of_none e hq)]; exact s46 b u e
  have hq7 : H7 q = some (.dK (ksD [o])) := by rw [e7, upd_same]
  have lqs : qs.length ≤ 30 := by omega
  refine ⟨ls, _, _, rfl, rfl, k7 _ _ hs4, small1000 (by rw [List.length_map]; omega), ?_⟩
  obtain ⟨H8, e8⟩ : ∃ H8, H8 = upd H7 ls (.lst (qs.map V.ref ++ [V.ref q])) := ⟨_, rfl⟩
  rw [← e8]
  have k8 : ∀ b u, H7 b = some u → b ≠ ls → H8 b = some u := fun b u e n => by rw [e8, upd_ne n]; exact e
  have hp8 := k8 _ _ (k7 _ _ hp4) ne_ls_p.symm
  have hv8 := k8 _ _ (k7 _ _ hv4) d3.symm
  -- self._votes.append({})
  refine ⟨_, rfl, p, C, dx, _, _, rfl, hp8, cSharing, SC.nv, lk_votes, .inl ⟨rfl, _, SqL.of hv8⟩, fun q2 hq2 => ?_⟩
  have s9 := same_upd (o := .dK []) hq2
  refine ⟨lv, _, _, rfl, rfl, s9 _ _ hv8, small1000 (by rw [List.length_map]; omega), ?_⟩
  obtain ⟨H9, e9⟩ : ∃ H9, H9 = upd (upd H8 q2 (.dK [])) lv (.lst (ws.map V.ref ++ [V.ref q2])) := ⟨_, rfl⟩
  rw [← e9]
  have k9 : ∀ b u, H8 b = some u → b ≠ lv → H9 b = some u := fun b u e n => by rw [e9, upd_ne n]; exact s9 _ _ e
  -- behind all
  have s13 : Same H H3 := s12.trans s3
  have all : ∀ b u, H3 b = some u → b ≠ lm → b ≠ ls → b ≠ lv → H9 b = some u := fun b u e n1 n2 n3 => k9 _ _ (k8 _ _ (k7 _ _ (k4 _ _ e n1)) n2) n3
  have a4 : ∀ b u, H3 b = some u → ∃ u', H4 b = some u' := fun b u e => by
    by_cases n1 : b = lm
    · exact ⟨_, n1 ▸ hm4⟩
    · exact ⟨_, k4 _ _ e n1⟩
  have hs8 : H8 ls = some (.lst (qs.map V.ref ++ [V.ref q])) := by rw [e8, upd_same]
  have hv9 : H9 lv = some (.lst (ws.map V.ref ++ [V.ref q2])) := by rw [e9, upd_same]
  have a8 : ∀ b u, H3 b = some u → ∃ u', H8 b = some u' := fun b u e => by
    obtain ⟨u', e'⟩ := a4 b u e
    by_cases n1 : b = ls
    · exact ⟨_, n1 ▸ hs8⟩
    · exact ⟨_, k8 _ _ (k7 _ _ e') n1⟩
  have a9 : ∀ b u, H3 b = some u → ∃ u', H9 b = some u' := fun b u e => by
    obtain ⟨u', e'⟩ := a8 b u e
    by_cases n1 : b = lv
    · exact ⟨_, n1 ▸ hv9⟩
    · exact ⟨_, k9 _ _ e' n1⟩
  have nq3 : H3 q = none := by
    cases e : H3 q with
    | none => rfl
    | some u => obtain ⟨u', e'⟩ := a4 q u e; rw [hq] at e'; cases e'
  have nq23 : H3 q2 = none := by
    cases e : H3 q2 with
    | none => rfl
    | some u => obtain ⟨u', e'⟩ := a8 q2 u e; rw [hq2] at e'; cases e'
  have qls : q ≠ ls := fun z => by rw [z, hs4] at hq; cases hq
  have qlv : q ≠ lv := fun z => by rw [z, hv4] at hq; cases hq
  have hq8 := k8 _ _ hq7 qls
  have hq9 := k9 _ _ hq8 qlv
  have q2lv : q2 ≠ lv := fun z => by rw [z, hv8] at hq2; cases hq2
  have hq29 : H9 q2 = some (.dK (ksD [])) := by rw [e9, upd_ne q2lv, upd_same]; rfl
  have old : ∀ b t, H3 b = some (.dK (ksD t)) → H9 b = some (.dK (ksD t)) := fun b t e => all b _ e (ne_of e (s3 _ _ hm.2) (by intro z; cases z)) (ne_of e (s3 _ _ hs.2) (by intro z; cases z)) (ne_of e (s3 _ _ hv.2) (by intro z; cases z))
  have upO : Up (out N Fo) H3 (out N (q2 :: q :: Fo)) H9 := fun a u n e => ⟨⟨n.1, fun h => by
    rcases List.mem_cons.mp h with rfl | h
    · rw [nq23] at e; cases e
    · rcases List.mem_cons.mp h with rfl | h
      · rw [nq3] at e; cases e
      · exact n.2 h⟩, all a u e (fun z => n.2 (z ▸ hm.1)) (fun z => n.2 (z ▸ hs.1)) fun z => n.2 (z ▸ hv.1)⟩
  refine k (q2 :: q :: Fo) H9 ⟨fun a h => List.mem_cons_of_mem _ (List.mem_cons_of_mem _ h), fun a h n => ?_, fun b u e n => all b u (s13 _ _ e) (fun z => n (z ▸ hm.1)) (fun z => n (z ▸ hs.1)) fun z => n (z ▸ hv.1)⟩ (fun a ha => ?_) ⟨fun a h => ?_, ?_⟩
  · rcases List.mem_cons.mp h with rfl | h
    · exact s13.free nq23
    · rcases List.mem_cons.mp h with rfl | h
      · exact s13.free nq3
      · exact absurd h n
  · cases e : H3 a with
    | none => exact f3 a e
    | some u => obtain ⟨u', e'⟩ := a9 a u e; rw [ha] at e'; cases e'
  · rcases List.mem_cons.mp h with rfl | h
    · exact ⟨f3 _ nq23, by rw [hq29]; simp⟩
    · rcases List.mem_cons.mp h with rfl | h
      · exact ⟨f3 _ nq3, by rw [hq9]; simp⟩
      · have hf := sh3.fin a h
        refine ⟨hf.1, ?_⟩
        cases e : H3 a with
        | none => exact absurd e hf.2
        | some u => obtain ⟨u', e'⟩ := a9 a u e; rw [e']; simp
  · have hmem : ∀ {a}, a ∈ Fo → a ∈ q2 :: q :: Fo := fun h => List.mem_cons_of_mem _ (List.mem_cons_of_mem _ h)
    refine ⟨dx, vb, vc, vf, vl, lm, ls, lv, qs ++ [q], ws ++ [q2], hmem hF, k9 _ _ hp8 ne_lv_p.symm, (rb.same s3).up upO, (rc.same s3).up upO, (rf.same s3).up upO, rl,
      ⟨hmem hm.1, ?_⟩, ⟨hmem hs.1, ?_⟩, ⟨?_, fun i x t h1 h2 => ?_⟩, ⟨hmem hv.1, ?_⟩, ⟨?_, fun x hx => ?_⟩, ?_, d1, d2, d3⟩
    · rw [k9 _ _ (k8 _ _ (k7 _ _ hm4) d1) d2]
      show _ = some (HO.lst ((S.made ++ [o]).map V.int))
      rw [List.map_append]; rfl
    · rw [k9 _ _ hs8 d3, List.map_append]; rfl
    · show (qs ++ [q]).length = (S.seals ++ [[o]]).length
      rw [List.length_append, List.length_append, ql]; rfl
    · have h2 : (S.seals ++ [[o]])[i]? = some t := h2
      by_cases hi : i < qs.length
      · rw [List.getElem?_append_left hi] at h1
        rw [List.getElem?_append_left (by omega)] at h2
        have hh := hq' i x t h1 h2
        exact ⟨hmem hh.1, old _ _ (s3 _ _ hh.2)⟩
      · rw [List.getElem?_append_right (by omega)] at h1
        rw [List.getElem?_append_right (by omega)] at h2
        have e0 : i - qs.length = 0 := by
          by_cases z : i - qs.length = 0
          · exact z
          · rw [List.getElem?_eq_none (by simp; omega)] at h1; cases h1
        rw [e0] at h1
        have e0' : i - S.seals.length = 0 := by omega
        rw [e0'] at h2
        cases h1
        cases h2
        exact ⟨List.mem_cons_of_mem _ (List.mem_cons_self ..), hq9⟩
    · rw [hv9, List.map_append]; rfl
    · show (ws ++ [q2]).length = S.nv + 1
      rw [List.length_append, wl]; rfl
    · rcases List.mem_append.mp hx with hx | hx
      · exact ⟨hmem (hw x hx).1, old _ _ (s3 _ _ (hw x hx).2)⟩
      · rw [List.mem_singleton.mp hx]
        exact ⟨List.mem_cons_self .., hq29⟩
    · rw [List.nodup_append]
      refine ⟨nd.1, List.pairwise_singleton _ _, ?_⟩
      rintro a ha b hb rfl
      rw [List.mem_singleton.mp hb] at ha
      obtain ⟨i, hi, e⟩ := List.getElem_of_mem ha
      have := hq' i q (S.seals[i]'(by omega)) (by rw [List.getElem?_eq_getElem hi, e]) (List.getElem?_eq_getElem (by omega))
      have h3 := s3 _ _ this.2
      rw [nq3] at h3; cases h3
end
end Pu

namespace Pu
open PySem PySem.Spec PyProof.Rows L2
def spActS (C : Addr) : Sp := fun vs H Q _ => ∃ (N : NP) (F : List Addr) (p : Addr) (S : ShD) (av : V) (o : Int) (n : Nat) (sl : List Int), vs = [.ref p, av] ∧ Fr N H ∧ ShO C N F H p S ∧ Rp (out N F) H av (.tuple [.str "sign", .int o, .int (n : Int)]) ∧ S.many ≤ 6 ∧ n < S.made.length ∧ S.made.length ≤ 30 ∧ 0 ≤ o ∧ o < S.many ∧
  S.seals[n]? = some sl ∧ o ∉ sl ∧ sl ≠ [] ∧ sl.length ≤ 100 ∧ o ∈ S.fs ∧ ∀ H', Mv F F H H' → Fr N H' → ShO C N F H' p (signS S n sl o) → Q .non H'
section
variable {P : Program} {w : World} {K : PySem.W.Frag} {mg : Str → Option Value} {base : Heap} {C : Addr}
theorem put_ks {sl : List Int} {o : Int} (h : o ∉ sl) : putK (ksD sl) (.inl o : Key) (.bl true) = ksD (sl ++ [o]) := by
  have e := val_ks o sl
  have n : valV (ksD sl) (.inl o : Key) = none := by
    cases z : valV (ksD sl) (.inl o : Key) with
    | none => rfl
    | some v => rw [z] at e; simp [h] at e
  rw [putK_new _ n, ksD, ksD, List.map_append]; rfl
theorem ok_m_actS {f : Addr} {fd : FuncData} (F : Fun K "act" "Sharing.act" s_Sharing_act f fd) (T : Bi mg) (SC : ShC K C) (cSharing : Cls K C) (D_Sharing_is_act : DefM P w K mg base C "is_act" 6 ["self", "act"] (spM C R_isact)) : FnOk P w K mg base CX0 7 f fd ["self", "act"] (spActS C) := by
  obtain ⟨f_Sharing_is_act, fd_Sharing_is_act, G_Sharing_is_act, b_Sharing_is_act, h_Sharing_is_act⟩ := D_Sharing_is_act.ex
  refine F.ok sc_Sharing_act (fun vs H Q E ⟨N, F, p, S, av, o, n, sl, e, _⟩ => by rw [e]; rfl) (fun cdv A outer s H vs Q E hr h => ?_)
  obtain ⟨N, Fo, p, S, av, o, n, sl, rfl, fr, sh, r, m6, hn, h30, o0, o1, hsl, hno, hne, hll, hf, k⟩ := h
  have hu := hu_of hr
  have rN : Rp N H av (.tuple [.str "sign", .int o, .int (n : Int)]) := r.up fun a o n e => ⟨n.1, e⟩
  refine ⟨_, pss_cons (ps_if (pt_not (pt_truK K (pe_meth (pv 0) cSharing h_Sharing_is_act G_Sharing_is_act (hr.mono (by decide)) b_Sharing_is_act .nil pass0 (pa_cons (pv 1) pa_nil)) (fun _ => rfl))) (pss_one (ps_never)) pss_nil)
      (pss_one (ps_if (pt_cmpR (op_eqK K hr.units) (pe_ix (ix_K K) (pv 1) pe_int (fun _ _ => rfl)) pe_str (nomark _)) (pss_cons (ps_expr (pe_bm PySem.F.plainAttrs_list PySem.F.slot_list_append PySem.F.type_list_append mt_append (pe_fldK (K := K) rfl (pv 0) rfl) (pa_cons (pe_ix (ix_K K) (pv 1) pe_int (fun _ _ => rfl)) pa_nil)))
      (pss_cons (ps_expr (pe_bm PySem.F.plainAttrs_list PySem.F.slot_list_append PySem.F.type_list_append mt_append (pe_fldK (K := K) rfl (pv 0) rfl) (pa_cons (pe_disp (pps_cons (pe_ix (ix_K K) (pv 1) pe_int (fun _ _ => rfl)) pe_bl pps_nil) (by rfl) (by rfl) (fun z => by cases z) (by decide)) pa_nil)))
      (pss_one (ps_expr (pe_bm PySem.F.plainAttrs_list PySem.F.slot_list_append PySem.F.type_list_append mt_append (pe_fldK (K := K) rfl (pv 0) rfl) (pa_cons pe_dnewK pa_nil)))))) (pss_one (ps_if (pt_cmpR (op_eqK K hr.units) (pe_ix (ix_K K) (pv 1) pe_int (fun _ _ => rfl)) pe_str (nomark _)) (pss_one (ps_dput hu (pe_ix (ix_K K) (pe_fldK (K := K) rfl (pv 0) rfl) (pe_ix (ix_K K) (pv 1) pe_int (fun _ _ => rfl)) (fun _ _ => rfl)) (pe_ix (ix_K K) (pv 1) pe_int (fun _ _ => rfl)) pe_bl rfl)) (pss_one (ps_dput hu (pe_ix (ix_K K) (pe_fldK (K := K) rfl (pv 0) rfl) (pe_ix (ix_K K) (pv 1) pe_int (fun _ _ => rfl)) (fun _ _ => rfl)) (pe_ix (ix_K K) (pv 1) pe_int (fun _ _ => rfl)) pe_bl rfl)))))), ?_⟩
  refine dq_iff ((dt_not (a := true) (dt_truB (de_methM (R := R_isact) rfl sh.toN noF (da_cons (de_var rfl rN) da_nil) ⟨rfl, .inr ⟨o, n, sl, rfl, m6, hn, h30, o0, o1, hsl, hno, hf⟩⟩))).is rfl) fr fun H1 s1 => ?_
  refine dq_if (N := N) (b := false) ((dt_test (de_op (de_op (de_var (i := 1) rfl (rN.same s1)) de_int (r2_ix (K := K) (i := 0) (z := .str "sign") rfl)) de_str (r2_eqD (K := K) (by decide +kernel) (by decide +kernel)))).is (by decide +kernel)) (fr.same s1) (fun h => nomatch h) fun _ H2 s2 => ?_
  have s12 := s1.trans s2
  refine dq_if (N := N) (b := true) ((dt_test (de_op (de_op (de_var (i := 1) rfl (rN.same s12)) de_int (r2_ix (K := K) (i := 0) (z := .str "sign") rfl)) de_str (r2_eqD (K := K) (by decide +kernel) (by decide +kernel)))).is (by decide +kernel)) (fr.same s12) (fun _ H3 s3 => ?_) fun h => nomatch h
  have s13 := s12.trans s3
  have sh3 := sh.same s13
  have rN3 := rN.same s13
  have f3 := fr.same s13
  obtain ⟨dx, vb, vc, vf, vl, lm, ls, lv, qs, ws, hF, hp, rb, rc, rf, rl, hm, hs, ⟨ql, hq'⟩, hv, ⟨wl, hw⟩, nd⟩ := sh3.ex
  have hi : n < qs.length := by rw [ql]; exact (List.getElem?_eq_some_iff.mp hsl).1
  obtain ⟨q, hqi⟩ : ∃ q, qs[n]? = some q := ⟨qs[n], List.getElem?_eq_getElem hi⟩
  have hqq := hq' n q sl hqi hsl
  -- self._seals[act[2]][act[1]] = True
  refine ⟨_, rfl, p, C, dx, _, _, rfl, hp, cSharing, SC.ns, lk_seals, ?_⟩
  refine DE.run (N := N) (de_op (de_var (i := 1) rfl rN3) de_int (r2_ix (K := K) (i := 2) (z := .int (n : Int)) rfl)) f3 fun v4 H4 s4 r4 => ?_
  cases r4
  refine .inl ⟨ls, _, (n : Int), .ref q, rfl, rfl, SqL.of (s4 _ _ hs.2), atI_i (by omega) (by rw [Int.toNat_natCast, List.getElem?_map, hqi]; rfl), ?_⟩
  refine DE.run (N := N) (de_op (de_var (i := 1) rfl (rN3.same s4)) de_int (r2_ix (K := K) (i := 1) (z := .int o) rfl)) (f3.same s4) fun v5 H5 s5 r5 => ?_
  cases r5
  have s35 := s4.trans s5
  have hq5 := s35 _ _ hqq.2
  refine ⟨q, _, rfl, DPut.k (k := Sum.inl o) hq5 (small1000 (by unfold ksD; rw [List.length_map]; omega)), ?_⟩
  rw [put_ks hno]
  obtain ⟨H6, e6⟩ : ∃ H6, H6 = upd H5 q (.dK (ksD (sl ++ [o]))) := ⟨_, rfl⟩
  rw [← e6]
  have s15 : Same H H5 := s13.trans s35
  have k6 : ∀ b u, H5 b = some u → b ≠ q → H6 b = some u := fun b u e n => by rw [e6, upd_ne n]; exact e
  have hq6 : H6 q = some (.dK (ksD (sl ++ [o]))) := by rw [e6, upd_same]
  have lq : ∀ {b u}, H3 b = some u → (∀ t, u ≠ .dK t) → b ≠ q := fun e h => ne_of e hqq.2 (h _)
  have f6 : Fr N H6 := fun a ha => by
    by_cases e : a = q
    · rw [e, hq6] at ha; cases ha
    · rw [e6, upd_ne e] at ha
      exact (f3.same s35) a ha
  have upO : Up (out N Fo) H3 (out N Fo) H6 := fun a u m e => ⟨m, k6 _ _ (s35 _ _ e) fun z => m.2 (z ▸ hqq.1)⟩
  refine k H6 ⟨fun a h => h, fun a h n => absurd h n, fun b u e m => k6 _ _ (s15 _ _ e) fun z => m (z ▸ hqq.1)⟩ f6 ⟨fun a h => ?_, ?_⟩
  · have hf := sh3.fin a h
    refine ⟨hf.1, ?_⟩
    by_cases e : a = q
    · rw [e, hq6]; simp
    · cases z : H3 a with
      | none => exact absurd z hf.2
      | some u => rw [k6 _ _ (s35 _ _ z) e]; simp
  · refine ⟨dx, vb, vc, vf, vl, lm, ls, lv, qs, ws, hF, k6 _ _ (s35 _ _ hp) (lq hp (by intro t z; cases z)), rb.up upO, rc.up upO, rf.up upO, rl, ⟨hm.1, k6 _ _ (s35 _ _ hm.2) (lq hm.2 (by intro t z; cases z))⟩, ⟨hs.1, k6 _ _ (s35 _ _ hs.2) (lq hs.2 (by intro t z; cases z))⟩,
      ⟨?_, fun i x t h1 h2 => ?_⟩, ⟨hv.1, k6 _ _ (s35 _ _ hv.2) (lq hv.2 (by intro t z; cases z))⟩, ⟨wl, fun x hx => ⟨(hw x hx).1, k6 _ _ (s35 _ _ (hw x hx).2) fun z => ?_⟩⟩, nd⟩
    · show qs.length = (S.seals.set n (sl ++ [o])).length
      rw [List.length_set, ql]
    · have h2 : (S.seals.set n (sl ++ [o]))[i]? = some t := h2
      by_cases e : i = n
      · subst e
        rw [hqi] at h1
        cases h1
        rw [List.getElem?_set_self (by omega)] at h2
        cases h2
        exact ⟨hqq.1, hq6⟩
      · rw [List.getElem?_set_ne (by omega)] at h2
        have hh := hq' i x t h1 h2
        refine ⟨hh.1, k6 _ _ (s35 _ _ hh.2) fun z => e ?_⟩
        subst z
        exact (List.getElem?_inj (List.getElem?_eq_some_iff.mp h1).1 nd.1).mp (h1.trans hqi.symm)
    · have e1 := (hw x hx).2
      rw [z, hqq.2] at e1
      have e2 : ksD sl = ksD [] := by
        have := Option.some.inj e1
        injection this
      cases sl with
      | nil => exact hne rfl
      | cons a r => cases e2
end
end Pu

namespace Pu
open PySem PySem.Spec PyProof.Rows L2
/-- which proposals are signed, one at most being made -/
def sigD (S : ShD) : PyData := .tuple (match S.seals with
  | [sl] => if (Ch.has S.lots fun o => decide (o ∈ sl)) = true then [.int 0] else []
  | _ => [])
def spSig (C : Addr) : Sp := fun vs H Q _ => ∃ (N : NP) (p : Addr) (S : ShD), vs = [.ref p] ∧ Fr N H ∧ ShN C N H p S ∧ Ch2 S.many S.props S.lots ∧ S.seals.length ≤ 1 ∧ ∀ v H', Same H H' → Rp N H' v (sigD S) → Q v H'
section
variable {P : Program} {w : World} {K : PySem.W.Frag} {mg : Str → Option Value} {base : Heap} {C : Addr}
abbrev s_Sharing_signed : Stmt := inClass (top 39) 6
theorem sc_Sharing_signed : FnScope ["self", "at", "owners"] ["self"] (defScope s_Sharing_signed) := ⟨rfl, rfl, rfl, by decide +kernel, rfl, by decide +kernel, by decide +kernel⟩
theorem ok_m_signed {f : Addr} {fd : FuncData} (F : Fun K "signed" "Sharing.signed" s_Sharing_signed f fd) (T : Bi mg) (SC : ShC K C) (D_has_lot : Def P w K mg base "has_lot" 2 ["charter", "owners"] spLotD) : FnOk P w K mg base CX0 3 f fd ["self"] (spSig C) := by
  obtain ⟨f_has_lot, fd_has_lot, G_has_lot, b_has_lot, k_has_lot, m_has_lot⟩ := D_has_lot.ex
  refine F.ok sc_Sharing_signed (fun vs H Q E ⟨N, p, S, e, _⟩ => by rw [e]; rfl) (fun cdv A outer s H vs Q E hr h => ?_)
  obtain ⟨N, p, S, rfl, fr, sh, Cc, hl, k⟩ := h
  refine ⟨_, pss_one (ps_ret (pe_callTy (call_tupK K) (by rfl) T.tuple (by decide +kernel) (pa_cons (pe_lc (own := [("at", 1), ("owners", 2)]) rfl sc_Sharing_signed.nd (pi_enumLK K (by rfl) T.enumerate (pa_cons (pe_fldK (K := K) rfl (pv 0) rfl) pa_nil)) (blkOk_by (own := [("at", 1), ("owners", 2)]) (N := ["self", "at", "owners"]) (sc := defScope s_Sharing_signed) (by decide +kernel)) (fun _ _ _ _ _ => pg_tupK K (n := 2) rfl (pgs_cons (pg_name (i := 1) sc_Sharing_signed.nd rfl (Or.inl rfl)) (pgs_cons (pg_name (i := 2) sc_Sharing_signed.nd rfl (Or.inl rfl)) pgs_nil))) (fun _ _ _ _ _ => pts_one (pt_truK K (pe_call G_has_lot (hr.mono (by decide)) rfl m_has_lot k_has_lot b_has_lot .nil pass0 (pa_cons (pe_fldK (K := K) rfl (pv 0) rfl) (pa_cons (pv 2) pa_nil))) (fun _ => rfl))) (fun _ _ _ _ _ => pv 1)) pa_nil))), ?_⟩
  rcases hs : S.seals with _ | ⟨sl, rest⟩
  · have e : sigD S = .tuple [] := by unfold sigD; rw [hs]
    rw [e] at k
    exact dq_ret (de_cb (da_cons ((de_lcP (K := K) (xs := ([] : List Int)) (e1 := PyData.int) (e2 := PyData.int) (fun _ => true) (fun _ => .int 0) (di_enumL (ds := []) (da_cons (de_seals0 SC rfl sh hs) da_nil)) (by simp) fun a ha => nomatch ha).is rfl) da_nil) rk_tup) fr k
  · have hr0 : rest = [] := by
      rw [hs] at hl
      simpa using hl
    subst hr0
    obtain ⟨res, eres⟩ : ∃ res : List PyData, res = if (Ch.has S.lots fun o => decide (o ∈ sl)) = true then [.int 0] else [] := ⟨_, rfl⟩
    have e : sigD S = .tuple res := by unfold sigD; rw [hs, eres]
    rw [e] at k
    refine dq_ret (de_cb (da_cons (d := .list res) (fun N1 H1 u f1 Q q => ?_) da_nil) rk_tup) fr k
    have sh1 := sh.up u
    obtain ⟨dx, vb, vc, vf, vl, lm, ls, lv, qs, ws, np, hp, rb, rc, rf, rl, hm, hS, hq, hv, wl, hw⟩ := sh1.ex
    obtain ⟨qa, rfl⟩ : ∃ qa, qs = [qa] := List.length_eq_one_iff.mp (by rw [hq.1, hs]; rfl)
    have hd := hq.2 0 qa sl rfl (by rw [hs]; rfl)
    refine ⟨_, rfl, p, C, dx, _, _, rfl, hp, SC.cl, SC.ns, lk_seals, ls, _, rfl, SqL.of hS.2, fun D hD => ?_⟩
    refine ⟨fun i m H3 => m = 1 - i ∧ i ≤ 1 ∧ Same H1 H3 ∧ ∃ acc : List V, H3 D = some (.lst acc) ∧ Rps N1 H3 acc (if i = 0 then [] else res), ⟨_, rfl, by decide, same_upd hD, [], upd_same, .nil⟩, ?_⟩
    rintro i m H3 ⟨rfl, hi, s3, acc, hacc, racc⟩
    have hS3 := s3 _ _ hS.2
    by_cases h0 : i = 0
    · subst h0
      refine .inr ⟨⟨_, _, SqL.of hS3, rfl⟩, fun H4 => Same H1 H4 ∧ ∃ acc : List V, H4 D = some (.lst acc) ∧ Rps N1 H4 acc res, fun H4 ⟨a, acc, b, c⟩ => ⟨0, by decide, rfl, by decide, a, acc, b, c⟩, fun x H4 y => ?_⟩
      obtain ⟨Ta, w', rfl, nT, rfl, hx⟩ := y
      have hw' := hx _ (SqL.of hS3)
      cases hw'
      have s4 := same_upd (o := .tup [.int ((0 : Nat) : Int), V.ref qa]) nT
      have s14 := s3.trans s4
      have racc' : Rps N1 H3 acc [] := racc
      cases racc'
      have f14 := f1.same s14
      refine ⟨_, _, rfl, SqT.of upd_same, rfl, _, _, rfl, _, _, rfl, rfl, rfl, ?_⟩
      refine ⟨_, rfl, p, C, dx, _, _, rfl, s14 _ _ hp, SC.cl, SC.nc, lk_charter, _, rfl, N1, qa, vc, sl, S.many, S.props, S.lots, rfl, f14, hd.up (Up.of s14), rc.same s14, Cc, fun v5 H5 s5 r5 => ?_⟩
      cases r5
      refine ⟨_, rfl, ?_⟩
      have s15 := s14.trans s5
      have hD5 := s5 _ _ (s4 _ _ hacc)
      cases hb : (Ch.has S.lots fun o => decide (o ∈ sl)) with
      | true =>
        rw [hb] at eres
        refine iteT ⟨_, rfl, _, hD5, by decide, fun a o e => ?_, _, upd_same, ?_⟩
        · rw [upd_ne (ne_of_none e hD)]; exact s15 _ _ e
        · rw [eres]
          exact .cons (.int _) .nil
      | false =>
        rw [hb] at eres
        refine iteF ⟨s15, _, hD5, ?_⟩
        rw [eres]
        exact .nil
    · have e1 : i = 1 := by omega
      subst e1
      refine .inl ⟨⟨_, SqL.of hS3, by simp⟩, ?_⟩
      exact q _ _ s3 (.lst (f1 D hD) hacc racc)
end
end Pu

namespace Pu
open PySem PySem.Spec PyProof.Rows L2
/-! ### the written tuple without items -/
section
variable {X : Cx} {K : PySem.W.Frag} {N : NP} {σ : L2.St} {H : Hp} {i : Nat} {v : V}
def rIsKK (K : PySem.W.Frag) : List V → Hp → VK → Prop := fun xs H Q => ∃ x, xs = [x, .ty "tuple"] ∧ KT K x ∧ Q (.bl true) H
theorem call_isKK (K : PySem.W.Frag) (h : X.K = K := by rfl) : CallR X (.builtin "isinstance") (rIsKK K) := by
  subst h
  rintro pn s σ H xs us Q I r ⟨x, e, ⟨a, o, rfl, hl, hc, _⟩, q⟩
  exact call_isi pn s σ H xs us Q I r ⟨.ref a, .ty "tuple", _, _, true, e, .ty "tuple", .kTuple hl hc, kit_ty (a := "tuple") (by decide +kernel), q⟩
theorem de_isKK (hσ : σ[i]? = some (some v)) (kt : KT K v) : DE N (tCB (rIsKK K) (tCons (tVar i) (tCons (tC (.ty "tuple")) tNil))) σ H (.bool true) := fun N1 H1 u f Q q => ⟨v, hσ, v, rfl, kt, q _ H1 (Same.refl H1) (.bl _)⟩
theorem de_lenKT (hσ : σ[i]? = some (some v)) (kt : KT K v) : DE N (tCB (rLenK K) (tCons (tVar i) tNil)) σ H (.int 0) := fun N1 H1 u f Q q => by
  obtain ⟨a, _, rfl, _, _, ht⟩ := kt
  exact ⟨_, hσ, a, [], rfl, .inr (ht _), q _ H1 (Same.refl H1) (.int 0)⟩
theorem di_KT (hσ : σ[i]? = some (some v)) (kt : KT K v) : DI N (iSeq K (tVar i)) σ H [] := fun N1 H1 u f R q => by
  obtain ⟨a, _, rfl, _, _, ht⟩ := kt
  exact ⟨_, hσ, a, rfl, .inr ⟨⟨[], ht _⟩, q _ H1 (Same.refl H1) ⟨fun N' H' u k hk => absurd hk (by simp), fun N' H' u f k x H'' hk => absurd hk (by simp), fun N' H' u => ⟨[], ht _, by simp⟩⟩⟩⟩
end
def spAscK (K : PySem.W.Frag) : Sp := fun vs H Q _ => ∃ (N : NP) (v : V), vs = [v] ∧ Fr N H ∧ KT K v ∧ ∀ H', Same H H' → Q (.bl true) H'
def spAamK (K : PySem.W.Frag) : Sp := fun vs H Q _ => ∃ (N : NP) (u v : V), vs = [u, v] ∧ Fr N H ∧ KT K v ∧ ∀ H', Same H H' → Q (.bl true) H'
section
variable {P : Program} {w : World} {K : PySem.W.Frag} {mg : Str → Option Value} {base : Heap}
theorem ok_ascK {f : Addr} {fd : FuncData} (F : Fun K "is_ascending" "is_ascending" s_is_ascending f fd) (T : Bi mg) : FnOk P w K mg base CX0 1 f fd ["values"] (spAscK K) := by
  refine F.ok sc_is_ascending (fun vs H Q E ⟨N, v, e, _⟩ => by rw [e]; rfl) (fun cdv A outer s H vs Q E hr h => ?_)
  obtain ⟨N, v, rfl, fr, kt, k⟩ := h
  refine ⟨_, pss_one (ps_ret (pe_callB (cr_allK K rfl) (by rfl) T.all (by decide +kernel) (pa_cons (pe_lc (own := [("at", 1)]) rfl sc_is_ascending.nd (pi_range1 rfl T.range (pa_cons (pe_op op_sub (pe_callB (call_lenK K) (by rfl) T.len (by decide +kernel) (pa_cons (pv 0) pa_nil)) pe_int) pa_nil)) (blkOk_by (own := [("at", 1)]) (N := ["values", "at"]) (sc := defScope s_is_ascending) (by decide +kernel)) (fun _ _ _ _ _ => pg_name (i := 1) sc_is_ascending.nd rfl (Or.inl rfl)) (fun _ _ _ _ _ => pts_nil) (fun _ _ _ _ _ => pe_cmpR (op_ltK K hr.units0) (pe_ix (ix_K K) (pv 0) (pv 1) (fun _ _ => rfl)) (pe_ix (ix_K K) (pv 0) (pe_op (op_addK K) (pv 1) pe_int) (fun _ _ => rfl)) (nomark _))) pa_nil))), ?_⟩
  refine DE.run (de_all_true (xs := Ch.rng ((0 : Int) - 1).toNat) (da_cons (de_lc0 _ (di_rng (da_cons (de_op (de_lenKT rfl kt) de_int r2_i) da_nil) (by omega) (by omega)) (by rw [Ch.rng_len]; omega)
      fun a ha x N' H' u rx => absurd (Ch.mem_rng.mp ha) (by omega)) da_nil)) fr fun v' H1 s1 r => ?_
  cases r
  exact k H1 s1
theorem ok_aamK {f : Addr} {fd : FuncData} (F : Fun K "are_ascending_members" "are_ascending_members" s_are_ascending_members f fd) (T : Bi mg) (D_is_member : Def P w K mg base "is_member" 4 ["bank", "value"] (spP R_mem)) (D_is_ascending : Def P w K mg base "is_ascending" 1 ["values"] (spAscK K)) :
    FnOk P w K mg base CX0 5 f fd ["bank", "values"] (spAamK K) := by
  obtain ⟨f_is_ascending, fd_is_ascending, G_is_ascending, b_is_ascending, k_is_ascending, m_is_ascending⟩ := D_is_ascending.ex
  obtain ⟨f_is_member, fd_is_member, G_is_member, b_is_member, k_is_member, m_is_member⟩ := D_is_member.ex
  refine F.ok sc_are_ascending_members (fun vs H Q E ⟨N, u, v, e, _⟩ => by rw [e]; rfl) (fun cdv A outer s H vs Q E hr h => ?_)
  obtain ⟨N, u, v, rfl, fr, kt, k⟩ := h
  refine ⟨_, pss_one (ps_ret (pe_and (pe_callB (cr_allK K rfl) (by rfl) T.all (by decide +kernel) (pa_cons (pe_lc (own := [("value", 2)]) rfl sc_are_ascending_members.nd (pi_seqK K (pv 1)) (blkOk_by (own := [("value", 2)]) (N := ["bank", "values", "value"]) (sc := defScope s_are_ascending_members) (by decide +kernel)) (fun _ _ _ _ _ => pg_name (i := 2) sc_are_ascending_members.nd rfl (Or.inl rfl)) (fun _ _ _ _ _ => pts_nil) (fun _ _ _ _ _ => pe_call G_is_member (hr.mono (by decide)) rfl m_is_member k_is_member b_is_member .nil pass0 (pa_cons (pv 0) (pa_cons (pv 2) pa_nil)))) pa_nil)) (pe_one (pe_call G_is_ascending (hr.mono (by decide)) rfl m_is_ascending k_is_ascending b_is_ascending .nil pass0 (pa_cons (pv 1) pa_nil))))), ?_⟩
  refine DE.run (N := N) (d := .bool true) ((de_andV (a := true) (b := true) ((de_allM (xs := ([] : List Int)) (g := fun _ => true) (da_cons (de_lc0 (xs := ([] : List Int)) (enc := PyData.int) (fun _ => .bool true) (di_KT rfl kt) (by simp) fun a ha => nomatch ha) da_nil)).is rfl) fun _ => ?_).is rfl) fr fun v' H1 s1 r => ?_
  · exact fun N1 H1 u1 f1 Q q => ⟨_, rfl, N1, v, rfl, f1, kt, fun H2 s2 => q _ H2 s2 (.bl _)⟩
  · cases r
    exact k H1 s1
end
end Pu

namespace Pu
open PySem PySem.Spec PyProof.Rows L2
/-- the rule for a def with defaults -/
theorem funD_ok {P : Program} {w : World} {K : PySem.W.Frag} {mg : Str → Option Value} {base : Heap} {x qual : Str} {st : Stmt} {dvs : List V} {kws : List (Str × V)} {f : Addr} {fd : FuncData} {N ps : List Str} {k : Nat} {sp : Sp} (F : FunD K x qual (defArgs st) (defBody st) (defScope st) dvs kws f fd) (S : FnScope N ps (defScope st))
    (len : ∀ vs H Q E, sp vs H Q E → vs.length = ps.length)
    (hb : ∀ (cdv : Value) (A : Around) (outer : List Env) (s : Shared) (H : Hp) (vs : List V) (Q : VK) (E : XK), Room k (A.deeper (envOfC qual (defScope st) s.heap.objs.size f cdv)) → sp vs H Q E → ∃ t, PSs (cxOf CX0 P w K mg base N qual (defScope st) f cdv A outer s H E).nox (defBody st) t ∧ t { nx := fun _ H' => Q .non H', rt := Q } (start N vs) H) :
    FnOk P w K mg base CX0 (k + 1) f fd ps sp := by
  obtain ⟨oc, od, dV, kV, doc, pm, an, cdv, ct, osl, rfl, lk, hcd, _, _⟩ := F.ex
  exact fn_of lk hcd S len fun A1 o1 s1 H1 vs1 Q1 E1 hr1 hp1 => (hb cdv A1 o1 s1 H1 vs1 Q1 E1 hr1 hp1).imp fun t h => ⟨h.1.nox, h.2⟩
theorem putF_miss {x a : Str} {v u : V} {r : List (Str × V)} (h : ¬ a = x) : putF x v ((a, u) :: r) = (a, u) :: putF x v r := by
  show (if a = x then _ else (a, u) :: putF x v r) = _
  rw [if_neg h]
theorem putF_nil {x : Str} {v : V} : putF x v [] = [(x, v)] := rfl
/-- all but p stands, new is what was new -/
structure Kq (p : Addr) (H H' : Hp) : Prop where
  kp : ∀ b o, H b = some o → b ≠ p → H' b = some o
  al : ∀ b, H b ≠ none → H' b ≠ none
theorem Kq.trans {p : Addr} {H H1 H2 : Hp} (a : Kq p H H1) (b : Kq p H1 H2) : Kq p H H2 := ⟨fun c o e n => b.kp c o (a.kp c o e n) n, fun c n => b.al c (a.al c n)⟩
theorem Kq.put {p : Addr} {H : Hp} {o : HO} : Kq p H (upd H p o) := ⟨fun b u e n => by rw [upd_ne n]; exact e, fun b n => by
  by_cases e : b = p
  · rw [e, upd_same]; simp
  · rw [upd_ne e]; exact n⟩
theorem Kq.of {p : Addr} {H H' : Hp} (s : Same H H') : Kq p H H' := ⟨fun b o e _ => s b o e, fun b n z => n (s.free z)⟩
theorem Kq.free {p : Addr} {H H' : Hp} (k : Kq p H H') {a : Addr} (h : H' a = none) : H a = none := by
  cases e : H a with
  | none => rfl
  | some u => exact absurd h (k.al a (by rw [e]; simp))
section
variable {K : PySem.W.Frag} {σ : L2.St} {H : Hp} {p C dx : Addr} {fl : List (Str × V)} {D : Ends} {rest : TS} {x : Str} {i : Nat} {v : V}
theorem step_v (h0 : σ[0]? = some (some (.ref p))) (hi : σ[i]? = some (some v)) (hp : H p = some (.ins C dx fl)) (cl : Cls K C) (na : NoAttr K C x) (hl : fl.length < 1000)
    (k : ∀ H', Kq p H H' → H' p = some (.ins C dx (putF x v fl)) → rest D σ H') : tSeq (sFld K (tVar 0) (tVar i) x) rest D σ H := ⟨_, hi, _, h0, p, C, dx, fl, rfl, hp, cl, na, hl, k _ Kq.put upd_same⟩
theorem step_l (h0 : σ[0]? = some (some (.ref p))) (hp : H p = some (.ins C dx fl)) (cl : Cls K C) (na : NoAttr K C x) (hl : fl.length < 1000)
    (k : ∀ l H', H l = none → Kq p H H' → H' p = some (.ins C dx (putF x (.ref l) fl)) → H' l = some (.lst []) → D.nx σ H') : sFld K (tVar 0) (tLst tNil) x D σ H :=
  ⟨Nat.zero_le _, fun l hl' => by
    have pl : p ≠ l := ne_of_none hp hl'
    exact ⟨_, h0, p, C, dx, fl, rfl, (by rw [upd_ne pl]; exact hp), cl, na, hl, k l _ hl' ((Kq.of (same_upd hl')).trans Kq.put) upd_same (by rw [upd_ne pl.symm, upd_same])⟩⟩
end
theorem r2_notB {a b : Bool} : R2D rNotB (.bool a) (.bool b) (.bool (!decide (a = b))) := fun N H v u Q f r1 r2 q => by
  cases r1
  cases r2
  exact ⟨a, b, rfl, rfl, q _ H (Same.refl H) (.bl _)⟩
def newS (b : Bk) (many : Nat) (props : List Int) (lots : List (List Int)) (fs : List Int) (lv : V) : ShD := ⟨b, many, props, lots, fs, [], [], 0, lv⟩
def spInit (K : PySem.W.Frag) (C : Addr) : Sp := fun vs H Q _ => ∃ (N : NP) (p dx : Addr) (bv cv fv lv ag : V) (b : Bk) (many : Nat) (props : List Int) (lots : List (List Int)) (fs : List Int), vs = [.ref p, bv, cv, fv, lv, ag] ∧ N p ∧ Fr N H ∧ H p = some (.ins C dx []) ∧
  Rp (fun a => N a ∧ a ≠ p) H bv b.d ∧ OkB b ∧ Rp (fun a => N a ∧ a ≠ p) H cv (chD many props lots) ∧ Ch2 many props lots ∧ Rp (fun a => N a ∧ a ≠ p) H fv (tI fs) ∧ fs.Pairwise (· < ·) ∧ (∀ o ∈ fs, 0 ≤ o ∧ o < many) ∧ KT K lv ∧ ag = .bl false ∧
  ∀ F H', (∀ a ∈ F, a ≠ p → H a = none) → Kq p H H' → Fr N H' → ShO C N F H' p (newS b many props lots fs lv) → Q .non H'
section
variable {P : Program} {w : World} {K : PySem.W.Frag} {mg : Str → Option Value} {base : Heap} {C : Addr}
abbrev s_Sharing_init : Stmt := inClass (top 39) 0
theorem sc_Sharing_init : FnScope ["self", "bank", "charter", "false", "liars", "agreed"] ["self", "bank", "charter", "false", "liars", "agreed"] (defScope s_Sharing_init) := ⟨rfl, rfl, rfl, by decide +kernel, rfl, by decide +kernel, by decide +kernel⟩
theorem ok_m_init {f : Addr} {fd : FuncData} {dvs : List V} (F : FunD K "__init__" "Sharing.__init__" (defArgs s_Sharing_init) (defBody s_Sharing_init) (defScope s_Sharing_init) dvs [] f fd) (T : Bi mg) (SC : ShC K C) (D_are_ascending_members : Def P w K mg base "are_ascending_members" 5 ["bank", "values"] (spAamK K)) (D_are_owners : Def P w K mg base "are_owners" 4 ["many", "value"] (spP R_areo))
    (D_check_charter : Def P w K mg base "check_charter" 6 ["charter"] (spP R_check)) (D_check_bank : Def P w K mg base "check_bank" 5 ["bank"] (spP R_chkbank)) : FnOk P w K mg base CX0 7 f fd ["self", "bank", "charter", "false", "liars", "agreed"] (spInit K C) := by
  obtain ⟨f_are_ascending_members, fd_are_ascending_members, G_are_ascending_members, b_are_ascending_members, k_are_ascending_members, m_are_ascending_members⟩ := D_are_ascending_members.ex
  obtain ⟨f_are_owners, fd_are_owners, G_are_owners, b_are_owners, k_are_owners, m_are_owners⟩ := D_are_owners.ex
  obtain ⟨f_check_charter, fd_check_charter, G_check_charter, b_check_charter, k_check_charter, m_check_charter⟩ := D_check_charter.ex
  obtain ⟨f_check_bank, fd_check_bank, G_check_bank, b_check_bank, k_check_bank, m_check_bank⟩ := D_check_bank.ex
  refine funD_ok F sc_Sharing_init (fun vs H Q E ⟨N, p, dx, bv, cv, fv, lv, ag, b, many, props, lots, fs, e, _⟩ => by rw [e]; rfl) (fun cdv A outer s H vs Q E hr h => ?_)
  obtain ⟨N, p, dx, bv, cv, fv, lv, ag, b, many, props, lots, fs, rfl, np, fr, hp, rb, Ob, rc, Cc, rf, fasc, fin, rl, rfl, k⟩ := h
  have uN : Up (fun a => N a ∧ a ≠ p) H N H := fun a o n e => ⟨n.1, e⟩
  have m6 := Cc.c.m6
  refine ⟨_, pss_cons (ps_expr (pe_call G_check_bank (hr.mono (by decide)) rfl m_check_bank k_check_bank b_check_bank .nil pass0 (pa_cons (pv 1) pa_nil)))
      (pss_cons (ps_expr (pe_call G_check_charter (hr.mono (by decide)) rfl m_check_charter k_check_charter b_check_charter .nil pass0 (pa_cons (pv 2) pa_nil)))
      (pss_cons (ps_if (pt_not (pt_truK K (pe_call G_are_owners (hr.mono (by decide)) rfl m_are_owners k_are_owners b_are_owners .nil pass0 (pa_cons (pe_ix (ix_K K) (pv 2) pe_int (fun _ _ => rfl)) (pa_cons (pv 3) pa_nil))) (fun _ => rfl))) (pss_one (ps_never)) pss_nil)
      (pss_cons (ps_if (PW.pt (pw_or (pt_not (pt_truK K (pe_callB (call_isKK K) (by rfl) T.isinstance (by decide +kernel) (pa_cons (pv 4) (pa_cons (pe_tyn "tuple" (by rfl) T.tuple (by decide +kernel)) pa_nil))) (fun _ => rfl))) (pw_or (pt_not (pt_truK K (pe_call G_are_ascending_members (hr.mono (by decide)) rfl m_are_ascending_members k_are_ascending_members b_are_ascending_members .nil pass0 (pa_cons (pv 1) (pa_cons (pv 4) pa_nil))) (fun _ => rfl))) (pw_or1 (pt_cmpR op_gt (pe_callB (call_lenK K) (by rfl) T.len (by decide +kernel) (pa_cons (pv 4) pa_nil)) (pe_ix (ix_K K) (pv 1) pe_int (fun _ _ => rfl)) (nomark _)))))) (pss_one (ps_never)) pss_nil)
      (pss_cons (ps_if (PW.pt (pw_and (pt_cmpR op_notBl (pv 5) pe_bl (nomark _)) (pw_and1 (pt_cmpR op_notBl (pv 5) pe_bl (nomark _))))) (pss_one (ps_never)) pss_nil)
      (pss_cons (ps_fld (pv 0) (pv 1) rfl)
      (pss_cons (ps_fld (pv 0) (pv 2) rfl)
      (pss_cons (ps_fld (pv 0) (pv 3) rfl)
      (pss_cons (ps_fld (pv 0) (pv 4) rfl)
      (pss_cons (ps_fld (pv 0) (pv 5) rfl)
      (pss_cons (ps_fld (pv 0) (pe_lst pa_nil) rfl)
      (pss_cons (ps_fld (pv 0) (pe_lst pa_nil) rfl)
      (pss_one (ps_fld (pv 0) (pe_lst pa_nil) rfl))))))))))))), ?_⟩
  refine dq_drop (de_call (da_cons (de_var rfl (rb.up uN)) da_nil) ⟨b, rfl, Ob, rfl⟩) fr fun H1 s1 => ?_
  refine dq_drop (de_call (da_cons (de_var rfl ((rc.up uN).same s1)) da_nil) ⟨many, props, lots, rfl, Cc, rfl⟩) (fr.same s1) fun H2 s2 => ?_
  have s12 := s1.trans s2
  refine dq_iff ((dt_not (a := true) (dt_truB (de_call (da_cons (de_op (de_var (i := 2) rfl ((rc.up uN).same s12)) de_int (r2_ix (K := K) (i := 0) (z := .int (many : Int)) rfl)) (da_cons (de_var rfl ((rf.up uN).same s12)) da_nil)) ⟨many, fs, rfl, by omega, fin, fasc, rfl⟩))).is rfl) (fr.same s12) fun H3 s3 => ?_
  have s13 := s12.trans s3
  refine dq_iff (N := N) ((dt_or (a := false) (b := false) (dt_not (a := true) (dt_truB (de_isKK rfl rl))) fun _ => dt_or (a := false) (b := false) (dt_not (a := true) (dt_truB (fun N1 H1 u1 f1 Q q => ⟨_, rfl, _, rfl, N1, bv, lv, rfl, f1, rl, fun H2 s2 => q (.bl true) H2 s2 (.bl true)⟩)))
    fun _ => (dt_test (de_op (de_lenKT rfl rl) (de_op (de_var (i := 1) rfl ((rb.up uN).same s13)) de_int (r2_ix (K := K) (i := 2) (z := .int (b.lies : Int)) rfl)) (r2_b (g := fun a b => decide (b < a)) (i := 0) (j := (b.lies : Int))))).is (by simp)).is rfl) (fr.same s13) fun H4 s4 => ?_
  have s14 := s13.trans s4
  refine dq_iff ((dt_and (a := true) (b := false) ((dt_test (de_op (de_var (i := 5) rfl (.bl false)) de_bl r2_notB)).is rfl) fun _ => (dt_test (de_op (de_var (i := 5) rfl (.bl false)) de_bl r2_notB)).is rfl).is rfl) (fr.same s14) fun H5 s5 => ?_
  have s15 := s14.trans s5
  refine step_v rfl rfl (s15 _ _ hp) SC.cl SC.nb (by simp) fun H6 k6 hp6 => ?_
  refine step_v rfl rfl hp6 SC.cl SC.nc (by simp [putF_nil]) fun H7 k7 hp7 => ?_
  have e7 : putF "_charter" cv (putF "_bank" bv []) = [(("_bank" : Str), bv), ("_charter", cv)] := by
    rw [putF_nil, putF_miss (by decide +kernel), putF_nil]
  rw [e7] at hp7
  refine step_v rfl rfl hp7 SC.cl SC.nf (by simp) fun H8 k8 hp8 => ?_
  have e8 : putF "_false" fv [(("_bank" : Str), bv), ("_charter", cv)] = [(("_bank" : Str), bv), ("_charter", cv), ("_false", fv)] := by
    rw [putF_miss (by decide +kernel), putF_miss (by decide +kernel), putF_nil]
  rw [e8] at hp8
  refine step_v rfl rfl hp8 SC.cl SC.nl (by simp) fun H9 k9 hp9 => ?_
  have e9 : putF "_liars" lv [(("_bank" : Str), bv), ("_charter", cv), ("_false", fv)] = [(("_bank" : Str), bv), ("_charter", cv), ("_false", fv), ("_liars", lv)] := by
    rw [putF_miss (by decide +kernel), putF_miss (by decide +kernel), putF_miss (by decide +kernel), putF_nil]
  rw [e9] at hp9
  refine step_v rfl rfl hp9 SC.cl SC.na (by simp) fun H10 k10 hp10 => ?_
  have e10 : putF "_agreed" (.bl false) [(("_bank" : Str), bv), ("_charter", cv), ("_false", fv), ("_liars", lv)] = [(("_bank" : Str), bv), ("_charter", cv), ("_false", fv), ("_liars", lv), ("_agreed", .bl false)] := by
    rw [putF_miss (by decide +kernel), putF_miss (by decide +kernel), putF_miss (by decide +kernel), putF_miss (by decide +kernel), putF_nil]
  rw [e10] at hp10
  refine step_l rfl hp10 SC.cl SC.nm (by simp) fun lm H11 hlm k11 hp11 hl11 => ?_
  have e11 : putF "_made" (.ref lm) [(("_bank" : Str), bv), ("_charter", cv), ("_false", fv), ("_liars", lv), ("_agreed", .bl false)] = [(("_bank" : Str), bv), ("_charter", cv), ("_false", fv), ("_liars", lv), ("_agreed", .bl false), ("_made", .ref lm)] := by
    rw [putF_miss (by decide +kernel), putF_miss (by decide +kernel), putF_miss (by decide +kernel), putF_miss (by decide +kernel), putF_miss (by decide +kernel), putF_nil]
  rw [e11] at hp11
  refine step_l rfl hp11 SC.cl SC.ns (by simp) fun ls H12 hls k12 hp12 hl12 => ?_
  have e12 : putF "_seals" (.ref ls) [(("_bank" : Str), bv), ("_charter", cv), ("_false", fv), ("_liars", lv), ("_agreed", .bl false), ("_made", .ref lm)] = [(("_bank" : Str), bv), ("_charter", cv), ("_false", fv), ("_liars", lv), ("_agreed", .bl false), ("_made", .ref lm), ("_seals", .ref ls)] := by
    rw [putF_miss (by decide +kernel), putF_miss (by decide +kernel), putF_miss (by decide +kernel), putF_miss (by decide +kernel), putF_miss (by decide +kernel), putF_miss (by decide +kernel), putF_nil]
  rw [e12] at hp12
  refine step_l rfl hp12 SC.cl SC.nv (by simp) fun lw H13 hlw k13 hp13 hl13 => ?_
  have e13 : putF "_votes" (.ref lw) [(("_bank" : Str), bv), ("_charter", cv), ("_false", fv), ("_liars", lv), ("_agreed", .bl false), ("_made", .ref lm), ("_seals", .ref ls)] = shF bv cv fv lv lm ls lw := by
    rw [putF_miss (by decide +kernel), putF_miss (by decide +kernel), putF_miss (by decide +kernel), putF_miss (by decide +kernel), putF_miss (by decide +kernel), putF_miss (by decide +kernel), putF_miss (by decide +kernel), putF_nil]; rfl
  rw [e13] at hp13
  have q10 : Kq p H H10 := (Kq.of s15).trans (k6.trans (k7.trans (k8.trans (k9.trans k10))))
  have q11 := q10.trans k11
  have q12 := q11.trans k12
  have q13 := q12.trans k13
  have nlm := q10.free hlm
  have nls := q11.free hls
  have nlw := q12.free hlw
  have pm : lm ≠ p := fun z => by rw [z, hp] at nlm; cases nlm
  have ps : ls ≠ p := fun z => by rw [z, hp] at nls; cases nls
  have pw : lw ≠ p := fun z => by rw [z, hp] at nlw; cases nlw
  have d1 : lm ≠ ls := fun z => by rw [← z, hl11] at hls; cases hls
  have hm12 := k12.kp _ _ hl11 pm
  have d2 : lm ≠ lw := fun z => by rw [← z, hm12] at hlw; cases hlw
  have d3 : ls ≠ lw := fun z => by rw [← z, hl12] at hlw; cases hlw
  have hm13 := k13.kp _ _ hm12 pm
  have hs13 := k13.kp _ _ hl12 ps
  have f13 : Fr N H13 := fun a ha => fr a (q13.free ha)
  have up : Up (fun a => N a ∧ a ≠ p) H (out N [p, lm, ls, lw]) H13 := fun a o n e => by
    refine ⟨⟨n.1, fun h => ?_⟩, q13.kp _ _ e n.2⟩
    simp only [List.mem_cons, List.not_mem_nil, or_false] at h
    rcases h with h | h | h | h
    · exact n.2 h
    · rw [h, nlm] at e; cases e
    · rw [h, nls] at e; cases e
    · rw [h, nlw] at e; cases e
  refine k [p, lm, ls, lw] H13 (fun a h n => ?_) q13 f13 ⟨fun a h => ?_, dx, bv, cv, fv, lv, lm, ls, lw, [], [], by simp, hp13, rb.up up, rc.up up, rf.up up, rfl, ⟨by simp, hm13⟩, ⟨by simp, hs13⟩, ⟨rfl, fun i q s h => by simp at h⟩, ⟨by simp, hl13⟩, ⟨rfl, fun q h => nomatch h⟩, List.nodup_nil, d1, d2, d3⟩
  · simp only [List.mem_cons, List.not_mem_nil, or_false] at h
    rcases h with h | h | h | h
    · exact absurd h n
    · rw [h]; exact nlm
    · rw [h]; exact nls
    · rw [h]; exact nlw
  · simp only [List.mem_cons, List.not_mem_nil, or_false] at h
    rcases h with h | h | h | h
    · rw [h]; exact ⟨np, by rw [hp13]; simp⟩
    · rw [h]; exact ⟨fr _ nlm, by rw [hm13]; simp⟩
    · rw [h]; exact ⟨fr _ nls, by rw [hs13]; simp⟩
    · rw [h]; exact ⟨fr _ nlw, by rw [hl13]; simp⟩
end
end Pu

namespace Pu
open PySem PySem.Spec PyProof.Rows L2
/-! ### min(xs, key=len), xs a list of lists -/
abbrev Stays (h h' : Heap) : Prop := ∀ b o, h.get? b = some o → h'.get? b = some o
theorem Stays.trans {a b c : Heap} (x : Stays a b) (y : Stays b c) : Stays a c := fun d o e => y d o (x d o e)
section
variable {prog : Program} {w : World} {A : Around} {E : Value → Shared → Prop} {s : Shared} {l I S : Addr} {vs : List Value} {R : Result → Shared → Prop} {Q : Value → Shared → Prop}
theorem minlen_loop (hh : A.handled = none) (hl : s.heap.IsList l vs.toArray) (nI : s.heap.get? I = none) (nS : s.heap.get? S = none) (hSI : S ≠ I) (hv : ∀ v ∈ vs, ∃ a its, v = .ref a ∧ s.heap.IsList a its ∧ (its.size : Int) < 2 ^ 63)
    (hR : ∀ v ∈ vs, ∀ h' tk', Stays s.heap h' → R (.ok (.ret v)) { s with heap := h', toks := tk' }) :
    ∀ (r j : Nat) (h : Heap) (tk : Nat) (vb : Value) (kb : Int) (tb : Tok) (c : Nat), vs.length - j = r → j ≤ vs.length → Stays s.heap h → h.get? S = some (seqObj "list" #[vb, .int kb tb] c) → h.IsListIter I l j → vb ∈ vs →
      codeAny (model prog w) A (.builtin "min.loop" ⟨[.ref I, .builtin "len", .ref S], []⟩) R { s with heap := h, toks := tk } := by
  have lI : l ≠ I := fun z => by
    obtain ⟨o, e, _⟩ := hl
    rw [z, nI] at e; cases e
  have nm : (toString "min" ++ toString ".loop" : String) = "min.loop" := by decide
  have Wk := Walks.list (prog := prog) (w := w) (A := A.in1) hh I l lI vs.toArray
  have size_eq : vs.toArray.size = vs.length := by simp
  have old : ∀ {h h' : Heap}, Stays s.heap h → (∀ b o, b ∉ [I] → h.get? b = some o → h'.get? b = some o) → Stays s.heap h' := fun k hk b o e => hk b o (fun q => by
    rw [List.mem_singleton.mp q, nI] at e; cases e) (k b o e)
  intro r
  induction r with
  | zero =>
    intro j h tk vb kb tb c hr hj k hS hit hvb
    have hjn : j = vs.length := by omega
    refine codeAny_builtin F.entry_min_loop (by
      rw [Around.under_plainId F.plain_min_loop _]
      show wpAny _ A.in1 (seqItems? (.ref S) >>= _) _ _ _
      refine wpAny_bind (wpAny_seqItems hS rfl (?_ : wpAny _ A.in1 (tryCatch (pyNext (.ref I)) _ >>= _) _ _ _))
      refine wpAny_bind (wpAny_tryCatch (Wk.done _ _ _ ⟨by rw [size_eq, ← hjn]; exact hit, hl.at fun o q => k _ _ q⟩ fun h' tk' hk' => ?_))
      have hS' := hk' S _ (by simpa using hSI) hS
      refine wpAny_bind (?_ : wpAny _ A.in1 (updateSeq S fun _ => #[]) _ _ _)
      refine wpAny_updateSeq hS' rfl (wpAny_bind (wpAny_letGo (wpAny_pure (hR vb hvb _ _ fun b o e => ?_))))
      have hb : b ≠ S := fun z => by rw [z, nS] at e; cases e
      exact ((Heap.SameBut.update h' S (Obj.mapSeq fun _ => (#[] : Array Value))).2 b hb).trans (old k hk' b o e))
  | succ r ih =>
    intro j h tk vb kb tb c hr hj k hS hit hvb
    have hlt : j < vs.length := by omega
    refine codeAny_builtin F.entry_min_loop (by
      rw [Around.under_plainId F.plain_min_loop _]
      show wpAny _ A.in1 (seqItems? (.ref S) >>= _) _ _ _
      refine wpAny_bind (wpAny_seqItems hS rfl (?_ : wpAny _ A.in1 (tryCatch (pyNext (.ref I)) _ >>= _) _ _ _))
      refine wpAny_bind (wpAny_tryCatch (Wk.item j _ _ _ (by rw [size_eq]; exact hlt) ⟨hit, hl.at fun o q => k _ _ q⟩ fun v h' tk' hP hst' hk' => ?_))
      have hv' : v ∈ vs := by
        have : vs[j]? = some v := by simpa using hP
        exact List.mem_of_getElem? this
      have k1 := old k hk'
      have hS1 := hk' S _ (by simpa using hSI) hS
      obtain ⟨a, its, rfl, ha, hfit⟩ := hv v hv'
      refine wpAny_bind (?_ : wpAny _ A.in1 (tryCatch (holding [.ref a] (call (.builtin "len") [.ref a])) _) _ _ _)
      refine wpAny_tryCatch (wpAny_holding (Calls.call_len_list (s := { s with heap := h', toks := tk' }) (ha.at fun o q => k1 _ _ q) hfit ?_))
      refine wpAny_bind (?_ : wpAny _ A.in1 (tryCatch (holding [.ref a, .int (its.size : Int) (tk' + 1)] (richCompare .Lt (.int (its.size : Int) (tk' + 1)) (.int kb tb) >>= _)) _) _ _ _)
      refine wpAny_tryCatch (wpAny_holding (wpAny_bind (CmpOf.ints_lt (prog := prog) (w := w) (A := A.in1) (P := fun i v => ∃ t, v = .int (if i = 0 then (its.size : Int) else kb) t) (fun i => if i = 0 then (its.size : Int) else kb) (fun i v h => h) 0 1 _ _ _ _ _ ⟨_, rfl⟩ ⟨_, rfl⟩ ?_)))
      refine wpAny_bind (wpAny_holding (wpAny_truthy_bool (wpAny_bind (wpAny_letGo (wpAny_pure ?_)))))
      by_cases hb : (its.size : Int) < kb
      · simp only [hb, decide_true, if_true, if_pos, Nat.one_ne_zero, if_false]
        refine wpAny_bind ?_
        refine wpAny_updateSeq hS1 rfl (wpAny_bind (wpAny_letGo (?_ : wpAny _ A.in1 (pure _) _ _ _)))
        rw [nm]
        obtain ⟨c2, hc2⟩ : ∃ c2, (h'.update S (Obj.mapSeq fun _ => #[.ref a, .int (its.size : Int) (tk' + 1)])).get? S = some (seqObj "list" #[.ref a, .int (its.size : Int) (tk' + 1)] c2) := ⟨_, get?_update_seq hS1 fun _ => #[.ref a, .int (its.size : Int) (tk' + 1)]⟩
        have sb := Heap.SameBut.update h' S (Obj.mapSeq fun _ => #[.ref a, .int (its.size : Int) (tk' + 1)])
        refine wpAny_pure ⟨plainId_quiet F.plain_min_loop _, ih (j + 1) _ _ (.ref a) _ _ c2 (by omega) hlt (fun b o e => ?_) hc2 ?_ hv'⟩
        · have hb : b ≠ S := fun z => by rw [z, nS] at e; cases e
          exact (sb.2 b hb).trans (k1 b o e)
        · exact hst'.1.at fun o q => (sb.2 I hSI.symm).trans q
      · simp only [hb, decide_false, Bool.false_eq_true, if_true, if_pos, Nat.one_ne_zero, if_false]
        refine wpAny_bind (wpAny_letGo (?_ : wpAny _ A.in1 (pure _) _ _ _))
        rw [nm]
        exact wpAny_pure ⟨plainId_quiet F.plain_min_loop _, ih (j + 1) _ _ vb kb tb c (by omega) hlt k1 hS1 hst'.1 hvb⟩)
theorem min_len_raw (hh : A.handled = none) (hl : s.heap.IsList l vs.toArray) (hne : 0 < vs.length) (hv : ∀ v ∈ vs, ∃ a its, v = .ref a ∧ s.heap.IsList a its ∧ (its.size : Int) < 2 ^ 63)
    (hQ : ∀ v ∈ vs, ∀ h' tk', Stays s.heap h' → Q v { s with heap := h', toks := tk' }) : wpAny (model prog w) A (call (.builtin "min") [.ref l] [(Str.ofString "key", .builtin "len")]) Q E s := by
  have nm : (toString "min" ++ toString ".loop" : String) = "min.loop" := by decide
  have ll : l < s.heap.objs.size := by obtain ⟨o, e, _⟩ := hl; exact Heap.lt_size e
  obtain ⟨oI, eI⟩ : ∃ o : Obj, o = { cls := .type "list_iterator", data := .fields #[.ref l, .int 0 0] } := ⟨_, rfl⟩
  refine kmb_tree F.kind_min F.plain_min F.entry_min (kmb_min_key _ _) (?_ : wpAny _ A.in1 (Builtin.Builtins.bindParams "min" ["key", "default"] 0 ⟨[], [(Str.ofString "key", .builtin "len")]⟩ >>= _) _ _ s)
  refine wpAny_bind (wpAny_of_eq (show Builtin.Builtins.bindParams "min" ["key", "default"] 0 ⟨[], [(Str.ofString "key", .builtin "len")]⟩ = pure [some (.builtin "len"), none] from rfl) (wpAny_bind (wpAny_pure (wpAny_bind (wpAny_pyIter_list hl (wpAny_bind (wpAny_newList ?_ (Nat.zero_le _))))))))
  rw [nm, ← eI]
  have zS : (s.heap.push oI).objs.size = s.heap.objs.size + 1 := by rw [Heap.size_push]
  have k0 : Stays s.heap ((s.heap.push oI).push (seqObj "list" #[] 0)) := fun b o e => Heap.get?_push_of_some _ (Heap.get?_push_of_some _ e)
  have nI : s.heap.get? s.heap.objs.size = none := Heap.get?_none_of_le (Nat.le_refl _)
  have nS : s.heap.get? (s.heap.push oI).objs.size = none := Heap.get?_none_of_le (by rw [zS]; exact Nat.le_succ _)
  have hSI : (s.heap.push oI).objs.size ≠ s.heap.objs.size := by rw [zS]; exact Nat.succ_ne_self _
  have gI : ((s.heap.push oI).push (seqObj "list" #[] 0)).get? s.heap.objs.size = some oI := Heap.get?_push_of_some _ (Heap.get?_push_size _ (by rw [eI]; rfl))
  have gS : ((s.heap.push oI).push (seqObj "list" #[] 0)).get? (s.heap.push oI).objs.size = some (seqObj "list" #[] 0) := Heap.get?_push_size _ rfl
  have Wk := Walks.list (prog := prog) (w := w) (A := A.in1) hh s.heap.objs.size l (Nat.ne_of_lt ll) vs.toArray
  generalize (s.heap.push oI).objs.size = S at *
  generalize (s.heap.push oI).push (seqObj "list" #[] 0) = h0 at *
  refine wpAny_pure ⟨plainId_quiet F.plain_min_loop _, codeAny_builtin F.entry_min_loop ?_⟩
  rw [Around.under_plainId F.plain_min_loop _]
  show wpAny _ A.in1 (seqItems? (.ref S) >>= _) _ _ _
  refine wpAny_bind (wpAny_seqItems gS rfl (?_ : wpAny _ A.in1 (tryCatch (pyNext (.ref _)) _ >>= _) _ _ _))
  refine wpAny_bind (wpAny_tryCatch (Wk.item 0 _ _ _ (by simpa using hne) ⟨⟨oI, gI, by rw [eI], by rw [eI]; rfl⟩, hl.at fun o q => k0 _ _ q⟩ fun v h' tk' hP hst' hk' => ?_))
  have hv' : v ∈ vs := by
    have : vs[0]? = some v := by simpa using hP
    exact List.mem_of_getElem? this
  have k1 : Stays s.heap h' := fun b o e => hk' b o (fun q => by rw [List.mem_singleton.mp q, nI] at e; cases e) (k0 b o e)
  have hS1 := hk' S _ (by simpa using hSI) gS
  obtain ⟨a, its, rfl, ha, hfit⟩ := hv v hv'
  refine wpAny_bind (?_ : wpAny _ A.in1 (tryCatch (holding [.ref a] (call (.builtin "len") [.ref a])) _) _ _ _)
  refine wpAny_tryCatch (wpAny_holding (Calls.call_len_list (s := { s with heap := h', toks := tk' }) (ha.at fun o q => k1 _ _ q) hfit ?_))
  refine wpAny_bind (?_ : wpAny _ A.in1 (updateSeq S fun _ => #[.ref a, .int (its.size : Int) (tk' + 1)]) _ _ _)
  refine wpAny_updateSeq hS1 rfl (?_ : wpAny _ A.in1 (pure _) _ _ _)
  rw [nm]
  obtain ⟨c2, hc2⟩ : ∃ c2, (h'.update S (Obj.mapSeq fun _ => #[.ref a, .int (its.size : Int) (tk' + 1)])).get? S = some (seqObj "list" #[.ref a, .int (its.size : Int) (tk' + 1)] c2) := ⟨_, get?_update_seq hS1 fun _ => #[.ref a, .int (its.size : Int) (tk' + 1)]⟩
  have sb := Heap.SameBut.update h' S (Obj.mapSeq fun _ => #[.ref a, .int (its.size : Int) (tk' + 1)])
  refine wpAny_pure ⟨plainId_quiet F.plain_min_loop _, minlen_loop hh hl nI nS hSI hv hQ _ 1 _ _ (.ref a) _ _ c2 rfl hne (fun b o e => ?_) hc2 ?_ hv'⟩
  · have hb : b ≠ S := fun z => by rw [z, nS] at e; cases e
    exact (sb.2 b hb).trans (k1 b o e)
  · exact hst'.1.at fun o q => (sb.2 _ hSI.symm).trans q
end
section
variable {X : Cx} {N : NP} {σ : L2.St} {H : Hp} {te : TE}
/-- min(e, key=len): the one that comes is an item -/
def tMinLen (K : PySem.W.Frag) (te : TE) : TE := fun σ H Q => te σ H fun v H1 => ∃ (a : Addr) (xs : List V), v = .ref a ∧ SqL K H1 a xs ∧ xs ≠ [] ∧ (∀ x ∈ xs, ∃ b ys, x = V.ref b ∧ SqL K H1 b ys) ∧ ∀ x ∈ xs, Q x H1
theorem pe_minLen {e : Expr} {p p2 pos kpos : Pos} (K : PySem.W.Frag) (hc : X.calm = true) (he : PE X e te) (hg : Gl X "min") (hm : X.mg "min" = none) (hg2 : Gl X "len") (hm2 : X.mg "len" = none)
    (hs : starEach [e] X.env = [(false, eval e X.env)] := by rfl) (hb : backTo pos (starEach [e] X.env) = (false, eval e X.env) :: backTo pos (starEach [] X.env) := by rfl) (hK : X.K = K := by rfl) :
    PE X (.Call (.Name "min" p) [e] [⟨some "key", .Name "len" p2, kpos⟩] pos) (tMinLen K te) := by
  subst hK
  have pa : PA X [e] (tCons te tNil) := pa_cons he pa_nil hs
  refine ⟨fun pins s σ H Q I h => wpAny_Call_Name_kw (ld_blt I hg hm (u := .builtin "min") (by rfl) ?_ (by decide) (by decide))⟩
  refine PyProof.Rows.callWith_kw (thn (pa.run pos pins s σ H (fun vs H1 => match vs with | [v] => ∃ (a : Addr) (xs : List V), v = .ref a ∧ SqL X.K H1 a xs ∧ xs ≠ [] ∧ (∀ x ∈ xs, ∃ b ys, x = V.ref b ∧ SqL X.K H1 b ys) ∧ ∀ x ∈ xs, Q x H1 | _ => False) I h) fun us s1 ⟨vs, H1, I1, r1, q1⟩ => ?_) hb (by rw [hb]; rfl) (by rfl) (by rfl)
  match vs, q1 with
  | [v], ⟨a, xs, e0, hs', hne, hx, q⟩ =>
    subst e0
    rw [Vals.ref1 r1]
    refine (?_ : wpAny _ _ (evalAll [do let v ← eval (.Name "len" p2) X.env; standAt pos; pure v]) _ _ s1)
    refine wpAny_evalAll_cons (wpAny_bind (ld_blt I1 hg2 hm2 (u := .builtin "len") (by rfl) (wpAny_bind (wpAny_standAt (wpAny_pure (wpAny_evalAll_nil ?_)))) (by decide) (by decide)))
    obtain ⟨its, rv, hl, _⟩ := I1.list hs'
    have hl' : s1.heap.IsList a its.toArray := hl.isList
    refine min_len_raw (I1.ok.hd hc) hl' (by rw [← rv.length]; exact List.length_pos_iff.mpr hne) (fun v hv => ?_) fun v hv h' tk' k => ?_
    · obtain ⟨i, hi, rfl⟩ := List.getElem_of_mem hv
      have hi' : i < xs.length := by rw [rv.length]; exact hi
      obtain ⟨u, hu, ru⟩ := rv.get (List.getElem?_eq_getElem hi')
      rw [List.getElem?_eq_getElem hi] at hu
      obtain rfl := Option.some.inj hu
      obtain ⟨b, ys, e, hy⟩ := hx _ (List.getElem_mem hi')
      rw [e] at ru
      obtain ⟨its2, rv2, hl2, hz2⟩ := I1.list hy
      refine ⟨b, its2.toArray, ru, hl2.isList, ?_⟩
      have := rv2.length
      have hz : its2.length ≤ sizeLine := by omega
      have z2 := sizeLine_eq
      simp only [List.size_toArray]
      omega
    · obtain ⟨i, hi, rfl⟩ := List.getElem_of_mem hv
      have hi' : i < xs.length := by rw [rv.length]; exact hi
      obtain ⟨u, hu, ru⟩ := rv.get (List.getElem?_eq_getElem hi')
      rw [List.getElem?_eq_getElem hi] at hu
      obtain rfl := Option.some.inj hu
      exact ⟨xs[i], H1, I1.kept k, ru, q _ (List.getElem_mem hi')⟩
end
end Pu

namespace Pu
open PySem PySem.Spec PyProof.Rows L2
/-- methods that only read, of whose answer something is told -/
def spMA (C : Addr) (D : ShD → List PyData → Prop) (R : ShD → List PyData → PyData → Prop) : Sp := fun vs H Q _ => ∃ (N : NP) (p : Addr) (S : ShD) (us : List V) (ds : List PyData), vs = .ref p :: us ∧ Fr N H ∧ ShN C N H p S ∧ Rps N H us ds ∧ D S ds ∧ ∀ d v H', R S ds d → Same H H' → Rp N H' v d → Q v H'
theorem len_spMA {C : Addr} {D : ShD → List PyData → Prop} {R : ShD → List PyData → PyData → Prop} {n : Nat} (h : ∀ S ds, D S ds → ds.length + 1 = n) : ∀ vs H Q E, spMA C D R vs H Q E → vs.length = n := fun vs H Q E ⟨N, p, S, us, ds, e, _, _, r, hr, _⟩ => by rw [e, List.length_cons, r.len, h S ds hr]
section
variable {C : Addr} {N : NP} {σ : L2.St} {H : Hp} {p : Addr} {S : ShD} {D : ShD → List PyData → Prop} {R : ShD → List PyData → PyData → Prop} {E : XK} {m : Str} {i : Nat} {ta : TA} {ds : List PyData}
theorem run_methA {Q : VK} (hσ : σ[i]? = some (some (.ref p))) (s : ShN C N H p S) (f : Fr N H)
    (hm : ∀ vb vc vf vl lm ls lv, List.lookup m (shF vb vc vf vl lm ls lv) = none) (h : DA N ta σ H ds) (r : D S ds) (q : ∀ d v H1, R S ds d → Same H H1 → Rp N H1 v d → Q v H1) : tMeth C m (spMA C D R) [] E (tVar i) ta σ H Q := by
  obtain ⟨dx, vb, vc, vf, vl, lm, ls, lv, qs, ws, np, hp, _⟩ := s.ex
  exact ⟨_, hσ, p, dx, _, rfl, hp, hm _ _ _ _ _ _ _, h N H (Up.refl _ _) f _ fun vs H2 s2 r2 => ⟨N, p, S, vs, ds, by rw [List.append_nil], f.same s2, s.same s2, r2, r, fun d v H3 hr s3 r3 => q d v H3 hr (s2.trans s3) r3⟩⟩
theorem dq_setA {Dn : Ends} {rest : TS} {j : Nat} (hσ : σ[i]? = some (some (.ref p))) (s : ShN C N H p S) (f : Fr N H)
    (hm : ∀ vb vc vf vl lm ls lv, List.lookup m (shF vb vc vf vl lm ls lv) = none) (h : DA N ta σ H ds) (r : D S ds) (q : ∀ d v H1, R S ds d → Same H H1 → Rp N H1 v d → rest Dn (σ.set j (some v)) H1) : tSeq (tAsg (tMeth C m (spMA C D R) [] E (tVar i) ta) (gName j)) rest Dn σ H := run_methA hσ s f hm h r q
/-- x = min(e, key=len) -/
theorem dq_minLen {K : PySem.W.Frag} {te : TE} {Dn : Ends} {rest : TS} {j : Nat} {dss : List (List PyData)} (h : DE N te σ H (.list (dss.map PyData.list))) (f : Fr N H) (hne : dss ≠ [])
    (q : ∀ es ∈ dss, ∀ v H1, Same H H1 → Rp N H1 v (.list es) → rest Dn (σ.set j (some v)) H1) : tSeq (tAsg (tMinLen K te) (gName j)) rest Dn σ H :=
  h.run f fun v H1 s1 r => by
    cases r with
    | @lst a xs _ n hh r =>
      have ln := r.len
      rw [List.length_map] at ln
      refine ⟨a, xs, rfl, SqL.of hh, fun e => hne (List.eq_nil_of_length_eq_zero (by rw [← ln, e]; rfl)), fun x hx => ?_, fun x hx => ?_⟩
      · obtain ⟨d, hd, rd⟩ := r.mem hx
        obtain ⟨es, _, rfl⟩ := List.mem_map.mp hd
        cases rd with
        | lst n h _ => exact ⟨_, _, rfl, SqL.of h⟩
      · obtain ⟨d, hd, rd⟩ := r.mem hx
        obtain ⟨es, he, rfl⟩ := List.mem_map.mp hd
        exact q es he x H1 s1 rd
end
theorem di_rngN {N : NP} {σ : L2.St} {H : Hp} {ta : TA} {n : Nat} (h : DA N ta σ H [.int (n : Int)]) (h1 : n ≤ 1000000) : DI N (iRng1 ta) σ H ((Ch.rng n).map PyData.int) := by
  have := di_rng h (by omega) (by omega)
  rwa [Int.toNat_natCast] at this
theorem cutD_le (ds : List PyData) (lo hi : Option Int) : (cutD ds lo hi).length ≤ ds.length := by
  unfold cutD
  rw [List.length_take, List.length_drop]; omega
theorem cutD_ints (ns : List Int) (lo hi : Option Int) : ∃ ms : List Int, cutD (ns.map PyData.int) lo hi = ms.map PyData.int ∧ ms.length ≤ ns.length := by
  have l := cutD_le (ns.map PyData.int) lo hi
  have : ∀ d ∈ cutD (ns.map PyData.int) lo hi, ∃ i, d = PyData.int i := fun d hd => by
    unfold cutD at hd
    obtain ⟨i, _, rfl⟩ := List.mem_map.mp (List.mem_of_mem_drop (List.mem_of_mem_take hd))
    exact ⟨i, rfl⟩
  generalize cutD (ns.map PyData.int) lo hi = es at *
  have key : ∀ es : List PyData, (∀ d ∈ es, ∃ i, d = PyData.int i) → ∃ ms : List Int, es = ms.map PyData.int := by
    intro es
    induction es with
    | nil => exact fun _ => ⟨[], rfl⟩
    | cons e es ih =>
      intro h
      obtain ⟨i, rfl⟩ := h e (by simp)
      obtain ⟨ms, rfl⟩ := ih fun d hd => h d (by simp [hd])
      exact ⟨i :: ms, rfl⟩
  obtain ⟨ms, rfl⟩ := key es this
  exact ⟨ms, rfl, by simpa using l⟩
def canW (S : ShD) (o : Int) : Bool := Ch.has S.lots fun x => decide (x ∈ o :: restOf S.many S.fs)
def D_way (K : PySem.W.Frag) : ShD → List PyData → Prop := fun S ds => ∃ o : Int, ds = [.int 0, lI [o], .int 0] ∧ Ch2 S.many S.props S.lots ∧ OkB S.b ∧ S.seals = [] ∧ S.nv = 0 ∧ KT K S.lv
def R_way : ShD → List PyData → PyData → Prop := fun S ds d => ∃ o : Int, ds = [.int 0, lI [o], .int 0] ∧ ((canW S o = false ∧ d = .none) ∨ (canW S o = true ∧ ∃ es, d = .list es ∧ es.length ≤ 1000))
section
variable {P : Program} {w : World} {K : PySem.W.Frag} {mg : Str → Option Value} {base : Heap} {C : Addr}
abbrev s_Sharing_p_way_for : Stmt := inClass (top 39) 10
theorem sc_Sharing_p_way_for : FnScope ["self", "proposal", "owners", "many", "free", "member", "lacking", "helpers", "owner", "fewest", "lot", "signs"] ["self", "proposal", "owners", "many"] (defScope s_Sharing_p_way_for) := ⟨rfl, rfl, rfl, by decide +kernel, rfl, by decide +kernel, by decide +kernel⟩
theorem ok_m_way_for {f : Addr} {fd : FuncData} (F : Fun K "_way_for" "Sharing._way_for" s_Sharing_p_way_for f fd) (T : Bi mg) (SC : ShC K C) (cSharing : Cls K C) (D_Sharing_p_is_free : DefM P w K mg base C "_is_free" 1 ["self", "member"] (spM C (R_free K)))
    (D_need_of : Def P w K mg base "need_of" 6 ["bank"] (spP R_need)) (D_Sharing_p_is_idle : DefM P w K mg base C "_is_idle" 1 ["self", "owner"] (spM C R_idle)) (D_has_lot : Def P w K mg base "has_lot" 2 ["charter", "owners"] (spP R_haslot)) (D_has_all : Def P w K mg base "has_all" 1 ["owners", "wanted"] (spP R_hasall)) :
    FnOk P w K mg base CX0 7 f fd ["self", "proposal", "owners", "many"] (spMA C (D_way K) R_way) := by
  obtain ⟨f_has_all, fd_has_all, G_has_all, b_has_all, k_has_all, m_has_all⟩ := D_has_all.ex
  obtain ⟨f_has_lot, fd_has_lot, G_has_lot, b_has_lot, k_has_lot, m_has_lot⟩ := D_has_lot.ex
  obtain ⟨f_Sharing_p_is_idle, fd_Sharing_p_is_idle, G_Sharing_p_is_idle, b_Sharing_p_is_idle, h_Sharing_p_is_idle⟩ := D_Sharing_p_is_idle.ex
  obtain ⟨f_need_of, fd_need_of, G_need_of, b_need_of, k_need_of, m_need_of⟩ := D_need_of.ex
  obtain ⟨f_Sharing_p_is_free, fd_Sharing_p_is_free, G_Sharing_p_is_free, b_Sharing_p_is_free, h_Sharing_p_is_free⟩ := D_Sharing_p_is_free.ex
  refine F.ok sc_Sharing_p_way_for (len_spMA fun S ds ⟨o, e, _⟩ => by rw [e]; rfl) (fun cdv A outer s H vs Q E hr h => ?_)
  obtain ⟨N, p, S, us, ds, rfl, fr, sh, rs, ⟨o, rfl, Cc, Ob, hs, hv, kt⟩, k⟩ := h
  obtain ⟨v1, v2, v3, rfl, r1, r2, r3⟩ := rps3 rs
  refine ⟨_, pss_cons (ps_setLc (i := 4) (own := [("member", 5)]) rfl sc_Sharing_p_way_for.nd rfl rfl (sw_true rfl rfl rfl (by decide +kernel)) (pi_range1 rfl T.range (pa_cons (pe_ix (ix_K K) (pe_fldK (K := K) rfl (pv 0) rfl) pe_int (fun _ _ => rfl)) pa_nil)) (blkOk_by (own := [("member", 5)]) (N := ["self", "proposal", "owners", "many", "free", "member", "lacking", "helpers", "owner", "fewest", "lot", "signs"]) (sc := defScope s_Sharing_p_way_for) (by decide +kernel)) (fun _ _ _ _ _ => pg_name (i := 5) sc_Sharing_p_way_for.nd rfl (Or.inl rfl)) (fun _ _ _ _ _ => pts_one (pt_truK K (pe_meth (pv 0) cSharing h_Sharing_p_is_free G_Sharing_p_is_free (hr.mono (by decide)) b_Sharing_p_is_free .nil pass0 (pa_cons (pv 5) pa_nil)) (fun _ => rfl))) (fun _ _ _ _ _ => pv 5))
      (pss_cons (ps_set (i := 6) sc_Sharing_p_way_for.nd rfl (Or.inl rfl) (pe_op op_sub (pe_call G_need_of (hr.mono (by decide)) rfl m_need_of k_need_of b_need_of .nil pass0 (pa_cons (pe_fldK (K := K) rfl (pv 0) rfl) pa_nil)) (pv 3)))
      (pss_cons (ps_set (i := 7) sc_Sharing_p_way_for.nd rfl (Or.inr rfl) (pe_lst pa_nil))
      (pss_cons (ps_if (PW.pt (pw_or (pt_cmpR (op_eqK K hr.units) (pv 1) pe_int (nomark _)) (pw_or1 (pt_not (pt_truK K (pe_fldK (K := K) rfl (pv 0) rfl) (fun _ => rfl)))))) (pss_one (ps_set (i := 7) sc_Sharing_p_way_for.nd rfl (Or.inr rfl) (pe_lc (own := [("owner", 8)]) rfl sc_Sharing_p_way_for.nd (pi_range1 rfl T.range (pa_cons (pe_ix (ix_K K) (pe_fldK (K := K) rfl (pv 0) rfl) pe_int (fun _ _ => rfl)) pa_nil)) (blkOk_by (own := [("owner", 8)]) (N := ["self", "proposal", "owners", "many", "free", "member", "lacking", "helpers", "owner", "fewest", "lot", "signs"]) (sc := defScope s_Sharing_p_way_for) (by decide +kernel)) (fun _ _ _ _ _ => pg_name (i := 8) sc_Sharing_p_way_for.nd rfl (Or.inl rfl)) (fun _ _ _ _ _ => pts_one (pt_truK K (pe_meth (pv 0) cSharing h_Sharing_p_is_idle G_Sharing_p_is_idle (hr.mono (by decide)) b_Sharing_p_is_idle .nil pass0 (pa_cons (pv 8) pa_nil)) (fun _ => rfl))) (fun _ _ _ _ _ => pv 8)))) pss_nil)
      (pss_cons (ps_if (PW.pt (pw_or (pt_cmpR (op_ltK K hr.units0) (pe_callB (call_lenK K) (by rfl) T.len (by decide +kernel) (pa_cons (pv 4) pa_nil)) (pv 6) (nomark _)) (pw_or1 (pt_not (pt_truK K (pe_call G_has_lot (hr.mono (by decide)) rfl m_has_lot k_has_lot b_has_lot .nil pass0 (pa_cons (pe_fldK (K := K) rfl (pv 0) rfl) (pa_cons (pe_op (op_addK K) (pe_callTy (call_listK K) (by rfl) T.list (by decide +kernel) (pa_cons (pv 2) pa_nil)) (pv 7)) pa_nil))) (fun _ => rfl)))))) (pss_one (ps_ret (pe_non))) pss_nil)
      (pss_cons (ps_set (i := 9) sc_Sharing_p_way_for.nd rfl (Or.inl rfl) (pe_minLen K rfl (pe_lc (own := [("lot", 10)]) rfl sc_Sharing_p_way_for.nd (pi_seqK K (pe_ix (ix_K K) (pe_fldK (K := K) rfl (pv 0) rfl) pe_int (fun _ _ => rfl))) (blkOk_by (own := [("lot", 10)]) (N := ["self", "proposal", "owners", "many", "free", "member", "lacking", "helpers", "owner", "fewest", "lot", "signs"]) (sc := defScope s_Sharing_p_way_for) (by decide +kernel)) (fun _ _ _ _ _ => pg_name (i := 10) sc_Sharing_p_way_for.nd rfl (Or.inl rfl)) (fun _ _ _ _ _ => pts_one (pt_truK K (pe_call G_has_all (hr.mono (by decide)) rfl m_has_all k_has_all b_has_all .nil pass0 (pa_cons (pe_op (op_addK K) (pe_callTy (call_listK K) (by rfl) T.list (by decide +kernel) (pa_cons (pv 2) pa_nil)) (pv 7)) (pa_cons (pv 10) pa_nil))) (fun _ => rfl))) (fun _ _ _ _ _ => pe_lc (own := [("owner", 8)]) rfl sc_Sharing_p_way_for.nd (pi_seqK K (pv 10)) (blkOk_by (own := [("owner", 8)]) (N := ["self", "proposal", "owners", "many", "free", "member", "lacking", "helpers", "owner", "fewest", "lot", "signs"]) (sc := { kind := PySem.ScopeKind.function, names := [ (PySem.Str.ofString ".0", PySem.NameKind.local), (PySem.Str.ofString "lot", PySem.NameKind.local), (PySem.Str.ofString "has_all", PySem.NameKind.globalImplicit), (PySem.Str.ofString "list", PySem.NameKind.globalImplicit), (PySem.Str.ofString "helpers", PySem.NameKind.cell), (PySem.Str.ofString "owners", PySem.NameKind.cell)], isGenerator := false, isCoroutine := false, more := [] : PySem.Scope }) (by decide +kernel)) (fun _ _ _ _ _ => pg_name (i := 8) sc_Sharing_p_way_for.nd rfl (Or.inl rfl)) (fun _ _ _ _ _ => pts_one (pt_cmpR (op_ninK K) (pv 8) (pv 2) rfl)) (fun _ _ _ _ _ => pv 8))) (by rfl) T.min (by rfl) T.len))
      (pss_cons (ps_setLc (i := 11) (own := [("owner", 8)]) rfl sc_Sharing_p_way_for.nd rfl rfl (sw_true rfl rfl rfl (by decide +kernel)) (pi_seqK K (pv 9)) (blkOk_by (own := [("owner", 8)]) (N := ["self", "proposal", "owners", "many", "free", "member", "lacking", "helpers", "owner", "fewest", "lot", "signs"]) (sc := defScope s_Sharing_p_way_for) (by decide +kernel)) (fun _ _ _ _ _ => pg_name (i := 8) sc_Sharing_p_way_for.nd rfl (Or.inl rfl)) (fun _ _ _ _ _ => pts_nil) (fun _ _ _ _ _ => pe_tup (pa_cons pe_str (pa_cons (pv 8) (pa_cons (pv 1) pa_nil)))))
      (pss_one (ps_ret (pe_op (op_addK K) (pv 11) (pe_lc (own := [("member", 5)]) rfl sc_Sharing_p_way_for.nd (pi_seqK K (pe_slice (sl_lK K) (pv 4) po_none (po_some (pv 6)))) (blkOk_by (own := [("member", 5)]) (N := ["self", "proposal", "owners", "many", "free", "member", "lacking", "helpers", "owner", "fewest", "lot", "signs"]) (sc := defScope s_Sharing_p_way_for) (by decide +kernel)) (fun _ _ _ _ _ => pg_name (i := 5) sc_Sharing_p_way_for.nd rfl (Or.inl rfl)) (fun _ _ _ _ _ => pts_nil) (fun _ _ _ _ _ => pe_tup (pa_cons pe_str (pa_cons (pv 5) (pa_cons (pv 1) pa_nil)))))))))))))), ?_⟩
  have m13 := Ob.m13
  have hm := Ob.m
  have m6 := Cc.c.m6
  have bankM : ∀ {σ : L2.St} {N' : NP} {H' : Hp}, σ[0]? = some (some (.ref p)) → ShN C N' H' p S → DE N' (tOp (rIx K) (tFld K (tVar 0) "_bank") (tC (.int 1))) σ H' (.int (S.b.members : Int)) := fun h0 s => de_op (de_bank SC h0 s) de_int (r2_ix (K := K) (i := 1) (z := .int (S.b.members : Int)) rfl)
  refine dq_set (d := lI (Ch.rng S.b.members)) ((de_lc (xs := Ch.rng S.b.members) (enc := PyData.int) (fun _ => true) (fun o => .int o) (di_rngN (da_cons (bankM rfl sh) da_nil) (by omega)) (by rw [Ch.rng_len]; omega)
    fun a ha x' N' H' u rx => ⟨dt_truB (de_methM (R := R_free K) rfl (sh.up u) noF (da_cons (de_var rfl rx) da_nil) ⟨a, rfl, hv, kt, rfl⟩), fun _ => de_var rfl rx⟩).is (by rw [List.filter_eq_self.mpr (fun _ _ => rfl)])) fr fun v4 H1 s1 r4 => ?_
  have sh1 := sh.same s1
  refine dq_set (d := .int ((S.b.members : Int) - (S.b.lies : Int) - 0)) (de_op (de_call (da_cons (de_bank (i := 0) SC rfl sh1) da_nil) ⟨S.b, rfl, Ob, rfl⟩) (de_var rfl (r3.same s1)) r2_i) (fr.same s1) fun v6 H2 s2 r6 => ?_
  have s12 := s1.trans s2
  refine dq_set (d := .list []) (de_lst da_nil) (fr.same s12) fun v7 H3 s3 r7 => ?_
  have s13 := s12.trans s3
  refine dq_ifN (N := N) (b := true) ((dt_or (a := true) (b := true) ((dt_test (de_op (de_var rfl (r1.same s13)) de_int r2_eqI)).is rfl) fun h => nomatch h).is rfl) (fr.same s13) (fun _ H4 s4 => ?_) fun h => nomatch h
  have s14 := s13.trans s4
  have sh4 := sh.same s14
  refine (de_lc (xs := Ch.rng S.many) (enc := PyData.int) (fun o => !decide (o ∈ S.fs)) (fun o => .int o) (di_rngN (da_cons (de_op (de_charter (i := 0) SC rfl sh4) de_int (r2_ix (K := K) (i := 0) (z := .int (S.many : Int)) rfl)) da_nil) (by omega)) (by rw [Ch.rng_len]; omega)
    fun a ha x' N' H' u rx => ⟨dt_truB (de_methM (R := R_idle) rfl (sh4.up u) noF (da_cons (de_var rfl rx) da_nil) ⟨a, rfl, hs, rfl⟩), fun _ => de_var rfl rx⟩).run (fr.same s14) fun v8 H5 s5 r8 => ?_
  have s15 := s14.trans s5
  have sh5 := sh.same s15
  have f5 := fr.same s15
  have rl : (restOf S.many S.fs).length ≤ 6 := Nat.le_trans (asc_len (mem_sets.mp (rest_sets S.fs)).1 (mem_sets.mp (rest_sets S.fs)).2) m6
  have r5' : Rp N H5 v8 (lI (restOf S.many S.fs)) := r8
  have allR : ∀ {σ : L2.St} {N' : NP} {H' : Hp}, σ[2]? = some (some v2) → σ[7]? = some (some v8) → Rp N' H' v2 (lI [o]) → Rp N' H' v8 (lI (restOf S.many S.fs)) →
      DE N' (tOp (rAddU K) (tCB (rListK K) (tCons (tVar 2) tNil)) (tVar 7)) σ H' (lI (o :: restOf S.many S.fs)) := fun h2 h7 a b =>
    (de_op (de_cb (da_cons (de_var h2 a) da_nil) (rk_list rfl)) (de_var h7 b) (r2_addL (by simp; omega))).is rfl
  refine dq_ifN (N := N) (b := !canW S o) ((dt_or (a := false) (b := !canW S o) ((dt_test (de_op (de_cb (da_cons (de_var rfl (r4.same ((((s2.trans s3).trans s4).trans s5)))) da_nil) rk_lenL) (de_var rfl (r6.same ((s3.trans s4).trans s5))) (r2_ltI))).is (by rw [Ch.rng_len]; simp; omega))
      fun _ => dt_not (dt_truB (de_call (da_cons (de_charter (i := 0) SC rfl sh5) (da_cons (allR rfl rfl (r2.same s15) r5') da_nil)) ⟨_, _, _, _, o :: restOf S.many S.fs, rfl, rfl, Cc, rfl⟩))).is (by simp)) f5 (fun hb H6 s6 => ?_) fun hb H6 s6 => ?_
  · exact dq_ret de_non (f5.same s6) fun v' H7 s7 r => k .none v' H7 ⟨o, rfl, .inl ⟨by simpa using hb, rfl⟩⟩ ((s15.trans s6).trans s7) r
  have hb' : canW S o = true := by simpa using hb
  have s16 := s15.trans s6
  have sh6 := sh.same s16
  refine dq_minLen (K := K) (dss := (S.lots.filter fun l => l.all fun x => decide (x ∈ o :: restOf S.many S.fs)).map fun l => (l.filter fun x => !decide (x ∈ [o])).map PyData.int)
    ((de_lc (xs := S.lots) (enc := tI) (fun l => l.all fun x => decide (x ∈ o :: restOf S.many S.fs)) (fun l => lI (l.filter fun x => !decide (x ∈ [o]))) (di_seq (de_op (de_charter (i := 0) SC rfl sh6) de_int (r2_ix (K := K) (i := 2) (z := tT S.lots) rfl))) (by have := Cc.c.llen; omega)
      fun l hl x' N' H' u rx => ⟨dt_truB (de_call (da_cons (allR rfl rfl ((r2.same s16).up u) ((r5'.same s6).up u)) (da_cons (de_var rfl rx) da_nil)) ⟨_, o :: restOf S.many S.fs, l, rfl, rfl, by have := Nat.le_trans (asc_len (Cc.c.one l hl).2.1 (Cc.c.one l hl).2.2) m6; omega, rfl⟩),
        fun _ => de_lc (xs := l) (enc := PyData.int) (fun x => !decide (x ∈ [o])) (fun x => .int x) (di_seq (de_var rfl rx)) (by have := Nat.le_trans (asc_len (Cc.c.one l hl).2.1 (Cc.c.one l hl).2.2) m6; omega)
          fun b hb x'' N'' H'' u' ry => ⟨dt_test (de_op (de_var rfl ry) (de_var rfl (((r2.same s16).up u).up u')) (r2_nin (ns := [o]) rfl)), fun _ => de_var rfl ry⟩⟩).is (by rw [List.map_map]; rfl)) (fr.same s16) ?_ ?_
  · obtain ⟨l, hl, h⟩ := Ch.has_iff.mp hb'
    intro e
    have : l ∈ S.lots.filter fun l => l.all fun x => decide (x ∈ o :: restOf S.many S.fs) := List.mem_filter.mpr ⟨hl, List.all_eq_true.mpr h⟩
    rw [List.map_eq_nil_iff.mp e] at this
    cases this
  intro es hes v9 H7 s7 r9
  obtain ⟨l, hl, rfl⟩ := List.mem_map.mp hes
  have hl := (List.mem_filter.mp hl).1
  have ll : (l.filter fun x => !decide (x ∈ [o])).length ≤ 6 := Nat.le_trans (List.length_filter_le _ _) (Nat.le_trans (asc_len (Cc.c.one l hl).2.1 (Cc.c.one l hl).2.2) m6)
  generalize (l.filter fun x => !decide (x ∈ [o])) = ws at *
  have s17 := s16.trans s7
  refine dq_set (d := .list (ws.map fun x => .tuple [.str "sign", .int x, .int 0])) (de_lc0 (xs := ws) (enc := PyData.int) (fun x => .tuple [.str "sign", .int x, .int 0]) (di_seq (de_var rfl r9)) (by omega)
    fun b hb x' N' H' u rx => de_tup (da_cons de_str (da_cons (de_var rfl rx) (da_cons (de_var rfl ((r1.same s17).up u)) da_nil)))) (fr.same s17) fun v10 H8 s8 r10 => ?_
  have s18 := s17.trans s8
  obtain ⟨ms, ems, lms⟩ := cutD_ints (Ch.rng S.b.members) none (some ((S.b.members : Int) - (S.b.lies : Int) - 0))
  rw [Ch.rng_len] at lms
  refine dq_ret (de_op (de_var rfl r10) (de_lc0 (xs := ms) (enc := PyData.int) (fun x => .tuple [.str "vote", .int x, .int 0]) (di_seq ((de_slL (de_var rfl (r4.same ((((((s2.trans s3).trans s4).trans s5).trans s6).trans s7).trans s8))) do_none (do_some (de_var rfl (r6.same (((((s3.trans s4).trans s5).trans s6).trans s7).trans s8))))).is (congrArg PyData.list ems))) (by omega)
    fun b hb x' N' H' u rx => de_tup (da_cons de_str (da_cons (de_var rfl rx) (da_cons (de_var rfl ((r1.same s18).up u)) da_nil)))) (r2_addL (by rw [List.length_map, List.length_map]; omega))) (fr.same s18) fun v' H9 s9 r => k _ v' H9 ⟨o, rfl, .inr ⟨hb', _, rfl, ?_⟩⟩ (s18.trans s9) r
  rw [List.length_append, List.length_map, List.length_map]; omega
end
end Pu

namespace Pu
open PySem PySem.Spec PyProof.Rows L2
theorem r2_notN {x : PyData} : R2D (fun x y H Q => y = V.non ∧ Q (V.bl !decide (x = V.non)) H) x .none (.bool (!nonD x)) := fun N H v u Q f r1 r2 q => by
  cases r2
  have e : (V.bl (!decide (v = .non))) = .bl (!nonD x) := by cases r1 <;> rfl
  refine ⟨rfl, ?_⟩
  rw [e]; exact q _ H (Same.refl H) (.bl _)
def lockB (S : ShD) : Bool := !canB S.props S.lots (restOf S.many S.fs)
def D_on (K : PySem.W.Frag) : ShD → List PyData → Prop := fun S ds => ds = [] ∧ Ch2 S.many S.props S.lots ∧ OkB S.b ∧ S.seals = [] ∧ S.nv = 0 ∧ KT K S.lv ∧ S.made = []
def R_on : ShD → List PyData → PyData → Prop := fun S _ d => (lockB S = true ∧ d = .none) ∨ (lockB S = false ∧ ∃ es, d = .list es)
def R_locked (K : PySem.W.Frag) : ShD → List PyData → PyData → Prop := fun S ds d => D_on K S ds ∧ d = .bool (lockB S)
theorem canW_rest {S : ShD} {o : Int} (Cc : Ch2 S.many S.props S.lots) (h : o ∈ S.props) (n : o ∉ S.fs) : canW S o = Ch.has S.lots fun x => decide (x ∈ restOf S.many S.fs) := by
  have hr : o ∈ restOf S.many S.fs := mem_rest.mpr ⟨Cc.c.pin o h, n⟩
  unfold canW
  congr 1
  funext x
  by_cases e : x = o
  · subst e; simp [hr]
  · simp [e]
theorem lock_no {S : ShD} {o : Int} (Cc : Ch2 S.many S.props S.lots) (h : o ∈ S.props) (n : o ∉ S.fs) (c : canW S o = true) : lockB S = false := by
  have hr : o ∈ restOf S.many S.fs := mem_rest.mpr ⟨Cc.c.pin o h, n⟩
  unfold lockB canB
  rw [← canW_rest Cc h n, c, List.any_eq_true.mpr ⟨o, h, decide_eq_true hr⟩]; rfl
theorem lock_yes {S : ShD} (Cc : Ch2 S.many S.props S.lots) (h : ∀ o ∈ S.props, o ∉ S.fs → canW S o = false) : lockB S = true := by
  unfold lockB canB
  rw [Bool.not_eq_true', Bool.and_eq_false_iff]
  by_cases z : ∃ o ∈ S.props, o ∉ S.fs
  · obtain ⟨o, ho, n⟩ := z
    exact .inr ((canW_rest Cc ho n).symm.trans (h o ho n))
  · refine .inl (List.any_eq_false.mpr fun o ho => ?_)
    rw [decide_eq_true_eq, mem_rest]
    exact fun ⟨_, n⟩ => z ⟨o, ho, n⟩
section
variable {P : Program} {w : World} {K : PySem.W.Frag} {mg : Str → Option Value} {base : Heap} {C : Addr}
abbrev s_Sharing_way_on : Stmt := inClass (top 39) 8
theorem sc_Sharing_way_on : FnScope ["self", "proposal", "owners", "way", "owner"] ["self"] (defScope s_Sharing_way_on) := ⟨rfl, rfl, rfl, by decide +kernel, rfl, by decide +kernel, by decide +kernel⟩
theorem ok_m_way_on {f : Addr} {fd : FuncData} (F : Fun K "way_on" "Sharing.way_on" s_Sharing_way_on f fd) (T : Bi mg) (SC : ShC K C) (cSharing : Cls K C) (D_Sharing_booked : DefM P w K mg base C "booked" 7 ["self"] (spM C R_book))
    (D_Sharing_p_way_for : DefM P w K mg base C "_way_for" 7 ["self", "proposal", "owners", "many"] (spMA C (D_way K) R_way)) (D_Sharing_p_can_propose : DefM P w K mg base C "_can_propose" 4 ["self", "owner"] (spM C R_canp)) :
    FnOk P w K mg base CX0 8 f fd ["self"] (spMA C (D_on K) R_on) := by
  obtain ⟨f_Sharing_p_can_propose, fd_Sharing_p_can_propose, G_Sharing_p_can_propose, b_Sharing_p_can_propose, h_Sharing_p_can_propose⟩ := D_Sharing_p_can_propose.ex
  obtain ⟨f_Sharing_p_way_for, fd_Sharing_p_way_for, G_Sharing_p_way_for, b_Sharing_p_way_for, h_Sharing_p_way_for⟩ := D_Sharing_p_way_for.ex
  obtain ⟨f_Sharing_booked, fd_Sharing_booked, G_Sharing_booked, b_Sharing_booked, h_Sharing_booked⟩ := D_Sharing_booked.ex
  refine F.ok sc_Sharing_way_on (len_spMA fun S ds ⟨e, _⟩ => by rw [e]; rfl) (fun cdv A outer s H vs Q E hr h => ?_)
  obtain ⟨N, p, S, us, ds, rfl, fr, sh, rs, ⟨rfl, Cc, Ob, hs, hv, kt, hmd⟩, k⟩ := h
  cases rs
  have m6 := Cc.c.m6
  have pl6 : S.props.length ≤ 6 := Nat.le_trans (asc_len Cc.c.pasc Cc.c.pin) m6
  refine ⟨_, pss_cons (ps_if (pt_truK K (pe_meth0 (pv 0) cSharing h_Sharing_booked G_Sharing_booked (hr.mono (by decide)) b_Sharing_booked .nil pass0) (fun _ => rfl)) (pss_one (ps_ret (pe_lst pa_nil))) pss_nil)
      (pss_cons (ps_for PassesOwn.never rfl (pi_enumLK K (by rfl) T.enumerate (pa_cons (pe_fldK (K := K) rfl (pv 0) rfl) pa_nil)) (pg_tupK K (n := 2) rfl (pgs_cons (pg_name (i := 1) sc_Sharing_way_on.nd rfl (Or.inl rfl)) (pgs_cons (pg_name (i := 2) sc_Sharing_way_on.nd rfl (Or.inl rfl)) pgs_nil))) (pss_cons (ps_set (i := 3) sc_Sharing_way_on.nd rfl (Or.inl rfl) (pe_meth (pv 0) cSharing h_Sharing_p_way_for G_Sharing_p_way_for (hr.mono (by decide)) b_Sharing_p_way_for .nil pass0 (pa_cons (pv 1) (pa_cons (pv 2) (pa_cons (pe_callB (call_lenK K) (by rfl) T.len (by decide +kernel) (pa_cons (pe_ix (ix_K K) (pe_fldK (K := K) rfl (pv 0) rfl) (pv 1) (fun _ _ => rfl)) pa_nil)) pa_nil)))))
      (pss_one (ps_if (pt_cmpR op_notN (pv 3) pe_non (nomark _)) (pss_one (ps_ret (pv 3))) pss_nil))))
      (pss_cons (ps_for PassesOwn.never rfl (pi_seqK K (pe_ix (ix_K K) (pe_fldK (K := K) rfl (pv 0) rfl) pe_int (fun _ _ => rfl))) (pg_name (i := 4) sc_Sharing_way_on.nd rfl (Or.inl rfl)) (pss_one (ps_if (PW.pt (pw_and (pt_cmpR (op_ninK K) (pv 4) (pe_fldK (K := K) rfl (pv 0) rfl) rfl) (pw_and1 (pt_truK K (pe_meth (pv 0) cSharing h_Sharing_p_can_propose G_Sharing_p_can_propose (hr.mono (by decide)) b_Sharing_p_can_propose .nil pass0 (pa_cons (pv 4) pa_nil)) (fun _ => rfl))))) (pss_cons (ps_set (i := 3) sc_Sharing_way_on.nd rfl (Or.inl rfl) (pe_meth (pv 0) cSharing h_Sharing_p_way_for G_Sharing_p_way_for (hr.mono (by decide)) b_Sharing_p_way_for .nil pass0 (pa_cons (pe_callB (call_lenK K) (by rfl) T.len (by decide +kernel) (pa_cons (pe_fldK (K := K) rfl (pv 0) rfl) pa_nil)) (pa_cons (pe_lst (pa_cons (pv 4) pa_nil)) (pa_cons pe_int pa_nil)))))
      (pss_one (ps_if (pt_cmpR op_notN (pv 3) pe_non (nomark _)) (pss_one (ps_ret (pe_op (op_addK K) (pe_lst (pa_cons (pe_tup (pa_cons pe_str (pa_cons (pv 4) pa_nil))) pa_nil)) (pv 3)))) pss_nil))) pss_nil)))
      (pss_one (ps_ret (pe_non))))), ?_⟩
  refine dq_iff ((dt_truS (de_methM (R := R_book) rfl sh noF da_nil ⟨rfl, hv, rfl⟩) rfl).is rfl) fr fun H1 s1 => ?_
  refine df_forS (N := N) (xs := ([] : List Int)) (enc := PyData.int) (di_enumL (ds := []) (da_cons (de_seals0 SC rfl (sh.same s1) hs) da_nil)) (fr.same s1) fun H2 s2 => ?_
  have s12 := s1.trans s2
  refine ⟨fun i σ' H' => Up N H2 N H' ∧ Fr N H' ∧ σ' = [some (.ref p), none, none, none, none] ∧ Same H2 H', ⟨Up.refl _ _, fr.same s12, rfl, Same.refl _⟩, fun i σ' H' h => ⟨h.1, h.2.1⟩, fun i hi => absurd hi (by simp), ?_⟩
  rintro σ' H3 ⟨u3, f3, rfl, s3⟩
  have s13 := s12.trans s3
  have sh3 := sh.same s13
  refine df_forS (N := N) (xs := S.props) (enc := PyData.int) (di_seq (de_op (de_charter (i := 0) SC rfl sh3) de_int (r2_ix (K := K) (i := 1) (z := tI S.props) rfl))) f3 fun H4 s4 => ?_
  have s14 := s13.trans s4
  refine ⟨fun i σ' H' => (∃ o3 o4, σ' = [some (.ref p), none, none, o3, o4]) ∧ Same H4 H' ∧ ∀ o ∈ S.props.take i, o ∉ S.fs → canW S o = false, ⟨⟨_, _, rfl⟩, Same.refl _, fun o h => by simp at h⟩, fun i σ' H' h => ⟨Up.of h.2.1, fr.same (s14.trans h.2.1)⟩, ?_, ?_⟩
  · rintro i hi x σ' H5 H6 ⟨⟨o3, o4, rfl⟩, s5, hno⟩ s6 rx
    have s15 := (s14.trans s5).trans s6
    have f6 := fr.same s15
    have sh6 := sh.same s15
    have hmem := List.getElem_mem hi
    have etk := take_last S.props hi
    generalize S.props[i] = o at *
    have go : ∀ {H7}, Same H6 H7 → (o ∉ S.fs → canW S o = false) → Same H4 H7 ∧ ∀ a ∈ S.props.take (i + 1), a ∉ S.fs → canW S a = false := fun s7 h => ⟨(s5.trans s6).trans s7, fun a ha => by
      rw [etk] at ha
      rcases List.mem_append.mp ha with ha | ha
      · exact hno a ha
      · rw [List.mem_singleton.mp ha]; exact h⟩
    refine dq_if (N := N) (b := !decide (o ∈ S.fs) && true) (dt_and (dt_test (de_op (de_var rfl rx) (de_false (i := 0) SC rfl sh6) (r2_nin rfl))) fun hb => dt_truB (de_methM (R := R_canp) rfl sh6 noF (da_cons (de_var rfl rx) da_nil) ⟨o, rfl, Cc, hmem, by rw [hmd]; decide, .inr hs, rfl⟩)) f6 (fun hb H7 s7 => ?_) fun hb H7 s7 => ?_
    · have hb' : o ∉ S.fs := by simpa using hb
      have sh7 := sh6.same s7
      refine dq_setA (D := D_way K) (R := R_way) rfl sh7 (f6.same s7) noF (da_cons (d := .int 0) ((de_cb (da_cons (de_made (i := 0) SC rfl sh7) da_nil) rk_lenL).is (by rw [hmd]; rfl)) (da_cons (d := lI [o]) (de_lst (da_cons (de_var rfl (rx.same s7)) da_nil)) (da_cons de_int da_nil))) ⟨o, rfl, Cc, Ob, hs, hv, kt⟩ fun d v H8 hd s8 rd => ?_
      obtain ⟨o', e, hd⟩ := hd
      have e' : o = o' := by
        have h1 := (List.cons.inj e).2
        have h2 := (List.cons.inj h1).1
        have h3 := PyData.list.inj h2
        exact PyData.int.inj (List.cons.inj h3).1
      subst e'
      have f8 := (f6.same s7).same s8
      refine dq_if (N := N) (b := !nonD d) (dt_test (de_op (de_var rfl rd) de_non r2_notN)) f8 (fun hn H9 s9 => ?_) fun hn H9 s9 => ?_
      · rcases hd with ⟨_, rfl⟩ | ⟨hc, es, rfl, hes⟩
        · cases hn
        · refine dq_ret (de_op (de_lst (da_cons (de_tup (da_cons de_str (da_cons (de_var rfl (((rx.same s7).same s8).same s9)) da_nil))) da_nil)) (de_var rfl (rd.same s9)) (r2_addL (by simp; omega))) (f8.same s9) fun v' H10 s10 r => k _ v' H10 (.inr ⟨lock_no Cc hmem hb' hc, _, rfl⟩) ((((s15.trans s7).trans s8).trans s9).trans s10) r
      · rcases hd with ⟨hc, rfl⟩ | ⟨hc, es, rfl, hes⟩
        · exact ⟨⟨_, _, rfl⟩, go ((s7.trans s8).trans s9) fun _ => hc⟩
        · cases hn
    · have hb' : o ∈ S.fs := by simpa using hb
      exact ⟨⟨_, _, rfl⟩, go s7 fun n => absurd hb' n⟩
  · rintro σ' H5 ⟨⟨o3, o4, rfl⟩, s5, hno⟩
    rw [List.take_length] at hno
    have s15 := s14.trans s5
    exact dq_ret de_non (fr.same s15) fun v' H6 s6 r => k _ v' H6 (.inl ⟨lock_yes Cc hno, rfl⟩) (s15.trans s6) r
abbrev s_Sharing_locked : Stmt := inClass (top 39) 9
theorem sc_Sharing_locked : FnScope ["self"] ["self"] (defScope s_Sharing_locked) := ⟨rfl, rfl, rfl, by decide +kernel, rfl, by decide +kernel, by decide +kernel⟩
theorem ok_m_locked {f : Addr} {fd : FuncData} (F : Fun K "locked" "Sharing.locked" s_Sharing_locked f fd) (SC : ShC K C) (cSharing : Cls K C) (D_Sharing_way_on : DefM P w K mg base C "way_on" 8 ["self"] (spMA C (D_on K) R_on)) :
    FnOk P w K mg base CX0 9 f fd ["self"] (spM C (R_locked K)) := by
  obtain ⟨f_Sharing_way_on, fd_Sharing_way_on, G_Sharing_way_on, b_Sharing_way_on, h_Sharing_way_on⟩ := D_Sharing_way_on.ex
  refine F.ok sc_Sharing_locked (len_spM fun S ds d ⟨⟨e, _⟩, _⟩ => by rw [e]; rfl) (fun cdv A outer s H vs Q E hr h => ?_)
  obtain ⟨N, p, S, us, ds, d, rfl, fr, sh, rs, ⟨hd, rfl⟩, k⟩ := h
  have e := hd.1
  subst e
  cases rs
  refine ⟨_, pss_one (ps_ret (pe_cmp (pc_isN (pe_meth0 (pv 0) cSharing h_Sharing_way_on G_Sharing_way_on (hr.mono (by decide)) b_Sharing_way_on .nil pass0)))), ?_⟩
  refine run_methA (D := D_on K) (R := R_on) rfl sh fr noF da_nil hd fun d v H1 hr s1 r => ?_
  rcases hr with ⟨hl, rfl⟩ | ⟨hl, es, rfl⟩
  · cases r
    rw [hl] at k
    exact k _ H1 s1 (.bl _)
  · rw [hl] at k
    cases r
    exact k _ H1 s1 (.bl _)
end
end Pu

namespace Pu
open PySem PySem.Spec PyProof.Rows L2
/-! ### a new object -/
/-- what comes of a new object made in H: it stands in N, all its own addresses are new -/
structure NewO (C : Addr) (N : NP) (H : Hp) (p : Addr) (F : List Addr) (S : ShD) (H' : Hp) : Prop where
  same : Same H H'
  fr : Fr N H'
  new : ∀ a ∈ F, H a = none
  o : ShO C N F H' p S
section
variable {K : PySem.W.Frag} {C : Addr} {N : NP} {H : Hp} {b : Bk} {many : Nat} {props : List Int} {lots : List (List Int)} {fs : List Int} {lv bv cv fv : V} {Q : VK} {E : XK}
theorem init_run (fr : Fr N H) (rb : Rp N H bv b.d) (rc : Rp N H cv (chD many props lots)) (rf : Rp N H fv (tI fs)) (Ob : OkB b) (Cc : Ch2 many props lots) (fasc : fs.Pairwise (· < ·)) (fin : ∀ o ∈ fs, 0 ≤ o ∧ o < many) (kt : KT K lv)
    (k : ∀ p F H', NewO C N H p F (newS b many props lots fs lv) H' → Q (.ref p) H') : ∀ x dx, H x = none → H dx = none → dx ≠ x → spInit K C (.ref x :: ([bv, cv, fv] ++ [lv, .bl false])) (upd (upd H dx (.own x)) x (.ins C dx [])) (fun v H2 => v = .non ∧ Q (.ref x) H2) E := by
  intro x dx hx hdx ne
  have s1 : Same H (upd (upd H dx (.own x)) x (.ins C dx [])) := fun a u e => by rw [upd_ne (ne_of_none e hx), upd_ne (ne_of_none e hdx)]; exact e
  have u1 : Up N H (fun a => N a ∧ a ≠ x) (upd (upd H dx (.own x)) x (.ins C dx [])) := fun a u n e => ⟨⟨n, ne_of_none e hx⟩, s1 a u e⟩
  refine ⟨N, x, dx, bv, cv, fv, lv, .bl false, b, many, props, lots, fs, rfl, fr x hx, fr.same s1, upd_same, rb.up u1, Ob, rc.up u1, Cc, rf.up u1, fasc, fin, kt, rfl, fun F H' hF kq f' so => ⟨rfl, k x F H' ⟨fun a u e => kq.kp _ _ (s1 _ _ e) (ne_of_none e hx), f', fun a ha => ?_, so⟩⟩⟩
  by_cases e : a = x
  · rw [e]; exact hx
  · exact s1.free (hF a ha e)
end
def gSh {α : Type} (us its ws : List α) : List α := us ++ ws ++ its.drop 1
/-- the class, as its calls ask for it -/
structure MkS (P : Program) (w : World) (K : PySem.W.Frag) (mg : Str → Option Value) (base : Heap) (C : Addr) (lv : V) : Prop where
  ex : ∃ (f : Addr) (fd : FuncData), FnOk P w K mg base CX0 7 f fd ["self", "bank", "charter", "false", "liars", "agreed"] (spInit K C) ∧ Mk K C f ∧ (∃ ds, Vals [lv, V.bl false] ds ∧ Binds K fd ["self", "bank", "charter", "false", "liars", "agreed"] ds) ∧
    (∃ (its : List Value) (dvs : List V), dvs.drop 1 = [lv, V.bl false] ∧ KBn K fd ["self", "bank", "charter", "false", "liars", "agreed"] 1 ["bank", "charter", "false"] (fun us ws => gSh us its ws) (fun vs zs => gSh vs dvs zs)) ∧ mg "Sharing" = some (.ref C)
  kt : KT K lv
section
variable {P : Program} {w : World} {K : PySem.W.Frag} {mg : Str → Option Value} {base : Heap} {C : Addr} {lv : V} {N : NP} {σ : L2.St} {H : Hp} {b : Bk} {many : Nat} {props : List Int} {lots : List (List Int)} {fs : List Int} {Q : VK} {E : XK} {ta tk : TA}
theorem mk_run (h : DA N ta σ H [b.d, chD many props lots, tI fs]) (fr : Fr N H) (Ob : OkB b) (Cc : Ch2 many props lots) (fasc : fs.Pairwise (· < ·)) (fin : ∀ o ∈ fs, 0 ≤ o ∧ o < many) (kt : KT K lv)
    (k : ∀ p F H', NewO C N H p F (newS b many props lots fs lv) H' → Q (.ref p) H') : tMake C (spInit K C) [lv, .bl false] E ta σ H Q :=
  h.run fr fun vs H1 s1 r => by
    obtain ⟨bv, cv, fv, rfl, rb, rc, rf⟩ := rps3 r
    exact init_run (fr.same s1) rb rc rf Ob Cc fasc fin kt fun p F H' n => k p F H' ⟨s1.trans n.same, n.fr, fun a ha => s1.free (n.new a ha), n.o⟩
theorem mk_runK {dvs : List V} (hd : dvs.drop 1 = [lv, V.bl false]) (h : DA N tk σ H [b.d, chD many props lots, tI fs]) (fr : Fr N H) (Ob : OkB b) (Cc : Ch2 many props lots) (fasc : fs.Pairwise (· < ·)) (fin : ∀ o ∈ fs, 0 ≤ o ∧ o < many) (kt : KT K lv)
    (k : ∀ p F H', NewO C N H p F (newS b many props lots fs lv) H' → Q (.ref p) H') : tMakeK C 0 3 (spInit K C) (fun vs zs => gSh vs dvs zs) E tNil tk σ H Q :=
  h.run fr fun vs H1 s1 r => by
    obtain ⟨bv, cv, fv, rfl, rb, rc, rf⟩ := rps3 r
    refine ⟨rfl, rfl, ?_⟩
    have e : ∀ x : Addr, gSh [V.ref x] dvs [bv, cv, fv] = .ref x :: ([bv, cv, fv] ++ [lv, .bl false]) := fun x => by unfold gSh; rw [hd]; rfl
    intro x dx h1 h2 h3
    show spInit K C (gSh [V.ref x] dvs [bv, cv, fv]) _ _ _
    rw [e]
    exact init_run (fr.same s1) rb rc rf Ob Cc fasc fin kt (fun p F H' n => k p F H' ⟨s1.trans n.same, n.fr, fun a ha => s1.free (n.new a ha), n.o⟩) x dx h1 h2 h3
/-- x = C(k = e, ..) -/
theorem dq_mkK {D : Ends} {rest : TS} {j : Nat} {dvs : List V} (hd : dvs.drop 1 = [lv, V.bl false]) (h : DA N tk σ H [b.d, chD many props lots, tI fs]) (fr : Fr N H) (Ob : OkB b) (Cc : Ch2 many props lots) (fasc : fs.Pairwise (· < ·)) (fin : ∀ o ∈ fs, 0 ≤ o ∧ o < many) (kt : KT K lv)
    (k : ∀ p F H', NewO C N H p F (newS b many props lots fs lv) H' → rest D (σ.set j (some (.ref p))) H') : tSeq (tAsg (tMakeK C 0 3 (spInit K C) (fun vs zs => gSh vs dvs zs) E tNil tk) (gName j)) rest D σ H := mk_runK (C := C) (E := E) (Q := fun v H1 => rest D (σ.set j (some v)) H1) hd h fr Ob Cc fasc fin kt k
/-- x = C(e, ..) -/
theorem dq_mk {D : Ends} {rest : TS} {j : Nat} (h : DA N ta σ H [b.d, chD many props lots, tI fs]) (fr : Fr N H) (Ob : OkB b) (Cc : Ch2 many props lots) (fasc : fs.Pairwise (· < ·)) (fin : ∀ o ∈ fs, 0 ≤ o ∧ o < many) (kt : KT K lv)
    (k : ∀ p F H', NewO C N H p F (newS b many props lots fs lv) H' → rest D (σ.set j (some (.ref p))) H') : tSeq (tAsg (tMake C (spInit K C) [lv, .bl false] E ta) (gName j)) rest D σ H := mk_run (C := C) (E := E) (Q := fun v H1 => rest D (σ.set j (some v)) H1) h fr Ob Cc fasc fin kt k
end
end Pu

namespace Pu
open PySem PySem.Spec PyProof.Rows L2
section
variable {K : PySem.W.Frag} {C : Addr} {N : NP} {F F' : List Addr} {H H' : Hp} {p : Addr} {S : ShD} {σ : L2.St} {i : Nat} {te : TE} {d : PyData} {sp : Sp} {E : XK} {Q : VK}
theorem ShO.frO (s : ShO C N F H p S) (f : Fr N H) : Fr (out N F) H := fun a ha => ⟨f a ha, fun h => (s.fin a h).2 ha⟩
/-- here.m(e): what is asked ahead -/
theorem run_actD {m : Str} (hσ : σ[i]? = some (some (.ref p))) (s : ShO C N F H p S) (f : Fr N H) (hm : ∀ vb vc vf vl lm ls lv, List.lookup m (shF vb vc vf vl lm ls lv) = none) (h : DE (out N F) te σ H d)
    (k : ∀ v H2, Same H H2 → Rp (out N F) H2 v d → sp [.ref p, v] H2 Q E) : tMeth C m sp [] E (tVar i) (tCons te tNil) σ H Q := by
  obtain ⟨dx, vb, vc, vf, vl, lm, ls, lv, qs, ws, hF, hp, _⟩ := s.ex
  exact ⟨_, hσ, p, dx, _, rfl, hp, hm _ _ _ _ _ _ _, h _ H (Up.refl _ _) (s.frO f) _ fun v H2 s2 r2 => k v H2 s2 r2⟩
theorem de_signed (hσ : σ[i]? = some (some (.ref p))) (s : ShN C N H p S) (Cc : Ch2 S.many S.props S.lots) (hl : S.seals.length ≤ 1) : DE N (tMeth C "signed" (spSig C) [] E (tVar i) tNil) σ H (sigD S) := fun N1 H1 u f Q q => by
  have s1 := s.up u
  obtain ⟨dx, vb, vc, vf, vl, lm, ls, lv, qs, ws, hF, hp, _⟩ := s1.ex
  exact ⟨_, hσ, p, dx, _, rfl, hp, noF (m := "signed") (by decide +kernel) (by decide +kernel) (by decide +kernel) (by decide +kernel) (by decide +kernel) (by decide +kernel) (by decide +kernel) (by decide +kernel) _ _ _ _ _ _ _, N1, p, S, rfl, f, s1, Cc, hl, fun v H' s r => q v H' s r⟩
theorem Mv.stays {H0 : Hp} (m : Mv F F' H H') (s : ∀ b o, H0 b = some o → H b = some o) (n : ∀ a ∈ F, H0 a = none) : (∀ b o, H0 b = some o → H' b = some o) ∧ ∀ a ∈ F', H0 a = none := by
  refine ⟨fun b o e => m.kp b o (s b o e) fun h => (by rw [n b h] at e; cases e), fun a ha => ?_⟩
  by_cases h : a ∈ F
  · exact n a h
  · have := m.new a ha h
    cases e : H0 a with
    | none => rfl
    | some u => rw [s a u e] at this; cases this
end
theorem lone_end {K : PySem.W.Frag} {C : Addr} {N : NP} {H : Hp} {p : Addr} {S : ShD} {σ : L2.St} {E : XK} {D : Ends} {c : Bool} (h4 : σ[4]? = some (some (.ref p))) (h3 : σ[3]? = some (some (.bl c))) (s : ShN C N H p S) (f : Fr N H) (Cc : Ch2 S.many S.props S.lots) (hl : S.seals.length ≤ 1)
    (hs : sigD S = tI (if c = true then [0] else [])) (q : ∀ v H', Same H H' → Rp N H' v (.bool true) → D.rt v H') :
    tRet (tOp (rEqD K) (tMeth C "signed" (spSig C) [] E (tVar 4) tNil) (tIf (tTruK K (tVar 3)) (tTup (tCons (tC (.int 0)) tNil)) (tTup tNil))) D σ H :=
  dq_ret ((de_op ((de_signed h4 s Cc hl).is hs) (de_if (b := c) (d := tI (if c = true then [0] else [])) (dt_truB (de_var h3 (.bl c))) (fun e => (de_tup (da_cons de_int da_nil)).is (by rw [e]; rfl)) fun e => (de_tup da_nil).is (by rw [e]; rfl)) r2_eqT).is (by simp)) f q
/-- one proposal made -/
def Sl (b : Bk) (many : Nat) (props : List Int) (lots : List (List Int)) (fs : List Int) (lv : V) (o : Int) (sl : List Int) : ShD := ⟨b, many, props, lots, fs, [o], [sl], 1, lv⟩
def R_lone : List PyData → PyData → Prop := fun ds d => ∃ (b : Bk) (many : Nat) (props : List Int) (lots : List (List Int)) (fs : List Int), ds = [b.d, chD many props lots, tI fs, .bool (canB props lots fs)] ∧ OkB b ∧ Ch2 many props lots ∧ fs.Pairwise (· < ·) ∧ (∀ o ∈ fs, 0 ≤ o ∧ o < many) ∧ d = .bool true
theorem take_notin {l : List Int} (h : l.Pairwise (· < ·)) {i : Nat} (hi : i < l.length) : l[i] ∉ l.take i := fun hm => by
  obtain ⟨j, hj, e⟩ := List.getElem_of_mem hm
  rw [List.length_take] at hj
  rw [List.getElem_take] at e
  have := List.pairwise_iff_getElem.mp h j i (by omega) hi (by omega)
  omega
section
variable {P : Program} {w : World} {K : PySem.W.Frag} {mg : Str → Option Value} {base : Heap} {C : Addr} {lv : V}
abbrev s_L_k84_lone : Stmt := top 56
theorem sc_L_k84_lone : FnScope ["bank_here", "charter", "owners", "can", "here", "heads", "owner"] ["bank_here", "charter", "owners", "can"] (defScope s_L_k84_lone) := ⟨rfl, rfl, rfl, by decide +kernel, rfl, by decide +kernel, by decide +kernel⟩
theorem ok_lone {f : Addr} {fd : FuncData} (F : Fun K "_law_k84_lone" "_law_k84_lone" s_L_k84_lone f fd) (T : Bi mg) (MS : MkS P w K mg base C lv) (cSharing : Cls K C) (D_act_p : DefM P w K mg base C "act" 7 ["self", "act"] (spActP C)) (D_act_s : DefM P w K mg base C "act" 7 ["self", "act"] (spActS C))
    (D_Sharing_signed : DefM P w K mg base C "signed" 3 ["self"] (spSig C)) : FnOk P w K mg base CX0 9 f fd ["bank_here", "charter", "owners", "can"] (spP R_lone) := by
  obtain ⟨fi, fdi, I_Sharing, M_Sharing, ⟨dsi, V_Sharing, B_Sharing⟩, ⟨its, dvs, hdvs, KB_Sharing⟩, N_Sharing⟩ := MS.ex
  obtain ⟨f_p, fd_p, G_p, b_p, h_p⟩ := D_act_p.ex
  obtain ⟨f_s, fd_s, G_s, b_s, h_s⟩ := D_act_s.ex
  obtain ⟨f_Sharing_signed, fd_Sharing_signed, G_Sharing_signed, b_Sharing_signed, h_Sharing_signed⟩ := D_Sharing_signed.ex
  refine F.ok sc_L_k84_lone (len_spP (fun ds d ⟨b, many, props, lots, fs, e, _⟩ => by rw [e]; rfl)) (fun cdv A outer s H vs Q E hr h => ?_)
  obtain ⟨N, ds, d, fr, rs, ⟨b, many, props, lots, fs, rfl, Ob, Cc, fasc, fin, rfl⟩, k⟩ := h
  obtain ⟨v0, v1, v2, v3, rfl, r0, r1, r2, r3⟩ : ∃ v0 v1 v2 v3, vs = [v0, v1, v2, v3] ∧ Rp N H v0 b.d ∧ Rp N H v1 (chD many props lots) ∧ Rp N H v2 (tI fs) ∧ Rp N H v3 (.bool (canB props lots fs)) := by
    cases rs with
    | cons a rs =>
      obtain ⟨v1, v2, v3, rfl, r1, r2, r3⟩ := rps3 rs
      exact ⟨_, _, _, _, rfl, a, r1, r2, r3⟩
  have m6 := Cc.c.m6
  have fl6 : fs.length ≤ 6 := Nat.le_trans (asc_len fasc fin) m6
  have pl6 : props.length ≤ 6 := Nat.le_trans (asc_len Cc.c.pasc Cc.c.pin) m6
  refine ⟨_, pss_cons (ps_set (i := 4) sc_L_k84_lone.nd rfl (Or.inl rfl) (L2.pe_makeK0 M_Sharing I_Sharing (hr.mono (by decide)) rfl N_Sharing KB_Sharing pass0 (pk_cons (pv 0) (pk_cons (pv 1) (pk_cons (pv 2) pk_nil)))))
      (pss_cons (ps_setLc (i := 5) (own := [("owner", 6)]) rfl sc_L_k84_lone.nd rfl rfl (sw_true rfl rfl rfl (by decide +kernel)) (pi_seqK K (pe_ix (ix_K K) (pv 1) pe_int (fun _ _ => rfl))) (blkOk_by (own := [("owner", 6)]) (N := ["bank_here", "charter", "owners", "can", "here", "heads", "owner"]) (sc := defScope s_L_k84_lone) (by decide +kernel)) (fun _ _ _ _ _ => pg_name (i := 6) sc_L_k84_lone.nd rfl (Or.inl rfl)) (fun _ _ _ _ _ => pts_one (pt_cmpR (op_inK K) (pv 6) (pv 2) rfl)) (fun _ _ _ _ _ => pv 6))
      (pss_cons (ps_if (pt_cmpR (op_neK K hr.units) (pv 5) (pe_lst pa_nil) (nomark _)) (pss_cons (ps_expr (pe_meth (pv 4) cSharing h_p G_p (hr.mono (by decide)) b_p .nil pass0 (pa_cons (pe_tup (pa_cons pe_str (pa_cons (pe_ix (ix_K K) (pv 5) pe_int (fun _ _ => rfl)) pa_nil))) pa_nil)))
      (pss_one (ps_for PassesOwn.never rfl (pi_seqK K (pv 2)) (pg_name (i := 6) sc_L_k84_lone.nd rfl (Or.inl rfl)) (pss_one (ps_if (pt_cmpR (op_neK K hr.units) (pv 6) (pe_ix (ix_K K) (pv 5) pe_int (fun _ _ => rfl)) (nomark _)) (pss_one (ps_expr (pe_meth (pv 4) cSharing h_s G_s (hr.mono (by decide)) b_s .nil pass0 (pa_cons (pe_tup (pa_cons pe_str (pa_cons (pv 6) (pa_cons pe_int pa_nil)))) pa_nil)))) pss_nil))))) pss_nil)
      (pss_one (ps_ret (pe_cmpR (op_eqK K hr.units) (pe_meth0 (pv 4) cSharing h_Sharing_signed G_Sharing_signed (hr.mono (by decide)) b_Sharing_signed .nil pass0) (pe_ifExp (pt_truK K (pv 3) (fun _ => rfl)) (pe_tup (pa_cons pe_int pa_nil)) (pe_tup pa_nil)) (nomark _)))))), ?_⟩
  refine dq_mkK hdvs (da_cons (de_var rfl r0) (da_cons (de_var rfl r1) (da_cons (de_var rfl r2) da_nil))) fr Ob Cc fasc fin MS.kt fun p Fo H1 n1 => ?_
  have u1 : Up N H (out N Fo) H1 := fun a o n e => ⟨⟨n, fun h => (by rw [n1.new a h] at e; cases e)⟩, n1.same a o e⟩
  have f1 := n1.o.frO n1.fr
  refine dq_set (N := out N Fo) (d := lI (props.filter fun o => decide (o ∈ fs))) (de_lc (xs := props) (enc := PyData.int) (fun o => decide (o ∈ fs)) (fun o => .int o) (di_seq (de_op (de_var (i := 1) rfl (r1.up u1)) de_int (r2_ix (K := K) (i := 1) (z := tI props) rfl))) (by omega)
    fun a ha x' N' H' u rx => ⟨dt_test (de_op (de_var rfl rx) (de_var rfl ((r2.up u1).up u)) (r2_in rfl)), fun _ => de_var rfl rx⟩) f1 fun v5 H2 s2 r5 => ?_
  have so2 := n1.o.same s2
  have f2 := f1.same s2
  cases r3
  have hcan : canB props lots fs = (!(props.filter fun o => decide (o ∈ fs)).isEmpty && Ch.has lots fun o => decide (o ∈ fs)) := by
    unfold canB
    rw [filter_empty, Bool.not_not]
  have stay1 : ∀ b u, H b = some u → H2 b = some u := fun b u e => s2 _ _ (n1.same _ _ e)
  refine dq_ifN (N := out N Fo) (b := !(props.filter fun o => decide (o ∈ fs)).isEmpty) ((dt_test (de_op (y := lI []) (de_var rfl r5) (de_lst da_nil) r2_neL)).is ?_) f2 (fun hb H3 s3 => ?_) fun hb H3 s3 => ?_
  · cases (props.filter fun o => decide (o ∈ fs)) <;> simp
  · obtain ⟨o, hs, eh⟩ : ∃ o hs, (props.filter fun o => decide (o ∈ fs)) = o :: hs := by
      cases e : (props.filter fun o => decide (o ∈ fs)) with
      | nil => rw [e] at hb; cases hb
      | cons o hs => exact ⟨o, hs, rfl⟩
    have ho := List.mem_filter.mp (eh ▸ List.mem_cons_self : o ∈ props.filter fun o => decide (o ∈ fs))
    have hof : o ∈ fs := by simpa using ho.2
    rw [eh] at r5
    have so3 := so2.same s3
    have f3 : Fr N H3 := n1.fr.same (s2.trans s3)
    have hd0 : ∀ {σ : L2.St} {N' : NP} {H' : Hp}, σ[5]? = some (some v5) → Rp N' H' v5 (lI (o :: hs)) → DE N' (tOp (rIx K) (tVar 5) (tC (.int 0))) σ H' (.int o) := fun h r => de_op (de_var h r) de_int (r2_ix (K := K) (i := 0) (z := .int o) (atI_i (by decide) rfl))
    refine run_actD (sp := spActP C) rfl so3 f3 (noF (m := "act")) (d := .tuple [.str "propose", .int o]) (de_tup (da_cons de_str (da_cons (hd0 rfl (r5.same s3)) da_nil))) fun va H4 s4 ra => ?_
    refine ⟨N, Fo, p, _, va, o, rfl, f3.same s4, so3.same s4, ra, Cc, ho.1, by simp [newS], by simp [newS], by simp [newS], .inl hof, fun F1 H5 m5 f5 so5 => ?_⟩
    have st4 : ∀ b u, H b = some u → H4 b = some u := fun b u e => s4 _ _ (s3 _ _ (stay1 b u e))
    obtain ⟨st5, new5⟩ := m5.stays st4 n1.new
    have u5 : Up N H (out N F1) H5 := fun a u n e => ⟨⟨n, fun h => (by rw [new5 a h] at e; cases e)⟩, st5 a u e⟩
    have r5' : Rp (out N F1) H5 v5 (lI (o :: hs)) := m5.rp ((r5.same s3).same s4)
    have so5' : ShO C N F1 H5 p (Sl b many props lots fs lv o [o]) := so5
    refine df_forS (N := out N F1) (xs := fs) (enc := PyData.int) (di_seq (de_var rfl (r2.up u5))) (so5.frO f5) fun H6 s6 => ?_
    have so6 := so5'.same s6
    refine ⟨fun i σ' H' => (∃ o6, σ' = [some v0, some v1, some v2, some (.bl (canB props lots fs)), some (.ref p), some v5, o6]) ∧ Mv F1 F1 H6 H' ∧ Fr N H' ∧ ShO C N F1 H' p (Sl b many props lots fs lv o (o :: (fs.take i).filter fun x => !decide (x = o))),
      ⟨⟨_, rfl⟩, ⟨fun a h => h, fun a h n => absurd h n, fun b u e _ => e⟩, f5.same s6, by simpa using so6⟩, fun i σ' H' ⟨_, m, f', so'⟩ => ⟨fun a u n e => ⟨n, m.kp a u e n.2⟩, so'.frO f'⟩, ?_, ?_⟩
    · rintro i hi x σ' H' H7 ⟨⟨o6, rfl⟩, m, f', so'⟩ s7 rx
      have hx := List.getElem_mem hi
      have hnt := take_notin fasc hi
      have etk := take_filter fs (fun x => !decide (x = o)) hi
      generalize fs[i] = a at *
      have m7 : Mv F1 F1 H6 H7 := ⟨fun a h => h, fun a h n => absurd h n, fun b u e n => s7 _ _ (m.kp b u e n)⟩
      have so7 := so'.same s7
      have f7 := f'.same s7
      have rh : Rp (out N F1) H7 v5 (lI (o :: hs)) := m7.rp (r5'.same s6)
      refine dq_if (N := out N F1) (b := !decide (a = o)) (dt_test (de_op (de_var rfl rx) (hd0 rfl rh) r2_neI)) (so7.frO f7) (fun hb H8 s8 => ?_) fun hb H8 s8 => ?_
      · have hne : a ≠ o := by simpa using hb
        refine run_actD (sp := spActS C) rfl (so7.same s8) (f7.same s8) (noF (m := "act")) (d := .tuple [.str "sign", .int a, .int 0]) (de_tup (da_cons de_str (da_cons (de_var rfl (rx.same s8)) (da_cons de_int da_nil)))) fun va H9 s9 ra => ?_
        refine ⟨N, F1, p, _, va, a, 0, _, rfl, (f7.same s8).same s9, (so7.same s8).same s9, ra, m6, Nat.one_pos, by show 1 ≤ 30; decide, (fin a hx).1, (fin a hx).2, rfl, ?_, by simp, ?_, hx, fun H10 m10 f10 so10 => ⟨⟨_, rfl⟩, ?_, f10, ?_⟩⟩
        · rw [List.mem_cons]
          rintro (h | h)
          · exact hne h
          · exact hnt (List.mem_filter.mp h).1
        · rw [List.length_cons]
          have := List.length_filter_le (fun x => !decide (x = o)) (fs.take i)
          rw [List.length_take] at this
          omega
        · exact ⟨fun a h => h, fun a h n => absurd h n, fun b u e n => m10.kp b u (s9 _ _ (s8 _ _ (m7.kp b u e n))) n⟩
        · rw [etk, if_pos hb]
          exact so10
      · refine ⟨⟨_, rfl⟩, ⟨fun a h => h, fun a h n => absurd h n, fun b u e n => s8 _ _ (m7.kp b u e n)⟩, f7.same s8, ?_⟩
        rw [etk, if_neg (by rw [hb]; simp), List.append_nil]
        exact so7.same s8
    · rintro σ' H7 ⟨⟨o6, rfl⟩, m, f', so'⟩
      rw [List.take_length] at so'
      refine lone_end rfl rfl so'.toN f' Cc (by show 1 ≤ 1; decide) ?_ fun v' H8 s8 r => k v' H8 (fun b u e => s8 _ _ (m.kp b u (s6 _ _ (st5 b u e)) fun h => (by rw [new5 b h] at e; cases e))) r
      have e1 : (Ch.has lots fun x => decide (x ∈ o :: fs.filter fun x => !decide (x = o))) = canB props lots fs := by
        rw [hcan, hb, Bool.true_and]
        congr 1
        funext x
        by_cases e : x = o
        · subst e; simp [hof]
        · simp [e]
      show PyData.tuple (if (Ch.has lots fun x => decide (x ∈ o :: fs.filter fun x => !decide (x = o))) = true then [.int 0] else []) = _
      rw [e1]
      cases canB props lots fs <;> rfl
  · refine lone_end rfl rfl (so2.same s3).toN (n1.fr.same (s2.trans s3)) Cc (by show 0 ≤ 1; decide) ?_ fun v' H4 s4 r => k v' H4 (fun b u e => s4 _ _ (s3 _ _ (stay1 b u e))) r
    have e : canB props lots fs = false := by rw [hcan, hb]; rfl
    rw [e]
    rfl
end
end Pu

namespace Pu
open PySem PySem.Spec PyProof.Rows L2
def spLaw (K : PySem.W.Frag) : Sp := fun vs H Q _ => ∃ (a : Addr) (ns : List Int), vs = [.ref a] ∧ SqL K H a (ns.map V.int) ∧ ns.length ≤ 63 ∧ ∀ H', Q (.bl true) H'
theorem de_lenS {K : PySem.W.Frag} {N : NP} {σ : L2.St} {H : Hp} {i : Nat} {a : Addr} {xs : List V} (hσ : σ[i]? = some (some (.ref a))) (h : ∀ N1 H1, Up N H N1 H1 → SqL K H1 a xs) : DE N (tCB (rLenK K) (tCons (tVar i) tNil)) σ H (.int (xs.length : Nat)) := fun N1 H1 u f Q q =>
  ⟨_, hσ, a, xs, rfl, .inl (h N1 H1 u), q _ H1 (Same.refl H1) (.int _)⟩
theorem units65 {k : Nat} {A : Around} (r : Room k A) : A.units + 65 < cLine := by have := r.un; omega
theorem eqvAll_tIs : ∀ xs ys : List (List Int), PyData.eqvAll (xs.map tI) (ys.map tI) = decide (xs = ys)
  | [], [] => rfl
  | [], y :: ys => by simp [PyData.eqvAll]
  | x :: xs, [] => by simp [PyData.eqvAll]
  | x :: xs, y :: ys => by
    show (PyData.eqv (tI x) (tI y) && PyData.eqvAll (xs.map tI) (ys.map tI)) = _
    rw [eqvAll_tIs xs ys, eqv_tI]
    by_cases h : x = y
    · subst h; simp
    · simp [h]
theorem shaped_tT (nss : List (List Int)) : SeqAt.shaped (tT nss) = true := by
  show (PyData.canLayAll0 (nss.map tI) && decide (PyData.depthAll (nss.map tI) + 1 ≤ 64)) = true
  have := dep_tIs nss
  rw [lay_tIs, Bool.true_and, decide_eq_true_eq]
  omega
theorem r2_neTT {K : PySem.W.Frag} {xs ys : List (List Int)} : R2D (rNeD K) (tT xs) (tT ys) (.bool (!decide (xs = ys))) := by
  have := r2_neD (K := K) (shaped_tT xs) (shaped_tT ys)
  have e : PyData.eqv (tT xs) (tT ys) = decide (xs = ys) := eqvAll_tIs xs ys
  rwa [e] at this
theorem not_any_not' {α : Type} (l : List α) (b : α → Bool) : (!l.any fun x => !b x) = l.all b := by
  induction l with
  | nil => rfl
  | cons a r ih => rw [List.any_cons, List.all_cons, Bool.not_or, Bool.not_not, ih]
theorem filter_lt {α : Type} [DecidableEq α] {l : List α} {b : α → Bool} {x : α} (hx : x ∈ l) (hb : b x = false) : (l.filter b).length < l.length := by
  have h1 := List.length_filter_le b (l.erase x)
  have pe := List.perm_cons_erase hx
  have h2 := (pe.filter b).length_eq
  rw [List.filter_cons_of_neg (by rw [hb]; simp)] at h2
  have h3 := pe.length_eq
  rw [List.length_cons] at h3
  omega
theorem nil_sets (many : Nat) : [] ∈ Ch.sets many := mem_sets.mpr ⟨List.Pairwise.nil, fun o h => nomatch h⟩
theorem rest_ne {many : Nat} {props : List Int} {lots : List (List Int)} (C : Ch2 many props lots) {p : List Int} (hp : p ∈ Ch.sets many) (h : canB props lots p = false) : restOf many p ≠ [] := fun e => by
  have e2 := rest_rest hp
  rw [e] at e2
  have e3 : p = Ch.rng many := by
    rw [← e2]
    unfold restOf
    exact List.filter_eq_self.mpr fun o _ => by simp
  rw [e3, all_can C] at h; cases h
theorem held_ok {many : Nat} {props : List Int} {lots : List (List Int)} (C : Ch2 many props lots) : (((Ch.sets many).filter fun p => !canB props lots p).map (restOf many)).length < 64 ∧ ∀ p ∈ (((Ch.sets many).filter fun p => !canB props lots p).map (restOf many)), p ≠ [] ∧ p.length ≤ 1000 := by
  have m6 := C.c.m6
  refine ⟨?_, fun q hq => ?_⟩
  · rw [List.length_map]
    have := filter_lt (b := fun p => !canB props lots p) (rng_sets many) (by simp [all_can C])
    have l : (Ch.sets many).length ≤ 64 := by rw [Ch.sets_len]; exact Nat.pow_le_pow_right (by decide) m6
    omega
  · obtain ⟨p, hp, rfl⟩ := List.mem_map.mp hq
    obtain ⟨h1, h2⟩ := List.mem_filter.mp hp
    have := Ch.sets_in m6 (rest_sets (many := many) p)
    exact ⟨rest_ne C h1 (by simpa using h2), by omega⟩
theorem able_ok {many : Nat} {props : List Int} {lots : List (List Int)} (C : Ch2 many props lots) : ((Ch.sets many).filter (canB props lots)).length < 64 ∧ ∀ p ∈ ((Ch.sets many).filter (canB props lots)), p ≠ [] ∧ p.length ≤ 1000 := by
  have m6 := C.c.m6
  refine ⟨?_, fun p hp => ?_⟩
  · have := filter_lt (b := canB props lots) (nil_sets many) (can_nil C)
    have l : (Ch.sets many).length ≤ 64 := by rw [Ch.sets_len]; exact Nat.pow_le_pow_right (by decide) m6
    omega
  · obtain ⟨h1, h2⟩ := List.mem_filter.mp hp
    have := Ch.sets_in m6 h1
    exact ⟨fun e => (by rw [e, can_nil C] at h2; cases h2), by omega⟩
theorem lock_new {b : Bk} {many : Nat} {props : List Int} {lots : List (List Int)} {p : List Int} {lv : V} (hp : p ∈ Ch.sets many) : lockB (newS b many props lots p lv) = (Ch.has (stopOf many props lots) fun o => decide (o ∈ p)) := by
  rw [has_stop hp]; rfl
section
variable {P : Program} {w : World} {K : PySem.W.Frag} {mg : Str → Option Value} {base : Heap} {C : Addr} {lv : V}
abbrev s_law : Stmt := top 57
theorem sc_law : FnScope ["script", "state", "lap", "charter", "bank_here", "every", "able", "part", "paying", "stopping", "held", "rest", "owner", "can", "meeting", "stop", "one", "turn", "other"] ["script"] (defScope s_law) := ⟨rfl, rfl, rfl, by decide +kernel, rfl, by decide +kernel, by decide +kernel⟩
theorem ok_law {f : Addr} {fd : FuncData} (F : Fun K "law" "law" s_law f fd) (T : Bi mg) (MS : MkS P w K mg base C lv) (cSharing : Cls K C) (D_L_begun : Def P w K mg base "_law_begun" 1 ["script"] (spBegun K)) (D_L_pick : Def P w K mg base "_law_pick" 3 ["state", "several"] (spPick K))
    (D_L_sh_any : Def P w K mg base "_law_sh_any" 6 ["state", "most"] (spSt 30 D_char R_char)) (D_L_sh_bank : Def P w K mg base "_law_sh_bank" 4 ["state"] (spSt 1 D_bank R_bank)) (D_L_sh_sets : Def P w K mg base "_law_sh_sets" 1 ["many"] (spP R_sets))
    (D_L_sh_pays : Def P w K mg base "_law_sh_pays" 3 ["charter", "owners"] (spP R_pays)) (D_payers : DefK P w K mg base "payers" 7 ["charter"] (spP R_pay)) (D_stoppers : Def P w K mg base "stoppers" 8 ["charter"] (spP R_stop))
    (D_L_sh_least : Def P w K mg base "_law_sh_least" 2 ["parts"] (spP R_least)) (D_L_sh_has : Def P w K mg base "_law_sh_has" 2 ["lots", "owners"] (spP R_hasL)) (D_L_k84_lone : Def P w K mg base "_law_k84_lone" 9 ["bank_here", "charter", "owners", "can"] (spP R_lone))
    (D_L_is_truth : Def P w K mg base "_law_is_truth" 1 ["found", "due"] (spP R_truth)) (D_Sharing_locked : DefM P w K mg base C "locked" 9 ["self"] (spM C (R_locked K))) :
    FnOk P w K mg base CX0 11 f fd ["script"] (spLaw K) := by
  obtain ⟨fi, fdi, I_Sharing, M_Sharing, ⟨dsi, V_Sharing, B_Sharing⟩, ⟨its, dvs, hdvs, KB_Sharing⟩, N_Sharing⟩ := MS.ex
  obtain ⟨f_L_is_truth, fd_L_is_truth, G_L_is_truth, b_L_is_truth, k_L_is_truth, m_L_is_truth⟩ := D_L_is_truth.ex
  obtain ⟨f_L_sh_has, fd_L_sh_has, G_L_sh_has, b_L_sh_has, k_L_sh_has, m_L_sh_has⟩ := D_L_sh_has.ex
  obtain ⟨f_Sharing_locked, fd_Sharing_locked, G_Sharing_locked, b_Sharing_locked, h_Sharing_locked⟩ := D_Sharing_locked.ex
  obtain ⟨f_L_k84_lone, fd_L_k84_lone, G_L_k84_lone, b_L_k84_lone, k_L_k84_lone, m_L_k84_lone⟩ := D_L_k84_lone.ex
  obtain ⟨f_L_pick, fd_L_pick, G_L_pick, b_L_pick, k_L_pick, m_L_pick⟩ := D_L_pick.ex
  obtain ⟨f_L_sh_least, fd_L_sh_least, G_L_sh_least, b_L_sh_least, k_L_sh_least, m_L_sh_least⟩ := D_L_sh_least.ex
  obtain ⟨f_stoppers, fd_stoppers, G_stoppers, b_stoppers, k_stoppers, m_stoppers⟩ := D_stoppers.ex
  obtain ⟨f_payers, fd_payers, G_payers, b_payers, k_payers, m_payers⟩ := D_payers.ex
  obtain ⟨f_L_sh_pays, fd_L_sh_pays, G_L_sh_pays, b_L_sh_pays, k_L_sh_pays, m_L_sh_pays⟩ := D_L_sh_pays.ex
  obtain ⟨f_L_sh_sets, fd_L_sh_sets, G_L_sh_sets, b_L_sh_sets, k_L_sh_sets, m_L_sh_sets⟩ := D_L_sh_sets.ex
  obtain ⟨f_L_sh_bank, fd_L_sh_bank, G_L_sh_bank, b_L_sh_bank, k_L_sh_bank, m_L_sh_bank⟩ := D_L_sh_bank.ex
  obtain ⟨f_L_sh_any, fd_L_sh_any, G_L_sh_any, b_L_sh_any, k_L_sh_any, m_L_sh_any⟩ := D_L_sh_any.ex
  obtain ⟨f_L_begun, fd_L_begun, G_L_begun, b_L_begun, k_L_begun, m_L_begun⟩ := D_L_begun.ex
  refine F.ok sc_law (fun vs H Q E ⟨a, ns, e, _⟩ => by rw [e]; rfl) (fun cdv A outer s H vs Q E hr h => ?_)
  obtain ⟨a, ns, rfl, hS, hn, k⟩ := h
  refine ⟨_, pss_cons (ps_set (i := 1) sc_law.nd rfl (Or.inl rfl) (pe_call G_L_begun (hr.mono (by decide)) rfl m_L_begun k_L_begun b_L_begun .nil pass0 (pa_cons (pv 0) pa_nil)))
      (pss_cons (ps_for PassesOwn.never rfl (pi_range1 rfl T.range (pa_cons (pe_op (op_addK K) pe_int (pe_callB (call_min2 rfl) (by rfl) T.min (by decide +kernel) (pa_cons (pe_callB (call_lenK K) (by rfl) T.len (by decide +kernel) (pa_cons (pv 0) pa_nil)) (pa_cons pe_int pa_nil)))) pa_nil)) (pg_name (i := 2) sc_law.nd rfl (Or.inl rfl)) (pss_cons (ps_asg (pe_tup (pa_cons (pe_call G_L_sh_any (hr.mono (by decide)) rfl m_L_sh_any k_L_sh_any b_L_sh_any .nil pass0 (pa_cons (pv 1) (pa_cons pe_int pa_nil))) (pa_cons (pe_call G_L_sh_bank (hr.mono (by decide)) rfl m_L_sh_bank k_L_sh_bank b_L_sh_bank .nil pass0 (pa_cons (pv 1) pa_nil)) pa_nil))) (pg_tupK K (n := 2) rfl (pgs_cons (pg_name (i := 3) sc_law.nd rfl (Or.inr rfl)) (pgs_cons (pg_name (i := 4) sc_law.nd rfl (Or.inl rfl)) pgs_nil))))
      (pss_cons (ps_set (i := 5) sc_law.nd rfl (Or.inl rfl) (pe_call G_L_sh_sets (hr.mono (by decide)) rfl m_L_sh_sets k_L_sh_sets b_L_sh_sets .nil pass0 (pa_cons (pe_ix (ix_K K) (pv 3) pe_int (fun _ _ => rfl)) pa_nil)))
      (pss_cons (ps_setLc (i := 6) (own := [("part", 7)]) rfl sc_law.nd rfl rfl (sw_true rfl rfl rfl (by decide +kernel)) (pi_seqK K (pv 5)) (blkOk_by (own := [("part", 7)]) (N := ["script", "state", "lap", "charter", "bank_here", "every", "able", "part", "paying", "stopping", "held", "rest", "owner", "can", "meeting", "stop", "one", "turn", "other"]) (sc := defScope s_law) (by decide +kernel)) (fun _ _ _ _ _ => pg_name (i := 7) sc_law.nd rfl (Or.inl rfl)) (fun _ _ _ _ _ => pts_one (pt_truK K (pe_call G_L_sh_pays (hr.mono (by decide)) rfl m_L_sh_pays k_L_sh_pays b_L_sh_pays .nil pass0 (pa_cons (pv 3) (pa_cons (pv 7) pa_nil))) (fun _ => rfl))) (fun _ _ _ _ _ => pv 7))
      (pss_cons (ps_par (i := 8) (j := 9) rfl sc_law.nd rfl rfl (by decide) rfl rfl (pa_cons (pe_callKw G_payers (hr.mono (by decide)) rfl m_payers k_payers b_payers pass0 (pk_cons (pv 3) pk_nil)) (pa_cons (pe_call G_stoppers (hr.mono (by decide)) rfl m_stoppers k_stoppers b_stoppers .nil pass0 (pa_cons (pv 3) pa_nil)) pa_nil)) (by rfl))
      (pss_cons (ps_if (pt_cmpR (op_neK K hr.units) (pv 8) (pe_call G_L_sh_least (hr.mono (by decide)) rfl m_L_sh_least k_L_sh_least b_L_sh_least .nil pass0 (pa_cons (pv 6) pa_nil)) (nomark _)) (pss_one (ps_ret (pe_bl))) pss_nil)
      (pss_cons (ps_set (i := 10) sc_law.nd rfl (Or.inl rfl) (pe_lst pa_nil))
      (pss_cons (ps_for PassesOwn.never rfl (pi_seqK K (pv 5)) (pg_name (i := 7) sc_law.nd rfl (Or.inr rfl)) (pss_cons (ps_set (i := 11) sc_law.nd rfl (Or.inl rfl) (pe_callTy (call_tupK K) (by rfl) T.tuple (by decide +kernel) (pa_cons (pe_lc (own := [("owner", 12)]) rfl sc_law.nd (pi_range1 rfl T.range (pa_cons (pe_ix (ix_K K) (pv 3) pe_int (fun _ _ => rfl)) pa_nil)) (blkOk_by (own := [("owner", 12)]) (N := ["script", "state", "lap", "charter", "bank_here", "every", "able", "part", "paying", "stopping", "held", "rest", "owner", "can", "meeting", "stop", "one", "turn", "other"]) (sc := defScope s_law) (by decide +kernel)) (fun _ _ _ _ _ => pg_name (i := 12) sc_law.nd rfl (Or.inl rfl)) (fun _ _ _ _ _ => pts_one (pt_cmpR (op_ninK K) (pv 12) (pv 7) rfl)) (fun _ _ _ _ _ => pv 12)) pa_nil)))
      (pss_cons (ps_set (i := 13) sc_law.nd rfl (Or.inl rfl) (pe_call G_L_sh_has (hr.mono (by decide)) rfl m_L_sh_has k_L_sh_has b_L_sh_has .nil pass0 (pa_cons (pv 8) (pa_cons (pv 7) pa_nil))))
      (pss_cons (ps_if (PW.pt (pw_or (pt_cmpR (op_neK K hr.units) (pv 13) (pe_cmpR (op_inDK K (units65 hr)) (pv 7) (pv 6) rfl) (nomark _)) (pw_or1 (pt_cmpR (op_eqK K hr.units) (pv 13) (pe_call G_L_sh_has (hr.mono (by decide)) rfl m_L_sh_has k_L_sh_has b_L_sh_has .nil pass0 (pa_cons (pv 9) (pa_cons (pv 11) pa_nil))) (nomark _))))) (pss_one (ps_ret (pe_bl))) pss_nil)
      (pss_one (ps_set (i := 10) sc_law.nd rfl (Or.inl rfl) (pe_op (op_addK K) (pv 10) (pe_ifExp (pt_not (pt_truK K (pv 13) (fun _ => rfl))) (pe_lst (pa_cons (pv 11) pa_nil)) (pe_lst pa_nil)))))))))
      (pss_cons (ps_if (pt_cmpR (op_neK K hr.units) (pv 9) (pe_call G_L_sh_least (hr.mono (by decide)) rfl m_L_sh_least k_L_sh_least b_L_sh_least .nil pass0 (pa_cons (pv 10) pa_nil)) (nomark _)) (pss_one (ps_ret (pe_bl))) pss_nil)
      (pss_cons (ps_set (i := 14) sc_law.nd rfl (Or.inr rfl) (pe_lst pa_nil))
      (pss_cons (ps_for PassesOwn.never rfl (pi_seqK K (pv 5)) (pg_name (i := 7) sc_law.nd rfl (Or.inr rfl)) (pss_one (ps_if (pt_cmpR (op_eqK K hr.units) (pe_lc (own := [("stop", 15)]) rfl sc_law.nd (pi_seqK K (pv 9)) (blkOk_by (own := [("stop", 15)]) (N := ["script", "state", "lap", "charter", "bank_here", "every", "able", "part", "paying", "stopping", "held", "rest", "owner", "can", "meeting", "stop", "one", "turn", "other"]) (sc := defScope s_law) (by decide +kernel)) (fun _ _ _ _ _ => pg_name (i := 15) sc_law.nd rfl (Or.inl rfl)) (fun _ _ _ _ _ => pts_one (pt_cmpR (op_eqK K hr.units) (pe_lc (own := [("owner", 12)]) rfl sc_law.nd (pi_seqK K (pv 15)) (blkOk_by (own := [("owner", 12)]) (N := ["script", "state", "lap", "charter", "bank_here", "every", "able", "part", "paying", "stopping", "held", "rest", "owner", "can", "meeting", "stop", "one", "turn", "other"]) (sc := { kind := PySem.ScopeKind.function, names := [ (PySem.Str.ofString ".0", PySem.NameKind.local), (PySem.Str.ofString "stop", PySem.NameKind.local), (PySem.Str.ofString "part", PySem.NameKind.cell)], isGenerator := false, isCoroutine := false, more := [] : PySem.Scope }) (by decide +kernel)) (fun _ _ _ _ _ => pg_name (i := 12) sc_law.nd rfl (Or.inl rfl)) (fun _ _ _ _ _ => pts_one (pt_cmpR (op_inK K) (pv 12) (pv 7) rfl)) (fun _ _ _ _ _ => pe_int)) (pe_lst pa_nil) (nomark _))) (fun _ _ _ _ _ => pe_int)) (pe_lst pa_nil) (nomark _)) (pss_one (ps_expr (pe_bm PySem.F.plainAttrs_list PySem.F.slot_list_append PySem.F.type_list_append mt_append (pv 14) (pa_cons (pv 7) pa_nil)))) pss_nil)))
      (pss_cons (ps_if (PW.pt (pw_or (pt_cmpR (op_neK K hr.units) (pv 8) (pe_call G_L_sh_least (hr.mono (by decide)) rfl m_L_sh_least k_L_sh_least b_L_sh_least .nil pass0 (pa_cons (pv 14) pa_nil)) (nomark _)) (pw_or1 (pt_cmpR (op_neK K hr.units) (pe_lc (own := [("one", 16)]) rfl sc_law.nd (pi_seqK K (pv 8)) (blkOk_by (own := [("one", 16)]) (N := ["script", "state", "lap", "charter", "bank_here", "every", "able", "part", "paying", "stopping", "held", "rest", "owner", "can", "meeting", "stop", "one", "turn", "other"]) (sc := defScope s_law) (by decide +kernel)) (fun _ _ _ _ _ => pg_name (i := 16) sc_law.nd rfl (Or.inl rfl)) (fun _ _ _ _ _ => pts_one (pt_cmpR (op_ninDK K (units65 hr)) (pv 16) (pv 14) rfl)) (fun _ _ _ _ _ => pe_int)) (pe_lst pa_nil) (nomark _))))) (pss_one (ps_ret (pe_bl))) pss_nil)
      (pss_one (ps_for PassesOwn.never rfl (pi_range1 rfl T.range (pa_cons pe_int pa_nil)) (pg_name (i := 17) sc_law.nd rfl (Or.inl rfl)) (pss_cons (ps_set (i := 7) sc_law.nd rfl (Or.inr rfl) (pe_call G_L_pick (hr.mono (by decide)) rfl m_L_pick k_L_pick b_L_pick .nil pass0 (pa_cons (pv 1) (pa_cons (pe_op (op_addK K) (pe_op (op_addK K) (pv 5) (pe_callTy (call_listK K) (by rfl) T.list (by decide +kernel) (pa_cons (pv 8) pa_nil))) (pe_callTy (call_listK K) (by rfl) T.list (by decide +kernel) (pa_cons (pv 9) pa_nil))) pa_nil))))
      (pss_cons (ps_if (pt_not (pt_truK K (pe_call G_L_k84_lone (hr.mono (by decide)) rfl m_L_k84_lone k_L_k84_lone b_L_k84_lone .nil pass0 (pa_cons (pv 4) (pa_cons (pv 3) (pa_cons (pv 7) (pa_cons (pe_call G_L_sh_has (hr.mono (by decide)) rfl m_L_sh_has k_L_sh_has b_L_sh_has .nil pass0 (pa_cons (pv 8) (pa_cons (pv 7) pa_nil))) pa_nil))))) (fun _ => rfl))) (pss_one (ps_ret (pe_bl))) pss_nil)
      (pss_cons (ps_set (i := 18) sc_law.nd rfl (Or.inl rfl) (pe_make M_Sharing I_Sharing (hr.mono (by decide)) rfl N_Sharing B_Sharing V_Sharing pass0 (pa_cons (pv 4) (pa_cons (pv 3) (pa_cons (pv 7) pa_nil)))))
      (pss_one (ps_if (pt_not (pt_truK K (pe_call G_L_is_truth (hr.mono (by decide)) rfl m_L_is_truth k_L_is_truth b_L_is_truth .nil pass0 (pa_cons (pe_meth0 (pv 18) cSharing h_Sharing_locked G_Sharing_locked (hr.mono (by decide)) b_Sharing_locked .nil pass0) (pa_cons (pe_call G_L_sh_has (hr.mono (by decide)) rfl m_L_sh_has k_L_sh_has b_L_sh_has .nil pass0 (pa_cons (pv 9) (pa_cons (pv 7) pa_nil))) pa_nil))) (fun _ => rfl))) (pss_one (ps_ret (pe_bl))) pss_nil)))))))))))))))))))
      (pss_one (ps_ret (pe_bl)))), ?_⟩
  refine ⟨_, rfl, a, ns, rfl, hS, by omega, fun d g c H1 s1 hd hg hc S => ?_⟩
  have sb : Sub d g (fun x => x ≠ d ∧ x ≠ g) := fun x h => h
  have f1 : Fr (fun x => x ≠ d ∧ x ≠ g) H1 := fun x hx => by
    obtain ⟨l, t, hd', _⟩ := S.dk
    obtain ⟨gs, hg', _⟩ := S.gr
    exact ⟨fun e => (by rw [e, hd'] at hx; cases hx), fun e => (by rw [e, hg'] at hx; cases hx)⟩
  generalize hN : (fun x => x ≠ d ∧ x ≠ g) = N at sb f1
  have hS2 : ∀ N1 H3, Up N H1 N1 H3 → SqL K H3 a (ns.map V.int) := fun N1 H3 u => by
    rcases hS with hS | hS
    · left
      have na : H a ≠ none := by
        rcases hS with h | ⟨o, h⟩ <;> rw [h] <;> simp
      have ad : a ≠ d := fun e => na (e ▸ hd)
      have ag : a ≠ g := fun e => na (e ▸ hg)
      have nN : N a := by rw [← hN]; exact ⟨ad, ag⟩
      rcases hS with h | ⟨o, h⟩
      · exact .inl (u _ _ nN (s1 _ _ h)).2
      · exact .inr ⟨o, (u _ _ nN (s1 _ _ h)).2⟩
    · exact .inr hS
  obtain ⟨L, hL, L5⟩ : ∃ L : Int, (1 + (if (4 : Int) < ((ns.map V.int).length : Int) then 4 else ((ns.map V.int).length : Int))) = L ∧ 0 ≤ L ∧ L ≤ 5 := ⟨_, rfl, by split <;> omega, by split <;> omega⟩
  refine df_forS (N := N) (xs := Ch.rng L.toNat) (enc := PyData.int) (di_rng (da_cons ((de_op de_int (de_cb (da_cons (de_lenS rfl hS2) (da_cons de_int da_nil)) rc_min2) r2_addI).is (by rw [hL])) da_nil) (by omega) (by omega)) f1 fun H3 s3 => ?_
  have S3 := S.same s3
  have f3 := f1.same s3
  refine ⟨fun i σ' H' => (∃ o2 o3 o4 o5 o6 o7 o8 o9 o10 o11 o12 o13 o14 o15 o16 o17 o18, σ' = [some (.ref a), some (.ref d), o2, o3, o4, o5, o6, o7, o8, o9, o10, o11, o12, o13, o14, o15, o16, o17, o18]) ∧ Kp d g H3 H' ∧ StA H' d g c (40 * (i : Int)),
    ⟨⟨_, _, _, _, _, _, _, _, _, _, _, _, _, _, _, _, _, rfl⟩, Kp.refl d g H3, S3.mono (by simp)⟩, fun i σ' H' ⟨_, k', S'⟩ => ⟨Up.kp sb k', f3.kp k' S'⟩, ?_, ?_⟩
  rotate_left
  · rintro σ' H' ⟨⟨o2, o3, o4, o5, o6, o7, o8, o9, o10, o11, o12, o13, o14, o15, o16, o17, o18, rfl⟩, k', S'⟩
    exact k H'
  rintro i hi x σ' H' H4 ⟨⟨o2, o3, o4, o5, o6, o7, o8, o9, o10, o11, o12, o13, o14, o15, o16, o17, o18, rfl⟩, k', S'⟩ s4 rx
  have hi5 : i < 5 := by rw [Ch.rng_len] at hi; omega
  have k34 := k'.trans (Kp.of s4)
  have S4 := S'.same s4
  have f4 := f3.kp k34 S4
  have tb4 : 40 * (i : Int) + 40 ≤ TB := by
    show _ ≤ (1000000000000 : Int)
    omega
  -- charter, bank_here
  refine sq_un2 (n := 30 + (1 + 0)) (se_tup (sa_cons (se_call (N := N) (ds := [.int 6]) rfl (da_cons de_int da_nil) ⟨6, rfl, by decide, by decide⟩) (sa_cons (se_call rfl da_nil rfl) sa_nil)) (fun ds ⟨z, rs, e, _, z', rs', e', _, e''⟩ => by subst e'' e' e; simp)) f4 sb S4 (by omega)
    (fun ds ⟨z, rs, e, _, z', rs', e', _, e''⟩ => by subst e'' e' e; rfl) fun v3 v4 x3 x4 H5 hxy k5 S5 f5 r3 r4 => ?_
  obtain ⟨_, _, e1, ⟨many, props, lots, rfl, C2⟩, _, _, e2, ⟨b, hb, rfl⟩, rfl⟩ := hxy
  subst e2
  cases e1
  have Ob := banks_ok b hb
  have m6 := C2.c.m6
  have k35 := k34.trans k5
  have sl64 : (Ch.sets many).length ≤ 64 := by rw [Ch.sets_len]; exact Nat.pow_le_pow_right (by decide) m6
  have sin : ∀ p ∈ Ch.sets many, p.length ≤ 1000 := fun p hp => by have := Ch.sets_in m6 hp; omega
  have plen : (payOf many props lots).length ≤ 64 := min_len _ m6
  have qlen : (stopOf many props lots).length ≤ 64 := min_len _ m6
  have pin : ∀ p ∈ payOf many props lots, p.length ≤ 1000 := fun p hp => sin p (pay_one C2 hp).1
  have qin : ∀ p ∈ stopOf many props lots, p.length ≤ 1000 := fun p hp => sin p (stop_one C2 hp).1
  -- every, able
  refine dq_set (d := lT (Ch.sets many)) (de_call (da_cons (de_op (de_var (i := 3) rfl r3) de_int (r2_ix (K := K) (i := 0) (z := .int (many : Int)) rfl)) da_nil) ⟨many, rfl, m6, rfl⟩) f5 fun v5 H6 s6 r5 => ?_
  refine dq_set (d := lT ((Ch.sets many).filter (canB props lots))) (de_lc (xs := Ch.sets many) (enc := tI) (canB props lots) (fun p => tI p) (di_seq (de_var rfl r5)) (by omega)
    fun p hp x' N' H'' u rx' => ⟨dt_truB (de_call (da_cons (de_var rfl ((r3.same s6).up u)) (da_cons (de_var rfl rx') da_nil)) ⟨many, props, lots, _, p, rfl, rfl, C2, rfl⟩), fun _ => de_var rfl rx'⟩) (f5.same s6) fun v6 H7 s7 r6 => ?_
  have s57 := s6.trans s7
  -- paying, stopping
  refine dq_par (N := N) (d := tT (payOf many props lots)) (e := tT (stopOf many props lots)) (da_cons (de_callK (da_cons (de_var rfl (r3.same s57)) da_nil) ⟨many, props, lots, rfl, C2, rfl⟩) (da_cons (de_call (da_cons (de_var rfl (r3.same s57)) da_nil) ⟨many, props, lots, rfl, C2, rfl⟩) da_nil)) (f5.same s57) fun v8 v9 H8 s8 r8 r9 => ?_
  have s58 := s57.trans s8
  refine dq_iff ((dt_test (de_op (de_var rfl r8) (de_call (da_cons (de_var rfl (r6.same s8)) da_nil) ⟨_, rfl, (able_ok C2).1, (able_ok C2).2, rfl⟩) r2_neTT)).is (by rw [pay_eq]; simp)) (f5.same s58) fun H9 s9 => ?_
  have s59 := s58.trans s9
  -- held
  refine dq_set (d := lT []) (de_lst da_nil) (f5.same s59) fun v10 H10 s10 r10 => ?_
  have s5x := s59.trans s10
  have s69 := (s7.trans s8).trans (s9.trans s10)
  have s89 := s9.trans s10
  refine df_forS (N := N) (xs := Ch.sets many) (enc := tI) (di_seq (de_var rfl (r5.same s69))) (f5.same s5x) fun H11 s11 => ?_
  have hpay : ∀ {σ : L2.St} {N' : NP} {H' : Hp} {te : TE} {p : List Int} {E : XK}, σ[8]? = some (some v8) → Rp N' H' v8 (tT (payOf many props lots)) → DE N' te σ H' (tI p) → p ∈ Ch.sets many → DE N' (tCall (spP R_hasL) [] E (tCons (tVar 8) (tCons te tNil))) σ H' (.bool (canB props lots p)) := fun h8 r8 h hp =>
    (de_call (da_cons (de_var h8 r8) (da_cons h da_nil)) ⟨_, _, payOf many props lots, _, rfl, rfl, rfl, by omega, pin, rfl⟩).is (by rw [has_pay hp])
  have hstop : ∀ {σ : L2.St} {N' : NP} {H' : Hp} {te : TE} {p : List Int} {E : XK}, σ[9]? = some (some v9) → Rp N' H' v9 (tT (stopOf many props lots)) → DE N' te σ H' (tI p) → p ∈ Ch.sets many → DE N' (tCall (spP R_hasL) [] E (tCons (tVar 9) (tCons te tNil))) σ H' (.bool (!canB props lots (restOf many p))) := fun h9 r9 h hp =>
    (de_call (da_cons (de_var h9 r9) (da_cons h da_nil)) ⟨_, _, stopOf many props lots, _, rfl, rfl, rfl, by omega, qin, rfl⟩).is (by rw [has_stop hp])
  refine ⟨fun j σ' H' => (∃ o7 vh o11 o12 o13 o14 o15 o16 o17 o18, σ' = [some (.ref a), some (.ref d), some x, some v3, some v4, some v5, some v6, o7, some v8, some v9, some vh, o11, o12, o13, o14, o15, o16, o17, o18] ∧ Rp N H' vh (lT ((((Ch.sets many).take j).filter fun p => !canB props lots p).map (restOf many)))) ∧ Same H11 H',
    ⟨⟨_, _, _, _, _, _, _, _, _, _, rfl, by simpa using r10.same s11⟩, Same.refl _⟩, fun j σ' H' h => ⟨Up.of h.2, ((f5.same s5x).same s11).same h.2⟩, ?_, ?_⟩
  · rintro j hj y σ' H12 H13 ⟨⟨o7, vh, o11, o12, o13, o14, o15, o16, o17, o18, rfl, rh⟩, s12⟩ s13 ry
    have hp := List.getElem_mem hj
    have tf := take_filter (Ch.sets many) (fun p => !canB props lots p) hj
    have tle : (((Ch.sets many).take j).filter fun p => !canB props lots p).length ≤ 64 := Nat.le_trans (List.length_filter_le _ _) (by rw [List.length_take]; omega)
    generalize (Ch.sets many)[j] = p at *
    have sA := (s11.trans s12).trans s13
    have s5A := s5x.trans sA
    have fA := f5.same s5A
    have hrs := rest_sets (many := many) p
    -- rest
    refine dq_set (d := tI (restOf many p)) (de_cb (da_cons (de_lc (xs := Ch.rng many) (enc := PyData.int) (fun o => !decide (o ∈ p)) (fun o => .int o) (di_rngN (da_cons (de_op (de_var (i := 3) rfl (r3.same s5A)) de_int (r2_ix (K := K) (i := 0) (z := .int (many : Int)) rfl)) da_nil) (by omega)) (by rw [Ch.rng_len]; omega)
      fun o ho x' N' H'' u rx' => ⟨dt_test (de_op (de_var rfl rx') (de_var rfl (ry.up u)) (r2_nin rfl)), fun _ => de_var rfl rx'⟩) da_nil) rk_tup) fA fun v11 H14 s14 r11 => ?_
    -- can
    refine dq_set (d := .bool (canB props lots p)) (hpay rfl (((r8.same s89).same sA).same s14) (de_var rfl (ry.same s14)) hp) (fA.same s14) fun v13 H15 s15 r13 => ?_
    have sB := s14.trans s15
    refine dq_iff ((dt_or (a := false) (b := false) ((dt_test (de_op (de_var rfl r13) (de_op (de_var rfl (ry.same sB)) (de_var rfl (((r6.same (s8.trans s89)).same sA).same sB)) r2_inL) r2_neB)).is ?_) fun _ => (dt_test (de_op (de_var rfl r13) (hstop rfl (((r9.same s89).same sA).same sB) (de_var rfl (r11.same s15)) hrs) r2_eqB)).is ?_).is rfl) (fA.same sB) fun H16 s16 => ?_
    · have e : decide (p ∈ (Ch.sets many).filter (canB props lots)) = canB props lots p := by
        rw [Bool.eq_iff_iff, decide_eq_true_eq, List.mem_filter]
        exact ⟨fun h => h.2, fun h => ⟨hp, h⟩⟩
      rw [e]; simp
    · rw [rest_rest hp]; cases canB props lots p <;> rfl
    have sC := sB.trans s16
    refine DE.run (N := N) (d := lT ((((Ch.sets many).take (j + 1)).filter fun p => !canB props lots p).map (restOf many))) ((de_op (de_var rfl ((rh.same s13).same sC)) (de_if (b := !canB props lots p) (d := lT (if (!canB props lots p) = true then [restOf many p] else [])) (dt_not (dt_truB (de_var rfl (r13.same s16)))) (fun hb => (de_lst (da_cons (de_var rfl ((r11.same s15).same s16)) da_nil)).is ?_)
      fun hb => (de_lst da_nil).is ?_) (r2_addL (by rw [List.length_map, List.length_map, List.length_map]; split <;> simp <;> omega))).is ?_) (fA.same sC) fun v10' H17 s17 r10' => ?_
    · rw [if_pos hb]; rfl
    · rw [if_neg (by rw [hb]; simp)]; rfl
    · rw [tf]
      by_cases hb : (!canB props lots p) = true
      · rw [if_pos hb, if_pos hb]; simp [lT]
      · rw [if_neg hb, if_neg hb]; simp [lT]
    · exact ⟨⟨_, _, _, _, _, _, _, _, _, _, rfl, r10'⟩, ((s12.trans s13).trans sC).trans s17⟩
  rintro σ' H12 ⟨⟨o7, vh, o11, o12, o13, o14, o15, o16, o17, o18, rfl, rh⟩, s12⟩
  rw [List.take_length] at rh
  have sA := s11.trans s12
  have s5A := s5x.trans sA
  have fA := f5.same s5A
  refine dq_iff ((dt_test (de_op (de_var rfl ((r9.same s89).same sA)) (de_call (da_cons (de_var rfl rh) da_nil) ⟨_, rfl, (held_ok C2).1, (held_ok C2).2, rfl⟩) r2_neTT)).is (by rw [stop_held]; simp)) fA fun H13 s13 => ?_
  have sB := sA.trans s13
  have s5B := s5x.trans sB
  have fB := f5.same s5B
  -- meeting
  refine dq_new fB fun q H14 hq w1 => ?_
  refine df_forS (N := fun z => N z ∧ z ≠ q) (xs := Ch.sets many) (enc := tI) (di_seq (de_var rfl (((r5.same s69).same sB).up w1.up))) w1.fr fun H15 s15 => ?_
  have w2 := w1.go s15
  refine ⟨fun j σ' H' => (∃ o7 o12 o15 o16 o17 o18, σ' = [some (.ref a), some (.ref d), some x, some v3, some v4, some v5, some v6, o7, some v8, some v9, some vh, o11, o12, o13, some (.ref q), o15, o16, o17, o18]) ∧ Up (fun z => N z ∧ z ≠ q) H15 (fun z => N z ∧ z ≠ q) H' ∧
      InD N H13 q H' ((((Ch.sets many).take j).filter (canB props lots)).map tI),
    ⟨⟨_, _, _, _, _, _, rfl⟩, Up.refl _ _, by simpa using w2⟩, fun j σ' H' ⟨_, u, w⟩ => ⟨u, w.fr⟩, ?_, ?_⟩
  · rintro j hj y σ' H16 H17 ⟨⟨o7, o12, o15, o16, o17, o18, rfl⟩, u3, w3⟩ s17 ry
    have w4 := w3.go s17
    have u4 := u3.same s17
    have hp := List.getElem_mem hj
    have tf := take_filter (Ch.sets many) (canB props lots) hj
    generalize (Ch.sets many)[j] = p at *
    refine dq_if (N := fun z => N z ∧ z ≠ q) (b := canB props lots p) ((dt_test (de_op (de_lc (xs := stopOf many props lots) (enc := tI) (fun st => !st.any fun o => decide (o ∈ p)) (fun _ => .int 1) (di_seq (de_var rfl (((r9.same s89).same sB).up w4.up))) (by omega)
        fun st hst x' N' H'' u rx' => ⟨(dt_test (de_op (de_lc (xs := st) (enc := PyData.int) (fun o => decide (o ∈ p)) (fun _ => .int 1) (di_seq (de_var rfl rx')) (by have := qin st hst; omega)
          fun o ho x'' N'' Hz u' ry' => ⟨dt_test (de_op (de_var rfl ry') (de_var rfl ((ry.up u).up u')) (r2_in rfl)), fun _ => de_int⟩) (de_lst da_nil) r2_none)).is (by rw [filter_empty]), fun _ => de_int⟩) (de_lst da_nil) r2_none)).is ?_) w4.fr (fun hb H18 s18 => ?_) fun hb H18 s18 => ?_
    · rw [filter_empty, not_any_not']
      exact meet_stop hp
    · refine dq_app (w4.go s18) hq rfl (de_var rfl (ry.same s18)) ?_ fun H19 w6 u6 => ⟨⟨_, _, _, _, _, _, rfl⟩, (u4.same s18).trans u6, ?_⟩
      · rw [List.length_map]
        exact Nat.lt_of_le_of_lt (List.length_filter_le _ _) (by rw [List.length_take]; omega)
      · rw [tf, if_pos hb, List.map_append]
        exact w6
    · refine ⟨⟨_, _, _, _, _, _, rfl⟩, u4.same s18, ?_⟩
      rw [tf, if_neg (by rw [hb]; simp), List.append_nil]
      exact w4.go s18
  rintro σ' H16 ⟨⟨o7, o12, o15, o16, o17, o18, rfl⟩, u3, w3⟩
  rw [List.take_length] at w3
  have sC := sB.trans w3.same
  have fC : Fr N H16 := w3.frN
  have rm : Rp N H16 (.ref q) (lT ((Ch.sets many).filter (canB props lots))) := w3.rp hq fB
  have r8C := (r8.same s89).same sC
  have r9C := (r9.same s89).same sC
  refine dq_iff ((dt_or (a := false) (b := false) ((dt_test (de_op (de_var rfl r8C) (de_call (da_cons (de_var rfl rm) da_nil) ⟨_, rfl, (able_ok C2).1, (able_ok C2).2, rfl⟩) r2_neTT)).is (by rw [pay_eq]; simp)) fun _ => (dt_test (de_op (de_lc (xs := payOf many props lots) (enc := tI) (fun one => !decide (one ∈ (Ch.sets many).filter (canB props lots))) (fun _ => .int 1) (di_seq (de_var rfl r8C)) (by omega)
      fun one hone x' N' H'' u rx' => ⟨dt_test (de_op (de_var rfl rx') (de_var rfl (rm.up u)) r2_ninL), fun _ => de_int⟩) (de_lst da_nil) r2_some)).is ?_).is rfl) fC fun H17 s17 => ?_
  · rw [filter_empty, Bool.not_not, List.any_eq_false]
    intro one hone
    have h1 := pay_one C2 hone
    simp [h1.1, h1.2.2]
  have sD := sC.trans s17
  have s5D := s5x.trans sD
  have fD := f5.same s5D
  have SD := S5.same s5D
  have r8D := r8C.same s17
  have r9D := r9C.same s17
  have r5D := (r5.same s69).same sD
  have r3D := r3.same s5D
  have r4D := r4.same s5D
  -- three turns
  refine df_for (N := N) (xs := Ch.rng 3) (enc := PyData.int) (di_rng (i := 3) (da_cons de_int da_nil) (by decide) (by decide)) fD fun H18 s18 => ?_
  have S18 := SD.same s18
  refine ⟨fun j σ' H' => (∃ o7 o12 o15 o16 o17 o18, σ' = [some (.ref a), some (.ref d), some x, some v3, some v4, some v5, some v6, o7, some v8, some v9, some vh, o11, o12, o13, some (.ref q), o15, o16, o17, o18]) ∧ Kp d g H18 H' ∧ StA H' d g c (40 * (i : Int) + 31 + (j : Int)),
    ⟨⟨_, _, _, _, _, _, rfl⟩, Kp.refl d g H18, S18.mono (by simp)⟩, fun j σ' H' ⟨_, k', S'⟩ => ⟨Up.kp sb k', (fD.same s18).kp k' S'⟩, ?_, ?_⟩
  · rintro j hj y σ' H19 H20 ⟨⟨o7, o12, o15, o16, o17, o18, rfl⟩, kE, SE'⟩ s20 ry
    have hj3 : j < 3 := by rw [Ch.rng_len] at hj; exact hj
    have kD := (Kp.of (d := d) (g := g) s18).trans (kE.trans (Kp.of s20))
    have SF := SE'.same s20
    have fF := fD.kp kD SF
    have uD := Up.kp sb kD
    -- part
    refine sq_set (n := 1) (se_pick (N := N) (x := lT (Ch.sets many ++ payOf many props lots ++ stopOf many props lots)) rfl ((de_op (de_op (de_var rfl (r5D.up uD)) (de_cb (da_cons (de_var rfl (r8D.up uD)) da_nil) (rk_list rfl)) (r2_addL ?_)) (de_cb (da_cons (de_var rfl (r9D.up uD)) da_nil) (rk_list rfl)) (r2_addL ?_)).is ?_) rfl ?_ ?_) fF sb SF (by omega) fun v7 z H21 hz k21 S21 f21 r7 => ?_
    · rw [List.length_map, List.length_map]; omega
    · rw [List.length_append, List.length_map, List.length_map, List.length_map]; omega
    · simp [lT]
    · intro e
      have := congrArg List.length e
      rw [List.length_map, List.length_append, List.length_append, Ch.sets_len] at this
      have := Nat.pow_pos (n := many) (show 0 < 2 by decide)
      simp at *
    · rw [List.length_map, List.length_append, List.length_append]; omega
    obtain ⟨p, hp, rfl⟩ : ∃ p, p ∈ Ch.sets many ∧ z = tI p := by
      obtain ⟨p, hp, rfl⟩ := List.mem_map.mp hz
      refine ⟨p, ?_, rfl⟩
      rcases List.mem_append.mp hp with hp | hp
      · rcases List.mem_append.mp hp with hp | hp
        · exact hp
        · exact (pay_one C2 hp).1
      · exact (stop_one C2 hp).1
    have hps := mem_sets.mp hp
    have kG := kD.trans k21
    have uG := Up.kp sb kG
    refine dq_iff ((dt_not (a := true) (dt_truB (de_call (da_cons (de_var rfl (r4D.up uG)) (da_cons (de_var rfl (r3D.up uG)) (da_cons (de_var rfl r7) (da_cons (hpay rfl (r8D.up uG) (de_var rfl r7) hp) da_nil)))) ⟨b, many, props, lots, p, rfl, Ob, C2, hps.1, hps.2, rfl⟩))).is rfl) f21 fun H22 s22 => ?_
    have r7' := r7.same s22
    refine dq_mk (N := N) (da_cons (de_var rfl ((r4D.up uG).same s22)) (da_cons (de_var rfl ((r3D.up uG).same s22)) (da_cons (de_var rfl r7') da_nil))) (f21.same s22) Ob C2 hps.1 hps.2 MS.kt fun pa Fa H23 nw => ?_
    have s23 := s22.trans nw.same
    refine dq_if (N := N) (b := false) ((dt_not (a := true) (dt_truB (de_call (da_cons (de_methM (i := 18) (R := R_locked K) rfl nw.o.toN (noF (m := "locked")) da_nil ⟨⟨rfl, C2, Ob, rfl, rfl, MS.kt, rfl⟩, rfl⟩) (da_cons (hstop rfl ((r9D.up uG).same s23) (de_var rfl (r7'.same nw.same)) hp) da_nil)) ⟨_, _, rfl, ?_⟩))).is rfl) nw.fr (fun h => nomatch h) fun _ H24 s24 => ?_
    · show PyData.bool true = .bool (lockB (newS b many props lots p lv) == !canB props lots (restOf many p))
      unfold lockB newS
      simp
    have s24' := s23.trans s24
    exact ⟨⟨_, _, _, _, _, _, rfl⟩, (kE.trans (Kp.of s20)).trans (k21.trans (Kp.of s24')), (S21.same s24').mono (by simp; omega)⟩
  · rintro σ' H19 ⟨⟨o7, o12, o15, o16, o17, o18, rfl⟩, kE, SE'⟩
    exact ⟨⟨_, _, _, _, _, _, _, _, _, _, _, _, _, _, _, _, _, rfl⟩, k35.trans ((Kp.of (s5D.trans s18)).trans kE), SE'.mono (by rw [Ch.rng_len]; omega)⟩
end
end Pu

namespace Pu
open PySem PySem.Spec PyProof.Rows L2
/-! ### what stands behind the top -/
def MethAt (K : PySem.W.Frag) (C : Addr) (m q : Str) (st : Stmt) : Prop := ∃ (f : Addr) (oc : Value) (od : Option Addr) (kV doc pm : Value) (an : Option Addr) (cd ct : Value) (osl : Array (Option Value)), PySem.W.findIn K (.ref C) m = some (some (.ref f)) ∧
  K.lookup f = some ⟨oc, od, .func (PySem.W.fnOf m q (defArgs st) (defBody st) (defScope st) .none kV doc pm an cd ct), osl⟩ ∧ PySem.W.codeIn K cd q = true ∧ PySem.W.keepIn K (.ref f) = true ∧ PySem.W.isFn K (.ref f) = true
theorem methAt_mk {K : PySem.W.Frag} {C f : Addr} {m q : Str} {st : Stmt} {oc : Value} {od : Option Addr} {kV doc pm : Value} {an : Option Addr} {cd ct : Value} {osl : Array (Option Value)} (a : PySem.W.findIn K (.ref C) m = some (some (.ref f)))
    (l : K.lookup f = some ⟨oc, od, .func (PySem.W.fnOf m q (defArgs st) (defBody st) (defScope st) .none kV doc pm an cd ct), osl⟩) (c : PySem.W.codeIn K cd q = true) (k : PySem.W.keepIn K (.ref f) = true) (n : PySem.W.isFn K (.ref f) = true) : MethAt K C m q st := ⟨f, oc, od, kV, doc, pm, an, cd, ct, osl, a, l, c, k, n⟩
theorem MethAt.get {K : PySem.W.Frag} {C : Addr} {m q : Str} {st : Stmt} (D : MethAt K C m q st) : ∃ f fd, Fun K m q st f fd ∧ Meth K C m f := by
  obtain ⟨f, oc, od, kV, doc, pm, an, cd, ct, osl, a, l, c, k, n⟩ := D
  exact ⟨f, _, ⟨⟨_, _, _, _, _, _, _, _, _, rfl, l, c⟩, k⟩, ⟨a, n, k⟩⟩
/-- the class -/
structure ShAt (K : PySem.W.Frag) (C : Addr) : Prop where
  aC : PySem.W.nsIn K mainGlobals "Sharing" = some (some (.ref C))
  pg : PySem.W.plainGet K C Str.empty = true
  hd : PySem.W.hasDictIn K C = true
  po : PySem.W.plainOver K C = true
  sa : PySem.W.findIn K (.ref C) "__setattr__" = some (some (.builtin "object.__setattr__"))
  nb : PySem.W.findIn K (.ref C) "_bank" = some none
  nc : PySem.W.findIn K (.ref C) "_charter" = some none
  nf : PySem.W.findIn K (.ref C) "_false" = some none
  nl : PySem.W.findIn K (.ref C) "_liars" = some none
  na : PySem.W.findIn K (.ref C) "_agreed" = some none
  nm : PySem.W.findIn K (.ref C) "_made" = some none
  ns : PySem.W.findIn K (.ref C) "_seals" = some none
  nv : PySem.W.findIn K (.ref C) "_votes" = some none
  mk1 : PySem.W.makesIn K C = true
  kp : PySem.W.keepIn K (.ref C) = true
theorem ShAt.sc {K : PySem.W.Frag} {C : Addr} (d : ShAt K C) : ShC K C := ⟨⟨d.pg, d.hd, d.po, d.sa⟩, d.nb, d.nc, d.nf, d.nl, d.na, d.nm, d.ns, d.nv⟩
/-- its __init__ with its defaults -/
def InitAt (K : PySem.W.Frag) (C La : Addr) : Prop := ∃ (f T : Addr) (oc : Value) (od : Option Addr) (kV doc pm : Value) (an : Option Addr) (cd ct : Value) (osl : Array (Option Value)) (c1 e0 : Value) (d1 d2 : Option Addr) (its jts : Array Value) (n m : Nat) (o1 o2 : Array (Option Value)),
  PySem.W.findIn K (.ref C) "__init__" = some (some (.ref f)) ∧ K.lookup f = some ⟨oc, od, .func (PySem.W.fnOf "__init__" "Sharing.__init__" (defArgs s_Sharing_init) (defBody s_Sharing_init) (defScope s_Sharing_init) (.ref T) kV doc pm an cd ct), osl⟩ ∧
  PySem.W.codeIn K cd "Sharing.__init__" = true ∧ PySem.W.keepIn K (.ref f) = true ∧ PySem.W.isFn K (.ref f) = true ∧ K.lookup T = some ⟨c1, d1, .seq its n, o1⟩ ∧ its.toList = [e0, .ref La, .bool false] ∧ (∃ z, e0 = .ref z) ∧ K.lookup La = some ⟨.type "tuple", d2, .seq jts m, o2⟩ ∧ jts.toList = []
theorem initAt_mk {K : PySem.W.Frag} {C La z : Addr} {f T : Addr} {oc : Value} {od : Option Addr} {kV doc pm : Value} {an : Option Addr} {cd ct : Value} {osl : Array (Option Value)} {c1 : Value} {d1 d2 : Option Addr} {its jts : Array Value} {n m : Nat} {o1 o2 : Array (Option Value)}
    (h1 : PySem.W.findIn K (.ref C) "__init__" = some (some (.ref f))) (h2 : K.lookup f = some ⟨oc, od, .func (PySem.W.fnOf "__init__" "Sharing.__init__" (defArgs s_Sharing_init) (defBody s_Sharing_init) (defScope s_Sharing_init) (.ref T) kV doc pm an cd ct), osl⟩)
    (h3 : PySem.W.codeIn K cd "Sharing.__init__" = true) (h4 : PySem.W.keepIn K (.ref f) = true) (h5 : PySem.W.isFn K (.ref f) = true) (h6 : K.lookup T = some ⟨c1, d1, .seq its n, o1⟩) (h7 : its.toList = [.ref z, .ref La, .bool false]) (h8 : K.lookup La = some ⟨.type "tuple", d2, .seq jts m, o2⟩) (h9 : jts.toList = []) : InitAt K C La :=
  ⟨f, T, oc, od, kV, doc, pm, an, cd, ct, osl, c1, _, d1, d2, its, jts, n, m, o1, o2, h1, h2, h3, h4, h5, h6, h7, ⟨z, rfl⟩, h8, h9⟩
theorem InitAt.get {K : PySem.W.Frag} {C La : Addr} (D : InitAt K C La) : KT K (.ref La) ∧ ∃ (f : Addr) (fd : FuncData) (z : Addr), FunD K "__init__" "Sharing.__init__" (defArgs s_Sharing_init) (defBody s_Sharing_init) (defScope s_Sharing_init) [.ref z, .ref La, .bl false] [] f fd ∧
    PySem.W.findIn K (.ref C) "__init__" = some (some (.ref f)) ∧ PySem.W.isFn K (.ref f) = true := by
  obtain ⟨f, T, oc, od, kV, doc, pm, an, cd, ct, osl, c1, _, d1, d2, its, jts, n, m, o1, o2, h1, h2, h3, h4, h5, h6, h7, ⟨z, rfl⟩, h8, h9⟩ := D
  refine ⟨⟨La, _, rfl, h8, rfl, fun H => .inr ⟨_, jts, m, h8, rfl, rfl, ?_, ?_⟩⟩, f, _, z, ⟨⟨oc, od, .ref T, kV, doc, pm, an, cd, ct, osl, rfl, h2, h3, .inr ⟨by simp, T, _, [.ref z, .ref La, .bool false], n, rfl, h6, ?_, .cons rfl (.cons rfl (.cons rfl .nil))⟩, .inl rfl⟩, h4⟩, h1, h5⟩
  · rw [← Array.length_toList, h9]; exact Nat.zero_le _
  · rw [h9]; exact .nil
  · rw [← h7]
theorem mkS_of {P : Program} {w : World} {K : PySem.W.Frag} {mg : Str → Option Value} {base : Heap} {C La z f : Addr} {fd : FuncData} (kt : KT K (.ref La)) (F : FunD K "__init__" "Sharing.__init__" (defArgs s_Sharing_init) (defBody s_Sharing_init) (defScope s_Sharing_init) [.ref z, .ref La, .bl false] [] f fd)
    (h1 : PySem.W.findIn K (.ref C) "__init__" = some (some (.ref f))) (h5 : PySem.W.isFn K (.ref f) = true) (d : ShAt K C) (nm : mg "Sharing" = some (.ref C)) (G : FnOk P w K mg base CX0 7 f fd ["self", "bank", "charter", "false", "liars", "agreed"] (spInit K C)) : MkS P w K mg base C (.ref La) := by
  refine ⟨⟨f, fd, G, ⟨d.mk1, h1, h5, d.kp⟩, ?_, ?_, nm⟩, kt⟩
  · exact F.binds1 (ps := ["self", "bank", "charter", "false", "liars", "agreed"]) 4 1 (by simp) (by rfl) fun T kV doc pm an cdv ct us its l1 l2 => match us, its, l1, l2 with
      | [_, _, _, _], [_, _, _], _, _ => ⟨_, rfl, rfl⟩
  · obtain ⟨its, h⟩ := F.kbindsD (ps := ["self", "bank", "charter", "false", "liars", "agreed"]) 1 ["bank", "charter", "false"] gSh (by simp) (fun r1 r2 r3 => (r1.append r3).append (r2.drop 1)) fun T kV doc pm an cdv ct us its ws l1 l2 l3 => match us, its, ws, l1, l2, l3 with
      | [_], [_, _, _], [_, _, _], _, _, _ => ⟨_, rfl, rfl⟩
    exact ⟨its, _, rfl, h⟩
def spNo : Sp := fun _ _ _ _ => False
section
variable {P : Program} {w : World} {K : PySem.W.Frag} {mg : Str → Option Value} {base : Heap}
abbrev s_Sharing_p_can_vote : Stmt := inClass (top 39) 15
theorem sc_Sharing_p_can_vote : FnScope ["self", "member", "proposal"] ["self", "member", "proposal"] (defScope s_Sharing_p_can_vote) := ⟨rfl, rfl, rfl, by decide +kernel, rfl, by decide +kernel, by decide +kernel⟩
theorem ok_m_can_vote {f : Addr} {fd : FuncData} (F : Fun K "_can_vote" "Sharing._can_vote" s_Sharing_p_can_vote f fd) : FnOk P w K mg base CX0 5 f fd ["self", "member", "proposal"] spNo := by
  exact F.ok sc_Sharing_p_can_vote (fun _ _ _ _ h => h.elim) fun _ _ _ _ _ _ _ _ _ h => h.elim
end
end Pu

namespace Pu
open PySem L2
/-- a def of the text stands behind the top under its name -/
def DefAt (K : PySem.W.Frag) (x : Str) (st : Stmt) : Prop := ∃ (f : Addr) (oc : Value) (od : Option Addr) (kV doc pm : Value) (an : Option Addr) (cd ct : Value) (osl : Array (Option Value)), PySem.W.nsIn K mainGlobals x = some (some (.ref f)) ∧
  K.lookup f = some ⟨oc, od, .func (PySem.W.fnOf x x (defArgs st) (defBody st) (defScope st) .none kV doc pm an cd ct), osl⟩ ∧ PySem.W.codeIn K cd x = true ∧ PySem.W.keepIn K (.ref f) = true
theorem DefAt.get {K : PySem.W.Frag} {x : Str} {st : Stmt} {h : Heap} {mg : Str → Option Value} (D : DefAt K x st) (X : K.In h) (G : h.Ns mainGlobals mg) : ∃ f fd, Fun K x x st f fd ∧ PySem.W.keepIn K (.ref f) = true ∧ mg x = some (.ref f) := by
  obtain ⟨f, oc, od, kV, doc, pm, an, cd, ct, osl, a, l, c, k⟩ := D
  exact ⟨f, _, fun_mk l c k, k, PySem.W.mg_of X G a⟩
theorem defAt_mk {K : PySem.W.Frag} {x : Str} {st : Stmt} {f : Addr} {oc : Value} {od : Option Addr} {kV doc pm : Value} {an : Option Addr} {cd ct : Value} {osl : Array (Option Value)} (a : PySem.W.nsIn K mainGlobals x = some (some (.ref f)))
    (l : K.lookup f = some ⟨oc, od, .func (PySem.W.fnOf x x (defArgs st) (defBody st) (defScope st) .none kV doc pm an cd ct), osl⟩) (c : PySem.W.codeIn K cd x = true) (k : PySem.W.keepIn K (.ref f) = true) : DefAt K x st := ⟨f, oc, od, kV, doc, pm, an, cd, ct, osl, a, l, c, k⟩
theorem all_mk {l : PySem.W.OpenLaw} {w : World} {K : PySem.W.Frag} {h : Heap} {mg : Str → Option Value} {fa : Addr} (X : K.In h) (G : h.Ns mainGlobals mg) (hfa : mg "law" = some (.ref fa)) {C La : Addr}
    (d_law_begun : DefAt K "_law_begun" sBegun)
    (d_law_blended : DefAt K "_law_blended" sBlend)
    (d_law_draw : DefAt K "_law_draw" sDraw)
    (d_law_pick : DefAt K "_law_pick" sPick)
    (d_is_number : DefAt K "is_number" s_is_number)
    (d_is_number_from : DefAt K "is_number_from" s_is_number_from)
    (d_is_number_below : DefAt K "is_number_below" s_is_number_below)
    (d_is_ascending : DefAt K "is_ascending" s_is_ascending)
    (d_is_number_of_owners : DefAt K "is_number_of_owners" s_is_number_of_owners)
    (d_are_owners : DefAt K "are_owners" s_are_owners)
    (d_has_all : DefAt K "has_all" s_has_all)
    (d_has_lot : DefAt K "has_lot" s_has_lot)
    (d_is_charter : DefAt K "is_charter" s_is_charter)
    (d_check_charter : DefAt K "check_charter" s_check_charter)
    (d_L_sh_sets : DefAt K "_law_sh_sets" s_L_sh_sets)
    (d_L_sh_in : DefAt K "_law_sh_in" s_L_sh_in)
    (d_L_sh_has : DefAt K "_law_sh_has" s_L_sh_has)
    (d_L_sh_least : DefAt K "_law_sh_least" s_L_sh_least)
    (d_L_mixed : DefAt K "_law_mixed" s_L_mixed)
    (d_L_sh_lots : DefAt K "_law_sh_lots" s_L_sh_lots)
    (d_L_sh_charter : DefAt K "_law_sh_charter" s_L_sh_charter)
    (d_L_sh_any : DefAt K "_law_sh_any" s_L_sh_any)
    (d_sets_of_owners : DefAt K "sets_of_owners" s_sets_of_owners)
    (d_can_pay : DefAt K "can_pay" s_can_pay)
    (d_without_one : DefAt K "without_one" s_without_one)
    (d_meets_all : DefAt K "meets_all" s_meets_all)
    (d_payers : DefAt K "payers" s_payers)
    (d_stoppers : DefAt K "stoppers" s_stoppers)
    (d_L_sh_pays : DefAt K "_law_sh_pays" s_L_sh_pays)
    (d_L_sh_bank : DefAt K "_law_sh_bank" s_L_sh_bank)
    (d_L_is_truth : DefAt K "_law_is_truth" s_L_is_truth)
    (d_is_begin : DefAt K "is_begin" s_is_begin)
    (d_is_bank : DefAt K "is_bank" s_is_bank)
    (d_check_bank : DefAt K "check_bank" s_check_bank)
    (d_need_of : DefAt K "need_of" s_need_of)
    (d_is_member : DefAt K "is_member" s_is_member)
    (d_are_ascending_members : DefAt K "are_ascending_members" s_are_ascending_members)
    (m_Sharing_p_is_idle : MethAt K C "_is_idle" "Sharing._is_idle" s_Sharing_p_is_idle)
    (m_Sharing_p_is_free : MethAt K C "_is_free" "Sharing._is_free" s_Sharing_p_is_free)
    (m_Sharing_booked : MethAt K C "booked" "Sharing.booked" s_Sharing_booked)
    (m_Sharing_p_can_propose : MethAt K C "_can_propose" "Sharing._can_propose" s_Sharing_p_can_propose)
    (m_Sharing_p_can_sign : MethAt K C "_can_sign" "Sharing._can_sign" s_Sharing_p_can_sign)
    (m_Sharing_is_act : MethAt K C "is_act" "Sharing.is_act" s_Sharing_is_act)
    (m_Sharing_act : MethAt K C "act" "Sharing.act" s_Sharing_act)
    (m_Sharing_signed : MethAt K C "signed" "Sharing.signed" s_Sharing_signed)
    (m_Sharing_p_way_for : MethAt K C "_way_for" "Sharing._way_for" s_Sharing_p_way_for)
    (m_Sharing_way_on : MethAt K C "way_on" "Sharing.way_on" s_Sharing_way_on)
    (m_Sharing_locked : MethAt K C "locked" "Sharing.locked" s_Sharing_locked)
    (d_L_k84_lone : DefAt K "_law_k84_lone" s_L_k84_lone)
    (d_law : DefAt K "law" s_law)
    (m_Sharing_p_can_vote : MethAt K C "_can_vote" "Sharing._can_vote" s_Sharing_p_can_vote)
    (dk : ShAt K C)
    (di : InitAt K C La)
    {t_FIRST_TOO_LONG : Tok} (n_FIRST_TOO_LONG : PySem.W.nsIn K mainGlobals "FIRST_TOO_LONG" = some (some (.int 1000000000000000000 t_FIRST_TOO_LONG)))
    {t_MOST_OWNERS : Tok} (n_MOST_OWNERS : PySem.W.nsIn K mainGlobals "MOST_OWNERS" = some (some (.int 6 t_MOST_OWNERS)))
    {t_MOST_PURSES : Tok} (n_MOST_PURSES : PySem.W.nsIn K mainGlobals "MOST_PURSES" = some (some (.int 8 t_MOST_PURSES)))
    {t_MOST_MEMBERS : Tok} (n_MOST_MEMBERS : PySem.W.nsIn K mainGlobals "MOST_MEMBERS" = some (some (.int 13 t_MOST_MEMBERS)))
    {t_MOST_PROPOSALS : Tok} (n_MOST_PROPOSALS : PySem.W.nsIn K mainGlobals "MOST_PROPOSALS" = some (some (.int 30 t_MOST_PROPOSALS)))
    (z_len : PySem.W.nsIn K mainGlobals "len" = some none)
    (z_list : PySem.W.nsIn K mainGlobals "list" = some none)
    (z_tuple : PySem.W.nsIn K mainGlobals "tuple" = some none)
    (z_all : PySem.W.nsIn K mainGlobals "all" = some none)
    (z_any : PySem.W.nsIn K mainGlobals "any" = some none)
    (z_sum : PySem.W.nsIn K mainGlobals "sum" = some none)
    (z_min : PySem.W.nsIn K mainGlobals "min" = some none)
    (z_sorted : PySem.W.nsIn K mainGlobals "sorted" = some none)
    (z_set : PySem.W.nsIn K mainGlobals "set" = some none)
    (z_range : PySem.W.nsIn K mainGlobals "range" = some none)
    (z_enumerate : PySem.W.nsIn K mainGlobals "enumerate" = some none)
    (z_zip : PySem.W.nsIn K mainGlobals "zip" = some none)
    (z_int : PySem.W.nsIn K mainGlobals "int" = some none)
    (z_bool : PySem.W.nsIn K mainGlobals "bool" = some none)
    (z_abs : PySem.W.nsIn K mainGlobals "abs" = some none)
    (z_isinstance : PySem.W.nsIn K mainGlobals "isinstance" = some none)
    : ∃ fd : FuncData, (∀ (s : Shared) (v : Value), BindsTo s fd ⟨[v], []⟩ [("script", v)]) ∧ ∀ base : Heap, K.In base → base.Ns mainGlobals mg → FnOk l.prog w K mg base CX0 11 fa fd ["script"] (spLaw K) := by
  have no : ∀ {x : Str}, PySem.W.nsIn K mainGlobals x = some none → mg x = none := fun z => PySem.W.mg_none_of X G z
  have T : Bi mg := ⟨no z_len, no z_list, no z_tuple, no z_all, no z_any, no z_sum, no z_min, no z_sorted, no z_set, no z_range, no z_enumerate, no z_zip, no z_int, no z_bool, no z_abs, no z_isinstance⟩
  obtain ⟨f_law_begun, fd_law_begun, F_law_begun, k_law_begun, m_law_begun⟩ := d_law_begun.get X G
  have b_law_begun := F_law_begun.binds (ps := ["script"]) fun _ _ _ _ _ _ us hl => match us, hl with | [_], _ => rfl
  obtain ⟨f_law_blended, fd_law_blended, F_law_blended, k_law_blended, m_law_blended⟩ := d_law_blended.get X G
  have b_law_blended := F_law_blended.binds (ps := ["state"]) fun _ _ _ _ _ _ us hl => match us, hl with | [_], _ => rfl
  obtain ⟨f_law_draw, fd_law_draw, F_law_draw, k_law_draw, m_law_draw⟩ := d_law_draw.get X G
  have b_law_draw := F_law_draw.binds (ps := ["state", "size_here"]) fun _ _ _ _ _ _ us hl => match us, hl with | [_, _], _ => rfl
  obtain ⟨f_law_pick, fd_law_pick, F_law_pick, k_law_pick, m_law_pick⟩ := d_law_pick.get X G
  have b_law_pick := F_law_pick.binds (ps := ["state", "several"]) fun _ _ _ _ _ _ us hl => match us, hl with | [_, _], _ => rfl
  obtain ⟨f_is_number, fd_is_number, F_is_number, k_is_number, m_is_number⟩ := d_is_number.get X G
  have b_is_number := F_is_number.binds (ps := ["value"]) fun _ _ _ _ _ _ us hl => match us, hl with | [_], _ => rfl
  obtain ⟨f_is_number_from, fd_is_number_from, F_is_number_from, k_is_number_from, m_is_number_from⟩ := d_is_number_from.get X G
  have b_is_number_from := F_is_number_from.binds (ps := ["value", "least"]) fun _ _ _ _ _ _ us hl => match us, hl with | [_, _], _ => rfl
  obtain ⟨f_is_number_below, fd_is_number_below, F_is_number_below, k_is_number_below, m_is_number_below⟩ := d_is_number_below.get X G
  have b_is_number_below := F_is_number_below.binds (ps := ["value", "limit"]) fun _ _ _ _ _ _ us hl => match us, hl with | [_, _], _ => rfl
  obtain ⟨f_is_ascending, fd_is_ascending, F_is_ascending, k_is_ascending, m_is_ascending⟩ := d_is_ascending.get X G
  have b_is_ascending := F_is_ascending.binds (ps := ["values"]) fun _ _ _ _ _ _ us hl => match us, hl with | [_], _ => rfl
  obtain ⟨f_is_number_of_owners, fd_is_number_of_owners, F_is_number_of_owners, k_is_number_of_owners, m_is_number_of_owners⟩ := d_is_number_of_owners.get X G
  have b_is_number_of_owners := F_is_number_of_owners.binds (ps := ["value"]) fun _ _ _ _ _ _ us hl => match us, hl with | [_], _ => rfl
  obtain ⟨f_are_owners, fd_are_owners, F_are_owners, k_are_owners, m_are_owners⟩ := d_are_owners.get X G
  have b_are_owners := F_are_owners.binds (ps := ["many", "value"]) fun _ _ _ _ _ _ us hl => match us, hl with | [_, _], _ => rfl
  obtain ⟨f_has_all, fd_has_all, F_has_all, k_has_all, m_has_all⟩ := d_has_all.get X G
  have b_has_all := F_has_all.binds (ps := ["owners", "wanted"]) fun _ _ _ _ _ _ us hl => match us, hl with | [_, _], _ => rfl
  obtain ⟨f_has_lot, fd_has_lot, F_has_lot, k_has_lot, m_has_lot⟩ := d_has_lot.get X G
  have b_has_lot := F_has_lot.binds (ps := ["charter", "owners"]) fun _ _ _ _ _ _ us hl => match us, hl with | [_, _], _ => rfl
  obtain ⟨f_is_charter, fd_is_charter, F_is_charter, k_is_charter, m_is_charter⟩ := d_is_charter.get X G
  have b_is_charter := F_is_charter.binds (ps := ["value"]) fun _ _ _ _ _ _ us hl => match us, hl with | [_], _ => rfl
  obtain ⟨f_check_charter, fd_check_charter, F_check_charter, k_check_charter, m_check_charter⟩ := d_check_charter.get X G
  have b_check_charter := F_check_charter.binds (ps := ["charter"]) fun _ _ _ _ _ _ us hl => match us, hl with | [_], _ => rfl
  obtain ⟨f_L_sh_sets, fd_L_sh_sets, F_L_sh_sets, k_L_sh_sets, m_L_sh_sets⟩ := d_L_sh_sets.get X G
  have b_L_sh_sets := F_L_sh_sets.binds (ps := ["many"]) fun _ _ _ _ _ _ us hl => match us, hl with | [_], _ => rfl
  obtain ⟨f_L_sh_in, fd_L_sh_in, F_L_sh_in, k_L_sh_in, m_L_sh_in⟩ := d_L_sh_in.get X G
  have b_L_sh_in := F_L_sh_in.binds (ps := ["part", "whole"]) fun _ _ _ _ _ _ us hl => match us, hl with | [_, _], _ => rfl
  obtain ⟨f_L_sh_has, fd_L_sh_has, F_L_sh_has, k_L_sh_has, m_L_sh_has⟩ := d_L_sh_has.get X G
  have b_L_sh_has := F_L_sh_has.binds (ps := ["lots", "owners"]) fun _ _ _ _ _ _ us hl => match us, hl with | [_, _], _ => rfl
  obtain ⟨f_L_sh_least, fd_L_sh_least, F_L_sh_least, k_L_sh_least, m_L_sh_least⟩ := d_L_sh_least.get X G
  have b_L_sh_least := F_L_sh_least.binds (ps := ["parts"]) fun _ _ _ _ _ _ us hl => match us, hl with | [_], _ => rfl
  obtain ⟨f_L_mixed, fd_L_mixed, F_L_mixed, k_L_mixed, m_L_mixed⟩ := d_L_mixed.get X G
  have b_L_mixed := F_L_mixed.binds (ps := ["state", "several"]) fun _ _ _ _ _ _ us hl => match us, hl with | [_, _], _ => rfl
  obtain ⟨f_L_sh_lots, fd_L_sh_lots, F_L_sh_lots, k_L_sh_lots, m_L_sh_lots⟩ := d_L_sh_lots.get X G
  have b_L_sh_lots := F_L_sh_lots.binds (ps := ["state", "many"]) fun _ _ _ _ _ _ us hl => match us, hl with | [_, _], _ => rfl
  obtain ⟨f_L_sh_charter, fd_L_sh_charter, F_L_sh_charter, k_L_sh_charter, m_L_sh_charter⟩ := d_L_sh_charter.get X G
  have b_L_sh_charter := F_L_sh_charter.binds (ps := ["state", "most"]) fun _ _ _ _ _ _ us hl => match us, hl with | [_, _], _ => rfl
  obtain ⟨f_L_sh_any, fd_L_sh_any, F_L_sh_any, k_L_sh_any, m_L_sh_any⟩ := d_L_sh_any.get X G
  have b_L_sh_any := F_L_sh_any.binds (ps := ["state", "most"]) fun _ _ _ _ _ _ us hl => match us, hl with | [_, _], _ => rfl
  obtain ⟨f_sets_of_owners, fd_sets_of_owners, F_sets_of_owners, k_sets_of_owners, m_sets_of_owners⟩ := d_sets_of_owners.get X G
  have b_sets_of_owners := F_sets_of_owners.binds (ps := ["many"]) fun _ _ _ _ _ _ us hl => match us, hl with | [_], _ => rfl
  obtain ⟨f_can_pay, fd_can_pay, F_can_pay, k_can_pay, m_can_pay⟩ := d_can_pay.get X G
  have b_can_pay := F_can_pay.binds (ps := ["charter", "owners"]) fun _ _ _ _ _ _ us hl => match us, hl with | [_, _], _ => rfl
  obtain ⟨f_without_one, fd_without_one, F_without_one, k_without_one, m_without_one⟩ := d_without_one.get X G
  have b_without_one := F_without_one.binds (ps := ["owners"]) fun _ _ _ _ _ _ us hl => match us, hl with | [_], _ => rfl
  obtain ⟨f_meets_all, fd_meets_all, F_meets_all, k_meets_all, m_meets_all⟩ := d_meets_all.get X G
  have b_meets_all := F_meets_all.binds (ps := ["owners", "sets"]) fun _ _ _ _ _ _ us hl => match us, hl with | [_, _], _ => rfl
  obtain ⟨f_payers, fd_payers, F_payers, k_payers, m_payers⟩ := d_payers.get X G
  have b_payers := F_payers.binds (ps := ["charter"]) fun _ _ _ _ _ _ us hl => match us, hl with | [_], _ => rfl
  obtain ⟨f_stoppers, fd_stoppers, F_stoppers, k_stoppers, m_stoppers⟩ := d_stoppers.get X G
  have b_stoppers := F_stoppers.binds (ps := ["charter"]) fun _ _ _ _ _ _ us hl => match us, hl with | [_], _ => rfl
  obtain ⟨f_L_sh_pays, fd_L_sh_pays, F_L_sh_pays, k_L_sh_pays, m_L_sh_pays⟩ := d_L_sh_pays.get X G
  have b_L_sh_pays := F_L_sh_pays.binds (ps := ["charter", "owners"]) fun _ _ _ _ _ _ us hl => match us, hl with | [_, _], _ => rfl
  obtain ⟨f_L_sh_bank, fd_L_sh_bank, F_L_sh_bank, k_L_sh_bank, m_L_sh_bank⟩ := d_L_sh_bank.get X G
  have b_L_sh_bank := F_L_sh_bank.binds (ps := ["state"]) fun _ _ _ _ _ _ us hl => match us, hl with | [_], _ => rfl
  obtain ⟨f_L_is_truth, fd_L_is_truth, F_L_is_truth, k_L_is_truth, m_L_is_truth⟩ := d_L_is_truth.get X G
  have b_L_is_truth := F_L_is_truth.binds (ps := ["found", "due"]) fun _ _ _ _ _ _ us hl => match us, hl with | [_, _], _ => rfl
  obtain ⟨f_is_begin, fd_is_begin, F_is_begin, k_is_begin, m_is_begin⟩ := d_is_begin.get X G
  have b_is_begin := F_is_begin.binds (ps := ["value"]) fun _ _ _ _ _ _ us hl => match us, hl with | [_], _ => rfl
  obtain ⟨f_is_bank, fd_is_bank, F_is_bank, k_is_bank, m_is_bank⟩ := d_is_bank.get X G
  have b_is_bank := F_is_bank.binds (ps := ["value"]) fun _ _ _ _ _ _ us hl => match us, hl with | [_], _ => rfl
  obtain ⟨f_check_bank, fd_check_bank, F_check_bank, k_check_bank, m_check_bank⟩ := d_check_bank.get X G
  have b_check_bank := F_check_bank.binds (ps := ["bank"]) fun _ _ _ _ _ _ us hl => match us, hl with | [_], _ => rfl
  obtain ⟨f_need_of, fd_need_of, F_need_of, k_need_of, m_need_of⟩ := d_need_of.get X G
  have b_need_of := F_need_of.binds (ps := ["bank"]) fun _ _ _ _ _ _ us hl => match us, hl with | [_], _ => rfl
  obtain ⟨f_is_member, fd_is_member, F_is_member, k_is_member, m_is_member⟩ := d_is_member.get X G
  have b_is_member := F_is_member.binds (ps := ["bank", "value"]) fun _ _ _ _ _ _ us hl => match us, hl with | [_, _], _ => rfl
  obtain ⟨f_are_ascending_members, fd_are_ascending_members, F_are_ascending_members, k_are_ascending_members, m_are_ascending_members⟩ := d_are_ascending_members.get X G
  have b_are_ascending_members := F_are_ascending_members.binds (ps := ["bank", "values"]) fun _ _ _ _ _ _ us hl => match us, hl with | [_, _], _ => rfl
  obtain ⟨f_Sharing_p_is_idle, fd_Sharing_p_is_idle, F_Sharing_p_is_idle, me_Sharing_p_is_idle⟩ := m_Sharing_p_is_idle.get
  have b_Sharing_p_is_idle := F_Sharing_p_is_idle.binds (ps := ["self", "owner"]) fun _ _ _ _ _ _ us hl => match us, hl with | [_, _], _ => rfl
  obtain ⟨f_Sharing_p_is_free, fd_Sharing_p_is_free, F_Sharing_p_is_free, me_Sharing_p_is_free⟩ := m_Sharing_p_is_free.get
  have b_Sharing_p_is_free := F_Sharing_p_is_free.binds (ps := ["self", "member"]) fun _ _ _ _ _ _ us hl => match us, hl with | [_, _], _ => rfl
  obtain ⟨f_Sharing_booked, fd_Sharing_booked, F_Sharing_booked, me_Sharing_booked⟩ := m_Sharing_booked.get
  have b_Sharing_booked := F_Sharing_booked.binds (ps := ["self"]) fun _ _ _ _ _ _ us hl => match us, hl with | [_], _ => rfl
  obtain ⟨f_Sharing_p_can_propose, fd_Sharing_p_can_propose, F_Sharing_p_can_propose, me_Sharing_p_can_propose⟩ := m_Sharing_p_can_propose.get
  have b_Sharing_p_can_propose := F_Sharing_p_can_propose.binds (ps := ["self", "owner"]) fun _ _ _ _ _ _ us hl => match us, hl with | [_, _], _ => rfl
  obtain ⟨f_Sharing_p_can_sign, fd_Sharing_p_can_sign, F_Sharing_p_can_sign, me_Sharing_p_can_sign⟩ := m_Sharing_p_can_sign.get
  have b_Sharing_p_can_sign := F_Sharing_p_can_sign.binds (ps := ["self", "owner", "proposal"]) fun _ _ _ _ _ _ us hl => match us, hl with | [_, _, _], _ => rfl
  obtain ⟨f_Sharing_is_act, fd_Sharing_is_act, F_Sharing_is_act, me_Sharing_is_act⟩ := m_Sharing_is_act.get
  have b_Sharing_is_act := F_Sharing_is_act.binds (ps := ["self", "act"]) fun _ _ _ _ _ _ us hl => match us, hl with | [_, _], _ => rfl
  obtain ⟨f_Sharing_act, fd_Sharing_act, F_Sharing_act, me_Sharing_act⟩ := m_Sharing_act.get
  have b_Sharing_act := F_Sharing_act.binds (ps := ["self", "act"]) fun _ _ _ _ _ _ us hl => match us, hl with | [_, _], _ => rfl
  obtain ⟨f_Sharing_signed, fd_Sharing_signed, F_Sharing_signed, me_Sharing_signed⟩ := m_Sharing_signed.get
  have b_Sharing_signed := F_Sharing_signed.binds (ps := ["self"]) fun _ _ _ _ _ _ us hl => match us, hl with | [_], _ => rfl
  obtain ⟨f_Sharing_p_way_for, fd_Sharing_p_way_for, F_Sharing_p_way_for, me_Sharing_p_way_for⟩ := m_Sharing_p_way_for.get
  have b_Sharing_p_way_for := F_Sharing_p_way_for.binds (ps := ["self", "proposal", "owners", "many"]) fun _ _ _ _ _ _ us hl => match us, hl with | [_, _, _, _], _ => rfl
  obtain ⟨f_Sharing_way_on, fd_Sharing_way_on, F_Sharing_way_on, me_Sharing_way_on⟩ := m_Sharing_way_on.get
  have b_Sharing_way_on := F_Sharing_way_on.binds (ps := ["self"]) fun _ _ _ _ _ _ us hl => match us, hl with | [_], _ => rfl
  obtain ⟨f_Sharing_locked, fd_Sharing_locked, F_Sharing_locked, me_Sharing_locked⟩ := m_Sharing_locked.get
  have b_Sharing_locked := F_Sharing_locked.binds (ps := ["self"]) fun _ _ _ _ _ _ us hl => match us, hl with | [_], _ => rfl
  obtain ⟨f_L_k84_lone, fd_L_k84_lone, F_L_k84_lone, k_L_k84_lone, m_L_k84_lone⟩ := d_L_k84_lone.get X G
  have b_L_k84_lone := F_L_k84_lone.binds (ps := ["bank_here", "charter", "owners", "can"]) fun _ _ _ _ _ _ us hl => match us, hl with | [_, _, _, _], _ => rfl
  obtain ⟨f_law, fd_law, F_law, k_law, m_law⟩ := d_law.get X G
  have b_law := F_law.binds (ps := ["script"]) fun _ _ _ _ _ _ us hl => match us, hl with | [_], _ => rfl
  obtain ⟨f_Sharing_p_can_vote, fd_Sharing_p_can_vote, F_Sharing_p_can_vote, me_Sharing_p_can_vote⟩ := m_Sharing_p_can_vote.get
  have b_Sharing_p_can_vote := F_Sharing_p_can_vote.binds (ps := ["self", "member", "proposal"]) fun _ _ _ _ _ _ us hl => match us, hl with | [_, _, _], _ => rfl
  have e := hfa.symm.trans m_law
  cases e
  have kb_payers : KBinds K fd_payers ["charter"] ["charter"] g1 gV1 := by
    obtain ⟨oc, od, kV, doc, pm, an, cdv, ct, osl, rfl, lk, hcd⟩ := F_payers.ex
    exact kb1 fun w => rfl
  have SC := dk.sc
  obtain ⟨kt, fi, fdi, z, Fi, hi1, hi2⟩ := di.get
  have nmC := PySem.W.mg_of X G dk.aC
  have F_Sharing_init := Fi
  refine ⟨fd_law, ?_, fun base _ _ => ?_⟩
  · obtain ⟨oc, od, kV, doc, pm, an, cdv, ct, osl, rfl, lk, hcd⟩ := F_law.ex
    exact fun s v => .of_eq rfl
  have G_blend := ok_blend (P := l.prog) (w := w) (base := base) F_law_blended T.int
  have G_draw := ok_draw F_law_draw T.int G_blend b_law_blended k_law_blended m_law_blended
  have G_pick := ok_pick F_law_pick T.len G_draw b_law_draw k_law_draw m_law_draw
  have D_L_begun : Def l.prog w K mg base "_law_begun" 1 ["script"] (spBegun K) := ⟨_, _, ok_begun F_law_begun T.abs, b_law_begun, k_law_begun, m_law_begun⟩
  have D_L_draw : Def l.prog w K mg base "_law_draw" 2 ["state", "size_here"] spDraw := ⟨_, _, G_draw, b_law_draw, k_law_draw, m_law_draw⟩
  have D_L_pick : Def l.prog w K mg base "_law_pick" 3 ["state", "several"] (spPick K) := ⟨_, _, G_pick, b_law_pick, k_law_pick, m_law_pick⟩
  have G_is_number_1 := ok_is_number (P := l.prog) (w := w) (mg := mg) (base := base) F_is_number T (PySem.W.mg_of X G n_FIRST_TOO_LONG)
  have D_is_number_1 : Def l.prog w K mg base "is_number" 1 ["value"] (spP R_num) := ⟨_, _, G_is_number_1, b_is_number, k_is_number, m_is_number⟩
  have G_is_number_from_2 := ok_is_number_from (P := l.prog) (w := w) (mg := mg) (base := base) F_is_number_from D_is_number_1
  have D_is_number_from_2 : Def l.prog w K mg base "is_number_from" 2 ["value", "least"] (spP R_from) := ⟨_, _, G_is_number_from_2, b_is_number_from, k_is_number_from, m_is_number_from⟩
  have G_is_number_below_3 := ok_is_number_below (P := l.prog) (w := w) (mg := mg) (base := base) F_is_number_below D_is_number_from_2
  have D_is_number_below_3 : Def l.prog w K mg base "is_number_below" 3 ["value", "limit"] (spP R_below) := ⟨_, _, G_is_number_below_3, b_is_number_below, k_is_number_below, m_is_number_below⟩
  have G_is_ascending_4 := ok_is_ascending (P := l.prog) (w := w) (mg := mg) (base := base) F_is_ascending T
  have D_is_ascending_4 : Def l.prog w K mg base "is_ascending" 1 ["values"] (spP R_asc) := ⟨_, _, G_is_ascending_4, b_is_ascending, k_is_ascending, m_is_ascending⟩
  have G_is_number_of_owners_5 := ok_is_number_of_owners (P := l.prog) (w := w) (mg := mg) (base := base) F_is_number_of_owners (PySem.W.mg_of X G n_MOST_OWNERS) D_is_number_from_2
  have D_is_number_of_owners_5 : Def l.prog w K mg base "is_number_of_owners" 3 ["value"] (spP R_noo) := ⟨_, _, G_is_number_of_owners_5, b_is_number_of_owners, k_is_number_of_owners, m_is_number_of_owners⟩
  have G_are_owners_6 := ok_are_owners (P := l.prog) (w := w) (mg := mg) (base := base) F_are_owners T D_is_number_below_3 D_is_ascending_4
  have D_are_owners_6 : Def l.prog w K mg base "are_owners" 4 ["many", "value"] (spP R_areo) := ⟨_, _, G_are_owners_6, b_are_owners, k_are_owners, m_are_owners⟩
  have G_has_all_7 := ok_has_all (P := l.prog) (w := w) (mg := mg) (base := base) F_has_all T
  have D_has_all_7 : Def l.prog w K mg base "has_all" 1 ["owners", "wanted"] (spP R_hasall) := ⟨_, _, G_has_all_7, b_has_all, k_has_all, m_has_all⟩
  have G_has_lot_8 := ok_has_lot (P := l.prog) (w := w) (mg := mg) (base := base) F_has_lot T D_has_all_7
  have D_has_lot_8 : Def l.prog w K mg base "has_lot" 2 ["charter", "owners"] (spP R_haslot) := ⟨_, _, G_has_lot_8, b_has_lot, k_has_lot, m_has_lot⟩
  have G_is_charter_9 := ok_is_charter (P := l.prog) (w := w) (mg := mg) (base := base) F_is_charter T D_is_number_of_owners_5 D_are_owners_6 D_is_ascending_4 D_has_all_7
  have D_is_charter_9 : Def l.prog w K mg base "is_charter" 5 ["value"] (spP R_isch) := ⟨_, _, G_is_charter_9, b_is_charter, k_is_charter, m_is_charter⟩
  have G_check_charter_10 := ok_check_charter (P := l.prog) (w := w) (mg := mg) (base := base) F_check_charter D_is_charter_9
  have D_check_charter_10 : Def l.prog w K mg base "check_charter" 6 ["charter"] (spP R_check) := ⟨_, _, G_check_charter_10, b_check_charter, k_check_charter, m_check_charter⟩
  have G_L_sh_sets_11 := ok_sets (P := l.prog) (w := w) (mg := mg) (base := base) F_L_sh_sets T
  have D_L_sh_sets_11 : Def l.prog w K mg base "_law_sh_sets" 1 ["many"] (spP R_sets) := ⟨_, _, G_L_sh_sets_11, b_L_sh_sets, k_L_sh_sets, m_L_sh_sets⟩
  have G_L_sh_in_12 := ok_in (P := l.prog) (w := w) (mg := mg) (base := base) F_L_sh_in
  have D_L_sh_in_12 : Def l.prog w K mg base "_law_sh_in" 1 ["part", "whole"] (spP R_in) := ⟨_, _, G_L_sh_in_12, b_L_sh_in, k_L_sh_in, m_L_sh_in⟩
  have G_L_sh_has_13 := ok_hasL (P := l.prog) (w := w) (mg := mg) (base := base) F_L_sh_has D_L_sh_in_12
  have D_L_sh_has_13 : Def l.prog w K mg base "_law_sh_has" 2 ["lots", "owners"] (spP R_hasL) := ⟨_, _, G_L_sh_has_13, b_L_sh_has, k_L_sh_has, m_L_sh_has⟩
  have G_L_sh_least_14 := ok_least (P := l.prog) (w := w) (mg := mg) (base := base) F_L_sh_least T D_L_sh_in_12
  have D_L_sh_least_14 : Def l.prog w K mg base "_law_sh_least" 2 ["parts"] (spP R_least) := ⟨_, _, G_L_sh_least_14, b_L_sh_least, k_L_sh_least, m_L_sh_least⟩
  have G_L_mixed_15 := ok_mixed (P := l.prog) (w := w) (mg := mg) (base := base) F_L_mixed T D_L_draw
  have D_L_mixed_15 : Def l.prog w K mg base "_law_mixed" 3 ["state", "several"] (spSt 6 D_mix R_mix) := ⟨_, _, G_L_mixed_15, b_L_mixed, k_L_mixed, m_L_mixed⟩
  have G_L_sh_lots_16 := ok_lots (P := l.prog) (w := w) (mg := mg) (base := base) F_L_sh_lots T D_L_draw D_L_pick D_L_sh_sets_11 D_L_sh_least_14
  have D_L_sh_lots_16 : Def l.prog w K mg base "_law_sh_lots" 4 ["state", "many"] (spSt 16 D_lots R_lots) := ⟨_, _, G_L_sh_lots_16, b_L_sh_lots, k_L_sh_lots, m_L_sh_lots⟩
  have G_L_sh_charter_17 := ok_charter (P := l.prog) (w := w) (mg := mg) (base := base) F_L_sh_charter T D_L_draw D_L_pick D_L_mixed_15 D_L_sh_lots_16
  have D_L_sh_charter_17 : Def l.prog w K mg base "_law_sh_charter" 5 ["state", "most"] (spSt 24 D_char R_char) := ⟨_, _, G_L_sh_charter_17, b_L_sh_charter, k_L_sh_charter, m_L_sh_charter⟩
  have G_L_sh_any_18 := ok_any (P := l.prog) (w := w) (mg := mg) (base := base) F_L_sh_any T D_L_draw D_L_pick D_L_mixed_15 D_L_sh_sets_11 D_L_sh_least_14 D_L_sh_charter_17
  have D_L_sh_any_18 : Def l.prog w K mg base "_law_sh_any" 6 ["state", "most"] (spSt 30 D_char R_char) := ⟨_, _, G_L_sh_any_18, b_L_sh_any, k_L_sh_any, m_L_sh_any⟩
  have G_sets_of_owners_19 := ok_soo (P := l.prog) (w := w) (mg := mg) (base := base) F_sets_of_owners T
  have D_sets_of_owners_19 : Def l.prog w K mg base "sets_of_owners" 1 ["many"] (spP R_soo) := ⟨_, _, G_sets_of_owners_19, b_sets_of_owners, k_sets_of_owners, m_sets_of_owners⟩
  have G_can_pay_20 := ok_can_pay (P := l.prog) (w := w) (mg := mg) (base := base) F_can_pay T D_has_lot_8
  have D_can_pay_20 : Def l.prog w K mg base "can_pay" 3 ["charter", "owners"] (spP R_can) := ⟨_, _, G_can_pay_20, b_can_pay, k_can_pay, m_can_pay⟩
  have G_without_one_21 := ok_without_one (P := l.prog) (w := w) (mg := mg) (base := base) F_without_one T
  have D_without_one_21 : Def l.prog w K mg base "without_one" 1 ["owners"] (spP R_ones) := ⟨_, _, G_without_one_21, b_without_one, k_without_one, m_without_one⟩
  have G_meets_all_22 := ok_meets_all (P := l.prog) (w := w) (mg := mg) (base := base) F_meets_all T
  have D_meets_all_22 : Def l.prog w K mg base "meets_all" 1 ["owners", "sets"] (spP R_meet) := ⟨_, _, G_meets_all_22, b_meets_all, k_meets_all, m_meets_all⟩
  have G_payers_23 := ok_payers (P := l.prog) (w := w) (mg := mg) (base := base) F_payers T D_check_charter_10 D_sets_of_owners_19 D_can_pay_20 D_without_one_21
  have D_payers_23 : Def l.prog w K mg base "payers" 7 ["charter"] (spP R_pay) := ⟨_, _, G_payers_23, b_payers, k_payers, m_payers⟩
  have G_stoppers_24 := ok_stoppers (P := l.prog) (w := w) (mg := mg) (base := base) F_stoppers T D_payers_23 D_sets_of_owners_19 D_meets_all_22 D_without_one_21
  have D_stoppers_24 : Def l.prog w K mg base "stoppers" 8 ["charter"] (spP R_stop) := ⟨_, _, G_stoppers_24, b_stoppers, k_stoppers, m_stoppers⟩
  have G_L_sh_pays_25 := ok_paysL (P := l.prog) (w := w) (mg := mg) (base := base) F_L_sh_pays D_L_sh_has_13
  have D_L_sh_pays_25 : Def l.prog w K mg base "_law_sh_pays" 3 ["charter", "owners"] (spP R_pays) := ⟨_, _, G_L_sh_pays_25, b_L_sh_pays, k_L_sh_pays, m_L_sh_pays⟩
  have G_L_sh_bank_26 := ok_bankL (P := l.prog) (w := w) (mg := mg) (base := base) F_L_sh_bank D_L_pick
  have D_L_sh_bank_26 : Def l.prog w K mg base "_law_sh_bank" 4 ["state"] (spSt 1 D_bank R_bank) := ⟨_, _, G_L_sh_bank_26, b_L_sh_bank, k_L_sh_bank, m_L_sh_bank⟩
  have G_L_is_truth_27 := ok_truth (P := l.prog) (w := w) (mg := mg) (base := base) F_L_is_truth
  have D_L_is_truth_27 : Def l.prog w K mg base "_law_is_truth" 1 ["found", "due"] (spP R_truth) := ⟨_, _, G_L_is_truth_27, b_L_is_truth, k_L_is_truth, m_L_is_truth⟩
  have G_has_all_28 := ok_all_d (P := l.prog) (w := w) (mg := mg) (base := base) F_has_all T
  have D_has_all_28 : Def l.prog w K mg base "has_all" 1 ["owners", "wanted"] (spAllD) := ⟨_, _, G_has_all_28, b_has_all, k_has_all, m_has_all⟩
  have G_has_lot_29 := ok_lot_d (P := l.prog) (w := w) (mg := mg) (base := base) F_has_lot T D_has_all_28
  have D_has_lot_29 : Def l.prog w K mg base "has_lot" 2 ["charter", "owners"] (spLotD) := ⟨_, _, G_has_lot_29, b_has_lot, k_has_lot, m_has_lot⟩
  have G_is_begin_30 := ok_is_begin (P := l.prog) (w := w) (mg := mg) (base := base) F_is_begin T (PySem.W.mg_of X G n_MOST_PURSES) D_is_number_1 D_is_number_from_2
  have D_is_begin_30 : Def l.prog w K mg base "is_begin" 3 ["value"] (spP R_beg) := ⟨_, _, G_is_begin_30, b_is_begin, k_is_begin, m_is_begin⟩
  have G_is_bank_31 := ok_is_bank (P := l.prog) (w := w) (mg := mg) (base := base) F_is_bank T (PySem.W.mg_of X G n_MOST_MEMBERS) D_is_begin_30 D_is_number_from_2
  have D_is_bank_31 : Def l.prog w K mg base "is_bank" 4 ["value"] (spP R_isbank) := ⟨_, _, G_is_bank_31, b_is_bank, k_is_bank, m_is_bank⟩
  have G_check_bank_32 := ok_check_bank (P := l.prog) (w := w) (mg := mg) (base := base) F_check_bank D_is_bank_31
  have D_check_bank_32 : Def l.prog w K mg base "check_bank" 5 ["bank"] (spP R_chkbank) := ⟨_, _, G_check_bank_32, b_check_bank, k_check_bank, m_check_bank⟩
  have G_need_of_33 := ok_need_of (P := l.prog) (w := w) (mg := mg) (base := base) F_need_of D_check_bank_32
  have D_need_of_33 : Def l.prog w K mg base "need_of" 6 ["bank"] (spP R_need) := ⟨_, _, G_need_of_33, b_need_of, k_need_of, m_need_of⟩
  have G_is_member_34 := ok_is_member (P := l.prog) (w := w) (mg := mg) (base := base) F_is_member D_is_number_below_3
  have D_is_member_34 : Def l.prog w K mg base "is_member" 4 ["bank", "value"] (spP R_mem) := ⟨_, _, G_is_member_34, b_is_member, k_is_member, m_is_member⟩
  have G_are_ascending_members_35 := ok_aam (P := l.prog) (w := w) (mg := mg) (base := base) F_are_ascending_members T D_is_member_34 D_is_ascending_4
  have D_are_ascending_members_35 : Def l.prog w K mg base "are_ascending_members" 5 ["bank", "values"] (spP R_aam) := ⟨_, _, G_are_ascending_members_35, b_are_ascending_members, k_are_ascending_members, m_are_ascending_members⟩
  have G_Sharing_p_is_idle_36 := ok_m_is_idle (P := l.prog) (w := w) (mg := mg) (base := base) F_Sharing_p_is_idle T SC
  have D_Sharing_p_is_idle_36 : DefM l.prog w K mg base C "_is_idle" 1 ["self", "owner"] (spM C R_idle) := ⟨_, _, G_Sharing_p_is_idle_36, b_Sharing_p_is_idle, me_Sharing_p_is_idle⟩
  have G_Sharing_p_is_free_37 := ok_m_is_free (P := l.prog) (w := w) (mg := mg) (base := base) F_Sharing_p_is_free T SC
  have D_Sharing_p_is_free_37 : DefM l.prog w K mg base C "_is_free" 1 ["self", "member"] (spM C (R_free K)) := ⟨_, _, G_Sharing_p_is_free_37, b_Sharing_p_is_free, me_Sharing_p_is_free⟩
  have G_Sharing_booked_38 := ok_m_booked (P := l.prog) (w := w) (mg := mg) (base := base) F_Sharing_booked T SC D_need_of_33
  have D_Sharing_booked_38 : DefM l.prog w K mg base C "booked" 7 ["self"] (spM C R_book) := ⟨_, _, G_Sharing_booked_38, b_Sharing_booked, me_Sharing_booked⟩
  have G_Sharing_p_can_propose_39 := ok_m_can_propose (P := l.prog) (w := w) (mg := mg) (base := base) F_Sharing_p_can_propose T SC (PySem.W.mg_of X G n_MOST_PROPOSALS) SC.cl D_is_number_below_3 D_Sharing_p_is_idle_36
  have D_Sharing_p_can_propose_39 : DefM l.prog w K mg base C "_can_propose" 4 ["self", "owner"] (spM C R_canp) := ⟨_, _, G_Sharing_p_can_propose_39, b_Sharing_p_can_propose, me_Sharing_p_can_propose⟩
  have G_Sharing_p_can_sign_40 := ok_m_can_sign (P := l.prog) (w := w) (mg := mg) (base := base) F_Sharing_p_can_sign T SC SC.cl D_is_number_below_3 D_Sharing_p_is_idle_36
  have D_Sharing_p_can_sign_40 : DefM l.prog w K mg base C "_can_sign" 4 ["self", "owner", "proposal"] (spM C R_cans) := ⟨_, _, G_Sharing_p_can_sign_40, b_Sharing_p_can_sign, me_Sharing_p_can_sign⟩
  have G_Sharing_signed_41 := ok_m_signed (P := l.prog) (w := w) (mg := mg) (base := base) F_Sharing_signed T SC D_has_lot_29
  have D_Sharing_signed_41 : DefM l.prog w K mg base C "signed" 3 ["self"] (spSig C) := ⟨_, _, G_Sharing_signed_41, b_Sharing_signed, me_Sharing_signed⟩
  have G_is_ascending_42 := ok_ascK (P := l.prog) (w := w) (mg := mg) (base := base) F_is_ascending T
  have D_is_ascending_42 : Def l.prog w K mg base "is_ascending" 1 ["values"] (spAscK K) := ⟨_, _, G_is_ascending_42, b_is_ascending, k_is_ascending, m_is_ascending⟩
  have G_are_ascending_members_43 := ok_aamK (P := l.prog) (w := w) (mg := mg) (base := base) F_are_ascending_members T D_is_member_34 D_is_ascending_42
  have D_are_ascending_members_43 : Def l.prog w K mg base "are_ascending_members" 5 ["bank", "values"] (spAamK K) := ⟨_, _, G_are_ascending_members_43, b_are_ascending_members, k_are_ascending_members, m_are_ascending_members⟩
  have G_Sharing_init_44 := ok_m_init (P := l.prog) (w := w) (mg := mg) (base := base) F_Sharing_init T SC D_are_ascending_members_43 D_are_owners_6 D_check_charter_10 D_check_bank_32
  have MS := mkS_of kt Fi hi1 hi2 dk nmC G_Sharing_init_44
  have G_Sharing_p_way_for_45 := ok_m_way_for (P := l.prog) (w := w) (mg := mg) (base := base) F_Sharing_p_way_for T SC SC.cl D_Sharing_p_is_free_37 D_need_of_33 D_Sharing_p_is_idle_36 D_has_lot_8 D_has_all_7
  have D_Sharing_p_way_for_45 : DefM l.prog w K mg base C "_way_for" 7 ["self", "proposal", "owners", "many"] (spMA C (D_way K) R_way) := ⟨_, _, G_Sharing_p_way_for_45, b_Sharing_p_way_for, me_Sharing_p_way_for⟩
  have G_Sharing_way_on_46 := ok_m_way_on (P := l.prog) (w := w) (mg := mg) (base := base) F_Sharing_way_on T SC SC.cl D_Sharing_booked_38 D_Sharing_p_way_for_45 D_Sharing_p_can_propose_39
  have D_Sharing_way_on_46 : DefM l.prog w K mg base C "way_on" 8 ["self"] (spMA C (D_on K) R_on) := ⟨_, _, G_Sharing_way_on_46, b_Sharing_way_on, me_Sharing_way_on⟩
  have G_Sharing_locked_47 := ok_m_locked (P := l.prog) (w := w) (mg := mg) (base := base) F_Sharing_locked SC SC.cl D_Sharing_way_on_46
  have D_Sharing_locked_47 : DefM l.prog w K mg base C "locked" 9 ["self"] (spM C (R_locked K)) := ⟨_, _, G_Sharing_locked_47, b_Sharing_locked, me_Sharing_locked⟩
  have G_Sharing_p_can_vote_48 := ok_m_can_vote (P := l.prog) (w := w) (mg := mg) (base := base) F_Sharing_p_can_vote
  have D_Sharing_p_can_vote_48 : DefM l.prog w K mg base C "_can_vote" 5 ["self", "member", "proposal"] (spNo) := ⟨_, _, G_Sharing_p_can_vote_48, b_Sharing_p_can_vote, me_Sharing_p_can_vote⟩
  have G_Sharing_is_act_49 := ok_m_is_act (P := l.prog) (w := w) (mg := mg) (base := base) F_Sharing_is_act T SC SC.cl D_Sharing_p_can_vote_48 D_Sharing_p_can_sign_40 D_is_number_below_3 D_Sharing_p_can_propose_39
  have D_Sharing_is_act_49 : DefM l.prog w K mg base C "is_act" 6 ["self", "act"] (spM C R_isact) := ⟨_, _, G_Sharing_is_act_49, b_Sharing_is_act, me_Sharing_is_act⟩
  have G_Sharing_act_50 := ok_m_actP (P := l.prog) (w := w) (mg := mg) (base := base) F_Sharing_act T SC SC.cl D_Sharing_is_act_49
  have D_Sharing_act_50 : DefM l.prog w K mg base C "act" 7 ["self", "act"] (spActP C) := ⟨_, _, G_Sharing_act_50, b_Sharing_act, me_Sharing_act⟩
  have G_Sharing_act_51 := ok_m_actS (P := l.prog) (w := w) (mg := mg) (base := base) F_Sharing_act T SC SC.cl D_Sharing_is_act_49
  have D_Sharing_act_51 : DefM l.prog w K mg base C "act" 7 ["self", "act"] (spActS C) := ⟨_, _, G_Sharing_act_51, b_Sharing_act, me_Sharing_act⟩
  have G_L_k84_lone_52 := ok_lone (P := l.prog) (w := w) (mg := mg) (base := base) F_L_k84_lone T MS SC.cl D_Sharing_act_50 D_Sharing_act_51 D_Sharing_signed_41
  have D_L_k84_lone_52 : Def l.prog w K mg base "_law_k84_lone" 9 ["bank_here", "charter", "owners", "can"] (spP R_lone) := ⟨_, _, G_L_k84_lone_52, b_L_k84_lone, k_L_k84_lone, m_L_k84_lone⟩
  exact ok_law (P := l.prog) (w := w) (mg := mg) (base := base) F_law T MS SC.cl D_L_begun D_L_pick D_L_sh_any_18 D_L_sh_bank_26 D_L_sh_sets_11 D_L_sh_pays_25 ⟨_, _, G_payers_23, kb_payers, k_payers, m_payers⟩ D_stoppers_24 D_L_sh_least_14 D_L_sh_has_13 D_L_k84_lone_52 D_L_is_truth_27 D_Sharing_locked_47
theorem walk {l : PySem.W.OpenLaw} {q : Program} {loose : List Str} {XP : (Str → Option Value) → Heap → Prop} {YP : World → Heap → Prop} {d : DefRec} {K : Params → PySem.W.Frag} (hn : l.most = some 63) (hdf : d.params.defaults = [])
    (hY : ∀ (w : World) (h : Heap), YP w h → (K w.params).In h)
    (F : ∀ (w : World) (mg : Str → Option Value) (fa : Addr) (h : Heap), (K w.params).In h → h.Ns mainGlobals mg → mg d.name = some (.ref fa) →
      ∃ fd : FuncData, (∀ (s : Shared) (u : Value), BindsTo s fd ⟨[u], []⟩ [("script", u)]) ∧ ∀ base : Heap, (K w.params).In base → base.Ns mainGlobals mg → FnOk l.prog w (K w.params) mg base CX0 11 fa fd ["script"] (spLaw (K w.params))) :
    PySem.W.WalkO q loose XP YP l.row.toRowW d [] (fun f vs => PySem.call f vs) :=
  L2.walk_of (n := 63) (k := 11) (x := "script") (CX := fun _ => CX0) (sp := fun w => spLaw (K w.params)) hn (by decide) hdf ⟨rfl, by decide, by decide⟩ hY F (fun _ _ a ns hl _ hS => ⟨a, ns, rfl, hS, hl, fun _ => rfl⟩) fun _ _ _ _ _ z => z
end Pu

open PySem PySem.W PyProof.Rows
set_option maxRecDepth 100000 in
set_option maxHeartbeats 0 in
theorem PySem.Challenge.cw_pursesapart_k84_whole_who_can_pay_and_wh_holds : PySem.Challenge.rw_pursesapart_k84_whole_who_can_pay_and_wh.Holds := by
  w_on; o_law; k_head; (case hw => w_witness2)
  k_fill
  refine Pu.walk (l := PySem.Challenge.rw_pursesapart_k84_whole_who_can_pay_and_wh) rfl rfl (fun w h Y => PySem.W.kIn_of Y) ?F
  case F =>
    intro w mg fa h KX G hmg
    refine' Pu.all_mk KX G hmg ?u_d_law_begun ?u_d_law_blended ?u_d_law_draw ?u_d_law_pick ?u_d_is_number ?u_d_is_number_from ?u_d_is_number_below ?u_d_is_ascending ?u_d_is_number_of_owners ?u_d_are_owners ?u_d_has_all ?u_d_has_lot ?u_d_is_charter ?u_d_check_charter ?u_d_L_sh_sets ?u_d_L_sh_in ?u_d_L_sh_has ?u_d_L_sh_least ?u_d_L_mixed ?u_d_L_sh_lots ?u_d_L_sh_charter ?u_d_L_sh_any ?u_d_sets_of_owners ?u_d_can_pay ?u_d_without_one ?u_d_meets_all ?u_d_payers ?u_d_stoppers ?u_d_L_sh_pays ?u_d_L_sh_bank ?u_d_L_is_truth ?u_d_is_begin ?u_d_is_bank ?u_d_check_bank ?u_d_need_of ?u_d_is_member ?u_d_are_ascending_members ?u_m_Sharing_p_is_idle ?u_m_Sharing_p_is_free ?u_m_Sharing_booked ?u_m_Sharing_p_can_propose ?u_m_Sharing_p_can_sign ?u_m_Sharing_is_act ?u_m_Sharing_act ?u_m_Sharing_signed ?u_m_Sharing_p_way_for ?u_m_Sharing_way_on ?u_m_Sharing_locked ?u_d_L_k84_lone ?u_d_law ?u_m_Sharing_p_can_vote ?u_x_dk ?u_x_di ?u_n_FIRST_TOO_LONG ?u_n_MOST_OWNERS ?u_n_MOST_PURSES ?u_n_MOST_MEMBERS ?u_n_MOST_PROPOSALS ?u_z_len ?u_z_list ?u_z_tuple ?u_z_all ?u_z_any ?u_z_sum ?u_z_min ?u_z_sorted ?u_z_set ?u_z_range ?u_z_enumerate ?u_z_zip ?u_z_int ?u_z_bool ?u_z_abs ?u_z_isinstance
    (case u_d_law_begun => refine' Pu.defAt_mk ?v_a ?v_l ?v_c ?v_k; (case v_a => k_is); (case v_l => k_is); (case v_c => k_is); (case v_k => k_is))
    (case u_d_law_blended => refine' Pu.defAt_mk ?v_a ?v_l ?v_c ?v_k; (case v_a => k_is); (case v_l => k_is); (case v_c => k_is); (case v_k => k_is))
    (case u_d_law_draw => refine' Pu.defAt_mk ?v_a ?v_l ?v_c ?v_k; (case v_a => k_is); (case v_l => k_is); (case v_c => k_is); (case v_k => k_is))
    (case u_d_law_pick => refine' Pu.defAt_mk ?v_a ?v_l ?v_c ?v_k; (case v_a => k_is); (case v_l => k_is); (case v_c => k_is); (case v_k => k_is))
    (case u_d_is_number => refine' Pu.defAt_mk ?v_a ?v_l ?v_c ?v_k; (case v_a => k_is); (case v_l => k_is); (case v_c => k_is); (case v_k => k_is))
    (case u_d_is_number_from => refine' Pu.defAt_mk ?v_a ?v_l ?v_c ?v_k; (case v_a => k_is); (case v_l => k_is); (case v_c => k_is); (case v_k => k_is))
    (case u_d_is_number_below => refine' Pu.defAt_mk ?v_a ?v_l ?v_c ?v_k; (case v_a => k_is); (case v_l => k_is); (case v_c => k_is); (case v_k => k_is))
    (case u_d_is_ascending => refine' Pu.defAt_mk ?v_a ?v_l ?v_c ?v_k; (case v_a => k_is); (case v_l => k_is); (case v_c => k_is); (case v_k => k_is))
    (case u_d_is_number_of_owners => refine' Pu.defAt_mk ?v_a ?v_l ?v_c ?v_k; (case v_a => k_is); (case v_l => k_is); (case v_c => k_is); (case v_k => k_is))
    (case u_d_are_owners => refine' Pu.defAt_mk ?v_a ?v_l ?v_c ?v_k; (case v_a => k_is); (case v_l => k_is); (case v_c => k_is); (case v_k => k_is))
    (case u_d_has_all => refine' Pu.defAt_mk ?v_a ?v_l ?v_c ?v_k; (case v_a => k_is); (case v_l => k_is); (case v_c => k_is); (case v_k => k_is))
    (case u_d_has_lot => refine' Pu.defAt_mk ?v_a ?v_l ?v_c ?v_k; (case v_a => k_is); (case v_l => k_is); (case v_c => k_is); (case v_k => k_is))
    (case u_d_is_charter => refine' Pu.defAt_mk ?v_a ?v_l ?v_c ?v_k; (case v_a => k_is); (case v_l => k_is); (case v_c => k_is); (case v_k => k_is))
    (case u_d_check_charter => refine' Pu.defAt_mk ?v_a ?v_l ?v_c ?v_k; (case v_a => k_is); (case v_l => k_is); (case v_c => k_is); (case v_k => k_is))
    (case u_d_L_sh_sets => refine' Pu.defAt_mk ?v_a ?v_l ?v_c ?v_k; (case v_a => k_is); (case v_l => k_is); (case v_c => k_is); (case v_k => k_is))
    (case u_d_L_sh_in => refine' Pu.defAt_mk ?v_a ?v_l ?v_c ?v_k; (case v_a => k_is); (case v_l => k_is); (case v_c => k_is); (case v_k => k_is))
    (case u_d_L_sh_has => refine' Pu.defAt_mk ?v_a ?v_l ?v_c ?v_k; (case v_a => k_is); (case v_l => k_is); (case v_c => k_is); (case v_k => k_is))
    (case u_d_L_sh_least => refine' Pu.defAt_mk ?v_a ?v_l ?v_c ?v_k; (case v_a => k_is); (case v_l => k_is); (case v_c => k_is); (case v_k => k_is))
    (case u_d_L_mixed => refine' Pu.defAt_mk ?v_a ?v_l ?v_c ?v_k; (case v_a => k_is); (case v_l => k_is); (case v_c => k_is); (case v_k => k_is))
    (case u_d_L_sh_lots => refine' Pu.defAt_mk ?v_a ?v_l ?v_c ?v_k; (case v_a => k_is); (case v_l => k_is); (case v_c => k_is); (case v_k => k_is))
    (case u_d_L_sh_charter => refine' Pu.defAt_mk ?v_a ?v_l ?v_c ?v_k; (case v_a => k_is); (case v_l => k_is); (case v_c => k_is); (case v_k => k_is))
    (case u_d_L_sh_any => refine' Pu.defAt_mk ?v_a ?v_l ?v_c ?v_k; (case v_a => k_is); (case v_l => k_is); (case v_c => k_is); (case v_k => k_is))
    (case u_d_sets_of_owners => refine' Pu.defAt_mk ?v_a ?v_l ?v_c ?v_k; (case v_a => k_is); (case v_l => k_is); (case v_c => k_is); (case v_k => k_is))
    (case u_d_can_pay => refine' Pu.defAt_mk ?v_a ?v_l ?v_c ?v_k; (case v_a => k_is); (case v_l => k_is); (case v_c => k_is); (case v_k => k_is))
    (case u_d_without_one => refine' Pu.defAt_mk ?v_a ?v_l ?v_c ?v_k; (case v_a => k_is); (case v_l => k_is); (case v_c => k_is); (case v_k => k_is))
    (case u_d_meets_all => refine' Pu.defAt_mk ?v_a ?v_l ?v_c ?v_k; (case v_a => k_is); (case v_l => k_is); (case v_c => k_is); (case v_k => k_is))
    (case u_d_payers => refine' Pu.defAt_mk ?v_a ?v_l ?v_c ?v_k; (case v_a => k_is); (case v_l => k_is); (case v_c => k_is); (case v_k => k_is))
    (case u_d_stoppers => refine' Pu.defAt_mk ?v_a ?v_l ?v_c ?v_k; (case v_a => k_is); (case v_l => k_is); (case v_c => k_is); (case v_k => k_is))
    (case u_d_L_sh_pays => refine' Pu.defAt_mk ?v_a ?v_l ?v_c ?v_k; (case v_a => k_is); (case v_l => k_is); (case v_c => k_is); (case v_k => k_is))
    (case u_d_L_sh_bank => refine' Pu.defAt_mk ?v_a ?v_l ?v_c ?v_k; (case v_a => k_is); (case v_l => k_is); (case v_c => k_is); (case v_k => k_is))
    (case u_d_L_is_truth => refine' Pu.defAt_mk ?v_a ?v_l ?v_c ?v_k; (case v_a => k_is); (case v_l => k_is); (case v_c => k_is); (case v_k => k_is))
    (case u_d_is_begin => refine' Pu.defAt_mk ?v_a ?v_l ?v_c ?v_k; (case v_a => k_is); (case v_l => k_is); (case v_c => k_is); (case v_k => k_is))
    (case u_d_is_bank => refine' Pu.defAt_mk ?v_a ?v_l ?v_c ?v_k; (case v_a => k_is); (case v_l => k_is); (case v_c => k_is); (case v_k => k_is))
    (case u_d_check_bank => refine' Pu.defAt_mk ?v_a ?v_l ?v_c ?v_k; (case v_a => k_is); (case v_l => k_is); (case v_c => k_is); (case v_k => k_is))
    (case u_d_need_of => refine' Pu.defAt_mk ?v_a ?v_l ?v_c ?v_k; (case v_a => k_is); (case v_l => k_is); (case v_c => k_is); (case v_k => k_is))
    (case u_d_is_member => refine' Pu.defAt_mk ?v_a ?v_l ?v_c ?v_k; (case v_a => k_is); (case v_l => k_is); (case v_c => k_is); (case v_k => k_is))
    (case u_d_are_ascending_members => refine' Pu.defAt_mk ?v_a ?v_l ?v_c ?v_k; (case v_a => k_is); (case v_l => k_is); (case v_c => k_is); (case v_k => k_is))
    (case u_d_L_k84_lone => refine' Pu.defAt_mk ?v_a ?v_l ?v_c ?v_k; (case v_a => k_is); (case v_l => k_is); (case v_c => k_is); (case v_k => k_is))
    (case u_d_law => refine' Pu.defAt_mk ?v_a ?v_l ?v_c ?v_k; (case v_a => k_is); (case v_l => k_is); (case v_c => k_is); (case v_k => k_is))
    (case u_x_dk => refine' ⟨?w1, ?w2, ?w3, ?w4, ?w5, ?w6, ?w7, ?w8, ?w9, ?wa, ?wb, ?wc, ?wd, ?we, ?wf⟩; (case w1 => k_is); (case w2 => kernel_rfl); (case w3 => k_is); (case w4 => kernel_rfl); (case w5 => k_is); (case w6 => k_is); (case w7 => k_is); (case w8 => k_is); (case w9 => k_is); (case wa => k_is); (case wb => k_is); (case wc => k_is); (case wd => k_is); (case we => kernel_rfl); (case wf => k_is))
    (case u_x_di => refine' Pu.initAt_mk ?v_a ?v_l ?v_c ?v_k ?v_f ?v_t ?v_i ?v_e ?v_j; (case v_a => k_is); (case v_l => k_is); (case v_c => k_is); (case v_k => k_is); (case v_f => k_is); (case v_t => k_is); (case v_i => rfl); (case v_e => k_is); (case v_j => rfl))
    (case u_n_FIRST_TOO_LONG => k_is)
    (case u_n_MOST_OWNERS => k_is)
    (case u_n_MOST_PURSES => k_is)
    (case u_n_MOST_MEMBERS => k_is)
    (case u_n_MOST_PROPOSALS => k_is)
    (case u_z_len => k_is)
    (case u_z_list => k_is)
    (case u_z_tuple => k_is)
    (case u_z_all => k_is)
    (case u_z_any => k_is)
    (case u_z_sum => k_is)
    (case u_z_min => k_is)
    (case u_z_sorted => k_is)
    (case u_z_set => k_is)
    (case u_z_range => k_is)
    (case u_z_enumerate => k_is)
    (case u_z_zip => k_is)
    (case u_z_int => k_is)
    (case u_z_bool => k_is)
    (case u_z_abs => k_is)
    (case u_z_isinstance => k_is)
    (case u_m_Sharing_p_is_idle => refine' Pu.methAt_mk ?v_a ?v_l ?v_c ?v_k ?v_f; (case v_a => k_is); (case v_l => k_is); (case v_c => k_is); (case v_k => k_is); (case v_f => k_is))
    (case u_m_Sharing_p_is_free => refine' Pu.methAt_mk ?v_a ?v_l ?v_c ?v_k ?v_f; (case v_a => k_is); (case v_l => k_is); (case v_c => k_is); (case v_k => k_is); (case v_f => k_is))
    (case u_m_Sharing_booked => refine' Pu.methAt_mk ?v_a ?v_l ?v_c ?v_k ?v_f; (case v_a => k_is); (case v_l => k_is); (case v_c => k_is); (case v_k => k_is); (case v_f => k_is))
    (case u_m_Sharing_p_can_propose => refine' Pu.methAt_mk ?v_a ?v_l ?v_c ?v_k ?v_f; (case v_a => k_is); (case v_l => k_is); (case v_c => k_is); (case v_k => k_is); (case v_f => k_is))
    (case u_m_Sharing_p_can_sign => refine' Pu.methAt_mk ?v_a ?v_l ?v_c ?v_k ?v_f; (case v_a => k_is); (case v_l => k_is); (case v_c => k_is); (case v_k => k_is); (case v_f => k_is))
    (case u_m_Sharing_is_act => refine' Pu.methAt_mk ?v_a ?v_l ?v_c ?v_k ?v_f; (case v_a => k_is); (case v_l => k_is); (case v_c => k_is); (case v_k => k_is); (case v_f => k_is))
    (case u_m_Sharing_act => refine' Pu.methAt_mk ?v_a ?v_l ?v_c ?v_k ?v_f; (case v_a => k_is); (case v_l => k_is); (case v_c => k_is); (case v_k => k_is); (case v_f => k_is))
    (case u_m_Sharing_signed => refine' Pu.methAt_mk ?v_a ?v_l ?v_c ?v_k ?v_f; (case v_a => k_is); (case v_l => k_is); (case v_c => k_is); (case v_k => k_is); (case v_f => k_is))
    (case u_m_Sharing_p_way_for => refine' Pu.methAt_mk ?v_a ?v_l ?v_c ?v_k ?v_f; (case v_a => k_is); (case v_l => k_is); (case v_c => k_is); (case v_k => k_is); (case v_f => k_is))
    (case u_m_Sharing_way_on => refine' Pu.methAt_mk ?v_a ?v_l ?v_c ?v_k ?v_f; (case v_a => k_is); (case v_l => k_is); (case v_c => k_is); (case v_k => k_is); (case v_f => k_is))
    (case u_m_Sharing_locked => refine' Pu.methAt_mk ?v_a ?v_l ?v_c ?v_k ?v_f; (case v_a => k_is); (case v_l => k_is); (case v_c => k_is); (case v_k => k_is); (case v_f => k_is))
    (case u_m_Sharing_p_can_vote => refine' Pu.methAt_mk ?v_a ?v_l ?v_c ?v_k ?v_f; (case v_a => k_is); (case v_l => k_is); (case v_c => k_is); (case v_k => k_is); (case v_f => k_is))
