import PyProof.Rows.All
import Wide.All
import OpenK.AllK
import Wide.FinOn
import HandS.Base
import HandS.Call
import HandS.List
import HandS.Comp
import HandS.Dict
import HandS.Words
import HandS.Lambda
import HandS.Codes
import HandS.Wide
import HandS.IsInst
import HandS.TupAny
import HandS.Style
import HandS.Walk
import HandS.Flow
import KE.GoesNew
import KE.GoesZip
import KE.GoesMore
import KE.KDictZip
import PyProof.ZipIter
import PyProof.ListNew
import PyProof.ListRange
import HandS.Zip
import HandS.Set
import HandS.SetFor
import HandS.TupSets
import HandS.Strs
import HandS.NamedTupSort
import HandS.SortInts
import HandS.Conv
import KE.BitLaws
import HandS.TupMul
import PyProof.CollectIter
import PyProof.Draws
import PyProof.EnumStmt
import HandS.Exc
import HandS.ExcOwn
import HandS.WordsExc
import HandS.ExcIs
import HandS.EndTab
import HandS.ExcValue
import PySem.Challenge.RW_pursesapart_k85_whole_torn_splits
set_option Elab.async false
set_option linter.all false
set_option maxRecDepth 100000
set_option maxHeartbeats 0
namespace Pu
open PySem L2
def top (i : Nat) : Stmt := PySem.Challenge.pw_pursesapart_k85_whole_torn_splits.main.body.getD i (.Pass ⟨0, 0, 0, 0⟩)
abbrev sBegun : Stmt := top 32
abbrev sBlend : Stmt := top 33
abbrev sDraw : Stmt := top 34
abbrev sPick : Stmt := top 35

/-! ### heaps: all stays but at the state's dict d and the list g -/
def Kp (d g : Addr) (H H' : Hp) : Prop := ∀ b o, H b = some o → b ≠ d → b ≠ g → H' b = some o
theorem Kp.refl (d g : Addr) (H : Hp) : Kp d g H H := fun _ _ h _ _ => h
theorem Kp.trans {d g : Addr} {H H1 H2 : Hp} (a : Kp d g H H1) (b : Kp d g H1 H2) : Kp d g H H2 := fun c o h x y => b c o (a c o h x y) x y
theorem Kp.of {d g : Addr} {H H' : Hp} (s : Same H H') : Kp d g H H' := fun c o h _ _ => s c o h
theorem Kp.new {d g p : Addr} {H : Hp} {o : HO} (n : H p = none) : Kp d g H (upd H p o) := fun c u h _ _ => by
  rw [upd_ne (ne_of_none h n)]; exact h
theorem Kp.atD {d g : Addr} {H : Hp} {o : HO} : Kp d g H (upd H d o) := fun c u h x _ => by
  rw [upd_ne x]; exact h
theorem Kp.atG {d g : Addr} {H : Hp} {o : HO} : Kp d g H (upd H g o) := fun c u h _ y => by
  rw [upd_ne y]; exact h
theorem Kp.rd {d g a : Addr} {H H' : Hp} {u : HO} (k : Kp d g H H') (h : Rd H a u) (x : a ≠ d) (y : a ≠ g) : Rd H' a u := by
  rcases h with h | ⟨o, h⟩
  · exact .inl (k _ _ h x y)
  · exact .inr ⟨o, k _ _ h x y⟩
theorem Kp.seqL {K : PySem.W.Frag} {d g a : Addr} {H H' : Hp} {xs : List V} (k : Kp d g H H') (h : SqL K H a xs) (x : a ≠ d) (y : a ≠ g) : SqL K H' a xs := by
  rcases h with h | h
  · exact .inl (k.rd h x y)
  · exact .inr h
theorem Kp.seqT {K : PySem.W.Frag} {d g a : Addr} {H H' : Hp} {xs : List V} (k : Kp d g H H') (h : SqT K H a xs) (x : a ≠ d) (y : a ≠ g) : SqT K H' a xs := by
  rcases h with h | h
  · exact .inl (k.rd h x y)
  · exact .inr h

/-! ### the state of the draws -/
theorem n_gc : ¬ (("great" : Str) = "cells") := by decide +kernel
theorem n_gl : ¬ (("great" : Str) = "left") := by decide +kernel
theorem n_gt : ¬ (("great" : Str) = "turn") := by decide +kernel
theorem n_cl : ¬ (("cells" : Str) = "left") := by decide +kernel
theorem n_ct : ¬ (("cells" : Str) = "turn") := by decide +kernel
theorem n_lt : ¬ (("left" : Str) = "turn") := by decide +kernel
theorem n_tl : ¬ (("turn" : Str) = "left") := by decide +kernel
def stk (g c : Addr) (l t : Int) : List (Key × V) := [(.inr "great", .ref g), (.inr "cells", .ref c), (.inr "left", .int l), (.inr "turn", .int t)]
theorem stk_great (g c : Addr) (l t : Int) : valV (stk g c l t) (.inr "great" : Key) = some (.ref g) := valV_pos rfl
theorem stk_cells (g c : Addr) (l t : Int) : valV (stk g c l t) (.inr "cells" : Key) = some (.ref c) :=
  (valV_neg fun e => n_gc (Sum.inr.inj e)).trans (valV_pos rfl)
theorem stk_left (g c : Addr) (l t : Int) : valV (stk g c l t) (.inr "left" : Key) = some (.int l) :=
  (valV_neg fun e => n_gl (Sum.inr.inj e)).trans ((valV_neg fun e => n_cl (Sum.inr.inj e)).trans (valV_pos rfl))
theorem stk_turn (g c : Addr) (l t : Int) : valV (stk g c l t) (.inr "turn" : Key) = some (.int t) :=
  (valV_neg fun e => n_gt (Sum.inr.inj e)).trans ((valV_neg fun e => n_ct (Sum.inr.inj e)).trans ((valV_neg fun e => n_lt (Sum.inr.inj e)).trans (valV_pos rfl)))
theorem stk_putL (g c : Addr) (l t z : Int) : putK (stk g c l t) (.inr "left" : Key) (.int z) = stk g c z t := by
  unfold putK
  rw [valV_any, stk_left]
  rw [if_pos (by rfl)]
  simp only [stk, List.map_cons, List.map_nil, Sum.inr.injEq, n_gl, n_cl, n_tl, if_true, if_false]
theorem stk_putT (g c : Addr) (l t z : Int) : putK (stk g c l t) (.inr "turn" : Key) (.int z) = stk g c l z := by
  unfold putK
  rw [valV_any, stk_turn]
  rw [if_pos (by rfl)]
  simp only [stk, List.map_cons, List.map_nil, Sum.inr.injEq, n_gt, n_ct, n_lt, if_true, if_false]
theorem stk_merge (g c : Addr) (l t : Int) : mergeK [] (stk g c l t) = stk g c l t := by
  have e1 : putK ([] : List (Key × V)) (.inr "great") (.ref g) = [(.inr "great", .ref g)] := putK_new _ rfl
  have e2 : putK ([(.inr "great", .ref g)] : List (Key × V)) (.inr "cells") (.ref c) = [(.inr "great", .ref g), (.inr "cells", .ref c)] :=
    putK_new _ ((valV_neg fun e => n_gc (Sum.inr.inj e)).trans rfl)
  have e3 : putK ([(.inr "great", .ref g), (.inr "cells", .ref c)] : List (Key × V)) (.inr "left") (.int l) = [(.inr "great", .ref g), (.inr "cells", .ref c), (.inr "left", .int l)] :=
    putK_new _ ((valV_neg fun e => n_gl (Sum.inr.inj e)).trans ((valV_neg fun e => n_cl (Sum.inr.inj e)).trans rfl))
  have e4 : putK ([(.inr "great", .ref g), (.inr "cells", .ref c), (.inr "left", .int l)] : List (Key × V)) (.inr "turn") (.int t) = stk g c l t :=
    putK_new _ ((valV_neg fun e => n_gt (Sum.inr.inj e)).trans ((valV_neg fun e => n_ct (Sum.inr.inj e)).trans ((valV_neg fun e => n_lt (Sum.inr.inj e)).trans rfl)))
  show putK (putK (putK (putK ([] : List (Key × V)) (.inr "great") (.ref g)) (.inr "cells") (.ref c)) (.inr "left") (.int l)) (.inr "turn") (.int t) = _
  rw [e1, e2, e3, e4]
/-- the state stands at d: its lists at g and c, T the most turns that were -/
structure StA (H : Hp) (d g c : Addr) (T : Int) : Prop where
  dk : ∃ l t, H d = some (.dK (stk g c l t)) ∧ 0 ≤ l ∧ 0 ≤ t ∧ t ≤ T
  gr : ∃ gs : List Int, H g = some (.lst (gs.map V.int)) ∧ ∀ z ∈ gs, 0 ≤ z
  ce : ∃ cs : List Int, H c = some (.lst (cs.map V.int)) ∧ ∀ z ∈ cs, 0 ≤ z
  gc : g ≠ c
theorem StA.dg {H : Hp} {d g c : Addr} {T : Int} (S : StA H d g c T) : d ≠ g := by
  obtain ⟨l, t, h, _⟩ := S.dk; obtain ⟨gs, h2, _⟩ := S.gr
  exact ne_of h h2 (by intro z; cases z)
theorem StA.dc {H : Hp} {d g c : Addr} {T : Int} (S : StA H d g c T) : d ≠ c := by
  obtain ⟨l, t, h, _⟩ := S.dk; obtain ⟨gs, h2, _⟩ := S.ce
  exact ne_of h h2 (by intro z; cases z)
theorem StA.mono {H : Hp} {d g c : Addr} {T T' : Int} (S : StA H d g c T) (h : T ≤ T') : StA H d g c T' := by
  obtain ⟨l, t, h1, h2, h3, h4⟩ := S.dk
  exact ⟨⟨l, t, h1, h2, h3, Int.le_trans h4 h⟩, S.gr, S.ce, S.gc⟩
theorem StA.same {H H' : Hp} {d g c : Addr} {T : Int} (S : StA H d g c T) (s : Same H H') : StA H' d g c T := by
  obtain ⟨l, t, h1, h2, h3, h4⟩ := S.dk
  obtain ⟨gs, h5, h6⟩ := S.gr
  obtain ⟨cs, h7, h8⟩ := S.ce
  exact ⟨⟨l, t, s _ _ h1, h2, h3, h4⟩, ⟨gs, s _ _ h5, h6⟩, ⟨cs, s _ _ h7, h8⟩, S.gc⟩
theorem StA.new {H : Hp} {d g c p : Addr} {T : Int} {o : HO} (S : StA H d g c T) (n : H p = none) : StA (upd H p o) d g c T :=
  S.same fun b u e => by rw [upd_ne (ne_of_none e n)]; exact e
/-- the bound of the turns: far beyond what a law draws -/
abbrev TB : Int := 1000000000000

def spBegun (K : PySem.W.Frag) : Sp := fun vs H Q _ => ∃ (a : Addr) (ns : List Int), vs = [.ref a] ∧ SqL K H a (ns.map V.int) ∧ ns.length ≤ 1000 ∧
  ∀ (d g c : Addr) (H' : Hp), Same H H' → H d = none → H g = none → H c = none → StA H' d g c 0 → Q (.ref d) H'
def spBlend : Sp := fun vs H Q _ => ∃ (d g c : Addr) (T : Int), vs = [.ref d] ∧ StA H d g c T ∧ T < TB ∧
  ∀ (f : Int) (H' : Hp), 0 ≤ f → Kp d g H H' → StA H' d g c (T + 1) → Q (.int f) H'
def spDraw : Sp := fun vs H Q _ => ∃ (d g c : Addr) (T n : Int), vs = [.ref d, .int n] ∧ StA H d g c T ∧ T < TB ∧ 0 < n ∧ n ≤ 1000000000000000000 ∧
  ∀ (r : Int) (H' : Hp), 0 ≤ r → r < n → Kp d g H H' → StA H' d g c (T + 1) → Q (.int r) H'
def spPick (K : PySem.W.Frag) : Sp := fun vs H Q _ => ∃ (d g c p : Addr) (T : Int) (xs : List V), vs = [.ref d, .ref p] ∧ StA H d g c T ∧ T < TB ∧ (SqL K H p xs ∨ SqT K H p xs) ∧ p ≠ d ∧ p ≠ g ∧ xs ≠ [] ∧ xs.length ≤ 10000000 ∧
  ∀ (x : V) (H' : Hp), x ∈ xs → Kp d g H H' → StA H' d g c (T + 1) → Q x H'
end Pu

namespace Pu
open PySem L2
theorem getS {H : Hp} {d : Addr} {kvs : List (Key × V)} {k : Key} {v : V} (h : H d = some (.dK kvs)) (e : valV kvs k = some v) : DGet H d (kV k) (some v) := e ▸ DGet.k h
def primes : List Int := [2147483249, 2147483237, 2147483179]
theorem prime_at {i : Nat} {y : V} (h : (primes.map V.int)[i]? = some y) : ∃ z : Int, y = .int z ∧ 0 < z ∧ z < 2147483648 := by
  match i, h with
  | 0, h => exact ⟨_, (Option.some.inj h).symm, by decide, by decide⟩
  | 1, h => exact ⟨_, (Option.some.inj h).symm, by decide, by decide⟩
  | 2, h => exact ⟨_, (Option.some.inj h).symm, by decide, by decide⟩
  | n + 3, h => cases h
theorem int_at {ns : List Int} {i : Nat} {y : V} (h : (ns.map V.int)[i]? = some y) : ∃ z, ns[i]? = some z ∧ y = .int z := by
  rw [List.getElem?_map] at h
  cases e : ns[i]? with
  | none => rw [e] at h; cases h
  | some z => rw [e] at h; exact ⟨z, rfl, (Option.some.inj h).symm⟩
section
variable {P : Program} {w : World} {K : PySem.W.Frag} {mg : Str → Option Value} {base : Heap}
theorem scBl : FnScope ["state", "turn", "found", "prime", "blend", "cell"] ["state"] (defScope sBlend) := ⟨rfl, rfl, rfl, by decide +kernel, rfl, by decide +kernel, by decide +kernel⟩
theorem ok_blend {f : Addr} {fd : FuncData} (F : Fun K "_law_blended" "_law_blended" sBlend f fd) (mi : mg "int" = none) : FnOk P w K mg base CX0 1 f fd ["state"] spBlend := by
  refine F.ok scBl (fun vs H Q E h => ?_) (fun cdv A outer s H vs Q E hr h => ?_)
  · obtain ⟨d, g, c, T, rfl, _⟩ := h
    rfl
  · obtain ⟨d, g, c, T, rfl, S, hT, k⟩ := h
    have hu := hu_of hr
    have hT' : T < 1000000000000 := hT
    obtain ⟨⟨l, t, hd, l0, t0, tT⟩, ⟨gs, hg, g0⟩, ⟨cs, hc, c0⟩, gc⟩ := id S
    refine ⟨_, pss_cons (ps_par (i := 1) (j := 2) rfl scBl.nd rfl rfl (by decide) rfl rfl (pa_cons (pe_op op_add (pe_dget hu (pv 0) pe_str (fun _ _ => rfl)) pe_int) (pa_cons pe_int pa_nil)) (by rfl))
      (pss_cons (ps_dput hu (pv 0) pe_str (pv 1) rfl)
      (pss_cons (ps_for PassesOwn.never rfl (pi_list (pe_lst (pa_cons pe_int (pa_cons pe_int (pa_cons pe_int pa_nil))))) (pg_name (i := 3) scBl.nd rfl (Or.inl rfl))
        (pss_cons (ps_set (i := 4) scBl.nd rfl (Or.inl rfl) (pe_op op_add (pe_op op_mul pe_int (pv 1)) (pe_op op_fdiv (pv 3) pe_int)))
        (pss_cons (ps_for PassesOwn.never rfl (pi_list (pe_dget hu (pv 0) pe_str (fun _ _ => rfl))) (pg_name (i := 5) scBl.nd rfl (Or.inl rfl))
          (pss_one (ps_set (i := 4) scBl.nd rfl (Or.inl rfl) (pe_op op_mod (pe_callTy call_int1 (by rfl) mi (by decide +kernel) (pa_cons (pe_op op_add (pe_op op_add (pe_op op_mul (pv 4) pe_int) (pv 5)) (pv 1)) pa_nil)) (pv 3)))))
        (pss_one (ps_set (i := 2) scBl.nd rfl (Or.inl rfl) (pe_op op_add (pe_op op_mul (pv 2) pe_int) (pe_op op_mod (pe_callTy call_int1 (by rfl) mi (by decide +kernel) (pa_cons (pe_op op_pow (pv 4) pe_int) pa_nil)) (pv 3))))))))
      (pss_one (ps_ret (pv 2))))), ?_⟩
    refine ⟨_, rfl, d, .int t, rfl, getS hd (stk_turn g c l t), t, 1, rfl, rfl, .int (t + 1), .int 0, rfl, ?_⟩
    refine ⟨_, rfl, _, rfl, d, _, rfl, DPut.k (k := Sum.inr "turn") hd (by show 4 < sizeLine; decide), ?_⟩
    rw [stk_putT]
    have hdc := S.dc
    have hdg := S.dg
    refine ⟨(by show 3 ≤ sizeLine; decide), fun p hp => ?_⟩
    have np : H p = none := by
      by_cases e : p = d
      · rw [e, upd_same] at hp; cases hp
      · rw [upd_ne e] at hp; exact hp
    have pd : d ≠ p := ne_of_none hd np
    have pg : g ≠ p := ne_of_none hg np
    have pc : c ≠ p := ne_of_none hc np
    obtain ⟨H2, eH⟩ : ∃ H2, H2 = upd (upd H d (.dK (stk g c l (t + 1)))) p (.lst [V.int 2147483249, V.int 2147483237, V.int 2147483179]) := ⟨_, rfl⟩
    have hd2 : H2 d = some (.dK (stk g c l (t + 1))) := by rw [eH, upd_ne pd, upd_same]
    have hg2 : H2 g = some (.lst (gs.map V.int)) := by rw [eH, upd_ne pg, upd_ne hdg.symm]; exact hg
    have hc2 : H2 c = some (.lst (cs.map V.int)) := by rw [eH, upd_ne pc, upd_ne hdc.symm]; exact hc
    have kp : Kp d g H H2 := by rw [eH]; exact Kp.trans Kp.atD (Kp.new hp)
    have hp2 : H2 p = some (.lst (primes.map V.int)) := by rw [eH]; exact upd_same
    rw [← eH]
    clear eH
    refine ⟨p, rfl, ⟨_, SqL.of hp2⟩, for_list (K := K) (a := p) (xs := primes.map V.int)
      (fun i σ H' => H2 = H' ∧ ∃ (f : Int) (o3 o4 o5 : Option V), σ = [some (.ref d), some (.int (t + 1)), some (.int f), o3, o4, o5] ∧ 0 ≤ f)
      ⟨rfl, 0, none, none, none, rfl, Int.le_refl 0⟩ (fun i σ H' _ h => by obtain ⟨rfl, _⟩ := h; exact SqL.of hp2) ?_ ?_⟩
    · rintro i y σ H' hi ⟨rfl, f, o3, o4, o5, rfl, hf⟩
      obtain ⟨z, rfl, z0, z1⟩ := prime_at hi
      refine ⟨_, rfl, _, _, rfl, rfl, .inl ⟨by decide, by decide⟩, _, rfl, z, 73, rfl, rfl, ⟨by decide, by decide⟩, _, _, rfl, rfl, ?_⟩
      -- for cell in state['cells']
      have q0 : (0 : Int) ≤ z / 73 := Int.ediv_nonneg (by omega) (by decide)
      have q1 : z / 73 ≤ z := Int.ediv_le_self _ (by omega)
      refine ⟨_, rfl, d, _, rfl, getS hd2 (stk_cells g c l (t + 1)), c, rfl, ⟨_, SqL.of hc2⟩, for_list (K := K) (a := c) (xs := cs.map V.int)
        (fun j σ H' => H2 = H' ∧ ∃ (b : Int) (o5 : Option V), σ = [some (.ref d), some (.int (t + 1)), some (.int f), some (.int z), some (.int b), o5] ∧ 0 ≤ b ∧ b < 2 ^ 64)
        ⟨rfl, _, o5, rfl, by omega, by omega⟩ (fun i σ H' _ h => by obtain ⟨rfl, _⟩ := h; exact SqL.of hc2) ?_ ?_⟩
      · rintro j x σ H' hj ⟨rfl, b, o5, rfl, b0, b1⟩
        obtain ⟨e, _, rfl⟩ := int_at hj
        refine ⟨_, rfl, _, _, rfl, rfl, .inr ⟨by decide, by decide⟩, _, rfl, _, e, rfl, rfl, _, rfl, _, t + 1, rfl, rfl, .inl ⟨_, rfl, _, rfl, _, z, rfl, rfl, z0, ?_⟩⟩
        have m0 := Int.emod_nonneg (b * 69621 + e + (t + 1)) (show z ≠ 0 by omega)
        have m1 := Int.emod_lt_of_pos (b * 69621 + e + (t + 1)) z0
        exact ⟨rfl, _, _, rfl, m0, by omega⟩
      · rintro σ H' ⟨rfl, b, o5, rfl, b0, b1⟩
        refine ⟨_, rfl, _, _, rfl, rfl, .inr ⟨by decide, by decide⟩, _, rfl, b, 5, rfl, rfl, ⟨by decide, by decide, by omega⟩, .inl ⟨_, rfl, _, rfl, _, z, rfl, rfl, z0, _, _, rfl, rfl, ?_⟩⟩
        have m0 := Int.emod_nonneg (b ^ (5 : Int).toNat) (show z ≠ 0 by omega)
        exact ⟨rfl, _, _, _, _, rfl, by omega⟩
    · rintro σ H' ⟨rfl, f, o3, o4, o5, rfl, hf⟩
      refine ⟨_, rfl, ?_⟩
      exact k f _ hf kp ⟨⟨l, t + 1, hd2, l0, by omega, by omega⟩, ⟨gs, hg2, g0⟩, ⟨cs, hc2, c0⟩, gc⟩
end
end Pu

namespace Pu
open PySem L2
theorem dp_ints {K : PySem.W.Frag} {H : Hp} : ∀ gs : List Int, DpAll K H (gs.map V.int) (gs.map PyData.int)
  | [] => .nil
  | i :: r => .cons (.int i) (dp_ints r)
theorem lay_ints : ∀ gs : List Int, PyData.canLayAll0 (gs.map PyData.int) = true
  | [] => rfl
  | i :: r => by
    show (PyData.canLay0 (.int i) && PyData.canLayAll0 (r.map PyData.int)) = true
    rw [lay_ints r]; rfl
theorem dep_ints : ∀ gs : List Int, PyData.depthAll (gs.map PyData.int) = 0
  | [] => rfl
  | i :: r => by
    show max (PyData.depth (.int i)) (PyData.depthAll (r.map PyData.int)) = 0
    rw [dep_ints r]; rfl
theorem shaped_ints (gs : List Int) : SeqAt.shaped (.list (gs.map PyData.int)) = true := by
  show (PyData.canLayAll0 (gs.map PyData.int) && decide (PyData.depthAll (gs.map PyData.int) + 1 ≤ 64)) = true
  rw [lay_ints, dep_ints]; rfl
theorem eqv_nil (gs : List Int) : PyData.eqv (.list (gs.map PyData.int)) (.list []) = gs.isEmpty := by
  cases gs <;> rfl
section
variable {P : Program} {w : World} {K : PySem.W.Frag} {mg : Str → Option Value} {base : Heap}
theorem scDr : FnScope ["state", "size_here", "found"] ["state", "size_here"] (defScope sDraw) := ⟨rfl, rfl, rfl, by decide +kernel, rfl, by decide +kernel, by decide +kernel⟩
/-- behind a bound on the state: what the draw does with what is left -/
theorem ok_draw {f fB : Addr} {fd fdB : FuncData} (F : Fun K "_law_draw" "_law_draw" sDraw f fd) (mi : mg "int" = none)
    (GB : FnOk P w K mg base CX0 1 fB fdB ["state"] spBlend) (bB : Binds K fdB ["state"] []) (kB : PySem.W.keepIn K (.ref fB) = true) (mB : mg "_law_blended" = some (.ref fB)) :
    FnOk P w K mg base CX0 2 f fd ["state", "size_here"] spDraw := by
  refine F.ok scDr (fun vs H Q E h => ?_) (fun cdv A outer s H vs Q E hr h => ?_)
  · obtain ⟨d, g, c, T, n, rfl, _⟩ := h
    rfl
  · obtain ⟨d, g, c, T, n, rfl, S, hT, n0, n1, k⟩ := h
    have hu := hu_of hr
    obtain ⟨⟨l, t, hd, l0, t0, tT⟩, ⟨gs, hg, g0⟩, ⟨cs, hc, c0⟩, gc⟩ := id S
    have hdg := S.dg
    refine ⟨_, C8.pss_cut (ps_if (pt_cmpR op_eq (pe_dget hu (pv 0) pe_str (fun _ _ => rfl)) pe_int (nomark _))
        (pss_one (ps_dput hu (pv 0) pe_str (pe_ifExp (pt_cmpR (op_neD hr.units) (pe_dget hu (pv 0) pe_str (fun _ _ => rfl)) (pe_lst pa_nil) (nomark _))
          (pe_bm PySem.F.plainAttrs_list PySem.F.slot_list_pop PySem.F.type_list_pop mt_popAt (pe_dget hu (pv 0) pe_str (fun _ _ => rfl)) (pa_cons pe_int pa_nil))
          (pe_call GB hr rfl mB kB bB .nil pass0 (pa_cons (pv 0) pa_nil))) rfl)) pss_nil)
      (pss_cons (ps_set (i := 2) scDr.nd rfl (Or.inl rfl) (pe_op op_mod (pe_callTy call_int1 (by rfl) mi (by decide +kernel) (pa_cons (pe_dget hu (pv 0) pe_str (fun _ _ => rfl)) pa_nil)) (pv 1)))
      (pss_cons (ps_dput hu (pv 0) pe_str (pe_op op_fdivW (pe_dget hu (pv 0) pe_str (fun _ _ => rfl)) (pv 1)) rfl)
      (pss_one (ps_ret (pv 2))))), ?_⟩
    -- between: z is left
    refine ⟨fun σ' H' => σ' = [some (.ref d), some (.int n), none] ∧ Kp d g H H' ∧ StA H' d g c (T + 1), ?_, ?_⟩
    · refine ⟨_, rfl, d, _, rfl, getS hd (stk_left g c l t), rfl, _, rfl, ?_⟩
      refine ite2 (fun _ => ?_) (fun _ => ?_)
      · refine ⟨_, rfl, d, _, rfl, getS hd (stk_great g c l t), (by show 0 ≤ sizeLine; exact Nat.zero_le _), fun p hp => ?_⟩
        have pg : g ≠ p := ne_of_none hg hp
        have pd : d ≠ p := ne_of_none hd hp
        have pc : c ≠ p := ne_of_none hc hp
        have kp : Kp d g H (upd H p (.lst [])) := Kp.new hp
        have hg1 : (upd H p (.lst [])) g = some (.lst (gs.map V.int)) := by rw [upd_ne pg]; exact hg
        have hd1 : (upd H p (.lst [])) d = some (.dK (stk g c l t)) := by rw [upd_ne pd]; exact hd
        have hc1 : (upd H p (.lst [])) c = some (.lst (cs.map V.int)) := by rw [upd_ne pc]; exact hc
        have S1 : StA (upd H p (.lst [])) d g c T := S.new hp
        refine ⟨.list (gs.map PyData.int), .list [], .lst (SqL.of hg1) (dp_ints gs), .lst (SqL.of upd_same) .nil, shaped_ints gs, shaped_ints [], _, rfl, ?_⟩
        rw [eqv_nil]
        generalize upd H p (.lst []) = H1 at kp hg1 hd1 hc1 S1
        cases gs with
        | nil =>
          refine iteF ?_
          refine ⟨_, rfl, d, g, c, T, rfl, S1, hT, fun f H2 f0 kp2 S2 => ?_⟩
          obtain ⟨l2, t2, hd2, _, t20, tT2⟩ := S2.dk
          refine ⟨_, rfl, d, _, rfl, DPut.k (k := Sum.inr "left") hd2 (by show 4 < sizeLine; decide), ?_⟩
          rw [stk_putL]
          refine ⟨rfl, (kp.trans kp2).trans Kp.atD, ⟨f, t2, upd_same, f0, t20, tT2⟩, ?_, ?_, gc⟩
          · obtain ⟨gs', h1, h2⟩ := S2.gr
            exact ⟨gs', by rw [upd_ne hdg.symm]; exact h1, h2⟩
          · obtain ⟨cs', h1, h2⟩ := S2.ce
            exact ⟨cs', by rw [upd_ne S.dc.symm]; exact h1, h2⟩
        | cons z r =>
          refine iteT ?_
          refine ⟨_, rfl, d, _, rfl, getS hd1 (stk_great g c l t), .inl ⟨rfl, _, SqL.of hg1⟩, g, _, 0, 0, .int z, rfl, rfl, hg1, by decide, by decide, (ixN_seq (by unfold ixN; simp)).1, rfl, ?_⟩
          have hd2 : (upd H1 g (.lst (((z :: r).map V.int).eraseIdx 0))) d = some (.dK (stk g c l t)) := by rw [upd_ne hdg]; exact hd1
          refine ⟨_, rfl, d, _, rfl, DPut.k (k := Sum.inr "left") hd2 (by show 4 < sizeLine; decide), ?_⟩
          rw [stk_putL]
          refine ⟨rfl, (kp.trans Kp.atG).trans Kp.atD, ⟨z, t, upd_same, g0 z List.mem_cons_self, t0, by omega⟩, ⟨r, ?_, fun y hy => g0 y (List.mem_cons_of_mem _ hy)⟩, ⟨cs, ?_, c0⟩, gc⟩
          · rw [upd_ne hdg.symm]; exact upd_same
          · rw [upd_ne S.dc.symm, upd_ne gc.symm]; exact hc1
      · exact ⟨rfl, Kp.refl d g H, S.mono (by omega)⟩
    · rintro σ' H' ⟨rfl, kp, S'⟩
      obtain ⟨z, t', hd1, z0, t0', tT'⟩ := S'.dk
      have m0 := Int.emod_nonneg z (show n ≠ 0 by omega)
      have m1 := Int.emod_lt_of_pos z n0
      refine ⟨_, rfl, d, _, rfl, getS hd1 (stk_left g c z t'), .inl ⟨z, rfl, _, rfl, z, n, rfl, rfl, n0, ?_⟩⟩
      refine ⟨_, rfl, d, _, rfl, getS hd1 (stk_left g c z t'), _, rfl, z, n, rfl, rfl, wide_div (b := 60) n0 (by omega) (by decide) (by decide), ?_⟩
      refine ⟨_, rfl, d, _, rfl, DPut.k (k := Sum.inr "left") hd1 (by show 4 < sizeLine; decide), ?_⟩
      rw [stk_putL]
      refine ⟨_, rfl, ?_⟩
      refine k _ _ m0 m1 (kp.trans Kp.atD) ⟨⟨z / n, t', upd_same, Int.ediv_nonneg z0 (by omega), t0', tT'⟩, ?_, ?_, gc⟩
      · obtain ⟨gs', h1, h2⟩ := S'.gr
        exact ⟨gs', by rw [upd_ne hdg.symm]; exact h1, h2⟩
      · obtain ⟨cs', h1, h2⟩ := S'.ce
        exact ⟨cs', by rw [upd_ne S.dc.symm]; exact h1, h2⟩
end
end Pu

namespace Pu
open PySem L2
section
variable {P : Program} {w : World} {K : PySem.W.Frag} {mg : Str → Option Value} {base : Heap}
theorem scPi : FnScope ["state", "several"] ["state", "several"] (defScope sPick) := ⟨rfl, rfl, rfl, by decide +kernel, rfl, by decide +kernel, by decide +kernel⟩
theorem ok_pick {f fD : Addr} {fd fdD : FuncData} (F : Fun K "_law_pick" "_law_pick" sPick f fd) (ml : mg "len" = none)
    (GD : FnOk P w K mg base CX0 2 fD fdD ["state", "size_here"] spDraw) (bD : Binds K fdD ["state", "size_here"] []) (kD : PySem.W.keepIn K (.ref fD) = true) (mD : mg "_law_draw" = some (.ref fD)) :
    FnOk P w K mg base CX0 3 f fd ["state", "several"] (spPick K) := by
  refine F.ok scPi (fun vs H Q E h => ?_) (fun cdv A outer s H vs Q E hr h => ?_)
  · obtain ⟨d, g, c, p, T, xs, rfl, _⟩ := h
    rfl
  · obtain ⟨d, g, c, p, T, xs, rfl, S, hT, hx, pd, pg, x0, x1, k⟩ := h
    refine ⟨_, pss_one (ps_ret (pe_ix ix_seq (pv 1) (pe_call GD hr rfl mD kD bD .nil pass0 (pa_cons (pv 0) (pa_cons (pe_callB call_len_seq (by rfl) ml boot_len (pa_cons (pv 1) pa_nil)) pa_nil))) (fun _ _ => rfl))), ?_⟩
    have l0 : 0 < xs.length := List.length_pos_iff.mpr x0
    refine ⟨_, rfl, _, rfl, _, rfl, p, xs, rfl, hx, d, g, c, T, _, rfl, S, hT, by omega, by omega, fun r H' r0 r1 kp S' => ?_⟩
    have hk : r.toNat < xs.length := by omega
    have e : atI xs r = some xs[r.toNat] := by
      have q := atI_nat (xs := xs) (j := r.toNat) (v := xs[r.toNat]) (List.getElem?_eq_getElem hk)
      rw [show ((r.toNat : Nat) : Int) = r by omega] at q
      exact q
    rcases hx with hx | hx
    · exact .inl ⟨p, xs, r, _, rfl, rfl, kp.seqL hx pd pg, e, k _ _ (List.getElem_mem hk) kp S'⟩
    · exact .inr (.inl ⟨p, xs, r, _, rfl, rfl, kp.seqT hx pd pg, e, k _ _ (List.getElem_mem hk) kp S'⟩)

theorem scBe : FnScope ["script", "great", "cell"] ["script"] (defScope sBegun) := ⟨rfl, rfl, rfl, by decide +kernel, rfl, by decide +kernel, by decide +kernel⟩
theorem abs_nn (z : Int) : 0 ≤ (if z < 0 then -z else z) := by split <;> omega
theorem ok_begun {f : Addr} {fd : FuncData} (F : Fun K "_law_begun" "_law_begun" sBegun f fd) (ma : mg "abs" = none) : FnOk P w K mg base CX0 1 f fd ["script"] (spBegun K) := by
  refine F.ok scBe (fun vs H Q E h => ?_) (fun cdv A outer s H vs Q E hr h => ?_)
  · obtain ⟨a, ns, rfl, _⟩ := h
    rfl
  · obtain ⟨a, ns, rfl, hS, hl, k⟩ := h
    refine ⟨_, pss_cons (ps_setLc (i := 1) (own := [("cell", 2)]) (g := gName 2) rfl scBe.nd rfl rfl (sw_true rfl rfl rfl (by decide +kernel)) (pi_list (pv 0)) (blkOk_by (own := [("cell", 2)]) (N := ["script", "great", "cell"]) (sc := defScope sBegun) (by decide +kernel)) (fun _ _ _ _ _ => pg_name (i := 2) scBe.nd rfl (Or.inl rfl))
          (fun _ _ _ _ _ => pts_one (pt_cmpR op_ge (pe_callB call_abs (by rfl) ma (by decide +kernel) (pa_cons (pv 2) pa_nil)) (pe_op op_pow pe_int pe_int) (nomark _)))
          (fun _ _ _ _ _ => pe_op op_sub (pe_callB call_abs (by rfl) ma (by decide +kernel) (pa_cons (pv 2) pa_nil)) (pe_op op_pow pe_int pe_int)))
      (pss_one (ps_ret (pe_disp (pps_cons pe_str (pv 1) (pps_cons pe_str (pe_lc (own := [("cell", 2)]) (g := gName 2) rfl scBe.nd (pi_list (pv 0)) (blkOk_by (own := [("cell", 2)]) (N := ["script", "great", "cell"]) (sc := defScope sBegun) (by decide +kernel)) (fun _ _ _ _ _ => pg_name (i := 2) scBe.nd rfl (Or.inl rfl)) (fun _ _ _ _ _ => pts_nil)
          (fun _ _ _ _ _ => pe_callB call_abs (by rfl) ma (by decide +kernel) (pa_cons (pv 2) pa_nil))) (pps_cons pe_str pe_int (pps_cons pe_str pe_int pps_nil)))) (by rfl) (by rfl) (fun z => by cases z) (by decide)))), ?_⟩
    refine ⟨_, rfl, a, rfl, ⟨_, hS⟩, fun D hD => lc_list (K := K) (a := a) (xs := ns.map V.int) (fun i H' => ∃ gs : List Int, H' = upd H D (.lst (gs.map V.int)) ∧ (∀ z ∈ gs, 0 ≤ z) ∧ gs.length ≤ i)
      ⟨[], rfl, (fun z hz => nomatch hz), Nat.le_refl 0⟩ (fun i H' _ ⟨gs, e, _⟩ => by rw [e]; exact Same.seq (fun b o q => by rw [upd_ne (ne_of_none q hD)]; exact q) hS) ?_ ?_⟩
    · rintro i x H' hx ⟨gs, rfl, g0, gl⟩
      have hil : i < ns.length := by have := (List.getElem?_eq_some_iff.mp hx).1; rwa [List.length_map] at this
      obtain ⟨z, hz, rfl⟩ := int_at hx
      refine ⟨rfl, _, rfl, z, rfl, 10, 18, rfl, rfl, ⟨by decide, by decide, by decide⟩, _, _, rfl, rfl, _, rfl, ?_⟩
      refine ite2 (fun c => ?_) (fun _ => ?_)
      · have c' := of_decide_eq_true c
        refine ⟨_, rfl, z, rfl, 10, 18, rfl, rfl, ⟨by decide, by decide, by decide⟩, _, _, rfl, rfl, _, upd_same, ?_, gs ++ [(if z < 0 then -z else z) - 10 ^ (18 : Int).toNat], ?_, ?_, ?_⟩
        · exact small1000 (by rw [List.length_map]; omega)
        · rw [upd_upd, List.map_append]; rfl
        · intro y hy
          rcases List.mem_append.mp hy with hy | hy
          · exact g0 y hy
          · have e : y = _ := List.mem_singleton.mp hy
            rw [e]; omega
        · rw [List.length_append]; exact Nat.succ_le_succ gl
      · exact ⟨gs, rfl, g0, Nat.le_succ_of_le gl⟩
    · rintro H' ⟨gs, rfl, g0, gl⟩
      have nD : a ≠ D ∨ True := .inr trivial
      have s1 : Same H (upd H D (.lst (gs.map V.int))) := fun b o q => by rw [upd_ne (ne_of_none q hD)]; exact q
      refine fun p hp => ?_
      have np : H p = none := s1.free hp
      have pD : D ≠ p := fun e => by rw [← e, upd_same] at hp; cases hp
      have s2 : Same (upd H D (.lst (gs.map V.int))) (upd (upd H D (.lst (gs.map V.int))) p (.dK [])) := fun b o q => by rw [upd_ne (ne_of_none q hp)]; exact q
      refine ⟨_, rfl, _, rfl, a, rfl, ⟨_, (s1.trans s2).seq hS⟩, fun D2 hD2 => ?_⟩
      have nD2 : H D2 = none := (s1.trans s2).free hD2
      have D2D : D ≠ D2 := fun e => by rw [← e, upd_ne pD, upd_same] at hD2; cases hD2
      have D2p : p ≠ D2 := fun e => by rw [← e, upd_same] at hD2; cases hD2
      have s3 : ∀ o, Same (upd (upd H D (.lst (gs.map V.int))) p (.dK [])) (upd (upd (upd H D (.lst (gs.map V.int))) p (.dK [])) D2 o) := fun o' b o q => by rw [upd_ne (ne_of_none q hD2)]; exact q
      refine lc_list (K := K) (a := a) (xs := ns.map V.int) (fun i H' => ∃ cs : List Int, H' = upd (upd (upd H D (.lst (gs.map V.int))) p (.dK [])) D2 (.lst (cs.map V.int)) ∧ (∀ z ∈ cs, 0 ≤ z) ∧ cs.length ≤ i)
        ⟨[], rfl, (fun z hz => nomatch hz), Nat.le_refl 0⟩ (fun i H' _ ⟨cs, e, _⟩ => by rw [e]; exact ((s1.trans s2).trans (s3 _)).seq hS) ?_ ?_
      · rintro i x H' hx ⟨cs, rfl, c0, cl⟩
        have hil : i < ns.length := by have := (List.getElem?_eq_some_iff.mp hx).1; rwa [List.length_map] at this
        obtain ⟨z, hz, rfl⟩ := int_at hx
        refine ⟨rfl, ?_⟩
        dsimp only [tYes]
        refine iteT ?_
        refine ⟨_, rfl, z, rfl, _, upd_same, ?_, cs ++ [if z < 0 then -z else z], ?_, ?_, ?_⟩
        · exact small1000 (by rw [List.length_map]; omega)
        · rw [upd_upd, List.map_append]; rfl
        · intro y hy
          rcases List.mem_append.mp hy with hy | hy
          · exact c0 y hy
          · have e : y = _ := List.mem_singleton.mp hy
            rw [e]; exact abs_nn z
        · rw [List.length_append]; exact Nat.succ_le_succ cl
      · rintro H' ⟨cs, rfl, c0, cl⟩
        refine ⟨by rw [upd_ne D2p, upd_same], stk D D2 0 0, rfl, (by show 4 ≤ 15; decide), ?_⟩
        rw [stk_merge]
        refine k p D D2 _ ?_ np hD nD2 ⟨⟨0, 0, upd_same, Int.le_refl 0, Int.le_refl 0, Int.le_refl 0⟩, ⟨gs, ?_, g0⟩, ⟨cs, ?_, c0⟩, D2D⟩
        · intro b o q
          rw [upd_ne (ne_of_none q np)]
          exact ((s1.trans s2).trans (s3 _)) b o q
        · rw [upd_ne pD, upd_ne D2D, upd_ne pD, upd_same]
        · rw [upd_ne D2p.symm, upd_same]
end
end Pu

namespace Ch
/-! charters: the mathematics -/
def rng (n : Nat) : List Int := (List.range n).map Int.ofNat
theorem mem_rng {n : Nat} {x : Int} : x ∈ rng n ↔ 0 ≤ x ∧ x < n := by
  unfold rng
  rw [List.mem_map]
  constructor
  · rintro ⟨a, h, rfl⟩
    have := List.mem_range.mp h
    show 0 ≤ (a : Int) ∧ (a : Int) < n
    omega
  · intro h
    exact ⟨x.toNat, List.mem_range.mpr (by omega), Int.toNat_of_nonneg h.1⟩
theorem rng_len (n : Nat) : (rng n).length = n := by simp [rng]
theorem rng_get {n i : Nat} (h : i < n) : (rng n)[i]? = some (i : Int) := by
  unfold rng
  rw [List.getElem?_map, List.getElem?_range h]; rfl
def has (lots : List (List Int)) (S : Int → Bool) : Bool := lots.any fun lot => lot.all S
theorem has_iff {lots : List (List Int)} {S : Int → Bool} : has lots S = true ↔ ∃ l ∈ lots, ∀ o ∈ l, S o = true := by
  unfold has
  simp [List.any_eq_true, List.all_eq_true]
structure Charter (many : Nat) (props : List Int) (lots : List (List Int)) : Prop where
  m1 : 1 ≤ many
  m6 : many ≤ 6
  pne : props ≠ []
  pasc : props.Pairwise (· < ·)
  pin : ∀ p ∈ props, 0 ≤ p ∧ p < many
  lne : lots ≠ []
  llen : lots.length ≤ 64
  one : ∀ l ∈ lots, l ≠ [] ∧ l.Pairwise (· < ·) ∧ ∀ o ∈ l, 0 ≤ o ∧ o < many
section
variable {many : Nat} {props : List Int} {lots : List (List Int)}
theorem has_mono (C : Charter many props lots) {S T : Int → Bool} (h : ∀ o : Int, 0 ≤ o → o < many → S o = true → T o = true) (w : has lots S = true) : has lots T = true := by
  obtain ⟨l, hl, q⟩ := has_iff.mp w
  exact has_iff.mpr ⟨l, hl, fun o ho => h o ((C.one l hl).2.2 o ho).1 ((C.one l hl).2.2 o ho).2 (q o ho)⟩
theorem has_congr (C : Charter many props lots) {S T : Int → Bool} (h : ∀ o : Int, 0 ≤ o → o < many → S o = T o) : has lots S = has lots T := by
  cases e : has lots S with
  | true => exact (has_mono C (fun o a b z => by rw [← h o a b]; exact z) e).symm
  | false =>
    cases e2 : has lots T with
    | false => rfl
    | true =>
      have := has_mono C (T := S) (fun o a b z => by rw [h o a b]; exact z) e2
      rw [e] at this; cases this
theorem has_all (C : Charter many props lots) {S : Int → Bool} (h : ∀ o : Int, 0 ≤ o → o < many → S o = true) : has lots S = true := by
  obtain ⟨l, hl⟩ := List.exists_mem_of_ne_nil _ C.lne
  exact has_iff.mpr ⟨l, hl, fun o ho => h o ((C.one l hl).2.2 o ho).1 ((C.one l hl).2.2 o ho).2⟩
theorem has_none (C : Charter many props lots) {S : Int → Bool} (h : ∀ o : Int, 0 ≤ o → o < many → S o = false) : has lots S = false := by
  cases e : has lots S with
  | false => rfl
  | true =>
    obtain ⟨l, hl, q⟩ := has_iff.mp e
    obtain ⟨o, ho⟩ := List.exists_mem_of_ne_nil _ (C.one l hl).1
    have a := (C.one l hl).2.2 o ho
    have b := q o ho
    rw [h o a.1 a.2] at b; cases b
/-- what an owner's item is -/
def at_ (row : List Int) (o : Int) : Int := row.getD o.toNat 0
structure Split (many : Nat) (props row : List Int) : Prop where
  len : row.length = many
  ins : ∀ h ∈ row, h ∈ props
  own : ∀ h ∈ row, at_ row h = h
def heads (props : List Int) (lots : List (List Int)) (row : List Int) : List Int := props.filter fun h => has lots fun o => at_ row o == h
theorem at_mem {row : List Int} {o : Int} (h0 : 0 ≤ o) (h1 : o < row.length) : at_ row o ∈ row := by
  unfold at_
  rw [List.getD_eq_getElem?_getD, List.getElem?_eq_getElem (by omega), Option.getD_some]
  exact List.getElem_mem _
/-- a split as a function -/
structure Fn (many : Nat) (props : List Int) (f : Int → Int) : Prop where
  ins : ∀ o : Int, 0 ≤ o → o < many → f o ∈ props
  own : ∀ o : Int, 0 ≤ o → o < many → f (f o) = f o
def rowOf (many : Nat) (f : Int → Int) : List Int := (rng many).map f
theorem at_row {f : Int → Int} {o : Int} (h0 : 0 ≤ o) (h1 : o < many) : at_ (rowOf many f) o = f o := by
  unfold at_ rowOf
  rw [List.getD_eq_getElem?_getD, List.getElem?_map, rng_get (by omega)]
  simp only [Option.map_some, Option.getD_some]
  congr 1; omega
theorem Fn.split (C : Charter many props lots) {f : Int → Int} (F : Fn many props f) : Split many props (rowOf many f) := by
  refine ⟨by simp [rowOf, rng_len], fun h hh => ?_, fun h hh => ?_⟩
  · obtain ⟨o, ho, rfl⟩ := List.mem_map.mp hh
    exact F.ins o (mem_rng.mp ho).1 (mem_rng.mp ho).2
  · obtain ⟨o, ho, rfl⟩ := List.mem_map.mp hh
    have b := mem_rng.mp ho
    have p := C.pin _ (F.ins o b.1 b.2)
    rw [at_row p.1 p.2, F.own o b.1 b.2]
theorem heads_row (C : Charter many props lots) {f : Int → Int} : heads props lots (rowOf many f) = props.filter fun h => has lots fun o => f o == h := by
  unfold heads
  refine List.filter_congr fun h _ => has_congr C fun o a b => ?_
  rw [at_row a b]
theorem one_ex {P : Int → Bool} {l : List Int} (h : (l.filter P).length = 1) : ∃ x, x ∈ l ∧ P x = true ∧ ∀ y ∈ l, P y = true → y = x := by
  obtain ⟨x, e⟩ := List.length_eq_one_iff.mp h
  have hx : x ∈ l.filter P := by rw [e]; simp
  refine ⟨x, (List.mem_filter.mp hx).1, (List.mem_filter.mp hx).2, fun y hy hp => ?_⟩
  have : y ∈ l.filter P := List.mem_filter.mpr ⟨hy, hp⟩
  rw [e] at this
  simpa using this
/-- just one proposal is signed in each split -/
def Sure (many : Nat) (props : List Int) (lots : List (List Int)) : Prop := ∀ row, Split many props row → (heads props lots row).length = 1
theorem sure_fn (C : Charter many props lots) (U : Sure many props lots) {f : Int → Int} (F : Fn many props f) : ∃ x, x ∈ props ∧ has lots (fun o => f o == x) = true ∧ ∀ y ∈ props, has lots (fun o => f o == y) = true → y = x := by
  have h := U _ (F.split C)
  rw [heads_row C] at h
  exact one_ex h
theorem two (C : Charter many props lots) (U : Sure many props lots) {S : Int → Bool} {p q : Int} (hp : p ∈ props) (hq : q ∈ props) (sp : S p = true) (sq : S q = false) :
    has lots (fun o => !S o) = !has lots S := by
  have ne : p ≠ q := by rintro rfl; rw [sp] at sq; cases sq
  have F : Fn many props (fun o => if S o = true then p else q) := by
    refine ⟨fun o _ _ => ?_, fun o _ _ => ?_⟩
    · show (if S o = true then p else q) ∈ props
      split <;> assumption
    · show (if S (if S o = true then p else q) = true then p else q) = if S o = true then p else q
      by_cases h : S o = true
      · simp [h, sp]
      · simp [h, sq]
  obtain ⟨x, hx, wx, ux⟩ := sure_fn C U F
  have ep : has lots (fun o => (if S o = true then p else q) == p) = has lots S := has_congr C fun o _ _ => by
    by_cases h : S o = true
    · simp [h]
    · simp [h, Ne.symm ne]
  have eq : has lots (fun o => (if S o = true then p else q) == q) = has lots (fun o => !S o) := has_congr C fun o _ _ => by
    by_cases h : S o = true
    · simp [h, ne]
    · simp [h]
  have up := ux p hp
  have uq := ux q hq
  have hpq : x = p ∨ x = q := by
    obtain ⟨l, hl, w⟩ := has_iff.mp wx
    obtain ⟨o, ho⟩ := List.exists_mem_of_ne_nil _ (C.one l hl).1
    have w1 := w o ho
    simp only [beq_iff_eq] at w1
    by_cases h : S o = true
    · simp [h] at w1; exact .inl w1.symm
    · simp [h] at w1; exact .inr w1.symm
  rw [ep] at up
  rw [eq] at uq
  rcases hpq with rfl | rfl
  · rw [ep] at wx
    rw [wx]
    cases e : has lots (fun o => !S o) with
    | false => rfl
    | true => exact absurd (uq e) (Ne.symm ne)
  · rw [eq] at wx
    rw [wx]
    cases e : has lots S with
    | false => rfl
    | true => exact absurd (up e) ne
/-- three blocks: if one wins the two others don't; one wins -/
theorem three (C : Charter many props lots) (U : Sure many props lots) {S T : Int → Bool} {p q r : Int} (hp : p ∈ props) (hq : q ∈ props) (hr : r ∈ props) (sp : S p = true) (sq : S q = false) (tq : T q = true)
    (sr : S r = false) (tr : T r = false) : has lots S = true ∨ has lots (fun o => !S o && T o) = true ∨ has lots (fun o => !S o && !T o) = true := by
  have F : Fn many props (fun o => if S o = true then p else if T o = true then q else r) := by
    refine ⟨fun o _ _ => ?_, fun o _ _ => ?_⟩
    · show (if S o = true then p else if T o = true then q else r) ∈ props
      split
      · assumption
      · split <;> assumption
    · show (if S (if S o = true then p else if T o = true then q else r) = true then p else if T (if S o = true then p else if T o = true then q else r) = true then q else r) = (if S o = true then p else if T o = true then q else r)
      by_cases h : S o = true
      · simp [h, sp]
      · by_cases h2 : T o = true
        · simp [h, h2, sq, tq]
        · simp [h, h2, sr, tr]
  obtain ⟨x, hx, wx, _⟩ := sure_fn C U F
  have n1 : p ≠ q := by rintro rfl; rw [sp] at sq; cases sq
  have n2 : p ≠ r := by rintro rfl; rw [sp] at sr; cases sr
  have n3 : q ≠ r := by rintro rfl; rw [tq] at tr; cases tr
  obtain ⟨l, hl, w⟩ := has_iff.mp wx
  obtain ⟨o, ho⟩ := List.exists_mem_of_ne_nil _ (C.one l hl).1
  have w1 := w o ho
  simp only [beq_iff_eq] at w1
  have cs : x = p ∨ x = q ∨ x = r := by
    by_cases h : S o = true
    · simp [h] at w1; exact .inl w1.symm
    · by_cases h2 : T o = true
      · simp [h, h2] at w1; exact .inr (.inl w1.symm)
      · simp [h, h2] at w1; exact .inr (.inr w1.symm)
  rcases cs with rfl | rfl | rfl
  · exact .inl (has_mono C (fun o _ _ z => by
      by_cases h : S o = true
      · exact h
      · by_cases h2 : T o = true
        · simp [h, h2] at z; exact absurd z.symm n1
        · simp [h, h2] at z; exact absurd z.symm n2) wx)
  · exact .inr (.inl (has_mono C (fun o _ _ z => by
      by_cases h : S o = true
      · simp [h] at z; exact absurd z n1
      · by_cases h2 : T o = true
        · simp [h, h2]
        · simp [h, h2] at z; exact absurd z.symm n3) wx))
  · exact .inr (.inr (has_mono C (fun o _ _ z => by
      by_cases h : S o = true
      · simp [h] at z; exact absurd z n2
      · by_cases h2 : T o = true
        · simp [h, h2] at z; exact absurd z n3
        · simp [h, h2]) wx))
/-- how many owners are in -/
def cnt (many : Nat) (S : Int → Bool) : Nat := ((rng many).filter S).length
theorem filter_lt : ∀ {l : List Int} {S T : Int → Bool}, (∀ o ∈ l, S o = true → T o = true) → (∃ x ∈ l, T x = true ∧ S x = false) → (l.filter S).length < (l.filter T).length
  | [], _, _, _, ⟨x, hx, _⟩ => nomatch hx
  | y :: r, S, T, h, ⟨x, hx, ht, hs⟩ => by
    have le : (r.filter S).length ≤ (r.filter T).length := by
      clear hx
      induction r with
      | nil => simp
      | cons z r ih =>
        have ih := ih (fun o ho => h o (by rcases List.mem_cons.mp ho with e | e <;> simp [e]))
        by_cases e : S z = true
        · have := h z (by simp) e
          simp [List.filter_cons, e, this]; exact ih
        · by_cases e2 : T z = true
          · simp [List.filter_cons, e, e2]; omega
          · simp [List.filter_cons, e, e2]; exact ih
    rcases List.mem_cons.mp hx with rfl | hx
    · simp [List.filter_cons, ht, hs]; omega
    · have ih := filter_lt (l := r) (S := S) (T := T) (fun o ho => h o (by simp [ho])) ⟨x, hx, ht, hs⟩
      by_cases e : S y = true
      · have := h y (by simp) e
        simp [List.filter_cons, e, this]; exact ih
      · by_cases e2 : T y = true
        · simp [List.filter_cons, e, e2]; omega
        · simp [List.filter_cons, e, e2]; exact ih
theorem cnt_lt {S T : Int → Bool} (h : ∀ o : Int, 0 ≤ o → o < many → S o = true → T o = true) {x : Int} (x0 : 0 ≤ x) (x1 : x < many) (ht : T x = true) (hs : S x = false) : cnt many S < cnt many T :=
  filter_lt (fun o ho => h o (mem_rng.mp ho).1 (mem_rng.mp ho).2) ⟨x, mem_rng.mpr ⟨x0, x1⟩, ht, hs⟩
/-- d, with each proposer, has a lot -/
def Dec (props : List Int) (lots : List (List Int)) (d : Int) : Prop := ∀ q ∈ props, has lots (fun o => o == q || o == d) = true
theorem dec_pair (C : Charter many props lots) (U : Sure many props lots) (h3 : ∀ p q : Int, ∃ r ∈ props, r ≠ p ∧ r ≠ q) {p t : Int} (hp : p ∈ props) (ht : t ∉ props) (w : has lots (fun o => o == p || o == t) = true)
    (nw : has lots (fun o => o == p) = false) : Dec props lots t := by
  intro q hq
  by_cases e : q = p
  · rw [e]; exact w
  · obtain ⟨r, hr, r1, r2⟩ := h3 p q
    have tp : t ≠ p := fun z => ht (z ▸ hp)
    have tq : t ≠ q := fun z => ht (z ▸ hq)
    have tr : t ≠ r := fun z => ht (z ▸ hr)
    have k := three C U (S := fun o => o == p) (T := fun o => o == q || o == t) hp hq hr (by simp) (by simp [e]) (by simp) (by simp [r1]) (by simp [r2, Ne.symm tr])
    have w2 := two C U (S := fun o => o == p || o == t) hp hq (by simp) (by simp [e, Ne.symm tq])
    rw [w] at w2
    rcases k with k | k | k
    · rw [nw] at k; cases k
    · exact has_mono C (fun o _ _ z => by simp at z; simp [z.2]) k
    · have := has_mono C (T := fun o => !(o == p || o == t)) (fun o _ _ z => by simp at z; simp [z.1, z.2.2]) k
      rw [w2] at this; cases this
theorem dec_ex (C : Charter many props lots) (U : Sure many props lots) (h3 : ∀ p q : Int, ∃ r ∈ props, r ≠ p ∧ r ≠ q) : ∀ (n : Nat) (S : Int → Bool), cnt many S ≤ n → (∃ p ∈ props, S p = true) → (∃ r ∈ props, S r = false) → has lots S = true → ∃ d : Int, 0 ≤ d ∧ d < many ∧ Dec props lots d := by
  intro n
  induction n with
  | zero =>
    intro S hn ⟨p, hp, sp⟩ _ _
    have b := C.pin p hp
    have : cnt many (fun _ => false) < cnt many S := cnt_lt (fun o _ _ z => by cases z) b.1 b.2 sp rfl
    omega
  | succ n ih =>
    intro S hn ⟨p, hp, sp⟩ ⟨r, hr, sr⟩ w
    have bp := C.pin p hp
    have w2 := two C U hp hr sp sr
    rw [w] at w2
    by_cases many2 : ∃ p' ∈ props, p' ≠ p ∧ S p' = true
    · obtain ⟨p', hp', ne, sp'⟩ := many2
      have bp' := C.pin p' hp'
      have k := three C U (S := fun o => S o && !(o == p')) (T := fun o => o == p') hp hp' hr (by simp [sp, Ne.symm ne]) (by simp) (by simp) (by simp [sr]) (by
        have : r ≠ p' := by rintro rfl; rw [sp'] at sr; cases sr
        simp [this])
      rcases k with k | k | k
      · refine ih _ (Nat.le_of_lt_succ (Nat.lt_of_lt_of_le (cnt_lt (T := S) (fun o _ _ z => by simp at z; exact z.1) bp'.1 bp'.2 sp' (by simp)) hn)) ⟨p, hp, by simp [sp, Ne.symm ne]⟩ ⟨r, hr, by simp [sr]⟩ k
      · have k2 : has lots (fun o => o == p') = true := has_mono C (fun o _ _ z => by simp at z; simp [z.2]) k
        refine ih _ (Nat.le_of_lt_succ (Nat.lt_of_lt_of_le (cnt_lt (S := fun o => o == p') (T := S) (fun o _ _ z => by simp at z; rw [z]; exact sp') bp.1 bp.2 sp (by simp [Ne.symm ne])) hn)) ⟨p', hp', by simp⟩ ⟨r, hr, by
          have : r ≠ p' := by rintro rfl; rw [sp'] at sr; cases sr
          simp [this]⟩ k2
      · have := has_mono C (T := fun o => !S o) (fun o _ _ z => by
          simp only [Bool.and_eq_true, Bool.not_eq_true', Bool.and_eq_false_iff] at z
          simp only [Bool.not_eq_true']
          rcases z.1 with h | h
          · exact h
          · simp at h; rw [h] at z; simp at z) k
        rw [w2] at this; cases this
    · have only : ∀ p' ∈ props, S p' = true → p' = p := fun p' h s => Classical.byContradiction fun ne => many2 ⟨p', h, ne, s⟩
      by_cases wp : has lots (fun o => o == p) = true
      · exact ⟨p, bp.1, bp.2, fun q _ => has_mono C (fun o _ _ z => by simp at z; simp [z]) wp⟩
      · have nw : has lots (fun o => o == p) = false := by simpa using wp
        -- an owner besides
        have ex : ∃ t : Int, 0 ≤ t ∧ t < many ∧ S t = true ∧ t ≠ p := Classical.byContradiction fun no => by
          have := has_mono C (T := fun o => o == p) (fun o a b z => by
            simp only [beq_iff_eq]
            exact Classical.byContradiction fun ne => no ⟨o, a, b, z, ne⟩) w
          rw [nw] at this; cases this
        obtain ⟨t, t0, t1, st, tp⟩ := ex
        have tn : t ∉ props := fun h => tp (only t h st)
        by_cases more : ∃ t' : Int, 0 ≤ t' ∧ t' < many ∧ S t' = true ∧ t' ≠ p ∧ t' ≠ t
        · obtain ⟨t', a0, a1, st', t'p, t't⟩ := more
          obtain ⟨q, hq, q1, q2⟩ := h3 p r
          have sq : S q = false := by
            cases e : S q with
            | false => rfl
            | true => exact absurd (only q hq e) q1
          have tq : t ≠ q := fun z => tn (z ▸ hq)
          have tr : t ≠ r := fun z => tn (z ▸ hr)
          have k := three C U (S := fun o => S o && !(o == t)) (T := fun o => o == q || o == t) hp hq hr (by simp [sp, Ne.symm tp]) (by simp [sq]) (by simp) (by simp [sr]) (by simp [Ne.symm q2, Ne.symm tr])
          rcases k with k | k | k
          · exact ih _ (Nat.le_of_lt_succ (Nat.lt_of_lt_of_le (cnt_lt (T := S) (fun o _ _ z => by simp at z; exact z.1) t0 t1 st (by simp)) hn)) ⟨p, hp, by simp [sp, Ne.symm tp]⟩ ⟨r, hr, by simp [sr]⟩ k
          · have k2 : has lots (fun o => o == q || o == t) = true := has_mono C (fun o _ _ z => by simp at z; simp [z.2]) k
            by_cases wq : has lots (fun o => o == q) = true
            · have bq := C.pin q hq
              exact ⟨q, bq.1, bq.2, fun q' _ => has_mono C (fun o _ _ z => by simp at z; simp [z]) wq⟩
            · exact ⟨t, t0, t1, dec_pair C U h3 hq tn k2 (by simpa using wq)⟩
          · have := has_mono C (T := fun o => !S o) (fun o _ _ z => by
              simp only [Bool.and_eq_true, Bool.not_eq_true', Bool.and_eq_false_iff, Bool.or_eq_false_iff] at z
              simp only [Bool.not_eq_true']
              rcases z.1 with h | h
              · exact h
              · simp at h; rw [h] at z; simp at z) k
            rw [w2] at this; cases this
        · have w3 : has lots (fun o => o == p || o == t) = true := has_mono C (fun o a b z => by
            simp only [Bool.or_eq_true, beq_iff_eq]
            exact Classical.byContradiction fun ne => more ⟨o, a, b, z, fun h => ne (.inl h), fun h => ne (.inr h)⟩) w
          exact ⟨t, t0, t1, dec_pair C U h3 hp tn w3 nw⟩
theorem decider_ex (C : Charter many props lots) (U : Sure many props lots) (h : 3 ≤ props.length) : ∃ d : Int, 0 ≤ d ∧ d < many ∧ Dec props lots d := by
  have nd : props.Pairwise (· ≠ ·) := C.pasc.imp fun h => Int.ne_of_lt h
  have h3 : ∀ p q : Int, ∃ r ∈ props, r ≠ p ∧ r ≠ q := by
    intro p q
    match props, h, nd with
    | a :: b :: c :: l, _, nd =>
      simp only [List.pairwise_cons, List.mem_cons] at nd
      have ab := nd.1 b (by simp)
      have ac := nd.1 c (by simp)
      have bc := nd.2.1 c (by simp)
      by_cases e1 : a ≠ p ∧ a ≠ q
      · exact ⟨a, by simp, e1⟩
      · by_cases e2 : b ≠ p ∧ b ≠ q
        · exact ⟨b, by simp, e2⟩
        · refine ⟨c, by simp, ?_⟩
          omega
  obtain ⟨p, hp⟩ := List.exists_mem_of_ne_nil _ C.pne
  obtain ⟨q, hq, qp, _⟩ := h3 p p
  have w := two C U (S := fun o => o == p) hp hq (by simp) (by simp [qp])
  by_cases e : has lots (fun o => o == p) = true
  · exact dec_ex C U h3 _ _ (Nat.le_refl _) ⟨p, hp, by simp⟩ ⟨q, hq, by simp [qp]⟩ e
  · have e' : has lots (fun o => !(o == p)) = true := by rw [w]; simpa using e
    exact dec_ex C U h3 _ _ (Nat.le_refl _) ⟨q, hq, by simp [qp]⟩ ⟨p, hp, by simp⟩ e'
/-- who decides -/
def Dcd (many : Nat) (props : List Int) (lots : List (List Int)) (o : Int) : Prop := ∀ row, Split many props row → heads props lots row = [at_ row o]
theorem dec_dcd (C : Charter many props lots) (U : Sure many props lots) {d : Int} (d0 : 0 ≤ d) (d1 : d < many) (D : Dec props lots d) : Dcd many props lots d := by
  intro row S
  obtain ⟨x, e⟩ := List.length_eq_one_iff.mp (U row S)
  have hm : at_ row d ∈ row := at_mem d0 (by rw [S.len]; exact d1)
  have hp := S.ins _ hm
  have w : has lots (fun o => at_ row o == at_ row d) = true := has_mono C (fun o _ _ z => by
    simp only [Bool.or_eq_true, beq_iff_eq] at z
    rcases z with z | z
    · rw [z, S.own _ hm]; simp
    · rw [z]; simp) (D _ hp)
  have hin : at_ row d ∈ heads props lots row := List.mem_filter.mpr ⟨hp, w⟩
  rw [e] at hin ⊢
  rw [List.mem_singleton.mp hin]
theorem dcd_sure {o : Int} (D : Dcd many props lots o) : Sure many props lots := fun row S => by rw [D row S]; rfl
theorem dcd_uniq (C : Charter many props lots) (h : 2 ≤ props.length) {a b : Int} (a0 : 0 ≤ a) (a1 : a < many) (b0 : 0 ≤ b) (b1 : b < many) (A : Dcd many props lots a) (B : Dcd many props lots b) : a = b := by
  refine Classical.byContradiction fun ne => ?_
  obtain ⟨p, q, hp, hq, pq⟩ : ∃ p q, p ∈ props ∧ q ∈ props ∧ p ≠ q := by
    have nd : props.Pairwise (· ≠ ·) := C.pasc.imp fun h => Int.ne_of_lt h
    match props, h, nd with
    | x :: y :: l, _, nd =>
      simp only [List.pairwise_cons, List.mem_cons] at nd
      exact ⟨x, y, by simp, by simp, nd.1 y (by simp)⟩
  have go : ∀ p q : Int, p ∈ props → q ∈ props → p ≠ q → a ≠ q → b ≠ p → False := fun p q hp hq pq aq bp => by
    have F : Fn many props (fun o => if o = p ∨ o = a then p else q) := by
      refine ⟨fun o _ _ => ?_, fun o _ _ => ?_⟩
      · show (if o = p ∨ o = a then p else q) ∈ props
        split <;> assumption
      · show (if (if o = p ∨ o = a then p else q) = p ∨ (if o = p ∨ o = a then p else q) = a then p else q) = (if o = p ∨ o = a then p else q)
        by_cases e : o = p ∨ o = a
        · simp [e]
        · have : ¬ (q = p ∨ q = a) := by rintro (z | z); exact pq z.symm; exact aq z.symm
          simp [e, this]
    have s := F.split C
    have e := (A _ s).symm.trans (B _ s)
    rw [at_row a0 a1, at_row b0 b1] at e
    have e1 : (if a = p ∨ a = a then p else q) = (if b = p ∨ b = a then p else q) := by simpa using e
    rw [if_pos (.inr rfl), if_neg (by rintro (z | z); exact bp z; exact ne z.symm)] at e1
    exact pq e1
  by_cases c : a = q ∨ b = p
  · refine go q p hq hp (Ne.symm pq) ?_ ?_
    · rintro rfl
      rcases c with c | c
      · exact pq c
      · exact ne c.symm
    · rintro rfl
      rcases c with c | c
      · exact ne c
      · exact pq c.symm
  · exact go p q hp hq pq (fun z => c (.inl z)) (fun z => c (.inr z))
/-- decider: with each proposer a lot -/
theorem dcd_dec (C : Charter many props lots) (h : 3 ≤ props.length) {o : Int} (o0 : 0 ≤ o) (o1 : o < many) (D : Dcd many props lots o) : Dec props lots o := by
  obtain ⟨d, d0, d1, hd⟩ := decider_ex C (dcd_sure D) h
  have := dcd_uniq C (by omega) o0 o1 d0 d1 D (dec_dcd C (dcd_sure D) d0 d1 hd)
  rw [this]; exact hd
end
end Ch

namespace Pu
open PySem PySem.Spec PyProof.Rows L2
abbrev NP := Addr → Prop
theorem same_upd {H : Hp} {p : Addr} {o : HO} (n : H p = none) : Same H (upd H p o) := fun b u e => by rw [upd_ne (ne_of_none e n)]; exact e
/-! ### plain data at addresses of N -/
mutual
inductive Rp (N : NP) (H : Hp) : V → PyData → Prop
  | non : Rp N H .non .none
  | bl (b : Bool) : Rp N H (.bl b) (.bool b)
  | int (i : Int) : Rp N H (.int i) (.int i)
  | str (x : Str) : Rp N H (.str x) (.str x)
  | lst {a : Addr} {xs : List V} {ds : List PyData} : N a → H a = some (.lst xs) → Rps N H xs ds → Rp N H (.ref a) (.list ds)
  | tup {a : Addr} {xs : List V} {ds : List PyData} : N a → H a = some (.tup xs) → Rps N H xs ds → Rp N H (.ref a) (.tuple ds)
  | dct {a : Addr} : N a → H a = some (.dK []) → Rp N H (.ref a) (.dict [])
inductive Rps (N : NP) (H : Hp) : List V → List PyData → Prop
  | nil : Rps N H [] []
  | cons {v : V} {vs : List V} {d : PyData} {ds : List PyData} : Rp N H v d → Rps N H vs ds → Rps N H (v :: vs) (d :: ds)
end
section
variable {K : PySem.W.Frag} {N N' : NP} {H H' : Hp}
mutual
theorem Rp.mono (k : ∀ a o, N a → H a = some o → N' a ∧ H' a = some o) : ∀ (d : PyData) {v : V}, Rp N H v d → Rp N' H' v d
  | .none, _, h => by cases h; exact .non
  | .bool b, _, h => by cases h; exact .bl b
  | .int i, _, h => by cases h; exact .int i
  | .str x, _, h => by cases h; exact .str x
  | .list ds, _, h => by
    cases h with
    | lst n e r => exact .lst (k _ _ n e).1 (k _ _ n e).2 (Rps.mono k ds r)
  | .tuple ds, _, h => by
    cases h with
    | tup n e r => exact .tup (k _ _ n e).1 (k _ _ n e).2 (Rps.mono k ds r)
  | .dict ds, _, h => by
    cases h with
    | dct n e => exact .dct (k _ _ n e).1 (k _ _ n e).2
theorem Rps.mono (k : ∀ a o, N a → H a = some o → N' a ∧ H' a = some o) : ∀ (ds : List PyData) {vs : List V}, Rps N H vs ds → Rps N' H' vs ds
  | [], _, h => by cases h; exact .nil
  | d :: ds, _, h => by
    cases h with
    | cons r t => exact .cons (Rp.mono k d r) (Rps.mono k ds t)
end
mutual
theorem Rp.dp : ∀ (d : PyData) {v : V}, d.canLay0 = true → Rp N H v d → Dp K H v d
  | .none, _, _, h => by cases h; exact .non
  | .bool b, _, _, h => by cases h; exact .bl b
  | .int i, _, _, h => by cases h; exact .int i
  | .str x, _, _, h => by cases h; exact .str x
  | .list ds, _, l, h => by
    cases h with
    | lst n e r => exact .lst (SqL.of e) (Rps.dp ds l r)
  | .tuple ds, _, l, h => by
    cases h with
    | tup n e r => exact .tup (SqT.of e) (Rps.dp ds l r)
  | .dict ds, _, l, h => by cases l
theorem Rps.dp : ∀ (ds : List PyData) {vs : List V}, PyData.canLayAll0 ds = true → Rps N H vs ds → DpAll K H vs ds
  | [], _, _, h => by cases h; exact .nil
  | d :: ds, _, l, h => by
    have l' := (Bool.and_eq_true _ _).mp (show (PyData.canLay0 d && PyData.canLayAll0 ds) = true from l)
    cases h with
    | cons r t => exact .cons (Rp.dp d l'.1 r) (Rps.dp ds l'.2 t)
end
theorem shaped_lay {d : PyData} (h : SeqAt.shaped d = true) : d.canLay0 = true := ((Bool.and_eq_true _ _).mp h).1
theorem Rp.same {d : PyData} {v : V} (s : Same H H') (h : Rp N H v d) : Rp N H' v d := Rp.mono (fun a o n e => ⟨n, s a o e⟩) d h
theorem Rps.same {ds : List PyData} {vs : List V} (s : Same H H') (h : Rps N H vs ds) : Rps N H' vs ds := Rps.mono (fun a o n e => ⟨n, s a o e⟩) ds h
theorem Rps.len {ds : List PyData} {vs : List V} (h : Rps N H vs ds) : vs.length = ds.length := by
  induction ds generalizing vs with
  | nil => cases h; rfl
  | cons d ds ih =>
    cases h with
    | cons r t => simp [ih t]
theorem Rps.get {ds : List PyData} {vs : List V} (h : Rps N H vs ds) {i : Nat} {v : V} (e : vs[i]? = some v) : ∃ d, ds[i]? = some d ∧ Rp N H v d := by
  induction ds generalizing vs i with
  | nil => cases h; cases i <;> cases e
  | cons d ds ih =>
    cases h with
    | cons r t =>
      cases i with
      | zero => cases e; exact ⟨d, rfl, r⟩
      | succ i => exact ih t (by simpa using e)
theorem Rps.get' {ds : List PyData} {vs : List V} (h : Rps N H vs ds) {i : Nat} {d : PyData} (e : ds[i]? = some d) : ∃ v, vs[i]? = some v ∧ Rp N H v d := by
  induction ds generalizing vs i with
  | nil => cases i <;> cases e
  | cons d ds ih =>
    cases h with
    | cons r t =>
      cases i with
      | zero => cases e; exact ⟨_, rfl, r⟩
      | succ i => exact ih t (by simpa using e)
theorem Rps.app {ds es : List PyData} {vs us : List V} (h : Rps N H vs ds) (h2 : Rps N H us es) : Rps N H (vs ++ us) (ds ++ es) := by
  induction ds generalizing vs with
  | nil => cases h; exact h2
  | cons d ds ih =>
    cases h with
    | cons r t => exact .cons r (ih t)
theorem Rps.drop {ds : List PyData} {vs : List V} (h : Rps N H vs ds) (n : Nat) : Rps N H (vs.drop n) (ds.drop n) := by
  induction n generalizing ds vs with
  | zero => exact h
  | succ n ih =>
    cases h with
    | nil => exact .nil
    | cons r t => exact ih t
theorem Rps.take {ds : List PyData} {vs : List V} (h : Rps N H vs ds) (n : Nat) : Rps N H (vs.take n) (ds.take n) := by
  induction n generalizing ds vs with
  | zero => exact .nil
  | succ n ih =>
    cases h with
    | nil => exact .nil
    | cons r t => exact .cons r (ih t)
theorem Rps.mem {ds : List PyData} {vs : List V} (h : Rps N H vs ds) {v : V} (e : v ∈ vs) : ∃ d, d ∈ ds ∧ Rp N H v d := by
  obtain ⟨i, hi, rfl⟩ := List.getElem_of_mem e
  obtain ⟨d, hd, r⟩ := h.get (List.getElem?_eq_getElem hi)
  exact ⟨d, List.mem_of_getElem? hd, r⟩
theorem Rps.erase {ds : List PyData} {vs : List V} (h : Rps N H vs ds) (n : Nat) : Rps N H (vs.eraseIdx n) (ds.eraseIdx n) := by
  induction n generalizing ds vs with
  | zero => cases h with
    | nil => exact .nil
    | cons r t => exact t
  | succ n ih =>
    cases h with
    | nil => exact .nil
    | cons r t => exact .cons r (ih t)
/-- ints -/
theorem Rps.ints : ∀ {ns : List Int} {vs : List V}, Rps N H vs (ns.map PyData.int) → vs = ns.map V.int
  | [], _, h => by cases h; rfl
  | n :: ns, _, h => by
    cases h with
    | cons r t => cases r; rw [Rps.ints t]; rfl
theorem rps_ints : ∀ (ns : List Int), Rps N H (ns.map V.int) (ns.map PyData.int)
  | [] => .nil
  | n :: ns => .cons (.int n) (rps_ints ns)
theorem Rps.bls : ∀ {ns : List Bool} {vs : List V}, Rps N H vs (ns.map PyData.bool) → vs = ns.map V.bl
  | [], _, h => by cases h; rfl
  | n :: ns, _, h => by
    cases h with
    | cons r t => cases r; rw [Rps.bls t]; rfl
end
/-- new addresses are of N -/
def Fr (N : NP) (H : Hp) : Prop := ∀ a, H a = none → N a
theorem Fr.same {N : NP} {H H' : Hp} (f : Fr N H) (s : Same H H') : Fr N H' := fun a e => f a (s.free e)
/-- what stood in N stands still, in N' -/
def Up (N : NP) (H : Hp) (N' : NP) (H' : Hp) : Prop := ∀ a o, N a → H a = some o → N' a ∧ H' a = some o
theorem Up.refl (N : NP) (H : Hp) : Up N H N H := fun _ _ n e => ⟨n, e⟩
theorem Up.trans {N N1 N2 : NP} {H H1 H2 : Hp} (u : Up N H N1 H1) (w : Up N1 H1 N2 H2) : Up N H N2 H2 := fun a o n e => w a o (u a o n e).1 (u a o n e).2
theorem Up.of {N : NP} {H H' : Hp} (s : Same H H') : Up N H N H' := fun a o n e => ⟨n, s a o e⟩
theorem Up.same {N N1 : NP} {H H1 H2 : Hp} (u : Up N H N1 H1) (s : Same H1 H2) : Up N H N1 H2 := u.trans (Up.of s)
theorem Rp.up {N N' : NP} {H H' : Hp} {v : V} {d : PyData} (u : Up N H N' H') (h : Rp N H v d) : Rp N' H' v d := Rp.mono u d h
theorem Rps.up {N N' : NP} {H H' : Hp} {v : List V} {d : List PyData} (u : Up N H N' H') (h : Rps N H v d) : Rps N' H' v d := Rps.mono u d h
/-! ### what evaluates to which data -/
def DE (N : NP) (te : TE) (σ : L2.St) (H : Hp) (d : PyData) : Prop := ∀ N1 H1, Up N H N1 H1 → Fr N1 H1 → ∀ Q : VK, (∀ v H2, Same H1 H2 → Rp N1 H2 v d → Q v H2) → te σ H1 Q
def DA (N : NP) (ta : TA) (σ : L2.St) (H : Hp) (ds : List PyData) : Prop := ∀ N1 H1, Up N H N1 H1 → Fr N1 H1 → ∀ Q : List V → Hp → Prop, (∀ vs H2, Same H1 H2 → Rps N1 H2 vs ds → Q vs H2) → ta σ H1 Q
def DT (N : NP) (tt : TT) (σ : L2.St) (H : Hp) (b : Bool) : Prop := ∀ N1 H1, Up N H N1 H1 → Fr N1 H1 → ∀ Q : Bool → Hp → Prop, (∀ H2, Same H1 H2 → Q b H2) → tt σ H1 Q
def DO (N : NP) (to : TO) (σ : L2.St) (H : Hp) (o : Option Int) : Prop := ∀ N1 H1, Up N H N1 H1 → Fr N1 H1 → ∀ Q : Option Int → Hp → Prop, (∀ H2, Same H1 H2 → Q o H2) → to σ H1 Q
/-- an operation on values, a call on values, by data -/
def R2D (r : R2) (x y z : PyData) : Prop := ∀ (N : NP) (H : Hp) (v u : V) (Q : VK), Fr N H → Rp N H v x → Rp N H u y → (∀ w H', Same H H' → Rp N H' w z → Q w H') → r v u H Q
def RCD (r : List V → Hp → VK → Prop) (xs : List PyData) (z : PyData) : Prop := ∀ (N : NP) (H : Hp) (vs : List V) (Q : VK), Fr N H → Rps N H vs xs → (∀ w H', Same H H' → Rp N H' w z → Q w H') → r vs H Q
section
variable {K : PySem.W.Frag} {N N' : NP} {σ : L2.St} {H H' : Hp} {ta tb te tx : TE} {t u : TT} {d x y z : PyData} {v : V}
theorem DE.up (s : Up N H N' H') (h : DE N te σ H d) : DE N' te σ H' d := fun N1 H1 a f Q q => h N1 H1 (s.trans a) f Q q
theorem DT.up {b : Bool} (s : Up N H N' H') (h : DT N t σ H b) : DT N' t σ H' b := fun N1 H1 a f Q q => h N1 H1 (s.trans a) f Q q
theorem DA.up {ta : TA} {ds : List PyData} (s : Up N H N' H') (h : DA N ta σ H ds) : DA N' ta σ H' ds := fun N1 H1 a f Q q => h N1 H1 (s.trans a) f Q q
theorem DE.run (h : DE N te σ H d) (f : Fr N H) {Q : VK} (q : ∀ v H2, Same H H2 → Rp N H2 v d → Q v H2) : te σ H Q := h N H (Up.refl N H) f Q q
theorem DT.run {b : Bool} (h : DT N t σ H b) (f : Fr N H) {Q : Bool → Hp → Prop} (q : ∀ H2, Same H H2 → Q b H2) : t σ H Q := h N H (Up.refl N H) f Q q
theorem DA.run {ta : TA} {ds : List PyData} (h : DA N ta σ H ds) (f : Fr N H) {Q : List V → Hp → Prop} (q : ∀ v H2, Same H H2 → Rps N H2 v ds → Q v H2) : ta σ H Q := h N H (Up.refl N H) f Q q
theorem DE.is (h : DE N te σ H x) (e : x = y) : DE N te σ H y := e ▸ h
theorem DT.is {a b : Bool} (h : DT N t σ H a) (e : a = b) : DT N t σ H b := e ▸ h
theorem de_var {i : Nat} (h : σ[i]? = some (some v)) (r : Rp N H v d) : DE N (tVar i) σ H d := fun _ H1 s _ _ q => ⟨v, h, q v H1 (Same.refl H1) (r.up s)⟩
theorem de_int {i : Int} : DE N (tC (.int i)) σ H (.int i) := fun _ H1 _ _ _ q => q _ H1 (Same.refl H1) (.int i)
theorem de_bl {b : Bool} : DE N (tC (.bl b)) σ H (.bool b) := fun _ H1 _ _ _ q => q _ H1 (Same.refl H1) (.bl b)
theorem de_non : DE N (tC .non) σ H .none := fun _ H1 _ _ _ q => q _ H1 (Same.refl H1) .non
theorem de_str {b : Str} : DE N (tC (.str b)) σ H (.str b) := fun _ H1 _ _ _ q => q _ H1 (Same.refl H1) (.str b)
theorem de_op {r : R2} (ha : DE N ta σ H x) (hb : DE N tb σ H y) (hr : R2D r x y z) : DE N (tOp r ta tb) σ H z := fun N1 H1 s f Q q =>
  ha N1 H1 s f _ fun v H2 s2 r2 => hb N1 H2 (s.same s2) (f.same s2) _ fun u H3 s3 r3 => hr N1 H3 v u Q ((f.same s2).same s3) (r2.same s3) r3 fun w H4 s4 r4 => q w H4 ((s2.trans s3).trans s4) r4
theorem da_nil : DA N tNil σ H [] := fun _ H1 _ _ _ q => q [] H1 (Same.refl H1) .nil
theorem da_cons {tr : TA} {ds : List PyData} (h : DE N te σ H d) (hr : DA N tr σ H ds) : DA N (tCons te tr) σ H (d :: ds) := fun N1 H1 s f Q q =>
  h N1 H1 s f _ fun v H2 s2 r2 => hr N1 H2 (s.same s2) (f.same s2) _ fun vs H3 s3 r3 => q (v :: vs) H3 (s2.trans s3) (.cons (r2.same s3) r3)
theorem de_tup {ta : TA} {ds : List PyData} (h : DA N ta σ H ds) (hl : ds.length ≤ 1000 := by first | decide | simp) : DE N (tTup ta) σ H (.tuple ds) := fun N1 H1 s f Q q =>
  h N1 H1 s f _ fun vs H2 s2 r2 => ⟨Nat.le_of_lt (small1000 (by rw [r2.len]; exact hl)), fun p hp => q _ _ (s2.trans (same_upd hp)) (.tup (f p (s2.free hp)) upd_same (r2.same (same_upd hp)))⟩
theorem de_lst {ta : TA} {ds : List PyData} (h : DA N ta σ H ds) (hl : ds.length ≤ 1000 := by first | decide | simp) : DE N (tLst ta) σ H (.list ds) := fun N1 H1 s f Q q =>
  h N1 H1 s f _ fun vs H2 s2 r2 => ⟨Nat.le_of_lt (small1000 (by rw [r2.len]; exact hl)), fun p hp => q _ _ (s2.trans (same_upd hp)) (.lst (f p (s2.free hp)) upd_same (r2.same (same_upd hp)))⟩
theorem de_cb {r : List V → Hp → VK → Prop} {ta : TA} {ds : List PyData} (h : DA N ta σ H ds) (hr : RCD r ds z) : DE N (tCB r ta) σ H z := fun N1 H1 s f Q q =>
  h N1 H1 s f _ fun vs H2 s2 r2 => hr N1 H2 vs Q (f.same s2) r2 fun w H3 s3 r3 => q w H3 (s2.trans s3) r3
theorem do_none : DO N tNoPart σ H none := fun _ H1 _ _ _ q => q H1 (Same.refl H1)
theorem do_some {i : Int} (h : DE N te σ H (.int i)) : DO N (tPart te) σ H (some i) := fun N1 H1 s f Q q => h N1 H1 s f _ fun v H2 s2 r2 => by cases r2; exact ⟨i, rfl, q H2 s2⟩
-- tests
theorem dt_test {b : Bool} (h : DE N te σ H (.bool b)) : DT N (tTest te) σ H b := fun N1 H1 s f _ q => h N1 H1 s f _ fun v H2 s2 r2 => by cases r2; exact ⟨b, rfl, q H2 s2⟩
theorem dt_B {b : Bool} (h : DE N te σ H (.bool b)) : DT N (tB te) σ H b := fun N1 H1 s f _ q => h N1 H1 s f _ fun v H2 s2 r2 => by cases r2; exact ⟨b, rfl, q H2 s2⟩
theorem dt_and {a b : Bool} (h1 : DT N t σ H a) (h2 : a = true → DT N u σ H b) : DT N (tAnd t u) σ H (a && b) := fun N1 H1 s f Q q => h1 N1 H1 s f _ fun H2 s2 => by
  cases a with
  | true => exact h2 rfl N1 H2 (s.same s2) (f.same s2) Q fun H3 s3 => q H3 (s2.trans s3)
  | false => exact q H2 s2
theorem dt_or {a b : Bool} (h1 : DT N t σ H a) (h2 : a = false → DT N u σ H b) : DT N (tOr t u) σ H (a || b) := fun N1 H1 s f Q q => h1 N1 H1 s f _ fun H2 s2 => by
  cases a with
  | true => exact q H2 s2
  | false => exact h2 rfl N1 H2 (s.same s2) (f.same s2) Q fun H3 s3 => q H3 (s2.trans s3)
theorem dt_not {a : Bool} (h1 : DT N t σ H a) : DT N (tNot t) σ H (!a) := fun N1 H1 s f _ q => h1 N1 H1 s f _ fun H2 s2 => q H2 s2
theorem dt_yes : DT N tYes σ H true := fun _ H1 _ _ _ q => q H1 (Same.refl H1)
theorem de_andV {a b : Bool} (h1 : DE N ta σ H (.bool a)) (h2 : a = true → DE N tb σ H (.bool b)) : DE N (tAndV ta tb) σ H (.bool (a && b)) := fun N1 H1 s f Q q => h1 N1 H1 s f _ fun v H2 s2 r2 => by
  cases r2
  refine ⟨a, rfl, ?_⟩
  cases a with
  | true => exact h2 rfl N1 H2 (s.same s2) (f.same s2) Q fun w H3 s3 r3 => q w H3 (s2.trans s3) r3
  | false => exact q _ H2 s2 (.bl false)
theorem de_orV {a b : Bool} (h1 : DE N ta σ H (.bool a)) (h2 : a = false → DE N tb σ H (.bool b)) : DE N (tOrV ta tb) σ H (.bool (a || b)) := fun N1 H1 s f Q q => h1 N1 H1 s f _ fun v H2 s2 r2 => by
  cases r2
  refine ⟨a, rfl, ?_⟩
  cases a with
  | true => exact q _ H2 s2 (.bl true)
  | false => exact h2 rfl N1 H2 (s.same s2) (f.same s2) Q fun w H3 s3 r3 => q w H3 (s2.trans s3) r3
theorem de_notV {a : Bool} (h1 : DE N ta σ H (.bool a)) : DE N (tNotV ta) σ H (.bool (!a)) := fun N1 H1 s f _ q => h1 N1 H1 s f _ fun v H2 s2 r2 => by
  cases r2
  exact ⟨a, rfl, q _ H2 s2 (.bl _)⟩
theorem de_if {b : Bool} (h : DT N t σ H b) (h1 : b = true → DE N ta σ H d) (h2 : b = false → DE N tb σ H d) : DE N (tIf t ta tb) σ H d := fun N1 H1 s f Q q => h N1 H1 s f _ fun H2 s2 => by
  cases b with
  | true => exact h1 rfl N1 H2 (s.same s2) (f.same s2) Q fun w H3 s3 r3 => q w H3 (s2.trans s3) r3
  | false => exact h2 rfl N1 H2 (s.same s2) (f.same s2) Q fun w H3 s3 r3 => q w H3 (s2.trans s3) r3
def nonD : PyData → Bool
  | .none => true
  | _ => false
theorem de_isN (h : DE N ta σ H x) : DE N (tIsN ta) σ H (.bool (nonD x)) := fun N1 H1 s f Q q => h N1 H1 s f _ fun v H2 s2 r2 => by
  have e : (V.bl (decide (v = .non))) = .bl (nonD x) := by cases r2 <;> rfl
  show Q (.bl (decide (v = .non))) H2
  rw [e]; exact q _ H2 s2 (.bl _)
theorem de_notN (h : DE N ta σ H x) : DE N (tNotN ta) σ H (.bool (!nonD x)) := fun N1 H1 s f Q q => h N1 H1 s f _ fun v H2 s2 r2 => by
  have e : (V.bl (!decide (v = .non))) = .bl (!nonD x) := by cases r2 <;> rfl
  show Q (.bl (!decide (v = .non))) H2
  rw [e]; exact q _ H2 s2 (.bl _)
-- operations
theorem r2_i {g : Int → Int → Int} {i j : Int} : R2D (rI0 fun a b => .int (g a b)) (.int i) (.int j) (.int (g i j)) := fun N H v u Q _ r1 r2 q => by
  cases r1; cases r2; exact ⟨i, j, rfl, rfl, q _ H (Same.refl H) (.int _)⟩
theorem r2_b {g : Int → Int → Bool} {i j : Int} : R2D (rI0 fun a b => .bl (g a b)) (.int i) (.int j) (.bool (g i j)) := fun N H v u Q _ r1 r2 q => by
  cases r1; cases r2; exact ⟨i, j, rfl, rfl, q _ H (Same.refl H) (.bl _)⟩
theorem r2_ic {C : Int → Int → Prop} {g : Int → Int → Int} {i j : Int} (c : C i j) : R2D (rI C fun a b => .int (g a b)) (.int i) (.int j) (.int (g i j)) := fun N H v u Q _ r1 r2 q => by
  cases r1; cases r2; exact ⟨i, j, rfl, rfl, c, q _ H (Same.refl H) (.int _)⟩
theorem r2_eqD (sx : SeqAt.shaped x = true) (sy : SeqAt.shaped y = true) : R2D (rEqD K) x y (.bool (PyData.eqv x y)) := fun N H v u Q _ r1 r2 q => ⟨x, y, r1.dp _ (shaped_lay sx), r2.dp _ (shaped_lay sy), sx, sy, q _ H (Same.refl H) (.bl _)⟩
theorem r2_neD (sx : SeqAt.shaped x = true) (sy : SeqAt.shaped y = true) : R2D (rNeD K) x y (.bool (!PyData.eqv x y)) := fun N H v u Q _ r1 r2 q => ⟨x, y, r1.dp _ (shaped_lay sx), r2.dp _ (shaped_lay sy), sx, sy, q _ H (Same.refl H) (.bl _)⟩
/-- the items of a list or a tuple -/
def itemsD : PyData → Option (List PyData)
  | .list ds => some ds
  | .tuple ds => some ds
  | _ => none
theorem Rp.items {ds : List PyData} (h : Rp N H v d) (e : itemsD d = some ds) : ∃ a xs, v = .ref a ∧ N a ∧ (H a = some (.lst xs) ∨ H a = some (.tup xs)) ∧ Rps N H xs ds := by
  cases h <;> cases e
  · exact ⟨_, _, rfl, ‹_›, .inl ‹_›, ‹_›⟩
  · exact ⟨_, _, rfl, ‹_›, .inr ‹_›, ‹_›⟩
theorem Rp.seq {ds : List PyData} (h : Rp N H v d) (e : itemsD d = some ds) : ∃ a xs, v = .ref a ∧ N a ∧ (SqL K H a xs ∨ SqT K H a xs) ∧ Rps N H xs ds := by
  obtain ⟨a, xs, e1, n, h1, r⟩ := h.items e
  exact ⟨a, xs, e1, n, h1.imp SqL.of SqT.of, r⟩
theorem inV_ints (i : Int) : ∀ ns : List Int, inV (.int i) (ns.map V.int) = decide (i ∈ ns)
  | [] => by simp [inV]
  | n :: ns => by
    have ih := inV_ints i ns
    unfold inV at ih ⊢
    simp only [List.map_cons, List.any_cons]
    rw [ih]
    have e : eqV (.int n) (.int i) = decide (n = i) := by first | rfl | simp [eqV]
    rw [e]
    by_cases h : n = i
    · subst h; simp
    · simp [h, Ne.symm h]
theorem r2_in {i : Int} {ns : List Int} (e : itemsD y = some (ns.map PyData.int) := by rfl) : R2D (rIn K false) (.int i) y (.bool (decide (i ∈ ns))) := fun N H v u Q _ r1 r2 q => by
  cases r1
  obtain ⟨a, xs, rfl, _, h, r⟩ := r2.seq (K := K) e
  have hx := r.ints
  subst hx
  refine ⟨a, _, rfl, h, rfl, ?_, ?_⟩
  · simp [List.all_eq_true, flatV]
  · show Q (.bl (inV (.int i) (ns.map V.int))) H
    rw [inV_ints]; exact q _ H (Same.refl H) (.bl _)
theorem r2_nin {i : Int} {ns : List Int} (e : itemsD y = some (ns.map PyData.int) := by rfl) : R2D (rIn K true) (.int i) y (.bool (!decide (i ∈ ns))) := fun N H v u Q _ r1 r2 q => by
  cases r1
  obtain ⟨a, xs, rfl, _, h, r⟩ := r2.seq (K := K) e
  have hx := r.ints
  subst hx
  refine ⟨a, _, rfl, h, rfl, ?_, ?_⟩
  · simp [List.all_eq_true, flatV]
  · show Q (.bl (!inV (.int i) (ns.map V.int))) H
    rw [inV_ints]; exact q _ H (Same.refl H) (.bl _)
theorem r2_catT {xs ys : List PyData} (hl : xs.length + ys.length ≤ 10000000) : R2D (rCatA K) (.tuple xs) (.tuple ys) (.tuple (xs ++ ys)) := fun N H v u Q f r1 r2 q => by
  cases r1 with
  | tup n1 h1 q1 =>
    cases r2 with
    | tup n2 h2 q2 =>
      refine ⟨_, _, _, _, rfl, rfl, SqT.of h1, SqT.of h2, Nat.le_trans (by rw [q1.len, q2.len]; exact hl) (by decide : 10000000 ≤ sizeLine), fun e => ?_, fun _ e => ?_, fun _ _ p hp => ?_⟩
      · subst e
        cases q1
        exact q _ H (Same.refl H) (.tup n2 h2 q2)
      · subst e
        cases q2
        rw [List.append_nil] at q
        exact q _ H (Same.refl H) (.tup n1 h1 q1)
      · exact q _ _ (same_upd hp) (.tup (f p hp) upd_same ((q1.app q2).same (same_upd hp)))
theorem r2_catL {xs ys : List PyData} (hl : xs.length + ys.length ≤ 10000000) : R2D rCat (.list xs) (.list ys) (.list (xs ++ ys)) := fun N H v u Q f r1 r2 q => by
  cases r1 with
  | lst n1 h1 q1 =>
    cases r2 with
    | lst n2 h2 q2 =>
      exact ⟨_, _, _, _, rfl, rfl, h1, h2, Nat.le_trans (by rw [q1.len, q2.len]; exact hl) (by decide : 10000000 ≤ sizeLine), fun p hp => q _ _ (same_upd hp) (.lst (f p hp) upd_same ((q1.app q2).same (same_upd hp)))⟩
theorem Rps.atI {xs : List V} {ds : List PyData} (h : Rps N H xs ds) {i : Int} {z : PyData} (e : L2.atI ds i = some z) : ∃ w, L2.atI xs i = some w ∧ Rp N H w z := by
  unfold L2.atI at e ⊢
  rw [h.len]
  cases e2 : ixN ds.length i with
  | none => rw [e2] at e; cases e
  | some j =>
    rw [e2] at e
    obtain ⟨w, hw, r⟩ := h.get' (i := j) e
    exact ⟨w, hw, r⟩
theorem r2_ix {ds : List PyData} {i : Int} (e : L2.atI ds i = some z) (ex : itemsD x = some ds := by rfl) : R2D (rIx K) x (.int i) z := fun N H v u Q f r1 r2 q => by
  cases r2
  obtain ⟨a, xs, rfl, _, h, r⟩ := r1.seq (K := K) ex
  obtain ⟨w, hw, rw'⟩ := r.atI e
  rcases h with h | h
  · exact .inl ⟨a, xs, i, w, rfl, rfl, h, hw, q w H (Same.refl H) rw'⟩
  · exact .inr (.inl ⟨a, xs, i, w, rfl, rfl, h, hw, q w H (Same.refl H) rw'⟩)
def cutD (xs : List PyData) (lo hi : Option Int) : List PyData := (xs.drop (HT.sIx xs.length 0 lo)).take (HT.sIx xs.length xs.length hi - HT.sIx xs.length 0 lo)
theorem Rps.cut {xs : List V} {ds : List PyData} (h : Rps N H xs ds) (lo hi : Option Int) : Rps N H (cutV xs lo hi) (cutD ds lo hi) := by
  unfold cutV cutD
  rw [h.len]
  exact (h.drop _).take _
theorem cutD_all {ds : List PyData} {lo hi : Option Int} (h : HT.sIx ds.length 0 lo = 0 ∧ HT.sIx ds.length ds.length hi = ds.length) : cutD ds lo hi = ds := by
  unfold cutD
  rw [h.1, h.2]
  simp
theorem de_slT {tl th : TO} {ds : List PyData} {lo hi : Option Int} (h : DE N te σ H (.tuple ds)) (h1 : DO N tl σ H lo) (h2 : DO N th σ H hi) : DE N (tSl (rSlA K) te tl th) σ H (.tuple (cutD ds lo hi)) := fun N1 H1 s f Q q =>
  h N1 H1 s f _ fun v H2 s2 r2 => h1 N1 H2 (s.same s2) (f.same s2) _ fun H3 s3 => h2 N1 H3 ((s.same s2).same s3) ((f.same s2).same s3) _ fun H4 s4 => by
    have r4 := (r2.same s3).same s4
    have f4 := ((f.same s2).same s3).same s4
    have s14 := (s2.trans s3).trans s4
    cases r4 with
    | tup n h q4 =>
      refine ⟨_, _, rfl, SqT.of h, fun w => ?_, fun _ p hp => ?_⟩
      · rw [q4.len] at w
        refine q _ H4 s14 ?_
        rw [cutD_all w]
        exact .tup n h q4
      · exact q _ _ (s14.trans (same_upd hp)) (.tup (f4 p hp) upd_same ((q4.cut lo hi).same (same_upd hp)))
theorem de_slL {tl th : TO} {ds : List PyData} {lo hi : Option Int} (h : DE N te σ H (.list ds)) (h1 : DO N tl σ H lo) (h2 : DO N th σ H hi) : DE N (tSl (rSlL K) te tl th) σ H (.list (cutD ds lo hi)) := fun N1 H1 s f Q q =>
  h N1 H1 s f _ fun v H2 s2 r2 => h1 N1 H2 (s.same s2) (f.same s2) _ fun H3 s3 => h2 N1 H3 ((s.same s2).same s3) ((f.same s2).same s3) _ fun H4 s4 => by
    have r4 := (r2.same s3).same s4
    have f4 := ((f.same s2).same s3).same s4
    have s14 := (s2.trans s3).trans s4
    cases r4 with
    | lst n h q4 => exact ⟨_, _, rfl, SqL.of h, fun p hp => q _ _ (s14.trans (same_upd hp)) (.lst (f4 p hp) upd_same ((q4.cut lo hi).same (same_upd hp)))⟩
-- built-ins
theorem rc_len {ds : List PyData} (e : itemsD x = some ds := by rfl) : RCD (fun xs H Q => ∃ p ys, xs = [.ref p] ∧ (SqL K H p ys ∨ SqT K H p ys) ∧ Q (.int ys.length) H) [x] (.int (ds.length : Nat)) := fun N H vs Q f r q => by
  cases r with
  | cons r t =>
    cases t
    obtain ⟨a, xs, rfl, _, h, r⟩ := r.seq (K := K) e
    exact ⟨a, xs, rfl, h, by rw [r.len]; exact q _ H (Same.refl H) (.int _)⟩
theorem rc_list {ds : List PyData} (e : itemsD x = some ds := by rfl) : RCD (fun xs H Q => ∃ p ys, xs = [.ref p] ∧ (SqL K H p ys ∨ SqT K H p ys) ∧ ∀ l, H l = none → Q (.ref l) (upd H l (.lst ys))) [x] (.list ds) := fun N H vs Q f r q => by
  cases r with
  | cons r t =>
    cases t
    obtain ⟨a, xs, rfl, _, h, r⟩ := r.seq (K := K) e
    exact ⟨a, xs, rfl, h, fun l hl => q _ _ (same_upd hl) (.lst (f l hl) upd_same (r.same (same_upd hl)))⟩
theorem rc_tuple {ds : List PyData} : RCD (fun xs H Q => ∃ p ys, xs = [.ref p] ∧ ((SqL K H p ys ∧ ∀ l, H l = none → Q (.ref l) (upd H l (.tup ys))) ∨ (SqT K H p ys ∧ Q (.ref p) H))) [.list ds] (.tuple ds) := fun N H vs Q f r q => by
  cases r with
  | cons r t =>
    cases t
    cases r with
    | lst n h r => exact ⟨_, _, rfl, .inl ⟨SqL.of h, fun l hl => q _ _ (same_upd hl) (.tup (f l hl) upd_same (r.same (same_upd hl)))⟩⟩
theorem rc_all {bs : List Bool} : RCD (rAll K) [.list (bs.map PyData.bool)] (.bool (bs.all id)) := fun N H vs Q f r q => by
  cases r with
  | cons r t =>
    cases t
    cases r with
    | lst n h r => 
      have e := r.bls
      subst e
      exact ⟨_, bs, rfl, SqL.of h, q _ H (Same.refl H) (.bl _)⟩
theorem rc_any {bs : List Bool} : RCD (rAny K) [.list (bs.map PyData.bool)] (.bool (bs.any id)) := fun N H vs Q f r q => by
  cases r with
  | cons r t =>
    cases t
    cases r with
    | lst n h r => 
      have e := r.bls
      subst e
      exact ⟨_, bs, rfl, SqL.of h, q _ H (Same.refl H) (.bl _)⟩
theorem rc_sum {ns : List Int} : RCD (rSum K) [.list (ns.map PyData.int)] (.int ns.sum) := fun N H vs Q f r q => by
  cases r with
  | cons r t =>
    cases t
    cases r with
    | lst n h r => 
      have e := r.ints
      subst e
      exact ⟨_, ns, rfl, SqL.of h, q _ H (Same.refl H) (.int _)⟩
theorem rc_min2 {i j : Int} : RCD (fun xs H Q => ∃ i j, xs = [.int i, .int j] ∧ Q (.int (if j < i then j else i)) H) [.int i, .int j] (.int (if j < i then j else i)) := fun N H vs Q f r q => by
  cases r with
  | cons r t =>
    cases t with
    | cons r2 t =>
      cases t; cases r; cases r2
      exact ⟨i, j, rfl, q _ H (Same.refl H) (.int _)⟩
/-- which kind data are of -/
def kindD : PyData → String
  | .none => "NoneType"
  | .bool _ => "bool"
  | .int _ => "int"
  | .str _ => "str"
  | .list _ => "list"
  | .tuple _ => "tuple"
  | .dict _ => "dict"
theorem Rp.ty (h : Rp N H v d) : TyX K H v (.type (kindD d)) := by
  cases h with
  | non => exact .base .non
  | bl b => exact .base (.bl b)
  | int i => exact .base (.int i)
  | str x => exact .base (.str x)
  | lst n e r => exact .base (.lst e)
  | tup n e r => exact .base (.tup e)
  | dct n e => exact .base (.dK e)
/-- x is a kind: told by its name -/
def rTyc (c : String) : List V → Hp → VK → Prop := fun _ _ _ => True
theorem de_tru (h : DE N ta σ H x) {k : Bool} (hk : (∃ b, x = .bool b ∧ k = b) ∨ (∃ i, x = .int i ∧ k = (i != 0)) ∨ ∃ ds, itemsD x = some ds ∧ k = !ds.isEmpty) : DT N (fun σ H Q => ta σ H fun x H' => ∃ k, TruV K x H' k ∧ Q k H') σ H k := fun N1 H1 s f Q q =>
  h N1 H1 s f _ fun v H2 s2 r2 => by
    refine ⟨k, ?_, q H2 s2⟩
    rcases hk with ⟨b, rfl, rfl⟩ | ⟨i, rfl, rfl⟩ | ⟨ds, e, rfl⟩
    · cases r2; rfl
    · cases r2; rfl
    · obtain ⟨a, xs, rfl, _, h, r⟩ := r2.seq (K := K) e
      have e2 : xs.isEmpty = ds.isEmpty := by
        cases r <;> rfl
      rcases h with h | h
      · exact .inl ⟨xs, h, by rw [e2]⟩
      · exact .inr (.inl ⟨xs, h, by rw [e2]⟩)
end
section
variable {X : Cx} {N : NP} {σ : L2.St} {H : Hp} {ta tb te tx : TE} {t u : TT} {d x y z : PyData} {v : V}
/-- isinstance(e, T): T told by its name -/
def rIsK : List V → Hp → VK → Prop := fun xs H Q => ∃ (x : V) (c : String) (d : PyData) (N : NP) (b : Bool), xs = [x, .ty c] ∧ Rp N H x d ∧ kitB (kindD d) c = some b ∧ Q (.bl b) H
theorem call_isK : CallR X (.builtin "isinstance") rIsK := fun pn s σ H xs us Q I r ⟨x, c, d, N, b, e, h, hk, q⟩ =>
  call_isi pn s σ H xs us Q I r ⟨x, .ty c, _, _, _, e, .ty c, h.ty, kit_ty hk, q⟩
theorem pe_tyn {x : Str} {pos : Pos} (n : String) (hg : Gl X x) (hm : X.mg x = none) (hv : bootBuiltins x = some (.type n)) (hn : x ≠ "__name__" := by decide) (hd : (x == ("__debug__" : Str)) = false := by decide) : PE X (.Name x pos) (tC (.ty n)) :=
  pe_bltn (v := .ty n) hg hm hv (by rfl) hn hd
theorem de_isK {c : String} {b : Bool} (h : DE N te σ H d) (hk : kitB (kindD d) c = some b := by ((try simp only [kindD]); decide +kernel)) : DE N (tCB rIsK (tCons te (tCons (tC (.ty c)) tNil))) σ H (.bool b) := fun N1 H1 s f Q q =>
  h N1 H1 s f _ fun v H2 s2 r2 => ⟨v, c, d, N1, b, rfl, r2, hk, q _ H2 s2 (.bl b)⟩
end
end Pu

namespace Pu
open PySem PySem.Spec PyProof.Rows L2
/-! ### the library's walks that give new pairs, as turns of the tracked heap -/
/-- each turn a new pair, of which says tells what it holds -/
def ItP (go : Nat → Hp → Prop) (says : Nat → Hp → V → V → Prop) (stop : Nat → Hp → Prop) : It where
  go := go
  yld := fun i H v H' => ∃ r p q, (v = .ref r ∧ H r = none ∧ H' = upd H r (.tup [p, q])) ∧ says i H p q
  stop := stop
/-- at its i-th turn the iterator at it walks so as the library tells: n pairs in all -/
def Pairs (P : Program) (w : World) (A : Around) (tg : Expr) (it : Addr) (fp : List Addr) (tn : Nat → Heap → Prop) (i n : Nat) (h : Heap) (pt : Nat → Value → Value → Prop) : Prop :=
  ∃ fr wr St, GoesN P w A tg it fr wr n (fun j h0 v h1 => ∃ r, v = .ref r ∧ h0.objs.size ≤ r ∧ ∃ a b, pt j a b ∧ h1.IsTuple r #[a, b]) St ∧ (∀ c ∈ wr, c ∈ fp) ∧ St i h ∧ ∀ g, St (i + 1) g → tn (i + 1) g
theorem turn_pairs {P : Program} {w : World} {K : PySem.W.Frag} {elts : List Expr} {kk : Nat} {tpos : Pos} {it : Addr} {fp : List Addr} {tn : Nat → Heap → Prop} {go stop : Nat → Hp → Prop} {says : Nat → Hp → V → V → Prop} (mem : it ∈ fp)
    (obj : ∀ i h, tn i h → ∀ c ∈ fp, ∃ o, h.get? c = some o ∧ ∀ v, o.data ≠ .cell v) (keep : ∀ i h h', tn i h → (∀ c ∈ fp, ∀ o, h.get? c = some o → h'.get? c = some o) → tn i h')
    (self : ∀ (A : Around) (i : Nat) (s : Shared) (Q : Value → Shared → Prop) (E : Value → Shared → Prop), tn i s.heap → Q (.ref it) s → wpAny (model P w) A (pyIter (.ref it)) Q E s)
    (walk : ∀ (X : Cx), X.prog = P → X.w = w → X.K = K → X.A.handled = none → ∀ (i : Nat) (pins : List (Addr × Obj)) (s : Shared) (σ : L2.St) (H : Hp), Inv X pins σ H s → tn i s.heap → go i H ∨ stop i H →
      ∃ n pt, Pairs P w X.A (.Tuple elts kk tpos) it fp tn i n s.heap pt ∧ (go i H → i < n ∧ ∀ a b, pt i a b → ∃ p q, RelV p a ∧ RelV q b ∧ says i H p q) ∧ (stop i H → i = n)) :
    Turn P w K (.Tuple elts kk tpos) (ItP go says stop) fp it tn where
  mem := mem
  obj := obj
  keep := keep
  self := self
  item := by
    rintro X rfl rfl rfl calm i pins s σ H E I own st more
    obtain ⟨n, pt, ⟨fr, wr, St, W, sub, now, nxt⟩, told, _⟩ := walk X rfl rfl rfl (I.ok.hd calm) i pins s σ H I st (.inl more)
    refine W.goes i s _ E (told more).1 now fun v h' tk ⟨r, e, hr, a, b, pab, pair⟩ st' still _ => ?_
    subst e
    obtain ⟨p, q, rp, rq, sy⟩ := (told more).2 a b pab
    have rest : ∀ c o, c ∉ fp → s.heap.get? c = some o → h'.get? c = some o := fun c o nc => still c o fun z => nc (sub c z)
    exact ⟨.ref r, _, I.turnedNew (t' := tk) (ob := .tup [p, q]) rest own hr ⟨(by decide : 2 ≤ sizeLine), [a, b], .cons rp (.cons rq .nil), pair⟩, rfl, ⟨r, p, q, ⟨rfl, I.hok.fresh hr, rfl⟩, sy⟩, nxt h' st', fun c hc => by
      obtain ⟨o, ho, _⟩ := obj i _ st c hc
      rw [upd_ne (Nat.ne_of_lt (Nat.lt_of_lt_of_le (Heap.lt_size ho) hr))]
      exact (own c hc).1⟩
  done := by
    rintro X rfl rfl rfl calm i pins s σ H E I own st over
    obtain ⟨n, pt, ⟨fr, wr, St, W, sub, now, _⟩, _, told⟩ := walk X rfl rfl rfl (I.ok.hd calm) i pins s σ H I st (.inr over)
    exact W.stops s _ E (told over ▸ now) fun h' tk still _ => I.turnedL (t' := tk) (fun c o nc => still c o fun z => nc (sub c z)) own
end Pu

namespace Pu
open PySem PySem.Spec PyProof.Rows L2
open AutoSeq1 (wpAny_loadPart')
/-! ### enumerate(t), t a tuple -/
/-- laid into the heap, one behind the other -/
def born (h : Heap) : List Obj → Heap
  | [] => h
  | o :: rest => born (h.push o) rest
theorem born_old : ∀ (row : List Obj) {h : Heap} {c : Addr} {o : Obj}, h.get? c = some o → (born h row).get? c = some o
  | [], _, _, _, e => e
  | _ :: rest, _, _, _, e => born_old rest (Heap.get?_push_of_some _ e)
theorem born_new (row : List Obj) : ∀ {h : Heap} {c : Addr} {o : Obj} (k : Nat), row[k]? = some o → o.isFreed = false → c = h.objs.size + k → (born h row).get? c = some o := by
  induction row with
  | nil => intro h c o k e; simp at e
  | cons o' rest ih =>
    intro h c o k e f r
    cases k with
    | zero =>
      obtain rfl : o' = o := by simpa using e
      rw [r]
      exact born_old rest (Heap.get?_push_size _ f)
    | succ k => exact ih (h := h.push o') k (by simpa using e) f (by rw [Heap.size_push, r]; exact Nat.add_right_comm _ k 1)
/-- what enumerate makes of the tuple at l, from the place n on -/
def enumRow (n l : Addr) : List Obj := [{ cls := .type "tuple_iterator", data := .fields #[.ref l, .int 0 0] }, { cls := .type "enumerate", data := .fields #[.none, .bool false, .ref n, rawInt 0, .none, .none] }]
theorem enum_new (l : Addr) (items : Array Value) (room : Nat) (dct : Option Addr) (sl : Array (Option Value)) : Meets (Builtin.«enumerate.__new__» ⟨[.type "enumerate", .ref l], []⟩)
    (fun _ R s => s.heap.get? l = some { cls := .type "tuple", dict := dct, data := .seq items room, slots := sl } ∧ R (.ok (.ret (.ref (s.heap.objs.size + 1)))) { s with heap := born s.heap (enumRow s.heap.objs.size l) }) :=
  .of_wp fun prog w A R s given => by
    obtain ⟨g, glob, mods, tok, out⟩ := s
    obtain ⟨at_l, fin⟩ := given
    have is_enum := sub_enumerate
    have tup : Heap.IsTuple (Shared.heap ⟨g, glob, mods, tok, out⟩) l items := ⟨_, at_l, rfl, room, rfl⟩
    have last : R (.ok (.ret (.ref (g.push { cls := .type "tuple_iterator", data := .fields #[.ref l, .int 0 0] }).objs.size))) ⟨(g.push { cls := .type "tuple_iterator", data := .fields #[.ref l, .int 0 0] }).push { cls := .type "enumerate", data := .fields #[.none, .bool false, .ref g.objs.size, rawInt 0, .none, .none] }, glob, mods, tok, out⟩ := by
      rw [Heap.size_push]; exact fin
    clear fin
    wp_walk using wpAny_loadPart' at_l
    refine wpAny_stack_any fun frames => wpAny_pure ?_
    split
    · rename_i c _ _ _ _ _
      cases (c == Value.type "enumerate")
      all_goals
        wp_walk using wpAny_loadPart' at_l, wpAny_pyIter_tuple tup
        exact ⟨_, rfl, last⟩
    · wp_walk using wpAny_loadPart' at_l, wpAny_pyIter_tuple tup
      exact ⟨_, rfl, last⟩
theorem enum_call {prog : Program} {w : World} {A : Around} {E : Value → Shared → Prop} {s : Shared} {l : Addr} {items : Array Value} {Q : Value → Shared → Prop} (tup : s.heap.IsTuple l items)
    (q : Q (.ref (s.heap.objs.size + 1)) { s with heap := born s.heap (enumRow s.heap.objs.size l) }) : wpAny (model prog w) A (call (.type "enumerate") [.ref l]) Q E s := by
  obtain ⟨⟨cls, dct, dat, sl⟩, at_l, e1, room, e2⟩ := tup
  dsimp only at e1 e2
  subst e1 e2
  refine callType_new F.called_enumerate (by decide) (F.typeCall_enumerate_1 _) (F.newCall_enumerate_1 _) (fun o => F.args_object_init_2 o _) F.entry_enumerate_new (enum_new l items room dct sl) ⟨at_l, ?_⟩
  exact ⟨⟨_, born_new _ 1 rfl rfl rfl, rfl⟩, q⟩
/-- the tuple at a, each item in a new pair behind its number -/
def Itet (K : PySem.W.Frag) (a : Addr) : It :=
  ItP (fun i H => ∃ xs, SqT K H a xs ∧ i < xs.length) (fun i H p q => p = .int (i : Nat) ∧ ∀ xs, SqT K H a xs → xs[i]? = some q) (fun i H => ∃ xs, SqT K H a xs ∧ i = xs.length)
theorem on_two {φ : Addr → Prop} {x y : Addr} (h1 : φ x) (h2 : φ y) : ∀ c ∈ [x, y], φ c := fun c hc => by
  rcases List.mem_cons.mp hc with rfl | hc
  · exact h1
  · exact List.mem_singleton.mp hc ▸ h2
theorem turn_enumT {P : Program} {w : World} {K : PySem.W.Frag} {elts : List Expr} {kk : Nat} {tpos : Pos} {a e it : Addr} (n1 : e ≠ it) (n2 : a ≠ it) (n3 : e ≠ a) :
    Turn P w K (.Tuple elts kk tpos) (Itet K a) [e, it] e (fun i h => (∃ last, IsEnum h e it ((0 : Int) + (i : Nat)) last) ∧ h.IsTupleIter it a i) :=
  turn_pairs (by simp) (fun i h ⟨⟨last, me⟩, o, ho, _, dt⟩ => on_two (φ := fun c => ∃ o, h.get? c = some o ∧ ∀ v, o.data ≠ .cell v) ⟨_, me, fun _ z => nomatch z⟩ ⟨o, ho, fun _ z => by rw [dt] at z; cases z⟩)
    (fun i h h' ⟨⟨last, me⟩, at_⟩ k => ⟨⟨last, k e (by simp) _ me⟩, at_.at fun o q => k it (by simp) o q⟩) (fun A i s Q E ⟨⟨_, me⟩, _⟩ q => wpAny_pyIter_enum me q) (by
    rintro X rfl rfl rfl calm i pins s σ H I ⟨me, at_⟩ any
    obtain ⟨xs, tup⟩ : ∃ xs, SqT X.K H a xs := any.elim (fun ⟨xs, t, _⟩ => ⟨xs, t⟩) fun ⟨xs, t, _⟩ => ⟨xs, t⟩
    obtain ⟨us, rel, raw, _⟩ := I.tuple tup
    have len := rel.length
    refine ⟨us.toArray.size, fun j u v => (∃ t, u = .int ((0 : Int) + (j : Nat)) t) ∧ us.toArray[j]? = some v, ⟨_, _, _, (GoesN.enumFrom 0 (Draws.tuple (A := X.A.in1) calm it a n2 us.toArray) e n1 (by simp [n1, n3]) (by simp)).mono fun j h0 v h1 _ ⟨r, t, x, ev, hr, hx, pr⟩ => ⟨r, ev, hr, _, x, ⟨⟨t, rfl⟩, hx⟩, pr⟩, fun c hc => hc, ⟨me, at_, raw⟩, fun g q => ⟨q.1, q.2.1⟩⟩, ?_, ?_⟩
    · rintro ⟨ys, tys, lt⟩
      obtain rfl := I.tuple_inj tys tup
      refine ⟨by simp; omega, fun u v ⟨⟨t, eu⟩, ev⟩ => ?_⟩
      subst eu
      obtain ⟨v', e1, rv⟩ := rel.get (List.getElem?_eq_getElem lt)
      obtain rfl : v' = v := by simpa [e1] using ev
      exact ⟨.int (i : Nat), _, ⟨t, by rw [Int.zero_add]⟩, rv, rfl, fun zs tz => I.tuple_inj tz tup ▸ List.getElem?_eq_getElem lt⟩
    · rintro ⟨ys, tys, eq⟩
      obtain rfl := I.tuple_inj tys tup
      simp; omega)
def iEnumT (K : PySem.W.Frag) (ta : TA) : TI := fun σ H R => ta σ H fun vs H1 => ∃ a, vs = [.ref a] ∧ (∃ xs, SqT K H1 a xs) ∧ R (Itet K a) H1
theorem pi_enumT {X : Cx} {e : Expr} {ta : TA} {p pos tpos : Pos} {elts : List Expr} {kk : Nat} (hg : Gl X "enumerate") (hm : X.mg "enumerate" = none) (ha : PA X [e] ta) (hs : starEach [e] X.env = [(false, eval e X.env)] := by rfl) :
    PI X (.Tuple elts kk tpos) (.Call (.Name "enumerate" p) [e] [] pos) (iEnumT X.K ta) where
  run pins s σ H R J h := Call_ (ld_blt J hg hm boot_enumerate (PyProof.Rows.callWith_type1 (thn (ha.run pos pins s σ H _ J h) fun us t ⟨vs, G, I, rel, a, e0, ⟨xs, tup⟩, q⟩ => by
    subst e0
    obtain ⟨u, rfl, r1⟩ := rel.one
    cases r1
    obtain ⟨its, _, raw, _⟩ := I.tuple tup
    have lt : a < t.heap.objs.size := by
      obtain ⟨o, ho, _⟩ := id raw
      exact Heap.lt_size ho
    refine enum_call raw (wpAny_pyIter_enum (born_new _ 1 rfl rfl rfl) ?_)
    have new : ∀ k, FpOk X pins G (t.heap.objs.size + k) := fun k => I.fpOk (Nat.le_add_right ..) (I.hok.fresh (Nat.le_add_right ..))
    exact ⟨_, _, _, _, G, rfl, I.kept (t' := t.toks) fun _ _ => born_old _, turn_enumT (a := a) (e := t.heap.objs.size + 1) (it := t.heap.objs.size) (Nat.succ_ne_self _) (Nat.ne_of_lt lt) (Nat.ne_of_gt (Nat.lt_succ_of_lt lt)), ⟨⟨_, born_new _ 1 rfl rfl rfl⟩, _, born_new _ 0 rfl rfl rfl, rfl, rfl⟩, on_two (φ := FpOk X pins G) (new 1) (new 0), q⟩) hs rfl))
/-! ### a list or a tuple walked -/
def iSeq (K : PySem.W.Frag) (tl : TE) : TI := fun σ H R => tl σ H fun x H1 => ∃ a, x = .ref a ∧ (((∃ xs, SqL K H1 a xs) ∧ R (Itl K a) H1) ∨ ((∃ xs, SqT K H1 a xs) ∧ R (Itt K a) H1))
theorem pi_seq {X : Cx} {tg l : Expr} {tl : TE} (hl : PE X l tl) : PI X tg l (iSeq X.K tl) where
  run pins s σ H R J h := thn (hl.run pins s σ H _ J h) fun v t ⟨x, G, I, rel, a, e0, c⟩ => by
    subst e0
    cases rel
    have new : ∀ b ∈ [t.heap.objs.size], FpOk X pins G b := fun b hb => List.mem_singleton.mp hb ▸ I.fpOk (Nat.le_refl _) (I.hok.fresh (Nat.le_refl _))
    have put : ∀ (o : Obj), Inv X pins σ G { t with heap := t.heap.push o } := fun o => I.kept (t' := t.toks) fun _ _ => Heap.get?_push_of_some _
    rcases c with ⟨⟨xs, sq⟩, q⟩ | ⟨⟨xs, sq⟩, q⟩
    · obtain ⟨_, _, raw, _⟩ := I.list sq
      exact wpAny_pyIter_list raw.isList ⟨_, _, _, _, G, rfl, put _, turn_list a _, ⟨_, Heap.get?_push_size _ rfl, rfl, rfl⟩, new, q⟩
    · obtain ⟨us, _, raw, _⟩ := I.tuple sq
      exact wpAny_pyIter_tuple (show t.heap.IsTuple a us.toArray from raw) ⟨_, _, _, _, G, rfl, put _, turn_tuple a _, ⟨_, Heap.get?_push_size _ rfl, rfl, rfl⟩, new, q⟩
end Pu

namespace Pu
open PySem PySem.Spec PyProof.Rows L2
/-! ### list(zip(xs, ys)) -/
theorem zip_no_len : typeLookup (.type "zip") "__len__" = pure none := am_miss_of_fast (by decide +kernel)
theorem zip_no_hint : typeLookup (.type "zip") "__length_hint__" = pure none := am_miss_of_fast (by decide +kernel)
/-- the zip's own objects at turn i -/
structure ZSt (h : Heap) (z TI TO i1 i2 l1 l2 : Addr) (X1 X2 : Array Value) (i : Nat) (S : Addr) : Prop where
  ti : IsPair h TI (.ref i1) (.ref i2)
  h1 : h.IsListIter i1 l1 i
  h2 : h.IsListIter i2 l2 i
  a1 : h.IsList l1 X1
  a2 : h.IsList l2 X2
  to : ∃ o, h.get? TO = some o
  zz : (IsZip h z TI TO .none ∧ ∃ a b, IsPair h TO a b) ∨ ∃ T f oT, IsZipHeld h z TI TO T f ∧ h.get? T = some oT ∧ T ≠ z ∧ T ≠ i1 ∧ T ≠ i2 ∧ T ≠ S
theorem ZSt.keep {h h' : Heap} {z TI TO i1 i2 l1 l2 : Addr} {X1 X2 : Array Value} {i : Nat} {S : Addr} (st : ZSt h z TI TO i1 i2 l1 l2 X1 X2 i S) (nS : ∀ b ∈ [z, TI, TO, i1, i2, l1, l2], b ≠ S)
    (k : ∀ b o, b ≠ S → h.get? b = some o → h'.get? b = some o) : ZSt h' z TI TO i1 i2 l1 l2 X1 X2 i S := by
  refine ⟨k _ _ (nS TI (by simp)) st.ti, st.h1.at fun o e => k _ _ (nS i1 (by simp)) e, st.h2.at fun o e => k _ _ (nS i2 (by simp)) e, st.a1.at fun o e => k _ _ (nS l1 (by simp)) e, st.a2.at fun o e => k _ _ (nS l2 (by simp)) e, let ⟨o, e⟩ := st.to; ⟨o, k _ _ (nS TO (by simp)) e⟩, ?_⟩
  rcases st.zz with ⟨hz, a, b, hTO⟩ | ⟨T, f, oT, hz, hT, r1, r2, r3, r4⟩
  · exact .inl ⟨k _ _ (nS z (by simp)) hz, a, b, k _ _ (nS TO (by simp)) hTO⟩
  · exact .inr ⟨T, f, oT, k _ _ (nS z (by simp)) hz, k _ _ r4 hT, r1, r2, r3, r4⟩
section
variable {X : Cx} {pins : List (Addr × Obj)} {σ : L2.St}
theorem refs_ts (ts : List Addr) : Vals (ts.map V.ref) (ts.map Value.ref) := by
  induction ts with
  | nil => exact .nil
  | cons t ts ih => exact .cons rfl ih
theorem zip_loop (hc : X.calm = true) {A : Around} (hA : A.handled = none) {R : Result → Shared → Prop} {z TI TO i1 i2 l1 l2 S : Addr} {X1 X2 : Array Value} {xs ys : List V} (res : Value) (D : ZipApart z TI TO i1 i2 l1 l2)
    (nS : ∀ b ∈ [z, TI, TO, i1, i2, l1, l2], b ≠ S) (v1 : Vals xs X1.toList) (v2 : Vals ys X2.toList) (H1 : Hp) (hS1 : H1 S = none) (hl : xs.length = ys.length) (hz : xs.length ≤ 10000000) :
    ∀ (k i : Nat) (s : Shared) (H : Hp) (ts : List Addr) (c : Nat), xs.length - i = k → i ≤ xs.length → Inv X pins σ H s → (∀ b ∈ [z, TI, TO, i1, i2], FpOk X pins H b) → ZSt s.heap z TI TO i1 i2 l1 l2 X1 X2 i S →
      s.heap.get? S = some { cls := .type "list", dict := none, data := .seq (ts.map Value.ref).toArray c, slots := #[] } → H S = some (.lst (ts.map V.ref)) → ts.length = i → Same H1 H →
      (∀ (j : Nat) (t : Addr), ts[j]? = some t → H1 t = none ∧ t ≠ S ∧ ∃ x y, xs[j]? = some x ∧ ys[j]? = some y ∧ H t = some (.tup [x, y])) →
      (∀ (s' : Shared) (H' : Hp) (ts' : List Addr), Inv X pins σ H' s' → H' S = some (.lst (ts'.map V.ref)) → ts'.length = xs.length → Same H1 H' →
        (∀ (j : Nat) (t : Addr), ts'[j]? = some t → H1 t = none ∧ t ≠ S ∧ ∃ x y, xs[j]? = some x ∧ ys[j]? = some y ∧ H' t = some (.tup [x, y])) → R (.ok (.ret res)) s') →
      codeAny (model X.prog X.w) A (.builtin "list.extend.loop" ⟨[.ref S, .ref z, res], []⟩) R s := by
  intro k
  induction k with
  | zero =>
    intro i s H ts c hk hi I hf st hS hHS hts sm hT fin
    have hin : i = xs.length := by omega
    refine codeAny_builtin F.entry_extend_loop ?_
    rw [Around.under_plainId F.plain_extend_loop _]
    show wpAny _ A.in1 (pyNext (.ref z) >>= _) _ _ s
    have e1 : X1[i]? = none ∨ X2[i]? = none := .inl (by
      have q1 := v1.length
      have q2 : X1.toList.length = X1.size := Array.length_toList
      exact Array.getElem?_eq_none (by omega))
    refine wpAny_bind ?_
    rcases st.zz with ⟨hz', a, b, hTO⟩ | ⟨T, f, oT, hz', hT', r1, r2, r3, r4⟩
    · refine wpAny_pyNext_zip_end (show A.in1.handled = none from hA) D hz' st.ti hTO st.h1 st.h2 st.a1 st.a2 e1 fun h' hk' => ?_
      refine wpAny_pure (fin _ H ts (I.turnedL (t' := s.toks) (ch := [z, TI, TO, i1, i2]) (fun c o hb q => hk' c o (fun q' => hb (by simp [q'])) (fun q' => hb (by simp [q'])) (fun q' => hb (by simp [q'])) (fun q' => hb (by simp [q'])) q) hf) hHS (by omega) sm hT)
    · refine wpAny_pyNext_zip_end_held (show A.in1.handled = none from hA) D hz' hT' st.ti st.h1 st.h2 st.a1 st.a2 e1 fun h' hk' => ?_
      refine wpAny_pure (fin _ H ts (I.turnedL (t' := s.toks) (ch := [z, TI, TO, i1, i2]) (fun c o hb q => hk' c o (fun q' => hb (by simp [q'])) (fun q' => hb (by simp [q'])) (fun q' => hb (by simp [q'])) q) hf) hHS (by omega) sm hT)
  | succ k ih =>
    intro i s H ts c hk hi I hf st hS hHS hts sm hT fin
    have hlt : i < xs.length := by omega
    have l1' := v1.length
    have l2' := v2.length
    obtain ⟨u, hu, ru⟩ := v1.get (List.getElem?_eq_getElem hlt)
    obtain ⟨u2, hu2, ru2⟩ := v2.get (List.getElem?_eq_getElem (show i < ys.length by omega))
    have hu' : X1[i]? = some u := by simpa using hu
    have hu2' : X2[i]? = some u2 := by simpa using hu2
    have lt : ∀ {c o}, s.heap.get? c = some o → s.heap.objs.size ≠ c := fun e => Nat.ne_of_gt (Heap.lt_size e)
    have n1 : s.heap.objs.size ≠ i1 := let ⟨_, e, _⟩ := st.h1; lt e
    have n2 : s.heap.objs.size ≠ i2 := let ⟨_, e, _⟩ := st.h2; lt e
    have nSz : s.heap.objs.size ≠ S := lt hS
    refine codeAny_builtin F.entry_extend_loop ?_
    rw [Around.under_plainId F.plain_extend_loop _]
    show wpAny _ A.in1 (pyNext (.ref z) >>= _) _ _ s
    refine wpAny_bind ?_
    -- what follows the next item
    have next : ∀ h', (∀ c o, c ∉ [z, TI, TO, i1, i2] → s.heap.get? c = some o → h'.get? c = some o) → IsPair h' s.heap.objs.size u u2 → h'.objs.size = s.heap.objs.size + 1 → ZSt h' z TI TO i1 i2 l1 l2 X1 X2 (i + 1) S →
        wpAny (model X.prog X.w) A.in1 (do updateSeq S (·.push (.ref s.heap.objs.size)); again (.builtin "list.extend.loop" ⟨[.ref S, .ref z, res], []⟩))
          (fun fin s' => match fin with | .done f => R (.ok f) s' | .again c' => c'.quiet = true ∧ codeAny (model X.prog X.w) A c' R s') (fun e s' => R (.error e) s') { s with heap := h' } := by
      intro h' hk' hT2 hsz st'
      have hn : H s.heap.objs.size = none := I.hok.fresh (Nat.le_refl _)
      have new : ObjOk X.prog X.w (upd H s.heap.objs.size (.tup [xs[i], ys[i]'(by omega)])) h' s.heap.objs.size (.tup [xs[i], ys[i]'(by omega)]) :=
        ⟨by show 2 ≤ sizeLine; decide, [u, u2], .cons ru (.cons ru2 .nil), ⟨_, hT2, rfl, _, rfl⟩⟩
      have I1 := I.turnedNew (t' := s.toks) (ch := [z, TI, TO, i1, i2]) hk' hf (Nat.le_refl _) new
      have hS' : h'.get? S = some { cls := .type "list", dict := none, data := .seq (ts.map Value.ref).toArray c, slots := #[] } := hk' S _ (fun hm => by
        have hm' : S = z ∨ S = TI ∨ S = TO ∨ S = i1 ∨ S = i2 := by simpa using hm
        rcases hm' with e | e | e | e | e
        · exact nS z (by simp) e.symm
        · exact nS TI (by simp) e.symm
        · exact nS TO (by simp) e.symm
        · exact nS i1 (by simp) e.symm
        · exact nS i2 (by simp) e.symm) hS
      have hHS' : (upd H s.heap.objs.size (.tup [xs[i], ys[i]'(by omega)])) S = some (.lst (ts.map V.ref)) := by rw [upd_ne (Ne.symm nSz)]; exact hHS
      refine wpAny_bind ?_
      have szb : ((ts.map Value.ref).toArray.push (.ref s.heap.objs.size)).size ≤ sizeLine + 1 := by
        rw [Array.size_push]; simp [hts, sizeLine_eq]; omega
      refine wpAny_updateSeq (s := { s with heap := h' }) hS' rfl (wpAny_pure ⟨plainId_quiet F.plain_extend_loop _, ?_⟩) (by simp [hts, sizeLine_eq]; omega) szb
      have eS := Heap.get?_update_self (h := h') (a := S) (Obj.mapSeq (·.push (Value.ref s.heap.objs.size))) hS' rfl
      have oth : ∀ b o, b ≠ S → h'.get? b = some o → (h'.update S (Obj.mapSeq (·.push (Value.ref s.heap.objs.size)))).get? b = some o := fun b o hb e => (Heap.get?_update_other _ _ (Ne.symm hb)).trans e
      have eS2 : (h'.update S (Obj.mapSeq (·.push (Value.ref s.heap.objs.size)))).get? S = some { cls := .type "list", dict := none, data := .seq ((ts ++ [s.heap.objs.size]).map Value.ref).toArray (c + 1), slots := #[] } := by
        rw [eS]; simp [Obj.mapSeq]
      have I2 := I1.write (t' := s.toks) (h' := h'.update S (Obj.mapSeq (·.push (Value.ref s.heap.objs.size)))) (x := S) (e := S) (o := .lst ((ts ++ [s.heap.objs.size]).map V.ref)) (by rw [hHS']; trivial) (.inl rfl) oth ⟨_, eS2⟩
        ⟨by simp [hts, sizeLine_eq]; omega, _, c + 1, refs_ts _, eS2⟩
      refine ih (i + 1) _ _ (ts ++ [s.heap.objs.size]) (c + 1) (by omega) hlt I2 (fun b hb => ?_) (st'.keep nS oth) eS2 upd_same (by simp [hts]) (fun b o e => ?_) (fun j t hj => ?_) fin
      · have f := hf b hb
        have nb : b ≠ S := nS b (by
          have e' : b = z ∨ b = TI ∨ b = TO ∨ b = i1 ∨ b = i2 := by simpa using hb
          rcases e' with q | q | q | q | q <;> simp [q])
        have nT : b ≠ s.heap.objs.size := by
          have e' : b = z ∨ b = TI ∨ b = TO ∨ b = i1 ∨ b = i2 := by simpa using hb
          rcases e' with q | q | q | q | q
          · rw [q]
            rcases st.zz with ⟨hz', _⟩ | ⟨_, _, _, hz', _⟩
            · exact (lt hz').symm
            · exact (lt hz').symm
          · rw [q]; exact (lt st.ti).symm
          · rw [q]
            obtain ⟨_, e⟩ := st.to
            exact (lt e).symm
          · rw [q]; exact n1.symm
          · rw [q]; exact n2.symm
        exact ⟨by rw [upd_ne nb, upd_ne nT]; exact f.1, f.2⟩
      · have nb : b ≠ S := fun q => by rw [q, hS1] at e; cases e
        have nT : b ≠ s.heap.objs.size := fun q => by
          have := sm b o e
          rw [q, hn] at this; cases this
        rw [upd_ne nb, upd_ne nT]
        exact sm b o e
      · by_cases hj' : j < ts.length
        · rw [List.getElem?_append_left hj'] at hj
          obtain ⟨a1, a2, x, y, ex, ey, et⟩ := hT j t hj
          have nT : t ≠ s.heap.objs.size := fun q => by rw [q, hn] at et; cases et
          exact ⟨a1, a2, x, y, ex, ey, by rw [upd_ne a2, upd_ne nT]; exact et⟩
        · have hjl : j < (ts ++ [s.heap.objs.size]).length := (List.getElem?_eq_some_iff.mp hj).1
          have ej : j = ts.length := by simp at hjl; omega
          subst ej
          rw [List.getElem?_append_right (Nat.le_refl _)] at hj
          simp at hj
          subst hj
          refine ⟨sm.free hn, nSz, xs[i], ys[i]'(by omega), by rw [hts]; exact List.getElem?_eq_getElem hlt, by rw [hts]; exact List.getElem?_eq_getElem (by omega), ?_⟩
          rw [upd_ne nSz, upd_same]
    rcases st.zz with ⟨hz', a, b, hTO⟩ | ⟨T, f, oT, hz', hT', r1, r2, r3, r4⟩
    · refine wpAny_pyNext_zip_item D hz' st.ti hTO st.h1 st.h2 st.a1 st.a2 hu' hu2' fun h' a1 a2 a3 a4 a5 a6 hk' => ?_
      exact next h' (fun c o hb q => hk' c o (fun q' => hb (by simp [q'])) (fun q' => hb (by simp [q'])) (fun q' => hb (by simp [q'])) (fun q' => hb (by simp [q'])) q) a5 a6
        ⟨hk' _ _ D.TIz D.TITO D.TIi1 D.TIi2 st.ti, a3, a4, st.a1.at fun o e => hk' _ o D.l1z D.l1TO D.l1i1 D.l1i2 e, st.a2.at fun o e => hk' _ o D.l2z D.l2TO D.l2i1 D.l2i2 e,
          ⟨_, a2⟩, .inr ⟨s.heap.objs.size, false, _, a1, a5, lt hz', n1, n2, nSz⟩⟩
    · refine wpAny_pyNext_zip_item_held D hz' hT' st.ti st.h1 st.h2 st.a1 st.a2 hu' hu2' fun h' a1 a3 a4 a5 a6 hk' => ?_
      exact next h' (fun c o hb q => hk' c o (fun q' => hb (by simp [q'])) (fun q' => hb (by simp [q'])) (fun q' => hb (by simp [q'])) q) a5 a6
        ⟨hk' _ _ D.TIz D.TIi1 D.TIi2 st.ti, a3, a4, st.a1.at fun o e => hk' _ o D.l1z D.l1i1 D.l1i2 e, st.a2.at fun o e => hk' _ o D.l2z D.l2i1 D.l2i2 e,
          let ⟨_, e⟩ := st.to; ⟨_, hk' _ _ D.TOz D.TOi1 D.TOi2 e⟩, .inr ⟨T, true, oT, a1, hk' _ _ r1 r2 r3 hT', r1, r2, r3, r4⟩⟩
end
end Pu

namespace Pu
open PySem PySem.Spec PyProof.Rows L2
/-! ### list(i) of an iterator i of which nothing tells how long it is -/
/-- all that stood in h stands in g, and at S there is the list of xs -/
def Lies (h : Heap) (S : Addr) (xs : Array Value) (g : Heap) : Prop := (∀ b o, h.get? b = some o → g.get? b = some o) ∧ ∃ c, g.get? S = some { cls := .type "list", dict := none, data := .seq xs c, slots := #[] }
section
variable {P : Program} {w : World} {A : Around} {E : Value → Shared → Prop} {s : Shared}
theorem Lies.set {S : Addr} {xs : Array Value} {f : Array Value → Array Value} {Q : Unit → Shared → Prop} {g : Heap} (L : Lies s.heap S xs g) (free : s.heap.get? S = none) (q : ∀ g', Lies s.heap S (f xs) g' → Q () { s with heap := g' }) (n1 : xs.size ≤ sizeLine) (n2 : (f xs).size ≤ sizeLine + 1) :
    wpAny (model P w) A (updateSeq S f) Q E { s with heap := g } := by
  obtain ⟨old, c, at_⟩ := L
  refine wpAny_updateSeq (s := { s with heap := g }) at_ rfl (q _ ⟨fun b o e => ?_, _, Heap.get?_update_self _ at_ rfl⟩) n1 n2
  exact (Heap.get?_update_other _ _ fun z : S = b => by rw [← z, free] at e; cases e).trans (old b o e)
theorem list_iter {T : String} {i : Addr} {Q : Value → Shared → Prop} (ty : ∀ g, (∀ b o, s.heap.get? b = some o → g.get? b = some o) → Shared.TypeIs { s with heap := g } (.ref i) T) (lt : i < s.heap.objs.size) (nl : (Value.type T == Value.type "list") = false) (nt : (Value.type T == Value.type "tuple") = false)
    (len : typeLookup (.type T) "__len__" = pure none) (hint : typeLookup (.type T) "__length_hint__" = pure none)
    (self : ∀ (A : Around) (E Q : Value → Shared → Prop) (g : Heap), (∀ b o, s.heap.get? b = some o → g.get? b = some o) → Q (.ref i) { s with heap := g } → wpAny (model P w) A (pyIter (.ref i)) Q E { s with heap := g })
    (loop : ∀ g, Lies s.heap s.heap.objs.size #[] g → codeAny (model P w) A.in1 (.builtin "list.extend.loop" ⟨[.ref s.heap.objs.size, .ref i, .none], []⟩) (wants (fun r u => r = .none ∧ Q (.ref s.heap.objs.size) u) E) { s with heap := g }) :
    wpAny (model P w) A (call (.type "list") [.ref i]) Q E s := by
  have free : s.heap.get? s.heap.objs.size = none := by
    cases e : s.heap.get? s.heap.objs.size with
    | none => rfl
    | some o => exact absurd (Heap.lt_size e) (Nat.lt_irrefl _)
  have ne : (Value.ref s.heap.objs.size == Value.ref i) = false := by simp; exact Nat.ne_of_gt lt
  refine callType_codes (Q₁ := fun v u => v = .ref s.heap.objs.size ∧ ∃ g, u = { s with heap := g } ∧ Lies s.heap s.heap.objs.size #[] g) F.called_list (F.typeCall_list_1 _) F.entry_list_init
    (code_list_new _ ⟨rfl, _, rfl, fun _ _ => Heap.get?_push_of_some _, 0, Heap.get?_push_size _ rfl⟩) (by
    rintro v u ⟨rfl, g, rfl, L⟩
    obtain ⟨c, at_⟩ := L.2
    refine ⟨⟨_, at_, rfl⟩, F.args_list_init_2 _ _, wpAny_bind (m := Builtin.List.listItems (.ref s.heap.objs.size)) (wpAny_bind (wpAny_seqItems at_ rfl (wpAny_pure (wpAny_bind (m := updateSeq s.heap.objs.size fun _ => #[]) (L.set free (fun g L => wpAny_bind (m := letGo []) (wpAny_letGo ?_)) (by decide) (by decide))))))⟩
    show wpAny _ _ (Builtin.List.listExtendWith _ _ _) _ _ _
    unfold Builtin.List.listExtendWith Builtin.List.listLengthHint
    refine wpAny_bind (wpAny_typeOf (ty g L.1) ?_)
    simp only [show Builtin.List.listSameRef (.ref s.heap.objs.size) (.ref i) = false from by simpa [Builtin.List.listSameRef] using ne, nl, nt, Bool.or_false, Bool.false_eq_true, if_false]
    refine wpAny_bind (self _ _ _ g L.1 (wpAny_bind (wpAny_holding (wpAny_bind (wpAny_specialOf (ty g L.1) len (wpAny_bind (wpAny_specialOf (ty g L.1) hint (wpAny_pure ?_))))))))
    exact wpAny_bind (m := rule "list.extend.makes-room") (wpAny_rule (wpAny_bind (m := Builtin.List.listTouch (.ref s.heap.objs.size)) (wpAny_bind (m := updateSeq s.heap.objs.size (·.push .none)) (L.set free (fun g2 L2 => L2.set free (fun g3 L3 => wpAny_pure ⟨plainId_quiet F.plain_extend_loop _, loop g3 L3⟩) (by decide) (by decide)) (by decide) (by decide))))))
end
/-! ### list(zip(e, e2)) of two lists of one length -/
/-- what is told of the pairs at ts -/
def PairsAt (H1 H' : Hp) (S : Addr) (ts : List Addr) (xs ys : List V) : Prop := ∀ (j : Nat) (t : Addr), ts[j]? = some t → H1 t = none ∧ t ≠ S ∧ ∃ x y, xs[j]? = some x ∧ ys[j]? = some y ∧ H' t = some (.tup [x, y])
def tListZip (K : PySem.W.Frag) (ta : TA) : TE := fun σ H Q => ta σ H fun vs H1 => ∃ a b xs ys, vs = [.ref a, .ref b] ∧ SqL K H1 a xs ∧ SqL K H1 b ys ∧ xs.length = ys.length ∧ xs.length ≤ 10000000 ∧
  ∀ (S : Addr) (ts : List Addr) (H' : Hp), H1 S = none → Same H1 H' → H' S = some (.lst (ts.map V.ref)) → ts.length = xs.length → PairsAt H1 H' S ts xs ys → Q (.ref S) H'
section
variable {X : Cx} {pins : List (Addr × Obj)} {σ : L2.St}
theorem list_of_zip (hc : X.calm = true) {G : Hp} {s : Shared} {a b : Addr} {us vs : List Value} {xs ys : List V} (I : Inv X pins σ G s) (la : s.heap.IsList a us.toArray) (lb : s.heap.IsList b vs.toArray) (ra : Vals xs us) (rb : Vals ys vs) (even : xs.length = ys.length) (few : xs.length ≤ 10000000) {Q : VK}
    (q : ∀ (S : Addr) (ts : List Addr) (H' : Hp), G S = none → Same G H' → H' S = some (.lst (ts.map V.ref)) → ts.length = xs.length → PairsAt G H' S ts xs ys → Q (.ref S) H') :
    wpAny (model X.prog X.w) X.A (call (.type "zip") [.ref a, .ref b]) (fun z u => wpAny (model X.prog X.w) X.A (call (.type "list") [z]) (EP X pins σ Q) X.xe u) X.xe s := by
  have below : ∀ {l : Addr} {ws : Array Value}, s.heap.IsList l ws → l < s.heap.objs.size := fun ⟨o, e, _⟩ => Heap.lt_size e
  refine zip_begins2 (begins_list a us.toArray) (begins_list b vs.toArray) la lb fun g z ti to e1 e2 size old => ?_
  have D := PySem.W.ktu_apart s.heap.objs.size a b (below la) (below lb)
  have J : Inv X pins σ G { s with heap := g } := I.kept (t' := s.toks) old
  have free : G (s.heap.objs.size + 5) = none := I.hok.fresh (Nat.le_add_right ..)
  have part : ∀ c ∈ [s.heap.objs.size + 4, s.heap.objs.size + 2, s.heap.objs.size + 3, s.heap.objs.size, s.heap.objs.size + 1], ∃ k, k < 5 ∧ c = s.heap.objs.size + k := fun c hc => by
    simp only [List.mem_cons, List.not_mem_nil, or_false] at hc
    rcases hc with rfl | rfl | rfl | rfl | rfl
    · exact ⟨4, by decide, rfl⟩
    · exact ⟨2, by decide, rfl⟩
    · exact ⟨3, by decide, rfl⟩
    · exact ⟨0, by decide, rfl⟩
    · exact ⟨1, by decide, rfl⟩
  have away : ∀ c, c < s.heap.objs.size + 5 → c ≠ s.heap.objs.size + 5 := fun c h => Nat.ne_of_lt h
  have own : ∀ c ∈ [s.heap.objs.size + 4, s.heap.objs.size + 2, s.heap.objs.size + 3, s.heap.objs.size, s.heap.objs.size + 1], FpOk X pins G c := fun c hc => by
    obtain ⟨k, _, rfl⟩ := part c hc
    exact I.fpOk (Nat.le_add_right ..) (I.hok.fresh (Nat.le_add_right ..))
  refine list_iter (s := { s with heap := g }) (T := "zip") (fun g' k => ⟨_, k _ _ z, rfl⟩) (Heap.lt_size z) (by decide) (by decide) zip_no_len zip_no_hint (fun A E Q g' k q => wpAny_pyIter_zip (k _ _ z) q) fun g' ⟨k, c, at_⟩ => ?_
  dsimp only at k at_ ⊢
  rw [size] at at_ ⊢
  have mid : Inv X pins σ (upd G (s.heap.objs.size + 5) (.lst [])) { s with heap := g' } := J.laid (t' := s.toks) k (Nat.le_of_eq size) ⟨Nat.zero_le _, [], c, .nil, at_⟩
  have dr : ∀ {l i : Addr} {ws : Array Value}, s.heap.IsList l ws → g.get? i = some { cls := .type "list_iterator", data := .fields #[.ref l, .int 0 0] } → g'.IsListIter i l 0 ∧ g'.IsList l ws := fun l e => ⟨⟨_, k _ _ e, rfl, rfl⟩, l.at fun o e => k _ _ (old _ _ e)⟩
  refine zip_loop (A := X.A.in1) hc (show X.A.in1.handled = none from I.ok.hd hc) .none D (fun c hc => away c ?_) (X1 := us.toArray) (X2 := vs.toArray) (by simpa using ra) (by simpa using rb) G free even few _ 0 _ _ [] c rfl (Nat.zero_le _) mid (fun c hc => ?_)
    ⟨k _ _ ti, (dr la e1).1, (dr lb e2).1, (dr la e1).2, (dr lb e2).2, ⟨_, k _ _ to⟩, .inl ⟨k _ _ z, _, _, k _ _ to⟩⟩ at_ upd_same rfl (same_upd free) (fun j t e => nomatch e) fun u H' ts I' at' len same told => ⟨rfl, .ref _, H', I', rfl, q _ ts H' free same at' len told⟩
  · rcases (List.mem_append (s := [s.heap.objs.size + 4, s.heap.objs.size + 2, s.heap.objs.size + 3, s.heap.objs.size, s.heap.objs.size + 1]) (t := [a, b])).mp hc with hc | hc
    · obtain ⟨k, lt, rfl⟩ := part c hc
      exact Nat.add_lt_add_left lt _
    · rcases List.mem_cons.mp hc with rfl | hc
      · exact Nat.lt_of_lt_of_le (below la) (Nat.le_add_right ..)
      · exact List.mem_singleton.mp hc ▸ Nat.lt_of_lt_of_le (below lb) (Nat.le_add_right ..)
  · obtain ⟨n, lt, rfl⟩ := part c hc
    exact ⟨(upd_ne (away _ (Nat.add_lt_add_left lt _))).trans (own _ hc).1, (own _ hc).2⟩
end
theorem pe_listZip {X : Cx} {e e2 : Expr} {ta : TA} {p p2 pos q : Pos} (hc : X.calm = true) (hg : Gl X "list") (hm : X.mg "list" = none) (hg2 : Gl X "zip") (hm2 : X.mg "zip" = none) (ha : PA X [e, e2] ta)
    (hs : starEach [e, e2] X.env = (false, eval e X.env) :: starEach [e2] X.env := by rfl) (hpl : (backTo q (starEach [e2] X.env)).any (·.1) = false := by rfl)
    (na : starEach [.Call (.Name "zip" p2) [e, e2] [] q] X.env = (false, eval (.Call (.Name "zip" p2) [e, e2] [] q) X.env) :: starEach [] X.env := by rfl) :
    PE X (.Call (.Name "list" p) [.Call (.Name "zip" p2) [e, e2] [] q] [] pos) (tListZip X.K ta) where
  run pins s σ H Q J h := Call_ (ld_blt J hg hm (by decide +kernel : bootBuiltins "list" = some (.type "list")) (PyProof.Rows.callWith_type1 (PyProof.Rows.args_cons (Call_ (ld_blt J hg2 hm2 PyProof.Rows.boot_zip
    (PyProof.Rows.callWith_type1 (thn (ha.run q pins s σ H _ J h) fun us t ⟨vs, G, I, rel, a, b, xs, ys, e0, la, lb, even, few, fin⟩ => by
      subst e0
      obtain ⟨u, v, rfl, r1, r2⟩ := vals2 rel
      cases r1
      cases r2
      obtain ⟨us, ra, wa, _⟩ := I.list la
      obtain ⟨vs, rb, wb, _⟩ := I.list lb
      exact thn (list_of_zip hc I wa.isList wb.isList ra rb even few fin) fun z u h => PyProof.Rows.args_nil h) hs hpl))) na) na rfl))
end Pu

namespace Pu
open PySem PySem.Spec PyProof.Rows L2
/-! ### sets of any keys that are told by value, by the list of their members -/
/-- a kind of key whose values can be read back -/
structure Rdr (P : Program) (w : World) (κ : Type) [DecidableEq κ] where
  kd : PySem.KeyKind P w κ
  rd : Value → κ
  back : ∀ {v : Value} {k : κ}, kd.is k v = true → rd v = k
  scan : ∀ {v : Value} {k : κ}, kd.is k v = true → v.scannable = true
section
variable {P : Program} {w : World} {κ : Type} [DecidableEq κ] (D : Rdr P w κ)
/-- a row of the table that holds a key under the key's own hash -/
def Rdr.row (e : Int × Value) : Prop := D.kd.is (D.rd e.2) e.2 = true ∧ e.1 = D.kd.hash (D.rd e.2)
abbrev Rdr.keys (es : Array (Int × Value)) : List κ := es.toList.map fun e => D.rd e.2
/-- what a walk over the table wants -/
structure Tab (w : World) (n : Nat) (t : SetTable) : Prop where
  few : n < scanBound
  fit : t.fits n = true
  ris : Ris t.place.toList
  led : w.params.followText "set-order" = true ∨ t.led = true
/-- at a stands the set of the keys m -/
structure SetL (h : Heap) (a : Addr) (m : List κ) : Prop where
  nd : m.Nodup
  ex : ∃ o es ep t, h.get? a = some o ∧ o.ExactSet ∧ o.data = .set es ep t ∧ (∀ e ∈ es.toList, D.row e) ∧ (D.keys es).Perm m ∧ Tab w es.size t
variable {D} {h h' : Heap} {a : Addr} {m m' : List κ} {k : κ}
theorem SetL.mv (S : SetL D h a m) (e : h'.get? a = h.get? a) : SetL D h' a m := ⟨S.nd, let ⟨o, es, ep, t, q, r⟩ := S.ex; ⟨o, es, ep, t, e.trans q, r⟩⟩
theorem Rdr.find {es : Array (Int × Value)} (g : ∀ e ∈ es.toList, D.row e) : (∃ e ∈ es.toList, D.kd.is k e.2 = true) ↔ k ∈ D.keys es := by
  constructor
  · intro ⟨e, i, q⟩
    exact List.mem_map.mpr ⟨e, i, D.back q⟩
  · intro q
    obtain ⟨e, i, rfl⟩ := List.mem_map.mp q
    exact ⟨e, i, (g e i).1⟩
theorem Rdr.rows {es : Array (Int × Value)} (g : ∀ e ∈ es.toList, D.row e) : ElemsOf D.kd es.toList := fun e i => ⟨⟨_, g e i⟩, D.scan (g e i).1⟩
end
section
variable {P : Program} {w : World} {κ : Type} [DecidableEq κ] {D : Rdr P w κ} {A : Around} {E : Value → Shared → Prop} {s : Shared} {a : Addr} {m : List κ} {k : κ} {v : Value}
theorem Tab.size {n n' : Nat} {t : SetTable} (T : Tab w n t) (e : n' = n) : Tab w n' t := e ▸ T
/-- a grown table is laid, and made wider where it is full -/
theorem lay_wide {note : Bool → Sem Unit} (quiet : ∀ b (u : Shared) (R : Unit → Shared → Prop), R () u → wpAny (model P w) A (note b) R E u) {o : Obj} {es fs : Array (Int × Value)} {ep : Nat} {t u : SetTable} (at_ : s.heap.get? a = some o) (xo : o.ExactSet) (dt : o.data = .set es ep t)
    (g : ∀ e ∈ fs.toList, D.row e) (nd : m.Nodup) (pm : (D.keys fs).Perm m) (T : Tab w fs.size u) {dm : Bool} {R : Option Bool → Shared → Prop} (fin : ∀ h', Heap.SameBut a s.heap h' → SetL D h' a m → R (some true) { s with heap := h' }) :
    wpAny (model P w) A (storeSet a fs u >>= fun _ => if (!dm && u.tooFull) = true then note (relayAll u fs (SetTable.grown fs.size)).2.2 >>= fun _ => storeSet a (relayAll u fs (SetTable.grown fs.size)).1 (relayAll u fs (SetTable.grown fs.size)).2.1 >>= fun _ => pure (some true) else pure (some true)) R E s := by
  have first := store_at (es' := fs) (t' := u) at_ dt
  have but := Heap.SameBut.update s.heap a (Obj.putSet fs u)
  refine wpAny_bind (wpAny_storeSet_of at_ dt ?_ (fits_of_scanBound T.few))
  by_cases full : (!dm && u.tooFull) = true
  · rw [if_pos full]
    have p2 := relayAll_perm u fs (SetTable.grown fs.size)
    have T2 : Tab w fs.size (relayAll u fs (SetTable.grown fs.size)).2.1 := ⟨T.few, by
      have q := relayAll_fits u fs (SetTable.grown fs.size)
      rwa [show (relayAll u fs (SetTable.grown fs.size)).1.size = fs.size from by simpa using p2.length_eq] at q, relayAll_ris u fs _, T.led.imp_right fun z => (relayAll_led u fs _).trans z⟩
    have len : (relayAll u fs (SetTable.grown fs.size)).1.size = fs.size := by simpa using p2.length_eq
    revert p2 T2 len
    generalize relayAll u fs (SetTable.grown fs.size) = W
    intro p2 T2 len
    have T3 := T2.size len
    refine wpAny_bind (quiet _ _ _ (wpAny_bind (wpAny_storeSet_of first rfl ?_ (fits_of_scanBound T3.few))))
    exact wpAny_pure (fin _ (but.trans (.update ..)) ⟨nd, _, W.1, _, W.2.1, store_at first rfl, xo, rfl, fun e i => g e (p2.mem_iff.mp i), (p2.map _).trans pm, T3⟩)
  · rw [if_neg full]
    exact wpAny_pure (fin _ but ⟨nd, _, fs, _, u, first, xo, rfl, g, pm, T⟩)
/-- one key is put in -/
theorem put_key {R : Bool → Shared → Prop} (S : SetL D s.heap a m) (hv : D.kd.is k v = true) (room : m.length + 1 < scanBound)
    (old : k ∈ m → R false s) (new : k ∉ m → ∀ h', Heap.SameBut a s.heap h' → SetL D h' a (k :: m) → R true { s with heap := h' }) : wpAny (model P w) A (setAddHashed a v (D.kd.hash k)) R E s := by
  obtain ⟨nd, o, es, ep, t, at_, xo, dt, g, pm, T⟩ := S
  have all := Rdr.rows g
  have len : es.size = m.length := by simpa using pm.length_eq
  have hush : ∀ (b : Bool) (u : Shared) (R' : Unit → Shared → Prop), R' () u → wpAny (model P w) A (match b with | true => rule "set.scan.the-table-gave-way" | false => pure ()) R' E u := by
    intro b u R' r
    cases b
    · exact wpAny_pure r
    · exact wpAny_rule r
  have sc := D.scan hv
  unfold setAddHashed setAddHashedIn setAddByScan
  refine wpAny_holding (wpAny_bind (wpAny_setState_of at_ dt T.fit ?_))
  simp only [byScan_of sc T.few all, ↓reduceIte]
  refine wpAny_bind (wpAny_bind (wpAny_rule (wpAny_bind (wpAny_setScan_of hv at_ dt T.fit all ?_))))
  have seen : (List.findIdx? (fun e => D.kd.is k e.2) es.toList).isSome = true ↔ k ∈ m := by
    rw [← pm.mem_iff, ← Rdr.find g, List.findIdx?_isSome, List.any_eq_true]
  cases q : List.findIdx? (fun e => D.kd.is k e.2) es.toList with
  | some j => exact wpAny_pure (wpAny_pure (old (seen.mp (by rw [q]; rfl))))
  | none =>
    have out : k ∉ m := fun z => by
      have := seen.mpr z
      rw [q] at this; cases this
    have p1 := layNew_perm t es (D.kd.hash k) v
    have r1 := layNew_ris t es (D.kd.hash k) v T.ris
    have f1 := layNew_fits t es (D.kd.hash k) v
    have l1 := layNew_led t es (D.kd.hash k) v
    revert p1 r1 f1 l1
    generalize layNew t es (D.kd.hash k) v = W
    obtain ⟨fs, u, dm, gave⟩ := W
    intro p1 r1 f1 l1
    have p2 : fs.toList.Perm ((D.kd.hash k, v) :: es.toList) := (Array.toList_push ▸ p1 : fs.toList.Perm (es.toList ++ [(D.kd.hash k, v)])).trans (List.perm_append_singleton ..)
    have kv : D.rd v = k := D.back hv
    have g2 : ∀ e ∈ fs.toList, D.row e := fun e i => (List.mem_cons.mp (p2.mem_iff.mp i)).elim (fun z => by
      rw [z]
      exact ⟨by show D.kd.is (D.rd v) v = true; rw [kv]; exact hv, by show _ = D.kd.hash (D.rd v); rw [kv]⟩) (g e)
    have p3 : (D.keys fs).Perm (k :: m) := by
      have := p2.map fun e => D.rd e.2
      rw [List.map_cons, kv] at this
      exact this.trans (pm.cons k)
    have n3 : fs.size = m.length + 1 := by simpa using p3.length_eq
    have T2 : Tab w fs.size u := ⟨by omega, f1, r1, T.led.imp_right fun z => l1.trans z⟩
    have close := fun h' b S' => wpAny_pure (M := model P w) (A := A) (E := E) (new out h' b S')
    refine wpAny_bind (hush _ _ _ ?_)
    have last : ∀ h', Heap.SameBut a s.heap h' → SetL D h' a (k :: m) → wpAny (model P w) A (pure true) R E { s with heap := h' } := close
    have n4 : (k :: m).Nodup := List.nodup_cons.mpr ⟨out, nd⟩
    dsimp only
    split
    · rw [hashByValue_scannable 8 sc]
      refine wpAny_bind (wpAny_pure ?_)
      have T3 : Tab w fs.size (if plainKind v = true then u else { u with plain := false }) := by
        split
        · exact T2
        · exact ⟨T2.few, SetTable.fits_plain_off T2.fit, T2.ris, T2.led⟩
      exact lay_wide hush at_ xo dt g2 n4 p3 T3 last
    · refine wpAny_bind (wpAny_pure ?_)
      simp only [↓reduceIte]
      exact lay_wide hush at_ xo dt g2 n4 p3 T2 last
end
end Pu

namespace Pu
open PySem PySem.Spec PyProof.Rows L2
section
variable {P : Program} {w : World} {κ : Type} [DecidableEq κ] {D : Rdr P w κ} {A : Around} {E : Value → Shared → Prop}
/-- what the first i items of ks leave in the set at a -/
def Fed (D : Rdr P w κ) (a : Addr) (ks : List κ) (i : Nat) (h : Heap) : Prop := ∃ m : List κ, SetL D h a m ∧ m.length ≤ i ∧ ∀ k, k ∈ m ↔ k ∈ ks.take i
/-- all that a walk brings is put in -/
theorem feed {it a : Addr} {fp wr : List Addr} {G : Array GenState → Array GenState → Prop} {Pv : Nat → Value → Prop} {St : Nat → Shared → Prop} {R : Result → Shared → Prop} {ks : List κ} {n : Nat} (W : WalksS P w A.in1 it fp wr G n Pv St) (hn : n = ks.length) (na : a ∉ fp) (few : ks.length + 1 < scanBound)
    (tell : ∀ i v, Pv i v → ∃ k, ks[i]? = some k ∧ D.kd.is k v = true) :
    ∀ (left i : Nat) (s : Shared), i + left = ks.length → St i s → Fed D a ks i s.heap → (∀ u, Moved (a :: wr) G s u → Fed D a ks ks.length u.heap → R (.ok (.ret .none)) u) → codeAny (model P w) A (.builtin "set.update.loop" ⟨[.ref a, .ref it], []⟩) R s := by
  subst hn
  have nw : a ∉ wr := fun q => na (W.sub _ q)
  intro left
  induction left with
  | zero =>
    intro i s e st fed fin
    obtain rfl : i = ks.length := by omega
    refine codeAny_builtin F.entry_set_update_loop (Around.under_plainId F.plain_set_update_loop _ ▸ ?_)
    refine wpAny_bind (m := pyNext (.ref it)) (W.done s _ _ st fun u mv => ?_)
    obtain ⟨m, S, lm, hm⟩ := fed
    exact (show wpAny _ A.in1 (ret Value.none) _ _ u from wpAny_pure (fin u (mv.mono fun b q => List.mem_cons_of_mem _ q) ⟨m, ⟨S.nd, let ⟨o, es, ep, t, q, r⟩ := S.ex; ⟨o, es, ep, t, mv.heap a o nw q, r⟩⟩, lm, hm⟩))
  | succ left ih =>
    intro i s e st fed fin
    refine codeAny_builtin F.entry_set_update_loop (Around.under_plainId F.plain_set_update_loop _ ▸ ?_)
    refine wpAny_bind (m := pyNext (.ref it)) (W.item i s _ _ (by omega) st fun v u pv st2 mv => ?_)
    obtain ⟨k, hk, kv⟩ := tell i v pv
    obtain ⟨m, S, lm, hm⟩ := fed
    have S2 : SetL D u.heap a m := ⟨S.nd, let ⟨o, es, ep, t, q, r⟩ := S.ex; ⟨o, es, ep, t, mv.heap a o nw q, r⟩⟩
    have step : ∀ x, x ∈ ks.take (i + 1) ↔ x ∈ ks.take i ∨ x = k := fun x => by rw [List.take_add_one, hk]; simp
    have go : ∀ (h' : Heap) (b : Bool), Heap.SameBut a u.heap h' → Fed D a ks (i + 1) h' → wpAny (model P w) A.in1 (pure (Fin.again (.builtin "set.update.loop" ⟨[.ref a, .ref it], []⟩))) (fun fin s' => match fin with | .done f => R (.ok f) s' | .again c => c.quiet = true ∧ codeAny (model P w) A c R s') (fun e s' => R (.error e) s') { u with heap := h', toks := u.toks + 1 } := fun h' _ sb fed' =>
      wpAny_pure ⟨plainId_quiet F.plain_set_update_loop _, ih (i + 1) _ (by omega) (W.frame _ u _ _ st2 (Nat.le_succ _) fun b q o z => (sb.2 b fun y => na (y ▸ q)).trans z) fed' fun u' mv' f' => fin u' (Moved.trans W.gtrans ((mv.mono fun b q => List.mem_cons_of_mem _ q).then_heap (Nat.le_succ _) fun b o q z => (sb.2 b fun y => q (y ▸ List.mem_cons_self)).trans z) mv') f'⟩
    show wpAny _ A.in1 (holding [v] (setAdd a v) >>= _) _ _ u
    refine wpAny_bind (wpAny_holding ?_)
    unfold setAdd
    refine wpAny_holding (wpAny_bind (D.kd.pyHash kv ?_))
    refine put_key (s := { u with toks := u.toks + 1 }) (D := D) ⟨S2.nd, S2.ex⟩ kv (by omega) (fun old => ?_) fun new h' sb S3 => ?_
    · exact go u.heap true (.refl ..) ⟨m, S2, by omega, fun x => by rw [hm x, step x]; exact ⟨.inl, fun q => q.elim id fun y => y ▸ (hm k).mp old⟩⟩
    · exact go h' true sb ⟨k :: m, S3, by rw [List.length_cons]; omega, fun x => by rw [List.mem_cons, hm x, step x]; exact Or.comm⟩
end
end Pu

namespace Pu
open PySem PySem.Spec PyProof.Rows L2
abbrev noSet (w : World) : Obj := { cls := .type "set", dict := none, data := .set #[] 0 (.fresh 0 0 (!w.params.followText "set-order")) }
section
variable {P : Program} {w : World} {A : Around} {E : Value → Shared → Prop} {s : Shared}
theorem set_none {κ : Type} [DecidableEq κ] {D : Rdr P w κ} {h : Heap} {a : Addr} (q : h.get? a = some (noSet w)) : SetL D h a [] :=
  ⟨.nil, _, #[], 0, _, q, ⟨rfl, rfl, rfl⟩, rfl, (fun e i => nomatch i), .nil, ⟨by decide, rfl, .nil, (Decidable.em (w.params.followText "set-order" = true)).imp_right fun z => by simpa [SetTable.fresh] using z⟩⟩
theorem set_made {κ : Type} [DecidableEq κ] {D : Rdr P w κ} {L : Addr} {vals : Array Value} (zs : List κ) {Q : Value → Shared → Prop} (calm : A.handled = none) (isL : s.heap.IsList L vals) (size_eq : vals.size = zs.length) (each : ∀ (i : Nat) (v : Value), vals[i]? = some v → ∃ k, zs[i]? = some k ∧ D.kd.is k v = true) (few : zs.length + 1 < scanBound)
    (fin : ∀ (h2 : Heap) (tk : Nat) (m : List κ), SetL D h2 s.heap.objs.size m → (∀ k, k ∈ m ↔ k ∈ zs) → (∀ b o, s.heap.get? b = some o → h2.get? b = some o) → Q (.ref s.heap.objs.size) { s with heap := h2, toks := tk }) :
    wpAny (model P w) A (call (.type "set") [.ref L]) Q E s := by
  have hmade := PySem.F.called_set.made
  have hsub := PySem.F.called_set.sub
  obtain ⟨c0, tl0, hmro⟩ := PySem.F.called_set.mro
  refine wpAny_call (codeAny_of_tree ?_)
  show wpAny _ _ (callAny (.type "set") _) _ _ s
  refine wpAny_pure ⟨Code.quiet_builtin _ (by decide +kernel), codeAny_builtin PySem.F.entry_type_call ?_⟩
  rw [Around.under_plain (weight_type_call_type "set" [.ref L] []) rfl]
  have nT := PySem.F.called_set.notType
  have cC := PySem.F.called_set.canCreate
  have tC := PySem.F.typeCall_set_1 (.ref L)
  repeat (any_goals (first | assumption | wp_step))
  refine codeAny_mono (code_set_led1 (.ref L) (E := E) (Q₁ := fun ob s1 => ob = .ref s.heap.objs.size ∧ s1 = { s with heap := s.heap.push (noSet w) }) ⟨rfl, rfl⟩) fun r s1 hr => ?_
  cases r with
  | error e => exact hr
  | ok fl =>
    cases fl with
    | ret obj =>
      obtain ⟨rfl, rfl⟩ := hr
      have atS : (s.heap.push (noSet w)).get? s.heap.objs.size = some (noSet w) := Heap.get?_push_size _ rfl
      have tyS : Shared.TypeIs { s with heap := s.heap.push (noSet w) } (.ref s.heap.objs.size) "set" := ⟨_, atS, rfl⟩
      have lkI := PySem.F.called_set.init.lookup
      have bdI := PySem.F.called_set.init.bind (.ref s.heap.objs.size)
      repeat (any_goals (first | assumption | wp_step))
      refine codeAny_mono (codeAny_call_builtin (R := wants (fun r s2 => r = .none ∧ ∃ h2 tk, ∃ m : List κ, s2 = { s with heap := h2, toks := tk } ∧ SetL D h2 s.heap.objs.size m ∧ (∀ k, k ∈ m ↔ k ∈ zs) ∧
          (∀ b o, s.heap.get? b = some o → h2.get? b = some o)) E) PySem.F.called_set.init.plain PySem.F.entry_set_init (check_set_init_1 tyS ?_)) fun r2 s2 hr2 => ?_
      · obtain ⟨oL, atL, hcl, nL, hdl⟩ := isL
        obtain ⟨ocls, odict, odata, oslots⟩ := oL
        dsimp only at hcl hdl
        subst hcl hdl
        have atL' : (s.heap.push (noSet w)).get? L = some { cls := .type "list", dict := odict, data := .seq vals nL, slots := oslots } := Heap.get?_push_of_some _ atL
        have isL1 : (s.heap.push (noSet w)).IsList L vals := ⟨_, atL', rfl, nL, rfl⟩
        have k1 := PySem.F.sub_list_set
        have k2 := PySem.F.sub_list_frozenset
        have k3 : (Value.type "list" == Value.type "dict") = false := by decide
        unfold Builtin.«set.__init__» noKeywords Builtin.Frozenset.updateFrom
        generalize gI : pyIter = itOf
        wp_walk
        subst gI
        refine wpAny_pyIter_list isL1 (wpAny_bind (wpAny_runValue ?_))
        have ltL : L < s.heap.objs.size := Heap.lt_size atL
        have calm3 : A.in1.in1.in1.handled = none := by simp [calm]
        have nLI : L ≠ (s.heap.push (noSet w)).objs.size := by
          rw [Heap.size_push]
          exact fun e => Nat.ne_of_lt (Nat.lt_succ_of_lt ltL) e
        have nSf : s.heap.objs.size ∉ [(s.heap.push (noSet w)).objs.size, L] := by
          rw [Heap.size_push]
          simp only [List.mem_cons, List.not_mem_nil, or_false]
          rintro (e | e)
          · exact Nat.ne_of_lt (Nat.lt_succ_self _) e
          · exact Nat.ne_of_gt ltL e
        refine feed (D := D) (ks := zs) ((Walks.list calm3 _ L nLI vals).toS) size_eq nSf few each zs.length 0 _ (Nat.zero_add _) ⟨⟨_, Heap.get?_push_size _ rfl, rfl, rfl⟩, isL1.push _⟩ ⟨[], set_none (Heap.get?_push_of_some _ atS), Nat.le_refl _, fun k => by simp⟩ fun s3 mv ⟨m, R3, _, hm⟩ => ?_
        rw [List.take_length] at hm
        obtain ⟨h3, g3, d3, tk3, os3⟩ := s3
        have e1 : g3 = s.gens := mv.gens
        have e2 : d3 = s.drawn := mv.drawn
        have e3 : os3 = s.os := mv.os
        subst e1 e2 e3
        refine wpAny_pure ?_
        refine (show wpAny _ _ (ret Value.none) _ _ _ from wpAny_pure ⟨rfl, h3, tk3, m, rfl, R3, hm, fun b o e => ?_⟩)
        have lt := Heap.lt_size e
        refine mv.heap b o ?_ (Heap.get?_push_of_some _ (Heap.get?_push_of_some _ e))
        rw [Heap.size_push]
        simp only [List.mem_cons, List.not_mem_nil, or_false]
        rintro (e | e)
        · exact Nat.ne_of_lt lt e
        · exact Nat.ne_of_lt (Nat.lt_succ_of_lt lt) e
      · cases r2 with
        | error e => exact hr2
        | ok f2 =>
          cases f2 with
          | ret r =>
            obtain ⟨rfl, h2, tk, m, rfl, R2, le2, kp⟩ := hr2
            repeat (any_goals (first | assumption | wp_step))
            exact fin _ _ _ R2 le2 kp
          | _ => exact hr2.elim
    | _ => exact hr.elim
end
end Pu

namespace Pu
open PySem PySem.Spec PyProof.Rows L2
/-! ### set(l), l a list of whole numbers, any of them again -/
def intOf : Value → Int
  | .int k _ => k
  | _ => 0
theorem is_int {P : Program} {w : World} {v : Value} {k : Int} (h : (PySem.intKind P w).is k v = true) : ∃ t, v = .int k t := by
  cases v with
  | int n t => exact ⟨t, by rw [show n = k from by simpa [PySem.intKind, Value.isInt] using h]⟩
  | _ => simp [PySem.intKind, Value.isInt] at h
def intR (P : Program) (w : World) : Rdr P w Int where
  kd := PySem.intKind P w
  rd := intOf
  back := fun {v k} h => by
    obtain ⟨t, rfl⟩ := is_int h
    rfl
  scan := fun {v k} h => by
    obtain ⟨t, rfl⟩ := is_int h
    rfl
theorem SetL.ints {P : Program} {w : World} {h : Heap} {a : Addr} {m zs : List Int} (S : SetL (intR P w) h a m) (e : ∀ k, k ∈ m ↔ k ∈ zs) : SetR w h a (fun j => decide (j ∈ zs)) m.length := by
  obtain ⟨nd, o, es, ep, t, at_, xo, dt, rows, pm, T⟩ := S
  have same : es.toList.map L2.keyOf = (intR P w).keys es := List.map_congr_left fun x _ => by
    unfold L2.keyOf
    show _ = intOf x.2
    cases x.2 <;> rfl
  refine ⟨o, es, ep, t, at_, xo, dt, fun x hx => ?_, same ▸ pm.nodup_iff.mpr nd, fun k => ?_, T.few, T.fit, by simpa using pm.length_eq, T.ris, T.led⟩
  · obtain ⟨q, hash⟩ := rows x hx
    obtain ⟨tk, z⟩ := is_int q
    exact ⟨_, tk, z, hash⟩
  · rw [same, pm.mem_iff, e, decide_eq_true_eq]
section
variable {X : Cx}
def rSetL (K : PySem.W.Frag) (w : World) : List V → Hp → VK → Prop := fun xs H Q => ∃ (l : Addr) (zs : List Int), xs = [.ref l] ∧ SqL K H l (zs.map V.int) ∧ zs.length ≤ 1000 ∧
  ∀ (p : Addr) (n : Nat), H p = none → n ≤ zs.length → Q (.ref p) (upd H p (SetO w p (fun j => decide (j ∈ zs)) n))
theorem cr_setL (hc : X.calm = true) : CallR X (.type "set") (rSetL X.K X.w) := fun pins s σ H args us Q I rel ⟨l, zs, e0, sq, few, fin⟩ => by
  subst e0
  obtain ⟨_, rfl, r1⟩ := rel.one
  cases r1
  obtain ⟨its, rv, raw, _⟩ := I.list sq
  have ia : IntsAre its.toArray.toList zs := by simpa using Vals.ints rv
  refine set_made (D := intR X.prog X.w) zs (I.ok.hd hc) raw.isList (by simpa using IntsAre.length ia) (fun i v hv => ?_) (by unfold scanBound; omega) fun g tk m S hm old => ?_
  · have lt : i < zs.length := by
      have n1 : its.length = zs.length := by simpa using IntsAre.length ia
      have n2 := (Array.getElem?_eq_some_iff.mp hv).1
      rw [List.size_toArray] at n2
      omega
    obtain ⟨t, e⟩ := PyProof.Rows.IntsAre.int_at ia i v (by simpa using hv)
    exact ⟨zs[i], List.getElem?_eq_getElem lt, by rw [e, List.getD_eq_getElem?_getD, List.getElem?_eq_getElem lt]; exact intKind_is _ _ _ _⟩
  · refine ⟨.ref s.heap.objs.size, upd H s.heap.objs.size (SetO X.w s.heap.objs.size (fun j => decide (j ∈ zs)) m.length), I.laid (t' := tk) old (Nat.le_refl _) (setO_new (S.ints hm)), rfl, fin _ _ (I.hok.fresh (Nat.le_refl _)) ?_⟩
    exact List.Nodup.length_le_of_subset S.nd fun k hk => (hm k).mp hk
end
end Pu

namespace Pu
open PySem PySem.Spec PyProof.Rows L2
/-! ### tuples of whole numbers, of any lengths, in their order -/
section
variable {prog : Program} {w : World} {A : Around} {E : Value → Shared → Prop} {s : Shared}
/-- two rows are compared place by place -/
theorem lex_rows {Q : Bool → Shared → Prop} {b fin : Bool} {xs : List Value} {ns : List Int} (rx : IntsAre xs ns) : ∀ {ys : List Value} {ms : List Int} (i : Nat), IntsAre ys ms → fin = decide (xs.length < ys.length) → Q (HT.lexLt ns ms) s → PySem.W.KatLex prog w A b fin Q (xs.zip ys) i s := by
  induction rx with
  | nil =>
    rintro _ _ i (_ | _) rfl q <;> exact PySem.W.kat_nil q
  | cons n t rest ih =>
    rintro _ _ i (_ | ⟨m, t', rest'⟩) e q
    · exact e ▸ PySem.W.kat_nil q
    · rw [HT.lexLt_cons] at q
      exact PySem.W.kat_cons (SeqAt.EqAt.int_int n t m t' prog w _ _ (PySem.W.kat_go (fun z => PySem.W.kat_yes (ih (i + 1) rest' (by simpa using e) (by rwa [if_pos (by simpa using z)] at q)))
        fun z => PySem.W.kat_no (TS.oneLt_ints _ (by rwa [if_neg (by simpa using z)] at q))))
theorem lex_cmp {vs : List Value} {k : Value → List Int} (hv : ∀ v ∈ vs, TS.TupInts s.heap v (k v)) : SrtO.Cmp prog w A s (tuples' true) (fun p => p.1 ∈ vs) (SrtO.lt2 fun v u => HT.lexLt (k v) (k u)) := fun p q hp hq => by
  have one := hv _ hp
  have two := hv _ hq
  dsimp only [SrtO.lt2]
  revert one two
  generalize k p.1 = ns
  generalize k q.1 = ms
  rintro ⟨a, xs, e1, ⟨o, at1, _, n, d1⟩, r1⟩ ⟨b, ys, e2, ⟨u, at2, _, m, d2⟩, r2⟩
  rw [e1, e2]
  exact PySem.W.kat_lt at1 d1 at2 d2 (lex_rows r1 0 r2 (by simp) ⟨rfl, rfl⟩)
/-- the first numbers of the tuples -/
theorem lex_firsts {h : Heap} {k : Value → List Int} (vs : List Value) : (∀ v ∈ vs, TS.TupInts h v (k v) ∧ k v ≠ []) → ∃ fs : List (Int × Tok), PySem.W.KatTups h vs (fs.map fun f => Value.int f.1 f.2) ∧ fs.length = vs.length := by
  induction vs with
  | nil => exact fun _ => ⟨[], .nil, rfl⟩
  | cons v vs ih =>
    intro each
    obtain ⟨fs, tups, len⟩ := ih fun u hu => each u (.tail _ hu)
    obtain ⟨⟨a, xs, e, ⟨o, ho, hc, n, hd⟩, rows⟩, full⟩ := each v (.head _)
    subst e
    revert full
    revert rows
    generalize k (.ref a) = ns
    generalize hx : xs.toList = ys
    rintro (_ | ⟨m, t, _⟩) full
    · exact absurd rfl full
    · exact ⟨(m, t) :: fs, .cons ho hc hd (by rw [← Array.getElem?_toList, hx]; rfl) tups, congrArg Nat.succ len⟩
theorem lex_sortable {a : Addr} {vs : List Value} {k : Value → List Int} (some1 : 0 < vs.length) (each : ∀ v ∈ vs, TS.TupInts s.heap v (k v) ∧ k v ≠ []) (ha : ∀ o, s.heap.get? a = some o → o.cls ≠ .type "tuple") :
    SrtO.SortableO prog w A s a vs fun v u => HT.lexLt (k v) (k u) := fun g still => by
  have now : ∀ v ∈ vs, TS.TupInts g v (k v) ∧ k v ≠ [] := fun v hv => (each v hv).imp_left fun T => T.keeps fun b o e c => still b o (fun z => ha o (z ▸ e) c) e
  obtain ⟨fs, tups, len⟩ := lex_firsts vs now
  refine ⟨tuples' true, fun Q E q => PySem.W.kat_kind (T := .type "int") tups (by simpa using len ▸ some1) (fun f hf => ?_) (by rfl) ?_, lex_cmp fun v hv => (now v hv).1⟩
  · obtain ⟨x, _, rfl⟩ := List.mem_map.mp hf
    exact PySem.W.Looks.now
  · exact (show (Value.type "int" != Value.type "tuple") = true from by decide) ▸ q
end
/-- a list is no tuple -/
theorem list_no_tup {h : Heap} {a : Addr} {vs : List Value} {n : Nat} (e : h.get? a = some (seqObj "list" vs.toArray n)) : ∀ o, h.get? a = some o → o.cls ≠ .type "tuple" := fun o ho c => by
  obtain rfl := Option.some.inj (ho.symm.trans e)
  simp at c
section
variable {X : Cx}
/-- the whole numbers of a tracked tuple, by its value -/
noncomputable def keyOf (H : Hp) (v : V) : List Int := match v with
  | .ref a => match H a with
    | some (.tup xs) => xs.map fun x => match x with
      | .int i => i
      | _ => 0
    | _ => []
  | _ => []
theorem keyOf_eq {H : Hp} {a : Addr} {ns : List Int} (h : H a = some (.tup (ns.map V.int))) : keyOf H (.ref a) = ns := by
  simp [keyOf, h, Function.comp_def]
/-- sorted(xs), xs a list of tuples of one int or more -/
def rSortLex (K : PySem.W.Frag) : List V → Hp → VK → Prop := fun vs H Q => ∃ (a : Addr) (xs : List V), vs = [V.ref a] ∧ SqL K H a xs ∧ (∀ x ∈ xs, ∃ t ns, x = V.ref t ∧ H t = some (.tup (ns.map V.int)) ∧ ns ≠ []) ∧
  ∀ (ys : List V) (p : Addr), ys.Perm xs → ys.Pairwise (fun x y => HT.lexLt (keyOf H y) (keyOf H x) = false) → H p = none → Q (.ref p) (upd H p (.lst ys))
theorem cr_sortLex : CallR X (.builtin "sorted") (rSortLex X.K) := fun pins s σ H args us Q I rel ⟨a, xs, e0, sq, tups, fin⟩ => by
  subst e0
  obtain ⟨_, rfl, r1⟩ := rel.one
  cases r1
  obtain ⟨its, rv, raw, room⟩ := I.list sq
  obtain ⟨back, refs⟩ := bkV_refs rv fun x m => let ⟨t, _, e, _⟩ := tups x m; ⟨t, e⟩
  have key : ∀ v ∈ its, TS.TupInts s.heap v (keyOf H (bkV v)) ∧ keyOf H (bkV v) ≠ [] := fun v hv => by
    obtain ⟨t, rfl⟩ := refs v hv
    obtain ⟨_, ns, e, at_, full⟩ := tups (.ref t) (back ▸ List.mem_map_of_mem (f := bkV) hv)
    cases e
    rw [show keyOf H (bkV (.ref t)) = ns from keyOf_eq at_]
    exact ⟨tupI_raw I (SqT.of at_), full⟩
  refine SrtO.sorted_ord (ltv := fun v u => HT.lexLt (keyOf H (bkV v)) (keyOf H (bkV u))) (NtL.swo_lexL _) raw.isList (rv.length ▸ room) (fun two g b hb still => lex_sortable (s := { s with heap := g }) (by omega) (fun v hv => (key v hv).imp_left fun T => T.keeps fun c o e _ => (still c o e).2) (list_no_tup hb)) fun out srt stb => ?_
  have perm : (out.map bkV).Perm xs := back ▸ stb.perm.map bkV
  obtain ⟨n, hn⟩ := PyProof.Rows.sortedAll_at s.heap its out.toArray
  exact ⟨.ref (s.heap.objs.size + 1), upd H (s.heap.objs.size + 1) (.lst (out.map bkV)), I.laid (t' := s.toks) (fun _ _ => sortedAll_old) (Nat.le_succ _) ⟨perm.length_eq ▸ room, out, n, bkV_vals fun u hu => refs u (stb.perm.mem_iff.mp hu), hn⟩, rfl, fin _ _ perm (List.pairwise_map.mpr srt) (I.hok.fresh (Nat.le_succ _))⟩
end
end Pu

namespace Pu
open PySem PySem.Spec PyProof.Rows L2
/-- what lies behind a row that is the image of a list in another order -/
theorem perm_pre {α β : Type} {f : α → β} {vs us : List β} (p : vs.Perm us) : ∀ l : List α, us = l.map f → ∃ l' : List α, l'.Perm l ∧ vs = l'.map f := by
  induction p with
  | nil => exact fun l e => ⟨[], by cases l <;> simp_all, rfl⟩
  | cons x _ ih =>
    rintro (_ | ⟨a, l⟩) e
    · cases e
    · obtain ⟨rfl, e1⟩ := List.cons.inj e
      obtain ⟨l', p, rfl⟩ := ih l e1
      exact ⟨a :: l', p.cons a, rfl⟩
  | swap x y _ =>
    rintro (_ | ⟨a, _ | ⟨b, l⟩⟩) e
    · cases e
    · cases e
    · simp only [List.map_cons, List.cons.injEq] at e
      obtain ⟨rfl, rfl, rfl⟩ := e
      exact ⟨b :: a :: l, .swap .., rfl⟩
  | trans _ _ ih1 ih2 =>
    intro l e
    obtain ⟨l2, p2, e2⟩ := ih2 l e
    obtain ⟨l1, p1, e1⟩ := ih1 l2 e2
    exact ⟨l1, p1.trans p2, e1⟩
/-! ### sorted(s), s a set of tuples of whole numbers -/
section
variable {P : Program} {w : World} {A : Around} {E : Value → Shared → Prop} {s : Shared}
abbrev refs (L : List (Addr × List Int)) : List Value := L.map fun q => .ref q.1
theorem sorted_lex {a : Addr} {L : List (Addr × List Int)} {es : Array (Int × Value)} {ep : Nat} {t : SetTable} {Q : Value → Shared → Prop} (T : SetTR P w s.heap a L es ep t) (calm : A.handled = none) (full : ∀ q ∈ L, q.2 ≠ [])
    (fin : ∀ (u : Shared) (p : Addr) (out : List Value) (c : Nat) (M : List (Addr × List Int)), (∀ b o, s.heap.get? b = some o → u.heap.get? b = some o) ∧ u.gens = s.gens ∧ u.os = s.os → s.heap.objs.size ≤ p → u.heap.get? p = some (seqObj "list" out.toArray c) → out = refs M → M.Perm L → M.Pairwise (fun q r => HT.lexLt r.2 q.2 = false) → Q (.ref p) u) :
    wpAny (model P w) A (call (.builtin "sorted") [.ref a]) Q E s := by
  obtain ⟨o, at_, xo, dt⟩ := T.ob
  have small : es.size + 1 < scanBound := by
    have := T.few
    unfold scanBound
    rw [T.size]; omega
  refine Calls.call_function_entry kind_sorted plain_sorted entry_sorted (args_sorted1 _) (wpAny_bind (m := checkCount "sorted" 1 1 _) (wpAny_pure (wpAny_bind (collect_set (A := A.in1) calm ⟨o, at_, xo.1, dt⟩ T.fits (by omega) T.tab.ris T.led fun u vs old grow gen os pv => ?_))))
  obtain ⟨L0, p0, rfl⟩ := perm_pre (f := fun q : Addr × List Int => Value.ref q.1) pv L (by rw [T.rows, rowsOf, List.map_map]; rfl)
  have n0 : (refs L0).length < 64 := by rw [List.length_map, p0.length_eq]; exact T.few
  have fits : (refs L0).length ≤ sizeLine := Nat.le_trans (Nat.le_of_lt n0) (by decide : 64 ≤ sizeLine)
  refine wpAny_bind (wpAny_newList ?_ fits)
  have top : (u.heap.push (seqObj "list" (refs L0).toArray 0)).get? u.heap.objs.size = some (seqObj "list" (refs L0).toArray 0) := Heap.get?_push_size _ rfl
  generalize hg : u.heap.push (seqObj "list" (refs L0).toArray 0) = g at top
  have up : ∀ b o, s.heap.get? b = some o → g.get? b = some o := fun b o e => hg ▸ Heap.get?_push_of_some _ (old b o e)
  have told : ∀ q ∈ L0, TS.TupInts g (.ref q.1) q.2 := fun q hq => tupInts_of (P := P) (w := w) (isT_keep (T.tup q (p0.mem_iff.mp hq)) up)
  have each : ∀ v ∈ refs L0, TS.TupInts g v (TS.intsOf g v) ∧ TS.intsOf g v ≠ [] := fun v hv => by
    obtain ⟨q, hq, rfl⟩ := List.mem_map.mp hv
    rw [(told q hq).ints]
    exact ⟨told q hq, full q (p0.mem_iff.mp hq)⟩
  refine wpAny_bind (wpAny_holding (wpAny_call_entry slot_list_sort ⟨_, top, rfl⟩ entry_list_sort (SrtO.list_sort_ord (s := { u with heap := g }) (ltv := fun v u => HT.lexLt (TS.intsOf g v) (TS.intsOf g u)) (NtL.swo_lexL _) top fits
    (fun two => lex_sortable (by omega) each (list_no_tup top)) fun out srt stb => ⟨_, rfl, ?_⟩) (args_list_sort _)))
  obtain ⟨M, pm, rfl⟩ := perm_pre (f := fun q : Addr × List Int => Value.ref q.1) stb.perm L0 rfl
  obtain ⟨c, hc⟩ := sortedHeap_at (vs := refs L0) (out := (refs M).toArray) top
  refine wpAny_pure ⟨_, rfl, fin _ _ (refs M) c M ⟨fun b o e => ?_, gen, os⟩ grow hc rfl (pm.trans p0) ?_⟩
  · have lt := Heap.lt_size (old b o e)
    exact (sortedHeap_old (Nat.ne_of_lt lt) (Nat.lt_of_lt_of_le lt (hg ▸ Heap.size_push .. ▸ Nat.le_succ _))).trans (up b o e)
  · refine (List.pairwise_map.mp srt).imp_of_mem fun {q r} hq hr le => ?_
    rw [← (told q (pm.mem_iff.mp hq)).ints, ← (told r (pm.mem_iff.mp hr)).ints]
    exact le
end
section
variable {X : Cx}
def rSortedSetLex (K : PySem.W.Frag) (P : Program) (w : World) : List V → Hp → VK → Prop := fun vs H Q => ∃ (a : Addr) (L : List (Addr × List Int)), vs = [V.ref a] ∧ H a = some (SetTO P w a L) ∧ (∀ p ∈ L, SqT K H p.1 (p.2.map V.int) ∧ p.2 ≠ []) ∧
  ∀ (L' : List (Addr × List Int)) (p : Addr), L'.Perm L → (L'.map (·.2)).Nodup → L'.Pairwise (fun q r => HT.lexLt r.2 q.2 = false) → H p = none → Q (.ref p) (upd H p (.lst (L'.map fun q => V.ref q.1)))
theorem cr_sortedSetLex (hc : X.calm = true) : CallR X (.builtin "sorted") (rSortedSetLex X.K X.prog X.w) := fun pins s σ H args us Q I rel ⟨a, L, e0, ha, tups, fin⟩ => by
  subst e0
  obtain ⟨_, rfl, r1⟩ := rel.one
  cases r1
  have S : SetT0 X.prog X.w s.heap a L := (show ObjOk X.prog X.w H s.heap a (SetTO X.prog X.w a L) from I.hok a _ ha).1
  obtain ⟨es, ep, t, T⟩ := S.full fun q hq => I.isT (tups q hq).1
  refine sorted_lex T (I.ok.hd hc) (fun q hq => (tups q hq).2) fun u p out c M ⟨old, gen, os⟩ grow at_ eo pm srt => ?_
  have free : H p = none := I.hok.fresh grow
  have len : (M.map fun q => V.ref q.1).length ≤ sizeLine := by
    rw [List.length_map, pm.length_eq]
    exact Nat.le_trans (Nat.le_of_lt T.few) (by decide)
  refine ⟨.ref p, upd H p (.lst (M.map fun q => V.ref q.1)), ?_, rfl, fin M p pm ((pm.map (·.2)).nodup_iff.mpr T.nd) srt free⟩
  obtain ⟨uh, ug, ud, ut, uo⟩ := u
  obtain rfl : uo = s.os := os
  exact (I.call (ch := []) (Un.laid old grow free) (I.hok.laid old grow ⟨len, out, c, eo ▸ vals_of_refs M, at_⟩) (by rw [show ug = s.gens from gen]; exact I.bare) (fun _ z => nomatch z) : Inv X pins σ (upd H p (.lst (M.map fun q => V.ref q.1))) { s with heap := uh, gens := ug, drawn := ud, toks := ut })
/-- set(t), t a tuple of ints -/
def rSetTI (K : PySem.W.Frag) (w : World) : List V → Hp → VK → Prop := fun xs H Q => ∃ (l : Addr) (zs : List Int), xs = [.ref l] ∧ SqT K H l (zs.map V.int) ∧ zs.length ≤ 1000 ∧
  ∀ (p : Addr) (n : Nat), H p = none → n ≤ zs.length → Q (.ref p) (upd H p (SetO w p (fun j => decide (j ∈ zs)) n))
theorem cr_setTI (hc : X.calm = true) : CallR X (.type "set") (rSetTI X.K X.w) := fun pins s σ H args us Q I rel ⟨l, zs, e0, sq, few, fin⟩ => by
  subst e0
  obtain ⟨_, rfl, r1⟩ := rel.one
  cases r1
  obtain ⟨its, rv, raw, _⟩ := I.tuple sq
  refine call_set_tupI (P := X.prog) (w := X.w) zs (I.ok.hd hc) (show s.heap.IsTuple l its.toArray from raw) (by simpa using Vals.ints rv) (by unfold scanBound; omega) fun g tk n R le old => ?_
  exact ⟨.ref s.heap.objs.size, upd H s.heap.objs.size (SetO X.w s.heap.objs.size (fun j => decide (j ∈ zs)) n), I.laid (t' := tk) old (Nat.le_refl _) (setO_new R), rfl, fin _ n (I.hok.fresh (Nat.le_refl _)) le⟩
end
end Pu

namespace Pu
open PySem PySem.Spec PyProof.Rows L2
/-! ### walks by data -/
structure WalkD (N : NP) (H0 : Hp) (J : It) (ds : List PyData) : Prop where
  go : ∀ N' H', Up N H0 N' H' → ∀ i, i < ds.length → J.go i H'
  yld : ∀ N' H', Up N H0 N' H' → Fr N' H' → ∀ i x H'', i < ds.length → J.yld i H' x H'' → Same H' H'' ∧ ∃ d, ds[i]? = some d ∧ Rp N' H'' x d
  stop : ∀ N' H', Up N H0 N' H' → J.stop ds.length H'
def DI (N : NP) (wi : TI) (σ : L2.St) (H : Hp) (ds : List PyData) : Prop := ∀ N1 H1, Up N H N1 H1 → Fr N1 H1 → ∀ R : It → Hp → Prop, (∀ J H2, Same H1 H2 → WalkD N1 H2 J ds → R J H2) → wi σ H1 R
section
variable {K : PySem.W.Frag} {N N' : NP} {σ : L2.St} {H H' : Hp} {ta tb te tl : TE} {t u : TT} {d x y z : PyData} {v : V} {ds : List PyData}
theorem WalkD.up {J : It} (w : WalkD N H J ds) (u : Up N H N' H') : WalkD N' H' J ds := ⟨fun N1 H1 u1 => w.go N1 H1 (u.trans u1), fun N1 H1 u1 => w.yld N1 H1 (u.trans u1), fun N1 H1 u1 => w.stop N1 H1 (u.trans u1)⟩
theorem walk_lst {a : Addr} {xs : List V} (n : N a) (h : H a = some (.lst xs)) (r : Rps N H xs ds) : WalkD N H (Itl K a) ds := by
  refine ⟨fun N' H' u i hi => ?_, fun N' H' u f i x H'' hi y => ?_, fun N' H' u => ?_⟩
  · have e := r.len
    exact ⟨xs, xs[i]'(by omega), SqL.of (u a _ n h).2, List.getElem?_eq_getElem (by omega)⟩
  · obtain ⟨rfl, y⟩ := y
    have e := y xs (SqL.of (u a _ n h).2)
    obtain ⟨d, hd, rd⟩ := (r.up u).get e
    exact ⟨Same.refl _, d, hd, rd⟩
  · exact ⟨xs, SqL.of (u a _ n h).2, by rw [r.len]; exact Nat.le_refl _⟩
theorem walk_tupl {a : Addr} {xs : List V} (n : N a) (h : H a = some (.tup xs)) (r : Rps N H xs ds) : WalkD N H (Itt K a) ds := by
  refine ⟨fun N' H' u i hi => ?_, fun N' H' u f i x H'' hi y => ?_, fun N' H' u => ?_⟩
  · have e := r.len
    exact ⟨xs, xs[i]'(by omega), SqT.of (u a _ n h).2, List.getElem?_eq_getElem (by omega)⟩
  · obtain ⟨rfl, y⟩ := y
    have e := y xs (SqT.of (u a _ n h).2)
    obtain ⟨d, hd, rd⟩ := (r.up u).get e
    exact ⟨Same.refl _, d, hd, rd⟩
  · exact ⟨xs, SqT.of (u a _ n h).2, by rw [r.len]; exact Nat.le_refl _⟩
theorem di_seq (h : DE N tl σ H d) (e : itemsD d = some ds := by rfl) : DI N (iSeq K tl) σ H ds := fun N1 H1 u f R q =>
  h N1 H1 u f _ fun v H2 s2 r2 => by
    obtain ⟨a, xs, rfl, n, hh, r⟩ := r2.items e
    rcases hh with hh | hh
    · exact ⟨a, rfl, .inl ⟨⟨xs, SqL.of hh⟩, q _ _ s2 (walk_lst n hh r)⟩⟩
    · exact ⟨a, rfl, .inr ⟨⟨xs, SqT.of hh⟩, q _ _ s2 (walk_tupl n hh r)⟩⟩
theorem rng_len' (n : Nat) : ((Ch.rng n).map PyData.int).length = n := by simp [Ch.rng_len]
theorem di_rng {ta : TA} {i : Int} (h : DA N ta σ H [.int i]) (h0 : -1000000 ≤ i) (h1 : i ≤ 1000000) : DI N (iRng1 ta) σ H ((Ch.rng i.toNat).map PyData.int) := fun N1 H1 u f R q =>
  h N1 H1 u f _ fun vs H2 s2 r2 => by
    cases r2 with
    | cons r t =>
      cases t; cases r
      refine ⟨i, rfl, by omega, by omega, q _ _ s2 ⟨fun N' H' u k hk => ?_, fun N' H' u f k x H'' hk y => ?_, fun N' H' u => ?_⟩⟩
      · rw [rng_len'] at hk; exact hk
      · obtain ⟨rfl, rfl⟩ := y
        rw [rng_len'] at hk
        refine ⟨Same.refl _, .int (k : Int), by rw [List.getElem?_map, Ch.rng_get hk]; rfl, ?_⟩
        rw [Int.zero_add]; exact .int _
      · show i.toNat ≤ _
        rw [rng_len']; exact Nat.le_refl _
def enumD (ds : List PyData) : List PyData := ds.zipIdx.map fun p => .tuple [.int (p.2 : Nat), p.1]
theorem enumD_len (ds : List PyData) : (enumD ds).length = ds.length := by simp [enumD]
theorem enumD_get {ds : List PyData} {i : Nat} {d : PyData} (h : ds[i]? = some d) : (enumD ds)[i]? = some (.tuple [.int (i : Nat), d]) := by
  unfold enumD
  rw [List.getElem?_map, List.getElem?_zipIdx, h]
  simp
theorem di_enumT {ta : TA} (h : DA N ta σ H [.tuple ds]) : DI N (iEnumT K ta) σ H (enumD ds) := fun N1 H1 u f R q =>
  h N1 H1 u f _ fun vs H2 s2 r2 => by
    cases r2 with
    | cons r t =>
      cases t
      cases r with
      | @tup a xs _ n hh r =>
        have len := r.len
        have here : ∀ {N' : NP} {G : Hp}, Up N1 H2 N' G → SqT K G a xs := fun u => SqT.of (u a _ n hh).2
        refine ⟨a, rfl, ⟨xs, SqT.of hh⟩, q _ _ s2 ⟨fun N' G u i lt => ⟨xs, here u, by rw [enumD_len] at lt; omega⟩, fun N' G u f i v G' _ ⟨c, x, y, ⟨e, fr, eG⟩, ex, told⟩ => ?_, fun N' G u => ⟨xs, here u, by rw [enumD_len]; omega⟩⟩⟩
        subst e eG ex
        obtain ⟨d, hd, rd⟩ := (r.up u).get (told xs (here u))
        exact ⟨same_upd fr, _, enumD_get hd, .tup (f c fr) upd_same (.cons (.int _) (.cons (rd.same (same_upd fr)) .nil))⟩
/-! ### comprehensions by data -/
theorem up_new {D : Addr} {o : HO} (hD : H D = none) : Up N H (fun a => N a ∧ a ≠ D) (L2.upd H D o) := fun a u n e => ⟨⟨n, ne_of_none e hD⟩, by rw [upd_ne (ne_of_none e hD)]; exact e⟩
theorem up_sub {D : Addr} : Up (fun a => N a ∧ a ≠ D) H N H := fun a u n e => ⟨n.1, e⟩
/-- a store of an item to its target: σ2 what comes -/
def GT (N : NP) (g : TG) (σ0 : L2.St) (d : PyData) (P : L2.St → NP → Hp → Prop) : Prop := ∀ (N' : NP) (H' : Hp) (x : V) (Q : L2.St → Hp → Prop), Rp N' H' x d → (∀ σ2, P σ2 N' H' → Q σ2 H') → g x σ0 H' Q
theorem gt_name {i : Nat} {σ0 : L2.St} {P : L2.St → NP → Hp → Prop} (h : ∀ x N' H', Rp N' H' x d → P (σ0.set i (some x)) N' H') : GT N (gName i) σ0 d P := fun N' H' x Q r q => q _ (h x N' H' r)
theorem gt_pair {i j : Nat} {σ0 : L2.St} {d1 d2 : PyData} {P : L2.St → NP → Hp → Prop} (h : ∀ x y N' H', Rp N' H' x d1 → Rp N' H' y d2 → P ((σ0.set i (some x)).set j (some y)) N' H') :
    GT N (gTup K 2 (gCons (gName i) (gCons (gName j) gNil))) σ0 (.tuple [d1, d2]) P := fun N' H' x Q r q => by
  cases r with
  | tup n h' r =>
    cases r with
    | cons r1 r =>
      cases r with
      | cons r2 r =>
        cases r
        exact ⟨_, _, rfl, SqT.of h', rfl, _, _, rfl, _, _, rfl, rfl, q _ (h _ _ _ _ r1 r2)⟩
theorem de_lcG {α : Type} {xs : List α} {enc : α → PyData} {wi : TI} {g : TG} {tt : TT} {vs : List Nat} (b : α → Bool) (f : α → PyData) (hi : DI N wi σ H (xs.map enc)) (hl : xs.length ≤ 10000000)
    (hb : ∀ N0 H0, Up N H N0 H0 → ∀ a ∈ xs, GT N g (wipe σ vs) (enc a) fun σ2 N' H' => Up N0 H0 N' H' → wipe σ2 vs = wipe σ vs ∧ DT N' tt σ2 H' (b a) ∧ (b a = true → DE N' te σ2 H' (f a))) :
    DE N (tLc wi g tt te vs) σ H (.list ((xs.filter b).map f)) := fun N1 H1 u1 f1 Q q =>
  hi N1 H1 u1 f1 _ fun J H2 s2 w D hD => by
    have hl' : (xs.map enc).length = xs.length := List.length_map _
    refine ⟨fun i m H3 => m = xs.length - i ∧ i ≤ xs.length ∧ ∃ acc, H3 D = some (.lst acc) ∧ Same H2 H3 ∧ Up N1 H2 (fun a => N1 a ∧ a ≠ D) H3 ∧ Fr (fun a => N1 a ∧ a ≠ D) H3 ∧ Rps (fun a => N1 a ∧ a ≠ D) H3 acc (((xs.take i).filter b).map f),
      ⟨_, rfl, Nat.zero_le _, [], upd_same, same_upd hD, up_new hD, fun a ha => ?_, .nil⟩, ?_⟩
    · have na : a ≠ D := fun z => by rw [z, upd_same] at ha; cases ha
      rw [upd_ne na] at ha
      exact ⟨(f1.same s2) a ha, na⟩
    · rintro i m H3 ⟨rfl, hi', acc, hacc, s3, u3, f3, r3⟩
      by_cases hlt : i < xs.length
      · refine .inr ⟨w.go _ _ u3 i (by omega), fun H4 => ∃ acc, H4 D = some (.lst acc) ∧ Same H2 H4 ∧ Up N1 H2 (fun a => N1 a ∧ a ≠ D) H4 ∧ Fr (fun a => N1 a ∧ a ≠ D) H4 ∧ Rps (fun a => N1 a ∧ a ≠ D) H4 acc (((xs.take (i + 1)).filter b).map f),
          fun H4 h4 => ⟨_, by omega, rfl, hlt, h4⟩, fun x H4 y => ?_⟩
        obtain ⟨s4, d, hd, rd⟩ := w.yld _ _ u3 f3 i x H4 (by omega) y
        rw [List.getElem?_map, List.getElem?_eq_getElem hlt] at hd
        have ed : enc xs[i] = d := Option.some.inj hd
        subst ed
        have u4 := u3.same s4
        refine hb (fun a => N1 a ∧ a ≠ D) H4 ((u1.same s2).trans u4) xs[i] (List.getElem_mem hlt) _ H4 x _ rd fun σ2 h2 => ?_
        obtain ⟨ew, dt, de⟩ := h2 (Up.refl _ _)
        refine ⟨ew, dt.run (f3.same s4) fun H5 s5 => ?_⟩
        have etk : xs.take (i + 1) = xs.take i ++ [xs[i]] := by rw [List.take_succ, List.getElem?_eq_getElem hlt]; rfl
        cases hbb : b xs[i] with
        | false =>
          refine iteF ⟨acc, s5 _ _ (s4 _ _ hacc), (s3.trans s4).trans s5, u4.same s5, (f3.same s4).same s5, ?_⟩
          rw [etk, List.filter_append, List.filter_cons_of_neg (by rw [hbb]; simp), List.filter_nil, List.append_nil]
          exact (r3.same s4).same s5
        | true =>
          refine iteT ((de hbb).up (Up.of s5) |>.run ((f3.same s4).same s5) fun y H6 s6 ry => ?_)
          have hD6 : H6 D = some (.lst acc) := s6 _ _ (s5 _ _ (s4 _ _ hacc))
          have up6 : Up (fun a => N1 a ∧ a ≠ D) H6 (fun a => N1 a ∧ a ≠ D) (upd H6 D (.lst (acc ++ [y]))) := fun a o n e => ⟨n, by rw [upd_ne n.2]; exact e⟩
          have ln := r3.len
          refine ⟨acc, hD6, ?_, acc ++ [y], upd_same, fun a o e => ?_, ((u4.same s5).same s6).trans up6, fun a ha => ?_, ?_⟩
          · refine Nat.lt_of_le_of_lt (?_ : acc.length ≤ 10000000) (by decide)
            rw [ln, List.length_map]
            exact Nat.le_trans (List.length_filter_le _ _) (Nat.le_trans (by rw [List.length_take]; exact Nat.min_le_right _ _) hl)
          · have na : a ≠ D := ne_of_none e hD
            rw [upd_ne na]
            exact s6 _ _ (s5 _ _ (s4 _ _ (s3 _ _ e)))
          · have na : a ≠ D := fun z => by rw [z, upd_same] at ha; cases ha
            rw [upd_ne na] at ha
            exact (((f3.same s4).same s5).same s6) a ha
          · rw [etk, List.filter_append, List.filter_cons_of_pos hbb, List.filter_nil, List.map_append]
            exact ((((r3.same s4).same s5).same s6).app (.cons ry .nil)).up up6
      · have e : i = xs.length := by omega
        subst e
        refine .inl ⟨by have := w.stop _ _ u3; rwa [hl'] at this, q _ _ (s2.trans s3) (.lst ((f1.same s2) D hD) hacc ?_)⟩
        rw [List.take_length] at r3
        exact r3.up up_sub
/-- [e for x in xs if t] -/
theorem de_lc {α : Type} {xs : List α} {enc : α → PyData} {wi : TI} {tt : TT} {vs : List Nat} {i : Nat} (b : α → Bool) (f : α → PyData) (hi : DI N wi σ H (xs.map enc)) (hl : xs.length ≤ 10000000)
    (hb : ∀ a ∈ xs, ∀ x N' H', Up N H N' H' → Rp N' H' x (enc a) → DT N' tt ((wipe σ vs).set i (some x)) H' (b a) ∧ (b a = true → DE N' te ((wipe σ vs).set i (some x)) H' (f a)))
    (hw : ∀ x, wipe ((wipe σ vs).set i (some x)) vs = wipe σ vs := by intro _; rfl) :
    DE N (tLc wi (gName i) tt te vs) σ H (.list ((xs.filter b).map f)) :=
  de_lcG b f hi hl fun N0 H0 u0 a ha => gt_name fun x N' H' r u => ⟨hw x, hb a ha x N' H' (u0.trans u) r⟩
/-- [e for x in xs] -/
theorem de_lc0 {α : Type} {xs : List α} {enc : α → PyData} {wi : TI} {vs : List Nat} {i : Nat} (f : α → PyData) (hi : DI N wi σ H (xs.map enc)) (hl : xs.length ≤ 10000000)
    (hb : ∀ a ∈ xs, ∀ x N' H', Up N H N' H' → Rp N' H' x (enc a) → DE N' te ((wipe σ vs).set i (some x)) H' (f a))
    (hw : ∀ x, wipe ((wipe σ vs).set i (some x)) vs = wipe σ vs := by intro _; rfl) :
    DE N (tLc wi (gName i) tYes te vs) σ H (.list (xs.map f)) := by
  have h := de_lc (N := N) (σ := σ) (H := H) (te := te) (tt := tYes) (vs := vs) (i := i) (fun _ => true) f hi hl (fun a ha x N' H' u r => ⟨dt_yes, fun _ => hb a ha x N' H' u r⟩) hw
  rw [List.filter_eq_self.mpr (fun _ _ => rfl)] at h
  exact h
/-- [e for i, j in xs if t] -/
theorem de_lcP {α : Type} {xs : List α} {e1 e2 : α → PyData} {wi : TI} {tt : TT} {vs : List Nat} {i j : Nat} (b : α → Bool) (f : α → PyData) (hi : DI N wi σ H (xs.map fun a => .tuple [e1 a, e2 a])) (hl : xs.length ≤ 10000000)
    (hb : ∀ a ∈ xs, ∀ x y N' H', Up N H N' H' → Rp N' H' x (e1 a) → Rp N' H' y (e2 a) → DT N' tt (((wipe σ vs).set i (some x)).set j (some y)) H' (b a) ∧ (b a = true → DE N' te (((wipe σ vs).set i (some x)).set j (some y)) H' (f a)))
    (hw : ∀ x y, wipe (((wipe σ vs).set i (some x)).set j (some y)) vs = wipe σ vs := by intro _ _; rfl) :
    DE N (tLc wi (gTup K 2 (gCons (gName i) (gCons (gName j) gNil))) tt te vs) σ H (.list ((xs.filter b).map f)) :=
  de_lcG b f hi hl fun N0 H0 u0 a ha => gt_pair fun x y N' H' r1 r2 u => ⟨hw x y, hb a ha x y N' H' (u0.trans u) r1 r2⟩
/-! ### defs whose answer is told by data -/
def spP (R : List PyData → PyData → Prop) : Sp := fun vs H Q _ => ∃ N ds d, Fr N H ∧ Rps N H vs ds ∧ R ds d ∧ ∀ v H', Same H H' → Rp N H' v d → Q v H'
theorem de_call {R : List PyData → PyData → Prop} {E : XK} {ta : TA} (h : DA N ta σ H ds) (r : R ds d) : DE N (tCall (spP R) [] E ta) σ H d := fun N1 H1 u f Q q =>
  h N1 H1 u f _ fun vs H2 s2 r2 => ⟨N1, ds, d, f.same s2, by rw [List.append_nil]; exact r2, r, fun v H3 s3 r3 => q v H3 (s2.trans s3) r3⟩
end
/-! ### tuples of ints, lists of such -/
abbrev tI (ns : List Int) : PyData := .tuple (ns.map PyData.int)
abbrev lI (ns : List Int) : PyData := .list (ns.map PyData.int)
abbrev lT (nss : List (List Int)) : PyData := .list (nss.map tI)
abbrev tT (nss : List (List Int)) : PyData := .tuple (nss.map tI)
theorem eqvAll_ints : ∀ xs ys : List Int, PyData.eqvAll (xs.map PyData.int) (ys.map PyData.int) = decide (xs = ys)
  | [], [] => rfl
  | [], y :: ys => by simp [PyData.eqvAll]
  | x :: xs, [] => by simp [PyData.eqvAll]
  | x :: xs, y :: ys => by
    show (PyData.eqv (.int x) (.int y) && PyData.eqvAll (xs.map PyData.int) (ys.map PyData.int)) = _
    rw [eqvAll_ints xs ys]
    show ((x == y) && decide (xs = ys)) = _
    by_cases h : x = y
    · subst h; simp
    · simp [h]
theorem eqv_tI (xs ys : List Int) : PyData.eqv (tI xs) (tI ys) = decide (xs = ys) := eqvAll_ints xs ys
theorem eqv_lI (xs ys : List Int) : PyData.eqv (lI xs) (lI ys) = decide (xs = ys) := eqvAll_ints xs ys
theorem shaped_tI (gs : List Int) : SeqAt.shaped (tI gs) = true := by
  show (PyData.canLayAll0 (gs.map PyData.int) && decide (PyData.depthAll (gs.map PyData.int) + 1 ≤ 64)) = true
  rw [lay_ints, dep_ints]; rfl
theorem eqv_lnil {ds : List PyData} : PyData.eqv (.list ds) (.list []) = ds.isEmpty := by cases ds <;> rfl
end Pu

namespace Pu
open PySem PySem.Spec PyProof.Rows L2
/-! ### a + b of ints, tuples, lists; a < b of ints, tuples of ints -/
def rAddU (K : PySem.W.Frag) : R2 := fun x y H Q => rI0 (fun i j => .int (i + j)) x y H Q ∨ rCatA K x y H Q ∨ rCat x y H Q
theorem op_addU {X : Cx} : OpR X (binaryOp .Add) (rAddU X.K) := op_add.or (op_catA.or op_cat)
def rLtU (K : PySem.W.Frag) : R2 := fun x y H Q => rI0 (fun i j => .bl (decide (i < j))) x y H Q ∨ rLtT K x y H Q
theorem op_ltU {X : Cx} (hu : X.A.units < cLine) : OpR X (compareOp .Lt) (rLtU X.K) := op_lt.or (op_ltT hu)
section
variable {K : PySem.W.Frag} {N N' : NP} {σ : L2.St} {H H' : Hp} {ta tb tc te tl : TE} {t u : TT} {d x y z : PyData} {v : V} {ds : List PyData}
theorem r2_addI {i j : Int} : R2D (rAddU K) (.int i) (.int j) (.int (i + j)) := fun N H v u Q f r1 r2 q => .inl (r2_i N H v u Q f r1 r2 q)
theorem r2_addT {xs ys : List PyData} (hl : xs.length + ys.length ≤ 10000000) : R2D (rAddU K) (.tuple xs) (.tuple ys) (.tuple (xs ++ ys)) := fun N H v u Q f r1 r2 q => .inr (.inl (r2_catT hl N H v u Q f r1 r2 q))
theorem r2_addL {xs ys : List PyData} (hl : xs.length + ys.length ≤ 10000000) : R2D (rAddU K) (.list xs) (.list ys) (.list (xs ++ ys)) := fun N H v u Q f r1 r2 q => .inr (.inr (r2_catL hl N H v u Q f r1 r2 q))
theorem r2_ltI {i j : Int} : R2D (rLtU K) (.int i) (.int j) (.bool (decide (i < j))) := fun N H v u Q f r1 r2 q => .inl (r2_b N H v u Q f r1 r2 q)
theorem r2_ltT {ns ms : List Int} : R2D (rLtU K) (tI ns) (tI ms) (.bool (HT.lexLt ns ms)) := fun N H v u Q f r1 r2 q => by
  cases r1 with
  | tup n1 h1 q1 =>
    cases r2 with
    | tup n2 h2 q2 =>
      have e1 := q1.ints
      have e2 := q2.ints
      subst e1 e2
      exact .inr ⟨_, _, ns, ms, rfl, rfl, SqT.of h1, SqT.of h2, q _ H (Same.refl H) (.bl _)⟩
theorem r2_eqT {xs ys : List Int} : R2D (rEqD K) (tI xs) (tI ys) (.bool (decide (xs = ys))) := by
  have := r2_eqD (K := K) (shaped_tI xs) (shaped_tI ys)
  rwa [eqv_tI] at this
theorem r2_neT {xs ys : List Int} : R2D (rNeD K) (tI xs) (tI ys) (.bool (!decide (xs = ys))) := by
  have := r2_neD (K := K) (shaped_tI xs) (shaped_tI ys)
  rwa [eqv_tI] at this
theorem r2_eqL {xs ys : List Int} : R2D (rEqD K) (lI xs) (lI ys) (.bool (decide (xs = ys))) := by
  have := r2_eqD (K := K) (shaped_ints xs) (shaped_ints ys)
  rwa [eqv_lI] at this
theorem r2_neL {xs ys : List Int} : R2D (rNeD K) (lI xs) (lI ys) (.bool (!decide (xs = ys))) := by
  have := r2_neD (K := K) (shaped_ints xs) (shaped_ints ys)
  rwa [eqv_lI] at this
theorem r2_eqI {i j : Int} : R2D (rEqD K) (.int i) (.int j) (.bool (decide (i = j))) := by
  have := r2_eqD (K := K) (x := .int i) (y := .int j) (by rfl) (by rfl)
  have e : PyData.eqv (.int i) (.int j) = decide (i = j) := by show (i == j) = _; by_cases h : i = j <;> simp [h]
  rwa [e] at this
theorem r2_neI {i j : Int} : R2D (rNeD K) (.int i) (.int j) (.bool (!decide (i = j))) := by
  have := r2_neD (K := K) (x := .int i) (y := .int j) (by rfl) (by rfl)
  have e : PyData.eqv (.int i) (.int j) = decide (i = j) := by show (i == j) = _; by_cases h : i = j <;> simp [h]
  rwa [e] at this
theorem r2_eqB {a b : Bool} : R2D (rEqD K) (.bool a) (.bool b) (.bool (a == b)) := r2_eqD (K := K) (x := .bool a) (y := .bool b) (by rfl) (by rfl)
theorem r2_neB {a b : Bool} : R2D (rNeD K) (.bool a) (.bool b) (.bool (!(a == b))) := r2_neD (K := K) (x := .bool a) (y := .bool b) (by rfl) (by rfl)
/-- [1 for .. ] == [] -/
theorem ones_map {α : Type} (xs : List α) : xs.map (fun _ => PyData.int 1) = (xs.map (fun _ => (1 : Int))).map PyData.int := by rw [List.map_map]; rfl
theorem r2_none {α : Type} {xs : List α} : R2D (rEqD K) (.list (xs.map fun _ => .int 1)) (.list []) (.bool xs.isEmpty) := by
  rw [ones_map]
  have := r2_eqD (K := K) (shaped_ints (xs.map fun _ => (1 : Int))) (shaped_ints [])
  have e : PyData.eqv (lI (xs.map fun _ => (1 : Int))) (lI []) = xs.isEmpty := by cases xs <;> rfl
  rwa [e] at this
theorem r2_some {α : Type} {xs : List α} : R2D (rNeD K) (.list (xs.map fun _ => .int 1)) (.list []) (.bool (!xs.isEmpty)) := by
  rw [ones_map]
  have := r2_neD (K := K) (shaped_ints (xs.map fun _ => (1 : Int))) (shaped_ints [])
  have e : PyData.eqv (lI (xs.map fun _ => (1 : Int))) (lI []) = xs.isEmpty := by cases xs <;> rfl
  rwa [e] at this
theorem filter_empty {α : Type} (xs : List α) (b : α → Bool) : (xs.filter b).isEmpty = !xs.any b := by
  induction xs with
  | nil => rfl
  | cons x r ih =>
    by_cases h : b x = true
    · simp [List.filter_cons, h]
    · simp [List.filter_cons, h, ih]
theorem de_chain {r r' : R2} {k1 k2 : Bool} (ha : DE N ta σ H x) (hb : DE N tb σ H y) (hc : DE N tc σ H z) (h1 : R2D r x y (.bool k1)) (h2 : R2D r' y z (.bool k2)) : DE N (tChain r r' ta tb tc) σ H (.bool (k1 && k2)) := fun N1 H1 s f Q q =>
  ha N1 H1 s f _ fun v H2 s2 r2 => hb N1 H2 (s.same s2) (f.same s2) _ fun u H3 s3 r3 => h1 N1 H3 v u _ ((f.same s2).same s3) (r2.same s3) r3 fun w H4 s4 r4 => by
    cases r4
    refine ⟨k1, rfl, ?_⟩
    have f4 := ((f.same s2).same s3).same s4
    cases k1 with
    | false => exact q _ H4 ((s2.trans s3).trans s4) (.bl _)
    | true => 
      exact hc N1 H4 (((s.same s2).same s3).same s4) f4 _ fun w' H5 s5 r5 => h2 N1 H5 u w' _ (f4.same s5) ((r3.same s4).same s5) r5 fun w'' H6 s6 r6 => by
        cases r6
        exact q _ H6 ((((s2.trans s3).trans s4).trans s5).trans s6) (.bl _)
end
end Pu

namespace Pu
open PySem PySem.Spec PyProof.Rows L2
/-! ### sorted lists -/
def srtI (ns : List Int) : List Int := ns.mergeSort fun a b => decide (a ≤ b)
def srtL (nss : List (List Int)) : List (List Int) := nss.mergeSort fun a b => !HT.lexLt b a
theorem lex_anti : ∀ a b : List Int, HT.lexLt a b = false → HT.lexLt b a = false → a = b
  | [], [], _, _ => rfl
  | [], y :: ys, h, _ => nomatch h
  | x :: xs, [], _, h => nomatch h
  | x :: xs, y :: ys, h1, h2 => by
    rw [HT.lexLt_cons] at h1 h2
    by_cases e : x = y
    · subst e
      rw [if_pos rfl] at h1 h2
      rw [lex_anti xs ys h1 h2]
    · rw [if_neg e] at h1
      rw [if_neg (Ne.symm e)] at h2
      simp at h1 h2
      omega
theorem srtI_perm (ns : List Int) : (srtI ns).Perm ns := List.mergeSort_perm _ _
theorem srtL_perm (nss : List (List Int)) : (srtL nss).Perm nss := List.mergeSort_perm _ _
theorem srtI_pw (ns : List Int) : (srtI ns).Pairwise (· ≤ ·) := by
  have := List.pairwise_mergeSort (le := fun a b : Int => decide (a ≤ b)) (fun a b c h1 h2 => by simp at *; omega) (fun a b => by simp; omega) ns
  exact this.imp fun h => by simpa using h
theorem srtL_pw (nss : List (List Int)) : (srtL nss).Pairwise (fun a b => HT.lexLt b a = false) := by
  have := List.pairwise_mergeSort (le := fun a b : List Int => !HT.lexLt b a) (fun a b c h1 h2 => by
    simp at *
    exact NtL.lex_tr _ _ _ h1 h2) (fun a b => by
    cases e : HT.lexLt b a with
    | false => rfl
    | true => rw [NtL.lex_asym _ _ e]; rfl) nss
  exact this.imp fun h => by simpa using h
theorem srtI_uniq {ns ms : List Int} (p : ms.Perm ns) (h : ms.Pairwise (· ≤ ·)) : ms = srtI ns :=
  List.Perm.eq_of_pairwise (fun a b _ _ h1 h2 => Int.le_antisymm h1 h2) h (srtI_pw ns) (p.trans (srtI_perm ns).symm)
theorem srtL_uniq {ns ms : List (List Int)} (p : ms.Perm ns) (h : ms.Pairwise (fun a b => HT.lexLt b a = false)) : ms = srtL ns :=
  List.Perm.eq_of_pairwise (fun a b _ _ h1 h2 => lex_anti _ _ h2 h1) h (srtL_pw ns) (p.trans (srtL_perm ns).symm)
/-- each item once -/
def ddp {α : Type} [DecidableEq α] : List α → List α
  | [] => []
  | x :: r => if x ∈ r then ddp r else x :: ddp r
theorem mem_ddp {α : Type} [DecidableEq α] {y : α} : ∀ {l : List α}, y ∈ ddp l ↔ y ∈ l
  | [] => Iff.rfl
  | x :: r => by
    unfold ddp
    split
    · rename_i h
      rw [mem_ddp, List.mem_cons]
      exact ⟨.inr, fun e => e.elim (fun e => e ▸ h) id⟩
    · rw [List.mem_cons, List.mem_cons, mem_ddp]
theorem ddp_nodup {α : Type} [DecidableEq α] : ∀ l : List α, (ddp l).Nodup
  | [] => List.Pairwise.nil
  | x :: r => by
    unfold ddp
    split
    · exact ddp_nodup r
    · rename_i h
      exact List.nodup_cons.mpr ⟨fun e => h (mem_ddp.mp e), ddp_nodup r⟩
def usrtI (ns : List Int) : List Int := srtI (ddp ns)
def usrtL (nss : List (List Int)) : List (List Int) := srtL (ddp nss)
theorem mem_usrtI {y : Int} {ns : List Int} : y ∈ usrtI ns ↔ y ∈ ns := by rw [usrtI, (srtI_perm _).mem_iff, mem_ddp]
theorem mem_usrtL {y : List Int} {ns : List (List Int)} : y ∈ usrtL ns ↔ y ∈ ns := by rw [usrtL, (srtL_perm _).mem_iff, mem_ddp]
theorem usrtI_pw (ns : List Int) : (usrtI ns).Pairwise (· < ·) := by
  have nd : (usrtI ns).Nodup := (srtI_perm _).nodup_iff.mpr (ddp_nodup ns)
  exact (List.pairwise_and_iff.mpr ⟨srtI_pw (ddp ns), nd⟩).imp fun h => by have h1 := h.1; have h2 := h.2; omega
theorem usrtL_pw (ns : List (List Int)) : (usrtL ns).Pairwise (fun a b => HT.lexLt a b = true) := by
  have nd : (usrtL ns).Nodup := (srtL_perm _).nodup_iff.mpr (ddp_nodup ns)
  refine (List.pairwise_and_iff.mpr ⟨srtL_pw (ddp ns), nd⟩).imp fun h => ?_
  cases e : HT.lexLt _ _ with
  | true => rfl
  | false => exact absurd (lex_anti _ _ e h.1) h.2
theorem usrtI_uniq {ns ms : List Int} (h : ms.Pairwise (· < ·)) (m : ∀ k, k ∈ ms ↔ k ∈ ns) : ms = usrtI ns := by
  have n1 : ms.Nodup := h.imp fun h => Int.ne_of_lt h
  refine srtI_uniq ((List.perm_ext_iff_of_nodup n1 (ddp_nodup ns)).mpr fun a => ?_) (h.imp fun h => Int.le_of_lt h)
  rw [m, mem_ddp]
theorem usrtL_uniq {ns ms : List (List Int)} (h : ms.Pairwise (fun a b => HT.lexLt b a = false)) (n1 : ms.Nodup) (m : ∀ k, k ∈ ms ↔ k ∈ ns) : ms = usrtL ns := by
  refine srtL_uniq ((List.perm_ext_iff_of_nodup n1 (ddp_nodup ns)).mpr fun a => ?_) h
  rw [m, mem_ddp]
section
variable {K : PySem.W.Frag} {P : Program} {w : World} {N N' : NP} {σ : L2.St} {H H' : Hp} {ta tb tc te tl : TE} {t u : TT} {d x y z : PyData} {v : V} {ds : List PyData}
theorem rc_sortI {ns : List Int} : RCD (rSortedI K) [lI ns] (lI (srtI ns)) := fun N H vs Q f r q => by
  cases r with
  | cons r t =>
    cases t
    cases r with
    | lst n h r =>
      have e := r.ints
      subst e
      exact ⟨_, ns, rfl, SqL.of h, fun ns' p pm pw hp => q _ _ (same_upd hp) (.lst (f p hp) upd_same (by rw [srtI_uniq pm pw]; exact rps_ints _))⟩
theorem rps_key : ∀ {nss : List (List Int)} {xs : List V}, Rps N H xs (nss.map tI) → xs.map (keyOf H) = nss ∧ ∀ x ∈ xs, ∃ a ns, x = .ref a ∧ N a ∧ H a = some (.tup (ns.map V.int)) ∧ ns ∈ nss ∧ keyOf H x = ns
  | [], _, h => by cases h; exact ⟨rfl, fun x hx => nomatch hx⟩
  | ns :: nss, _, h => by
    cases h with
    | cons r t =>
      obtain ⟨e1, e2⟩ := rps_key t
      cases r with
      | @tup a ys _ n hh r =>
        have e := r.ints
        subst e
        have ek := keyOf_eq hh
        refine ⟨by rw [List.map_cons, e1, ek], fun x hx => ?_⟩
        rcases List.mem_cons.mp hx with rfl | hx
        · exact ⟨a, ns, rfl, n, hh, List.mem_cons_self, ek⟩
        · obtain ⟨a', ns', q1, q2, q3, q4, q5⟩ := e2 x hx
          exact ⟨a', ns', q1, q2, q3, List.mem_cons_of_mem _ q4, q5⟩
theorem rps_of_key : ∀ {ys : List V}, (∀ x ∈ ys, ∃ a ns, x = .ref a ∧ N a ∧ H a = some (.tup (ns.map V.int)) ∧ keyOf H x = ns) → Rps N H ys ((ys.map (keyOf H)).map tI)
  | [], _ => .nil
  | y :: ys, h => by
    obtain ⟨a, ns, rfl, n, hh, ek⟩ := h y List.mem_cons_self
    rw [List.map_cons, List.map_cons, ek]
    exact .cons (.tup n hh (rps_ints ns)) (rps_of_key fun x hx => h x (List.mem_cons_of_mem _ hx))
theorem rc_sortL {nss : List (List Int)} (hne : ∀ ns ∈ nss, ns ≠ []) : RCD (rSortLex K) [lT nss] (lT (srtL nss)) := fun N H vs Q f r q => by
  cases r with
  | cons r t =>
    cases t
    cases r with
    | @lst a xs _ n h r =>
      obtain ⟨e1, e2⟩ := rps_key r
      refine ⟨a, xs, rfl, SqL.of h, fun x hx => ?_, fun ys p pm pw hp => q _ _ (same_upd hp) (.lst (f p hp) upd_same (Rps.same (same_upd hp) ?_))⟩
      · obtain ⟨a', ns, q1, q2, q3, q4, q5⟩ := e2 x hx
        exact ⟨a', ns, q1, q3, hne ns q4⟩
      · have e : ys.map (keyOf H) = srtL nss := srtL_uniq (by rw [← e1]; exact pm.map _) (List.pairwise_map.mpr pw)
        rw [← e]
        exact rps_of_key fun x hx => by
          obtain ⟨a', ns, q1, q2, q3, q4, q5⟩ := e2 x (pm.mem_iff.mp hx)
          exact ⟨a', ns, q1, q2, q3, q5⟩
theorem rps_ks : ∀ {nss : List (List Int)} {xs : List V}, Rps N H xs (nss.map tI) → ∃ ks : List (Addr × List Int), xs = ks.map (fun p => V.ref p.1) ∧ ks.map (·.2) = nss ∧ ∀ p ∈ ks, N p.1 ∧ H p.1 = some (.tup (p.2.map V.int))
  | [], _, h => by cases h; exact ⟨[], rfl, rfl, fun p hp => nomatch hp⟩
  | ns :: nss, _, h => by
    cases h with
    | cons r t =>
      obtain ⟨ks, e1, e2, e3⟩ := rps_ks t
      cases r with
      | @tup a ys _ n hh r =>
        have e := r.ints
        subst e
        refine ⟨(a, ns) :: ks, by rw [e1]; rfl, by rw [List.map_cons, e2], fun p hp => ?_⟩
        rcases List.mem_cons.mp hp with rfl | hp
        · exact ⟨n, hh⟩
        · exact e3 p hp
theorem rps_of_ks : ∀ {L : List (Addr × List Int)}, (∀ p ∈ L, N p.1 ∧ H p.1 = some (.tup (p.2.map V.int))) → Rps N H (L.map fun p => V.ref p.1) ((L.map (·.2)).map tI)
  | [], _ => .nil
  | p :: L, h => .cons (.tup (h p List.mem_cons_self).1 (h p List.mem_cons_self).2 (rps_ints p.2)) (rps_of_ks fun q hq => h q (List.mem_cons_of_mem _ hq))
/-- sorted(set(xs)), xs a list of tuples of one int or more -/
theorem de_usrtL {nss : List (List Int)} (h : DE N te σ H (lT nss)) (hl : nss.length < 64) (hne : ∀ ns ∈ nss, ns ≠ []) :
    DE N (tCB (rSortedSetLex K P w) (tCons (tCB (rSetOfT K P w) (tCons te tNil)) tNil)) σ H (lT (usrtL nss)) := fun N1 H1 u f Q q =>
  h N1 H1 u f _ fun v H2 s2 r2 => by
    cases r2 with
    | @lst a xs _ n hh r =>
      obtain ⟨ks, rfl, e2, e3⟩ := rps_ks r
      refine ⟨a, ks, rfl, SqL.of hh, fun p hp => SqT.of (e3 p hp).2, by have := congrArg List.length e2; rw [List.length_map] at this; omega, fun b L hb l1 l2 => ?_⟩
      have s3 := same_upd (H := H2) (p := b) (o := SetTO P w b L) hb
      refine ⟨b, L, rfl, upd_same, fun p hp => ?_, fun L' p pm nd pw hp => ?_⟩
      · have hk := l1 p hp
        exact ⟨SqT.of (s3 _ _ (e3 p hk).2), hne _ (by rw [← e2]; exact List.mem_map.mpr ⟨p, hk, rfl⟩)⟩
      · have f3 := (f.same s2).same s3
        have s4 := same_upd (H := upd H2 b (SetTO P w b L)) (p := p) (o := .lst (L'.map fun q => V.ref q.1)) hp
        refine q _ _ ((s2.trans s3).trans s4) (.lst (f3 p hp) upd_same ?_)
        have e : L'.map (·.2) = usrtL nss := usrtL_uniq (List.pairwise_map.mpr pw) nd fun k => by
          rw [(pm.map (·.2)).mem_iff, ← e2]
          constructor
          · intro hk
            obtain ⟨p', hp', rfl⟩ := List.mem_map.mp hk
            exact List.mem_map.mpr ⟨p', l1 p' hp', rfl⟩
          · intro hk
            obtain ⟨p', hp', rfl⟩ := List.mem_map.mp hk
            exact l2 p' hp'
        rw [← e]
        exact rps_of_ks fun p' hp' => by
          have hk := e3 p' (l1 p' (pm.mem_iff.mp hp'))
          exact ⟨hk.1, s4 _ _ (s3 _ _ hk.2)⟩
theorem fin_usrtI {ns : List Int} {b : Addr} {n : Nat} {H2 : Hp} (hb : H2 b = some (SetO w b (fun j => decide (j ∈ ns)) n)) (hn : n < 64) (f : Fr N H2) {Q : VK} (q : ∀ v H', Same H2 H' → Rp N H' v (lI (usrtI ns)) → Q v H') :
    rSortedSet w [.ref b] H2 Q := ⟨b, _, n, rfl, hb, hn, fun ms p pw hm hl hp => q _ _ (same_upd hp) (.lst (f p hp) upd_same (by
      rw [usrtI_uniq (ns := ns) pw fun k => by rw [hm k]; simp]
      exact rps_ints _))⟩
/-- sorted(set(xs)), xs a list of ints -/
theorem de_usrtI {ns : List Int} (h : DE N te σ H (lI ns)) (hl : ns.length < 64) : DE N (tCB (rSortedSet w) (tCons (tCB (rSetL K w) (tCons te tNil)) tNil)) σ H (lI (usrtI ns)) := fun N1 H1 u f Q q =>
  h N1 H1 u f _ fun v H2 s2 r2 => by
    cases r2 with
    | @lst a xs _ n hh r =>
      have e := r.ints
      subst e
      refine ⟨a, ns, rfl, SqL.of hh, by omega, fun b n hb hn => ?_⟩
      have s3 := same_upd (H := H2) (p := b) (o := SetO w b (fun j => decide (j ∈ ns)) n) hb
      exact fin_usrtI upd_same (by omega) ((f.same s2).same s3) fun v H' s4 r4 => q v H' ((s2.trans s3).trans s4) r4
/-- sorted(set(xs)), xs a tuple of ints -/
theorem de_usrtT {ns : List Int} (h : DE N te σ H (tI ns)) (hl : ns.length < 64) : DE N (tCB (rSortedSet w) (tCons (tCB (rSetTI K w) (tCons te tNil)) tNil)) σ H (lI (usrtI ns)) := fun N1 H1 u f Q q =>
  h N1 H1 u f _ fun v H2 s2 r2 => by
    cases r2 with
    | @tup a xs _ n hh r =>
      have e := r.ints
      subst e
      refine ⟨a, ns, rfl, SqT.of hh, by omega, fun b n hb hn => ?_⟩
      have s3 := same_upd (H := H2) (p := b) (o := SetO w b (fun j => decide (j ∈ ns)) n) hb
      exact fin_usrtI upd_same (by omega) ((f.same s2).same s3) fun v H' s4 r4 => q v H' ((s2.trans s3).trans s4) r4
/-- list(range(n)), tuple(range(n)) -/
theorem rgV_rng {i : Int} : rgV 0 i = ((Ch.rng i.toNat).map V.int) := by
  unfold rgV Ch.rng
  rw [List.map_map, Int.sub_zero]
  refine List.map_congr_left fun k _ => ?_
  show V.int (0 + (k : Int)) = V.int (k : Int)
  rw [Int.zero_add]
theorem de_listRg {i : Int} (h : DE N te σ H (.int i)) (h0 : 0 ≤ i) (h1 : i ≤ 10000000) : DE N (tLstRg (tRg1 te)) σ H (lI (Ch.rng i.toNat)) := fun N1 H1 u f Q q =>
  h N1 H1 u f _ fun v H2 s2 r2 => by
    cases r2
    refine ⟨i, rfl, RgOk.of_le (Int.le_refl 0) (by omega) (by omega) h0, fun p hp => q _ _ (s2.trans (same_upd hp)) (.lst (f p (s2.free hp)) upd_same ?_)⟩
    rw [rgV_rng]
    exact rps_ints _
theorem de_tupRg {i : Int} (h : DE N te σ H (.int i)) (h0 : 0 ≤ i) (h1 : i ≤ 10000000) : DE N (tTupRg (tRg1 te)) σ H (tI (Ch.rng i.toNat)) := fun N1 H1 u f Q q =>
  h N1 H1 u f _ fun v H2 s2 r2 => by
    cases r2
    refine ⟨i, rfl, RgOk.of_le (Int.le_refl 0) (by omega) (by omega) h0, fun p hp => q _ _ (s2.trans (same_upd hp)) (.tup (f p (s2.free hp)) upd_same ?_)⟩
    rw [rgV_rng]
    exact rps_ints _
/-- list(zip(xs, ys)) -/
theorem de_listZip {ta : TA} {xs ys : List PyData} (h : DA N ta σ H [.list xs, .list ys]) (hl : xs.length = ys.length) (hz : xs.length ≤ 10000000) : DE N (tListZip K ta) σ H (.list ((xs.zip ys).map fun p => .tuple [p.1, p.2])) := fun N1 H1 u f Q q =>
  h N1 H1 u f _ fun vs H2 s2 r2 => by
    cases r2 with
    | cons r1 r =>
      cases r with
      | cons r2 r =>
        cases r
        cases r1 with
        | @lst a vx _ n1 h1 r1 =>
          cases r2 with
          | @lst b vy _ n2 h2 r2 =>
            have l1 := r1.len
            have l2 := r2.len
            refine ⟨a, b, vx, vy, rfl, SqL.of h1, SqL.of h2, by omega, by omega, fun S ts H' hS sm hS' hts hT => q _ _ (s2.trans sm) (.lst ((f.same s2) S hS) hS' ?_)⟩
            have f' := (f.same s2)
            -- item by item
            have go : ∀ (k : Nat), k ≤ ts.length → Rps N1 H' ((ts.drop (ts.length - k)).map V.ref) (((xs.zip ys).drop (ts.length - k)).map fun p => .tuple [p.1, p.2]) := by
              intro k
              induction k with
              | zero =>
                intro _
                have e1 : ts.drop (ts.length - 0) = [] := by rw [Nat.sub_zero, List.drop_length]
                have e2 : (xs.zip ys).drop (ts.length - 0) = [] := List.drop_eq_nil_of_le (by rw [List.length_zip]; omega)
                rw [e1, e2]; exact .nil
              | succ k ih =>
                intro hk
                have hj : ts.length - (k + 1) < ts.length := by omega
                have hjz : ts.length - (k + 1) < (xs.zip ys).length := by rw [List.length_zip]; omega
                rw [List.drop_eq_getElem_cons hj, List.drop_eq_getElem_cons hjz]
                have e3 : ts.length - (k + 1) + 1 = ts.length - k := by omega
                rw [e3, List.map_cons, List.map_cons]
                refine .cons ?_ (ih (by omega))
                obtain ⟨q1, q2, x, y, ex, ey, et⟩ := hT _ _ (List.getElem?_eq_getElem hj)
                obtain ⟨dx, hdx, rx⟩ := r1.get ex
                obtain ⟨dy, hdy, ry⟩ := r2.get ey
                have e4 : (xs.zip ys)[ts.length - (k + 1)] = (dx, dy) := by
                  have : (xs.zip ys)[ts.length - (k + 1)]? = some (dx, dy) := List.getElem?_zip_eq_some.mpr ⟨hdx, hdy⟩
                  rw [List.getElem?_eq_getElem hjz] at this
                  exact Option.some.inj this
                rw [e4]
                exact .tup (f' _ q1) et (.cons (rx.same sm) (.cons (ry.same sm) .nil))
            have := go ts.length (Nat.le_refl _)
            simpa using this
end
end Pu

namespace Pu
open PySem PySem.Spec PyProof.Rows L2
section
variable {K : PySem.W.Frag} {N N' : NP} {σ : L2.St} {H H' : Hp} {ta tb te tl : TE} {t u : TT} {d x y z : PyData} {v : V} {ds : List PyData}
/-- within a list under making at D -/
structure InD (N1 : NP) (H2 : Hp) (D : Addr) (H3 : Hp) (es : List PyData) : Prop where
  same : Same H2 H3
  up : Up N1 H2 (fun a => N1 a ∧ a ≠ D) H3
  fr : Fr (fun a => N1 a ∧ a ≠ D) H3
  acc : ∃ acc, H3 D = some (.lst acc) ∧ Rps (fun a => N1 a ∧ a ≠ D) H3 acc es
theorem InD.new {N1 : NP} {H2 : Hp} {D : Addr} (hD : H2 D = none) (f : Fr N1 H2) : InD N1 H2 D (upd H2 D (.lst [])) [] :=
  ⟨same_upd hD, up_new hD, fun a ha => by
    have na : a ≠ D := fun z => by rw [z, upd_same] at ha; cases ha
    rw [upd_ne na] at ha
    exact ⟨f a ha, na⟩, [], upd_same, .nil⟩
theorem InD.go {N1 : NP} {H2 H3 H4 : Hp} {D : Addr} {es : List PyData} (w : InD N1 H2 D H3 es) (s : Same H3 H4) : InD N1 H2 D H4 es :=
  ⟨w.same.trans s, w.up.same s, w.fr.same s, let ⟨acc, h, r⟩ := w.acc; ⟨acc, s _ _ h, r.same s⟩⟩
theorem InD.app {N1 : NP} {H2 H3 : Hp} {D : Addr} {es : List PyData} (w : InD N1 H2 D H3 es) (hD : H2 D = none) {y : V} {d : PyData} (r : Rp (fun a => N1 a ∧ a ≠ D) H3 y d) (hl : es.length < 10000000) :
    ∃ acc, H3 D = some (.lst acc) ∧ acc.length < sizeLine ∧ InD N1 H2 D (upd H3 D (.lst (acc ++ [y]))) (es ++ [d]) := by
  obtain ⟨acc, h, ra⟩ := w.acc
  have up6 : Up (fun a => N1 a ∧ a ≠ D) H3 (fun a => N1 a ∧ a ≠ D) (upd H3 D (.lst (acc ++ [y]))) := fun a o n e => ⟨n, by rw [upd_ne n.2]; exact e⟩
  refine ⟨acc, h, Nat.lt_of_lt_of_le (by rw [ra.len]; exact hl) (by decide : 10000000 ≤ sizeLine), fun a o e => ?_, w.up.trans up6, fun a ha => ?_, acc ++ [y], upd_same, (ra.app (.cons r .nil)).up up6⟩
  · rw [upd_ne (ne_of_none e hD)]
    exact w.same _ _ e
  · have na : a ≠ D := fun z => by rw [z, upd_same] at ha; cases ha
    rw [upd_ne na] at ha
    exact w.fr a ha
/-- [e for x in xs for y in ys if t] -/
theorem de_lcc {α β : Type} {xs : List α} {enc : α → PyData} {wi wi1 : TI} {tt1 : TT} {vs vs1 : List Nat} {i j : Nat} (ys : α → List β) (enc1 : α → β → PyData) (b : α → β → Bool) (f : α → β → PyData)
    (hi : DI N wi σ H (xs.map enc)) (hl : (xs.flatMap ys).length < 10000000)
    (hb1 : ∀ a ∈ xs, ∀ x N' H', Up N H N' H' → Rp N' H' x (enc a) → DI N' wi1 ((wipe σ vs).set i (some x)) H' ((ys a).map (enc1 a)))
    (hb2 : ∀ a ∈ xs, ∀ c ∈ ys a, ∀ x y N' H', Up N H N' H' → Rp N' H' x (enc a) → Rp N' H' y (enc1 a c) →
      DT N' tt1 ((wipe ((wipe σ vs).set i (some x)) vs1).set j (some y)) H' (b a c) ∧ (b a c = true → DE N' te ((wipe ((wipe σ vs).set i (some x)) vs1).set j (some y)) H' (f a c)))
    (hw : ∀ x, wipe ((wipe σ vs).set i (some x)) vs = wipe σ vs := by intro _; rfl)
    (hw1 : ∀ x y, wipe ((wipe ((wipe σ vs).set i (some x)) vs1).set j (some y)) vs1 = wipe ((wipe σ vs).set i (some x)) vs1 := by intro _ _; rfl) :
    DE N (tLc2 wi (gName i) tYes wi1 (gName j) tt1 te vs vs1) σ H (.list (xs.flatMap fun a => ((ys a).filter (b a)).map (f a))) := fun N1 H1 u1 f1 Q q =>
  hi N1 H1 u1 f1 _ fun J H2 s2 w D hD => by
    have hl' : (xs.map enc).length = xs.length := List.length_map _
    have lb : ∀ i (h : i < xs.length) (k : Nat), (((xs.take i).flatMap fun a => ((ys a).filter (b a)).map (f a)) ++ (((ys xs[i]).take k).filter (b xs[i])).map (f xs[i])).length ≤ (xs.flatMap ys).length := by
      intro i h k
      have key : ∀ l : List α, (l.flatMap fun a => ((ys a).filter (b a)).map (f a)).length ≤ (l.flatMap ys).length := by
        intro l
        induction l with
        | nil => exact Nat.le_refl _
        | cons a l ih =>
          rw [List.flatMap_cons, List.flatMap_cons, List.length_append, List.length_append, List.length_map]
          exact Nat.add_le_add (List.length_filter_le _ _) ih
      have e : xs.flatMap ys = (xs.take i).flatMap ys ++ (ys xs[i] ++ (xs.drop (i + 1)).flatMap ys) := by
        conv => lhs; rw [← List.take_append_drop i xs, List.drop_eq_getElem_cons h]
        rw [List.flatMap_append, List.flatMap_cons]
      rw [e, List.length_append, List.length_append, List.length_append, List.length_map]
      have k1 := key (xs.take i)
      have k2 : (((ys xs[i]).take k).filter (b xs[i])).length ≤ (ys xs[i]).length := Nat.le_trans (List.length_filter_le _ _) (by rw [List.length_take]; exact Nat.min_le_right _ _)
      omega
    refine ⟨fun i m H3 => m = xs.length - i ∧ i ≤ xs.length ∧ InD N1 H2 D H3 ((xs.take i).flatMap fun a => ((ys a).filter (b a)).map (f a)), ⟨_, rfl, Nat.zero_le _, InD.new hD (f1.same s2)⟩, ?_⟩
    rintro i m H3 ⟨rfl, hi', I3⟩
    by_cases hlt : i < xs.length
    · refine .inr ⟨w.go _ _ I3.up i (by omega), fun H4 => InD N1 H2 D H4 ((xs.take (i + 1)).flatMap fun a => ((ys a).filter (b a)).map (f a)), fun H4 h4 => ⟨_, by omega, rfl, hlt, h4⟩, fun x H4 y => ?_⟩
      obtain ⟨s4, d, hd, rd⟩ := w.yld _ _ I3.up I3.fr i x H4 (by omega) y
      rw [List.getElem?_map, List.getElem?_eq_getElem hlt] at hd
      have ed : enc xs[i] = d := Option.some.inj hd
      subst ed
      have I4 := I3.go s4
      have hm := List.getElem_mem hlt
      have etk : xs.take (i + 1) = xs.take i ++ [xs[i]] := by rw [List.take_succ, List.getElem?_eq_getElem hlt]; rfl
      refine ⟨hw x, ?_⟩
      refine iteT (B := InD N1 H2 D H4 ((xs.take (i + 1)).flatMap fun a => ((ys a).filter (b a)).map (f a))) ?_
      refine hb1 xs[i] hm x _ H4 ((u1.same s2).trans I4.up) rd _ H4 (Up.refl _ _) I4.fr _ fun J1 H5 s5 w5 => ?_
      have I5 := I4.go s5
      have rd5 := rd.same s5
      have hl5 : ((ys xs[i]).map (enc1 xs[i])).length = (ys xs[i]).length := List.length_map _
      refine ⟨fun j m H6 => m = (ys xs[i]).length - j ∧ j ≤ (ys xs[i]).length ∧ Up (fun a => N1 a ∧ a ≠ D) H5 (fun a => N1 a ∧ a ≠ D) H6 ∧ InD N1 H2 D H6 (((xs.take i).flatMap fun a => ((ys a).filter (b a)).map (f a)) ++ (((ys xs[i]).take j).filter (b xs[i])).map (f xs[i])),
        ⟨_, rfl, Nat.zero_le _, Up.refl _ _, by simpa using I5⟩, ?_⟩
      rintro j m H6 ⟨rfl, hj', u6, I6⟩
      by_cases hjl : j < (ys xs[i]).length
      · refine .inr ⟨w5.go _ _ u6 j (by omega), fun H7 => Up (fun a => N1 a ∧ a ≠ D) H5 (fun a => N1 a ∧ a ≠ D) H7 ∧ InD N1 H2 D H7 (((xs.take i).flatMap fun a => ((ys a).filter (b a)).map (f a)) ++ (((ys xs[i]).take (j + 1)).filter (b xs[i])).map (f xs[i])),
          fun H7 h7 => ⟨_, by omega, rfl, hjl, h7⟩, fun y' H7 yy => ?_⟩
        obtain ⟨s7, d', hd', rd'⟩ := w5.yld _ _ u6 I6.fr j y' H7 (by omega) yy
        rw [List.getElem?_map, List.getElem?_eq_getElem hjl] at hd'
        have ed' : enc1 xs[i] (ys xs[i])[j] = d' := Option.some.inj hd'
        subst ed'
        have I7 := I6.go s7
        have etj : (ys xs[i]).take (j + 1) = (ys xs[i]).take j ++ [(ys xs[i])[j]] := by rw [List.take_succ, List.getElem?_eq_getElem hjl]; rfl
        obtain ⟨dt, de⟩ := hb2 xs[i] hm (ys xs[i])[j] (List.getElem_mem hjl) x y' _ H7 ((u1.same s2).trans I7.up) (rd5.up (u6.same s7)) rd'
        refine ⟨hw1 x y', dt.run I7.fr fun H8 s8 => ?_⟩
        have u8 := (u6.same s7).same s8
        cases hbb : b xs[i] (ys xs[i])[j] with
        | false =>
          refine iteF ⟨u8, ?_⟩
          have := I7.go s8
          rw [etj, List.filter_append, List.filter_cons_of_neg (by rw [hbb]; simp), List.filter_nil, List.append_nil]
          exact this
        | true =>
          refine iteT (((de hbb).up (Up.of s8)).run (I7.fr.same s8) fun z H9 s9 r9 => ?_)
          obtain ⟨acc, h1, h2, h3⟩ := ((I7.go s8).go s9).app hD r9 (Nat.lt_of_le_of_lt (lb i hlt j) hl)
          refine ⟨acc, h1, h2, ((u8.same s9).trans fun a o n e => ⟨n, by rw [upd_ne n.2]; exact e⟩), ?_⟩
          rw [etj, List.filter_append, List.filter_cons_of_pos hbb, List.filter_nil, List.map_append, ← List.append_assoc]
          exact h3
      · have e : j = (ys xs[i]).length := by omega
        subst e
        refine .inl ⟨by have := w5.stop _ _ u6; rwa [hl5] at this, ?_⟩
        rw [etk, List.flatMap_append, List.flatMap_cons, List.flatMap_nil, List.append_nil]
        rw [List.take_length] at I6
        exact I6
    · have e : i = xs.length := by omega
      subst e
      obtain ⟨acc, hacc, ra⟩ := I3.acc
      rw [List.take_length] at ra
      exact .inl ⟨by have := w.stop _ _ I3.up; rwa [hl'] at this, q _ _ (s2.trans I3.same) (.lst ((f1.same s2) D hD) hacc (ra.up up_sub))⟩
/-! ### loops by data -/
theorem df_for {α : Type} {xs : List α} {enc : α → PyData} {wi : TI} {g : TG} {tb : TS} {D : Ends} (h : DI N wi σ H (xs.map enc)) (f : Fr N H)
    (k : ∀ H2, Same H H2 → ∃ Pv : Nat → L2.St → Hp → Prop, Pv 0 σ H2 ∧ (∀ i σ' H', Pv i σ' H' → Up N H2 N H' ∧ Fr N H') ∧
      (∀ i (hi : i < xs.length) x σ' H' H3, Pv i σ' H' → Same H' H3 → Rp N H3 x (enc xs[i]) → g x σ' H3 fun σ2 H4 => tb { D with nx := Pv (i + 1), ct := Pv (i + 1), bk := D.nx } σ2 H4) ∧
      (∀ σ' H', Pv xs.length σ' H' → D.nx σ' H')) : tFor wi g tb D σ H :=
  h N H (Up.refl N H) f _ fun J H2 s2 w => by
    have hl' : (xs.map enc).length = xs.length := List.length_map _
    obtain ⟨Pv, p0, pu, ps, pd⟩ := k H2 s2
    refine ⟨fun i m σ' H' => m = xs.length - i ∧ i ≤ xs.length ∧ Pv i σ' H', ⟨_, rfl, Nat.zero_le _, p0⟩, ?_⟩
    rintro i m σ' H' ⟨rfl, hi, p⟩
    obtain ⟨u, f'⟩ := pu i σ' H' p
    by_cases hlt : i < xs.length
    · refine .inr ⟨w.go _ _ u i (by omega), Pv (i + 1), fun σ'' H'' p' => ⟨_, by omega, rfl, hlt, p'⟩, fun x H3 y => ?_⟩
      obtain ⟨s3, d, hd, rd⟩ := w.yld _ _ u f' i x H3 (by omega) y
      rw [List.getElem?_map, List.getElem?_eq_getElem hlt] at hd
      have ed : enc xs[i] = d := Option.some.inj hd
      subst ed
      exact ps i hlt x σ' H' H3 p s3 rd
    · have e : i = xs.length := by omega
      subst e
      exact .inl ⟨by have := w.stop _ _ u; rwa [hl'] at this, pd σ' H' p⟩
end
/-! ### the facts of a text's top -/
structure Def (P : Program) (w : World) (K : PySem.W.Frag) (mg : Str → Option Value) (base : Heap) (x : Str) (lv : Nat) (ps : List Str) (sp : Sp) : Prop where
  ex : ∃ (f : Addr) (fd : FuncData), FnOk P w K mg base CX0 lv f fd ps sp ∧ Binds K fd ps [] ∧ PySem.W.keepIn K (.ref f) = true ∧ mg x = some (.ref f)
structure Bi (mg : Str → Option Value) : Prop where
  len : mg "len" = none
  list : mg "list" = none
  tuple : mg "tuple" = none
  all : mg "all" = none
  any : mg "any" = none
  sum : mg "sum" = none
  min : mg "min" = none
  sorted : mg "sorted" = none
  set : mg "set" = none
  range : mg "range" = none
  enumerate : mg "enumerate" = none
  zip : mg "zip" = none
  int : mg "int" = none
  bool : mg "bool" = none
  abs : mg "abs" = none
  isinstance : mg "isinstance" = none
/-- of a def whose promise tells its answer by data: its arguments' number -/
theorem len_spP {R : List PyData → PyData → Prop} {n : Nat} (h : ∀ ds d, R ds d → ds.length = n) : ∀ vs H Q E, spP R vs H Q E → vs.length = n := fun vs H Q E ⟨N, ds, d, f, r, hr, k⟩ => by rw [r.len, h ds d hr]
end Pu

namespace Pu
open PySem PySem.Spec PyProof.Rows L2
/-! ### the rules with the written part told -/
section
variable {X : Cx} (K : PySem.W.Frag)
theorem op_addK (h : X.K = K := by rfl) : OpR X (binaryOp .Add) (rAddU K) := h ▸ op_addU
theorem op_ltK (hu : X.A.units < cLine) (h : X.K = K := by rfl) : OpR X (compareOp .Lt) (rLtU K) := h ▸ op_ltU hu
theorem op_eqK (hu : X.A.units + 64 < cLine) (h : X.K = K := by rfl) : OpR X (compareOp .Eq) (rEqD K) := h ▸ op_eqD hu
theorem op_neK (hu : X.A.units + 64 < cLine) (h : X.K = K := by rfl) : OpR X (compareOp .NotEq) (rNeD K) := h ▸ op_neD hu
theorem op_inK (h : X.K = K := by rfl) : OpR X (compareOp .In) (rIn K false) := h ▸ op_in_seq
theorem op_ninK (h : X.K = K := by rfl) : OpR X (compareOp .NotIn) (rIn K true) := h ▸ op_notIn_seq
theorem ix_K (h : X.K = K := by rfl) : IxR X (rIx K) := h ▸ ix_seq
theorem sl_tK (h : X.K = K := by rfl) : SlR X (rSlA K) := h ▸ sl_tupA
theorem sl_lK (h : X.K = K := by rfl) : SlR X (rSlL K) := h ▸ sl_list
def rLenK : List V → Hp → VK → Prop := fun xs H Q => ∃ p ys, xs = [.ref p] ∧ (SqL K H p ys ∨ SqT K H p ys) ∧ Q (.int ys.length) H
theorem call_lenK (h : X.K = K := by rfl) : CallR X (.builtin "len") (rLenK K) := by subst h; exact call_len_seq
def rListK : List V → Hp → VK → Prop := fun xs H Q => ∃ p ys, xs = [.ref p] ∧ (SqL K H p ys ∨ SqT K H p ys) ∧ ∀ l, H l = none → Q (.ref l) (upd H l (.lst ys))
theorem call_listK (h : X.K = K := by rfl) : CallR X (.type "list") (rListK K) := by subst h; exact call_list_of
def rTupK : List V → Hp → VK → Prop := fun xs H Q => ∃ p ys, xs = [.ref p] ∧ ((SqL K H p ys ∧ ∀ l, H l = none → Q (.ref l) (upd H l (.tup ys))) ∨ (SqT K H p ys ∧ Q (.ref p) H))
theorem call_tupK (h : X.K = K := by rfl) : CallR X (.type "tuple") (rTupK K) := by subst h; exact call_tuple_of
theorem cr_allK (hc : X.calm = true) (h : X.K = K := by rfl) : CallR X (.builtin "all") (rAll K) := h ▸ cr_all hc
theorem cr_anyK (hc : X.calm = true) (h : X.K = K := by rfl) : CallR X (.builtin "any") (rAny K) := h ▸ cr_any hc
theorem cr_sumK (hc : X.calm = true) (h : X.K = K := by rfl) : CallR X (.builtin "sum") (rSum K) := h ▸ cr_sum hc
theorem cr_sortIK (h : X.K = K := by rfl) : CallR X (.builtin "sorted") (rSortedI K) := h ▸ cr_sortedI
theorem cr_sortLK (h : X.K = K := by rfl) : CallR X (.builtin "sorted") (rSortLex K) := h ▸ cr_sortLex
theorem cr_setLK (w : World) (hc : X.calm = true) (h : X.K = K := by rfl) (hw : X.w = w := by rfl) : CallR X (.type "set") (rSetL K w) := by subst h hw; exact cr_setL hc
theorem cr_setTK (w : World) (hc : X.calm = true) (h : X.K = K := by rfl) (hw : X.w = w := by rfl) : CallR X (.type "set") (rSetTI K w) := by subst h hw; exact cr_setTI hc
theorem cr_setIK (w : World) (hc : X.calm = true) (hw : X.w = w := by rfl) : CallR X (.builtin "sorted") (rSortedSet w) := hw ▸ cr_sortedSet hc
theorem cr_setOK (P : Program) (w : World) (hc : X.calm = true) (hu : X.A.units + 64 < cLine) (h : X.K = K := by rfl) (hp : X.prog = P := by rfl) (hw : X.w = w := by rfl) : CallR X (.type "set") (rSetOfT K P w) := by subst h hp hw; exact cr_setOfT hc hu
theorem cr_sortSK (P : Program) (w : World) (hc : X.calm = true) (h : X.K = K := by rfl) (hp : X.prog = P := by rfl) (hw : X.w = w := by rfl) : CallR X (.builtin "sorted") (rSortedSetLex K P w) := by subst h hp hw; exact cr_sortedSetLex hc
theorem pi_seqK {tg l : Expr} {tl : TE} (hl : PE X l tl) (h : X.K = K := by rfl) : PI X tg l (iSeq K tl) := h ▸ pi_seq hl
theorem pi_enumTK {e : Expr} {ta : TA} {p pos tpos : Pos} {elts : List Expr} {kk : Nat} (hg : Gl X "enumerate") (hm : X.mg "enumerate" = none) (ha : PA X [e] ta) (hs : starEach [e] X.env = [(false, eval e X.env)] := by rfl) (h : X.K = K := by rfl) :
    PI X (.Tuple elts kk tpos) (.Call (.Name "enumerate" p) [e] [] pos) (iEnumT K ta) := h ▸ pi_enumT hg hm ha hs
def tTruK (ta : TE) : TT := fun σ H Q => ta σ H fun x H' => ∃ k, TruV K x H' k ∧ Q k H'
theorem pt_truK {a : Expr} {ta : TE} (ha : PE X a ta) (he : ∀ whole, isTrue a X.env whole = (do let v ← whole; standAt a.pos; holding [v] (truthy v))) (h : X.K = K := by rfl) : PT X a (tTruK K ta) := by subst h; exact pt_truth ha he
theorem pg_tupK {es : List Expr} {k : Nat} {pos : Pos} {t : TGs} {n : Nat} (hc : X.calm = true) (h : PGs X es t)
    (hn : (assignEach es X.env).length = n := by rfl) (hst : (assignEach es X.env).findIdx? (·.1) = none := by rfl) (hk : X.K = K := by rfl) : PG X (.Tuple es k pos) (gTup K n t) := hk ▸ pg_tup hc h hn hst
theorem pe_gi {x : Str} {i : Int} {t : Tok} {pos : Pos} (hg : Gl X x) (hm : X.mg x = some (.int i t)) (hd : (x == ("__debug__" : Str)) = false := by decide) : PE X (.Name x pos) (tC (.int i)) := pe_glob (v := .int i) hg hm ⟨_, rfl⟩ hd
end
section
variable {K : PySem.W.Frag} {P : Program} {w : World} {N N' : NP} {σ : L2.St} {H H' : Hp} {ta tb tc te tl : TE} {t u : TT} {d x y z : PyData} {v : V} {ds : List PyData}
theorem rk_len (e : itemsD x = some ds := by rfl) : RCD (rLenK K) [x] (.int (ds.length : Nat)) := rc_len e
theorem rk_lenT {α : Type} {xs : List α} {enc : α → PyData} : RCD (rLenK K) [.tuple (xs.map enc)] (.int (xs.length : Nat)) := by have := rk_len (K := K) (x := .tuple (xs.map enc)); rwa [List.length_map] at this
theorem rk_lenL {α : Type} {xs : List α} {enc : α → PyData} : RCD (rLenK K) [.list (xs.map enc)] (.int (xs.length : Nat)) := by have := rk_len (K := K) (x := .list (xs.map enc)); rwa [List.length_map] at this
theorem rk_list (e : itemsD x = some ds := by rfl) : RCD (rListK K) [x] (.list ds) := rc_list e
theorem rk_tup : RCD (rTupK K) [.list ds] (.tuple ds) := rc_tuple
theorem dt_tru (h : DE N ta σ H x) {k : Bool} (hk : (∃ b, x = .bool b ∧ k = b) ∨ (∃ i, x = .int i ∧ k = (i != 0)) ∨ ∃ ds, itemsD x = some ds ∧ k = !ds.isEmpty) : DT N (tTruK K ta) σ H k := de_tru h hk
theorem dt_truB {b : Bool} (h : DE N ta σ H (.bool b)) : DT N (tTruK K ta) σ H b := dt_tru h (.inl ⟨b, rfl, rfl⟩)
theorem dt_truS (h : DE N ta σ H x) (e : itemsD x = some ds := by rfl) : DT N (tTruK K ta) σ H (!ds.isEmpty) := dt_tru h (.inr (.inr ⟨ds, e, rfl⟩))
theorem dt_truI {i : Int} (h : DE N ta σ H (.int i)) : DT N (tTruK K ta) σ H (i != 0) := dt_tru h (.inr (.inl ⟨i, rfl, rfl⟩))
/-! ### statements by data -/
theorem dq_ret {D : Ends} (h : DE N te σ H d) (f : Fr N H) (q : ∀ v H2, Same H H2 → Rp N H2 v d → D.rt v H2) : tRet te D σ H := h.run f q
theorem dq_set {D : Ends} {rest : TS} {i : Nat} (h : DE N te σ H d) (f : Fr N H) (k : ∀ v H1, Same H H1 → Rp N H1 v d → rest D (σ.set i (some v)) H1) : tSeq (tAsg te (gName i)) rest D σ H := h.run f k
theorem dq_drop {D : Ends} {rest : TS} (h : DE N te σ H d) (f : Fr N H) (k : ∀ H1, Same H H1 → rest D σ H1) : tSeq (tDrop te) rest D σ H := h.run f fun v H1 s _ => k H1 s
theorem dq_iff {D : Ends} {rest : TS} {c : TT} {t : TS} (hc : DT N c σ H false) (f : Fr N H) (h : ∀ H1, Same H H1 → rest D σ H1) : tSeq (tIfS c t tNext) rest D σ H := hc.run f fun H1 s => iteF (h H1 s)
theorem dq_ifN {D : Ends} {rest : TS} {c : TT} {t : TS} {b : Bool} (hc : DT N c σ H b) (f : Fr N H) (h1 : b = true → ∀ H1, Same H H1 → t { D with nx := rest D } σ H1) (h2 : b = false → ∀ H1, Same H H1 → rest D σ H1) :
    tSeq (tIfS c t tNext) rest D σ H := hc.run f fun H1 s => by
  cases b with
  | true => exact iteT (h1 rfl H1 s)
  | false => exact iteF (h2 rfl H1 s)
theorem dq_if {D : Ends} {c : TT} {t u : TS} {b : Bool} (hc : DT N c σ H b) (f : Fr N H) (h1 : b = true → ∀ H1, Same H H1 → t D σ H1) (h2 : b = false → ∀ H1, Same H H1 → u D σ H1) :
    tIfS c t u D σ H := hc.run f fun H1 s => by
  cases b with
  | true => exact iteT (h1 rfl H1 s)
  | false => exact iteF (h2 rfl H1 s)
theorem dq_par {D : Ends} {rest : TS} {i j : Nat} {ta : TA} {d e : PyData} (h : DA N ta σ H [d, e]) (f : Fr N H) (k : ∀ v u H1, Same H H1 → Rp N H1 v d → Rp N H1 u e → rest D ((σ.set i (some v)).set j (some u)) H1) :
    tSeq (tPar i j ta) rest D σ H := h.run f fun vs H1 s r => by
  cases r with
  | cons r1 r =>
    cases r with
    | cons r2 r => cases r; exact ⟨_, _, rfl, k _ _ H1 s r1 r2⟩
theorem atI_i {α : Type} {l : List α} {a : Int} {v : α} (h0 : 0 ≤ a) (h : l[a.toNat]? = some v) : L2.atI l a = some v := by
  have := L2.atI_nat h
  rwa [Int.toNat_of_nonneg h0] at this
end
end Pu

namespace Pu
open PySem PySem.Spec PyProof.Rows L2
section
variable {K : PySem.W.Frag} {P : Program} {w : World} {N N' : NP} {σ : L2.St} {H H' : Hp} {ta tb tc te tl : TE} {t u : TT} {d x y z : PyData} {v : V} {ds : List PyData}
theorem de_allM {α : Type} {xs : List α} {g : α → Bool} {ta : TA} (h : DA N ta σ H [.list (xs.map fun a => .bool (g a))]) : DE N (tCB (rAll K) ta) σ H (.bool (xs.all g)) := by
  have e : (xs.map fun a => PyData.bool (g a)) = (xs.map g).map PyData.bool := by rw [List.map_map]; rfl
  rw [e] at h
  refine (de_cb h rc_all).is ?_
  congr 1
  simp
theorem de_anyM {α : Type} {xs : List α} {g : α → Bool} {ta : TA} (h : DA N ta σ H [.list (xs.map fun a => .bool (g a))]) : DE N (tCB (rAny K) ta) σ H (.bool (xs.any g)) := by
  have e : (xs.map fun a => PyData.bool (g a)) = (xs.map g).map PyData.bool := by rw [List.map_map]; rfl
  rw [e] at h
  refine (de_cb h rc_any).is ?_
  congr 1
  simp
theorem de_sumM {α : Type} {xs : List α} {g : α → Int} {ta : TA} (h : DA N ta σ H [.list (xs.map fun a => .int (g a))]) : DE N (tCB (rSum K) ta) σ H (.int ((xs.map g).sum)) := by
  have e : (xs.map fun a => PyData.int (g a)) = (xs.map g).map PyData.int := by rw [List.map_map]; rfl
  rw [e] at h
  exact de_cb h rc_sum
/-- [e for i, j in xs] -/
theorem de_lcP0 {α : Type} {xs : List α} {e1 e2 : α → PyData} {wi : TI} {vs : List Nat} {i j : Nat} (f : α → PyData) (hi : DI N wi σ H (xs.map fun a => .tuple [e1 a, e2 a])) (hl : xs.length ≤ 10000000)
    (hb : ∀ a ∈ xs, ∀ x y N' H', Up N H N' H' → Rp N' H' x (e1 a) → Rp N' H' y (e2 a) → DE N' te (((wipe σ vs).set i (some x)).set j (some y)) H' (f a))
    (hw : ∀ x y, wipe (((wipe σ vs).set i (some x)).set j (some y)) vs = wipe σ vs := by intro _ _; rfl) :
    DE N (tLc wi (gTup K 2 (gCons (gName i) (gCons (gName j) gNil))) tYes te vs) σ H (.list (xs.map f)) := by
  have h := de_lcP (K := K) (N := N) (σ := σ) (H := H) (te := te) (tt := tYes) (vs := vs) (i := i) (j := j) (fun _ => true) f hi hl (fun a ha x y N' H' u r1 r2 => ⟨dt_yes, fun _ => hb a ha x y N' H' u r1 r2⟩) hw
  rw [List.filter_eq_self.mpr (fun _ _ => rfl)] at h
  exact h
theorem InD.rp {N1 : NP} {H2 H3 : Hp} {D : Addr} {es : List PyData} (w : InD N1 H2 D H3 es) (hD : H2 D = none) (f : Fr N1 H2) : Rp N1 H3 (.ref D) (.list es) := by
  obtain ⟨acc, h, r⟩ := w.acc
  exact .lst (f D hD) h (r.up up_sub)
theorem InD.frN {N1 : NP} {H2 H3 : Hp} {D : Addr} {es : List PyData} (w : InD N1 H2 D H3 es) : Fr N1 H3 := fun a ha => (w.fr a ha).1
theorem InD.upN {N1 : NP} {H2 H3 : Hp} {D : Addr} {es : List PyData} (w : InD N1 H2 D H3 es) : Up N1 H2 N1 H3 := Up.of w.same
/-- l = [] -/
theorem dq_new {D : Ends} {rest : TS} {i : Nat} (f : Fr N H) (k : ∀ p H1, H p = none → InD N H p H1 [] → rest D (σ.set i (some (.ref p))) H1) : tSeq (tAsg (tLst tNil) (gName i)) rest D σ H :=
  ⟨Nat.zero_le _, fun p hp => k p _ hp (InD.new hp f)⟩
/-- l.append(e) -/
theorem dq_app {D : Ends} {i : Nat} {p : Addr} {H2 : Hp} {N1 : NP} {es : List PyData} (w : InD N1 H2 p H es) (hD : H2 p = none) (hσ : σ[i]? = some (some (.ref p))) (h : DE (fun a => N1 a ∧ a ≠ p) te σ H d) (hl : es.length < 10000000)
    (k : ∀ H4, InD N1 H2 p H4 (es ++ [d]) → Up (fun a => N1 a ∧ a ≠ p) H (fun a => N1 a ∧ a ≠ p) H4 → D.nx σ H4) : tDrop (tBM K "list" rAppend (tVar i) (tCons te tNil)) D σ H := by
  obtain ⟨acc, h1, r1⟩ := w.acc
  refine ⟨_, hσ, .inl ⟨rfl, _, Or.inl (Or.inl h1)⟩, h.run w.fr fun v H3 s3 r3 => ?_⟩
  obtain ⟨acc', h2, h3, h4⟩ := (w.go s3).app hD r3 hl
  exact ⟨p, acc', v, rfl, rfl, h2, h3, k _ h4 ((Up.of s3).trans fun a o n e => ⟨n, by rw [upd_ne n.2]; exact e⟩)⟩
/-- l.extend(m), m a list -/
theorem dq_ext {D : Ends} {i j : Nat} {p : Addr} {H2 : Hp} {N1 : NP} {es fs : List PyData} (w : InD N1 H2 p H es) (hD : H2 p = none) (hσ : σ[i]? = some (some (.ref p))) (hτ : σ[j]? = some (some v)) (h : Rp (fun a => N1 a ∧ a ≠ p) H v (.list fs)) (hl : es.length + fs.length ≤ 10000000)
    (k : ∀ H4, InD N1 H2 p H4 (es ++ fs) → Up (fun a => N1 a ∧ a ≠ p) H (fun a => N1 a ∧ a ≠ p) H4 → D.nx σ H4) : tDrop (tBM K "list" rExtend (tVar i) (tCons (tVar j) tNil)) D σ H := by
  obtain ⟨acc, h1, r1⟩ := w.acc
  cases h with
  | @lst b zs _ nb hb rb =>
    refine ⟨_, hσ, .inl ⟨rfl, _, Or.inl (Or.inl h1)⟩, _, hτ, p, b, acc, zs, rfl, rfl, h1, hb, Nat.le_trans (by rw [r1.len, rb.len]; exact hl) (by decide : 10000000 ≤ sizeLine), k _ ?_ fun a o n e => ⟨n, by rw [upd_ne n.2]; exact e⟩⟩
    have up6 : Up (fun a => N1 a ∧ a ≠ p) H (fun a => N1 a ∧ a ≠ p) (upd H p (.lst (acc ++ zs))) := fun a o n e => ⟨n, by rw [upd_ne n.2]; exact e⟩
    refine ⟨fun a o e => ?_, w.up.trans up6, fun a ha => ?_, acc ++ zs, upd_same, (r1.app rb).up up6⟩
    · rw [upd_ne (ne_of_none e hD)]
      exact w.same _ _ e
    · have na : a ≠ p := fun z => by rw [z, upd_same] at ha; cases ha
      rw [upd_ne na] at ha
      exact w.fr a ha
/-- a, b = e; a, b, c = e -/
theorem dq_un2 {D : Ends} {rest : TS} {i j : Nat} (h : DE N te σ H (.tuple [x, y])) (f : Fr N H) (k : ∀ a b H1, Same H H1 → Rp N H1 a x → Rp N H1 b y → rest D ((σ.set i (some a)).set j (some b)) H1) :
    tSeq (tAsg te (gTup K 2 (gCons (gName i) (gCons (gName j) gNil)))) rest D σ H := h.run f fun v H1 s r => by
  cases r with
  | tup n hh r =>
    cases r with
    | cons r1 r =>
      cases r with
      | cons r2 r => cases r; exact ⟨_, _, rfl, SqT.of hh, rfl, _, _, rfl, _, _, rfl, rfl, k _ _ H1 s r1 r2⟩
theorem dq_un3 {D : Ends} {rest : TS} {i j l : Nat} (h : DE N te σ H (.tuple [x, y, z])) (f : Fr N H) (k : ∀ a b c H1, Same H H1 → Rp N H1 a x → Rp N H1 b y → Rp N H1 c z → rest D (((σ.set i (some a)).set j (some b)).set l (some c)) H1) :
    tSeq (tAsg te (gTup K 3 (gCons (gName i) (gCons (gName j) (gCons (gName l) gNil))))) rest D σ H := h.run f fun v H1 s r => by
  cases r with
  | tup n hh r =>
    cases r with
    | cons r1 r =>
      cases r with
      | cons r2 r =>
        cases r with
        | cons r3 r => cases r; exact ⟨_, _, rfl, SqT.of hh, rfl, _, _, rfl, _, _, rfl, _, _, rfl, rfl, k _ _ _ H1 s r1 r2 r3⟩
theorem df_forS {α : Type} {xs : List α} {enc : α → PyData} {wi : TI} {g : TG} {tb rest : TS} {D : Ends} (h : DI N wi σ H (xs.map enc)) (f : Fr N H)
    (k : ∀ H2, Same H H2 → ∃ Pv : Nat → L2.St → Hp → Prop, Pv 0 σ H2 ∧ (∀ i σ' H', Pv i σ' H' → Up N H2 N H' ∧ Fr N H') ∧
      (∀ i (hi : i < xs.length) x σ' H' H3, Pv i σ' H' → Same H' H3 → Rp N H3 x (enc xs[i]) → g x σ' H3 fun σ2 H4 => tb { nx := Pv (i + 1), rt := D.rt, bk := rest D, ct := Pv (i + 1) } σ2 H4) ∧
      (∀ σ' H', Pv xs.length σ' H' → rest D σ' H')) : tSeq (tFor wi g tb) rest D σ H := df_for (D := { D with nx := rest D }) h f k
theorem take_filter {α : Type} (l : List α) (b : α → Bool) {i : Nat} (hi : i < l.length) : (l.take (i + 1)).filter b = (l.take i).filter b ++ (if b l[i] = true then [l[i]] else []) := by
  have e : l.take (i + 1) = l.take i ++ [l[i]] := by rw [List.take_succ, List.getElem?_eq_getElem hi]; rfl
  rw [e, List.filter_append]
  cases h : b l[i] <;> simp [h]
theorem take_last {α : Type} (l : List α) {i : Nat} (hi : i < l.length) : l.take (i + 1) = l.take i ++ [l[i]] := by rw [List.take_succ, List.getElem?_eq_getElem hi]; rfl
end
end Pu

namespace Ch
/-! the rows of choices -/
def chc (heads others : List Int) (o : Int) : List Int := if o ∈ heads then [o] else heads ++ others
def stepR (heads others : List Int) (sm : List (List Int)) (o : Int) : List (List Int) := sm.flatMap fun row => (chc heads others o).map fun c => row ++ [c]
theorem stepR_len {heads others : List Int} (h : heads.length + others.length ≤ 6) (sm : List (List Int)) (o : Int) : (stepR heads others sm o).length ≤ sm.length * 6 := by
  unfold stepR
  have hc : (chc heads others o).length ≤ 6 := by
    unfold chc
    split
    · simp
    · rw [List.length_append]; exact h
  induction sm with
  | nil => simp
  | cons r l ih =>
    rw [List.flatMap_cons, List.length_append, List.length_map, List.length_cons]
    omega
theorem foldR_len {heads others : List Int} (h : heads.length + others.length ≤ 6) : ∀ (owners : List Int) (sm : List (List Int)), (owners.foldl (stepR heads others) sm).length ≤ sm.length * 6 ^ owners.length
  | [], sm => by simp
  | o :: r, sm => by
    rw [List.foldl_cons, List.length_cons, Nat.pow_succ]
    refine Nat.le_trans (foldR_len h r _) ?_
    have := stepR_len h sm o
    calc (stepR heads others sm o).length * 6 ^ r.length ≤ (sm.length * 6) * 6 ^ r.length := Nat.mul_le_mul_right _ this
      _ = sm.length * (6 ^ r.length * 6) := by rw [Nat.mul_assoc, Nat.mul_comm 6]
theorem foldR_row {heads others : List Int} : ∀ (owners : List Int) (sm : List (List Int)) (n : Nat), (∀ r ∈ sm, r.length = n) → ∀ r ∈ owners.foldl (stepR heads others) sm, r.length = n + owners.length
  | [], sm, n, h, r, hr => h r hr
  | o :: l, sm, n, h, r, hr => by
    rw [List.foldl_cons] at hr
    rw [foldR_row l (stepR heads others sm o) (n + 1) (fun r hr => by
      obtain ⟨r', h1, h2⟩ := List.mem_flatMap.mp hr
      obtain ⟨c, _, rfl⟩ := List.mem_map.mp h2
      rw [List.length_append, h r' h1]; rfl) r hr, List.length_cons]
    omega
theorem rng_succ (n : Nat) : rng (n + 1) = rng n ++ [(n : Int)] := by
  unfold rng
  rw [List.range_succ, List.map_append]; rfl
theorem mem_foldR {heads others : List Int} : ∀ (n : Nat) (row : List Int), row ∈ (rng n).foldl (stepR heads others) [[]] ↔ row.length = n ∧ ∀ i : Nat, i < n → ∃ c, row[i]? = some c ∧ c ∈ chc heads others i
  | 0, row => by
    simp only [rng, List.range_zero, List.map_nil, List.foldl_nil, List.mem_singleton]
    constructor
    · rintro rfl; exact ⟨rfl, fun i h => absurd h (by omega)⟩
    · rintro ⟨h, _⟩; exact List.eq_nil_of_length_eq_zero h
  | n + 1, row => by
    rw [rng_succ, List.foldl_append, List.foldl_cons, List.foldl_nil]
    unfold stepR
    rw [List.mem_flatMap]
    constructor
    · rintro ⟨r, hr, hm⟩
      obtain ⟨c, hc, rfl⟩ := List.mem_map.mp hm
      obtain ⟨h1, h2⟩ := (mem_foldR n r).mp hr
      refine ⟨by simp [h1], fun i hi => ?_⟩
      by_cases hl : i < n
      · obtain ⟨c', e, q⟩ := h2 i hl
        exact ⟨c', by rw [List.getElem?_append_left (by omega)]; exact e, q⟩
      · have e : i = n := by omega
        subst e
        exact ⟨c, by rw [List.getElem?_append_right (by omega), h1]; simp, hc⟩
    · rintro ⟨h1, h2⟩
      obtain ⟨c, e, hc⟩ := h2 n (by omega)
      have er : row = row.take n ++ [c] := by
        have := List.take_succ (l := row) (i := n)
        rw [e, List.take_of_length_le (by omega)] at this
        exact this
      refine ⟨row.take n, (mem_foldR n _).mpr ⟨by simp; omega, fun i hi => ?_⟩, List.mem_map.mpr ⟨c, hc, er.symm⟩⟩
      obtain ⟨c', e', q⟩ := h2 i (by omega)
      exact ⟨c', by rw [List.getElem?_take_of_lt hi]; exact e', q⟩
/-- a mask for each choice of items -/
theorem mask_ex (q : Int → Bool) : ∀ l : List Int, ∃ m : Nat, m < 2 ^ l.length ∧ ∀ (i : Nat) (x : Int), l[i]? = some x → (m / 2 ^ i % 2 = 1 ↔ q x = true)
  | [] => ⟨0, by simp, fun i x h => by cases i <;> cases h⟩
  | y :: r => by
    obtain ⟨m, hm, h⟩ := mask_ex q r
    refine ⟨2 * m + (if q y = true then 1 else 0), ?_, fun i x hx => ?_⟩
    · rw [List.length_cons, Nat.pow_succ]
      split <;> omega
    · cases i with
      | zero =>
        have e : y = x := by simpa using hx
        subst e
        rw [Nat.pow_zero, Nat.div_one]
        by_cases hq : q y = true
        · simp [hq]
        · simp [hq]
      | succ i =>
        have hx' : r[i]? = some x := by simpa using hx
        rw [← h i x hx', Nat.pow_succ, Nat.mul_comm (2 ^ i) 2, ← Nat.div_div_eq_div_mul]
        have : (2 * m + (if q y = true then 1 else 0)) / 2 = m := by split <;> omega
        rw [this]
/-- the items of a mask -/
def bitN (m i : Nat) : Bool := m / 2 ^ i % 2 == 1
def headsM (props : List Int) (m : Nat) : List Int := (props.zipIdx.filter fun p => bitN m p.2).map (·.1)
theorem mem_headsM {props : List Int} {m : Nat} {x : Int} : x ∈ headsM props m ↔ ∃ i, props[i]? = some x ∧ bitN m i = true := by
  unfold headsM
  rw [List.mem_map]
  constructor
  · rintro ⟨⟨y, i⟩, hm, rfl⟩
    obtain ⟨h1, h2⟩ := List.mem_filter.mp hm
    exact ⟨i, List.mem_zipIdx_iff_getElem?.mp h1, h2⟩
  · rintro ⟨i, h1, h2⟩
    exact ⟨(x, i), List.mem_filter.mpr ⟨List.mem_zipIdx_iff_getElem?.mpr h1, h2⟩, rfl⟩
theorem headsM_len (props : List Int) (m : Nat) : (headsM props m).length ≤ props.length := by
  unfold headsM
  rw [List.length_map]
  exact Nat.le_trans (List.length_filter_le _ _) (by rw [List.length_zipIdx]; exact Nat.le_refl _)
def rowsC (owners props others : List Int) : List (List Int) := (List.range (2 ^ props.length)).flatMap fun m => owners.foldl (stepR (headsM props m) others) [[]]
section
variable {many : Nat} {props : List Int} {lots : List (List Int)}
theorem at_get {row : List Int} {i : Nat} {c : Int} (h : row[i]? = some c) : at_ row i = c := by
  unfold at_
  rw [List.getD_eq_getElem?_getD, Int.toNat_natCast, h]; rfl
theorem mem_rows (C : Charter many props lots) {row : List Int} : row ∈ rowsC (rng many) props [] ↔ Split many props row := by
  unfold rowsC
  rw [List.mem_flatMap]
  constructor
  · rintro ⟨m, _, hr⟩
    obtain ⟨h1, h2⟩ := (mem_foldR many row).mp hr
    have key : ∀ h ∈ row, h ∈ headsM props m := fun h hh => by
      obtain ⟨i, hi, rfl⟩ := List.getElem_of_mem hh
      obtain ⟨c, e, q⟩ := h2 i (by omega)
      rw [List.getElem?_eq_getElem hi] at e
      have e' := Option.some.inj e
      rw [e']
      unfold chc at q
      split at q
      · rename_i z; rw [List.mem_singleton.mp q]; exact z
      · simpa using q
    have inp : ∀ h ∈ headsM props m, h ∈ props := fun h hh => by
      obtain ⟨i, e, _⟩ := mem_headsM.mp hh
      exact List.mem_of_getElem? e
    refine ⟨h1, fun h hh => inp h (key h hh), fun h hh => ?_⟩
    have b := C.pin h (inp h (key h hh))
    obtain ⟨c, e, q⟩ := h2 h.toNat (by omega)
    have eh : ((h.toNat : Nat) : Int) = h := by omega
    rw [eh] at q
    unfold chc at q
    rw [if_pos (key h hh)] at q
    have := at_get e
    rw [eh] at this
    rw [this]; exact List.mem_singleton.mp q
  · intro S
    obtain ⟨m, hm, hb⟩ := mask_ex (fun x => decide (x ∈ row)) props
    refine ⟨m, List.mem_range.mpr hm, (mem_foldR many row).mpr ⟨S.len, fun i hi => ?_⟩⟩
    have hl : i < row.length := by rw [S.len]; exact hi
    have inH : ∀ x, x ∈ headsM props m ↔ x ∈ props ∧ x ∈ row := fun x => by
      rw [mem_headsM]
      constructor
      · rintro ⟨j, e, b⟩
        have := (hb j x e).mp (by simpa [bitN] using b)
        exact ⟨List.mem_of_getElem? e, by simpa using this⟩
      · rintro ⟨h1, h2⟩
        obtain ⟨j, hj, rfl⟩ := List.getElem_of_mem h1
        refine ⟨j, List.getElem?_eq_getElem hj, ?_⟩
        have := (hb j _ (List.getElem?_eq_getElem hj)).mpr (by simpa using h2)
        simpa [bitN] using this
    have hm' := List.getElem_mem hl
    refine ⟨row[i], List.getElem?_eq_getElem hl, ?_⟩
    unfold chc
    by_cases z : (i : Int) ∈ headsM props m
    · rw [if_pos z]
      have o := S.own _ ((inH _).mp z).2
      rw [at_get (List.getElem?_eq_getElem hl)] at o
      rw [o]; simp
    · rw [if_neg z, List.append_nil]
      exact (inH _).mpr ⟨S.ins _ hm', hm'⟩
end
end Ch

namespace Pu
open PySem PySem.Spec PyProof.Rows L2
section
variable {N : NP} {H : Hp}
theorem rps1 {vs : List V} {d : PyData} (h : Rps N H vs [d]) : ∃ v, vs = [v] ∧ Rp N H v d := by
  cases h with
  | cons r t => cases t; exact ⟨_, rfl, r⟩
theorem rps2 {vs : List V} {d e : PyData} (h : Rps N H vs [d, e]) : ∃ v u, vs = [v, u] ∧ Rp N H v d ∧ Rp N H u e := by
  cases h with
  | cons r t =>
    obtain ⟨u, rfl, r2⟩ := rps1 t
    exact ⟨_, _, rfl, r, r2⟩
theorem rps3 {vs : List V} {d e g : PyData} (h : Rps N H vs [d, e, g]) : ∃ v u x, vs = [v, u, x] ∧ Rp N H v d ∧ Rp N H u e ∧ Rp N H x g := by
  cases h with
  | cons r t =>
    obtain ⟨u, x, rfl, r2, r3⟩ := rps2 t
    exact ⟨_, _, _, rfl, r, r2, r3⟩
theorem de_neg {te : TE} {σ : L2.St} {i : Int} (h : DE N te σ H (.int i)) : DE N (tUn (rU fun i => .int (-i)) te) σ H (.int (-i)) := fun N1 H1 u f Q q =>
  h N1 H1 u f _ fun v H2 s2 r2 => by cases r2; exact ⟨i, rfl, q _ H2 s2 (.int _)⟩
end
def small (i : Int) : Prop := -1000000000000000000 < i ∧ i < 1000000000000000000
def R_num : List PyData → PyData → Prop := fun ds d => ∃ i, ds = [.int i] ∧ small i ∧ d = .bool true
def R_from : List PyData → PyData → Prop := fun ds d => ∃ i l, ds = [.int i, .int l] ∧ small i ∧ d = .bool (decide (l ≤ i))
def R_below : List PyData → PyData → Prop := fun ds d => ∃ i l, ds = [.int i, .int l] ∧ small i ∧ d = .bool (decide (0 ≤ i) && decide (i < l))
def R_asc : List PyData → PyData → Prop := fun ds d => d = .bool true ∧ ((∃ ns : List Int, ds = [tI ns] ∧ ns.length ≤ 10000 ∧ ns.Pairwise (· < ·)) ∨ ∃ nss : List (List Int), ds = [tT nss] ∧ nss.length ≤ 10000 ∧ nss.Pairwise (fun a b => HT.lexLt a b = true))
section
variable {P : Program} {w : World} {K : PySem.W.Frag} {mg : Str → Option Value} {base : Heap}
abbrev s_is_number : Stmt := top 10
theorem sc_is_number : FnScope ["value"] ["value"] (defScope s_is_number) := ⟨rfl, rfl, rfl, by decide +kernel, rfl, by decide +kernel, by decide +kernel⟩
theorem ok_is_number {f : Addr} {fd : FuncData} (F : Fun K "is_number" "is_number" s_is_number f fd) (T : Bi mg) {tF : Tok} (c_FIRST_TOO_LONG : mg "FIRST_TOO_LONG" = some (.int 1000000000000000000 tF)) :
    FnOk P w K mg base CX0 1 f fd ["value"] (spP R_num) := by
  refine F.ok sc_is_number (len_spP (fun ds d ⟨i, e, _⟩ => by rw [e]; rfl)) (fun cdv A outer s H vs Q E hr h => ?_)
  obtain ⟨N, ds, d, fr, rs, ⟨i, rfl, si, rfl⟩, k⟩ := h
  obtain ⟨v, rfl, r⟩ := rps1 rs
  refine ⟨_, pss_cons (ps_if (PW.pt (pw_or (pt_not (pt_truK K (pe_callB call_isK (by rfl) T.isinstance (by decide +kernel) (pa_cons (pv 0) (pa_cons (pe_tyn "int" (by rfl) T.int (by decide +kernel)) pa_nil))) (fun _ => rfl))) (pw_or1 (pt_truK K (pe_callB call_isK (by rfl) T.isinstance (by decide +kernel) (pa_cons (pv 0) (pa_cons (pe_tyn "bool" (by rfl) T.bool (by decide +kernel)) pa_nil))) (fun _ => rfl))))) (pss_one (ps_ret (pe_bl))) pss_nil)
      (pss_one (ps_ret (pe_chain (op_ltK K hr.units0) (op_ltK K hr.units0) (pe_un un_neg (pe_gi rfl c_FIRST_TOO_LONG)) (pv 0) (pe_gi rfl c_FIRST_TOO_LONG)))), ?_⟩
  refine dq_iff ?_ fr fun H1 s1 => dq_ret ?_ (fr.same s1) fun v H2 s2 r2 => k v H2 (s1.trans s2) r2
  · exact dt_or (a := false) (b := false) (dt_not (a := true) (dt_truB (de_isK (de_var rfl r)))) fun _ => dt_truB (de_isK (de_var rfl r))
  refine DE.is (de_chain (de_neg de_int) (de_var rfl (r.same s1)) de_int r2_ltI r2_ltI) ?_
  have := si.1; have := si.2
  simp
  omega
abbrev s_is_number_from : Stmt := top 11
theorem sc_is_number_from : FnScope ["value", "least"] ["value", "least"] (defScope s_is_number_from) := ⟨rfl, rfl, rfl, by decide +kernel, rfl, by decide +kernel, by decide +kernel⟩
theorem ok_is_number_from {f : Addr} {fd : FuncData} (F : Fun K "is_number_from" "is_number_from" s_is_number_from f fd) (D_is_number : Def P w K mg base "is_number" 1 ["value"] (spP R_num)) :
    FnOk P w K mg base CX0 2 f fd ["value", "least"] (spP R_from) := by
  obtain ⟨f_is_number, fd_is_number, G_is_number, b_is_number, k_is_number, m_is_number⟩ := D_is_number.ex
  refine F.ok sc_is_number_from (len_spP (fun ds d ⟨i, l, e, _⟩ => by rw [e]; rfl)) (fun cdv A outer s H vs Q E hr h => ?_)
  obtain ⟨N, ds, d, fr, rs, ⟨i, l, rfl, si, rfl⟩, k⟩ := h
  obtain ⟨v, u, rfl, r1, r2⟩ := rps2 rs
  refine ⟨_, pss_one (ps_ret (pe_and (pe_call G_is_number (hr.mono (by decide)) rfl m_is_number k_is_number b_is_number .nil pass0 (pa_cons (pv 0) pa_nil)) (pe_one (pe_cmpR op_ge (pv 0) (pv 1) (nomark _))))), ?_⟩
  exact DE.run ((de_andV (a := true) (de_call (da_cons (de_var rfl r1) da_nil) ⟨i, rfl, si, rfl⟩) fun _ => de_op (de_var rfl r1) (de_var rfl r2) r2_b).is rfl) fr k
abbrev s_is_number_below : Stmt := top 12
theorem sc_is_number_below : FnScope ["value", "limit"] ["value", "limit"] (defScope s_is_number_below) := ⟨rfl, rfl, rfl, by decide +kernel, rfl, by decide +kernel, by decide +kernel⟩
theorem ok_is_number_below {f : Addr} {fd : FuncData} (F : Fun K "is_number_below" "is_number_below" s_is_number_below f fd) (D_is_number_from : Def P w K mg base "is_number_from" 2 ["value", "least"] (spP R_from)) :
    FnOk P w K mg base CX0 3 f fd ["value", "limit"] (spP R_below) := by
  obtain ⟨f_is_number_from, fd_is_number_from, G_is_number_from, b_is_number_from, k_is_number_from, m_is_number_from⟩ := D_is_number_from.ex
  refine F.ok sc_is_number_below (len_spP (fun ds d ⟨i, l, e, _⟩ => by rw [e]; rfl)) (fun cdv A outer s H vs Q E hr h => ?_)
  obtain ⟨N, ds, d, fr, rs, ⟨i, l, rfl, si, rfl⟩, k⟩ := h
  obtain ⟨v, u, rfl, r1, r2⟩ := rps2 rs
  refine ⟨_, pss_one (ps_ret (pe_and (pe_call G_is_number_from (hr.mono (by decide)) rfl m_is_number_from k_is_number_from b_is_number_from .nil pass0 (pa_cons (pv 0) (pa_cons pe_int pa_nil))) (pe_one (pe_cmpR (op_ltK K hr.units0) (pv 0) (pv 1) (nomark _))))), ?_⟩
  exact DE.run (de_andV (de_call (da_cons (de_var rfl r1) (da_cons de_int da_nil)) ⟨i, 0, rfl, si, rfl⟩) fun _ => de_op (de_var rfl r1) (de_var rfl r2) r2_ltI) fr k
theorem asc_at {α : Type} {R : α → α → Prop} {l : List α} (h : l.Pairwise R) {i : Nat} (hi : i + 1 < l.length) : R (l[i]'(by omega)) l[i + 1] := List.pairwise_iff_getElem.mp h i (i + 1) (by omega) hi (by omega)
theorem de_all_true {N : NP} {σ : L2.St} {H : Hp} {ta : TA} {α : Type} {xs : List α} (h : DA N ta σ H [.list (xs.map fun _ => .bool true)]) : DE N (tCB (rAll K) ta) σ H (.bool true) := by
  have e : (xs.map fun _ => PyData.bool true) = (xs.map fun _ => true).map PyData.bool := by rw [List.map_map]; rfl
  rw [e] at h
  refine (de_cb h rc_all).is ?_
  congr 1
  simp
abbrev s_is_ascending : Stmt := top 13
theorem sc_is_ascending : FnScope ["values", "at"] ["values"] (defScope s_is_ascending) := ⟨rfl, rfl, rfl, by decide +kernel, rfl, by decide +kernel, by decide +kernel⟩
theorem ok_is_ascending {f : Addr} {fd : FuncData} (F : Fun K "is_ascending" "is_ascending" s_is_ascending f fd) (T : Bi mg) :
    FnOk P w K mg base CX0 1 f fd ["values"] (spP R_asc) := by
  refine F.ok sc_is_ascending (len_spP (fun ds d ⟨_, h⟩ => by rcases h with ⟨_, e, _⟩ | ⟨_, e, _⟩ <;> (rw [e]; rfl))) (fun cdv A outer s H vs Q E hr h => ?_)
  obtain ⟨N, ds, d, fr, rs, ⟨rfl, h⟩, k⟩ := h
  refine ⟨_, pss_one (ps_ret (pe_callB (cr_allK K rfl) (by rfl) T.all (by decide +kernel) (pa_cons (pe_lc (own := [("at", 1)]) rfl sc_is_ascending.nd (pi_range1 rfl T.range (pa_cons (pe_op op_sub (pe_callB (call_lenK K) (by rfl) T.len (by decide +kernel) (pa_cons (pv 0) pa_nil)) pe_int) pa_nil)) (blkOk_by (own := [("at", 1)]) (N := ["values", "at"]) (sc := defScope s_is_ascending) (by decide +kernel)) (fun _ _ _ _ _ => pg_name (i := 1) sc_is_ascending.nd rfl (Or.inl rfl)) (fun _ _ _ _ _ => pts_nil) (fun _ _ _ _ _ => pe_cmpR (op_ltK K hr.units0) (pe_ix (ix_K K) (pv 0) (pv 1) (fun _ _ => rfl)) (pe_ix (ix_K K) (pv 0) (pe_op (op_addK K) (pv 1) pe_int) (fun _ _ => rfl)) (nomark _))) pa_nil))), ?_⟩
  have tn : ∀ m : Nat, ((m : Int) - 1).toNat = m - 1 := fun m => by omega
  rcases h with ⟨ns, rfl, hl, pw⟩ | ⟨nss, rfl, hl, pw⟩
  · obtain ⟨v, rfl, r⟩ := rps1 rs
    refine DE.run (de_all_true (xs := Ch.rng ((ns.length : Int) - 1).toNat) (da_cons (de_lc0 _ (di_rng (da_cons (de_op (de_cb (da_cons (de_var rfl r) da_nil) rk_lenT) de_int r2_i) da_nil) (by omega) (by omega)) (by rw [Ch.rng_len]; omega)
      fun a ha x N' H' u rx => ?_) da_nil)) fr k
    have hb := Ch.mem_rng.mp ha
    have h1 : a.toNat + 1 < ns.length := by omega
    have e0 : L2.atI (ns.map PyData.int) a = some (.int (ns[a.toNat]'(by omega))) := atI_i hb.1 (by rw [List.getElem?_map, List.getElem?_eq_getElem (by omega)]; rfl)
    have e1 : L2.atI (ns.map PyData.int) (a + 1) = some (.int ns[a.toNat + 1]) := atI_i (by omega) (by rw [show (a + 1).toNat = a.toNat + 1 by omega, List.getElem?_map, List.getElem?_eq_getElem h1]; rfl)
    refine (de_op (de_op (de_var rfl (r.up u)) (de_var rfl rx) (r2_ix e0)) (de_op (de_var rfl (r.up u)) (de_op (de_var rfl rx) de_int r2_addI) (r2_ix e1)) r2_ltI).is ?_
    rw [decide_eq_true (asc_at pw h1)]
  · obtain ⟨v, rfl, r⟩ := rps1 rs
    refine DE.run (de_all_true (xs := Ch.rng ((nss.length : Int) - 1).toNat) (da_cons (de_lc0 _ (di_rng (da_cons (de_op (de_cb (da_cons (de_var rfl r) da_nil) rk_lenT) de_int r2_i) da_nil) (by omega) (by omega)) (by rw [Ch.rng_len]; omega)
      fun a ha x N' H' u rx => ?_) da_nil)) fr k
    have hb := Ch.mem_rng.mp ha
    have h1 : a.toNat + 1 < nss.length := by omega
    have e0 : L2.atI (nss.map tI) a = some (tI (nss[a.toNat]'(by omega))) := atI_i hb.1 (by rw [List.getElem?_map, List.getElem?_eq_getElem (by omega)]; rfl)
    have e1 : L2.atI (nss.map tI) (a + 1) = some (tI nss[a.toNat + 1]) := atI_i (by omega) (by rw [show (a + 1).toNat = a.toNat + 1 by omega, List.getElem?_map, List.getElem?_eq_getElem h1]; rfl)
    refine (de_op (de_op (de_var rfl (r.up u)) (de_var rfl rx) (r2_ix e0)) (de_op (de_var rfl (r.up u)) (de_op (de_var rfl rx) de_int r2_addI) (r2_ix e1)) r2_ltT).is ?_
    rw [asc_at pw h1]
end
end Pu

namespace Pu
open PySem PySem.Spec PyProof.Rows L2
/-- a charter, as the program asks it -/
structure Ch2 (many : Nat) (props : List Int) (lots : List (List Int)) : Prop where
  c : Ch.Charter many props lots
  lasc : lots.Pairwise (fun a b => HT.lexLt a b = true)
  anti : ∀ a ∈ lots, ∀ b ∈ lots, a ≠ b → ∃ o ∈ b, o ∉ a
abbrev chD (many : Nat) (props : List Int) (lots : List (List Int)) : PyData := .tuple [.int (many : Int), tI props, tT lots]
theorem asc_len {n : Nat} {l : List Int} (h : l.Pairwise (· < ·)) (hb : ∀ x ∈ l, 0 ≤ x ∧ x < n) : l.length ≤ n := by
  have nd : l.Nodup := h.imp fun h => Int.ne_of_lt h
  have := List.Nodup.length_le_of_subset nd (l₂ := Ch.rng n) fun x hx => Ch.mem_rng.mpr (hb x hx)
  rwa [Ch.rng_len] at this
theorem small_of {i : Int} {n : Nat} (h0 : 0 ≤ i) (h1 : i < n) (hn : n ≤ 1000) : small i := ⟨by omega, by omega⟩
def R_noo : List PyData → PyData → Prop := fun ds d => ∃ i : Int, ds = [.int i] ∧ 1 ≤ i ∧ i ≤ 6 ∧ d = .bool true
def R_areo : List PyData → PyData → Prop := fun ds d => ∃ (n : Nat) (ns : List Int), ds = [.int (n : Int), tI ns] ∧ n ≤ 1000 ∧ (∀ o ∈ ns, 0 ≤ o ∧ o < n) ∧ ns.Pairwise (· < ·) ∧ d = .bool true
def R_hasall : List PyData → PyData → Prop := fun ds d => ∃ (x : PyData) (ns ws : List Int), ds = [x, tI ws] ∧ itemsD x = some (ns.map PyData.int) ∧ ws.length ≤ 10000 ∧ d = .bool (ws.all fun o => decide (o ∈ ns))
def R_isch : List PyData → PyData → Prop := fun ds d => ∃ many props lots, ds = [chD many props lots] ∧ Ch2 many props lots ∧ d = .bool true
def R_check : List PyData → PyData → Prop := fun ds d => ∃ many props lots, ds = [chD many props lots] ∧ Ch2 many props lots ∧ d = .none
def R_haslot : List PyData → PyData → Prop := fun ds d => ∃ many props lots x, ∃ ns : List Int, ds = [chD many props lots, x] ∧ itemsD x = some (ns.map PyData.int) ∧ Ch2 many props lots ∧ d = .bool (Ch.has lots fun o => decide (o ∈ ns))
section
variable {P : Program} {w : World} {K : PySem.W.Frag} {mg : Str → Option Value} {base : Heap}
abbrev s_is_number_of_owners : Stmt := top 17
theorem sc_is_number_of_owners : FnScope ["value"] ["value"] (defScope s_is_number_of_owners) := ⟨rfl, rfl, rfl, by decide +kernel, rfl, by decide +kernel, by decide +kernel⟩
theorem ok_is_number_of_owners {f : Addr} {fd : FuncData} (F : Fun K "is_number_of_owners" "is_number_of_owners" s_is_number_of_owners f fd) {t : Tok} (c_MOST_OWNERS : mg "MOST_OWNERS" = some (.int 6 t))
    (D_is_number_from : Def P w K mg base "is_number_from" 2 ["value", "least"] (spP R_from)) : FnOk P w K mg base CX0 3 f fd ["value"] (spP R_noo) := by
  obtain ⟨f_is_number_from, fd_is_number_from, G_is_number_from, b_is_number_from, k_is_number_from, m_is_number_from⟩ := D_is_number_from.ex
  refine F.ok sc_is_number_of_owners (len_spP (fun ds d ⟨i, e, _⟩ => by rw [e]; rfl)) (fun cdv A outer s H vs Q E hr h => ?_)
  obtain ⟨N, ds, d, fr, rs, ⟨i, rfl, i0, i1, rfl⟩, k⟩ := h
  obtain ⟨v, rfl, r⟩ := rps1 rs
  refine ⟨_, pss_one (ps_ret (pe_and (pe_call G_is_number_from (hr.mono (by decide)) rfl m_is_number_from k_is_number_from b_is_number_from .nil pass0 (pa_cons (pv 0) (pa_cons pe_int pa_nil))) (pe_one (pe_cmpR op_le (pv 0) (pe_gi rfl c_MOST_OWNERS) (nomark _))))), ?_⟩
  refine dq_ret ?_ fr k
  refine (de_andV (a := true) (b := true) (de_call (da_cons (de_var rfl r) (da_cons de_int da_nil)) ⟨i, 1, rfl, ⟨by omega, by omega⟩, by rw [decide_eq_true i0]⟩) fun _ => (de_op (de_var rfl r) de_int r2_b).is ?_).is rfl
  rw [decide_eq_true i1]
abbrev s_are_owners : Stmt := top 18
theorem sc_are_owners : FnScope ["many", "value", "owner"] ["many", "value"] (defScope s_are_owners) := ⟨rfl, rfl, rfl, by decide +kernel, rfl, by decide +kernel, by decide +kernel⟩
theorem ok_are_owners {f : Addr} {fd : FuncData} (F : Fun K "are_owners" "are_owners" s_are_owners f fd) (T : Bi mg) (D_is_number_below : Def P w K mg base "is_number_below" 3 ["value", "limit"] (spP R_below))
    (D_is_ascending : Def P w K mg base "is_ascending" 1 ["values"] (spP R_asc)) : FnOk P w K mg base CX0 4 f fd ["many", "value"] (spP R_areo) := by
  obtain ⟨f_is_ascending, fd_is_ascending, G_is_ascending, b_is_ascending, k_is_ascending, m_is_ascending⟩ := D_is_ascending.ex
  obtain ⟨f_is_number_below, fd_is_number_below, G_is_number_below, b_is_number_below, k_is_number_below, m_is_number_below⟩ := D_is_number_below.ex
  refine F.ok sc_are_owners (len_spP (fun ds d ⟨n, ns, e, _⟩ => by rw [e]; rfl)) (fun cdv A outer s H vs Q E hr h => ?_)
  obtain ⟨N, ds, d, fr, rs, ⟨n, ns, rfl, hn, hb, pw, rfl⟩, k⟩ := h
  obtain ⟨v, u, rfl, r1, r2⟩ := rps2 rs
  have hl := asc_len pw hb
  refine ⟨_, pss_cons (ps_if (PW.pt (pw_or (pt_not (pt_truK K (pe_callB call_isK (by rfl) T.isinstance (by decide +kernel) (pa_cons (pv 1) (pa_cons (pe_tyn "tuple" (by rfl) T.tuple (by decide +kernel)) pa_nil))) (fun _ => rfl))) (pw_or1 (pt_not (pt_truK K (pe_callB (cr_allK K rfl) (by rfl) T.all (by decide +kernel) (pa_cons (pe_lc (own := [("owner", 2)]) rfl sc_are_owners.nd (pi_seqK K (pv 1)) (blkOk_by (own := [("owner", 2)]) (N := ["many", "value", "owner"]) (sc := defScope s_are_owners) (by decide +kernel)) (fun _ _ _ _ _ => pg_name (i := 2) sc_are_owners.nd rfl (Or.inl rfl)) (fun _ _ _ _ _ => pts_nil) (fun _ _ _ _ _ => pe_call G_is_number_below (hr.mono (by decide)) rfl m_is_number_below k_is_number_below b_is_number_below .nil pass0 (pa_cons (pv 2) (pa_cons (pv 0) pa_nil)))) pa_nil)) (fun _ => rfl)))))) (pss_one (ps_ret (pe_bl))) pss_nil)
      (pss_one (ps_ret (pe_call G_is_ascending (hr.mono (by decide)) rfl m_is_ascending k_is_ascending b_is_ascending .nil pass0 (pa_cons (pv 1) pa_nil)))), ?_⟩
  refine dq_iff ?_ fr fun H1 s1 => dq_ret ?_ (fr.same s1) fun v H2 s2 r2 => k v H2 (s1.trans s2) r2
  · refine dt_or (a := false) (b := false) (dt_not (a := true) (dt_truB (de_isK (de_var rfl r2)))) fun _ => dt_not (a := true) (dt_truB ((de_allM (g := fun o => decide (0 ≤ o) && decide (o < (n : Int))) (da_cons (de_lc0 (xs := ns) _ (di_seq (de_var rfl r2)) (by omega) fun a ha x N' H' u rx => ?_) da_nil)).is ?_))
    · have ba := hb a ha
      exact de_call (da_cons (de_var rfl rx) (da_cons (de_var rfl (r1.up u)) da_nil)) ⟨a, n, rfl, small_of ba.1 ba.2 hn, rfl⟩
    · congr 1
      rw [List.all_eq_true]
      intro o ho
      have := hb o ho
      simp [this]
  · exact de_call (da_cons (de_var rfl (r2.same s1)) da_nil) ⟨rfl, .inl ⟨ns, rfl, by omega, pw⟩⟩
abbrev s_has_all : Stmt := top 20
theorem sc_has_all : FnScope ["owners", "wanted", "owner"] ["owners", "wanted"] (defScope s_has_all) := ⟨rfl, rfl, rfl, by decide +kernel, rfl, by decide +kernel, by decide +kernel⟩
theorem ok_has_all {f : Addr} {fd : FuncData} (F : Fun K "has_all" "has_all" s_has_all f fd) (T : Bi mg) : FnOk P w K mg base CX0 1 f fd ["owners", "wanted"] (spP R_hasall) := by
  refine F.ok sc_has_all (len_spP (fun ds d ⟨x, ns, ws, e, _⟩ => by rw [e]; rfl)) (fun cdv A outer s H vs Q E hr h => ?_)
  obtain ⟨N, ds, d, fr, rs, ⟨x, ns, ws, rfl, hx, hw, rfl⟩, k⟩ := h
  obtain ⟨v, u, rfl, r1, r2⟩ := rps2 rs
  refine ⟨_, pss_one (ps_ret (pe_callB (cr_allK K rfl) (by rfl) T.all (by decide +kernel) (pa_cons (pe_lc (own := [("owner", 2)]) rfl sc_has_all.nd (pi_seqK K (pv 1)) (blkOk_by (own := [("owner", 2)]) (N := ["owners", "wanted", "owner"]) (sc := defScope s_has_all) (by decide +kernel)) (fun _ _ _ _ _ => pg_name (i := 2) sc_has_all.nd rfl (Or.inl rfl)) (fun _ _ _ _ _ => pts_nil) (fun _ _ _ _ _ => pe_cmpR (op_inK K) (pv 2) (pv 0) rfl)) pa_nil))), ?_⟩
  refine dq_ret ?_ fr k
  exact de_allM (da_cons (de_lc0 (xs := ws) _ (di_seq (de_var rfl r2)) (by omega) fun a ha x N' H' u rx => de_op (de_var rfl rx) (de_var rfl (r1.up u)) (r2_in hx)) da_nil)
abbrev s_has_lot : Stmt := top 21
theorem sc_has_lot : FnScope ["charter", "owners", "lot"] ["charter", "owners"] (defScope s_has_lot) := ⟨rfl, rfl, rfl, by decide +kernel, rfl, by decide +kernel, by decide +kernel⟩
theorem ok_has_lot {f : Addr} {fd : FuncData} (F : Fun K "has_lot" "has_lot" s_has_lot f fd) (T : Bi mg) (D_has_all : Def P w K mg base "has_all" 1 ["owners", "wanted"] (spP R_hasall)) :
    FnOk P w K mg base CX0 2 f fd ["charter", "owners"] (spP R_haslot) := by
  obtain ⟨f_has_all, fd_has_all, G_has_all, b_has_all, k_has_all, m_has_all⟩ := D_has_all.ex
  refine F.ok sc_has_lot (len_spP (fun ds d ⟨many, props, lots, x, ns, e, _⟩ => by rw [e]; rfl)) (fun cdv A outer s H vs Q E hr h => ?_)
  obtain ⟨N, ds, d, fr, rs, ⟨many, props, lots, x, ns, rfl, hx, C, rfl⟩, k⟩ := h
  obtain ⟨v, u, rfl, r1, r2⟩ := rps2 rs
  refine ⟨_, pss_one (ps_ret (pe_callB (cr_anyK K rfl) (by rfl) T.any (by decide +kernel) (pa_cons (pe_lc (own := [("lot", 2)]) rfl sc_has_lot.nd (pi_seqK K (pe_ix (ix_K K) (pv 0) pe_int (fun _ _ => rfl))) (blkOk_by (own := [("lot", 2)]) (N := ["charter", "owners", "lot"]) (sc := defScope s_has_lot) (by decide +kernel)) (fun _ _ _ _ _ => pg_name (i := 2) sc_has_lot.nd rfl (Or.inl rfl)) (fun _ _ _ _ _ => pts_nil) (fun _ _ _ _ _ => pe_call G_has_all (hr.mono (by decide)) rfl m_has_all k_has_all b_has_all .nil pass0 (pa_cons (pv 1) (pa_cons (pv 2) pa_nil)))) pa_nil))), ?_⟩
  refine dq_ret ?_ fr k
  have hl := C.c.llen
  exact de_anyM (da_cons (de_lc0 (xs := lots) _ (di_seq (de_op (de_var rfl r1) de_int (r2_ix (z := tT lots) rfl))) (by omega) fun a ha x N' H' u rx =>
    de_call (da_cons (de_var rfl (r2.up u)) (da_cons (de_var rfl rx) da_nil)) ⟨_, ns, a, rfl, hx, by
      have := asc_len (C.c.one a ha).2.1 (C.c.one a ha).2.2
      have := C.c.m6
      omega, rfl⟩) da_nil)
abbrev s_is_charter : Stmt := top 16
theorem sc_is_charter : FnScope ["value", "many", "proposers", "lots", "lot", "one", "other"] ["value"] (defScope s_is_charter) := ⟨rfl, rfl, rfl, by decide +kernel, rfl, by decide +kernel, by decide +kernel⟩
theorem ok_is_charter {f : Addr} {fd : FuncData} (F : Fun K "is_charter" "is_charter" s_is_charter f fd) (T : Bi mg) (D_is_number_of_owners : Def P w K mg base "is_number_of_owners" 3 ["value"] (spP R_noo))
    (D_are_owners : Def P w K mg base "are_owners" 4 ["many", "value"] (spP R_areo)) (D_is_ascending : Def P w K mg base "is_ascending" 1 ["values"] (spP R_asc)) (D_has_all : Def P w K mg base "has_all" 1 ["owners", "wanted"] (spP R_hasall)) :
    FnOk P w K mg base CX0 5 f fd ["value"] (spP R_isch) := by
  obtain ⟨f_has_all, fd_has_all, G_has_all, b_has_all, k_has_all, m_has_all⟩ := D_has_all.ex
  obtain ⟨f_is_ascending, fd_is_ascending, G_is_ascending, b_is_ascending, k_is_ascending, m_is_ascending⟩ := D_is_ascending.ex
  obtain ⟨f_are_owners, fd_are_owners, G_are_owners, b_are_owners, k_are_owners, m_are_owners⟩ := D_are_owners.ex
  obtain ⟨f_is_number_of_owners, fd_is_number_of_owners, G_is_number_of_owners, b_is_number_of_owners, k_is_number_of_owners, m_is_number_of_owners⟩ := D_is_number_of_owners.ex
  refine F.ok sc_is_charter (len_spP (fun ds d ⟨many, props, lots, e, _⟩ => by rw [e]; rfl)) (fun cdv A outer s H vs Q E hr h => ?_)
  obtain ⟨N, ds, d, fr, rs, ⟨many, props, lots, rfl, C, rfl⟩, k⟩ := h
  obtain ⟨v, rfl, r⟩ := rps1 rs
  have m1 := C.c.m1
  have m6 := C.c.m6
  have hl := C.c.llen
  have lo : ∀ l ∈ lots, l.length ≤ 6 := fun l h => Nat.le_trans (asc_len (C.c.one l h).2.1 (C.c.one l h).2.2) m6
  refine ⟨_, pss_cons (ps_if (PW.pt (pw_or (pt_not (pt_truK K (pe_callB call_isK (by rfl) T.isinstance (by decide +kernel) (pa_cons (pv 0) (pa_cons (pe_tyn "tuple" (by rfl) T.tuple (by decide +kernel)) pa_nil))) (fun _ => rfl))) (pw_or1 (pt_cmpR (op_neK K hr.units) (pe_callB (call_lenK K) (by rfl) T.len (by decide +kernel) (pa_cons (pv 0) pa_nil)) pe_int (nomark _))))) (pss_one (ps_ret (pe_bl))) pss_nil)
      (pss_cons (ps_asg (pv 0) (pg_tupK K (n := 3) rfl (pgs_cons (pg_name (i := 1) sc_is_charter.nd rfl (Or.inr rfl)) (pgs_cons (pg_name (i := 2) sc_is_charter.nd rfl (Or.inl rfl)) (pgs_cons (pg_name (i := 3) sc_is_charter.nd rfl (Or.inr rfl)) pgs_nil)))))
      (pss_cons (ps_if (PW.pt (pw_or (pt_not (pt_truK K (pe_call G_is_number_of_owners (hr.mono (by decide)) rfl m_is_number_of_owners k_is_number_of_owners b_is_number_of_owners .nil pass0 (pa_cons (pv 1) pa_nil)) (fun _ => rfl))) (pw_or (pt_not (pt_truK K (pe_call G_are_owners (hr.mono (by decide)) rfl m_are_owners k_are_owners b_are_owners .nil pass0 (pa_cons (pv 1) (pa_cons (pv 2) pa_nil))) (fun _ => rfl))) (pw_or1 (pt_not (pt_truK K (pv 2) (fun _ => rfl))))))) (pss_one (ps_ret (pe_bl))) pss_nil)
      (pss_cons (ps_if (PW.pt (pw_or (pt_not (pt_truK K (pe_callB call_isK (by rfl) T.isinstance (by decide +kernel) (pa_cons (pv 3) (pa_cons (pe_tyn "tuple" (by rfl) T.tuple (by decide +kernel)) pa_nil))) (fun _ => rfl))) (pw_or1 (pt_not (pt_truK K (pv 3) (fun _ => rfl)))))) (pss_one (ps_ret (pe_bl))) pss_nil)
      (pss_cons (ps_if (PW.pt (pw_or (pt_not (pt_truK K (pe_callB (cr_allK K rfl) (by rfl) T.all (by decide +kernel) (pa_cons (pe_lc (own := [("lot", 4)]) rfl sc_is_charter.nd (pi_seqK K (pv 3)) (blkOk_by (own := [("lot", 4)]) (N := ["value", "many", "proposers", "lots", "lot", "one", "other"]) (sc := defScope s_is_charter) (by decide +kernel)) (fun _ _ _ _ _ => pg_name (i := 4) sc_is_charter.nd rfl (Or.inl rfl)) (fun _ _ _ _ _ => pts_nil) (fun _ _ _ _ _ => pe_and (pe_call G_are_owners (hr.mono (by decide)) rfl m_are_owners k_are_owners b_are_owners .nil pass0 (pa_cons (pv 1) (pa_cons (pv 4) pa_nil))) (pe_one (pe_cmpR op_gt (pe_callB (call_lenK K) (by rfl) T.len (by decide +kernel) (pa_cons (pv 4) pa_nil)) pe_int (nomark _))))) pa_nil)) (fun _ => rfl))) (pw_or1 (pt_not (pt_truK K (pe_call G_is_ascending (hr.mono (by decide)) rfl m_is_ascending k_is_ascending b_is_ascending .nil pass0 (pa_cons (pv 3) pa_nil)) (fun _ => rfl)))))) (pss_one (ps_ret (pe_bl))) pss_nil)
      (pss_one (ps_ret (pe_not (pe_callB (cr_anyK K rfl) (by rfl) T.any (by decide +kernel) (pa_cons (pe_lc2 (own := [("one", 5), ("other", 6)]) (vs1 := [6]) rfl sc_is_charter.nd (pi_seqK K (pv 3)) (blkOk_by (own := [("one", 5), ("other", 6)]) (N := ["value", "many", "proposers", "lots", "lot", "one", "other"]) (sc := defScope s_is_charter) (by decide +kernel)) (by decide) (fun _ _ _ _ _ => pg_name (i := 5) sc_is_charter.nd rfl (Or.inl rfl)) (fun _ _ _ _ _ => pts_nil) (fun _ _ _ _ _ => pi_seqK K (pv 3)) (fun _ _ _ _ _ => pg_name (i := 6) sc_is_charter.nd rfl (Or.inl rfl)) (fun _ _ _ _ _ => pts_one (pt_cmpR (op_neK K hr.units) (pv 5) (pv 6) (nomark _))) (fun _ _ _ _ _ => pe_call G_has_all (hr.mono (by decide)) rfl m_has_all k_has_all b_has_all .nil pass0 (pa_cons (pv 5) (pa_cons (pv 6) pa_nil)))) pa_nil))))))))), ?_⟩
  refine dq_iff ?_ fr fun H1 s1 => ?_
  · exact dt_or (a := false) (b := false) (dt_not (a := true) (dt_truB (de_isK (de_var rfl r)))) fun _ => dt_test (de_op (de_cb (da_cons (de_var rfl r) da_nil) rk_len) de_int r2_neI)
  have f1 := fr.same s1
  have r1 := r.same s1
  refine dq_un3 (de_var rfl r1) f1 fun a b c H1' s1' ra rb rc => ?_
  have f1 := f1.same s1'
  refine dq_iff ?_ f1 fun H2 s2 => ?_
  · refine dt_or (a := false) (b := false) (dt_not (a := true) (dt_truB (de_call (da_cons (de_var rfl ra) da_nil) ⟨many, rfl, by omega, by omega, rfl⟩))) fun _ => dt_or (a := false) (b := false) (dt_not (a := true) (dt_truB
      (de_call (da_cons (de_var rfl ra) (da_cons (de_var rfl rb) da_nil)) ⟨many, props, rfl, by omega, C.c.pin, C.c.pasc, rfl⟩))) fun _ => (dt_not (dt_truS (de_var rfl rb))).is ?_
    have := C.c.pne
    cases props with
    | nil => exact absurd rfl this
    | cons _ _ => rfl
  have f2 := f1.same s2
  refine dq_iff ?_ f2 fun H3 s3 => ?_
  · refine dt_or (a := false) (b := false) (dt_not (a := true) (dt_truB (de_isK (de_var rfl (rc.same s2))))) fun _ => (dt_not (dt_truS (de_var rfl (rc.same s2)))).is ?_
    have := C.c.lne
    cases lots with
    | nil => exact absurd rfl this
    | cons _ _ => rfl
  have f3 := f2.same s3
  have rc3 := (rc.same s2).same s3
  have ra3 := (ra.same s2).same s3
  refine dq_iff ?_ f3 fun H4 s4 => ?_
  · refine dt_or (a := false) (b := false) (dt_not (a := true) (dt_truB ((de_allM (g := fun _ => true) (da_cons (de_lc0 (xs := lots) _ (di_seq (de_var rfl rc3)) (by omega) fun l hl x N' H' u rx => ?_) da_nil)).is (by simp)))) fun _ => dt_not (a := true) (dt_truB
      (de_call (da_cons (de_var rfl rc3) da_nil) ⟨rfl, .inr ⟨lots, rfl, by omega, C.lasc⟩⟩))
    refine (de_andV (a := true) (b := true) (de_call (da_cons (de_var rfl (ra3.up u)) (da_cons (de_var rfl rx) da_nil)) ⟨many, l, rfl, by omega, (C.c.one l hl).2.2, (C.c.one l hl).2.1, rfl⟩) fun _ => (de_op (de_cb (da_cons (de_var rfl rx) da_nil) rk_lenT) de_int r2_b).is ?_).is rfl
    have := List.length_pos_iff.mpr (C.c.one l hl).1
    congr 1
    exact decide_eq_true (by omega)
  have f4 := f3.same s4
  have rc4 := rc3.same s4
  refine dq_ret ?_ f4 fun v H5 s5 r5 => k v H5 (((((s1.trans s1').trans s2).trans s3).trans s4).trans s5) r5
  refine (de_notV (a := false) ?_).is rfl
  have e : (lots.flatMap fun a => (lots.filter fun c => !decide (a = c)).map fun c => PyData.bool (c.all fun o => decide (o ∈ a))) = (lots.flatMap fun a => (lots.filter fun c => !decide (a = c)).map fun c => (c.all fun o => decide (o ∈ a))).map PyData.bool := by
    rw [List.map_flatMap]
    congr 1
    funext a
    rw [List.map_map]; rfl
  refine (de_cb (da_cons ((de_lcc (fun _ => lots) (fun _ c => tI c) (fun a c => !decide (a = c)) (fun a c => .bool (c.all fun o => decide (o ∈ a))) (di_seq (de_var rfl rc4)) ?_ (fun a ha x N' H' u rx => di_seq (de_var rfl (rc4.up u)))
    fun a ha c hc x y N' H' u rx ry => ⟨dt_test (de_op (de_var rfl rx) (de_var rfl ry) r2_neT), fun _ => de_call (da_cons (de_var rfl rx) (da_cons (de_var rfl ry) da_nil)) ⟨_, a, c, rfl, rfl, by have := lo c hc; omega, rfl⟩⟩).is (congrArg PyData.list e)) da_nil) rc_any).is ?_
  · have : (lots.flatMap fun _ => lots).length ≤ 64 * 64 := by
      have key : ∀ l : List (List Int), (l.flatMap fun _ => lots).length = l.length * lots.length := by
        intro l
        induction l with
        | nil => simp
        | cons a l ih => rw [List.flatMap_cons, List.length_append, ih, List.length_cons, Nat.succ_mul, Nat.add_comm]
      rw [key]
      exact Nat.mul_le_mul hl hl
    omega
  · congr 1
    rw [List.any_eq_false]
    intro z hz
    obtain ⟨a, ha, hz⟩ := List.mem_flatMap.mp hz
    obtain ⟨c, hc, rfl⟩ := List.mem_map.mp hz
    obtain ⟨hc, hne⟩ := List.mem_filter.mp hc
    obtain ⟨o, ho, hn⟩ := C.anti a ha c hc (by simpa using hne)
    simp only [id]
    intro h
    rw [List.all_eq_true] at h
    have := h o ho
    simp at this
    exact hn this
end
end Pu

namespace Pu
open PySem PySem.Spec PyProof.Rows L2
/-- the owners whose items are a head -/
def folI (row : List Int) (h : Int) : List Int := (row.zipIdx.filter fun p => decide (p.1 = h)).map fun p => (p.2 : Int)
theorem mem_folI {row : List Int} {h o : Int} : o ∈ folI row h ↔ 0 ≤ o ∧ o < row.length ∧ Ch.at_ row o = h := by
  unfold folI
  rw [List.mem_map]
  constructor
  · rintro ⟨⟨x, i⟩, hm, rfl⟩
    obtain ⟨h1, h2⟩ := List.mem_filter.mp hm
    have h3 := List.mem_zipIdx_iff_getElem?.mp h1
    simp only at h3 h2
    have hl := (List.getElem?_eq_some_iff.mp h3).1
    refine ⟨by omega, by omega, ?_⟩
    unfold Ch.at_
    rw [List.getD_eq_getElem?_getD, Int.toNat_natCast, h3]
    simpa using h2
  · rintro ⟨h0, h1, h2⟩
    have hl : o.toNat < row.length := by omega
    refine ⟨(row[o.toNat], o.toNat), List.mem_filter.mpr ⟨List.mem_zipIdx_iff_getElem?.mpr (List.getElem?_eq_getElem hl), ?_⟩, by simp only; omega⟩
    unfold Ch.at_ at h2
    rw [List.getD_eq_getElem?_getD, List.getElem?_eq_getElem hl, Option.getD_some] at h2
    simp [h2]
theorem has_fol {many : Nat} {props : List Int} {lots : List (List Int)} (C : Ch.Charter many props lots) {row : List Int} (hr : row.length = many) (h : Int) :
    Ch.has lots (fun o => decide (o ∈ folI row h)) = Ch.has lots (fun o => Ch.at_ row o == h) := Ch.has_congr C fun o a b => by
  have e : decide (o ∈ folI row h) = decide (Ch.at_ row o = h) := decide_eq_decide.mpr ⟨fun z => (mem_folI.mp z).2.2, fun z => mem_folI.mpr ⟨a, by omega, z⟩⟩
  rw [e]
  by_cases z : Ch.at_ row o = h <;> simp [z]
def R_fol : List PyData → PyData → Prop := fun ds d => ∃ (row : List Int) (h : Int), ds = [tI row, .int h] ∧ row.length ≤ 1000 ∧ d = lI (folI row h)
def R_heads : List PyData → PyData → Prop := fun ds d => ∃ many props lots, ∃ row : List Int, ds = [chD many props lots, tI row] ∧ Ch2 many props lots ∧ row.length = many ∧ d = tI (Ch.heads props lots row)
section
variable {P : Program} {w : World} {K : PySem.W.Frag} {mg : Str → Option Value} {base : Heap}
abbrev s_check_charter : Stmt := top 19
theorem sc_check_charter : FnScope ["charter"] ["charter"] (defScope s_check_charter) := ⟨rfl, rfl, rfl, by decide +kernel, rfl, by decide +kernel, by decide +kernel⟩
theorem ok_check_charter {f : Addr} {fd : FuncData} (F : Fun K "check_charter" "check_charter" s_check_charter f fd) (D_is_charter : Def P w K mg base "is_charter" 5 ["value"] (spP R_isch)) :
    FnOk P w K mg base CX0 6 f fd ["charter"] (spP R_check) := by
  obtain ⟨f_is_charter, fd_is_charter, G_is_charter, b_is_charter, k_is_charter, m_is_charter⟩ := D_is_charter.ex
  refine F.ok sc_check_charter (len_spP (fun ds d ⟨many, props, lots, e, _⟩ => by rw [e]; rfl)) (fun cdv A outer s H vs Q E hr h => ?_)
  obtain ⟨N, ds, d, fr, rs, ⟨many, props, lots, rfl, C, rfl⟩, k⟩ := h
  obtain ⟨v, rfl, r⟩ := rps1 rs
  refine ⟨_, pss_one (ps_if (pt_not (pt_truK K (pe_call G_is_charter (hr.mono (by decide)) rfl m_is_charter k_is_charter b_is_charter .nil pass0 (pa_cons (pv 0) pa_nil)) (fun _ => rfl))) (pss_one (ps_never)) pss_nil), ?_⟩
  exact dq_if (b := false) (dt_not (a := true) (dt_truB (de_call (da_cons (de_var rfl r) da_nil) ⟨many, props, lots, rfl, C, rfl⟩))) fr (fun h => nomatch h) fun _ H1 s1 => k _ H1 s1 .non
abbrev s_followers : Stmt := top 27
theorem sc_followers : FnScope ["split", "head", "owner", "item"] ["split", "head"] (defScope s_followers) := ⟨rfl, rfl, rfl, by decide +kernel, rfl, by decide +kernel, by decide +kernel⟩
theorem ok_followers {f : Addr} {fd : FuncData} (F : Fun K "followers" "followers" s_followers f fd) (T : Bi mg) : FnOk P w K mg base CX0 1 f fd ["split", "head"] (spP R_fol) := by
  refine F.ok sc_followers (len_spP (fun ds d ⟨row, h, e, _⟩ => by rw [e]; rfl)) (fun cdv A outer s H vs Q E hr h => ?_)
  obtain ⟨N, ds, d, fr, rs, ⟨row, h, rfl, hl, rfl⟩, k⟩ := h
  obtain ⟨v, u, rfl, r1, r2⟩ := rps2 rs
  refine ⟨_, pss_one (ps_ret (pe_lc (own := [("owner", 2), ("item", 3)]) rfl sc_followers.nd (pi_enumTK K (by rfl) T.enumerate (pa_cons (pv 0) pa_nil)) (blkOk_by (own := [("owner", 2), ("item", 3)]) (N := ["split", "head", "owner", "item"]) (sc := defScope s_followers) (by decide +kernel)) (fun _ _ _ _ _ => pg_tupK K (n := 2) rfl (pgs_cons (pg_name (i := 2) sc_followers.nd rfl (Or.inl rfl)) (pgs_cons (pg_name (i := 3) sc_followers.nd rfl (Or.inl rfl)) pgs_nil))) (fun _ _ _ _ _ => pts_one (pt_cmpR (op_eqK K hr.units) (pv 3) (pv 1) (nomark _))) (fun _ _ _ _ _ => pv 2))), ?_⟩
  refine dq_ret ?_ fr k
  have e : enumD (row.map PyData.int) = row.zipIdx.map fun p => .tuple [.int (p.2 : Nat), .int p.1] := by
    unfold enumD
    rw [List.zipIdx_map, List.map_map]; rfl
  have hi := di_enumT (K := K) (da_cons (de_var (i := 0) (σ := L2.start ["split", "head", "owner", "item"] [v, u]) rfl r1) da_nil)
  rw [e] at hi
  refine (de_lcP (xs := row.zipIdx) (fun p => decide (p.1 = h)) (fun p => .int (p.2 : Nat)) hi (by rw [List.length_zipIdx]; omega) fun a ha x y N' H' u' rx ry => ⟨dt_test (de_op (de_var rfl ry) (de_var rfl (r2.up u')) r2_eqI), fun _ => de_var rfl rx⟩).is ?_
  rw [folI, lI, List.map_map]; rfl
abbrev s_heads_signed : Stmt := top 26
theorem sc_heads_signed : FnScope ["charter", "split", "signed", "head"] ["charter", "split"] (defScope s_heads_signed) := ⟨rfl, rfl, rfl, by decide +kernel, rfl, by decide +kernel, by decide +kernel⟩
theorem ok_heads_signed {f : Addr} {fd : FuncData} (F : Fun K "heads_signed" "heads_signed" s_heads_signed f fd) (T : Bi mg) (D_has_lot : Def P w K mg base "has_lot" 2 ["charter", "owners"] (spP R_haslot))
    (D_followers : Def P w K mg base "followers" 1 ["split", "head"] (spP R_fol)) : FnOk P w K mg base CX0 3 f fd ["charter", "split"] (spP R_heads) := by
  obtain ⟨f_has_lot, fd_has_lot, G_has_lot, b_has_lot, k_has_lot, m_has_lot⟩ := D_has_lot.ex
  obtain ⟨f_followers, fd_followers, G_followers, b_followers, k_followers, m_followers⟩ := D_followers.ex
  refine F.ok sc_heads_signed (len_spP (fun ds d ⟨many, props, lots, row, e, _⟩ => by rw [e]; rfl)) (fun cdv A outer s H vs Q E hr h => ?_)
  obtain ⟨N, ds, d, fr, rs, ⟨many, props, lots, row, rfl, C, hrow, rfl⟩, k⟩ := h
  obtain ⟨v, u, rfl, r1, r2⟩ := rps2 rs
  have m6 := C.c.m6
  have hpl := asc_len C.c.pasc C.c.pin
  refine ⟨_, pss_cons (ps_set (i := 2) sc_heads_signed.nd rfl (Or.inl rfl) (pe_lst pa_nil))
      (pss_cons (ps_for PassesOwn.never rfl (pi_seqK K (pe_ix (ix_K K) (pv 0) pe_int (fun _ _ => rfl))) (pg_name (i := 3) sc_heads_signed.nd rfl (Or.inl rfl)) (pss_one (ps_if (pt_truK K (pe_call G_has_lot (hr.mono (by decide)) rfl m_has_lot k_has_lot b_has_lot .nil pass0 (pa_cons (pv 0) (pa_cons (pe_call G_followers (hr.mono (by decide)) rfl m_followers k_followers b_followers .nil pass0 (pa_cons (pv 1) (pa_cons (pv 3) pa_nil))) pa_nil))) (fun _ => rfl)) (pss_one (ps_expr (pe_bm PySem.F.plainAttrs_list PySem.F.slot_list_append PySem.F.type_list_append mt_append (pv 2) (pa_cons (pv 3) pa_nil)))) pss_nil)))
      (pss_one (ps_ret (pe_callTy (call_tupK K) (by rfl) T.tuple (by decide +kernel) (pa_cons (pv 2) pa_nil))))), ?_⟩
  refine dq_new fr fun p H1 hp w1 => ?_
  refine df_forS (N := fun a => N a ∧ a ≠ p) (xs := props) (enc := PyData.int) (di_seq (de_op (de_var rfl (r1.up w1.up)) de_int (r2_ix (z := tI props) rfl))) w1.fr fun H2 s2 => ?_
  have w2 := w1.go s2
  refine ⟨fun i σ' H' => (∃ o, σ' = [some v, some u, some (.ref p), o]) ∧ Up (fun a => N a ∧ a ≠ p) H2 (fun a => N a ∧ a ≠ p) H' ∧ InD N H p H' (((props.take i).filter fun h => Ch.has lots fun o => Ch.at_ row o == h).map PyData.int),
    ⟨⟨_, rfl⟩, Up.refl _ _, w2⟩, fun i σ' H' ⟨_, u, w⟩ => ⟨u, w.fr⟩, ?_, ?_⟩
  · rintro i hi x σ' H' H3 ⟨⟨o, rfl⟩, u3, w3⟩ s3 rx
    have w4 := w3.go s3
    have u4 := u3.same s3
    have tf := take_filter props (fun h => Ch.has lots fun o => Ch.at_ row o == h) hi
    refine dq_if (N := fun a => N a ∧ a ≠ p) (b := Ch.has lots fun o => Ch.at_ row o == props[i]) (dt_truB (de_call (da_cons (de_var rfl (r1.up w4.up)) (da_cons (de_call (da_cons (de_var rfl (r2.up w4.up)) (da_cons (de_var rfl rx) da_nil)) ⟨row, props[i], rfl, by omega, rfl⟩) da_nil))
      ⟨many, props, lots, _, folI row props[i], rfl, rfl, C, by rw [has_fol C.c hrow]⟩)) w4.fr (fun hb H5 s5 => ?_) fun hb H5 s5 => ?_
    · refine dq_app (w4.go s5) hp rfl (de_var rfl (rx.same s5)) ?_ fun H6 w6 u6 => ⟨⟨_, rfl⟩, (u4.same s5).trans u6, ?_⟩
      · rw [List.length_map]
        exact Nat.lt_of_le_of_lt (List.length_filter_le _ _) (by rw [List.length_take]; omega)
      · rw [tf, if_pos hb, List.map_append]
        exact w6
    · refine ⟨⟨_, rfl⟩, u4.same s5, ?_⟩
      rw [tf, if_neg (by rw [hb]; simp), List.append_nil]
      exact w4.go s5
  · rintro σ' H' ⟨⟨o, rfl⟩, u3, w3⟩
    rw [List.take_length] at w3
    exact dq_ret (de_cb (da_cons (de_var rfl (w3.rp hp fr)) da_nil) rk_tup) w3.frN fun v H4 s4 r4 => k v H4 (w3.same.trans s4) r4
end
end Pu

namespace Pu
open PySem PySem.Spec PyProof.Rows L2
def R_rows : List PyData → PyData → Prop := fun ds d => ∃ owners props : List Int, ds = [lI owners, tI props, lI []] ∧ owners.length ≤ 6 ∧ props.length ≤ 6 ∧ d = lT (Ch.rowsC owners props [])
theorem bit_eq (m i : Nat) : (Builtin.bitAnd ((m : Int) / 2 ^ ((i : Nat) : Int).toNat) 1 != 0) = Ch.bitN m i := by
  rw [bitAnd_m1]
  have e : ((m : Int) / 2 ^ ((i : Nat) : Int).toNat) % 2 = ((m / 2 ^ i % 2 : Nat) : Int) := by
    rw [Int.toNat_natCast]; simp
  rw [e]
  unfold Ch.bitN
  have : m / 2 ^ i % 2 = 0 ∨ m / 2 ^ i % 2 = 1 := by omega
  rcases this with h | h <;> rw [h] <;> rfl
section
variable {P : Program} {w : World} {K : PySem.W.Frag} {mg : Str → Option Value} {base : Heap}
abbrev s_rows_of_choices : Stmt := top 29
theorem sc_rows_of_choices : FnScope ["owners", "proposers", "others", "rows", "mask", "heads", "at", "proposer", "some", "owner", "choices", "row", "choice"] ["owners", "proposers", "others"] (defScope s_rows_of_choices) := ⟨rfl, rfl, rfl, by decide +kernel, rfl, by decide +kernel, by decide +kernel⟩
theorem ok_rows_of_choices {f : Addr} {fd : FuncData} (F : Fun K "rows_of_choices" "rows_of_choices" s_rows_of_choices f fd) (T : Bi mg) : FnOk P w K mg base CX0 1 f fd ["owners", "proposers", "others"] (spP R_rows) := by
  refine F.ok sc_rows_of_choices (len_spP (fun ds d ⟨owners, props, e, _⟩ => by rw [e]; rfl)) (fun cdv A outer s H vs Q E hr h => ?_)
  obtain ⟨N, ds, d, fr, rs, ⟨owners, props, rfl, hol, hpl, rfl⟩, k⟩ := h
  obtain ⟨v0, v1, v2, rfl, r0, r1, r2⟩ := rps3 rs
  refine ⟨_, pss_cons (ps_set (i := 3) sc_rows_of_choices.nd rfl (Or.inl rfl) (pe_lst pa_nil))
      (pss_cons (ps_for PassesOwn.never rfl (pi_range1 rfl T.range (pa_cons (pe_op op_shl pe_int (pe_callB (call_lenK K) (by rfl) T.len (by decide +kernel) (pa_cons (pv 1) pa_nil))) pa_nil)) (pg_name (i := 4) sc_rows_of_choices.nd rfl (Or.inr rfl)) (pss_cons (ps_setLc (i := 5) (own := [("at", 6), ("proposer", 7)]) rfl sc_rows_of_choices.nd rfl rfl (sw_true rfl rfl rfl (by decide +kernel)) (pi_enumTK K (by rfl) T.enumerate (pa_cons (pv 1) pa_nil)) (blkOk_by (own := [("at", 6), ("proposer", 7)]) (N := ["owners", "proposers", "others", "rows", "mask", "heads", "at", "proposer", "some", "owner", "choices", "row", "choice"]) (sc := defScope s_rows_of_choices) (by decide +kernel)) (fun _ _ _ _ _ => pg_tupK K (n := 2) rfl (pgs_cons (pg_name (i := 6) sc_rows_of_choices.nd rfl (Or.inl rfl)) (pgs_cons (pg_name (i := 7) sc_rows_of_choices.nd rfl (Or.inl rfl)) pgs_nil))) (fun _ _ _ _ _ => pts_one (pt_truK K (pe_op op_and (pe_op op_shr (pv 4) (pv 6)) pe_int) (fun _ => rfl))) (fun _ _ _ _ _ => pv 7))
      (pss_cons (ps_set (i := 8) sc_rows_of_choices.nd rfl (Or.inl rfl) (pe_lst (pa_cons (pe_tup pa_nil) pa_nil)))
      (pss_cons (ps_for PassesOwn.never rfl (pi_seqK K (pv 0)) (pg_name (i := 9) sc_rows_of_choices.nd rfl (Or.inl rfl)) (pss_cons (ps_set (i := 10) sc_rows_of_choices.nd rfl (Or.inr rfl) (pe_op (op_addK K) (pv 5) (pv 2)))
      (pss_cons (ps_if (pt_cmpR (op_inK K) (pv 9) (pv 5) rfl) (pss_one (ps_set (i := 10) sc_rows_of_choices.nd rfl (Or.inr rfl) (pe_lst (pa_cons (pv 9) pa_nil)))) pss_nil)
      (pss_one (ps_setLc2 (i := 8) (own := [("row", 11), ("choice", 12)]) (vs1 := [12]) rfl sc_rows_of_choices.nd rfl rfl (sw_true rfl rfl rfl (by decide +kernel)) (pi_seqK K (pv 8)) (blkOk_by (own := [("row", 11), ("choice", 12)]) (N := ["owners", "proposers", "others", "rows", "mask", "heads", "at", "proposer", "some", "owner", "choices", "row", "choice"]) (sc := defScope s_rows_of_choices) (by decide +kernel)) (by decide) (fun _ _ _ _ _ => pg_name (i := 11) sc_rows_of_choices.nd rfl (Or.inl rfl)) (fun _ _ _ _ _ => pts_nil) (fun _ _ _ _ _ => pi_seqK K (pv 10)) (fun _ _ _ _ _ => pg_name (i := 12) sc_rows_of_choices.nd rfl (Or.inl rfl)) (fun _ _ _ _ _ => pts_nil) (fun _ _ _ _ _ => pe_op (op_addK K) (pv 11) (pe_tup (pa_cons (pv 12) pa_nil))))))))
      (pss_one (ps_expr (pe_bm PySem.F.plainAttrs_list PySem.F.slot_list_extend PySem.F.type_list_extend mt_extend (pv 3) (pa_cons (pv 8) pa_nil))))))))
      (pss_one (ps_ret (pv 3)))), ?_⟩
  refine dq_new fr fun p H1 hp w1 => ?_
  have eM : (1 * 2 ^ ((props.length : Nat) : Int).toNat : Int).toNat = 2 ^ props.length := by
    rw [Int.one_mul, Int.toNat_natCast]
    have : (2 : Int) ^ props.length = ((2 ^ props.length : Nat) : Int) := by simp
    rw [this, Int.toNat_natCast]
  have hM : 2 ^ props.length ≤ 64 := Nat.pow_le_pow_right (by decide) hpl
  have hMi : (1 * 2 ^ ((props.length : Nat) : Int).toNat : Int) = ((2 ^ props.length : Nat) : Int) := by
    rw [Int.one_mul, Int.toNat_natCast]; simp
  refine df_forS (N := fun a => N a ∧ a ≠ p) (xs := Ch.rng (2 ^ props.length)) (enc := PyData.int) (by
      have := di_rng (N := fun a => N a ∧ a ≠ p) (σ := [some v0, some v1, some v2, some (.ref p), none, none, none, none, none, none, none, none, none]) (H := H1) (ta := tCons (tOp (rI CPow fun i j => .int (i * 2 ^ j.toNat)) (tC (.int 1)) (tCB (rLenK K) (tCons (tVar 1) tNil))) tNil)
        (i := (1 * 2 ^ ((props.length : Nat) : Int).toNat : Int)) (da_cons (de_op de_int (de_cb (da_cons (de_var rfl (r1.up w1.up)) da_nil) rk_lenT) (r2_ic ⟨by omega, by omega, by decide⟩)) da_nil) (by omega) (by omega)
      rwa [eM] at this) w1.fr fun H2 s2 => ?_
  have w2 := w1.go s2
  refine ⟨fun i σ' H' => (∃ o4 o5 o6 o7 o8 o9 o10 o11 o12, σ' = [some v0, some v1, some v2, some (.ref p), o4, o5, o6, o7, o8, o9, o10, o11, o12]) ∧ Up (fun a => N a ∧ a ≠ p) H2 (fun a => N a ∧ a ≠ p) H' ∧
      InD N H p H' (((List.range i).flatMap fun m => owners.foldl (Ch.stepR (Ch.headsM props m) []) [[]]).map tI),
    ⟨⟨_, _, _, _, _, _, _, _, _, rfl⟩, Up.refl _ _, w2⟩, fun i σ' H' ⟨_, u, w⟩ => ⟨u, w.fr⟩, ?_, ?_⟩
  · rintro i hi x σ' H' H3 ⟨⟨o4, o5, o6, o7, o8, o9, o10, o11, o12, rfl⟩, u3, w3⟩ s3 rx
    have hi' : i < 2 ^ props.length := by rw [Ch.rng_len] at hi; exact hi
    have ei : (Ch.rng (2 ^ props.length))[i] = (i : Int) := by
      have := Ch.rng_get hi'
      rw [List.getElem?_eq_getElem hi] at this
      exact Option.some.inj this
    rw [ei] at rx
    have w4 := w3.go s3
    have u4 := u3.same s3
    have e : enumD (props.map PyData.int) = props.zipIdx.map fun p => .tuple [.int (p.2 : Nat), .int p.1] := by
      unfold enumD
      rw [List.zipIdx_map, List.map_map]; rfl
    -- heads = [..]
    refine dq_set (N := fun a => N a ∧ a ≠ p) (d := lI (Ch.headsM props i)) ?_ w4.fr fun v5 H5 s5 r5 => ?_
    · have hi := di_enumT (K := K) (N := fun a => N a ∧ a ≠ p) (H := H3) (da_cons (de_var (i := 1) (σ := [some v0, some v1, some v2, some (.ref p), some x, o5, o6, o7, o8, o9, o10, o11, o12]) rfl (r1.up w4.up)) da_nil)
      rw [e] at hi
      refine (de_lcP (xs := props.zipIdx) (fun q => Ch.bitN i q.2) (fun q => .int q.1) hi (by rw [List.length_zipIdx]; omega) fun a ha x' y N' H' u' rx' ry => ⟨(dt_truI (de_op (de_op (de_var rfl (rx.up u')) (de_var rfl rx') (r2_ic (by omega))) de_int r2_i)).is (bit_eq i a.2), fun _ => de_var rfl ry⟩).is ?_
      rw [Ch.headsM, lI, List.map_map]; rfl
    have w5 := w4.go s5
    have hhl : (Ch.headsM props i).length ≤ 6 := Nat.le_trans (Ch.headsM_len props i) hpl
    -- some = [()]
    refine dq_set (N := fun a => N a ∧ a ≠ p) (d := lT [[]]) (de_lst (da_cons (de_tup da_nil) da_nil)) w5.fr fun v8 H6 s6 r8 => ?_
    have w6 := w5.go s6
    have r5' := r5.same s6
    have rx6 := (rx.same s5).same s6
    refine df_forS (N := fun a => N a ∧ a ≠ p) (xs := owners) (enc := PyData.int) (di_seq (de_var rfl (r0.up w6.up))) w6.fr fun H7 s7 => ?_
    have w7 := w6.go s7
    refine ⟨fun j σ' H' => (∃ z8 z9 z10 z11 z12, σ' = [some v0, some v1, some v2, some (.ref p), some x, some v5, o6, o7, some z8, z9, z10, z11, z12] ∧ Rp (fun a => N a ∧ a ≠ p) H' z8 (lT ((owners.take j).foldl (Ch.stepR (Ch.headsM props i) []) [[]]))) ∧
        Up (fun a => N a ∧ a ≠ p) H7 (fun a => N a ∧ a ≠ p) H' ∧ InD N H p H' (((List.range i).flatMap fun m => owners.foldl (Ch.stepR (Ch.headsM props m) []) [[]]).map tI),
      ⟨⟨_, _, _, _, _, rfl, r8.same s7⟩, Up.refl _ _, w7⟩, fun j σ' H' ⟨_, u, w⟩ => ⟨u, w.fr⟩, ?_, ?_⟩
    · rintro j hj y σ' H8 H9 ⟨⟨z8, z9, z10, z11, z12, rfl, rz⟩, u8, w8⟩ s9 ry
      have w9 := w8.go s9
      have u9 := u8.same s9
      have rz9 := rz.same s9
      have r59 := (r5'.same s7).up u9
      have bl : ((owners.take j).foldl (Ch.stepR (Ch.headsM props i) []) [[]]).length ≤ 46656 := by
        refine Nat.le_trans (Ch.foldR_len (by simpa using hhl) _ _) ?_
        have : 6 ^ (owners.take j).length ≤ 6 ^ 6 := Nat.pow_le_pow_right (by decide) (by rw [List.length_take]; omega)
        simpa using this
      -- behind: some = [row + (choice,) ..]
      have cont : ∀ (v10 : V) (H10 : Hp), Same H9 H10 → Rp (fun a => N a ∧ a ≠ p) H10 v10 (lI (Ch.chc (Ch.headsM props i) [] owners[j])) → ∀ D : Ends,
          (∀ v H', Same H10 H' → Rp (fun a => N a ∧ a ≠ p) H' v (lT ((owners.take (j + 1)).foldl (Ch.stepR (Ch.headsM props i) []) [[]])) → D.nx [some v0, some v1, some v2, some (.ref p), some x, some v5, o6, o7, some v, some y, some v10, z11, z12] H') →
          tAsg (tLc2 (iSeq K (tVar 8)) (gName 11) tYes (iSeq K (tVar 10)) (gName 12) tYes (tOp (rAddU K) (tVar 11) (tTup (tCons (tVar 12) tNil))) [11, 12] [12]) (gName 8) D [some v0, some v1, some v2, some (.ref p), some x, some v5, o6, o7, some z8, some y, some v10, z11, z12] H10 := by
        intro v10 H10 s10 r10 D hD
        refine DE.run (N := fun a => N a ∧ a ≠ p) ((de_lcc (fun _ => Ch.chc (Ch.headsM props i) [] owners[j]) (fun _ c => .int c) (fun _ _ => true) (fun row c => tI (row ++ [c])) (di_seq (de_var rfl (rz9.same s10))) ?_ (fun a ha x' N' H' u' rx' => di_seq (de_var rfl (r10.up u')))
          fun a ha c hc x' y' N' H' u' rx' ry' => ⟨dt_yes, fun _ => (de_op (de_var rfl rx') (de_tup (da_cons (de_var rfl ry') da_nil)) (r2_addT ?_)).is ?_⟩).is ?_) (w9.fr.same s10) fun v H' s' r' => hD v H' s' r'
        · have := Ch.stepR_len (heads := Ch.headsM props i) (others := []) (by simpa using hhl) ((owners.take j).foldl (Ch.stepR (Ch.headsM props i) []) [[]]) owners[j]
          have e : (((owners.take j).foldl (Ch.stepR (Ch.headsM props i) []) [[]]).flatMap fun _ => Ch.chc (Ch.headsM props i) [] owners[j]).length = (Ch.stepR (Ch.headsM props i) [] ((owners.take j).foldl (Ch.stepR (Ch.headsM props i) []) [[]]) owners[j]).length := by
            unfold Ch.stepR
            rw [List.length_flatMap, List.length_flatMap]
            congr 1
            refine List.map_congr_left fun a _ => ?_
            rw [List.length_map]
          omega
        · have := Ch.foldR_row (owners.take j) [[]] 0 (fun r hr => by rw [List.mem_singleton.mp hr]; rfl) a ha
          rw [List.length_map, this, List.length_take]
          simp; omega
        · simp
        · rw [take_last owners hj, List.foldl_append, List.foldl_cons, List.foldl_nil]
          show PyData.list _ = PyData.list _
          rw [Ch.stepR, List.map_flatMap]
          congr 2
          funext a
          rw [List.map_map, List.filter_eq_self.mpr (fun _ _ => rfl)]
          rfl
      -- choices = heads + others
      refine dq_set (N := fun a => N a ∧ a ≠ p) (d := lI (Ch.headsM props i)) ((de_op (de_var rfl r59) (de_var rfl (r2.up w9.up)) (r2_addL (by simp; omega))).is (by simp)) w9.fr fun v10 H10 s10 r10 => ?_
      have rx10 := ((rx6.same s7).up u9).same s10
      refine dq_ifN (N := fun a => N a ∧ a ≠ p) (b := decide (owners[j] ∈ Ch.headsM props i)) (dt_test (de_op (de_var rfl (ry.same s10)) (de_var rfl (r59.same s10)) r2_in)) (w9.fr.same s10) (fun hb H11 s11 => ?_) fun hb H11 s11 => ?_
      · refine DE.run (N := fun a => N a ∧ a ≠ p) (d := lI (Ch.chc (Ch.headsM props i) [] owners[j])) ((de_lst (da_cons (de_var rfl ((ry.same s10).same s11)) da_nil)).is ?_) ((w9.fr.same s10).same s11) fun v' H12 s12 r12 => ?_
        · unfold Ch.chc
          rw [if_pos (by simpa using hb)]; rfl
        · refine cont v' H12 ((s10.trans s11).trans s12) r12 _ fun v H' s' r' => ?_
          have sa := ((s10.trans s11).trans s12).trans s'
          exact ⟨⟨_, _, _, _, _, rfl, r'⟩, u9.same sa, w9.go sa⟩
      · refine cont v10 H11 (s10.trans s11) (?_ : Rp _ H11 v10 _) _ fun v H' s' r' => ?_
        · unfold Ch.chc
          rw [if_neg (by simpa using hb), List.append_nil]
          exact r10.same s11
        · have sa := (s10.trans s11).trans s'
          exact ⟨⟨_, _, _, _, _, rfl, r'⟩, u9.same sa, w9.go sa⟩
    · rintro σ' H8 ⟨⟨z8, z9, z10, z11, z12, rfl, rz⟩, u8, w8⟩
      rw [List.take_length] at rz
      have bl : (owners.foldl (Ch.stepR (Ch.headsM props i) []) [[]]).length ≤ 46656 := by
        refine Nat.le_trans (Ch.foldR_len (by simpa using hhl) _ _) ?_
        have : 6 ^ owners.length ≤ 6 ^ 6 := Nat.pow_le_pow_right (by decide) hol
        simpa using this
      have bt : ∀ n, ((List.range n).flatMap fun m => owners.foldl (Ch.stepR (Ch.headsM props m) []) [[]]).length ≤ n * 46656 := by
        intro n
        induction n with
        | zero => simp
        | succ n ih =>
          rw [List.range_succ, List.flatMap_append, List.length_append, List.flatMap_cons, List.flatMap_nil, List.append_nil]
          have : (owners.foldl (Ch.stepR (Ch.headsM props n) []) [[]]).length ≤ 46656 := by
            refine Nat.le_trans (Ch.foldR_len (by simpa using Nat.le_trans (Ch.headsM_len props n) hpl) _ _) ?_
            have : 6 ^ owners.length ≤ 6 ^ 6 := Nat.pow_le_pow_right (by decide) hol
            simpa using this
          omega
      have bi := bt i
      refine dq_ext w8 hp rfl rfl rz (by rw [List.length_map, List.length_map]; omega) fun H9 w9 u9 => ⟨⟨_, _, _, _, _, _, _, _, _, rfl⟩, ?_, ?_⟩
      · have q1 := ((u4.same s5).same s6).same s7
        exact (q1.trans u8).trans u9
      · rw [List.range_succ, List.flatMap_append, List.map_append, List.flatMap_cons, List.flatMap_nil, List.append_nil]
        exact w9
  · rintro σ' H' ⟨⟨o4, o5, o6, o7, o8, o9, o10, o11, o12, rfl⟩, u3, w3⟩
    rw [Ch.rng_len] at w3
    exact dq_ret (de_var rfl (w3.rp hp fr)) w3.frN fun v H4 s4 r4 => k v H4 (w3.same.trans s4) r4
end
end Pu

namespace Pu
open PySem PySem.Spec PyProof.Rows L2
/-- the splits of a charter as the program tells them -/
def spl (many : Nat) (props : List Int) : List (List Int) := srtL (Ch.rowsC (Ch.rng many) props [])
def R_spl : List PyData → PyData → Prop := fun ds d => ∃ many props lots, ds = [chD many props lots] ∧ Ch2 many props lots ∧ d = lT (spl many props)
def tornOf (many : Nat) (props : List Int) (lots : List (List Int)) : Option (List Int) := (spl many props).find? fun row => !decide ((Ch.heads props lots row).length = 1)
def R_torn : List PyData → PyData → Prop := fun ds d => ∃ many props lots, ds = [chD many props lots] ∧ Ch2 many props lots ∧ d = match tornOf many props lots with
  | some row => tI row
  | none => .none
def dcdOf (many : Nat) (props : List Int) (lots : List (List Int)) : List Int := (Ch.rng many).filter fun o => (spl many props).all fun row => decide (Ch.heads props lots row = [Ch.at_ row o])
def R_dcd : List PyData → PyData → Prop := fun ds d => ∃ many props lots, ds = [chD many props lots] ∧ Ch2 many props lots ∧ d = tI (dcdOf many props lots)
section
variable {many : Nat} {props : List Int} {lots : List (List Int)}
theorem mem_spl (C : Ch.Charter many props lots) {row : List Int} : row ∈ spl many props ↔ Ch.Split many props row := by
  rw [spl, (srtL_perm _).mem_iff, Ch.mem_rows C]
theorem spl_len (C : Ch.Charter many props lots) : (spl many props).length ≤ 5000000 := by
  rw [spl, (srtL_perm _).length_eq, Ch.rowsC]
  have hpl : props.length ≤ 6 := Nat.le_trans (asc_len C.pasc C.pin) C.m6
  have bt : ∀ n, ((List.range n).flatMap fun m => (Ch.rng many).foldl (Ch.stepR (Ch.headsM props m) []) [[]]).length ≤ n * 46656 := by
    intro n
    induction n with
    | zero => simp
    | succ n ih =>
      rw [List.range_succ, List.flatMap_append, List.length_append, List.flatMap_cons, List.flatMap_nil, List.append_nil]
      have : ((Ch.rng many).foldl (Ch.stepR (Ch.headsM props n) []) [[]]).length ≤ 46656 := by
        refine Nat.le_trans (Ch.foldR_len (by simpa using Nat.le_trans (Ch.headsM_len props n) hpl) _ _) ?_
        have : 6 ^ (Ch.rng many).length ≤ 6 ^ 6 := Nat.pow_le_pow_right (by decide) (by rw [Ch.rng_len]; exact C.m6)
        simpa using this
      omega
  have := bt (2 ^ props.length)
  have hM : 2 ^ props.length ≤ 64 := Nat.pow_le_pow_right (by decide) hpl
  omega
end
section
variable {P : Program} {w : World} {K : PySem.W.Frag} {mg : Str → Option Value} {base : Heap}
abbrev s_splits_of : Stmt := top 28
theorem sc_splits_of : FnScope ["charter", "many", "proposers", "_"] ["charter"] (defScope s_splits_of) := ⟨rfl, rfl, rfl, by decide +kernel, rfl, by decide +kernel, by decide +kernel⟩
theorem ok_splits_of {f : Addr} {fd : FuncData} (F : Fun K "splits_of" "splits_of" s_splits_of f fd) (T : Bi mg) (D_rows_of_choices : Def P w K mg base "rows_of_choices" 1 ["owners", "proposers", "others"] (spP R_rows)) :
    FnOk P w K mg base CX0 2 f fd ["charter"] (spP R_spl) := by
  obtain ⟨f_rows_of_choices, fd_rows_of_choices, G_rows_of_choices, b_rows_of_choices, k_rows_of_choices, m_rows_of_choices⟩ := D_rows_of_choices.ex
  refine F.ok sc_splits_of (len_spP (fun ds d ⟨many, props, lots, e, _⟩ => by rw [e]; rfl)) (fun cdv A outer s H vs Q E hr h => ?_)
  obtain ⟨N, ds, d, fr, rs, ⟨many, props, lots, rfl, C, rfl⟩, k⟩ := h
  obtain ⟨v, rfl, r⟩ := rps1 rs
  have m6 := C.c.m6
  refine ⟨_, pss_cons (ps_asg (pv 0) (pg_tupK K (n := 3) rfl (pgs_cons (pg_name (i := 1) sc_splits_of.nd rfl (Or.inl rfl)) (pgs_cons (pg_name (i := 2) sc_splits_of.nd rfl (Or.inl rfl)) (pgs_cons (pg_name (i := 3) sc_splits_of.nd rfl (Or.inl rfl)) pgs_nil)))))
      (pss_one (ps_ret (pe_callB (cr_sortLK K) (by rfl) T.sorted (by decide +kernel) (pa_cons (pe_call G_rows_of_choices (hr.mono (by decide)) rfl m_rows_of_choices k_rows_of_choices b_rows_of_choices .nil pass0 (pa_cons (pe_listRg rfl (by rfl) T.list (prg_1 (by rfl) T.range (pv 1))) (pa_cons (pv 2) (pa_cons (pe_lst pa_nil) pa_nil)))) pa_nil)))), ?_⟩
  refine dq_un3 (de_var rfl r) fr fun a b c H1 s1 ra rb rc => ?_
  refine dq_ret (de_cb (da_cons (de_call (da_cons (de_listRg (de_var rfl ra) (by omega) (by omega)) (da_cons (de_var rfl rb) (da_cons (de_lst da_nil) da_nil))) ⟨Ch.rng many, props, by rw [Int.toNat_natCast]; rfl, by rw [Ch.rng_len]; exact m6, Nat.le_trans (asc_len C.c.pasc C.c.pin) m6, rfl⟩) da_nil)
    (rc_sortL fun ns hn => ?_)) (fr.same s1) fun v H2 s2 r2 => k v H2 (s1.trans s2) r2
  have S := (Ch.mem_rows C.c).mp hn
  have m1 := C.c.m1
  rintro rfl
  have := S.len
  simp at this
  omega
abbrev s_torn_split : Stmt := top 30
theorem sc_torn_split : FnScope ["charter", "split"] ["charter"] (defScope s_torn_split) := ⟨rfl, rfl, rfl, by decide +kernel, rfl, by decide +kernel, by decide +kernel⟩
theorem ok_torn_split {f : Addr} {fd : FuncData} (F : Fun K "torn_split" "torn_split" s_torn_split f fd) (T : Bi mg) (D_check_charter : Def P w K mg base "check_charter" 6 ["charter"] (spP R_check))
    (D_splits_of : Def P w K mg base "splits_of" 2 ["charter"] (spP R_spl)) (D_heads_signed : Def P w K mg base "heads_signed" 3 ["charter", "split"] (spP R_heads)) : FnOk P w K mg base CX0 7 f fd ["charter"] (spP R_torn) := by
  obtain ⟨f_splits_of, fd_splits_of, G_splits_of, b_splits_of, k_splits_of, m_splits_of⟩ := D_splits_of.ex
  obtain ⟨f_heads_signed, fd_heads_signed, G_heads_signed, b_heads_signed, k_heads_signed, m_heads_signed⟩ := D_heads_signed.ex
  obtain ⟨f_check_charter, fd_check_charter, G_check_charter, b_check_charter, k_check_charter, m_check_charter⟩ := D_check_charter.ex
  refine F.ok sc_torn_split (len_spP (fun ds d ⟨many, props, lots, e, _⟩ => by rw [e]; rfl)) (fun cdv A outer s H vs Q E hr h => ?_)
  obtain ⟨N, ds, d, fr, rs, ⟨many, props, lots, rfl, C, rfl⟩, k⟩ := h
  obtain ⟨v, rfl, r⟩ := rps1 rs
  refine ⟨_, pss_cons (ps_expr (pe_call G_check_charter (hr.mono (by decide)) rfl m_check_charter k_check_charter b_check_charter .nil pass0 (pa_cons (pv 0) pa_nil)))
      (pss_cons (ps_for PassesOwn.never rfl (pi_seqK K (pe_call G_splits_of (hr.mono (by decide)) rfl m_splits_of k_splits_of b_splits_of .nil pass0 (pa_cons (pv 0) pa_nil))) (pg_name (i := 1) sc_torn_split.nd rfl (Or.inl rfl)) (pss_one (ps_if (pt_cmpR (op_neK K hr.units) (pe_callB (call_lenK K) (by rfl) T.len (by decide +kernel) (pa_cons (pe_call G_heads_signed (hr.mono (by decide)) rfl m_heads_signed k_heads_signed b_heads_signed .nil pass0 (pa_cons (pv 0) (pa_cons (pv 1) pa_nil))) pa_nil)) pe_int (nomark _)) (pss_one (ps_ret (pv 1))) pss_nil)))
      (pss_one (ps_ret (pe_non)))), ?_⟩
  refine dq_drop (de_call (da_cons (de_var rfl r) da_nil) ⟨many, props, lots, rfl, C, rfl⟩) fr fun H1 s1 => ?_
  refine df_forS (N := N) (xs := spl many props) (enc := tI) (di_seq (de_call (da_cons (de_var rfl (r.same s1)) da_nil) ⟨many, props, lots, rfl, C, rfl⟩)) (fr.same s1) fun H2 s2 => ?_
  refine ⟨fun i σ' H' => (∃ o, σ' = [some v, o]) ∧ Same H2 H' ∧ ∀ j (hj : j < (spl many props).length), j < i → (Ch.heads props lots (spl many props)[j]).length = 1,
    ⟨⟨_, rfl⟩, Same.refl _, fun j _ h => absurd h (Nat.not_lt_zero j)⟩, fun i σ' H' ⟨_, s, _⟩ => ⟨Up.of s, ((fr.same s1).same s2).same s⟩, ?_, ?_⟩
  · rintro i hi x σ' H' H3 ⟨⟨o, rfl⟩, s3, hb⟩ s4 rx
    have sa := ((s1.trans s2).trans s3).trans s4
    have Sp := (mem_spl C.c).mp (List.getElem_mem hi)
    refine dq_if (N := N) (b := !decide (((Ch.heads props lots (spl many props)[i]).length : Int) = 1)) (dt_test (de_op (de_cb (da_cons (de_call (da_cons (de_var rfl (r.same sa)) (da_cons (de_var rfl rx) da_nil)) ⟨many, props, lots, _, rfl, C, Sp.len, rfl⟩) da_nil) rk_lenT) de_int r2_neI)) (fr.same sa)
      (fun hc H5 s5 => ?_) fun hc H5 s5 => ⟨⟨_, rfl⟩, (s3.trans s4).trans s5, fun j hj hji => ?_⟩
    · refine dq_ret (de_var rfl (rx.same s5)) ((fr.same sa).same s5) fun v' H6 s6 r6 => k v' H6 ((sa.trans s5).trans s6) ?_
      have e : tornOf many props lots = some (spl many props)[i] := by
        rw [tornOf, List.find?_eq_some_iff_getElem]
        refine ⟨by simp at hc; simp; omega, i, hi, rfl, fun j hj => ?_⟩
        have := hb j (by omega) hj
        simp [this]
      rw [e]
      exact r6
    · by_cases e : j = i
      · subst e
        simp at hc
        omega
      · exact hb j hj (by omega)
  · rintro σ' H' ⟨⟨o, rfl⟩, s3, hb⟩
    refine dq_ret de_non (((fr.same s1).same s2).same s3) fun v' H6 s6 r6 => k v' H6 (((s1.trans s2).trans s3).trans s6) ?_
    have e : tornOf many props lots = none := by
      rw [tornOf, List.find?_eq_none]
      intro row hrow
      obtain ⟨j, hj, rfl⟩ := List.getElem_of_mem hrow
      simp [hb j hj hj]
    rw [e]
    exact r6
end
end Pu

namespace Ch
/-- all sets of the owners below n -/
def sets : Nat → List (List Int)
  | 0 => [[]]
  | n + 1 => sets n ++ (sets n).map fun part => part ++ [(n : Int)]
theorem sets_len : ∀ n, (sets n).length = 2 ^ n
  | 0 => rfl
  | n + 1 => by rw [sets, List.length_append, List.length_map, sets_len n, Nat.pow_succ]; omega
theorem sets_one : ∀ n, ∀ p ∈ sets n, p.Pairwise (· < ·) ∧ ∀ o ∈ p, 0 ≤ o ∧ o < n
  | 0, p, h => by
    rw [sets, List.mem_singleton] at h
    subst h
    exact ⟨List.Pairwise.nil, fun o h => nomatch h⟩
  | n + 1, p, h => by
    rw [sets, List.mem_append] at h
    rcases h with h | h
    · obtain ⟨h1, h2⟩ := sets_one n p h
      exact ⟨h1, fun o ho => by have := h2 o ho; omega⟩
    · obtain ⟨q, hq, rfl⟩ := List.mem_map.mp h
      obtain ⟨h1, h2⟩ := sets_one n q hq
      refine ⟨List.pairwise_append.mpr ⟨h1, List.pairwise_singleton _ _, fun a ha b hb => ?_⟩, fun o ho => ?_⟩
      · rw [List.mem_singleton.mp hb]; exact (h2 a ha).2
      · rcases List.mem_append.mp ho with ho | ho
        · have := h2 o ho; omega
        · rw [List.mem_singleton.mp ho]; omega
theorem sets_le {n : Nat} (h : n ≤ 6) : (sets n).length ≤ 64 := by
  rw [sets_len]
  exact Nat.pow_le_pow_right (by decide) h
theorem sets_in {n : Nat} (h : n ≤ 6) {p : List Int} (hp : p ∈ sets n) : p.length ≤ 6 := by
  obtain ⟨h1, h2⟩ := sets_one n p hp
  have nd : p.Nodup := h1.imp fun h => Int.ne_of_lt h
  have := List.Nodup.length_le_of_subset nd (l₂ := rng n) fun x hx => mem_rng.mpr (h2 x hx)
  rw [rng_len] at this
  omega
end Ch
namespace Pu
open PySem PySem.Spec PyProof.Rows L2
def R_sets : List PyData → PyData → Prop := fun ds d => ∃ n : Nat, ds = [.int (n : Int)] ∧ n ≤ 6 ∧ d = lT (Ch.sets n)
def R_in : List PyData → PyData → Prop := fun ds d => ∃ (x y : PyData) (ps ws : List Int), ds = [x, y] ∧ itemsD x = some (ps.map PyData.int) ∧ itemsD y = some (ws.map PyData.int) ∧ ps.length ≤ 1000 ∧ d = .bool (ps.all fun o => decide (o ∈ ws))
def R_hasL : List PyData → PyData → Prop := fun ds d => ∃ (x y : PyData) (lots : List (List Int)) (ws : List Int), ds = [x, y] ∧ itemsD x = some (lots.map tI) ∧ itemsD y = some (ws.map PyData.int) ∧ lots.length ≤ 1000 ∧ (∀ l ∈ lots, l.length ≤ 1000) ∧
  d = .bool (Ch.has lots fun o => decide (o ∈ ws))
/-- those that have all of no other one -/
def leastOf (parts : List (List Int)) : List (List Int) := (usrtL parts).filter fun part => !parts.any fun other => !decide (other = part) && other.all fun o => decide (o ∈ part)
def R_least : List PyData → PyData → Prop := fun ds d => ∃ parts : List (List Int), ds = [lT parts] ∧ parts.length < 64 ∧ (∀ p ∈ parts, p ≠ [] ∧ p.length ≤ 1000) ∧ d = tT (leastOf parts)
def blkI (split : List Int) (h : Int) : List Int := (Ch.rng split.length).filter fun o => decide (Ch.at_ split o = h)
def R_block : List PyData → PyData → Prop := fun ds d => ∃ (split : List Int) (h : Int), ds = [tI split, .int h] ∧ split.length ≤ 1000 ∧ d = lI (blkI split h)
theorem not_any_all (ps ws : List Int) : (!ps.any fun o => !decide (o ∈ ws)) = ps.all fun o => decide (o ∈ ws) := by
  induction ps with
  | nil => rfl
  | cons p r ih => simp only [List.all_cons, List.any_cons, Bool.not_or, Bool.not_not, ih]
section
variable {P : Program} {w : World} {K : PySem.W.Frag} {mg : Str → Option Value} {base : Heap}
abbrev s_L_sh_sets : Stmt := top 42
theorem sc_L_sh_sets : FnScope ["many", "found", "owner", "part"] ["many"] (defScope s_L_sh_sets) := ⟨rfl, rfl, rfl, by decide +kernel, rfl, by decide +kernel, by decide +kernel⟩
theorem ok_sets {f : Addr} {fd : FuncData} (F : Fun K "_law_sh_sets" "_law_sh_sets" s_L_sh_sets f fd) (T : Bi mg) : FnOk P w K mg base CX0 1 f fd ["many"] (spP R_sets) := by
  refine F.ok sc_L_sh_sets (len_spP (fun ds d ⟨n, e, _⟩ => by rw [e]; rfl)) (fun cdv A outer s H vs Q E hr h => ?_)
  obtain ⟨N, ds, d, fr, rs, ⟨n, rfl, hn, rfl⟩, k⟩ := h
  obtain ⟨v, rfl, r⟩ := rps1 rs
  refine ⟨_, pss_cons (ps_set (i := 1) sc_L_sh_sets.nd rfl (Or.inl rfl) (pe_lst (pa_cons (pe_tup pa_nil) pa_nil)))
      (pss_cons (ps_for PassesOwn.never rfl (pi_range1 rfl T.range (pa_cons (pv 0) pa_nil)) (pg_name (i := 2) sc_L_sh_sets.nd rfl (Or.inr rfl)) (pss_one (ps_set (i := 1) sc_L_sh_sets.nd rfl (Or.inl rfl) (pe_op (op_addK K) (pv 1) (pe_lc (own := [("part", 3)]) rfl sc_L_sh_sets.nd (pi_seqK K (pv 1)) (blkOk_by (own := [("part", 3)]) (N := ["many", "found", "owner", "part"]) (sc := defScope s_L_sh_sets) (by decide +kernel)) (fun _ _ _ _ _ => pg_name (i := 3) sc_L_sh_sets.nd rfl (Or.inl rfl)) (fun _ _ _ _ _ => pts_nil) (fun _ _ _ _ _ => pe_op (op_addK K) (pv 3) (pe_tup (pa_cons (pv 2) pa_nil))))))))
      (pss_one (ps_ret (pv 1)))), ?_⟩
  refine dq_set (d := lT (Ch.sets 0)) (de_lst (da_cons (de_tup da_nil) da_nil)) fr fun v1 H1 s1 r1 => ?_
  have f1 := fr.same s1
  refine df_forS (N := N) (xs := Ch.rng n) (enc := PyData.int) (by
    have := di_rng (N := N) (σ := [some v, some v1, none, none]) (H := H1) (i := (n : Int)) (da_cons (de_var (i := 0) rfl (r.same s1)) da_nil) (by omega) (by omega)
    rwa [Int.toNat_natCast] at this) f1 fun H2 s2 => ?_
  refine ⟨fun i σ' H' => (∃ z1 z2 z3, σ' = [some v, some z1, z2, z3] ∧ Rp N H' z1 (lT (Ch.sets i))) ∧ Same H2 H', ⟨⟨_, _, _, rfl, r1.same s2⟩, Same.refl _⟩, fun i σ' H' ⟨_, s3⟩ => ⟨Up.of s3, (f1.same s2).same s3⟩, ?_, ?_⟩
  · rintro i hi x σ' H' H3 ⟨⟨z1, z2, z3, rfl, rz⟩, s3⟩ s4 rx
    have hi' : i < n := by rw [Ch.rng_len] at hi; exact hi
    have ei : (Ch.rng n)[i] = (i : Int) := by
      have := Ch.rng_get hi'
      rw [List.getElem?_eq_getElem hi] at this
      exact Option.some.inj this
    rw [ei] at rx
    have sl := Ch.sets_le (n := i) (by omega)
    refine DE.run (N := N) (d := lT (Ch.sets (i + 1))) ((de_op (de_var rfl (rz.same s4)) (de_lc0 (xs := Ch.sets i) (fun part => tI (part ++ [(i : Int)])) (di_seq (de_var rfl (rz.same s4))) (by omega) fun a ha x' N' H'' u rx' => (de_op (de_var rfl rx') (de_tup (da_cons (de_var rfl (rx.up u)) da_nil)) (r2_addT ?_)).is ?_) (r2_addL ?_)).is ?_)
      (((f1.same s2).same s3).same s4) fun v' H5 s5 r5 => ⟨⟨_, _, _, rfl, r5⟩, (s3.trans s4).trans s5⟩
    · have := Ch.sets_in (n := i) (by omega) ha
      simp; omega
    · simp
    · simp; omega
    · rw [Ch.sets, lT, List.map_append, List.map_map]; rfl
  · rintro σ' H' ⟨⟨z1, z2, z3, rfl, rz⟩, s3⟩
    rw [Ch.rng_len] at rz
    exact dq_ret (de_var rfl rz) ((f1.same s2).same s3) fun v' H5 s5 r5 => k v' H5 (((s1.trans s2).trans s3).trans s5) r5
abbrev s_L_sh_in : Stmt := top 43
theorem sc_L_sh_in : FnScope ["part", "whole", "owner"] ["part", "whole"] (defScope s_L_sh_in) := ⟨rfl, rfl, rfl, by decide +kernel, rfl, by decide +kernel, by decide +kernel⟩
theorem ok_in {f : Addr} {fd : FuncData} (F : Fun K "_law_sh_in" "_law_sh_in" s_L_sh_in f fd) : FnOk P w K mg base CX0 1 f fd ["part", "whole"] (spP R_in) := by
  refine F.ok sc_L_sh_in (len_spP (fun ds d ⟨x, y, ps, ws, e, _⟩ => by rw [e]; rfl)) (fun cdv A outer s H vs Q E hr h => ?_)
  obtain ⟨N, ds, d, fr, rs, ⟨x, y, ps, ws, rfl, hx, hy, hl, rfl⟩, k⟩ := h
  obtain ⟨v, u, rfl, r1, r2⟩ := rps2 rs
  refine ⟨_, pss_one (ps_ret (pe_cmpR (op_eqK K hr.units) (pe_lc (own := [("owner", 2)]) rfl sc_L_sh_in.nd (pi_seqK K (pv 0)) (blkOk_by (own := [("owner", 2)]) (N := ["part", "whole", "owner"]) (sc := defScope s_L_sh_in) (by decide +kernel)) (fun _ _ _ _ _ => pg_name (i := 2) sc_L_sh_in.nd rfl (Or.inl rfl)) (fun _ _ _ _ _ => pts_one (pt_cmpR (op_ninK K) (pv 2) (pv 1) rfl)) (fun _ _ _ _ _ => pe_int)) (pe_lst pa_nil) (nomark _))), ?_⟩
  refine dq_ret ((de_op (de_lc (xs := ps) (fun o => !decide (o ∈ ws)) (fun _ => .int 1) (di_seq (de_var rfl r1) hx) (by omega) fun a ha x' N' H' u' rx => ⟨dt_test (de_op (de_var rfl rx) (de_var rfl (r2.up u')) (r2_nin hy)), fun _ => de_int⟩) (de_lst da_nil) r2_none).is ?_) fr k
  rw [filter_empty, not_any_all]
abbrev s_L_sh_has : Stmt := top 44
theorem sc_L_sh_has : FnScope ["lots", "owners", "lot"] ["lots", "owners"] (defScope s_L_sh_has) := ⟨rfl, rfl, rfl, by decide +kernel, rfl, by decide +kernel, by decide +kernel⟩
theorem ok_hasL {f : Addr} {fd : FuncData} (F : Fun K "_law_sh_has" "_law_sh_has" s_L_sh_has f fd) (D_L_sh_in : Def P w K mg base "_law_sh_in" 1 ["part", "whole"] (spP R_in)) : FnOk P w K mg base CX0 2 f fd ["lots", "owners"] (spP R_hasL) := by
  obtain ⟨f_L_sh_in, fd_L_sh_in, G_L_sh_in, b_L_sh_in, k_L_sh_in, m_L_sh_in⟩ := D_L_sh_in.ex
  refine F.ok sc_L_sh_has (len_spP (fun ds d ⟨x, y, ps, ws, e, _⟩ => by rw [e]; rfl)) (fun cdv A outer s H vs Q E hr h => ?_)
  obtain ⟨N, ds, d, fr, rs, ⟨x, y, lots, ws, rfl, hx, hy, hl, hll, rfl⟩, k⟩ := h
  obtain ⟨v, u, rfl, r1, r2⟩ := rps2 rs
  refine ⟨_, pss_one (ps_ret (pe_cmpR (op_neK K hr.units) (pe_lc (own := [("lot", 2)]) rfl sc_L_sh_has.nd (pi_seqK K (pv 0)) (blkOk_by (own := [("lot", 2)]) (N := ["lots", "owners", "lot"]) (sc := defScope s_L_sh_has) (by decide +kernel)) (fun _ _ _ _ _ => pg_name (i := 2) sc_L_sh_has.nd rfl (Or.inl rfl)) (fun _ _ _ _ _ => pts_one (pt_truK K (pe_call G_L_sh_in (hr.mono (by decide)) rfl m_L_sh_in k_L_sh_in b_L_sh_in .nil pass0 (pa_cons (pv 2) (pa_cons (pv 1) pa_nil))) (fun _ => rfl))) (fun _ _ _ _ _ => pe_int)) (pe_lst pa_nil) (nomark _))), ?_⟩
  refine dq_ret ((de_op (de_lc (xs := lots) (fun lot => lot.all fun o => decide (o ∈ ws)) (fun _ => .int 1) (di_seq (de_var rfl r1) hx) (by omega) fun a ha x' N' H' u' rx => ⟨dt_truB (de_call (da_cons (de_var rfl rx) (da_cons (de_var rfl (r2.up u')) da_nil)) ⟨_, _, a, ws, rfl, rfl, hy, hll a ha, rfl⟩), fun _ => de_int⟩) (de_lst da_nil) r2_some).is ?_) fr k
  rw [filter_empty, Bool.not_not]; rfl
abbrev s_L_sh_least : Stmt := top 45
theorem sc_L_sh_least : FnScope ["parts", "found", "part", "other"] ["parts"] (defScope s_L_sh_least) := ⟨rfl, rfl, rfl, by decide +kernel, rfl, by decide +kernel, by decide +kernel⟩
theorem ok_least {f : Addr} {fd : FuncData} (F : Fun K "_law_sh_least" "_law_sh_least" s_L_sh_least f fd) (T : Bi mg) (D_L_sh_in : Def P w K mg base "_law_sh_in" 1 ["part", "whole"] (spP R_in)) : FnOk P w K mg base CX0 2 f fd ["parts"] (spP R_least) := by
  obtain ⟨f_L_sh_in, fd_L_sh_in, G_L_sh_in, b_L_sh_in, k_L_sh_in, m_L_sh_in⟩ := D_L_sh_in.ex
  refine F.ok sc_L_sh_least (len_spP (fun ds d ⟨parts, e, _⟩ => by rw [e]; rfl)) (fun cdv A outer s H vs Q E hr h => ?_)
  obtain ⟨N, ds, d, fr, rs, ⟨parts, rfl, hl, hp, rfl⟩, k⟩ := h
  obtain ⟨v, rfl, r⟩ := rps1 rs
  refine ⟨_, pss_cons (ps_set (i := 1) sc_L_sh_least.nd rfl (Or.inl rfl) (pe_lst pa_nil))
      (pss_cons (ps_for PassesOwn.never rfl (pi_seqK K (pe_callB (cr_sortSK K P w rfl) (by rfl) T.sorted (by decide +kernel) (pa_cons (pe_callTy (cr_setOK K P w rfl hr.units) (by rfl) T.set (by decide +kernel) (pa_cons (pv 0) pa_nil)) pa_nil))) (pg_name (i := 2) sc_L_sh_least.nd rfl (Or.inr rfl)) (pss_one (ps_if (pt_cmpR (op_eqK K hr.units) (pe_lc (own := [("other", 3)]) rfl sc_L_sh_least.nd (pi_seqK K (pv 0)) (blkOk_by (own := [("other", 3)]) (N := ["parts", "found", "part", "other"]) (sc := defScope s_L_sh_least) (by decide +kernel)) (fun _ _ _ _ _ => pg_name (i := 3) sc_L_sh_least.nd rfl (Or.inl rfl)) (fun _ _ _ _ _ => pts_one (PW.pt (pw_and (pt_cmpR (op_neK K hr.units) (pv 3) (pv 2) (nomark _)) (pw_and1 (pt_truK K (pe_call G_L_sh_in (hr.mono (by decide)) rfl m_L_sh_in k_L_sh_in b_L_sh_in .nil pass0 (pa_cons (pv 3) (pa_cons (pv 2) pa_nil))) (fun _ => rfl)))))) (fun _ _ _ _ _ => pe_int)) (pe_lst pa_nil) (nomark _)) (pss_one (ps_expr (pe_bm PySem.F.plainAttrs_list PySem.F.slot_list_append PySem.F.type_list_append mt_append (pv 1) (pa_cons (pv 2) pa_nil)))) pss_nil)))
      (pss_one (ps_ret (pe_callTy (call_tupK K) (by rfl) T.tuple (by decide +kernel) (pa_cons (pv 1) pa_nil))))), ?_⟩
  have ul : (usrtL parts).length ≤ 64 := by
    have nd : (usrtL parts).Nodup := (usrtL_pw parts).imp fun h e => by subst e; have := NtL.lex_asym _ _ h; rw [h] at this; cases this
    have := List.Nodup.length_le_of_subset nd (l₂ := parts) fun x hx => mem_usrtL.mp hx
    omega
  refine dq_new fr fun p H1 hp1 w1 => ?_
  refine df_forS (N := fun a => N a ∧ a ≠ p) (xs := usrtL parts) (enc := tI) (di_seq (de_usrtL (de_var rfl (r.up w1.up)) hl fun ns hn => (hp ns hn).1)) w1.fr fun H2 s2 => ?_
  have w2 := w1.go s2
  refine ⟨fun i σ' H' => (∃ z2 z3, σ' = [some v, some (.ref p), z2, z3]) ∧ Up (fun a => N a ∧ a ≠ p) H2 (fun a => N a ∧ a ≠ p) H' ∧ InD N H p H' ((((usrtL parts).take i).filter fun part => !parts.any fun other => !decide (other = part) && other.all fun o => decide (o ∈ part)).map tI),
    ⟨⟨_, _, rfl⟩, Up.refl _ _, w2⟩, fun i σ' H' ⟨_, u, w⟩ => ⟨u, w.fr⟩, ?_, ?_⟩
  · rintro i hi x σ' H' H3 ⟨⟨z2, z3, rfl⟩, u3, w3⟩ s3 rx
    have w4 := w3.go s3
    have u4 := u3.same s3
    have tf := take_filter (usrtL parts) (fun part => !parts.any fun other => !decide (other = part) && other.all fun o => decide (o ∈ part)) hi
    refine dq_if (N := fun a => N a ∧ a ≠ p) (b := !parts.any fun other => !decide (other = (usrtL parts)[i]) && other.all fun o => decide (o ∈ (usrtL parts)[i])) ((dt_test (de_op (de_lc (xs := parts) (fun other => !decide (other = (usrtL parts)[i]) && other.all fun o => decide (o ∈ (usrtL parts)[i])) (fun _ => .int 1) (di_seq (de_var rfl (r.up w4.up))) (by omega)
        fun a ha x' N' H'' u' rx' => ⟨dt_and (dt_test (de_op (de_var rfl rx') (de_var rfl (rx.up u')) r2_neT)) fun _ => dt_truB (de_call (da_cons (de_var rfl rx') (da_cons (de_var rfl (rx.up u')) da_nil)) ⟨_, _, a, (usrtL parts)[i], rfl, rfl, rfl, (hp a ha).2, rfl⟩), fun _ => de_int⟩) (de_lst da_nil) r2_none)).is (filter_empty _ _)) w4.fr
      (fun hb H5 s5 => ?_) fun hb H5 s5 => ?_
    · refine dq_app (w4.go s5) hp1 rfl (de_var rfl (rx.same s5)) ?_ fun H6 w6 u6 => ⟨⟨_, _, rfl⟩, (u4.same s5).trans u6, ?_⟩
      · rw [List.length_map]
        exact Nat.lt_of_le_of_lt (List.length_filter_le _ _) (by rw [List.length_take]; omega)
      · rw [tf, if_pos hb, List.map_append]
        exact w6
    · refine ⟨⟨_, _, rfl⟩, u4.same s5, ?_⟩
      rw [tf, if_neg (by rw [hb]; simp), List.append_nil]
      exact w4.go s5
  · rintro σ' H' ⟨⟨z2, z3, rfl⟩, u3, w3⟩
    rw [List.take_length] at w3
    exact dq_ret (de_cb (da_cons (de_var rfl (w3.rp hp1 fr)) da_nil) rk_tup) w3.frN fun v H4 s4 r4 => k v H4 (w3.same.trans s4) r4
abbrev s_L_sh_block : Stmt := top 50
theorem sc_L_sh_block : FnScope ["split", "head", "owner"] ["split", "head"] (defScope s_L_sh_block) := ⟨rfl, rfl, rfl, by decide +kernel, rfl, by decide +kernel, by decide +kernel⟩
theorem ok_block {f : Addr} {fd : FuncData} (F : Fun K "_law_sh_block" "_law_sh_block" s_L_sh_block f fd) (T : Bi mg) : FnOk P w K mg base CX0 1 f fd ["split", "head"] (spP R_block) := by
  refine F.ok sc_L_sh_block (len_spP (fun ds d ⟨row, h, e, _⟩ => by rw [e]; rfl)) (fun cdv A outer s H vs Q E hr h => ?_)
  obtain ⟨N, ds, d, fr, rs, ⟨row, h, rfl, hl, rfl⟩, k⟩ := h
  obtain ⟨v, u, rfl, r1, r2⟩ := rps2 rs
  refine ⟨_, pss_one (ps_ret (pe_lc (own := [("owner", 2)]) rfl sc_L_sh_block.nd (pi_range1 rfl T.range (pa_cons (pe_callB (call_lenK K) (by rfl) T.len (by decide +kernel) (pa_cons (pv 0) pa_nil)) pa_nil)) (blkOk_by (own := [("owner", 2)]) (N := ["split", "head", "owner"]) (sc := defScope s_L_sh_block) (by decide +kernel)) (fun _ _ _ _ _ => pg_name (i := 2) sc_L_sh_block.nd rfl (Or.inl rfl)) (fun _ _ _ _ _ => pts_one (pt_cmpR (op_eqK K hr.units) (pe_ix (ix_K K) (pv 0) (pv 2) (fun _ _ => rfl)) (pv 1) (nomark _))) (fun _ _ _ _ _ => pv 2))), ?_⟩
  refine dq_ret (de_lc (xs := Ch.rng row.length) (enc := PyData.int) (fun o => decide (Ch.at_ row o = h)) (fun o => .int o) ?_ (by rw [Ch.rng_len]; omega) fun o ho x N' H' u' rx => ⟨dt_test (de_op (de_op (de_var rfl (r1.up u')) (de_var rfl rx) (r2_ix (atI_i (Ch.mem_rng.mp ho).1 ?_))) (de_var rfl (r2.up u')) r2_eqI), fun _ => de_var rfl rx⟩) fr k
  · have := di_rng (N := N) (H := H) (i := (row.length : Int)) (σ := L2.start ["split", "head", "owner"] [v, u]) (da_cons (de_cb (da_cons (de_var (i := 0) rfl r1) da_nil) (rk_lenT (K := K))) da_nil) (by omega) (by omega)
    rwa [Int.toNat_natCast] at this
  · have b := Ch.mem_rng.mp ho
    rw [List.getElem?_map]
    unfold Ch.at_
    rw [List.getD_eq_getElem?_getD, List.getElem?_eq_getElem (by omega)]; rfl
end
end Pu

namespace Ch
theorem filter_own {o : Int} : ∀ {l : List Int}, l.Nodup → o ∈ l → l.filter (fun h => decide (h = o)) = [o]
  | [], _, h => nomatch h
  | a :: l, n, h => by
    rw [List.nodup_cons] at n
    by_cases e : a = o
    · subst e
      rw [List.filter_cons, if_pos (by simp)]
      congr 1
      rw [List.filter_eq_nil_iff]
      intro x hx
      simp
      rintro rfl
      exact n.1 hx
    · rw [List.filter_cons, if_neg (by simpa using e)]
      exact filter_own n.2 ((List.mem_cons.mp h).resolve_left fun e' => e e'.symm)
theorem chc_filter {heads : List Int} (n : heads.Nodup) (o : Int) : heads.filter (fun h => !decide (o ∈ heads) || decide (h = o)) = chc heads [] o := by
  unfold chc
  by_cases h : o ∈ heads
  · rw [if_pos h]
    simp only [h, decide_true, Bool.not_true, Bool.false_or]
    exact filter_own n h
  · rw [if_neg h, List.append_nil]
    simp [h]
theorem sets_all : ∀ (n : Nat) (p : List Int), p.Pairwise (· < ·) → (∀ o ∈ p, 0 ≤ o ∧ o < n) → p ∈ sets n
  | 0, p, h, b => by
    cases p with
    | nil => exact List.mem_singleton.mpr rfl
    | cons a r => have := b a (List.mem_cons_self ..); omega
  | n + 1, p, h, b => by
    rw [sets, List.mem_append]
    rcases List.eq_nil_or_concat p with rfl | ⟨q, a, rfl⟩
    · exact .inl (sets_all n [] h fun o ho => nomatch ho)
    · rw [List.concat_eq_append] at h b ⊢
      have h' := List.pairwise_append.mp h
      have ba := b a (by simp)
      by_cases e : a = n
      · subst e
        exact .inr (List.mem_map.mpr ⟨q, sets_all n q h'.1 fun o ho => ⟨(b o (by simp [ho])).1, h'.2.2 o ho n (by simp)⟩, rfl⟩)
      · refine .inl (sets_all n _ h fun o ho => ⟨(b o ho).1, ?_⟩)
        rcases List.mem_append.mp ho with ho | ho
        · have := h'.2.2 o ho a (by simp); omega
        · rw [List.mem_singleton.mp ho]; omega
theorem sets_hd : ∀ n, ∃ r, sets n = [] :: r ∧ ∀ p ∈ r, p ≠ []
  | 0 => ⟨[], rfl, fun p h => nomatch h⟩
  | n + 1 => by
    obtain ⟨r, e, h⟩ := sets_hd n
    refine ⟨r ++ (sets n).map (fun part => part ++ [(n : Int)]), by rw [sets, e]; rfl, fun p hp => ?_⟩
    rcases List.mem_append.mp hp with hp | hp
    · exact h p hp
    · obtain ⟨q, _, rfl⟩ := List.mem_map.mp hp
      simp
theorem mem_drop {n : Nat} {p : List Int} : p ∈ (sets n).drop 1 ↔ p ∈ sets n ∧ p ≠ [] := by
  obtain ⟨r, e, h⟩ := sets_hd n
  rw [e]
  simp only [List.drop_succ_cons, List.drop_zero, List.mem_cons]
  constructor
  · intro hp; exact ⟨.inr hp, h p hp⟩
  · rintro ⟨rfl | hp, ne⟩
    · exact absurd rfl ne
    · exact hp
open Pu in
/-- the rows whose heads are just these -/
def rowsH (many : Nat) (heads : List Int) : List (List Int) := ((rng many).foldl (stepR heads []) [[]]).filter fun row => decide (usrtI row = heads)
def rowsL (many : Nat) (props : List Int) : List (List Int) := ((sets many).drop 1).flatMap fun heads => if heads.all (fun o => decide (o ∈ props)) = true then rowsH many heads else []
open Pu in
theorem usrtI_eq {a b : List Int} (h : a.Pairwise (· < ·)) (g : b.Pairwise (· < ·)) (m : ∀ k, k ∈ a ↔ k ∈ b) : a = b := by
  rw [usrtI_uniq h (ns := b) m]
  exact (usrtI_uniq g (ns := b) fun k => Iff.rfl).symm
section
variable {many : Nat} {props : List Int} {lots : List (List Int)}
open Pu in
theorem mem_rowsL (C : Charter many props lots) {row : List Int} : row ∈ rowsL many props ↔ Split many props row := by
  unfold rowsL
  rw [List.mem_flatMap]
  constructor
  · rintro ⟨heads, hh, hr⟩
    split at hr
    · rename_i ha
      rw [List.all_eq_true] at ha
      obtain ⟨h1, h2⟩ := List.mem_filter.mp hr
      have h2 := of_decide_eq_true h2
      obtain ⟨h3, h4⟩ := (mem_foldR many row).mp h1
      have key : ∀ h ∈ row, h ∈ heads := fun h hh => by rw [← h2]; exact mem_usrtI.mpr hh
      refine ⟨h3, fun h hh => by simpa using ha h (key h hh), fun h hh => ?_⟩
      have hp : h ∈ props := by simpa using ha h (key h hh)
      have b := C.pin h hp
      obtain ⟨c, e, q⟩ := h4 h.toNat (by omega)
      have e1 : ((h.toNat : Nat) : Int) = h := by omega
      rw [e1] at q
      unfold chc at q
      rw [if_pos (key h hh), List.mem_singleton] at q
      have := at_get e
      rw [e1] at this
      rw [this, q]
    · cases hr
  · intro S
    have hin : ∀ o ∈ row, 0 ≤ o ∧ o < many := fun o ho => C.pin o (S.ins o ho)
    have m1 := C.m1
    have sl := S.len
    refine ⟨usrtI row, mem_drop.mpr ⟨sets_all many _ (usrtI_pw row) fun o ho => hin o (mem_usrtI.mp ho), fun e => ?_⟩, ?_⟩
    · have : row[0] ∈ usrtI row := mem_usrtI.mpr (List.getElem_mem (by omega))
      rw [e] at this; cases this
    · rw [if_pos (by rw [List.all_eq_true]; exact fun o ho => by simpa using S.ins o (mem_usrtI.mp ho))]
      refine List.mem_filter.mpr ⟨(mem_foldR many row).mpr ⟨S.len, fun i hi => ⟨row[i]'(by omega), List.getElem?_eq_getElem (by omega), ?_⟩⟩, by simp⟩
      unfold chc
      split
      · rename_i h
        have := S.own i (mem_usrtI.mp h)
        rw [at_get (List.getElem?_eq_getElem (by omega))] at this
        rw [this]; simp
      · rw [List.append_nil]
        exact mem_usrtI.mpr (List.getElem_mem _)
open Pu in
theorem heads_eq (C : Charter many props lots) {row : List Int} (S : Split many props row) : ((usrtI row).filter fun h => has lots fun o => decide (o ∈ blkI row h)) = heads props lots row := by
  have sl := S.len
  have e : ∀ h, (has lots fun o => decide (o ∈ blkI row h)) = has lots fun o => at_ row o == h := fun h => has_congr C fun o a b => by
    rw [Bool.eq_iff_iff]
    simp only [decide_eq_true_eq, beq_iff_eq, blkI, List.mem_filter, mem_rng]
    constructor
    · exact fun h => h.2
    · exact fun h => ⟨⟨a, by omega⟩, h⟩
  refine usrtI_eq ((usrtI_pw row).filter _) (C.pasc.filter _) fun k => ?_
  rw [List.mem_filter, heads, List.mem_filter, e, mem_usrtI]
  constructor
  · exact fun h => ⟨S.ins k h.1, h.2⟩
  · rintro ⟨_, h⟩
    refine ⟨?_, h⟩
    by_cases hk : k ∈ row
    · exact hk
    · rw [has_none C] at h
      · cases h
      · intro o a b
        cases e : at_ row o == k with
        | false => rfl
        | true =>
          exact absurd (by rw [← eq_of_beq e]; exact at_mem a (by omega)) hk
/-- just one of two proposals is signed, as the law reckons it -/
def parted (many : Nat) (p q : Int) (lots : List (List Int)) : Bool :=
  !((sets many).any fun part => (part.all fun o => decide (o ∈ (rng many).filter fun o => !decide (o = p ∨ o = q))) &&
    ((has lots fun o => decide (o ∈ part ++ [p])) == (has lots fun o => decide (o ∈ ((rng many).filter fun o => !decide (o = p ∨ o = q)).filter (fun o => !decide (o ∈ part)) ++ [q]))))
theorem two_iff {p q : Int} (C : Charter many [p, q] lots) : parted many p q lots = true ↔ Sure many [p, q] lots := by
  have hp := C.pin p (by simp)
  have hq := C.pin q (by simp)
  have hpq : p ≠ q := by have := C.pasc; simp at this; omega
  have key : ∀ part : List Int, (∀ o ∈ part, 0 ≤ o ∧ o < many ∧ o ≠ p ∧ o ≠ q) →
      (has lots fun o => decide (o ∈ ((rng many).filter fun o => !decide (o = p ∨ o = q)).filter (fun o => !decide (o ∈ part)) ++ [q])) = has lots fun o => !decide (o ∈ part ++ [p]) := fun part hpart => has_congr C fun o a b => by
    rw [Bool.eq_iff_iff]
    simp only [decide_eq_true_eq, List.mem_append, List.mem_filter, mem_rng, List.mem_singleton, Bool.not_eq_true', decide_eq_false_iff_not, not_or]
    constructor
    · rintro (⟨⟨_, h1⟩, h2⟩ | rfl)
      · exact ⟨h2, h1.1⟩
      · exact ⟨fun h => (hpart o h).2.2.2 rfl, fun e => hpq e.symm⟩
    · rintro ⟨h1, h2⟩
      by_cases e : o = q
      · exact .inr e
      · exact .inl ⟨⟨⟨a, b⟩, h2, e⟩, h1⟩
  have inr' : ∀ part : List Int, (part.all fun o => decide (o ∈ (rng many).filter fun o => !decide (o = p ∨ o = q))) = true ↔ ∀ o ∈ part, 0 ≤ o ∧ o < many ∧ o ≠ p ∧ o ≠ q := fun part => by
    simp only [List.all_eq_true, decide_eq_true_eq, List.mem_filter, mem_rng, Bool.not_eq_true', decide_eq_false_iff_not, not_or]
    constructor
    · exact fun h o ho => ⟨(h o ho).1.1, (h o ho).1.2, (h o ho).2.1, (h o ho).2.2⟩
    · exact fun h o ho => ⟨⟨(h o ho).1, (h o ho).2.1⟩, (h o ho).2.2.1, (h o ho).2.2.2⟩
  have pa : parted many p q lots = true ↔ ∀ part ∈ sets many, (∀ o ∈ part, 0 ≤ o ∧ o < many ∧ o ≠ p ∧ o ≠ q) → (has lots fun o => decide (o ∈ part ++ [p])) ≠ has lots fun o => !decide (o ∈ part ++ [p]) := by
    unfold parted
    rw [Bool.not_eq_true', List.any_eq_false]
    constructor
    · intro h part hs hb e
      refine h part hs ?_
      rw [Bool.and_eq_true, beq_iff_eq]
      exact ⟨(inr' part).mpr hb, by rw [key part hb]; exact e⟩
    · intro h part hs hb
      rw [Bool.and_eq_true, beq_iff_eq] at hb
      have b := (inr' part).mp hb.1
      exact h part hs b (by rw [hb.2]; exact key part b)
  rw [pa]
  constructor
  · intro h row S
    have sl := S.len
    have at2 : ∀ o : Int, 0 ≤ o → o < many → at_ row o = p ∨ at_ row o = q := fun o a b => by simpa using S.ins _ (at_mem a (by omega : o < row.length))
    have hd : heads [p, q] lots row = (if (has lots fun o => at_ row o == p) = true then [p] else []) ++ (if (has lots fun o => at_ row o == q) = true then [q] else []) := by
      unfold heads
      rw [List.filter_cons, List.filter_cons, List.filter_nil]
      split <;> split <;> rfl
    have nq : (has lots fun o => at_ row o == q) = has lots fun o => !(at_ row o == p) := has_congr C fun o a b => by
      rcases at2 o a b with e | e <;> rw [e] <;> simp [hpq, Ne.symm hpq]
    have ne : (has lots fun o => at_ row o == p) ≠ has lots fun o => !(at_ row o == p) := by
      by_cases pin : p ∈ row
      · by_cases qin : q ∈ row
        · have := h (((rng many).filter fun o => !decide (o = p)).filter fun o => at_ row o == p) (sets_all many _ ((by
            have : (rng many).Pairwise (· < ·) := by
              unfold rng
              rw [List.pairwise_map]
              exact List.pairwise_lt_range.imp fun h => Int.ofNat_lt.mpr h
            exact (this.filter _).filter _)) fun o ho => by
              have := (List.mem_filter.mp (List.mem_filter.mp ho).1).1
              exact mem_rng.mp this) fun o ho => by
            obtain ⟨h1, h2⟩ := List.mem_filter.mp ho
            obtain ⟨h3, h4⟩ := List.mem_filter.mp h1
            have b := mem_rng.mp h3
            refine ⟨b.1, b.2, by simpa using h4, ?_⟩
            rintro rfl
            rw [S.own o qin] at h2
            exact hpq (eq_of_beq h2).symm
          have e1 : (has lots fun o => decide (o ∈ (((rng many).filter fun o => !decide (o = p)).filter fun o => at_ row o == p) ++ [p])) = has lots fun o => at_ row o == p := has_congr C fun o a b => by
            rw [Bool.eq_iff_iff]
            simp only [decide_eq_true_eq, List.mem_append, List.mem_filter, mem_rng, List.mem_singleton, Bool.not_eq_true', decide_eq_false_iff_not, beq_iff_eq]
            constructor
            · rintro (h | rfl)
              · exact h.2
              · exact S.own o pin
            · intro h
              by_cases e : o = p
              · exact .inr e
              · exact .inl ⟨⟨⟨a, b⟩, e⟩, h⟩
          have e2 : (has lots fun o => !decide (o ∈ (((rng many).filter fun o => !decide (o = p)).filter fun o => at_ row o == p) ++ [p])) = has lots fun o => !(at_ row o == p) := has_congr C fun o a b => by
            congr 1
            rw [Bool.eq_iff_iff]
            simp only [decide_eq_true_eq, List.mem_append, List.mem_filter, mem_rng, List.mem_singleton, Bool.not_eq_true', decide_eq_false_iff_not, beq_iff_eq]
            constructor
            · rintro (h | rfl)
              · exact h.2
              · exact S.own o pin
            · intro h
              by_cases e : o = p
              · exact .inr e
              · exact .inl ⟨⟨⟨a, b⟩, e⟩, h⟩
          rw [e1, e2] at this
          exact this
        · have all : ∀ o : Int, 0 ≤ o → o < many → at_ row o = p := fun o a b => (at2 o a b).resolve_right fun e => qin (by rw [← e]; exact at_mem a (by omega))
          rw [has_all C fun o a b => by rw [all o a b]; simp, has_none C fun o a b => by rw [all o a b]; simp]
          simp
      · have all : ∀ o : Int, 0 ≤ o → o < many → at_ row o = q := fun o a b => (at2 o a b).resolve_left fun e => pin (by rw [← e]; exact at_mem a (by omega))
        have qp : (q == p) = false := by simpa using fun e => hpq e.symm
        rw [has_none C (S := fun o => at_ row o == p) fun o a b => by rw [all o a b, qp], has_all C fun o a b => by rw [all o a b, qp]; rfl]
        simp
    rw [hd, nq]
    cases e1 : (has lots fun o => at_ row o == p) <;> cases e2 : (has lots fun o => !(at_ row o == p)) <;> rw [e1, e2] at ne <;> simp at ne ⊢
  · intro U part hs hb e
    have := two C U (S := fun o => decide (o ∈ part ++ [p])) (p := p) (q := q) (by simp) (by simp) (by simp) (by
      simp only [decide_eq_false_iff_not, List.mem_append, List.mem_singleton, not_or]
      exact ⟨fun h => (hb q h).2.2.2 rfl, fun e => hpq e.symm⟩)
    rw [this] at e
    cases h : (has lots fun o => decide (o ∈ part ++ [p])) <;> rw [h] at e <;> cases e
end
end Ch

namespace Pu
open PySem PySem.Spec PyProof.Rows L2
theorem cutD_from (ds : List PyData) (i : Nat) : cutD ds (some (i : Int)) none = ds.drop i := by
  unfold cutD
  have e : HT.sIx ds.length 0 (some (i : Int)) = min i ds.length := by
    show (if (i : Int) < 0 then ((i : Int) + (ds.length : Int)).toNat else min (i : Int).toNat ds.length) = _
    rw [if_neg (by omega), Int.toNat_natCast]
  have e2 : HT.sIx ds.length ds.length none = ds.length := rfl
  rw [e, e2, List.take_of_length_le (by rw [List.length_drop]; omega)]
  rcases Nat.le_total i ds.length with h | h
  · rw [Nat.min_eq_left h]
  · rw [Nat.min_eq_right h, List.drop_length, List.drop_of_length_le h]
theorem cutD_to (ds : List PyData) (i : Nat) : cutD ds none (some (i : Int)) = ds.take i := by
  unfold cutD
  have e : HT.sIx ds.length ds.length (some (i : Int)) = min i ds.length := by
    show (if (i : Int) < 0 then ((i : Int) + (ds.length : Int)).toNat else min (i : Int).toNat ds.length) = _
    rw [if_neg (by omega), Int.toNat_natCast]
  have e2 : HT.sIx ds.length 0 none = 0 := rfl
  rw [e, e2, List.drop_zero, Nat.sub_zero]
  rcases Nat.le_total i ds.length with h | h
  · rw [Nat.min_eq_left h]
  · rw [Nat.min_eq_right h, List.take_length, List.take_of_length_le h]
theorem cutD_last (ds : List PyData) : cutD ds (some (-1)) none = ds.drop (ds.length - 1) := by
  unfold cutD
  have e : HT.sIx ds.length 0 (some (-1)) = ds.length - 1 := by
    show ((-1 : Int) + (ds.length : Int)).toNat = _
    omega
  have e2 : HT.sIx ds.length ds.length none = ds.length := rfl
  rw [e, e2, List.take_of_length_le (by rw [List.length_drop]; omega)]
abbrev fillR (heads : List Int) (os : List Int) : List (List Int) := os.foldl (Ch.stepR heads []) [[]]
theorem fill_len {heads os : List Int} (h : heads.length ≤ 6) (ho : os.length ≤ 6) : (fillR heads os).length ≤ 46656 := by
  refine Nat.le_trans (Ch.foldR_len (by simpa using h) _ _) ?_
  have : 6 ^ os.length ≤ 6 ^ 6 := Nat.pow_le_pow_right (by decide) ho
  simpa using this
abbrev rowsF (many : Nat) (props heads : List Int) : List (List Int) := if heads.all (fun o => decide (o ∈ props)) = true then Ch.rowsH many heads else []
theorem rowsF_len {many : Nat} {props heads : List Int} (m6 : many ≤ 6) (h : heads.length ≤ 6) : (rowsF many props heads).length ≤ 46656 := by
  unfold rowsF
  split
  · exact Nat.le_trans (List.length_filter_le _ _) (fill_len h (by rw [Ch.rng_len]; exact m6))
  · simp
theorem rowsF_lens {many : Nat} {props : List Int} (m6 : many ≤ 6) : ∀ hs : List (List Int), (∀ h ∈ hs, h.length ≤ 6) → (hs.flatMap (rowsF many props)).length ≤ hs.length * 46656
  | [], _ => by simp
  | h :: hs, b => by
    rw [List.flatMap_cons, List.length_append, List.length_cons]
    have := rowsF_lens (props := props) m6 hs fun x hx => b x (List.mem_cons_of_mem _ hx)
    have := rowsF_len (props := props) m6 (b h (List.mem_cons_self ..))
    omega
def splL (many : Nat) (props : List Int) : List (List Int) := srtL (Ch.rowsL many props)
theorem mem_splL {many : Nat} {props : List Int} {lots : List (List Int)} (C : Ch.Charter many props lots) {row : List Int} : row ∈ splL many props ↔ Ch.Split many props row := by
  rw [splL, (srtL_perm _).mem_iff, Ch.mem_rowsL C]
theorem drop_len {many : Nat} (m6 : many ≤ 6) : ((Ch.sets many).drop 1).length ≤ 63 := by
  have := Ch.sets_le m6
  rw [List.length_drop]; omega
theorem splL_len {many : Nat} {props : List Int} (m6 : many ≤ 6) : (splL many props).length ≤ 5000000 := by
  rw [splL, (srtL_perm _).length_eq]
  have h1 := drop_len m6
  have : (Ch.rowsL many props).length ≤ ((Ch.sets many).drop 1).length * 46656 := rowsF_lens m6 _ fun h hh => Ch.sets_in m6 (List.mem_of_mem_drop hh)
  omega
def R_splL : List PyData → PyData → Prop := fun ds d => ∃ many props lots, ds = [chD many props lots] ∧ Ch.Charter many props lots ∧ d = lT (splL many props)
def R_headsL : List PyData → PyData → Prop := fun ds d => ∃ many props lots, ∃ row : List Int, ds = [chD many props lots, tI row] ∧ Ch2 many props lots ∧ Ch.Split many props row ∧ d = tI (Ch.heads props lots row)
def R_parted : List PyData → PyData → Prop := fun ds d => ∃ (many : Nat) (p q : Int) (lots : List (List Int)), ds = [chD many [p, q] lots] ∧ Ch.Charter many [p, q] lots ∧ d = .bool (Ch.parted many p q lots)
theorem rng_at {n i : Nat} (hi : i < (Ch.rng n).length) : (Ch.rng n)[i] = (i : Int) := by
  have hi' : i < n := by rw [Ch.rng_len] at hi; exact hi
  have := Ch.rng_get hi'
  rw [List.getElem?_eq_getElem hi] at this
  exact Option.some.inj this
section
variable {P : Program} {w : World} {K : PySem.W.Frag} {mg : Str → Option Value} {base : Heap}
abbrev s_L_sh_splits : Stmt := top 49
theorem sc_L_sh_splits : FnScope ["charter", "found", "heads", "rows", "owner", "more", "row", "head"] ["charter"] (defScope s_L_sh_splits) := ⟨rfl, rfl, rfl, by decide +kernel, rfl, by decide +kernel, by decide +kernel⟩
theorem ok_splitsL {f : Addr} {fd : FuncData} (F : Fun K "_law_sh_splits" "_law_sh_splits" s_L_sh_splits f fd) (T : Bi mg) (D_L_sh_in : Def P w K mg base "_law_sh_in" 1 ["part", "whole"] (spP R_in)) (D_L_sh_sets : Def P w K mg base "_law_sh_sets" 1 ["many"] (spP R_sets)) :
    FnOk P w K mg base CX0 2 f fd ["charter"] (spP R_splL) := by
  obtain ⟨f_L_sh_sets, fd_L_sh_sets, G_L_sh_sets, b_L_sh_sets, k_L_sh_sets, m_L_sh_sets⟩ := D_L_sh_sets.ex
  obtain ⟨f_L_sh_in, fd_L_sh_in, G_L_sh_in, b_L_sh_in, k_L_sh_in, m_L_sh_in⟩ := D_L_sh_in.ex
  refine F.ok sc_L_sh_splits (len_spP (fun ds d ⟨many, props, lots, e, _⟩ => by rw [e]; rfl)) (fun cdv A outer s H vs Q E hr h => ?_)
  obtain ⟨N, ds, d, fr, rs, ⟨many, props, lots, rfl, C, rfl⟩, k⟩ := h
  obtain ⟨v, rfl, r⟩ := rps1 rs
  have m1 := C.m1
  have m6 := C.m6
  have rng6 : ∀ j, ((Ch.rng many).take j).length ≤ 6 := fun j => by rw [List.length_take, Ch.rng_len]; omega
  refine ⟨_, pss_cons (ps_set (i := 1) sc_L_sh_splits.nd rfl (Or.inl rfl) (pe_lst pa_nil))
      (pss_cons (ps_for PassesOwn.never rfl (pi_seqK K (pe_slice (sl_lK K) (pe_call G_L_sh_sets (hr.mono (by decide)) rfl m_L_sh_sets k_L_sh_sets b_L_sh_sets .nil pass0 (pa_cons (pe_ix (ix_K K) (pv 0) pe_int (fun _ _ => rfl)) pa_nil)) (po_some pe_int) po_none)) (pg_name (i := 2) sc_L_sh_splits.nd rfl (Or.inr rfl)) (pss_one (ps_if (pt_truK K (pe_call G_L_sh_in (hr.mono (by decide)) rfl m_L_sh_in k_L_sh_in b_L_sh_in .nil pass0 (pa_cons (pv 2) (pa_cons (pe_ix (ix_K K) (pv 0) pe_int (fun _ _ => rfl)) pa_nil))) (fun _ => rfl)) (pss_cons (ps_set (i := 3) sc_L_sh_splits.nd rfl (Or.inl rfl) (pe_lst (pa_cons (pe_tup pa_nil) pa_nil)))
      (pss_cons (ps_for PassesOwn.never rfl (pi_range1 rfl T.range (pa_cons (pe_ix (ix_K K) (pv 0) pe_int (fun _ _ => rfl)) pa_nil)) (pg_name (i := 4) sc_L_sh_splits.nd rfl (Or.inr rfl)) (pss_cons (ps_set (i := 5) sc_L_sh_splits.nd rfl (Or.inl rfl) (pe_lst pa_nil))
      (pss_cons (ps_for PassesOwn.never rfl (pi_seqK K (pv 3)) (pg_name (i := 6) sc_L_sh_splits.nd rfl (Or.inr rfl)) (pss_one (ps_set (i := 5) sc_L_sh_splits.nd rfl (Or.inl rfl) (pe_op (op_addK K) (pv 5) (pe_lc (own := [("head", 7)]) rfl sc_L_sh_splits.nd (pi_seqK K (pv 2)) (blkOk_by (own := [("head", 7)]) (N := ["charter", "found", "heads", "rows", "owner", "more", "row", "head"]) (sc := defScope s_L_sh_splits) (by decide +kernel)) (fun _ _ _ _ _ => pg_name (i := 7) sc_L_sh_splits.nd rfl (Or.inl rfl)) (fun _ _ _ _ _ => pts_one (PW.pt (pw_or (pt_cmpR (op_ninK K) (pv 4) (pv 2) rfl) (pw_or1 (pt_cmpR (op_eqK K hr.units) (pv 7) (pv 4) (nomark _)))))) (fun _ _ _ _ _ => pe_op (op_addK K) (pv 6) (pe_tup (pa_cons (pv 7) pa_nil))))))))
      (pss_one (ps_set (i := 3) sc_L_sh_splits.nd rfl (Or.inl rfl) (pv 5))))))
      (pss_one (ps_set (i := 1) sc_L_sh_splits.nd rfl (Or.inl rfl) (pe_op (op_addK K) (pv 1) (pe_lc (own := [("row", 6)]) rfl sc_L_sh_splits.nd (pi_seqK K (pv 3)) (blkOk_by (own := [("row", 6)]) (N := ["charter", "found", "heads", "rows", "owner", "more", "row", "head"]) (sc := defScope s_L_sh_splits) (by decide +kernel)) (fun _ _ _ _ _ => pg_name (i := 6) sc_L_sh_splits.nd rfl (Or.inl rfl)) (fun _ _ _ _ _ => pts_one (pt_cmpR (op_eqK K hr.units) (pe_callB (cr_setIK w rfl) (by rfl) T.sorted (by decide +kernel) (pa_cons (pe_callTy (cr_setTK K w rfl) (by rfl) T.set (by decide +kernel) (pa_cons (pv 6) pa_nil)) pa_nil)) (pe_callTy (call_listK K) (by rfl) T.list (by decide +kernel) (pa_cons (pv 2) pa_nil)) (nomark _))) (fun _ _ _ _ _ => pv 6))))))) pss_nil)))
      (pss_one (ps_ret (pe_callB (cr_sortLK K) (by rfl) T.sorted (by decide +kernel) (pa_cons (pv 1) pa_nil))))), ?_⟩
  refine dq_set (d := lT []) (de_lst da_nil) fr fun v1 H1 s1 r1 => ?_
  have f1 := fr.same s1
  refine df_forS (N := N) (xs := (Ch.sets many).drop 1) (enc := tI) (di_seq (d := lT ((Ch.sets many).drop 1)) ((de_slL (de_call (da_cons (de_op (de_var (i := 0) rfl (r.same s1)) de_int (r2_ix (K := K) (i := 0) (z := .int (many : Int)) rfl)) da_nil) ⟨many, rfl, m6, rfl⟩) (do_some de_int) do_none).is ?_)) f1 fun H2 s2 => ?_
  · rw [lT, List.map_drop]; exact congrArg PyData.list (cutD_from _ 1)
  refine ⟨fun i σ' H' => (∃ z1 o2 o3 o4 o5 o6 o7, σ' = [some v, some z1, o2, o3, o4, o5, o6, o7] ∧ Rp N H' z1 (lT ((((Ch.sets many).drop 1).take i).flatMap (rowsF many props)))) ∧ Same H2 H', ⟨⟨_, _, _, _, _, _, _, rfl, r1.same s2⟩, Same.refl _⟩, fun i σ' H' ⟨_, s3⟩ => ⟨Up.of s3, (f1.same s2).same s3⟩, ?_, ?_⟩
  · rintro i hi x σ' H' H3 ⟨⟨z1, o2, o3, o4, o5, o6, o7, rfl, rz⟩, s3⟩ s4 rx
    have hm := Ch.mem_drop.mp (List.getElem_mem hi)
    have hl6 := Ch.sets_in m6 hm.1
    have hone := Ch.sets_one many _ hm.1
    have hnd : ((Ch.sets many).drop 1)[i].Nodup := hone.1.imp fun h => Int.ne_of_lt h
    have tl := take_last ((Ch.sets many).drop 1) hi
    generalize hds : ((Ch.sets many).drop 1)[i] = heads at *
    have f4 := ((f1.same s2).same s3).same s4
    have ss := (s1.trans s2).trans (s3.trans s4)
    have rv := r.same ss
    have rz4 := rz.same s4
    refine dq_if (N := N) (b := heads.all fun o => decide (o ∈ props)) (dt_truB (de_call (da_cons (de_var rfl rx) (da_cons (de_op (de_var (i := 0) rfl rv) de_int (r2_ix (K := K) (i := 1) (z := tI props) rfl)) da_nil)) ⟨_, _, heads, props, rfl, rfl, rfl, by omega, rfl⟩)) f4
      (fun hb H5 s5 => ?_) fun hb H5 s5 => ⟨⟨_, _, _, _, _, _, _, rfl, ?_⟩, (s3.trans s4).trans s5⟩
    · have f5 := f4.same s5
      refine dq_set (d := lT (fillR heads ((Ch.rng many).take 0))) (de_lst (da_cons (de_tup da_nil) da_nil)) f5 fun v3 H6 s6 r3 => ?_
      have f6 := f5.same s6
      refine df_forS (N := N) (xs := Ch.rng many) (enc := PyData.int) (by
        have := di_rng (N := N) (σ := [some v, some z1, some x, some v3, o4, o5, o6, o7]) (H := H6) (i := (many : Int)) (da_cons (de_op (de_var (i := 0) rfl ((rv.same s5).same s6)) de_int (r2_ix (K := K) (i := 0) (z := .int (many : Int)) rfl)) da_nil) (by omega) (by omega)
        rwa [Int.toNat_natCast] at this) f6 fun H7 s7 => ?_
      refine ⟨fun j σ' H' => (∃ z3 o4 o5 o6 o7, σ' = [some v, some z1, some x, some z3, o4, o5, o6, o7] ∧ Rp N H' z3 (lT (fillR heads ((Ch.rng many).take j)))) ∧ Same H7 H', ⟨⟨_, _, _, _, _, rfl, r3.same s7⟩, Same.refl _⟩, fun j σ' H' ⟨_, s8⟩ => ⟨Up.of s8, (f6.same s7).same s8⟩, ?_, ?_⟩
      · rintro j hj y σ' H8 H9 ⟨⟨z3, o4, o5, o6, o7, rfl, rz3⟩, s8⟩ s9 ry
        have f9 := ((f6.same s7).same s8).same s9
        have tlj := take_last (Ch.rng many) hj
        generalize (Ch.rng many)[j] = o at *
        have s59 := ((s5.trans s6).trans s7).trans (s8.trans s9)
        refine dq_set (d := lT ((((fillR heads ((Ch.rng many).take j))).take 0).flatMap fun row => (Ch.chc heads [] o).map fun c => row ++ [c])) (de_lst da_nil) f9 fun v5 H10 s10 r5 => ?_
        have f10 := f9.same s10
        have bl := fill_len (heads := heads) hl6 (rng6 j)
        have chl : (Ch.chc heads [] o).length ≤ 6 := by
          unfold Ch.chc
          split
          · simp
          · rw [List.append_nil]; exact hl6
        refine df_forS (N := N) (xs := fillR heads ((Ch.rng many).take j)) (enc := tI) (di_seq (de_var rfl ((rz3.same s9).same s10))) f10 fun H11 s11 => ?_
        refine ⟨fun l σ' H' => (∃ z5 o6 o7, σ' = [some v, some z1, some x, some z3, some y, some z5, o6, o7] ∧ Rp N H' z5 (lT ((((fillR heads ((Ch.rng many).take j))).take l).flatMap fun row => (Ch.chc heads [] o).map fun c => row ++ [c]))) ∧ Same H11 H', ⟨⟨_, _, _, rfl, r5.same s11⟩, Same.refl _⟩, fun l σ' H' ⟨_, s12⟩ => ⟨Up.of s12, (f10.same s11).same s12⟩, ?_, ?_⟩
        · rintro l hll u σ' H12 H13 ⟨⟨z5, o6, o7, rfl, rz5⟩, s12⟩ s13 ru
          have f13 := ((f10.same s11).same s12).same s13
          have sA := ((s10.trans s11).trans s12).trans s13
          have tll := take_last (fillR heads ((Ch.rng many).take j)) hll
          have rl := Ch.foldR_row ((Ch.rng many).take j) [[]] 0 (fun r hr => by rw [List.mem_singleton.mp hr]; rfl) _ (List.getElem_mem hll)
          have rl6 := rng6 j
          generalize (fillR heads ((Ch.rng many).take j))[l] = row at *
          have fl : ∀ n, (((fillR heads ((Ch.rng many).take j)).take n).flatMap fun row => (Ch.chc heads [] o).map fun c => row ++ [c]).length ≤ 279936 := fun n => by
            refine Nat.le_trans (Ch.stepR_len (heads := heads) (others := []) (by simpa using hl6) ((fillR heads ((Ch.rng many).take j)).take n) o) ?_
            rw [List.length_take]; omega
          refine DE.run (N := N) (d := lT (((fillR heads ((Ch.rng many).take j)).take (l + 1)).flatMap fun row => (Ch.chc heads [] o).map fun c => row ++ [c])) ((de_op (de_var rfl (rz5.same s13)) (de_lc (xs := heads) (enc := PyData.int) (fun h => !decide (o ∈ heads) || decide (h = o)) (fun h => tI (row ++ [h])) (di_seq (de_var rfl ((rx.same s59).same sA))) (by omega)
              fun a ha x' N' H'' u' rx' => ⟨dt_or (dt_test (de_op (de_var rfl ((ry.same sA).up u')) (de_var rfl (((rx.same s59).same sA).up u')) r2_nin)) fun _ => dt_test (de_op (de_var rfl rx') (de_var rfl ((ry.same sA).up u')) r2_eqI), fun _ => (de_op (de_var rfl (ru.up u')) (de_tup (da_cons (de_var rfl rx') da_nil)) (r2_addT ?_)).is ?_⟩) (r2_addL ?_)).is ?_) f13
            fun v' H14 s14 r14 => ⟨⟨_, _, _, rfl, r14⟩, (s12.trans s13).trans s14⟩
          · simp; omega
          · simp
          · have := fl l
            rw [Ch.chc_filter hnd, List.length_map, List.length_map]
            omega
          · rw [tll, List.flatMap_append, List.flatMap_cons, List.flatMap_nil, List.append_nil, lT, List.map_append, Ch.chc_filter hnd, List.map_map]; rfl
        · rintro σ' H12 ⟨⟨z5, o6, o7, rfl, rz5⟩, s12⟩
          rw [List.take_length] at rz5
          refine DE.run (N := N) (de_var rfl rz5) ((f10.same s11).same s12) fun v' H14 s14 r14 => ⟨⟨_, _, _, _, _, rfl, ?_⟩, (s8.trans s9).trans (((s10.trans s11).trans s12).trans s14)⟩
          rw [tlj, fillR, List.foldl_append, List.foldl_cons, List.foldl_nil]
          exact r14
      · rintro σ' H8 ⟨⟨z3, o4, o5, o6, o7, rfl, rz3⟩, s8⟩
        rw [List.take_length] at rz3
        have s58 := ((s5.trans s6).trans s7).trans s8
        have bl := fill_len (heads := heads) hl6 (by rw [Ch.rng_len]; exact m6 : (Ch.rng many).length ≤ 6)
        have fl := rowsF_lens (props := props) m6 (((Ch.sets many).drop 1).take i) fun h hh => Ch.sets_in m6 (List.mem_of_mem_drop (List.mem_of_mem_take hh))
        have h63 := drop_len m6
        have tk : (((Ch.sets many).drop 1).take i).length ≤ 63 := by rw [List.length_take]; omega
        refine DE.run (N := N) (d := lT ((((Ch.sets many).drop 1).take (i + 1)).flatMap (rowsF many props))) ((de_op (de_var rfl (rz4.same s58)) (de_lc (xs := fillR heads (Ch.rng many)) (enc := tI) (fun row => decide (usrtI row = heads)) (fun row => tI row) (di_seq (de_var rfl rz3)) (by omega)
            fun a ha x' N' H'' u' rx' => ⟨dt_test (de_op (de_usrtT (de_var rfl rx') ?_) (de_cb (da_cons (de_var rfl ((rx.same s58).up u')) da_nil) rk_list) r2_eqL), fun _ => de_var rfl rx'⟩) (r2_addL ?_)).is ?_) ((f6.same s7).same s8)
          fun v' H14 s14 r14 => ⟨⟨_, _, _, _, _, _, _, rfl, r14⟩, (s3.trans s4).trans (s58.trans s14)⟩
        · have := Ch.foldR_row (Ch.rng many) [[]] 0 (fun r hr => by rw [List.mem_singleton.mp hr]; rfl) a ha
          rw [Ch.rng_len] at this
          omega
        · have := List.length_filter_le (fun row => decide (usrtI row = heads)) (fillR heads (Ch.rng many))
          rw [List.length_map, List.length_map]
          omega
        · rw [tl, List.flatMap_append, List.flatMap_cons, List.flatMap_nil, List.append_nil, lT, List.map_append, rowsF, if_pos hb, Ch.rowsH]
    · rw [tl, List.flatMap_append, List.flatMap_cons, List.flatMap_nil, List.append_nil, rowsF, if_neg (by rw [hb]; simp), List.append_nil]
      exact rz4.same s5
  · rintro σ' H' ⟨⟨z1, o2, o3, o4, o5, o6, o7, rfl, rz⟩, s3⟩
    rw [List.take_length] at rz
    refine dq_ret (de_cb (da_cons (de_var rfl rz) da_nil) (rc_sortL fun ns hn => ?_)) ((f1.same s2).same s3) fun v' H5 s5 r5 => k v' H5 (((s1.trans s2).trans s3).trans s5) r5
    have S := (Ch.mem_rowsL C).mp hn
    rintro rfl
    have := S.len
    simp at this
    omega
abbrev s_L_sh_heads : Stmt := top 51
theorem sc_L_sh_heads : FnScope ["charter", "split", "heads", "head"] ["charter", "split"] (defScope s_L_sh_heads) := ⟨rfl, rfl, rfl, by decide +kernel, rfl, by decide +kernel, by decide +kernel⟩
theorem ok_headsL {f : Addr} {fd : FuncData} (F : Fun K "_law_sh_heads" "_law_sh_heads" s_L_sh_heads f fd) (T : Bi mg) (D_L_sh_has : Def P w K mg base "_law_sh_has" 2 ["lots", "owners"] (spP R_hasL)) (D_L_sh_block : Def P w K mg base "_law_sh_block" 1 ["split", "head"] (spP R_block)) :
    FnOk P w K mg base CX0 3 f fd ["charter", "split"] (spP R_headsL) := by
  obtain ⟨f_L_sh_has, fd_L_sh_has, G_L_sh_has, b_L_sh_has, k_L_sh_has, m_L_sh_has⟩ := D_L_sh_has.ex
  obtain ⟨f_L_sh_block, fd_L_sh_block, G_L_sh_block, b_L_sh_block, k_L_sh_block, m_L_sh_block⟩ := D_L_sh_block.ex
  refine F.ok sc_L_sh_heads (len_spP (fun ds d ⟨many, props, lots, row, e, _⟩ => by rw [e]; rfl)) (fun cdv A outer s H vs Q E hr h => ?_)
  obtain ⟨N, ds, d, fr, rs, ⟨many, props, lots, row, rfl, C, S, rfl⟩, k⟩ := h
  obtain ⟨v, u, rfl, r1, r2⟩ := rps2 rs
  have m6 := C.c.m6
  have sl := S.len
  refine ⟨_, pss_cons (ps_set (i := 2) sc_L_sh_heads.nd rfl (Or.inl rfl) (pe_callB (cr_setIK w rfl) (by rfl) T.sorted (by decide +kernel) (pa_cons (pe_callTy (cr_setTK K w rfl) (by rfl) T.set (by decide +kernel) (pa_cons (pv 1) pa_nil)) pa_nil)))
      (pss_one (ps_ret (pe_callTy (call_tupK K) (by rfl) T.tuple (by decide +kernel) (pa_cons (pe_lc (own := [("head", 3)]) rfl sc_L_sh_heads.nd (pi_seqK K (pv 2)) (blkOk_by (own := [("head", 3)]) (N := ["charter", "split", "heads", "head"]) (sc := defScope s_L_sh_heads) (by decide +kernel)) (fun _ _ _ _ _ => pg_name (i := 3) sc_L_sh_heads.nd rfl (Or.inl rfl)) (fun _ _ _ _ _ => pts_one (pt_truK K (pe_call G_L_sh_has (hr.mono (by decide)) rfl m_L_sh_has k_L_sh_has b_L_sh_has .nil pass0 (pa_cons (pe_ix (ix_K K) (pv 0) pe_int (fun _ _ => rfl)) (pa_cons (pe_call G_L_sh_block (hr.mono (by decide)) rfl m_L_sh_block k_L_sh_block b_L_sh_block .nil pass0 (pa_cons (pv 1) (pa_cons (pv 3) pa_nil))) pa_nil))) (fun _ => rfl))) (fun _ _ _ _ _ => pv 3)) pa_nil)))), ?_⟩
  refine dq_set (de_usrtT (de_var rfl r2) (by omega)) fr fun v2 H1 s1 r3 => ?_
  have ul : (usrtI row).length ≤ 6 := by
    have := asc_len (n := many) (usrtI_pw row) fun o ho => C.c.pin o (S.ins o (mem_usrtI.mp ho))
    omega
  refine dq_ret (de_cb (da_cons ((de_lc (xs := usrtI row) (enc := PyData.int) (fun h => Ch.has lots fun o => decide (o ∈ blkI row h)) (fun h => .int h) (di_seq (de_var rfl r3)) (by omega)
    fun a ha x' N' H' u' rx => ⟨dt_truB (de_call (da_cons (de_op (de_var (i := 0) rfl ((r1.same s1).up u')) de_int (r2_ix (K := K) (i := 2) (z := tT lots) rfl)) (da_cons (de_call (da_cons (de_var rfl ((r2.same s1).up u')) (da_cons (de_var rfl rx) da_nil)) ⟨row, a, rfl, by omega, rfl⟩) da_nil))
      ⟨_, _, lots, blkI row a, rfl, rfl, rfl, by have := C.c.llen; omega, fun l hl => ?_, rfl⟩), fun _ => de_var rfl rx⟩).is (congrArg (fun l => PyData.list (l.map PyData.int)) (Ch.heads_eq C.c S))) da_nil) rk_tup) (fr.same s1) fun v H2 s2 r2 => k v H2 (s1.trans s2) r2
  have h := C.c.one l hl
  have := asc_len h.2.1 h.2.2
  omega
end
end Pu

namespace Pu
open PySem PySem.Spec PyProof.Rows L2
/-! ### what evaluates to which data, the state of the draws changing -/
abbrev Sub (d g : Addr) (N : NP) : Prop := ∀ a, N a → a ≠ d ∧ a ≠ g
section
variable {K : PySem.W.Frag} {d g c : Addr} {N N' : NP} {σ : L2.St} {H H' : Hp} {ta tb te tl : TE} {t u : TT} {x y z : PyData} {v : V} {ds : List PyData} {T : Int} {n m : Nat}
theorem Up.kp (s : Sub d g N) (k : Kp d g H H') : Up N H N H' := fun a o n e => ⟨n, k a o e (s a n).1 (s a n).2⟩
theorem Fr.kp (f : Fr N H) (k : Kp d g H H') (S : StA H' d g c T) : Fr N H' := fun a ha => f a (by
  cases e : H a with
  | none => rfl
  | some o =>
    exfalso
    obtain ⟨l, t, hd, _⟩ := S.dk
    obtain ⟨gs, hg, _⟩ := S.gr
    by_cases xd : a = d
    · subst xd; rw [hd] at ha; cases ha
    · by_cases xg : a = g
      · subst xg; rw [hg] at ha; cases ha
      · rw [k a o e xd xg] at ha; cases ha)
theorem StA.put {p : Addr} {o : HO} (S : StA H d g c T) (h1 : d ≠ p) (h2 : g ≠ p) (h3 : c ≠ p) : StA (upd H p o) d g c T := by
  obtain ⟨l, t, hd, q1, q2, q3⟩ := S.dk
  obtain ⟨gs, hg, q4⟩ := S.gr
  obtain ⟨cs, hc, q5⟩ := S.ce
  exact ⟨⟨l, t, by rw [upd_ne h1]; exact hd, q1, q2, q3⟩, ⟨gs, by rw [upd_ne h2]; exact hg, q4⟩, ⟨cs, by rw [upd_ne h3]; exact hc, q5⟩, S.gc⟩
theorem StA.fresh {p : Addr} (S : StA H d g c T) (h : H p = none) : d ≠ p ∧ g ≠ p ∧ c ≠ p := by
  obtain ⟨l, t, hd, _⟩ := S.dk
  obtain ⟨gs, hg, _⟩ := S.gr
  obtain ⟨cs, hc, _⟩ := S.ce
  exact ⟨ne_of_none hd h, ne_of_none hg h, ne_of_none hc h⟩
def SE (d g c : Addr) (n : Nat) (N : NP) (te : TE) (σ : L2.St) (H : Hp) (R : PyData → Prop) : Prop :=
  ∀ N1 H1 T, Up N H N1 H1 → Fr N1 H1 → Sub d g N1 → StA H1 d g c T → T + n ≤ TB → ∀ Q : VK, (∀ v z H2, R z → Kp d g H1 H2 → StA H2 d g c (T + n) → Rp N1 H2 v z → Q v H2) → te σ H1 Q
def SA (d g c : Addr) (n : Nat) (N : NP) (ta : TA) (σ : L2.St) (H : Hp) (R : List PyData → Prop) : Prop :=
  ∀ N1 H1 T, Up N H N1 H1 → Fr N1 H1 → Sub d g N1 → StA H1 d g c T → T + n ≤ TB → ∀ Q : List V → Hp → Prop, (∀ vs zs H2, R zs → Kp d g H1 H2 → StA H2 d g c (T + n) → Rps N1 H2 vs zs → Q vs H2) → ta σ H1 Q
def ST (d g c : Addr) (n : Nat) (N : NP) (tt : TT) (σ : L2.St) (H : Hp) : Prop :=
  ∀ N1 H1 T, Up N H N1 H1 → Fr N1 H1 → Sub d g N1 → StA H1 d g c T → T + n ≤ TB → ∀ Q : Bool → Hp → Prop, (∀ b H2, Kp d g H1 H2 → StA H2 d g c (T + n) → Q b H2) → tt σ H1 Q
def SI (d g c : Addr) (n : Nat) (N : NP) (wi : TI) (σ : L2.St) (H : Hp) (R : List PyData → Prop) : Prop :=
  ∀ N1 H1 T, Up N H N1 H1 → Fr N1 H1 → Sub d g N1 → StA H1 d g c T → T + n ≤ TB → ∀ Q : It → Hp → Prop, (∀ J ds H2, R ds → Kp d g H1 H2 → StA H2 d g c (T + n) → WalkD N1 H2 J ds → Q J H2) → wi σ H1 Q
theorem SE.up {R : PyData → Prop} (s : Up N H N' H') (h : SE d g c n N te σ H R) : SE d g c n N' te σ H' R := fun N1 H1 T a => h N1 H1 T (s.trans a)
theorem SA.up {ta : TA} {R : List PyData → Prop} (s : Up N H N' H') (h : SA d g c n N ta σ H R) : SA d g c n N' ta σ H' R := fun N1 H1 T a => h N1 H1 T (s.trans a)
theorem SE.imp {R R' : PyData → Prop} (h : SE d g c n N te σ H R) (i : ∀ z, R z → R' z) : SE d g c n N te σ H R' := fun N1 H1 T a f s S b Q q => h N1 H1 T a f s S b Q fun v z H2 r => q v z H2 (i z r)
theorem SE.cost {R : PyData → Prop} (h : SE d g c n N te σ H R) (l : n ≤ m) : SE d g c m N te σ H R := fun N1 H1 T a f s S b Q q => h N1 H1 T a f s S (by omega) Q fun v z H2 r k S2 => q v z H2 r k (S2.mono (by omega))
theorem SE.of {R : PyData → Prop} (h : DE N te σ H x) (r : R x) : SE d g c n N te σ H R := fun N1 H1 T a f s S b Q q =>
  h N1 H1 a f Q fun v H2 s2 r2 => q v x H2 r (Kp.of s2) ((S.same s2).mono (by omega)) r2
theorem SA.of {ta : TA} {R : List PyData → Prop} (h : DA N ta σ H ds) (r : R ds) : SA d g c n N ta σ H R := fun N1 H1 T a f s S b Q q =>
  h N1 H1 a f Q fun v H2 s2 r2 => q v ds H2 r (Kp.of s2) ((S.same s2).mono (by omega)) r2
theorem SI.of {wi : TI} {R : List PyData → Prop} (h : DI N wi σ H ds) (r : R ds) : SI d g c n N wi σ H R := fun N1 H1 T a f s S b Q q =>
  h N1 H1 a f Q fun J H2 s2 r2 => q J ds H2 r (Kp.of s2) ((S.same s2).mono (by omega)) r2
theorem se_draw {E : XK} {i : Nat} {m : Int} (hσ : σ[i]? = some (some (.ref d))) (h : DE N te σ H (.int m)) (m0 : 0 < m) (m1 : m ≤ 1000000000000000000 := by omega) :
    SE d g c 1 N (tCall spDraw [] E (tCons (tVar i) (tCons te tNil))) σ H (fun z => ∃ r : Int, z = .int r ∧ 0 ≤ r ∧ r < m) := fun N1 H1 T a f s S b Q q =>
  ⟨_, hσ, h N1 H1 a f _ fun v H2 s2 r2 => by
    cases r2
    exact ⟨d, g, c, T, m, rfl, S.same s2, by omega, m0, m1, fun r H3 r0 r1 k S3 => q _ _ H3 ⟨r, rfl, r0, r1⟩ ((Kp.of s2).trans k) S3 (.int r)⟩⟩
theorem se_pick {E : XK} {i : Nat} (hσ : σ[i]? = some (some (.ref d))) (h : DE N te σ H x) (e : itemsD x = some ds) (ne : ds ≠ []) (l : ds.length ≤ 10000000) :
    SE d g c 1 N (tCall (spPick K) [] E (tCons (tVar i) (tCons te tNil))) σ H (fun z => z ∈ ds) := fun N1 H1 T a f s S b Q q =>
  ⟨_, hσ, h N1 H1 a f _ fun v H2 s2 r2 => by
    obtain ⟨p, xs, rfl, np, hh, r⟩ := r2.items e
    have e1 := r.len
    have hx : SqL K H2 p xs ∨ SqT K H2 p xs := hh.imp SqL.of SqT.of
    refine ⟨d, g, c, p, T, xs, rfl, S.same s2, by omega, hx, (s p np).1, (s p np).2, fun z => ?_, by omega, fun x H3 hm k S3 => ?_⟩
    · subst z
      exact ne (List.eq_nil_of_length_eq_zero (by rw [← e1]; rfl))
    · obtain ⟨z, hz, rz⟩ := r.mem hm
      exact q _ z H3 hz ((Kp.of s2).trans k) S3 (rz.up (Up.kp s k))⟩
theorem se_op {r : R2} {R1 R2' R : PyData → Prop} (ha : SE d g c n N ta σ H R1) (hb : SE d g c m N tb σ H R2') (hr : ∀ x y, R1 x → R2' y → ∃ z, R z ∧ R2D r x y z) : SE d g c (n + m) N (tOp r ta tb) σ H R := fun N1 H1 T a f s S b Q q =>
  ha N1 H1 T a f s S (by omega) _ fun v x H2 hx k2 S2 r2 => hb N1 H2 (T + n) (a.trans (Up.kp s k2)) (f.kp k2 S2) s S2 (by omega) _ fun u y H3 hy k3 S3 r3 => by
    obtain ⟨z, hz, w⟩ := hr x y hx hy
    exact w N1 H3 v u Q ((f.kp k2 S2).kp k3 S3) (r2.up (Up.kp s k3)) r3 fun w H4 s4 r4 => q w z H4 hz ((k2.trans k3).trans (Kp.of s4)) ((S3.same s4).mono (by omega)) r4
theorem sa_nil : SA d g c 0 N tNil σ H (fun zs => zs = []) := fun N1 H1 T a f s S b Q q => q [] [] H1 rfl (Kp.refl d g H1) (S.mono (by omega)) .nil
theorem sa_cons {tr : TA} {R : PyData → Prop} {Rs : List PyData → Prop} (h : SE d g c n N te σ H R) (hr : SA d g c m N tr σ H Rs) : SA d g c (n + m) N (tCons te tr) σ H (fun zs => ∃ z rs, zs = z :: rs ∧ R z ∧ Rs rs) := fun N1 H1 T a f s S b Q q =>
  h N1 H1 T a f s S (by omega) _ fun v x H2 hx k2 S2 r2 => hr N1 H2 (T + n) (a.trans (Up.kp s k2)) (f.kp k2 S2) s S2 (by omega) _ fun vs xs H3 hxs k3 S3 r3 =>
    q (v :: vs) (x :: xs) H3 ⟨x, xs, rfl, hx, hxs⟩ (k2.trans k3) (S3.mono (by omega)) (.cons (r2.up (Up.kp s k3)) r3)
theorem se_cb {r : List V → Hp → VK → Prop} {ta : TA} {Rs : List PyData → Prop} {R : PyData → Prop} (h : SA d g c n N ta σ H Rs) (hr : ∀ ds, Rs ds → ∃ z, R z ∧ RCD r ds z) : SE d g c n N (tCB r ta) σ H R := fun N1 H1 T a f s S b Q q =>
  h N1 H1 T a f s S b _ fun vs zs H2 hz k2 S2 r2 => by
    obtain ⟨z, hz, w⟩ := hr zs hz
    exact w N1 H2 vs Q (f.kp k2 S2) r2 fun v H3 s3 r3 => q v z H3 hz (k2.trans (Kp.of s3)) (S2.same s3) r3
theorem se_tup {ta : TA} {Rs : List PyData → Prop} (h : SA d g c n N ta σ H Rs) (hl : ∀ ds, Rs ds → ds.length ≤ 1000) : SE d g c n N (tTup ta) σ H (fun z => ∃ ds, z = .tuple ds ∧ Rs ds) := fun N1 H1 T a f s S b Q q =>
  h N1 H1 T a f s S b _ fun vs zs H2 hz k2 S2 r2 => ⟨Nat.le_of_lt (small1000 (by rw [r2.len]; exact hl zs hz)), fun p hp => q _ _ _ ⟨zs, rfl, hz⟩ (k2.trans (Kp.new hp)) (S2.new hp) (.tup ((f.kp k2 S2) p hp) upd_same (r2.same (same_upd hp)))⟩
theorem se_lst {ta : TA} {Rs : List PyData → Prop} (h : SA d g c n N ta σ H Rs) (hl : ∀ ds, Rs ds → ds.length ≤ 1000) : SE d g c n N (tLst ta) σ H (fun z => ∃ ds, z = .list ds ∧ Rs ds) := fun N1 H1 T a f s S b Q q =>
  h N1 H1 T a f s S b _ fun vs zs H2 hz k2 S2 r2 => ⟨Nat.le_of_lt (small1000 (by rw [r2.len]; exact hl zs hz)), fun p hp => q _ _ _ ⟨zs, rfl, hz⟩ (k2.trans (Kp.new hp)) (S2.new hp) (.lst ((f.kp k2 S2) p hp) upd_same (r2.same (same_upd hp)))⟩
/-- e[:i] of a list -/
theorem se_slL {tl th : TO} {lo hi : Option Int} {Rs : List PyData → Prop} (h : SE d g c n N te σ H (fun z => ∃ ds, z = .list ds ∧ Rs ds)) (h1 : DO N tl σ H lo) (h2 : DO N th σ H hi) :
    SE d g c n N (tSl (rSlL K) te tl th) σ H (fun z => ∃ ds, z = .list (cutD ds lo hi) ∧ Rs ds) := fun N1 H1 T a f s S b Q q =>
  h N1 H1 T a f s S b _ fun v x H2 hx k2 S2 r2 => by
    obtain ⟨ds, rfl, hds⟩ := hx
    have u2 := a.trans (Up.kp s k2)
    have f2 := f.kp k2 S2
    exact h1 N1 H2 u2 f2 _ fun H3 s3 => h2 N1 H3 (u2.same s3) (f2.same s3) _ fun H4 s4 => by
      have r4 := (r2.same s3).same s4
      have f4 := (f2.same s3).same s4
      have s24 := s3.trans s4
      cases r4 with
      | lst n h q4 => exact ⟨_, _, rfl, SqL.of h, fun p hp => q _ _ _ ⟨ds, rfl, hds⟩ (k2.trans (Kp.of (s24.trans (same_upd hp)))) ((S2.same s24).new hp) (.lst (f4 p hp) upd_same ((q4.cut lo hi).same (same_upd hp)))⟩
theorem st_of {b : Bool} (h : DT N t σ H b) : ST d g c n N t σ H := fun N1 H1 T a f s S l Q q => h N1 H1 a f Q fun H2 s2 => q b H2 (Kp.of s2) ((S.same s2).mono (by omega))
theorem st_test {R : PyData → Prop} (h : SE d g c n N te σ H R) (hb : ∀ z, R z → ∃ b, z = .bool b) : ST d g c n N (tTest te) σ H := fun N1 H1 T a f s S l Q q =>
  h N1 H1 T a f s S l _ fun v z H2 hz k2 S2 r2 => by
    obtain ⟨b, rfl⟩ := hb z hz
    cases r2
    exact ⟨b, rfl, q b H2 k2 S2⟩
theorem st_or {b : Bool} (h : DT N t σ H b) (h2 : ST d g c n N u σ H) : ST d g c n N (tOr t u) σ H := fun N1 H1 T a f s S l Q q =>
  h N1 H1 a f _ fun H2 s2 => by
    cases b with
    | true => exact q true H2 (Kp.of s2) ((S.same s2).mono (by omega))
    | false => exact h2 N1 H2 T (a.same s2) (f.same s2) s (S.same s2) l Q fun b H3 k3 S3 => q b H3 ((Kp.of s2).trans k3) S3
theorem se_if {R : PyData → Prop} (h : ST d g c n N t σ H) (h1 : SE d g c m N ta σ H R) (h2 : SE d g c m N tb σ H R) : SE d g c (n + m) N (tIf t ta tb) σ H R := fun N1 H1 T a f s S b Q q =>
  h N1 H1 T a f s S (by omega) _ fun bb H2 k2 S2 => by
    have u2 := a.trans (Up.kp s k2)
    have f2 := f.kp k2 S2
    cases bb with
    | true => exact h1 N1 H2 (T + n) u2 f2 s S2 (by omega) Q fun v z H3 hz k3 S3 => q v z H3 hz (k2.trans k3) (S3.mono (by omega))
    | false => exact h2 N1 H2 (T + n) u2 f2 s S2 (by omega) Q fun v z H3 hz k3 S3 => q v z H3 hz (k2.trans k3) (S3.mono (by omega))
theorem si_rng {R : Int → Prop} (h : SE d g c n N te σ H (fun z => ∃ i : Int, z = .int i ∧ R i)) (b0 : ∀ i, R i → 0 ≤ i ∧ i ≤ 1000) : SI d g c n N (iRng1 (tCons te tNil)) σ H (fun ds => ∃ i, ds = (Ch.rng i.toNat).map PyData.int ∧ R i) := fun N1 H1 T a f s S b Q q =>
  h N1 H1 T a f s S b _ fun v z H2 hz k2 S2 r2 => by
    obtain ⟨i, rfl, hi⟩ := hz
    cases r2
    have := b0 i hi
    have w := di_rng (N := N1) (H := H2) (σ := [some (.int i)]) (ta := tCons (tVar 0) tNil) (i := i) (da_cons (de_var rfl (.int i)) da_nil) (by omega) (by omega)
    have hN := f.kp k2 S2
    have := w N1 H2 (Up.refl _ _) hN Q fun J H3 s3 wj => q J _ H3 ⟨i, rfl, hi⟩ (k2.trans (Kp.of s3)) (S2.same s3) wj
    obtain ⟨v', e, j, e2, j0, j1, hq⟩ := this
    cases e
    cases e2
    exact ⟨i, rfl, j0, j1, hq⟩
/-- [e for x in xs], e drawing -/
theorem se_lc {wi : TI} {vs : List Nat} {i : Nat} {L : Nat} {RI : List PyData → Prop} {R : PyData → Prop} (hi : SI d g c n N wi σ H RI) (hL : ∀ ds, RI ds → ds.length ≤ L) (hl : L ≤ 1000)
    (hb : ∀ ds, RI ds → ∀ a ∈ ds, ∀ x N' H', Up N H N' H' → Rp N' H' x a → SE d g c m N' te ((wipe σ vs).set i (some x)) H' R)
    (hw : ∀ x, wipe ((wipe σ vs).set i (some x)) vs = wipe σ vs := by intro _; rfl) :
    SE d g c (n + L * m) N (tLc wi (gName i) tYes te vs) σ H (fun z => ∃ ds es, RI ds ∧ z = .list es ∧ es.length = ds.length ∧ ∀ e ∈ es, R e) := fun N1 H1 T u1 f1 s1 S1 b Q q =>
  hi N1 H1 T u1 f1 s1 S1 (by omega) _ fun J ds H2 hds k2 S2 w D hD => by
    have f2 := f1.kp k2 S2
    have hdl := hL ds hds
    obtain ⟨dD, gD, cD⟩ := S2.fresh hD
    have sD : Sub d g (fun a => N1 a ∧ a ≠ D) := fun a h => s1 a h.1
    refine ⟨fun j o H3 => o = ds.length - j ∧ j ≤ ds.length ∧ ∃ acc es, H3 D = some (.lst acc) ∧ Kp d g H2 H3 ∧ StA H3 d g c (T + n + (j * m : Nat)) ∧ Up N1 H2 (fun a => N1 a ∧ a ≠ D) H3 ∧ Fr (fun a => N1 a ∧ a ≠ D) H3 ∧ Rps (fun a => N1 a ∧ a ≠ D) H3 acc es ∧ es.length = j ∧ ∀ e ∈ es, R e,
      ⟨_, rfl, Nat.zero_le _, [], [], upd_same, Kp.new hD, (S2.new hD).mono (by omega), up_new hD, fun a ha => ?_, .nil, rfl, fun e h => nomatch h⟩, ?_⟩
    · have na : a ≠ D := fun z => by rw [z, upd_same] at ha; cases ha
      rw [upd_ne na] at ha
      exact ⟨f2 a ha, na⟩
    · rintro j o H3 ⟨rfl, hj, acc, es, hacc, k3, S3, u3, f3, r3, le, he⟩
      by_cases hlt : j < ds.length
      · refine .inr ⟨w.go _ _ u3 j hlt, fun H4 => ∃ acc es, H4 D = some (.lst acc) ∧ Kp d g H2 H4 ∧ StA H4 d g c (T + n + ((j + 1) * m : Nat)) ∧ Up N1 H2 (fun a => N1 a ∧ a ≠ D) H4 ∧ Fr (fun a => N1 a ∧ a ≠ D) H4 ∧ Rps (fun a => N1 a ∧ a ≠ D) H4 acc es ∧ es.length = j + 1 ∧ ∀ e ∈ es, R e,
          fun H4 h4 => ⟨_, by omega, rfl, hlt, h4⟩, fun x H4 y => ?_⟩
        obtain ⟨s4, dd, hdd, rd⟩ := w.yld _ _ u3 f3 j x H4 hlt y
        rw [List.getElem?_eq_getElem hlt] at hdd
        have ed := Option.some.inj hdd
        subst ed
        have u4 := u3.same s4
        have jm : j * m + m ≤ L * m := by
          have : (j + 1) * m ≤ L * m := Nat.mul_le_mul_right m (by omega)
          rw [Nat.succ_mul] at this; exact this
        refine ⟨hw x, ?_⟩
        dsimp only [tYes]
        refine iteT ?_
        refine (hb ds hds _ (List.getElem_mem hlt) x _ H4 (((u1.trans (Up.kp s1 k2))).trans u4) rd _ H4 (T + n + (j * m : Nat)) (Up.refl _ _) (f3.same s4) sD (S3.same s4) (by omega) _ fun yv z H5 hz k5 S5 ry => ?_)
        have hD5 : H5 D = some (.lst acc) := k5 _ _ (s4 _ _ hacc) dD.symm gD.symm
        have up5 := Up.kp sD k5
        have up6 : Up (fun a => N1 a ∧ a ≠ D) H5 (fun a => N1 a ∧ a ≠ D) (upd H5 D (.lst (acc ++ [yv]))) := fun a o n e => ⟨n, by rw [upd_ne n.2]; exact e⟩
        have ln := r3.len
        refine ⟨acc, hD5, ?_, acc ++ [yv], es ++ [z], upd_same, fun a o e x y => ?_, ?_, (u4.trans up5).trans up6, fun a ha => ?_, ?_, by simp [le], fun e h => ?_⟩
        · refine Nat.lt_of_le_of_lt (?_ : acc.length ≤ 1000) (by decide)
          omega
        · have na : a ≠ D := ne_of_none e hD
          rw [upd_ne na]
          exact k5 _ _ (s4 _ _ (k3 _ _ e x y)) x y
        · refine (S5.put dD gD cD).mono ?_
          rw [Nat.succ_mul]
          omega
        · have na : a ≠ D := fun z => by rw [z, upd_same] at ha; cases ha
          rw [upd_ne na] at ha
          exact ((f3.same s4).kp k5 S5) a ha
        · exact (((r3.same s4).up up5).app (.cons ry .nil)).up up6
        · rcases List.mem_append.mp h with h | h
          · exact he e h
          · rw [List.mem_singleton.mp h]; exact hz
      · have e : j = ds.length := by omega
        subst e
        have jm : ds.length * m ≤ L * m := Nat.mul_le_mul_right m hdl
        exact .inl ⟨w.stop _ _ u3, q _ _ _ ⟨ds, es, hds, rfl, le, he⟩ (k2.trans k3) (S3.mono (by omega)) (.lst (f2 D hD) hacc (r3.up up_sub))⟩
/-! ### statements -/
theorem SE.run {R : PyData → Prop} (h : SE d g c n N te σ H R) (f : Fr N H) (s : Sub d g N) (S : StA H d g c T) (b : T + n ≤ TB) {Q : VK} (q : ∀ v z H2, R z → Kp d g H H2 → StA H2 d g c (T + n) → Fr N H2 → Rp N H2 v z → Q v H2) : te σ H Q :=
  h N H T (Up.refl N H) f s S b Q fun v z H2 r k S2 rr => q v z H2 r k S2 (f.kp k S2) rr
theorem sq_set {D : Ends} {rest : TS} {i : Nat} {R : PyData → Prop} (h : SE d g c n N te σ H R) (f : Fr N H) (s : Sub d g N) (S : StA H d g c T) (b : T + n ≤ TB)
    (k : ∀ v z H2, R z → Kp d g H H2 → StA H2 d g c (T + n) → Fr N H2 → Rp N H2 v z → rest D (σ.set i (some v)) H2) : tSeq (tAsg te (gName i)) rest D σ H := h.run f s S b k
theorem sq_ret {D : Ends} {R : PyData → Prop} (h : SE d g c n N te σ H R) (f : Fr N H) (s : Sub d g N) (S : StA H d g c T) (b : T + n ≤ TB)
    (k : ∀ v z H2, R z → Kp d g H H2 → StA H2 d g c (T + n) → Fr N H2 → Rp N H2 v z → D.rt v H2) : tRet te D σ H := h.run f s S b k
theorem sq_par {D : Ends} {rest : TS} {i j : Nat} {ta : TA} {Rs : List PyData → Prop} (h : SA d g c n N ta σ H Rs) (f : Fr N H) (s : Sub d g N) (S : StA H d g c T) (b : T + n ≤ TB) (h2 : ∀ ds, Rs ds → ds.length = 2)
    (k : ∀ v u x y H2, Rs [x, y] → Kp d g H H2 → StA H2 d g c (T + n) → Fr N H2 → Rp N H2 v x → Rp N H2 u y → rest D ((σ.set i (some v)).set j (some u)) H2) :
    tSeq (fun D σ H => ta σ H fun vs H1 => ∃ v u, vs = [v, u] ∧ D.nx ((σ.set i (some v)).set j (some u)) H1) rest D σ H :=
  h N H T (Up.refl N H) f s S b _ fun vs zs H2 r k2 S2 rr => by
    have l2 := h2 zs r
    match zs, l2, rr with
    | [x, y], _, .cons rx (.cons ry .nil) => exact ⟨_, _, rfl, k _ _ x y H2 r k2 S2 (f.kp k2 S2) rx ry⟩
theorem sq_if {D : Ends} {rest : TS} {cc : TT} {t : TS} (h : ST d g c n N cc σ H) (f : Fr N H) (s : Sub d g N) (S : StA H d g c T) (b : T + n ≤ TB)
    (h1 : ∀ H2, Kp d g H H2 → StA H2 d g c (T + n) → Fr N H2 → t { D with nx := rest D } σ H2) (h2 : ∀ H2, Kp d g H H2 → StA H2 d g c (T + n) → Fr N H2 → rest D σ H2) : tSeq (tIfS cc t tNext) rest D σ H :=
  h N H T (Up.refl N H) f s S b _ fun b H2 k2 S2 => by
    cases b with
    | true => exact iteT (h1 H2 k2 S2 (f.kp k2 S2))
    | false => exact iteF (h2 H2 k2 S2 (f.kp k2 S2))
/-! ### defs that draw -/
def spSt (n : Nat) (Dm : List PyData → Prop) (R : List PyData → PyData → Prop) : Sp := fun vs H Q _ => ∃ (d g c : Addr) (T : Int) (N : NP) (us : List V) (ds : List PyData), vs = .ref d :: us ∧ Sub d g N ∧ Fr N H ∧ StA H d g c T ∧ T + n ≤ TB ∧ Rps N H us ds ∧ Dm ds ∧
  ∀ v z H', R ds z → Kp d g H H' → StA H' d g c (T + n) → Rp N H' v z → Q v H'
theorem len_spSt {Dm : List PyData → Prop} {R : List PyData → PyData → Prop} {k : Nat} (h : ∀ ds, Dm ds → ds.length + 1 = k) : ∀ vs H Q E, spSt n Dm R vs H Q E → vs.length = k := fun vs H Q E ⟨d, g, c, T, N, us, ds, e, _, _, _, _, r, hd, _⟩ => by rw [e, List.length_cons, r.len, h ds hd]
theorem se_call {Dm : List PyData → Prop} {R : List PyData → PyData → Prop} {E : XK} {ta : TA} {i : Nat} (hσ : σ[i]? = some (some (.ref d))) (h : DA N ta σ H ds) (hd : Dm ds) : SE d g c n N (tCall (spSt n Dm R) [] E (tCons (tVar i) ta)) σ H (R ds) := fun N1 H1 T a f s S b Q q =>
  ⟨_, hσ, h N1 H1 a f _ fun vs H2 s2 r2 => ⟨d, g, c, T, N1, vs, ds, by rw [List.append_nil], s, f.same s2, S.same s2, b, r2, hd, fun v z H3 hz k S3 r3 => q v z H3 hz ((Kp.of s2).trans k) S3 r3⟩⟩
end
end Pu

namespace Pu
open PySem PySem.Spec PyProof.Rows L2
theorem erase_perm {α : Type} : ∀ {l : List α} {k : Nat} {y : α}, l[k]? = some y → (y :: l.eraseIdx k).Perm l
  | [], k, y, h => by cases k <;> cases h
  | a :: l, 0, y, h => by cases h; exact List.Perm.refl _
  | a :: l, k + 1, y, h => by
    have := erase_perm (l := l) (k := k) (y := y) (by simpa using h)
    exact (List.Perm.swap a y (l.eraseIdx k)).trans (this.cons a)
theorem map_erase {α β : Type} (f : α → β) : ∀ (l : List α) (k : Nat), (l.map f).eraseIdx k = (l.eraseIdx k).map f
  | [], k => by cases k <;> rfl
  | a :: l, 0 => rfl
  | a :: l, k + 1 => by
    show f a :: (l.map f).eraseIdx k = f a :: (l.eraseIdx k).map f
    rw [map_erase f l k]
theorem seqIx {n : Nat} {r : Int} (h0 : 0 ≤ r) (h1 : r < n) : PySem.seqIndex? r n = some r.toNat := by
  refine (ixN_seq ?_).1
  unfold ixN
  rw [if_pos h0, if_pos h1]
/-- the law's own lists of ints, in another sequence -/
def D_mix : List PyData → Prop := fun ds => ∃ ns : List Int, ds = [lI ns] ∧ ns.length ≤ 6
def R_mix : List PyData → PyData → Prop := fun ds z => ∃ ns ms : List Int, ds = [lI ns] ∧ z = lI ms ∧ ms.Perm ns
section
variable {P : Program} {w : World} {K : PySem.W.Frag} {mg : Str → Option Value} {base : Heap}
abbrev s_L_mixed : Stmt := top 36
theorem sc_L_mixed : FnScope ["state", "several", "left", "found"] ["state", "several"] (defScope s_L_mixed) := ⟨rfl, rfl, rfl, by decide +kernel, rfl, by decide +kernel, by decide +kernel⟩
theorem ok_mixed {f : Addr} {fd : FuncData} (F : Fun K "_law_mixed" "_law_mixed" s_L_mixed f fd) (T : Bi mg) (D_L_draw : Def P w K mg base "_law_draw" 2 ["state", "size_here"] spDraw) : FnOk P w K mg base CX0 3 f fd ["state", "several"] (spSt 6 D_mix R_mix) := by
  obtain ⟨f_L_draw, fd_L_draw, G_L_draw, b_L_draw, k_L_draw, m_L_draw⟩ := D_L_draw.ex
  refine F.ok sc_L_mixed (len_spSt fun ds ⟨ns, e, _⟩ => by rw [e]; rfl) (fun cdv A outer s H vs Q E hr h => ?_)
  obtain ⟨d, g, c, T0, N, us, ds, rfl, sb, fr, S, tb, rs, ⟨ns, rfl, hn⟩, k⟩ := h
  obtain ⟨v, rfl, r⟩ := rps1 rs
  refine ⟨_, pss_cons (ps_par (i := 2) (j := 3) rfl sc_L_mixed.nd rfl rfl (by decide) rfl rfl (pa_cons (pe_callTy (call_listK K) (by rfl) T.list (by decide +kernel) (pa_cons (pv 1) pa_nil)) (pa_cons (pe_lst pa_nil) pa_nil)) (by rfl))
      (pss_cons (ps_while PassesOwn.never (pt_cmpR (op_neK K hr.units) (pv 2) (pe_lst pa_nil) (nomark _))
        (pss_one (ps_expr (pe_bm PySem.F.plainAttrs_list PySem.F.slot_list_append PySem.F.type_list_append mt_append (pv 3) (pa_cons (pe_bm PySem.F.plainAttrs_list PySem.F.slot_list_pop PySem.F.type_list_pop mt_popAt (pv 2)
          (pa_cons (pe_call G_L_draw (hr.mono (by decide)) rfl m_L_draw k_L_draw b_L_draw .nil pass0 (pa_cons (pv 0) (pa_cons (pe_callB (call_lenK K) (by rfl) T.len (by decide +kernel) (pa_cons (pv 2) pa_nil)) pa_nil))) pa_nil)) pa_nil)))))
      (pss_one (ps_ret (pv 3)))), ?_⟩
  cases r with
  | @lst a xs _ na ha ra =>
  have ex := ra.ints
  subst ex
  refine ⟨_, rfl, a, _, rfl, .inl (SqL.of ha), fun l hl => ⟨Nat.zero_le _, fun q hq => ⟨_, _, rfl, ?_⟩⟩⟩
  have hq0 : H q = none := by
    by_cases e : q = l
    · rw [e]; exact hl
    · rw [upd_ne e] at hq; exact hq
  have ql : q ≠ l := fun e => by rw [e, upd_same] at hq; cases hq
  obtain ⟨dl, gl, cl⟩ := S.fresh hl
  obtain ⟨dq, gq, cq⟩ := S.fresh hq0
  obtain ⟨H2, e2⟩ : ∃ H2, H2 = upd (upd H l (.lst (ns.map V.int))) q (.lst []) := ⟨_, rfl⟩
  have S2 : StA H2 d g c T0 := by rw [e2]; exact (S.new hl).new hq
  have k2 : Kp d g H H2 := by rw [e2]; exact (Kp.new hl).trans (Kp.new hq)
  have hl2 : H2 l = some (.lst (ns.map V.int)) := by rw [e2, upd_ne ql.symm, upd_same]
  have hq2 : H2 q = some (.lst (([] : List Int).map V.int)) := by rw [e2, upd_same]; rfl
  rw [← e2]
  clear e2 hq
  refine ⟨fun m σ' H' => ∃ ls fs : List Int, σ' = [some (.ref d), some (.ref a), some (.ref l), some (.ref q)] ∧ H' l = some (.lst (ls.map V.int)) ∧ H' q = some (.lst (fs.map V.int)) ∧ Kp d g H H' ∧ StA H' d g c (T0 + fs.length) ∧ (fs ++ ls).Perm ns ∧ m = ls.length,
    ⟨_, ns, [], rfl, hl2, hq2, k2, S2.mono (by simp), List.Perm.refl _, rfl⟩, ?_⟩
  rintro m σ' H' ⟨ls, fs, rfl, hl', hq', k', S', pm, rfl⟩
  have pl := pm.length_eq
  rw [List.length_append] at pl
  have rl : ∀ H3, Same H' H3 → Rp (fun _ => True) H3 (.ref l) (lI ls) := fun H3 s3 => .lst trivial (s3 _ _ hl') (rps_ints ls)
  refine DT.run (N := fun _ => True) (b := !decide (ls = [])) (dt_test (de_op (de_var rfl (rl H' (Same.refl _))) (de_lst da_nil) (r2_neL (ys := [])))) (fun _ _ => trivial) fun H3 s3 => ?_
  have S3 := S'.same s3
  have k3 := k'.trans (Kp.of s3)
  have hl3 := s3 _ _ hl'
  have hq3 := s3 _ _ hq'
  cases ls with
  | nil =>
    refine iteF ?_
    rw [List.append_nil] at pm
    refine ⟨_, rfl, k _ _ H3 ⟨ns, fs, rfl, rfl, pm⟩ k3 (S3.mono (by simp at pl; omega)) (.lst (fr q hq0) hq3 (rps_ints fs))⟩
  | cons y0 ls0 =>
    generalize hgen : y0 :: ls0 = ls at *
    have hpos : 0 < ls.length := by rw [← hgen]; simp
    have hne : (!decide (ls = [])) = true := by rw [← hgen]; simp
    rw [hne]
    refine iteT ⟨fun σ2 H4 => ∃ ls2 fs2 : List Int, σ2 = [some (.ref d), some (.ref a), some (.ref l), some (.ref q)] ∧ H4 l = some (.lst (ls2.map V.int)) ∧ H4 q = some (.lst (fs2.map V.int)) ∧ Kp d g H H4 ∧ StA H4 d g c (T0 + fs2.length) ∧ (fs2 ++ ls2).Perm ns ∧ ls2.length < ls.length,
      fun σ2 H4 ⟨ls2, fs2, q1, q2, q3, q4, q5, q6, q7⟩ => ⟨ls2.length, q7, ls2, fs2, q1, q2, q3, q4, q5, q6, rfl⟩, ?_⟩
    refine ⟨_, rfl, .inl ⟨rfl, _, SqL.of hq3⟩, ?_⟩
    refine ⟨_, rfl, .inl ⟨rfl, _, SqL.of hl3⟩, ?_⟩
    refine ⟨_, rfl, ?_⟩
    refine ⟨_, rfl, l, _, rfl, .inl (SqL.of hl3), d, g, c, T0 + fs.length, _, rfl, S3, by omega, ?_, ?_, fun r H4 r0 r1 k4 S4 => ?_⟩
    · rw [List.length_map]; omega
    · rw [List.length_map]; omega
    rw [List.length_map] at r1
    have hl4 := k4 _ _ hl3 dl.symm gl.symm
    have hq4 := k4 _ _ hq3 dq.symm gq.symm
    have hrt : r.toNat < ls.length := by omega
    refine ⟨l, _, r, r.toNat, .int (ls[r.toNat]), rfl, rfl, hl4, by omega, by omega, seqIx r0 (by rw [List.length_map]; exact r1), ?_, ?_⟩
    · rw [List.getElem?_map, List.getElem?_eq_getElem hrt]; rfl
    have ee : (ls.map V.int).eraseIdx r.toNat = (ls.eraseIdx r.toNat).map V.int := map_erase V.int ls r.toNat
    rw [ee]
    have hq5 : (upd H4 l (.lst ((ls.eraseIdx r.toNat).map V.int))) q = some (.lst (fs.map V.int)) := by rw [upd_ne ql]; exact hq4
    refine ⟨q, _, _, rfl, rfl, hq5, ?_, ls.eraseIdx r.toNat, fs ++ [ls[r.toNat]], rfl, ?_, ?_, ?_, ?_, ?_, ?_⟩
    · exact small1000 (by rw [List.length_map]; omega)
    · rw [upd_ne ql.symm, upd_same]
    · rw [upd_same, List.map_append]; rfl
    · refine fun b o e x y => ?_
      have e4 := (k3.trans k4) b o e x y
      rw [upd_ne (ne_of_none e hq0), upd_ne (ne_of_none e hl)]
      exact e4
    · refine ((S4.put dl gl cl).put dq gq cq).mono ?_
      simp
      omega
    · have := erase_perm (List.getElem?_eq_getElem hrt)
      refine List.Perm.trans ?_ pm
      rw [List.append_assoc]
      exact List.Perm.append_left fs this
    · rw [List.length_eraseIdx_of_lt hrt]; omega
end
end Pu

namespace Ch
open Pu
def every (many : Nat) : List (List Int) := (sets many).filter fun p => !decide (p = [])
theorem mem_every {many : Nat} {p : List Int} : p ∈ every many ↔ p ∈ sets many ∧ p ≠ [] := by
  unfold every
  rw [List.mem_filter]
  simp
theorem of_every {many : Nat} {p : List Int} (h : p ∈ every many) : p ≠ [] ∧ p.Pairwise (· < ·) ∧ ∀ o ∈ p, 0 ≤ o ∧ o < many :=
  ⟨(mem_every.mp h).2, sets_one many p (mem_every.mp h).1⟩
theorem to_every {many : Nat} {p : List Int} (h : p ≠ []) (h1 : p.Pairwise (· < ·)) (h2 : ∀ o ∈ p, 0 ≤ o ∧ o < many) : p ∈ every many := mem_every.mpr ⟨sets_all many p h1 h2, h⟩
theorem single_every {many : Nat} {o : Int} (h0 : 0 ≤ o) (h1 : o < many) : [o] ∈ every many := to_every (by simp) (List.pairwise_singleton _ _) fun x hx => by rw [List.mem_singleton.mp hx]; exact ⟨h0, h1⟩
theorem every_len {many : Nat} (m6 : many ≤ 6) : (every many).length ≤ 63 := by
  obtain ⟨r, e, h⟩ := sets_hd many
  have l := sets_le m6
  unfold every
  rw [e] at l ⊢
  rw [List.filter_cons_of_neg (by simp)]
  have := List.length_filter_le (fun p : List Int => !decide (p = [])) r
  simp at l
  omega
theorem every_ne {many : Nat} (m1 : 1 ≤ many) : every many ≠ [] := List.ne_nil_of_mem (single_every (o := 0) (by omega) (by omega))
theorem with_len {many : Nat} (m1 : 1 ≤ many) (m6 : many ≤ 6) {o : Int} {G : List Int → Bool} : ((every many).filter fun p => decide (o ∈ p) && G p).length ≤ 62 := by
  have l := every_len m6
  by_cases h : many = 1
  · subst h
    refine Nat.le_trans (List.length_filter_le _ _) (by decide +kernel)
  · have hx : ∃ x : Int, 0 ≤ x ∧ x < many ∧ x ≠ o := by
      by_cases e : o = 0
      · exact ⟨1, by omega, by omega, by omega⟩
      · exact ⟨0, by omega, by omega, fun z => e z.symm⟩
    obtain ⟨x, x0, x1, xo⟩ := hx
    have := (List.length_filter_lt_length_iff_exists (l := every many) (p := fun p => decide (o ∈ p) && G p)).mpr ⟨[x], single_every x0 x1, by simp [Ne.symm xo]⟩
    omega
structure Lots (many : Nat) (lots : List (List Int)) : Prop where
  lne : lots ≠ []
  llen : lots.length ≤ 64
  one : ∀ l ∈ lots, l ≠ [] ∧ l.Pairwise (· < ·) ∧ ∀ o ∈ l, 0 ≤ o ∧ o < many
  lasc : lots.Pairwise (fun a b => HT.lexLt a b = true)
  anti : ∀ a ∈ lots, ∀ b ∈ lots, a ≠ b → ∃ o ∈ b, o ∉ a
theorem min_ex : ∀ {l : List (List Int)}, l ≠ [] → ∃ p ∈ l, ∀ q ∈ l, p.length ≤ q.length
  | [], h => absurd rfl h
  | [a], _ => ⟨a, by simp, fun q hq => by rw [List.mem_singleton.mp hq]; exact Nat.le_refl _⟩
  | a :: b :: r, _ => by
    obtain ⟨p, hp, h⟩ := min_ex (l := b :: r) (by simp)
    by_cases e : a.length ≤ p.length
    · refine ⟨a, by simp, fun q hq => ?_⟩
      rcases List.mem_cons.mp hq with rfl | hq
      · exact Nat.le_refl _
      · exact Nat.le_trans e (h q hq)
    · refine ⟨p, List.mem_cons_of_mem _ hp, fun q hq => ?_⟩
      rcases List.mem_cons.mp hq with rfl | hq
      · omega
      · exact h q hq
theorem asc_perm {a b : List Int} (h : a.Pairwise (· < ·)) (g : b.Pairwise (· < ·)) (m : ∀ k ∈ a, k ∈ b) (l : b.length ≤ a.length) : a = b := by
  have n : a.Nodup := h.imp fun h => Int.ne_of_lt h
  refine usrtI_eq h g fun k => ⟨m k, fun hk => ?_⟩
  by_cases hka : k ∈ a
  · exact hka
  · have nk : (k :: a).Nodup := List.nodup_cons.mpr ⟨hka, n⟩
    have := List.Nodup.length_le_of_subset nk (l₂ := b) fun x hx => by
      rcases List.mem_cons.mp hx with rfl | hx
      · exact hk
      · exact m x hx
    simp at this
    omega
theorem lots_ok {many : Nat} {parts : List (List Int)} (ne : parts ≠ []) (hp : ∀ p ∈ parts, p ∈ every many) (hl : parts.length < 64) : Lots many (leastOf parts) := by
  have mem : ∀ p, p ∈ leastOf parts ↔ p ∈ parts ∧ ∀ q ∈ parts, q ≠ p → ∃ o ∈ q, o ∉ p := fun p => by
    unfold leastOf
    rw [List.mem_filter, mem_usrtL]
    refine and_congr_right fun hpp => ?_
    rw [Bool.not_eq_true', List.any_eq_false]
    constructor
    · intro h q hq ne
      have := h q hq
      simp only [ne, decide_false, Bool.not_false, Bool.true_and, List.all_eq_true, decide_eq_true_eq] at this
      by_cases z : ∃ o ∈ q, o ∉ p
      · exact z
      · exact absurd (fun o ho => by
          by_cases y : o ∈ p
          · exact y
          · exact absurd ⟨o, ho, y⟩ z) this
    · intro h q hq c
      simp only [Bool.and_eq_true, Bool.not_eq_true', decide_eq_false_iff_not, List.all_eq_true, decide_eq_true_eq] at c
      obtain ⟨o, ho, hn⟩ := h q hq c.1
      exact hn (c.2 o ho)
  refine ⟨?_, ?_, fun l h => of_every (hp l ((mem l).mp h).1), ?_, fun a ha b hb n => ((mem a).mp ha).2 b ((mem b).mp hb).1 fun e => n e.symm⟩
  · obtain ⟨p, h, hm⟩ := min_ex ne
    refine List.ne_nil_of_mem ((mem p).mpr ⟨h, fun q hq n => ?_⟩)
    by_cases z : ∃ o ∈ q, o ∉ p
    · exact z
    · exact absurd (asc_perm (of_every (hp q hq)).2.1 (of_every (hp p h)).2.1 (fun o ho => by
        by_cases y : o ∈ p
        · exact y
        · exact absurd ⟨o, ho, y⟩ z) (hm q hq)) n
  · refine Nat.le_trans (List.length_filter_le _ _) ?_
    have nd : (usrtL parts).Nodup := (usrtL_pw parts).imp fun h e => by subst e; have := NtL.lex_asym _ _ h; rw [h] at this; cases this
    have := List.Nodup.length_le_of_subset nd (l₂ := parts) fun x hx => mem_usrtL.mp hx
    omega
  · exact (usrtL_pw parts).filter _
end Ch

namespace Pu
open PySem PySem.Spec PyProof.Rows L2
section
variable {K : PySem.W.Frag} {d g c : Addr} {N N' : NP} {σ : L2.St} {H H' : Hp} {ta tb te tl : TE} {t u : TT} {x y z : PyData} {v : V} {ds : List PyData} {T : Int} {n m : Nat}
theorem sq_un2 {D : Ends} {rest : TS} {i j : Nat} {Rs : List PyData → Prop} (h : SE d g c n N te σ H (fun z => ∃ ds, z = .tuple ds ∧ Rs ds)) (f : Fr N H) (s : Sub d g N) (S : StA H d g c T) (b : T + n ≤ TB) (h2 : ∀ ds, Rs ds → ds.length = 2)
    (k : ∀ v u x y H2, Rs [x, y] → Kp d g H H2 → StA H2 d g c (T + n) → Fr N H2 → Rp N H2 v x → Rp N H2 u y → rest D ((σ.set i (some v)).set j (some u)) H2) :
    tSeq (tAsg te (gTup K 2 (gCons (gName i) (gCons (gName j) gNil)))) rest D σ H := h.run f s S b fun v z H2 hz k2 S2 f2 r => by
  obtain ⟨ds, rfl, hds⟩ := hz
  have l2 := h2 ds hds
  match ds, l2, r, hds with
  | [x, y], _, .tup n hh (.cons r1 (.cons r2 .nil)), hds => exact ⟨_, _, rfl, SqT.of hh, rfl, _, _, rfl, _, _, rfl, rfl, k _ _ x y H2 hds k2 S2 f2 r1 r2⟩
theorem lay_tIs : ∀ nss : List (List Int), PyData.canLayAll0 (nss.map tI) = true
  | [] => rfl
  | i :: r => by
    show (PyData.canLay0 (tI i) && PyData.canLayAll0 (r.map tI)) = true
    rw [lay_tIs r, Bool.and_true]
    exact lay_ints i
theorem dep_tIs : ∀ nss : List (List Int), PyData.depthAll (nss.map tI) ≤ 1
  | [] => Nat.zero_le _
  | i :: r => by
    show max (PyData.depth (tI i)) (PyData.depthAll (r.map tI)) ≤ 1
    refine Nat.max_le.mpr ⟨?_, dep_tIs r⟩
    show PyData.depthAll (i.map PyData.int) + 1 ≤ 1
    rw [dep_ints]; exact Nat.le_refl _
theorem shaped_lT (nss : List (List Int)) : SeqAt.shaped (lT nss) = true := by
  show (PyData.canLayAll0 (nss.map tI) && decide (PyData.depthAll (nss.map tI) + 1 ≤ 64)) = true
  have := dep_tIs nss
  rw [lay_tIs, Bool.true_and, decide_eq_true_eq]
  omega
theorem r2_neLT {nss : List (List Int)} : R2D (rNeD K) (lT nss) (.list []) (.bool (!nss.isEmpty)) := by
  have := r2_neD (K := K) (shaped_lT nss) (y := .list []) (by rfl)
  rw [eqv_lnil] at this
  have e : (nss.map tI).isEmpty = nss.isEmpty := by cases nss <;> rfl
  rwa [e] at this
end
/-- ints of a list of data of which each is one -/
theorem ints_of {R : Int → Prop} : ∀ {es : List PyData}, (∀ e ∈ es, ∃ r : Int, e = .int r ∧ R r) → ∃ ws : List Int, es = ws.map PyData.int ∧ ∀ r ∈ ws, R r
  | [], _ => ⟨[], rfl, fun r h => nomatch h⟩
  | e :: es, h => by
    obtain ⟨r, rfl, hr⟩ := h e (by simp)
    obtain ⟨ws, rfl, hw⟩ := ints_of (es := es) fun x hx => h x (List.mem_cons_of_mem _ hx)
    exact ⟨r :: ws, rfl, fun x hx => by
      rcases List.mem_cons.mp hx with rfl | hx
      · exact hr
      · exact hw x hx⟩
theorem tIs_of {R : List Int → Prop} : ∀ {es : List PyData}, (∀ e ∈ es, ∃ r : List Int, e = tI r ∧ R r) → ∃ ws : List (List Int), es = ws.map tI ∧ ∀ r ∈ ws, R r
  | [], _ => ⟨[], rfl, fun r h => nomatch h⟩
  | e :: es, h => by
    obtain ⟨r, rfl, hr⟩ := h e (by simp)
    obtain ⟨ws, rfl, hw⟩ := tIs_of (es := es) fun x hx => h x (List.mem_cons_of_mem _ hx)
    exact ⟨r :: ws, rfl, fun x hx => by
      rcases List.mem_cons.mp hx with rfl | hx
      · exact hr
      · exact hw x hx⟩
theorem sum_le : ∀ {ws : List Int}, (∀ r ∈ ws, 0 ≤ r ∧ r < 4) → 0 ≤ ws.sum ∧ ws.sum ≤ 4 * ws.length
  | [], _ => by simp
  | a :: r, h => by
    have ha := h a (by simp)
    have := sum_le (ws := r) fun x hx => h x (List.mem_cons_of_mem _ hx)
    rw [List.sum_cons, List.length_cons]
    omega
def D_lots : List PyData → Prop := fun ds => ∃ many : Nat, ds = [.int (many : Int)] ∧ 1 ≤ many ∧ many ≤ 6
def R_lots : List PyData → PyData → Prop := fun ds z => ∃ (many : Nat) (lots : List (List Int)), ds = [.int (many : Int)] ∧ z = tT lots ∧ Ch.Lots many lots
section
variable {P : Program} {w : World} {K : PySem.W.Frag} {mg : Str → Option Value} {base : Heap}
abbrev s_L_sh_lots : Stmt := top 46
theorem sc_L_sh_lots : FnScope ["state", "many", "kind_here", "every", "part", "size", "parts", "weights", "owner", "quota", "turn"] ["state", "many"] (defScope s_L_sh_lots) := ⟨rfl, rfl, rfl, by decide +kernel, rfl, by decide +kernel, by decide +kernel⟩
theorem ok_lots {f : Addr} {fd : FuncData} (F : Fun K "_law_sh_lots" "_law_sh_lots" s_L_sh_lots f fd) (T : Bi mg) (D_L_draw : Def P w K mg base "_law_draw" 2 ["state", "size_here"] spDraw) (D_L_pick : Def P w K mg base "_law_pick" 3 ["state", "several"] (spPick K))
    (D_L_sh_sets : Def P w K mg base "_law_sh_sets" 1 ["many"] (spP R_sets)) (D_L_sh_least : Def P w K mg base "_law_sh_least" 2 ["parts"] (spP R_least)) :
    FnOk P w K mg base CX0 4 f fd ["state", "many"] (spSt 16 D_lots R_lots) := by
  obtain ⟨f_L_sh_least, fd_L_sh_least, G_L_sh_least, b_L_sh_least, k_L_sh_least, m_L_sh_least⟩ := D_L_sh_least.ex
  obtain ⟨f_L_draw, fd_L_draw, G_L_draw, b_L_draw, k_L_draw, m_L_draw⟩ := D_L_draw.ex
  obtain ⟨f_L_pick, fd_L_pick, G_L_pick, b_L_pick, k_L_pick, m_L_pick⟩ := D_L_pick.ex
  obtain ⟨f_L_sh_sets, fd_L_sh_sets, G_L_sh_sets, b_L_sh_sets, k_L_sh_sets, m_L_sh_sets⟩ := D_L_sh_sets.ex
  refine F.ok sc_L_sh_lots (len_spSt fun ds ⟨ns, e, _⟩ => by rw [e]; rfl) (fun cdv A outer s H vs Q E hr h => ?_)
  obtain ⟨d, g, c, T0, N, us, ds, rfl, sb, fr, S, tb, rs, ⟨many, rfl, m1, m6⟩, k⟩ := h
  obtain ⟨v, rfl, r⟩ := rps1 rs
  have tb' : T0 + 16 ≤ TB := tb
  have evl := Ch.every_len m6
  refine ⟨_, pss_cons (ps_asg (pe_tup (pa_cons (pe_call G_L_draw (hr.mono (by decide)) rfl m_L_draw k_L_draw b_L_draw .nil pass0 (pa_cons (pv 0) (pa_cons pe_int pa_nil))) (pa_cons (pe_lc (own := [("part", 4)]) rfl sc_L_sh_lots.nd (pi_seqK K (pe_call G_L_sh_sets (hr.mono (by decide)) rfl m_L_sh_sets k_L_sh_sets b_L_sh_sets .nil pass0 (pa_cons (pv 1) pa_nil))) (blkOk_by (own := [("part", 4)]) (N := ["state", "many", "kind_here", "every", "part", "size", "parts", "weights", "owner", "quota", "turn"]) (sc := defScope s_L_sh_lots) (by decide +kernel)) (fun _ _ _ _ _ => pg_name (i := 4) sc_L_sh_lots.nd rfl (Or.inl rfl)) (fun _ _ _ _ _ => pts_one (pt_cmpR (op_neK K hr.units) (pv 4) (pe_tup pa_nil) (nomark _))) (fun _ _ _ _ _ => pv 4)) pa_nil))) (pg_tupK K (n := 2) rfl (pgs_cons (pg_name (i := 2) sc_L_sh_lots.nd rfl (Or.inl rfl)) (pgs_cons (pg_name (i := 3) sc_L_sh_lots.nd rfl (Or.inr rfl)) pgs_nil))))
      (pss_cons (ps_if (pt_cmpR (op_eqK K hr.units) (pv 2) pe_int (nomark _)) (pss_cons (ps_set (i := 5) sc_L_sh_lots.nd rfl (Or.inr rfl) (pe_op (op_addK K) pe_int (pe_call G_L_draw (hr.mono (by decide)) rfl m_L_draw k_L_draw b_L_draw .nil pass0 (pa_cons (pv 0) (pa_cons (pv 1) pa_nil)))))
      (pss_one (ps_setLc (i := 6) (own := [("part", 4)]) rfl sc_L_sh_lots.nd rfl rfl (sw_true rfl rfl rfl (by decide +kernel)) (pi_seqK K (pv 3)) (blkOk_by (own := [("part", 4)]) (N := ["state", "many", "kind_here", "every", "part", "size", "parts", "weights", "owner", "quota", "turn"]) (sc := defScope s_L_sh_lots) (by decide +kernel)) (fun _ _ _ _ _ => pg_name (i := 4) sc_L_sh_lots.nd rfl (Or.inl rfl)) (fun _ _ _ _ _ => pts_one (pt_cmpR (op_eqK K hr.units) (pe_callB (call_lenK K) (by rfl) T.len (by decide +kernel) (pa_cons (pv 4) pa_nil)) (pv 5) (nomark _))) (fun _ _ _ _ _ => pv 4)))) (pss_one (ps_if (pt_cmpR (op_ltK K hr.units0) (pv 2) pe_int (nomark _)) (pss_cons (ps_set (i := 7) sc_L_sh_lots.nd rfl (Or.inr rfl) (pe_lc (own := [("owner", 8)]) rfl sc_L_sh_lots.nd (pi_range1 rfl T.range (pa_cons (pv 1) pa_nil)) (blkOk_by (own := [("owner", 8)]) (N := ["state", "many", "kind_here", "every", "part", "size", "parts", "weights", "owner", "quota", "turn"]) (sc := defScope s_L_sh_lots) (by decide +kernel)) (fun _ _ _ _ _ => pg_name (i := 8) sc_L_sh_lots.nd rfl (Or.inl rfl)) (fun _ _ _ _ _ => pts_nil) (fun _ _ _ _ _ => pe_call G_L_draw (hr.mono (by decide)) rfl m_L_draw k_L_draw b_L_draw .nil pass0 (pa_cons (pv 0) (pa_cons pe_int pa_nil)))))
      (pss_cons (ps_set (i := 9) sc_L_sh_lots.nd rfl (Or.inr rfl) (pe_ifExp (pt_cmpR (op_eqK K hr.units) (pv 2) pe_int (nomark _)) (pe_op (op_addK K) (pe_op op_fdiv (pe_callB (cr_sumK K rfl) (by rfl) T.sum (by decide +kernel) (pa_cons (pv 7) pa_nil)) pe_int) pe_int) (pe_op (op_addK K) pe_int (pe_call G_L_draw (hr.mono (by decide)) rfl m_L_draw k_L_draw b_L_draw .nil pass0 (pa_cons (pv 0) (pa_cons (pe_op (op_addK K) (pe_callB (cr_sumK K rfl) (by rfl) T.sum (by decide +kernel) (pa_cons (pv 7) pa_nil)) pe_int) pa_nil))))))
      (pss_one (ps_setLc (i := 6) (own := [("part", 4)]) rfl sc_L_sh_lots.nd rfl rfl (sw_true rfl rfl rfl (by decide +kernel)) (pi_seqK K (pv 3)) (blkOk_by (own := [("part", 4)]) (N := ["state", "many", "kind_here", "every", "part", "size", "parts", "weights", "owner", "quota", "turn"]) (sc := defScope s_L_sh_lots) (by decide +kernel)) (fun _ _ _ _ _ => pg_name (i := 4) sc_L_sh_lots.nd rfl (Or.inl rfl)) (fun _ _ _ _ _ => pts_one (pt_cmpR op_ge (pe_callB (cr_sumK K rfl) (by rfl) T.sum (by decide +kernel) (pa_cons (pe_lc (own := [("owner", 8)]) rfl sc_L_sh_lots.nd (pi_seqK K (pv 4)) (blkOk_by (own := [("owner", 8)]) (N := ["state", "many", "kind_here", "every", "part", "size", "parts", "weights", "owner", "quota", "turn"]) (sc := { kind := PySem.ScopeKind.function, names := [ (PySem.Str.ofString ".0", PySem.NameKind.local), (PySem.Str.ofString "part", PySem.NameKind.local), (PySem.Str.ofString "sum", PySem.NameKind.globalImplicit), (PySem.Str.ofString "quota", PySem.NameKind.cell), (PySem.Str.ofString "weights", PySem.NameKind.cell)], isGenerator := false, isCoroutine := false, more := [] : PySem.Scope }) (by decide +kernel)) (fun _ _ _ _ _ => pg_name (i := 8) sc_L_sh_lots.nd rfl (Or.inl rfl)) (fun _ _ _ _ _ => pts_nil) (fun _ _ _ _ _ => pe_ix (ix_K K) (pv 7) (pv 8) (fun _ _ => rfl))) pa_nil)) (pv 9) (nomark _))) (fun _ _ _ _ _ => pv 4))))) (pss_one (ps_if (pt_cmpR (op_eqK K hr.units) (pv 2) pe_int (nomark _)) (pss_cons (ps_asg (pe_tup (pa_cons (pe_call G_L_draw (hr.mono (by decide)) rfl m_L_draw k_L_draw b_L_draw .nil pass0 (pa_cons (pv 0) (pa_cons (pv 1) pa_nil))) (pa_cons (pe_call G_L_draw (hr.mono (by decide)) rfl m_L_draw k_L_draw b_L_draw .nil pass0 (pa_cons (pv 0) (pa_cons pe_int pa_nil))) pa_nil))) (pg_tupK K (n := 2) rfl (pgs_cons (pg_name (i := 8) sc_L_sh_lots.nd rfl (Or.inr rfl)) (pgs_cons (pg_name (i := 5) sc_L_sh_lots.nd rfl (Or.inr rfl)) pgs_nil))))
      (pss_cons (ps_setLc (i := 6) (own := [("part", 4)]) rfl sc_L_sh_lots.nd rfl rfl (sw_true rfl rfl rfl (by decide +kernel)) (pi_seqK K (pv 3)) (blkOk_by (own := [("part", 4)]) (N := ["state", "many", "kind_here", "every", "part", "size", "parts", "weights", "owner", "quota", "turn"]) (sc := defScope s_L_sh_lots) (by decide +kernel)) (fun _ _ _ _ _ => pg_name (i := 4) sc_L_sh_lots.nd rfl (Or.inl rfl)) (fun _ _ _ _ _ => pts_one (PW.pt (pw_and (pt_cmpR (op_inK K) (pv 8) (pv 4) rfl) (pw_and1 (pt_cmpR op_gt (pe_callB (call_lenK K) (by rfl) T.len (by decide +kernel) (pa_cons (pv 4) pa_nil)) (pe_callB (call_min2 rfl) (by rfl) T.min (by decide +kernel) (pa_cons (pv 5) (pa_cons (pe_op op_sub (pv 1) pe_int) pa_nil))) (nomark _)))))) (fun _ _ _ _ _ => pv 4))
      (pss_one (ps_set (i := 6) sc_L_sh_lots.nd rfl (Or.inl rfl) (pe_op (op_addK K) (pv 6) (pe_ifExp (pt_cmpR (op_eqK K hr.units) (pe_call G_L_draw (hr.mono (by decide)) rfl m_L_draw k_L_draw b_L_draw .nil pass0 (pa_cons (pv 0) (pa_cons pe_int pa_nil))) pe_int (nomark _)) (pe_lst (pa_cons (pe_call G_L_pick (hr.mono (by decide)) rfl m_L_pick k_L_pick b_L_pick .nil pass0 (pa_cons (pv 0) (pa_cons (pv 3) pa_nil))) pa_nil)) (pe_lst pa_nil))))))) (pss_one (ps_setLc (i := 6) (own := [("turn", 10)]) rfl sc_L_sh_lots.nd rfl rfl (sw_true rfl rfl rfl (by decide +kernel)) (pi_range1 rfl T.range (pa_cons (pe_op (op_addK K) pe_int (pe_call G_L_draw (hr.mono (by decide)) rfl m_L_draw k_L_draw b_L_draw .nil pass0 (pa_cons (pv 0) (pa_cons pe_int pa_nil)))) pa_nil)) (blkOk_by (own := [("turn", 10)]) (N := ["state", "many", "kind_here", "every", "part", "size", "parts", "weights", "owner", "quota", "turn"]) (sc := defScope s_L_sh_lots) (by decide +kernel)) (fun _ _ _ _ _ => pg_name (i := 10) sc_L_sh_lots.nd rfl (Or.inl rfl)) (fun _ _ _ _ _ => pts_nil) (fun _ _ _ _ _ => pe_call G_L_pick (hr.mono (by decide)) rfl m_L_pick k_L_pick b_L_pick .nil pass0 (pa_cons (pv 0) (pa_cons (pv 3) pa_nil))))))))))
      (pss_one (ps_ret (pe_call G_L_sh_least (hr.mono (by decide)) rfl m_L_sh_least k_L_sh_least b_L_sh_least .nil pass0 (pa_cons (pe_ifExp (pt_cmpR (op_neK K hr.units) (pv 6) (pe_lst pa_nil) (nomark _)) (pv 6) (pe_slice (sl_lK K) (pv 3) (po_some (pe_un un_neg pe_int)) po_none)) pa_nil))))), ?_⟩
  refine sq_un2 (n := 1) (se_tup (sa_cons (se_draw (m := 6) rfl de_int (by decide)) (sa_cons (SE.of (R := fun z => z = lT (Ch.every many)) (n := 0) ((de_lc (xs := Ch.sets many) (enc := tI) (fun p => !decide (p = [])) (fun p => tI p) (di_seq (de_call (da_cons (de_var (i := 1) rfl r) da_nil) ⟨many, rfl, m6, rfl⟩)) (by have := Ch.sets_le m6; omega)
      fun a ha x' N' H' u rx => ⟨dt_test (de_op (de_var rfl rx) (de_tup da_nil) (r2_neT (ys := []))), fun _ => de_var rfl rx⟩).is rfl) rfl) sa_nil)) (fun ds ⟨z, rs, e, _, z', rs', e', _, e''⟩ => by subst e'' e' e; simp)) fr sb S (by omega)
    (fun ds ⟨z, rs, e, _, z', rs', e', _, e''⟩ => by subst e'' e' e; rfl) fun v2 v3 x y H1 hxy k1 S1 f1 r2 r3 => ?_
  obtain ⟨_, _, e1, ⟨kd, rfl, kd0, kd6⟩, _, _, e2, rfl, rfl⟩ := hxy
  subst e2
  cases e1
  have fin : ∀ (vp : V) (parts : List (List Int)) (o4 o5 o7 o8 o9 o10 : Option V) (H' : Hp) (T' : Int), Kp d g H1 H' → StA H' d g c T' → T' ≤ T0 + 16 → Rp N H' vp (lT parts) → (∀ p ∈ parts, p ∈ Ch.every many) → parts.length < 64 → ∀ D : Ends, D.rt = Q →
      tRet (tCall (spP R_least) [] E0 (tCons (tIf (tTest (tOp (rNeD K) (tVar 6) (tLst tNil))) (tVar 6) (tSl (rSlL K) (tVar 3) (tPart (tUn (rU fun i => V.int (-i)) (tC (.int 1)))) tNoPart)) tNil)) D [some (.ref d), some v, some v2, some v3, o4, o5, some vp, o7, o8, o9, o10] H' := by
    intro vp parts o4 o5 o7 o8 o9 o10 H' T' k' S' t' rp hp hl D hD
    have f' := f1.kp k' S'
    have r3' := r3.up (Up.kp sb k')
    have ene := Ch.every_ne m1
    obtain ⟨parts2, e2⟩ : ∃ parts2, parts2 = if parts.isEmpty = true then (Ch.every many).drop ((Ch.every many).length - 1) else parts := ⟨_, rfl⟩
    have p2 : parts2 ≠ [] ∧ (∀ p ∈ parts2, p ∈ Ch.every many) ∧ parts2.length < 64 := by
      rw [e2]
      split
      · refine ⟨fun z => ?_, fun p hp => List.mem_of_mem_drop hp, by rw [List.length_drop]; omega⟩
        have h1 := congrArg List.length z
        rw [List.length_drop, List.length_nil] at h1
        have h2 := List.length_pos_iff.mpr ene
        omega
      · rename_i h
        exact ⟨fun z => h (by rw [z]; rfl), hp, hl⟩
    refine dq_ret (de_call (da_cons (de_if (d := lT parts2) (b := !parts.isEmpty) (dt_test (de_op (de_var rfl rp) (de_lst da_nil) r2_neLT)) (fun hb => (de_var rfl rp).is ?_) (fun hb => (de_slL (de_var rfl r3') (do_some (de_neg de_int)) do_none).is ?_)) da_nil)
      ⟨parts2, rfl, p2.2.2, fun p h => ⟨(Ch.of_every (p2.2.1 p h)).1, by have := asc_len (Ch.of_every (p2.2.1 p h)).2.1 (Ch.of_every (p2.2.1 p h)).2.2; omega⟩, rfl⟩) f' fun v' H4 s4 r4 => ?_
    · rw [e2, if_neg (by simpa using hb)]
    · rw [e2, if_pos (by simpa using hb), lT, List.map_drop]
      have := cutD_last ((Ch.every many).map tI)
      rw [List.length_map] at this
      exact congrArg PyData.list this
    · rw [hD]
      exact k v' _ H4 ⟨many, leastOf parts2, rfl, rfl, Ch.lots_ok p2.1 p2.2.1 p2.2.2⟩ ((k1.trans k').trans (Kp.of s4)) ((S'.same s4).mono (by omega)) r4
  refine dq_if (N := N) (b := decide (kd = 0)) (dt_test (de_op (de_var rfl r2) de_int r2_eqI)) f1 (fun hb H2 s2 => ?_) fun hb H2 s2 => ?_
  · -- sets of one size
    have S2 := S1.same s2
    have f2 := f1.same s2
    have k2 : Kp d g H1 H2 := Kp.of s2
    refine sq_set (n := 1) (R := fun z => ∃ s : Int, z = .int s) ((se_op (SE.of (n := 0) (R := fun z => z = .int 1) de_int rfl) (se_draw (m := many) rfl (de_var rfl ((r.up (Up.kp sb k1)).same s2)) (by omega)) fun x y hx ⟨r, hy, _⟩ => ⟨_, ⟨1 + r, rfl⟩, by subst hx hy; exact r2_addI⟩).cost (by decide)) f2 sb S2 (by omega) fun v5 z H3 hz k3 S3 f3 r5 => ?_
    obtain ⟨sz, rfl⟩ := hz
    have k13 := k2.trans k3
    refine DE.run (N := N) (d := lT ((Ch.every many).filter fun p => decide ((p.length : Int) = sz))) (de_lc (xs := Ch.every many) (enc := tI) (fun p => decide ((p.length : Int) = sz)) (fun p => tI p) (di_seq (de_var rfl (r3.up (Up.kp sb k13)))) (by omega)
      fun a ha x' N' H' u rx => ⟨dt_test (de_op (de_cb (da_cons (de_var rfl rx) da_nil) rk_lenT) (de_var rfl (r5.up u)) r2_eqI), fun _ => de_var rfl rx⟩) f3 fun v6 H4 s4 r6 =>
        fin v6 _ _ _ _ _ _ _ H4 _ (k13.trans (Kp.of s4)) (S3.same s4) (by omega) r6 (fun p hp => (List.mem_filter.mp hp).1) (Nat.lt_of_le_of_lt (List.length_filter_le _ _) (by omega)) _ rfl
  · refine dq_if (N := N) (b := decide (kd < 3)) (dt_test (de_op (de_var rfl (r2.same s2)) de_int r2_ltI)) (f1.same s2) (fun hb3 H3 s3 => ?_) fun hb3 H3 s3 => ?_
    · -- weights and a quota
      have s13 := s2.trans s3
      have S3 := S1.same s13
      have f3 := f1.same s13
      have k13 : Kp d g H1 H3 := Kp.of s13
      refine sq_set (n := 0 + 6 * 1) (se_lc (n := 0) (m := 1) (L := 6) (RI := fun ds => ds = (Ch.rng many).map PyData.int) (R := fun e => ∃ r : Int, e = .int r ∧ 0 ≤ r ∧ r < 4) (SI.of (ds := (Ch.rng many).map PyData.int) ?_ rfl) (fun ds e => by rw [e, List.length_map, Ch.rng_len]; exact m6) (by decide)
        fun ds hds a ha x' N' H' u rx => se_draw (m := 4) rfl de_int (by decide)) f3 sb S3 (by omega) fun v7 z H4 hz k4 S4 f4 r7 => ?_
      · have := di_rng (N := N) (H := H3) (i := (many : Int)) (σ := [some (.ref d), some v, some v2, some v3, none, none, none, none, none, none, none]) (da_cons (de_var (i := 1) rfl ((r.up (Up.kp sb k1)).same s13)) da_nil) (by omega) (by omega)
        rwa [Int.toNat_natCast] at this
      obtain ⟨ds, es, rfl, rfl, el, he⟩ := hz
      obtain ⟨ws, rfl, hw⟩ := ints_of he
      rw [List.length_map, List.length_map, Ch.rng_len] at el
      have sm := sum_le hw
      rw [el] at sm
      have k14 := k13.trans k4
      have u14 := Up.kp sb k14
      have dsum : ∀ {σ : L2.St} {N' : NP} {H' : Hp}, σ[7]? = some (some v7) → Rp N' H' v7 (lI ws) → DE N' (tCB (rSum K) (tCons (tVar 7) tNil)) σ H' (.int ws.sum) := fun hσ hr => de_cb (da_cons (de_var hσ hr) da_nil) rc_sum
      refine sq_set (n := 0 + 1) (R := fun z => ∃ q : Int, z = .int q) (se_if (n := 0) (m := 1) (st_of (dt_test (de_op (de_var rfl (r2.up u14)) de_int r2_eqI))) (SE.of (de_op (de_op (dsum rfl r7) de_int (r2_ic ⟨by decide, by decide⟩)) de_int r2_addI) ⟨_, rfl⟩)
        ((se_op (SE.of (n := 0) (R := fun z => z = .int 1) de_int rfl) (se_draw (m := ws.sum + 1) rfl (de_op (dsum rfl r7) de_int r2_addI) (by omega)) fun x y hx ⟨r, hy, _⟩ => ⟨_, ⟨1 + r, rfl⟩, by subst hx hy; exact r2_addI⟩).cost (by decide))) f4 sb S4 (by omega) fun v9 z H5 hz k5 S5 f5 r9 => ?_
      obtain ⟨qu, rfl⟩ := hz
      have k15 := k14.trans k5
      have r75 := r7.up (Up.kp sb k5)
      refine DE.run (N := N) (d := lT ((Ch.every many).filter fun p => decide (qu ≤ (p.map fun o => ws.getD o.toNat 0).sum))) (de_lc (xs := Ch.every many) (enc := tI) (fun p => decide (qu ≤ (p.map fun o => ws.getD o.toNat 0).sum)) (fun p => tI p) (di_seq (de_var rfl (r3.up (Up.kp sb k15)))) (by omega)
        fun a ha x' N' H' u rx => ⟨dt_test (de_op (de_sumM (xs := a) (g := fun o => ws.getD o.toNat 0) (da_cons (de_lc0 (xs := a) (enc := PyData.int) (fun o => .int (ws.getD o.toNat 0)) (di_seq (de_var rfl rx)) (by have := asc_len (Ch.of_every ha).2.1 (Ch.of_every ha).2.2; omega)
          fun o ho y' N'' H'' u' ry => de_op (de_var rfl ((r75.up u).up u')) (de_var rfl ry) (r2_ix (atI_i ((Ch.of_every ha).2.2 o ho).1 ?_))) da_nil)) (de_var rfl (r9.up u)) r2_b), fun _ => de_var rfl rx⟩) f5 fun v6 H6 s6 r6 =>
          fin v6 _ _ _ _ _ _ _ H6 _ (k15.trans (Kp.of s6)) (S5.same s6) (by omega) r6 (fun p hp => (List.mem_filter.mp hp).1) (Nat.lt_of_le_of_lt (List.length_filter_le _ _) (by omega)) _ rfl
      have bo := (Ch.of_every ha).2.2 o ho
      rw [List.getElem?_map, List.getD_eq_getElem?_getD, List.getElem?_eq_getElem (by omega)]; rfl
    · refine dq_if (N := N) (b := decide (kd = 3)) (dt_test (de_op (de_var rfl ((r2.same s2).same s3)) de_int r2_eqI)) ((f1.same s2).same s3) (fun hb4 H4 s4 => ?_) fun hb4 H4 s4 => ?_
      · -- all that hold one owner
        have s14 := (s2.trans s3).trans s4
        have S4 := S1.same s14
        have f4 := f1.same s14
        have k14 : Kp d g H1 H4 := Kp.of s14
        refine sq_un2 (n := 2) (se_tup (sa_cons (se_draw (m := many) rfl (de_var rfl ((r.up (Up.kp sb k1)).same s14)) (by omega)) (sa_cons (se_draw (m := 2) rfl de_int (by decide)) sa_nil)) (fun ds ⟨z, rs, e, _, z', rs', e', _, e''⟩ => by subst e'' e' e; simp)) f4 sb S4 (by omega)
          (fun ds ⟨z, rs, e, _, z', rs', e', _, e''⟩ => by subst e'' e' e; rfl) fun v8 v5 x y H5 hxy k5 S5 f5 r8 r5 => ?_
        obtain ⟨_, _, e1, ⟨ow, rfl, ow0, ow1⟩, _, _, e2, ⟨sz, rfl, sz0, sz1⟩, rfl⟩ := hxy
        subst e2
        cases e1
        have k15 := k14.trans k5
        have rv5 := (r.up (Up.kp sb k1)).up (Up.kp sb k15)
        have r35 := r3.up (Up.kp sb k15)
        refine dq_set (d := lT ((Ch.every many).filter fun p => decide (ow ∈ p) && decide ((if (many : Int) - 1 < sz then (many : Int) - 1 else sz) < (p.length : Int)))) (de_lc (xs := Ch.every many) (enc := tI) (fun p => decide (ow ∈ p) && decide ((if (many : Int) - 1 < sz then (many : Int) - 1 else sz) < (p.length : Int))) (fun p => tI p) (di_seq (de_var rfl r35)) (by omega)
          fun a ha x' N' H' u rx => ⟨dt_and (dt_test (de_op (de_var rfl (r8.up u)) (de_var rfl rx) r2_in)) fun _ => dt_test (de_op (de_cb (da_cons (de_var rfl rx) da_nil) rk_lenT) (de_cb (da_cons (de_var rfl (r5.up u)) (da_cons (de_op (de_var rfl (rv5.up u)) de_int r2_i) da_nil)) rc_min2) r2_b), fun _ => de_var rfl rx⟩) f5 fun v6 H6 s6 r6 => ?_
        have wl := Ch.with_len m1 m6 (o := ow) (G := fun p => decide ((if (many : Int) - 1 < sz then (many : Int) - 1 else sz) < (p.length : Int)))
        have wi : ∀ p ∈ ((Ch.every many).filter fun p => decide (ow ∈ p) && decide ((if (many : Int) - 1 < sz then (many : Int) - 1 else sz) < (p.length : Int))), p ∈ Ch.every many := fun p hp => (List.mem_filter.mp hp).1
        generalize ((Ch.every many).filter fun p => decide (ow ∈ p) && decide ((if (many : Int) - 1 < sz then (many : Int) - 1 else sz) < (p.length : Int))) = parts at *
        refine SE.run (n := 0 + (1 + 0 + (1 + 0))) (R := fun z => ∃ qs : List (List Int), z = lT (parts ++ qs) ∧ qs.length ≤ 1 ∧ ∀ p ∈ qs, p ∈ Ch.every many) (se_op (SE.of (n := 0) (R := fun z => z = lT parts) (de_var rfl r6) rfl)
          (se_if (R := fun z => ∃ qs : List (List Int), z = lT qs ∧ qs.length ≤ 1 ∧ ∀ p ∈ qs, p ∈ Ch.every many) (st_test (R := fun z => ∃ b, z = .bool b) (se_op (se_draw (m := 4) rfl de_int (by decide)) (SE.of (n := 0) (R := fun z => z = .int 0) de_int rfl) fun x y ⟨r, hx, _⟩ hy => ⟨.bool (decide (r = 0)), ⟨_, rfl⟩, by subst hx hy; exact r2_eqI⟩) fun z h => h)
            ((se_lst (sa_cons (se_pick rfl (de_var rfl (r35.same s6)) rfl (by simpa using Ch.every_ne m1) (by rw [List.length_map]; omega)) sa_nil) (fun ds ⟨z, rs, e, _, e'⟩ => by subst e' e; simp)).imp ?_) (SE.of (de_lst da_nil) ⟨[], rfl, by simp, fun p h => nomatch h⟩)) ?_) (f5.same s6) sb (S5.same s6) (by omega) fun v6' z H7 hz k7 S7 f7 r7 => ?_
        · rintro z ⟨ds, rfl, z1, rs, rfl, hz1, rfl⟩
          obtain ⟨p, hp, rfl⟩ := List.mem_map.mp hz1
          exact ⟨[p], rfl, by simp, fun q hq => by rw [List.mem_singleton.mp hq]; exact hp⟩
        · rintro x y rfl ⟨qs, rfl, ql, qe⟩
          refine ⟨lT (parts ++ qs), ⟨qs, rfl, ql, qe⟩, ?_⟩
          have := r2_addL (K := K) (xs := parts.map tI) (ys := qs.map tI) (by rw [List.length_map, List.length_map]; omega)
          rwa [← List.map_append] at this
        · obtain ⟨qs, rfl, ql, qe⟩ := hz
          refine fin v6' _ _ _ _ _ _ _ H7 _ ((k15.trans (Kp.of s6)).trans k7) S7 (by omega) r7 (fun p hp => ?_) (by rw [List.length_append]; omega) _ rfl
          rcases List.mem_append.mp hp with hp | hp
          · exact wi p hp
          · exact qe p hp
      · -- some sets
        have s14 := (s2.trans s3).trans s4
        have S4 := S1.same s14
        have f4 := f1.same s14
        have k14 : Kp d g H1 H4 := Kp.of s14
        refine SE.run (n := 0 + 1 + 4 * 1) (se_lc (n := 0 + 1) (m := 1) (L := 4) (RI := fun ds => ∃ i : Int, ds = (Ch.rng i.toNat).map PyData.int ∧ 0 ≤ i ∧ i ≤ 4) (R := fun e => ∃ p : List Int, e = tI p ∧ p ∈ Ch.every many)
          (si_rng (R := fun i => 0 ≤ i ∧ i ≤ 4) (se_op (SE.of (n := 0) (R := fun z => z = .int 1) de_int rfl) (se_draw (m := 4) rfl de_int (by decide)) fun x y hx ⟨r, hy, r0, r1⟩ => ⟨_, ⟨1 + r, rfl, by omega, by omega⟩, by subst hx hy; exact r2_addI⟩) fun i hi => by omega)
          (fun ds ⟨i, e, i0, i1⟩ => by rw [e, List.length_map, Ch.rng_len]; omega) (by decide)
          fun ds hds a ha x' N' H' u rx => (se_pick rfl (de_var rfl ((r3.same s14).up u)) rfl (by simpa using Ch.every_ne m1) (by rw [List.length_map]; omega)).imp fun z hz => by
            obtain ⟨p, hp, rfl⟩ := List.mem_map.mp hz
            exact ⟨p, rfl, hp⟩) f4 sb S4 (by omega) fun v6 z H5 hz k5 S5 f5 r6 => ?_
        obtain ⟨ds, es, ⟨i, rfl, i0, i1⟩, rfl, el, he⟩ := hz
        obtain ⟨ps, rfl, hp⟩ := tIs_of he
        rw [List.length_map, List.length_map, Ch.rng_len] at el
        exact fin v6 _ _ _ _ _ _ _ H5 _ (k14.trans k5) S5 (by omega) r6 hp (by omega) _ rfl
end
end Pu

namespace Pu
open PySem PySem.Spec PyProof.Rows L2
section
variable {K : PySem.W.Frag} {d g c : Addr} {N N' : NP} {σ : L2.St} {H H' : Hp} {ta tb te tl : TE} {t u : TT} {x y z : PyData} {v : V} {ds : List PyData} {T : Int} {n m : Nat}
/-- if c: x = e -/
theorem sq_ifA {D : Ends} {rest : TS} {cc : TT} {i : Nat} {R : PyData → Prop} {v0 : V} {z0 : PyData} (h : ST d g c n N cc σ H) (ha : SE d g c m N te σ H R) (hσ : σ[i]? = some (some v0)) (r0 : Rp N H v0 z0) (hz0 : R z0) (f : Fr N H) (s : Sub d g N) (S : StA H d g c T) (b : T + (n + m : Nat) ≤ TB)
    (k : ∀ v z H2, R z → Kp d g H H2 → StA H2 d g c (T + (n + m : Nat)) → Fr N H2 → Rp N H2 v z → rest D (σ.set i (some v)) H2) : tSeq (tIfS cc (tAsg te (gName i)) tNext) rest D σ H :=
  sq_if h f s S (by omega) (fun H2 k2 S2 f2 => (ha.up (Up.kp s k2)).run f2 s S2 (by omega) fun v z H3 hz k3 S3 f3 r3 => k v z H3 hz (k2.trans k3) (S3.mono (by omega)) f3 r3)
    fun H2 k2 S2 f2 => by
      have e : σ.set i (some v0) = σ := by
        refine List.ext_getElem? fun j => ?_
        by_cases hj : i = j
        · subst hj
          rw [List.getElem?_set_self (by
            rcases Nat.lt_or_ge i σ.length with h | h
            · exact h
            · rw [List.getElem?_eq_none h] at hσ; cases hσ), hσ]
        · rw [List.getElem?_set_ne hj]
      have := k v0 z0 H2 hz0 k2 (S2.mono (by omega)) f2 (r0.up (Up.kp s k2))
      rwa [e] at this
end
theorem rng_asc (n : Nat) : (Ch.rng n).Pairwise (· < ·) := by
  unfold Ch.rng
  rw [List.pairwise_map]
  exact List.pairwise_lt_range.imp fun h => Int.ofNat_lt.mpr h
theorem props_ok {many k : Nat} {ms : List Int} (m1 : 1 ≤ many) (p : ms.Perm (Ch.rng many)) (k1 : 1 ≤ k) : srtI (ms.take k) ≠ [] ∧ (srtI (ms.take k)).Pairwise (· < ·) ∧ ∀ o ∈ srtI (ms.take k), 0 ≤ o ∧ o < many := by
  have l := p.length_eq
  rw [Ch.rng_len] at l
  have nd : ms.Nodup := p.nodup_iff.mpr ((rng_asc many).imp fun h => Int.ne_of_lt h)
  have sp := srtI_perm (ms.take k)
  refine ⟨fun e => ?_, ?_, fun o ho => Ch.mem_rng.mp (p.mem_iff.mp (List.mem_of_mem_take (sp.mem_iff.mp ho)))⟩
  · have := sp.length_eq
    rw [e, List.length_take, List.length_nil] at this
    omega
  · have n2 : (srtI (ms.take k)).Nodup := sp.nodup_iff.mpr (nd.sublist (List.take_sublist _ _))
    exact (List.pairwise_and_iff.mpr ⟨srtI_pw (ms.take k), n2⟩).imp fun h => by
      have := h.1; have := h.2; omega
theorem ch2_of {many : Nat} {props : List Int} {lots : List (List Int)} (m1 : 1 ≤ many) (m6 : many ≤ 6) (hp : props ≠ [] ∧ props.Pairwise (· < ·) ∧ ∀ o ∈ props, 0 ≤ o ∧ o < many) (L : Ch.Lots many lots) : Ch2 many props lots :=
  ⟨⟨m1, m6, hp.1, hp.2.1, hp.2.2, L.lne, L.llen, L.one⟩, L.lasc, L.anti⟩
def D_char : List PyData → Prop := fun ds => ∃ most : Int, ds = [.int most] ∧ 3 ≤ most ∧ most ≤ 6
def R_char : List PyData → PyData → Prop := fun ds z => ∃ many props lots, z = chD many props lots ∧ Ch2 many props lots
section
variable {P : Program} {w : World} {K : PySem.W.Frag} {mg : Str → Option Value} {base : Heap}
abbrev s_L_sh_charter : Stmt := top 47
theorem sc_L_sh_charter : FnScope ["state", "most", "many", "size", "proposers"] ["state", "most"] (defScope s_L_sh_charter) := ⟨rfl, rfl, rfl, by decide +kernel, rfl, by decide +kernel, by decide +kernel⟩
theorem ok_charter {f : Addr} {fd : FuncData} (F : Fun K "_law_sh_charter" "_law_sh_charter" s_L_sh_charter f fd) (T : Bi mg) (D_L_draw : Def P w K mg base "_law_draw" 2 ["state", "size_here"] spDraw) (D_L_pick : Def P w K mg base "_law_pick" 3 ["state", "several"] (spPick K))
    (D_L_mixed : Def P w K mg base "_law_mixed" 3 ["state", "several"] (spSt 6 D_mix R_mix)) (D_L_sh_lots : Def P w K mg base "_law_sh_lots" 4 ["state", "many"] (spSt 16 D_lots R_lots)) :
    FnOk P w K mg base CX0 5 f fd ["state", "most"] (spSt 24 D_char R_char) := by
  obtain ⟨f_L_sh_lots, fd_L_sh_lots, G_L_sh_lots, b_L_sh_lots, k_L_sh_lots, m_L_sh_lots⟩ := D_L_sh_lots.ex
  obtain ⟨f_L_mixed, fd_L_mixed, G_L_mixed, b_L_mixed, k_L_mixed, m_L_mixed⟩ := D_L_mixed.ex
  obtain ⟨f_L_pick, fd_L_pick, G_L_pick, b_L_pick, k_L_pick, m_L_pick⟩ := D_L_pick.ex
  obtain ⟨f_L_draw, fd_L_draw, G_L_draw, b_L_draw, k_L_draw, m_L_draw⟩ := D_L_draw.ex
  refine F.ok sc_L_sh_charter (len_spSt fun ds ⟨ns, e, _⟩ => by rw [e]; rfl) (fun cdv A outer s H vs Q E hr h => ?_)
  obtain ⟨d, g, c, T0, N, us, ds, rfl, sb, fr, S, tb, rs, ⟨most, rfl, m3, m6⟩, k⟩ := h
  obtain ⟨v, rfl, r⟩ := rps1 rs
  have tb' : T0 + 24 ≤ TB := tb
  refine ⟨_, pss_cons (ps_set (i := 2) sc_L_sh_charter.nd rfl (Or.inl rfl) (pe_op (op_addK K) pe_int (pe_call G_L_draw (hr.mono (by decide)) rfl m_L_draw k_L_draw b_L_draw .nil pass0 (pa_cons (pv 0) (pa_cons (pv 1) pa_nil)))))
      (pss_cons (ps_set (i := 3) sc_L_sh_charter.nd rfl (Or.inl rfl) (pe_callB (call_min2 rfl) (by rfl) T.min (by decide +kernel) (pa_cons (pv 2) (pa_cons (pe_call G_L_pick (hr.mono (by decide)) rfl m_L_pick k_L_pick b_L_pick .nil pass0 (pa_cons (pv 0) (pa_cons (pe_lst (pa_cons pe_int (pa_cons pe_int (pa_cons pe_int (pa_cons pe_int (pa_cons pe_int (pa_cons (pv 2) pa_nil))))))) pa_nil))) pa_nil))))
      (pss_cons (ps_set (i := 4) sc_L_sh_charter.nd rfl (Or.inl rfl) (pe_callTy (call_tupK K) (by rfl) T.tuple (by decide +kernel) (pa_cons (pe_callB (cr_sortIK K) (by rfl) T.sorted (by decide +kernel) (pa_cons (pe_slice (sl_lK K) (pe_call G_L_mixed (hr.mono (by decide)) rfl m_L_mixed k_L_mixed b_L_mixed .nil pass0 (pa_cons (pv 0) (pa_cons (pe_listRg rfl (by rfl) T.list (prg_1 (by rfl) T.range (pv 2))) pa_nil))) po_none (po_some (pv 3))) pa_nil)) pa_nil)))
      (pss_one (ps_ret (pe_tup (pa_cons (pv 2) (pa_cons (pv 4) (pa_cons (pe_call G_L_sh_lots (hr.mono (by decide)) rfl m_L_sh_lots k_L_sh_lots b_L_sh_lots .nil pass0 (pa_cons (pv 0) (pa_cons (pv 2) pa_nil))) pa_nil)))))))), ?_⟩
  refine sq_set (n := 0 + 1) (R := fun z => ∃ m : Nat, z = .int (m : Int) ∧ 1 ≤ m ∧ m ≤ 6) (se_op (SE.of (n := 0) (R := fun z => z = .int 1) de_int rfl) (se_draw (m := most) rfl (de_var rfl r) (by omega)) fun x y hx ⟨r, hy, r0, r1⟩ => ⟨_, ⟨(1 + r).toNat, rfl, by omega, by omega⟩, by
    subst hx hy
    rw [Int.toNat_of_nonneg (by omega)]
    exact r2_addI⟩) fr sb S (by omega) fun v2 z H1 hz k1 S1 f1 r2 => ?_
  obtain ⟨many, rfl, m1, mm6⟩ := hz
  refine sq_set (n := 0 + (1 + 0)) (R := fun z => ∃ s : Nat, z = .int (s : Int) ∧ 1 ≤ s) (se_cb (sa_cons (SE.of (n := 0) (R := fun z => z = .int (many : Int)) (de_var rfl r2) rfl) (sa_cons (se_pick rfl (de_lst (da_cons de_int (da_cons de_int (da_cons de_int (da_cons de_int (da_cons de_int (da_cons (de_var rfl r2) da_nil))))))) rfl (by simp) (by simp)) sa_nil)) ?_) f1 sb S1 (by omega) fun v3 z H2 hz k2 S2 f2 r3 => ?_
  · rintro ds ⟨z, rs, rfl, rfl, z', rs', rfl, hz', rfl⟩
    have : ∃ i : Int, z' = .int i ∧ 1 ≤ i := by
      simp only [List.mem_cons, List.not_mem_nil, or_false] at hz'
      rcases hz' with rfl | rfl | rfl | rfl | rfl | rfl
      · exact ⟨_, rfl, by decide⟩
      · exact ⟨_, rfl, by decide⟩
      · exact ⟨_, rfl, by decide⟩
      · exact ⟨_, rfl, by decide⟩
      · exact ⟨_, rfl, by decide⟩
      · exact ⟨_, rfl, by omega⟩
    obtain ⟨i, rfl, hi⟩ := this
    refine ⟨_, ⟨(if i < (many : Int) then i else (many : Int)).toNat, rfl, ?_⟩, ?_⟩
    · split <;> omega
    · rw [Int.toNat_of_nonneg (by split <;> omega)]
      exact rc_min2
  obtain ⟨sz, rfl, sz1⟩ := hz
  have r22 := r2.up (Up.kp sb k2)
  have rl := de_listRg (te := tVar 2) (N := N) (H := H2) (σ := [some (.ref d), some v, some v2, some v3, none]) (i := (many : Int)) (de_var rfl r22) (by omega) (by omega)
  rw [Int.toNat_natCast] at rl
  refine sq_set (n := 6) (R := fun z => ∃ props : List Int, z = tI props ∧ (props ≠ [] ∧ props.Pairwise (· < ·) ∧ ∀ o ∈ props, 0 ≤ o ∧ o < many)) (se_cb (sa_cons (se_cb (sa_cons (se_slL (Rs := fun ds => ∃ ms : List Int, ds = ms.map PyData.int ∧ ms.Perm (Ch.rng many)) ((se_call rfl (da_cons rl da_nil) ⟨_, rfl, by rw [Ch.rng_len]; exact mm6⟩).imp ?_) do_none (do_some (de_var rfl r3))) sa_nil)
      (R := fun z => ∃ props : List Int, z = lI props ∧ (props ≠ [] ∧ props.Pairwise (· < ·) ∧ ∀ o ∈ props, 0 ≤ o ∧ o < many)) ?_) sa_nil) ?_) f2 sb S2 (by omega) fun v4 z H3 hz k3 S3 f3 r4 => ?_
  · rintro z ⟨ns, ms, e, rfl, pm⟩
    have e' : ns = Ch.rng many := by
      have := List.cons.inj e
      have := PyData.list.inj this.1
      exact (List.map_inj_right (fun a b h => PyData.int.inj h)).mp this.symm
    subst e'
    exact ⟨_, rfl, ms, rfl, pm⟩
  · rintro ds ⟨z, rs, rfl, ⟨ds, rfl, ms, rfl, pm⟩, rfl⟩
    refine ⟨_, ⟨srtI (ms.take sz), rfl, props_ok m1 pm sz1⟩, ?_⟩
    rw [cutD_to, ← List.map_take]
    exact rc_sortI
  · rintro ds ⟨z, rs, rfl, ⟨props, rfl, hp⟩, rfl⟩
    exact ⟨_, ⟨props, rfl, hp⟩, rk_tup⟩
  obtain ⟨props, rfl, hp⟩ := hz
  have r23 := r22.up (Up.kp sb k3)
  refine sq_ret (n := 0 + (0 + (16 + 0))) (se_tup (sa_cons (SE.of (n := 0) (R := fun z => z = .int (many : Int)) (de_var rfl r23) rfl) (sa_cons (SE.of (n := 0) (R := fun z => z = tI props) (de_var rfl r4) rfl) (sa_cons (se_call rfl (da_cons (de_var rfl r23) da_nil) ⟨many, rfl, m1, mm6⟩) sa_nil))) (fun ds ⟨z, rs, e, _, z', rs', e', _, z2, r2, e2, _, e3⟩ => by subst e3 e2 e' e; simp)) f3 sb S3 (by omega)
    fun v5 z H4 hz k4 S4 f4 r5 => ?_
  obtain ⟨ds, rfl, _, _, rfl, rfl, _, _, rfl, rfl, _, _, rfl, ⟨many', lots, e, rfl, L⟩, rfl⟩ := hz
  have e' : many' = many := by
    have := PyData.int.inj (List.cons.inj e).1
    omega
  subst e'
  exact k _ _ H4 ⟨_, props, lots, rfl, ch2_of m1 mm6 hp L⟩ (((k1.trans k2).trans k3).trans k4) (S4.mono (by omega)) r5
end
end Pu

namespace Pu
open PySem PySem.Spec PyProof.Rows L2
def OkP (many n : Nat) (z : PyData) : Prop := ∃ ps : List (List Int), z = lT ps ∧ ps ≠ [] ∧ (∀ p ∈ ps, p ∈ Ch.every many) ∧ ps.length ≤ n
section
variable {P : Program} {w : World} {K : PySem.W.Frag} {mg : Str → Option Value} {base : Heap}
abbrev s_L_sh_any : Stmt := top 48
theorem sc_L_sh_any : FnScope ["state", "most", "many", "owner", "lone", "size", "proposers", "parts", "head"] ["state", "most"] (defScope s_L_sh_any) := ⟨rfl, rfl, rfl, by decide +kernel, rfl, by decide +kernel, by decide +kernel⟩
theorem ok_any {f : Addr} {fd : FuncData} (F : Fun K "_law_sh_any" "_law_sh_any" s_L_sh_any f fd) (T : Bi mg) (D_L_draw : Def P w K mg base "_law_draw" 2 ["state", "size_here"] spDraw) (D_L_pick : Def P w K mg base "_law_pick" 3 ["state", "several"] (spPick K))
    (D_L_mixed : Def P w K mg base "_law_mixed" 3 ["state", "several"] (spSt 6 D_mix R_mix)) (D_L_sh_sets : Def P w K mg base "_law_sh_sets" 1 ["many"] (spP R_sets)) (D_L_sh_least : Def P w K mg base "_law_sh_least" 2 ["parts"] (spP R_least))
    (D_L_sh_charter : Def P w K mg base "_law_sh_charter" 5 ["state", "most"] (spSt 24 D_char R_char)) :
    FnOk P w K mg base CX0 6 f fd ["state", "most"] (spSt 30 D_char R_char) := by
  obtain ⟨f_L_sh_least, fd_L_sh_least, G_L_sh_least, b_L_sh_least, k_L_sh_least, m_L_sh_least⟩ := D_L_sh_least.ex
  obtain ⟨f_L_draw, fd_L_draw, G_L_draw, b_L_draw, k_L_draw, m_L_draw⟩ := D_L_draw.ex
  obtain ⟨f_L_pick, fd_L_pick, G_L_pick, b_L_pick, k_L_pick, m_L_pick⟩ := D_L_pick.ex
  obtain ⟨f_L_sh_sets, fd_L_sh_sets, G_L_sh_sets, b_L_sh_sets, k_L_sh_sets, m_L_sh_sets⟩ := D_L_sh_sets.ex
  obtain ⟨f_L_mixed, fd_L_mixed, G_L_mixed, b_L_mixed, k_L_mixed, m_L_mixed⟩ := D_L_mixed.ex
  obtain ⟨f_L_sh_charter, fd_L_sh_charter, G_L_sh_charter, b_L_sh_charter, k_L_sh_charter, m_L_sh_charter⟩ := D_L_sh_charter.ex
  refine F.ok sc_L_sh_any (len_spSt fun ds ⟨ns, e, _⟩ => by rw [e]; rfl) (fun cdv A outer s H vs Q E hr h => ?_)
  obtain ⟨d, g, c, T0, N, us, ds, rfl, sb, fr, S, tb, rs, ⟨most, rfl, m3, m6⟩, k⟩ := h
  obtain ⟨v, rfl, r⟩ := rps1 rs
  have tb' : T0 + 30 ≤ TB := tb
  refine ⟨_, pss_cons (ps_if (PW.pt (pw_or (pt_cmpR (op_ltK K hr.units0) (pv 1) pe_int (nomark _)) (pw_or1 (pt_cmpR op_gt (pe_call G_L_draw (hr.mono (by decide)) rfl m_L_draw k_L_draw b_L_draw .nil pass0 (pa_cons (pv 0) (pa_cons pe_int pa_nil))) pe_int (nomark _))))) (pss_one (ps_ret (pe_call G_L_sh_charter (hr.mono (by decide)) rfl m_L_sh_charter k_L_sh_charter b_L_sh_charter .nil pass0 (pa_cons (pv 0) (pa_cons (pv 1) pa_nil))))) pss_nil)
      (pss_cons (ps_set (i := 2) sc_L_sh_any.nd rfl (Or.inl rfl) (pe_op (op_addK K) pe_int (pe_call G_L_draw (hr.mono (by decide)) rfl m_L_draw k_L_draw b_L_draw .nil pass0 (pa_cons (pv 0) (pa_cons (pe_op op_sub (pv 1) pe_int) pa_nil)))))
      (pss_cons (ps_asg (pe_tup (pa_cons (pe_call G_L_draw (hr.mono (by decide)) rfl m_L_draw k_L_draw b_L_draw .nil pass0 (pa_cons (pv 0) (pa_cons (pv 2) pa_nil))) (pa_cons (pe_call G_L_draw (hr.mono (by decide)) rfl m_L_draw k_L_draw b_L_draw .nil pass0 (pa_cons (pv 0) (pa_cons pe_int pa_nil))) pa_nil))) (pg_tupK K (n := 2) rfl (pgs_cons (pg_name (i := 3) sc_L_sh_any.nd rfl (Or.inr rfl)) (pgs_cons (pg_name (i := 4) sc_L_sh_any.nd rfl (Or.inl rfl)) pgs_nil))))
      (pss_cons (ps_set (i := 5) sc_L_sh_any.nd rfl (Or.inl rfl) (pe_op (op_addK K) pe_int (pe_call G_L_draw (hr.mono (by decide)) rfl m_L_draw k_L_draw b_L_draw .nil pass0 (pa_cons (pv 0) (pa_cons (pe_op op_sub (pv 2) pe_int) pa_nil)))))
      (pss_cons (ps_set (i := 6) sc_L_sh_any.nd rfl (Or.inl rfl) (pe_callTy (call_tupK K) (by rfl) T.tuple (by decide +kernel) (pa_cons (pe_callB (cr_sortIK K) (by rfl) T.sorted (by decide +kernel) (pa_cons (pe_slice (sl_lK K) (pe_call G_L_mixed (hr.mono (by decide)) rfl m_L_mixed k_L_mixed b_L_mixed .nil pass0 (pa_cons (pv 0) (pa_cons (pe_listRg rfl (by rfl) T.list (prg_1 (by rfl) T.range (pv 2))) pa_nil))) po_none (po_some (pv 5))) pa_nil)) pa_nil)))
      (pss_cons (ps_setLc (i := 7) (own := [("head", 8)]) rfl sc_L_sh_any.nd rfl rfl (sw_true rfl rfl rfl (by decide +kernel)) (pi_seqK K (pv 6)) (blkOk_by (own := [("head", 8)]) (N := ["state", "most", "many", "owner", "lone", "size", "proposers", "parts", "head"]) (sc := defScope s_L_sh_any) (by decide +kernel)) (fun _ _ _ _ _ => pg_name (i := 8) sc_L_sh_any.nd rfl (Or.inl rfl)) (fun _ _ _ _ _ => pts_nil) (fun _ _ _ _ _ => pe_callTy (call_tupK K) (by rfl) T.tuple (by decide +kernel) (pa_cons (pe_callB (cr_setIK w rfl) (by rfl) T.sorted (by decide +kernel) (pa_cons (pe_callTy (cr_setLK K w rfl) (by rfl) T.set (by decide +kernel) (pa_cons (pe_lst (pa_cons (pv 3) (pa_cons (pv 8) pa_nil))) pa_nil)) pa_nil)) pa_nil)))
      (pss_cons (ps_if (pt_cmpR (op_eqK K hr.units) (pv 4) pe_int (nomark _)) (pss_one (ps_set (i := 7) sc_L_sh_any.nd rfl (Or.inl rfl) (pe_lst (pa_cons (pe_tup (pa_cons (pv 3) pa_nil)) pa_nil)))) pss_nil)
      (pss_cons (ps_if (pt_cmpR (op_eqK K hr.units) (pe_call G_L_draw (hr.mono (by decide)) rfl m_L_draw k_L_draw b_L_draw .nil pass0 (pa_cons (pv 0) (pa_cons pe_int pa_nil))) pe_int (nomark _)) (pss_one (ps_set (i := 7) sc_L_sh_any.nd rfl (Or.inl rfl) (pe_op (op_addK K) (pv 7) (pe_lst (pa_cons (pe_call G_L_pick (hr.mono (by decide)) rfl m_L_pick k_L_pick b_L_pick .nil pass0 (pa_cons (pv 0) (pa_cons (pe_slice (sl_lK K) (pe_call G_L_sh_sets (hr.mono (by decide)) rfl m_L_sh_sets k_L_sh_sets b_L_sh_sets .nil pass0 (pa_cons (pv 2) pa_nil)) (po_some pe_int) po_none) pa_nil))) pa_nil))))) pss_nil)
      (pss_cons (ps_if (pt_cmpR (op_eqK K hr.units) (pe_call G_L_draw (hr.mono (by decide)) rfl m_L_draw k_L_draw b_L_draw .nil pass0 (pa_cons (pv 0) (pa_cons pe_int pa_nil))) pe_int (nomark _)) (pss_one (ps_set (i := 7) sc_L_sh_any.nd rfl (Or.inl rfl) (pe_ifExp (pt_cmpR op_gt (pe_callB (call_lenK K) (by rfl) T.len (by decide +kernel) (pa_cons (pv 7) pa_nil)) pe_int (nomark _)) (pe_slice (sl_lK K) (pv 7) (po_some pe_int) po_none) (pv 7)))) pss_nil)
      (pss_one (ps_ret (pe_tup (pa_cons (pv 2) (pa_cons (pv 6) (pa_cons (pe_call G_L_sh_least (hr.mono (by decide)) rfl m_L_sh_least k_L_sh_least b_L_sh_least .nil pass0 (pa_cons (pv 7) pa_nil)) pa_nil)))))))))))))), ?_⟩
  refine sq_if (n := 1 + 0) (st_or (dt_test (de_op (de_var rfl r) de_int r2_ltI)) (st_test (R := fun z => ∃ b, z = .bool b) (se_op (se_draw (m := 3) rfl de_int (by decide)) (SE.of (n := 0) (R := fun z => z = .int 0) de_int rfl) fun x y ⟨r, hx, _⟩ hy => ⟨.bool (decide (0 < r)), ⟨_, rfl⟩, by subst hx hy; exact r2_b⟩) fun z h => h)) fr sb S (by omega)
    (fun H1 k1 S1 f1 => ?_) fun H1 k1 S1 f1 => ?_
  · refine sq_ret (n := 24) (se_call rfl (da_cons (de_var rfl (r.up (Up.kp sb k1))) da_nil) ⟨most, rfl, m3, m6⟩) f1 sb S1 (by omega) fun v5 z H4 hz k4 S4 f4 r5 => ?_
    exact k _ _ H4 hz (k1.trans k4) (S4.mono (by omega)) r5
  have rv1 := r.up (Up.kp sb k1)
  refine sq_set (n := 0 + 1) (R := fun z => ∃ m : Nat, z = .int (m : Int) ∧ 3 ≤ m ∧ m ≤ 6) (se_op (SE.of (n := 0) (R := fun z => z = .int 3) de_int rfl) (se_draw (m := most - 2) rfl (de_op (de_var rfl rv1) de_int r2_i) (by omega)) fun x y hx ⟨r, hy, r0, r1⟩ => ⟨_, ⟨(3 + r).toNat, rfl, by omega, by omega⟩, by
    subst hx hy
    rw [Int.toNat_of_nonneg (by omega)]
    exact r2_addI⟩) f1 sb S1 (by omega) fun v2 z H2 hz k2 S2 f2 r2 => ?_
  obtain ⟨many, rfl, m1, mm6⟩ := hz
  refine sq_un2 (n := 2) (se_tup (sa_cons (se_draw (m := many) rfl (de_var rfl r2) (by omega)) (sa_cons (se_draw (m := 2) rfl de_int (by decide)) sa_nil)) (fun ds ⟨z, rs, e, _, z', rs', e', _, e''⟩ => by subst e'' e' e; simp)) f2 sb S2 (by omega)
    (fun ds ⟨z, rs, e, _, z', rs', e', _, e''⟩ => by subst e'' e' e; rfl) fun v3 v4 x y H3 hxy k3 S3 f3 r3 r4 => ?_
  obtain ⟨_, _, e1, ⟨ow, rfl, ow0, ow1⟩, _, _, e2, ⟨ln, rfl, ln0, ln1⟩, rfl⟩ := hxy
  subst e2
  cases e1
  have r23 := r2.up (Up.kp sb k3)
  refine sq_set (n := 0 + 1) (R := fun z => ∃ s : Nat, z = .int (s : Int) ∧ 1 ≤ s) (se_op (SE.of (n := 0) (R := fun z => z = .int 3) de_int rfl) (se_draw (m := many - 2) rfl (de_op (de_var rfl r23) de_int r2_i) (by omega)) fun x y hx ⟨r, hy, r0, r1⟩ => ⟨_, ⟨(3 + r).toNat, rfl, by omega⟩, by
    subst hx hy
    rw [Int.toNat_of_nonneg (by omega)]
    exact r2_addI⟩) f3 sb S3 (by omega) fun v5 z H4 hz k4 S4 f4 r5 => ?_
  obtain ⟨sz, rfl, sz1⟩ := hz
  have r24 := r23.up (Up.kp sb k4)
  have rl := de_listRg (te := tVar 2) (N := N) (H := H4) (σ := [some (.ref d), some v, some v2, some v3, some v4, some v5, none, none, none]) (i := (many : Int)) (de_var rfl r24) (by omega) (by omega)
  rw [Int.toNat_natCast] at rl
  refine sq_set (n := 6) (R := fun z => ∃ props : List Int, z = tI props ∧ (props ≠ [] ∧ props.Pairwise (· < ·) ∧ ∀ o ∈ props, 0 ≤ o ∧ o < many)) (se_cb (sa_cons (se_cb (sa_cons (se_slL (Rs := fun ds => ∃ ms : List Int, ds = ms.map PyData.int ∧ ms.Perm (Ch.rng many)) ((se_call rfl (da_cons rl da_nil) ⟨_, rfl, by rw [Ch.rng_len]; exact mm6⟩).imp ?_) do_none (do_some (de_var rfl r5))) sa_nil)
      (R := fun z => ∃ props : List Int, z = lI props ∧ (props ≠ [] ∧ props.Pairwise (· < ·) ∧ ∀ o ∈ props, 0 ≤ o ∧ o < many)) ?_) sa_nil) ?_) f4 sb S4 (by omega) fun v6 z H5 hz k5 S5 f5 r6 => ?_
  · rintro z ⟨ns, ms, e, rfl, pm⟩
    have e' : ns = Ch.rng many := by
      have := List.cons.inj e
      have := PyData.list.inj this.1
      exact (List.map_inj_right (fun a b h => PyData.int.inj h)).mp this.symm
    subst e'
    exact ⟨_, rfl, ms, rfl, pm⟩
  · rintro ds ⟨z, rs, rfl, ⟨ds, rfl, ms, rfl, pm⟩, rfl⟩
    refine ⟨_, ⟨srtI (ms.take sz), rfl, props_ok (by omega) pm sz1⟩, ?_⟩
    rw [cutD_to, ← List.map_take]
    exact rc_sortI
  · rintro ds ⟨z, rs, rfl, ⟨props, rfl, hp⟩, rfl⟩
    exact ⟨_, ⟨props, rfl, hp⟩, rk_tup⟩
  obtain ⟨props, rfl, hp⟩ := hz
  have pl : props.length ≤ 6 := Nat.le_trans (asc_len hp.2.1 hp.2.2) mm6
  have r35 := (r3.up (Up.kp sb k4)).up (Up.kp sb k5)
  have r45 := (r4.up (Up.kp sb k4)).up (Up.kp sb k5)
  have r25 := r24.up (Up.kp sb k5)
  have hpair : ∀ a ∈ props, usrtI [ow, a] ∈ Ch.every many := fun a ha => Ch.to_every (List.ne_nil_of_mem (mem_usrtI.mpr (List.mem_cons_self .. : ow ∈ [ow, a]))) (usrtI_pw _) fun o ho => by
    have := mem_usrtI.mp ho
    simp only [List.mem_cons, List.not_mem_nil, or_false] at this
    rcases this with rfl | rfl
    · exact ⟨ow0, ow1⟩
    · exact hp.2.2 _ ha
  refine dq_set (d := lT (props.map fun a => usrtI [ow, a])) ((de_lc0 (xs := props) (enc := PyData.int) (fun a => tI (usrtI [ow, a])) (di_seq (de_var rfl r6)) (by omega) fun a ha x' N' H' u rx =>
    de_cb (da_cons (de_usrtI (ns := [ow, a]) (de_lst (da_cons (de_var rfl (r35.up u)) (da_cons (de_var rfl rx) da_nil))) (by simp)) da_nil) rk_tup).is ?_) f5 fun v7 H6 s6 r7 => ?_
  · rw [lT, List.map_map]; rfl
  have k16 : Kp d g H5 H6 := Kp.of s6
  have S6 := S5.same s6
  have f6 := f5.same s6
  -- if lone == 1
  refine sq_ifA (n := 0) (m := 0) (R := OkP many 6) (st_of (dt_test (de_op (de_var rfl (r45.same s6)) de_int r2_eqI))) (SE.of (x := lT [[ow]]) (de_lst (da_cons (de_tup (da_cons (de_var rfl (r35.same s6)) da_nil)) da_nil)) ⟨[[ow]], rfl, by simp, fun p hp => by rw [List.mem_singleton.mp hp]; exact Ch.single_every ow0 ow1, by simp⟩)
    rfl r7 ⟨_, rfl, by simpa using hp.1, fun p hp => ?_, by rw [List.length_map]; exact pl⟩ f6 sb S6 (by omega) fun v7 z H7 hz k7 S7 f7 r7 => ?_
  · obtain ⟨a, ha, rfl⟩ := List.mem_map.mp hp
    exact hpair a ha
  obtain ⟨ps, rfl, pne, pin, pl6⟩ := hz
  have r27 := (r25.same s6).up (Up.kp sb k7)
  -- if _law_draw(state, 4) == 0: parts = parts + [..]
  refine sq_ifA (n := 1 + 0) (m := 0 + (1 + 0)) (R := OkP many 7) (st_test (R := fun z => ∃ b, z = .bool b) (se_op (se_draw (m := 4) rfl de_int (by decide)) (SE.of (n := 0) (R := fun z => z = .int 0) de_int rfl) fun x y ⟨r, hx, _⟩ hy => ⟨.bool (decide (r = 0)), ⟨_, rfl⟩, by subst hx hy; exact r2_eqI⟩) fun z h => h)
    (se_op (SE.of (n := 0) (R := fun z => z = lT ps) (de_var rfl r7) rfl) (se_lst (sa_cons (se_pick rfl (x := lT ((Ch.sets many).drop 1)) ((de_slL (de_call (da_cons (de_var rfl r27) da_nil) ⟨many, rfl, mm6, rfl⟩) (do_some de_int) do_none).is ?_) rfl ?_ ?_) sa_nil) (fun ds ⟨z, rs, e, _, e'⟩ => by subst e' e; simp)) ?_)
    rfl r7 ⟨ps, rfl, pne, pin, by omega⟩ f7 sb S7 (by omega) fun v7' z H8 hz k8 S8 f8 r8 => ?_
  · rw [lT, List.map_drop]; exact congrArg PyData.list (cutD_from _ 1)
  · simp only [ne_eq, List.map_eq_nil_iff]
    exact List.ne_nil_of_mem (Ch.mem_drop.mpr (Ch.mem_every.mp (Ch.single_every (many := many) (o := 0) (by omega) (by omega))))
  · rw [List.length_map]; have := drop_len mm6; omega
  · rintro x y rfl ⟨ds, rfl, z, rs, rfl, hz, rfl⟩
    obtain ⟨p, hp, rfl⟩ := List.mem_map.mp hz
    refine ⟨lT (ps ++ [p]), ⟨_, rfl, by simp, fun q hq => ?_, by rw [List.length_append]; simp; omega⟩, ?_⟩
    · rcases List.mem_append.mp hq with hq | hq
      · exact pin q hq
      · rw [List.mem_singleton.mp hq]
        exact Ch.mem_every.mpr (Ch.mem_drop.mp hp)
    · have := r2_addL (K := K) (xs := ps.map tI) (ys := [tI p]) (by rw [List.length_map]; simp; omega)
      have e : lT (ps ++ [p]) = .list (ps.map tI ++ [tI p]) := by rw [lT, List.map_append]; rfl
      rw [e]; exact this
  obtain ⟨ps2, rfl, pne2, pin2, pl2⟩ := hz
  -- if _law_draw(state, 4) == 0: parts = parts[1:]
  refine sq_ifA (n := 1 + 0) (m := 0) (R := OkP many 7) (st_test (R := fun z => ∃ b, z = .bool b) (se_op (se_draw (m := 4) rfl de_int (by decide)) (SE.of (n := 0) (R := fun z => z = .int 0) de_int rfl) fun x y ⟨r, hx, _⟩ hy => ⟨.bool (decide (r = 0)), ⟨_, rfl⟩, by subst hx hy; exact r2_eqI⟩) fun z h => h)
    (SE.of (x := lT (if 1 < ps2.length then ps2.drop 1 else ps2)) (de_if (b := decide ((1 : Int) < (ps2.length : Int))) (dt_test (de_op (de_cb (da_cons (de_var rfl r8) da_nil) rk_lenL) de_int r2_b)) (fun hb => (de_slL (de_var rfl r8) (do_some de_int) do_none).is ?_) fun hb => (de_var rfl r8).is ?_) ?_)
    rfl r8 ⟨ps2, rfl, pne2, pin2, pl2⟩ f8 sb S8 (by omega) fun v7'' z H9 hz k9 S9 f9 r9 => ?_
  · have hb := of_decide_eq_true hb
    rw [if_pos (by omega), lT, List.map_drop]; exact congrArg PyData.list (cutD_from _ 1)
  · have hb := of_decide_eq_false hb
    rw [if_neg (by omega)]
  · refine ⟨_, rfl, ?_, fun p hp => ?_, ?_⟩
    · split
      · intro e
        have := congrArg List.length e
        rw [List.length_drop, List.length_nil] at this
        omega
      · exact pne2
    · split at hp
      · exact pin2 p (List.mem_of_mem_drop hp)
      · exact pin2 p hp
    · split
      · rw [List.length_drop]; omega
      · exact pl2
  obtain ⟨ps3, rfl, pne3, pin3, pl3⟩ := hz
  have k69 := ((k16.trans k7).trans k8).trans k9
  have u59 := Up.kp sb k69
  refine sq_ret (n := 0) (SE.of (x := chD many props (leastOf ps3)) (R := R_char [.int most]) (de_tup (da_cons (de_var rfl (r25.up u59)) (da_cons (de_var rfl (r6.up u59)) (da_cons (de_call (da_cons (de_var rfl r9) da_nil) ⟨ps3, rfl, by omega, fun p h => ⟨(Ch.of_every (pin3 p h)).1, by have := asc_len (Ch.of_every (pin3 p h)).2.1 (Ch.of_every (pin3 p h)).2.2; omega⟩, rfl⟩) da_nil)))) ⟨_, _, _, rfl, ch2_of (by omega) mm6 hp (Ch.lots_ok pne3 pin3 (by omega))⟩) f9 sb S9 (by omega)
    fun v5 z H4 hz k4 S4 f4 r5 => ?_
  exact k _ _ H4 hz (((((k1.trans k2).trans k3).trans ‹Kp d g H3 _›).trans k5).trans (k69.trans k4)) (S4.mono (by omega)) r5
end
end Pu

namespace Pu
open PySem
/-- the deciders, as the law finds them -/
def dueOf (many : Nat) (props : List Int) (lots : List (List Int)) : List Int := (Ch.rng many).filter fun o => (splL many props).all fun row => decide (Ch.heads props lots row = [Ch.at_ row o])
section
variable {many : Nat} {props : List Int} {lots : List (List Int)}
theorem mem_dcd (C : Ch.Charter many props lots) {o : Int} : o ∈ dcdOf many props lots ↔ (0 ≤ o ∧ o < many) ∧ Ch.Dcd many props lots o := by
  unfold dcdOf
  rw [List.mem_filter, Ch.mem_rng, List.all_eq_true]
  refine and_congr_right fun _ => ⟨fun h row hr => by simpa using h row ((mem_spl C).mpr hr), fun h row hr => by simpa using h row ((mem_spl C).mp hr)⟩
theorem due_eq (C : Ch.Charter many props lots) : dueOf many props lots = dcdOf many props lots := by
  unfold dueOf dcdOf
  refine List.filter_congr fun o _ => ?_
  rw [Bool.eq_iff_iff, List.all_eq_true, List.all_eq_true]
  exact ⟨fun h row hr => h row ((mem_splL C).mpr ((mem_spl C).mp hr)), fun h row hr => h row ((mem_spl C).mpr ((mem_splL C).mp hr))⟩
theorem torn_iff (C : Ch.Charter many props lots) : (tornOf many props lots).isNone = true ↔ Ch.Sure many props lots := by
  rw [Option.isNone_iff_eq_none, tornOf, List.find?_eq_none]
  exact ⟨fun h row hr => by simpa using h row ((mem_spl C).mpr hr), fun h row hr => by simpa using h row ((mem_spl C).mp hr)⟩
theorem dcd_asc : (dcdOf many props lots).Pairwise (· < ·) := (rng_asc many).filter _
theorem f2 (C : Ch.Charter many props lots) (h : props.length = 1) : (tornOf many props lots).isNone = true ∧ dcdOf many props lots = Ch.rng many := by
  obtain ⟨p, rfl⟩ := List.length_eq_one_iff.mp h
  have key : ∀ row, Ch.Split many [p] row → Ch.heads [p] lots row = [p] ∧ ∀ o : Int, 0 ≤ o → o < many → Ch.at_ row o = p := fun row S => by
    have at1 : ∀ o : Int, 0 ≤ o → o < many → Ch.at_ row o = p := fun o a b => by simpa using S.ins _ (Ch.at_mem a (by rw [S.len]; exact b))
    refine ⟨?_, at1⟩
    unfold Ch.heads
    rw [List.filter_cons, if_pos (Ch.has_all C fun o a b => by rw [at1 o a b]; simp)]; rfl
  refine ⟨(torn_iff C).mpr fun row S => by rw [(key row S).1]; rfl, Ch.usrtI_eq dcd_asc (rng_asc many) fun o => ?_⟩
  rw [mem_dcd C, Ch.mem_rng]
  exact ⟨fun h => h.1, fun h => ⟨h, fun row S => by rw [(key row S).1, (key row S).2 o h.1 h.2]⟩⟩
theorem f3 {p q : Int} (C : Ch.Charter many [p, q] lots) : (tornOf many [p, q] lots).isNone = Ch.parted many p q lots := by
  rw [Bool.eq_iff_iff, torn_iff C, Ch.two_iff C]
theorem f4 (C : Ch.Charter many props lots) (h : 2 ≤ props.length) : (dcdOf many props lots).length ≤ 1 := by
  have asc := dcd_asc (many := many) (props := props) (lots := lots)
  have mem := fun o => mem_dcd C (o := o)
  generalize dcdOf many props lots = l at *
  match l, asc, mem with
  | [], _, _ => simp
  | [a], _, _ => simp
  | a :: b :: r, asc, mem =>
    have ha := (mem a).mp (by simp)
    have hb := (mem b).mp (by simp)
    have := Ch.dcd_uniq C h ha.1.1 ha.1.2 hb.1.1 hb.1.2 ha.2 hb.2
    have := (List.pairwise_cons.mp asc).1 b (by simp)
    omega
theorem f5 (C : Ch.Charter many props lots) (h : 3 ≤ props.length) : (tornOf many props lots).isNone = !(dcdOf many props lots).isEmpty := by
  rw [Bool.eq_iff_iff, torn_iff C]
  constructor
  · intro U
    obtain ⟨d, d0, d1, D⟩ := Ch.decider_ex C U h
    have : d ∈ dcdOf many props lots := (mem_dcd C).mpr ⟨⟨d0, d1⟩, Ch.dec_dcd C U d0 d1 D⟩
    cases e : dcdOf many props lots with
    | nil => rw [e] at this; cases this
    | cons a r => rfl
  · intro e
    cases e2 : dcdOf many props lots with
    | nil => rw [e2] at e; cases e
    | cons a r =>
      have : a ∈ dcdOf many props lots := by rw [e2]; simp
      exact Ch.dcd_sure ((mem_dcd C).mp this).2
theorem f6 (C : Ch.Charter many props lots) (h : 3 ≤ props.length) {d : Int} {r : List Int} (e : dcdOf many props lots = d :: r) {head : Int} (hh : head ∈ props) : (Ch.has lots fun o => decide (o ∈ [head, d])) = true := by
  have : d ∈ dcdOf many props lots := by rw [e]; simp
  obtain ⟨b, D⟩ := (mem_dcd C).mp this
  refine Ch.has_mono C (fun o _ _ z => ?_) (Ch.dcd_dec C h b.1 b.2 D head hh)
  simpa using z
end
end Pu

namespace Pu
open PySem PySem.Spec PyProof.Rows L2
/-! ### calls by a keyword alone -/
section
variable {X : Cx} {CX : CXT} {k : Nat} {f : Addr} {fd : FuncData} {ps ks : List Str} {sp : Sp} {E : XK} {x : Str} {p pos : Pos} {kws : List Keyword} {tk : TA} {g : List Value → List Value → List Value} {gV : List V → List V → List V}
theorem pe_callKw (F : FnOk X.prog X.w X.K X.mg X.base CX k f fd ps sp) (hr : Room k X.A) (hg : Gl X x) (hm : X.mg x = some (.ref f)) (hk : PySem.W.keepIn X.K (.ref f) = true) (hb : KBinds X.K fd ps ks g gV) (hx : Passes CX X E)
    (hkw : PK X kws tk) (hall : (backToKw pos (keywordEach kws X.env)).all (·.1.isSome) = true := by rfl) (hks : (backToKw pos (keywordEach kws X.env)).filterMap (·.1) = ks := by rfl) (hdb : (x == ("__debug__" : Str)) = false := by decide)
    (hpl : ((backTo pos (starEach [] X.env)).any (·.1) || (backToKw pos (keywordEach kws X.env)).any (·.1.isNone)) = false := by rfl) : PE X (.Call (.Name x p) [] kws pos) (tCallK sp gV E tNil tk) := by
  refine ⟨fun pn s σ H Q I h => wpAny_Call_Name_kw (ld_glob I hg hm ?_ hdb)⟩
  refine PySem.W.callWith_KW0 (h₀ := X.base) I.ok.mod.kin hk hall (thn (hkw.run pos pn s σ H _ I h) fun ws t ⟨zs, G, J, rz, q⟩ => ⟨J.kIn, ?_⟩) hpl
  rw [hks]
  exact run_fnk (us := []) (vs := []) F hr hb hx J .nil rz q
end
def g1 : List Value → List Value → List Value := fun us ws => match us with
  | [] => ws
  | _ => []
def gV1 : List V → List V → List V := fun us ws => match us with
  | [] => ws
  | _ => []
theorem kb1 {K : PySem.W.Frag} {fd : FuncData} {p : Str} (h : ∀ w : Value, bindArgs fd ⟨[], [(p, w)]⟩ = pure [(p, w)]) : KBinds K fd [p] [p] g1 gV1 where
  to := fun s us ws _ hl => by
    match us, ws, hl with
    | [], [w], _ => exact .of_eq (h w)
  rel := fun {vs us zs ws} r q => by
    cases r with
    | nil => exact q
    | cons _ _ => exact .nil
theorem de_callK {N : NP} {σ : L2.St} {H : Hp} {R : List PyData → PyData → Prop} {E : XK} {tk : TA} {ds : List PyData} {d : PyData} (h : DA N tk σ H ds) (r : R ds d) : DE N (tCallK (spP R) gV1 E tNil tk) σ H d := fun N1 H1 u f Q q =>
  h N1 H1 u f _ fun vs H2 s2 r2 => ⟨N1, ds, d, f.same s2, r2, r, fun v H3 s3 r3 => q v H3 (s2.trans s3) r3⟩
structure DefK (P : Program) (w : World) (K : PySem.W.Frag) (mg : Str → Option Value) (base : Heap) (x : Str) (lv : Nat) (ps : List Str) (sp : Sp) : Prop where
  ex : ∃ (f : Addr) (fd : FuncData), FnOk P w K mg base CX0 lv f fd ps sp ∧ KBinds K fd ps ps g1 gV1 ∧ PySem.W.keepIn K (.ref f) = true ∧ mg x = some (.ref f)
end Pu

namespace Pu
open PySem PySem.Spec PyProof.Rows L2
/-! ### itertools.combinations -/
namespace Cmb
theorem mro_c : mroOf (.type "itertools.combinations") = pure [.type "itertools.combinations", .type "object"] := by rw [mroOf_type]; kernel_rfl
theorem lk_new : typeLookup (.type "itertools.combinations") "__new__" = pure (some (.builtin "itertools.combinations.__new__")) := by rw [typeLookup_type, builtinLookup_eq_fast]; kernel_rfl
theorem lk_next : typeLookup (.type "itertools.combinations") "__next__" = pure (some (.builtin "itertools.combinations.__next__")) := by rw [typeLookup_type, builtinLookup_eq_fast]; kernel_rfl
theorem lk_iter : typeLookup (.type "itertools.combinations") "__iter__" = pure (some (.builtin "itertools.combinations.__iter__")) := by rw [typeLookup_type, builtinLookup_eq_fast]; kernel_rfl
theorem lk_len : typeLookup (.type "itertools.combinations") "__len__" = pure none := by rw [typeLookup_type, builtinLookup_eq_fast]; kernel_rfl
theorem lk_hint : typeLookup (.type "itertools.combinations") "__length_hint__" = pure none := by rw [typeLookup_type, builtinLookup_eq_fast]; kernel_rfl
theorem en_new : entryFor table "itertools.combinations.__new__" = some Builtin.«itertools.combinations.__new__» := entryFor_of_tree (by kernel_rfl)
theorem en_next : entryFor table "itertools.combinations.__next__" = some Builtin.«itertools.combinations.__next__» := entryFor_of_tree (by kernel_rfl)
theorem tc (a b : Value) : checkTypeCall "itertools.combinations" ⟨[a, b], []⟩ = pure () := by kernel_rfl
theorem nc (a b : Value) : checkBuiltinCall "itertools.combinations.__new__" ⟨[.type "itertools.combinations", a, b], []⟩ = pure () := by kernel_rfl
theorem ao (obj a b : Value) : argsOk "object.__init__" ⟨[obj, a, b], []⟩ := by unfold argsOk; kernel_rfl
theorem an (a : Value) : argsOk "itertools.combinations.__next__" ⟨[a], []⟩ := by unfold argsOk; kernel_rfl
theorem sl_init : Slot "itertools.combinations" "__init__" "object.__init__" :=
  Slot.of (owner := "object") (n := "__init__") (by rw [typeLookup_type, builtinLookup_eq_fast]; kernel_rfl) (by decide +kernel) (by decide +kernel) (by decide +kernel) (by first | exact .inl (by decide +kernel) | exact .inr (by decide +kernel)) (by rw [isSubtype_type]; kernel_rfl)
theorem sl_next : Slot "itertools.combinations" "__next__" "itertools.combinations.__next__" :=
  Slot.of (owner := "itertools.combinations") (n := "__next__") lk_next (by decide +kernel) (by decide +kernel) (by decide +kernel) (by first | exact .inl (by decide +kernel) | exact .inr (by decide +kernel)) (by rw [isSubtype_type]; kernel_rfl)
theorem sl_iter : Slot "itertools.combinations" "__iter__" "itertools.combinations.__iter__" :=
  Slot.of (owner := "itertools.combinations") (n := "__iter__") lk_iter (by decide +kernel) (by decide +kernel) (by decide +kernel) (by first | exact .inl (by decide +kernel) | exact .inr (by decide +kernel)) (by rw [isSubtype_type]; kernel_rfl)
theorem en_iter : entryFor table "itertools.combinations.__iter__" = some Builtin.«dict_keyiterator.__iter__» :=
  entryFor_alias (id' := "dict_keyiterator.__iter__") (by kernel_rfl) (by first | rfl | decide +kernel | (unfold String.splitOn; simp +decide [String.splitOnAux])) (by decide +kernel) (by kernel_rfl)
theorem ai (a : Value) : argsOk "itertools.combinations.__iter__" ⟨[a], []⟩ := by unfold argsOk; kernel_rfl
theorem called : TypeCalled "itertools.combinations" "itertools.combinations.__new__" "object.__init__" :=
  { notType := by decide +kernel, canCreate := by decide +kernel, mro := ⟨_, _, mro_c⟩, made := madeBy_type mro_c lk_new (by decide +kernel), plain := by decide +kernel, sub := by rw [isSubtype_type]; kernel_rfl, init := sl_init }
/-- the iterator's record: which state, the last one handed out, the indices -/
def recO (P : Addr) (flag : Int) (last : Value) (idx : List Nat) : Obj := { cls := .type "itertools.combinations", data := .fields ((.ref P :: rawInt flag :: last :: idx.map fun n : Nat => rawInt n) : List Value).toArray }
/-- the step from one choice of indices to the next -/
def nxt (n : Nat) (indices : List Nat) : Option (List Nat) :=
  match (List.range indices.length).reverse.find? fun i => indices.getD i 0 != i + n - indices.length with
  | none => none
  | some i => some (indices.take i ++ (List.range (indices.length - i)).map (indices.getD i 0 + 1 + ·))
section
variable {prog : Program} {w : World} {A : Around} {E : Value → Shared → Prop} {s : Shared} {I P : Addr} {flag : Int} {last : Value} {idx : List Nat}
theorem numbers_at {Q : List Nat → Shared → Prop} (h : s.heap.get? I = some (recO P flag last idx)) (q : Q idx s) : wpAny (model prog w) A (Builtin.Itertools.itNumbersFrom (.ref I) 3) Q E s := by
  unfold Builtin.Itertools.itNumbersFrom
  refine wpAny_bind (wpAny_load h (wpAny_pure ?_))
  have e : ((recO P flag last idx).data = .fields ((.ref P :: rawInt flag :: last :: idx.map fun n : Nat => rawInt n) : List Value).toArray) := rfl
  have e2 : ((((.ref P :: rawInt flag :: last :: idx.map fun n : Nat => rawInt n) : List Value).toArray.toList.drop 3).map fun x => match x with | Value.int n _ => n.toNat | _ => 0) = idx := by
    simp only [List.drop_succ_cons, List.drop_zero, List.map_map]
    conv => rhs; rw [← List.map_id idx]
    rfl
  show Q ((((.ref P :: rawInt flag :: last :: idx.map fun n : Nat => rawInt n) : List Value).toArray.toList.drop 3).map fun x => match x with | Value.int n _ => n.toNat | _ => 0) s
  rw [e2]; exact q
end
end Cmb
end Pu

namespace Pu
open PySem PySem.Spec PyProof.Rows L2
namespace Cmb
section
variable {prog : Program} {w : World} {A : Around} {E : Value → Shared → Prop} {s : Shared} {I P : Addr} {flag : Int} {last : Value} {idx : List Nat}
/-- the tuple of the chosen items -/
def pickO (items : Array Value) (idx : List Nat) : Obj := { cls := .type "tuple", data := .seq (idx.map fun i => items.getD i .none).toArray }
theorem rec_set (flag' : Int) : Obj.mapFields (·.setIfInBounds 1 (rawInt flag')) (recO P flag last idx) = recO P flag' last idx := by
  unfold recO Obj.mapFields
  simp
theorem rec_set2 (v : Value) : Obj.mapFields (·.setIfInBounds 2 v) (recO P flag last idx) = recO P flag v idx := by
  unfold recO Obj.mapFields
  simp
theorem rec_nums (l : List Nat) : Obj.mapFields (fun fs => fs.extract 0 3 ++ (l.map fun n : Nat => rawInt n).toArray) (recO P flag last idx) = recO P flag last l := by
  unfold recO Obj.mapFields
  simp
/-- what a step leaves: the iterator goes on, the tuple stands at T, all else as it was -/
structure Step (h h' : Heap) (I P T : Addr) (items : Array Value) (idx : List Nat) : Prop where
  rc : h'.get? I = some (recO P 1 (.ref T) idx)
  tup : h'.get? T = some (pickO items idx)
  new : h.objs.size ≤ T
  sz : h.objs.size ≤ h'.objs.size
  kp : ∀ b o, b ≠ I → h.get? b = some o → h'.get? b = some o
theorem hand_out {items : Array Value} {k : Nat} {R : PySem.Fin → Shared → Prop} {oP : Obj} {h0 : Heap} (hI : s.heap.get? I = some (recO P 1 last idx)) (hP : s.heap.get? P = some oP) (hd : oP.data = .seq items k) (hz : idx.length ≤ 1000) (kp : ∀ b o, b ≠ I → h0.get? b = some o → s.heap.get? b = some o) (ns : h0.objs.size ≤ s.heap.objs.size)
    (hR : ∀ h' T, Step h0 h' I P T items idx → R (.done (.ret (.ref T))) { s with heap := h' }) :
    wpAny (model prog w) A (do
      let result ← (do let xs ← Builtin.Itertools.itPoolItems (.ref P); newTuple (idx.map fun i => xs.getD i .none))
      let before ← field (.ref I) 2
      setField (.ref I) 2 result
      letGo [before] [result]
      ret result : Sem PySem.Fin) R E s := by
  have sz : (idx.map fun i => items.getD i Value.none).length ≤ sizeLine := by rw [List.length_map]; exact Nat.le_of_lt (small1000 hz)
  have hIT : I ≠ s.heap.objs.size := Nat.ne_of_lt (Heap.lt_size hI)
  refine wpAny_bind (wpAny_bind ?_)
  unfold Builtin.Itertools.itPoolItems
  refine wpAny_bind (wpAny_seqItems hP hd (wpAny_pure (wpAny_newTuple ?_ sz)))
  refine wpAny_bind (wpAny_field (Heap.get?_push_of_some _ hI) rfl (x := last) (by simp) ?_)
  refine wpAny_bind (wpAny_setField (Heap.get?_push_of_some _ hI) rfl (by simp) ?_)
  refine wpAny_bind (wpAny_letGo (wpAny_pure (hR _ s.heap.objs.size ⟨?_, ?_, ns, ?_, fun b o n e => ?_⟩)))
  · rw [Heap.get?_update_self _ (Heap.get?_push_of_some _ hI) rfl, rec_set2]
  · rw [Heap.get?_update_ne _ _ _ _ hIT.symm]
    exact Heap.get?_push_size _ rfl
  · rw [Heap.size_update, Heap.size_push]; omega
  · rw [Heap.get?_update_ne _ _ _ _ n]
    exact Heap.get?_push_of_some _ (kp b o n e)
theorem next_go {items : Array Value} {k : Nat} {Q : Option Value → Shared → Prop} {oP : Obj} {idx' : List Nat} (hI : s.heap.get? I = some (recO P flag last idx)) (hP : s.heap.get? P = some oP) (hd : oP.data = .seq items k) (hz : idx'.length ≤ 1000) (ne : P ≠ I)
    (hf : (flag = 0 ∧ idx' = idx) ∨ (flag = 1 ∧ nxt items.size idx = some idx')) (hQ : ∀ h' T, Step s.heap h' I P T items idx' → Q (some (.ref T)) { s with heap := h' }) : wpAny (model prog w) A (pyNext (.ref I)) Q E s := by
  have hT : s.TypeIs (.ref I) "itertools.combinations" := ⟨_, hI, rfl⟩
  unfold pyNext
  refine wpAny_bind (wpAny_attempt (wpAny_callSpecial?_slot (name := Str.ofString "__next__") hT sl_next (wpAny_call_entry sl_next hT en_next ?_ (an _))))
  show wpAny _ _ (field (.ref I) 0 >>= _) _ _ _
  refine wpAny_bind (wpAny_field hI rfl (x := .ref P) rfl (wpAny_bind (numbers_at hI ?_)))
  show wpAny _ _ ((field (.ref I) 1 >>= _) >>= _) _ _ _
  refine wpAny_bind (wpAny_bind (wpAny_field hI rfl (x := .int flag 0) rfl ?_))
  rcases hf with ⟨rfl, rfl⟩ | ⟨rfl, hn⟩
  · refine wpAny_pure (wpAny_bind (wpAny_setField (i := 1) (x := rawInt 1) hI rfl (by simp) ?_))
    refine hand_out (h0 := s.heap) (last := last) (by rw [Heap.get?_update_self _ hI rfl, rec_set]) (by rw [Heap.get?_update_ne _ _ _ _ ne]; exact hP) hd hz (fun b o n e => (Heap.get?_update_ne _ _ _ _ n).trans e) (by show _ ≤ (s.heap.update _ _).objs.size; rw [Heap.size_update]; exact Nat.le_refl _) fun h' T st => ⟨_, rfl, wpAny_pure (hQ h' T st)⟩
  · refine wpAny_pure (wpAny_bind ?_)
    unfold Builtin.Itertools.itPoolItems
    refine wpAny_bind (wpAny_seqItems hP hd (wpAny_pure ?_))
    have hu : s.heap.objs.size = (s.heap.update I (Obj.mapFields fun fs => fs.extract 0 3 ++ (idx'.map fun n : Nat => rawInt n).toArray)).objs.size := (Heap.size_update ..).symm
    split
    · rename_i x hx
      have ex : some x = some idx' := hx.symm.trans hn
      cases ex
      unfold Builtin.Itertools.itSetNumbersFrom
      refine wpAny_bind (wpAny_updateFields hI rfl ?_ (by have := small1000 hz; simp; omega))
      refine hand_out (h0 := s.heap) (last := last) (by rw [Heap.get?_update_self _ hI rfl, rec_nums]) (by rw [Heap.get?_update_ne _ _ _ _ ne]; exact hP) hd hz (fun b o n e => (Heap.get?_update_ne _ _ _ _ n).trans e) (by rw [← hu]; exact Nat.le_refl _) fun h' T st => ⟨_, rfl, wpAny_pure (hQ h' T st)⟩
    · rename_i hx
      have ex : none = some idx' := hx.symm.trans hn
      cases ex
theorem next_end {items : Array Value} {k : Nat} {Q : Option Value → Shared → Prop} {oP : Obj} (hh : A.handled = none) (hI : s.heap.get? I = some (recO P 1 last idx)) (hP : s.heap.get? P = some oP) (hd : oP.data = .seq items k)
    (hf : nxt items.size idx = none) (hQ : ∀ h', (∀ b o, b ≠ I → s.heap.get? b = some o → h'.get? b = some o) → s.heap.objs.size ≤ h'.objs.size → Q none { s with heap := h' }) : wpAny (model prog w) A (pyNext (.ref I)) Q E s := by
  have hT : s.TypeIs (.ref I) "itertools.combinations" := ⟨_, hI, rfl⟩
  unfold pyNext
  refine wpAny_bind (wpAny_attempt (wpAny_callSpecial?_slot (name := Str.ofString "__next__") hT sl_next (wpAny_call_entry sl_next hT en_next ?_ (an _))))
  show wpAny _ _ (field (.ref I) 0 >>= _) _ _ _
  refine wpAny_bind (wpAny_field hI rfl (x := .ref P) rfl (wpAny_bind (numbers_at hI ?_)))
  show wpAny _ _ ((field (.ref I) 1 >>= _) >>= _) _ _ _
  refine wpAny_bind (wpAny_bind (wpAny_field hI rfl (x := .int 1 0) rfl (wpAny_pure (wpAny_bind ?_))))
  unfold Builtin.Itertools.itPoolItems
  refine wpAny_bind (wpAny_seqItems hP hd (wpAny_pure ?_))
  split
  · rename_i x hx
    have ex : some x = none := hx.symm.trans hf
    cases ex
  · refine wpAny_bind (wpAny_setField (i := 1) (x := rawInt 2) hI rfl (by simp) ?_)
    unfold Builtin.Itertools.itStop
    refine wpAny_bind ?_
    simp only [newExc, newTuple]
    refine wpAny_bind (wpAny_newObj_type ?_ (by size_fits))
    refine wpAny_bind (m := firstArgMember _ _) (wpAny_of_eq (a := Value.none) (by first | rfl | (simp only [firstArgMember]; rfl)) (wpAny_newObj_type ?_ (by size_fits)))
    simp only [raiseNew]
    refine wpAny_bind (wpAny_handled ?_)
    first | rw [show A.in1.handled = none from hh] | rw [show A.in1.in1.handled = none from hh] | rw [hh]
    refine wpAny_bind (wpAny_pure (wpAny_throw ?_))
    refine wpAny_bind (wpAny_isInstance (T := "StopIteration") (b := true) ⟨_, Heap.get?_push_size _ rfl, rfl⟩ isSubtype_stop (wpAny_pure (hQ _ (fun b o n e => ?_) ?_)))
    · exact Heap.get?_push_of_some _ (Heap.get?_push_of_some _ ((Heap.get?_update_ne _ _ _ _ n).trans e))
    · rw [Heap.size_push, Heap.size_push, Heap.size_update]; omega
end
end Cmb
end Pu

namespace Pu
open PySem PySem.Spec PyProof.Rows L2
namespace Cmb
theorem addr_ne {a b : Addr} {n : Nat} (h1 : a < n) (h2 : n ≤ b) : b ≠ a := fun z => absurd (z ▸ h1) (Nat.not_lt.mpr h2)
/-- the first i of the choices stand in the list at S -/
structure Got (h0 h : Heap) (I S : Addr) (items : Array Value) (c : Nat → List Nat) (i : Nat) (acc : Array Value) : Prop where
  kp : ∀ b o, b ≠ I → b ≠ S → h0.get? b = some o → h.get? b = some o
  sz : h0.objs.size ≤ h.objs.size
  ls : ∃ k, h.get? S = some { cls := .type "list", dict := none, data := .seq acc k, slots := #[] }
  len : acc.size = i
  all : ∀ j, j < i → ∃ T, acc[j]? = some (.ref T) ∧ h0.objs.size ≤ T ∧ h.get? T = some (pickO items (c j))
/-- the choices one behind another: n of them -/
structure Row (N n : Nat) (c : Nat → List Nat) : Prop where
  pos : 1 ≤ n
  lim : n ≤ 1000
  go : ∀ j, j + 1 < n → nxt N (c j) = some (c (j + 1))
  no : nxt N (c (n - 1)) = none
  len : ∀ j, (c j).length ≤ 1000
section
variable {prog : Program} {w : World} {A : Around} {E : Value → Shared → Prop} {s : Shared} {R : Result → Shared → Prop} {I P S : Addr} {items : Array Value} {k n : Nat} {c : Nat → List Nat} {oP : Obj}
theorem cmb_loop (hh : A.handled = none) (hP : s.heap.get? P = some oP) (hd : oP.data = .seq items k) (pI : P ≠ I) (pS : P ≠ S) (SI : S ≠ I) (rw0 : Row items.size n c) (res : Value) (lS : S < s.heap.objs.size) (lI : I < s.heap.objs.size)
    (hR : ∀ h' tk' acc, Got s.heap h' I S items c n acc → R (.ok (.ret res)) { s with heap := h', toks := tk' }) :
    ∀ (r i : Nat) (h : Heap) (tk : Nat) (acc : Array Value) (last : Value), n - i = r → i ≤ n → Got s.heap h I S items c i acc → h.get? I = some (recO P (if i = 0 then 0 else 1) last (c (i - 1))) →
      codeAny (model prog w) A (.builtin "list.extend.loop" ⟨[.ref S, .ref I, res], []⟩) R { s with heap := h, toks := tk } := by
  intro r
  induction r with
  | zero =>
    intro i h tk acc last hr hi G hI
    have hin : i = n := by omega
    have hn := rw0.pos
    subst hin
    rw [if_neg (by omega)] at hI
    refine codeAny_builtin F.entry_extend_loop (by
      rw [Around.under_plainId F.plain_extend_loop _]
      refine wpAny_bind (next_end (s := { s with heap := h, toks := tk }) (show A.in1.handled = none from hh) hI (G.kp _ _ pI pS hP) hd rw0.no fun h' kp sz => wpAny_pure (hR h' tk acc ⟨fun b o n1 n2 e => kp b o n1 (G.kp b o n1 n2 e), Nat.le_trans G.sz sz, ?_, G.len, fun j hj => ?_⟩))
      · obtain ⟨q, e⟩ := G.ls
        exact ⟨q, kp _ _ SI e⟩
      · obtain ⟨T, e1, e2, e3⟩ := G.all j hj
        exact ⟨T, e1, e2, kp _ _ (addr_ne lI e2) e3⟩)
  | succ r ih =>
    intro i h tk acc last hr hi G hI
    have hlt : i < n := by omega
    refine codeAny_builtin F.entry_extend_loop (by
      rw [Around.under_plainId F.plain_extend_loop _]
      refine wpAny_bind (next_go (s := { s with heap := h, toks := tk }) (idx' := c i) hI (G.kp _ _ pI pS hP) hd (rw0.len i) pI ?_ fun h' T st => ?_)
      · by_cases h0 : i = 0
        · subst h0
          exact .inl ⟨rfl, rfl⟩
        · refine .inr ⟨by rw [if_neg h0], ?_⟩
          have := rw0.go (i - 1) (by omega)
          rwa [show i - 1 + 1 = i by omega] at this
      have hTsz : h.objs.size ≤ T := st.new
      obtain ⟨q, eS⟩ := G.ls
      have eS' := st.kp _ _ SI eS
      have TS : T ≠ S := addr_ne lS (Nat.le_trans G.sz hTsz)
      have TI : T ≠ I := addr_ne lI (Nat.le_trans G.sz hTsz)
      refine wpAny_bind (?_ : wpAny _ A.in1 (updateSeq S (·.push (.ref T))) _ _ _)
      refine wpAny_updateSeq eS' rfl (wpAny_pure ⟨plainId_quiet F.plain_extend_loop _, ih (i + 1) _ _ (acc.push (.ref T)) (.ref T) (by omega) hlt ⟨fun b o n1 n2 e => ?_, ?_, ⟨_, Heap.get?_update_self _ eS' rfl⟩, by rw [Array.size_push, G.len], fun j hj => ?_⟩ ?_⟩) ?_ ?_
      · exact (Heap.get?_update_ne _ _ _ _ n2).trans (st.kp b o n1 (G.kp b o n1 n2 e))
      · rw [Heap.size_update]
        exact Nat.le_trans G.sz st.sz
      · by_cases e : j = i
        · subst e
          refine ⟨T, ?_, Nat.le_trans G.sz hTsz, (Heap.get?_update_ne _ _ _ _ TS).trans st.tup⟩
          rw [← G.len, Array.getElem?_push_size]
        · obtain ⟨T', e1, e2, e3⟩ := G.all j (by omega)
          refine ⟨T', ?_, e2, (Heap.get?_update_ne _ _ _ _ (addr_ne lS e2)).trans (st.kp _ _ (addr_ne lI e2) e3)⟩
          rw [Array.getElem?_push, if_neg (by rw [G.len]; exact e)]
          exact e1
      · rw [if_neg (Nat.succ_ne_zero i), show i + 1 - 1 = i by omega]
        exact (Heap.get?_update_ne _ _ _ _ SI.symm).trans st.rc
      · have := rw0.lim
        have := small1000 (n := acc.size) (by rw [G.len]; omega)
        omega
      · have := rw0.lim
        have := small1000 (n := acc.size) (by rw [G.len]; omega)
        show (acc.push _).size ≤ _
        rw [Array.size_push]; omega)
end
end Cmb
end Pu

namespace Pu
open PySem PySem.Spec PyProof.Rows L2
namespace Cmb
/-- all choices stand as tuples, in the sequence acc -/
structure All (h0 h : Heap) (I : Addr) (items : Array Value) (c : Nat → List Nat) (n : Nat) (acc : Array Value) : Prop where
  kp : ∀ b o, b ≠ I → h0.get? b = some o → h.get? b = some o
  sz : h0.objs.size ≤ h.objs.size
  len : acc.size = n
  all : ∀ j, j < n → ∃ T, acc[j]? = some (.ref T) ∧ h0.objs.size ≤ T ∧ h.get? T = some (pickO items (c j))
section
variable {prog : Program} {w : World} {A : Around} {E : Value → Shared → Prop} {s : Shared} {I P : Addr} {items : Array Value} {k n : Nat} {c : Nat → List Nat} {oP : Obj} {last : Value}
theorem iter_self {Q : Value → Shared → Prop} (hT : s.TypeIs (.ref I) "itertools.combinations") (h : Q (.ref I) s) : wpAny (model prog w) A (pyIter (.ref I)) Q E s := by
  refine wpAny_pyIter_slot hT sl_iter (wpAny_call_entry sl_iter hT en_iter (?_ : wpAny _ _ (ret (.ref I)) _ _ s) (ai _))
  exact wpAny_pure ⟨_, rfl, "itertools.combinations", _, hT, sl_next.lookup, h⟩
theorem collect_cmb {Q : List Value → Shared → Prop} (hh : A.handled = none) (hI : s.heap.get? I = some (recO P 0 last (c 0))) (hP : s.heap.get? P = some oP) (hd : oP.data = .seq items k) (pI : P ≠ I) (rw0 : Row items.size n c)
    (hQ : ∀ h' tk acc, All s.heap h' I items c n acc → Q acc.toList { s with heap := h', toks := tk }) : wpAny (model prog w) A (collect (.ref I)) Q E s := by
  obtain ⟨L0, eL⟩ : ∃ o : Obj, o = { cls := .type "list", data := .seq ([] : List Value).toArray } := ⟨_, rfl⟩
  have lI : I < s.heap.objs.size := Heap.lt_size hI
  have lP : P < s.heap.objs.size := Heap.lt_size hP
  have SI : s.heap.objs.size ≠ I := Nat.ne_of_gt lI
  have PS : P ≠ s.heap.objs.size := Nat.ne_of_lt lP
  unfold collect
  refine wpAny_bind (wpAny_runValue (codeAny_builtin F.entry_proto_collect (by
    rw [Around.under_plainId F.plain_proto_collect _]
    refine wpAny_bind (m := newList []) (wpAny_newObj_type ?_)
    rw [← eL]
    refine wpAny_pure ⟨plainId_quiet F.plain_list_iadd _, codeAny_builtin F.entry_list_iadd (by
      rw [Around.under_plainId F.plain_list_iadd _]
      refine (?_ : wpAny _ A.in1 (Builtin.List.listExtendWith (.ref s.heap.objs.size) (.ref I) (.ref s.heap.objs.size)) _ _ _)
      have hI1 : (s.heap.push L0).get? I = some (recO P 0 last (c 0)) := Heap.get?_push_of_some _ hI
      have hT : ({ s with heap := s.heap.push L0 } : Shared).TypeIs (.ref I) "itertools.combinations" := ⟨_, hI1, rfl⟩
      unfold Builtin.List.listExtendWith
      refine wpAny_bind (wpAny_typeOf hT ?_)
      have h1 : Builtin.List.listSameRef (.ref s.heap.objs.size) (.ref I) = false := by simp [Builtin.List.listSameRef, SI]
      rw [if_neg (by rw [h1]; decide)]
      refine wpAny_bind (iter_self hT (wpAny_bind (wpAny_holding ?_)))
      unfold Builtin.List.listLengthHint
      refine wpAny_bind (wpAny_specialOf hT lk_len (?_ : wpAny _ A.in1 (specialOf (Value.ref I) (Str.ofString "__length_hint__") >>= _) _ _ _))
      refine wpAny_bind (wpAny_specialOf hT lk_hint (wpAny_pure ?_))
      refine wpAny_bind (m := rule _) (wpAny_rule (wpAny_bind (m := Builtin.List.listTouch _) ?_))
      have hS1 : (s.heap.push L0).get? s.heap.objs.size = some { cls := .type "list", data := .seq ([] : List Value).toArray } := by rw [← eL]; exact Heap.get?_push_size _ (by rw [eL]; rfl)
      refine wpAny_bind (m := updateSeq _ _) (wpAny_updateSeq hS1 rfl ?_)
      have hS2 := Heap.get?_update_self (Obj.mapSeq (·.push Value.none)) hS1 rfl
      refine wpAny_updateSeq hS2 rfl (wpAny_pure ⟨plainId_quiet F.plain_extend_loop _, ?_⟩)
      have hS3 := Heap.get?_update_self (Obj.mapSeq (·.pop)) hS2 rfl
      have old : ∀ b o, s.heap.get? b = some o → (((s.heap.push L0).update s.heap.objs.size (Obj.mapSeq (·.push Value.none))).update s.heap.objs.size (Obj.mapSeq (·.pop))).get? b = some o := fun b o e => by
        have nb : b ≠ s.heap.objs.size := Nat.ne_of_lt (Heap.lt_size e)
        rw [Heap.get?_update_ne _ _ _ _ nb, Heap.get?_update_ne _ _ _ _ nb]
        exact Heap.get?_push_of_some _ e
      have zz : (((s.heap.push L0).update s.heap.objs.size (Obj.mapSeq (·.push Value.none))).update s.heap.objs.size (Obj.mapSeq (·.pop))).objs.size = s.heap.objs.size + 1 := by rw [Heap.size_update, Heap.size_update, Heap.size_push]
      generalize ((s.heap.push L0).update s.heap.objs.size (Obj.mapSeq (·.push Value.none))).update s.heap.objs.size (Obj.mapSeq (·.pop)) = h1 at *
      refine cmb_loop (s := { s with heap := h1 }) (c := c) (n := n) hh (old _ _ hP) hd pI PS SI rw0 _ (by show _ < h1.objs.size; rw [zz]; exact Nat.lt_succ_self _) (by show _ < h1.objs.size; rw [zz]; exact Nat.lt_succ_of_lt lI) (fun h' tk' acc G => ?_) n 0 h1 s.toks #[] last rfl (Nat.zero_le _) ⟨fun b o _ _ e => e, Nat.le_refl _, ⟨_, hS3⟩, rfl, fun j hj => absurd hj (Nat.not_lt_zero _)⟩ (old _ _ hI)
      obtain ⟨q, eq⟩ := G.ls
      refine (?_ : wpAny _ A (load s.heap.objs.size >>= _) _ _ _)
      refine wpAny_bind (wpAny_load eq ?_)
      refine wpAny_pure (hQ h' tk' acc ⟨fun b o n1 e => G.kp b o n1 (Nat.ne_of_lt (Heap.lt_size e)) (old b o e), ?_, G.len, fun j hj => ?_⟩)
      · have := G.sz
        have z2 : h1.objs.size ≤ h'.objs.size := this
        omega
      · obtain ⟨T, e1, e2, e3⟩ := G.all j hj
        have z2 : h1.objs.size ≤ T := e2
        exact ⟨T, e1, Nat.le_trans (by rw [zz]; exact Nat.le_succ _) z2, e3⟩)⟩)))
end
end Cmb
end Pu

namespace Pu
open PySem PySem.Spec PyProof.Rows L2
namespace Cmb
section
variable {prog : Program} {w : World} {A : Around} {E : Value → Shared → Prop} {s : Shared} {I P : Addr} {items : Array Value} {k n : Nat} {c : Nat → List Nat} {oP : Obj} {last : Value}
theorem tuple_new {Q1 : Value → Shared → Prop} (hh : A.handled = none) (hI : s.heap.get? I = some (recO P 0 last (c 0))) (hP : s.heap.get? P = some oP) (hd : oP.data = .seq items k) (pI : P ≠ I) (rw0 : Row items.size n c)
    (h : ∀ (h' : Heap) (tk : Nat) (acc : Array Value), All s.heap h' I items c n acc → Q1 (.ref h'.objs.size) { s with heap := h'.push { cls := .type "tuple", data := .seq acc }, toks := tk }) :
    codeAny (model prog w) A (.call (.builtin "tuple.__new__") ⟨[.type "tuple", .ref I], []⟩) (wants Q1 E) s := by
  refine codeAny_of_tree (?_ : wpAny _ A.in1 (do checkBuiltinCall "tuple.__new__" ⟨[.type "tuple", .ref I], []⟩; again (.builtin "tuple.__new__" ⟨[.type "tuple", .ref I], []⟩)) _ _ s)
  refine wpAny_bind (wpAny_of_eq (F.newCall_tuple_1 _) (wpAny_pure ⟨plainId_quiet F.plain_tuple_new _, codeAny_builtin F.entry_tuple_new (by
    rw [Around.under_plainId F.plain_tuple_new _]
    have hsub := sub_tuple_self
    have hin := init_tuple_lookup
    have hmd := madeHere_tuple
    have hTI : s.TypeIs (.ref I) "itertools.combinations" := ⟨_, hI, rfl⟩
    have hh1 : A.in1.handled = none := hh
    wp_walk using wpAny_typeOf hTI, collect_cmb (A := A.in1) hh1 hI hP hd pI rw0
    intro h' tk acc G
    refine (?_ : wpAny _ _ (Builtin.Tuple.tupleExact acc.toList.toArray >>= fun v => ret v) _ _ _)
    unfold Builtin.Tuple.tupleExact
    refine wpAny_bind (wpAny_newObj_type ?_ (by have := rw0.lim; have := small1000 (n := acc.size) (by rw [G.len]; omega); show acc.toList.toArray.size ≤ sizeLine; simp only [Array.toArray_toList]; omega))
    have e : acc.toList.toArray = acc := by simp
    rw [e]
    exact wpAny_pure (h h' tk acc G))⟩))
theorem tuple_cmb {Q : Value → Shared → Prop} (hh : A.handled = none) (hI : s.heap.get? I = some (recO P 0 last (c 0))) (hP : s.heap.get? P = some oP) (hd : oP.data = .seq items k) (pI : P ≠ I) (rw0 : Row items.size n c)
    (hQ : ∀ (h' : Heap) (tk : Nat) (acc : Array Value), All s.heap h' I items c n acc → Q (.ref h'.objs.size) { s with heap := h'.push { cls := .type "tuple", data := .seq acc }, toks := tk }) :
    wpAny (model prog w) A (call (.type "tuple") [.ref I]) Q E s :=
  callType_codes (Q₁ := fun obj s1 => s1.TypeIs obj "tuple" ∧ Q obj s1) F.called_tuple (F.typeCall_tuple_1 _) F.entry_object_init
    (tuple_new (A := A.in1) hh hI hP hd pI rw0 fun h' tk acc G => ⟨⟨_, Heap.get?_push_size _ rfl, rfl⟩, hQ h' tk acc G⟩) fun obj s1 h1 => ⟨h1.1, F.args_object_init_2 obj _, object_init_meets F.called_tuple.init.lookup F.called_tuple.made (by decide) prog w A.in1 _ s1 ⟨h1.1, rfl, h1.2⟩⟩
end
end Cmb
end Pu

namespace Pu
open PySem PySem.Spec PyProof.Rows L2
namespace Cmb
theorem sub_self : isSubtype (.type "itertools.combinations") (.type "itertools.combinations") = pure true := by rw [isSubtype_type]; kernel_rfl
theorem hasdict : typeHasDict (.type "itertools.combinations") = false := by kernel_rfl
/-- what the making of the iterator leaves: the pool at P, the iterator at I -/
structure MadeC (h0 h' : Heap) (P I : Addr) (items : Array Value) (N r : Nat) : Prop where
  pool : ∃ o k, h'.get? P = some o ∧ o.data = .seq items k
  it : h'.get? I = some (recO P 0 .none (List.range r))
  kp : ∀ b o, h0.get? b = some o → h'.get? b = some o
  pI : P ≠ I
  nI : h0.get? I = none
  its : items.size = N
  all : ∀ i v, items[i]? = some v → ∃ t : Tok, v = Value.int (i : Nat) t
theorem new_meets (ra : Addr) (N r : Nat) (t u v tr : Tok) (h1 : 1 ≤ r) (h2 : r ≤ N) (h3 : N ≤ 1000) : Meets (Builtin.«itertools.combinations.__new__» ⟨[.type "itertools.combinations", .ref ra, .int r tr], []⟩)
    (fun A R s => A.handled = none ∧ IsRange s.heap ra 0 N 1 t u v ∧ ∀ (h' : Heap) (tk : Nat) (P I : Addr) (items : Array Value), MadeC s.heap h' P I items N r → R (.ok (.ret (.ref I))) { s with heap := h', toks := tk }) :=
  .of_wp fun prog w A R s h => by
    obtain ⟨hp, g, d, tk, os⟩ := s
    obtain ⟨hh, hr, hR⟩ := h
    have hsub := sub_self
    have hdi := hasdict
    wp_walk
    have hcat : (("itertools." ++ "combinations" : String)) = "itertools.combinations" := by decide
    rw [hcat]
    refine wpAny_of_eq hsub ?_
    refine wpAny_pure ?_
    have hbind : Builtin.Itertools.itBindNamed "combinations" ["iterable", "r"] 2 2 [.ref ra, .int (r : Int) tr] [] = pure [some (.ref ra), some (.int (r : Int) tr)] := rfl
    refine wpAny_bind (wpAny_of_eq hbind ?_)
    have hss : Builtin.Itertools.itSsizeArg (.int (r : Int) tr) = pure (r : Int) := by
      have e : ((decide ((r : Int) < -(2 ^ 63 : Int)) || decide ((r : Int) ≥ 2 ^ 63)) = true) = False := by
        rw [eq_iff_iff, Bool.or_eq_true, decide_eq_true_eq, decide_eq_true_eq]
        constructor
        · rintro (h | h) <;> omega
        · exact False.elim
      have hai : asIndex (.int (r : Int) tr) = pure (r : Int) := rfl
      unfold Builtin.Itertools.itSsizeArg
      rw [hai, pure_bind, if_neg (by rw [e]; exact id)]
    refine wpAny_bind (wpAny_of_eq hss (wpAny_bind (L2.collect_range (s := ⟨hp, g, d, tk, os⟩) (A := A.in1) hh hr (small_one (by decide) (by decide) (by omega) (by omega)) (n := N) (by have := rangeSize_nat 0 (N : Int); simpa using this) (by omega) fun h' tk' acc k hi => ?_)))
    rw [if_neg (by omega)]
    have htm : Builtin.Itertools.itTooMany (r : Int) = false := by unfold Builtin.Itertools.itTooMany; rw [decide_eq_false_iff_not]; omega
    rw [htm]
    have lacc : acc.toList.length = N := by rw [Array.length_toList]; exact hi.1
    have f1 := small1000 h3
    refine wpAny_bind (m := newTuple _) (wpAny_newTuple (wpAny_pure ?_) (by rw [lacc]; omega))
    rw [lacc, Int.toNat_natCast]
    have hrN : ¬ r > N := by omega
    refine (?_ : wpAny _ A.in1 (Builtin.Itertools.itNewRecord (.type "itertools.combinations") ([.ref h'.objs.size, rawInt (if r > N then 2 else 0), .none] ++ (List.range r).map fun i : Nat => rawInt i) >>= fun v => ret v) _ _ _)
    rw [if_neg hrN]
    unfold Builtin.Itertools.itNewRecord
    rw [hdi, if_pos (by rfl)]
    obtain ⟨P0, eP⟩ : ∃ o : Obj, o = { cls := .type "tuple", data := .seq acc.toList.toArray } := ⟨_, rfl⟩
    rw [← eP]
    have fr2 := small1000 (n := r) (by omega)
    have hsz : sizeOk (.fields ([.ref h'.objs.size, rawInt 0, .none] ++ (List.range r).map fun i : Nat => rawInt i).toArray) := by
      show (List.toArray _).size ≤ sizeLine + 2
      simp; omega
    refine wpAny_bind (wpAny_newObj_type (T := "itertools.combinations") ?_ hsz)
    have zs : (h'.push P0).objs.size = h'.objs.size + 1 := by rw [Heap.size_push]
    refine wpAny_pure ⟨_, rfl, hR _ tk' h'.objs.size _ acc ⟨⟨P0, 0, Heap.get?_push_of_some _ (Heap.get?_push_size _ (by rw [eP]; rfl)), by rw [eP]⟩, ?_, fun b o e => Heap.get?_push_of_some _ (Heap.get?_push_of_some _ (k b o e)), ?_, ?_, hi.1, fun i v hv => ?_⟩⟩
    · exact Heap.get?_push_size _ rfl
    · rw [zs]; exact Nat.ne_of_lt (Nat.lt_succ_self _)
    · cases e : hp.get? (h'.push P0).objs.size with
      | none => rfl
      | some o => exact absurd (Heap.lt_size (k _ _ e)) (by rw [zs]; exact Nat.not_lt.mpr (Nat.le_succ _))
    · obtain ⟨t1, e⟩ := hi.2 i v hv
      exact ⟨t1, by rw [e]; simp⟩
end Cmb
end Pu

namespace Pu
open PySem PySem.Spec PyProof.Rows L2
namespace Cmb
/-- the choices one behind another -/
def seqF (N r : Nat) : Nat → List Nat
  | 0 => List.range r
  | i + 1 => (nxt N (seqF N r i)).getD []
def cnt (N r : Nat) : Nat := [[], [1], [2, 1], [3, 3, 1], [4, 6, 4, 1], [5, 10, 10, 5, 1], [6, 15, 20, 15, 6, 1]].getD N [] |>.getD (r - 1) 0
def rowB (N r : Nat) : Bool := decide (1 ≤ cnt N r) && ((List.range (cnt N r - 1)).all fun j => decide (nxt N (seqF N r j) = some (seqF N r (j + 1)))) && decide (nxt N (seqF N r (cnt N r - 1)) = none) && ((List.range (cnt N r)).all fun j => decide ((seqF N r j).length ≤ 6) && (seqF N r j).all fun i => decide (i < N))
theorem rows_ok : ((List.range 7).all fun N => (List.range N).all fun r => rowB N (r + 1)) = true := by decide +kernel
theorem row_of {N r : Nat} (h1 : 1 ≤ r) (h2 : r ≤ N) (h3 : N ≤ 6) : rowB N r = true := by
  have := List.all_eq_true.mp rows_ok N (List.mem_range.mpr (by omega))
  have := List.all_eq_true.mp this (r - 1) (List.mem_range.mpr (by omega))
  rwa [show r - 1 + 1 = r by omega] at this
theorem cnt_le : ((List.range 7).all fun N => (List.range 7).all fun r => decide (cnt N r ≤ 20)) = true := by decide +kernel
/-- the row, cut behind its end -/
def rowF (N r : Nat) (j : Nat) : List Nat := if j < cnt N r then seqF N r j else []
theorem row_is {N r : Nat} (h1 : 1 ≤ r) (h2 : r ≤ N) (h3 : N ≤ 6) : Row N (cnt N r) (rowF N r) ∧ rowF N r 0 = List.range r := by
  have h := row_of h1 h2 h3
  unfold rowB at h
  rw [Bool.and_eq_true, Bool.and_eq_true, Bool.and_eq_true] at h
  obtain ⟨⟨⟨a, b⟩, c⟩, d⟩ := h
  have a := of_decide_eq_true a
  have hl : cnt N r ≤ 20 := of_decide_eq_true (List.all_eq_true.mp (List.all_eq_true.mp cnt_le N (List.mem_range.mpr (by omega))) r (List.mem_range.mpr (by omega)))
  refine ⟨⟨a, by omega, fun j hj => ?_, ?_, fun j => ?_⟩, ?_⟩
  · have := of_decide_eq_true (List.all_eq_true.mp b j (List.mem_range.mpr (by omega)))
    unfold rowF
    rw [if_pos (by omega), if_pos hj]
    exact this
  · unfold rowF
    rw [if_pos (by omega)]
    exact of_decide_eq_true c
  · unfold rowF
    split
    · have := of_decide_eq_true ((Bool.and_eq_true _ _).mp (List.all_eq_true.mp d j (List.mem_range.mpr (by omega)))).1
      omega
    · simp
  · unfold rowF
    rw [if_pos (by omega)]; rfl
theorem row_in {N r : Nat} (h1 : 1 ≤ r) (h2 : r ≤ N) (h3 : N ≤ 6) {j i : Nat} (h : i ∈ rowF N r j) : i < N := by
  have hb := row_of h1 h2 h3
  unfold rowB at hb
  rw [Bool.and_eq_true, Bool.and_eq_true, Bool.and_eq_true] at hb
  unfold rowF at h
  split at h
  · have := ((Bool.and_eq_true _ _).mp (List.all_eq_true.mp hb.2 j (List.mem_range.mpr (by omega)))).2
    exact of_decide_eq_true (List.all_eq_true.mp this i h)
  · cases h
section
variable {X : Cx} {pins : List (Addr × Obj)} {σ : L2.St} {H : Hp} {s : Shared}
theorem var_here {i : Nat} {x : Str} {pos : Pos} {v : V} (I : Inv X pins σ H s) (hN : X.N[i]? = some x) (hk : X.env.kindOf x = some .local) (hv : Vis X.env.scope x) (e : σ[i]? = some (some v)) (hd : (x == ("__debug__" : Str)) = false := by decide) :
    ∃ u, RelV v u ∧ ∀ {Q : Value → Shared → Prop} {E : Value → Shared → Prop}, Q u s → wpAny (model X.prog X.w) X.A (eval (.Name x pos) X.env) Q E s := by
  obtain ⟨m, hn, hl⟩ := I.loc
  obtain ⟨u, r, l⟩ := hl i x v hN e hv
  refine ⟨u, r, fun {Q E} q => ?_⟩
  rcases l with ⟨_, hm⟩ | ⟨h2, _⟩
  · exact wpAny_Name (wpAny_loadName_local I.ok.kind hk hn hm q) hd
  · rw [hk] at h2
    rcases h2 with h2 | h2 <;> cases h2
/-- many objects laid at once -/
def layO (H : Hp) (ts : List (Addr × HO)) : Hp := fun b => match ts.lookup b with
  | some o => some o
  | none => H b
theorem layO_in {ts : List (Addr × HO)} {b : Addr} {o : HO} (h : layO H ts b = some o) : (b, o) ∈ ts ∨ H b = some o := by
  unfold layO at h
  cases e : ts.lookup b with
  | none => rw [e] at h; exact .inr h
  | some u =>
    rw [e] at h
    cases h
    left
    induction ts with
    | nil => cases e
    | cons q r ih =>
      rw [List.lookup_cons] at e
      by_cases hb : b = q.1
      · subst hb
        rw [beq_self_eq_true] at e
        cases e
        exact List.mem_cons_self
      · rw [beq_false_of_ne hb] at e
        exact List.mem_cons_of_mem _ (ih e)
theorem layO_old {ts : List (Addr × HO)} {b : Addr} (h : ∀ p ∈ ts, p.1 ≠ b) : layO H ts b = H b := by
  unfold layO
  have : ts.lookup b = none := by
    rw [List.lookup_eq_none_iff]
    intro p hp
    exact bne_iff_ne.mpr fun e => h p hp e.symm
  rw [this]
theorem lays {ts : List (Addr × HO)} {h' : Heap} {tk : Nat} (I : Inv X pins σ H s) (k : ∀ b o, s.heap.get? b = some o → h'.get? b = some o) (hn : ∀ p ∈ ts, H p.1 = none ∧ s.heap.get? p.1 = none) (ok : ∀ p ∈ ts, ObjOk X.prog X.w (layO H ts) h' p.1 p.2) :
    Inv X pins σ (layO H ts) { s with heap := h', toks := tk } := by
  have old : ∀ b o, H b = some o → layO H ts b = some o := fun b o e => (layO_old fun p hp z => by rw [← z, (hn p hp).1] at e; cases e).trans e
  refine I.un ⟨fun b o e _ _ _ => k b o e, fun b o e _ _ _ => ⟨o.slots, k b o e⟩, fun b o e n _ => (layO_old fun p hp z => by rw [← z, (hn p hp).2] at e; cases e).trans n, fun b o e _ => ⟨o, k b o e⟩, fun b xs e => old b _ e, fun b o u e => old b _ e, fun b ps e => ⟨#[], by rw [old b _ e]; simp⟩⟩ fun b o e => ?_
  rcases layO_in e with h | h
  · exact ok (b, o) h
  · exact (I.hok b o h).stay (fun c v _ q => k c v q) (fun c q => old c _ q) fun c xs q => old c _ q
end
end Cmb
end Pu

namespace Pu
open PySem PySem.Spec PyProof.Rows L2
namespace Cmb
/-- what tuple(combinations(range(N), r)) leaves -/
def cmbQ (σ : L2.St) (i : Nat) (Q : VK) (a b : Int) (H1 : Hp) : Prop := a = 0 ∧ ∃ N r : Nat, b = (N : Int) ∧ σ[i]? = some (some (.int (r : Int))) ∧ 1 ≤ r ∧ r ≤ N ∧ N ≤ 6 ∧
  ∀ (ts : List Addr) (q : Addr) (H3 : Hp), ts.length = cnt N r → (∀ t ∈ ts, H1 t = none) → H1 q = none → Same H1 H3 → H3 q = some (.tup (ts.map V.ref)) → (∀ j t, ts[j]? = some t → H3 t = some (.tup ((rowF N r j).map fun n : Nat => V.int n))) → Q (.ref q) H3
def tCmb (t1 : TE) (i : Nat) : TE := fun σ H Q => tRg1 t1 σ H (cmbQ σ i Q)
theorem vals_pick {items : Array Value} {N : Nat} (hs : items.size = N) (hi : ∀ i v, items[i]? = some v → ∃ t, v = Value.int (i : Nat) t) : ∀ idx : List Nat, (∀ i ∈ idx, i < N) → Vals (idx.map fun n : Nat => V.int n) (idx.map fun i => items.getD i .none)
  | [], _ => .nil
  | i :: r, h => by
    refine .cons ?_ (vals_pick hs hi r fun j hj => h j (List.mem_cons_of_mem _ hj))
    have hl : i < items.size := by rw [hs]; exact h i List.mem_cons_self
    obtain ⟨t, e⟩ := hi i items[i] (Array.getElem?_eq_getElem hl)
    refine ⟨t, ?_⟩
    show items.getD i .none = _
    rw [Array.getD, dif_pos hl]
    exact e
theorem zip_look {B : Type} {t : Addr} : ∀ {ts : List Addr} {os : List B}, ts.length = os.length → t ∈ ts → ∃ (j : Nat) (o : B), ts[j]? = some t ∧ os[j]? = some o ∧ (ts.zip os).lookup t = some o
  | [], _, _, h => by cases h
  | a :: ts, [], hl, _ => by simp at hl
  | a :: ts, b :: os, hl, h => by
    rw [List.zip_cons_cons, List.lookup_cons]
    by_cases e : t = a
    · subst e
      exact ⟨0, b, rfl, rfl, by rw [beq_self_eq_true]⟩
    · rcases List.mem_cons.mp h with e1 | e1
      · exact absurd e1 e
      · obtain ⟨j, o, h1, h2, h3⟩ := zip_look (ts := ts) (os := os) (by simpa using hl) e1
        exact ⟨j + 1, o, by simpa using h1, by simpa using h2, by rw [beq_false_of_ne e]; exact h3⟩
theorem vals_ref : ∀ ts : List Addr, Vals (ts.map V.ref) (ts.map Value.ref)
  | [] => .nil
  | _ :: ts => .cons rfl (vals_ref ts)
theorem vals_inj : ∀ {a b : List Nat} {l : List Value}, Vals (a.map fun n : Nat => V.int n) l → Vals (b.map fun n : Nat => V.int n) l → a = b
  | [], [], _, _, _ => rfl
  | [], b :: bs, _, h1, h2 => by cases h1; cases h2
  | a :: as, [], _, h1, h2 => by cases h2; cases h1
  | a :: as, b :: bs, _, h1, h2 => by
    cases h1 with
    | cons x xs =>
      cases h2 with
      | cons y ys =>
        obtain ⟨t, e⟩ := x
        obtain ⟨t', e'⟩ := y
        rw [e] at e'
        cases e'
        rw [vals_inj xs ys]
section
variable {X : Cx} {pins : List (Addr × Obj)} {σ : L2.St} {H : Hp} {s : Shared} {t1 : TE} {i : Nat}
theorem call_cmb {A : Around} {E : Value → Shared → Prop} {ra : Addr} {N r : Nat} {t u v tr : Tok} {Q : Value → Shared → Prop} (h1 : 1 ≤ r) (h2 : r ≤ N) (h3 : N ≤ 1000) (hh : A.handled = none) (hr : IsRange s.heap ra 0 N 1 t u v)
    (hQ : ∀ (h' : Heap) (tk : Nat) (P I : Addr) (items : Array Value), MadeC s.heap h' P I items N r → Q (.ref I) { s with heap := h', toks := tk }) : wpAny (model X.prog X.w) A (call (.type "itertools.combinations") [.ref ra, .int (r : Int) tr]) Q E s :=
  callType_new called (by decide) (tc _ _) (nc _ _) (fun obj => ao obj _ _) en_new (new_meets ra N r t u v tr h1 h2 h3) ⟨hh, hr, fun h' tk P I items M => ⟨⟨_, M.it, rfl⟩, hQ h' tk P I items M⟩⟩
theorem tups_ok {N r : Nat} {I : Addr} {h0 h' : Heap} {items acc : Array Value} (h1 : 1 ≤ r) (h2 : r ≤ N) (h3 : N ≤ 6) (hs : items.size = N) (hi : ∀ i v, items[i]? = some v → ∃ t, v = Value.int (i : Nat) t) (G : All h0 h' I items (rowF N r) (cnt N r) acc) :
    ∃ ts : List Addr, ts.length = cnt N r ∧ acc.toList = ts.map Value.ref ∧ ∀ j t, ts[j]? = some t → h0.objs.size ≤ t ∧ h'.get? t = some (pickO items (rowF N r j)) := by
  have key : ∀ l : List Value, (∀ (j : Nat) (v : Value), l[j]? = some v → ∃ T : Addr, v = Value.ref T) → ∃ ts : List Addr, l = ts.map Value.ref := by
    intro l
    induction l with
    | nil => exact fun _ => ⟨[], rfl⟩
    | cons a l ih =>
      intro h
      obtain ⟨T, rfl⟩ := h 0 a rfl
      obtain ⟨ts, rfl⟩ := ih fun j v e => h (j + 1) v (by simpa using e)
      exact ⟨T :: ts, rfl⟩
  have hl : acc.toList.length = cnt N r := by rw [Array.length_toList]; exact G.len
  obtain ⟨ts, e⟩ := key acc.toList fun j v e => by
    have hj : j < cnt N r := by rw [← hl]; exact (List.getElem?_eq_some_iff.mp e).1
    obtain ⟨T, e1, _⟩ := G.all j hj
    rw [Array.getElem?_toList, e1] at e
    exact ⟨T, (Option.some.inj e).symm⟩
  refine ⟨ts, by rw [← hl, e, List.length_map], e, fun j t ht => ?_⟩
  have hj : j < cnt N r := by
    have := (List.getElem?_eq_some_iff.mp ht).1
    rw [← hl, e, List.length_map]; exact this
  obtain ⟨T, e1, e2, e3⟩ := G.all j hj
  have : acc.toList[j]? = some (.ref t) := by rw [e, List.getElem?_map, ht]; rfl
  rw [Array.getElem?_toList, e1] at this
  cases this
  exact ⟨e2, e3⟩
theorem pe_cmb {e1 : Expr} {y : Str} {p1 p2 p3 p4 p5 p6 p7 : Pos} (hc : X.calm = true) (hg1 : Gl X "tuple") (hm1 : X.mg "tuple" = none) (hg2 : Gl X "combinations") (hm2 : X.mg "combinations" = some (.type "itertools.combinations")) (hg3 : Gl X "range") (hm3 : X.mg "range" = none) (h1 : PE X e1 t1)
    (hN : X.N[i]? = some y) (hk : X.env.kindOf y = some .local) (hv : Vis X.env.scope y) (hd : (y == ("__debug__" : Str)) = false) (na : starEach [e1] X.env = (false, eval e1 X.env) :: starEach [] X.env) :
    PE X (.Call (.Name "tuple" p1) [.Call (.Name "combinations" p2) [.Call (.Name "range" p3) [e1] [] p4, .Name y p5] [] p6] [] p7) (tCmb t1 i) := by
  refine ⟨fun pins s σ H Q I h => ?_⟩
  have rg := prg_1 (X := X) (p := p3) (pos := p4) hg3 hm3 h1 na
  refine Call_ (ld_blt I hg1 hm1 boot_tuple (PyProof.Rows.callWith_type1 (args_cons ?_ (by rfl)) (by rfl)))
  have n2 : starEach [Expr.Call (.Name "range" p3) [e1] [] p4, .Name y p5] X.env = (false, eval (Expr.Call (.Name "range" p3) [e1] [] p4) X.env) :: starEach [.Name y p5] X.env := rfl
  have n3 : starEach [Expr.Name y p5] X.env = (false, eval (Expr.Name y p5) X.env) :: starEach [] X.env := rfl
  refine Call_ (ld_glob I hg2 hm2 (PyProof.Rows.callWith_type1 (args_cons (thn (rg pins s σ H (cmbQ σ i Q) I h) fun x s1 ⟨r0, a, b, t, u, v, H1, ex, hr, I1, q⟩ => ?_) n2) (by rfl)))
  subst ex
  obtain ⟨rfl, N, r, rfl, hσ, h1, h2, h3, q⟩ := q
  obtain ⟨ur, er, var⟩ := var_here (pos := p5) I1 hN hk hv hσ hd
  obtain ⟨tr, rfl⟩ := er
  refine args_cons (var (args_nil ?_)) n3
  have hh : X.A.handled = none := I.ok.hd hc
  refine call_cmb h1 h2 (by omega) hh hr fun h' tk P It items M => args_nil ?_
  obtain ⟨oP, k, eP, dP⟩ := M.pool
  obtain ⟨R0, e0⟩ := row_is h1 h2 h3
  have I2 : Inv X pins σ H1 { s1 with heap := h', toks := tk } := I1.kept M.kp
  refine tuple_cmb (s := { s1 with heap := h', toks := tk }) (c := rowF N r) (last := .none) hh (by rw [e0]; exact M.it) eP dP M.pI (by rw [M.its]; exact R0) fun h2' tk2 acc G => ?_
  obtain ⟨ts, lt, et, ht⟩ := tups_ok h1 h2 h3 M.its M.all G
  have lo : ∀ {b : Addr}, h'.objs.size ≤ b → H1 b = none ∧ s1.heap.get? b = none := fun {b} hb => ⟨I2.hok.fresh hb, by
    cases e : s1.heap.get? b with
    | none => rfl
    | some o => exact absurd (Heap.lt_size (M.kp _ _ e)) (Nat.not_lt.mpr hb)⟩
  have sq : h'.objs.size ≤ h2'.objs.size := G.sz
  have lacc : ts.length ≤ sizeLine := by rw [lt]; exact Nat.le_of_lt (small1000 R0.lim)
  let os : List HO := (List.range (cnt N r)).map fun j => HO.tup ((rowF N r j).map fun n : Nat => V.int n)
  have los : ts.length = os.length := by simp [os, lt]
  have inz : ∀ {p : Addr × HO}, p ∈ ts.zip os → ∃ j, ts[j]? = some p.1 ∧ p.2 = HO.tup ((rowF N r j).map fun n : Nat => V.int n) := fun {p} hp => by
    obtain ⟨j, hj, e⟩ := List.getElem_of_mem hp
    have e' : (ts.zip os)[j]? = some p := by rw [List.getElem?_eq_getElem hj, e]
    rw [List.getElem?_zip_eq_some] at e'
    obtain ⟨a1, a2⟩ := e'
    refine ⟨j, a1, ?_⟩
    simp only [os, List.getElem?_map] at a2
    cases e3 : (List.range (cnt N r))[j]? with
    | none => rw [e3] at a2; cases a2
    | some k =>
      rw [e3] at a2
      have := List.getElem?_range (n := cnt N r) (i := j)
      have hk : k = j := by
        obtain ⟨hl, e4⟩ := List.getElem?_eq_some_iff.mp e3
        rw [← e4, List.getElem_range]
      subst hk
      exact (Option.some.inj a2).symm
  have kp : ∀ b o, s1.heap.get? b = some o → (h2'.push { cls := .type "tuple", data := .seq acc }).get? b = some o := fun b o e => by
    have nb : b ≠ It := fun z => by rw [z, M.nI] at e; cases e
    exact Heap.get?_push_of_some _ (G.kp b o nb (M.kp b o e))
  have I3 := lays (ts := (h2'.objs.size, .tup (ts.map V.ref)) :: ts.zip os) (tk := tk2) I1 kp (fun p hp => by
    rcases List.mem_cons.mp hp with rfl | hp
    · exact lo sq
    · obtain ⟨j, e, _⟩ := inz hp
      exact lo (ht j _ e).1) (fun p hp => by
    rcases List.mem_cons.mp hp with rfl | hp
    · exact ⟨by rw [List.length_map]; exact lacc, _, vals_ref ts, ⟨_, Heap.get?_push_size _ rfl, rfl, 0, by show Data.seq acc = _; rw [← et]⟩⟩
    · obtain ⟨j, e, e2⟩ := inz hp
      obtain ⟨_, g⟩ := ht j _ e
      rw [e2]
      have hlen := R0.len j
      exact ⟨by rw [List.length_map]; exact Nat.le_of_lt (small1000 hlen), _, vals_pick M.its M.all _ (fun i hi => row_in h1 h2 h3 hi), ⟨_, Heap.get?_push_of_some _ g, rfl, 0, rfl⟩⟩)
  refine ⟨.ref h2'.objs.size, _, I3, rfl, ?_⟩
  have old : Same H1 (layO H1 ((h2'.objs.size, .tup (ts.map V.ref)) :: ts.zip os)) := fun b o e => (layO_old fun p hp z => by
    rcases List.mem_cons.mp hp with rfl | hp
    · rw [← z, (lo sq).1] at e; cases e
    · obtain ⟨j, e1, _⟩ := inz hp
      rw [← z, (lo (ht j _ e1).1).1] at e; cases e).trans e
  refine (q ts h2'.objs.size _ lt (fun t hm => ?_) (lo sq).1 old ?_ fun j t hj => ?_)
  · obtain ⟨j, hj, e⟩ := List.getElem_of_mem hm
    exact (lo (ht j t (by rw [List.getElem?_eq_getElem hj, e])).1).1
  · unfold layO
    rw [List.lookup_cons, beq_self_eq_true]
  · have ne : t ≠ h2'.objs.size := Nat.ne_of_lt (Heap.lt_size (ht j t hj).2)
    obtain ⟨j', o, a1, a2, a3⟩ := zip_look (t := t) los (List.mem_of_getElem? hj)
    unfold layO
    rw [List.lookup_cons, beq_false_of_ne ne]
    simp only [a3]
    obtain ⟨j2, b1, b2⟩ := inz (p := (t, o)) (by
      have : (ts.zip os)[j']? = some (t, o) := List.getElem?_zip_eq_some.mpr ⟨a1, a2⟩
      exact List.mem_of_getElem? this)
    have c1 := (ht j t hj).2
    have c2 := (ht j2 t b1).2
    rw [c1] at c2
    have c3 : (rowF N r j).map (fun i => items.getD i Value.none) = (rowF N r j2).map (fun i => items.getD i Value.none) := by
      have := congrArg Obj.data (Option.some.inj c2)
      simp only [pickO, Data.seq.injEq] at this
      simpa using this
    have v1 := vals_pick M.its M.all (rowF N r j) (fun i hi => row_in h1 h2 h3 hi)
    have v2 := vals_pick M.its M.all (rowF N r j2) (fun i hi => row_in h1 h2 h3 hi)
    rw [← c3] at v2
    rw [vals_inj v1 v2]
    exact congrArg some b2
end
end Cmb
end Pu

namespace Ch
open Pu
/-- lots that are all sets of one size -/
structure Cnt (many least : Nat) (lots : List (List Int)) : Prop where
  mem : ∀ l, l ∈ lots ↔ l.Pairwise (· < ·) ∧ (∀ o ∈ l, 0 ≤ o ∧ o < many) ∧ l.length = least
section
variable {many least : Nat} {heads' : List Int} {lots : List (List Int)}
theorem has_cnt (K : Cnt many least lots) {S : Int → Bool} : has lots S = decide (least ≤ cnt many S) := by
  rw [Bool.eq_iff_iff, decide_eq_true_eq, has_iff]
  constructor
  · rintro ⟨l, hl, h⟩
    obtain ⟨h1, h2, h3⟩ := (K.mem l).mp hl
    have nd : l.Nodup := h1.imp fun h => Int.ne_of_lt h
    have := List.Nodup.length_le_of_subset nd (l₂ := (rng many).filter S) fun x hx => List.mem_filter.mpr ⟨mem_rng.mpr (h2 x hx), h x hx⟩
    unfold cnt
    omega
  · intro h
    refine ⟨((rng many).filter S).take least, (K.mem _).mpr ⟨((rng_asc many).filter _).sublist (List.take_sublist _ _), fun o ho => ?_, ?_⟩, fun o ho => ?_⟩
    · exact mem_rng.mp (List.mem_filter.mp (List.mem_of_mem_take ho)).1
    · rw [List.length_take]; unfold cnt at h; omega
    · exact (List.mem_filter.mp (List.mem_of_mem_take ho)).2
theorem cnt_not (S : Int → Bool) : cnt many S + cnt many (fun o => !S o) = many := by
  unfold cnt
  have : ∀ l : List Int, (l.filter S).length + (l.filter fun o => !S o).length = l.length := by
    intro l
    induction l with
    | nil => rfl
    | cons a r ih =>
      rw [List.filter_cons, List.filter_cons]
      cases S a <;> simp <;> omega
  rw [this, rng_len]
/-- a set of c owners with p, without q -/
theorem set_ex {p q : Int} (hp : 0 ≤ p ∧ p < many) (hq : 0 ≤ q ∧ q < many) (n : p ≠ q) {c : Nat} (c1 : 1 ≤ c) (c2 : c + 1 ≤ many) : ∃ S : Int → Bool, S p = true ∧ S q = false ∧ cnt many S = c := by
  have ndr : (rng many).Nodup := (rng_asc many).imp fun h => Int.ne_of_lt h
  have l2 : many ≤ ((rng many).filter fun o => !decide (o = p ∨ o = q)).length + 2 := by
    have := List.Nodup.length_le_of_subset ndr (l₂ := p :: q :: (rng many).filter fun o => !decide (o = p ∨ o = q)) fun x hx => by
      by_cases h1 : x = p
      · simp [h1]
      · by_cases h2 : x = q
        · simp [h2]
        · exact List.mem_cons_of_mem _ (List.mem_cons_of_mem _ (List.mem_filter.mpr ⟨hx, by simp [h1, h2]⟩))
    rw [rng_len] at this
    simpa using this
  generalize hT : ((rng many).filter fun o => !decide (o = p ∨ o = q)).take (c - 1) = Tk
  have tl : Tk.length = c - 1 := by rw [← hT, List.length_take]; omega
  have tin : ∀ o ∈ Tk, (0 ≤ o ∧ o < many) ∧ o ≠ p ∧ o ≠ q := fun o ho => by
    rw [← hT] at ho
    have h := List.mem_filter.mp (List.mem_of_mem_take ho)
    have h2 := h.2
    simp only [Bool.not_eq_true', decide_eq_false_iff_not, not_or] at h2
    exact ⟨mem_rng.mp h.1, h2⟩
  have tnd : (p :: Tk).Nodup := List.nodup_cons.mpr ⟨fun h => (tin p h).2.1 rfl, by rw [← hT]; exact (ndr.filter _).sublist (List.take_sublist _ _)⟩
  refine ⟨fun o => decide (o ∈ p :: Tk), by simp, ?_, ?_⟩
  · rw [decide_eq_false_iff_not, List.mem_cons, not_or]
    exact ⟨fun e => n e.symm, fun h => (tin q h).2.2 rfl⟩
  · have : ((rng many).filter fun o => decide (o ∈ p :: Tk)).Perm (p :: Tk) := by
      refine (List.perm_ext_iff_of_nodup (ndr.filter _) tnd).mpr fun o => ?_
      rw [List.mem_filter, decide_eq_true_eq]
      refine ⟨fun h => h.2, fun h => ⟨mem_rng.mpr ?_, h⟩⟩
      rcases List.mem_cons.mp h with rfl | h
      · exact hp
      · exact (tin o h).1
    unfold cnt
    rw [this.length_eq, List.length_cons, tl]
    omega
theorem cnt_ge {S : Int → Bool} {l : List Int} (nd : l.Nodup) (h : ∀ o ∈ l, (0 ≤ o ∧ o < many) ∧ S o = true) : l.length ≤ cnt many S :=
  List.Nodup.length_le_of_subset nd fun o ho => List.mem_filter.mpr ⟨mem_rng.mpr (h o ho).1, (h o ho).2⟩
theorem sure_cnt (C : Charter many heads' lots) (K : Cnt many least lots) (l1 : 1 ≤ least) (l2 : least ≤ many) : Sure many heads' lots ↔ heads'.length = 1 ∨ (heads'.length = 2 ∧ 2 * least = many + 1) := by
  constructor
  · intro U
    match heads', C, U with
    | [], C, _ => exact absurd rfl C.pne
    | [p], _, _ => exact .inl rfl
    | [p, q], C, U =>
      right
      refine ⟨rfl, ?_⟩
      have hp := C.pin p (by simp)
      have hq := C.pin q (by simp)
      have n : p ≠ q := by have := C.pasc; simp at this; omega
      have key : ∀ c, 1 ≤ c → c + 1 ≤ many → (least ≤ many - c ↔ ¬ least ≤ c) := fun c c1 c2 => by
        obtain ⟨S, sp, sq, hc⟩ := set_ex hp hq n c1 c2
        have := two C U (p := p) (q := q) (by simp) (by simp) sp sq
        rw [has_cnt K, has_cnt K] at this
        have cn := cnt_not (many := many) S
        rw [hc] at this cn
        rw [Bool.eq_iff_iff] at this
        simp only [decide_eq_true_eq, Bool.not_eq_true', decide_eq_false_iff_not] at this
        have e : cnt many (fun o => !S o) = many - c := by omega
        rw [e] at this
        exact this
      have m2 : 2 ≤ many := by omega
      by_cases a : least + 1 ≤ many
      · have h1 := key least l1 a
        by_cases b : 2 ≤ least
        · have h2 := key (least - 1) (by omega) (by omega)
          omega
        · omega
      · have h2 := key (many - 1) (by omega) (by omega)
        omega
    | p :: q :: r :: t, C, U =>
      exfalso
      have hp := C.pin p (by simp)
      have hq := C.pin q (by simp)
      have hr := C.pin r (by simp)
      have pasc := C.pasc
      simp only [List.pairwise_cons, List.mem_cons] at pasc
      have pq : p < q := pasc.1 q (by simp)
      have pr : p < r := pasc.1 r (by simp)
      have qr : q < r := pasc.2.1 r (by simp)
      obtain ⟨d, d0, d1, D⟩ := decider_ex C U (by simp)
      have least2 : least ≤ 2 := by
        have h := D p (by simp)
        rw [has_cnt K, decide_eq_true_eq] at h
        refine Nat.le_trans h ?_
        have ndr : (rng many).Nodup := (rng_asc many).imp fun h => Int.ne_of_lt h
        have := List.Nodup.length_le_of_subset (ndr.filter fun o => o == p || o == d) (l₂ := [p, d]) fun x hx => by
          have := (List.mem_filter.mp hx).2
          simpa using this
        exact this
      -- two heads with their own followers
      have torn : ∀ (x y z u : Int), x ∈ p :: q :: r :: t → y ∈ p :: q :: r :: t → x ≠ y → x ≠ z → y ≠ u → z ≠ y → u ≠ x → (0 ≤ z ∧ z < many) → (0 ≤ u ∧ u < many) → z ≠ u → False := fun x y z u hx hy nxy nxz nyu nzy nux hz hu nzu => by
        have hx0 := C.pin x hx
        have hy0 := C.pin y hy
        have F : Fn many (p :: q :: r :: t) (fun o => if o = y ∨ o = u then y else x) := by
          refine ⟨fun o _ _ => ?_, fun o _ _ => ?_⟩
          · show (if o = y ∨ o = u then y else x) ∈ _
            split
            · exact hy
            · exact hx
          · show (if (if o = y ∨ o = u then y else x) = y ∨ (if o = y ∨ o = u then y else x) = u then y else x) = if o = y ∨ o = u then y else x
            by_cases e : o = y ∨ o = u
            · rw [if_pos e, if_pos (.inl rfl)]
            · rw [if_neg e, if_neg (by rintro (h | h); exact nxy h; exact nux h.symm)]
        obtain ⟨w, hw, _, hu'⟩ := sure_fn C U F
        have h1 : has lots (fun o => (if o = y ∨ o = u then y else x) == x) = true := by
          rw [has_cnt K, decide_eq_true_eq]
          refine Nat.le_trans least2 (cnt_ge (l := [x, z]) (by simp [nxz]) fun o ho => ?_)
          simp only [List.mem_cons, List.not_mem_nil, or_false] at ho
          rcases ho with rfl | rfl
          · exact ⟨hx0, by rw [if_neg (by rintro (h | h); exact nxy h; exact nux h.symm)]; simp⟩
          · exact ⟨hz, by rw [if_neg (by rintro (h | h); exact nzy h; exact nzu h)]; simp⟩
        have h2 : has lots (fun o => (if o = y ∨ o = u then y else x) == y) = true := by
          rw [has_cnt K, decide_eq_true_eq]
          refine Nat.le_trans least2 (cnt_ge (l := [y, u]) (by simp [nyu]) fun o ho => ?_)
          simp only [List.mem_cons, List.not_mem_nil, or_false] at ho
          rcases ho with rfl | rfl
          · exact ⟨hy0, by rw [if_pos (.inl rfl)]; simp⟩
          · exact ⟨hu, by rw [if_pos (.inr rfl)]; simp⟩
        exact nxy ((hu' x hx h1).trans (hu' y hy h2).symm)
      by_cases e1 : least = 1
      · -- each one alone
        have F : Fn many (p :: q :: r :: t) (fun o => if o = q then q else p) := by
          refine ⟨fun o _ _ => ?_, fun o _ _ => ?_⟩
          · show (if o = q then q else p) ∈ _
            split <;> simp
          · show (if (if o = q then q else p) = q then q else p) = if o = q then q else p
            by_cases e : o = q
            · rw [if_pos e, if_pos rfl]
            · rw [if_neg e, if_neg (by omega)]
        obtain ⟨w, hw, _, hu'⟩ := sure_fn C U F
        have h1 : has lots (fun o => (if o = q then q else p) == p) = true := by
          rw [has_cnt K, decide_eq_true_eq, e1]
          refine cnt_ge (l := [p]) (by simp) fun o ho => ?_
          rw [List.mem_singleton.mp ho]
          exact ⟨hp, by rw [if_neg (by omega)]; simp⟩
        have h2 : has lots (fun o => (if o = q then q else p) == q) = true := by
          rw [has_cnt K, decide_eq_true_eq, e1]
          refine cnt_ge (l := [q]) (by simp) fun o ho => ?_
          rw [List.mem_singleton.mp ho]
          exact ⟨hq, by rw [if_pos rfl]; simp⟩
        have := (hu' p (by simp) h1).trans (hu' q (by simp) h2).symm
        omega
      · -- the decider is none of the proposers
        have nd : ∀ x, x ∈ p :: q :: r :: t → d ≠ x := fun x hx e => by
          have h := D x hx
          rw [has_cnt K, decide_eq_true_eq] at h
          have ndr : (rng many).Nodup := (rng_asc many).imp fun h => Int.ne_of_lt h
          have := List.Nodup.length_le_of_subset (ndr.filter fun o => o == x || o == d) (l₂ := [x]) fun y hy => by
            have := (List.mem_filter.mp hy).2
            rw [e] at this
            simpa using this
          unfold cnt at h
          simp at this
          omega
        have n1 := nd p (by simp)
        have n2 := nd q (by simp)
        have n3 := nd r (by simp)
        exact torn p q d r (by simp) (by simp) (by omega) (by omega) (by omega) (by omega) (by omega) ⟨d0, d1⟩ hr (by omega)
  · rintro (h | ⟨h, e⟩)
    · exact (torn_iff C).mp (Pu.f2 C h).1
    · obtain ⟨p, q, rfl⟩ : ∃ p q, heads' = [p, q] := by
        match heads', h with
        | [p, q], _ => exact ⟨p, q, rfl⟩
      intro row S
      have sl := S.len
      have n : p ≠ q := by have := C.pasc; simp at this; omega
      have at2 : ∀ o : Int, 0 ≤ o → o < many → at_ row o = p ∨ at_ row o = q := fun o a b => by simpa using S.ins _ (at_mem a (by omega : o < row.length))
      have hd : heads [p, q] lots row = (if (has lots fun o => at_ row o == p) = true then [p] else []) ++ (if (has lots fun o => at_ row o == q) = true then [q] else []) := by
        unfold heads
        rw [List.filter_cons, List.filter_cons, List.filter_nil]
        split <;> split <;> rfl
      have nq : (has lots fun o => at_ row o == q) = has lots fun o => !(at_ row o == p) := has_congr C fun o a b => by
        rcases at2 o a b with e | e <;> rw [e] <;> simp [n, Ne.symm n]
      have cn := cnt_not (many := many) (fun o => at_ row o == p)
      rw [hd, nq, has_cnt K, has_cnt K]
      by_cases c : least ≤ cnt many (fun o => at_ row o == p)
      · rw [if_pos (by simpa using c), if_neg (by simp only [decide_eq_true_eq]; omega)]; rfl
      · rw [if_neg (by simpa using c), if_pos (by simp only [decide_eq_true_eq]; omega)]; rfl
end
end Ch

namespace Pu
open PySem PySem.Spec PyProof.Rows L2
/-! ### charters that count -/
def rowsI (n r : Nat) : List (List Int) := (List.range (Cmb.cnt n r)).map fun j => (Cmb.rowF n r j).map fun i : Nat => (i : Int)
def rowsB (n r : Nat) : Bool := decide (rowsI n r ≠ []) && decide ((rowsI n r).length ≤ 64) && ((rowsI n r).all fun l => decide (l ≠ []) && decide (l.Pairwise (· < ·)) && (l.all fun o => decide (0 ≤ o) && decide (o < n)) && decide (l.length = r)) &&
  decide ((rowsI n r).Pairwise (fun a b => HT.lexLt a b = true)) && ((rowsI n r).all fun a => (rowsI n r).all fun b => decide (a = b) || b.any fun o => !decide (o ∈ a)) && ((Ch.sets n).all fun p => !decide (p.length = r) || decide (p ∈ rowsI n r))
theorem rowsB_ok : ((List.range 7).all fun n => (List.range n).all fun r => rowsB n (r + 1)) = true := by decide +kernel
theorem rowsB_of {N r : Nat} (h1 : 1 ≤ r) (h2 : r ≤ N) (h3 : N ≤ 6) : rowsB N r = true := by
  have := List.all_eq_true.mp rowsB_ok N (List.mem_range.mpr (by omega))
  have := List.all_eq_true.mp this (r - 1) (List.mem_range.mpr (by omega))
  rwa [show r - 1 + 1 = r by omega] at this
structure RowsP (n r : Nat) : Prop where
  ne : rowsI n r ≠ []
  len : (rowsI n r).length ≤ 64
  one : ∀ l ∈ rowsI n r, l ≠ [] ∧ l.Pairwise (· < ·) ∧ (∀ o ∈ l, 0 ≤ o ∧ o < n) ∧ l.length = r
  lasc : (rowsI n r).Pairwise (fun a b => HT.lexLt a b = true)
  anti : ∀ a ∈ rowsI n r, ∀ b ∈ rowsI n r, a ≠ b → ∃ o ∈ b, o ∉ a
  all : ∀ p ∈ Ch.sets n, p.length = r → p ∈ rowsI n r
theorem rowsP {n r : Nat} (h1 : 1 ≤ r) (h2 : r ≤ n) (h3 : n ≤ 6) : RowsP n r := by
  have h := rowsB_of h1 h2 h3
  unfold rowsB at h
  rw [Bool.and_eq_true, Bool.and_eq_true, Bool.and_eq_true, Bool.and_eq_true, Bool.and_eq_true] at h
  obtain ⟨⟨⟨⟨⟨a, b⟩, c⟩, d⟩, e⟩, f⟩ := h
  refine ⟨of_decide_eq_true a, of_decide_eq_true b, fun l hl => ?_, of_decide_eq_true d, fun x hx y hy n => ?_, fun p hp hl => ?_⟩
  · have := List.all_eq_true.mp c l hl
    rw [Bool.and_eq_true, Bool.and_eq_true, Bool.and_eq_true] at this
    obtain ⟨⟨⟨q1, q2⟩, q3⟩, q4⟩ := this
    refine ⟨of_decide_eq_true q1, of_decide_eq_true q2, fun o ho => ?_, of_decide_eq_true q4⟩
    have := List.all_eq_true.mp q3 o ho
    rw [Bool.and_eq_true] at this
    exact ⟨of_decide_eq_true this.1, of_decide_eq_true this.2⟩
  · have := List.all_eq_true.mp (List.all_eq_true.mp e x hx) y hy
    rw [Bool.or_eq_true] at this
    rcases this with h | h
    · exact absurd (of_decide_eq_true h) n
    · obtain ⟨o, ho, h⟩ := List.any_eq_true.mp h
      exact ⟨o, ho, by simpa using h⟩
  · have := List.all_eq_true.mp f p hp
    rw [Bool.or_eq_true] at this
    rcases this with h | h
    · simp [hl] at h
    · exact of_decide_eq_true h
theorem cnt_ch {n r : Nat} {props : List Int} (h1 : 1 ≤ r) (h2 : r ≤ n) (h3 : n ≤ 6) (pne : props ≠ []) (pasc : props.Pairwise (· < ·)) (pin : ∀ o ∈ props, 0 ≤ o ∧ o < n) : Ch2 n props (rowsI n r) := by
  have R := rowsP h1 h2 h3
  refine ⟨{ m1 := by omega, m6 := h3, pne := pne, pasc := pasc, pin := pin, lne := R.ne, llen := R.len, one := fun l hl => ⟨(R.one l hl).1, (R.one l hl).2.1, (R.one l hl).2.2.1⟩ }, R.lasc, R.anti⟩
theorem cnt_K {n r : Nat} (h1 : 1 ≤ r) (h2 : r ≤ n) (h3 : n ≤ 6) : Ch.Cnt n r (rowsI n r) := by
  have R := rowsP h1 h2 h3
  exact ⟨fun l => ⟨fun h => ⟨(R.one l h).2.1, (R.one l h).2.2.1, (R.one l h).2.2.2⟩, fun ⟨a, b, c⟩ => R.all l (Ch.sets_all n l a b) c⟩⟩
theorem rps_of {N : NP} {H : Hp} : ∀ {vs : List V} {ds : List PyData}, vs.length = ds.length → (∀ (j : Nat) (v : V) (d : PyData), vs[j]? = some v → ds[j]? = some d → Rp N H v d) → Rps N H vs ds
  | [], [], _, _ => .nil
  | v :: vs, d :: ds, hl, h => .cons (h 0 v d rfl rfl) (rps_of (by simpa using hl) fun j v d e1 e2 => h (j + 1) v d (by simpa using e1) (by simpa using e2))
theorem de_cmb {N : NP} {σ : L2.St} {H : Hp} {t1 : TE} {i : Nat} {n r : Nat} (h : DE N t1 σ H (.int (n : Int))) (hσ : σ[i]? = some (some (.int (r : Int)))) (h1 : 1 ≤ r) (h2 : r ≤ n) (h3 : n ≤ 6) : DE N (Cmb.tCmb t1 i) σ H (tT (rowsI n r)) := fun N1 H1 u f Q q =>
  h N1 H1 u f _ fun v H2 s2 r2 => by
    cases r2
    refine ⟨_, rfl, rfl, n, r, rfl, hσ, h1, h2, h3, fun ts p H3 lt hts hp s3 ep et => q _ H3 (s2.trans s3) ?_⟩
    have f2 := f.same s2
    refine .tup (f2 p hp) ep (rps_of (by simp [rowsI, lt]) fun j v d e1 e2 => ?_)
    rw [List.getElem?_map] at e1
    unfold rowsI at e2
    rw [List.map_map, List.getElem?_map] at e2
    cases e3 : ts[j]? with
    | none => rw [e3] at e1; cases e1
    | some t =>
      rw [e3] at e1
      cases e1
      have hj : j < Cmb.cnt n r := by rw [← lt]; exact (List.getElem?_eq_some_iff.mp e3).1
      rw [List.getElem?_range hj] at e2
      cases e2
      refine .tup (f2 t (hts t (List.mem_of_getElem? e3))) (et j t e3) ?_
      have := rps_ints (N := N1) (H := H3) ((Cmb.rowF n r j).map fun i : Nat => (i : Int))
      rw [List.map_map] at this
      exact this
def R_losz : List PyData → PyData → Prop := fun ds d => ∃ n r : Nat, ds = [.int (n : Int), .int (r : Int)] ∧ 1 ≤ r ∧ r ≤ n ∧ n ≤ 6 ∧ d = tT (rowsI n r)
def R_count : List PyData → PyData → Prop := fun ds d => ∃ (n r : Nat) (props : List Int), ds = [.int (n : Int), tI props, .int (r : Int)] ∧ 1 ≤ r ∧ r ≤ n ∧ n ≤ 6 ∧ props ≠ [] ∧ props.Pairwise (· < ·) ∧ (∀ o ∈ props, 0 ≤ o ∧ o < n) ∧ d = chD n props (rowsI n r)
section
variable {P : Program} {w : World} {K : PySem.W.Frag} {mg : Str → Option Value} {base : Heap}
abbrev s_lots_of_size : Stmt := top 23
theorem sc_lots_of_size : FnScope ["many", "size"] ["many", "size"] (defScope s_lots_of_size) := ⟨rfl, rfl, rfl, by decide +kernel, rfl, by decide +kernel, by decide +kernel⟩
theorem ok_lots_of_size {f : Addr} {fd : FuncData} (F : Fun K "lots_of_size" "lots_of_size" s_lots_of_size f fd) (T : Bi mg) (c_combinations : mg "combinations" = some (.type "itertools.combinations")) : FnOk P w K mg base CX0 1 f fd ["many", "size"] (spP R_losz) := by
  refine F.ok sc_lots_of_size (len_spP (fun ds d ⟨n, r, e, _⟩ => by rw [e]; rfl)) (fun cdv A outer s H vs Q E hr h => ?_)
  obtain ⟨N, ds, d, fr, rs, ⟨n, r, rfl, h1, h2, h3, rfl⟩, k⟩ := h
  obtain ⟨v, u, rfl, r1, r2⟩ := rps2 rs
  cases r2
  refine ⟨_, pss_one (ps_ret (Cmb.pe_cmb (i := 1) rfl rfl T.tuple rfl c_combinations rfl T.range (pv 0) rfl rfl (.inl rfl) (by decide) rfl)), ?_⟩
  exact dq_ret (de_cmb (de_var rfl r1) rfl h1 h2 h3) fr k
abbrev s_counting_charter : Stmt := top 22
theorem sc_counting_charter : FnScope ["many", "proposers", "least"] ["many", "proposers", "least"] (defScope s_counting_charter) := ⟨rfl, rfl, rfl, by decide +kernel, rfl, by decide +kernel, by decide +kernel⟩
theorem ok_counting_charter {f : Addr} {fd : FuncData} (F : Fun K "counting_charter" "counting_charter" s_counting_charter f fd) (D_lots_of_size : Def P w K mg base "lots_of_size" 1 ["many", "size"] (spP R_losz)) (D_is_number_from : Def P w K mg base "is_number_from" 2 ["value", "least"] (spP R_from))
    (D_are_owners : Def P w K mg base "are_owners" 4 ["many", "value"] (spP R_areo)) (D_is_number_of_owners : Def P w K mg base "is_number_of_owners" 3 ["value"] (spP R_noo)) : FnOk P w K mg base CX0 5 f fd ["many", "proposers", "least"] (spP R_count) := by
  obtain ⟨f_lots_of_size, fd_lots_of_size, G_lots_of_size, b_lots_of_size, k_lots_of_size, m_lots_of_size⟩ := D_lots_of_size.ex
  obtain ⟨f_is_number_from, fd_is_number_from, G_is_number_from, b_is_number_from, k_is_number_from, m_is_number_from⟩ := D_is_number_from.ex
  obtain ⟨f_are_owners, fd_are_owners, G_are_owners, b_are_owners, k_are_owners, m_are_owners⟩ := D_are_owners.ex
  obtain ⟨f_is_number_of_owners, fd_is_number_of_owners, G_is_number_of_owners, b_is_number_of_owners, k_is_number_of_owners, m_is_number_of_owners⟩ := D_is_number_of_owners.ex
  refine F.ok sc_counting_charter (len_spP (fun ds d ⟨n, r, props, e, _⟩ => by rw [e]; rfl)) (fun cdv A outer s H vs Q E hr h => ?_)
  obtain ⟨N, ds, d, fr, rs, ⟨n, r, props, rfl, h1, h2, h3, pne, pasc, pin, rfl⟩, k⟩ := h
  obtain ⟨v0, v1, v2, rfl, r0, r1, r2⟩ := rps3 rs
  refine ⟨_, pss_cons (ps_if (pt_not (pt_truK K (pe_call G_is_number_of_owners (hr.mono (by decide)) rfl m_is_number_of_owners k_is_number_of_owners b_is_number_of_owners .nil pass0 (pa_cons (pv 0) pa_nil)) (fun _ => rfl))) (pss_one (ps_never)) pss_nil)
      (pss_cons (ps_if (PW.pt (pw_or (pt_not (pt_truK K (pe_call G_are_owners (hr.mono (by decide)) rfl m_are_owners k_are_owners b_are_owners .nil pass0 (pa_cons (pv 0) (pa_cons (pv 1) pa_nil))) (fun _ => rfl))) (pw_or1 (pt_not (pt_truK K (pv 1) (fun _ => rfl)))))) (pss_one (ps_never)) pss_nil)
      (pss_cons (ps_if (PW.pt (pw_or (pt_not (pt_truK K (pe_call G_is_number_from (hr.mono (by decide)) rfl m_is_number_from k_is_number_from b_is_number_from .nil pass0 (pa_cons (pv 2) (pa_cons pe_int pa_nil))) (fun _ => rfl))) (pw_or1 (pt_cmpR op_gt (pv 2) (pv 0) (nomark _))))) (pss_one (ps_never)) pss_nil)
      (pss_one (ps_ret (pe_tup (pa_cons (pv 0) (pa_cons (pv 1) (pa_cons (pe_call G_lots_of_size (hr.mono (by decide)) rfl m_lots_of_size k_lots_of_size b_lots_of_size .nil pass0 (pa_cons (pv 0) (pa_cons (pv 2) pa_nil))) pa_nil)))))))), ?_⟩
  refine dq_iff (dt_not (a := true) (dt_truB (de_call (da_cons (de_var rfl r0) da_nil) ⟨n, rfl, by omega, by omega, rfl⟩))) fr fun H1 s1 => ?_
  have f1 := fr.same s1
  refine dq_iff (dt_or (a := false) (b := false) (dt_not (a := true) (dt_truB (de_call (da_cons (de_var rfl (r0.same s1)) (da_cons (de_var rfl (r1.same s1)) da_nil)) ⟨n, props, rfl, by omega, pin, pasc, rfl⟩))) fun _ => (dt_not (dt_truS (de_var rfl (r1.same s1)))).is (by
    cases props with
    | nil => exact absurd rfl pne
    | cons _ _ => rfl)) f1 fun H2 s2 => ?_
  have f2 := f1.same s2
  have s12 := s1.trans s2
  refine dq_iff (dt_or (a := false) (b := false) (dt_not (a := true) (dt_truB ((de_call (da_cons (de_var rfl (r2.same s12)) (da_cons de_int da_nil)) ⟨r, 1, rfl, ⟨by omega, by omega⟩, rfl⟩).is (by rw [decide_eq_true (by omega)])))) fun _ => (dt_test (de_op (de_var rfl (r2.same s12)) (de_var rfl (r0.same s12)) r2_b)).is (decide_eq_false (by omega))) f2 fun H3 s3 => ?_
  have s13 := s12.trans s3
  exact dq_ret (de_tup (da_cons (de_var rfl (r0.same s13)) (da_cons (de_var rfl (r1.same s13)) (da_cons (de_call (da_cons (de_var rfl (r0.same s13)) (da_cons (de_var rfl (r2.same s13)) da_nil)) ⟨n, r, rfl, h1, h2, h3, rfl⟩) da_nil)))) (f2.same s3) fun v H4 s4 r4 => k v H4 (s13.trans s4) r4
end
end Pu

namespace Pu
open PySem PySem.Spec PyProof.Rows L2
/-! ### judgements over any plain data -/
def intK : PyData → Bool
  | .int _ => true
  | .bool _ => true
  | _ => false
def blK : PyData → Bool
  | .bool _ => true
  | _ => false
def tupK : PyData → Bool
  | .tuple _ => true
  | _ => false
theorem kit_int (x : PyData) : kitB (kindD x) "int" = some (intK x) := by cases x <;> (simp only [kindD, intK]; decide +kernel)
theorem kit_bl (x : PyData) : kitB (kindD x) "bool" = some (blK x) := by cases x <;> (simp only [kindD, blK]; decide +kernel)
theorem kit_tup (x : PyData) : kitB (kindD x) "tuple" = some (tupK x) := by cases x <;> (simp only [kindD, tupK]; decide +kernel)
def smallB (i : Int) : Bool := decide (-1000000000000000000 < i) && decide (i < 1000000000000000000)
def numD : PyData → Bool
  | .int i => smallB i
  | _ => false
def fromD (l : Int) : PyData → Bool
  | .int i => smallB i && decide (l ≤ i)
  | _ => false
def belD (l : Int) : PyData → Bool
  | .int i => smallB i && decide (0 ≤ i) && decide (i < l)
  | _ => false
def wholeD : PyData → Bool
  | .int _ => true
  | _ => false
def toD : PyData → Int
  | .int i => i
  | _ => 0
def propD (props : List Int) : PyData → Bool
  | .int i => decide (i ∈ props)
  | _ => false
/-- a split of the charter -/
def splB (many : Nat) (props : List Int) : PyData → Bool
  | .tuple ds => decide (ds.length = many) && (ds.all (propD props)) && ds.all fun d => decide (Ch.at_ (ds.map toD) (toD d) = toD d)
  | _ => false
def R_numA : List PyData → PyData → Prop := fun ds d => ∃ x, ds = [x] ∧ d = .bool (numD x)
def R_fromA : List PyData → PyData → Prop := fun ds d => ∃ x l, ds = [x, .int l] ∧ d = .bool (fromD l x)
def R_belA : List PyData → PyData → Prop := fun ds d => ∃ x l, ds = [x, .int l] ∧ d = .bool (belD l x)
def R_whole : List PyData → PyData → Prop := fun ds d => ∃ x, ds = [x] ∧ d = .bool (wholeD x)
def szD : PyData → Prop := fun x => ∀ ds, itemsD x = some ds → ds.length ≤ 1000
def R_isspl : List PyData → PyData → Prop := fun ds d => ∃ many props lots x, ds = [chD many props lots, x] ∧ Ch2 many props lots ∧ szD x ∧ d = .bool (splB many props x)
def R_sgn : List PyData → PyData → Prop := fun ds d => ∃ many props lots, ∃ row : List Int, ds = [chD many props lots, tI row] ∧ Ch2 many props lots ∧ Ch.Split many props row ∧ d = tI (Ch.heads props lots row)
theorem de_isA {N : NP} {σ : L2.St} {H : Hp} {te : TE} {x : PyData} {c : String} {b : Bool} (h : DE N te σ H x) (hk : kitB (kindD x) c = some b) : DE N (tCB rIsK (tCons te (tCons (tC (.ty c)) tNil))) σ H (.bool b) := de_isK h hk
theorem below_ints {l : Int} : ∀ {ds : List PyData}, ds.all (belD l) = true → ∃ row : List Int, ds = row.map PyData.int ∧ ∀ o ∈ row, 0 ≤ o ∧ o < l
  | [], _ => ⟨[], rfl, fun o h => nomatch h⟩
  | d :: ds, h => by
    rw [List.all_cons, Bool.and_eq_true] at h
    obtain ⟨row, rfl, hr⟩ := below_ints h.2
    cases d with
    | int i =>
      have h1 : (smallB i && decide (0 ≤ i) && decide (i < l)) = true := h.1
      rw [Bool.and_eq_true, Bool.and_eq_true] at h1
      refine ⟨i :: row, rfl, fun o ho => ?_⟩
      rcases List.mem_cons.mp ho with rfl | ho
      · exact ⟨of_decide_eq_true h1.1.2, of_decide_eq_true h1.2⟩
      · exact hr o ho
    | _ => exact absurd h.1 (by simp [belD])
theorem prop_ints {props : List Int} : ∀ {ds : List PyData}, ds.all (propD props) = true → ∃ row : List Int, ds = row.map PyData.int ∧ ∀ o ∈ row, o ∈ props
  | [], _ => ⟨[], rfl, fun o h => nomatch h⟩
  | d :: ds, h => by
    rw [List.all_cons, Bool.and_eq_true] at h
    obtain ⟨row, rfl, hr⟩ := prop_ints h.2
    cases d with
    | int i =>
      have h1 : decide (i ∈ props) = true := h.1
      refine ⟨i :: row, rfl, fun o ho => ?_⟩
      rcases List.mem_cons.mp ho with rfl | ho
      · exact of_decide_eq_true h1
      · exact hr o ho
    | _ => exact absurd h.1 (by simp [propD])
theorem toD_ints (row : List Int) : (row.map PyData.int).map toD = row := by
  rw [List.map_map]
  conv => rhs; rw [← List.map_id row]
  rfl
theorem splB_ints {many : Nat} {props row : List Int} : splB many props (tI row) = (decide (row.length = many) && (row.all fun o => decide (o ∈ props)) && row.all fun o => decide (Ch.at_ row o = o)) := by
  show (decide ((row.map PyData.int).length = many) && ((row.map PyData.int).all (propD props)) && (row.map PyData.int).all fun d => decide (Ch.at_ ((row.map PyData.int).map toD) (toD d) = toD d)) = _
  rw [List.length_map, List.all_map, List.all_map, toD_ints]
  rfl
theorem splB_iff {many : Nat} {props row : List Int} : splB many props (tI row) = true ↔ Ch.Split many props row := by
  rw [splB_ints, Bool.and_eq_true, Bool.and_eq_true, decide_eq_true_eq, List.all_eq_true, List.all_eq_true]
  constructor
  · rintro ⟨⟨a, b⟩, c⟩
    exact ⟨a, fun o ho => of_decide_eq_true (b o ho), fun o ho => of_decide_eq_true (c o ho)⟩
  · intro S
    exact ⟨⟨S.len, fun o ho => decide_eq_true (S.ins o ho)⟩, fun o ho => decide_eq_true (S.own o ho)⟩
section
variable {P : Program} {w : World} {K : PySem.W.Frag} {mg : Str → Option Value} {base : Heap}
theorem de_andI {N : NP} {σ : L2.St} {H : Hp} {ta tb : TE} {a b : Bool} (h1 : DE N ta σ H (.bool a)) (h2 : a = true → DE N tb σ H (.bool b)) : DE N (tAndV ta tb) σ H (.bool (a && b)) := de_andV h1 h2
theorem ok_is_numberA {f : Addr} {fd : FuncData} (F : Fun K "is_number" "is_number" s_is_number f fd) (T : Bi mg) {tF : Tok} (c_FIRST_TOO_LONG : mg "FIRST_TOO_LONG" = some (.int 1000000000000000000 tF)) :
    FnOk P w K mg base CX0 1 f fd ["value"] (spP R_numA) := by
  refine F.ok sc_is_number (len_spP (fun ds d ⟨i, e, _⟩ => by rw [e]; rfl)) (fun cdv A outer s H vs Q E hr h => ?_)
  obtain ⟨N, ds, d, fr, rs, ⟨x, rfl, rfl⟩, k⟩ := h
  obtain ⟨v, rfl, r⟩ := rps1 rs
  refine ⟨_, pss_cons (ps_if (PW.pt (pw_or (pt_not (pt_truK K (pe_callB call_isK (by rfl) T.isinstance (by decide +kernel) (pa_cons (pv 0) (pa_cons (pe_tyn "int" (by rfl) T.int (by decide +kernel)) pa_nil))) (fun _ => rfl))) (pw_or1 (pt_truK K (pe_callB call_isK (by rfl) T.isinstance (by decide +kernel) (pa_cons (pv 0) (pa_cons (pe_tyn "bool" (by rfl) T.bool (by decide +kernel)) pa_nil))) (fun _ => rfl))))) (pss_one (ps_ret (pe_bl))) pss_nil)
      (pss_one (ps_ret (pe_chain (op_ltK K hr.units0) (op_ltK K hr.units0) (pe_un un_neg (pe_gi rfl c_FIRST_TOO_LONG)) (pv 0) (pe_gi rfl c_FIRST_TOO_LONG)))), ?_⟩
  refine dq_if (b := !intK x || blK x) (dt_or (dt_not (dt_truB (de_isA (de_var rfl r) (kit_int x)))) fun _ => dt_truB (de_isA (de_var rfl r) (kit_bl x))) fr (fun hb H1 s1 => ?_) fun hb H1 s1 => ?_
  · refine dq_ret de_bl (fr.same s1) fun v H2 s2 r2 => k v H2 (s1.trans s2) ?_
    have e : numD x = false := by cases x <;> simp [intK, blK, numD] at hb ⊢
    rw [e]; exact r2
  · obtain ⟨i, rfl⟩ : ∃ i, x = .int i := by cases x <;> simp [intK, blK] at hb; exact ⟨_, rfl⟩
    refine dq_ret (DE.is (de_chain (de_neg de_int) (de_var rfl (r.same s1)) de_int r2_ltI r2_ltI) ?_) (fr.same s1) fun v H2 s2 r2 => k v H2 (s1.trans s2) r2
    rfl
theorem ok_is_number_fromA {f : Addr} {fd : FuncData} (F : Fun K "is_number_from" "is_number_from" s_is_number_from f fd) (D_is_number : Def P w K mg base "is_number" 1 ["value"] (spP R_numA)) :
    FnOk P w K mg base CX0 2 f fd ["value", "least"] (spP R_fromA) := by
  obtain ⟨f_is_number, fd_is_number, G_is_number, b_is_number, k_is_number, m_is_number⟩ := D_is_number.ex
  refine F.ok sc_is_number_from (len_spP (fun ds d ⟨i, l, e, _⟩ => by rw [e]; rfl)) (fun cdv A outer s H vs Q E hr h => ?_)
  obtain ⟨N, ds, d, fr, rs, ⟨x, l, rfl, rfl⟩, k⟩ := h
  obtain ⟨v, u, rfl, r1, r2⟩ := rps2 rs
  refine ⟨_, pss_one (ps_ret (pe_and (pe_call G_is_number (hr.mono (by decide)) rfl m_is_number k_is_number b_is_number .nil pass0 (pa_cons (pv 0) pa_nil)) (pe_one (pe_cmpR op_ge (pv 0) (pv 1) (nomark _))))), ?_⟩
  have c1 : DE N (tCall (spP R_numA) [] E0 (tCons (tVar 0) tNil)) (L2.start ["value", "least"] [v, u]) H (.bool (numD x)) := de_call (da_cons (de_var rfl r1) da_nil) ⟨x, rfl, rfl⟩
  by_cases hx : ∃ i, x = .int i
  · obtain ⟨i, rfl⟩ := hx
    exact dq_ret (de_andV c1 fun _ => de_op (de_var rfl r1) (de_var rfl r2) r2_b) fr k
  · have e : numD x = false := by cases x <;> first | rfl | exact absurd ⟨_, rfl⟩ hx
    have e2 : fromD l x = false := by cases x <;> first | rfl | exact absurd ⟨_, rfl⟩ hx
    rw [e2] at k
    rw [e] at c1
    exact dq_ret ((de_andV (b := false) c1 fun h => nomatch h).is rfl) fr k
theorem ok_is_number_belowA {f : Addr} {fd : FuncData} (F : Fun K "is_number_below" "is_number_below" s_is_number_below f fd) (D_is_number_from : Def P w K mg base "is_number_from" 2 ["value", "least"] (spP R_fromA)) :
    FnOk P w K mg base CX0 3 f fd ["value", "limit"] (spP R_belA) := by
  obtain ⟨f_is_number_from, fd_is_number_from, G_is_number_from, b_is_number_from, k_is_number_from, m_is_number_from⟩ := D_is_number_from.ex
  refine F.ok sc_is_number_below (len_spP (fun ds d ⟨i, l, e, _⟩ => by rw [e]; rfl)) (fun cdv A outer s H vs Q E hr h => ?_)
  obtain ⟨N, ds, d, fr, rs, ⟨x, l, rfl, rfl⟩, k⟩ := h
  obtain ⟨v, u, rfl, r1, r2⟩ := rps2 rs
  refine ⟨_, pss_one (ps_ret (pe_and (pe_call G_is_number_from (hr.mono (by decide)) rfl m_is_number_from k_is_number_from b_is_number_from .nil pass0 (pa_cons (pv 0) (pa_cons pe_int pa_nil))) (pe_one (pe_cmpR (op_ltK K hr.units0) (pv 0) (pv 1) (nomark _))))), ?_⟩
  have c1 : DE N (tCall (spP R_fromA) [] E0 (tCons (tVar 0) (tCons (tC (.int 0)) tNil))) (L2.start ["value", "limit"] [v, u]) H (.bool (fromD 0 x)) := de_call (da_cons (de_var rfl r1) (da_cons de_int da_nil)) ⟨x, 0, rfl, rfl⟩
  by_cases hx : ∃ i, x = .int i
  · obtain ⟨i, rfl⟩ := hx
    exact dq_ret (de_andV c1 fun _ => de_op (de_var rfl r1) (de_var rfl r2) r2_ltI) fr k
  · have e : fromD 0 x = false := by cases x <;> first | rfl | exact absurd ⟨_, rfl⟩ hx
    have e2 : belD l x = false := by cases x <;> first | rfl | exact absurd ⟨_, rfl⟩ hx
    rw [e2] at k
    rw [e] at c1
    exact dq_ret ((de_andV (b := false) c1 fun h => nomatch h).is rfl) fr k
abbrev s_L_is_whole : Stmt := top 39
theorem sc_L_is_whole : FnScope ["item"] ["item"] (defScope s_L_is_whole) := ⟨rfl, rfl, rfl, by decide +kernel, rfl, by decide +kernel, by decide +kernel⟩
theorem ok_whole {f : Addr} {fd : FuncData} (F : Fun K "_law_is_whole" "_law_is_whole" s_L_is_whole f fd) (T : Bi mg) : FnOk P w K mg base CX0 1 f fd ["item"] (spP R_whole) := by
  refine F.ok sc_L_is_whole (len_spP (fun ds d ⟨x, e, _⟩ => by rw [e]; rfl)) (fun cdv A outer s H vs Q E hr h => ?_)
  obtain ⟨N, ds, d, fr, rs, ⟨x, rfl, rfl⟩, k⟩ := h
  obtain ⟨v, rfl, r⟩ := rps1 rs
  refine ⟨_, pss_one (ps_ret (pe_and (pe_callB call_isK (by rfl) T.isinstance (by decide +kernel) (pa_cons (pv 0) (pa_cons (pe_tyn "int" (by rfl) T.int (by decide +kernel)) pa_nil))) (pe_one (pe_not (pe_callB call_isK (by rfl) T.isinstance (by decide +kernel) (pa_cons (pv 0) (pa_cons (pe_tyn "bool" (by rfl) T.bool (by decide +kernel)) pa_nil))))))), ?_⟩
  refine dq_ret ((de_andV (de_isA (de_var rfl r) (kit_int x)) fun _ => de_notV (de_isA (de_var rfl r) (kit_bl x))).is ?_) fr k
  cases x <;> rfl
end
end Pu

namespace Pu
open PySem PySem.Spec PyProof.Rows L2
theorem spl_below {many : Nat} {props : List Int} {lots : List (List Int)} (C : Ch.Charter many props lots) {ds : List PyData} (h : ds.all (propD props) = true) : ds.all (belD many) = true := by
  obtain ⟨row, rfl, hr⟩ := prop_ints h
  rw [List.all_eq_true]
  intro d hd
  obtain ⟨o, ho, rfl⟩ := List.mem_map.mp hd
  have b := C.pin o (hr o ho)
  have := C.m6
  show (smallB o && decide (0 ≤ o) && decide (o < many)) = true
  unfold smallB
  simp only [Bool.and_eq_true, decide_eq_true_eq]
  exact ⟨⟨⟨by omega, by omega⟩, b.1⟩, b.2⟩
theorem all_and2 {α : Type} (l : List α) (f g : α → Bool) : (l.all fun x => f x && g x) = (l.all f && l.all g) := by
  induction l with
  | nil => rfl
  | cons a r ih => rw [List.all_cons, List.all_cons, List.all_cons, ih]; cases f a <;> cases g a <;> simp
def tornL (many : Nat) (props : List Int) (lots : List (List Int)) : List (List Int) := (splL many props).filter fun row => !decide ((Ch.heads props lots row).length = 1)
def tornD (many : Nat) (props : List Int) (lots : List (List Int)) : PyData := match tornOf many props lots with
  | some row => tI row
  | none => .none
theorem nonD_torn {many : Nat} {props : List Int} {lots : List (List Int)} : nonD (tornD many props lots) = (tornOf many props lots).isNone := by
  unfold tornD
  cases tornOf many props lots <;> rfl
/-- the first of one sorted list, of another with the same members -/
theorem find_same {p : List Int → Bool} : ∀ {a b : List (List Int)}, a.Pairwise (fun x y => HT.lexLt y x = false) → b.Pairwise (fun x y => HT.lexLt y x = false) → (∀ x, x ∈ a ↔ x ∈ b) → a.find? p = b.find? p := by
  have key : ∀ {a : List (List Int)}, a.Pairwise (fun x y => HT.lexLt y x = false) → ∀ x, a.find? p = some x → ∀ y ∈ a, p y = true → HT.lexLt y x = false := by
    intro a
    induction a with
    | nil => intro _ x h; cases h
    | cons z r ih =>
      intro pw x h y hy py
      rw [List.pairwise_cons] at pw
      rw [List.find?_cons] at h
      cases hz : p z with
      | true =>
        rw [hz] at h
        cases h
        rcases List.mem_cons.mp hy with rfl | hy
        · cases e : HT.lexLt y y with
          | false => rfl
          | true => have := NtL.lex_asym _ _ e; rw [e] at this; cases this
        · exact pw.1 y hy
      | false =>
        rw [hz] at h
        rcases List.mem_cons.mp hy with rfl | hy
        · rw [hz] at py; cases py
        · exact ih pw.2 x h y hy py
  intro a b pa pb m
  cases ea : a.find? p with
  | none =>
    symm
    rw [List.find?_eq_none] at ea ⊢
    exact fun x hx => ea x ((m x).mpr hx)
  | some x =>
    cases eb : b.find? p with
    | none =>
      rw [List.find?_eq_none] at eb
      have := List.mem_of_find?_eq_some ea
      exact absurd (List.find?_some ea) (eb x ((m x).mp this))
    | some y =>
      have mx := List.mem_of_find?_eq_some ea
      have my := List.mem_of_find?_eq_some eb
      have h1 := key pa x ea y ((m y).mpr my) (List.find?_some eb)
      have h2 := key pb y eb x ((m x).mp mx) (List.find?_some ea)
      rw [lex_anti _ _ h2 h1]
theorem torn_head {many : Nat} {props : List Int} {lots : List (List Int)} (C : Ch.Charter many props lots) : (tornL many props lots).head? = tornOf many props lots := by
  unfold tornL tornOf
  rw [List.head?_filter]
  exact find_same (srtL_pw _) (srtL_pw _) fun x => by rw [mem_splL C, mem_spl C]
def R_tornL : List PyData → PyData → Prop := fun ds d => ∃ many props lots, ds = [chD many props lots, lT (splL many props)] ∧ Ch2 many props lots ∧ d = tornD many props lots
/-- signed_heads of no split -/
def spSgX (C : Addr) : Sp := fun vs H Q E => ∃ N many props lots x, Fr N H ∧ Rps N H vs [chD many props lots, x] ∧ Ch2 many props lots ∧ szD x ∧ splB many props x = false ∧ ∀ H', Same H H' → E (.ref C) none H'
/-- an error class of the program: over ValueError, without an __init__ of its own -/
structure Er (K : PySem.W.Frag) (mg : Str → Option Value) (x : Str) (C : Addr) : Prop where
  xi : PySem.W.excIn K C [.type "ValueError", .type "Exception", .type "BaseException", .type "object"] "ValueError.__new__" = true
  g : mg x = some (.ref C)
  k : PySem.W.keepIn K (.ref C) = true
  b : PySem.W.subIn K (.ref C) (.type "BaseException") = some true
  t : PySem.W.typeIn K (.ref C) = some (.type "type")
section
variable {P : Program} {w : World} {K : PySem.W.Frag} {mg : Str → Option Value} {base : Heap}
abbrev s_is_split : Stmt := top 24
theorem sc_is_split : FnScope ["charter", "value", "head"] ["charter", "value"] (defScope s_is_split) := ⟨rfl, rfl, rfl, by decide +kernel, rfl, by decide +kernel, by decide +kernel⟩
theorem ok_is_split {f : Addr} {fd : FuncData} (F : Fun K "is_split" "is_split" s_is_split f fd) (T : Bi mg) (D_is_number_below : Def P w K mg base "is_number_below" 3 ["value", "limit"] (spP R_belA)) (D_check_charter : Def P w K mg base "check_charter" 6 ["charter"] (spP R_check)) :
    FnOk P w K mg base CX0 7 f fd ["charter", "value"] (spP R_isspl) := by
  obtain ⟨f_is_number_below, fd_is_number_below, G_is_number_below, b_is_number_below, k_is_number_below, m_is_number_below⟩ := D_is_number_below.ex
  obtain ⟨f_check_charter, fd_check_charter, G_check_charter, b_check_charter, k_check_charter, m_check_charter⟩ := D_check_charter.ex
  refine F.ok sc_is_split (len_spP (fun ds d ⟨many, props, lots, x, e, _⟩ => by rw [e]; rfl)) (fun cdv A outer s H vs Q E hr h => ?_)
  obtain ⟨N, ds, d, fr, rs, ⟨many, props, lots, x, rfl, C, sz, rfl⟩, k⟩ := h
  obtain ⟨v, u, rfl, r1, r2⟩ := rps2 rs
  have m6 := C.c.m6
  refine ⟨_, pss_cons (ps_expr (pe_call G_check_charter (hr.mono (by decide)) rfl m_check_charter k_check_charter b_check_charter .nil pass0 (pa_cons (pv 0) pa_nil)))
      (pss_cons (ps_if (PW.pt (pw_or (pt_not (pt_truK K (pe_callB call_isK (by rfl) T.isinstance (by decide +kernel) (pa_cons (pv 1) (pa_cons (pe_tyn "tuple" (by rfl) T.tuple (by decide +kernel)) pa_nil))) (fun _ => rfl))) (pw_or1 (pt_cmpR (op_neK K hr.units) (pe_callB (call_lenK K) (by rfl) T.len (by decide +kernel) (pa_cons (pv 1) pa_nil)) (pe_ix (ix_K K) (pv 0) pe_int (fun _ _ => rfl)) (nomark _))))) (pss_one (ps_ret (pe_bl))) pss_nil)
      (pss_cons (ps_if (pt_not (pt_truK K (pe_callB (cr_allK K rfl) (by rfl) T.all (by decide +kernel) (pa_cons (pe_lc (own := [("head", 2)]) rfl sc_is_split.nd (pi_seqK K (pv 1)) (blkOk_by (own := [("head", 2)]) (N := ["charter", "value", "head"]) (sc := defScope s_is_split) (by decide +kernel)) (fun _ _ _ _ _ => pg_name (i := 2) sc_is_split.nd rfl (Or.inl rfl)) (fun _ _ _ _ _ => pts_nil) (fun _ _ _ _ _ => pe_call G_is_number_below (hr.mono (by decide)) rfl m_is_number_below k_is_number_below b_is_number_below .nil pass0 (pa_cons (pv 2) (pa_cons (pe_ix (ix_K K) (pv 0) pe_int (fun _ _ => rfl)) pa_nil)))) pa_nil)) (fun _ => rfl))) (pss_one (ps_ret (pe_bl))) pss_nil)
      (pss_one (ps_ret (pe_callB (cr_allK K rfl) (by rfl) T.all (by decide +kernel) (pa_cons (pe_lc (own := [("head", 2)]) rfl sc_is_split.nd (pi_seqK K (pv 1)) (blkOk_by (own := [("head", 2)]) (N := ["charter", "value", "head"]) (sc := defScope s_is_split) (by decide +kernel)) (fun _ _ _ _ _ => pg_name (i := 2) sc_is_split.nd rfl (Or.inl rfl)) (fun _ _ _ _ _ => pts_nil) (fun _ _ _ _ _ => pe_and (pe_cmpR (op_inK K) (pv 2) (pe_ix (ix_K K) (pv 0) pe_int (fun _ _ => rfl)) rfl) (pe_one (pe_cmpR (op_eqK K hr.units) (pe_ix (ix_K K) (pv 1) (pv 2) (fun _ _ => rfl)) (pv 2) (nomark _))))) pa_nil)))))), ?_⟩
  refine dq_drop (de_call (da_cons (de_var rfl r1) da_nil) ⟨many, props, lots, rfl, C, rfl⟩) fr fun H1 s1 => ?_
  have f1 := fr.same s1
  have r11 := r1.same s1
  have r21 := r2.same s1
  by_cases hx : ∃ ds, x = .tuple ds
  · obtain ⟨ds, rfl⟩ := hx
    have dl : ds.length ≤ 1000 := sz ds rfl
    have lenD : ∀ {σ : L2.St} {N' : NP} {H' : Hp}, σ[0]? = some (some v) → Rp N' H' v (chD many props lots) → DE N' (tOp (rIx K) (tVar 0) (tC (.int 0))) σ H' (.int (many : Int)) := fun h0 a => de_op (de_var h0 a) de_int (r2_ix (K := K) (i := 0) (z := .int (many : Int)) rfl)
    refine dq_ifN (N := N) (b := !decide (((ds.length : Nat) : Int) = (many : Int))) ((dt_or (a := false) (dt_not (a := true) (dt_truB (de_isA (de_var rfl r21) (kit_tup _)))) fun _ => dt_test (de_op (de_cb (da_cons (de_var rfl r21) da_nil) (rk_len (K := K))) (lenD rfl r11) r2_neI)).is (Bool.false_or _)) f1 (fun hb H2 s2 => ?_) fun hb H2 s2 => ?_
    · refine dq_ret de_bl (f1.same s2) fun v' H3 s3 r3 => k v' H3 ((s1.trans s2).trans s3) ?_
      have e : splB many props (.tuple ds) = false := by
        show (decide (ds.length = many) && _ && _) = false
        have hn : ¬ (ds.length = many) := by simp at hb; omega
        rw [decide_eq_false hn]; rfl
      rw [e]; exact r3
    have hn : ds.length = many := by simp at hb; omega
    have s12 := s1.trans s2
    have f2 := f1.same s2
    refine dq_ifN (N := N) (b := !ds.all (belD many)) (dt_not (dt_truB (de_allM (xs := ds) (g := belD many) (da_cons (de_lc0 (xs := ds) (enc := fun d => d) (fun d => .bool (belD many d)) (by
        have := di_seq (K := K) (ds := ds) (de_var (N := N) (i := 1) (σ := L2.start ["charter", "value", "head"] [v, u]) rfl (r21.same s2))
        rw [List.map_id']; exact this) (by omega) fun a ha x' N' H' u' rx => de_call (da_cons (de_var rfl rx) (da_cons (lenD rfl ((r11.same s2).up u')) da_nil)) ⟨a, many, rfl, rfl⟩) da_nil)))) f2 (fun hb H3 s3 => ?_) fun hb H3 s3 => ?_
    · refine dq_ret de_bl (f2.same s3) fun v' H4 s4 r4 => k v' H4 ((s12.trans s3).trans s4) ?_
      have e : splB many props (.tuple ds) = false := by
        cases e : splB many props (.tuple ds) with
        | false => rfl
        | true =>
          have e : (decide (ds.length = many) && (ds.all (propD props)) && ds.all fun d => decide (Ch.at_ (ds.map toD) (toD d) = toD d)) = true := e
          rw [Bool.and_eq_true, Bool.and_eq_true] at e
          have := spl_below C.c e.1.2
          rw [this] at hb; cases hb
      rw [e]; exact r4
    obtain ⟨row, rfl, hr⟩ := below_ints (by simpa using hb : ds.all (belD many) = true)
    rw [List.length_map] at hn dl
    have s13 := s12.trans s3
    refine dq_ret ((de_allM (xs := row) (g := fun o => decide (o ∈ props) && decide (Ch.at_ row o = o)) (da_cons (de_lc0 (xs := row) (enc := PyData.int) (fun o => .bool (decide (o ∈ props) && decide (Ch.at_ row o = o))) (di_seq (de_var rfl ((r21.same s2).same s3))) (by omega)
      fun a ha x' N' H' u' rx => de_andV (de_op (de_var rfl rx) (de_op (de_var (i := 0) rfl (((r11.same s2).same s3).up u')) de_int (r2_ix (K := K) (i := 1) (z := tI props) rfl)) r2_in) fun _ => de_op (de_op (de_var rfl (((r21.same s2).same s3).up u')) (de_var rfl rx) (r2_ix (atI_i (hr a ha).1 ?_))) (de_var rfl rx) r2_eqI) da_nil)).is ?_) (f2.same s3) fun v' H4 s4 r4 => k v' H4 (s13.trans s4) r4
    · have b := hr a ha
      rw [List.getElem?_map]
      unfold Ch.at_
      rw [List.getD_eq_getElem?_getD, List.getElem?_eq_getElem (by omega)]; rfl
    · rw [splB_ints, all_and2, decide_eq_true hn, Bool.true_and]
  · have e1 : tupK x = false := by cases x <;> first | rfl | exact absurd ⟨_, rfl⟩ hx
    have e2 : splB many props x = false := by cases x <;> first | rfl | exact absurd ⟨_, rfl⟩ hx
    have ht := kit_tup x
    rw [e1] at ht
    rw [e2] at k
    refine dq_ifN (N := N) (b := true) ((dt_or (a := true) (b := true) (dt_not (a := false) (dt_truB (de_isA (de_var rfl r21) ht))) fun h => nomatch h).is rfl) f1 (fun hb H2 s2 => ?_) fun hb => nomatch hb
    exact dq_ret de_bl (f1.same s2) fun v' H3 s3 r3 => k v' H3 ((s1.trans s2).trans s3) r3
abbrev s_signed_heads : Stmt := top 25
theorem sc_signed_heads : FnScope ["charter", "split"] ["charter", "split"] (defScope s_signed_heads) := ⟨rfl, rfl, rfl, by decide +kernel, rfl, by decide +kernel, by decide +kernel⟩
theorem ok_signed_heads {f : Addr} {fd : FuncData} (F : Fun K "signed_heads" "signed_heads" s_signed_heads f fd) (D_is_split : Def P w K mg base "is_split" 7 ["charter", "value"] (spP R_isspl)) (D_heads_signed : Def P w K mg base "heads_signed" 3 ["charter", "split"] (spP R_heads)) :
    FnOk P w K mg base CX0 8 f fd ["charter", "split"] (spP R_sgn) := by
  obtain ⟨f_heads_signed, fd_heads_signed, G_heads_signed, b_heads_signed, k_heads_signed, m_heads_signed⟩ := D_heads_signed.ex
  obtain ⟨f_is_split, fd_is_split, G_is_split, b_is_split, k_is_split, m_is_split⟩ := D_is_split.ex
  refine F.ok sc_signed_heads (len_spP (fun ds d ⟨many, props, lots, x, e, _⟩ => by rw [e]; rfl)) (fun cdv A outer s H vs Q E hr h => ?_)
  obtain ⟨N, ds, d, fr, rs, ⟨many, props, lots, row, rfl, C, S, rfl⟩, k⟩ := h
  obtain ⟨v, u, rfl, r1, r2⟩ := rps2 rs
  have m6 := C.c.m6
  have sl := S.len
  refine ⟨_, pss_cons (ps_if (pt_not (pt_truK K (pe_call G_is_split (hr.mono (by decide)) rfl m_is_split k_is_split b_is_split .nil pass0 (pa_cons (pv 0) (pa_cons (pv 1) pa_nil))) (fun _ => rfl))) (pss_one (ps_never)) pss_nil)
      (pss_one (ps_ret (pe_call G_heads_signed (hr.mono (by decide)) rfl m_heads_signed k_heads_signed b_heads_signed .nil pass0 (pa_cons (pv 0) (pa_cons (pv 1) pa_nil))))), ?_⟩
  refine dq_iff (dt_not (a := true) (dt_truB (de_call (da_cons (de_var rfl r1) (da_cons (de_var rfl r2) da_nil)) ⟨many, props, lots, tI row, rfl, C, fun ds e => by cases e; simp; omega, by rw [splB_iff.mpr S]⟩))) fr fun H1 s1 => ?_
  exact dq_ret (de_call (da_cons (de_var rfl (r1.same s1)) (da_cons (de_var rfl (r2.same s1)) da_nil)) ⟨many, props, lots, row, rfl, C, sl, rfl⟩) (fr.same s1) fun v' H2 s2 r => k v' H2 (s1.trans s2) r
theorem ok_signed_headsX {f C0 : Addr} {fd : FuncData} (F : Fun K "signed_heads" "signed_heads" s_signed_heads f fd) (R : Er K mg "BadSplit" C0) (D_is_split : Def P w K mg base "is_split" 7 ["charter", "value"] (spP R_isspl)) (D_heads_signed : Def P w K mg base "heads_signed" 3 ["charter", "split"] (spP R_heads)) :
    FnOk P w K mg base (L2.CX P w) 8 f fd ["charter", "split"] (spSgX C0) := by
  obtain ⟨f_heads_signed, fd_heads_signed, G_heads_signed, b_heads_signed, k_heads_signed, m_heads_signed⟩ := D_heads_signed.ex
  obtain ⟨f_is_split, fd_is_split, G_is_split, b_is_split, k_is_split, m_is_split⟩ := D_is_split.ex
  refine F.okX sc_signed_heads (fun vs H Q E ⟨N, many, props, lots, x, _, r, _⟩ => by rw [r.len]; rfl) (fun cdv A outer s H vs Q E hr h => ?_)
  obtain ⟨N, many, props, lots, x, fr, rs, C, sz, hb, k⟩ := h
  obtain ⟨v, u, rfl, r1, r2⟩ := rps2 rs
  refine ⟨_, pss_cons (ps_if (pt_not (pt_truK K (pe_call G_is_split (hr.mono (by decide)) rfl m_is_split k_is_split b_is_split .nil pass0 (pa_cons (pv 0) (pa_cons (pv 1) pa_nil))) (fun _ => rfl))) (pss_one (ps_raise rfl (takes_of rfl rfl rfl rfl) (pmk_own PySem.F.excBase_ValueError R.xi R.g R.k (raises_own R.b R.t) rfl))) pss_nil)
      (pss_one (ps_ret (pe_call G_heads_signed (hr.mono (by decide)) rfl m_heads_signed k_heads_signed b_heads_signed .nil pass0 (pa_cons (pv 0) (pa_cons (pv 1) pa_nil))))), ?_⟩
  exact dq_ifN (N := N) (b := true) (dt_not (a := false) (dt_truB ((de_call (da_cons (de_var rfl r1) (da_cons (de_var rfl r2) da_nil)) ⟨many, props, lots, x, rfl, C, sz, rfl⟩).is (by rw [hb])))) fr (fun _ H1 s1 => k H1 s1) fun h => nomatch h
end
end Pu

namespace Pu
open PySem PySem.Spec PyProof.Rows L2
/-! ### t[::-1] -/
theorem fm_congr {α β : Type} {f f' : α → Option β} : ∀ {l : List α}, (∀ x ∈ l, f x = f' x) → l.filterMap f = l.filterMap f'
  | [], _ => rfl
  | x :: r, h => by
    rw [List.filterMap_cons, List.filterMap_cons, h x List.mem_cons_self, fm_congr (l := r) fun y hy => h y (List.mem_cons_of_mem _ hy)]
theorem rev_pick (xs : List Value) : ((List.range xs.length).filterMap fun (k : Nat) => xs.toArray[(((xs.length : Int) - 1) + (k : Int) * (-1)).toNat]?).toArray = xs.reverse.toArray := by
  have q := HT.pick_gen xs.reverse.toArray 0 xs.length
  have e : (List.range xs.length).filterMap (fun (k : Nat) => xs.toArray[(((xs.length : Int) - 1) + (k : Int) * (-1)).toNat]?) = (List.range xs.length).filterMap (fun (k : Nat) => xs.reverse.toArray[(((0 : Nat) : Int) + (k : Int) * 1).toNat]?) := by
    refine fm_congr fun k hk => ?_
    have hk' : k < xs.length := List.mem_range.mp hk
    rw [List.getElem?_toArray, List.getElem?_toArray, show (((0 : Nat) : Int) + (k : Int) * 1).toNat = k by omega, List.getElem?_reverse (by omega)]
    congr 1
    omega
  rw [e, q]
  rw [show xs.reverse.toArray.toList = xs.reverse from rfl, List.drop_zero, List.take_of_length_le (by simp)]
section
variable {prog : Program} {w : World} {A : Around} {E : Value → Shared → Prop} {s : Shared}
theorem part_of {v : Value} {o : Option Int} {Q : Option Int → Shared → Prop} (p : IsPart v o) (h : Q o s) : wpAny (model prog w) A (Builtin.Slice.slicePartIndex v) Q E s := HT.slicePart_ p h
theorem applied_rev {sl : Addr} {va vb vc : Value} {n : Nat} {Q : Int × Int × Nat → Shared → Prop} (hS : s.heap.IsSliceOf sl va vb vc) (pa : IsPart va none) (pb : IsPart vb none) (pc : IsPart vc (some (-1)))
    (h : Q ((n : Int) - 1, -1, n) s) : wpAny (model prog w) A (Builtin.Slice.sliceApplied (.ref sl) (pure (n : Int))) Q E s := by
  obtain ⟨ob, hob, _, hda⟩ := id hS
  unfold Builtin.Slice.sliceApplied
  unfold Builtin.Slice.sliceFields
  refine wpAny_bind (wpAny_bind (wpAny_field hob hda (x := va) rfl (wpAny_bind (wpAny_field hob hda (x := vb) rfl (wpAny_bind (wpAny_field hob hda (x := vc) rfl (wpAny_pure ?_)))))))
  refine wpAny_bind (part_of pc ?_)
  show wpAny _ _ (if ((-1 : Int) == 0) = true then _ else _) _ _ s
  rw [if_neg (show ¬ (((-1 : Int) == 0) = true) by decide)]
  refine wpAny_bind (part_of pa (wpAny_bind (part_of pb (wpAny_bind (wpAny_pure ?_)))))
  have e : Builtin.Slice.slicePlaces ((n : Int) - 1) (-1) (-1) = n := by
    unfold Builtin.Slice.slicePlaces
    by_cases h0 : n = 0
    · subst h0; rfl
    · rw [if_neg (by decide), if_pos (by omega), show (- -1 : Int) = 1 from rfl, Int.ediv_one]
      omega
  show wpAny _ _ (pure (((n : Int) - 1), (-1 : Int), Builtin.Slice.slicePlaces ((n : Int) - 1) (-1) (-1))) _ _ s
  rw [e]
  exact wpAny_pure h
theorem tuple_rev {t sl : Addr} {us : List Value} {va vb vc : Value} {Q : Value → Shared → Prop} (hT : IsTup s.heap t us.toArray) (hS : s.heap.IsSliceOf sl va vb vc) (pa : IsPart va none) (pb : IsPart vb none) (pc : IsPart vc (some (-1)))
    (h : Q (.ref s.heap.objs.size) { s with heap := s.heap.push { cls := .type "tuple", data := .seq us.reverse.toArray } }) (hz : us.length ≤ sizeLine) : wpAny (model prog w) A (getItem (.ref t) (.ref sl)) Q E s := by
  have hk : sizeOk (.seq us.reverse.toArray) := by
    show us.reverse.toArray.size ≤ sizeLine
    rw [List.size_toArray, List.length_reverse]; exact hz
  obtain ⟨ob, hob, hcl, hda⟩ := id hS
  have ts : s.TypeIs (.ref sl) "slice" := ⟨ob, hob, hcl⟩
  unfold getItem
  try with_reducible refine wpAny_holding ?_
  first | refine wpAny_bind (wpAny_pure ?_) | skip
  refine wpAny_bind (wpAny_sequenceKey hT.typeIs (by decide) ?_)
  refine wpAny_bind (wpAny_callSpecial?_slot (name := Str.ofString "__getitem__") hT.typeIs slot_tuple_getitem
    (wpAny_call_entry slot_tuple_getitem hT.typeIs entry_tuple_getitem ?_ (args_tuple_getitem _ _)))
  show wpAny _ _ (Builtin.Tuple.tupleItemsOf (.ref t) >>= _) _ _ s
  refine wpAny_bind (tupleItemsOf_ hT ?_)
  refine wpAny_bind (wpAny_typeOf ts ?_)
  rw [if_pos (by decide)]
  have hn : (us.toArray.size : Int) = (us.length : Int) := by rw [List.size_toArray]
  rw [hn]
  refine wpAny_bind (applied_rev hS pa pb pc ?_)
  have no : ¬ ((((us.length : Int) - 1 == 0) && ((-1 : Int) == 1) && (us.length == us.toArray.size)) = true) := by
    intro q
    rw [Bool.and_eq_true, Bool.and_eq_true] at q
    exact absurd q.1.2 (by decide)
  show wpAny _ _ (if (((us.length : Int) - 1 == 0) && ((-1 : Int) == 1) && (us.length == us.toArray.size)) = true then _ else _) _ _ s
  rw [if_neg no, rev_pick]
  first
    | exact wpAny_bind (m := Builtin.Tuple.tupleExact _) (wpAny_newObj_type (wpAny_pure ⟨_, rfl, wpAny_pure h⟩) hk)
    | exact wpAny_bind (m := Builtin.Tuple.tupleExact _) (wpAny_newObj_type (wpAny_bind (wpAny_pure (wpAny_pure ⟨_, rfl, wpAny_pure h⟩))) hk)
    | exact wpAny_bind (wpAny_bind (m := Builtin.Tuple.tupleExact _) (wpAny_newObj_type (wpAny_pure (wpAny_pure ⟨_, rfl, wpAny_pure h⟩)) hk))
    | exact wpAny_bind (wpAny_bind (m := Builtin.Tuple.tupleExact _) (wpAny_newObj_type (wpAny_pure ⟨_, rfl, wpAny_pure h⟩) hk))
end
section
variable {X : Cx}
def tRevT (K : PySem.W.Frag) (te : TE) : TE := fun σ H Q => te σ H fun x H1 => ∃ a xs, x = .ref a ∧ SqT K H1 a xs ∧ ∀ p, H1 p = none → Q (.ref p) (upd H1 p (.tup xs.reverse))
theorem pe_revT {e : Expr} {te : TE} {k : Nat} {p1 p2 p3 pos : Pos} (he : PE X e te) : PE X (.Subscript e (.Slice none none (some (.UnaryOp .USub (.Constant (.int 1) k p1) p2)) p3) pos) (tRevT X.K te) := by
  refine ⟨fun pn s σ H Q I h => ?_⟩
  refine Subscript_ (thn (he.run pn s σ H _ I h) fun v s1 ⟨x, H1, J1, r1, q1⟩ => ?_)
  obtain ⟨a, xs, rfl, hx, q⟩ := q1
  cases r1
  have ho : PO X (some (.UnaryOp .USub (.Constant (.int 1) k p1) p2)) (tPart (tUn (rU fun i => .int (-i)) (tC (.int 1)))) := po_some (pe_un un_neg pe_int)
  refine wpAny_Slice (thn (po_none.run pn s1 σ H1 (fun o G => o = none ∧ G = H1) J1 ⟨rfl, rfl⟩) fun va s2 ⟨o2, H2, J2, pa, eo, eh⟩ => ?_)
  subst eo eh
  refine thn (po_none.run pn s2 σ H2 (fun o G => o = none ∧ G = H2) J2 ⟨rfl, rfl⟩) fun vb s3 ⟨o3, H3, J3, pb, eo, eh⟩ => ?_
  subst eo eh
  refine thn (ho.run pn s3 σ H3 (fun o G => o = some (-1) ∧ G = H3) J3 ⟨1, rfl, -1, rfl, rfl, rfl⟩) fun vc s4 ⟨o4, H4, J4, pc, eo, eh⟩ => ?_
  subst eo eh
  have J5 : Inv X pn σ H4 { s4 with heap := s4.heap.push { cls := .type "slice", data := .fields #[va, vb, vc] } } := J4.kept (t' := s4.toks) fun b ob q => Heap.get?_push_of_some _ q
  obtain ⟨us, r, hT, hz⟩ := J5.tuple hx
  have hl := r.length
  show wpAny (model X.prog X.w) X.A (subscriptTail e (.Slice none none (some (.UnaryOp .USub (.Constant (.int 1) k p1) p2)) p3) (.ref a) (.ref s4.heap.objs.size)) (EP X pn σ Q) X.xe { s4 with heap := s4.heap.push { cls := .type "slice", data := .fields #[va, vb, vc] } }
  refine tail_any (ops := [.ref a, .ref s4.heap.objs.size]) hT.typeIs slot_tuple_getitem.lookup ?_ (by with_unfolding_all rfl)
  refine tuple_rev hT (Heap.IsSliceOf.new _ va vb vc) pa pb pc ?_ (by omega)
  refine ⟨.ref _, _, J5.laid (t' := s4.toks) (o := .tup xs.reverse) (fun b ob q => Heap.get?_push_of_some _ q) (Nat.le_refl _) ?_, rfl, q _ (J5.hok.fresh (Nat.le_refl _))⟩
  exact ⟨by rw [List.length_reverse]; exact hz, _, r.reverse, IsTup.new _ _⟩
theorem pe_revTK (K : PySem.W.Frag) {e : Expr} {te : TE} {k : Nat} {p1 p2 p3 pos : Pos} (he : PE X e te) (h : X.K = K := by rfl) : PE X (.Subscript e (.Slice none none (some (.UnaryOp .USub (.Constant (.int 1) k p1) p2)) p3) pos) (tRevT K te) := h ▸ pe_revT he
end
theorem Rps.rev {N : NP} {H : Hp} : ∀ {ds : List PyData} {vs : List V}, Rps N H vs ds → Rps N H vs.reverse ds.reverse
  | _, _, .nil => .nil
  | _, _, .cons r t => by
    rw [List.reverse_cons, List.reverse_cons]
    exact (Rps.rev t).app (.cons r .nil)
theorem de_revT {K : PySem.W.Frag} {N : NP} {σ : L2.St} {H : Hp} {te : TE} {ds : List PyData} (h : DE N te σ H (.tuple ds)) : DE N (tRevT K te) σ H (.tuple ds.reverse) := fun N1 H1 u f Q q =>
  h N1 H1 u f _ fun v H2 s2 r2 => by
    cases r2 with
    | tup n hh r => exact ⟨_, _, rfl, SqT.of hh, fun p hp => q _ _ (s2.trans (same_upd hp)) (.tup (f p (s2.free hp)) upd_same (r.rev.same (same_upd hp)))⟩
theorem de_dnew {N : NP} {σ : L2.St} {H : Hp} : DE N tDNewK σ H (.dict []) := fun N1 H1 u f Q q p hp => q _ _ (same_upd hp) (.dct (f p hp) upd_same)
end Pu

namespace Pu
open PySem PySem.Spec PyProof.Rows L2
theorem cutD_le (ds : List PyData) (lo hi : Option Int) : (cutD ds lo hi).length ≤ ds.length := by
  unfold cutD
  rw [List.length_take, List.length_drop]; omega
theorem not_any_notZ {α : Type} (l : List α) (b : α → Bool) : (!l.any fun x => !b x) = l.all b := by
  induction l with
  | nil => rfl
  | cons a r ih => rw [List.any_cons, List.all_cons, Bool.not_or, Bool.not_not, ih]
def R_truth : List PyData → PyData → Prop := fun ds d => ∃ a b : Bool, ds = [.bool a, .bool b] ∧ d = .bool (a == b)
def oddL : List PyData := [.none, .int 0, .int (-1), .bool true, .str "1", .str "name", .tuple [], .list [], .dict [], .tuple [.str "name"], .tuple [.str "name", .int (-1)], .tuple [.str "name", .bool true], .tuple [.int 1, .int 2]]
theorem odd_sz : ∀ x ∈ oddL, szD x := by
  intro x hx ds e
  have : ∀ x ∈ oddL, ∀ ds, itemsD x = some ds → ds.length ≤ 1000 := by
    unfold oddL
    simp [itemsD]
  exact this x hx ds e
def D_odd : List PyData → Prop := fun ds => ds = []
def R_odd : List PyData → PyData → Prop := fun _ z => szD z
def D_bent0 : List PyData → Prop := fun ds => ∃ x, ds = [x] ∧ tupK x = false
def D_bent : List PyData → Prop := fun ds => ∃ row : List Int, ds = [tI row] ∧ row ≠ [] ∧ row.length ≤ 100
/-- never called -/
def spNo : Sp := fun vs _ _ _ => vs.length = 2 ∧ False
section
variable {P : Program} {w : World} {K : PySem.W.Frag} {mg : Str → Option Value} {base : Heap}
abbrev s_L_is_truth : Stmt := top 38
theorem sc_L_is_truth : FnScope ["found", "due"] ["found", "due"] (defScope s_L_is_truth) := ⟨rfl, rfl, rfl, by decide +kernel, rfl, by decide +kernel, by decide +kernel⟩
theorem ok_truth {f : Addr} {fd : FuncData} (F : Fun K "_law_is_truth" "_law_is_truth" s_L_is_truth f fd) : FnOk P w K mg base CX0 1 f fd ["found", "due"] (spP R_truth) := by
  refine F.ok sc_L_is_truth (len_spP (fun ds d ⟨a, b, e, _⟩ => by rw [e]; rfl)) (fun cdv A outer s H vs Q E hr h => ?_)
  obtain ⟨N, ds, d, fr, rs, ⟨a, b, rfl, rfl⟩, k⟩ := h
  obtain ⟨v, u, rfl, r1, r2⟩ := rps2 rs
  cases r1
  cases r2
  refine ⟨_, pss_one (ps_ret (pe_ifExp (pt_val (pv 1)) (pe_cmpR op_isBl (pv 0) pe_bl (nomark _)) (pe_cmpR op_isBl (pv 0) pe_bl (nomark _)))), ?_⟩
  refine ⟨_, rfl, b, rfl, ?_⟩
  have fin := k (.bl (a == b)) H (Same.refl H) (.bl _)
  cases b with
  | true =>
    refine iteT ⟨_, rfl, a, true, rfl, rfl, ?_⟩
    cases a <;> exact fin
  | false =>
    refine iteF ⟨_, rfl, a, false, rfl, rfl, ?_⟩
    cases a <;> exact fin
abbrev s_L_sh_torn : Stmt := top 52
theorem sc_L_sh_torn : FnScope ["charter", "splits_here", "torn", "split"] ["charter", "splits_here"] (defScope s_L_sh_torn) := ⟨rfl, rfl, rfl, by decide +kernel, rfl, by decide +kernel, by decide +kernel⟩
theorem ok_tornL {f : Addr} {fd : FuncData} (F : Fun K "_law_sh_torn" "_law_sh_torn" s_L_sh_torn f fd) (T : Bi mg) (D_L_sh_heads : Def P w K mg base "_law_sh_heads" 3 ["charter", "split"] (spP R_headsL)) :
    FnOk P w K mg base CX0 4 f fd ["charter", "splits_here"] (spP R_tornL) := by
  obtain ⟨f_L_sh_heads, fd_L_sh_heads, G_L_sh_heads, b_L_sh_heads, k_L_sh_heads, m_L_sh_heads⟩ := D_L_sh_heads.ex
  refine F.ok sc_L_sh_torn (len_spP (fun ds d ⟨many, props, lots, e, _⟩ => by rw [e]; rfl)) (fun cdv A outer s H vs Q E hr h => ?_)
  obtain ⟨N, ds, d, fr, rs, ⟨many, props, lots, rfl, C, rfl⟩, k⟩ := h
  obtain ⟨v, u, rfl, r1, r2⟩ := rps2 rs
  have sll := splL_len (props := props) C.c.m6
  refine ⟨_, pss_cons (ps_setLc (i := 2) (own := [("split", 3)]) rfl sc_L_sh_torn.nd rfl rfl (sw_true rfl rfl rfl (by decide +kernel)) (pi_seqK K (pv 1)) (blkOk_by (own := [("split", 3)]) (N := ["charter", "splits_here", "torn", "split"]) (sc := defScope s_L_sh_torn) (by decide +kernel)) (fun _ _ _ _ _ => pg_name (i := 3) sc_L_sh_torn.nd rfl (Or.inl rfl)) (fun _ _ _ _ _ => pts_one (pt_cmpR (op_neK K hr.units) (pe_callB (call_lenK K) (by rfl) T.len (by decide +kernel) (pa_cons (pe_call G_L_sh_heads (hr.mono (by decide)) rfl m_L_sh_heads k_L_sh_heads b_L_sh_heads .nil pass0 (pa_cons (pv 0) (pa_cons (pv 3) pa_nil))) pa_nil)) pe_int (nomark _))) (fun _ _ _ _ _ => pv 3))
      (pss_one (ps_ret (pe_ifExp (pt_cmpR (op_neK K hr.units) (pv 2) (pe_lst pa_nil) (nomark _)) (pe_ix (ix_K K) (pv 2) pe_int (fun _ _ => rfl)) pe_non))), ?_⟩
  refine dq_set (d := lT (tornL many props lots)) (de_lc (xs := splL many props) (enc := tI) (fun row => !decide ((Ch.heads props lots row).length = 1)) (fun row => tI row) (di_seq (de_var rfl r2)) (by omega)
    fun row hrow x' N' H' u' rx => ⟨(dt_test (de_op (de_cb (da_cons (de_call (da_cons (de_var rfl (r1.up u')) (da_cons (de_var rfl rx) da_nil)) ⟨many, props, lots, row, rfl, C, (mem_splL C.c).mp hrow, rfl⟩) da_nil) rk_lenT) de_int r2_neI)).is (congrArg (fun b => !b) (decide_eq_decide.mpr (by omega))), fun _ => de_var rfl rx⟩) fr fun v2 H1 s1 r3 => ?_
  refine dq_ret (de_if (b := !(tornL many props lots).isEmpty) (dt_test (de_op (de_var rfl r3) (de_lst da_nil) r2_neLT)) (fun hb => de_op (de_var rfl r3) de_int (r2_ix ?_)) fun hb => de_non.is ?_) (fr.same s1) fun v' H2 s2 r => k v' H2 (s1.trans s2) r
  · have th := torn_head C.c
    cases e : tornL many props lots with
    | nil => rw [e] at hb; simp at hb
    | cons row r =>
      rw [e] at th
      have : tornD many props lots = tI row := by unfold tornD; rw [← th]; rfl
      rw [this]
      exact atI_i (by decide) rfl
  · have th := torn_head C.c
    cases e : tornL many props lots with
    | nil =>
      rw [e] at th
      unfold tornD
      rw [← th]; rfl
    | cons row r => rw [e] at hb; simp at hb
abbrev s_L_k85_is_split : Stmt := top 53
theorem sc_L_k85_is_split : FnScope ["charter", "value", "head"] ["charter", "value"] (defScope s_L_k85_is_split) := ⟨rfl, rfl, rfl, by decide +kernel, rfl, by decide +kernel, by decide +kernel⟩
theorem ok_isplL {f : Addr} {fd : FuncData} (F : Fun K "_law_k85_is_split" "_law_k85_is_split" s_L_k85_is_split f fd) (T : Bi mg) (D_L_is_whole : Def P w K mg base "_law_is_whole" 1 ["item"] (spP R_whole)) :
    FnOk P w K mg base CX0 2 f fd ["charter", "value"] (spP R_isspl) := by
  obtain ⟨f_L_is_whole, fd_L_is_whole, G_L_is_whole, b_L_is_whole, k_L_is_whole, m_L_is_whole⟩ := D_L_is_whole.ex
  refine F.ok sc_L_k85_is_split (len_spP (fun ds d ⟨many, props, lots, x, e, _⟩ => by rw [e]; rfl)) (fun cdv A outer s H vs Q E hr h => ?_)
  obtain ⟨N, ds, d, fr, rs, ⟨many, props, lots, x, rfl, C, sz, rfl⟩, k⟩ := h
  obtain ⟨v, u, rfl, r1, r2⟩ := rps2 rs
  have m6 := C.c.m6
  refine ⟨_, pss_cons (ps_if (PW.pt (pw_or (pt_not (pt_truK K (pe_callB call_isK (by rfl) T.isinstance (by decide +kernel) (pa_cons (pv 1) (pa_cons (pe_tyn "tuple" (by rfl) T.tuple (by decide +kernel)) pa_nil))) (fun _ => rfl))) (pw_or1 (pt_cmpR (op_neK K hr.units) (pe_callB (call_lenK K) (by rfl) T.len (by decide +kernel) (pa_cons (pv 1) pa_nil)) (pe_ix (ix_K K) (pv 0) pe_int (fun _ _ => rfl)) (nomark _))))) (pss_one (ps_ret (pe_bl))) pss_nil)
      (pss_cons (ps_if (pt_cmpR (op_neK K hr.units) (pe_lc (own := [("head", 2)]) rfl sc_L_k85_is_split.nd (pi_seqK K (pv 1)) (blkOk_by (own := [("head", 2)]) (N := ["charter", "value", "head"]) (sc := defScope s_L_k85_is_split) (by decide +kernel)) (fun _ _ _ _ _ => pg_name (i := 2) sc_L_k85_is_split.nd rfl (Or.inl rfl)) (fun _ _ _ _ _ => pts_one (PW.pt (pw_or (pt_not (pt_truK K (pe_call G_L_is_whole (hr.mono (by decide)) rfl m_L_is_whole k_L_is_whole b_L_is_whole .nil pass0 (pa_cons (pv 2) pa_nil)) (fun _ => rfl))) (pw_or1 (pt_cmpR (op_ninK K) (pv 2) (pe_ix (ix_K K) (pv 0) pe_int (fun _ _ => rfl)) rfl))))) (fun _ _ _ _ _ => pe_int)) (pe_lst pa_nil) (nomark _)) (pss_one (ps_ret (pe_bl))) pss_nil)
      (pss_one (ps_ret (pe_cmpR (op_eqK K hr.units) (pe_lc (own := [("head", 2)]) rfl sc_L_k85_is_split.nd (pi_seqK K (pv 1)) (blkOk_by (own := [("head", 2)]) (N := ["charter", "value", "head"]) (sc := defScope s_L_k85_is_split) (by decide +kernel)) (fun _ _ _ _ _ => pg_name (i := 2) sc_L_k85_is_split.nd rfl (Or.inl rfl)) (fun _ _ _ _ _ => pts_one (pt_cmpR (op_neK K hr.units) (pe_ix (ix_K K) (pv 1) (pv 2) (fun _ _ => rfl)) (pv 2) (nomark _))) (fun _ _ _ _ _ => pe_int)) (pe_lst pa_nil) (nomark _))))), ?_⟩
  by_cases hx : ∃ ds, x = .tuple ds
  · obtain ⟨ds, rfl⟩ := hx
    have dl : ds.length ≤ 1000 := sz ds rfl
    refine dq_ifN (N := N) (b := !decide (((ds.length : Nat) : Int) = (many : Int))) ((dt_or (a := false) (dt_not (a := true) (dt_truB (de_isA (de_var rfl r2) (kit_tup _)))) fun _ => dt_test (de_op (de_cb (da_cons (de_var rfl r2) da_nil) (rk_len (K := K))) (de_op (de_var (i := 0) rfl r1) de_int (r2_ix (K := K) (i := 0) (z := .int (many : Int)) rfl)) r2_neI)).is (Bool.false_or _)) fr (fun hb H2 s2 => ?_) fun hb H2 s2 => ?_
    · refine dq_ret de_bl (fr.same s2) fun v' H3 s3 r3 => k v' H3 (s2.trans s3) ?_
      have e : splB many props (.tuple ds) = false := by
        show (decide (ds.length = many) && _ && _) = false
        have hn : ¬ (ds.length = many) := by simp at hb; omega
        rw [decide_eq_false hn]; rfl
      rw [e]; exact r3
    have hn : ds.length = many := by simp at hb; omega
    have f2 := fr.same s2
    refine dq_ifN (N := N) (b := ds.any fun d => !propD props d) ((dt_test (de_op (de_lc (xs := ds) (enc := fun d => d) (fun d => !propD props d) (fun _ => .int 1) (by
        have := di_seq (K := K) (ds := ds) (de_var (N := N) (i := 1) (σ := L2.start ["charter", "value", "head"] [v, u]) rfl (r2.same s2))
        rw [List.map_id']; exact this) (by omega) fun a ha x' N' H' u' rx => ⟨(dt_or (a := !wholeD a) (b := !propD props a) (dt_not (dt_truB (de_call (da_cons (de_var rfl rx) da_nil) ⟨a, rfl, rfl⟩))) fun hw => ?_).is ?_, fun _ => de_int⟩) (de_lst da_nil) r2_some)).is (by rw [filter_empty, Bool.not_not])) f2 (fun hb H3 s3 => ?_) fun hb H3 s3 => ?_
    · obtain ⟨i, rfl⟩ : ∃ i, a = .int i := by cases a <;> simp [wholeD] at hw; exact ⟨_, rfl⟩
      exact dt_test (de_op (de_var rfl rx) (de_op (de_var (i := 0) rfl ((r1.same s2).up u')) de_int (r2_ix (K := K) (i := 1) (z := tI props) rfl)) r2_nin)
    · cases a <;> simp [wholeD, propD]
    · refine dq_ret de_bl (f2.same s3) fun v' H4 s4 r4 => k v' H4 ((s2.trans s3).trans s4) ?_
      have e : splB many props (.tuple ds) = false := by
        cases e : splB many props (.tuple ds) with
        | false => rfl
        | true =>
          have e : (decide (ds.length = many) && (ds.all (propD props)) && ds.all fun d => decide (Ch.at_ (ds.map toD) (toD d) = toD d)) = true := e
          rw [Bool.and_eq_true, Bool.and_eq_true] at e
          obtain ⟨z, hz, hz2⟩ := List.any_eq_true.mp hb
          rw [List.all_eq_true.mp e.1.2 z hz] at hz2; cases hz2
      rw [e]; exact r4
    have hp : ds.all (propD props) = true := by
      rw [List.all_eq_true]
      intro z hz
      have := List.any_eq_false.mp hb z hz
      simpa using this
    obtain ⟨row, rfl, hr⟩ := prop_ints hp
    rw [List.length_map] at hn dl
    refine dq_ret ((de_op (de_lc (xs := row) (enc := PyData.int) (fun o => !decide (Ch.at_ row o = o)) (fun _ => .int 1) (di_seq (de_var rfl ((r2.same s2).same s3))) (by omega)
      fun a ha x' N' H' u' rx => ⟨dt_test (de_op (de_op (de_var rfl (((r2.same s2).same s3).up u')) (de_var rfl rx) (r2_ix (atI_i (C.c.pin a (hr a ha)).1 ?_))) (de_var rfl rx) r2_neI), fun _ => de_int⟩) (de_lst da_nil) r2_none).is ?_) (f2.same s3) fun v' H4 s4 r4 => k v' H4 ((s2.trans s3).trans s4) r4
    · have b := C.c.pin a (hr a ha)
      rw [List.getElem?_map]
      unfold Ch.at_
      rw [List.getD_eq_getElem?_getD, List.getElem?_eq_getElem (by omega)]; rfl
    · rw [splB_ints, decide_eq_true hn, Bool.true_and, filter_empty]
      have e : (row.all fun o => decide (o ∈ props)) = true := List.all_eq_true.mpr fun o ho => decide_eq_true (hr o ho)
      rw [e, Bool.true_and, not_any_notZ]
  · have e1 : tupK x = false := by cases x <;> first | rfl | exact absurd ⟨_, rfl⟩ hx
    have e2 : splB many props x = false := by cases x <;> first | rfl | exact absurd ⟨_, rfl⟩ hx
    have ht := kit_tup x
    rw [e1] at ht
    rw [e2] at k
    refine dq_ifN (N := N) (b := true) ((dt_or (a := true) (b := true) (dt_not (a := false) (dt_truB (de_isA (de_var rfl r2) ht))) fun h => nomatch h).is rfl) fr (fun hb H2 s2 => ?_) fun hb => nomatch hb
    exact dq_ret de_bl (fr.same s2) fun v' H3 s3 r3 => k v' H3 (s2.trans s3) r3
abbrev s_L_pu_odd : Stmt := top 40
theorem sc_L_pu_odd : FnScope ["state", "some"] ["state"] (defScope s_L_pu_odd) := ⟨rfl, rfl, rfl, by decide +kernel, rfl, by decide +kernel, by decide +kernel⟩
theorem ok_odd {f : Addr} {fd : FuncData} (F : Fun K "_law_pu_odd" "_law_pu_odd" s_L_pu_odd f fd) (D_L_pick : Def P w K mg base "_law_pick" 3 ["state", "several"] (spPick K)) : FnOk P w K mg base CX0 4 f fd ["state"] (spSt 1 D_odd R_odd) := by
  obtain ⟨f_L_pick, fd_L_pick, G_L_pick, b_L_pick, k_L_pick, m_L_pick⟩ := D_L_pick.ex
  refine F.ok sc_L_pu_odd (len_spSt fun ds e => by rw [e]; rfl) (fun cdv A outer s H vs Q E hr h => ?_)
  obtain ⟨d, g, c, T0, N, us, ds, rfl, sb, fr, S, tb, rs, rfl, k⟩ := h
  cases rs
  refine ⟨_, pss_cons (ps_set (i := 1) sc_L_pu_odd.nd rfl (Or.inl rfl) (pe_lst (pa_cons pe_non (pa_cons pe_int (pa_cons (pe_un un_neg pe_int) (pa_cons pe_bl (pa_cons pe_str (pa_cons pe_str (pa_cons (pe_tup pa_nil) (pa_cons (pe_lst pa_nil) (pa_cons pe_dnewK (pa_cons (pe_tup (pa_cons pe_str pa_nil)) (pa_cons (pe_tup (pa_cons pe_str (pa_cons (pe_un un_neg pe_int) pa_nil))) (pa_cons (pe_tup (pa_cons pe_str (pa_cons pe_bl pa_nil))) (pa_cons (pe_tup (pa_cons pe_int (pa_cons pe_int pa_nil))) pa_nil)))))))))))))))
      (pss_one (ps_ret (pe_call G_L_pick (hr.mono (by decide)) rfl m_L_pick k_L_pick b_L_pick .nil pass0 (pa_cons (pv 0) (pa_cons (pv 1) pa_nil))))), ?_⟩
  refine dq_set (N := N) (d := .list oddL) (de_lst (da_cons de_non (da_cons de_int (da_cons (de_neg de_int) (da_cons de_bl (da_cons de_str (da_cons de_str (da_cons (de_tup da_nil) (da_cons (de_lst da_nil) (da_cons de_dnew (da_cons (de_tup (da_cons de_str da_nil)) (da_cons (de_tup (da_cons de_str (da_cons (de_neg de_int) da_nil))) (da_cons (de_tup (da_cons de_str (da_cons de_bl da_nil))) (da_cons (de_tup (da_cons de_int (da_cons de_int da_nil))) da_nil))))))))))))) (by simp [oddL])) fr fun v1 H1 s1 r1 => ?_
  refine sq_ret (n := 1) (se_pick rfl (de_var rfl r1) rfl (by simp [oddL]) (by simp [oddL])) (fr.same s1) sb (S.same s1) tb fun v z H2 hz k2 S2 f2 r2 => k v z H2 (odd_sz z hz) ((Kp.of s1).trans k2) S2 r2
end
end Pu

namespace Pu
open PySem PySem.Spec PyProof.Rows L2
/-- a tuple of some items -/
def TL (n : Nat) : PyData → Prop := fun z => ∃ ds, z = .tuple ds ∧ ds.length ≤ n
theorem TL.sz {n : Nat} {z : PyData} (h : TL n z) (l : n ≤ 1000) : szD z := fun ds e => by
  obtain ⟨es, rfl, hl⟩ := h
  cases e
  omega
theorem tl_add {K : PySem.W.Frag} {a b : Nat} (ha : a ≤ 1000000) (hb : b ≤ 1000000) : ∀ x y, TL a x → TL b y → ∃ z, TL (a + b) z ∧ R2D (rAddU K) x y z := fun x y ⟨xs, e1, h1⟩ ⟨ys, e2, h2⟩ => by
  subst e1 e2
  exact ⟨_, ⟨xs ++ ys, rfl, by rw [List.length_append]; omega⟩, r2_addT (by omega)⟩
theorem tl_cut {row : List Int} {lo hi : Option Int} {n : Nat} (h : row.length ≤ n) : TL n (.tuple (cutD (row.map PyData.int) lo hi)) := ⟨_, rfl, by have := cutD_le (row.map PyData.int) lo hi; rw [List.length_map] at this; omega⟩
def R_bent : List PyData → PyData → Prop := fun _ z => szD z
section
variable {P : Program} {w : World} {K : PySem.W.Frag} {mg : Str → Option Value} {base : Heap}
abbrev s_L_pu_bent : Stmt := top 41
theorem sc_L_pu_bent : FnScope ["state", "item", "at", "way"] ["state", "item"] (defScope s_L_pu_bent) := ⟨rfl, rfl, rfl, by decide +kernel, rfl, by decide +kernel, by decide +kernel⟩
theorem ok_bentNo {f : Addr} {fd : FuncData} (F : Fun K "_law_pu_bent" "_law_pu_bent" s_L_pu_bent f fd) : FnOk P w K mg base CX0 4 f fd ["state", "item"] spNo := by
  refine F.ok sc_L_pu_bent (fun vs H Q E h => h.1) (fun cdv A outer s H vs Q E hr h => h.2.elim)
theorem ok_bent0 {f : Addr} {fd : FuncData} (F : Fun K "_law_pu_bent" "_law_pu_bent" s_L_pu_bent f fd) (T : Bi mg) (D_L_is_whole : Def P w K mg base "_law_is_whole" 1 ["item"] (spP R_whole)) (D_L_pick : Def P w K mg base "_law_pick" 3 ["state", "several"] (spPick K)) (D_L_draw : Def P w K mg base "_law_draw" 2 ["state", "size_here"] spDraw)
    (D_L_pu_odd : Def P w K mg base "_law_pu_odd" 4 ["state"] (spSt 1 D_odd R_odd)) (D_L_pu_bent : Def P w K mg base "_law_pu_bent" 4 ["state", "item"] spNo) : FnOk P w K mg base CX0 5 f fd ["state", "item"] (spSt 1 D_bent0 R_bent) := by
  obtain ⟨f_L_is_whole, fd_L_is_whole, G_L_is_whole, b_L_is_whole, k_L_is_whole, m_L_is_whole⟩ := D_L_is_whole.ex
  obtain ⟨f_L_pick, fd_L_pick, G_L_pick, b_L_pick, k_L_pick, m_L_pick⟩ := D_L_pick.ex
  obtain ⟨f_L_pu_bent, fd_L_pu_bent, G_L_pu_bent, b_L_pu_bent, k_L_pu_bent, m_L_pu_bent⟩ := D_L_pu_bent.ex
  obtain ⟨f_L_draw, fd_L_draw, G_L_draw, b_L_draw, k_L_draw, m_L_draw⟩ := D_L_draw.ex
  obtain ⟨f_L_pu_odd, fd_L_pu_odd, G_L_pu_odd, b_L_pu_odd, k_L_pu_odd, m_L_pu_odd⟩ := D_L_pu_odd.ex
  refine F.ok sc_L_pu_bent (len_spSt fun ds ⟨x, e, _⟩ => by rw [e]; rfl) (fun cdv A outer s H vs Q E hr h => ?_)
  obtain ⟨d, g, c, T0, N, us, ds, rfl, sb, fr, S, tb, rs, ⟨x, rfl, hx⟩, k⟩ := h
  obtain ⟨v, rfl, r⟩ := rps1 rs
  have ht := kit_tup x
  rw [hx] at ht
  refine ⟨_, pss_cons (ps_if (PW.pt (pw_or (pt_not (pt_truK K (pe_callB call_isK (by rfl) T.isinstance (by decide +kernel) (pa_cons (pv 1) (pa_cons (pe_tyn "tuple" (by rfl) T.tuple (by decide +kernel)) pa_nil))) (fun _ => rfl))) (pw_or (pt_cmpR (op_eqK K hr.units) (pv 1) (pe_tup pa_nil) (nomark _)) (pw_or1 (pt_cmpR (op_eqK K hr.units) (pe_call G_L_draw (hr.mono (by decide)) rfl m_L_draw k_L_draw b_L_draw .nil pass0 (pa_cons (pv 0) (pa_cons pe_int pa_nil))) pe_int (nomark _)))))) (pss_one (ps_ret (pe_call G_L_pu_odd (hr.mono (by decide)) rfl m_L_pu_odd k_L_pu_odd b_L_pu_odd .nil pass0 (pa_cons (pv 0) pa_nil)))) pss_nil)
      (pss_cons (ps_par (i := 2) (j := 3) rfl sc_L_pu_bent.nd rfl rfl (by decide) rfl rfl (pa_cons (pe_call G_L_draw (hr.mono (by decide)) rfl m_L_draw k_L_draw b_L_draw .nil pass0 (pa_cons (pv 0) (pa_cons (pe_callB (call_lenK K) (by rfl) T.len (by decide +kernel) (pa_cons (pv 1) pa_nil)) pa_nil))) (pa_cons (pe_call G_L_draw (hr.mono (by decide)) rfl m_L_draw k_L_draw b_L_draw .nil pass0 (pa_cons (pv 0) (pa_cons pe_int pa_nil))) pa_nil)) (by rfl))
      (pss_cons (ps_if (pt_cmpR (op_ltK K hr.units0) (pv 3) pe_int (nomark _)) (pss_one (ps_ret (pe_op (op_addK K) (pe_op (op_addK K) (pe_slice (sl_tK K) (pv 1) po_none (po_some (pv 2))) (pe_tup (pa_cons (pe_call G_L_pu_bent (hr.mono (by decide)) rfl m_L_pu_bent k_L_pu_bent b_L_pu_bent .nil pass0 (pa_cons (pv 0) (pa_cons (pe_ix (ix_K K) (pv 1) (pv 2) (fun _ _ => rfl)) pa_nil))) pa_nil))) (pe_slice (sl_tK K) (pv 1) (po_some (pe_op (op_addK K) (pv 2) pe_int)) po_none)))) pss_nil)
      (pss_cons (ps_if (pt_cmpR (op_eqK K hr.units) (pv 3) pe_int (nomark _)) (pss_one (ps_ret (pe_op (op_addK K) (pe_slice (sl_tK K) (pv 1) po_none (po_some (pv 2))) (pe_slice (sl_tK K) (pv 1) (po_some (pe_op (op_addK K) (pv 2) pe_int)) po_none)))) pss_nil)
      (pss_cons (ps_if (pt_cmpR (op_eqK K hr.units) (pv 3) pe_int (nomark _)) (pss_one (ps_ret (pe_op (op_addK K) (pe_op (op_addK K) (pe_slice (sl_tK K) (pv 1) po_none (po_some (pv 2))) (pe_slice (sl_tK K) (pv 1) (po_some (pv 2)) (po_some (pe_op (op_addK K) (pv 2) pe_int)))) (pe_slice (sl_tK K) (pv 1) (po_some (pv 2)) po_none)))) pss_nil)
      (pss_cons (ps_if (PW.pt (pw_and (pt_cmpR (op_eqK K hr.units) (pv 3) pe_int (nomark _)) (pw_and1 (pt_truK K (pe_call G_L_is_whole (hr.mono (by decide)) rfl m_L_is_whole k_L_is_whole b_L_is_whole .nil pass0 (pa_cons (pe_ix (ix_K K) (pv 1) (pv 2) (fun _ _ => rfl)) pa_nil)) (fun _ => rfl))))) (pss_one (ps_ret (pe_op (op_addK K) (pe_op (op_addK K) (pe_slice (sl_tK K) (pv 1) po_none (po_some (pv 2))) (pe_tup (pa_cons (pe_op (op_addK K) (pe_ix (ix_K K) (pv 1) (pv 2) (fun _ _ => rfl)) (pe_call G_L_pick (hr.mono (by decide)) rfl m_L_pick k_L_pick b_L_pick .nil pass0 (pa_cons (pv 0) (pa_cons (pe_lst (pa_cons pe_int (pa_cons (pe_un un_neg pe_int) pa_nil))) pa_nil)))) pa_nil))) (pe_slice (sl_tK K) (pv 1) (po_some (pe_op (op_addK K) (pv 2) pe_int)) po_none)))) pss_nil)
      (pss_one (ps_ret (pe_ifExp (pt_cmpR (op_eqK K hr.units) (pv 3) pe_int (nomark _)) (pe_callTy (call_tupK K) (by rfl) T.tuple (by decide +kernel) (pa_cons (pe_op (op_addK K) (pe_callTy (call_listK K) (by rfl) T.list (by decide +kernel) (pa_cons (pe_revTK K (pe_slice (sl_tK K) (pv 1) po_none (po_some (pv 2)))) pa_nil)) (pe_callTy (call_listK K) (by rfl) T.list (by decide +kernel) (pa_cons (pe_slice (sl_tK K) (pv 1) (po_some (pv 2)) po_none) pa_nil))) pa_nil)) (pe_callTy (call_listK K) (by rfl) T.list (by decide +kernel) (pa_cons (pv 1) pa_nil)))))))))), ?_⟩
  refine dq_ifN (N := N) (b := true) ((dt_or (a := true) (b := true) (dt_not (a := false) (dt_truB (de_isA (de_var rfl r) ht))) fun h => nomatch h).is rfl) fr (fun _ H1 s1 => ?_) fun h => nomatch h
  exact sq_ret (n := 1) (se_call rfl da_nil rfl) (fr.same s1) sb (S.same s1) tb fun v z H2 hz k2 S2 f2 r2 => k v z H2 hz ((Kp.of s1).trans k2) S2 r2
theorem ok_bent {f : Addr} {fd : FuncData} (F : Fun K "_law_pu_bent" "_law_pu_bent" s_L_pu_bent f fd) (T : Bi mg) (D_L_is_whole : Def P w K mg base "_law_is_whole" 1 ["item"] (spP R_whole)) (D_L_pick : Def P w K mg base "_law_pick" 3 ["state", "several"] (spPick K)) (D_L_draw : Def P w K mg base "_law_draw" 2 ["state", "size_here"] spDraw)
    (D_L_pu_odd : Def P w K mg base "_law_pu_odd" 4 ["state"] (spSt 1 D_odd R_odd)) (D_L_pu_bent : Def P w K mg base "_law_pu_bent" 5 ["state", "item"] (spSt 1 D_bent0 R_bent)) : FnOk P w K mg base CX0 6 f fd ["state", "item"] (spSt 4 D_bent R_bent) := by
  obtain ⟨f_L_is_whole, fd_L_is_whole, G_L_is_whole, b_L_is_whole, k_L_is_whole, m_L_is_whole⟩ := D_L_is_whole.ex
  obtain ⟨f_L_pick, fd_L_pick, G_L_pick, b_L_pick, k_L_pick, m_L_pick⟩ := D_L_pick.ex
  obtain ⟨f_L_pu_bent, fd_L_pu_bent, G_L_pu_bent, b_L_pu_bent, k_L_pu_bent, m_L_pu_bent⟩ := D_L_pu_bent.ex
  obtain ⟨f_L_draw, fd_L_draw, G_L_draw, b_L_draw, k_L_draw, m_L_draw⟩ := D_L_draw.ex
  obtain ⟨f_L_pu_odd, fd_L_pu_odd, G_L_pu_odd, b_L_pu_odd, k_L_pu_odd, m_L_pu_odd⟩ := D_L_pu_odd.ex
  refine F.ok sc_L_pu_bent (len_spSt fun ds ⟨x, e, _⟩ => by rw [e]; rfl) (fun cdv A outer s H vs Q E hr h => ?_)
  obtain ⟨d, g, c, T0, N, us, ds, rfl, sb, fr, S, tb, rs, ⟨row, rfl, hne, hl⟩, k⟩ := h
  obtain ⟨v, rfl, r⟩ := rps1 rs
  have tb' : T0 + 4 ≤ TB := tb
  have hpos := List.length_pos_iff.mpr hne
  refine ⟨_, pss_cons (ps_if (PW.pt (pw_or (pt_not (pt_truK K (pe_callB call_isK (by rfl) T.isinstance (by decide +kernel) (pa_cons (pv 1) (pa_cons (pe_tyn "tuple" (by rfl) T.tuple (by decide +kernel)) pa_nil))) (fun _ => rfl))) (pw_or (pt_cmpR (op_eqK K hr.units) (pv 1) (pe_tup pa_nil) (nomark _)) (pw_or1 (pt_cmpR (op_eqK K hr.units) (pe_call G_L_draw (hr.mono (by decide)) rfl m_L_draw k_L_draw b_L_draw .nil pass0 (pa_cons (pv 0) (pa_cons pe_int pa_nil))) pe_int (nomark _)))))) (pss_one (ps_ret (pe_call G_L_pu_odd (hr.mono (by decide)) rfl m_L_pu_odd k_L_pu_odd b_L_pu_odd .nil pass0 (pa_cons (pv 0) pa_nil)))) pss_nil)
      (pss_cons (ps_par (i := 2) (j := 3) rfl sc_L_pu_bent.nd rfl rfl (by decide) rfl rfl (pa_cons (pe_call G_L_draw (hr.mono (by decide)) rfl m_L_draw k_L_draw b_L_draw .nil pass0 (pa_cons (pv 0) (pa_cons (pe_callB (call_lenK K) (by rfl) T.len (by decide +kernel) (pa_cons (pv 1) pa_nil)) pa_nil))) (pa_cons (pe_call G_L_draw (hr.mono (by decide)) rfl m_L_draw k_L_draw b_L_draw .nil pass0 (pa_cons (pv 0) (pa_cons pe_int pa_nil))) pa_nil)) (by rfl))
      (pss_cons (ps_if (pt_cmpR (op_ltK K hr.units0) (pv 3) pe_int (nomark _)) (pss_one (ps_ret (pe_op (op_addK K) (pe_op (op_addK K) (pe_slice (sl_tK K) (pv 1) po_none (po_some (pv 2))) (pe_tup (pa_cons (pe_call G_L_pu_bent (hr.mono (by decide)) rfl m_L_pu_bent k_L_pu_bent b_L_pu_bent .nil pass0 (pa_cons (pv 0) (pa_cons (pe_ix (ix_K K) (pv 1) (pv 2) (fun _ _ => rfl)) pa_nil))) pa_nil))) (pe_slice (sl_tK K) (pv 1) (po_some (pe_op (op_addK K) (pv 2) pe_int)) po_none)))) pss_nil)
      (pss_cons (ps_if (pt_cmpR (op_eqK K hr.units) (pv 3) pe_int (nomark _)) (pss_one (ps_ret (pe_op (op_addK K) (pe_slice (sl_tK K) (pv 1) po_none (po_some (pv 2))) (pe_slice (sl_tK K) (pv 1) (po_some (pe_op (op_addK K) (pv 2) pe_int)) po_none)))) pss_nil)
      (pss_cons (ps_if (pt_cmpR (op_eqK K hr.units) (pv 3) pe_int (nomark _)) (pss_one (ps_ret (pe_op (op_addK K) (pe_op (op_addK K) (pe_slice (sl_tK K) (pv 1) po_none (po_some (pv 2))) (pe_slice (sl_tK K) (pv 1) (po_some (pv 2)) (po_some (pe_op (op_addK K) (pv 2) pe_int)))) (pe_slice (sl_tK K) (pv 1) (po_some (pv 2)) po_none)))) pss_nil)
      (pss_cons (ps_if (PW.pt (pw_and (pt_cmpR (op_eqK K hr.units) (pv 3) pe_int (nomark _)) (pw_and1 (pt_truK K (pe_call G_L_is_whole (hr.mono (by decide)) rfl m_L_is_whole k_L_is_whole b_L_is_whole .nil pass0 (pa_cons (pe_ix (ix_K K) (pv 1) (pv 2) (fun _ _ => rfl)) pa_nil)) (fun _ => rfl))))) (pss_one (ps_ret (pe_op (op_addK K) (pe_op (op_addK K) (pe_slice (sl_tK K) (pv 1) po_none (po_some (pv 2))) (pe_tup (pa_cons (pe_op (op_addK K) (pe_ix (ix_K K) (pv 1) (pv 2) (fun _ _ => rfl)) (pe_call G_L_pick (hr.mono (by decide)) rfl m_L_pick k_L_pick b_L_pick .nil pass0 (pa_cons (pv 0) (pa_cons (pe_lst (pa_cons pe_int (pa_cons (pe_un un_neg pe_int) pa_nil))) pa_nil)))) pa_nil))) (pe_slice (sl_tK K) (pv 1) (po_some (pe_op (op_addK K) (pv 2) pe_int)) po_none)))) pss_nil)
      (pss_one (ps_ret (pe_ifExp (pt_cmpR (op_eqK K hr.units) (pv 3) pe_int (nomark _)) (pe_callTy (call_tupK K) (by rfl) T.tuple (by decide +kernel) (pa_cons (pe_op (op_addK K) (pe_callTy (call_listK K) (by rfl) T.list (by decide +kernel) (pa_cons (pe_revTK K (pe_slice (sl_tK K) (pv 1) po_none (po_some (pv 2)))) pa_nil)) (pe_callTy (call_listK K) (by rfl) T.list (by decide +kernel) (pa_cons (pe_slice (sl_tK K) (pv 1) (po_some (pv 2)) po_none) pa_nil))) pa_nil)) (pe_callTy (call_listK K) (by rfl) T.list (by decide +kernel) (pa_cons (pv 1) pa_nil)))))))))), ?_⟩
  refine sq_if (n := 0 + 1 + 0) (st_or (b := false) (dt_not (a := true) (dt_truB (de_isA (de_var rfl r) (kit_tup _)))) (st_or (b := false) ((dt_test (de_op (de_var rfl r) (de_tup da_nil) (r2_eqT (ys := [])))).is (decide_eq_false hne))
    (st_test (R := fun z => ∃ b, z = .bool b) (se_op (se_draw (m := 9) rfl de_int (by decide)) (SE.of (n := 0) (R := fun z => z = .int 0) de_int rfl) fun x y ⟨r, hx, _⟩ hy => ⟨.bool (decide (r = 0)), ⟨_, rfl⟩, by subst hx hy; exact r2_eqI⟩) fun z h => h))) fr sb S (by omega) (fun H1 k1 S1 f1 => ?_) fun H1 k1 S1 f1 => ?_
  · exact sq_ret (n := 1) (se_call rfl da_nil rfl) f1 sb S1 (by omega) fun v z H2 hz k2 S2 f2 r2 => k v z H2 hz (k1.trans k2) (S2.mono (by omega)) r2
  have r1 := r.up (Up.kp sb k1)
  refine sq_par (n := 1 + (1 + 0)) (sa_cons (se_draw (m := row.length) rfl (de_cb (da_cons (de_var rfl r1) da_nil) rk_lenT) (by omega)) (sa_cons (se_draw (m := 8) rfl de_int (by decide)) sa_nil)) f1 sb S1 (by omega)
    (fun ds ⟨z, rs, e, _, z', rs', e', _, e''⟩ => by subst e'' e' e; rfl) fun v2 v3 x y H2 hxy k2 S2 f2 r2 r3 => ?_
  obtain ⟨_, _, e1, ⟨at0, rfl, a0, a1⟩, _, _, e2, ⟨wy, rfl, w0, w1⟩, rfl⟩ := hxy
  subst e2
  cases e1
  have k12 := k1.trans k2
  have rr := r.up (Up.kp sb k12)
  have hat : ∃ o : Int, L2.atI (row.map PyData.int) at0 = some (.int o) := ⟨row[at0.toNat]'(by omega), atI_i a0 (by rw [List.getElem?_map, List.getElem?_eq_getElem (by omega)]; rfl)⟩
  obtain ⟨o, ho⟩ := hat
  -- what holds behind
  have fin : ∀ {te : TE} {n : Nat} {D : Ends} {H3 : Hp}, Same H2 H3 → n ≤ 1 → D.rt = Q → SE d g c n N te [some (.ref d), some v, some v2, some v3] H3 szD → tRet te D [some (.ref d), some v, some v2, some v3] H3 := fun {te n D H3} s3 hn hD h => by
    refine sq_ret (n := n) h (f2.same s3) sb (S2.same s3) (by omega) fun v' z H4 hz k4 S4 f4 r4 => ?_
    rw [hD]
    exact k v' z H4 hz ((k12.trans (Kp.of s3)).trans k4) (S4.mono (by omega)) r4
  have lo : ∀ {H3 : Hp}, Same H2 H3 → DE N (tSl (rSlA K) (tVar 1) tNoPart (tPart (tVar 2))) [some (.ref d), some v, some v2, some v3] H3 (.tuple (cutD (row.map PyData.int) none (some at0))) := fun s3 => de_slT (de_var rfl (rr.same s3)) do_none (do_some (de_var rfl (r2.same s3)))
  have hi : ∀ {H3 : Hp}, Same H2 H3 → DE N (tSl (rSlA K) (tVar 1) (tPart (tOp (rAddU K) (tVar 2) (tC (.int 1)))) tNoPart) [some (.ref d), some v, some v2, some v3] H3 (.tuple (cutD (row.map PyData.int) (some (at0 + 1)) none)) := fun s3 => de_slT (de_var rfl (rr.same s3)) (do_some (de_op (de_var rfl (r2.same s3)) de_int r2_addI)) do_none
  have it : ∀ {H3 : Hp}, Same H2 H3 → DE N (tOp (rIx K) (tVar 1) (tVar 2)) [some (.ref d), some v, some v2, some v3] H3 (.int o) := fun s3 => de_op (de_var rfl (rr.same s3)) (de_var rfl (r2.same s3)) (r2_ix ho)
  have un : ∀ {te : TE} {n : Nat} {H3 : Hp} {R : PyData → Prop}, SE d g c n N te [some (.ref d), some v, some v2, some v3] H3 R → SE d g c (n + 0) N (tTup (tCons te tNil)) [some (.ref d), some v, some v2, some v3] H3 (TL 1) := fun {te n H3 R} h =>
    (se_tup (sa_cons h sa_nil) (fun ds ⟨z, rs, e, _, e'⟩ => by subst e' e; simp)).imp fun z ⟨ds, e, z', rs, e', _, e''⟩ => ⟨ds, e, by subst e'' e'; simp⟩
  refine dq_ifN (N := N) (b := decide (wy < 4)) (dt_test (de_op (de_var rfl r3) de_int r2_ltI)) f2 (fun _ H3 s3 => ?_) fun _ H3 s3 => ?_
  · refine fin (n := 0 + (1 + 0) + 0) s3 (by decide) rfl ((se_op (R := TL (100 + 1 + 100)) (se_op (R := TL (100 + 1)) (SE.of (n := 0) (R := TL 100) (lo s3) (tl_cut hl)) (un (n := 1) (se_call (n := 1) (E := E0) (i := 0) (Dm := D_bent0) (R := R_bent) (ds := [.int o]) rfl (da_cons (it s3) da_nil) ⟨.int o, rfl, rfl⟩)) (tl_add (by decide) (by decide))) (SE.of (n := 0) (R := TL 100) (hi s3) (tl_cut hl)) (tl_add (by decide) (by decide))).imp fun z h => h.sz (by decide))
  refine dq_ifN (N := N) (b := decide (wy = 4)) (dt_test (de_op (de_var rfl (r3.same s3)) de_int r2_eqI)) (f2.same s3) (fun _ H4 s4 => ?_) fun _ H4 s4 => ?_
  · have s34 := s3.trans s4
    exact fin (n := 0) s34 (by decide) rfl (SE.of (de_op (lo s34) (hi s34) (r2_addT (by have := cutD_le (row.map PyData.int) none (some at0); have := cutD_le (row.map PyData.int) (some (at0 + 1)) none; rw [List.length_map] at *; omega)))
      (TL.sz (n := 200) ⟨_, rfl, by have := cutD_le (row.map PyData.int) none (some at0); have := cutD_le (row.map PyData.int) (some (at0 + 1)) none; rw [List.length_map] at *; rw [List.length_append]; omega⟩ (by decide)))
  have s34 := s3.trans s4
  refine dq_ifN (N := N) (b := decide (wy = 5)) (dt_test (de_op (de_var rfl (r3.same s34)) de_int r2_eqI)) (f2.same s34) (fun _ H5 s5 => ?_) fun _ H5 s5 => ?_
  · have s35 := s34.trans s5
    exact fin (n := 0 + 0 + 0) s35 (by decide) rfl ((se_op (R := TL (100 + 100 + 100)) (se_op (R := TL (100 + 100)) (SE.of (n := 0) (R := TL 100) (lo s35) (tl_cut hl)) (SE.of (n := 0) (R := TL 100) (de_slT (de_var rfl (rr.same s35)) (do_some (de_var rfl (r2.same s35))) (do_some (de_op (de_var rfl (r2.same s35)) de_int r2_addI))) (tl_cut hl)) (tl_add (by decide) (by decide)))
      (SE.of (n := 0) (R := TL 100) (de_slT (de_var rfl (rr.same s35)) (do_some (de_var rfl (r2.same s35))) do_none) (tl_cut hl)) (tl_add (by decide) (by decide))).imp fun z h => h.sz (by decide))
  have s35 := s34.trans s5
  refine dq_ifN (N := N) (b := decide (wy = 6) && true) (dt_and (dt_test (de_op (de_var rfl (r3.same s35)) de_int r2_eqI)) fun _ => dt_truB (de_call (R := R_whole) (ds := [.int o]) (d := .bool true) (da_cons (it s35) da_nil) ⟨.int o, rfl, rfl⟩)) (f2.same s35) (fun _ H6 s6 => ?_) fun _ H6 s6 => ?_
  · have s36 := s35.trans s6
    exact fin (n := 0 + (0 + 1 + 0) + 0) s36 (by decide) rfl ((se_op (R := TL (100 + 1 + 100)) (se_op (R := TL (100 + 1)) (SE.of (n := 0) (R := TL 100) (lo s36) (tl_cut hl)) (un (R := fun z => ∃ i : Int, z = .int i) (se_op (SE.of (n := 0) (R := fun z => z = .int o) (it s36) rfl) (se_pick (x := .list [.int 1, .int (-1)]) rfl (de_lst (da_cons de_int (da_cons (de_neg de_int) da_nil))) rfl (by simp) (by simp))
      fun x y hx hy => by
        subst hx
        simp only [List.mem_cons, List.not_mem_nil, or_false] at hy
        rcases hy with rfl | rfl
        · exact ⟨_, ⟨_, rfl⟩, r2_addI⟩
        · exact ⟨_, ⟨_, rfl⟩, r2_addI⟩)) (tl_add (by decide) (by decide))) (SE.of (n := 0) (R := TL 100) (hi s36) (tl_cut hl)) (tl_add (by decide) (by decide))).imp fun z h => h.sz (by decide))
  have s36 := s35.trans s6
  have ll : ∀ (lo hi : Option Int), (cutD (row.map PyData.int) lo hi).length ≤ 100 := fun lo hi => by have := cutD_le (row.map PyData.int) lo hi; rw [List.length_map] at this; omega
  refine fin (n := 0) s36 (by decide) rfl (SE.of (x := if wy = 7 then .tuple ((cutD (row.map PyData.int) none (some at0)).reverse ++ cutD (row.map PyData.int) (some at0) none) else lI row)
    (de_if (b := decide (wy = 7)) (dt_test (de_op (de_var rfl (r3.same s36)) de_int r2_eqI)) (fun hb => ?_) fun hb => ?_) ?_)
  · rw [if_pos (of_decide_eq_true hb)]
    exact de_cb (da_cons (de_op (de_cb (da_cons (de_revT (lo s36)) da_nil) (rk_list rfl)) (de_cb (da_cons (de_slT (de_var rfl (rr.same s36)) (do_some (de_var rfl (r2.same s36))) do_none) da_nil) (rk_list rfl)) (r2_addL (by have := ll none (some at0); have := ll (some at0) none; rw [List.length_reverse]; omega))) da_nil) rk_tup
  · rw [if_neg (of_decide_eq_false hb)]
    exact de_cb (da_cons (de_var rfl (rr.same s36)) da_nil) (rk_list rfl)
  · have h1 := ll none (some at0)
    have h2 := ll (some at0) none
    split
    · exact TL.sz (n := 200) ⟨_, rfl, by rw [List.length_append, List.length_reverse]; omega⟩ (by decide)
    · intro ds e
      cases e
      rw [List.length_map]; omega
end
end Pu

namespace Pu
open PySem PySem.Spec PyProof.Rows L2
/-! ### try: body, except x as n: suite, the error being told to the suite as an object that stays known -/
/-- an error that was caught: its class, its own dict -/
def ExV (cls : Value) (d : Option Addr) (a : Addr) : HO := .ext fun h => ∃ (ob : Obj) (vs : Array Value), h.get? a = some ob ∧ Zc cls d ob ∧ ob.data = .fields vs
theorem exV_ok {P : Program} {w : World} {H : Hp} {h : Heap} {a : Addr} {cls : Value} {d : Option Addr} {ob : Obj} {vs : Array Value} (e : h.get? a = some ob) (z : Zc cls d ob) (f : ob.data = .fields vs) : ObjOk P w H h a (ExV cls d a) :=
  ⟨⟨ob, vs, e, z, f⟩, ⟨ob, e⟩, fun _ _ ⟨o, v, q, r⟩ k => ⟨o, v, k o q, r⟩⟩
/-- what «except x as n» wishes: the error stands at a, tracked -/
def wHeld (K : PySem.W.Frag) (c : Value) (i : Nat) (ts : Addr → Value → Option Addr → TS) (Wo : WX) (D : Ends) : WX := fun cls d σ H => ∃ b, PySem.W.exmOne K cls c = some b ∧
  (b = true → ∀ a, H a = none → ts a cls d { nx := fun σ' H' => D.nx (σ'.set i none) H', rt := D.rt, bk := fun σ' H' => D.bk (σ'.set i none) H', ct := fun σ' H' => D.ct (σ'.set i none) H' } (σ.set i (some (.ref a))) (upd H a (ExV cls d a))) ∧ (b = false → Wo cls d σ H)
section
variable {X : Cx} {pins : List (Addr × Obj)} {σ : L2.St} {H : Hp} {sI s : Shared}
/-- the error was not there at the entry -/
theorem not_before {B : Heap} {a : Addr} (hex : X.ex = []) (I : Inv X pins σ H sI) (nb : ∀ b o, sI.heap.get? b = some o → b ∉ frs X.stack → B.get? b = some o) (hB : B.get? a = none) (nf : a ∉ frs X.stack) : X.s_0.heap.get? a = none := by
  cases e : X.s_0.heap.get? a with
  | none => rfl
  | some o =>
    obtain ⟨o', q⟩ := I.base.there a o e (by rw [hex]; exact fun z => nomatch z)
    have z := nb a o' q nf
    rw [hB] at z
    cases z
/-- an error object at a, not there at the entry, becomes a tracked one -/
theorem track {a : Addr} {ob : Obj} {vs : Array Value} {cls : Value} {d : Option Addr} (I : Inv X pins σ H s) (na : H a = none) (n0 : X.s_0.heap.get? a = none) (nL : a ≠ X.env.locals) (np : ∀ p ∈ X.pn ++ pins, p.1 ≠ a)
    (ha : s.heap.get? a = some ob) (hz : Zc cls d ob) (hd : ob.data = .fields vs) : Inv X pins σ (upd H a (ExV cls d a)) s := by
  have ne0 : ∀ b o, X.s_0.heap.get? b = some o → b ≠ a := fun b o e z => by rw [z, n0] at e; cases e
  have neH : ∀ b u, H b = some u → b ≠ a := fun b u e z => by rw [z, na] at e; cases e
  have neC : ∀ y c, X.env.cells.lookup y = some c → c ≠ a := fun y c e z => by
    obtain ⟨v, o, ho, hv⟩ := I.cell y c e
    rw [z, ha] at ho
    cases ho
    rw [hd] at hv
    cases hv
  refine ⟨I.ok, I.os, I.bare, ⟨I.base.keep, I.base.slot, fun b o e n hx => ?_, I.base.there, fun b xs e => ?_, fun b o u e => ?_, fun b ps e => ?_⟩, I.loc, I.cell, ?_, fun y c e => ?_, fun p hp => ?_, ?_, I.len⟩
  · rw [upd_ne (ne0 b o e)]; exact I.base.free b o e n hx
  · have q := I.base.tups b xs e
    rw [upd_ne (neH b _ q)]; exact q
  · have q := I.base.frzs b o u e
    rw [upd_ne (neH b _ q)]; exact q
  · obtain ⟨more, q⟩ := I.base.tbls b ps e
    exact ⟨more, by rw [upd_ne (neH b _ q)]; exact q⟩
  · rw [upd_ne nL.symm]; exact I.free
  · rw [upd_ne (neC y c e)]; exact I.freeC y c e
  · obtain ⟨e, n, r1, r2, r3⟩ := I.pin p hp
    exact ⟨e, by rw [upd_ne (np p hp)]; exact n, r1, r2, r3⟩
  · exact I.hok.laidN (fun _ _ e => e) na (exV_ok ha hz hd)
/-- into the suite, without a pin for the error -/
theorem to_suite (I : Inv X pins σ H s) (a : Addr) : Inv (X.suite a (X.pn ++ pins)) [] σ H s :=
  ⟨I.ok.suite _ _, I.os, I.bare, I.base, I.loc, I.cell, I.free, I.freeC, fun p hp => I.pin p (by rw [List.append_nil] at hp; exact hp), I.hok, I.len⟩
theorem of_suite {a : Addr} {q : List (Addr × Obj)} (I : Inv (X.suite a (X.pn ++ pins)) q σ H s) (ok : X.Ok) : Inv X pins σ H s :=
  ⟨ok, I.os, I.bare, I.base, I.loc, I.cell, I.free, I.freeC, fun p hp => I.pin p (List.mem_append_left _ hp), I.hok, I.len⟩
end
section
variable {X : Cx} {x n : Str} {c : Value} {i : Nat} {body suite : List Stmt} {b₀ : Stmt} {p1 p2 p3 : Pos} {tb : WX → TS} {ts : Addr → Value → Option Addr → TS} {Wo : WX}
theorem ps_try_held (hs : X.stack = X.env :: X.outer) (hf : X.env.frame = some X.env.locals) (hex : X.ex = []) (hN : X.N.Nodup) (hi : X.N[i]? = some n) (hln : X.env.kindOf n = some .local) (hc : Names X x c) (tk : Takes X Wo)
    (hb : ∀ (W : WX) (pn : List (Addr × Obj)) (xe : Value → Shared → Prop), Takes (X.tr pn xe) W → PassesOwn (model X.prog X.w) X.A X.env xe → PSs (X.tr pn xe) body (tb W))
    (hsu : ∀ (a : Addr) (cls : Value) (d : Option Addr) (pn : List (Addr × Obj)), PSs (X.suite a pn) (b₀ :: suite) (ts a cls d)) :
    PS X (.Try body [.ExceptHandler (some (.Name x p1)) (some n) (b₀ :: suite) p2] [] [] p3) (fun D σ H => tb (wHeld X.K c i ts Wo D) D σ H) := by
  refine ⟨fun pins s σ H D I h => ?_⟩
  have ok := I.ok
  have fr : X.A.frames = some (X.env :: X.outer) := by rw [ok.frames, hs]
  refine wpAny_Try_except ?_
  refine wpAny_mono ((hb (wHeld X.K c i ts Wo D) (X.pn ++ pins) (fun er t1 => wpAny (model X.prog X.w) X.A (noteFrame er X.env) (fun _ t2 => wpAny (model X.prog X.w) X.A (setFlight er none) (fun _ t3 =>
    wpAny (model X.prog X.w) X.A (handleBy er X.env [.ExceptHandler (some (.Name x p1)) (some n) (b₀ :: suite) p2]) (SP X pins D) X.xe t3) X.xe t2) X.xe t1) (fun u t0 xx => ?_) PassesOwn.looking).run [] s σ H D (I.toTry _) h) (fun fl t1 hsp => ?_) (fun er t1 he => he)
  · obtain ⟨a, B, sI, pin2, σ1, H1, cls, d, rfl, J0, nb, up, sky, na, eo, ag, b, hb1, hyes, hno⟩ := xx
    have J : Inv X pins σ1 H1 sI := J0.ofTry ok
    have sky1 : Sky B (X.env :: X.outer) a (Zc cls d) X.env.locals t0.heap := by rw [← hs]; exact sky
    show wpAny (model X.prog X.w) X.A (noteFrame (.ref a) X.env) _ _ _
    refine Sky.land Zc.steady fr hf sky1 fun h3 fly up3 => ?_
    have J3 : Inv X pins σ1 H1 { t0 with heap := h3 } := J.landed nb fly.1 (up.trans up3) eo ag
    obtain ⟨ob, vs, hob, hz, hd⟩ := fly.there
    have notF : a ∉ frs (X.env :: X.outer) := fun hm => by
      obtain ⟨_, o', e', hnf⟩ := fly.2.2.1.mem hm
      rw [hob] at e'
      cases e'
      exact hnf _ hd
    have nL : a ≠ X.env.locals := fun z => notF (List.mem_filterMap.mpr ⟨X.env, List.mem_cons_self, by rw [hf, z]⟩)
    have nst : a ∉ frs X.stack := by rw [hs]; exact notF
    have n0 := not_before hex J nb fly.2.1 nst
    have npin : ∀ p ∈ X.pn ++ pins, p.1 ≠ a := fun p hp z => by
      obtain ⟨e, _, r1, r2, _⟩ := J.pin p hp
      have q := nb p.1 p.2 e (fun hm => (List.mem_cons.mp (J.stkSub _ hm)).elim r1 r2)
      rw [z, fly.2.1] at q
      cases q
    have S3 := to_suite J3 a
    refine wpAny_handleBy_cons (codeAny_handlers_test ?_) (by intro q; cases q)
    have LT : PySem.W.Looks (model X.prog X.w) h3 (typeOf (.ref a)) cls := fun _ _ _ _ k q => wpAny_typeOf_ref (k _ _ hob) (by rw [hz.1]; exact q)
    have LM := PySem.W.exm_one (M := model X.prog X.w) J3.kIn LT hb1
    have see : ∀ {Q : Value → Shared → Prop} {E : Value → Shared → Prop}, Q c { t0 with heap := h3 } → wpAny (model X.prog X.w) (X.A.mark (some (.ref a))) (eval (.Name x p1) X.env) Q E { t0 with heap := h3 } := fun {Q E} q => by
      obtain ⟨hg, hdb, hm | ⟨hm, hv, hnn⟩⟩ := hc
      · exact ld_glob (X := X.suite a (X.pn ++ pins)) S3 hg hm q hdb
      · exact ld_blt (X := X.suite a (X.pn ++ pins)) S3 hg hm hv q hnn hdb
    refine see (LM.here ?_)
    cases b with
    | true =>
      refine codeAny_handlers_suite_as ?_
      refine HandSPX.lands_againZ fly fun h4 fly4 up4 => ?_
      have J4 : Inv X pins σ1 H1 { t0 with heap := h4 } := J.landed nb fly4.1 ((up.trans up3).trans up4) eo ag
      obtain ⟨ob4, vs4, hob4, hz4, hd4⟩ := fly4.there
      have T4 := to_suite (track J4 na n0 nL npin hob4 hz4 hd4) a
      refine store_ok (X := X.suite a (X.pn ++ pins)) (v := .ref a) T4 hN hi (.inl hln) rfl (fun s5 T5 => ?_) (.inr hln)
      refine wpAny_mono ((hsu a cls d (X.pn ++ pins)).run [] s5 _ _ _ T5 (hyes rfl a na)) (fun fl t6 hsp => ?_) (fun _ _ z => False.elim z)
      have fin : ∀ {σ6 : L2.St} {H6 : Hp} {Q : Shared → Prop}, Inv (X.suite a (X.pn ++ pins)) [] σ6 H6 t6 → (∀ t7, Inv X pins (σ6.set i none) H6 t7 → Q t7) →
          wpAny (model X.prog X.w) X.A (do bindName X.env n .none; unbindBehindTheSuite X.env n p2) (fun _ t7 => Q t7) X.xe t6 := fun {σ6 H6 Q} T6 hq => gone_ok (of_suite T6 ok) hN hi hln hq
      cases fl with
      | next =>
        obtain ⟨σ6, H6, T6, q6⟩ := hsp
        exact fin T6 fun _ J7 => ⟨_, _, J7, q6⟩
      | brk =>
        obtain ⟨σ6, H6, T6, q6⟩ := hsp
        exact fin T6 fun _ J7 => ⟨_, _, J7, q6⟩
      | cont =>
        obtain ⟨σ6, H6, T6, q6⟩ := hsp
        exact fin T6 fun _ J7 => ⟨_, _, J7, q6⟩
      | ret u =>
        obtain ⟨v6, σ6, H6, T6, r6, q6⟩ := hsp
        exact fin T6 fun _ J7 => ⟨_, _, _, J7, r6, q6⟩
    | false =>
      show wpAny _ X.A (handleBy (.ref a) X.env []) _ _ _
      refine wpAny_handleBy_nil ?_
      obtain ⟨g1, g2, g3, oe, us, T, oT, ts', e1, e2, e3, e4, e5⟩ := id fly
      unfold PySem.passOn
      refine wpAny_bind (wpAny_field e1 e3 e4 ?_)
      rw [if_neg (show ¬ ((Value.ref T == Value.none) = true) by simp)]
      have out : wpAny (model X.prog X.w) X.A (setFlight (.ref a) X.env.frame) (fun _ t4 => wpAny (model X.prog X.w) X.A (throw (.ref a) : Sem Flow) (SP X pins D) X.xe t4) X.xe { t0 with heap := h3 } := by
        rw [hf]
        refine HandSPX.setFlight_upZ fly fun h4 hh4 up4 => wpAny_throw (tk _ _ ?_)
        exact ⟨a, B, sI, pins, σ1, H1, cls, d, rfl, J, nb, (up.trans up3).trans up4, .inr (.inr (by rw [hs]; exact hh4)), na, eo, ag, hno rfl⟩
      first
        | exact wpAny_bind (wpAny_pure (wpAny_bind out))
        | exact wpAny_bind out
  · cases fl with
    | next =>
      obtain ⟨σ1, H1, J1, q⟩ := hsp
      exact wpAny_execs_nil ⟨σ1, H1, J1.ofTry ok, q⟩
    | brk =>
      obtain ⟨σ1, H1, J1, q⟩ := hsp
      exact ⟨σ1, H1, J1.ofTry ok, q⟩
    | cont =>
      obtain ⟨σ1, H1, J1, q⟩ := hsp
      exact ⟨σ1, H1, J1.ofTry ok, q⟩
    | ret u =>
      obtain ⟨v, σ1, H1, J1, r, q⟩ := hsp
      exact ⟨v, σ1, H1, J1.ofTry ok, r, q⟩
end
end Pu

namespace Pu
abbrev sCaught : PySem.Stmt := top 37
open PySem L2 LamX
/-- the error that some work raises, or None: tl is what the work is told to do -/
def TTc (K : PySem.W.Frag) (PE0 : Addr) : (XK → Hp → VK → Prop) → Hp → VK → Prop := fun tl H Q => ∀ (E1 : XK) (Q1 : VK),
  (∀ cls d H', (∃ b, PySem.W.exmOne K cls (.ref PE0) = some b ∧ (b = true → ∀ a, H' a = none → Q (.ref a) (upd H' a (ExV cls d a))) ∧ (b = false → False)) → E1 cls d H') → (∀ v H', Q .non H' → Q1 v H') → tl E1 H Q1
theorem scCa : FnScope ["work", "caught", "error"] ["work"] (defScope sCaught) := ⟨rfl, rfl, rfl, by decide +kernel, rfl, by decide +kernel, by decide +kernel⟩
theorem takes_len {X : Cx} {W : WX} (tk : Takes X W) : Takes X (fun cls d σ H => σ.length = X.N.length → W cls d σ H) := fun u s' ⟨a, B, sI, pins, σ, H, cls, d, e, I, nb, up, sky, na, os, ag, w⟩ =>
  tk u s' ⟨a, B, sI, pins, σ, H, cls, d, e, I, nb, up, sky, na, os, ag, w I.len⟩
theorem caught_gives {X : Cx} {g PE0 : Addr} {cdg : Value} {q : Str} (hm : X.mg "PurseError" = some (.ref PE0)) :
    GivesTo X ["work", "caught", "error"] "_law_caught" (defScope sCaught) g cdg (defBody sCaught) "work" q (TTc X.K PE0) := by
  intro f c' s H Q tl act hc h
  have hgl : Gl (cxOf C8.CX0 X.prog X.w X.K X.mg X.base ["work", "caught", "error"] "_law_caught" (defScope sCaught) g cdg X.A X.stack s H C8.E0).nox "PurseError" := rfl
  refine ⟨_, pss_cons (ps_set (X := (cxOf C8.CX0 X.prog X.w X.K X.mg X.base ["work", "caught", "error"] "_law_caught" (defScope sCaught) g cdg X.A X.stack s H C8.E0).nox) (i := 1) scCa.nd rfl (Or.inl rfl) pe_non)
    (pss_cons (ps_try_held (X := (cxOf C8.CX0 X.prog X.w X.K X.mg X.base ["work", "caught", "error"] "_law_caught" (defScope sCaught) g cdg X.A X.stack s H C8.E0).nox) (c := .ref PE0) (i := 2) (Wo := fun _ _ _ _ => False)
        (tb := fun W D σ H => ∃ Ech : XK, (∀ cls d σ' H', Ech cls d H' → σ'.length = 3 → W cls d σ' H') ∧ σ[0]? = some (some (.ref f)) ∧ H c' = some (CodeO c' q) ∧ tl Ech H (fun _ H' => D.nx σ H'))
        (ts := fun _ _ _ => tAsg (tVar 2) (gName 1))
        rfl rfl rfl scCa.nd rfl rfl ⟨hgl, by decide, .inl hm⟩ LamX.takes0 (fun W pn xe tk _ => ?_) (fun a cls d pn => pss_one (ps_set (i := 1) scCa.nd rfl (Or.inl rfl) (pv 2))))
    (pss_one (ps_ret (pv 1)))), ?_⟩
  · refine ⟨fun pins s' σ H' D I h' => ?_⟩
    obtain ⟨Ech, hW, h1, h2, h3⟩ := h'
    exact (pss_one (ps_expr (act _ pn xe Ech _ _ (takes_len tk) (fun cls d σ' H' q => hW cls d σ' H' q)))).run pins s' σ H' D I ⟨h1, h2, h3⟩
  · refine ⟨fun cls d H' => ∃ b, PySem.W.exmOne X.K cls (.ref PE0) = some b ∧ (b = true → ∀ a, H' a = none → Q (.ref a) (upd H' a (ExV cls d a))) ∧ (b = false → False), fun cls d σ' H' ⟨b, e1, e2, e3⟩ hl => ⟨b, e1, fun hb a na => ?_, fun hb => e3 hb⟩, rfl, hc, h _ _ (fun _ _ _ q => q) fun v H' q => ⟨_, rfl, q⟩⟩
    match σ', hl with
    | [x, y, z], _ => exact ⟨_, rfl, _, rfl, e2 hb a na⟩
end Pu

namespace Pu
open PySem L2 LamX
/-! ### isinstance of an error that was caught -/
section
variable {X : Cx}
def rIsV (K : PySem.W.Frag) : List V → Hp → VK → Prop := fun xs H Q => ∃ (a D C : Addr) (b : Bool), xs = [.ref a, .ref C] ∧ H a = some (ExV (.ref D) none a) ∧ ExcC K D ∧ PySem.W.kitOne K (.ref D) (.ref C) = some b ∧ Q (.bl b) H
theorem call_isV : CallR X (.builtin "isinstance") (rIsV X.K) := by
  intro pn s σ H xs us Q I r h
  obtain ⟨a, D, C, b, rfl, ha, ex, kit, q⟩ := h
  obtain ⟨u1, u2, rfl, r1, r2⟩ := vals2 r
  cases (show u1 = Value.ref a from r1)
  cases (show u2 = Value.ref C from r2)
  obtain ⟨⟨ob, vs, e, ⟨z1, z2⟩, hd⟩, _, _⟩ := I.hok a _ ha
  have J : PySem.W.InstAt s.heap a ob D none := by
    obtain ⟨c0, d0, da, sl⟩ := ob
    dsimp only at z1 z2 hd
    subst z1 z2 hd
    exact ⟨e, rfl, rfl, trivial⟩
  exact PySem.W.kia_one (PySem.W.handS_kitx_exc ex.hg ex.hk ex.hs ex.hd ex.ha ex.hn ex.ht ex.hm) I.kIn J kit (fun z => nomatch z) fun tk => ⟨.bl b, H, I.tok tk, rfl, q⟩
end
theorem StA.ext {H H' : Hp} {d g c : Addr} {T : Int} (S : StA H d g c T) (s : ExtN H H') : StA H' d g c T := by
  obtain ⟨l, t, h1, h2, h3, h4⟩ := S.dk
  obtain ⟨gs, h5, h6⟩ := S.gr
  obtain ⟨cs, h7, h8⟩ := S.ce
  exact ⟨⟨l, t, s _ _ h1 (fun ps z => by cases z), h2, h3, h4⟩, ⟨gs, s _ _ h5 (fun ps z => by cases z), h6⟩, ⟨cs, s _ _ h7 (fun ps z => by cases z), h8⟩, S.gc⟩
theorem StA.upd {H : Hp} {d g c a : Addr} {T : Int} {o : HO} (S : StA H d g c T) (h1 : d ≠ a) (h2 : g ≠ a) (h3 : c ≠ a) : StA (upd H a o) d g c T := by
  obtain ⟨l, t, e1, e2, e3, e4⟩ := S.dk
  obtain ⟨gs, e5, e6⟩ := S.gr
  obtain ⟨cs, e7, e8⟩ := S.ce
  exact ⟨⟨l, t, by rw [upd_ne h1]; exact e1, e2, e3, e4⟩, ⟨gs, by rw [upd_ne h2]; exact e5, e6⟩, ⟨cs, by rw [upd_ne h3]; exact e7, e8⟩, S.gc⟩
theorem tab_kp {H H' : Hp} {d g c P : Addr} {T : Int} {q : Str} (S : StA H d g c T) (k : Kp d g H H') (t : TabS H P q) : TabS H' P q := by
  obtain ⟨l, t1, e1, _⟩ := S.dk
  obtain ⟨gs, e5, _⟩ := S.gr
  obtain ⟨ps, h1, h2, h3⟩ := t
  refine ⟨ps, k _ _ h1 (ne_of h1 e1 (by intro z; cases z)) (ne_of h1 e5 (by intro z; cases z)), h2, fun pos cv hc => ?_⟩
  obtain ⟨cc, r1, r2⟩ := h3 pos cv hc
  exact ⟨cc, r1, k _ _ r2 (ne_of r2 e1 (by intro z; unfold CodeO at z; cases z)) (ne_of r2 e5 (by intro z; unfold CodeO at z; cases z))⟩

theorem ext_same {H H' : Hp} (s : Same H H') : ExtN H H' := fun b o h _ => s b o h
theorem ext_trans {H H1 H2 : Hp} (a : ExtN H H1) (b : ExtN H1 H2) : ExtN H H2 := fun c o e n => b c o (a c o e n) n
mutual
theorem Rp.ext {N : NP} {H H' : Hp} (k : ExtN H H') : ∀ (d : PyData) {v : V}, Rp N H v d → Rp N H' v d
  | .none, _, h => by cases h; exact .non
  | .bool b, _, h => by cases h; exact .bl b
  | .int i, _, h => by cases h; exact .int i
  | .str x, _, h => by cases h; exact .str x
  | .list ds, _, h => by
    cases h with
    | lst n e r => exact .lst n (k _ _ e fun ps z => by cases z) (Rps.ext k ds r)
  | .tuple ds, _, h => by
    cases h with
    | tup n e r => exact .tup n (k _ _ e fun ps z => by cases z) (Rps.ext k ds r)
  | .dict ds, _, h => by
    cases h with
    | dct n e => exact .dct n (k _ _ e fun ps z => by cases z)
theorem Rps.ext {N : NP} {H H' : Hp} (k : ExtN H H') : ∀ (ds : List PyData) {vs : List V}, Rps N H vs ds → Rps N H' vs ds
  | [], _, h => by cases h; exact .nil
  | d :: ds, _, h => by
    cases h with
    | cons r t => exact .cons (Rp.ext k d r) (Rps.ext k ds t)
end
/-- all stays but the state's two objects, and tables -/
def KpN (d g : Addr) (H H' : Hp) : Prop := ∀ b o, H b = some o → b ≠ d → b ≠ g → (∀ ps : Array Value, o ≠ .tbl ps) → H' b = some o
theorem KpN.kp {d g : Addr} {H H' : Hp} (k : Kp d g H H') : KpN d g H H' := fun b o e x y _ => k b o e x y
theorem KpN.ext {d g : Addr} {H H' : Hp} (k : ExtN H H') : KpN d g H H' := fun b o e _ _ n => k b o e n
theorem KpN.trans {d g : Addr} {H H1 H2 : Hp} (a : KpN d g H H1) (b : KpN d g H1 H2) : KpN d g H H2 := fun c o e x y n => b c o (a c o e x y n) x y n
theorem KpN.refl (d g : Addr) (H : Hp) : KpN d g H H := fun _ _ e _ _ _ => e
mutual
theorem Rp.kn {d g : Addr} {H H' : Hp} (k : KpN d g H H') : ∀ (x : PyData) {v : V}, Rp (fun a => a ≠ d ∧ a ≠ g) H v x → Rp (fun a => a ≠ d ∧ a ≠ g) H' v x
  | .none, _, h => by cases h; exact .non
  | .bool b, _, h => by cases h; exact .bl b
  | .int i, _, h => by cases h; exact .int i
  | .str x, _, h => by cases h; exact .str x
  | .list ds, _, h => by
    cases h with
    | lst n e r => exact .lst n (k _ _ e n.1 n.2 fun ps z => by cases z) (Rps.kn k ds r)
  | .tuple ds, _, h => by
    cases h with
    | tup n e r => exact .tup n (k _ _ e n.1 n.2 fun ps z => by cases z) (Rps.kn k ds r)
  | .dict ds, _, h => by
    cases h with
    | dct n e => exact .dct n (k _ _ e n.1 n.2 fun ps z => by cases z)
theorem Rps.kn {d g : Addr} {H H' : Hp} (k : KpN d g H H') : ∀ (ds : List PyData) {vs : List V}, Rps (fun a => a ≠ d ∧ a ≠ g) H vs ds → Rps (fun a => a ≠ d ∧ a ≠ g) H' vs ds
  | [], _, h => by cases h; exact .nil
  | x :: ds, _, h => by
    cases h with
    | cons r t => exact .cons (Rp.kn k x r) (Rps.kn k ds t)
end
end Pu

namespace Pu
open PySem PySem.Spec PyProof.Rows L2 LamX
/-! ### calls: two keywords; one argument and one keyword -/
theorem kb2 {K : PySem.W.Frag} {fd : FuncData} {p q : Str} (h : ∀ a b : Value, bindArgs fd ⟨[], [(p, a), (q, b)]⟩ = pure [(p, a), (q, b)]) : KBinds K fd [p, q] [p, q] g1 gV1 where
  to := fun s us ws _ hl => by
    match us, ws, hl with
    | [], [a, b], _ => exact .of_eq (h a b)
  rel := fun {vs us zs ws} r q => by
    cases r with
    | nil => exact q
    | cons _ _ => exact .nil
def gP : List Value → List Value → List Value := fun us ws => match us, ws with
  | [a], [b] => [a, b]
  | _, _ => []
def gVP : List V → List V → List V := fun us ws => match us, ws with
  | [a], [b] => [a, b]
  | _, _ => []
theorem kbP {K : PySem.W.Frag} {fd : FuncData} {p q : Str} (h : ∀ a b : Value, bindArgs fd ⟨[a], [(q, b)]⟩ = pure [(p, a), (q, b)]) : KBinds K fd [p, q] [q] gP gVP where
  to := fun s us ws _ hl => by
    match us, ws, hl with
    | [a], [b], _ => exact .of_eq (h a b)
  rel := fun {vs us zs ws} r q => by
    cases r with
    | nil => cases q <;> exact .nil
    | cons x xs =>
      cases xs with
      | nil =>
        cases q with
        | nil => exact .nil
        | cons y ys =>
          cases ys with
          | nil => exact .cons x (.cons y .nil)
          | cons _ _ => exact .nil
      | cons _ _ => cases q <;> exact .nil
structure DefP (P : Program) (w : World) (K : PySem.W.Frag) (mg : Str → Option Value) (base : Heap) (x : Str) (lv : Nat) (p q : Str) (sp : Sp) : Prop where
  ex : ∃ (f : Addr) (fd : FuncData), FnOk P w K mg base CX0 lv f fd [p, q] sp ∧ KBinds K fd [p, q] [q] gP gVP ∧ PySem.W.keepIn K (.ref f) = true ∧ mg x = some (.ref f)
structure DefX (P : Program) (w : World) (K : PySem.W.Frag) (mg : Str → Option Value) (base : Heap) (x : Str) (lv : Nat) (ps : List Str) (sp : Sp) : Prop where
  ex : ∃ (f : Addr) (fd : FuncData), FnOk P w K mg base (L2.CX P w) lv f fd ps sp ∧ Binds K fd ps [] ∧ PySem.W.keepIn K (.ref f) = true ∧ mg x = some (.ref f)
section
variable {K : PySem.W.Frag} {N : NP} {σ : L2.St} {H : Hp} {te : TE} {d e z : PyData} {ds : List PyData}
theorem de_callP {R : List PyData → PyData → Prop} {E : XK} {ta tk : TA} (h1 : DA N ta σ H [d]) (h2 : DA N tk σ H [e]) (r : R [d, e] z) : DE N (tCallK (spP R) gVP E ta tk) σ H z := fun N1 H1 u f Q q =>
  h1 N1 H1 u f _ fun vs H2 s2 r2 => h2 N1 H2 (u.same s2) (f.same s2) _ fun us H3 s3 r3 => by
    obtain ⟨v, rfl, rv⟩ := rps1 r2
    obtain ⟨x, rfl, rx⟩ := rps1 r3
    exact ⟨N1, [d, e], z, (f.same s2).same s3, .cons (rv.same s3) (.cons rx .nil), r, fun v H4 s4 r4 => q v H4 ((s2.trans s3).trans s4) r4⟩
/-! ### loops whose heap may change in tables -/
theorem dk_rng {g : TG} {ta : TA} {tb rest : TS} {D : Ends} {n : Nat} (h : DA N ta σ H [.int (n : Int)]) (f : Fr N H) (hn : n ≤ 1000000)
    (k : ∀ H2, Same H H2 → ∃ Pv : Nat → L2.St → Hp → Prop, Pv 0 σ H2 ∧
      (∀ (j : Nat) σ' H', j < n → Pv j σ' H' → g (.int (j : Int)) σ' H' fun σ2 H4 => tb { nx := Pv (j + 1), rt := D.rt, bk := rest D, ct := Pv (j + 1) } σ2 H4) ∧ (∀ σ' H', Pv n σ' H' → rest D σ' H')) : tSeq (tFor (iRng1 ta) g tb) rest D σ H :=
  h N H (Up.refl N H) f _ fun vs H2 s2 r2 => by
    obtain ⟨v, rfl, r⟩ := rps1 r2
    cases r
    obtain ⟨Pv, p0, ps, pd⟩ := k H2 s2
    refine ⟨_, rfl, by omega, by omega, ?_⟩
    rw [Int.toNat_natCast]
    exact for_range (lo := 0) (D := { D with nx := rest D }) Pv p0 (fun i σ' H' hi p => by rw [Int.zero_add]; exact ps i σ' H' hi p) pd
theorem dk_lst {g : TG} {tb rest : TS} {D : Ends} (h : DE N te σ H (.list ds)) (f : Fr N H)
    (k : ∀ H2 a xs, Same H H2 → N a → H2 a = some (.lst xs) → Rps N H2 xs ds → ∃ Pv : Nat → L2.St → Hp → Prop, Pv 0 σ H2 ∧ (∀ j σ' H', Pv j σ' H' → H' a = some (.lst xs)) ∧
      (∀ (j : Nat) (d : PyData) x σ' H', ds[j]? = some d → xs[j]? = some x → Rp N H2 x d → Pv j σ' H' → g x σ' H' fun σ2 H4 => tb { nx := Pv (j + 1), rt := D.rt, bk := rest D, ct := Pv (j + 1) } σ2 H4) ∧ (∀ σ' H', Pv ds.length σ' H' → rest D σ' H')) : tSeq (tFor (iSeq K te) g tb) rest D σ H :=
  h N H (Up.refl N H) f _ fun v H2 s2 r2 => by
    cases r2 with
    | @lst a xs _ n hh r =>
      obtain ⟨Pv, p0, pl, ps, pd⟩ := k H2 a xs s2 n hh r
      refine ⟨a, rfl, .inl ⟨⟨xs, SqL.of hh⟩, ?_⟩⟩
      refine for_list (K := K) (a := a) (xs := xs) (D := { D with nx := rest D }) Pv p0 (fun i σ' H' _ p => SqL.of (pl i σ' H' p)) (fun i x σ' H' e p => ?_) fun σ' H' p => pd σ' H' (by rw [r.len] at p; exact p)
      obtain ⟨d, hd, rd⟩ := r.get e
      exact ps i d x σ' H' hd e rd p
theorem dk_lst1 {g : TG} {tb : TS} {D : Ends} (h : DE N te σ H (.list ds)) (f : Fr N H)
    (k : ∀ H2 a xs, Same H H2 → N a → H2 a = some (.lst xs) → Rps N H2 xs ds → ∃ Pv : Nat → L2.St → Hp → Prop, Pv 0 σ H2 ∧ (∀ j σ' H', Pv j σ' H' → H' a = some (.lst xs)) ∧
      (∀ (j : Nat) (d : PyData) x σ' H', ds[j]? = some d → xs[j]? = some x → Rp N H2 x d → Pv j σ' H' → g x σ' H' fun σ2 H4 => tb { nx := Pv (j + 1), rt := D.rt, bk := D.nx, ct := Pv (j + 1) } σ2 H4) ∧ (∀ σ' H', Pv ds.length σ' H' → D.nx σ' H')) : tFor (iSeq K te) g tb D σ H :=
  h N H (Up.refl N H) f _ fun v H2 s2 r2 => by
    cases r2 with
    | @lst a xs _ n hh r =>
      obtain ⟨Pv, p0, pl, ps, pd⟩ := k H2 a xs s2 n hh r
      refine ⟨a, rfl, .inl ⟨⟨xs, SqL.of hh⟩, ?_⟩⟩
      refine for_list (K := K) (a := a) (xs := xs) (D := D) Pv p0 (fun i σ' H' _ p => SqL.of (pl i σ' H' p)) (fun i x σ' H' e p => ?_) fun σ' H' p => pd σ' H' (by rw [r.len] at p; exact p)
      obtain ⟨d, hd, rd⟩ := r.get e
      exact ps i d x σ' H' hd e rd p
end
/-! ### there are splits -/
theorem splL_ne {many : Nat} {props : List Int} {lots : List (List Int)} (C : Ch.Charter many props lots) : splL many props ≠ [] := by
  obtain ⟨p, hp⟩ := List.exists_mem_of_ne_nil props C.pne
  have F : Ch.Fn many props (fun _ => p) := ⟨fun o _ _ => hp, fun o _ _ => rfl⟩
  exact List.ne_nil_of_mem ((mem_splL C).mpr (F.split C))
theorem shaped_torn {many : Nat} {props : List Int} {lots : List (List Int)} : SeqAt.shaped (tornD many props lots) = true ∧ PyData.eqv (tornD many props lots) (tornD many props lots) = true := by
  unfold tornD
  cases tornOf many props lots with
  | none => exact ⟨rfl, rfl⟩
  | some row => exact ⟨shaped_tI row, by show PyData.eqv (tI row) (tI row) = true; rw [eqv_tI]; simp⟩
end Pu

namespace Pu
open PySem PySem.Spec PyProof.Rows L2 LamX
section
variable {K : PySem.W.Frag} {d g c : Addr} {N : NP} {σ : L2.St} {H : Hp} {te th : TE} {n m : Nat}
/-- e[:i] of a list, i being drawn -/
theorem se_slD {Rs : List PyData → Prop} {Ri : Int → Prop} (h : SE d g c n N te σ H (fun z => ∃ ds, z = .list ds ∧ Rs ds)) (hh : SE d g c m N th σ H (fun z => ∃ i : Int, z = .int i ∧ Ri i)) :
    SE d g c (n + m) N (tSl (rSlL K) te tNoPart (tPart th)) σ H (fun z => ∃ ds i, z = .list (cutD ds none (some i)) ∧ Rs ds ∧ Ri i) := fun N1 H1 T a f s S b Q q =>
  h N1 H1 T a f s S (by omega) _ fun v x H2 hx k2 S2 r2 => by
    obtain ⟨ds, rfl, hds⟩ := hx
    refine hh N1 H2 (T + n) (a.trans (Up.kp s k2)) (f.kp k2 S2) s S2 (by omega) _ fun u y H3 hy k3 S3 r3 => ?_
    obtain ⟨i, rfl, hi⟩ := hy
    cases r3
    have r4 := r2.up (Up.kp s k3)
    have f4 := (f.kp k2 S2).kp k3 S3
    cases r4 with
    | lst nn hd q4 => exact ⟨i, rfl, _, _, rfl, SqL.of hd, fun p hp => q _ _ _ ⟨ds, i, rfl, hds, hi⟩ ((k2.trans k3).trans (Kp.of (same_upd hp))) ((S3.new hp).mono (by omega)) (.lst (f4 p hp) upd_same ((q4.cut none (some i)).same (same_upd hp)))⟩
/-- one of several that are drawn -/
theorem se_pickE {E : XK} {i : Nat} {R : PyData → Prop} (hσ : σ[i]? = some (some (.ref d))) (h : SE d g c n N te σ H (fun z => ∃ ds, z = .list ds ∧ ds ≠ [] ∧ ds.length ≤ 1000 ∧ ∀ e ∈ ds, R e)) :
    SE d g c (n + 1) N (tCall (spPick K) [] E (tCons (tVar i) (tCons te tNil))) σ H R := fun N1 H1 T a f s S b Q q =>
  ⟨_, hσ, h N1 H1 T a f s S (by omega) _ fun v x H2 hx k2 S2 r2 => by
    obtain ⟨ds, rfl, ne, l, hR⟩ := hx
    cases r2 with
    | @lst p xs _ np hh r =>
      have e1 := r.len
      refine ⟨d, g, c, p, T + n, xs, rfl, S2, by omega, .inl (SqL.of hh), (s p np).1, (s p np).2, fun z => ?_, by omega, fun x H3 hm k3 S3 => ?_⟩
      · subst z
        exact ne (List.eq_nil_of_length_eq_zero (by rw [← e1]; rfl))
      · obtain ⟨z, hz, rz⟩ := r.mem hm
        exact q _ z H3 (hR z hz) (k2.trans k3) (S3.mono (by omega)) (rz.up (Up.kp s k3))⟩
end
theorem due_cnt {many r : Nat} {props : List Int} (h1 : 1 ≤ r) (h2 : r ≤ many) (h3 : many ≤ 6) (C : Ch2 many props (rowsI many r)) :
    (decide (((props.length : Nat) : Int) = 1) || (decide (((props.length : Nat) : Int) = 2) && decide (2 * (r : Int) = (many : Int) + 1))) = (tornOf many props (rowsI many r)).isNone := by
  rw [Bool.eq_iff_iff, torn_iff C.c, Ch.sure_cnt C.c (cnt_K h1 h2 h3) h1 h2, Bool.or_eq_true, Bool.and_eq_true, decide_eq_true_eq, decide_eq_true_eq, decide_eq_true_eq]
  constructor
  · rintro (h | ⟨h, e⟩)
    · exact .inl (by omega)
    · exact .inr ⟨by omega, by omega⟩
  · rintro (h | ⟨h, e⟩)
    · exact .inl (by omega)
    · exact .inr ⟨by omega, by omega⟩
theorem de_lenS {K : PySem.W.Frag} {N : NP} {σ : L2.St} {H : Hp} {i : Nat} {a : Addr} {xs : List V} (hσ : σ[i]? = some (some (.ref a))) (h : ∀ N1 H1, Up N H N1 H1 → SqL K H1 a xs) : DE N (tCB (rLenK K) (tCons (tVar i) tNil)) σ H (.int (xs.length : Nat)) := fun N1 H1 u f Q q =>
  ⟨_, hσ, a, xs, rfl, .inl (h N1 H1 u), q _ H1 (Same.refl H1) (.int _)⟩
def qLam : Str := (PyProof.Rows.envOfC "law" (defScope (top 54)) 0 0 .none).qual ++ "<lambda>"
def spLaw (K : PySem.W.Frag) (Pt : Addr) : Sp := fun vs H Q _ => ∃ (a : Addr) (ns : List Int), vs = [.ref a] ∧ SqL K H a (ns.map V.int) ∧ ns.length ≤ 63 ∧ TabS H Pt qLam ∧ ∀ H', Q (.bl true) H'
end Pu

namespace Pu
open PySem PySem.Spec PyProof.Rows L2 LamX
abbrev Nd (d g : Addr) : NP := fun a => a ≠ d ∧ a ≠ g
theorem frN {d g c : Addr} {H : Hp} {T : Int} (S : StA H d g c T) : Fr (Nd d g) H := fun x hx => by
  obtain ⟨l, t, hd', _⟩ := S.dk
  obtain ⟨gs, hg', _⟩ := S.gr
  exact ⟨fun e => (by rw [e, hd'] at hx; cases hx), fun e => (by rw [e, hg'] at hx; cases hx)⟩
theorem if_and {N : NP} {σ : L2.St} {H : Hp} {c1 c2 : TT} {t u : TS} {D : Ends} (h1 : DT N c1 σ H true) (f : Fr N H) (k : ∀ H1, Same H H1 → tIfS c2 t u D σ H1) : tIfS (tAnd c1 c2) t u D σ H := h1.run f fun H1 s => k H1 s
section
variable {P : Program} {w : World} {K : PySem.W.Frag} {mg : Str → Option Value} {base : Heap}
abbrev s_law : PySem.Stmt := top 54
abbrev nL : List Str := ["script", "state", "most", "lap", "charter", "splits_here", "turn", "split", "bent", "any_heads", "owner", "value", "due", "many", "heads", "least", "found"]
theorem sc_law : FnScope nL ["script"] (defScope s_law) := ⟨rfl, rfl, rfl, by decide +kernel, rfl, by decide +kernel, by decide +kernel⟩
theorem ok_law {f C0 PE0 c0 Pt fC : Addr} {od an odC anC : Option Addr} {oc dV kV doc pm ct ocC dVC kVC docC pmC cdC ctC : Value} {osl oslC : Array (Option Value)}
    (lk : K.lookup f = some ⟨oc, od, .func (PySem.W.fnOf "law" "law" (defArgs s_law) (defBody s_law) (defScope s_law) dV kV doc pm an (.ref c0) ct), osl⟩) (hcd : PySem.W.codeIn K (.ref c0) "law" = true) (TB0 : TabB base mg c0 Pt)
    (lC : K.lookup fC = some ⟨ocC, odC, .func (PySem.W.fnOf "_law_caught" "_law_caught" (defArgs sCaught) (defBody sCaught) (defScope sCaught) dVC kVC docC pmC anC cdC ctC), oslC⟩) (hC : PySem.W.codeIn K cdC "_law_caught" = true) (bC : Binds K (PySem.W.fnOf "_law_caught" "_law_caught" (defArgs sCaught) (defBody sCaught) (defScope sCaught) dVC kVC docC pmC anC cdC ctC) ["work"] [])
    (kC : PySem.W.keepIn K (.ref fC) = true) (mC : mg "_law_caught" = some (.ref fC))
    (eR : Er K mg "BadSplit" C0) (xc : ExcC K C0) (kit : PySem.W.kitOne K (.ref C0) (.ref C0) = some true) (pe : mg "PurseError" = some (.ref PE0)) (exm : PySem.W.exmOne K (.ref C0) (.ref PE0) = some true)
    (T : Bi mg) (D_L_begun : Def P w K mg base "_law_begun" 1 ["script"] (spBegun K)) (D_L_draw : Def P w K mg base "_law_draw" 2 ["state", "size_here"] spDraw) (D_L_pick : Def P w K mg base "_law_pick" 3 ["state", "several"] (spPick K)) (D_L_mixed : Def P w K mg base "_law_mixed" 3 ["state", "several"] (spSt 6 D_mix R_mix))
    (D_L_sh_any : Def P w K mg base "_law_sh_any" 6 ["state", "most"] (spSt 30 D_char R_char)) (D_L_sh_splits : Def P w K mg base "_law_sh_splits" 2 ["charter"] (spP R_splL)) (D_L_sh_heads : Def P w K mg base "_law_sh_heads" 3 ["charter", "split"] (spP R_headsL)) (D_L_sh_torn : Def P w K mg base "_law_sh_torn" 4 ["charter", "splits_here"] (spP R_tornL))
    (D_L_is_truth : Def P w K mg base "_law_is_truth" 1 ["found", "due"] (spP R_truth)) (D_L_k85_is_split : Def P w K mg base "_law_k85_is_split" 2 ["charter", "value"] (spP R_isspl)) (D_L_pu_bent : Def P w K mg base "_law_pu_bent" 6 ["state", "item"] (spSt 4 D_bent R_bent))
    (D_torn_split : Def P w K mg base "torn_split" 7 ["charter"] (spP R_torn)) (DK_torn_split : DefK P w K mg base "torn_split" 7 ["charter"] (spP R_torn)) (D_counting_charter : Def P w K mg base "counting_charter" 5 ["many", "proposers", "least"] (spP R_count))
    (D_is_split : Def P w K mg base "is_split" 7 ["charter", "value"] (spP R_isspl)) (DK_is_split : DefK P w K mg base "is_split" 7 ["charter", "value"] (spP R_isspl)) (D_signed_heads : DefP P w K mg base "signed_heads" 8 "charter" "split" (spP R_sgn)) (DX_signed_heads : DefX P w K mg base "signed_heads" 8 ["charter", "split"] (spSgX C0)) :
    FnOk P w K mg base CX0 11 f (PySem.W.fnOf "law" "law" (defArgs s_law) (defBody s_law) (defScope s_law) dV kV doc pm an (.ref c0) ct) ["script"] (spLaw K Pt) := by
  obtain ⟨f_torn_split, fd_torn_split, G_torn_split, b_torn_split, k_torn_split, m_torn_split⟩ := D_torn_split.ex
  obtain ⟨f_counting_charter, fd_counting_charter, G_counting_charter, b_counting_charter, k_counting_charter, m_counting_charter⟩ := D_counting_charter.ex
  obtain ⟨f_L_pick, fd_L_pick, G_L_pick, b_L_pick, k_L_pick, m_L_pick⟩ := D_L_pick.ex
  obtain ⟨f_L_draw, fd_L_draw, G_L_draw, b_L_draw, k_L_draw, m_L_draw⟩ := D_L_draw.ex
  obtain ⟨f_L_mixed, fd_L_mixed, G_L_mixed, b_L_mixed, k_L_mixed, m_L_mixed⟩ := D_L_mixed.ex
  obtain ⟨f_L_is_truth, fd_L_is_truth, G_L_is_truth, b_L_is_truth, k_L_is_truth, m_L_is_truth⟩ := D_L_is_truth.ex
  obtain ⟨f_is_split, fd_is_split, G_is_split, b_is_split, k_is_split, m_is_split⟩ := D_is_split.ex
  obtain ⟨f_L_k85_is_split, fd_L_k85_is_split, G_L_k85_is_split, b_L_k85_is_split, k_L_k85_is_split, m_L_k85_is_split⟩ := D_L_k85_is_split.ex
  obtain ⟨f_L_pu_bent, fd_L_pu_bent, G_L_pu_bent, b_L_pu_bent, k_L_pu_bent, m_L_pu_bent⟩ := D_L_pu_bent.ex
  obtain ⟨f_signed_heads, fd_signed_heads, G_signed_heads, b_signed_heads, k_signed_heads, m_signed_heads⟩ := D_signed_heads.ex
  obtain ⟨f_L_sh_heads, fd_L_sh_heads, G_L_sh_heads, b_L_sh_heads, k_L_sh_heads, m_L_sh_heads⟩ := D_L_sh_heads.ex
  obtain ⟨f_L_sh_torn, fd_L_sh_torn, G_L_sh_torn, b_L_sh_torn, k_L_sh_torn, m_L_sh_torn⟩ := D_L_sh_torn.ex
  obtain ⟨f_L_sh_splits, fd_L_sh_splits, G_L_sh_splits, b_L_sh_splits, k_L_sh_splits, m_L_sh_splits⟩ := D_L_sh_splits.ex
  obtain ⟨f_L_sh_any, fd_L_sh_any, G_L_sh_any, b_L_sh_any, k_L_sh_any, m_L_sh_any⟩ := D_L_sh_any.ex
  obtain ⟨f_L_begun, fd_L_begun, G_L_begun, b_L_begun, k_L_begun, m_L_begun⟩ := D_L_begun.ex
  obtain ⟨f_tk, fd_tk, G_tk, b_tk, k_tk, m_tk⟩ := DK_torn_split.ex
  obtain ⟨f_ik, fd_ik, G_ik, b_ik, k_ik, m_ik⟩ := DK_is_split.ex
  obtain ⟨f_sx, fd_sx, G_sx, b_sx, k_sx, m_sx⟩ := DX_signed_heads.ex
  refine fn_of lk hcd sc_law (fun vs H Q E ⟨a, ns, e, _⟩ => by rw [e]; rfl) (fun A outer s H vs Q E hr h => ?_)
  obtain ⟨a, ns, rfl, hS, hn, hTab, k⟩ := h
  suffices hz : ∃ t, PSs (cxOf CX0 P w K mg base nL "law" (defScope s_law) f (.ref c0) A outer s H E).nox (defBody s_law) t ∧ t { nx := fun _ H' => Q .non H', rt := Q } (L2.start nL [.ref a]) H by
    obtain ⟨t, h, q⟩ := hz
    exact ⟨t, h.nox, q⟩
  refine ⟨_, pss_cons (ps_set (i := 1) sc_law.nd rfl (Or.inr rfl) (pe_call G_L_begun (hr.mono (by decide)) rfl m_L_begun k_L_begun b_L_begun .nil pass0 (pa_cons (pv 0) pa_nil)))
      (pss_cons (ps_set (i := 2) sc_law.nd rfl (Or.inl rfl) (pe_call G_L_pick (hr.mono (by decide)) rfl m_L_pick k_L_pick b_L_pick .nil pass0 (pa_cons (pv 1) (pa_cons (pe_lst (pa_cons pe_int (pa_cons pe_int (pa_cons pe_int pa_nil)))) pa_nil))))
      (pss_cons (ps_for PassesOwn.never rfl (pi_range1 rfl T.range (pa_cons (pe_op (op_addK K) pe_int (pe_callB (call_min2 rfl) (by rfl) T.min (by decide +kernel) (pa_cons (pe_callB (call_lenK K) (by rfl) T.len (by decide +kernel) (pa_cons (pv 0) pa_nil)) (pa_cons pe_int pa_nil)))) pa_nil)) (pg_name (i := 3) sc_law.nd rfl (Or.inl rfl)) (pss_cons (ps_set (i := 4) sc_law.nd rfl (Or.inr rfl) (pe_call G_L_sh_any (hr.mono (by decide)) rfl m_L_sh_any k_L_sh_any b_L_sh_any .nil pass0 (pa_cons (pv 1) (pa_cons (pe_ifExp (pt_cmpR (op_eqK K hr.units) (pv 3) pe_int (nomark _)) (pv 2) pe_int) pa_nil))))
      (pss_cons (ps_set (i := 5) sc_law.nd rfl (Or.inl rfl) (pe_call G_L_sh_splits (hr.mono (by decide)) rfl m_L_sh_splits k_L_sh_splits b_L_sh_splits .nil pass0 (pa_cons (pv 4) pa_nil)))
      (pss_cons (ps_if (pt_cmpR (op_neK K hr.units) (pe_callKw G_tk (hr.mono (by decide)) rfl m_tk k_tk b_tk pass0 (pk_cons (pv 4) pk_nil)) (pe_call G_L_sh_torn (hr.mono (by decide)) rfl m_L_sh_torn k_L_sh_torn b_L_sh_torn .nil pass0 (pa_cons (pv 4) (pa_cons (pv 5) pa_nil))) (nomark _)) (pss_one (ps_ret (pe_bl))) pss_nil)
      (pss_cons (ps_for PassesOwn.never rfl (pi_range1 rfl T.range (pa_cons pe_int pa_nil)) (pg_name (i := 6) sc_law.nd rfl (Or.inl rfl)) (pss_cons (ps_set (i := 7) sc_law.nd rfl (Or.inl rfl) (pe_call G_L_pick (hr.mono (by decide)) rfl m_L_pick k_L_pick b_L_pick .nil pass0 (pa_cons (pv 1) (pa_cons (pv 5) pa_nil))))
      (pss_cons (ps_if (pt_not (pt_truK K (pe_call G_L_is_truth (hr.mono (by decide)) rfl m_L_is_truth k_L_is_truth b_L_is_truth .nil pass0 (pa_cons (pe_callKw G_ik (hr.mono (by decide)) rfl m_ik k_ik b_ik pass0 (pk_cons (pv 4) (pk_cons (pv 7) pk_nil))) (pa_cons pe_bl pa_nil))) (fun _ => rfl))) (pss_one (ps_ret (pe_bl))) pss_nil)
      (pss_cons (ps_if (pt_cmpR (op_neK K hr.units) (L2.pe_callK G_signed_heads (hr.mono (by decide)) rfl m_signed_heads k_signed_heads b_signed_heads pass0 (pa_cons (pv 4) pa_nil) (pk_cons (pv 7) pk_nil)) (pe_call G_L_sh_heads (hr.mono (by decide)) rfl m_L_sh_heads k_L_sh_heads b_L_sh_heads .nil pass0 (pa_cons (pv 4) (pa_cons (pv 7) pa_nil))) (nomark _)) (pss_one (ps_ret (pe_bl))) pss_nil)
      (pss_cons (ps_set (i := 8) sc_law.nd rfl (Or.inl rfl) (pe_call G_L_pu_bent (hr.mono (by decide)) rfl m_L_pu_bent k_L_pu_bent b_L_pu_bent .nil pass0 (pa_cons (pv 1) (pa_cons (pv 7) pa_nil))))
      (pss_cons (ps_set (i := 9) sc_law.nd rfl (Or.inl rfl) (pe_callTy (call_tupK K) (by rfl) T.tuple (by decide +kernel) (pa_cons (pe_lc (own := [("owner", 10)]) rfl sc_law.nd (pi_range1 rfl T.range (pa_cons (pe_ix (ix_K K) (pv 4) pe_int (fun _ _ => rfl)) pa_nil)) (blkOk_by (own := [("owner", 10)]) (N := ["script", "state", "most", "lap", "charter", "splits_here", "turn", "split", "bent", "any_heads", "owner", "value", "due", "many", "heads", "least", "found"]) (sc := defScope s_law) (by decide +kernel)) (fun _ _ _ _ _ => pg_name (i := 10) sc_law.nd rfl (Or.inl rfl)) (fun _ _ _ _ _ => pts_nil) (fun _ _ _ _ _ => pe_call G_L_draw (hr.mono (by decide)) rfl m_L_draw k_L_draw b_L_draw .nil pass0 (pa_cons (pv 1) (pa_cons (pe_ix (ix_K K) (pv 4) pe_int (fun _ _ => rfl)) pa_nil)))) pa_nil)))
      (pss_one (ps_for PassesOwn.never rfl (pi_seqK K (pe_lst (pa_cons (pv 8) (pa_cons (pv 9) (pa_cons (pe_revTK K (pv 7)) (pa_cons (pe_callTy (call_listK K) (by rfl) T.list (by decide +kernel) (pa_cons (pv 7) pa_nil)) (pa_cons (pe_op (op_addK K) (pv 7) (pe_slice (sl_tK K) (pv 7) po_none (po_some pe_int))) (pa_cons (pe_slice (sl_tK K) (pv 7) po_none (po_some (pe_un un_neg pe_int))) (pa_cons pe_non pa_nil))))))))) (pg_name (i := 11) sc_law.nd rfl (Or.inr rfl)) (pss_cons (ps_set (i := 12) sc_law.nd rfl (Or.inl rfl) (pe_call G_L_k85_is_split (hr.mono (by decide)) rfl m_L_k85_is_split k_L_k85_is_split b_L_k85_is_split .nil pass0 (pa_cons (pv 4) (pa_cons (pv 11) pa_nil))))
      (pss_cons (ps_if (pt_not (pt_truK K (pe_call G_L_is_truth (hr.mono (by decide)) rfl m_L_is_truth k_L_is_truth b_L_is_truth .nil pass0 (pa_cons (pe_call G_is_split (hr.mono (by decide)) rfl m_is_split k_is_split b_is_split .nil pass0 (pa_cons (pv 4) (pa_cons (pv 11) pa_nil))) (pa_cons (pv 12) pa_nil))) (fun _ => rfl))) (pss_one (ps_ret (pe_bl))) pss_nil)
      (pss_one (ps_if (PW.pt (pw_and (pt_not (pt_truK K (pv 12) (fun _ => rfl))) (pw_and1 (pt_not (pt_val (pe_callB call_isV (by rfl) T.isinstance (by decide +kernel) (pa_cons (pe_lamcall (T := [(Pt, qLam)]) (TT := TTc K PE0) (a := "work") (Ng := ["work", "caught", "error"]) rfl mC kC lC hC bC scCa rfl (Or.inl rfl) (caught_gives pe) TB0 rfl List.mem_cons_self (fun p hp _ => by rw [List.mem_singleton.mp hp]; rfl) hr (lamS_by (by show lamSB (defScope s_law) _ = true; decide +kernel)) rfl (fun _ _ _ _ _ => rfl)
                (fun A outer s H E f c' hr2 => pe_call G_sx hr2 rfl m_sx k_sx b_sx .nil (passes_call (takes_of rfl rfl rfl rfl) (fun _ _ _ _ h => h)) (pa_cons (pv 4) (pa_cons (pv 11) pa_nil))))
              (pa_cons (pe_glob (v := .ref C0) rfl eR.g rfl) pa_nil)))))))) (pss_one (ps_ret (pe_bl))) pss_nil))))))))))))
      (pss_cons (ps_set (i := 13) sc_law.nd rfl (Or.inl rfl) (pe_op (op_addK K) pe_int (pe_call G_L_draw (hr.mono (by decide)) rfl m_L_draw k_L_draw b_L_draw .nil pass0 (pa_cons (pv 1) (pa_cons (pe_ifExp (pt_cmpR (op_eqK K hr.units) (pv 3) pe_int (nomark _)) pe_int pe_int) pa_nil)))))
      (pss_cons (ps_set (i := 14) sc_law.nd rfl (Or.inl rfl) (pe_callTy (call_tupK K) (by rfl) T.tuple (by decide +kernel) (pa_cons (pe_callB (cr_sortIK K) (by rfl) T.sorted (by decide +kernel) (pa_cons (pe_slice (sl_lK K) (pe_call G_L_mixed (hr.mono (by decide)) rfl m_L_mixed k_L_mixed b_L_mixed .nil pass0 (pa_cons (pv 1) (pa_cons (pe_listRg rfl (by rfl) T.list (prg_1 (by rfl) T.range (pv 13))) pa_nil))) po_none (po_some (pe_call G_L_pick (hr.mono (by decide)) rfl m_L_pick k_L_pick b_L_pick .nil pass0 (pa_cons (pv 1) (pa_cons (pe_lst (pa_cons pe_int (pa_cons pe_int (pa_cons pe_int (pa_cons pe_int (pa_cons (pv 13) pa_nil)))))) pa_nil))))) pa_nil)) pa_nil)))
      (pss_cons (ps_set (i := 15) sc_law.nd rfl (Or.inl rfl) (pe_call G_L_pick (hr.mono (by decide)) rfl m_L_pick k_L_pick b_L_pick .nil pass0 (pa_cons (pv 1) (pa_cons (pe_lst (pa_cons (pe_op op_fdiv (pe_op (op_addK K) (pv 13) pe_int) pe_int) (pa_cons (pe_op (op_addK K) pe_int (pe_call G_L_draw (hr.mono (by decide)) rfl m_L_draw k_L_draw b_L_draw .nil pass0 (pa_cons (pv 1) (pa_cons (pv 13) pa_nil)))) pa_nil))) pa_nil))))
      (pss_cons (ps_set (i := 16) sc_law.nd rfl (Or.inl rfl) (pe_call G_torn_split (hr.mono (by decide)) rfl m_torn_split k_torn_split b_torn_split .nil pass0 (pa_cons (pe_call G_counting_charter (hr.mono (by decide)) rfl m_counting_charter k_counting_charter b_counting_charter .nil pass0 (pa_cons (pv 13) (pa_cons (pv 14) (pa_cons (pv 15) pa_nil)))) pa_nil)))
      (pss_cons (ps_set (i := 12) sc_law.nd rfl (Or.inl rfl) (pe_or (pe_cmpR (op_eqK K hr.units) (pe_callB (call_lenK K) (by rfl) T.len (by decide +kernel) (pa_cons (pv 14) pa_nil)) pe_int (nomark _)) (pe_one (pe_and (pe_cmpR (op_eqK K hr.units) (pe_callB (call_lenK K) (by rfl) T.len (by decide +kernel) (pa_cons (pv 14) pa_nil)) pe_int (nomark _)) (pe_one (pe_cmpR (op_eqK K hr.units) (pe_op op_mul pe_int (pv 15)) (pe_op (op_addK K) (pv 13) pe_int) (nomark _)))))))
      (pss_one (ps_if (pt_cmpR (op_neK K hr.units) (pv 12) (pe_cmp (pc_isN (pv 16))) (nomark _)) (pss_one (ps_ret (pe_bl))) pss_nil))))))))))))
      (pss_one (ps_ret (pe_bl))))), ?_⟩
  refine ⟨_, rfl, a, ns, rfl, hS, by omega, fun d g c H1 s1 hd hg hc S => ?_⟩
  have t1 := hTab.ext s1
  have sb : Sub d g (Nd d g) := fun x h => h
  refine sq_set (N := Nd d g) (n := 1) (se_pick (N := Nd d g) rfl (de_lst (da_cons de_int (da_cons de_int (da_cons de_int da_nil)))) rfl (by simp) (by simp)) (frN S) sb S (by decide) fun v2 z H2 hz k2 S2 f2 r2 => ?_
  have hm : ∃ mi : Int, z = .int mi ∧ 3 ≤ mi ∧ mi ≤ 6 := by
    simp only [List.mem_cons, List.not_mem_nil, or_false] at hz
    rcases hz with rfl | rfl | rfl
    · exact ⟨_, rfl, by decide, by decide⟩
    · exact ⟨_, rfl, by decide, by decide⟩
    · exact ⟨_, rfl, by decide, by decide⟩
  obtain ⟨mi, rfl, mi3, mi6⟩ := hm
  cases r2
  have t2 := tab_kp S k2 t1
  have hS2 : ∀ N1 H3, Up (Nd d g) H2 N1 H3 → SqL K H3 a (ns.map V.int) := fun N1 H3 u => by
    rcases hS with hS | hS
    · left
      have na : H a ≠ none := by
        rcases hS with h | ⟨o, h⟩ <;> rw [h] <;> simp
      have ad : a ≠ d := fun e => na (e ▸ hd)
      have ag : a ≠ g := fun e => na (e ▸ hg)
      rcases hS with h | ⟨o, h⟩
      · exact .inl (u _ _ ⟨ad, ag⟩ (k2 _ _ (s1 _ _ h) ad ag)).2
      · exact .inr ⟨o, (u _ _ ⟨ad, ag⟩ (k2 _ _ (s1 _ _ h) ad ag)).2⟩
    · exact .inr hS
  obtain ⟨L, hL, L4⟩ : ∃ L : Nat, (1 + (if (3 : Int) < ((ns.map V.int).length : Int) then 3 else ((ns.map V.int).length : Int))) = (L : Int) ∧ L ≤ 4 := ⟨(1 + (if (3 : Int) < ((ns.map V.int).length : Int) then 3 else ((ns.map V.int).length : Int))).toNat, by split <;> omega, by split <;> omega⟩
  refine dk_rng (N := Nd d g) (n := L) (da_cons ((de_op de_int (de_cb (da_cons (de_lenS rfl hS2) (da_cons de_int da_nil)) rc_min2) r2_addI).is (by rw [hL])) da_nil) f2 (by omega) fun H3 s3 => ?_
  refine ⟨fun i σ' H' => (∃ o3 o4 o5 o6 o7 o8 o9 o10 o11 o12 o13 o14 o15 o16, σ' = [some (.ref a), some (.ref d), some (.int mi), o3, o4, o5, o6, o7, o8, o9, o10, o11, o12, o13, o14, o15, o16]) ∧ StA H' d g c (1 + 200 * (i : Int)) ∧ TabS H' Pt qLam,
    ⟨⟨_, _, _, _, _, _, _, _, _, _, _, _, _, _, rfl⟩, (S2.same s3).mono (by simp), t2.ext s3⟩, ?_, fun σ' H' ⟨⟨_, _, _, _, _, _, _, _, _, _, _, _, _, _, _⟩, _, _⟩ => k H'⟩
  rintro i σ' H4 hi ⟨⟨o3, o4, o5, o6, o7, o8, o9, o10, o11, o12, o13, o14, o15, o16, rfl⟩, S4, t4⟩
  have tbI : ∀ {T' : Int}, T' ≤ 1 + 200 * (i : Int) + 200 → T' ≤ TB := fun {T'} h => by
    show T' ≤ (1000000000000 : Int)
    omega
  -- charter
  refine sq_set (n := 30) (se_call (N := Nd d g) (ds := [.int (if (i : Int) = 0 then mi else 5)]) rfl (da_cons (de_if (b := decide ((i : Int) = 0)) (dt_test (de_op (de_var rfl (.int _)) de_int r2_eqI)) (fun hb => (de_var rfl (.int mi)).is ?_) fun hb => de_int.is ?_) da_nil) ⟨_, rfl, by split <;> omega, by split <;> omega⟩) (frN S4) sb S4 (tbI (by omega)) fun v4 z H5 hz k5 S5 f5 r4 => ?_
  · rw [if_pos (of_decide_eq_true hb)]
  · rw [if_neg (of_decide_eq_false hb)]
  obtain ⟨many, props, lots, rfl, C⟩ := hz
  have C1 := C.c
  have m1 := C1.m1
  have m6 := C1.m6
  have t5 := tab_kp S4 k5 t4
  have sll := splL_len (props := props) m6
  -- splits_here
  refine dq_set (d := lT (splL many props)) (de_call (da_cons (de_var rfl r4) da_nil) ⟨many, props, lots, rfl, C1, rfl⟩) f5 fun v5 H6 s6 r5 => ?_
  have f6 := f5.same s6
  have r46 := r4.same s6
  -- torn_split
  refine dq_iff ((dt_test (de_op (de_callK (d := tornD many props lots) (da_cons (de_var rfl r46) da_nil) ⟨many, props, lots, rfl, C, rfl⟩) (de_call (d := tornD many props lots) (da_cons (de_var rfl r46) (da_cons (de_var rfl r5) da_nil)) ⟨many, props, lots, rfl, C, rfl⟩) (r2_neD shaped_torn.1 shaped_torn.1))).is (by rw [shaped_torn.2]; rfl)) f6 fun H7 s7 => ?_
  have f7 := f6.same s7
  have s57 := s6.trans s7
  have S7 := S5.same s57
  have t7 := t5.ext s57
  -- four splits
  refine dk_rng (N := Nd d g) (n := 4) (da_cons (de_int.is rfl) da_nil) f7 (by decide) fun H8 s8 => ?_
  have r48 := (r46.same s7).same s8
  have r58 := (r5.same s7).same s8
  refine ⟨fun j σ' H' => (∃ o6 o7 o8 o9 o10 o11 o12, σ' = [some (.ref a), some (.ref d), some (.int mi), some (.int (i : Int)), some v4, some v5, o6, o7, o8, o9, o10, o11, o12, o13, o14, o15, o16]) ∧ KpN d g H8 H' ∧ StA H' d g c (31 + 200 * (i : Int) + 20 * (j : Int)) ∧ TabS H' Pt qLam,
    ⟨⟨_, _, _, _, _, _, _, rfl⟩, KpN.refl d g H8, (S7.same s8).mono (by simp; omega), t7.ext s8⟩, ?_, ?_⟩
  · rintro j σ' H9 hj ⟨⟨o6, o7, o8, o9, o10, o11, o12, rfl⟩, kn9, S9, t9⟩
    have r49 := Rp.kn kn9 _ r48
    have r59 := Rp.kn kn9 _ r58
    -- split
    refine sq_set (n := 1) (se_pick (N := Nd d g) rfl (de_var rfl r59) rfl (by have := splL_ne C1; simpa using this) (by rw [List.length_map]; omega)) (frN S9) sb S9 (tbI (by omega)) fun v7 z H10 hz k10 S10 f10 r7 => ?_
    obtain ⟨row, hrow, rfl⟩ := List.mem_map.mp hz
    have Sp := (mem_splL C1).mp hrow
    have rl := Sp.len
    have rne : row ≠ [] := fun e => by rw [e] at rl; simp at rl; omega
    have t10 := tab_kp S9 k10 t9
    have r410 := r49.up (Up.kp sb k10)
    have szr : szD (tI row) := fun ds e => by cases e; rw [List.length_map]; omega
    -- is_split
    refine dq_iff (dt_not (a := true) (dt_truB ((de_call (da_cons (de_callK (d := .bool true) (da_cons (de_var rfl r410) (da_cons (de_var rfl r7) da_nil)) ⟨many, props, lots, tI row, rfl, C, szr, by rw [splB_iff.mpr Sp]⟩) (da_cons de_bl da_nil)) ⟨true, true, rfl, rfl⟩).is rfl))) f10 fun H11 s11 => ?_
    have f11 := f10.same s11
    -- signed_heads
    refine dq_iff ((dt_test (de_op (de_callP (z := tI (Ch.heads props lots row)) (da_cons (de_var rfl (r410.same s11)) da_nil) (da_cons (de_var rfl (r7.same s11)) da_nil) ⟨many, props, lots, row, rfl, C, Sp, rfl⟩) (de_call (d := tI (Ch.heads props lots row)) (da_cons (de_var rfl (r410.same s11)) (da_cons (de_var rfl (r7.same s11)) da_nil)) ⟨many, props, lots, row, rfl, C, Sp, rfl⟩) r2_neT)).is (by simp)) f11 fun H12 s12 => ?_
    have f12 := f11.same s12
    have s1012 := s11.trans s12
    have S12 := S10.same s1012
    have t12 := t10.ext s1012
    -- bent
    refine sq_set (n := 4) (se_call (N := Nd d g) rfl (da_cons (de_var rfl (r7.same s1012)) da_nil) ⟨row, rfl, rne, by omega⟩) f12 sb S12 (tbI (by omega)) fun v8 zb H13 hzb k13 S13 f13 r8 => ?_
    have t13 := tab_kp S12 k13 t12
    have r413 := (r410.same s1012).up (Up.kp sb k13)
    have r713 := (r7.same s1012).up (Up.kp sb k13)
    -- any_heads
    refine sq_set (n := 0 + 6 * 1 + 0) (R := fun z => ∃ ws : List Int, z = tI ws ∧ ws.length ≤ 6) (se_cb (sa_cons (se_lc (n := 0) (m := 1) (L := 6) (RI := fun ds => ds = (Ch.rng many).map PyData.int) (R := fun e => ∃ r : Int, e = .int r ∧ 0 ≤ r ∧ r < many) (SI.of (ds := (Ch.rng many).map PyData.int) ?_ rfl) (fun ds e => by rw [e, List.length_map, Ch.rng_len]; exact m6) (by decide)
      fun ds hds b hb x' N' H' u rx => se_draw (m := many) rfl (de_op (de_var (i := 4) rfl (r413.up u)) de_int (r2_ix (K := K) (i := 0) (z := .int (many : Int)) rfl)) (by omega)) sa_nil) ?_) f13 sb S13 (tbI (by omega)) fun v9 za H14 hza k14 S14 f14 r9 => ?_
    · have := di_rng (N := Nd d g) (H := H13) (i := (many : Int)) (σ := [some (.ref a), some (.ref d), some (.int mi), some (.int (i : Int)), some v4, some v5, some (.int (j : Int)), some v7, some v8, o9, o10, o11, o12, o13, o14, o15, o16]) (da_cons (de_op (de_var (i := 4) rfl r413) de_int (r2_ix (K := K) (i := 0) (z := .int (many : Int)) rfl)) da_nil) (by omega) (by omega)
      rwa [Int.toNat_natCast] at this
    · rintro ds ⟨z, rs, rfl, ⟨es0, es, rfl, rfl, el, he⟩, rfl⟩
      obtain ⟨ws, rfl, hw⟩ := ints_of he
      rw [List.length_map, List.length_map, Ch.rng_len] at el
      exact ⟨_, ⟨ws, rfl, by omega⟩, rk_tup⟩
    obtain ⟨ws, rfl, wl⟩ := hza
    have t14 := tab_kp S13 k14 t13
    have u14 := Up.kp sb k14
    have r414 := r413.up u14
    have r714 := r713.up u14
    have r814 := r8.up u14
    have cl := cutD_le (row.map PyData.int)
    rw [List.length_map] at cl
    refine dk_lst1 (N := Nd d g) (ds := [zb, tI ws, .tuple (row.map PyData.int).reverse, lI row, .tuple (row.map PyData.int ++ cutD (row.map PyData.int) none (some 1)), .tuple (cutD (row.map PyData.int) none (some (-1))), .none])
      (de_lst (da_cons (de_var rfl r814) (da_cons (de_var rfl r9) (da_cons (de_revT (de_var rfl r714)) (da_cons (de_cb (da_cons (de_var rfl r714) da_nil) (rk_list rfl)) (da_cons (de_op (de_var rfl r714) (de_slT (de_var rfl r714) do_none (do_some de_int)) (r2_addT (by have := cl none (some 1); rw [List.length_map]; omega))) (da_cons (de_slT (de_var rfl r714) do_none (do_some (de_neg de_int))) (da_cons de_non da_nil))))))) (by simp)) f14 fun H15 ap xs s15 nap hap rxs => ?_
    have hsz : ∀ z ∈ [zb, tI ws, .tuple (row.map PyData.int).reverse, lI row, .tuple (row.map PyData.int ++ cutD (row.map PyData.int) none (some 1)), .tuple (cutD (row.map PyData.int) none (some (-1))), .none], szD z := fun z hz => by
      simp only [List.mem_cons, List.not_mem_nil, or_false] at hz
      rcases hz with rfl | rfl | rfl | rfl | rfl | rfl | rfl
      · exact hzb
      · intro ds e; cases e; rw [List.length_map]; omega
      · intro ds e; cases e; rw [List.length_reverse, List.length_map]; omega
      · intro ds e; cases e; rw [List.length_map]; omega
      · intro ds e; cases e; have := cl none (some 1); rw [List.length_append, List.length_map]; omega
      · intro ds e; cases e; have := cl none (some (-1)); omega
      · intro ds e; cases e
    generalize [zb, tI ws, .tuple (row.map PyData.int).reverse, lI row, .tuple (row.map PyData.int ++ cutD (row.map PyData.int) none (some 1)), .tuple (cutD (row.map PyData.int) none (some (-1))), .none] = vals at *
    have S15 := (S14.same s15).mono (T' := 31 + 200 * (i : Int) + 20 * ((j + 1 : Nat) : Int)) (by omega)
    have t15 := t14.ext s15
    have r415 := r414.same s15
    have k915 : KpN d g H8 H15 := kn9.trans (KpN.kp ((k10.trans (Kp.of s1012)).trans ((k13.trans k14).trans (Kp.of s15))))
    refine ⟨fun q σ' H' => (∃ o11 o12, σ' = [some (.ref a), some (.ref d), some (.int mi), some (.int (i : Int)), some v4, some v5, some (.int (j : Int)), some v7, some v8, some v9, o10, o11, o12, o13, o14, o15, o16]) ∧ KpN d g H15 H' ∧ StA H' d g c (31 + 200 * (i : Int) + 20 * ((j + 1 : Nat) : Int)) ∧ TabS H' Pt qLam,
      ⟨⟨_, _, rfl⟩, KpN.refl d g H15, S15, t15⟩, fun q σ' H' ⟨_, kn, _, _⟩ => kn _ _ hap nap.1 nap.2 (fun ps z => by cases z), ?_, fun σ' H' ⟨⟨o11, o12, e⟩, kn, S', t'⟩ => ⟨⟨_, _, _, _, _, _, _, e⟩, k915.trans kn, S', t'⟩⟩
    rintro q dv x σ' H16 hq hx rx ⟨⟨o11, o12, rfl⟩, kn16, S16, t16⟩
    have r416 := Rp.kn kn16 _ r415
    have rx16 := Rp.kn kn16 _ rx
    have szv := hsz dv (List.mem_of_getElem? hq)
    -- due
    refine dq_set (N := Nd d g) (d := .bool (splB many props dv)) (de_call (da_cons (de_var rfl r416) (da_cons (de_var rfl rx16) da_nil)) ⟨many, props, lots, dv, rfl, C, szv, rfl⟩) (frN S16) fun v12 H17 s17 r12 => ?_
    have f17 := (frN S16).same s17
    refine dq_iff (dt_not (a := true) (dt_truB ((de_call (d := .bool true) (da_cons (de_call (d := .bool (splB many props dv)) (da_cons (de_var rfl (r416.same s17)) (da_cons (de_var rfl (rx16.same s17)) da_nil)) ⟨many, props, lots, dv, rfl, C, szv, rfl⟩) (da_cons (de_var rfl r12) da_nil)) ⟨_, _, rfl, by simp⟩).is rfl))) f17 fun H18 s18 => ?_
    have f18 := f17.same s18
    have s1618 := s17.trans s18
    have r1218 := r12.same s18
    cases hdue : splB many props dv with
    | true =>
      rw [hdue] at r1218
      refine dq_if (N := Nd d g) (b := false) (dt_and (a := false) (b := false) (dt_not (a := true) (dt_truB (de_var rfl r1218))) fun h => nomatch h) f18 (fun h => nomatch h) fun _ H19 s19 => ?_
      have s1619 := s1618.trans s19
      exact ⟨⟨_, _, rfl⟩, kn16.trans (KpN.kp (Kp.of s1619)), S16.same s1619, t16.ext s1619⟩
    | false =>
      rw [hdue] at r1218
      refine if_and (N := Nd d g) (dt_not (a := false) (dt_truB (de_var rfl r1218))) f18 fun H19 s19 => ?_
      have s1619 := s1618.trans s19
      have t19 := t16.ext s1619
      have S19 := S16.same s1619
      have T8 : Tabs [(Pt, qLam)] H19 := fun p hp => by rw [List.mem_singleton.mp hp]; exact t19
      refine ⟨T8, fun Hc eN T9 E1 Q1 hE hQ => ?_⟩
      have Sc := S19.ext eN
      refine (da_cons (de_var (N := Nd d g) rfl (Rp.ext eN _ (r416.same s1619))) (da_cons (de_var rfl (Rp.ext eN _ (rx16.same s1619))) da_nil)).run (frN Sc) fun vs Hd sd rr => ⟨Nd d g, many, props, lots, dv, (frN Sc).same sd, by rw [List.append_nil]; exact rr, C, szv, hdue, fun He se => hE _ _ _ ⟨true, exm, fun _ ae nae => ?_, fun z => nomatch z⟩⟩
      refine ⟨ae, C0, C0, true, rfl, upd_same, xc, kit, _, rfl, ?_⟩
      refine iteF ?_
      have sF := (sd.trans se).trans (same_upd (o := ExV (.ref C0) none ae) nae)
      have eF := ext_trans eN (ext_same sF)
      exact ⟨⟨_, _, rfl⟩, (kn16.trans (KpN.kp (Kp.of s1619))).trans (KpN.ext eF), S19.ext eF, (T9 _ List.mem_cons_self).ext sF⟩
  · rintro σ' H9 ⟨⟨o6, o7, o8, o9, o10, o11, o12, rfl⟩, kn9, S9, t9⟩
    -- many
    refine sq_set (N := Nd d g) (n := 0 + 1) (R := fun z => ∃ m : Nat, z = .int (m : Int) ∧ 1 ≤ m ∧ m ≤ 6) (se_op (SE.of (n := 0) (R := fun z => z = .int 1) de_int rfl) (se_draw (m := if (i : Int) = 0 then 6 else 5) rfl (de_if (b := decide ((i : Int) = 0)) (dt_test (de_op (de_var rfl (.int _)) de_int r2_eqI)) (fun hb => de_int.is (by rw [if_pos (of_decide_eq_true hb)])) fun hb => de_int.is (by rw [if_neg (of_decide_eq_false hb)])) (by split <;> omega) (by split <;> omega)) fun x y hx ⟨r, hy, q0, q1⟩ => ⟨_, ⟨(1 + r).toNat, rfl, by omega, by split at q1 <;> omega⟩, by
      subst hx hy
      rw [Int.toNat_of_nonneg (by omega)]
      exact r2_addI⟩) (frN S9) sb S9 (tbI (by omega)) fun v13 z H10 hz k10 S10 f10 r13 => ?_
    obtain ⟨mn, rfl, n1, n6⟩ := hz
    have t10 := tab_kp S9 k10 t9
    have rl := de_listRg (te := tVar 13) (N := Nd d g) (H := H10) (σ := [some (.ref a), some (.ref d), some (.int mi), some (.int (i : Int)), some v4, some v5, o6, o7, o8, o9, o10, o11, o12, some v13, o14, o15, o16]) (i := (mn : Int)) (de_var rfl r13) (by omega) (by omega)
    rw [Int.toNat_natCast] at rl
    -- heads
    refine sq_set (n := 6 + 1 + 0 + 0) (R := fun z => ∃ hs : List Int, z = tI hs ∧ (hs ≠ [] ∧ hs.Pairwise (· < ·) ∧ ∀ o ∈ hs, 0 ≤ o ∧ o < mn)) (se_cb (sa_cons (se_cb (sa_cons (se_slD (Rs := fun ds => ∃ ms : List Int, ds = ms.map PyData.int ∧ ms.Perm (Ch.rng mn)) (Ri := fun i => 1 ≤ i) ((se_call (N := Nd d g) rfl (da_cons rl da_nil) ⟨_, rfl, by rw [Ch.rng_len]; exact n6⟩).imp ?_)
        ((se_pick rfl (de_lst (da_cons de_int (da_cons de_int (da_cons de_int (da_cons de_int (da_cons (de_var rfl r13) da_nil)))))) rfl (by simp) (by simp)).imp ?_)) sa_nil)
      (R := fun z => ∃ hs : List Int, z = lI hs ∧ (hs ≠ [] ∧ hs.Pairwise (· < ·) ∧ ∀ o ∈ hs, 0 ≤ o ∧ o < mn)) ?_) sa_nil) ?_) f10 sb S10 (tbI (by omega)) fun v14 z H11 hz k11 S11 f11 r14 => ?_
    · rintro z ⟨ns', ms, e, rfl, pm⟩
      have e' : ns' = Ch.rng mn := by
        have := List.cons.inj e
        have := PyData.list.inj this.1
        exact (List.map_inj_right (fun a b h => PyData.int.inj h)).mp this.symm
      subst e'
      exact ⟨_, rfl, ms, rfl, pm⟩
    · intro z hz
      simp only [List.mem_cons, List.not_mem_nil, or_false] at hz
      rcases hz with rfl | rfl | rfl | rfl | rfl
      · exact ⟨_, rfl, by decide⟩
      · exact ⟨_, rfl, by decide⟩
      · exact ⟨_, rfl, by decide⟩
      · exact ⟨_, rfl, by decide⟩
      · exact ⟨_, rfl, by omega⟩
    · rintro ds ⟨z, rs, rfl, ⟨ds, sz, rfl, ⟨ms, rfl, pm⟩, hz1⟩, rfl⟩
      refine ⟨_, ⟨srtI (ms.take sz.toNat), rfl, props_ok n1 pm (by omega)⟩, ?_⟩
      have e : sz = ((sz.toNat : Nat) : Int) := by omega
      rw [e, cutD_to, ← List.map_take, Int.toNat_natCast]
      exact rc_sortI
    · rintro ds ⟨z, rs, rfl, ⟨hs, rfl, hp⟩, rfl⟩
      exact ⟨_, ⟨hs, rfl, hp⟩, rk_tup⟩
    obtain ⟨hs, rfl, hne, hasc, hin⟩ := hz
    have t11 := tab_kp S10 k11 t10
    have r1311 := r13.up (Up.kp sb k11)
    -- least
    refine sq_set (n := 0 + (0 + 1 + 0) + 1) (R := fun z => ∃ r : Nat, z = .int (r : Int) ∧ 1 ≤ r ∧ r ≤ mn) (se_pickE (N := Nd d g) rfl ((se_lst (sa_cons (SE.of (n := 0) (R := fun z => ∃ r : Nat, z = .int (r : Int) ∧ 1 ≤ r ∧ r ≤ mn) (de_op (de_op (de_var rfl r1311) de_int r2_addI) de_int (r2_ic ⟨by decide, by decide⟩)) ?_)
      (sa_cons (se_op (R := fun z => ∃ r : Nat, z = .int (r : Int) ∧ 1 ≤ r ∧ r ≤ mn) (SE.of (n := 0) (R := fun z => z = .int 1) de_int rfl) (se_draw (m := mn) rfl (de_var rfl r1311) (by omega)) fun x y hx ⟨r, hy, q0, q1⟩ => ⟨_, ⟨(1 + r).toNat, rfl, by omega, by omega⟩, by
        subst hx hy
        rw [Int.toNat_of_nonneg (by omega)]
        exact r2_addI⟩) sa_nil)) (fun ds ⟨z, rs, e, _, z', rs', e', _, e''⟩ => by subst e'' e' e; simp)).imp ?_)) f11 sb S11 (tbI (by omega)) fun v15 z H12 hz k12 S12 f12 r15 => ?_
    · refine ⟨((mn : Int) + 1).toNat / 2, ?_, by omega, by omega⟩
      congr 1
    · rintro z ⟨ds, rfl, z1, rs, rfl, h1, z2, rs', rfl, h2, rfl⟩
      refine ⟨_, rfl, by simp, by simp, fun e he => ?_⟩
      simp only [List.mem_cons, List.not_mem_nil, or_false] at he
      rcases he with rfl | rfl
      · exact h1
      · exact h2
    obtain ⟨le, rfl, l1, l2⟩ := hz
    have t12 := tab_kp S11 k12 t11
    have u12 := Up.kp sb k12
    have Cc := cnt_ch l1 l2 n6 hne hasc hin
    -- found
    refine dq_set (d := tornD mn hs (rowsI mn le)) (de_call (da_cons (de_call (d := chD mn hs (rowsI mn le)) (da_cons (de_var rfl (r1311.up u12)) (da_cons (de_var rfl (r14.up u12)) (da_cons (de_var rfl r15) da_nil))) ⟨mn, le, hs, rfl, l1, l2, n6, hne, hasc, hin, rfl⟩) da_nil) ⟨mn, hs, rowsI mn le, rfl, Cc, rfl⟩) f12 fun v16 H13 s13 r16 => ?_
    have f13 := f12.same s13
    have r1413 := (r14.up u12).same s13
    -- due
    refine dq_set (d := .bool (decide (((hs.length : Nat) : Int) = 1) || (decide (((hs.length : Nat) : Int) = 2) && decide (2 * (le : Int) = (mn : Int) + 1)))) (de_orV (de_op (de_cb (da_cons (de_var rfl r1413) da_nil) rk_lenT) de_int r2_eqI) fun _ => de_andV (de_op (de_cb (da_cons (de_var rfl r1413) da_nil) rk_lenT) de_int r2_eqI) fun _ => de_op (de_op de_int (de_var rfl (r15.same s13)) (r2_ic (.inl ⟨by decide, by decide⟩))) (de_op (de_var rfl ((r1311.up u12).same s13)) de_int r2_addI) r2_eqI) f13 fun v12 H14 s14 r12 => ?_
    refine dq_if (N := Nd d g) (b := false) ((dt_test (de_op (de_var rfl r12) (de_isN (de_var rfl (r16.same s14))) r2_neB)).is ?_) (f13.same s14) (fun h => nomatch h) fun _ H15 s15 => ?_
    · rw [nonD_torn, due_cnt l1 l2 n6 Cc]; simp
    · have sE := (s13.trans s14).trans s15
      exact ⟨⟨_, _, _, _, _, _, _, _, _, _, _, _, _, _, rfl⟩, (S12.same sE).mono (by push_cast; omega), t12.ext sE⟩
end
end Pu

namespace Pu
open PySem L2 LamX
/-- a def of the text stands behind the top under its name -/
def DefAt (K : PySem.W.Frag) (x : Str) (st : Stmt) : Prop := ∃ (f : Addr) (oc : Value) (od : Option Addr) (kV doc pm : Value) (an : Option Addr) (cd ct : Value) (osl : Array (Option Value)), PySem.W.nsIn K mainGlobals x = some (some (.ref f)) ∧
  K.lookup f = some ⟨oc, od, .func (PySem.W.fnOf x x (defArgs st) (defBody st) (defScope st) .none kV doc pm an cd ct), osl⟩ ∧ PySem.W.codeIn K cd x = true ∧ PySem.W.keepIn K (.ref f) = true
theorem DefAt.get {K : PySem.W.Frag} {x : Str} {st : Stmt} {h : Heap} {mg : Str → Option Value} (D : DefAt K x st) (X : K.In h) (G : h.Ns mainGlobals mg) : ∃ f fd, Fun K x x st f fd ∧ PySem.W.keepIn K (.ref f) = true ∧ mg x = some (.ref f) := by
  obtain ⟨f, oc, od, kV, doc, pm, an, cd, ct, osl, a, l, c, k⟩ := D
  exact ⟨f, _, fun_mk l c k, k, PySem.W.mg_of X G a⟩
theorem defAt_mk {K : PySem.W.Frag} {x : Str} {st : Stmt} {f : Addr} {oc : Value} {od : Option Addr} {kV doc pm : Value} {an : Option Addr} {cd ct : Value} {osl : Array (Option Value)} (a : PySem.W.nsIn K mainGlobals x = some (some (.ref f)))
    (l : K.lookup f = some ⟨oc, od, .func (PySem.W.fnOf x x (defArgs st) (defBody st) (defScope st) .none kV doc pm an cd ct), osl⟩) (c : PySem.W.codeIn K cd x = true) (k : PySem.W.keepIn K (.ref f) = true) : DefAt K x st := ⟨f, oc, od, kV, doc, pm, an, cd, ct, osl, a, l, c, k⟩
/-- the error class, all that is asked of it -/
structure ClsAt (K : PySem.W.Frag) (x : Str) (C PE0 : Addr) : Prop where
  aC : PySem.W.nsIn K mainGlobals x = some (some (.ref C))
  aP : PySem.W.nsIn K mainGlobals "PurseError" = some (some (.ref PE0))
  xi : PySem.W.excIn K C [.type "ValueError", .type "Exception", .type "BaseException", .type "object"] "ValueError.__new__" = true
  kk : PySem.W.keepIn K (.ref C) = true
  bb : PySem.W.subIn K (.ref C) (.type "BaseException") = some true
  ty : PySem.W.typeIn K (.ref C) = some (.type "type")
  hg : PySem.W.findIn K (.ref C) "__getattribute__" = some (some (.builtin "BaseException.__getattribute__"))
  hk : PySem.W.findIn K (.ref C) "__getattr__" = some none
  hd : PySem.W.hasDictIn K C = true
  ha : PySem.W.findIn K (.ref C) "__class__" = some (some (.builtin "object.__class__"))
  hn : PySem.W.specialIn K (.builtin "object.__class__") "__get__" = some (some (.builtin "getset_descriptor.__get__"))
  ht : PySem.W.takesIn K (.builtin "object.__class__") = some true
  hm : PySem.W.mroIn K C (.type "object") = some true
  kit : PySem.W.kitOne K (.ref C) (.ref C) = some true
  pb : PySem.W.subIn K (.ref PE0) (.type "BaseException") = some true
  pd : PySem.W.hasDictIn K PE0 = true
  pt : PySem.W.typeIn K (.ref PE0) = some (.type "type")
  cp : PySem.W.subIn K (.ref C) (.ref PE0) = some true
theorem all_mk {l : PySem.W.OpenLaw} {w : World} {K : PySem.W.Frag} {h : Heap} {mg : Str → Option Value} {fa : Addr} (X : K.In h) (G : h.Ns mainGlobals mg) (hfa : mg "law" = some (.ref fa))
    {Pt c0 C PE0 fL : Addr} (hP : h.get? Pt = some { cls := .none, data := .fields #[] }) (nP : K.lookup Pt = none) (hc : PySem.W.CodeHd h c0 Pt)
    {oc kV doc pm ct : Value} {od an : Option Addr} {osl : Array (Option Value)} (aL : PySem.W.nsIn K mainGlobals "law" = some (some (.ref fL))) (lL : K.lookup fL = some ⟨oc, od, .func (PySem.W.fnOf "law" "law" (defArgs s_law) (defBody s_law) (defScope s_law) .none kV doc pm an (.ref c0) ct), osl⟩) (cL : PySem.W.codeIn K (.ref c0) "law" = true) (kL : PySem.W.keepIn K (.ref fL) = true) (cl : ClsAt K "BadSplit" C PE0)
    (d_law_begun : DefAt K "_law_begun" sBegun)
    (d_law_blended : DefAt K "_law_blended" sBlend)
    (d_law_draw : DefAt K "_law_draw" sDraw)
    (d_law_pick : DefAt K "_law_pick" sPick)
    (d_law_caught : DefAt K "_law_caught" sCaught)
    (d_is_number : DefAt K "is_number" s_is_number)
    (d_is_number_from : DefAt K "is_number_from" s_is_number_from)
    (d_is_number_below : DefAt K "is_number_below" s_is_number_below)
    (d_is_ascending : DefAt K "is_ascending" s_is_ascending)
    (d_is_number_of_owners : DefAt K "is_number_of_owners" s_is_number_of_owners)
    (d_are_owners : DefAt K "are_owners" s_are_owners)
    (d_has_all : DefAt K "has_all" s_has_all)
    (d_has_lot : DefAt K "has_lot" s_has_lot)
    (d_is_charter : DefAt K "is_charter" s_is_charter)
    (d_check_charter : DefAt K "check_charter" s_check_charter)
    (d_followers : DefAt K "followers" s_followers)
    (d_heads_signed : DefAt K "heads_signed" s_heads_signed)
    (d_rows_of_choices : DefAt K "rows_of_choices" s_rows_of_choices)
    (d_splits_of : DefAt K "splits_of" s_splits_of)
    (d_torn_split : DefAt K "torn_split" s_torn_split)
    (d_L_sh_sets : DefAt K "_law_sh_sets" s_L_sh_sets)
    (d_L_sh_in : DefAt K "_law_sh_in" s_L_sh_in)
    (d_L_sh_has : DefAt K "_law_sh_has" s_L_sh_has)
    (d_L_sh_least : DefAt K "_law_sh_least" s_L_sh_least)
    (d_L_sh_block : DefAt K "_law_sh_block" s_L_sh_block)
    (d_L_sh_splits : DefAt K "_law_sh_splits" s_L_sh_splits)
    (d_L_sh_heads : DefAt K "_law_sh_heads" s_L_sh_heads)
    (d_L_mixed : DefAt K "_law_mixed" s_L_mixed)
    (d_L_sh_lots : DefAt K "_law_sh_lots" s_L_sh_lots)
    (d_L_sh_charter : DefAt K "_law_sh_charter" s_L_sh_charter)
    (d_L_sh_any : DefAt K "_law_sh_any" s_L_sh_any)
    (d_lots_of_size : DefAt K "lots_of_size" s_lots_of_size)
    (d_counting_charter : DefAt K "counting_charter" s_counting_charter)
    (d_L_is_whole : DefAt K "_law_is_whole" s_L_is_whole)
    (d_is_split : DefAt K "is_split" s_is_split)
    (d_signed_heads : DefAt K "signed_heads" s_signed_heads)
    (d_L_is_truth : DefAt K "_law_is_truth" s_L_is_truth)
    (d_L_sh_torn : DefAt K "_law_sh_torn" s_L_sh_torn)
    (d_L_k85_is_split : DefAt K "_law_k85_is_split" s_L_k85_is_split)
    (d_L_pu_odd : DefAt K "_law_pu_odd" s_L_pu_odd)
    (d_L_pu_bent : DefAt K "_law_pu_bent" s_L_pu_bent)
    {t_FIRST_TOO_LONG : Tok} (n_FIRST_TOO_LONG : PySem.W.nsIn K mainGlobals "FIRST_TOO_LONG" = some (some (.int 1000000000000000000 t_FIRST_TOO_LONG)))
    {t_MOST_OWNERS : Tok} (n_MOST_OWNERS : PySem.W.nsIn K mainGlobals "MOST_OWNERS" = some (some (.int 6 t_MOST_OWNERS)))
    (n_combinations : PySem.W.nsIn K mainGlobals "combinations" = some (some (.type "itertools.combinations")))
    (z_len : PySem.W.nsIn K mainGlobals "len" = some none)
    (z_list : PySem.W.nsIn K mainGlobals "list" = some none)
    (z_tuple : PySem.W.nsIn K mainGlobals "tuple" = some none)
    (z_all : PySem.W.nsIn K mainGlobals "all" = some none)
    (z_any : PySem.W.nsIn K mainGlobals "any" = some none)
    (z_sum : PySem.W.nsIn K mainGlobals "sum" = some none)
    (z_min : PySem.W.nsIn K mainGlobals "min" = some none)
    (z_sorted : PySem.W.nsIn K mainGlobals "sorted" = some none)
    (z_set : PySem.W.nsIn K mainGlobals "set" = some none)
    (z_range : PySem.W.nsIn K mainGlobals "range" = some none)
    (z_enumerate : PySem.W.nsIn K mainGlobals "enumerate" = some none)
    (z_zip : PySem.W.nsIn K mainGlobals "zip" = some none)
    (z_int : PySem.W.nsIn K mainGlobals "int" = some none)
    (z_bool : PySem.W.nsIn K mainGlobals "bool" = some none)
    (z_abs : PySem.W.nsIn K mainGlobals "abs" = some none)
    (z_isinstance : PySem.W.nsIn K mainGlobals "isinstance" = some none)
    : LawAtS l w K CX0 11 63 "script" mg fa h := by
  have no : ∀ {x : Str}, PySem.W.nsIn K mainGlobals x = some none → mg x = none := fun z => PySem.W.mg_none_of X G z
  have T : Bi mg := ⟨no z_len, no z_list, no z_tuple, no z_all, no z_any, no z_sum, no z_min, no z_sorted, no z_set, no z_range, no z_enumerate, no z_zip, no z_int, no z_bool, no z_abs, no z_isinstance⟩
  have e := hfa.symm.trans (PySem.W.mg_of X G aL)
  cases e
  obtain ⟨f_law_begun, fd_law_begun, F_law_begun, k_law_begun, m_law_begun⟩ := d_law_begun.get X G
  have b_law_begun := F_law_begun.binds (ps := ["script"]) fun _ _ _ _ _ _ us hl => match us, hl with | [_], _ => rfl
  obtain ⟨f_law_blended, fd_law_blended, F_law_blended, k_law_blended, m_law_blended⟩ := d_law_blended.get X G
  have b_law_blended := F_law_blended.binds (ps := ["state"]) fun _ _ _ _ _ _ us hl => match us, hl with | [_], _ => rfl
  obtain ⟨f_law_draw, fd_law_draw, F_law_draw, k_law_draw, m_law_draw⟩ := d_law_draw.get X G
  have b_law_draw := F_law_draw.binds (ps := ["state", "size_here"]) fun _ _ _ _ _ _ us hl => match us, hl with | [_, _], _ => rfl
  obtain ⟨f_law_pick, fd_law_pick, F_law_pick, k_law_pick, m_law_pick⟩ := d_law_pick.get X G
  have b_law_pick := F_law_pick.binds (ps := ["state", "several"]) fun _ _ _ _ _ _ us hl => match us, hl with | [_, _], _ => rfl
  obtain ⟨fC, ocC, odC, kVC, docC, pmC, anC, cdC, ctC, oslC, aC, lC, cC, kC⟩ := d_law_caught
  have mC := PySem.W.mg_of X G aC
  have bC := (fun_mk (st := sCaught) lC cC kC).binds (ps := ["work"]) fun _ _ _ _ _ _ us hl => match us, hl with | [_], _ => rfl
  obtain ⟨f_is_number, fd_is_number, F_is_number, k_is_number, m_is_number⟩ := d_is_number.get X G
  have b_is_number := F_is_number.binds (ps := ["value"]) fun _ _ _ _ _ _ us hl => match us, hl with | [_], _ => rfl
  obtain ⟨f_is_number_from, fd_is_number_from, F_is_number_from, k_is_number_from, m_is_number_from⟩ := d_is_number_from.get X G
  have b_is_number_from := F_is_number_from.binds (ps := ["value", "least"]) fun _ _ _ _ _ _ us hl => match us, hl with | [_, _], _ => rfl
  obtain ⟨f_is_number_below, fd_is_number_below, F_is_number_below, k_is_number_below, m_is_number_below⟩ := d_is_number_below.get X G
  have b_is_number_below := F_is_number_below.binds (ps := ["value", "limit"]) fun _ _ _ _ _ _ us hl => match us, hl with | [_, _], _ => rfl
  obtain ⟨f_is_ascending, fd_is_ascending, F_is_ascending, k_is_ascending, m_is_ascending⟩ := d_is_ascending.get X G
  have b_is_ascending := F_is_ascending.binds (ps := ["values"]) fun _ _ _ _ _ _ us hl => match us, hl with | [_], _ => rfl
  obtain ⟨f_is_number_of_owners, fd_is_number_of_owners, F_is_number_of_owners, k_is_number_of_owners, m_is_number_of_owners⟩ := d_is_number_of_owners.get X G
  have b_is_number_of_owners := F_is_number_of_owners.binds (ps := ["value"]) fun _ _ _ _ _ _ us hl => match us, hl with | [_], _ => rfl
  obtain ⟨f_are_owners, fd_are_owners, F_are_owners, k_are_owners, m_are_owners⟩ := d_are_owners.get X G
  have b_are_owners := F_are_owners.binds (ps := ["many", "value"]) fun _ _ _ _ _ _ us hl => match us, hl with | [_, _], _ => rfl
  obtain ⟨f_has_all, fd_has_all, F_has_all, k_has_all, m_has_all⟩ := d_has_all.get X G
  have b_has_all := F_has_all.binds (ps := ["owners", "wanted"]) fun _ _ _ _ _ _ us hl => match us, hl with | [_, _], _ => rfl
  obtain ⟨f_has_lot, fd_has_lot, F_has_lot, k_has_lot, m_has_lot⟩ := d_has_lot.get X G
  have b_has_lot := F_has_lot.binds (ps := ["charter", "owners"]) fun _ _ _ _ _ _ us hl => match us, hl with | [_, _], _ => rfl
  obtain ⟨f_is_charter, fd_is_charter, F_is_charter, k_is_charter, m_is_charter⟩ := d_is_charter.get X G
  have b_is_charter := F_is_charter.binds (ps := ["value"]) fun _ _ _ _ _ _ us hl => match us, hl with | [_], _ => rfl
  obtain ⟨f_check_charter, fd_check_charter, F_check_charter, k_check_charter, m_check_charter⟩ := d_check_charter.get X G
  have b_check_charter := F_check_charter.binds (ps := ["charter"]) fun _ _ _ _ _ _ us hl => match us, hl with | [_], _ => rfl
  obtain ⟨f_followers, fd_followers, F_followers, k_followers, m_followers⟩ := d_followers.get X G
  have b_followers := F_followers.binds (ps := ["split", "head"]) fun _ _ _ _ _ _ us hl => match us, hl with | [_, _], _ => rfl
  obtain ⟨f_heads_signed, fd_heads_signed, F_heads_signed, k_heads_signed, m_heads_signed⟩ := d_heads_signed.get X G
  have b_heads_signed := F_heads_signed.binds (ps := ["charter", "split"]) fun _ _ _ _ _ _ us hl => match us, hl with | [_, _], _ => rfl
  obtain ⟨f_rows_of_choices, fd_rows_of_choices, F_rows_of_choices, k_rows_of_choices, m_rows_of_choices⟩ := d_rows_of_choices.get X G
  have b_rows_of_choices := F_rows_of_choices.binds (ps := ["owners", "proposers", "others"]) fun _ _ _ _ _ _ us hl => match us, hl with | [_, _, _], _ => rfl
  obtain ⟨f_splits_of, fd_splits_of, F_splits_of, k_splits_of, m_splits_of⟩ := d_splits_of.get X G
  have b_splits_of := F_splits_of.binds (ps := ["charter"]) fun _ _ _ _ _ _ us hl => match us, hl with | [_], _ => rfl
  obtain ⟨f_torn_split, fd_torn_split, F_torn_split, k_torn_split, m_torn_split⟩ := d_torn_split.get X G
  have b_torn_split := F_torn_split.binds (ps := ["charter"]) fun _ _ _ _ _ _ us hl => match us, hl with | [_], _ => rfl
  obtain ⟨f_L_sh_sets, fd_L_sh_sets, F_L_sh_sets, k_L_sh_sets, m_L_sh_sets⟩ := d_L_sh_sets.get X G
  have b_L_sh_sets := F_L_sh_sets.binds (ps := ["many"]) fun _ _ _ _ _ _ us hl => match us, hl with | [_], _ => rfl
  obtain ⟨f_L_sh_in, fd_L_sh_in, F_L_sh_in, k_L_sh_in, m_L_sh_in⟩ := d_L_sh_in.get X G
  have b_L_sh_in := F_L_sh_in.binds (ps := ["part", "whole"]) fun _ _ _ _ _ _ us hl => match us, hl with | [_, _], _ => rfl
  obtain ⟨f_L_sh_has, fd_L_sh_has, F_L_sh_has, k_L_sh_has, m_L_sh_has⟩ := d_L_sh_has.get X G
  have b_L_sh_has := F_L_sh_has.binds (ps := ["lots", "owners"]) fun _ _ _ _ _ _ us hl => match us, hl with | [_, _], _ => rfl
  obtain ⟨f_L_sh_least, fd_L_sh_least, F_L_sh_least, k_L_sh_least, m_L_sh_least⟩ := d_L_sh_least.get X G
  have b_L_sh_least := F_L_sh_least.binds (ps := ["parts"]) fun _ _ _ _ _ _ us hl => match us, hl with | [_], _ => rfl
  obtain ⟨f_L_sh_block, fd_L_sh_block, F_L_sh_block, k_L_sh_block, m_L_sh_block⟩ := d_L_sh_block.get X G
  have b_L_sh_block := F_L_sh_block.binds (ps := ["split", "head"]) fun _ _ _ _ _ _ us hl => match us, hl with | [_, _], _ => rfl
  obtain ⟨f_L_sh_splits, fd_L_sh_splits, F_L_sh_splits, k_L_sh_splits, m_L_sh_splits⟩ := d_L_sh_splits.get X G
  have b_L_sh_splits := F_L_sh_splits.binds (ps := ["charter"]) fun _ _ _ _ _ _ us hl => match us, hl with | [_], _ => rfl
  obtain ⟨f_L_sh_heads, fd_L_sh_heads, F_L_sh_heads, k_L_sh_heads, m_L_sh_heads⟩ := d_L_sh_heads.get X G
  have b_L_sh_heads := F_L_sh_heads.binds (ps := ["charter", "split"]) fun _ _ _ _ _ _ us hl => match us, hl with | [_, _], _ => rfl
  obtain ⟨f_L_mixed, fd_L_mixed, F_L_mixed, k_L_mixed, m_L_mixed⟩ := d_L_mixed.get X G
  have b_L_mixed := F_L_mixed.binds (ps := ["state", "several"]) fun _ _ _ _ _ _ us hl => match us, hl with | [_, _], _ => rfl
  obtain ⟨f_L_sh_lots, fd_L_sh_lots, F_L_sh_lots, k_L_sh_lots, m_L_sh_lots⟩ := d_L_sh_lots.get X G
  have b_L_sh_lots := F_L_sh_lots.binds (ps := ["state", "many"]) fun _ _ _ _ _ _ us hl => match us, hl with | [_, _], _ => rfl
  obtain ⟨f_L_sh_charter, fd_L_sh_charter, F_L_sh_charter, k_L_sh_charter, m_L_sh_charter⟩ := d_L_sh_charter.get X G
  have b_L_sh_charter := F_L_sh_charter.binds (ps := ["state", "most"]) fun _ _ _ _ _ _ us hl => match us, hl with | [_, _], _ => rfl
  obtain ⟨f_L_sh_any, fd_L_sh_any, F_L_sh_any, k_L_sh_any, m_L_sh_any⟩ := d_L_sh_any.get X G
  have b_L_sh_any := F_L_sh_any.binds (ps := ["state", "most"]) fun _ _ _ _ _ _ us hl => match us, hl with | [_, _], _ => rfl
  obtain ⟨f_lots_of_size, fd_lots_of_size, F_lots_of_size, k_lots_of_size, m_lots_of_size⟩ := d_lots_of_size.get X G
  have b_lots_of_size := F_lots_of_size.binds (ps := ["many", "size"]) fun _ _ _ _ _ _ us hl => match us, hl with | [_, _], _ => rfl
  obtain ⟨f_counting_charter, fd_counting_charter, F_counting_charter, k_counting_charter, m_counting_charter⟩ := d_counting_charter.get X G
  have b_counting_charter := F_counting_charter.binds (ps := ["many", "proposers", "least"]) fun _ _ _ _ _ _ us hl => match us, hl with | [_, _, _], _ => rfl
  obtain ⟨f_L_is_whole, fd_L_is_whole, F_L_is_whole, k_L_is_whole, m_L_is_whole⟩ := d_L_is_whole.get X G
  have b_L_is_whole := F_L_is_whole.binds (ps := ["item"]) fun _ _ _ _ _ _ us hl => match us, hl with | [_], _ => rfl
  obtain ⟨f_is_split, fd_is_split, F_is_split, k_is_split, m_is_split⟩ := d_is_split.get X G
  have b_is_split := F_is_split.binds (ps := ["charter", "value"]) fun _ _ _ _ _ _ us hl => match us, hl with | [_, _], _ => rfl
  obtain ⟨f_signed_heads, fd_signed_heads, F_signed_heads, k_signed_heads, m_signed_heads⟩ := d_signed_heads.get X G
  have b_signed_heads := F_signed_heads.binds (ps := ["charter", "split"]) fun _ _ _ _ _ _ us hl => match us, hl with | [_, _], _ => rfl
  obtain ⟨f_L_is_truth, fd_L_is_truth, F_L_is_truth, k_L_is_truth, m_L_is_truth⟩ := d_L_is_truth.get X G
  have b_L_is_truth := F_L_is_truth.binds (ps := ["found", "due"]) fun _ _ _ _ _ _ us hl => match us, hl with | [_, _], _ => rfl
  obtain ⟨f_L_sh_torn, fd_L_sh_torn, F_L_sh_torn, k_L_sh_torn, m_L_sh_torn⟩ := d_L_sh_torn.get X G
  have b_L_sh_torn := F_L_sh_torn.binds (ps := ["charter", "splits_here"]) fun _ _ _ _ _ _ us hl => match us, hl with | [_, _], _ => rfl
  obtain ⟨f_L_k85_is_split, fd_L_k85_is_split, F_L_k85_is_split, k_L_k85_is_split, m_L_k85_is_split⟩ := d_L_k85_is_split.get X G
  have b_L_k85_is_split := F_L_k85_is_split.binds (ps := ["charter", "value"]) fun _ _ _ _ _ _ us hl => match us, hl with | [_, _], _ => rfl
  obtain ⟨f_L_pu_odd, fd_L_pu_odd, F_L_pu_odd, k_L_pu_odd, m_L_pu_odd⟩ := d_L_pu_odd.get X G
  have b_L_pu_odd := F_L_pu_odd.binds (ps := ["state"]) fun _ _ _ _ _ _ us hl => match us, hl with | [_], _ => rfl
  obtain ⟨f_L_pu_bent, fd_L_pu_bent, F_L_pu_bent, k_L_pu_bent, m_L_pu_bent⟩ := d_L_pu_bent.get X G
  have b_L_pu_bent := F_L_pu_bent.binds (ps := ["state", "item"]) fun _ _ _ _ _ _ us hl => match us, hl with | [_, _], _ => rfl
  have kb_is_split : KBinds K fd_is_split ["charter", "value"] ["charter", "value"] g1 gV1 := by
    obtain ⟨oc, od, kV, doc, pm, an, cdv, ct, osl, rfl, lk, hcd⟩ := F_is_split.ex
    exact kb2 fun a b => rfl
  have kb_torn_split : KBinds K fd_torn_split ["charter"] ["charter"] g1 gV1 := by
    obtain ⟨oc, od, kV, doc, pm, an, cdv, ct, osl, rfl, lk, hcd⟩ := F_torn_split.ex
    exact kb1 fun w => rfl
  have kp_signed_heads : KBinds K fd_signed_heads ["charter", "split"] ["split"] gP gVP := by
    obtain ⟨oc, od, kV, doc, pm, an, cdv, ct, osl, rfl, lk, hcd⟩ := F_signed_heads.ex
    exact kbP fun a b => rfl
  have er : Er K mg "BadSplit" C := ⟨cl.xi, PySem.W.mg_of X G cl.aC, cl.kk, cl.bb, cl.ty⟩
  refine ⟨PySem.W.fnOf "law" "law" (defArgs s_law) (defBody s_law) (defScope s_law) .none kV doc pm an (.ref c0) ct, [(c0, Pt)], spLaw K Pt, fun p hp => by rw [List.mem_singleton.mp hp]; exact hP, fun p hp => by rw [List.mem_singleton.mp hp]; exact nP, fun p hp => by rw [List.mem_singleton.mp hp]; exact hc, fun s v => .of_eq rfl,
    fun H a ns hl _ hH hS => ⟨a, ns, rfl, hS, hl, TabS.nil (hH _ List.mem_cons_self), fun _ => rfl⟩, fun base _ _ hT => ?_⟩
  have G_blend := ok_blend (P := l.prog) (w := w) (base := base) F_law_blended T.int
  have G_draw := ok_draw F_law_draw T.int G_blend b_law_blended k_law_blended m_law_blended
  have G_pick := ok_pick F_law_pick T.len G_draw b_law_draw k_law_draw m_law_draw
  have D_L_begun : Def l.prog w K mg base "_law_begun" 1 ["script"] (spBegun K) := ⟨_, _, ok_begun F_law_begun T.abs, b_law_begun, k_law_begun, m_law_begun⟩
  have D_L_draw : Def l.prog w K mg base "_law_draw" 2 ["state", "size_here"] spDraw := ⟨_, _, G_draw, b_law_draw, k_law_draw, m_law_draw⟩
  have D_L_pick : Def l.prog w K mg base "_law_pick" 3 ["state", "several"] (spPick K) := ⟨_, _, G_pick, b_law_pick, k_law_pick, m_law_pick⟩
  have G_is_number_1 := ok_is_number (P := l.prog) (w := w) (mg := mg) (base := base) F_is_number T (PySem.W.mg_of X G n_FIRST_TOO_LONG)
  have D_is_number_1 : Def l.prog w K mg base "is_number" 1 ["value"] (spP R_num) := ⟨_, _, G_is_number_1, b_is_number, k_is_number, m_is_number⟩
  have G_is_number_from_2 := ok_is_number_from (P := l.prog) (w := w) (mg := mg) (base := base) F_is_number_from D_is_number_1
  have D_is_number_from_2 : Def l.prog w K mg base "is_number_from" 2 ["value", "least"] (spP R_from) := ⟨_, _, G_is_number_from_2, b_is_number_from, k_is_number_from, m_is_number_from⟩
  have G_is_number_below_3 := ok_is_number_below (P := l.prog) (w := w) (mg := mg) (base := base) F_is_number_below D_is_number_from_2
  have D_is_number_below_3 : Def l.prog w K mg base "is_number_below" 3 ["value", "limit"] (spP R_below) := ⟨_, _, G_is_number_below_3, b_is_number_below, k_is_number_below, m_is_number_below⟩
  have G_is_ascending_4 := ok_is_ascending (P := l.prog) (w := w) (mg := mg) (base := base) F_is_ascending T
  have D_is_ascending_4 : Def l.prog w K mg base "is_ascending" 1 ["values"] (spP R_asc) := ⟨_, _, G_is_ascending_4, b_is_ascending, k_is_ascending, m_is_ascending⟩
  have G_is_number_of_owners_5 := ok_is_number_of_owners (P := l.prog) (w := w) (mg := mg) (base := base) F_is_number_of_owners (PySem.W.mg_of X G n_MOST_OWNERS) D_is_number_from_2
  have D_is_number_of_owners_5 : Def l.prog w K mg base "is_number_of_owners" 3 ["value"] (spP R_noo) := ⟨_, _, G_is_number_of_owners_5, b_is_number_of_owners, k_is_number_of_owners, m_is_number_of_owners⟩
  have G_are_owners_6 := ok_are_owners (P := l.prog) (w := w) (mg := mg) (base := base) F_are_owners T D_is_number_below_3 D_is_ascending_4
  have D_are_owners_6 : Def l.prog w K mg base "are_owners" 4 ["many", "value"] (spP R_areo) := ⟨_, _, G_are_owners_6, b_are_owners, k_are_owners, m_are_owners⟩
  have G_has_all_7 := ok_has_all (P := l.prog) (w := w) (mg := mg) (base := base) F_has_all T
  have D_has_all_7 : Def l.prog w K mg base "has_all" 1 ["owners", "wanted"] (spP R_hasall) := ⟨_, _, G_has_all_7, b_has_all, k_has_all, m_has_all⟩
  have G_has_lot_8 := ok_has_lot (P := l.prog) (w := w) (mg := mg) (base := base) F_has_lot T D_has_all_7
  have D_has_lot_8 : Def l.prog w K mg base "has_lot" 2 ["charter", "owners"] (spP R_haslot) := ⟨_, _, G_has_lot_8, b_has_lot, k_has_lot, m_has_lot⟩
  have G_is_charter_9 := ok_is_charter (P := l.prog) (w := w) (mg := mg) (base := base) F_is_charter T D_is_number_of_owners_5 D_are_owners_6 D_is_ascending_4 D_has_all_7
  have D_is_charter_9 : Def l.prog w K mg base "is_charter" 5 ["value"] (spP R_isch) := ⟨_, _, G_is_charter_9, b_is_charter, k_is_charter, m_is_charter⟩
  have G_check_charter_10 := ok_check_charter (P := l.prog) (w := w) (mg := mg) (base := base) F_check_charter D_is_charter_9
  have D_check_charter_10 : Def l.prog w K mg base "check_charter" 6 ["charter"] (spP R_check) := ⟨_, _, G_check_charter_10, b_check_charter, k_check_charter, m_check_charter⟩
  have G_followers_11 := ok_followers (P := l.prog) (w := w) (mg := mg) (base := base) F_followers T
  have D_followers_11 : Def l.prog w K mg base "followers" 1 ["split", "head"] (spP R_fol) := ⟨_, _, G_followers_11, b_followers, k_followers, m_followers⟩
  have G_heads_signed_12 := ok_heads_signed (P := l.prog) (w := w) (mg := mg) (base := base) F_heads_signed T D_has_lot_8 D_followers_11
  have D_heads_signed_12 : Def l.prog w K mg base "heads_signed" 3 ["charter", "split"] (spP R_heads) := ⟨_, _, G_heads_signed_12, b_heads_signed, k_heads_signed, m_heads_signed⟩
  have G_rows_of_choices_13 := ok_rows_of_choices (P := l.prog) (w := w) (mg := mg) (base := base) F_rows_of_choices T
  have D_rows_of_choices_13 : Def l.prog w K mg base "rows_of_choices" 1 ["owners", "proposers", "others"] (spP R_rows) := ⟨_, _, G_rows_of_choices_13, b_rows_of_choices, k_rows_of_choices, m_rows_of_choices⟩
  have G_splits_of_14 := ok_splits_of (P := l.prog) (w := w) (mg := mg) (base := base) F_splits_of T D_rows_of_choices_13
  have D_splits_of_14 : Def l.prog w K mg base "splits_of" 2 ["charter"] (spP R_spl) := ⟨_, _, G_splits_of_14, b_splits_of, k_splits_of, m_splits_of⟩
  have G_torn_split_15 := ok_torn_split (P := l.prog) (w := w) (mg := mg) (base := base) F_torn_split T D_check_charter_10 D_splits_of_14 D_heads_signed_12
  have D_torn_split_15 : Def l.prog w K mg base "torn_split" 7 ["charter"] (spP R_torn) := ⟨_, _, G_torn_split_15, b_torn_split, k_torn_split, m_torn_split⟩
  have G_L_sh_sets_16 := ok_sets (P := l.prog) (w := w) (mg := mg) (base := base) F_L_sh_sets T
  have D_L_sh_sets_16 : Def l.prog w K mg base "_law_sh_sets" 1 ["many"] (spP R_sets) := ⟨_, _, G_L_sh_sets_16, b_L_sh_sets, k_L_sh_sets, m_L_sh_sets⟩
  have G_L_sh_in_17 := ok_in (P := l.prog) (w := w) (mg := mg) (base := base) F_L_sh_in
  have D_L_sh_in_17 : Def l.prog w K mg base "_law_sh_in" 1 ["part", "whole"] (spP R_in) := ⟨_, _, G_L_sh_in_17, b_L_sh_in, k_L_sh_in, m_L_sh_in⟩
  have G_L_sh_has_18 := ok_hasL (P := l.prog) (w := w) (mg := mg) (base := base) F_L_sh_has D_L_sh_in_17
  have D_L_sh_has_18 : Def l.prog w K mg base "_law_sh_has" 2 ["lots", "owners"] (spP R_hasL) := ⟨_, _, G_L_sh_has_18, b_L_sh_has, k_L_sh_has, m_L_sh_has⟩
  have G_L_sh_least_19 := ok_least (P := l.prog) (w := w) (mg := mg) (base := base) F_L_sh_least T D_L_sh_in_17
  have D_L_sh_least_19 : Def l.prog w K mg base "_law_sh_least" 2 ["parts"] (spP R_least) := ⟨_, _, G_L_sh_least_19, b_L_sh_least, k_L_sh_least, m_L_sh_least⟩
  have G_L_sh_block_20 := ok_block (P := l.prog) (w := w) (mg := mg) (base := base) F_L_sh_block T
  have D_L_sh_block_20 : Def l.prog w K mg base "_law_sh_block" 1 ["split", "head"] (spP R_block) := ⟨_, _, G_L_sh_block_20, b_L_sh_block, k_L_sh_block, m_L_sh_block⟩
  have G_L_sh_splits_21 := ok_splitsL (P := l.prog) (w := w) (mg := mg) (base := base) F_L_sh_splits T D_L_sh_in_17 D_L_sh_sets_16
  have D_L_sh_splits_21 : Def l.prog w K mg base "_law_sh_splits" 2 ["charter"] (spP R_splL) := ⟨_, _, G_L_sh_splits_21, b_L_sh_splits, k_L_sh_splits, m_L_sh_splits⟩
  have G_L_sh_heads_22 := ok_headsL (P := l.prog) (w := w) (mg := mg) (base := base) F_L_sh_heads T D_L_sh_has_18 D_L_sh_block_20
  have D_L_sh_heads_22 : Def l.prog w K mg base "_law_sh_heads" 3 ["charter", "split"] (spP R_headsL) := ⟨_, _, G_L_sh_heads_22, b_L_sh_heads, k_L_sh_heads, m_L_sh_heads⟩
  have G_L_mixed_23 := ok_mixed (P := l.prog) (w := w) (mg := mg) (base := base) F_L_mixed T D_L_draw
  have D_L_mixed_23 : Def l.prog w K mg base "_law_mixed" 3 ["state", "several"] (spSt 6 D_mix R_mix) := ⟨_, _, G_L_mixed_23, b_L_mixed, k_L_mixed, m_L_mixed⟩
  have G_L_sh_lots_24 := ok_lots (P := l.prog) (w := w) (mg := mg) (base := base) F_L_sh_lots T D_L_draw D_L_pick D_L_sh_sets_16 D_L_sh_least_19
  have D_L_sh_lots_24 : Def l.prog w K mg base "_law_sh_lots" 4 ["state", "many"] (spSt 16 D_lots R_lots) := ⟨_, _, G_L_sh_lots_24, b_L_sh_lots, k_L_sh_lots, m_L_sh_lots⟩
  have G_L_sh_charter_25 := ok_charter (P := l.prog) (w := w) (mg := mg) (base := base) F_L_sh_charter T D_L_draw D_L_pick D_L_mixed_23 D_L_sh_lots_24
  have D_L_sh_charter_25 : Def l.prog w K mg base "_law_sh_charter" 5 ["state", "most"] (spSt 24 D_char R_char) := ⟨_, _, G_L_sh_charter_25, b_L_sh_charter, k_L_sh_charter, m_L_sh_charter⟩
  have G_L_sh_any_26 := ok_any (P := l.prog) (w := w) (mg := mg) (base := base) F_L_sh_any T D_L_draw D_L_pick D_L_mixed_23 D_L_sh_sets_16 D_L_sh_least_19 D_L_sh_charter_25
  have D_L_sh_any_26 : Def l.prog w K mg base "_law_sh_any" 6 ["state", "most"] (spSt 30 D_char R_char) := ⟨_, _, G_L_sh_any_26, b_L_sh_any, k_L_sh_any, m_L_sh_any⟩
  have G_lots_of_size_27 := ok_lots_of_size (P := l.prog) (w := w) (mg := mg) (base := base) F_lots_of_size T (PySem.W.mg_of X G n_combinations)
  have D_lots_of_size_27 : Def l.prog w K mg base "lots_of_size" 1 ["many", "size"] (spP R_losz) := ⟨_, _, G_lots_of_size_27, b_lots_of_size, k_lots_of_size, m_lots_of_size⟩
  have G_counting_charter_28 := ok_counting_charter (P := l.prog) (w := w) (mg := mg) (base := base) F_counting_charter D_lots_of_size_27 D_is_number_from_2 D_are_owners_6 D_is_number_of_owners_5
  have D_counting_charter_28 : Def l.prog w K mg base "counting_charter" 5 ["many", "proposers", "least"] (spP R_count) := ⟨_, _, G_counting_charter_28, b_counting_charter, k_counting_charter, m_counting_charter⟩
  have G_is_number_29 := ok_is_numberA (P := l.prog) (w := w) (mg := mg) (base := base) F_is_number T (PySem.W.mg_of X G n_FIRST_TOO_LONG)
  have D_is_number_29 : Def l.prog w K mg base "is_number" 1 ["value"] (spP R_numA) := ⟨_, _, G_is_number_29, b_is_number, k_is_number, m_is_number⟩
  have G_is_number_from_30 := ok_is_number_fromA (P := l.prog) (w := w) (mg := mg) (base := base) F_is_number_from D_is_number_29
  have D_is_number_from_30 : Def l.prog w K mg base "is_number_from" 2 ["value", "least"] (spP R_fromA) := ⟨_, _, G_is_number_from_30, b_is_number_from, k_is_number_from, m_is_number_from⟩
  have G_is_number_below_31 := ok_is_number_belowA (P := l.prog) (w := w) (mg := mg) (base := base) F_is_number_below D_is_number_from_30
  have D_is_number_below_31 : Def l.prog w K mg base "is_number_below" 3 ["value", "limit"] (spP R_belA) := ⟨_, _, G_is_number_below_31, b_is_number_below, k_is_number_below, m_is_number_below⟩
  have G_L_is_whole_32 := ok_whole (P := l.prog) (w := w) (mg := mg) (base := base) F_L_is_whole T
  have D_L_is_whole_32 : Def l.prog w K mg base "_law_is_whole" 1 ["item"] (spP R_whole) := ⟨_, _, G_L_is_whole_32, b_L_is_whole, k_L_is_whole, m_L_is_whole⟩
  have G_is_split_33 := ok_is_split (P := l.prog) (w := w) (mg := mg) (base := base) F_is_split T D_is_number_below_31 D_check_charter_10
  have D_is_split_33 : Def l.prog w K mg base "is_split" 7 ["charter", "value"] (spP R_isspl) := ⟨_, _, G_is_split_33, b_is_split, k_is_split, m_is_split⟩
  have G_signed_heads_34 := ok_signed_heads (P := l.prog) (w := w) (mg := mg) (base := base) F_signed_heads D_is_split_33 D_heads_signed_12
  have D_signed_heads_34 : Def l.prog w K mg base "signed_heads" 8 ["charter", "split"] (spP R_sgn) := ⟨_, _, G_signed_heads_34, b_signed_heads, k_signed_heads, m_signed_heads⟩
  have G_signed_heads_35 := ok_signed_headsX (P := l.prog) (w := w) (mg := mg) (base := base) F_signed_heads er D_is_split_33 D_heads_signed_12
  have G_L_is_truth_36 := ok_truth (P := l.prog) (w := w) (mg := mg) (base := base) F_L_is_truth
  have D_L_is_truth_36 : Def l.prog w K mg base "_law_is_truth" 1 ["found", "due"] (spP R_truth) := ⟨_, _, G_L_is_truth_36, b_L_is_truth, k_L_is_truth, m_L_is_truth⟩
  have G_L_sh_torn_37 := ok_tornL (P := l.prog) (w := w) (mg := mg) (base := base) F_L_sh_torn T D_L_sh_heads_22
  have D_L_sh_torn_37 : Def l.prog w K mg base "_law_sh_torn" 4 ["charter", "splits_here"] (spP R_tornL) := ⟨_, _, G_L_sh_torn_37, b_L_sh_torn, k_L_sh_torn, m_L_sh_torn⟩
  have G_L_k85_is_split_38 := ok_isplL (P := l.prog) (w := w) (mg := mg) (base := base) F_L_k85_is_split T D_L_is_whole_32
  have D_L_k85_is_split_38 : Def l.prog w K mg base "_law_k85_is_split" 2 ["charter", "value"] (spP R_isspl) := ⟨_, _, G_L_k85_is_split_38, b_L_k85_is_split, k_L_k85_is_split, m_L_k85_is_split⟩
  have G_L_pu_odd_39 := ok_odd (P := l.prog) (w := w) (mg := mg) (base := base) F_L_pu_odd D_L_pick
  have D_L_pu_odd_39 : Def l.prog w K mg base "_law_pu_odd" 4 ["state"] (spSt 1 D_odd R_odd) := ⟨_, _, G_L_pu_odd_39, b_L_pu_odd, k_L_pu_odd, m_L_pu_odd⟩
  have G_L_pu_bent_40 := ok_bentNo (P := l.prog) (w := w) (mg := mg) (base := base) F_L_pu_bent
  have D_L_pu_bent_40 : Def l.prog w K mg base "_law_pu_bent" 4 ["state", "item"] (spNo) := ⟨_, _, G_L_pu_bent_40, b_L_pu_bent, k_L_pu_bent, m_L_pu_bent⟩
  have G_L_pu_bent_41 := ok_bent0 (P := l.prog) (w := w) (mg := mg) (base := base) F_L_pu_bent T D_L_is_whole_32 D_L_pick D_L_draw D_L_pu_odd_39 D_L_pu_bent_40
  have D_L_pu_bent_41 : Def l.prog w K mg base "_law_pu_bent" 5 ["state", "item"] (spSt 1 D_bent0 R_bent) := ⟨_, _, G_L_pu_bent_41, b_L_pu_bent, k_L_pu_bent, m_L_pu_bent⟩
  have G_L_pu_bent_42 := ok_bent (P := l.prog) (w := w) (mg := mg) (base := base) F_L_pu_bent T D_L_is_whole_32 D_L_pick D_L_draw D_L_pu_odd_39 D_L_pu_bent_41
  have D_L_pu_bent_42 : Def l.prog w K mg base "_law_pu_bent" 6 ["state", "item"] (spSt 4 D_bent R_bent) := ⟨_, _, G_L_pu_bent_42, b_L_pu_bent, k_L_pu_bent, m_L_pu_bent⟩
  exact ok_law (P := l.prog) (w := w) (C0 := C) (PE0 := PE0) lL cL (hT _ List.mem_cons_self) lC cC bC kC mC er ⟨cl.hg, cl.hk, cl.bb, cl.hd, cl.ha, cl.hn, cl.ht, cl.hm⟩ cl.kit (PySem.W.mg_of X G cl.aP) (PySem.W.exm_ref cl.pb cl.pd cl.pt cl.cp) T D_L_begun D_L_draw D_L_pick D_L_mixed_23 D_L_sh_any_26 D_L_sh_splits_21 D_L_sh_heads_22 D_L_sh_torn_37 D_L_is_truth_36 D_L_k85_is_split_38 D_L_pu_bent_42 D_torn_split_15 ⟨_, _, G_torn_split_15, kb_torn_split, k_torn_split, m_torn_split⟩ D_counting_charter_28 D_is_split_33 ⟨_, _, G_is_split_33, kb_is_split, k_is_split, m_is_split⟩ ⟨_, _, G_signed_heads_34, kp_signed_heads, k_signed_heads, m_signed_heads⟩ ⟨_, _, G_signed_heads_35, b_signed_heads, k_signed_heads, m_signed_heads⟩
end Pu

open PySem PySem.W PyProof.Rows
set_option maxRecDepth 100000 in
set_option maxHeartbeats 0 in
theorem PySem.Challenge.cw_pursesapart_k85_whole_torn_splits_holds : PySem.Challenge.rw_pursesapart_k85_whole_torn_splits.Holds := by
  w_on; o_law; k_head; (case hw => w_witness2)
  k_fill
  refine LamX.walk_ofTs (n := 63) (k := 11) (x := "script") (CX := fun _ => L2.CX0) rfl (by decide) rfl ⟨rfl, by decide, by decide⟩ (fun w h Y => PySem.W.km_in_of Y) ?F (fun _ _ _ _ _ z => z)
  intro w mg fa h Y KX G hmg
  have hT := PySem.W.km_tabs_of Y
  refine' Pu.all_mk KX G hmg (hT _ List.mem_cons_self) ?u_nP ?u_hc ?u_aL ?u_lL ?u_cL ?u_kL ?u_cl ?u_d_law_begun ?u_d_law_blended ?u_d_law_draw ?u_d_law_pick ?u_d_law_caught ?u_d_is_number ?u_d_is_number_from ?u_d_is_number_below ?u_d_is_ascending ?u_d_is_number_of_owners ?u_d_are_owners ?u_d_has_all ?u_d_has_lot ?u_d_is_charter ?u_d_check_charter ?u_d_followers ?u_d_heads_signed ?u_d_rows_of_choices ?u_d_splits_of ?u_d_torn_split ?u_d_L_sh_sets ?u_d_L_sh_in ?u_d_L_sh_has ?u_d_L_sh_least ?u_d_L_sh_block ?u_d_L_sh_splits ?u_d_L_sh_heads ?u_d_L_mixed ?u_d_L_sh_lots ?u_d_L_sh_charter ?u_d_L_sh_any ?u_d_lots_of_size ?u_d_counting_charter ?u_d_L_is_whole ?u_d_is_split ?u_d_signed_heads ?u_d_L_is_truth ?u_d_L_sh_torn ?u_d_L_k85_is_split ?u_d_L_pu_odd ?u_d_L_pu_bent ?u_n_FIRST_TOO_LONG ?u_n_MOST_OWNERS ?u_n_combinations ?u_z_len ?u_z_list ?u_z_tuple ?u_z_all ?u_z_any ?u_z_sum ?u_z_min ?u_z_sorted ?u_z_set ?u_z_range ?u_z_enumerate ?u_z_zip ?u_z_int ?u_z_bool ?u_z_abs ?u_z_isinstance
  (case u_nP => kernel_rfl)
  (case u_aL => k_is); (case u_lL => k_is); (case u_cL => k_is); (case u_kL => k_is)
  (case u_hc => exact PySem.W.codeHd_of_K KX (by kernel_rfl))
  (case u_d_law_begun => refine' Pu.defAt_mk ?v_a ?v_l ?v_c ?v_k; (case v_a => k_is); (case v_l => k_is); (case v_c => k_is); (case v_k => k_is))
  (case u_d_law_blended => refine' Pu.defAt_mk ?v_a ?v_l ?v_c ?v_k; (case v_a => k_is); (case v_l => k_is); (case v_c => k_is); (case v_k => k_is))
  (case u_d_law_draw => refine' Pu.defAt_mk ?v_a ?v_l ?v_c ?v_k; (case v_a => k_is); (case v_l => k_is); (case v_c => k_is); (case v_k => k_is))
  (case u_d_law_pick => refine' Pu.defAt_mk ?v_a ?v_l ?v_c ?v_k; (case v_a => k_is); (case v_l => k_is); (case v_c => k_is); (case v_k => k_is))
  (case u_d_law_caught => refine' Pu.defAt_mk ?v_a ?v_l ?v_c ?v_k; (case v_a => k_is); (case v_l => k_is); (case v_c => k_is); (case v_k => k_is))
  (case u_d_is_number => refine' Pu.defAt_mk ?v_a ?v_l ?v_c ?v_k; (case v_a => k_is); (case v_l => k_is); (case v_c => k_is); (case v_k => k_is))
  (case u_d_is_number_from => refine' Pu.defAt_mk ?v_a ?v_l ?v_c ?v_k; (case v_a => k_is); (case v_l => k_is); (case v_c => k_is); (case v_k => k_is))
  (case u_d_is_number_below => refine' Pu.defAt_mk ?v_a ?v_l ?v_c ?v_k; (case v_a => k_is); (case v_l => k_is); (case v_c => k_is); (case v_k => k_is))
  (case u_d_is_ascending => refine' Pu.defAt_mk ?v_a ?v_l ?v_c ?v_k; (case v_a => k_is); (case v_l => k_is); (case v_c => k_is); (case v_k => k_is))
  (case u_d_is_number_of_owners => refine' Pu.defAt_mk ?v_a ?v_l ?v_c ?v_k; (case v_a => k_is); (case v_l => k_is); (case v_c => k_is); (case v_k => k_is))
  (case u_d_are_owners => refine' Pu.defAt_mk ?v_a ?v_l ?v_c ?v_k; (case v_a => k_is); (case v_l => k_is); (case v_c => k_is); (case v_k => k_is))
  (case u_d_has_all => refine' Pu.defAt_mk ?v_a ?v_l ?v_c ?v_k; (case v_a => k_is); (case v_l => k_is); (case v_c => k_is); (case v_k => k_is))
  (case u_d_has_lot => refine' Pu.defAt_mk ?v_a ?v_l ?v_c ?v_k; (case v_a => k_is); (case v_l => k_is); (case v_c => k_is); (case v_k => k_is))
  (case u_d_is_charter => refine' Pu.defAt_mk ?v_a ?v_l ?v_c ?v_k; (case v_a => k_is); (case v_l => k_is); (case v_c => k_is); (case v_k => k_is))
  (case u_d_check_charter => refine' Pu.defAt_mk ?v_a ?v_l ?v_c ?v_k; (case v_a => k_is); (case v_l => k_is); (case v_c => k_is); (case v_k => k_is))
  (case u_d_followers => refine' Pu.defAt_mk ?v_a ?v_l ?v_c ?v_k; (case v_a => k_is); (case v_l => k_is); (case v_c => k_is); (case v_k => k_is))
  (case u_d_heads_signed => refine' Pu.defAt_mk ?v_a ?v_l ?v_c ?v_k; (case v_a => k_is); (case v_l => k_is); (case v_c => k_is); (case v_k => k_is))
  (case u_d_rows_of_choices => refine' Pu.defAt_mk ?v_a ?v_l ?v_c ?v_k; (case v_a => k_is); (case v_l => k_is); (case v_c => k_is); (case v_k => k_is))
  (case u_d_splits_of => refine' Pu.defAt_mk ?v_a ?v_l ?v_c ?v_k; (case v_a => k_is); (case v_l => k_is); (case v_c => k_is); (case v_k => k_is))
  (case u_d_torn_split => refine' Pu.defAt_mk ?v_a ?v_l ?v_c ?v_k; (case v_a => k_is); (case v_l => k_is); (case v_c => k_is); (case v_k => k_is))
  (case u_d_L_sh_sets => refine' Pu.defAt_mk ?v_a ?v_l ?v_c ?v_k; (case v_a => k_is); (case v_l => k_is); (case v_c => k_is); (case v_k => k_is))
  (case u_d_L_sh_in => refine' Pu.defAt_mk ?v_a ?v_l ?v_c ?v_k; (case v_a => k_is); (case v_l => k_is); (case v_c => k_is); (case v_k => k_is))
  (case u_d_L_sh_has => refine' Pu.defAt_mk ?v_a ?v_l ?v_c ?v_k; (case v_a => k_is); (case v_l => k_is); (case v_c => k_is); (case v_k => k_is))
  (case u_d_L_sh_least => refine' Pu.defAt_mk ?v_a ?v_l ?v_c ?v_k; (case v_a => k_is); (case v_l => k_is); (case v_c => k_is); (case v_k => k_is))
  (case u_d_L_sh_block => refine' Pu.defAt_mk ?v_a ?v_l ?v_c ?v_k; (case v_a => k_is); (case v_l => k_is); (case v_c => k_is); (case v_k => k_is))
  (case u_d_L_sh_splits => refine' Pu.defAt_mk ?v_a ?v_l ?v_c ?v_k; (case v_a => k_is); (case v_l => k_is); (case v_c => k_is); (case v_k => k_is))
  (case u_d_L_sh_heads => refine' Pu.defAt_mk ?v_a ?v_l ?v_c ?v_k; (case v_a => k_is); (case v_l => k_is); (case v_c => k_is); (case v_k => k_is))
  (case u_d_L_mixed => refine' Pu.defAt_mk ?v_a ?v_l ?v_c ?v_k; (case v_a => k_is); (case v_l => k_is); (case v_c => k_is); (case v_k => k_is))
  (case u_d_L_sh_lots => refine' Pu.defAt_mk ?v_a ?v_l ?v_c ?v_k; (case v_a => k_is); (case v_l => k_is); (case v_c => k_is); (case v_k => k_is))
  (case u_d_L_sh_charter => refine' Pu.defAt_mk ?v_a ?v_l ?v_c ?v_k; (case v_a => k_is); (case v_l => k_is); (case v_c => k_is); (case v_k => k_is))
  (case u_d_L_sh_any => refine' Pu.defAt_mk ?v_a ?v_l ?v_c ?v_k; (case v_a => k_is); (case v_l => k_is); (case v_c => k_is); (case v_k => k_is))
  (case u_d_lots_of_size => refine' Pu.defAt_mk ?v_a ?v_l ?v_c ?v_k; (case v_a => k_is); (case v_l => k_is); (case v_c => k_is); (case v_k => k_is))
  (case u_d_counting_charter => refine' Pu.defAt_mk ?v_a ?v_l ?v_c ?v_k; (case v_a => k_is); (case v_l => k_is); (case v_c => k_is); (case v_k => k_is))
  (case u_d_L_is_whole => refine' Pu.defAt_mk ?v_a ?v_l ?v_c ?v_k; (case v_a => k_is); (case v_l => k_is); (case v_c => k_is); (case v_k => k_is))
  (case u_d_is_split => refine' Pu.defAt_mk ?v_a ?v_l ?v_c ?v_k; (case v_a => k_is); (case v_l => k_is); (case v_c => k_is); (case v_k => k_is))
  (case u_d_signed_heads => refine' Pu.defAt_mk ?v_a ?v_l ?v_c ?v_k; (case v_a => k_is); (case v_l => k_is); (case v_c => k_is); (case v_k => k_is))
  (case u_d_L_is_truth => refine' Pu.defAt_mk ?v_a ?v_l ?v_c ?v_k; (case v_a => k_is); (case v_l => k_is); (case v_c => k_is); (case v_k => k_is))
  (case u_d_L_sh_torn => refine' Pu.defAt_mk ?v_a ?v_l ?v_c ?v_k; (case v_a => k_is); (case v_l => k_is); (case v_c => k_is); (case v_k => k_is))
  (case u_d_L_k85_is_split => refine' Pu.defAt_mk ?v_a ?v_l ?v_c ?v_k; (case v_a => k_is); (case v_l => k_is); (case v_c => k_is); (case v_k => k_is))
  (case u_d_L_pu_odd => refine' Pu.defAt_mk ?v_a ?v_l ?v_c ?v_k; (case v_a => k_is); (case v_l => k_is); (case v_c => k_is); (case v_k => k_is))
  (case u_d_L_pu_bent => refine' Pu.defAt_mk ?v_a ?v_l ?v_c ?v_k; (case v_a => k_is); (case v_l => k_is); (case v_c => k_is); (case v_k => k_is))
  (case u_n_FIRST_TOO_LONG => k_is)
  (case u_n_MOST_OWNERS => k_is)
  (case u_n_combinations => k_is)
  (case u_z_len => k_is)
  (case u_z_list => k_is)
  (case u_z_tuple => k_is)
  (case u_z_all => k_is)
  (case u_z_any => k_is)
  (case u_z_sum => k_is)
  (case u_z_min => k_is)
  (case u_z_sorted => k_is)
  (case u_z_set => k_is)
  (case u_z_range => k_is)
  (case u_z_enumerate => k_is)
  (case u_z_zip => k_is)
  (case u_z_int => k_is)
  (case u_z_bool => k_is)
  (case u_z_abs => k_is)
  (case u_z_isinstance => k_is)
  (case u_cl =>
    refine' ⟨?w1, ?w2, ?w3, ?w4, ?w5, ?w6, ?w7, ?w8, ?w9, ?w10, ?w11, ?w12, ?w13, ?w14, ?w15, ?w16, ?w17, ?w18⟩
    (case w1 => k_is); (case w2 => k_is); (case w3 => k_exc); (case w4 => k_is); (case w5 => k_is); (case w6 => k_is); (case w7 => k_is); (case w8 => k_is); (case w9 => k_is)
    (case w10 => k_is); (case w11 => k_is); (case w12 => k_is); (case w13 => k_is); (case w14 => kernel_rfl); (case w15 => k_is); (case w16 => k_is); (case w17 => k_is); (case w18 => k_is))
