import PyProof.Rows.All
import Wide.All
import OpenK.AllK
import Wide.FinOn
import HandS.Base
import HandS.Call
import HandS.List
import HandS.Comp
import HandS.Dict
import HandS.Words
import HandS.Lambda
import HandS.Codes
import HandS.Wide
import HandS.IsInst
import HandS.TupAny
import HandS.Style
import HandS.Exc
import HandS.ExcOwn
import HandS.WordsExc
import HandS.ExcIs
import HandS.EndTab
import HandS.ExcValue
import HandS.TupMul
import HandS.MakeKw
import HandS.DictComp
import HandS.Walk
import HandS.More
import HandS.WordsDict
import KE.KDictCopyH
import HandS.CallRecv
import HandS.ListItems
import PySem.Challenge.RW_pursesapart_k23_disks_and_their_copies
set_option Elab.async false
set_option linter.all false
set_option maxRecDepth 100000
set_option maxHeartbeats 0
namespace Pu
open PySem L2
def top (i : Nat) : Stmt := PySem.Challenge.pw_pursesapart_k23_disks_and_their_copies.main.body.getD i (.Pass ⟨0, 0, 0, 0⟩)
abbrev sBegun : Stmt := top 18
abbrev sBlend : Stmt := top 19
abbrev sDraw : Stmt := top 20
abbrev sPick : Stmt := top 21

/-! ### heaps: all stays but at the state's dict d and the list g -/
def Kp (d g : Addr) (H H' : Hp) : Prop := ∀ b o, H b = some o → b ≠ d → b ≠ g → H' b = some o
theorem Kp.refl (d g : Addr) (H : Hp) : Kp d g H H := fun _ _ h _ _ => h
theorem Kp.trans {d g : Addr} {H H1 H2 : Hp} (a : Kp d g H H1) (b : Kp d g H1 H2) : Kp d g H H2 := fun c o h x y => b c o (a c o h x y) x y
theorem Kp.of {d g : Addr} {H H' : Hp} (s : Same H H') : Kp d g H H' := fun c o h _ _ => s c o h
theorem Kp.new {d g p : Addr} {H : Hp} {o : HO} (n : H p = none) : Kp d g H (upd H p o) := fun c u h _ _ => by
  rw [upd_ne (ne_of_none h n)]; exact h
theorem Kp.atD {d g : Addr} {H : Hp} {o : HO} : Kp d g H (upd H d o) := fun c u h x _ => by
  rw [upd_ne x]; exact h
theorem Kp.atG {d g : Addr} {H : Hp} {o : HO} : Kp d g H (upd H g o) := fun c u h _ y => by
  rw [upd_ne y]; exact h
theorem Kp.rd {d g a : Addr} {H H' : Hp} {u : HO} (k : Kp d g H H') (h : Rd H a u) (x : a ≠ d) (y : a ≠ g) : Rd H' a u := by
  rcases h with h | ⟨o, h⟩
  · exact .inl (k _ _ h x y)
  · exact .inr ⟨o, k _ _ h x y⟩
theorem Kp.seqL {K : PySem.W.Frag} {d g a : Addr} {H H' : Hp} {xs : List V} (k : Kp d g H H') (h : SqL K H a xs) (x : a ≠ d) (y : a ≠ g) : SqL K H' a xs := by
  rcases h with h | h
  · exact .inl (k.rd h x y)
  · exact .inr h
theorem Kp.seqT {K : PySem.W.Frag} {d g a : Addr} {H H' : Hp} {xs : List V} (k : Kp d g H H') (h : SqT K H a xs) (x : a ≠ d) (y : a ≠ g) : SqT K H' a xs := by
  rcases h with h | h
  · exact .inl (k.rd h x y)
  · exact .inr h

/-! ### the state of the draws -/
theorem n_gc : ¬ (("great" : Str) = "cells") := by decide +kernel
theorem n_gl : ¬ (("great" : Str) = "left") := by decide +kernel
theorem n_gt : ¬ (("great" : Str) = "turn") := by decide +kernel
theorem n_cl : ¬ (("cells" : Str) = "left") := by decide +kernel
theorem n_ct : ¬ (("cells" : Str) = "turn") := by decide +kernel
theorem n_lt : ¬ (("left" : Str) = "turn") := by decide +kernel
theorem n_tl : ¬ (("turn" : Str) = "left") := by decide +kernel
def stk (g c : Addr) (l t : Int) : List (Key × V) := [(.inr "great", .ref g), (.inr "cells", .ref c), (.inr "left", .int l), (.inr "turn", .int t)]
theorem stk_great (g c : Addr) (l t : Int) : valV (stk g c l t) (.inr "great" : Key) = some (.ref g) := valV_pos rfl
theorem stk_cells (g c : Addr) (l t : Int) : valV (stk g c l t) (.inr "cells" : Key) = some (.ref c) :=
  (valV_neg fun e => n_gc (Sum.inr.inj e)).trans (valV_pos rfl)
theorem stk_left (g c : Addr) (l t : Int) : valV (stk g c l t) (.inr "left" : Key) = some (.int l) :=
  (valV_neg fun e => n_gl (Sum.inr.inj e)).trans ((valV_neg fun e => n_cl (Sum.inr.inj e)).trans (valV_pos rfl))
theorem stk_turn (g c : Addr) (l t : Int) : valV (stk g c l t) (.inr "turn" : Key) = some (.int t) :=
  (valV_neg fun e => n_gt (Sum.inr.inj e)).trans ((valV_neg fun e => n_ct (Sum.inr.inj e)).trans ((valV_neg fun e => n_lt (Sum.inr.inj e)).trans (valV_pos rfl)))
theorem stk_putL (g c : Addr) (l t z : Int) : putK (stk g c l t) (.inr "left" : Key) (.int z) = stk g c z t := by
  unfold putK
  rw [valV_any, stk_left]
  rw [if_pos (by rfl)]
  simp only [stk, List.map_cons, List.map_nil, Sum.inr.injEq, n_gl, n_cl, n_tl, if_true, if_false]
theorem stk_putT (g c : Addr) (l t z : Int) : putK (stk g c l t) (.inr "turn" : Key) (.int z) = stk g c l z := by
  unfold putK
  rw [valV_any, stk_turn]
  rw [if_pos (by rfl)]
  simp only [stk, List.map_cons, List.map_nil, Sum.inr.injEq, n_gt, n_ct, n_lt, if_true, if_false]
theorem stk_merge (g c : Addr) (l t : Int) : mergeK [] (stk g c l t) = stk g c l t := by
  have e1 : putK ([] : List (Key × V)) (.inr "great") (.ref g) = [(.inr "great", .ref g)] := putK_new _ rfl
  have e2 : putK ([(.inr "great", .ref g)] : List (Key × V)) (.inr "cells") (.ref c) = [(.inr "great", .ref g), (.inr "cells", .ref c)] :=
    putK_new _ ((valV_neg fun e => n_gc (Sum.inr.inj e)).trans rfl)
  have e3 : putK ([(.inr "great", .ref g), (.inr "cells", .ref c)] : List (Key × V)) (.inr "left") (.int l) = [(.inr "great", .ref g), (.inr "cells", .ref c), (.inr "left", .int l)] :=
    putK_new _ ((valV_neg fun e => n_gl (Sum.inr.inj e)).trans ((valV_neg fun e => n_cl (Sum.inr.inj e)).trans rfl))
  have e4 : putK ([(.inr "great", .ref g), (.inr "cells", .ref c), (.inr "left", .int l)] : List (Key × V)) (.inr "turn") (.int t) = stk g c l t :=
    putK_new _ ((valV_neg fun e => n_gt (Sum.inr.inj e)).trans ((valV_neg fun e => n_ct (Sum.inr.inj e)).trans ((valV_neg fun e => n_lt (Sum.inr.inj e)).trans rfl)))
  show putK (putK (putK (putK ([] : List (Key × V)) (.inr "great") (.ref g)) (.inr "cells") (.ref c)) (.inr "left") (.int l)) (.inr "turn") (.int t) = _
  rw [e1, e2, e3, e4]
/-- the state stands at d: its lists at g and c, T the most turns that were -/
structure StA (H : Hp) (d g c : Addr) (T : Int) : Prop where
  dk : ∃ l t, H d = some (.dK (stk g c l t)) ∧ 0 ≤ l ∧ 0 ≤ t ∧ t ≤ T
  gr : ∃ gs : List Int, H g = some (.lst (gs.map V.int)) ∧ ∀ z ∈ gs, 0 ≤ z
  ce : ∃ cs : List Int, H c = some (.lst (cs.map V.int)) ∧ ∀ z ∈ cs, 0 ≤ z
  gc : g ≠ c
theorem StA.dg {H : Hp} {d g c : Addr} {T : Int} (S : StA H d g c T) : d ≠ g := by
  obtain ⟨l, t, h, _⟩ := S.dk; obtain ⟨gs, h2, _⟩ := S.gr
  exact ne_of h h2 (by intro z; cases z)
theorem StA.dc {H : Hp} {d g c : Addr} {T : Int} (S : StA H d g c T) : d ≠ c := by
  obtain ⟨l, t, h, _⟩ := S.dk; obtain ⟨gs, h2, _⟩ := S.ce
  exact ne_of h h2 (by intro z; cases z)
theorem StA.mono {H : Hp} {d g c : Addr} {T T' : Int} (S : StA H d g c T) (h : T ≤ T') : StA H d g c T' := by
  obtain ⟨l, t, h1, h2, h3, h4⟩ := S.dk
  exact ⟨⟨l, t, h1, h2, h3, Int.le_trans h4 h⟩, S.gr, S.ce, S.gc⟩
theorem StA.same {H H' : Hp} {d g c : Addr} {T : Int} (S : StA H d g c T) (s : Same H H') : StA H' d g c T := by
  obtain ⟨l, t, h1, h2, h3, h4⟩ := S.dk
  obtain ⟨gs, h5, h6⟩ := S.gr
  obtain ⟨cs, h7, h8⟩ := S.ce
  exact ⟨⟨l, t, s _ _ h1, h2, h3, h4⟩, ⟨gs, s _ _ h5, h6⟩, ⟨cs, s _ _ h7, h8⟩, S.gc⟩
theorem StA.new {H : Hp} {d g c p : Addr} {T : Int} {o : HO} (S : StA H d g c T) (n : H p = none) : StA (upd H p o) d g c T :=
  S.same fun b u e => by rw [upd_ne (ne_of_none e n)]; exact e
/-- the bound of the turns: far beyond what a law draws -/
abbrev TB : Int := 1000000000000

def spBegun (K : PySem.W.Frag) : Sp := fun vs H Q _ => ∃ (a : Addr) (ns : List Int), vs = [.ref a] ∧ SqL K H a (ns.map V.int) ∧ ns.length ≤ 1000 ∧
  ∀ (d g c : Addr) (H' : Hp), Same H H' → H d = none → H g = none → H c = none → StA H' d g c 0 → Q (.ref d) H'
def spBlend : Sp := fun vs H Q _ => ∃ (d g c : Addr) (T : Int), vs = [.ref d] ∧ StA H d g c T ∧ T < TB ∧
  ∀ (f : Int) (H' : Hp), 0 ≤ f → Kp d g H H' → StA H' d g c (T + 1) → Q (.int f) H'
def spDraw : Sp := fun vs H Q _ => ∃ (d g c : Addr) (T n : Int), vs = [.ref d, .int n] ∧ StA H d g c T ∧ T < TB ∧ 0 < n ∧ n ≤ 1000000000000000000 ∧
  ∀ (r : Int) (H' : Hp), 0 ≤ r → r < n → Kp d g H H' → StA H' d g c (T + 1) → Q (.int r) H'
def spPick (K : PySem.W.Frag) : Sp := fun vs H Q _ => ∃ (d g c p : Addr) (T : Int) (xs : List V), vs = [.ref d, .ref p] ∧ StA H d g c T ∧ T < TB ∧ (SqL K H p xs ∨ SqT K H p xs) ∧ p ≠ d ∧ p ≠ g ∧ xs ≠ [] ∧ xs.length ≤ 100000 ∧
  ∀ (x : V) (H' : Hp), x ∈ xs → Kp d g H H' → StA H' d g c (T + 1) → Q x H'
end Pu

namespace Pu
open PySem L2
theorem getS {H : Hp} {d : Addr} {kvs : List (Key × V)} {k : Key} {v : V} (h : H d = some (.dK kvs)) (e : valV kvs k = some v) : DGet H d (kV k) (some v) := e ▸ DGet.k h
def primes : List Int := [2147483249, 2147483237, 2147483179]
theorem prime_at {i : Nat} {y : V} (h : (primes.map V.int)[i]? = some y) : ∃ z : Int, y = .int z ∧ 0 < z ∧ z < 2147483648 := by
  match i, h with
  | 0, h => exact ⟨_, (Option.some.inj h).symm, by decide, by decide⟩
  | 1, h => exact ⟨_, (Option.some.inj h).symm, by decide, by decide⟩
  | 2, h => exact ⟨_, (Option.some.inj h).symm, by decide, by decide⟩
  | n + 3, h => cases h
theorem int_at {ns : List Int} {i : Nat} {y : V} (h : (ns.map V.int)[i]? = some y) : ∃ z, ns[i]? = some z ∧ y = .int z := by
  rw [List.getElem?_map] at h
  cases e : ns[i]? with
  | none => rw [e] at h; cases h
  | some z => rw [e] at h; exact ⟨z, rfl, (Option.some.inj h).symm⟩
section
variable {P : Program} {w : World} {K : PySem.W.Frag} {mg : Str → Option Value} {base : Heap}
theorem scBl : FnScope ["state", "turn", "found", "prime", "blend", "cell"] ["state"] (defScope sBlend) := ⟨rfl, rfl, rfl, by decide +kernel, rfl, by decide +kernel, by decide +kernel⟩
theorem ok_blend {f : Addr} {fd : FuncData} (F : Fun K "_law_blended" "_law_blended" sBlend f fd) (mi : mg "int" = none) : FnOk P w K mg base CX0 1 f fd ["state"] spBlend := by
  refine F.ok scBl (fun vs H Q E h => ?_) (fun cdv A outer s H vs Q E hr h => ?_)
  · obtain ⟨d, g, c, T, rfl, _⟩ := h
    rfl
  · obtain ⟨d, g, c, T, rfl, S, hT, k⟩ := h
    have hu := hu_of hr
    have hT' : T < 1000000000000 := hT
    obtain ⟨⟨l, t, hd, l0, t0, tT⟩, ⟨gs, hg, g0⟩, ⟨cs, hc, c0⟩, gc⟩ := id S
    refine ⟨_, pss_cons (ps_par (i := 1) (j := 2) rfl scBl.nd rfl rfl (by decide) rfl rfl (pa_cons (pe_op op_add (pe_dget hu (pv 0) pe_str (fun _ _ => rfl)) pe_int) (pa_cons pe_int pa_nil)) (by rfl))
      (pss_cons (ps_dput hu (pv 0) pe_str (pv 1) rfl)
      (pss_cons (ps_for PassesOwn.never rfl (pi_list (pe_lst (pa_cons pe_int (pa_cons pe_int (pa_cons pe_int pa_nil))))) (pg_name (i := 3) scBl.nd rfl (Or.inl rfl))
        (pss_cons (ps_set (i := 4) scBl.nd rfl (Or.inl rfl) (pe_op op_add (pe_op op_mul pe_int (pv 1)) (pe_op op_fdiv (pv 3) pe_int)))
        (pss_cons (ps_for PassesOwn.never rfl (pi_list (pe_dget hu (pv 0) pe_str (fun _ _ => rfl))) (pg_name (i := 5) scBl.nd rfl (Or.inl rfl))
          (pss_one (ps_set (i := 4) scBl.nd rfl (Or.inl rfl) (pe_op op_mod (pe_callTy call_int1 (by rfl) mi (by decide +kernel) (pa_cons (pe_op op_add (pe_op op_add (pe_op op_mul (pv 4) pe_int) (pv 5)) (pv 1)) pa_nil)) (pv 3)))))
        (pss_one (ps_set (i := 2) scBl.nd rfl (Or.inl rfl) (pe_op op_add (pe_op op_mul (pv 2) pe_int) (pe_op op_mod (pe_callTy call_int1 (by rfl) mi (by decide +kernel) (pa_cons (pe_op op_pow (pv 4) pe_int) pa_nil)) (pv 3))))))))
      (pss_one (ps_ret (pv 2))))), ?_⟩
    refine ⟨_, rfl, d, .int t, rfl, getS hd (stk_turn g c l t), t, 1, rfl, rfl, .int (t + 1), .int 0, rfl, ?_⟩
    refine ⟨_, rfl, _, rfl, d, _, rfl, DPut.k (k := Sum.inr "turn") hd (by show 4 < sizeLine; decide), ?_⟩
    rw [stk_putT]
    have hdc := S.dc
    have hdg := S.dg
    refine ⟨(by show 3 ≤ sizeLine; decide), fun p hp => ?_⟩
    have np : H p = none := by
      by_cases e : p = d
      · rw [e, upd_same] at hp; cases hp
      · rw [upd_ne e] at hp; exact hp
    have pd : d ≠ p := ne_of_none hd np
    have pg : g ≠ p := ne_of_none hg np
    have pc : c ≠ p := ne_of_none hc np
    obtain ⟨H2, eH⟩ : ∃ H2, H2 = upd (upd H d (.dK (stk g c l (t + 1)))) p (.lst [V.int 2147483249, V.int 2147483237, V.int 2147483179]) := ⟨_, rfl⟩
    have hd2 : H2 d = some (.dK (stk g c l (t + 1))) := by rw [eH, upd_ne pd, upd_same]
    have hg2 : H2 g = some (.lst (gs.map V.int)) := by rw [eH, upd_ne pg, upd_ne hdg.symm]; exact hg
    have hc2 : H2 c = some (.lst (cs.map V.int)) := by rw [eH, upd_ne pc, upd_ne hdc.symm]; exact hc
    have kp : Kp d g H H2 := by rw [eH]; exact Kp.trans Kp.atD (Kp.new hp)
    have hp2 : H2 p = some (.lst (primes.map V.int)) := by rw [eH]; exact upd_same
    rw [← eH]
    clear eH
    refine ⟨p, rfl, ⟨_, SqL.of hp2⟩, for_list (K := K) (a := p) (xs := primes.map V.int)
      (fun i σ H' => H2 = H' ∧ ∃ (f : Int) (o3 o4 o5 : Option V), σ = [some (.ref d), some (.int (t + 1)), some (.int f), o3, o4, o5] ∧ 0 ≤ f)
      ⟨rfl, 0, none, none, none, rfl, Int.le_refl 0⟩ (fun i σ H' _ h => by obtain ⟨rfl, _⟩ := h; exact SqL.of hp2) ?_ ?_⟩
    · rintro i y σ H' hi ⟨rfl, f, o3, o4, o5, rfl, hf⟩
      obtain ⟨z, rfl, z0, z1⟩ := prime_at hi
      refine ⟨_, rfl, _, _, rfl, rfl, .inl ⟨by decide, by decide⟩, _, rfl, z, 73, rfl, rfl, ⟨by decide, by decide⟩, _, _, rfl, rfl, ?_⟩
      -- for cell in state['cells']
      have q0 : (0 : Int) ≤ z / 73 := Int.ediv_nonneg (by omega) (by decide)
      have q1 : z / 73 ≤ z := Int.ediv_le_self _ (by omega)
      refine ⟨_, rfl, d, _, rfl, getS hd2 (stk_cells g c l (t + 1)), c, rfl, ⟨_, SqL.of hc2⟩, for_list (K := K) (a := c) (xs := cs.map V.int)
        (fun j σ H' => H2 = H' ∧ ∃ (b : Int) (o5 : Option V), σ = [some (.ref d), some (.int (t + 1)), some (.int f), some (.int z), some (.int b), o5] ∧ 0 ≤ b ∧ b < 2 ^ 64)
        ⟨rfl, _, o5, rfl, by omega, by omega⟩ (fun i σ H' _ h => by obtain ⟨rfl, _⟩ := h; exact SqL.of hc2) ?_ ?_⟩
      · rintro j x σ H' hj ⟨rfl, b, o5, rfl, b0, b1⟩
        obtain ⟨e, _, rfl⟩ := int_at hj
        refine ⟨_, rfl, _, _, rfl, rfl, .inr ⟨by decide, by decide⟩, _, rfl, _, e, rfl, rfl, _, rfl, _, t + 1, rfl, rfl, .inl ⟨_, rfl, _, rfl, _, z, rfl, rfl, z0, ?_⟩⟩
        have m0 := Int.emod_nonneg (b * 69621 + e + (t + 1)) (show z ≠ 0 by omega)
        have m1 := Int.emod_lt_of_pos (b * 69621 + e + (t + 1)) z0
        exact ⟨rfl, _, _, rfl, m0, by omega⟩
      · rintro σ H' ⟨rfl, b, o5, rfl, b0, b1⟩
        refine ⟨_, rfl, _, _, rfl, rfl, .inr ⟨by decide, by decide⟩, _, rfl, b, 5, rfl, rfl, ⟨by decide, by decide, by omega⟩, .inl ⟨_, rfl, _, rfl, _, z, rfl, rfl, z0, _, _, rfl, rfl, ?_⟩⟩
        have m0 := Int.emod_nonneg (b ^ (5 : Int).toNat) (show z ≠ 0 by omega)
        exact ⟨rfl, _, _, _, _, rfl, by omega⟩
    · rintro σ H' ⟨rfl, f, o3, o4, o5, rfl, hf⟩
      refine ⟨_, rfl, ?_⟩
      exact k f _ hf kp ⟨⟨l, t + 1, hd2, l0, by omega, by omega⟩, ⟨gs, hg2, g0⟩, ⟨cs, hc2, c0⟩, gc⟩
end
end Pu

namespace Pu
open PySem L2
theorem dp_ints {K : PySem.W.Frag} {H : Hp} : ∀ gs : List Int, DpAll K H (gs.map V.int) (gs.map PyData.int)
  | [] => .nil
  | i :: r => .cons (.int i) (dp_ints r)
theorem lay_ints : ∀ gs : List Int, PyData.canLayAll0 (gs.map PyData.int) = true
  | [] => rfl
  | i :: r => by
    show (PyData.canLay0 (.int i) && PyData.canLayAll0 (r.map PyData.int)) = true
    rw [lay_ints r]; rfl
theorem dep_ints : ∀ gs : List Int, PyData.depthAll (gs.map PyData.int) = 0
  | [] => rfl
  | i :: r => by
    show max (PyData.depth (.int i)) (PyData.depthAll (r.map PyData.int)) = 0
    rw [dep_ints r]; rfl
theorem shaped_ints (gs : List Int) : SeqAt.shaped (.list (gs.map PyData.int)) = true := by
  show (PyData.canLayAll0 (gs.map PyData.int) && decide (PyData.depthAll (gs.map PyData.int) + 1 ≤ 64)) = true
  rw [lay_ints, dep_ints]; rfl
theorem eqv_nil (gs : List Int) : PyData.eqv (.list (gs.map PyData.int)) (.list []) = gs.isEmpty := by
  cases gs <;> rfl
section
variable {P : Program} {w : World} {K : PySem.W.Frag} {mg : Str → Option Value} {base : Heap}
theorem scDr : FnScope ["state", "size_here", "found"] ["state", "size_here"] (defScope sDraw) := ⟨rfl, rfl, rfl, by decide +kernel, rfl, by decide +kernel, by decide +kernel⟩
/-- behind a bound on the state: what the draw does with what is left -/
theorem ok_draw {f fB : Addr} {fd fdB : FuncData} (F : Fun K "_law_draw" "_law_draw" sDraw f fd) (mi : mg "int" = none)
    (GB : FnOk P w K mg base CX0 1 fB fdB ["state"] spBlend) (bB : Binds K fdB ["state"] []) (kB : PySem.W.keepIn K (.ref fB) = true) (mB : mg "_law_blended" = some (.ref fB)) :
    FnOk P w K mg base CX0 2 f fd ["state", "size_here"] spDraw := by
  refine F.ok scDr (fun vs H Q E h => ?_) (fun cdv A outer s H vs Q E hr h => ?_)
  · obtain ⟨d, g, c, T, n, rfl, _⟩ := h
    rfl
  · obtain ⟨d, g, c, T, n, rfl, S, hT, n0, n1, k⟩ := h
    have hu := hu_of hr
    obtain ⟨⟨l, t, hd, l0, t0, tT⟩, ⟨gs, hg, g0⟩, ⟨cs, hc, c0⟩, gc⟩ := id S
    have hdg := S.dg
    refine ⟨_, C8.pss_cut (ps_if (pt_cmpR op_eq (pe_dget hu (pv 0) pe_str (fun _ _ => rfl)) pe_int (nomark _))
        (pss_one (ps_dput hu (pv 0) pe_str (pe_ifExp (pt_cmpR (op_neD hr.units) (pe_dget hu (pv 0) pe_str (fun _ _ => rfl)) (pe_lst pa_nil) (nomark _))
          (pe_bm PySem.F.plainAttrs_list PySem.F.slot_list_pop PySem.F.type_list_pop mt_popAt (pe_dget hu (pv 0) pe_str (fun _ _ => rfl)) (pa_cons pe_int pa_nil))
          (pe_call GB hr rfl mB kB bB .nil pass0 (pa_cons (pv 0) pa_nil))) rfl)) pss_nil)
      (pss_cons (ps_set (i := 2) scDr.nd rfl (Or.inl rfl) (pe_op op_mod (pe_callTy call_int1 (by rfl) mi (by decide +kernel) (pa_cons (pe_dget hu (pv 0) pe_str (fun _ _ => rfl)) pa_nil)) (pv 1)))
      (pss_cons (ps_dput hu (pv 0) pe_str (pe_op op_fdivW (pe_dget hu (pv 0) pe_str (fun _ _ => rfl)) (pv 1)) rfl)
      (pss_one (ps_ret (pv 2))))), ?_⟩
    -- between: z is left
    refine ⟨fun σ' H' => σ' = [some (.ref d), some (.int n), none] ∧ Kp d g H H' ∧ StA H' d g c (T + 1), ?_, ?_⟩
    · refine ⟨_, rfl, d, _, rfl, getS hd (stk_left g c l t), rfl, _, rfl, ?_⟩
      refine ite2 (fun _ => ?_) (fun _ => ?_)
      · refine ⟨_, rfl, d, _, rfl, getS hd (stk_great g c l t), (by show 0 ≤ sizeLine; exact Nat.zero_le _), fun p hp => ?_⟩
        have pg : g ≠ p := ne_of_none hg hp
        have pd : d ≠ p := ne_of_none hd hp
        have pc : c ≠ p := ne_of_none hc hp
        have kp : Kp d g H (upd H p (.lst [])) := Kp.new hp
        have hg1 : (upd H p (.lst [])) g = some (.lst (gs.map V.int)) := by rw [upd_ne pg]; exact hg
        have hd1 : (upd H p (.lst [])) d = some (.dK (stk g c l t)) := by rw [upd_ne pd]; exact hd
        have hc1 : (upd H p (.lst [])) c = some (.lst (cs.map V.int)) := by rw [upd_ne pc]; exact hc
        have S1 : StA (upd H p (.lst [])) d g c T := S.new hp
        refine ⟨.list (gs.map PyData.int), .list [], .lst (SqL.of hg1) (dp_ints gs), .lst (SqL.of upd_same) .nil, shaped_ints gs, shaped_ints [], _, rfl, ?_⟩
        rw [eqv_nil]
        generalize upd H p (.lst []) = H1 at kp hg1 hd1 hc1 S1
        cases gs with
        | nil =>
          refine iteF ?_
          refine ⟨_, rfl, d, g, c, T, rfl, S1, hT, fun f H2 f0 kp2 S2 => ?_⟩
          obtain ⟨l2, t2, hd2, _, t20, tT2⟩ := S2.dk
          refine ⟨_, rfl, d, _, rfl, DPut.k (k := Sum.inr "left") hd2 (by show 4 < sizeLine; decide), ?_⟩
          rw [stk_putL]
          refine ⟨rfl, (kp.trans kp2).trans Kp.atD, ⟨f, t2, upd_same, f0, t20, tT2⟩, ?_, ?_, gc⟩
          · obtain ⟨gs', h1, h2⟩ := S2.gr
            exact ⟨gs', by rw [upd_ne hdg.symm]; exact h1, h2⟩
          · obtain ⟨cs', h1, h2⟩ := S2.ce
            exact ⟨cs', by rw [upd_ne S.dc.symm]; exact h1, h2⟩
        | cons z r =>
          refine iteT ?_
          refine ⟨_, rfl, d, _, rfl, getS hd1 (stk_great g c l t), .inl ⟨rfl, _, SqL.of hg1⟩, g, _, 0, 0, .int z, rfl, rfl, hg1, by decide, by decide, (ixN_seq (by unfold ixN; simp)).1, rfl, ?_⟩
          have hd2 : (upd H1 g (.lst (((z :: r).map V.int).eraseIdx 0))) d = some (.dK (stk g c l t)) := by rw [upd_ne hdg]; exact hd1
          refine ⟨_, rfl, d, _, rfl, DPut.k (k := Sum.inr "left") hd2 (by show 4 < sizeLine; decide), ?_⟩
          rw [stk_putL]
          refine ⟨rfl, (kp.trans Kp.atG).trans Kp.atD, ⟨z, t, upd_same, g0 z List.mem_cons_self, t0, by omega⟩, ⟨r, ?_, fun y hy => g0 y (List.mem_cons_of_mem _ hy)⟩, ⟨cs, ?_, c0⟩, gc⟩
          · rw [upd_ne hdg.symm]; exact upd_same
          · rw [upd_ne S.dc.symm, upd_ne gc.symm]; exact hc1
      · exact ⟨rfl, Kp.refl d g H, S.mono (by omega)⟩
    · rintro σ' H' ⟨rfl, kp, S'⟩
      obtain ⟨z, t', hd1, z0, t0', tT'⟩ := S'.dk
      have m0 := Int.emod_nonneg z (show n ≠ 0 by omega)
      have m1 := Int.emod_lt_of_pos z n0
      refine ⟨_, rfl, d, _, rfl, getS hd1 (stk_left g c z t'), .inl ⟨z, rfl, _, rfl, z, n, rfl, rfl, n0, ?_⟩⟩
      refine ⟨_, rfl, d, _, rfl, getS hd1 (stk_left g c z t'), _, rfl, z, n, rfl, rfl, wide_div (b := 60) n0 (by omega) (by decide) (by decide), ?_⟩
      refine ⟨_, rfl, d, _, rfl, DPut.k (k := Sum.inr "left") hd1 (by show 4 < sizeLine; decide), ?_⟩
      rw [stk_putL]
      refine ⟨_, rfl, ?_⟩
      refine k _ _ m0 m1 (kp.trans Kp.atD) ⟨⟨z / n, t', upd_same, Int.ediv_nonneg z0 (by omega), t0', tT'⟩, ?_, ?_, gc⟩
      · obtain ⟨gs', h1, h2⟩ := S'.gr
        exact ⟨gs', by rw [upd_ne hdg.symm]; exact h1, h2⟩
      · obtain ⟨cs', h1, h2⟩ := S'.ce
        exact ⟨cs', by rw [upd_ne S.dc.symm]; exact h1, h2⟩
end
end Pu

namespace Pu
open PySem L2
section
variable {P : Program} {w : World} {K : PySem.W.Frag} {mg : Str → Option Value} {base : Heap}
theorem scPi : FnScope ["state", "several"] ["state", "several"] (defScope sPick) := ⟨rfl, rfl, rfl, by decide +kernel, rfl, by decide +kernel, by decide +kernel⟩
theorem ok_pick {f fD : Addr} {fd fdD : FuncData} (F : Fun K "_law_pick" "_law_pick" sPick f fd) (ml : mg "len" = none)
    (GD : FnOk P w K mg base CX0 2 fD fdD ["state", "size_here"] spDraw) (bD : Binds K fdD ["state", "size_here"] []) (kD : PySem.W.keepIn K (.ref fD) = true) (mD : mg "_law_draw" = some (.ref fD)) :
    FnOk P w K mg base CX0 3 f fd ["state", "several"] (spPick K) := by
  refine F.ok scPi (fun vs H Q E h => ?_) (fun cdv A outer s H vs Q E hr h => ?_)
  · obtain ⟨d, g, c, p, T, xs, rfl, _⟩ := h
    rfl
  · obtain ⟨d, g, c, p, T, xs, rfl, S, hT, hx, pd, pg, x0, x1, k⟩ := h
    refine ⟨_, pss_one (ps_ret (pe_ix ix_seq (pv 1) (pe_call GD hr rfl mD kD bD .nil pass0 (pa_cons (pv 0) (pa_cons (pe_callB call_len_seq (by rfl) ml boot_len (pa_cons (pv 1) pa_nil)) pa_nil))) (fun _ _ => rfl))), ?_⟩
    have l0 : 0 < xs.length := List.length_pos_iff.mpr x0
    refine ⟨_, rfl, _, rfl, _, rfl, p, xs, rfl, hx, d, g, c, T, _, rfl, S, hT, by omega, by omega, fun r H' r0 r1 kp S' => ?_⟩
    have hk : r.toNat < xs.length := by omega
    have e : atI xs r = some xs[r.toNat] := by
      have q := atI_nat (xs := xs) (j := r.toNat) (v := xs[r.toNat]) (List.getElem?_eq_getElem hk)
      rw [show ((r.toNat : Nat) : Int) = r by omega] at q
      exact q
    rcases hx with hx | hx
    · exact .inl ⟨p, xs, r, _, rfl, rfl, kp.seqL hx pd pg, e, k _ _ (List.getElem_mem hk) kp S'⟩
    · exact .inr (.inl ⟨p, xs, r, _, rfl, rfl, kp.seqT hx pd pg, e, k _ _ (List.getElem_mem hk) kp S'⟩)

theorem scBe : FnScope ["script", "great", "cell"] ["script"] (defScope sBegun) := ⟨rfl, rfl, rfl, by decide +kernel, rfl, by decide +kernel, by decide +kernel⟩
theorem abs_nn (z : Int) : 0 ≤ (if z < 0 then -z else z) := by split <;> omega
theorem ok_begun {f : Addr} {fd : FuncData} (F : Fun K "_law_begun" "_law_begun" sBegun f fd) (ma : mg "abs" = none) : FnOk P w K mg base CX0 1 f fd ["script"] (spBegun K) := by
  refine F.ok scBe (fun vs H Q E h => ?_) (fun cdv A outer s H vs Q E hr h => ?_)
  · obtain ⟨a, ns, rfl, _⟩ := h
    rfl
  · obtain ⟨a, ns, rfl, hS, hl, k⟩ := h
    refine ⟨_, pss_cons (ps_setLc (i := 1) (own := [("cell", 2)]) (g := gName 2) rfl scBe.nd rfl rfl (sw_true rfl rfl rfl (by decide +kernel)) (pi_list (pv 0)) (blkOk_by (own := [("cell", 2)]) (N := ["script", "great", "cell"]) (sc := defScope sBegun) (by decide +kernel)) (fun _ _ _ _ _ => pg_name (i := 2) scBe.nd rfl (Or.inl rfl))
          (fun _ _ _ _ _ => pts_one (pt_cmpR op_ge (pe_callB call_abs (by rfl) ma (by decide +kernel) (pa_cons (pv 2) pa_nil)) (pe_op op_pow pe_int pe_int) (nomark _)))
          (fun _ _ _ _ _ => pe_op op_sub (pe_callB call_abs (by rfl) ma (by decide +kernel) (pa_cons (pv 2) pa_nil)) (pe_op op_pow pe_int pe_int)))
      (pss_one (ps_ret (pe_disp (pps_cons pe_str (pv 1) (pps_cons pe_str (pe_lc (own := [("cell", 2)]) (g := gName 2) rfl scBe.nd (pi_list (pv 0)) (blkOk_by (own := [("cell", 2)]) (N := ["script", "great", "cell"]) (sc := defScope sBegun) (by decide +kernel)) (fun _ _ _ _ _ => pg_name (i := 2) scBe.nd rfl (Or.inl rfl)) (fun _ _ _ _ _ => pts_nil)
          (fun _ _ _ _ _ => pe_callB call_abs (by rfl) ma (by decide +kernel) (pa_cons (pv 2) pa_nil))) (pps_cons pe_str pe_int (pps_cons pe_str pe_int pps_nil)))) (by rfl) (by rfl) (fun z => by cases z) (by decide)))), ?_⟩
    refine ⟨_, rfl, a, rfl, ⟨_, hS⟩, fun D hD => lc_list (K := K) (a := a) (xs := ns.map V.int) (fun i H' => ∃ gs : List Int, H' = upd H D (.lst (gs.map V.int)) ∧ (∀ z ∈ gs, 0 ≤ z) ∧ gs.length ≤ i)
      ⟨[], rfl, (fun z hz => nomatch hz), Nat.le_refl 0⟩ (fun i H' _ ⟨gs, e, _⟩ => by rw [e]; exact Same.seq (fun b o q => by rw [upd_ne (ne_of_none q hD)]; exact q) hS) ?_ ?_⟩
    · rintro i x H' hx ⟨gs, rfl, g0, gl⟩
      have hil : i < ns.length := by have := (List.getElem?_eq_some_iff.mp hx).1; rwa [List.length_map] at this
      obtain ⟨z, hz, rfl⟩ := int_at hx
      refine ⟨rfl, _, rfl, z, rfl, 10, 18, rfl, rfl, ⟨by decide, by decide, by decide⟩, _, _, rfl, rfl, _, rfl, ?_⟩
      refine ite2 (fun c => ?_) (fun _ => ?_)
      · have c' := of_decide_eq_true c
        refine ⟨_, rfl, z, rfl, 10, 18, rfl, rfl, ⟨by decide, by decide, by decide⟩, _, _, rfl, rfl, _, upd_same, ?_, gs ++ [(if z < 0 then -z else z) - 10 ^ (18 : Int).toNat], ?_, ?_, ?_⟩
        · exact small1000 (by rw [List.length_map]; omega)
        · rw [upd_upd, List.map_append]; rfl
        · intro y hy
          rcases List.mem_append.mp hy with hy | hy
          · exact g0 y hy
          · have e : y = _ := List.mem_singleton.mp hy
            rw [e]; omega
        · rw [List.length_append]; exact Nat.succ_le_succ gl
      · exact ⟨gs, rfl, g0, Nat.le_succ_of_le gl⟩
    · rintro H' ⟨gs, rfl, g0, gl⟩
      have nD : a ≠ D ∨ True := .inr trivial
      have s1 : Same H (upd H D (.lst (gs.map V.int))) := fun b o q => by rw [upd_ne (ne_of_none q hD)]; exact q
      refine fun p hp => ?_
      have np : H p = none := s1.free hp
      have pD : D ≠ p := fun e => by rw [← e, upd_same] at hp; cases hp
      have s2 : Same (upd H D (.lst (gs.map V.int))) (upd (upd H D (.lst (gs.map V.int))) p (.dK [])) := fun b o q => by rw [upd_ne (ne_of_none q hp)]; exact q
      refine ⟨_, rfl, _, rfl, a, rfl, ⟨_, (s1.trans s2).seq hS⟩, fun D2 hD2 => ?_⟩
      have nD2 : H D2 = none := (s1.trans s2).free hD2
      have D2D : D ≠ D2 := fun e => by rw [← e, upd_ne pD, upd_same] at hD2; cases hD2
      have D2p : p ≠ D2 := fun e => by rw [← e, upd_same] at hD2; cases hD2
      have s3 : ∀ o, Same (upd (upd H D (.lst (gs.map V.int))) p (.dK [])) (upd (upd (upd H D (.lst (gs.map V.int))) p (.dK [])) D2 o) := fun o' b o q => by rw [upd_ne (ne_of_none q hD2)]; exact q
      refine lc_list (K := K) (a := a) (xs := ns.map V.int) (fun i H' => ∃ cs : List Int, H' = upd (upd (upd H D (.lst (gs.map V.int))) p (.dK [])) D2 (.lst (cs.map V.int)) ∧ (∀ z ∈ cs, 0 ≤ z) ∧ cs.length ≤ i)
        ⟨[], rfl, (fun z hz => nomatch hz), Nat.le_refl 0⟩ (fun i H' _ ⟨cs, e, _⟩ => by rw [e]; exact ((s1.trans s2).trans (s3 _)).seq hS) ?_ ?_
      · rintro i x H' hx ⟨cs, rfl, c0, cl⟩
        have hil : i < ns.length := by have := (List.getElem?_eq_some_iff.mp hx).1; rwa [List.length_map] at this
        obtain ⟨z, hz, rfl⟩ := int_at hx
        refine ⟨rfl, ?_⟩
        dsimp only [tYes]
        refine iteT ?_
        refine ⟨_, rfl, z, rfl, _, upd_same, ?_, cs ++ [if z < 0 then -z else z], ?_, ?_, ?_⟩
        · exact small1000 (by rw [List.length_map]; omega)
        · rw [upd_upd, List.map_append]; rfl
        · intro y hy
          rcases List.mem_append.mp hy with hy | hy
          · exact c0 y hy
          · have e : y = _ := List.mem_singleton.mp hy
            rw [e]; exact abs_nn z
        · rw [List.length_append]; exact Nat.succ_le_succ cl
      · rintro H' ⟨cs, rfl, c0, cl⟩
        refine ⟨by rw [upd_ne D2p, upd_same], stk D D2 0 0, rfl, (by show 4 ≤ 15; decide), ?_⟩
        rw [stk_merge]
        refine k p D D2 _ ?_ np hD nD2 ⟨⟨0, 0, upd_same, Int.le_refl 0, Int.le_refl 0, Int.le_refl 0⟩, ⟨gs, ?_, g0⟩, ⟨cs, ?_, c0⟩, D2D⟩
        · intro b o q
          rw [upd_ne (ne_of_none q np)]
          exact ((s1.trans s2).trans (s3 _)) b o q
        · rw [upd_ne pD, upd_ne D2D, upd_ne pD, upd_same]
        · rw [upd_ne D2p.symm, upd_same]
end
end Pu

namespace Pu
open PySem PySem.Spec PyProof.Rows L2
/-! ### values without objects of one's own: N tells at which addresses their parts may stand -/
inductive Pv (N : Addr → Prop) (H : Hp) (m : Nat) (P : V → Prop) : V → Prop where
  | non : Pv N H m P .non
  | bl (b : Bool) : Pv N H m P (.bl b)
  | int (i : Int) : Pv N H m P (.int i)
  | str (z : Str) : Pv N H m P (.str z)
  | tup (a : Addr) (xs : List V) : H a = some (.tup xs) → N a → xs.length ≤ m → (∀ x ∈ xs, P x) → Pv N H m P (.ref a)
  | lst (a : Addr) (xs : List V) : H a = some (.lst xs) → N a → xs.length ≤ m → (∀ x ∈ xs, P x) → Pv N H m P (.ref a)
  | dct (a : Addr) : H a = some (.dK []) → N a → Pv N H m P (.ref a)
/-- nested below n, no more than m items each -/
def PV (m : Nat) : Nat → (Addr → Prop) → Hp → V → Prop
  | 0 => fun _ _ _ => False
  | n + 1 => fun N H => Pv N H m (PV m n N H)
/-- what is told of a value stays as long as its parts stand -/
def Mon (R : (Addr → Prop) → Hp → V → Prop) : Prop := ∀ (N N' : Addr → Prop) (H H' : Hp) (v : V), (∀ a o, N a → H a = some o → N' a ∧ H' a = some o) → R N H v → R N' H' v
theorem Pv.imp {N N' : Addr → Prop} {H H' : Hp} {m m' : Nat} {P P' : V → Prop} (k : ∀ a o, N a → H a = some o → N' a ∧ H' a = some o) (hm : m ≤ m') (hp : ∀ x, P x → P' x) {v : V} (h : Pv N H m P v) : Pv N' H' m' P' v := by
  cases h with
  | non => exact .non
  | bl b => exact .bl b
  | int i => exact .int i
  | str z => exact .str z
  | tup a xs e x l q => exact .tup a xs (k _ _ x e).2 (k _ _ x e).1 (Nat.le_trans l hm) fun x hx => hp x (q x hx)
  | lst a xs e x l q => exact .lst a xs (k _ _ x e).2 (k _ _ x e).1 (Nat.le_trans l hm) fun x hx => hp x (q x hx)
  | dct a e x => exact .dct a (k _ _ x e).2 (k _ _ x e).1
theorem PV.imp {N N' : Addr → Prop} {H H' : Hp} {m m' : Nat} (k : ∀ a o, N a → H a = some o → N' a ∧ H' a = some o) (hm : m ≤ m') : ∀ (n : Nat) {v : V}, PV m n N H v → PV m' n N' H' v
  | 0, _, h => h
  | n + 1, _, h => Pv.imp k hm (fun _ q => PV.imp k hm n q) h
theorem PV.mon (m n : Nat) : Mon (PV m n) := fun _ _ _ _ _ k h => PV.imp k (Nat.le_refl m) n h
theorem PV.up {N : Addr → Prop} {H : Hp} {m : Nat} : ∀ {n : Nat} {v : V}, PV m n N H v → PV m (n + 1) N H v
  | 0, _, h => h.elim
  | _ + 1, _, h => Pv.imp (fun _ _ x e => ⟨x, e⟩) (Nat.le_refl m) (fun _ q => PV.up q) h
theorem PV.ups {N : Addr → Prop} {H : Hp} {m : Nat} {v : V} {n k : Nat} (h : PV m n N H v) (hk : n ≤ k) : PV m k N H v := by
  induction hk with
  | refl => exact h
  | step _ ih => exact ih.up
theorem PV.wide {N : Addr → Prop} {H : Hp} {m m' : Nat} {v : V} {n : Nat} (h : PV m n N H v) (hm : m ≤ m') : PV m' n N H v := PV.imp (fun _ _ x e => ⟨x, e⟩) hm n h
/-- away from the state's dict and the list of great numbers -/
abbrev Nd (d g : Addr) : Addr → Prop := fun a => a ≠ d ∧ a ≠ g
theorem Kp.nd {d g : Addr} {H H' : Hp} (k : Kp d g H H') : ∀ a o, Nd d g a → H a = some o → Nd d g a ∧ H' a = some o := fun a o n e => ⟨n, k a o e n.1 n.2⟩
theorem Mon.kp {R : (Addr → Prop) → Hp → V → Prop} (mo : Mon R) {d g : Addr} {H H' : Hp} {v : V} (k : Kp d g H H') (h : R (Nd d g) H v) : R (Nd d g) H' v := mo _ _ _ _ _ k.nd h
theorem StA.nd {H : Hp} {d g c : Addr} {T : Int} (S : StA H d g c T) : ∀ a, H a = none → Nd d g a := fun a n => by
  obtain ⟨l, t, h, _⟩ := S.dk
  obtain ⟨gs, h2, _⟩ := S.gr
  exact ⟨(ne_of_none h n).symm, (ne_of_none h2 n).symm⟩
theorem Mon.new {R : (Addr → Prop) → Hp → V → Prop} (mo : Mon R) {H H' : Hp} {N : Addr → Prop} {v : V} (k : ∀ a, H a = none → N a) (h : R (fun a => H a = none) H' v) : R N H' v := mo _ _ _ _ _ (fun a _ n e => ⟨k a n, e⟩) h

/-! ### t == () -/
section
variable {X : Cx}
def rEqT0 (K : PySem.W.Frag) : R2 := fun x y H Q => ∃ a b xs, x = .ref a ∧ y = .ref b ∧ SqT K H a xs ∧ SqT K H b [] ∧ Q (.bl xs.isEmpty) H
theorem op_eqT0 (hu : X.A.units + 1 < cLine) : OpR X (compareOp .Eq) (rEqT0 X.K) := by
  intro pins s σ H x y v u Q I rx ry h
  obtain ⟨a, b, xs, rfl, rfl, ha, hb, q⟩ := h
  cases (show v = Value.ref a from rx)
  cases (show u = Value.ref b from ry)
  obtain ⟨us, r1, ⟨o1, e1, c1, n1, d1⟩, _⟩ := I.tuple ha
  obtain ⟨ws, r2, ⟨o2, e2, c2, n2, d2⟩, _⟩ := I.tuple hb
  cases r2
  refine SeqAt.eq_tupleAt (e := fun _ => true) ⟨o1, e1, c1, n1, d1⟩ ⟨o2, e2, c2, n2, d2⟩ (by omega) (fun j h1 h2 => absurd h2 (by simp)) ?_
  refine ⟨.bl xs.isEmpty, H, I, ?_, q⟩
  cases r1 with
  | nil => rfl
  | cons r t => rfl
end

/-! ### t[::-1] -/
theorem fm_congr {α β : Type} {f f' : α → Option β} : ∀ {l : List α}, (∀ x ∈ l, f x = f' x) → l.filterMap f = l.filterMap f'
  | [], _ => rfl
  | x :: r, h => by
    rw [List.filterMap_cons, List.filterMap_cons, h x List.mem_cons_self, fm_congr (l := r) fun y hy => h y (List.mem_cons_of_mem _ hy)]
theorem rev_pick (xs : List Value) : ((List.range xs.length).filterMap fun (k : Nat) => xs.toArray[(((xs.length : Int) - 1) + (k : Int) * (-1)).toNat]?).toArray = xs.reverse.toArray := by
  have q := HT.pick_gen xs.reverse.toArray 0 xs.length
  have e : (List.range xs.length).filterMap (fun (k : Nat) => xs.toArray[(((xs.length : Int) - 1) + (k : Int) * (-1)).toNat]?) = (List.range xs.length).filterMap (fun (k : Nat) => xs.reverse.toArray[(((0 : Nat) : Int) + (k : Int) * 1).toNat]?) := by
    refine fm_congr fun k hk => ?_
    have hk' : k < xs.length := List.mem_range.mp hk
    rw [List.getElem?_toArray, List.getElem?_toArray, show (((0 : Nat) : Int) + (k : Int) * 1).toNat = k by omega, List.getElem?_reverse (by omega)]
    congr 1
    omega
  rw [e, q]
  rw [show xs.reverse.toArray.toList = xs.reverse from rfl, List.drop_zero, List.take_of_length_le (by simp)]
section
variable {prog : Program} {w : World} {A : Around} {E : Value → Shared → Prop} {s : Shared}
theorem part_of {v : Value} {o : Option Int} {Q : Option Int → Shared → Prop} (p : IsPart v o) (h : Q o s) : wpAny (model prog w) A (Builtin.Slice.slicePartIndex v) Q E s := HT.slicePart_ p h
theorem applied_rev {sl : Addr} {va vb vc : Value} {n : Nat} {Q : Int × Int × Nat → Shared → Prop} (hS : s.heap.IsSliceOf sl va vb vc) (pa : IsPart va none) (pb : IsPart vb none) (pc : IsPart vc (some (-1)))
    (h : Q ((n : Int) - 1, -1, n) s) : wpAny (model prog w) A (Builtin.Slice.sliceApplied (.ref sl) (pure (n : Int))) Q E s := by
  obtain ⟨ob, hob, _, hda⟩ := id hS
  unfold Builtin.Slice.sliceApplied
  unfold Builtin.Slice.sliceFields
  refine wpAny_bind (wpAny_bind (wpAny_field hob hda (x := va) rfl (wpAny_bind (wpAny_field hob hda (x := vb) rfl (wpAny_bind (wpAny_field hob hda (x := vc) rfl (wpAny_pure ?_)))))))
  refine wpAny_bind (part_of pc ?_)
  show wpAny _ _ (if ((-1 : Int) == 0) = true then _ else _) _ _ s
  rw [if_neg (show ¬ (((-1 : Int) == 0) = true) by decide)]
  refine wpAny_bind (part_of pa (wpAny_bind (part_of pb (wpAny_bind (wpAny_pure ?_)))))
  have e : Builtin.Slice.slicePlaces ((n : Int) - 1) (-1) (-1) = n := by
    unfold Builtin.Slice.slicePlaces
    by_cases h0 : n = 0
    · subst h0; rfl
    · rw [if_neg (by decide), if_pos (by omega), show (- -1 : Int) = 1 from rfl, Int.ediv_one]
      omega
  show wpAny _ _ (pure (((n : Int) - 1), (-1 : Int), Builtin.Slice.slicePlaces ((n : Int) - 1) (-1) (-1))) _ _ s
  rw [e]
  exact wpAny_pure h
theorem tuple_rev {t sl : Addr} {us : List Value} {va vb vc : Value} {Q : Value → Shared → Prop} (hT : IsTup s.heap t us.toArray) (hS : s.heap.IsSliceOf sl va vb vc) (pa : IsPart va none) (pb : IsPart vb none) (pc : IsPart vc (some (-1)))
    (h : Q (.ref s.heap.objs.size) { s with heap := s.heap.push { cls := .type "tuple", data := .seq us.reverse.toArray } }) (hz : us.length ≤ sizeLine) : wpAny (model prog w) A (getItem (.ref t) (.ref sl)) Q E s := by
  have hk : sizeOk (.seq us.reverse.toArray) := by
    show us.reverse.toArray.size ≤ sizeLine
    rw [List.size_toArray, List.length_reverse]; exact hz
  obtain ⟨ob, hob, hcl, hda⟩ := id hS
  have ts : s.TypeIs (.ref sl) "slice" := ⟨ob, hob, hcl⟩
  unfold getItem
  try with_reducible refine wpAny_holding ?_
  first | refine wpAny_bind (wpAny_pure ?_) | skip
  refine wpAny_bind (wpAny_sequenceKey hT.typeIs (by decide) ?_)
  refine wpAny_bind (wpAny_callSpecial?_slot (name := Str.ofString "__getitem__") hT.typeIs slot_tuple_getitem
    (wpAny_call_entry slot_tuple_getitem hT.typeIs entry_tuple_getitem ?_ (args_tuple_getitem _ _)))
  show wpAny _ _ (Builtin.Tuple.tupleItemsOf (.ref t) >>= _) _ _ s
  refine wpAny_bind (tupleItemsOf_ hT ?_)
  refine wpAny_bind (wpAny_typeOf ts ?_)
  rw [if_pos (by decide)]
  have hn : (us.toArray.size : Int) = (us.length : Int) := by rw [List.size_toArray]
  rw [hn]
  refine wpAny_bind (applied_rev hS pa pb pc ?_)
  have no : ¬ ((((us.length : Int) - 1 == 0) && ((-1 : Int) == 1) && (us.length == us.toArray.size)) = true) := by
    intro q
    rw [Bool.and_eq_true, Bool.and_eq_true] at q
    exact absurd q.1.2 (by decide)
  show wpAny _ _ (if (((us.length : Int) - 1 == 0) && ((-1 : Int) == 1) && (us.length == us.toArray.size)) = true then _ else _) _ _ s
  rw [if_neg no, rev_pick]
  first
    | exact wpAny_bind (m := Builtin.Tuple.tupleExact _) (wpAny_newObj_type (wpAny_pure ⟨_, rfl, wpAny_pure h⟩) hk)
    | exact wpAny_bind (m := Builtin.Tuple.tupleExact _) (wpAny_newObj_type (wpAny_bind (wpAny_pure (wpAny_pure ⟨_, rfl, wpAny_pure h⟩))) hk)
    | exact wpAny_bind (wpAny_bind (m := Builtin.Tuple.tupleExact _) (wpAny_newObj_type (wpAny_pure (wpAny_pure ⟨_, rfl, wpAny_pure h⟩)) hk))
    | exact wpAny_bind (wpAny_bind (m := Builtin.Tuple.tupleExact _) (wpAny_newObj_type (wpAny_pure ⟨_, rfl, wpAny_pure h⟩) hk))
end
section
variable {X : Cx}
def tRevT (K : PySem.W.Frag) (te : TE) : TE := fun σ H Q => te σ H fun x H1 => ∃ a xs, x = .ref a ∧ SqT K H1 a xs ∧ ∀ p, H1 p = none → Q (.ref p) (upd H1 p (.tup xs.reverse))
theorem pe_revT {e : Expr} {te : TE} {k : Nat} {p1 p2 p3 pos : Pos} (he : PE X e te) : PE X (.Subscript e (.Slice none none (some (.UnaryOp .USub (.Constant (.int 1) k p1) p2)) p3) pos) (tRevT X.K te) := by
  refine ⟨fun pn s σ H Q I h => ?_⟩
  refine Subscript_ (thn (he.run pn s σ H _ I h) fun v s1 ⟨x, H1, J1, r1, q1⟩ => ?_)
  obtain ⟨a, xs, rfl, hx, q⟩ := q1
  cases r1
  have ho : PO X (some (.UnaryOp .USub (.Constant (.int 1) k p1) p2)) (tPart (tUn (rU fun i => .int (-i)) (tC (.int 1)))) := po_some (pe_un un_neg pe_int)
  refine wpAny_Slice (thn (po_none.run pn s1 σ H1 (fun o G => o = none ∧ G = H1) J1 ⟨rfl, rfl⟩) fun va s2 ⟨o2, H2, J2, pa, eo, eh⟩ => ?_)
  subst eo eh
  refine thn (po_none.run pn s2 σ H2 (fun o G => o = none ∧ G = H2) J2 ⟨rfl, rfl⟩) fun vb s3 ⟨o3, H3, J3, pb, eo, eh⟩ => ?_
  subst eo eh
  refine thn (ho.run pn s3 σ H3 (fun o G => o = some (-1) ∧ G = H3) J3 ⟨1, rfl, -1, rfl, rfl, rfl⟩) fun vc s4 ⟨o4, H4, J4, pc, eo, eh⟩ => ?_
  subst eo eh
  have J5 : Inv X pn σ H4 { s4 with heap := s4.heap.push { cls := .type "slice", data := .fields #[va, vb, vc] } } := J4.kept (t' := s4.toks) fun b ob q => Heap.get?_push_of_some _ q
  obtain ⟨us, r, hT, hz⟩ := J5.tuple hx
  have hl := r.length
  show wpAny (model X.prog X.w) X.A (subscriptTail e (.Slice none none (some (.UnaryOp .USub (.Constant (.int 1) k p1) p2)) p3) (.ref a) (.ref s4.heap.objs.size)) (EP X pn σ Q) X.xe { s4 with heap := s4.heap.push { cls := .type "slice", data := .fields #[va, vb, vc] } }
  refine tail_any (ops := [.ref a, .ref s4.heap.objs.size]) hT.typeIs slot_tuple_getitem.lookup ?_ (by with_unfolding_all rfl)
  refine tuple_rev hT (Heap.IsSliceOf.new _ va vb vc) pa pb pc ?_ (by omega)
  refine ⟨.ref _, _, J5.laid (t' := s4.toks) (o := .tup xs.reverse) (fun b ob q => Heap.get?_push_of_some _ q) (Nat.le_refl _) ?_, rfl, q _ (J5.hok.fresh (Nat.le_refl _))⟩
  exact ⟨by rw [List.length_reverse]; exact hz, _, r.reverse, IsTup.new _ _⟩
end
end Pu

namespace Pu
open PySem L2
/-! ### readings made weaker -/
section
variable {X : Cx}
theorem pe_imp {e : Expr} {t t' : TE} (h : PE X e t) (k : ∀ σ H Q, t' σ H Q → t σ H Q) : PE X e t' := ⟨fun pn s σ H Q I q => h.run pn s σ H Q I (k σ H Q q)⟩
theorem pa_imp {es : List Expr} {t t' : TA} (h : PA X es t) (k : ∀ σ H Q, t' σ H Q → t σ H Q) : PA X es t' := ⟨fun ps pn s σ H Q I q => h.run ps pn s σ H Q I (k σ H Q q)⟩
theorem op_imp {f : Value → Value → Sem Value} {r r' : R2} (h : OpR X f r) (k : ∀ x y H Q, r' x y H Q → r x y H Q) : OpR X f r' := fun pn s σ H x y v u Q I rx ry q => h pn s σ H x y v u Q I rx ry (k x y H Q q)
theorem sl_imp {r r' : V → Option Int → Option Int → Hp → VK → Prop} (h : SlR X r) (k : ∀ x l u H Q, r' x l u H Q → r x l u H Q) : SlR X r' := fun pn s σ H x v vl vu lo hi sl Q I rx hs pl pu q => h pn s σ H x v vl vu lo hi sl Q I rx hs pl pu (k x lo hi H Q q)

/-! ### data that is written out: new objects, of which R holds -/
abbrev RV : Type := (Addr → Prop) → Hp → V → Prop
def TN (R : RV) : TE := fun _ H Q => ∀ v H', Same H H' → R (fun a => H a = none) H' v → Q v H'
def TNs (R : RV) (k : Nat) : TA := fun _ H Q => ∀ vs H', Same H H' → vs.length = k → (∀ v ∈ vs, R (fun a => H a = none) H' v) → Q vs H'
def tupR (R : RV) (k : Nat) : RV := fun N H v => ∃ a xs, v = .ref a ∧ N a ∧ H a = some (.tup xs) ∧ xs.length = k ∧ ∀ x ∈ xs, R N H x
def lstR (R : RV) (k : Nat) : RV := fun N H v => ∃ a xs, v = .ref a ∧ N a ∧ H a = some (.lst xs) ∧ xs.length = k ∧ ∀ x ∈ xs, R N H x
theorem tupR.mon {R : RV} {k : Nat} (mo : Mon R) : Mon (tupR R k) := fun N N' H H' v kk ⟨a, xs, e, n, h, l, q⟩ => ⟨a, xs, e, (kk a _ n h).1, (kk a _ n h).2, l, fun x hx => mo _ _ _ _ _ kk (q x hx)⟩
theorem lstR.mon {R : RV} {k : Nat} (mo : Mon R) : Mon (lstR R k) := fun N N' H H' v kk ⟨a, xs, e, n, h, l, q⟩ => ⟨a, xs, e, (kk a _ n h).1, (kk a _ n h).2, l, fun x hx => mo _ _ _ _ _ kk (q x hx)⟩
theorem same_upd {H : Hp} {p : Addr} {o : HO} (n : H p = none) : Same H (upd H p o) := fun b u e => by rw [upd_ne (ne_of_none e n)]; exact e
theorem n_w {e : Expr} {R R' : RV} (h : PE X e (TN R)) (k : ∀ N H v, R N H v → R' N H v) : PE X e (TN R') := pe_imp h fun _ _ _ q v H' s r => q v H' s (k _ _ _ r)
theorem n_int {i : Int} {j : Nat} {pos : Pos} {m n : Nat} : PE X (.Constant (.int i) j pos) (TN (PV m (n + 1))) := pe_imp pe_int fun _ H _ q => q _ H (Same.refl H) (.int i)
theorem n_neg {i : Int} {j : Nat} {p1 p2 : Pos} {m n : Nat} : PE X (.UnaryOp .USub (.Constant (.int i) j p1) p2) (TN (PV m (n + 1))) := pe_imp (pe_un un_neg pe_int) fun _ H _ q => ⟨i, rfl, q _ H (Same.refl H) (.int _)⟩
theorem n_bl {b : Bool} {j : Nat} {pos : Pos} {m n : Nat} : PE X (.Constant (.bool b) j pos) (TN (PV m (n + 1))) := pe_imp pe_bl fun _ H _ q => q _ H (Same.refl H) (.bl b)
theorem n_non {j : Nat} {pos : Pos} {m n : Nat} : PE X (.Constant .none j pos) (TN (PV m (n + 1))) := pe_imp pe_non fun _ H _ q => q _ H (Same.refl H) .non
theorem n_str {x : Str} {j : Nat} {pos : Pos} {m n : Nat} : PE X (.Constant (.str x) j pos) (TN (PV m (n + 1))) := pe_imp pe_str fun _ H _ q => q _ H (Same.refl H) (.str x)
theorem na_nil {R : RV} : PA X [] (TNs R 0) := pa_imp pa_nil fun _ H _ q => q [] H (Same.refl H) rfl fun _ h => nomatch h
theorem na_cons {e : Expr} {es : List Expr} {R : RV} {k : Nat} (mo : Mon R) (he : PE X e (TN R)) (hr : PA X es (TNs R k)) (hs : starEach (e :: es) X.env = (false, eval e X.env) :: starEach es X.env := by rfl) : PA X (e :: es) (TNs R (k + 1)) :=
  pa_imp (pa_cons he hr hs) fun _ H Q q v H1 s1 r1 vs H2 s2 l r2 => q (v :: vs) H2 (s1.trans s2) (by rw [List.length_cons, l]) fun x hx => by
    rcases List.mem_cons.mp hx with rfl | hx
    · exact mo _ _ _ _ _ (fun a o n e => ⟨n, s2 a o e⟩) r1
    · exact mo _ _ _ _ _ (fun a o n e => ⟨s1.free n, e⟩) (r2 x hx)
theorem n_tupR {es : List Expr} {R : RV} {k : Nat} {x1 : Nat} {pos : Pos} (mo : Mon R) (h : PA X es (TNs R k)) (hk : k ≤ 1000) : PE X (.Tuple es x1 pos) (TN (tupR R k)) :=
  pe_imp (pe_tup h) fun _ H Q q vs H1 s1 l r => ⟨by rw [l]; exact Nat.le_of_lt (small1000 hk), fun p hp => q _ _ (s1.trans (same_upd hp)) ⟨p, vs, rfl, s1.free hp, upd_same, l, fun x hx => mo _ _ _ _ _ (fun a o n e => ⟨n, same_upd hp a o e⟩) (r x hx)⟩⟩
theorem n_lstR {es : List Expr} {R : RV} {k : Nat} {pos : Pos} (mo : Mon R) (h : PA X es (TNs R k)) (hk : k ≤ 1000) : PE X (.List es pos) (TN (lstR R k)) :=
  pe_imp (pe_lst h) fun _ H Q q vs H1 s1 l r => ⟨by rw [l]; exact Nat.le_of_lt (small1000 hk), fun p hp => q _ _ (s1.trans (same_upd hp)) ⟨p, vs, rfl, s1.free hp, upd_same, l, fun x hx => mo _ _ _ _ _ (fun a o n e => ⟨n, same_upd hp a o e⟩) (r x hx)⟩⟩
theorem n_tup {es : List Expr} {m n k : Nat} {x1 : Nat} {pos : Pos} (h : PA X es (TNs (PV m n) k)) (hk : k ≤ 1000 := by decide) (hm : k ≤ m := by decide) : PE X (.Tuple es x1 pos) (TN (PV m (n + 1))) :=
  n_w (n_tupR (PV.mon m n) h hk) fun N H v ⟨a, xs, e, na, ha, l, r⟩ => by rw [e]; exact .tup a xs ha na (by omega) r
theorem n_lst {es : List Expr} {m n k : Nat} {pos : Pos} (h : PA X es (TNs (PV m n) k)) (hk : k ≤ 1000 := by decide) (hm : k ≤ m := by decide) : PE X (.List es pos) (TN (PV m (n + 1))) :=
  n_w (n_lstR (PV.mon m n) h hk) fun N H v ⟨a, xs, e, na, ha, l, r⟩ => by rw [e]; exact .lst a xs ha na (by omega) r
theorem n_dct {m n : Nat} {pos : Pos} : PE X (.Dict [] [] pos) (TN (PV m (n + 1))) := pe_imp pe_dnewK fun _ H Q q p hp => q _ _ (same_upd hp) (.dct p upd_same hp)

/-! ### tuples put together and cut -/
def TupV (N : Addr → Prop) (H : Hp) (v : V) (xs : List V) : Prop := ∃ a, v = .ref a ∧ N a ∧ H a = some (.tup xs)
theorem TupV.kp {d g : Addr} {H H' : Hp} {v : V} {xs : List V} (k : Kp d g H H') (h : TupV (Nd d g) H v xs) : TupV (Nd d g) H' v xs := by
  obtain ⟨a, e, n, q⟩ := h
  exact ⟨a, e, n, k a _ q n.1 n.2⟩
theorem TupV.same {N : Addr → Prop} {H H' : Hp} {v : V} {xs : List V} (k : Same H H') (h : TupV N H v xs) : TupV N H' v xs := by
  obtain ⟨a, e, n, q⟩ := h
  exact ⟨a, e, n, k a _ q⟩
theorem TupV.at {N : Addr → Prop} {H : Hp} {a : Addr} {xs : List V} (h : TupV N H (.ref a) xs) : H a = some (.tup xs) := by
  obtain ⟨b, e, _, q⟩ := h
  cases e
  exact q
theorem Mon.same {R : RV} (mo : Mon R) {N : Addr → Prop} {H H' : Hp} {v : V} (s : Same H H') (h : R N H v) : R N H' v := mo _ _ _ _ _ (fun a o n e => ⟨n, s a o e⟩) h
def rCat2 : R2 := fun x y H Q => ∃ N xs ys, (∀ q, H q = none → N q) ∧ TupV N H x xs ∧ TupV N H y ys ∧ xs.length + ys.length ≤ 100000 ∧ ∀ v H', Same H H' → TupV N H' v (xs ++ ys) → Q v H'
theorem op_cat2 : OpR X (binaryOp .Add) rCat2 := op_imp op_catA fun x y H Q ⟨N, xs, ys, nw, ⟨a, ea, na, ha⟩, ⟨b, eb, nb, hb⟩, l, q⟩ =>
  ⟨a, b, xs, ys, ea, eb, SqT.of ha, SqT.of hb, Nat.le_trans l (by decide), fun e => q _ H (Same.refl H) ⟨b, rfl, nb, by rw [e]; exact hb⟩, fun _ e => q _ H (Same.refl H) ⟨a, rfl, na, by rw [e, List.append_nil]; exact ha⟩,
    fun _ _ p hp => q _ _ (same_upd hp) ⟨p, rfl, nw p hp, upd_same⟩⟩
def rSl2 : V → Option Int → Option Int → Hp → VK → Prop := fun x lo hi H Q => ∃ N xs, (∀ q, H q = none → N q) ∧ TupV N H x xs ∧ ∀ v H', Same H H' → TupV N H' v (cutV xs lo hi) → Q v H'
theorem sl_tup2 : SlR X rSl2 := sl_imp sl_tupA fun x lo hi H Q ⟨N, xs, nw, ⟨a, ea, na, ha⟩, q⟩ =>
  ⟨a, xs, ea, SqT.of ha, fun ⟨h1, h2⟩ => q _ H (Same.refl H) ⟨a, rfl, na, by
      have e : cutV xs lo hi = xs := by
        unfold cutV
        rw [h1, h2, List.drop_zero, Nat.sub_zero, List.take_of_length_le (Nat.le_refl _)]
      rw [e]; exact ha⟩, fun _ p hp => q _ _ (same_upd hp) ⟨p, rfl, nw p hp, upd_same⟩⟩
theorem mem_cut {xs : List V} {lo hi : Option Int} {x : V} (h : x ∈ cutV xs lo hi) : x ∈ xs := List.mem_of_mem_drop (List.mem_of_mem_take h)
end
end Pu

namespace Pu
open PySem L2
abbrev sCaught : Stmt := top 22
/-- an error class of the program: over ValueError, without an __init__ of its own -/
structure Er (K : PySem.W.Frag) (mg : Str → Option Value) (x : Str) (C : Addr) : Prop where
  xi : PySem.W.excIn K C [.type "ValueError", .type "Exception", .type "BaseException", .type "object"] "ValueError.__new__" = true
  g : mg x = some (.ref C)
  k : PySem.W.keepIn K (.ref C) = true
  b : PySem.W.subIn K (.ref C) (.type "BaseException") = some true
  t : PySem.W.typeIn K (.ref C) = some (.type "type")
/-! ### data: names judged by their form; a list or a dict stands as .dict [] -/
abbrev BIG : Int := 1000000000000000000
def okI (i : Int) : Bool := decide (-BIG < i) && decide (i < BIG)
mutual
def stB : PyData → Bool
  | .none => true
  | .bool _ => false
  | .int i => okI i
  | .str _ => true
  | .list _ => false
  | .tuple ds => stL ds
  | .dict _ => false
def stL : List PyData → Bool
  | [] => true
  | d :: r => stB d && stL r
end
mutual
def szB : PyData → Nat
  | .tuple ds => szL ds + 1
  | _ => 1
def szL : List PyData → Nat
  | [] => 0
  | d :: r => szB d + szL r
end
theorem stL_app : ∀ xs ys : List PyData, stL (xs ++ ys) = (stL xs && stL ys)
  | [], ys => by simp [stL]
  | d :: r, ys => by simp [stL, stL_app r ys, Bool.and_assoc]
theorem szL_app : ∀ xs ys : List PyData, szL (xs ++ ys) = szL xs + szL ys
  | [], ys => by simp [szL]
  | d :: r, ys => by simp [szL, szL_app r ys]; omega
theorem szB_pos (d : PyData) : 0 < szB d := by cases d <;> simp [szB]
/-- which kind such data are of -/
def isD : PyData → String → Bool
  | .bool _, c => c == "bool" || c == "int"
  | .int _, c => c == "int"
  | .str _, c => c == "str"
  | .tuple _, c => c == "tuple"
  | _, _ => false
/-- v is such data, nested below n -/
def CV : Nat → Hp → V → PyData → Prop
  | 0 => fun _ _ _ => False
  | n + 1 => fun H v d => (v = .non ∧ d = .none) ∨ (∃ b, v = .bl b ∧ d = .bool b) ∨ (∃ i, v = .int i ∧ d = .int i) ∨ (∃ z, v = .str z ∧ d = .str z) ∨
      (∃ a xs ds, v = .ref a ∧ H a = some (.tup xs) ∧ d = .tuple ds ∧ Paired (CV n H) xs ds) ∨ ∃ a o, v = .ref a ∧ H a = some o ∧ ((∃ xs, o = .lst xs) ∨ ∃ k, o = .dK k) ∧ d = .dict []
theorem paired_imp {α β : Type} {R S : α → β → Prop} (h : ∀ x y, R x y → S x y) : ∀ {xs : List α} {ys : List β}, Paired R xs ys → Paired S xs ys
  | _, _, .nil => .nil
  | _, _, .cons r t => .cons (h _ _ r) (paired_imp h t)
/-- all but tables stay -/
theorem CV.ext {H H' : Hp} (k : LamX.ExtN H H') : ∀ (n : Nat) {v : V} {d : PyData}, CV n H v d → CV n H' v d
  | 0, _, _, h => h
  | n + 1, _, _, .inl h => .inl h
  | n + 1, _, _, .inr (.inl h) => .inr (.inl h)
  | n + 1, _, _, .inr (.inr (.inl h)) => .inr (.inr (.inl h))
  | n + 1, _, _, .inr (.inr (.inr (.inl h))) => .inr (.inr (.inr (.inl h)))
  | n + 1, _, _, .inr (.inr (.inr (.inr (.inl ⟨a, xs, ds, e, h, ed, p⟩)))) => .inr (.inr (.inr (.inr (.inl ⟨a, xs, ds, e, k _ _ h (fun ps z => by cases z), ed, paired_imp (fun _ _ q => CV.ext k n q) p⟩))))
  | n + 1, _, _, .inr (.inr (.inr (.inr (.inr ⟨a, o, e, h, ho, ed⟩)))) => .inr (.inr (.inr (.inr (.inr ⟨a, o, e, k _ _ h (fun ps z => by rcases ho with ⟨_, rfl⟩ | ⟨_, rfl⟩ <;> cases z), ho, ed⟩))))
theorem ext_same {H H' : Hp} (s : Same H H') : LamX.ExtN H H' := fun b o h _ => s b o h
theorem CV.same {H H' : Hp} {n : Nat} {v : V} {d : PyData} (s : Same H H') (h : CV n H v d) : CV n H' v d := CV.ext (ext_same s) n h
theorem CV.up {H : Hp} : ∀ {n : Nat} {v : V} {d : PyData}, CV n H v d → CV (n + 1) H v d
  | 0, _, _, h => h.elim
  | n + 1, _, _, .inl h => .inl h
  | n + 1, _, _, .inr (.inl h) => .inr (.inl h)
  | n + 1, _, _, .inr (.inr (.inl h)) => .inr (.inr (.inl h))
  | n + 1, _, _, .inr (.inr (.inr (.inl h))) => .inr (.inr (.inr (.inl h)))
  | n + 1, _, _, .inr (.inr (.inr (.inr (.inl ⟨a, xs, ds, e, h, ed, p⟩)))) => .inr (.inr (.inr (.inr (.inl ⟨a, xs, ds, e, h, ed, paired_imp (fun _ _ q => CV.up q) p⟩))))
  | n + 1, _, _, .inr (.inr (.inr (.inr (.inr h)))) => .inr (.inr (.inr (.inr (.inr h))))
/-- all tuples stay -/
def TKeep (H H' : Hp) : Prop := ∀ b xs, H b = some (.tup xs) → H' b = some (.tup xs)
theorem TKeep.refl (H : Hp) : TKeep H H := fun _ _ h => h
theorem TKeep.trans {H H1 H2 : Hp} (a : TKeep H H1) (b : TKeep H1 H2) : TKeep H H2 := fun c o h => b c o (a c o h)
theorem TKeep.of {H H' : Hp} (s : LamX.ExtN H H') : TKeep H H' := fun b xs h => s b _ h fun ps z => by cases z
theorem TKeep.same {H H' : Hp} (s : Same H H') : TKeep H H' := fun b xs h => s b _ h
theorem TKeep.upd {H : Hp} {a : Addr} {o : HO} (h : ∀ xs, H a ≠ some (.tup xs)) : TKeep H (L2.upd H a o) := fun b xs e => by
  rw [upd_ne (fun z => h xs (by rw [← z]; exact e))]; exact e
theorem TKeep.kp {H H' : Hp} {d g c : Addr} {T : Int} (S : StA H d g c T) (k : Kp d g H H') : TKeep H H' := fun b xs e => by
  obtain ⟨l, t, h, _⟩ := S.dk
  obtain ⟨gs, h2, _⟩ := S.gr
  exact k _ _ e (ne_of e h (by intro z; cases z)) (ne_of e h2 (by intro z; cases z))
/-- content: such data, all of it storable -/
theorem good_keep {H H' : Hp} (k : TKeep H H') : ∀ (n : Nat) {v : V} {d : PyData}, CV n H v d → stB d = true → CV n H' v d
  | 0, _, _, h, _ => h
  | n + 1, _, _, .inl h, _ => .inl h
  | n + 1, _, _, .inr (.inl h), _ => .inr (.inl h)
  | n + 1, _, _, .inr (.inr (.inl h)), _ => .inr (.inr (.inl h))
  | n + 1, _, _, .inr (.inr (.inr (.inl h))), _ => .inr (.inr (.inr (.inl h)))
  | n + 1, _, _, .inr (.inr (.inr (.inr (.inl ⟨a, xs, ds, e, h, ed, p⟩)))), g => by
    subst ed
    have g' : stL ds = true := by simpa [stB] using g
    refine .inr (.inr (.inr (.inr (.inl ⟨a, xs, ds, e, k _ _ h, rfl, ?_⟩))))
    clear e h g
    induction p with
    | nil => exact .nil
    | cons r t ih =>
      rw [stL, Bool.and_eq_true] at g'
      exact .cons (good_keep k n r g'.1) (ih g'.2)
  | n + 1, _, _, .inr (.inr (.inr (.inr (.inr ⟨a, o, e, h, ho, ed⟩)))), g => by
    subst ed
    simp [stB] at g
theorem dp_all {K : PySem.W.Frag} {H : Hp} {n : Nat} (f : ∀ v d, CV n H v d → stB d = true → Dp K H v d) : ∀ {xs : List V} {ds : List PyData}, Paired (CV n H) xs ds → stL ds = true → DpAll K H xs ds
  | _, _, .nil, _ => .nil
  | _, _, .cons r t, g => by
    rw [stL, Bool.and_eq_true] at g
    exact .cons (f _ _ r g.1) (dp_all f t g.2)
theorem good_dp {K : PySem.W.Frag} {H : Hp} : ∀ (n : Nat) {v : V} {d : PyData}, CV n H v d → stB d = true → Dp K H v d
  | 0, _, _, h, _ => h.elim
  | n + 1, _, _, .inl ⟨e1, e2⟩, _ => by subst e1 e2; exact .non
  | n + 1, _, _, .inr (.inl ⟨b, e1, e2⟩), _ => by subst e1 e2; exact .bl b
  | n + 1, _, _, .inr (.inr (.inl ⟨i, e1, e2⟩)), _ => by subst e1 e2; exact .int i
  | n + 1, _, _, .inr (.inr (.inr (.inl ⟨z, e1, e2⟩))), _ => by subst e1 e2; exact .str z
  | n + 1, _, _, .inr (.inr (.inr (.inr (.inl ⟨a, xs, ds, e, h, ed, p⟩)))), g => by
    subst e ed
    exact .tup (SqT.of h) (dp_all (fun _ _ q g' => good_dp n q g') p (by simpa [stB] using g))
  | n + 1, _, _, .inr (.inr (.inr (.inr (.inr ⟨a, o, e, h, ho, ed⟩)))), g => by
    subst ed
    simp [stB] at g
/-! ### isinstance -/
def rIsC : List V → Hp → VK → Prop := fun xs H Q => ∃ x c n d, xs = [x, .ty c] ∧ c ∈ ["int", "bool", "tuple", "str"] ∧ CV n H x d ∧ Q (.bl (isD d c)) H
theorem kit_c : ∀ c ∈ ["int", "bool", "tuple", "str"], kitB "NoneType" c = some false ∧ kitB "bool" c = some (c == "bool" || c == "int") ∧ kitB "int" c = some (c == "int") ∧ kitB "str" c = some (c == "str") ∧ kitB "tuple" c = some (c == "tuple") ∧ kitB "list" c = some false ∧ kitB "dict" c = some false := by decide +kernel
section
variable {X : Cx}
theorem call_isC : CallR X (.builtin "isinstance") rIsC := fun pn s σ H xs us Q I r ⟨x, c, n, d, e, hc, hx, q⟩ => by
  obtain ⟨k1, k2, k3, k4, k5, k6, k7⟩ := kit_c c hc
  have go : ∀ (T : String) (b : Bool), TyX X.K H x (.type T) → kitB T c = some b → Q (.bl b) H → wpAny (model X.prog X.w) X.A (call (.builtin "isinstance") us) (EP X pn σ Q) X.xe s := fun T b t kt q => call_isi pn s σ H xs us Q I r ⟨x, .ty c, _, _, _, e, .ty c, t, kit_ty kt, q⟩
  cases n with
  | zero => exact hx.elim
  | succ n =>
    rcases hx with ⟨rfl, rfl⟩ | ⟨b, rfl, rfl⟩ | ⟨i, rfl, rfl⟩ | ⟨z, rfl, rfl⟩ | ⟨a, ys, ds, rfl, h, rfl, p⟩ | ⟨a, o, rfl, h, ho, rfl⟩
    · exact go _ _ (.base .non) k1 q
    · exact go _ _ (.base (.bl b)) k2 q
    · exact go _ _ (.base (.int i)) k3 q
    · exact go _ _ (.base (.str z)) k4 q
    · exact go _ _ (.base (.tup h)) k5 q
    · rcases ho with ⟨ys, rfl⟩ | ⟨kv, rfl⟩
      · exact go _ _ (.base (.lst h)) k6 q
      · exact go _ _ (.base (.dK h)) k7 q
theorem pe_tyn {x : Str} {pos : Pos} (n : String) (hg : Gl X x) (hm : X.mg x = none) (hv : bootBuiltins x = some (.type n)) (hn : x ≠ "__name__" := by decide) (hd : (x == ("__debug__" : Str)) = false := by decide) : PE X (.Name x pos) (tC (.ty n)) :=
  pe_bltn (v := .ty n) hg hm hv (by rfl) hn hd
end
end Pu

namespace Pu
open PySem PySem.Spec PyProof.Rows L2
/-! ### try: body, except x as n: suite, the error being told to the suite as an object that stays known -/
/-- an error that was caught: its class, its own dict -/
def ExV (cls : Value) (d : Option Addr) (a : Addr) : HO := .ext fun h => ∃ (ob : Obj) (vs : Array Value), h.get? a = some ob ∧ Zc cls d ob ∧ ob.data = .fields vs
theorem exV_ok {P : Program} {w : World} {H : Hp} {h : Heap} {a : Addr} {cls : Value} {d : Option Addr} {ob : Obj} {vs : Array Value} (e : h.get? a = some ob) (z : Zc cls d ob) (f : ob.data = .fields vs) : ObjOk P w H h a (ExV cls d a) :=
  ⟨⟨ob, vs, e, z, f⟩, ⟨ob, e⟩, fun _ _ ⟨o, v, q, r⟩ k => ⟨o, v, k o q, r⟩⟩
/-- what «except x as n» wishes: the error stands at a, tracked -/
def wHeld (K : PySem.W.Frag) (c : Value) (i : Nat) (ts : Addr → Value → Option Addr → TS) (Wo : WX) (D : Ends) : WX := fun cls d σ H => ∃ b, PySem.W.exmOne K cls c = some b ∧
  (b = true → ∀ a, H a = none → ts a cls d { nx := fun σ' H' => D.nx (σ'.set i none) H', rt := D.rt, bk := fun σ' H' => D.bk (σ'.set i none) H', ct := fun σ' H' => D.ct (σ'.set i none) H' } (σ.set i (some (.ref a))) (upd H a (ExV cls d a))) ∧ (b = false → Wo cls d σ H)
section
variable {X : Cx} {pins : List (Addr × Obj)} {σ : L2.St} {H : Hp} {sI s : Shared}
/-- the error was not there at the entry -/
theorem not_before {B : Heap} {a : Addr} (hex : X.ex = []) (I : Inv X pins σ H sI) (nb : ∀ b o, sI.heap.get? b = some o → b ∉ frs X.stack → B.get? b = some o) (hB : B.get? a = none) (nf : a ∉ frs X.stack) : X.s_0.heap.get? a = none := by
  cases e : X.s_0.heap.get? a with
  | none => rfl
  | some o =>
    obtain ⟨o', q⟩ := I.base.there a o e (by rw [hex]; exact fun z => nomatch z)
    have z := nb a o' q nf
    rw [hB] at z
    cases z
/-- an error object at a, not there at the entry, becomes a tracked one -/
theorem track {a : Addr} {ob : Obj} {vs : Array Value} {cls : Value} {d : Option Addr} (I : Inv X pins σ H s) (na : H a = none) (n0 : X.s_0.heap.get? a = none) (nL : a ≠ X.env.locals) (np : ∀ p ∈ X.pn ++ pins, p.1 ≠ a)
    (ha : s.heap.get? a = some ob) (hz : Zc cls d ob) (hd : ob.data = .fields vs) : Inv X pins σ (upd H a (ExV cls d a)) s := by
  have ne0 : ∀ b o, X.s_0.heap.get? b = some o → b ≠ a := fun b o e z => by rw [z, n0] at e; cases e
  have neH : ∀ b u, H b = some u → b ≠ a := fun b u e z => by rw [z, na] at e; cases e
  have neC : ∀ y c, X.env.cells.lookup y = some c → c ≠ a := fun y c e z => by
    obtain ⟨v, o, ho, hv⟩ := I.cell y c e
    rw [z, ha] at ho
    cases ho
    rw [hd] at hv
    cases hv
  refine ⟨I.ok, I.os, I.bare, ⟨I.base.keep, I.base.slot, fun b o e n hx => ?_, I.base.there, fun b xs e => ?_, fun b o u e => ?_, fun b ps e => ?_⟩, I.loc, I.cell, ?_, fun y c e => ?_, fun p hp => ?_, ?_, I.len⟩
  · rw [upd_ne (ne0 b o e)]; exact I.base.free b o e n hx
  · have q := I.base.tups b xs e
    rw [upd_ne (neH b _ q)]; exact q
  · have q := I.base.frzs b o u e
    rw [upd_ne (neH b _ q)]; exact q
  · obtain ⟨more, q⟩ := I.base.tbls b ps e
    exact ⟨more, by rw [upd_ne (neH b _ q)]; exact q⟩
  · rw [upd_ne nL.symm]; exact I.free
  · rw [upd_ne (neC y c e)]; exact I.freeC y c e
  · obtain ⟨e, n, r1, r2, r3⟩ := I.pin p hp
    exact ⟨e, by rw [upd_ne (np p hp)]; exact n, r1, r2, r3⟩
  · exact I.hok.laidN (fun _ _ e => e) na (exV_ok ha hz hd)
/-- into the suite, without a pin for the error -/
theorem to_suite (I : Inv X pins σ H s) (a : Addr) : Inv (X.suite a (X.pn ++ pins)) [] σ H s :=
  ⟨I.ok.suite _ _, I.os, I.bare, I.base, I.loc, I.cell, I.free, I.freeC, fun p hp => I.pin p (by rw [List.append_nil] at hp; exact hp), I.hok, I.len⟩
theorem of_suite {a : Addr} {q : List (Addr × Obj)} (I : Inv (X.suite a (X.pn ++ pins)) q σ H s) (ok : X.Ok) : Inv X pins σ H s :=
  ⟨ok, I.os, I.bare, I.base, I.loc, I.cell, I.free, I.freeC, fun p hp => I.pin p (List.mem_append_left _ hp), I.hok, I.len⟩
end
section
variable {X : Cx} {x n : Str} {c : Value} {i : Nat} {body suite : List Stmt} {b₀ : Stmt} {p1 p2 p3 : Pos} {tb : WX → TS} {ts : Addr → Value → Option Addr → TS} {Wo : WX}
theorem ps_try_held (hs : X.stack = X.env :: X.outer) (hf : X.env.frame = some X.env.locals) (hex : X.ex = []) (hN : X.N.Nodup) (hi : X.N[i]? = some n) (hln : X.env.kindOf n = some .local) (hc : Names X x c) (tk : Takes X Wo)
    (hb : ∀ (W : WX) (pn : List (Addr × Obj)) (xe : Value → Shared → Prop), Takes (X.tr pn xe) W → PassesOwn (model X.prog X.w) X.A X.env xe → PSs (X.tr pn xe) body (tb W))
    (hsu : ∀ (a : Addr) (cls : Value) (d : Option Addr) (pn : List (Addr × Obj)), PSs (X.suite a pn) (b₀ :: suite) (ts a cls d)) :
    PS X (.Try body [.ExceptHandler (some (.Name x p1)) (some n) (b₀ :: suite) p2] [] [] p3) (fun D σ H => tb (wHeld X.K c i ts Wo D) D σ H) := by
  refine ⟨fun pins s σ H D I h => ?_⟩
  have ok := I.ok
  have fr : X.A.frames = some (X.env :: X.outer) := by rw [ok.frames, hs]
  refine wpAny_Try_except ?_
  refine wpAny_mono ((hb (wHeld X.K c i ts Wo D) (X.pn ++ pins) (fun er t1 => wpAny (model X.prog X.w) X.A (noteFrame er X.env) (fun _ t2 => wpAny (model X.prog X.w) X.A (setFlight er none) (fun _ t3 =>
    wpAny (model X.prog X.w) X.A (handleBy er X.env [.ExceptHandler (some (.Name x p1)) (some n) (b₀ :: suite) p2]) (SP X pins D) X.xe t3) X.xe t2) X.xe t1) (fun u t0 xx => ?_) PassesOwn.looking).run [] s σ H D (I.toTry _) h) (fun fl t1 hsp => ?_) (fun er t1 he => he)
  · obtain ⟨a, B, sI, pin2, σ1, H1, cls, d, rfl, J0, nb, up, sky, na, eo, ag, b, hb1, hyes, hno⟩ := xx
    have J : Inv X pins σ1 H1 sI := J0.ofTry ok
    have sky1 : Sky B (X.env :: X.outer) a (Zc cls d) X.env.locals t0.heap := by rw [← hs]; exact sky
    show wpAny (model X.prog X.w) X.A (noteFrame (.ref a) X.env) _ _ _
    refine Sky.land Zc.steady fr hf sky1 fun h3 fly up3 => ?_
    have J3 : Inv X pins σ1 H1 { t0 with heap := h3 } := J.landed nb fly.1 (up.trans up3) eo ag
    obtain ⟨ob, vs, hob, hz, hd⟩ := fly.there
    have notF : a ∉ frs (X.env :: X.outer) := fun hm => by
      obtain ⟨_, o', e', hnf⟩ := fly.2.2.1.mem hm
      rw [hob] at e'
      cases e'
      exact hnf _ hd
    have nL : a ≠ X.env.locals := fun z => notF (List.mem_filterMap.mpr ⟨X.env, List.mem_cons_self, by rw [hf, z]⟩)
    have nst : a ∉ frs X.stack := by rw [hs]; exact notF
    have n0 := not_before hex J nb fly.2.1 nst
    have npin : ∀ p ∈ X.pn ++ pins, p.1 ≠ a := fun p hp z => by
      obtain ⟨e, _, r1, r2, _⟩ := J.pin p hp
      have q := nb p.1 p.2 e (fun hm => (List.mem_cons.mp (J.stkSub _ hm)).elim r1 r2)
      rw [z, fly.2.1] at q
      cases q
    have S3 := to_suite J3 a
    refine wpAny_handleBy_cons (codeAny_handlers_test ?_) (by intro q; cases q)
    have LT : PySem.W.Looks (model X.prog X.w) h3 (typeOf (.ref a)) cls := fun _ _ _ _ k q => wpAny_typeOf_ref (k _ _ hob) (by rw [hz.1]; exact q)
    have LM := PySem.W.exm_one (M := model X.prog X.w) J3.kIn LT hb1
    have see : ∀ {Q : Value → Shared → Prop} {E : Value → Shared → Prop}, Q c { t0 with heap := h3 } → wpAny (model X.prog X.w) (X.A.mark (some (.ref a))) (eval (.Name x p1) X.env) Q E { t0 with heap := h3 } := fun {Q E} q => by
      obtain ⟨hg, hdb, hm | ⟨hm, hv, hnn⟩⟩ := hc
      · exact ld_glob (X := X.suite a (X.pn ++ pins)) S3 hg hm q hdb
      · exact ld_blt (X := X.suite a (X.pn ++ pins)) S3 hg hm hv q hnn hdb
    refine see (LM.here ?_)
    cases b with
    | true =>
      refine codeAny_handlers_suite_as ?_
      refine HandSPX.lands_againZ fly fun h4 fly4 up4 => ?_
      have J4 : Inv X pins σ1 H1 { t0 with heap := h4 } := J.landed nb fly4.1 ((up.trans up3).trans up4) eo ag
      obtain ⟨ob4, vs4, hob4, hz4, hd4⟩ := fly4.there
      have T4 := to_suite (track J4 na n0 nL npin hob4 hz4 hd4) a
      refine store_ok (X := X.suite a (X.pn ++ pins)) (v := .ref a) T4 hN hi (.inl hln) rfl (fun s5 T5 => ?_) (.inr hln)
      refine wpAny_mono ((hsu a cls d (X.pn ++ pins)).run [] s5 _ _ _ T5 (hyes rfl a na)) (fun fl t6 hsp => ?_) (fun _ _ z => False.elim z)
      have fin : ∀ {σ6 : L2.St} {H6 : Hp} {Q : Shared → Prop}, Inv (X.suite a (X.pn ++ pins)) [] σ6 H6 t6 → (∀ t7, Inv X pins (σ6.set i none) H6 t7 → Q t7) →
          wpAny (model X.prog X.w) X.A (do bindName X.env n .none; unbindBehindTheSuite X.env n p2) (fun _ t7 => Q t7) X.xe t6 := fun {σ6 H6 Q} T6 hq => gone_ok (of_suite T6 ok) hN hi hln hq
      cases fl with
      | next =>
        obtain ⟨σ6, H6, T6, q6⟩ := hsp
        exact fin T6 fun _ J7 => ⟨_, _, J7, q6⟩
      | brk =>
        obtain ⟨σ6, H6, T6, q6⟩ := hsp
        exact fin T6 fun _ J7 => ⟨_, _, J7, q6⟩
      | cont =>
        obtain ⟨σ6, H6, T6, q6⟩ := hsp
        exact fin T6 fun _ J7 => ⟨_, _, J7, q6⟩
      | ret u =>
        obtain ⟨v6, σ6, H6, T6, r6, q6⟩ := hsp
        exact fin T6 fun _ J7 => ⟨_, _, _, J7, r6, q6⟩
    | false =>
      show wpAny _ X.A (handleBy (.ref a) X.env []) _ _ _
      refine wpAny_handleBy_nil ?_
      obtain ⟨g1, g2, g3, oe, us, T, oT, ts', e1, e2, e3, e4, e5⟩ := id fly
      unfold PySem.passOn
      refine wpAny_bind (wpAny_field e1 e3 e4 ?_)
      rw [if_neg (show ¬ ((Value.ref T == Value.none) = true) by simp)]
      have out : wpAny (model X.prog X.w) X.A (setFlight (.ref a) X.env.frame) (fun _ t4 => wpAny (model X.prog X.w) X.A (throw (.ref a) : Sem Flow) (SP X pins D) X.xe t4) X.xe { t0 with heap := h3 } := by
        rw [hf]
        refine HandSPX.setFlight_upZ fly fun h4 hh4 up4 => wpAny_throw (tk _ _ ?_)
        exact ⟨a, B, sI, pins, σ1, H1, cls, d, rfl, J, nb, (up.trans up3).trans up4, .inr (.inr (by rw [hs]; exact hh4)), na, eo, ag, hno rfl⟩
      first
        | exact wpAny_bind (wpAny_pure (wpAny_bind out))
        | exact wpAny_bind out
  · cases fl with
    | next =>
      obtain ⟨σ1, H1, J1, q⟩ := hsp
      exact wpAny_execs_nil ⟨σ1, H1, J1.ofTry ok, q⟩
    | brk =>
      obtain ⟨σ1, H1, J1, q⟩ := hsp
      exact ⟨σ1, H1, J1.ofTry ok, q⟩
    | cont =>
      obtain ⟨σ1, H1, J1, q⟩ := hsp
      exact ⟨σ1, H1, J1.ofTry ok, q⟩
    | ret u =>
      obtain ⟨v, σ1, H1, J1, r, q⟩ := hsp
      exact ⟨v, σ1, H1, J1.ofTry ok, r, q⟩
end
end Pu

namespace Pu
open PySem L2 LamX
/-- the error that some work raises, or None: tl is what the work is told to do -/
def TTc (K : PySem.W.Frag) (PE0 : Addr) : (XK → Hp → VK → Prop) → Hp → VK → Prop := fun tl H Q => ∀ (E1 : XK) (Q1 : VK),
  (∀ cls d H', (∃ b, PySem.W.exmOne K cls (.ref PE0) = some b ∧ (b = true → ∀ a, H' a = none → Q (.ref a) (upd H' a (ExV cls d a))) ∧ (b = false → False)) → E1 cls d H') → (∀ v H', Q .non H' → Q1 v H') → tl E1 H Q1
theorem scCa : FnScope ["work", "caught", "error"] ["work"] (defScope sCaught) := ⟨rfl, rfl, rfl, by decide +kernel, rfl, by decide +kernel, by decide +kernel⟩
theorem takes_len {X : Cx} {W : WX} (tk : Takes X W) : Takes X (fun cls d σ H => σ.length = X.N.length → W cls d σ H) := fun u s' ⟨a, B, sI, pins, σ, H, cls, d, e, I, nb, up, sky, na, os, ag, w⟩ =>
  tk u s' ⟨a, B, sI, pins, σ, H, cls, d, e, I, nb, up, sky, na, os, ag, w I.len⟩
theorem caught_gives {X : Cx} {g PE0 : Addr} {cdg : Value} {q : Str} (hm : X.mg "PurseError" = some (.ref PE0)) :
    GivesTo X ["work", "caught", "error"] "_law_caught" (defScope sCaught) g cdg (defBody sCaught) "work" q (TTc X.K PE0) := by
  intro f c' s H Q tl act hc h
  have hgl : Gl (cxOf C8.CX0 X.prog X.w X.K X.mg X.base ["work", "caught", "error"] "_law_caught" (defScope sCaught) g cdg X.A X.stack s H C8.E0).nox "PurseError" := rfl
  refine ⟨_, pss_cons (ps_set (X := (cxOf C8.CX0 X.prog X.w X.K X.mg X.base ["work", "caught", "error"] "_law_caught" (defScope sCaught) g cdg X.A X.stack s H C8.E0).nox) (i := 1) scCa.nd rfl (Or.inl rfl) pe_non)
    (pss_cons (ps_try_held (X := (cxOf C8.CX0 X.prog X.w X.K X.mg X.base ["work", "caught", "error"] "_law_caught" (defScope sCaught) g cdg X.A X.stack s H C8.E0).nox) (c := .ref PE0) (i := 2) (Wo := fun _ _ _ _ => False)
        (tb := fun W D σ H => ∃ Ech : XK, (∀ cls d σ' H', Ech cls d H' → σ'.length = 3 → W cls d σ' H') ∧ σ[0]? = some (some (.ref f)) ∧ H c' = some (CodeO c' q) ∧ tl Ech H (fun _ H' => D.nx σ H'))
        (ts := fun _ _ _ => tAsg (tVar 2) (gName 1))
        rfl rfl rfl scCa.nd rfl rfl ⟨hgl, by decide, .inl hm⟩ LamX.takes0 (fun W pn xe tk _ => ?_) (fun a cls d pn => pss_one (ps_set (i := 1) scCa.nd rfl (Or.inl rfl) (pv 2))))
    (pss_one (ps_ret (pv 1)))), ?_⟩
  · refine ⟨fun pins s' σ H' D I h' => ?_⟩
    obtain ⟨Ech, hW, h1, h2, h3⟩ := h'
    exact (pss_one (ps_expr (act _ pn xe Ech _ _ (takes_len tk) (fun cls d σ' H' q => hW cls d σ' H' q)))).run pins s' σ H' D I ⟨h1, h2, h3⟩
  · refine ⟨fun cls d H' => ∃ b, PySem.W.exmOne X.K cls (.ref PE0) = some b ∧ (b = true → ∀ a, H' a = none → Q (.ref a) (upd H' a (ExV cls d a))) ∧ (b = false → False), fun cls d σ' H' ⟨b, e1, e2, e3⟩ hl => ⟨b, e1, fun hb a na => ?_, fun hb => e3 hb⟩, rfl, hc, h _ _ (fun _ _ _ q => q) fun v H' q => ⟨_, rfl, q⟩⟩
    match σ', hl with
    | [x, y, z], _ => exact ⟨_, rfl, _, rfl, e2 hb a na⟩
end Pu

namespace Pu
open PySem L2 LamX
abbrev sLaw : Stmt := top 28
/-! ### calls by a keyword alone -/
section
variable {X : Cx} {CX : CXT} {k : Nat} {f : Addr} {fd : FuncData} {ps ks : List Str} {sp : Sp} {E : XK} {x : Str} {p pos : Pos} {kws : List Keyword} {tk : TA} {g : List Value → List Value → List Value} {gV : List V → List V → List V}
theorem pe_callKw (F : FnOk X.prog X.w X.K X.mg X.base CX k f fd ps sp) (hr : Room k X.A) (hg : Gl X x) (hm : X.mg x = some (.ref f)) (hk : PySem.W.keepIn X.K (.ref f) = true) (hb : KBinds X.K fd ps ks g gV) (hx : Passes CX X E)
    (hkw : PK X kws tk) (hall : (backToKw pos (keywordEach kws X.env)).all (·.1.isSome) = true := by rfl) (hks : (backToKw pos (keywordEach kws X.env)).filterMap (·.1) = ks := by rfl) (hdb : (x == ("__debug__" : Str)) = false := by decide)
    (hpl : ((backTo pos (starEach [] X.env)).any (·.1) || (backToKw pos (keywordEach kws X.env)).any (·.1.isNone)) = false := by rfl) : PE X (.Call (.Name x p) [] kws pos) (tCallK sp gV E tNil tk) := by
  refine ⟨fun pn s σ H Q I h => wpAny_Call_Name_kw (ld_glob I hg hm ?_ hdb)⟩
  refine PySem.W.callWith_KW0 (h₀ := X.base) I.ok.mod.kin hk hall (thn (hkw.run pos pn s σ H _ I h) fun ws t ⟨zs, G, J, rz, q⟩ => ⟨J.kIn, ?_⟩) hpl
  rw [hks]
  exact run_fnk (us := []) (vs := []) F hr hb hx J .nil rz q
end
def g1 : List Value → List Value → List Value := fun us ws => match us with
  | [] => ws
  | _ => []
def gV1 : List V → List V → List V := fun us ws => match us with
  | [] => ws
  | _ => []
theorem kb1 {K : PySem.W.Frag} {fd : FuncData} {p : Str} (h : ∀ w : Value, bindArgs fd ⟨[], [(p, w)]⟩ = pure [(p, w)]) : KBinds K fd [p] [p] g1 gV1 where
  to := fun s us ws _ hl => by
    match us, ws, hl with
    | [], [w], _ => exact .of_eq (h w)
  rel := fun {vs us zs ws} r q => by
    cases r with
    | nil => exact q
    | cons _ _ => exact .nil
/-! ### (0,) * k -/
section
variable {X : Cx}
theorem n_rep {i k : Int} {m n : Nat} {x1 j1 j2 : Nat} {p1 p2 p3 pos : Pos} (hk : 2 ≤ k) (hk2 : k ≤ 1000) (hm : k.toNat ≤ m) : PE X (.BinOp (.Tuple [.Constant (.int i) j1 p1] x1 p2) .Mult (.Constant (.int k) j2 p3) pos) (TN (PV m (n + 2))) :=
  pe_imp (pe_op op_repT (pe_tup (pa_cons pe_int pa_nil)) pe_int) fun _ H Q q => ⟨by show 1 ≤ sizeLine; decide, fun p hp => ⟨p, k, [.int i], rfl, rfl, SqT.of upd_same, (by intro e; cases e), hk, hk2, (Nat.le_of_ble_eq_true rfl : 1 ≤ 1000), fun p2 hp2 => by
    have s2 : Same H (upd (upd H p (.tup [.int i])) p2 (.tup (List.replicate k.toNat [V.int i]).flatten)) := (same_upd hp).trans (same_upd hp2)
    refine q _ _ s2 (.tup p2 _ upd_same ((same_upd hp).free hp2) ?_ fun x hx => ?_)
    · rw [List.length_flatten, List.map_replicate]
      simp
      omega
    · obtain ⟨l, hl, hxl⟩ := List.mem_flatten.mp hx
      rw [(List.mem_replicate.mp hl).2] at hxl
      rw [List.mem_singleton.mp hxl]
      exact .int i⟩⟩
end
/-! ### isinstance of an error that was caught -/
section
variable {X : Cx}
def rIsV (K : PySem.W.Frag) : List V → Hp → VK → Prop := fun xs H Q => ∃ (a D C : Addr) (b : Bool), xs = [.ref a, .ref C] ∧ H a = some (ExV (.ref D) none a) ∧ ExcC K D ∧ PySem.W.kitOne K (.ref D) (.ref C) = some b ∧ Q (.bl b) H
theorem call_isV : CallR X (.builtin "isinstance") (rIsV X.K) := by
  intro pn s σ H xs us Q I r h
  obtain ⟨a, D, C, b, rfl, ha, ex, kit, q⟩ := h
  obtain ⟨u1, u2, rfl, r1, r2⟩ := vals2 r
  cases (show u1 = Value.ref a from r1)
  cases (show u2 = Value.ref C from r2)
  obtain ⟨⟨ob, vs, e, ⟨z1, z2⟩, hd⟩, _, _⟩ := I.hok a _ ha
  have J : PySem.W.InstAt s.heap a ob D none := by
    obtain ⟨c0, d0, da, sl⟩ := ob
    dsimp only at z1 z2 hd
    subst z1 z2 hd
    exact ⟨e, rfl, rfl, trivial⟩
  exact PySem.W.kia_one (PySem.W.handS_kitx_exc ex.hg ex.hk ex.hs ex.hd ex.ha ex.hn ex.ht ex.hm) I.kIn J kit (fun z => nomatch z) fun tk => ⟨.bl b, H, I.tok tk, rfl, q⟩
end
/-! ### what stays beside the tables of code -/
theorem PV.ext {N : Addr → Prop} {H H' : Hp} (k : ExtN H H') {m : Nat} : ∀ {n : Nat} {v : V}, PV m n N H v → PV m n N H' v
  | 0, _, h => h
  | n + 1, _, h => by
    cases h with
    | non => exact .non
    | bl b => exact .bl b
    | int i => exact .int i
    | str z => exact .str z
    | tup a xs e x l q => exact .tup a xs (k _ _ e fun ps z => by cases z) x l fun y hy => PV.ext k (q y hy)
    | lst a xs e x l q => exact .lst a xs (k _ _ e fun ps z => by cases z) x l fun y hy => PV.ext k (q y hy)
    | dct a e x => exact .dct a (k _ _ e fun ps z => by cases z) x
theorem StA.ext {H H' : Hp} {d g c : Addr} {T : Int} (S : StA H d g c T) (s : ExtN H H') : StA H' d g c T := by
  obtain ⟨l, t, h1, h2, h3, h4⟩ := S.dk
  obtain ⟨gs, h5, h6⟩ := S.gr
  obtain ⟨cs, h7, h8⟩ := S.ce
  exact ⟨⟨l, t, s _ _ h1 (fun ps z => by cases z), h2, h3, h4⟩, ⟨gs, s _ _ h5 (fun ps z => by cases z), h6⟩, ⟨cs, s _ _ h7 (fun ps z => by cases z), h8⟩, S.gc⟩
theorem StA.upd {H : Hp} {d g c a : Addr} {T : Int} {o : HO} (S : StA H d g c T) (h1 : d ≠ a) (h2 : g ≠ a) (h3 : c ≠ a) : StA (upd H a o) d g c T := by
  obtain ⟨l, t, e1, e2, e3, e4⟩ := S.dk
  obtain ⟨gs, e5, e6⟩ := S.gr
  obtain ⟨cs, e7, e8⟩ := S.ce
  exact ⟨⟨l, t, by rw [upd_ne h1]; exact e1, e2, e3, e4⟩, ⟨gs, by rw [upd_ne h2]; exact e5, e6⟩, ⟨cs, by rw [upd_ne h3]; exact e7, e8⟩, S.gc⟩
theorem tab_kp {H H' : Hp} {d g c P : Addr} {T : Int} {q : Str} (S : StA H d g c T) (k : Kp d g H H') (t : TabS H P q) : TabS H' P q := by
  obtain ⟨l, t1, e1, _⟩ := S.dk
  obtain ⟨gs, e5, _⟩ := S.gr
  obtain ⟨ps, h1, h2, h3⟩ := t
  refine ⟨ps, k _ _ h1 (ne_of h1 e1 (by intro z; cases z)) (ne_of h1 e5 (by intro z; cases z)), h2, fun pos cv hc => ?_⟩
  obtain ⟨cc, r1, r2⟩ := h3 pos cv hc
  exact ⟨cc, r1, k _ _ r2 (ne_of r2 e1 (by intro z; unfold CodeO at z; cases z)) (ne_of r2 e5 (by intro z; unfold CodeO at z; cases z))⟩
end Pu

namespace Pu
open PySem PySem.Spec PyProof.Rows L2
/-! ### l.extend(t), t a tuple -/
theorem ext_tup (l b : Addr) (mine its : Array Value) (n n2 : Nat) (dd : Option Addr) (sl : Array (Option Value)) (h0 : ¬(!mine.isEmpty && Builtin.List.listTooLong (mine.size + its.size)) = true) (h1 : mine.size ≤ sizeLine) (h2 : mine.size + its.size ≤ sizeLine + 1) :
    Meets (Builtin.«list.extend» ⟨[.ref l, .ref b], []⟩) (fun _ R s => s.heap.get? l = some { cls := .type "list", dict := none, data := .seq mine n, slots := #[] } ∧ s.heap.get? b = some { cls := .type "tuple", dict := dd, data := .seq its n2, slots := sl } ∧
      R (.ok (.ret Value.none)) { s with heap := s.heap.update l (Obj.mapSeq fun x => x ++ its), toks := s.toks }) :=
  .of_wp fun prog w A R s h => by
    obtain ⟨hp, g, d, tk, os⟩ := s
    obtain ⟨hl, hb, h⟩ := h
    have f2 := sub_tuple_tuple
    have f3 := sub_list_list
    have f4 := sub_tuple_list
    have f5 := sub_list_tuple
    have hz : (mine ++ its).size ≤ sizeLine + 1 := by
      rw [Array.size_append]
      exact h2
    wp_walk using (wpAny_updateSeq hl rfl (hz := h1) (_hz' := hz)), wpAny_loadPart' hl, wpAny_loadPart' hb
    exact ⟨_, rfl, h⟩
section
variable {X : Cx}
def rExtendT (K : PySem.W.Frag) : V → List V → Hp → VK → Prop := fun x vs H Q => ∃ l b xs zs, x = .ref l ∧ vs = [.ref b] ∧ H l = some (.lst xs) ∧ SqT K H b zs ∧ xs.length + zs.length ≤ 100000 ∧ Q .non (upd H l (.lst (xs ++ zs)))
theorem mt_extendT : MtM X "list.extend" (rExtendT X.K) := by
  intro pins s σ H x vs v us Q I rx rv h
  obtain ⟨l, b, xs, zs, rfl, rfl, hH, hB, hz, q⟩ := h
  cases rx
  obtain ⟨u, rfl, ru⟩ := rv.one
  cases ru
  obtain ⟨z, its, n, r, hl, e⟩ := I.lstM hH
  obtain ⟨its2, r2, ⟨⟨c2, dd, dt, sl⟩, e2, hc2, n2, hd2⟩, hl2⟩ := I.tuple hB
  dsimp only at hc2 hd2
  subst hc2 hd2
  have l2 := r2.length
  have hbig : (100000 : Nat) ≤ sizeLine := by rw [sizeLine_eq]; omega
  have hsz : its.toArray.size + its2.toArray.size ≤ sizeLine := by rw [List.size_toArray, List.size_toArray]; omega
  have hlong : ¬ (!its.toArray.isEmpty && Builtin.List.listTooLong (its.toArray.size + its2.toArray.size)) = true := by
    rw [notLongL hsz, Bool.and_false]
    exact Bool.false_ne_true
  refine call_meets PySem.F.slot_list_extend ⟨_, e, rfl⟩ PySem.F.entry_list_extend (PySem.F.args_list_extend_2 _ _)
    (ext_tup l b its.toArray its2.toArray n n2 dd sl hlong (by rw [List.size_toArray]; omega) (by omega)) ⟨e, e2, ?_⟩
  refine ⟨.non, _, I.lset (its' := its ++ its2) hH e (by simp) (r.append r2) ?_, rfl, q⟩
  rw [List.length_append]
  omega
end
/-! ### the program's judgements -/
abbrev sIsNum : Stmt := top 9
abbrev sNumFrom : Stmt := top 10
abbrev sStor : Stmt := top 14
abbrev sChkCell : Stmt := top 15
abbrev sChkFuse : Stmt := top 16
def numB : PyData → Bool
  | .int i => okI i
  | _ => false
/-- a fuse: None, or a number from 0 on -/
def fuB : PyData → Bool
  | .none => true
  | .int i => okI i && decide (0 ≤ i)
  | _ => false
def spIsNum : Sp := fun vs H Q _ => ∃ v n d, vs = [v] ∧ CV n H v d ∧ Q (.bl (numB d)) H
def spFrom0 : Sp := fun vs H Q _ => ∃ v n d, vs = [v, .int 0] ∧ CV n H v d ∧ d ≠ .none ∧ Q (.bl (fuB d)) H
def spStor : Sp := fun vs H Q _ => ∃ v n d, vs = [v] ∧ CV n H v d ∧ szB d ≤ 1000 ∧ ∀ H', Same H H' → Q (.bl (stB d)) H'
def spChkCell (C : Addr) : Sp := fun vs H Q E => ∃ v n d, vs = [v] ∧ CV n H v d ∧ (isD d "str" = true → Q .non H) ∧ (isD d "str" = false → E (.ref C) none H)
def spChkFuse (C : Addr) : Sp := fun vs H Q E => ∃ v n d, vs = [v] ∧ CV n H v d ∧ (fuB d = true → Q .non H) ∧ (fuB d = false → E (.ref C) none H)
theorem cv_int {H : Hp} {n : Nat} {v : V} {d : PyData} (h : CV n H v d) (e1 : isD d "int" = true) (e2 : isD d "bool" = false) : ∃ i, v = .int i ∧ d = .int i := by
  cases n with
  | zero => exact h.elim
  | succ n =>
    rcases h with ⟨rfl, rfl⟩ | ⟨b, rfl, rfl⟩ | ⟨i, rfl, rfl⟩ | ⟨z, rfl, rfl⟩ | ⟨a, ys, ds, rfl, h, rfl, p⟩ | ⟨a, o, rfl, h, ho, rfl⟩
    · cases e1
    · simp [isD] at e2
    · exact ⟨i, rfl, rfl⟩
    · exact absurd e1 (by simp [isD])
    · exact absurd e1 (by simp [isD])
    · cases e1
theorem num_no {d : PyData} (h : isD d "int" = false ∨ isD d "bool" = true) : numB d = false := by
  cases d with
  | int i => rcases h with h | h <;> simp [isD] at h
  | _ => rfl
section
variable {P : Program} {w : World} {K : PySem.W.Frag} {mg : Str → Option Value} {base : Heap}
theorem scIN : FnScope ["value"] ["value"] (defScope sIsNum) := ⟨rfl, rfl, rfl, by decide +kernel, rfl, by decide +kernel, by decide +kernel⟩
theorem ok_isnum {f : Addr} {fd : FuncData} {t1 : Tok} (F : Fun K "is_number" "is_number" sIsNum f fd) (ms : mg "isinstance" = none) (mi : mg "int" = none) (mb : mg "bool" = none) (mF : mg "FIRST_TOO_LONG" = some (.int BIG t1)) : FnOk P w K mg base CX0 1 f fd ["value"] spIsNum := by
  refine F.ok scIN (fun vs H Q E h => ?_) (fun cdv A outer s H vs Q E hr h => ?_)
  · obtain ⟨v, n, d, rfl, _⟩ := h
    rfl
  · obtain ⟨v, n, d, rfl, hv, k⟩ := h
    refine ⟨_, pss_cons (ps_if (PW.pt (pw_or (pt_not (pt_val (pe_callB call_isC (by rfl) ms (by decide +kernel) (pa_cons (pv 0) (pa_cons (pe_tyn "int" (by rfl) mi (by decide +kernel)) pa_nil)))))
          (pw_or1 (pt_val (pe_callB call_isC (by rfl) ms (by decide +kernel) (pa_cons (pv 0) (pa_cons (pe_tyn "bool" (by rfl) mb (by decide +kernel)) pa_nil))))))) (pss_one (ps_ret pe_bl)) pss_nil)
      (pss_one (ps_ret (pe_chain op_lt op_lt (pe_un un_neg (pe_glob (v := .int BIG) rfl mF ⟨_, rfl⟩)) (pv 0) (pe_glob (v := .int BIG) rfl mF ⟨_, rfl⟩)))), ?_⟩
    refine ⟨_, rfl, v, "int", n, d, rfl, by decide, hv, _, rfl, ?_⟩
    cases e : isD d "int" with
    | false =>
      refine iteT (iteT ?_)
      rw [num_no (.inl e)] at k
      exact k
    | true =>
      refine iteF ⟨_, rfl, v, "bool", n, d, rfl, by decide, hv, _, rfl, ?_⟩
      cases e3 : isD d "bool" with
      | true =>
        refine iteT ?_
        rw [num_no (.inr e3)] at k
        exact k
      | false =>
        refine iteF ?_
        obtain ⟨i, rfl, rfl⟩ := cv_int hv e e3
        refine ⟨BIG, rfl, _, rfl, _, _, rfl, rfl, _, rfl, ?_⟩
        by_cases c : -BIG < i
        · rw [decide_eq_true c]
          refine iteT ⟨_, _, rfl, rfl, ?_⟩
          have e2 : numB (.int i) = decide (i < BIG) := by show (decide (-BIG < i) && decide (i < BIG)) = _; rw [decide_eq_true c]; rfl
          rw [e2] at k
          exact k
        · rw [decide_eq_false c]
          refine iteF ?_
          have e2 : numB (.int i) = false := by show (decide (-BIG < i) && decide (i < BIG)) = _; rw [decide_eq_false c]; rfl
          rw [e2] at k
          exact k
theorem scNF : FnScope ["value", "least"] ["value", "least"] (defScope sNumFrom) := ⟨rfl, rfl, rfl, by decide +kernel, rfl, by decide +kernel, by decide +kernel⟩
theorem ok_from {f f9 : Addr} {fd fd9 : FuncData} (F : Fun K "is_number_from" "is_number_from" sNumFrom f fd) (G9 : FnOk P w K mg base CX0 1 f9 fd9 ["value"] spIsNum) (b9 : Binds K fd9 ["value"] []) (k9 : PySem.W.keepIn K (.ref f9) = true) (m9 : mg "is_number" = some (.ref f9)) :
    FnOk P w K mg base CX0 2 f fd ["value", "least"] spFrom0 := by
  refine F.ok scNF (fun vs H Q E h => ?_) (fun cdv A outer s H vs Q E hr h => ?_)
  · obtain ⟨v, n, d, rfl, _⟩ := h
    rfl
  · obtain ⟨v, n, d, rfl, hv, hne, k⟩ := h
    refine ⟨_, pss_one (ps_ret (pe_and (pe_call G9 hr rfl m9 k9 b9 .nil pass0 (pa_cons (pv 0) pa_nil)) (pe_one (pe_cmpR op_ge (pv 0) (pv 1) (nomark _))))), ?_⟩
    refine ⟨_, rfl, v, n, d, rfl, hv, _, rfl, ?_⟩
    cases e : numB d with
    | false =>
      refine iteF ?_
      have e2 : fuB d = false := by
        cases d with
        | none => exact absurd rfl hne
        | int i => show (okI i && decide (0 ≤ i)) = false; rw [show okI i = false from e]; rfl
        | _ => rfl
      rw [e2] at k
      exact k
    | true =>
      refine iteT ?_
      cases d with
      | int i =>
        have hv' : v = .int i := by
          cases n with
          | zero => exact hv.elim
          | succ n =>
            rcases hv with ⟨_, z⟩ | ⟨b, _, z⟩ | ⟨j, rfl, z⟩ | ⟨y, _, z⟩ | ⟨a, ys, ds, _, h, z, p⟩ | ⟨a, o, _, h, ho, z⟩ <;> cases z
            rfl
        subst hv'
        refine ⟨_, rfl, _, rfl, _, _, rfl, rfl, ?_⟩
        have e2 : fuB (.int i) = decide (i ≥ 0) := by show (okI i && decide (0 ≤ i)) = _; rw [show okI i = true from e]; rfl
        rw [e2] at k
        exact k
      | _ => cases e
theorem scCC : FnScope ["cell"] ["cell"] (defScope sChkCell) := ⟨rfl, rfl, rfl, by decide +kernel, rfl, by decide +kernel, by decide +kernel⟩
theorem ok_chkcell {f C : Addr} {fd : FuncData} (F : Fun K "check_cell" "check_cell" sChkCell f fd) (R : Er K mg "BadCell" C) (ms : mg "isinstance" = none) (mst : mg "str" = none) : FnOk P w K mg base (L2.CX P w) 1 f fd ["cell"] (spChkCell C) := by
  refine F.okX scCC (fun vs H Q E h => ?_) (fun cdv A outer s H vs Q E hr h => ?_)
  · obtain ⟨v, n, d, rfl, _⟩ := h
    rfl
  · obtain ⟨v, n, d, rfl, hv, k1, k2⟩ := h
    refine ⟨_, pss_one (ps_if (pt_not (pt_val (pe_callB call_isC (by rfl) ms (by decide +kernel) (pa_cons (pv 0) (pa_cons (pe_tyn "str" (by rfl) mst (by decide +kernel)) pa_nil)))))
      (pss_one (ps_raise rfl (takes_of rfl rfl rfl rfl) (pmk_own PySem.F.excBase_ValueError R.xi R.g R.k (raises_own R.b R.t) rfl))) pss_nil), ?_⟩
    refine ⟨_, rfl, v, "str", n, d, rfl, by decide, hv, _, rfl, ?_⟩
    cases e : isD d "str" with
    | true => exact iteF (k1 e)
    | false => exact iteT (k2 e)
theorem scCF : FnScope ["fuse"] ["fuse"] (defScope sChkFuse) := ⟨rfl, rfl, rfl, by decide +kernel, rfl, by decide +kernel, by decide +kernel⟩
end
end Pu

namespace Pu
open PySem L2
theorem paired_split {α β : Type} {R : α → β → Prop} : ∀ {xs : List α} {y : α} {ds : List β}, Paired R (xs ++ [y]) ds → ∃ es d, ds = es ++ [d] ∧ Paired R xs es ∧ R y d
  | [], y, _, .cons r .nil => ⟨[], _, rfl, .nil, r⟩
  | x :: xs, y, _, .cons r t => by
    obtain ⟨es, d, e, p, q⟩ := paired_split (xs := xs) (y := y) t
    subst e
    exact ⟨_ :: es, d, rfl, .cons r p, q⟩
theorem paired_app {α β : Type} {R : α → β → Prop} : ∀ {xs ys : List α} {ds es : List β}, Paired R xs ds → Paired R ys es → Paired R (xs ++ ys) (ds ++ es)
  | _, _, _, _, .nil, q => q
  | _, _, _, _, .cons r t, q => .cons r (paired_app t q)
theorem paired_len {α β : Type} {R : α → β → Prop} : ∀ {xs : List α} {ds : List β}, Paired R xs ds → xs.length = ds.length
  | _, _, .nil => rfl
  | _, _, .cons _ t => congrArg Nat.succ (paired_len t)
theorem len_szL : ∀ ds : List PyData, ds.length ≤ szL ds
  | [] => Nat.le_refl _
  | d :: r => by
    have := len_szL r
    have := szB_pos d
    simp only [List.length_cons, szL]
    omega
theorem cv_tup {H : Hp} {n : Nat} {v : V} {d : PyData} (h : CV n H v d) (e : isD d "tuple" = true) : ∃ a xs ds, v = .ref a ∧ H a = some (.tup xs) ∧ d = .tuple ds ∧ Paired (CV n H) xs ds := by
  cases n with
  | zero => exact h.elim
  | succ n =>
    rcases h with ⟨rfl, rfl⟩ | ⟨b, rfl, rfl⟩ | ⟨i, rfl, rfl⟩ | ⟨z, rfl, rfl⟩ | ⟨a, ys, ds, rfl, h, rfl, p⟩ | ⟨a, o, rfl, h, ho, rfl⟩
    · cases e
    · simp [isD] at e
    · simp [isD] at e
    · simp [isD] at e
    · exact ⟨a, ys, ds, rfl, h, rfl, paired_imp (fun _ _ q => CV.up q) p⟩
    · cases e
def isNo : PyData → Bool
  | .none => true
  | _ => false
theorem cv_non {H : Hp} {n : Nat} {v : V} {d : PyData} (h : CV n H v d) : decide (v = .non) = isNo d := by
  cases n with
  | zero => exact h.elim
  | succ n =>
    rcases h with ⟨rfl, rfl⟩ | ⟨b, rfl, rfl⟩ | ⟨i, rfl, rfl⟩ | ⟨z, rfl, rfl⟩ | ⟨a, ys, ds, rfl, h, rfl, p⟩ | ⟨a, o, rfl, h, ho, rfl⟩
    · exact decide_eq_true rfl
    all_goals exact decide_eq_false fun e => nomatch e
/-- what the last judgement says, for what is no tuple -/
theorem st_leaf {d : PyData} (e : isD d "tuple" = false) (h : ∀ ds, d ≠ .list ds) : stB d = (isNo d || isD d "str" || numB d) := by
  cases d with
  | none => rfl
  | bool b => simp [stB, isD, numB, isNo]
  | int i => simp [stB, isD, numB, isNo]
  | str z => simp [stB, isD]
  | list ds => exact absurd rfl (h ds)
  | tuple ds => simp [isD] at e
  | dict ds => simp [stB, isD, numB, isNo]
theorem cv_nolist {H : Hp} {n : Nat} {v : V} {d : PyData} (h : CV n H v d) : ∀ ds, d ≠ .list ds := by
  intro ds e
  subst e
  cases n with
  | zero => exact h.elim
  | succ n => rcases h with ⟨_, z⟩ | ⟨b, _, z⟩ | ⟨i, _, z⟩ | ⟨y, _, z⟩ | ⟨a, ys, ds', _, _, z, _⟩ | ⟨a, o, _, _, _, z⟩ <;> cases z
section
variable {P : Program} {w : World} {K : PySem.W.Frag} {mg : Str → Option Value} {base : Heap}
theorem ok_chkfuse {f C f10 : Addr} {fd fd10 : FuncData} (F : Fun K "check_fuse" "check_fuse" sChkFuse f fd) (R : Er K mg "BadFuse" C) (G10 : FnOk P w K mg base CX0 2 f10 fd10 ["value", "least"] spFrom0) (b10 : Binds K fd10 ["value", "least"] []) (k10 : PySem.W.keepIn K (.ref f10) = true) (m10 : mg "is_number_from" = some (.ref f10)) :
    FnOk P w K mg base (L2.CX P w) 3 f fd ["fuse"] (spChkFuse C) := by
  refine F.okX scCF (fun vs H Q E h => ?_) (fun cdv A outer s H vs Q E hr h => ?_)
  · obtain ⟨v, n, d, rfl, _⟩ := h
    rfl
  · obtain ⟨v, n, d, rfl, hv, k1, k2⟩ := h
    refine ⟨_, pss_one (ps_if (PW.pt (pw_and (pt_cmpR op_notN (pv 0) pe_non (nomark _)) (pw_and1 (pt_not (pt_val (pe_call G10 hr rfl m10 k10 b10 .nil pass0 (pa_cons (pv 0) (pa_cons pe_int pa_nil))))))))
      (pss_one (ps_raise rfl (takes_of rfl rfl rfl rfl) (pmk_own PySem.F.excBase_ValueError R.xi R.g R.k (raises_own R.b R.t) rfl))) pss_nil), ?_⟩
    refine ⟨_, rfl, rfl, _, rfl, ?_⟩
    rw [cv_non hv]
    cases d with
    | none => exact iteF (k1 rfl)
    | _ =>
      refine iteT ⟨_, rfl, v, n, _, rfl, hv, (by intro z; cases z), _, rfl, ?_⟩
      first
        | (cases e : fuB _ with
          | true => exact iteF (k1 e)
          | false => exact iteT (k2 e))
theorem scSt : FnScope ["value", "waiting", "item"] ["value"] (defScope sStor) := ⟨rfl, rfl, rfl, by decide +kernel, rfl, by decide +kernel, by decide +kernel⟩
theorem ok_stor {f f9 : Addr} {fd fd9 : FuncData} (F : Fun K "is_storable" "is_storable" sStor f fd) (ms : mg "isinstance" = none) (mt : mg "tuple" = none) (mst : mg "str" = none) (G9 : FnOk P w K mg base CX0 1 f9 fd9 ["value"] spIsNum) (b9 : Binds K fd9 ["value"] []) (k9 : PySem.W.keepIn K (.ref f9) = true) (m9 : mg "is_number" = some (.ref f9)) :
    FnOk P w K mg base CX0 2 f fd ["value"] spStor := by
  refine F.ok scSt (fun vs H Q E h => ?_) (fun cdv A outer s H vs Q E hr h => ?_)
  · obtain ⟨v, n, d, rfl, _⟩ := h
    rfl
  · obtain ⟨v, n, d, rfl, hv, hsz, k⟩ := h
    refine ⟨_, pss_cons (ps_set (i := 1) scSt.nd rfl (Or.inl rfl) (pe_lst (pa_cons (pv 0) pa_nil)))
      (pss_cons (ps_while PassesOwn.never (pt_truth (pv 1) (by intro _; rfl))
        (pss_cons (ps_set (i := 2) scSt.nd rfl (Or.inl rfl) (pe_bm0 PySem.F.plainAttrs_list PySem.F.slot_list_pop PySem.F.type_list_pop mt_pop (pv 1)))
        (pss_one (ps_if (pt_val (pe_callB call_isC (by rfl) ms (by decide +kernel) (pa_cons (pv 2) (pa_cons (pe_tyn "tuple" (by rfl) mt (by decide +kernel)) pa_nil))))
          (pss_one (ps_expr (pe_bm PySem.F.plainAttrs_list PySem.F.slot_list_extend PySem.F.type_list_extend mt_extendT (pv 1) (pa_cons (pv 2) pa_nil))))
          (pss_one (ps_if (PW.pt (pw_and (pt_cmpR op_notN (pv 2) pe_non (nomark _)) (pw_and (pt_not (pt_val (pe_callB call_isC (by rfl) ms (by decide +kernel) (pa_cons (pv 2) (pa_cons (pe_tyn "str" (by rfl) mst (by decide +kernel)) pa_nil)))))
              (pw_and1 (pt_not (pt_val (pe_call G9 hr rfl m9 k9 b9 .nil pass0 (pa_cons (pv 2) pa_nil))))))))
            (pss_one (ps_ret pe_bl)) pss_nil))))))
      (pss_one (ps_ret pe_bl))), ?_⟩
    refine ⟨_, rfl, (by show 1 ≤ sizeLine; decide), fun p hp => ?_⟩
    have s0 : Same H (upd H p (.lst [v])) := same_upd hp
    refine ⟨fun m σ H' => ∃ z2 xs ds, σ = [some v, some (.ref p), z2] ∧ (∀ b o, H b = some o → H' b = some o) ∧ H' p = some (.lst xs) ∧ Paired (CV n H) xs ds ∧ stL ds = stB d ∧ szL ds ≤ 1000 ∧ m = szL ds,
      ⟨_, none, [v], [d], rfl, s0, upd_same, .cons hv .nil, (by simp [stL]), (by simpa [szL] using hsz), rfl⟩, ?_⟩
    rintro m σ H' ⟨z2, xs, ds, rfl, sH, hp', pr, hst, hs, rfl⟩
    refine ⟨_, rfl, !xs.isEmpty, .inl ⟨xs, SqL.of hp', rfl⟩, ?_⟩
    rcases List.eq_nil_or_concat xs with rfl | ⟨ys, y, rfl⟩
    · cases pr
      refine iteF ?_
      rw [← hst] at k
      exact k H' sH
    · rw [List.concat_eq_append] at pr hp' ⊢
      obtain ⟨es, e, rfl, pr1, hy⟩ := paired_split pr
      rw [stL_app] at hst
      rw [szL_app] at hs ⊢
      have hne : (!(ys ++ [y]).isEmpty) = true := by simp
      rw [hne]
      refine iteT ⟨fun σ' H2 => ∃ z2 xs ds, σ' = [some v, some (.ref p), z2] ∧ (∀ b o, H b = some o → H2 b = some o) ∧ H2 p = some (.lst xs) ∧ Paired (CV n H) xs ds ∧ stL ds = stB d ∧ szL ds < szL es + szL [e],
        fun σ' H2 ⟨z2, xs, ds, e1, e2, e3, e4, e5, e6⟩ => ⟨szL ds, e6, z2, xs, ds, e1, e2, e3, e4, e5, (by omega), rfl⟩, ?_⟩
      have ez : szL [e] = szB e := by simp [szL]
      have el : stL [e] = stB e := by simp [stL]
      rw [el] at hst
      refine ⟨_, rfl, .inl ⟨rfl, _, SqL.of hp'⟩, p, _, y, rfl, rfl, hp', (by simp), ?_⟩
      rw [List.dropLast_concat]
      have s1 : ∀ b o, H b = some o → (upd H' p (.lst ys)) b = some o := fun b o q => by rw [upd_ne (ne_of_none q hp)]; exact sH b o q
      have hy1 : CV n (upd H' p (.lst ys)) y e := CV.same s1 hy
      refine ⟨_, rfl, y, "tuple", n, e, rfl, by decide, hy1, _, rfl, ?_⟩
      cases ht : isD e "tuple" with
      | true =>
        refine iteT ?_
        obtain ⟨a, zs, cs, rfl, ha, rfl, pz⟩ := cv_tup hy ht
        have e1 : stB (.tuple cs) = stL cs := by simp [stB]
        have e2 : szB (.tuple cs) = szL cs + 1 := by simp [szB]
        rw [e1] at hst
        rw [ez, e2] at hs ⊢
        have l1 := paired_len pr1
        have l2 := paired_len pz
        have l3 := len_szL es
        have l4 := len_szL cs
        refine ⟨_, rfl, .inl ⟨rfl, _, SqL.of upd_same⟩, _, rfl, p, a, ys, zs, rfl, rfl, upd_same, SqT.of (s1 _ _ ha), by omega, ?_⟩
        rw [upd_upd]
        refine ⟨_, ys ++ zs, es ++ cs, rfl, fun b o q => by rw [upd_ne (ne_of_none q hp)]; exact sH b o q, upd_same, paired_app pr1 pz, by rw [stL_app]; exact hst, by rw [szL_app]; omega⟩
      | false =>
        refine iteF ?_
        have sl := st_leaf ht (cv_nolist hy)
        have pos := szB_pos e
        refine ⟨_, rfl, rfl, _, rfl, ?_⟩
        rw [cv_non hy]
        have out : stB e = true → ∃ z2 xs ds, ([some v, some (.ref p), some y] : L2.St) = [some v, some (.ref p), z2] ∧ (∀ b o, H b = some o → (upd H' p (.lst ys)) b = some o) ∧ (upd H' p (.lst ys)) p = some (.lst xs) ∧ Paired (CV n H) xs ds ∧ stL ds = stB d ∧ szL ds < szL es + szL [e] := fun g =>
          ⟨_, ys, es, rfl, s1, upd_same, pr1, by rw [← hst, g, Bool.and_true], by rw [ez]; omega⟩
        have bad : stB e = false → Q (.bl false) (upd H' p (.lst ys)) := fun g => by
          rw [g, Bool.and_false] at hst
          rw [← hst] at k
          exact k _ s1
        cases hn : isNo e with
        | true =>
          rw [hn] at sl
          exact iteF (out (by rw [sl]; rfl))
        | false =>
          rw [hn] at sl
          refine iteT ⟨_, rfl, y, "str", n, e, rfl, by decide, hy1, _, rfl, ?_⟩
          cases hs2 : isD e "str" with
          | true =>
            rw [hs2] at sl
            exact iteF (out (by rw [sl]; rfl))
          | false =>
            rw [hs2] at sl
            refine iteT ⟨_, rfl, y, n, e, rfl, hy1, _, rfl, ?_⟩
            cases hq : numB e with
            | true =>
              rw [hq] at sl
              exact iteF (out (by rw [sl]; rfl))
            | false =>
              rw [hq] at sl
              exact iteT (bad (by rw [sl]; rfl))
end
end Pu

namespace Pu
open PySem PySem.Spec PyProof.Rows L2
/-! ### o.m(k=v, ..), C(k=v, ..) -/
def tMethK (C : Addr) (m : Str) (sp : Sp) (gV : List V → List V → List V) (E : XK) (ta : TE) (tk : TA) : TE := fun σ H Q => ta σ H fun x H1 => ∃ a dx fs, x = .ref a ∧ H1 a = some (.ins C dx fs) ∧ fs.lookup m = none ∧ tk σ H1 fun zs H2 => sp (gV [x] zs) H2 Q E
def tMakeK0 (C : Addr) (m : Nat) (sp : Sp) (gV : List V → List V → List V) (E : XK) (tk : TA) : TE := fun σ H Q => tk σ H fun zs H2 => zs.length = m ∧
  ∀ x dx, H2 x = none → H2 dx = none → dx ≠ x → sp (gV [.ref x] zs) (upd (upd H2 dx (.own x)) x (.ins C dx [])) (fun v H3 => v = .non ∧ Q (.ref x) H3) E
section
variable {X : Cx} {CX : CXT} {k : Nat} {f C : Addr} {fd : FuncData} {ps ks : List Str} {sp : Sp} {E : XK} {x m : Str} {o : Expr} {p apos pos : Pos} {kws : List Keyword} {ta : TE} {tk : TA} {g : List Value → List Value → List Value} {gV : List V → List V → List V}
theorem pe_methKw {pl : Sem Bool} (he : PE X o ta) (c : Cls X.K C) (hm : Meth X.K C m f) (F : FnOk X.prog X.w X.K X.mg X.base CX k f fd ps sp) (hr : Room k X.A) (hb : KBinds X.K fd ps ks g gV) (hx : Passes CX X E) (hkw : PK X kws tk)
    (hall : (backToKw pos (keywordEach kws X.env)).all (·.1.isSome) = true := by rfl) (hks : (backToKw pos (keywordEach kws X.env)).filterMap (·.1) = ks := by rfl)
    (hpl : ((backTo pos (starEach [] X.env)).any (·.1) || (backToKw pos (keywordEach kws X.env)).any (·.1.isNone)) = false := by rfl)
    (ht : eval (.Call (.Attribute o m apos) [] kws pos) X.env = (do
      let ov ← eval o X.env
      standAt apos.atName
      let (f, first) ← holding [ov] (getMethod ov m pl)
      callWith pos f first (backTo pos (starEach [] X.env)) (backToKw pos (keywordEach kws X.env))) := by rfl) :
    PE X (.Call (.Attribute o m apos) [] kws pos) (tMethK C m sp gV E ta tk) := by
  refine ⟨fun pn s σ H Q I h => ?_⟩
  refine PySem.W.methodCall_KW (pl := pl) (thn (he.run pn s σ H _ I h) fun u t ⟨y, H1, I1, ry, a, dx, fs, ey, ea, l, q⟩ => ?_) ht
  subst ey
  obtain rfl : u = Value.ref a := ry
  refine getmeth_ok I1 ea c hm l ?_
  refine PySem.W.callWith_KW0 (first := [.ref a]) (h₀ := X.base) I.ok.mod.kin hm.kp hall (thn (hkw.run pos pn t σ H1 _ I1 q) fun ws t2 ⟨zs, H2, I2, rz, q2⟩ => ⟨I2.kIn, ?_⟩) hpl
  rw [hks]
  exact run_fnk (us := [.ref a]) (vs := [.ref a]) F hr hb hx I2 (.cons rfl .nil) rz q2
theorem pe_makeK0 (M : Mk X.K C f) (F : FnOk X.prog X.w X.K X.mg X.base CX k f fd ps sp) (hr : Room (k + 1) X.A) (hg : Gl X x) (hm : X.mg x = some (.ref C)) (hb : KBn X.K fd ps 1 ks g gV) (hx : Passes CX X E)
    (hkw : PK X kws tk) (hall : (backToKw pos (keywordEach kws X.env)).all (·.1.isSome) = true := by rfl) (hks : (backToKw pos (keywordEach kws X.env)).filterMap (·.1) = ks := by rfl)
    (hdb : (x == ("__debug__" : Str)) = false := by decide)
    (hpl : ((backTo pos (starEach [] X.env)).any (·.1) || (backToKw pos (keywordEach kws X.env)).any (·.1.isNone)) = false := by rfl) :
    PE X (.Call (.Name x p) [] kws pos) (tMakeK0 C ks.length sp gV E tk) := by
  refine ⟨fun pn s σ H Q I h => wpAny_Call_Name_kw (ld_glob I hg hm ?_ hdb)⟩
  refine PySem.W.callWith_KW0 (h₀ := X.base) I.ok.mod.kin M.kp hall (thn (hkw.run pos pn s σ H _ I h) fun ws t ⟨zs, H2, I2, rz, l2, q2⟩ => ⟨I2.kIn, ?_⟩) hpl
  rw [hks]
  exact run_makeN (n := 0) (us := []) (vs := []) M F hr hb hx I2 .nil rz rfl l2 q2
/-- two readings of one expression -/
theorem pe_either {e : Expr} {t u : TE} (h : PE X e t) (k : PE X e u) : PE X e (fun σ H Q => t σ H Q ∨ u σ H Q) := ⟨fun pn s σ H Q I q => q.elim (h.run pn s σ H Q I) (k.run pn s σ H Q I)⟩
end
/-! ### a dict comprehension over what is told as a walk -/
theorem dc_it {J : It} {n : Nat} {G : Hp → Prop} {Y : Nat → Hp → V → Hp → Prop} (w : Walk J n G Y) {g : TG} {tt : TT} {tk tv : TE} {vs : List Nat} {σ : L2.St} {H1 : Hp} {D : Addr} {Qd : Hp → Prop} (Pv : Nat → Hp → Prop) (h0 : Pv 0 (upd H1 D (.dK []))) (hG : ∀ i H, i ≤ n → Pv i H → G H)
    (hs : ∀ i x H H', i < n → Pv i H → Y i H x H' → g x (wipe σ vs) H' fun σ2 H2 => wipe σ2 vs = wipe σ vs ∧ tt σ2 H2 fun b H3 =>
      if b = true then tk σ2 H3 fun y H4 => tv σ2 H4 fun z H5 => ∃ kvs k, y = kV k ∧ H5 D = some (.dK kvs) ∧ kvs.length < sizeLine ∧ Pv (i + 1) (upd H5 D (.dK (putK kvs k z))) else Pv (i + 1) H3) (hd : ∀ H, Pv n H → Qd H) :
    ∃ W : Nat → Nat → Hp → Prop, (∃ m, W 0 m (upd H1 D (.dK []))) ∧ ∀ i m H, W i m H →
      (J.stop i H ∧ Qd H) ∨ (J.go i H ∧ ∃ Nx : Hp → Prop, (∀ H', Nx H' → ∃ m', m' < m ∧ W (i + 1) m' H') ∧ ∀ x H', J.yld i H x H' → g x (wipe σ vs) H' fun σ2 H2 => wipe σ2 vs = wipe σ vs ∧ tt σ2 H2 fun b H3 =>
        if b = true then tk σ2 H3 fun y H4 => tv σ2 H4 fun z H5 => ∃ kvs k, y = kV k ∧ H5 D = some (.dK kvs) ∧ kvs.length < sizeLine ∧ Nx (upd H5 D (.dK (putK kvs k z))) else Nx H3) := by
  refine ⟨fun i m H => m = n - i ∧ i ≤ n ∧ Pv i H, ⟨n, by simp, Nat.zero_le _, h0⟩, ?_⟩
  rintro i m H ⟨em, hi, p⟩
  subst em
  have q := hG i H hi p
  rcases Nat.lt_or_ge i n with hlt | hge
  · exact .inr ⟨w.goes i H hlt q, Pv (i + 1), fun H' p' => ⟨n - (i + 1), by omega, rfl, hlt, p'⟩, fun x H' y => hs i x H H' hlt p (w.yields i H x H' hlt q y)⟩
  · have e : i = n := by omega
    subst e
    exact .inl ⟨w.stops H q, hd H p⟩
/-! ### dicts of cells -/
/-- a dict's pairs, put one behind another, no key twice -/
theorem put_snoc {kvs : List (Key × V)} {k : Key} {v : V} (h : k ∉ kvs.map (·.1)) : putK kvs k v = kvs ++ [(k, v)] := by
  refine putK_new _ ?_
  cases e : valV kvs k with
  | none => rfl
  | some u => exact absurd (valV_in e) h
theorem take_put {kvs : List (Key × V)} (nd : (kvs.map (·.1)).Nodup) {i : Nat} {k : Key} {v : V} (h : kvs[i]? = some (k, v)) : putK (kvs.take i) k v = kvs.take (i + 1) := by
  have hi : i < kvs.length := (List.getElem?_eq_some_iff.mp h).1
  have e : kvs.take (i + 1) = kvs.take i ++ [(k, v)] := by
    rw [List.take_succ, h]
    rfl
  rw [e]
  refine put_snoc fun hm => ?_
  have nd2 : ((kvs.take (i + 1)).map (·.1)).Nodup := by
    have z : (kvs.take (i + 1)).map (·.1) = (kvs.map (·.1)).take (i + 1) := List.map_take ..
    rw [z]
    exact nd.sublist (List.take_sublist _ _)
  rw [e, List.map_append, List.nodup_append] at nd2
  exact nd2.2.2 k hm k (by simp) rfl
end Pu

namespace Pu
open PySem PySem.Spec PyProof.Rows L2
/-! ### {None: 1} -/
/-- just this object stands at d -/
def NoD (d : Addr) (o : Obj) : HO := .ext fun h => h.get? d = some o
structure NoDo (P : Program) (w : World) (d : Addr) (o : Obj) : Prop where
  sys : (d == sysModules) = false
  dat : ∃ es ep t, o.ExactDict ∧ o.data = .dict es ep ∧ KeysOf (leafKind P w) es ∧ Pairs (leafKind P w) es.toList [(Leaf.none, .int 1 t)]
theorem noD_ok {P : Program} {w : World} {H : Hp} {h : Heap} {d : Addr} {o : Obj} (e : h.get? d = some o) : ObjOk P w H h d (NoD d o) := ⟨e, ⟨o, e⟩, fun _ _ q k => k _ q⟩
theorem noD_at {P : Program} {w : World} {H : Hp} {h : Heap} {d : Addr} {o : Obj} (hok : HOk P w H h) (e : H d = some (NoD d o)) : h.get? d = some o := by
  have z : ObjOk P w H h d (.ext fun h => h.get? d = some o) := hok d _ e
  exact z.1
theorem noD_dict {P : Program} {w : World} {h : Heap} {d : Addr} {o : Obj} (N : NoDo P w d o) (e : h.get? d = some o) : ∃ ep t, h.DictAt (leafKind P w) d [(Leaf.none, .int 1 t)] ep := by
  obtain ⟨es, ep, t, x1, x2, x3, x4⟩ := N.dat
  exact ⟨ep, t, o, es, e, x1, x2, x3, x4, by simp⟩
section
variable {X : Cx}
theorem pe_nod {j1 j2 : Nat} {p1 p2 pos : Pos} : PE X (.Dict [some (.Constant .none j1 p1)] [.Constant (.int 1) j2 p2] pos) (fun _ H Q => ∀ p o, H p = none → NoDo X.prog X.w p o → Q (.ref p) (upd H p (NoD p o))) := by
  refine ⟨fun pn s σ H Q I q => ?_⟩
  have free := I.hok.fresh (Nat.le_refl s.heap.objs.size)
  have hsy : (s.heap.objs.size == sysModules) = false := beq_eq_false_iff_ne.mpr (Ne.symm (Nat.ne_of_lt I.big))
  refine wpAny_Dict_walk (knd := leafKind X.prog X.w) (by rfl) (by rfl) (fun z => by cases z) (by show 1 ≤ 15; decide) (pairTrees_cons_walk (Constant_none (wpAny_Constant_int (pairTrees_nil_walk ?_))))
  refine ⟨[(Leaf.none, .int 1 s.toks)], ⟨rfl, rfl, True.intro⟩, Heap.DictOf.new s.heap, fun h' dd sb => ?_⟩
  obtain ⟨o, es, ep, a1, a2, a3, a4, a5, _⟩ := id dd
  refine ⟨.ref s.heap.objs.size, upd H s.heap.objs.size (NoD s.heap.objs.size o), ?_, rfl, q _ o free ⟨hsy, es, ep, s.toks, a2, a3, a4, a5⟩⟩
  exact I.laid (fun b u e => (sb.2 b (Nat.ne_of_lt (Heap.lt_size e))).trans (Heap.get?_push_of_some _ e)) (Nat.le_refl _) (noD_ok a1)
/-! ### its pairs, walked -/
def ItN (d : Addr) (o : Obj) : It :=
  ⟨fun i H => H d = some (NoD d o) ∧ i < 1, fun _ H x H' => ∃ T, x = .ref T ∧ H T = none ∧ H' = upd H T (.tup [.non, .int 1]), fun i H => H d = some (NoD d o) ∧ 1 ≤ i⟩
theorem turn_nod {P : Program} {w : World} {K : PySem.W.Frag} {elts : List Expr} {kk ep : Nat} {tpos : Pos} {d : Addr} {o : Obj} (it : Addr) (N : NoDo P w d o) (he : ∀ es' ep', o.data = .dict es' ep' → ep' = ep) :
    Turn P w K (.Tuple elts kk tpos) (ItN d o) [it] it (fun i h => ∃ ok ov, IsItemIter h it d i 1 ep ok ov) where
  mem := by simp
  obj := fun i h st b hb => by
    have e : b = it := by simpa using hb
    subst e
    obtain ⟨ok, ov, e⟩ := st
    exact ⟨_, e, fun v z => nomatch z⟩
  keep := fun i h h' ⟨ok, ov, e⟩ k => ⟨ok, ov, k it (by simp) _ e⟩
  item := by
    intro X eP ew eK calm i pn s σ H E I fp ⟨ok, ov, hit⟩ ⟨hd, hi⟩
    subst eP ew eK
    have hod := noD_at I.hok hd
    obtain ⟨ep2, t, ha⟩ := noD_dict N hod
    have e2 : ep2 = ep := by
      obtain ⟨o2, es2, b1, _, b3, _⟩ := id ha
      rw [hod] at b1
      cases b1
      exact he _ _ b3
    subst e2
    have i0 : i = 0 := by omega
    subst i0
    have lt : it < s.heap.objs.size := Heap.lt_size hit
    refine wpAny_pyNext_items_item (kvs := [(Leaf.none, .int 1 t)]) hit ha rfl fun key h1 hk ho hT hz keep => ?_
    have ek : key = .none := by
      cases key <;> first | rfl | exact absurd hk Bool.false_ne_true
    subst ek
    refine ⟨_, rfl, wpAny_letOwnedTupleGo_items (s := { s with heap := h1 }) ho fun h2 hit2 sb => ?_⟩
    have hT2 : h2.get? s.heap.objs.size = some { cls := .type "tuple", data := .seq #[Value.none, .int 1 t] } := (sb.2 _ (Nat.ne_of_gt lt)).trans hT
    have new : ObjOk X.prog X.w (upd H s.heap.objs.size (.tup [.non, .int 1])) h2 s.heap.objs.size (.tup [.non, .int 1]) :=
      ⟨by show 2 ≤ sizeLine; decide, [.none, .int 1 t], .cons rfl (.cons ⟨t, rfl⟩ .nil), ⟨_, hT2, rfl, _, rfl⟩⟩
    have J : Inv X pn σ (upd H s.heap.objs.size (.tup [.non, .int 1])) { s with heap := h2 } :=
      I.turnedNew (t' := s.toks) (ch := [it]) (fun b ob nb e => (sb.2 b (by simpa using nb)).trans (keep b ob (by simpa using nb) e)) fp (Nat.le_refl _) new
    refine ⟨.ref s.heap.objs.size, _, J, rfl, ⟨_, rfl, I.hok.fresh (Nat.le_refl _), rfl⟩, ⟨.none, .int 1 t, hit2⟩, fun b hb => ?_⟩
    have e : b = it := by simpa using hb
    subst e
    rw [upd_ne (Nat.ne_of_lt lt)]
    exact (fp b (by simp)).1
  done := by
    intro X eP ew eK calm i pn s σ H E I fp ⟨ok, ov, hit⟩ ⟨hd, hi⟩
    subst eP ew eK
    have hod := noD_at I.hok hd
    obtain ⟨ep2, t, ha⟩ := noD_dict N hod
    have e2 : ep2 = ep := by
      obtain ⟨o2, es2, b1, _, b3, _⟩ := id ha
      rw [hod] at b1
      cases b1
      exact he _ _ b3
    subst e2
    obtain ⟨f0, f1, f2, f3, f4, f5⟩ := fp it (by simp)
    exact wpAny_pyNext_items_end (kvs := [(Leaf.none, .int 1 t)]) (I.ok.hd calm) hit ha (List.getElem?_eq_none (by simpa using hi)) fun h1 eb => ⟨rfl, I.turned (t' := s.toks) (fun b ob nb e => eb b ob nb e) f0 f1 f3 f4 f5⟩
  self := fun A i s Q E st q => by
    obtain ⟨_, _, e⟩ := st
    exact wpAny_pyIter_itemiter e q
def iItN (P : Program) (w : World) (td : TE) : TI := fun σ H R => td σ H fun x H1 => ∃ d o, x = .ref d ∧ H1 d = some (NoD d o) ∧ NoDo P w d o ∧ R (ItN d o) H1
theorem pi_nod {e : Expr} {td : TE} {apos cpos tpos : Pos} {elts : List Expr} {kk : Nat} (he : PE X e td) (hbase : attributeBase e "items" X.env (eval e X.env) = eval e X.env := by rfl) (hline : (apos.endLine == cpos.line) = true := by rfl) :
    PI X (.Tuple elts kk tpos) (.Call (.Attribute e "items" apos) [] [] cpos) (iItN X.prog X.w td) := by
  refine ⟨fun pn s σ H R I h => ?_⟩
  refine wpAny_Call_method (T := "dict") (id := "dict.items") hbase rfl hline PySem.F.plainAttrs_dict PySem.F.slot_dict_items PySem.F.type_dict_items (thn (he.run pn s σ H _ I h) fun u t ⟨x, H1, I1, rx, d, o, ex, hd, N, q⟩ => ?_)
  subst ex
  obtain rfl : u = Value.ref d := rx
  have hod := noD_at I1.hok hd
  obtain ⟨ep, t1, ha⟩ := noD_dict N hod
  refine ⟨ha.dictOf.typeIs, ha.dictOf.mapOf.noDict, ?_⟩
  have I2 : Inv X pn σ H1 { t with heap := t.heap.push { cls := .type "dict_items", data := .fields #[.ref d] } } := I1.kept (t' := t.toks) fun b ob e => Heap.get?_push_of_some _ e
  have fin : wpAny (model X.prog X.w) X.A (pyIter (.ref t.heap.objs.size)) (PIE X pn σ (.Tuple elts kk tpos) R) X.xe { t with heap := t.heap.push { cls := .type "dict_items", data := .fields #[.ref d] } } := by
    refine wpAny_pyIter_items (d := d) (knd := leafKind X.prog X.w) ⟨_, Heap.get?_push_size _ rfl, rfl, rfl⟩ (ha.push _) (pi_one (tk := t.toks) I2 _ (turn_nod (ep := ep) _ N fun es' ep' z => ?_) ⟨.none, .none, ?_⟩ q)
    · obtain ⟨o2, es2, b1, _, b3, _⟩ := id ha
      rw [hod] at b1
      cases b1
      rw [b3] at z
      cases z
      rfl
    · exact Heap.get?_push_size _ rfl
  show wpAny _ _ (callWith cpos (.builtin "dict.items") [.ref d] [] []) _ X.xe t
  exact method_meetsIn PySem.F.slot_dict_items PySem.F.entry_dict_items rfl (PySem.evalArgs_none ⟨rfl, ha.dictOf.typeIs, PySem.F.args_dict_items_1 _, _, meets_dict_items (leafKind X.prog X.w) d N.sys, ⟨_, ha.dictOf⟩, fin⟩)
end
end Pu

namespace Pu
open PySem PySem.Spec PyProof.Rows L2
abbrev sAre : Stmt := top 13
def keyS : Key → Bool
  | .inl _ => false
  | .inr _ => true
def cellL : List (Key × V) → List PyData → List Bool
  | kv :: r, d :: ds => (keyS kv.1 && stB d) :: cellL r ds
  | _, _ => []
/-- what may be told to be cells, and whether it is a dict from texts to contents -/
inductive CelV (K : PySem.W.Frag) (P : Program) (w : World) (H : Hp) (v : V) : Bool → Prop where
  | no (T : String) : TyX K H v (.type T) → kitB T "dict" = some false → CelV K P w H v false
  | dk (a : Addr) (kvs : List (Key × V)) (ds : List PyData) : v = .ref a → H a = some (.dK kvs) → Paired (fun kv d => CV 6 (delH H a) kv.2 d ∧ szB d ≤ 1000) kvs ds → kvs.length ≤ 100 → CelV K P w H v ((cellL kvs ds).all id)
  | nod (d : Addr) (o : Obj) : v = .ref d → H d = some (NoD d o) → NoDo P w d o → CelV K P w H v false
def spAre (K : PySem.W.Frag) (P : Program) (w : World) : Sp := fun vs H Q _ => ∃ v b, vs = [v] ∧ CelV K P w H v b ∧ ∀ H', Same H H' → Q (.bl b) H'
def rIsDict (K : PySem.W.Frag) (P : Program) (w : World) : List V → Hp → VK → Prop := fun xs H Q => ∃ v b, xs = [v, .ty "dict"] ∧ ((∃ T, TyX K H v (.type T) ∧ kitB T "dict" = some b) ∨ (b = true ∧ ∃ d o, v = .ref d ∧ H d = some (NoD d o) ∧ NoDo P w d o)) ∧ Q (.bl b) H
section
variable {X : Cx}
theorem call_isDict : CallR X (.builtin "isinstance") (rIsDict X.K X.prog X.w) := by
  intro pn s σ H xs us Q I r ⟨v, b, ex, h, q⟩
  rcases h with ⟨T, t, kt⟩ | ⟨rfl, d, o, rfl, hd, N⟩
  · exact call_isi pn s σ H xs us Q I r ⟨v, .ty "dict", _, _, _, ex, .ty "dict", t, kit_ty kt, q⟩
  · subst ex
    obtain ⟨u1, u2, rfl, r1, r2⟩ := vals2 r
    cases (show u1 = Value.ref d from r1)
    cases (show u2 = Value.type "dict" from r2)
    have hod := noD_at I.hok hd
    obtain ⟨es, ep, t, x1, _⟩ := N.dat
    exact PySem.W.kia_one PySem.W.kitx_dict I.kIn (show PySem.W.KitAt d "dict" s.heap from ⟨o, hod, x1.1⟩) (kit_ty (by decide +kernel)) (fun z => nomatch z) fun tk => ⟨.bl true, H, I.tok tk, rfl, q⟩
end
theorem cellL_len : ∀ {kvs : List (Key × V)} {ds : List PyData} {R : Key × V → PyData → Prop}, Paired R kvs ds → (cellL kvs ds).length = kvs.length
  | _, _, _, .nil => rfl
  | _, _, _, .cons _ t => congrArg Nat.succ (cellL_len t)
theorem cellL_at : ∀ {kvs : List (Key × V)} {ds : List PyData} {R : Key × V → PyData → Prop}, Paired R kvs ds → ∀ {i : Nat} {kv : Key × V}, kvs[i]? = some kv → ∃ d, R kv d ∧ (cellL kvs ds)[i]? = some (keyS kv.1 && stB d)
  | _, _, _, .nil, i, kv, h => by cases h
  | _, _, _, .cons r t, 0, kv, h => by cases h; exact ⟨_, r, rfl⟩
  | _, _, _, .cons r t, i + 1, kv, h => cellL_at t (i := i) h
theorem cv_key {H : Hp} (k : Key) : CV 1 H (kV k) (match k with | .inl i => .int i | .inr z => .str z) ∧ isD (match k with | .inl i => PyData.int i | .inr z => .str z) "str" = keyS k := by
  cases k with
  | inl i => exact ⟨.inr (.inr (.inl ⟨i, rfl, rfl⟩)), by simp [isD, keyS]⟩
  | inr z => exact ⟨.inr (.inr (.inr (.inl ⟨z, rfl, rfl⟩))), by simp [isD, keyS]⟩
section
variable {P : Program} {w : World} {K : PySem.W.Frag} {mg : Str → Option Value} {base : Heap}
theorem scAr : FnScope ["value", "cell", "held"] ["value"] (defScope sAre) := ⟨rfl, rfl, rfl, by decide +kernel, rfl, by decide +kernel, by decide +kernel⟩
theorem ok_are {f f14 : Addr} {fd fd14 : FuncData} (F : Fun K "are_cells" "are_cells" sAre f fd) (ms : mg "isinstance" = none) (mst : mg "str" = none) (mdi : mg "dict" = none) (mal : mg "all" = none) (G14 : FnOk P w K mg base CX0 2 f14 fd14 ["value"] spStor) (b14 : Binds K fd14 ["value"] []) (k14 : PySem.W.keepIn K (.ref f14) = true) (m14 : mg "is_storable" = some (.ref f14)) :
    FnOk P w K mg base CX0 3 f fd ["value"] (spAre K P w) := by
  refine F.ok scAr (fun vs H Q E h => ?_) (fun cdv A outer s H vs Q E hr h => ?_)
  · obtain ⟨v, b, rfl, _⟩ := h
    rfl
  · obtain ⟨v, b, rfl, hv, k⟩ := h
    refine ⟨_, pss_cons (ps_if (pt_not (pt_val (pe_callB call_isDict (by rfl) ms (by decide +kernel) (pa_cons (pv 0) (pa_cons (pe_tyn "dict" (by rfl) mdi (by decide +kernel)) pa_nil))))) (pss_one (ps_ret pe_bl)) pss_nil)
      (pss_one (ps_ret (pe_either
        (pe_lock (pe_callB (cr_all rfl) (by rfl) mal (by decide +kernel) (pa_cons (pe_lc (own := [("cell", 1), ("held", 2)]) (g := gTup K 2 (gCons (gName 1) (gCons (gName 2) gNil))) rfl scAr.nd (pi_items (pv 0)) (blkOk_by (own := [("cell", 1), ("held", 2)]) (N := ["value", "cell", "held"]) (sc := defScope sAre) (by decide +kernel))
            (fun _ _ _ _ _ => pg_tup rfl (pgs_cons (pg_name (i := 1) scAr.nd rfl (Or.inl rfl)) (pgs_cons (pg_name (i := 2) scAr.nd rfl (Or.inl rfl)) pgs_nil))) (fun _ _ _ _ _ => pts_nil)
            (fun _ _ _ _ _ => pe_and (pe_callB call_isC (by rfl) ms (by decide +kernel) (pa_cons (pv 1) (pa_cons (pe_tyn "str" (by rfl) mst (by decide +kernel)) pa_nil))) (pe_one (pe_call G14 hr rfl m14 k14 b14 .nil pass0 (pa_cons (pv 2) pa_nil))))) pa_nil)))
        (pe_callB (cr_all rfl) (by rfl) mal (by decide +kernel) (pa_cons (pe_lc (own := [("cell", 1), ("held", 2)]) (g := gTup K 2 (gCons (gName 1) (gCons (gName 2) gNil))) rfl scAr.nd (pi_nod (pv 0)) (blkOk_by (own := [("cell", 1), ("held", 2)]) (N := ["value", "cell", "held"]) (sc := defScope sAre) (by decide +kernel))
            (fun _ _ _ _ _ => pg_tup rfl (pgs_cons (pg_name (i := 1) scAr.nd rfl (Or.inl rfl)) (pgs_cons (pg_name (i := 2) scAr.nd rfl (Or.inl rfl)) pgs_nil))) (fun _ _ _ _ _ => pts_nil)
            (fun _ _ _ _ _ => pe_and (pe_callB call_isC (by rfl) ms (by decide +kernel) (pa_cons (pv 1) (pa_cons (pe_tyn "str" (by rfl) mst (by decide +kernel)) pa_nil))) (pe_one (pe_call G14 hr rfl m14 k14 b14 .nil pass0 (pa_cons (pv 2) pa_nil))))) pa_nil))))), ?_⟩
    cases hv with
    | no T t kt =>
      exact ⟨_, rfl, v, false, rfl, .inl ⟨T, t, kt⟩, _, rfl, iteT (k H (Same.refl H))⟩
    | nod d o e hd N =>
      subst e
      refine ⟨_, rfl, .ref d, true, rfl, .inr ⟨rfl, d, o, rfl, hd, N⟩, _, rfl, iteF (.inr ?_)⟩
      refine ⟨_, rfl, d, o, rfl, hd, N, fun D hD => ?_⟩
      refine ⟨fun i m H' => m = 1 - i ∧ i ≤ 1 ∧ (∃ bs : List Bool, H' D = some (.lst (bs.map V.bl)) ∧ bs.length = i ∧ (i = 1 → bs = [false])) ∧ (∀ b o, H b = some o → H' b = some o), ⟨1, rfl, by decide, ⟨[], upd_same, rfl, fun z => by cases z⟩, same_upd hD⟩, ?_⟩
      rintro i m H' ⟨rfl, hi, ⟨bs, hb, lb, fb⟩, s'⟩
      by_cases c : i = 1
      · subst c
        rw [fb rfl] at hb
        exact .inl ⟨⟨s' _ _ hd, Nat.le_refl _⟩, D, [false], rfl, SqL.of hb, k H' s'⟩
      · have i0 : i = 0 := by omega
        subst i0
        have eb : bs = [] := List.length_eq_zero_iff.mp lb
        subst eb
        refine .inr ⟨⟨s' _ _ hd, by decide⟩, fun H2 => (∃ bs : List Bool, H2 D = some (.lst (bs.map V.bl)) ∧ bs.length = 1 ∧ (1 = 1 → bs = [false])) ∧ (∀ b o, H b = some o → H2 b = some o), fun H2 ⟨p1, p2⟩ => ⟨0, by decide, rfl, by decide, p1, p2⟩, fun x H2 ⟨T, ex, hT, e2⟩ => ?_⟩
        subst ex e2
        have s2 : ∀ b o, H b = some o → (upd H' T (.tup [.non, .int 1])) b = some o := fun b o q => same_upd hT _ _ (s' b o q)
        refine ⟨T, _, rfl, SqT.of upd_same, rfl, _, _, rfl, _, _, rfl, rfl, rfl, ?_⟩
        dsimp only [tYes]
        refine iteT ?_
        refine ⟨_, rfl, .non, "str", 1, .none, rfl, by decide, .inl ⟨rfl, rfl⟩, _, rfl, iteF ?_⟩
        refine ⟨_, same_upd hT _ _ hb, (by show 0 < sizeLine; decide), ⟨[false], ?_, rfl, fun _ => rfl⟩, fun b o q => ?_⟩
        · rw [upd_same]; rfl
        · rw [upd_ne (ne_of_none q hD)]
          exact s2 b o q
    | dk a kvs ds e ha pr hl =>
      subst e
      refine ⟨_, rfl, .ref a, true, rfl, .inl ⟨"dict", .base (.dK ha), by decide +kernel⟩, _, rfl, iteF (.inl ?_)⟩
      refine ⟨a, _, ha, True.intro, fun od => ⟨_, rfl, a, od, kvs, rfl, upd_same, fun D hD => lc_it walk_items (fun i H' => (∃ bs : List Bool, H' D = some (.lst (bs.map V.bl)) ∧ bs = (cellL kvs ds).take i) ∧ H' a = some (.frz od (.dK kvs)) ∧ (∀ b o, H b = some o → b ≠ a → H' b = some o)) ?_ (fun i H' _ h => h.2.1) ?_ ?_⟩⟩
      · have nD : a ≠ D := fun z => by rw [← z, upd_same] at hD; cases hD
        refine ⟨⟨[], upd_same, by simp⟩, by rw [upd_ne nD, upd_same], fun b o q ne => ?_⟩
        have bD : b ≠ D := fun z => by
          rw [← z, upd_ne ne, q] at hD
          cases hD
        rw [upd_ne bD, upd_ne ne]; exact q
      · rintro i x H1 H2 hi ⟨⟨bs, hb, eb⟩, h1, s1⟩ ⟨T, x1, x2, rfl, hT, rfl, e1, e2⟩
        obtain ⟨⟨kk, vv⟩, hkv⟩ : ∃ p, kvs[i]? = some p := ⟨kvs[i], List.getElem?_eq_getElem hi⟩
        simp only [hkv, Option.map_some, Option.some.injEq] at e1 e2
        subst e1
        subst e2
        obtain ⟨d, ⟨cvd, szd⟩, hc⟩ := cellL_at pr hkv
        have nD : H D = none := by
          have nDa : D ≠ a := fun z => by rw [z, upd_same] at hD; cases hD
          rw [upd_ne nDa] at hD
          exact hD
        have ext : ∀ b o, (delH H a) b = some o → (upd H1 T (.tup [kV kk, vv])) b = some o := fun b o q => by
          by_cases z : b = a
          · rw [z, delH_same] at q; cases q
          · rw [delH_ne z] at q
            exact same_upd hT _ _ (s1 b o q z)
        have cv2 := CV.same ext cvd
        refine ⟨T, _, rfl, SqT.of upd_same, rfl, _, _, rfl, _, _, rfl, rfl, rfl, ?_⟩
        dsimp only [tYes]
        refine iteT ?_
        obtain ⟨ck, ek⟩ := cv_key (H := upd H1 T (.tup [kV kk, vv])) kk
        have lb : bs.length ≤ 100 := by rw [eb, List.length_take, cellL_len pr]; omega
        have fin : ∀ (b : Bool) (H3 : Hp), (∀ b o, (upd H1 T (.tup [kV kk, vv])) b = some o → H3 b = some o) → b = (keyS kk && stB d) → ∃ acc, H3 D = some (.lst acc) ∧ acc.length < sizeLine ∧ ((∃ bs : List Bool, (upd H3 D (.lst (acc ++ [.bl b]))) D = some (.lst (bs.map V.bl)) ∧ bs = (cellL kvs ds).take (i + 1)) ∧ (upd H3 D (.lst (acc ++ [.bl b]))) a = some (.frz od (.dK kvs)) ∧ (∀ c o, H c = some o → c ≠ a → (upd H3 D (.lst (acc ++ [.bl b]))) c = some o)) := fun b H3 s3 e => by
          refine ⟨_, s3 _ _ (same_upd hT _ _ hb), by rw [List.length_map]; exact small1000 (by omega), ⟨bs ++ [b], by rw [upd_same, List.map_append]; rfl, ?_⟩, ?_, fun c o q ne => ?_⟩
          · rw [List.take_succ, hc, eb, e]; rfl
          · rw [upd_ne (fun z => by rw [z, nD] at ha; cases ha)]
            exact s3 _ _ (same_upd hT _ _ h1)
          · rw [upd_ne (ne_of_none q nD)]
            exact s3 _ _ (same_upd hT _ _ (s1 c o q ne))
        refine ⟨_, rfl, kV kk, "str", 1, _, rfl, by decide, ck, _, rfl, ?_⟩
        rw [ek]
        cases hk : keyS kk with
        | false =>
          rw [hk] at fin
          exact iteF (fin false _ (fun _ _ z => z) rfl)
        | true =>
          rw [hk] at fin
          exact iteT ⟨_, rfl, vv, 6, d, rfl, cv2, szd, fun H3 s3 => fin _ _ s3 rfl⟩
      · rintro H1 ⟨⟨bs, hb, eb⟩, h1, s1⟩
        refine ⟨D, bs, rfl, SqL.of hb, h1, ?_⟩
        have e : bs = cellL kvs ds := by rw [eb, List.take_of_length_le (by rw [cellL_len pr]; exact Nat.le_refl _)]
        rw [e]
        refine k _ fun b o q => ?_
        by_cases z : b = a
        · rw [z, upd_same]; rw [z, ha] at q; exact q
        · rw [upd_ne z]; exact s1 b o q z
end
end Pu

namespace Pu
open PySem PySem.Spec PyProof.Rows L2
abbrev sDInit : Stmt := inClass (top 12) 0
abbrev sDRead : Stmt := inClass (top 12) 1
abbrev sDWrite : Stmt := inClass (top 12) 2
abbrev sDCells : Stmt := inClass (top 12) 3
/-! ### a disk -/
theorem n_fh : ¬ (("fuse" : Str) = "_held") := by decide +kernel
def flds (f : V) (h : Addr) : List (Str × V) := putF "_held" (.ref h) (putF "fuse" f [])
theorem flds_eq (f : V) (h : Addr) : flds f h = ([("fuse", f), ("_held", V.ref h)] : List (Str × V)) := by
  show (if ("fuse" : Str) = "_held" then [(("fuse" : Str), V.ref h)] else (("fuse" : Str), f) :: putF "_held" (V.ref h) []) = ([("fuse", f), ("_held", V.ref h)] : List (Str × V))
  rw [if_neg n_fh]
  all_goals rfl
theorem flds_fuse (f : V) (h : Addr) : (flds f h).lookup ("fuse" : Str) = some f := by
  unfold flds
  rw [lookup_putF, if_neg n_fh, lookup_putF, if_pos rfl]
theorem flds_held (f : V) (h : Addr) : (flds f h).lookup ("_held" : Str) = some (.ref h) := by
  unfold flds
  rw [lookup_putF, if_pos rfl]
theorem flds_no (f : V) (h : Addr) {m : Str} (h1 : ¬ m = "_held") (h2 : ¬ m = "fuse") : (flds f h).lookup m = none := by
  unfold flds
  rw [lookup_putF, if_neg h1, lookup_putF, if_neg h2]
  all_goals rfl
theorem flds_put (f g : V) (h : Addr) : putF "fuse" g (flds f h) = flds g h := by
  rw [flds_eq, flds_eq]
  show (if ("fuse" : Str) = "fuse" then (("fuse" : Str), g) :: [(("_held" : Str), V.ref h)] else _) = ([("fuse", g), ("_held", V.ref h)] : List (Str × V))
  rw [if_pos rfl]
structure DkAt (C : Addr) (H : Hp) (p h : Addr) (f : V) (kvs : List (Key × V)) : Prop where
  ob : ∃ dx, H p = some (.ins C dx (flds f h))
  dc : H h = some (.dK kvs)
theorem DkAt.ph {C : Addr} {H : Hp} {p h : Addr} {f : V} {kvs : List (Key × V)} (D : DkAt C H p h f kvs) : p ≠ h := by
  obtain ⟨dx, e⟩ := D.ob
  exact ne_of e D.dc (by intro z; cases z)
/-- what the walk asks of the class -/
structure Dcl (K : PySem.W.Frag) (C : Addr) : Prop where
  cl : Cls K C
  nF : NoAttr K C "fuse"
  nH : NoAttr K C "_held"
def decF : V → V
  | .int i => .int (i - 1)
  | v => v
/-- the classes of the errors -/
structure Ec where
  cell : Addr
  cells : Addr
  content : Addr
  fuse : Addr
  fell : Addr
def spDInit (K : PySem.W.Frag) (P : Program) (w : World) (C : Addr) (e : Ec) : Sp := fun vs H Q E => ∃ p dx v f, vs = [.ref p, v, f] ∧ H p = some (.ins C dx []) ∧
  ((CelV K P w H v false ∧ ∀ H', Same H H' → E (.ref e.cells) none H') ∨
   (CelV K P w H v true ∧ ∃ n d, CV n H f d ∧ fuB d = false ∧ ∀ H', Same H H' → E (.ref e.fuse) none H') ∨
   (CelV K P w H v true ∧ ∃ n d a kvs, CV n H f d ∧ fuB d = true ∧ v = .ref a ∧ H a = some (.dK kvs) ∧ (kvs.map (·.1)).Nodup ∧ kvs.length ≤ 100 ∧
      ∀ h H', H h = none → DkAt C H' p h f kvs → (∀ b o, H b = some o → b ≠ p → H' b = some o) → Q .non H'))
def spDRead (C : Addr) (e : Ec) : Sp := fun vs H Q E => ∃ p h f kvs v n d, vs = [.ref p, v] ∧ DkAt C H p h f kvs ∧ CV n H v d ∧ (∀ z, v = .str z → Q ((valV kvs (.inr z : Key)).getD .non) H) ∧ (isD d "str" = false → E (.ref e.cell) none H)
def spDWrite (C : Addr) (e : Ec) : Sp := fun vs H Q E => ∃ p h f kvs c v n1 d1 n2 d2, vs = [.ref p, c, v] ∧ DkAt C H p h f kvs ∧ (f = .non ∨ ∃ i, f = .int i) ∧ kvs.length ≤ 100 ∧ CV n1 H c d1 ∧ CV n2 H v d2 ∧ szB d2 ≤ 1000 ∧
  (isD d1 "str" = false → E (.ref e.cell) none H) ∧ (∀ z, c = .str z → stB d2 = false → ∀ H', Same H H' → E (.ref e.content) none H') ∧ (∀ z, c = .str z → stB d2 = true → f = .int 0 → ∀ H', Same H H' → E (.ref e.fell) none H') ∧
  (∀ z, c = .str z → stB d2 = true → f ≠ .int 0 → ∀ H', DkAt C H' p h (decF f) (putK kvs (.inr z) v) → (∀ b o, H b = some o → b ≠ p → b ≠ h → H' b = some o) → Q .non H')
def getZ (kvs : List (Key × V)) (z : Str) : V := (valV kvs (.inr z : Key)).getD .non
def spDCells (C : Addr) : Sp := fun vs H Q _ => ∃ p h f kvs ks, vs = [.ref p] ∧ DkAt C H p h f kvs ∧ kvs.map (·.1) = ks.map Sum.inr ∧ ks.length < 64 ∧ ks.Nodup ∧
  ∀ ys q H', ys.Perm ks → sortedS ys = true → H q = none → Same H H' → H' q = some (.dK (ys.map fun z => (Sum.inr z, getZ kvs z))) → Q (.ref q) H'
theorem cv_str {H : Hp} {n : Nat} {v : V} {d : PyData} (h : CV n H v d) (e : isD d "str" = true) : ∃ z, v = .str z := by
  cases n with
  | zero => exact h.elim
  | succ n =>
    rcases h with ⟨rfl, rfl⟩ | ⟨b, rfl, rfl⟩ | ⟨i, rfl, rfl⟩ | ⟨z, rfl, rfl⟩ | ⟨a, ys, ds, rfl, h, rfl, p⟩ | ⟨a, o, rfl, h, ho, rfl⟩
    · cases e
    · simp [isD] at e
    · simp [isD] at e
    · exact ⟨z, rfl⟩
    · simp [isD] at e
    · cases e
section
variable {P : Program} {w : World} {K : PySem.W.Frag} {mg : Str → Option Value} {base : Heap} {C : Addr} {e : Ec}
theorem scDR : FnScope ["self", "cell"] ["self", "cell"] (defScope sDRead) := ⟨rfl, rfl, rfl, by decide +kernel, rfl, by decide +kernel, by decide +kernel⟩
theorem ok_dread {f fc : Addr} {fd fdc : FuncData} (F : Fun K "read" "Disk.read" sDRead f fd) (T : Dcl K C) (Gc : FnOk P w K mg base (L2.CX P w) 1 fc fdc ["cell"] (spChkCell e.cell)) (bc : Binds K fdc ["cell"] []) (kc : PySem.W.keepIn K (.ref fc) = true) (mc : mg "check_cell" = some (.ref fc)) :
    FnOk P w K mg base (L2.CX P w) 2 f fd ["self", "cell"] (spDRead C e) := by
  refine F.okX scDR (fun vs H Q E h => ?_) (fun cdv A outer s H vs Q E hr h => ?_)
  · obtain ⟨p, h, f, kvs, v, n, d, rfl, _⟩ := h
    rfl
  · obtain ⟨p, h, f, kvs, v, n, d, rfl, D, hv, k1, k2⟩ := h
    have hu := hu_of hr
    obtain ⟨dx, hp⟩ := D.ob
    refine ⟨_, pss_cons (ps_expr (pe_call Gc hr rfl mc kc bc .nil (passes_call (W := fun cls d _ H => E cls d H) (takes_of rfl rfl rfl rfl) (fun _ _ _ _ h => h)) (pa_cons (pv 1) pa_nil)))
      (pss_one (ps_ret (pe_dget1 hu (pe_fld (pv 0) rfl) (pv 1) ⟨rfl, rfl, rfl, rfl⟩))), ?_⟩
    refine ⟨_, rfl, v, n, d, rfl, hv, fun es => ?_, k2⟩
    obtain ⟨z, rfl⟩ := cv_str hv es
    exact ⟨_, rfl, p, C, dx, _, _, rfl, hp, T.cl, T.nH, flds_held _ _, h, rfl, .inl ⟨kvs, .inl D.dc⟩, _, rfl, _, DGet.k (k := Sum.inr z) D.dc, k1 z rfl⟩
theorem scDW : FnScope ["self", "cell", "value"] ["self", "cell", "value"] (defScope sDWrite) := ⟨rfl, rfl, rfl, by decide +kernel, rfl, by decide +kernel, by decide +kernel⟩
theorem ok_dwrite {f fc fs : Addr} {fd fdc fds : FuncData} (F : Fun K "write" "Disk.write" sDWrite f fd) (T : Dcl K C) (Gc : FnOk P w K mg base (L2.CX P w) 1 fc fdc ["cell"] (spChkCell e.cell)) (bc : Binds K fdc ["cell"] []) (kc : PySem.W.keepIn K (.ref fc) = true) (mc : mg "check_cell" = some (.ref fc))
    (Gs : FnOk P w K mg base CX0 2 fs fds ["value"] spStor) (bs : Binds K fds ["value"] []) (ks : PySem.W.keepIn K (.ref fs) = true) (ms : mg "is_storable" = some (.ref fs)) (R1 : Er K mg "BadContent" e.content) (R2 : Er K mg "Fell" e.fell) :
    FnOk P w K mg base (L2.CX P w) 3 f fd ["self", "cell", "value"] (spDWrite C e) := by
  refine F.okX scDW (fun vs H Q E h => ?_) (fun cdv A outer s H vs Q E hr h => ?_)
  · obtain ⟨p, h, f, kvs, c, v, n1, d1, n2, d2, rfl, _⟩ := h
    rfl
  · obtain ⟨p, h, fz, kvs, c, v, n1, d1, n2, d2, rfl, D, hf, hl, hc, hv, hsz, k1, k2, k3, k4⟩ := h
    have hu := hu_of hr
    have r1 : Room 1 (A.deeper (PyProof.Rows.envOfC "Disk.write" (defScope sDWrite) s.heap.objs.size f cdv)) := hr.mono (by decide)
    refine ⟨_, pss_cons (ps_expr (pe_call Gc r1 rfl mc kc bc .nil (passes_call (W := fun cls d _ H => E cls d H) (takes_of rfl rfl rfl rfl) (fun _ _ _ _ h => h)) (pa_cons (pv 1) pa_nil)))
      (pss_cons (ps_if (pt_not (pt_val (pe_call Gs hr rfl ms ks bs .nil pass0 (pa_cons (pv 2) pa_nil)))) (pss_one (ps_raise rfl (takes_of rfl rfl rfl rfl) (pmk_own PySem.F.excBase_ValueError R1.xi R1.g R1.k (raises_own R1.b R1.t) rfl))) pss_nil)
      (pss_cons (ps_if (pt_cmpR op_eq (pe_fld (pv 0) rfl) pe_int (nomark _)) (pss_one (ps_raise rfl (takes_of rfl rfl rfl rfl) (pmk_own PySem.F.excBase_ValueError R2.xi R2.g R2.k (raises_own R2.b R2.t) rfl))) pss_nil)
      (pss_cons (ps_dput hu (pe_fld (pv 0) rfl) (pv 1) (pv 2) rfl)
      (pss_one (ps_if (pt_cmpR op_notN (pe_fld (pv 0) rfl) pe_non (nomark _)) (pss_one (ps_fldaug (pv 0) pe_int in_sub)) pss_nil))))), ?_⟩
    refine ⟨_, rfl, c, n1, d1, rfl, hc, fun es => ?_, k1⟩
    obtain ⟨z, rfl⟩ := cv_str hc es
    refine ⟨_, rfl, v, n2, d2, rfl, hv, hsz, fun H1 s1 => ⟨_, rfl, ?_⟩⟩
    obtain ⟨dx, hp⟩ := D.ob
    have hp1 := s1 _ _ hp
    have hh1 := s1 _ _ D.dc
    have ph := D.ph
    cases g : stB d2 with
    | false => exact iteT (k2 z rfl g H1 s1)
    | true =>
      refine iteF ?_
      refine ⟨_, rfl, p, C, dx, _, _, rfl, hp1, T.cl, T.nF, flds_fuse _ _, (by rcases hf with rfl | ⟨i, rfl⟩ <;> rfl), _, rfl, ?_⟩
      by_cases e0 : fz = .int 0
      · rw [decide_eq_true e0]
        exact iteT (k3 z rfl g e0 H1 s1)
      · rw [decide_eq_false e0]
        refine iteF ?_
        refine ⟨_, rfl, _, rfl, p, C, dx, _, _, rfl, hp1, T.cl, T.nH, flds_held _ _, _, rfl, h, _, rfl, DPut.k (k := Sum.inr z) hh1 (small1000 (by omega)), ?_⟩
        have hp2 : (upd H1 h (.dK (putK kvs (.inr z) v))) p = some (.ins C dx (flds fz h)) := by rw [upd_ne ph]; exact hp1
        refine ⟨_, rfl, p, C, dx, _, _, rfl, hp2, T.cl, T.nF, flds_fuse _ _, rfl, _, rfl, ?_⟩
        rcases hf with rfl | ⟨i, rfl⟩
        · refine iteF ?_
          refine k4 z rfl g e0 _ ⟨⟨dx, hp2⟩, upd_same⟩ fun b o q n1 n2 => by rw [upd_ne n2]; exact s1 b o q
        · refine iteT ?_
          refine ⟨_, rfl, p, C, dx, _, _, rfl, hp2, T.cl, T.nF, flds_fuse _ _, _, _, rfl, rfl, dx, _, hp2, (by rw [flds_eq]; show 2 < 1000; decide), ?_⟩
          refine k4 z rfl g e0 _ ⟨⟨dx, ?_⟩, ?_⟩ fun b o q n1 n2 => by rw [upd_ne n1, upd_ne n2]; exact s1 b o q
          · rw [upd_same, flds_put]; rfl
          · rw [upd_ne ph.symm, upd_same]
end
end Pu

namespace Pu
open PySem PySem.Spec PyProof.Rows L2
theorem take_keys {ys : List Str} {g : Str → V} (nd : ys.Nodup) {i : Nat} {z : Str} (h : ys[i]? = some z) : putK ((ys.take i).map fun z => ((Sum.inr z : Key), g z)) (.inr z) (g z) = (ys.take (i + 1)).map fun z => ((Sum.inr z : Key), g z) := by
  have e : ys.take (i + 1) = ys.take i ++ [z] := by
    rw [List.take_succ, h]
    rfl
  rw [e, List.map_append]
  refine put_snoc fun hm => ?_
  have nd2 : (ys.take (i + 1)).Nodup := nd.sublist (List.take_sublist _ _)
  rw [e, List.nodup_append] at nd2
  rw [List.map_map] at hm
  obtain ⟨y, hy, ey⟩ := List.mem_map.mp hm
  have ey' : y = z := Sum.inr.inj ey
  subst ey'
  exact nd2.2.2 y hy y (by simp) rfl
theorem val_in {kvs : List (Key × V)} {ks : List Str} (hk : kvs.map (·.1) = ks.map Sum.inr) {z : Str} (hz : z ∈ ks) : valV kvs (.inr z : Key) = some (getZ kvs z) := by
  unfold getZ
  cases e : valV kvs (.inr z : Key) with
  | some v => rfl
  | none => exact absurd (by rw [hk]; exact List.mem_map_of_mem hz) (valV_not e)
theorem pe_fldK {X : Cx} {K : PySem.W.Frag} (hK : X.K = K) {e : Expr} {ta : TE} {f : Str} {pos : Pos} (he : PE X e ta) (hb : attributeBase e f X.env (eval e X.env) = eval e X.env) : PE X (.Attribute e f pos) (tFld K ta f) := hK ▸ pe_fld he hb
section
variable {P : Program} {w : World} {K : PySem.W.Frag} {mg : Str → Option Value} {base : Heap} {C : Addr} {e : Ec}
theorem scDC : FnScope ["self", "cell"] ["self"] (defScope sDCells) := ⟨rfl, rfl, rfl, by decide +kernel, rfl, by decide +kernel, by decide +kernel⟩
theorem ok_dcells {f : Addr} {fd : FuncData} (F : Fun K "cells" "Disk.cells" sDCells f fd) (T : Dcl K C) (mso : mg "sorted" = none) : FnOk P w K mg base CX0 1 f fd ["self"] (spDCells C) := by
  refine F.ok scDC (fun vs H Q E h => ?_) (fun cdv A outer s H vs Q E hr h => ?_)
  · obtain ⟨p, h, fz, kvs, ks, rfl, _⟩ := h
    rfl
  · obtain ⟨p, h, fz, kvs, ks, rfl, D, hk, hl, hn, k⟩ := h
    have hu := hu_of hr
    refine ⟨_, pss_one (ps_ret (pe_dc (own := [("cell", 1)]) (g := gName 1) rfl scDC.nd (pi_list (pe_callB (call_sortedD rfl) (by rfl) mso (by decide +kernel) (pa_cons (pe_fld (pv 0) rfl) pa_nil))) (blkOk_by (own := [("cell", 1)]) (N := ["self", "cell"]) (sc := defScope sDCells) (by decide +kernel))
      (fun _ _ _ _ _ => pg_name (i := 1) scDC.nd rfl (Or.inl rfl)) (fun _ _ _ _ _ => pts_nil) (fun _ _ _ _ _ => pv 1) (fun _ _ _ _ _ => pe_dget hu (pe_fldK (K := K) rfl (pv 0) rfl) (pv 1) (fun _ _ => rfl)))), ?_⟩
    obtain ⟨dx, hp⟩ := D.ob
    refine ⟨_, rfl, p, C, dx, _, _, rfl, hp, T.cl, T.nH, flds_held _ _, h, kvs, ks, rfl, .inl D.dc, hk, hl, fun ys l hperm hsort hfree => ?_⟩
    have s1 := same_upd (o := .lst (ys.map V.str)) hfree
    have ny : ys.Nodup := hperm.nodup_iff.mpr hn
    have ly : ys.length < 64 := by rw [hperm.length_eq]; exact hl
    refine ⟨l, rfl, ⟨_, SqL.of upd_same⟩, fun q hq => dc_it walk_list (fun i H' => H' = upd (upd H l (.lst (ys.map V.str))) q (.dK ((ys.take i).map fun z => (Sum.inr z, getZ kvs z)))) (by simp) (fun i H' _ h => by subst h; exact SqL.of (same_upd hq _ _ upd_same)) ?_ ?_⟩
    · rintro i x H1 H2 hi rfl ⟨rfl, hx⟩
      rw [List.getElem?_map] at hx
      cases hz : ys[i]? with
      | none => rw [hz] at hx; cases hx
      | some z =>
        rw [hz] at hx
        cases hx
        have mz : z ∈ ks := hperm.mem_iff.mp (List.mem_of_getElem? hz)
        have s2 := same_upd (o := .dK ((ys.take i).map fun z => (Sum.inr z, getZ kvs z))) hq
        refine ⟨rfl, ?_⟩
        dsimp only [tYes]
        refine iteT ?_
        have q2 := DGet.k (k := (Sum.inr z : Key)) (s2 _ _ (s1 _ _ D.dc))
        rw [val_in hk mz] at q2
        refine ⟨_, rfl, _, rfl, p, C, dx, _, _, rfl, s2 _ _ (s1 _ _ hp), T.cl, T.nH, flds_held _ _, _, rfl, h, _, rfl, q2, _, Sum.inr z, rfl, upd_same, ?_, ?_⟩
        · rw [List.length_map, List.length_take]; exact small1000 (by omega)
        · rw [upd_upd, take_keys ny hz]
    · rintro H1 rfl
      rw [List.length_map, List.take_of_length_le (Nat.le_refl _)]
      exact k ys q _ hperm hsort (s1.free hq) (s1.trans (same_upd hq)) upd_same
theorem scDI : FnScope ["self", "cells", "fuse", "cell", "value"] ["self", "cells", "fuse"] (defScope sDInit) := ⟨rfl, rfl, rfl, by decide +kernel, rfl, by decide +kernel, by decide +kernel⟩
theorem ok_dinit {f fa ff : Addr} {fd fda fdf : FuncData} (F : Fun K "__init__" "Disk.__init__" sDInit f fd) (T : Dcl K C) (Ga : FnOk P w K mg base CX0 3 fa fda ["value"] (spAre K P w)) (ba : Binds K fda ["value"] []) (ka : PySem.W.keepIn K (.ref fa) = true) (ma : mg "are_cells" = some (.ref fa))
    (Gf : FnOk P w K mg base (L2.CX P w) 3 ff fdf ["fuse"] (spChkFuse e.fuse)) (bf : Binds K fdf ["fuse"] []) (kf : PySem.W.keepIn K (.ref ff) = true) (mf : mg "check_fuse" = some (.ref ff)) (R1 : Er K mg "BadCells" e.cells) :
    FnOk P w K mg base (L2.CX P w) 4 f fd ["self", "cells", "fuse"] (spDInit K P w C e) := by
  refine F.okX scDI (fun vs H Q E h => ?_) (fun cdv A outer s H vs Q E hr h => ?_)
  · obtain ⟨p, dx, v, fz, rfl, _⟩ := h
    rfl
  · obtain ⟨p, dx, v, fz, rfl, hp, k⟩ := h
    refine ⟨_, pss_cons (ps_if (pt_not (pt_val (pe_call Ga hr rfl ma ka ba .nil pass0 (pa_cons (pv 1) pa_nil)))) (pss_one (ps_raise rfl (takes_of rfl rfl rfl rfl) (pmk_own PySem.F.excBase_ValueError R1.xi R1.g R1.k (raises_own R1.b R1.t) rfl))) pss_nil)
      (pss_cons (ps_expr (pe_call Gf hr rfl mf kf bf .nil (passes_call (W := fun cls d _ H => E cls d H) (takes_of rfl rfl rfl rfl) (fun _ _ _ _ h => h)) (pa_cons (pv 2) pa_nil)))
      (pss_cons (ps_fld (pv 0) (pv 2) rfl)
      (pss_one (ps_fld (pv 0) (pe_lock (pe_dc (own := [("cell", 3), ("value", 4)]) (g := gTup K 2 (gCons (gName 3) (gCons (gName 4) gNil))) rfl scDI.nd (pi_items (pv 1)) (blkOk_by (own := [("cell", 3), ("value", 4)]) (N := ["self", "cells", "fuse", "cell", "value"]) (sc := defScope sDInit) (by decide +kernel))
          (fun _ _ _ _ _ => pg_tup rfl (pgs_cons (pg_name (i := 3) scDI.nd rfl (Or.inl rfl)) (pgs_cons (pg_name (i := 4) scDI.nd rfl (Or.inl rfl)) pgs_nil))) (fun _ _ _ _ _ => pts_nil) (fun _ _ _ _ _ => pv 3) (fun _ _ _ _ _ => pv 4))) rfl)))), ?_⟩
    rcases k with ⟨cv, k⟩ | ⟨cv, n, d, hf, ef, k⟩ | ⟨cv, n, d, a, kvs, hf, ef, rfl, ha, nd, hl, k⟩
    · exact ⟨_, rfl, v, false, rfl, cv, fun H1 s1 => ⟨_, rfl, iteT (k H1 s1)⟩⟩
    · refine ⟨_, rfl, v, true, rfl, cv, fun H1 s1 => ⟨_, rfl, iteF ?_⟩⟩
      exact ⟨_, rfl, fz, n, d, rfl, CV.same s1 hf, fun z => (by rw [ef] at z; cases z), fun _ => k H1 s1⟩
    · refine ⟨_, rfl, .ref a, true, rfl, cv, fun H1 s1 => ⟨_, rfl, iteF ?_⟩⟩
      refine ⟨_, rfl, fz, n, d, rfl, CV.same s1 hf, fun _ => ?_, fun z => (by rw [ef] at z; cases z)⟩
      have hp1 := s1 _ _ hp
      have ha1 := s1 _ _ ha
      have pa : a ≠ p := ne_of ha1 hp1 (by intro z; cases z)
      refine ⟨_, rfl, _, rfl, p, C, dx, [], rfl, hp1, T.cl, T.nF, (by show 0 < 1000; decide), ?_⟩
      have ha2 : (upd H1 p (.ins C dx (putF "fuse" fz []))) a = some (.dK kvs) := by rw [upd_ne pa]; exact ha1
      have hp2 : (upd H1 p (.ins C dx (putF "fuse" fz []))) p = some (.ins C dx (putF "fuse" fz [])) := upd_same
      have s2 : ∀ b o, H b = some o → b ≠ p → (upd H1 p (.ins C dx (putF "fuse" fz []))) b = some o := fun b o q n => by rw [upd_ne n]; exact s1 b o q
      generalize upd H1 p (.ins C dx (putF "fuse" fz [])) = H2 at ha2 hp2 s2
      refine ⟨a, _, ha2, True.intro, fun od => ⟨_, rfl, a, od, kvs, rfl, upd_same, fun q hq => dc_it walk_items (fun i H' => H' q = some (.dK (kvs.take i)) ∧ H' a = some (.frz od (.dK kvs)) ∧ (∀ b o, H2 b = some o → b ≠ a → H' b = some o)) ?_ (fun i H' _ h => h.2.1) ?_ ?_⟩⟩
      · have nq : a ≠ q := fun z => by rw [← z, upd_same] at hq; cases hq
        refine ⟨by rw [upd_same]; simp, by rw [upd_ne nq, upd_same], fun b o x ne => ?_⟩
        have bq : b ≠ q := fun z => by
          rw [← z, upd_ne ne, x] at hq
          cases hq
        rw [upd_ne bq, upd_ne ne]; exact x
      · rintro i x H3 H4 hi ⟨hb, h1, s3⟩ ⟨t, x1, x2, rfl, hT, rfl, e1, e2⟩
        obtain ⟨⟨kk, vv⟩, hkv⟩ : ∃ p, kvs[i]? = some p := ⟨kvs[i], List.getElem?_eq_getElem hi⟩
        simp only [hkv, Option.map_some, Option.some.injEq] at e1 e2
        subst e1
        subst e2
        have nq : H2 q = none := by
          have nqa : q ≠ a := fun z => by rw [z, upd_same] at hq; cases hq
          rw [upd_ne nqa] at hq
          exact hq
        have qa : a ≠ q := fun z => by rw [z, nq] at ha2; cases ha2
        refine ⟨t, _, rfl, SqT.of upd_same, rfl, _, _, rfl, _, _, rfl, rfl, rfl, ?_⟩
        dsimp only [tYes]
        refine iteT ?_
        refine ⟨_, rfl, _, rfl, _, kk, rfl, same_upd hT _ _ hb, by rw [List.length_take]; exact small1000 (by omega), by rw [upd_same, take_put nd hkv], ?_, fun b o x ne => ?_⟩
        · rw [upd_ne qa]; exact same_upd hT _ _ h1
        · rw [upd_ne (ne_of_none x nq)]; exact same_upd hT _ _ (s3 b o x ne)
      · rintro H3 ⟨hb, h1, s3⟩
        rw [List.take_of_length_le (Nat.le_refl _)] at hb
        refine ⟨h1, ?_⟩
        have nq : H2 q = none := by
          have nqa : q ≠ a := fun z => by rw [z, upd_same] at hq; cases hq
          rw [upd_ne nqa] at hq
          exact hq
        have qa : q ≠ a := fun z => by rw [z] at nq; rw [nq] at ha2; cases ha2
        have qp : q ≠ p := fun z => by rw [z] at nq; rw [nq] at hp2; cases hp2
        have hp4 : (upd H3 a (.dK kvs)) p = some (.ins C dx (putF "fuse" fz [])) := by rw [upd_ne pa.symm]; exact s3 _ _ hp2 pa.symm
        refine ⟨_, rfl, p, C, dx, _, rfl, hp4, T.cl, T.nH, (by show 1 < 1000; decide), ?_⟩
        have nH : H q = none := by
          cases z : H q with
          | none => rfl
          | some o => rw [s2 q o z qp] at nq; cases nq
        refine k q _ nH ⟨⟨dx, upd_same⟩, by rw [upd_ne qp, upd_ne qa]; exact hb⟩ fun b o x ne => ?_
        rw [upd_ne ne]
        by_cases z : b = a
        · rw [z, upd_same]; rw [z, ha] at x; exact x
        · rw [upd_ne z]; exact s3 _ _ (s2 b o x ne) z
end
end Pu

namespace Pu
open PySem PySem.Spec PyProof.Rows
/-! ### zip of three lists: its six objects stand at n .. n + 5 -/
abbrev IsTri (h : Heap) (T : Addr) (a b c : Value) : Prop := h.get? T = some { cls := .type "tuple", data := .seq #[a, b, c] }
structure Z3 (h : Heap) (n l1 l2 l3 : Nat) (k : Nat) (f0 : Value) : Prop where
  zp : IsZip h (n + 5) (n + 3) (n + 4) f0
  ti : IsTri h (n + 3) (.ref n) (.ref (n + 1)) (.ref (n + 2))
  to : ∃ a b c, IsTri h (n + 4) a b c
  i1 : h.IsListIter n l1 k
  i2 : h.IsListIter (n + 1) l2 k
  i3 : h.IsListIter (n + 2) l3 k
section
variable {P : Program} {w : World} {A : Around} {E : Value → Shared → Prop} {s : Shared}
theorem upd_tri {T : Addr} {a b c x : Value} {k : Nat} {Q : Unit → Shared → Prop} (hT : IsTri s.heap T a b c)
    (h : ∀ h', h'.get? T = some { cls := .type "tuple", data := .seq ((#[a, b, c] : Array Value).setIfInBounds k x) } → Heap.SameBut T s.heap h' → Q () { s with heap := h' }) :
    wpAny (model P w) A (updateSeq T (·.setIfInBounds k x)) Q E s := by
  refine wpAny_updateSeq hT rfl (h _ ?_ (Heap.SameBut.update ..))
  rw [Heap.get?_update_self _ hT rfl]
  simp [Obj.mapSeq]
theorem z3_item {n l1 l2 l3 : Nat} {k : Nat} {xs ys zs : Array Value} {x y z : Value} {Q : Value → Shared → Prop} (b1 : l1 < n) (b2 : l2 < n) (b3 : l3 < n) (Z : Z3 s.heap n l1 l2 l3 k .none)
    (hl1 : s.heap.IsList l1 xs) (hl2 : s.heap.IsList l2 ys) (hl3 : s.heap.IsList l3 zs) (hx : xs[k]? = some x) (hy : ys[k]? = some y) (hz : zs[k]? = some z)
    (hQ : ∀ h', Z3 h' n l1 l2 l3 (k + 1) (rawInt s.heap.objs.size) → IsTri h' s.heap.objs.size x y z → h'.objs.size = s.heap.objs.size + 1 →
      (∀ c o, c ≠ n → c ≠ n + 1 → c ≠ n + 2 → c ≠ n + 4 → c ≠ n + 5 → s.heap.get? c = some o → h'.get? c = some o) → Q (.ref s.heap.objs.size) { s with heap := h' }) :
    wpAny (model P w) A (Builtin.«zip.__next__» ⟨[.ref (n + 5)], []⟩) (fun fin s' => ∃ v, fin = .done (.ret v) ∧ Q v s') E s := by
  obtain ⟨zp, ti, ⟨a, b, c, to⟩, i1, i2, i3⟩ := Z
  have q1 : n ≠ n + 5 := by omega
  have q2 : n + 1 ≠ n + 5 := by omega
  have q3 : n + 2 ≠ n + 5 := by omega
  have q4 : n + 4 ≠ n + 5 := by omega
  have q5 : n + 3 ≠ n + 5 := by omega
  have q6 : n + 4 ≠ n := by omega
  have q7 : n + 4 ≠ n + 1 := by omega
  have q8 : n + 4 ≠ n + 2 := by omega
  have q9 : n ≠ n + 1 := by omega
  have q10 : n ≠ n + 2 := by omega
  have q11 : n + 1 ≠ n + 2 := by omega
  have q12 : n + 3 ≠ n := by omega
  have q13 : n + 3 ≠ n + 1 := by omega
  have q14 : n + 3 ≠ n + 2 := by omega
  have q15 : n + 3 ≠ n + 4 := by omega
  have far : ∀ {l : Nat}, l < n → l ≠ n ∧ l ≠ n + 1 ∧ l ≠ n + 2 ∧ l ≠ n + 4 ∧ l ≠ n + 5 := fun h => by omega
  obtain ⟨u1, u2, u3, u4, u5⟩ := far b1
  obtain ⟨v1, v2, v3, v4, v5⟩ := far b2
  obtain ⟨w1, w2, w3, w4, w5⟩ := far b3
  show wpAny _ _ (field (.ref (n + 5)) 2 >>= _) _ _ _
  refine wpAny_bind (wpAny_field zp rfl (x := .bool false) rfl ?_)
  show wpAny _ _ (field (.ref (n + 5)) 3 >>= _) _ _ _
  refine wpAny_bind (wpAny_field zp rfl (x := .ref (n + 3)) rfl ?_)
  refine wpAny_bind (wpAny_seqItems ti rfl ?_)
  show wpAny _ _ (Builtin.SmallTypes.ownedTupleIsFree (.ref (n + 5)) >>= _) _ _ _
  refine wpAny_bind ?_
  unfold Builtin.SmallTypes.ownedTupleIsFree
  refine wpAny_bind (wpAny_field zp rfl (x := .none) rfl (wpAny_pure ?_))
  simp only [if_true]
  refine wpAny_bind (wpAny_rule ?_)
  refine wpAny_bind (wpAny_field zp rfl (x := .ref (n + 4)) rfl ?_)
  refine wpAny_bind (wpAny_setField_rec zp (by simp) fun g1 zg1 sb1 => ?_)
  replace zg1 : IsZip g1 (n + 5) (n + 3) (n + 4) .ellipsis := zg1
  refine wpAny_bind ?_
  simp only [List.zipIdx_cons, List.zipIdx_nil, List.forIn_cons, List.forIn_nil]
  -- the first list's item
  refine wpAny_bind (wpAny_bind (wpAny_onRaise ?_))
  show wpAny _ _ (Builtin.SmallTypes.nextOf (.ref n) >>= _) _ _ _
  refine wpAny_bind (wpAny_nextOf_list_item (i1.extBut sb1.extBut q1) (hl1.extBut sb1.extBut u5) hx fun g2 j1 sb2 => wpAny_pure ?_)
  have t2 : IsTri g2 (n + 4) a b c := sb2.extBut _ _ q6 (sb1.extBut _ _ q4 to)
  refine wpAny_bind (wpAny_seqItems t2 rfl ?_)
  refine wpAny_bind (upd_tri t2 fun g3 t3 sb3 => ?_)
  replace t3 : IsTri g3 (n + 4) x b c := t3
  refine wpAny_bind (wpAny_letGo (wpAny_pure ?_))
  -- the second one's
  refine wpAny_bind (wpAny_bind (wpAny_onRaise ?_))
  show wpAny _ _ (Builtin.SmallTypes.nextOf (.ref (n + 1)) >>= _) _ _ _
  refine wpAny_bind (wpAny_nextOf_list_item (((i2.extBut sb1.extBut q2).extBut sb2.extBut q9.symm).extBut sb3.extBut q7.symm) (((hl2.extBut sb1.extBut v5).extBut sb2.extBut v1).extBut sb3.extBut v4) hy fun g4 j2 sb4 => wpAny_pure ?_)
  have t4 : IsTri g4 (n + 4) x b c := sb4.extBut _ _ q7 t3
  refine wpAny_bind (wpAny_seqItems t4 rfl ?_)
  refine wpAny_bind (upd_tri t4 fun g5 t5 sb5 => ?_)
  replace t5 : IsTri g5 (n + 4) x y c := t5
  refine wpAny_bind (wpAny_letGo (wpAny_pure ?_))
  -- the third one's
  refine wpAny_bind (wpAny_bind (wpAny_onRaise ?_))
  show wpAny _ _ (Builtin.SmallTypes.nextOf (.ref (n + 2)) >>= _) _ _ _
  refine wpAny_bind (wpAny_nextOf_list_item (((((i3.extBut sb1.extBut q3).extBut sb2.extBut q10.symm).extBut sb3.extBut q8.symm).extBut sb4.extBut q11.symm).extBut sb5.extBut q8.symm)
    (((((hl3.extBut sb1.extBut w5).extBut sb2.extBut w1).extBut sb3.extBut w4).extBut sb4.extBut w2).extBut sb5.extBut w4) hz fun g6 j3 sb6 => wpAny_pure ?_)
  have t6 : IsTri g6 (n + 4) x y c := sb6.extBut _ _ q8 t5
  refine wpAny_bind (wpAny_seqItems t6 rfl ?_)
  refine wpAny_bind (upd_tri t6 fun g7 t7 sb7 => ?_)
  replace t7 : IsTri g7 (n + 4) x y z := t7
  refine wpAny_bind (wpAny_letGo (wpAny_pure (wpAny_pure ?_)))
  -- handed out
  refine wpAny_bind (wpAny_seqItems t7 rfl ?_)
  refine wpAny_bind (wpAny_newTuple ?_)
  have hsz : g7.objs.size = s.heap.objs.size := by rw [sb7.1, sb6.1, sb5.1, sb4.1, sb3.1, sb2.1, sb1.1]
  have up7 : ∀ d o, d ≠ n → d ≠ n + 1 → d ≠ n + 2 → d ≠ n + 4 → g1.get? d = some o → g7.get? d = some o := fun d o c1 c2 c3 c4 e =>
    sb7.extBut _ _ c4 (sb6.extBut _ _ c3 (sb5.extBut _ _ c4 (sb4.extBut _ _ c2 (sb3.extBut _ _ c4 (sb2.extBut _ _ c1 e)))))
  have zg7 : IsZip g7 (n + 5) (n + 3) (n + 4) .ellipsis := up7 _ _ q1.symm q2.symm q3.symm q4.symm zg1
  have r1 : g7.IsListIter n l1 (k + 1) := ((((j1.extBut sb3.extBut q6.symm).extBut sb4.extBut q9).extBut sb5.extBut q6.symm).extBut sb6.extBut q10).extBut sb7.extBut q6.symm
  have r2 : g7.IsListIter (n + 1) l2 (k + 1) := ((j2.extBut sb5.extBut q7.symm).extBut sb6.extBut q11).extBut sb7.extBut q7.symm
  have r3 : g7.IsListIter (n + 2) l3 (k + 1) := j3.extBut sb7.extBut q8.symm
  have zlt : n + 5 < g7.objs.size := Heap.lt_size zg7
  show wpAny _ _ (Builtin.SmallTypes.ownedTupleHandOut (.ref (n + 5)) (.ref g7.objs.size) >>= _) _ _ _
  refine wpAny_bind ?_
  unfold Builtin.SmallTypes.ownedTupleHandOut
  have zg8 : IsZip (g7.push { cls := .type "tuple", data := .seq #[x, y, z] }) (n + 5) (n + 3) (n + 4) .ellipsis := Heap.get?_push_of_some _ zg7
  refine wpAny_bind (wpAny_setField_rec zg8 (by simp) fun g9 zg9 sb9 => ?_)
  replace zg9 : IsZip g9 (n + 5) (n + 3) (n + 4) (rawInt g7.objs.size) := zg9
  refine wpAny_setField_rec zg9 (by simp) fun g10 zg10 sb10 => ?_
  replace zg10 : IsZip g10 (n + 5) (n + 3) (n + 4) (rawInt g7.objs.size) := zg10
  have up : ∀ d o, d ≠ n + 5 → g7.get? d = some o → g10.get? d = some o := fun d o c1 e => sb10.extBut _ _ c1 (sb9.extBut _ _ c1 (Heap.get?_push_of_some _ e))
  have tN : IsTri g10 g7.objs.size x y z := sb10.extBut _ _ (Nat.ne_of_gt zlt) (sb9.extBut _ _ (Nat.ne_of_gt zlt) (Heap.get?_push_size _ rfl))
  have z10 : g10.objs.size = g7.objs.size + 1 := by rw [sb10.1, sb9.1, Heap.size_push]
  rw [hsz] at zg10 tN z10
  refine wpAny_pure ⟨_, rfl, ?_⟩
  show Q (.ref g7.objs.size) _
  rw [hsz]
  have tiN : IsTri g10 (n + 3) (.ref n) (.ref (n + 1)) (.ref (n + 2)) := up _ _ q5 (up7 _ _ q12 q13 q14 q15 (sb1.extBut _ _ q5 ti))
  exact hQ g10 ⟨zg10, tiN, ⟨x, y, z, up _ _ q4 t7⟩, r1.at fun o e => up _ o q1 e, r2.at fun o e => up _ o q2 e, r3.at fun o e => up _ o q3 e⟩ tN z10
    fun d o c1 c2 c3 c4 c5 e => up d o c5 (up7 d o c1 c2 c3 c4 (sb1.extBut _ _ c5 e))
end
end Pu

namespace Pu
open PySem PySem.Spec PyProof.Rows
section
variable {P : Program} {w : World} {A : Around} {E : Value → Shared → Prop} {s : Shared}
theorem z3_end {n l1 l2 l3 : Nat} {k : Nat} {xs : Array Value} {Q : Fin → Shared → Prop} (hh : A.handled = none) (b1 : l1 < n) (Z : Z3 s.heap n l1 l2 l3 k .none) (hl1 : s.heap.IsList l1 xs) (hx : xs[k]? = none)
    (hE : ∀ h' e, (∀ c o, c ≠ n → c ≠ n + 5 → s.heap.get? c = some o → h'.get? c = some o) → (∃ o, h'.get? e = some o ∧ o.cls = .type "StopIteration") → E (.ref e) { s with heap := h' }) :
    wpAny (model P w) A (Builtin.«zip.__next__» ⟨[.ref (n + 5)], []⟩) Q E s := by
  obtain ⟨zp, ti, _, i1, _, _⟩ := Z
  have q1 : n ≠ n + 5 := by omega
  have u5 : l1 ≠ n + 5 := by omega
  show wpAny _ _ (field (.ref (n + 5)) 2 >>= _) _ _ _
  refine wpAny_bind (wpAny_field zp rfl (x := .bool false) rfl ?_)
  show wpAny _ _ (field (.ref (n + 5)) 3 >>= _) _ _ _
  refine wpAny_bind (wpAny_field zp rfl (x := .ref (n + 3)) rfl ?_)
  refine wpAny_bind (wpAny_seqItems ti rfl ?_)
  show wpAny _ _ (Builtin.SmallTypes.ownedTupleIsFree (.ref (n + 5)) >>= _) _ _ _
  refine wpAny_bind ?_
  unfold Builtin.SmallTypes.ownedTupleIsFree
  refine wpAny_bind (wpAny_field zp rfl (x := .none) rfl (wpAny_pure ?_))
  simp only [if_true]
  refine wpAny_bind (wpAny_rule ?_)
  refine wpAny_bind (wpAny_field zp rfl (x := .ref (n + 4)) rfl ?_)
  refine wpAny_bind (wpAny_setField_rec zp (by simp) fun g1 zg1 sb1 => ?_)
  replace zg1 : IsZip g1 (n + 5) (n + 3) (n + 4) .ellipsis := zg1
  refine wpAny_bind ?_
  simp only [List.zipIdx_cons, List.zipIdx_nil, List.forIn_cons, List.forIn_nil]
  refine wpAny_bind (wpAny_bind (wpAny_onRaise ?_))
  show wpAny _ _ (Builtin.SmallTypes.nextOf (.ref n) >>= _) _ _ _
  refine wpAny_bind (wpAny_nextOf_list_end hh (i1.extBut sb1.extBut q1) (hl1.extBut sb1.extBut u5) hx fun g2 e eb2 he => ?_)
  obtain ⟨oe, hoe, hce⟩ := he
  have zg2 : IsZip g2 (n + 5) (n + 3) (n + 4) .ellipsis := eb2 _ _ q1.symm zg1
  have hez : e ≠ n + 5 := fun z => by
    subst z
    rw [zg2] at hoe
    cases hoe
    simp at hce
  exact wpAny_setField_rec zg2 (by simp) fun g3 _ sb3 => hE g3 e (fun c o c1 c2 z => sb3.extBut _ _ c2 (eb2 _ _ c1 (sb1.extBut _ _ c2 z))) ⟨oe, sb3.extBut _ _ hez hoe, hce⟩
theorem next_z3 {n l1 l2 l3 : Nat} {k : Nat} {xs ys zs : Array Value} {x y z : Value} {Q : Option Value → Shared → Prop} (b1 : l1 < n) (b2 : l2 < n) (b3 : l3 < n) (Z : Z3 s.heap n l1 l2 l3 k .none)
    (hl1 : s.heap.IsList l1 xs) (hl2 : s.heap.IsList l2 ys) (hl3 : s.heap.IsList l3 zs) (hx : xs[k]? = some x) (hy : ys[k]? = some y) (hz : zs[k]? = some z)
    (hQ : ∀ h', Z3 h' n l1 l2 l3 (k + 1) (rawInt s.heap.objs.size) → IsTri h' s.heap.objs.size x y z → h'.objs.size = s.heap.objs.size + 1 →
      (∀ c o, c ≠ n → c ≠ n + 1 → c ≠ n + 2 → c ≠ n + 4 → c ≠ n + 5 → s.heap.get? c = some o → h'.get? c = some o) → Q (some (.ref s.heap.objs.size)) { s with heap := h' }) :
    wpAny (model P w) A (pyNext (.ref (n + 5))) Q E s := by
  have hT : s.TypeIs (.ref (n + 5)) "zip" := ⟨_, Z.zp, rfl⟩
  unfold pyNext
  exact wpAny_bind (wpAny_attempt (wpAny_callSpecial?_slot (name := Str.ofString "__next__") hT PySem.F.slot_zip_next
    (wpAny_call_entry PySem.F.slot_zip_next hT PySem.F.entry_zip_next (z3_item b1 b2 b3 Z hl1 hl2 hl3 hx hy hz fun h' a1 a2 a3 a4 => wpAny_pure (hQ h' a1 a2 a3 a4)) (PySem.F.args_zip_next_1 _))))
theorem stop_z3 {n l1 l2 l3 : Nat} {k : Nat} {xs : Array Value} {Q : Option Value → Shared → Prop} (hh : A.handled = none) (b1 : l1 < n) (Z : Z3 s.heap n l1 l2 l3 k .none) (hl1 : s.heap.IsList l1 xs) (hx : xs[k]? = none)
    (hQ : ∀ h', (∀ c o, c ≠ n → c ≠ n + 5 → s.heap.get? c = some o → h'.get? c = some o) → Q none { s with heap := h' }) : wpAny (model P w) A (pyNext (.ref (n + 5))) Q E s := by
  have hT : s.TypeIs (.ref (n + 5)) "zip" := ⟨_, Z.zp, rfl⟩
  unfold pyNext
  refine wpAny_bind (wpAny_attempt (wpAny_callSpecial?_slot (name := Str.ofString "__next__") hT PySem.F.slot_zip_next
    (wpAny_call_entry PySem.F.slot_zip_next hT PySem.F.entry_zip_next (z3_end hh b1 Z hl1 hx fun h' e hk he => ?_) (PySem.F.args_zip_next_1 _))))
  obtain ⟨o, ho, hc⟩ := he
  refine wpAny_bind (wpAny_isInstance (T := "StopIteration") (b := true) ⟨o, ho, hc⟩ isSubtype_stop ?_)
  exact wpAny_pure (hQ _ hk)
end
/-! ### its making -/
abbrev it3 (l : Addr) : Obj := { cls := .type "list_iterator", data := .fields #[.ref l, .int 0 0] }
def mk3 (h : Heap) (l1 l2 l3 : Addr) : Heap :=
  ((((((h.push (it3 l1)).push (it3 l2)).push (it3 l3)).push { cls := .type "tuple", data := .seq #[.ref h.objs.size, .ref (h.push (it3 l1)).objs.size, .ref ((h.push (it3 l1)).push (it3 l2)).objs.size] }).push { cls := .type "tuple", data := .seq #[.none, .none, .none] }).push
    { cls := .type "zip", data := .fields #[.none, .bool false, .bool false, .ref (((h.push (it3 l1)).push (it3 l2)).push (it3 l3)).objs.size, .ref ((((h.push (it3 l1)).push (it3 l2)).push (it3 l3)).push { cls := .type "tuple", data := .seq #[.ref h.objs.size, .ref (h.push (it3 l1)).objs.size, .ref ((h.push (it3 l1)).push (it3 l2)).objs.size] }).objs.size] })
def top3 (h : Heap) (l1 l2 l3 : Addr) : Addr :=
  (((((h.push (it3 l1)).push (it3 l2)).push (it3 l3)).push { cls := .type "tuple", data := .seq #[.ref h.objs.size, .ref (h.push (it3 l1)).objs.size, .ref ((h.push (it3 l1)).push (it3 l2)).objs.size] }).push { cls := .type "tuple", data := .seq #[.none, .none, .none] }).objs.size
theorem meets3 (l1 l2 l3 : Addr) (xs ys zs : Array Value) :
    Meets (Builtin.«zip.__new__» ⟨[.type "zip", .ref l1, .ref l2, .ref l3], []⟩) (fun _ R s => s.heap.IsList l1 xs ∧ s.heap.IsList l2 ys ∧ s.heap.IsList l3 zs ∧ R (.ok (.ret (.ref (top3 s.heap l1 l2 l3)))) { s with heap := mk3 s.heap l1 l2 l3 }) :=
  .of_wp fun prog w A R s h => by
    obtain ⟨hp, g, d, tk, os⟩ := s
    obtain ⟨h1, h2, h3, h⟩ := h
    have hsub := sub_zip
    have L1 : Heap.IsList (Shared.heap ⟨hp, g, d, tk, os⟩) l1 xs := h1
    have L2 : Heap.IsList (Shared.heap ⟨hp.push (it3 l1), g, d, tk, os⟩) l2 ys := Heap.IsList.push h2 _
    have L3 : Heap.IsList (Shared.heap ⟨(hp.push (it3 l1)).push (it3 l2), g, d, tk, os⟩) l3 zs := Heap.IsList.push (Heap.IsList.push h3 _) _
    wp_walk using wpAny_pyIter_list L1, wpAny_pyIter_list L2, wpAny_pyIter_list L3
    exact ⟨_, rfl, h⟩
theorem tc3 (a b c : Value) : checkTypeCall "zip" ⟨[a, b, c], []⟩ = pure () := by kernel_rfl
theorem nc3 (a b c : Value) : checkBuiltinCall "zip.__new__" ⟨[.type "zip", a, b, c], []⟩ = pure () := by kernel_rfl
theorem oi4 (a b c d : Value) : argsOk "object.__init__" ⟨[a, b, c, d], []⟩ := by
  unfold argsOk; rw [signature?_of (id := "object.__init__") (n := ['_', '_', 't', 'i', 'n', 'i', '_', '_']) (o := ['t', 'c', 'e', 'j', 'b', 'o']) (by kernel_rfl) PySem.F.owner_object]; kernel_rfl
end Pu

namespace Pu
open PySem PySem.Spec PyProof.Rows L2
section
variable {P : Program} {w : World} {A : Around} {E : Value → Shared → Prop} {s : Shared}
theorem mk3_at (h : Heap) (l1 l2 l3 : Addr) : top3 h l1 l2 l3 = h.objs.size + 5 ∧ Z3 (mk3 h l1 l2 l3) h.objs.size l1 l2 l3 0 .none ∧ (mk3 h l1 l2 l3).objs.size = h.objs.size + 6 ∧ ∀ c o, h.get? c = some o → (mk3 h l1 l2 l3).get? c = some o := by
  unfold mk3 top3
  generalize e1 : h.push (it3 l1) = h1
  generalize e2 : h1.push (it3 l2) = h2
  generalize e3 : h2.push (it3 l3) = h3
  generalize e4 : h3.push { cls := .type "tuple", data := .seq #[.ref h.objs.size, .ref h1.objs.size, .ref h2.objs.size] } = h4
  generalize e5 : h4.push { cls := .type "tuple", data := .seq #[.none, .none, .none] } = h5
  generalize e6 : h5.push { cls := .type "zip", data := .fields #[.none, .bool false, .bool false, .ref h3.objs.size, .ref h4.objs.size] } = h6
  have s1 : h1.objs.size = h.objs.size + 1 := by rw [← e1, Heap.size_push]
  have s2 : h2.objs.size = h.objs.size + 2 := by rw [← e2, Heap.size_push, s1]
  have s3 : h3.objs.size = h.objs.size + 3 := by rw [← e3, Heap.size_push, s2]
  have s4 : h4.objs.size = h.objs.size + 4 := by rw [← e4, Heap.size_push, s3]
  have s5 : h5.objs.size = h.objs.size + 5 := by rw [← e5, Heap.size_push, s4]
  have s6 : h6.objs.size = h.objs.size + 6 := by rw [← e6, Heap.size_push, s5]
  have u5 : ∀ {c o}, h5.get? c = some o → h6.get? c = some o := fun e => by rw [← e6]; exact Heap.get?_push_of_some _ e
  have u4 : ∀ {c o}, h4.get? c = some o → h6.get? c = some o := fun e => u5 (by rw [← e5]; exact Heap.get?_push_of_some _ e)
  have u3 : ∀ {c o}, h3.get? c = some o → h6.get? c = some o := fun e => u4 (by rw [← e4]; exact Heap.get?_push_of_some _ e)
  have u2 : ∀ {c o}, h2.get? c = some o → h6.get? c = some o := fun e => u3 (by rw [← e3]; exact Heap.get?_push_of_some _ e)
  have u1 : ∀ {c o}, h1.get? c = some o → h6.get? c = some o := fun e => u2 (by rw [← e2]; exact Heap.get?_push_of_some _ e)
  have a0 : h6.get? h.objs.size = some (it3 l1) := u1 (by rw [← e1]; exact Heap.get?_push_size _ rfl)
  have a1 : h6.get? h1.objs.size = some (it3 l2) := u2 (by rw [← e2]; exact Heap.get?_push_size _ rfl)
  have a2 : h6.get? h2.objs.size = some (it3 l3) := u3 (by rw [← e3]; exact Heap.get?_push_size _ rfl)
  have a3 : h6.get? h3.objs.size = some { cls := .type "tuple", data := .seq #[.ref h.objs.size, .ref h1.objs.size, .ref h2.objs.size] } := u4 (by rw [← e4]; exact Heap.get?_push_size _ rfl)
  have a4 : h6.get? h4.objs.size = some { cls := .type "tuple", data := .seq #[.none, .none, .none] } := u5 (by rw [← e5]; exact Heap.get?_push_size _ rfl)
  have a5 : h6.get? h5.objs.size = some { cls := .type "zip", data := .fields #[.none, .bool false, .bool false, .ref h3.objs.size, .ref h4.objs.size] } := by rw [← e6]; exact Heap.get?_push_size _ rfl
  rw [s5, s3, s4] at a5
  rw [s3, s1, s2] at a3
  rw [s4] at a4
  rw [s1] at a1
  rw [s2] at a2
  exact ⟨s5, ⟨a5, a3, ⟨_, _, _, a4⟩, ⟨_, a0, rfl, rfl⟩, ⟨_, a1, rfl, rfl⟩, ⟨_, a2, rfl, rfl⟩⟩, s6, fun c o e => u1 (by rw [← e1]; exact Heap.get?_push_of_some _ e)⟩
theorem call3 {l1 l2 l3 : Addr} {xs ys zs : Array Value} {Q : Value → Shared → Prop} (h1 : s.heap.IsList l1 xs) (h2 : s.heap.IsList l2 ys) (h3 : s.heap.IsList l3 zs)
    (h : ∀ h', Z3 h' s.heap.objs.size l1 l2 l3 0 .none → h'.objs.size = s.heap.objs.size + 6 → (∀ c o, s.heap.get? c = some o → h'.get? c = some o) → Q (.ref (s.heap.objs.size + 5)) { s with heap := h' }) :
    wpAny (model P w) A (call (.type "zip") [.ref l1, .ref l2, .ref l3]) Q E s := by
  obtain ⟨m1, m2, m3, m4⟩ := mk3_at s.heap l1 l2 l3
  refine callType_new PySem.F.called_zip (by decide) (tc3 _ _ _) (nc3 _ _ _) (fun obj => oi4 obj _ _ _) PySem.F.entry_zip_new (meets3 l1 l2 l3 xs ys zs) ⟨h1, h2, h3, ?_⟩
  show _ ∧ _
  rw [m1]
  exact ⟨⟨_, m2.zp, rfl⟩, h _ m2 m3 m4⟩
end
/-- the lists at a, b and c as they stand at each turn, the items in new triples -/
def It3 (K : PySem.W.Frag) (a b c : Addr) : It :=
  ⟨fun i H => ∃ (xs ys zs : List V) (x y z : V), SqL K H a xs ∧ SqL K H b ys ∧ SqL K H c zs ∧ xs[i]? = some x ∧ ys[i]? = some y ∧ zs[i]? = some z,
    fun i H v H' => ∃ T x y z, v = .ref T ∧ H T = none ∧ H' = upd H T (.tup [x, y, z]) ∧ (∀ xs, SqL K H a xs → xs[i]? = some x) ∧ (∀ ys, SqL K H b ys → ys[i]? = some y) ∧ ∀ zs, SqL K H c zs → zs[i]? = some z,
    fun i H => ∃ xs : List V, SqL K H a xs ∧ xs.length ≤ i⟩
theorem go3 {elts : List Expr} {x1} {pos : Pos} {n l1 l2 l3 : Nat} {k : Nat} {T : Addr} {P : Program} {w : World} {A : Around} {E : Value → Shared → Prop} {s : Shared} {Q : Unit → Shared → Prop} (b1 : l1 < n) (b2 : l2 < n) (b3 : l3 < n) (Z : Z3 s.heap n l1 l2 l3 k (rawInt T))
    (hQ : ∀ h', Z3 h' n l1 l2 l3 k .none → Heap.SameBut (n + 5) s.heap h' → Q () { s with heap := h' }) : wpAny (model P w) A (letOwnedTupleGo (.Tuple elts x1 pos) (.ref (n + 5)) (.ref T)) Q E s := by
  obtain ⟨zp, ti, ⟨a, b, c, to⟩, i1, i2, i3⟩ := Z
  refine wpAny_letOwnedTupleGo_zip zp fun h' z' sb => hQ h' ⟨z', ?_, ⟨a, b, c, ?_⟩, ?_, ?_, ?_⟩ sb
  · exact (sb.2 _ (show n + 3 ≠ n + 5 by omega)).trans ti
  · exact (sb.2 _ (show n + 4 ≠ n + 5 by omega)).trans to
  · exact i1.at fun o e => (sb.2 _ (show n ≠ n + 5 by omega)).trans e
  · exact i2.at fun o e => (sb.2 _ (show n + 1 ≠ n + 5 by omega)).trans e
  · exact i3.at fun o e => (sb.2 _ (show n + 2 ≠ n + 5 by omega)).trans e
theorem turn3 {P : Program} {w : World} {K : PySem.W.Frag} {elts : List Expr} {kk : Nat} {tpos : Pos} {a b c : Nat} {n : Nat} (b1 : a < n) (b2 : b < n) (b3 : c < n) :
    Turn P w K (.Tuple elts kk tpos) (It3 K a b c) [n, n + 1, n + 2, n + 3, n + 4, n + 5] (n + 5) (fun i h => Z3 h n a b c i .none) where
  mem := by simp
  obj := fun i h st x hx => by
    obtain ⟨zp, ti, ⟨x0, y0, z0, to⟩, ⟨o1, e1, _, d1⟩, ⟨o2, e2, _, d2⟩, ⟨o3, e3, _, d3⟩⟩ := st
    have e' : x = n ∨ x = n + 1 ∨ x = n + 2 ∨ x = n + 3 ∨ x = n + 4 ∨ x = n + 5 := by simpa using hx
    rcases e' with q | q | q | q | q | q <;> rw [q]
    · exact ⟨o1, e1, fun v z => by rw [d1] at z; cases z⟩
    · exact ⟨o2, e2, fun v z => by rw [d2] at z; cases z⟩
    · exact ⟨o3, e3, fun v z => by rw [d3] at z; cases z⟩
    · exact ⟨_, ti, fun v z => nomatch z⟩
    · exact ⟨_, to, fun v z => nomatch z⟩
    · exact ⟨_, zp, fun v z => nomatch z⟩
  keep := fun i h h' st k => by
    obtain ⟨zp, ti, ⟨x0, y0, z0, to⟩, i1, i2, i3⟩ := st
    exact ⟨k _ (by simp) _ zp, k _ (by simp) _ ti, ⟨x0, y0, z0, k _ (by simp) _ to⟩, i1.at fun o q => k _ (by simp) o q, i2.at fun o q => k _ (by simp) o q, i3.at fun o q => k _ (by simp) o q⟩
  item := by
    intro X eP ew eK calm i pn s σ H E I fp st hg
    subst eP ew eK
    obtain ⟨xs, ys, zs, x, y, z, q1, q2, q3, hx, hy, hz⟩ := hg
    obtain ⟨its1, r1, p1, _⟩ := I.list q1
    obtain ⟨its2, r2, p2, _⟩ := I.list q2
    obtain ⟨its3, r3, p3, _⟩ := I.list q3
    obtain ⟨u1, hu1, ru1⟩ := r1.get hx
    obtain ⟨u2, hu2, ru2⟩ := r2.get hy
    obtain ⟨u3, hu3, ru3⟩ := r3.get hz
    have zl : n + 5 < s.heap.objs.size := Heap.lt_size st.zp
    refine next_z3 b1 b2 b3 st p1.isList p2.isList p3.isList (x := u1) (y := u2) (z := u3) (by simpa using hu1) (by simpa using hu2) (by simpa using hu3) fun h1 Z1 hT hsz hk => ?_
    refine ⟨_, rfl, go3 (s := { s with heap := h1 }) b1 b2 b3 Z1 fun h2 Z2 sb => ?_⟩
    have hT2 : h2.get? s.heap.objs.size = some { cls := .type "tuple", data := .seq #[u1, u2, u3] } := (sb.2 _ (Nat.ne_of_gt zl)).trans hT
    have new : ObjOk X.prog X.w (upd H s.heap.objs.size (.tup [x, y, z])) h2 s.heap.objs.size (.tup [x, y, z]) :=
      ⟨by show 3 ≤ sizeLine; decide, [u1, u2, u3], .cons ru1 (.cons ru2 (.cons ru3 .nil)), ⟨_, hT2, rfl, _, rfl⟩⟩
    have J : Inv X pn σ (upd H s.heap.objs.size (.tup [x, y, z])) { s with heap := h2 } :=
      I.turnedNew (t' := s.toks) (ch := [n, n + 1, n + 2, n + 3, n + 4, n + 5]) (fun d o nb e => (sb.2 d (fun q => nb (by simp [q]))).trans (hk d o (fun q => nb (by simp [q])) (fun q => nb (by simp [q])) (fun q => nb (by simp [q])) (fun q => nb (by simp [q])) (fun q => nb (by simp [q])) e)) fp (Nat.le_refl _) new
    refine ⟨.ref s.heap.objs.size, _, J, rfl, ⟨_, x, y, z, rfl, I.hok.fresh (Nat.le_refl _), rfl, fun l hl => by rw [I.list_inj hl q1]; exact hx, fun l hl => by rw [I.list_inj hl q2]; exact hy, fun l hl => by rw [I.list_inj hl q3]; exact hz⟩, Z2, fun d hd => ?_⟩
    have lt : d < s.heap.objs.size := by
      have e' : d = n ∨ d = n + 1 ∨ d = n + 2 ∨ d = n + 3 ∨ d = n + 4 ∨ d = n + 5 := by simpa using hd
      have le : d ≤ n + 5 := by
        rcases e' with q | q | q | q | q | q <;> rw [q]
        · exact Nat.le_add_right n 5
        · exact Nat.add_le_add_left (by decide : 1 ≤ 5) n
        · exact Nat.add_le_add_left (by decide : 2 ≤ 5) n
        · exact Nat.add_le_add_left (by decide : 3 ≤ 5) n
        · exact Nat.add_le_add_left (by decide : 4 ≤ 5) n
        · exact Nat.le_refl _
      exact Nat.lt_of_le_of_lt le zl
    rw [upd_ne (Nat.ne_of_lt lt)]
    exact (fp d hd).1
  done := by
    intro X eP ew eK calm i pn s σ H E I fp st hg
    subst eP ew eK
    obtain ⟨xs, q1, hend⟩ := hg
    obtain ⟨its1, r1, p1, _⟩ := I.list q1
    have l1 := r1.length
    exact stop_z3 (I.ok.hd calm) b1 st p1.isList (by simp; omega) fun h1 hk => ⟨rfl, I.turnedL (t' := s.toks) (ch := [n, n + 1, n + 2, n + 3, n + 4, n + 5]) (fun d o nb e => hk d o (fun q => nb (by simp [q])) (fun q => nb (by simp [q])) e) fp⟩
  self := fun A i s Q E st h => wpAny_pyIter_zip st.zp h
def iZip3 (K : PySem.W.Frag) (ta : TA) : TI := fun σ H R => ta σ H fun vs H1 => ∃ a b c xs ys zs, vs = [.ref a, .ref b, .ref c] ∧ SqL K H1 a xs ∧ SqL K H1 b ys ∧ SqL K H1 c zs ∧ R (It3 K a b c) H1
theorem pi_zip3 {X : Cx} {e e2 e3 : Expr} {ta : TA} {p pos tpos : Pos} {elts : List Expr} {kk : Nat} (hg : Gl X "zip") (hm : X.mg "zip" = none) (ha : PA X [e, e2, e3] ta)
    (hs : starEach [e, e2, e3] X.env = (false, eval e X.env) :: starEach [e2, e3] X.env := by rfl) (hpl : (backTo pos (starEach [e2, e3] X.env)).any (·.1) = false := by rfl) :
    PI X (.Tuple elts kk tpos) (.Call (.Name "zip" p) [e, e2, e3] [] pos) (iZip3 X.K ta) := by
  refine ⟨fun pn s σ H R I h => ?_⟩
  refine Call_ (ld_blt I hg hm PyProof.Rows.boot_zip (PyProof.Rows.callWith_type1 (thn (ha.run pos pn s σ H _ I h) fun us t ⟨vs, H1, I1, r, a, b, c, xs, ys, zs, ex, q1, q2, q3, q⟩ => ?_) hs hpl))
  subst ex
  obtain ⟨rfl⟩ : us = [.ref a, .ref b, .ref c] := by
    cases r with
    | cons ra r =>
      cases r with
      | cons rb r =>
        cases r with
        | cons rc r =>
          cases r
          cases (show _ = Value.ref a from ra)
          cases (show _ = Value.ref b from rb)
          cases (show _ = Value.ref c from rc)
          rfl
  obtain ⟨its1, r1, p1, _⟩ := I1.list q1
  obtain ⟨its2, r2, p2, _⟩ := I1.list q2
  obtain ⟨its3, r3, p3, _⟩ := I1.list q3
  refine call3 p1.isList p2.isList p3.isList fun h1 Z hsz hk => wpAny_pyIter_zip Z.zp ?_
  have I2 : Inv X pn σ H1 { t with heap := h1 } := I1.kept (t' := t.toks) hk
  refine ⟨t.heap.objs.size + 5, [t.heap.objs.size, t.heap.objs.size + 1, t.heap.objs.size + 2, t.heap.objs.size + 3, t.heap.objs.size + 4, t.heap.objs.size + 5], _, _, H1, rfl, I2, turn3 p1.lt p2.lt p3.lt, Z, fun d hd => ?_, q⟩
  have hle : t.heap.objs.size ≤ d := by
    have e' : d = t.heap.objs.size ∨ d = t.heap.objs.size + 1 ∨ d = t.heap.objs.size + 2 ∨ d = t.heap.objs.size + 3 ∨ d = t.heap.objs.size + 4 ∨ d = t.heap.objs.size + 5 := by simpa using hd
    rcases e' with q | q | q | q | q | q <;> rw [q]
    · exact Nat.le_refl _
    · exact Nat.le_add_right _ _
    · exact Nat.le_add_right _ _
    · exact Nat.le_add_right _ _
    · exact Nat.le_add_right _ _
    · exact Nat.le_add_right _ _
  exact I1.fpOk hle (I1.hok.fresh hle)
theorem walk3 {K : PySem.W.Frag} {a b c : Addr} {xs ys zs : List V} (h1 : ys.length = xs.length) (h2 : zs.length = xs.length) : Walk (It3 K a b c) xs.length (fun H => SqL K H a xs ∧ SqL K H b ys ∧ SqL K H c zs)
    (fun i H v H' => ∃ T x y z, v = .ref T ∧ H T = none ∧ H' = upd H T (.tup [x, y, z]) ∧ xs[i]? = some x ∧ ys[i]? = some y ∧ zs[i]? = some z) := by
  refine ⟨fun i _ hi q => ?_, fun _ q => ⟨xs, q.1, Nat.le_refl _⟩, fun i H v H' _ q y => ?_⟩
  · exact ⟨xs, ys, zs, xs[i], ys[i]'(by omega), zs[i]'(by omega), q.1, q.2.1, q.2.2, by simp [hi], by simp [h1, hi], by simp [h2, hi]⟩
  · obtain ⟨T, x, y, z, e1, e2, e3, e4, e5, e6⟩ := y
    exact ⟨T, x, y, z, e1, e2, e3, e4 xs q.1, e5 ys q.2.1, e6 zs q.2.2⟩
end Pu

namespace Pu
open PySem PySem.Spec PyProof.Rows L2
abbrev sWhole2 : Stmt := top 23
abbrev sDcVal : Stmt := top 24
/-! ### data that is written out, told at addresses of N -/
open Classical in
noncomputable def rst (N : Addr → Prop) (H : Hp) : Hp := fun a => if N a then H a else none
theorem rst_some {N : Addr → Prop} {H : Hp} {a : Addr} {o : HO} : rst N H a = some o ↔ N a ∧ H a = some o := by
  unfold rst
  by_cases h : N a
  · rw [if_pos h]; exact ⟨fun e => ⟨h, e⟩, fun e => e.2⟩
  · rw [if_neg h]; exact ⟨fun e => (by cases e), fun e => absurd e.1 h⟩
theorem rst_to {N N' : Addr → Prop} {H H' : Hp} (k : ∀ a o, N a → H a = some o → N' a ∧ H' a = some o) : Same (rst N H) (rst N' H') := fun a o e => by
  obtain ⟨h1, h2⟩ := rst_some.mp e
  exact rst_some.mpr (k a o h1 h2)
theorem rst_sub (N : Addr → Prop) (H : Hp) : Same (rst N H) H := fun a o e => (rst_some.mp e).2
def CD (n : Nat) (d : PyData) : RV := fun N H v => CV n (rst N H) v d
theorem CD.mon (n : Nat) (d : PyData) : Mon (CD n d) := fun _ _ _ _ _ k h => CV.same (rst_to k) h
theorem CD.cv {n : Nat} {d : PyData} {N : Addr → Prop} {H : Hp} {v : V} (h : CD n d N H v) : CV n H v d := CV.same (rst_sub N H) h
def TNd (n : Nat) (ds : List PyData) : TA := fun _ H Q => ∀ vs H', Same H H' → Paired (fun v d => CD n d (fun a => H a = none) H' v) vs ds → Q vs H'
def TLd (n : Nat) (ds : List PyData) : TE := fun _ H Q => ∀ p xs H', Same H H' → H p = none → H' p = some (.lst xs) → Paired (fun v d => CD n d (fun a => H a = none) H' v) xs ds → Q (.ref p) H'
theorem new_k {H H1 H' : Hp} (s : Same H H1) (s2 : Same H1 H') : ∀ a o, H1 a = none → H' a = some o → H a = none ∧ H' a = some o := fun _ _ n e => ⟨s.free n, e⟩
section
variable {X : Cx}
theorem c_int {i : Int} {j : Nat} {pos : Pos} {n : Nat} : PE X (.Constant (.int i) j pos) (TN (CD (n + 1) (.int i))) := pe_imp pe_int fun _ H _ q => q _ H (Same.refl H) (.inr (.inr (.inl ⟨i, rfl, rfl⟩)))
theorem c_neg {i : Int} {j : Nat} {p1 p2 : Pos} {n : Nat} : PE X (.UnaryOp .USub (.Constant (.int i) j p1) p2) (TN (CD (n + 1) (.int (-i)))) := pe_imp (pe_un un_neg pe_int) fun _ H _ q => ⟨i, rfl, q _ H (Same.refl H) (.inr (.inr (.inl ⟨-i, rfl, rfl⟩)))⟩
theorem c_bl {b : Bool} {j : Nat} {pos : Pos} {n : Nat} : PE X (.Constant (.bool b) j pos) (TN (CD (n + 1) (.bool b))) := pe_imp pe_bl fun _ H _ q => q _ H (Same.refl H) (.inr (.inl ⟨b, rfl, rfl⟩))
theorem c_non {j : Nat} {pos : Pos} {n : Nat} : PE X (.Constant .none j pos) (TN (CD (n + 1) .none)) := pe_imp pe_non fun _ H _ q => q _ H (Same.refl H) (.inl ⟨rfl, rfl⟩)
theorem c_str {x : Str} {j : Nat} {pos : Pos} {n : Nat} : PE X (.Constant (.str x) j pos) (TN (CD (n + 1) (.str x))) := pe_imp pe_str fun _ H _ q => q _ H (Same.refl H) (.inr (.inr (.inr (.inl ⟨x, rfl, rfl⟩))))
theorem c_pow {n j1 j2 : Nat} {p1 p2 pos : Pos} : PE X (.BinOp (.Constant (.int 10) j1 p1) .Pow (.Constant (.int 18) j2 p2) pos) (TN (CD (n + 1) (.int 1000000000000000000))) :=
  pe_imp (pe_op op_pow pe_int pe_int) fun _ H _ q => ⟨10, 18, rfl, rfl, ⟨by decide, by decide, by decide⟩, q _ H (Same.refl H) (.inr (.inr (.inl ⟨_, rfl, congrArg PyData.int (by decide +kernel)⟩)))⟩
theorem c_pow1 {n j1 j2 j3 : Nat} {p1 p2 p3 p4 pos : Pos} : PE X (.BinOp (.BinOp (.Constant (.int 10) j1 p1) .Pow (.Constant (.int 18) j2 p2) p3) .Sub (.Constant (.int 1) j3 p4) pos) (TN (CD (n + 1) (.int 999999999999999999))) :=
  pe_imp (pe_op op_sub (pe_op op_pow pe_int pe_int) pe_int) fun _ H _ q => ⟨10, 18, rfl, rfl, ⟨by decide, by decide, by decide⟩, _, 1, rfl, rfl, q _ H (Same.refl H) (.inr (.inr (.inl ⟨_, rfl, congrArg PyData.int (by decide +kernel)⟩)))⟩
theorem c_powN {n j1 j2 : Nat} {p1 p2 p3 pos : Pos} : PE X (.UnaryOp .USub (.BinOp (.Constant (.int 10) j1 p1) .Pow (.Constant (.int 18) j2 p2) p3) pos) (TN (CD (n + 1) (.int (-1000000000000000000)))) :=
  pe_imp (pe_un un_neg (pe_op op_pow pe_int pe_int)) fun _ H _ q => ⟨10, 18, rfl, rfl, ⟨by decide, by decide, by decide⟩, _, rfl, q _ H (Same.refl H) (.inr (.inr (.inl ⟨_, rfl, congrArg PyData.int (by decide +kernel)⟩)))⟩
theorem c_nil {n : Nat} : PA X [] (TNd n []) := pa_imp pa_nil fun _ H _ q => q [] H (Same.refl H) .nil
theorem c_cons {e : Expr} {es : List Expr} {n : Nat} {d : PyData} {ds : List PyData} (he : PE X e (TN (CD n d))) (hr : PA X es (TNd n ds)) (hs : starEach (e :: es) X.env = (false, eval e X.env) :: starEach es X.env := by rfl) : PA X (e :: es) (TNd n (d :: ds)) :=
  pa_imp (pa_cons he hr hs) fun _ H Q q v H1 s1 r1 vs H2 s2 r2 => q (v :: vs) H2 (s1.trans s2) (.cons ((CD.mon n d) _ _ _ _ _ (fun a o m e => ⟨m, s2 a o e⟩) r1) (paired_imp (fun x y h => (CD.mon n y) _ _ _ _ _ (fun a o m e => ⟨s1.free m, e⟩) h) r2))
theorem c_tup {es : List Expr} {n : Nat} {ds : List PyData} {x1 : Nat} {pos : Pos} (h : PA X es (TNd n ds)) (hl : ds.length ≤ 1000 := by decide) : PE X (.Tuple es x1 pos) (TN (CD (n + 1) (.tuple ds))) :=
  pe_imp (pe_tup h) fun _ H Q q vs H1 s1 r => ⟨by rw [paired_len r]; exact Nat.le_of_lt (small1000 hl), fun p hp => q _ _ (s1.trans (same_upd hp))
    (.inr (.inr (.inr (.inr (.inl ⟨p, vs, ds, rfl, rst_some.mpr ⟨s1.free hp, upd_same⟩, rfl, paired_imp (fun x y z => CV.same (rst_to fun a o m e => ⟨m, same_upd hp a o e⟩) z) r⟩)))))⟩
theorem c_list {es : List Expr} {n : Nat} {ds : List PyData} {pos : Pos} (h : PA X es (TNd n ds)) (hl : ds.length ≤ 1000 := by decide) : PE X (.List es pos) (TLd n ds) :=
  pe_imp (pe_lst h) fun _ H Q q vs H1 s1 r => ⟨by rw [paired_len r]; exact Nat.le_of_lt (small1000 hl), fun p hp => q p vs _ (s1.trans (same_upd hp)) (s1.free hp) upd_same
    (paired_imp (fun x y z => CV.same (rst_to fun a o m e => ⟨m, same_upd hp a o e⟩) z) r)⟩
theorem c_lst {es : List Expr} {n m : Nat} {ds : List PyData} {pos : Pos} (h : PA X es (TNd m ds)) (hl : ds.length ≤ 1000 := by decide) : PE X (.List es pos) (TN (CD (n + 1) (.dict []))) :=
  pe_imp (c_list h hl) fun _ H Q q p xs H' s np hp _ => q _ H' s (.inr (.inr (.inr (.inr (.inr ⟨p, .lst xs, rfl, rst_some.mpr ⟨np, hp⟩, .inl ⟨xs, rfl⟩, rfl⟩)))))
theorem c_dct {n : Nat} {pos : Pos} : PE X (.Dict [] [] pos) (TN (CD (n + 1) (.dict []))) := pe_imp pe_dnewK fun _ H Q q p hp => q _ _ (same_upd hp) (.inr (.inr (.inr (.inr (.inr ⟨p, .dK [], rfl, rst_some.mpr ⟨hp, upd_same⟩, .inr ⟨[], rfl⟩, rfl⟩)))))
end
theorem paired_mem {α β : Type} {R : α → β → Prop} : ∀ {xs : List α} {ds : List β}, Paired R xs ds → ∀ {x : α}, x ∈ xs → ∃ d, d ∈ ds ∧ R x d
  | _, _, .nil, _, h => nomatch h
  | _, _, .cons r t, x, h => by
    rcases List.mem_cons.mp h with rfl | h
    · exact ⟨_, List.mem_cons_self, r⟩
    · obtain ⟨d, hd, q⟩ := paired_mem t h
      exact ⟨d, List.mem_cons_of_mem _ hd, q⟩
/-- a value that may be kept -/
def goodD (n : Nat) : RV := fun N H v => ∃ d, CD n d N H v ∧ (stB d = true ∧ szB d ≤ 50 ∧ SeqAt.shaped d = true ∧ PyData.eqv d d = true)
theorem goodD.mon (n : Nat) : Mon (goodD n) := fun N N' H H' v k ⟨d, h, e⟩ => ⟨d, CD.mon n d _ _ _ _ _ k h, e⟩
def spDcVal (n : Nat) : Sp := fun vs H Q _ => ∃ (d g c : Addr) (T : Int), vs = [.ref d] ∧ StA H d g c T ∧ T < TB ∧
  ∀ (x : V) (H' : Hp), goodD n (Nd d g) H' x → Kp d g H H' → StA H' d g c (T + 1) → Q x H'
section
variable {P : Program} {w : World} {K : PySem.W.Frag} {mg : Str → Option Value} {base : Heap}
def dcA : List PyData := [.none, .int 0, .int (-7), .int 999999999999999999, .str "", .str "book", .tuple [.str "name", .int 4], .tuple [], .tuple [.tuple [.str "name", .int 0], .tuple [.tuple [.str "name", .int 2], .tuple [.str "name", .int 9]]]]
def dcB : List PyData := [.tuple [.tuple [.tuple [.str "a", .none]]], .tuple [.str "name"], .tuple [.str "name", .int (-1)]]
theorem dcA_ok : ∀ d ∈ dcA ++ dcB, stB d = true ∧ szB d ≤ 50 ∧ SeqAt.shaped d = true ∧ PyData.eqv d d = true := by decide +kernel
theorem scDV : FnScope ["state", "some"] ["state"] (defScope sDcVal) := ⟨rfl, rfl, rfl, by decide +kernel, rfl, by decide +kernel, by decide +kernel⟩
theorem ok_dcval {f fP : Addr} {fd fdP : FuncData} (F : Fun K "_law_dc_value" "_law_dc_value" sDcVal f fd) (GP : FnOk P w K mg base CX0 3 fP fdP ["state", "several"] (spPick K)) (bP : Binds K fdP ["state", "several"] []) (kP : PySem.W.keepIn K (.ref fP) = true) (mP : mg "_law_pick" = some (.ref fP)) :
    FnOk P w K mg base CX0 4 f fd ["state"] (spDcVal 4) := by
  refine F.ok scDV (fun vs H Q E h => ?_) (fun cdv A outer s H vs Q E hr h => ?_)
  · obtain ⟨d, g, c, T, rfl, _⟩ := h
    rfl
  · obtain ⟨d, g, c, T, rfl, S, hT, k⟩ := h
    refine ⟨_, pss_cons (ps_set (i := 1) scDV.nd rfl (Or.inl rfl) (c_list (n := 4) (ds := dcA) (c_cons c_non (c_cons c_int (c_cons c_neg (c_cons c_pow1 (c_cons c_str (c_cons c_str (c_cons (c_tup (c_cons c_str (c_cons c_int c_nil))) (c_cons (c_tup c_nil)
        (c_cons (c_tup (c_cons (c_tup (c_cons c_str (c_cons c_int c_nil))) (c_cons (c_tup (c_cons (c_tup (c_cons c_str (c_cons c_int c_nil))) (c_cons (c_tup (c_cons c_str (c_cons c_int c_nil))) c_nil))) c_nil))) c_nil)))))))))))
      (pss_one (ps_ret (pe_call GP hr rfl mP kP bP .nil pass0 (pa_cons (pv 0) (pa_cons (pe_op op_cat (pv 1) (c_list (n := 4) (ds := dcB) (c_cons (c_tup (c_cons (c_tup (c_cons (c_tup (c_cons c_str (c_cons c_non c_nil))) c_nil)) c_nil)) (c_cons (c_tup (c_cons c_str c_nil)) (c_cons (c_tup (c_cons c_str (c_cons c_neg c_nil))) c_nil))))) pa_nil))))), ?_⟩
    intro p1 xs1 H1 s1 n1 h1 r1
    refine ⟨_, rfl, _, rfl, ?_⟩
    intro p2 xs2 H2 s2 n2 h2 r2
    have h1' := s2 _ _ h1
    refine ⟨p1, p2, xs1, xs2, rfl, rfl, h1', h2, by rw [paired_len r1, paired_len r2]; show 12 ≤ sizeLine; decide, fun p hp => ?_⟩
    have s3 := s1.trans s2
    have s4 := s3.trans (same_upd (o := .lst (xs1 ++ xs2)) hp)
    have nn : ∀ a, H a = none → Nd d g a := S.nd
    refine ⟨d, g, c, p, T, _, rfl, S.same s4, hT, .inl (SqL.of upd_same), (nn p (s3.free hp)).1, (nn p (s3.free hp)).2, fun z => ?_, by rw [List.length_append, paired_len r1, paired_len r2]; show 12 ≤ 100000; decide, fun x H' hx kp S' => k x H' ?_ ((Kp.of s4).trans kp) S'⟩
    · have z2 := congrArg List.length z
      rw [List.length_append, paired_len r1, paired_len r2] at z2
      cases z2
    · have pr : Paired (fun v d2 => CD 4 d2 (Nd d g) H' v) (xs1 ++ xs2) (dcA ++ dcB) :=
        paired_app (paired_imp (fun x y h => CD.mon 4 y _ _ _ _ _ (fun a o m e => ⟨nn a m, kp a o (same_upd hp a o (s2 a o e)) (nn a m).1 (nn a m).2⟩) h) r1)
          (paired_imp (fun x y h => CD.mon 4 y _ _ _ _ _ (fun a o m e => ⟨nn a (s1.free m), kp a o (same_upd hp a o e) (nn a (s1.free m)).1 (nn a (s1.free m)).2⟩) h) r2)
      obtain ⟨dd, hd, h⟩ := paired_mem pr hx
      exact ⟨dd, h, dcA_ok dd hd⟩
end
end Pu

namespace Pu
open PySem PySem.Spec PyProof.Rows L2 LamX
abbrev sDcRef : Stmt := top 25
/-- an error's class, as the law asks of it -/
structure ErX (K : PySem.W.Frag) (mg : Str → Option Value) (PE0 : Addr) (x : Str) (C : Addr) : Prop where
  er : Er K mg x C
  xc : ExcC K C
  kit : PySem.W.kitOne K (.ref C) (.ref C) = some true
  exm : PySem.W.exmOne K (.ref C) (.ref PE0) = some true
/-- _law_caught -/
def Cgt (K : PySem.W.Frag) (mg : Str → Option Value) (PE0 : Addr) : Prop := mg "PurseError" = some (.ref PE0) ∧ ∃ (fC : Addr) (odC anC : Option Addr) (ocC dVC kVC docC pmC cdC ctC : Value) (oslC : Array (Option Value)),
  K.lookup fC = some ⟨ocC, odC, .func (PySem.W.fnOf "_law_caught" "_law_caught" (defArgs sCaught) (defBody sCaught) (defScope sCaught) dVC kVC docC pmC anC cdC ctC), oslC⟩ ∧ PySem.W.codeIn K cdC "_law_caught" = true ∧
    Binds K (PySem.W.fnOf "_law_caught" "_law_caught" (defArgs sCaught) (defBody sCaught) (defScope sCaught) dVC kVC docC pmC anC cdC ctC) ["work"] [] ∧ PySem.W.keepIn K (.ref fC) = true ∧ mg "_law_caught" = some (.ref fC)
theorem DkAt.same {C : Addr} {H H' : Hp} {p h : Addr} {f : V} {kvs : List (Key × V)} (s : Same H H') (D : DkAt C H p h f kvs) : DkAt C H' p h f kvs := by
  obtain ⟨⟨dx, e⟩, q⟩ := D
  exact ⟨⟨dx, s _ _ e⟩, s _ _ q⟩
theorem DkAt.kp {C : Addr} {H H' : Hp} {p h d g c : Addr} {T : Int} {f : V} {kvs : List (Key × V)} (S : StA H d g c T) (k : Kp d g H H') (n : h ≠ d) (D : DkAt C H p h f kvs) : DkAt C H' p h f kvs := by
  obtain ⟨⟨dx, e⟩, q⟩ := D
  obtain ⟨l, t, h1, _⟩ := S.dk
  obtain ⟨gs, h2, _⟩ := S.gr
  exact ⟨⟨dx, k _ _ e (ne_of e h1 (by intro z; cases z)) (ne_of e h2 (by intro z; cases z))⟩, k _ _ q n (ne_of q h2 (by intro z; cases z))⟩
/-- a drawn one of things written out -/
def oneD (n : Nat) (ds : List PyData) : RV := fun N H v => ∃ d, d ∈ ds ∧ CD n d N H v
theorem oneD.mon (n : Nat) (ds : List PyData) : Mon (oneD n ds) := fun N N' H H' v k ⟨d, h, e⟩ => ⟨d, h, CD.mon n d _ _ _ _ _ k e⟩
/-- all stays but the state's two objects, and tables -/
def KpN (d g : Addr) (H H' : Hp) : Prop := ∀ b o, H b = some o → b ≠ d → b ≠ g → (∀ ps : Array Value, o ≠ .tbl ps) → H' b = some o
theorem KpN.kp {d g : Addr} {H H' : Hp} (k : Kp d g H H') : KpN d g H H' := fun b o e x y _ => k b o e x y
theorem KpN.ext {d g : Addr} {H H' : Hp} (k : ExtN H H') : KpN d g H H' := fun b o e _ _ n => k b o e n
theorem KpN.trans {d g : Addr} {H H1 H2 : Hp} (a : KpN d g H H1) (b : KpN d g H1 H2) : KpN d g H H2 := fun c o e x y n => b c o (a c o e x y n) x y n
theorem Tabs.kp {H H' : Hp} {d g c : Addr} {T : Int} {L : List (Addr × Str)} (S : StA H d g c T) (k : Kp d g H H') (t : Tabs L H) : Tabs L H' := fun p hp => tab_kp S k (t p hp)
theorem Tabs.sm {H H' : Hp} {L : List (Addr × Str)} (s : Same H H') (t : Tabs L H) : Tabs L H' := fun p hp => (t p hp).ext s
theorem ext_trans {H H1 H2 : Hp} (a : ExtN H H1) (b : ExtN H1 H2) : ExtN H H2 := fun c o e n => b c o (a c o e n) n
theorem cv_nstr {H : Hp} {n : Nat} {v : V} {d : PyData} {z : Str} {α : Prop} (h : CV n H v d) (no : isD d "str" = false) (e : v = .str z) : α := by
  subst e
  exfalso
  cases n with
  | zero => exact h
  | succ n =>
    rcases h with ⟨q, _⟩ | ⟨b, q, _⟩ | ⟨i, q, _⟩ | ⟨z, q, rfl⟩ | ⟨a, ys, ds, q, _⟩ | ⟨a, o, q, _⟩
    · cases q
    · cases q
    · cases q
    · simp [isD] at no
    · cases q
    · cases q
/-- what a pick from a list that was written out asks and tells -/
theorem pick_new {K : PySem.W.Frag} {H H1 : Hp} {d g c p : Addr} {T : Int} {n : Nat} {ds : List PyData} {xs : List V} {Q : VK} {E : XK} (S : StA H d g c T) (hT : T < TB) (s : Same H H1) (hn : H p = none) (hp : H1 p = some (.lst xs))
    (r : Paired (fun v d2 => CD n d2 (fun a => H a = none) H1 v) xs ds) (h0 : ds ≠ []) (hl : ds.length ≤ 1000) (k : ∀ x H', oneD n ds (Nd d g) H' x → Kp d g H1 H' → StA H' d g c (T + 1) → Q x H') : spPick K [.ref d, .ref p] H1 Q E := by
  have nn : ∀ a, H a = none → Nd d g a := S.nd
  refine ⟨d, g, c, p, T, xs, rfl, S.same s, hT, .inl (SqL.of hp), (nn p hn).1, (nn p hn).2, fun z => ?_, by rw [paired_len r]; omega, fun x H' hx kp S' => k x H' ?_ kp S'⟩
  · subst z
    cases r
    exact h0 rfl
  · obtain ⟨dd, hd, q⟩ := paired_mem r hx
    exact ⟨dd, hd, CD.mon n dd _ _ _ _ _ (fun a o m e => ⟨nn a m, kp a o e (nn a m).1 (nn a m).2⟩) q⟩
def gSw : List Value → List Value → List Value := fun us ws => match us, ws with
  | [x], [f, c] => [x, c, f]
  | _, _ => us ++ ws
def gVSw : List V → List V → List V := fun us ws => match us, ws with
  | [x], [f, c] => [x, c, f]
  | _, _ => us ++ ws
def gAp : List Value → List Value → List Value := fun us ws => match us, ws with
  | [x], [a, b] => [x, a, b]
  | _, _ => []
def gVAp : List V → List V → List V := fun us ws => match us, ws with
  | [x], [a, b] => [x, a, b]
  | _, _ => []
/-- the class Disk, as the law asks of it -/
structure DkC (P : Program) (w : World) (K : PySem.W.Frag) (mg : Str → Option Value) (base : Heap) (C : Addr) (e : Ec) : Prop where
  T : Dcl K C
  cl : Cls K C
  read : ∃ f fd, FnOk P w K mg base (L2.CX P w) 2 f fd ["self", "cell"] (spDRead C e) ∧ Binds K fd ["self", "cell"] [] ∧ Meth K C "read" f
  write : ∃ f fd, FnOk P w K mg base (L2.CX P w) 3 f fd ["self", "cell", "value"] (spDWrite C e) ∧ Binds K fd ["self", "cell", "value"] [] ∧ Meth K C "write" f ∧ KBinds K fd ["self", "cell", "value"] ["cell", "value"] gAp gVAp
  cells : ∃ f fd, FnOk P w K mg base CX0 1 f fd ["self"] (spDCells C) ∧ Binds K fd ["self"] [] ∧ Meth K C "cells" f
  mak : ∃ f fd, FnOk P w K mg base (L2.CX P w) 4 f fd ["self", "cells", "fuse"] (spDInit K P w C e) ∧ Mk K C f ∧ Binds K fd ["self", "cells", "fuse"] [] ∧ KBn K fd ["self", "cells", "fuse"] 1 ["fuse", "cells"] gSw gVSw
  nm : mg "Disk" = some (.ref C)
def qRef : Str := (PyProof.Rows.envOfC "_law_dc_refused" (defScope sDcRef) 0 0 .none).qual ++ "<lambda>"
def spDcRef (C : Addr) (L : List (Addr × Str)) : Sp := fun vs H Q _ => ∃ (d g c p h : Addr) (f : V) (kvs : List (Key × V)) (T : Int), vs = [.ref d, .ref p] ∧ StA H d g c T ∧ T + 10 < TB ∧ DkAt C H p h f kvs ∧ (f = .non ∨ ∃ i, f = .int i) ∧ kvs.length ≤ 100 ∧ h ≠ d ∧ Tabs L H ∧
  ∀ (H' : Hp), KpN d g H H' → Tabs L H' → StA H' d g c (T + 2) → Q (.bl true) H'
def rcA : List PyData := [.none, .int 3, .tuple [.str "book"], .bool true, .dict []]
def rvA : List PyData := [.bool true, .dict [], .dict [], .tuple [.int 1, .dict []], .tuple [.str "name", .bool false], .tuple [.none, .tuple [.bool true]], .int 1000000000000000000, .tuple [.int 2, .tuple [.int (-1000000000000000000)]]]
theorem rcA_ok : ∀ d ∈ rcA, isD d "str" = false := by decide +kernel
theorem rvA_ok : ∀ d ∈ rvA, stB d = false ∧ szB d ≤ 1000 := by decide +kernel
section
variable {P : Program} {w : World} {K : PySem.W.Frag} {mg : Str → Option Value} {base : Heap}
abbrev nRef : List Str := ["state", "disk", "cell", "some", "value"]
theorem scRf : FnScope nRef ["state", "disk"] (defScope sDcRef) := ⟨rfl, rfl, rfl, by decide +kernel, rfl, by decide +kernel, by decide +kernel⟩
theorem ok_dcref {f fP C PE0 c0 Pt : Addr} {e : Ec} {fdP : FuncData} {od an : Option Addr} {oc dV kV doc pm ct : Value} {osl : Array (Option Value)} {L : List (Addr × Str)} (hL1 : (Pt, qRef) ∈ L) (hL2 : ∀ p ∈ L, p.1 = Pt → p.2 = qRef)
    (lk : K.lookup f = some ⟨oc, od, .func (PySem.W.fnOf "_law_dc_refused" "_law_dc_refused" (defArgs sDcRef) (defBody sDcRef) (defScope sDcRef) dV kV doc pm an (.ref c0) ct), osl⟩) (hcd : PySem.W.codeIn K (.ref c0) "_law_dc_refused" = true) (TB : TabB base mg c0 Pt)
    (D : DkC P w K mg base C e) (Cg : Cgt K mg PE0) (ms : mg "isinstance" = none) (eC : ErX K mg PE0 "BadCell" e.cell) (eV : ErX K mg PE0 "BadContent" e.content)
    (GP : FnOk P w K mg base CX0 3 fP fdP ["state", "several"] (spPick K)) (bP : Binds K fdP ["state", "several"] []) (kP : PySem.W.keepIn K (.ref fP) = true) (mP : mg "_law_pick" = some (.ref fP)) :
    FnOk P w K mg base CX0 6 f (PySem.W.fnOf "_law_dc_refused" "_law_dc_refused" (defArgs sDcRef) (defBody sDcRef) (defScope sDcRef) dV kV doc pm an (.ref c0) ct) ["state", "disk"] (spDcRef C L) := by
  obtain ⟨mPE, fC, odC, anC, ocC, dVC, kVC, docC, pmC, cdC, ctC, oslC, lC, hC, bC, kC, mC⟩ := Cg
  obtain ⟨fr, fdr, GR, bR, meR⟩ := D.read
  obtain ⟨fw, fdw, GW, bW, meW, _⟩ := D.write
  refine fn_of lk hcd scRf (fun vs H Q E h => ?_) (fun A outer s H vs Q E hr h => ?_)
  · obtain ⟨d, g, c, p, h, fz, kvs, T, rfl, _⟩ := h
    rfl
  · obtain ⟨d, g, c, p, h, fz, kvs, T, rfl, S, hT, hD, hf, hl, hhd, hTab, k⟩ := h
    have r3 : Room 3 (A.deeper (PyProof.Rows.envOfC "_law_dc_refused" (defScope sDcRef) s.heap.objs.size f (.ref c0))) := hr.mono (by decide)
    have r4 : Room 4 (A.deeper (PyProof.Rows.envOfC "_law_dc_refused" (defScope sDcRef) s.heap.objs.size f (.ref c0))) := hr.mono (by decide)
    suffices hz : ∃ t, PSs (cxOf CX0 P w K mg base nRef "_law_dc_refused" (defScope sDcRef) f (.ref c0) A outer s H E).nox (defBody sDcRef) t ∧ t { nx := fun _ H' => Q .non H', rt := Q } (L2.start nRef [.ref d, .ref p]) H by
      obtain ⟨t, h, q⟩ := hz
      exact ⟨t, h.nox, q⟩
    refine ⟨_, pss_cons (ps_set (i := 2) scRf.nd rfl (Or.inr rfl) (pe_call GP r3 rfl mP kP bP .nil pass0 (pa_cons (pv 0) (pa_cons (c_list (n := 4) (ds := rcA) (c_cons c_non (c_cons c_int (c_cons (c_tup (c_cons c_str c_nil)) (c_cons c_bl (c_cons (c_lst (m := 4) (c_cons c_str c_nil)) c_nil)))))) pa_nil))))
      (pss_cons (ps_set (i := 3) scRf.nd rfl (Or.inl rfl) (c_list (n := 4) (ds := rvA) (c_cons c_bl (c_cons (c_lst (m := 4) c_nil) (c_cons c_dct (c_cons (c_tup (c_cons c_int (c_cons (c_lst (m := 4) (c_cons c_int c_nil)) c_nil))) (c_cons (c_tup (c_cons c_str (c_cons c_bl c_nil)))
          (c_cons (c_tup (c_cons c_non (c_cons (c_tup (c_cons c_bl c_nil)) c_nil))) (c_cons c_pow (c_cons (c_tup (c_cons c_int (c_cons (c_tup (c_cons c_powN c_nil)) c_nil))) c_nil))))))))))
      (pss_cons (ps_set (i := 4) scRf.nd rfl (Or.inr rfl) (pe_call GP r3 rfl mP kP bP .nil pass0 (pa_cons (pv 0) (pa_cons (pv 3) pa_nil))))
      (pss_cons (ps_if (pt_not (pt_val (pe_callB call_isV (by rfl) ms (by decide +kernel)
            (pa_cons (pe_lamcall (T := L) (TT := TTc K PE0) (a := "work") (Ng := ["work", "caught", "error"]) rfl mC kC lC hC bC scCa rfl (Or.inl rfl) (caught_gives mPE) TB rfl hL1 hL2 hr (lamS_by (by show lamSB (defScope sDcRef) _ = true; decide +kernel)) rfl (fun _ _ _ _ _ => rfl)
                (fun A outer s H E f c' hr2 => pe_meth (pv 1) D.cl meW GW hr2 bW .nil (passes_call (takes_of rfl rfl rfl rfl) (fun _ _ _ _ h => h)) (pa_cons (pv 2) (pa_cons (pv 4) pa_nil))))
              (pa_cons (pe_glob (v := .ref e.cell) rfl eC.er.g rfl) pa_nil))))) (pss_one (ps_ret pe_bl)) pss_nil)
      (pss_cons (ps_if (pt_not (pt_val (pe_callB call_isV (by rfl) ms (by decide +kernel)
            (pa_cons (pe_lamcall (T := L) (TT := TTc K PE0) (a := "work") (Ng := ["work", "caught", "error"]) rfl mC kC lC hC bC scCa rfl (Or.inl rfl) (caught_gives mPE) TB rfl hL1 hL2 hr (lamS_by (by show lamSB (defScope sDcRef) _ = true; decide +kernel)) rfl (fun _ _ _ _ _ => rfl)
                (fun A outer s H E f c' hr2 => pe_meth (pv 1) D.cl meW GW hr2 bW .nil (passes_call (takes_of rfl rfl rfl rfl) (fun _ _ _ _ h => h)) (pa_cons pe_str (pa_cons (pv 4) pa_nil))))
              (pa_cons (pe_glob (v := .ref e.content) rfl eV.er.g rfl) pa_nil))))) (pss_one (ps_ret pe_bl)) pss_nil)
      (pss_one (ps_ret (pe_callB call_isV (by rfl) ms (by decide +kernel)
            (pa_cons (pe_lamcall (T := L) (TT := TTc K PE0) (a := "work") (Ng := ["work", "caught", "error"]) rfl mC kC lC hC bC scCa rfl (Or.inl rfl) (caught_gives mPE) TB rfl hL1 hL2 r4 (lamS_by (by show lamSB (defScope sDcRef) _ = true; decide +kernel)) rfl (fun _ _ _ _ _ => rfl)
                (fun A outer s H E f c' hr2 => pe_meth (pv 1) D.cl meR GR hr2 bR .nil (passes_call (takes_of rfl rfl rfl rfl) (fun _ _ _ _ h => h)) (pa_cons (pv 2) pa_nil)))
              (pa_cons (pe_glob (v := .ref e.cell) rfl eC.er.g rfl) pa_nil))))))))), ?_⟩
    refine ⟨_, rfl, ?_⟩
    intro p1 xs1 H1 s1 n1 h1 r1
    refine pick_new (E := E0) S (by omega) s1 n1 h1 r1 (by decide) (by decide) fun cl H2 hc k2 S2 => ?_
    have k02 := (Kp.of (d := d) (g := g) s1).trans k2
    have D2 := DkAt.kp S k02 hhd hD
    have t2 := Tabs.kp S k02 hTab
    intro p3 xs3 H3 s3 n3 h3 r3
    refine ⟨_, rfl, _, rfl, ?_⟩
    refine pick_new (E := E0) S2 (by omega) s3 n3 h3 r3 (by decide) (by decide) fun va H4 hv k4 S4 => ?_
    have k24 := (Kp.of (d := d) (g := g) s3).trans k4
    have D4 := DkAt.kp S2 k24 hhd D2
    have t4 := Tabs.kp S2 k24 t2
    have hc4 : oneD 4 rcA (Nd d g) H4 cl := (oneD.mon 4 rcA).kp k24 hc
    obtain ⟨d1, hd1, c1⟩ := hc4
    obtain ⟨d2, hd2, c2⟩ := hv
    have sz2 := (rvA_ok d2 hd2)
    have no1 := rcA_ok d1 hd1
    have ext1 : ∀ {Ha Hb : Hp}, DkAt C Ha p h fz kvs → ExtN Ha Hb → DkAt C Hb p h fz kvs := fun {Ha Hb} ⟨⟨dx, q1⟩, q2⟩ ka => ⟨⟨dx, ka _ _ q1 fun ps z => by cases z⟩, ka _ _ q2 fun ps z => by cases z⟩
    have c1' : ∀ {Hz : Hp}, ExtN H4 Hz → CV 4 Hz cl d1 := fun ka => CV.ext ka 4 c1.cv
    have c2' : ∀ {Hz : Hp}, ExtN H4 Hz → CV 4 Hz va d2 := fun ka => CV.ext ka 4 c2.cv
    -- write, a wrong cell
    refine ⟨t4, fun Ha ka ta E1 Q1 hE _ => ?_⟩
    have Da := ext1 D4 ka
    have Sa := S4.ext ka
    obtain ⟨dx, ob⟩ := id Da.ob
    refine ⟨_, rfl, p, dx, _, rfl, ob, flds_no _ _ (by decide +kernel) (by decide +kernel), _, rfl, _, rfl, p, h, fz, kvs, cl, va, 4, d1, 4, d2, rfl, Da, hf, hl, c1' ka, c2' ka, sz2.2, fun _ => ?_, fun z e1 => cv_nstr (c1' ka) no1 e1, fun z e1 => cv_nstr (c1' ka) no1 e1, fun z e1 => cv_nstr (c1' ka) no1 e1⟩
    refine hE _ _ _ ⟨true, eC.exm, fun _ a na => ⟨a, e.cell, e.cell, true, rfl, upd_same, eC.xc, eC.kit, _, rfl, iteF ?_⟩, fun z => nomatch z⟩
    have s5 := same_upd (o := ExV (.ref e.cell) none a) na
    have x5 := ext_trans ka (ext_same s5)
    have D5 := ext1 D4 x5
    have t5 := Tabs.sm s5 ta
    generalize upd Ha a (ExV (.ref e.cell) none a) = H5 at s5 x5 D5 t5 ⊢
    -- write, a wrong value
    refine ⟨t5, fun Hb kb tb E2 Q2 hE2 _ => ?_⟩
    have x6 := ext_trans x5 kb
    have Db := ext1 D5 kb
    obtain ⟨dx, ob⟩ := id Db.ob
    refine ⟨_, rfl, p, dx, _, rfl, ob, flds_no _ _ (by decide +kernel) (by decide +kernel), _, rfl, p, h, fz, kvs, .str "book", va, 1, .str "book", 4, d2, rfl, Db, hf, hl, .inr (.inr (.inr (.inl ⟨_, rfl, rfl⟩))), c2' x6, sz2.2, fun z => ?_, fun z e1 e2 Hc sc => ?_, fun z e1 e2 => ?_, fun z e1 e2 => ?_⟩
    · simp [isD] at z
    rotate_left
    · rw [sz2.1] at e2; cases e2
    · rw [sz2.1] at e2; cases e2
    refine hE2 _ _ _ ⟨true, eV.exm, fun _ a2 na2 => ⟨a2, e.content, e.content, true, rfl, upd_same, eV.xc, eV.kit, _, rfl, iteF ?_⟩, fun z => nomatch z⟩
    have s7 := sc.trans (same_upd (o := ExV (.ref e.content) none a2) na2)
    have x7 := ext_trans x6 (ext_same s7)
    have D7 := ext1 D4 x7
    have t7 := Tabs.sm s7 tb
    generalize upd Hc a2 (ExV (.ref e.content) none a2) = H7 at s7 x7 D7 t7 ⊢
    -- read, a wrong cell
    refine ⟨t7, fun Hd kd td E3 Q3 hE3 _ => ?_⟩
    have x8 := ext_trans x7 kd
    have Dd := ext1 D7 kd
    obtain ⟨dx, ob⟩ := id Dd.ob
    refine ⟨_, rfl, p, dx, _, rfl, ob, flds_no _ _ (by decide +kernel) (by decide +kernel), _, rfl, p, h, fz, kvs, cl, 4, d1, rfl, Dd, c1' x8, fun z e1 => cv_nstr (c1' x8) no1 e1, fun _ => ?_⟩
    refine hE3 _ _ _ ⟨true, eC.exm, fun _ a3 na3 => ⟨a3, e.cell, e.cell, true, rfl, upd_same, eC.xc, eC.kit, ?_⟩, fun z => nomatch z⟩
    have s9 := same_upd (o := ExV (.ref e.cell) none a3) na3
    have x9 := ext_trans x8 (ext_same s9)
    have kk := (KpN.kp ((Kp.of (d := d) (g := g) s1).trans k2)).trans ((KpN.kp k24).trans (KpN.ext x9))
    exact k _ kk (Tabs.sm s9 td) ((S4.ext x9).mono (by omega))
end
end Pu

namespace Pu
open PySem PySem.Spec PyProof.Rows L2 LamX
abbrev sDcUn : Stmt := top 26
/-! ### dicts that are written out -/
def dkR (n : Nat) (kds : List (Key × PyData)) : RV := fun N H v => ∃ a kvs, v = .ref a ∧ N a ∧ H a = some (.dK kvs) ∧ Paired (fun kv kd => kv.1 = kd.1 ∧ CD n kd.2 (fun b => N b ∧ b ≠ a) H kv.2) kvs kds
theorem dkR.mon (n : Nat) (kds : List (Key × PyData)) : Mon (dkR n kds) := fun N N' H H' v k ⟨a, kvs, e, na, ha, p⟩ =>
  ⟨a, kvs, e, (k a _ na ha).1, (k a _ na ha).2, paired_imp (fun x y z => ⟨z.1, CD.mon n y.2 _ _ _ _ _ (fun b o m q => ⟨⟨(k b o m.1 q).1, m.2⟩, (k b o m.1 q).2⟩) z.2⟩) p⟩
def okK (kds : List (Key × PyData)) : Bool := kds.all fun kd => keyS kd.1 && stB kd.2
def smK (kds : List (Key × PyData)) : Prop := kds.length ≤ 100 ∧ ∀ kd ∈ kds, szB kd.2 ≤ 1000
theorem cellL_kds {R : Key × V → Key × PyData → Prop} (h : ∀ x y, R x y → x.1 = y.1) : ∀ {kvs : List (Key × V)} {kds : List (Key × PyData)}, Paired R kvs kds → (cellL kvs (kds.map (·.2))).all id = okK kds
  | _, _, .nil => rfl
  | _ :: _, _ :: _, .cons r t => by
    have ih := cellL_kds h t
    simp only [List.map_cons, cellL, List.all_cons, okK, id, h _ _ r]
    simp only [okK] at ih
    rw [ih]
theorem paired_snd {R : Key × V → Key × PyData → Prop} {S : Key × V → PyData → Prop} : ∀ {kvs : List (Key × V)} {kds : List (Key × PyData)}, Paired R kvs kds → (∀ x y, y ∈ kds → R x y → S x y.2) → Paired S kvs (kds.map (·.2))
  | _, _, .nil, _ => .nil
  | _, _, .cons r t, h => .cons (h _ _ List.mem_cons_self r) (paired_snd t fun x y m => h x y (List.mem_cons_of_mem _ m))
theorem dkR.cel {K : PySem.W.Frag} {P : Program} {w : World} {n : Nat} {kds : List (Key × PyData)} {N : Addr → Prop} {H : Hp} {v : V} (hn : n ≤ 6) (sm : smK kds) (h : dkR n kds N H v) : CelV K P w H v (okK kds) := by
  obtain ⟨a, kvs, e, na, ha, p⟩ := h
  have up : ∀ {H : Hp} {v : V} {d : PyData}, CV n H v d → CV 6 H v d := by
    intro H v d z
    have go : ∀ k, CV (n + k) H v d := fun k => by
      induction k with
      | zero => exact z
      | succ k ih => exact CV.up ih
    have e := go (6 - n)
    rw [show n + (6 - n) = 6 by omega] at e
    exact e
  have pr : Paired (fun kv d => CV 6 (delH H a) kv.2 d ∧ szB d ≤ 1000) kvs (kds.map (·.2)) := paired_snd p fun x y hy z => ⟨up (CV.same (fun b o e => by
      obtain ⟨⟨m1, m2⟩, m3⟩ := rst_some.mp e
      rw [delH_ne m2]; exact m3) z.2), sm.2 y hy⟩
  have q := CelV.dk (K := K) (P := P) (w := w) a kvs (kds.map (·.2)) e ha pr (by rw [paired_len p]; exact sm.1)
  rw [cellL_kds (fun x y z => z.1) p] at q
  exact q
theorem sm_of {kds : List (Key × PyData)} (h : (decide (kds.length ≤ 100) && kds.all fun kd => decide (szB kd.2 ≤ 1000)) = true) : smK kds := by
  rw [Bool.and_eq_true] at h
  exact ⟨of_decide_eq_true h.1, fun kd hk => of_decide_eq_true (List.all_eq_true.mp h.2 kd hk)⟩
def wcR (P : Program) (w : World) : RV := fun N H v => v = .non ∨ (∃ z, v = .str z) ∨ (∃ a xs, v = .ref a ∧ N a ∧ H a = some (.lst xs)) ∨ (∃ a xs, v = .ref a ∧ N a ∧ H a = some (.tup xs)) ∨
  (∃ kds, okK kds = false ∧ smK kds ∧ dkR 4 kds N H v) ∨ ∃ d o, v = .ref d ∧ N d ∧ H d = some (NoD d o) ∧ NoDo P w d o
theorem wcR.mon (P : Program) (w : World) : Mon (wcR P w) := fun N N' H H' v k h => by
  rcases h with h | h | ⟨a, xs, e, n, h⟩ | ⟨a, xs, e, n, h⟩ | ⟨kds, h1, h2, h⟩ | ⟨d, o, e, n, h, o1⟩
  · exact .inl h
  · exact .inr (.inl h)
  · exact .inr (.inr (.inl ⟨a, xs, e, (k a _ n h).1, (k a _ n h).2⟩))
  · exact .inr (.inr (.inr (.inl ⟨a, xs, e, (k a _ n h).1, (k a _ n h).2⟩)))
  · exact .inr (.inr (.inr (.inr (.inl ⟨kds, h1, h2, dkR.mon 4 kds _ _ _ _ _ k h⟩))))
  · exact .inr (.inr (.inr (.inr (.inr ⟨d, o, e, (k d _ n h).1, (k d _ n h).2, o1⟩))))
theorem wcR.cel {K : PySem.W.Frag} {P : Program} {w : World} {N : Addr → Prop} {H : Hp} {v : V} (h : wcR P w N H v) : CelV K P w H v false := by
  rcases h with h | ⟨z, h⟩ | ⟨a, xs, e, n, h⟩ | ⟨a, xs, e, n, h⟩ | ⟨kds, h1, h2, h⟩ | ⟨d, o, e, n, h, o1⟩
  · subst h; exact .no _ (.base .non) (by decide +kernel)
  · subst h; exact .no _ (.base (.str z)) (by decide +kernel)
  · subst e; exact .no _ (.base (.lst h)) (by decide +kernel)
  · subst e; exact .no _ (.base (.tup h)) (by decide +kernel)
  · rw [← h1]; exact dkR.cel (by decide) h2 h
  · exact .nod d o e h o1
section
variable {X : Cx}
theorem w_d1 {ke ve : Expr} {k : Key} {d : PyData} {n : Nat} {pos : Pos} (hk : PE X ke (tC (kV k))) (hv : PE X ve (TN (CD n d))) : PE X (.Dict [some ke] [ve] pos) (TN (dkR n [(k, d)])) :=
  pe_imp (pe_disp (pps_cons hk hv pps_nil) (by rfl) (by rfl) (fun z => by cases z) (Nat.le_of_ble_eq_true rfl)) fun σ H Q q p hp => by
    intro v H1 s1 r1
    have s0 := same_upd (o := .dK []) hp
    have hp1 : H1 p = some (.dK []) := s1 _ _ upd_same
    refine ⟨hp1, [(k, v)], rfl, by show 1 ≤ 15; decide, q _ _ (fun b o e => ?_) ⟨p, [(k, v)], rfl, hp, by rw [upd_same]; rfl, .cons ⟨rfl, CD.mon n d _ _ _ _ _ (fun a o m e => ?_) r1⟩ .nil⟩⟩
    · have nb : b ≠ p := ne_of_none e hp
      rw [upd_ne nb]; exact s1 _ _ (s0 _ _ e)
    · have nb : a ≠ p := fun z => by rw [z, upd_same] at m; cases m
      rw [upd_ne nb] at m
      exact ⟨⟨m, nb⟩, by rw [upd_ne nb]; exact e⟩
theorem w_d2 {ke ve ke2 ve2 : Expr} {k k2 : Key} {d d2 : PyData} {n : Nat} {pos : Pos} (hk : PE X ke (tC (kV k))) (hv : PE X ve (TN (CD n d))) (hk2 : PE X ke2 (tC (kV k2))) (hv2 : PE X ve2 (TN (CD n d2))) (hne : mergeK [] [(k, V.non), (k2, V.non)] = [(k, V.non), (k2, V.non)]) (hn2 : ∀ x y : V, mergeK [] [(k, x), (k2, y)] = [(k, x), (k2, y)]) : PE X (.Dict [some ke, some ke2] [ve, ve2] pos) (TN (dkR n [(k, d), (k2, d2)])) :=
  pe_imp (pe_disp (pps_cons hk hv (pps_cons hk2 hv2 pps_nil)) (by rfl) (by rfl) (fun z => by cases z) (Nat.le_of_ble_eq_true rfl)) fun σ H Q q p hp => by
    intro v H1 s1 r1 v2 H2 s2 r2
    have s0 := same_upd (o := .dK []) hp
    have hp1 : H2 p = some (.dK []) := s2 _ _ (s1 _ _ upd_same)
    refine ⟨hp1, [(k, v), (k2, v2)], rfl, by show 2 ≤ 15; decide, q _ _ (fun b o e => ?_) ⟨p, [(k, v), (k2, v2)], rfl, hp, by rw [upd_same, hn2], .cons ⟨rfl, CD.mon n d _ _ _ _ _ (fun a o m e => ?_) r1⟩ (.cons ⟨rfl, CD.mon n d2 _ _ _ _ _ (fun a o m e => ?_) r2⟩ .nil)⟩⟩
    · have nb : b ≠ p := ne_of_none e hp
      rw [upd_ne nb]; exact s2 _ _ (s1 _ _ (s0 _ _ e))
    · have nb : a ≠ p := fun z => by rw [z, upd_same] at m; cases m
      rw [upd_ne nb] at m
      exact ⟨⟨m, nb⟩, by rw [upd_ne nb]; exact s2 _ _ e⟩
    · have m := s1.free m
      have nb : a ≠ p := fun z => by rw [z, upd_same] at m; cases m
      rw [upd_ne nb] at m
      exact ⟨⟨m, nb⟩, by rw [upd_ne nb]; exact e⟩
theorem w_bad {e : Expr} {kds : List (Key × PyData)} (h : PE X e (TN (dkR 4 kds))) (h1 : okK kds = false := by decide +kernel) (h2 : (decide (kds.length ≤ 100) && kds.all fun kd => decide (szB kd.2 ≤ 1000)) = true := by decide +kernel) : PE X e (TN (wcR X.prog X.w)) :=
  n_w h fun N H v q => .inr (.inr (.inr (.inr (.inl ⟨kds, h1, sm_of h2, q⟩))))
theorem w_nod {j1 j2 : Nat} {p1 p2 pos : Pos} : PE X (.Dict [some (.Constant .none j1 p1)] [.Constant (.int 1) j2 p2] pos) (TN (wcR X.prog X.w)) :=
  pe_imp pe_nod fun _ H Q q p o hp N => q _ _ (same_upd hp) (.inr (.inr (.inr (.inr (.inr ⟨p, o, rfl, hp, upd_same, N⟩)))))
theorem w_non {j : Nat} {pos : Pos} : PE X (.Constant .none j pos) (TN (wcR X.prog X.w)) := pe_imp pe_non fun _ H _ q => q _ H (Same.refl H) (.inl rfl)
theorem w_str {x : Str} {j : Nat} {pos : Pos} : PE X (.Constant (.str x) j pos) (TN (wcR X.prog X.w)) := pe_imp pe_str fun _ H _ q => q _ H (Same.refl H) (.inr (.inl ⟨x, rfl⟩))
theorem w_nil {pos : Pos} : PE X (.List [] pos) (TN (wcR X.prog X.w)) := pe_imp (c_list (n := 0) (ds := []) c_nil) fun _ H Q q p xs H' s hn hp _ => q _ H' s (.inr (.inr (.inl ⟨p, xs, rfl, hn, hp⟩)))
theorem w_unit {x1 : Nat} {pos : Pos} : PE X (.Tuple [] x1 pos) (TN (wcR X.prog X.w)) := pe_imp (pe_tup pa_nil) fun _ H Q q => ⟨by show 0 ≤ sizeLine; decide, fun p hp => q _ _ (same_upd hp) (.inr (.inr (.inr (.inl ⟨p, [], rfl, hp, upd_same⟩))))⟩
end
end Pu

namespace Pu
open PySem PySem.Spec PyProof.Rows L2 LamX
def qUn : Str := (PyProof.Rows.envOfC "_law_dc_unmade" (defScope sDcUn) 0 0 .none).qual ++ "<lambda>"
def spDcUn (L : List (Addr × Str)) : Sp := fun vs H Q _ => ∃ (d g c : Addr) (T : Int), vs = [.ref d] ∧ StA H d g c T ∧ T + 10 < TB ∧ Tabs L H ∧
  ∀ (H' : Hp), KpN d g H H' → Tabs L H' → StA H' d g c (T + 2) → Q (.bl true) H'
def ruA : List PyData := [.int (-1), .bool true, .str "1", .tuple [.int 1], .dict [], .int 1000000000000000000]
theorem ruA_ok : ∀ d ∈ ruA, fuB d = false := by decide +kernel
theorem kd_ok : okK [((.inr "a" : Key), PyData.tuple [.str "name", .int 7])] = true := by decide +kernel
theorem put2 {a b : Str} (h : ¬ a = b) (x y : V) : mergeK [] [((.inr a : Key), x), (.inr b, y)] = [((.inr a : Key), x), (.inr b, y)] := by
  show putK [((.inr a : Key), x)] (.inr b) y = _
  rw [put_snoc (fun m => by
    have e := List.mem_singleton.mp m
    exact h (Sum.inr.inj e).symm)]
  all_goals rfl
theorem noD_ne {d : Addr} {o : Obj} {ps : Array Value} : NoD d o ≠ HO.tbl ps := fun z => by unfold NoD at z; cases z
theorem wcR_ext {P : Program} {w : World} {N : Addr → Prop} {H H' : Hp} {v : V} (k : ExtN H H') (h : wcR P w N H v) : wcR P w N H' v := by
  rcases h with h | h | ⟨a, xs, e, n, h⟩ | ⟨a, xs, e, n, h⟩ | ⟨kds, h1, h2, a, kvs, e, na, ha, p⟩ | ⟨d, o, e, n, h, o1⟩
  · exact .inl h
  · exact .inr (.inl h)
  · exact .inr (.inr (.inl ⟨a, xs, e, n, k _ _ h fun ps z => by cases z⟩))
  · exact .inr (.inr (.inr (.inl ⟨a, xs, e, n, k _ _ h fun ps z => by cases z⟩)))
  · refine .inr (.inr (.inr (.inr (.inl ⟨kds, h1, h2, a, kvs, e, na, k _ _ ha (fun ps z => by cases z), paired_imp (fun x y z => ⟨z.1, ?_⟩) p⟩))))
    refine CV.ext (H := rst (fun b => N b ∧ b ≠ a) H) (fun b o q n => ?_) 4 z.2
    obtain ⟨q1, q2⟩ := rst_some.mp q
    exact rst_some.mpr ⟨q1, k _ _ q2 n⟩
  · exact .inr (.inr (.inr (.inr (.inr ⟨d, o, e, n, k _ _ h fun ps z => noD_ne z, o1⟩))))
section
variable {P : Program} {w : World} {K : PySem.W.Frag} {mg : Str → Option Value} {base : Heap}
abbrev nUn : List Str := ["state", "some", "cells", "fuse"]
theorem scUn : FnScope nUn ["state"] (defScope sDcUn) := ⟨rfl, rfl, rfl, by decide +kernel, rfl, by decide +kernel, by decide +kernel⟩
theorem ok_dcun {f fP C PE0 c0 Pt : Addr} {e : Ec} {fdP : FuncData} {od an : Option Addr} {oc dV kV doc pm ct : Value} {osl : Array (Option Value)} {L : List (Addr × Str)} (hL1 : (Pt, qUn) ∈ L) (hL2 : ∀ p ∈ L, p.1 = Pt → p.2 = qUn)
    (lk : K.lookup f = some ⟨oc, od, .func (PySem.W.fnOf "_law_dc_unmade" "_law_dc_unmade" (defArgs sDcUn) (defBody sDcUn) (defScope sDcUn) dV kV doc pm an (.ref c0) ct), osl⟩) (hcd : PySem.W.codeIn K (.ref c0) "_law_dc_unmade" = true) (TB : TabB base mg c0 Pt)
    (D : DkC P w K mg base C e) (Cg : Cgt K mg PE0) (ms : mg "isinstance" = none) (eC : ErX K mg PE0 "BadCells" e.cells) (eF : ErX K mg PE0 "BadFuse" e.fuse)
    (GP : FnOk P w K mg base CX0 3 fP fdP ["state", "several"] (spPick K)) (bP : Binds K fdP ["state", "several"] []) (kP : PySem.W.keepIn K (.ref fP) = true) (mP : mg "_law_pick" = some (.ref fP)) :
    FnOk P w K mg base CX0 8 f (PySem.W.fnOf "_law_dc_unmade" "_law_dc_unmade" (defArgs sDcUn) (defBody sDcUn) (defScope sDcUn) dV kV doc pm an (.ref c0) ct) ["state"] (spDcUn L) := by
  obtain ⟨mPE, fC, odC, anC, ocC, dVC, kVC, docC, pmC, cdC, ctC, oslC, lC, hC, bC, kC, mC⟩ := Cg
  obtain ⟨fi, fdi, GI, MI, bI, _⟩ := D.mak
  refine fn_of lk hcd scUn (fun vs H Q E h => ?_) (fun A outer s H vs Q E hr h => ?_)
  · obtain ⟨d, g, c, T, rfl, _⟩ := h
    rfl
  · obtain ⟨d, g, c, T, rfl, S, hT, hTab, k⟩ := h
    have r3 : Room 3 (A.deeper (PyProof.Rows.envOfC "_law_dc_unmade" (defScope sDcUn) s.heap.objs.size f (.ref c0))) := hr.mono (by decide)
    suffices hz : ∃ t, PSs (cxOf CX0 P w K mg base nUn "_law_dc_unmade" (defScope sDcUn) f (.ref c0) A outer s H E).nox (defBody sDcUn) t ∧ t { nx := fun _ H' => Q .non H', rt := Q } (L2.start nUn [.ref d]) H by
      obtain ⟨t, h, q⟩ := hz
      exact ⟨t, h.nox, q⟩
    have mo := wcR.mon P w
    refine ⟨_, pss_cons (ps_set (i := 1) scUn.nd rfl (Or.inl rfl) (n_lstR (R := wcR P w) (k := 9) mo (na_cons mo w_non (na_cons mo w_nil (na_cons mo w_unit (na_cons mo (w_bad (w_d1 (k := .inl 2) pe_int c_str)) (na_cons mo (w_bad (w_d1 (k := .inr "a") pe_str c_bl))
          (na_cons mo (w_bad (w_d1 (k := .inr "a") pe_str (c_lst (m := 4) (c_cons c_int c_nil)))) (na_cons mo w_nod (na_cons mo (w_bad (w_d2 (k := .inr "a") (k2 := .inr "b") pe_str c_int pe_str c_dct (put2 (by decide +kernel) _ _) (put2 (by decide +kernel)))) (na_cons mo w_str na_nil))))))))) (by decide)))
      (pss_cons (ps_set (i := 2) scUn.nd rfl (Or.inr rfl) (pe_call GP r3 rfl mP kP bP .nil pass0 (pa_cons (pv 0) (pa_cons (pe_op op_cat (pv 1) (n_lstR (R := wcR P w) (k := 1) mo (na_cons mo (w_bad (w_d1 (k := .inr "a") pe_str c_pow)) na_nil) (by decide))) pa_nil))))
      (pss_cons (ps_set (i := 3) scUn.nd rfl (Or.inr rfl) (pe_call GP r3 rfl mP kP bP .nil pass0 (pa_cons (pv 0) (pa_cons (c_list (n := 4) (ds := ruA) (c_cons c_neg (c_cons c_bl (c_cons c_str (c_cons (c_tup (c_cons c_int c_nil)) (c_cons (c_lst (m := 4) (c_cons c_int c_nil)) (c_cons c_pow c_nil))))))) pa_nil))))
      (pss_cons (ps_if (pt_not (pt_val (pe_callB call_isV (by rfl) ms (by decide +kernel)
            (pa_cons (pe_lamcall (T := L) (TT := TTc K PE0) (a := "work") (Ng := ["work", "caught", "error"]) rfl mC kC lC hC bC scCa rfl (Or.inl rfl) (caught_gives mPE) TB rfl hL1 hL2 hr (lamS_by (by show lamSB (defScope sDcUn) _ = true; decide +kernel)) rfl (fun _ _ _ _ _ => rfl)
                (fun A outer s H E f c' hr2 => pe_make MI GI hr2 rfl D.nm bI .nil (passes_call (takes_of rfl rfl rfl rfl) (fun _ _ _ _ h => h)) (pa_cons (pv 2) (pa_cons (pv 3) pa_nil))))
              (pa_cons (pe_glob (v := .ref e.cells) rfl eC.er.g rfl) pa_nil))))) (pss_one (ps_ret pe_bl)) pss_nil)
      (pss_one (ps_ret (pe_callB call_isV (by rfl) ms (by decide +kernel)
            (pa_cons (pe_lamcall (T := L) (TT := TTc K PE0) (a := "work") (Ng := ["work", "caught", "error"]) rfl mC kC lC hC bC scCa rfl (Or.inl rfl) (caught_gives mPE) TB rfl hL1 hL2 hr (lamS_by (by show lamSB (defScope sDcUn) _ = true; decide +kernel)) rfl (fun _ _ _ _ _ => rfl)
                (fun A outer s H E f c' hr2 => pe_make MI GI hr2 rfl D.nm bI .nil (passes_call (takes_of rfl rfl rfl rfl) (fun _ _ _ _ h => h)) (pa_cons (w_d1 (k := .inr "a") (d := .tuple [.str "name", .int 7]) (n := 4) pe_str (c_tup (c_cons c_str (c_cons c_int c_nil)))) (pa_cons (pv 3) pa_nil))))
              (pa_cons (pe_glob (v := .ref e.fuse) rfl eF.er.g rfl) pa_nil)))))))), ?_⟩
    intro v1 H1 s1 w1
    obtain ⟨p1, xs1, rfl, n1, h1, l1, q1⟩ := w1
    refine ⟨_, rfl, _, rfl, ?_⟩
    intro v2 H2 s2 w2
    obtain ⟨p2, xs2, rfl, n2, h2, l2, q2⟩ := w2
    refine ⟨p1, p2, xs1, xs2, rfl, rfl, s2 _ _ h1, h2, by rw [l1, l2]; show 10 ≤ sizeLine; decide, fun p hp => ?_⟩
    have s3 := s1.trans s2
    have sp := same_upd (o := .lst (xs1 ++ xs2)) hp
    have s4 := s3.trans sp
    have nn : ∀ a, H a = none → Nd d g a := S.nd
    refine ⟨d, g, c, p, T, _, rfl, S.same s4, by omega, .inl (SqL.of upd_same), (nn p (s3.free hp)).1, (nn p (s3.free hp)).2, fun z => ?_, by rw [List.length_append, l1, l2]; show 10 ≤ 100000; decide, fun x H3 hx k3 S3 => ?_⟩
    · have z2 := congrArg List.length z
      rw [List.length_append, l1, l2] at z2
      cases z2
    have wx : wcR P w (Nd d g) H3 x := by
      rcases List.mem_append.mp hx with hx | hx
      · exact mo _ _ _ _ _ (fun a o m e => ⟨nn a m, k3 a o (sp a o (s2 a o e)) (nn a m).1 (nn a m).2⟩) (q1 x hx)
      · exact mo _ _ _ _ _ (fun a o m e => ⟨nn a (s1.free m), k3 a o (sp a o e) (nn a (s1.free m)).1 (nn a (s1.free m)).2⟩) (q2 x hx)
    have k03 := (Kp.of (d := d) (g := g) s4).trans k3
    have t3 := Tabs.kp S k03 hTab
    refine ⟨_, rfl, ?_⟩
    intro p4 xs4 H4 s4' n4 h4 r4
    refine pick_new (E := E0) S3 (by omega) s4' n4 h4 r4 (by decide) (by decide) fun fu H5 hf k5 S5 => ?_
    have k35 := (Kp.of (d := d) (g := g) s4').trans k5
    have t5 := Tabs.kp S3 k35 t3
    have wx5 : wcR P w (Nd d g) H5 x := mo.kp k35 wx
    obtain ⟨df, hdf, cf⟩ := hf
    have fno := ruA_ok df hdf
    -- no cells
    refine ⟨t5, fun Ha ka ta E1 Q1 hE _ => ?_⟩
    have wa : wcR P w (Nd d g) Ha x := wcR_ext ka wx5
    have fa : CV 4 Ha fu df := CV.ext ka 4 cf.cv
    refine ⟨_, rfl, _, rfl, ?_⟩
    intro xn dx hx hdx ne
    have sM : Same Ha (upd (upd Ha dx (.own xn)) xn (.ins C dx [])) := (same_upd hdx).trans (same_upd (by rw [upd_ne (Ne.symm ne)]; exact hx))
    refine ⟨xn, dx, x, fu, rfl, upd_same, .inl ⟨(mo.same sM wa).cel, fun H6 s6 => ?_⟩⟩
    refine hE _ _ _ ⟨true, eC.exm, fun _ a na => ⟨a, e.cells, e.cells, true, rfl, upd_same, eC.xc, eC.kit, _, rfl, iteF ?_⟩, fun z => nomatch z⟩
    have s7 := (sM.trans s6).trans (same_upd (o := ExV (.ref e.cells) none a) na)
    have x7 := ext_trans ka (ext_same s7)
    have t7 := Tabs.sm s7 ta
    generalize upd H6 a (ExV (.ref e.cells) none a) = H7 at s7 x7 t7 ⊢
    clear sM s6 wa
    -- no fuse
    refine ⟨t7, fun Hb kb tb E2 Q2 hE2 _ => ?_⟩
    have x8 := ext_trans x7 kb
    intro v8 H8 s8 w8
    have fb : CV 4 H8 fu df := CV.same s8 (CV.ext x8 4 cf.cv)
    refine ⟨_, rfl, ?_⟩
    intro xn2 dx2 hx2 hdx2 ne2
    have sM2 : Same H8 (upd (upd H8 dx2 (.own xn2)) xn2 (.ins C dx2 [])) := (same_upd hdx2).trans (same_upd (by rw [upd_ne (Ne.symm ne2)]; exact hx2))
    have ce : CelV K P w (upd (upd H8 dx2 (.own xn2)) xn2 (.ins C dx2 [])) v8 true := by
      rw [← kd_ok]
      exact ((dkR.mon 4 _).same sM2 w8).cel (by decide) (sm_of (by decide +kernel))
    refine ⟨xn2, dx2, v8, fu, rfl, upd_same, .inr (.inl ⟨ce, 4, df, CV.same sM2 fb, fno, fun H9 s9 => ?_⟩)⟩
    refine hE2 _ _ _ ⟨true, eF.exm, fun _ a na => ⟨a, e.fuse, e.fuse, true, rfl, upd_same, eF.xc, eF.kit, ?_⟩, fun z => nomatch z⟩
    have s10 := ((s8.trans sM2).trans s9).trans (same_upd (o := ExV (.ref e.fuse) none a) na)
    have x10 := ext_trans x8 (ext_same s10)
    exact k _ ((KpN.kp k03).trans ((KpN.kp k35).trans (KpN.ext x10))) (Tabs.sm s10 tb) ((S5.ext x10).mono (by omega))
end
end Pu

namespace Pu
open PySem PySem.Spec PyProof.Rows L2 LamX
abbrev sDcHo : Stmt := top 27
/-! ### two dicts compared, the values being plain data -/
theorem hits_data {κ : Type} [DecidableEq κ] {X : Cx} {pins : List (Addr × Obj)} {σ : L2.St} {H : Hp} {s : Shared} (I : Inv X pins σ H s) (hu : X.A.in1.units + 64 < cLine) {kvs : List (κ × V)} {vb : List (κ × Value)} (hb : KV kvs vb) :
    ∀ {ks : List (κ × V)} {va : List (κ × Value)}, KV ks va → (∀ p ∈ ks, valV kvs p.1 = some p.2 ∧ ∃ d, Dp X.K H p.2 d ∧ SeqAt.shaped d = true ∧ PyData.eqv d d = true) → PySem.W.KeqHits X.A.in1 s vb va true
  | _, _, .nil, _ => .nil
  | _ :: _, _ :: _, .cons (a := p) (b := q) r t, h => by
    obtain ⟨k, u⟩ := q
    obtain ⟨e1, rv⟩ := r
    dsimp only at e1 rv
    obtain ⟨hv, d, hd, sh, ev⟩ := h p List.mem_cons_self
    have o := hb.val p.1
    rw [hv] at o
    obtain ⟨y, ey, ry⟩ := RelO.some_of o
    rw [e1] at ey
    obtain ⟨as, R1⟩ := Dp.reads I d p.2 u hd rv
    obtain ⟨bs, R2⟩ := Dp.reads I d p.2 y hd ry
    have eq := PySem.W.keq_at (A := X.A) R1 R2 sh sh hu
    rw [ev] at eq
    exact PySem.W.KeqHits.hit ey eq (hits_data I hu hb t fun p hp => h p (List.mem_cons_of_mem _ hp))
def rNeDG (K : PySem.W.Frag) : R2 := fun x y H Q => ∃ a b ks ls, x = .ref a ∧ y = .ref b ∧ H a = some (.dK ks) ∧ H b = some (.dK ls) ∧ ks.length = ls.length ∧
  (∀ p ∈ ks, valV ls p.1 = some p.2 ∧ ∃ d, Dp K H p.2 d ∧ SeqAt.shaped d = true ∧ PyData.eqv d d = true) ∧ Q (.bl false) H
theorem op_ne_dictG {X : Cx} (hu : X.A.units + 64 < cLine) (hu1 : X.A.in1.units + 64 < cLine) : OpR X (compareOp .NotEq) (rNeDG X.K) := by
  intro pn s σ H x y v u Q I rx ry h
  obtain ⟨a, b, ks, ls, rfl, rfl, ha, hb, hl, hv, q⟩ := h
  obtain rfl : v = Value.ref a := rx
  obtain rfl : u = Value.ref b := ry
  obtain ⟨la, sa, va, kva, da⟩ := I.hok a _ ha
  obtain ⟨lb, sb, vb, kvb, db⟩ := I.hok b _ hb
  refine PySem.W.keq_ne sa sb da db (by omega) (fun _ => hits_data I hu1 kvb kva hv) (fin_bl I q ?_)
  rw [← kva.length, ← kvb.length, hl]
  simp
/-! ### texts in their sequence -/
def nam4 : List Str := ["", "a", "book", "votes"]
def rk (z : Str) : Nat := nam4.findIdx (· == z)
theorem rk_lt : ∀ x ∈ nam4, ∀ y ∈ nam4, x ≠ y → ltCps y.cps.toList x.cps.toList = false → rk x < rk y := by decide +kernel
theorem rise_pair : ∀ (x : Str) (ys : List Str), (∀ z ∈ x :: ys, z ∈ nam4) → (x :: ys).Nodup → risingS x ys = true → (x :: ys).Pairwise fun a b => rk a < rk b
  | x, [], _, _, _ => by simp
  | x, y :: r, hm, nd, h => by
    unfold risingS at h
    rw [Bool.and_eq_true] at h
    have nd2 := List.nodup_cons.mp nd
    have ih := rise_pair y r (fun z hz => hm z (List.mem_cons_of_mem _ hz)) nd2.2 h.2
    have xy : rk x < rk y := rk_lt x (hm x List.mem_cons_self) y (hm y (by simp)) (fun e => nd2.1 (by rw [e]; simp)) (by simpa using h.1)
    refine List.pairwise_cons.mpr ⟨fun z hz => ?_, ih⟩
    rcases List.mem_cons.mp hz with rfl | hz
    · exact xy
    · exact Nat.lt_trans xy ((List.pairwise_cons.mp ih).1 z hz)
theorem sorted_one {xs ys : List Str} (hm : ∀ z ∈ xs, z ∈ nam4) (nd : xs.Nodup) (p : xs.Perm ys) (h1 : sortedS xs = true) (h2 : sortedS ys = true) : xs = ys := by
  have go : ∀ {l : List Str}, (∀ z ∈ l, z ∈ nam4) → l.Nodup → sortedS l = true → l.Pairwise fun a b => rk a < rk b := fun {l} a b c => by
    cases l with
    | nil => exact List.Pairwise.nil
    | cons x r => exact rise_pair x r a b (by unfold sortedS at c; exact c)
  exact List.Perm.eq_of_pairwise (fun a b _ _ x y => absurd (Nat.lt_trans x y) (Nat.lt_irrefl _)) (go hm nd h1) (go (fun z hz => hm z (p.mem_iff.mpr hz)) (p.nodup_iff.mp nd) h2) p
theorem nam4_ok : ∀ z ∈ nam4, PyData.strOk z = true := by decide +kernel
theorem strs_ok : ∀ {ys : List Str}, (∀ z ∈ ys, z ∈ nam4) → PyData.canLayAll0 (ys.map PyData.str) = true ∧ PyData.depthAll (ys.map PyData.str) = 0 ∧ PyData.eqvAll (ys.map PyData.str) (ys.map PyData.str) = true
  | [], _ => ⟨rfl, rfl, rfl⟩
  | x :: r, h => by
    obtain ⟨a, b, c⟩ := strs_ok (ys := r) fun z hz => h z (List.mem_cons_of_mem _ hz)
    have e := nam4_ok x (h x List.mem_cons_self)
    refine ⟨?_, ?_, ?_⟩
    · simp [PyData.canLayAll0, PyData.canLay0, a, e]
    · simp [PyData.depthAll, PyData.depth, b]
    · simp [PyData.eqvAll, PyData.eqv, c]
theorem dp_strs {K : PySem.W.Frag} {H : Hp} : ∀ ys : List Str, DpAll K H (ys.map V.str) (ys.map PyData.str)
  | [] => .nil
  | x :: r => .cons (.str x) (dp_strs r)
/-! ### what a disk must hold -/
structure Due (H : Hp) (kvs ls : List (Key × V)) : Prop where
  n1 : (kvs.map (·.1)).Nodup
  n2 : (ls.map (·.1)).Nodup
  at' : ∀ k, valV kvs k = valV ls k
  nm : ∀ kv ∈ kvs, ∃ z ∈ nam4, kv.1 = Sum.inr z
  ok : ∀ kv ∈ kvs, ∃ d, CV 4 H kv.2 d ∧ stB d = true ∧ szB d ≤ 50 ∧ SeqAt.shaped d = true ∧ PyData.eqv d d = true
theorem keys_of : ∀ {kvs : List (Key × V)}, (∀ kv ∈ kvs, ∃ z ∈ nam4, kv.1 = Sum.inr z) → ∃ ks : List Str, kvs.map (·.1) = ks.map Sum.inr ∧ ∀ z ∈ ks, z ∈ nam4
  | [], _ => ⟨[], rfl, fun _ h => nomatch h⟩
  | (k, v) :: r, h => by
    obtain ⟨ks, e, m⟩ := keys_of (kvs := r) fun kv hk => h kv (List.mem_cons_of_mem _ hk)
    obtain ⟨z, hz, ez⟩ := h (k, v) List.mem_cons_self
    exact ⟨z :: ks, by rw [List.map_cons, List.map_cons, e, ez], fun y hy => by
      rcases List.mem_cons.mp hy with rfl | hy
      · exact hz
      · exact m y hy⟩
theorem val_some_in {kvs : List (Key × V)} {k : Key} : (∃ v, valV kvs k = some v) ↔ k ∈ kvs.map (·.1) := by
  constructor
  · rintro ⟨v, e⟩
    exact valV_in e
  · intro h
    cases e : valV kvs k with
    | some v => exact ⟨v, rfl⟩
    | none => exact absurd h (valV_not e)
theorem Due.mem {H : Hp} {kvs ls : List (Key × V)} (D : Due H kvs ls) (k : Key) : k ∈ kvs.map (·.1) ↔ k ∈ ls.map (·.1) := by
  rw [← val_some_in, ← val_some_in, D.at' k]
theorem inr_nd {ks : List Str} : (ks.map (Sum.inr : Str → Key)).Nodup ↔ ks.Nodup := by
  constructor
  · intro h
    exact (List.pairwise_map.mp h).imp fun ne e => ne (congrArg Sum.inr e)
  · intro h
    exact List.Pairwise.map _ (fun a b ne e => ne (Sum.inr.inj e)) h
theorem Due.keys {H : Hp} {kvs ls : List (Key × V)} (D : Due H kvs ls) : ∃ ks k2 : List Str, kvs.map (·.1) = ks.map Sum.inr ∧ ls.map (·.1) = k2.map Sum.inr ∧ ks.Perm k2 ∧ ks.Nodup ∧ (∀ z ∈ ks, z ∈ nam4) ∧ ks.length ≤ 4 := by
  obtain ⟨ks, e1, m1⟩ := keys_of D.nm
  have nm2 : ∀ kv ∈ ls, ∃ z ∈ nam4, kv.1 = Sum.inr z := fun kv hk => by
    have q := (D.mem kv.1).mpr (List.mem_map_of_mem hk)
    obtain ⟨kv2, h2, e2⟩ := List.mem_map.mp q
    obtain ⟨z, hz, ez⟩ := D.nm kv2 h2
    exact ⟨z, hz, by rw [← e2]; exact ez⟩
  obtain ⟨k2, e2, m2⟩ := keys_of nm2
  have n1 : ks.Nodup := inr_nd.mp (by rw [← e1]; exact D.n1)
  have n2 : k2.Nodup := inr_nd.mp (by rw [← e2]; exact D.n2)
  have p : ks.Perm k2 := (List.perm_ext_iff_of_nodup n1 n2).mpr fun z => by
    have q := D.mem (Sum.inr z)
    rw [e1, e2] at q
    have i1 : ∀ l : List Str, (Sum.inr z : Key) ∈ l.map Sum.inr ↔ z ∈ l := fun l => ⟨fun h => by
      obtain ⟨y, hy, ey⟩ := List.mem_map.mp h
      rw [← Sum.inr.inj ey]; exact hy, fun h => List.mem_map_of_mem h⟩
    rw [i1, i1] at q
    exact q
  refine ⟨ks, k2, e1, e2, p, n1, m1, ?_⟩
  have f : ks.Perm (nam4.filter (· ∈ ks)) := (List.perm_ext_iff_of_nodup n1 (List.Nodup.sublist List.filter_sublist (by decide +kernel : nam4.Nodup))).mpr fun z => by
    rw [List.mem_filter]
    exact ⟨fun h => ⟨m1 z h, by simpa using h⟩, fun h => by simpa using h.2⟩
  rw [f.length_eq]
  exact Nat.le_trans (List.length_filter_le _ _) (by decide)
end Pu

namespace Pu
open PySem PySem.Spec PyProof.Rows L2 LamX
def spWhole2 : Sp := fun vs H Q _ => ∃ i : Int, vs = [.int i] ∧ Q (.bl true) H
def spDcHolds (C : Addr) : Sp := fun vs H Q _ => ∃ p h q f kvs ls, vs = [.ref p, .ref q, f] ∧ DkAt C H p h f kvs ∧ (f = .non ∨ ∃ i, f = .int i) ∧ H q = some (.dK ls) ∧ Due H kvs ls ∧ ∀ H', Same H H' → Q (.bl true) H'
theorem valV_pair : ∀ {kvs : List (Key × V)} {k : Key} {v : V}, valV kvs k = some v → (k, v) ∈ kvs
  | [], _, _, h => by cases h
  | (a, u) :: r, k, v, h => by
    by_cases e : a = k
    · subst e
      rw [valV_pos rfl] at h
      cases h
      exact List.mem_cons_self
    · rw [valV_neg e] at h
      exact List.mem_cons_of_mem _ (valV_pair h)
section
variable {P : Program} {w : World} {K : PySem.W.Frag} {mg : Str → Option Value} {base : Heap}
theorem scWh2 : FnScope ["item"] ["item"] (defScope sWhole2) := ⟨rfl, rfl, rfl, by decide +kernel, rfl, by decide +kernel, by decide +kernel⟩
theorem ok_whole2 {f : Addr} {fd : FuncData} (F : Fun K "_law_is_whole" "_law_is_whole" sWhole2 f fd) (ms : mg "isinstance" = none) (mi : mg "int" = none) (mb : mg "bool" = none) : FnOk P w K mg base CX0 1 f fd ["item"] spWhole2 := by
  refine F.ok scWh2 (fun vs H Q E h => ?_) (fun cdv A outer s H vs Q E hr h => ?_)
  · obtain ⟨i, rfl, _⟩ := h
    rfl
  · obtain ⟨i, rfl, k⟩ := h
    refine ⟨_, pss_one (ps_ret (pe_and (pe_callB call_isC (by rfl) ms (by decide +kernel) (pa_cons (pv 0) (pa_cons (pe_tyn "int" (by rfl) mi (by decide +kernel)) pa_nil)))
      (pe_one (pe_not (pe_callB call_isC (by rfl) ms (by decide +kernel) (pa_cons (pv 0) (pa_cons (pe_tyn "bool" (by rfl) mb (by decide +kernel)) pa_nil))))))), ?_⟩
    refine ⟨_, rfl, .int i, "int", 1, .int i, rfl, by decide, .inr (.inr (.inl ⟨i, rfl, rfl⟩)), _, rfl, ?_⟩
    refine iteT ?_
    refine ⟨_, rfl, .int i, "bool", 1, .int i, rfl, by decide, .inr (.inr (.inl ⟨i, rfl, rfl⟩)), _, rfl, ?_⟩
    exact k
theorem scHo : FnScope ["disk", "due", "fuse", "found", "cell", "told_here"] ["disk", "due", "fuse"] (defScope sDcHo) := ⟨rfl, rfl, rfl, by decide +kernel, rfl, by decide +kernel, by decide +kernel⟩
def nam5 : List Str := ["a", "book", "", "votes", "spoilt"]
theorem ok_dcho {f fW C : Addr} {e : Ec} {fd fdW : FuncData} (F : Fun K "_law_dc_holds" "_law_dc_holds" sDcHo f fd) (D : DkC P w K mg base C e) (ms : mg "isinstance" = none) (mdi : mg "dict" = none) (mli : mg "list" = none) (mso : mg "sorted" = none)
    (GW : FnOk P w K mg base CX0 1 fW fdW ["item"] spWhole2) (bW : Binds K fdW ["item"] []) (kW : PySem.W.keepIn K (.ref fW) = true) (mW : mg "_law_is_whole" = some (.ref fW)) :
    FnOk P w K mg base CX0 3 f fd ["disk", "due", "fuse"] (spDcHolds C) := by
  obtain ⟨fr, fdr, GR, bR, meR⟩ := D.read
  obtain ⟨fc, fdc, GC, bC, meC⟩ := D.cells
  refine F.ok scHo (fun vs H Q E h => ?_) (fun cdv A outer s H vs Q E hr h => ?_)
  · obtain ⟨p, h, q, f, kvs, ls, rfl, _⟩ := h
    rfl
  · obtain ⟨p, h, q, fz, kvs, ls, rfl, hD, hf, hq, due, k⟩ := h
    have hu := hu_of hr
    have r1 : Room 1 (A.deeper (PyProof.Rows.envOfC "_law_dc_holds" (defScope sDcHo) s.heap.objs.size f cdv)) := hr.mono (by decide)
    have hu1 : (A.deeper (PyProof.Rows.envOfC "_law_dc_holds" (defScope sDcHo) s.heap.objs.size f cdv)).in1.units + 64 < cLine := by
      have := hr.un
      show _ + 1 + 64 < _
      omega
    refine ⟨_, pss_cons (ps_set (i := 3) scHo.nd rfl (Or.inl rfl) (pe_meth0 (pv 0) D.cl meC GC r1 bC .nil pass0))
      (pss_cons (ps_if (PW.pt (pw_or (pt_not (pt_val (pe_callB call_isDict (by rfl) ms (by decide +kernel) (pa_cons (pv 3) (pa_cons (pe_tyn "dict" (by rfl) mdi (by decide +kernel)) pa_nil)))))
          (pw_or (pt_cmpR (op_ne_dictG hr.units hu1) (pv 3) (pv 1) (nomark _))
          (pw_or1 (pt_cmpR (op_neD hr.units) (pe_callTy (call_listD rfl) (by rfl) mli (by decide +kernel) (pa_cons (pv 3) pa_nil)) (pe_callB (call_sortedD rfl) (by rfl) mso (by decide +kernel) (pa_cons (pv 1) pa_nil)) (nomark _)))))) (pss_one (ps_ret pe_bl)) pss_nil)
      (pss_cons (ps_dput hu (pv 3) pe_str pe_int rfl)
      (pss_cons (ps_for PassesOwn.never rfl (pi_list (pe_lst (pa_cons pe_str (pa_cons pe_str (pa_cons pe_str (pa_cons pe_str (pa_cons pe_str pa_nil))))))) (pg_name (i := 4) scHo.nd rfl (Or.inl rfl))
        (pss_cons (ps_set (i := 5) scHo.nd rfl (Or.inl rfl) (pe_meth (pv 0) D.cl meR GR hr bR .nil (passes_call L2.takes0 (fun _ _ _ _ h => h)) (pa_cons (pv 4) pa_nil)))
        (pss_one (ps_if (PW.pt (pw_or (pt_cmpR (op_neD hr.units) (pv 5) (pe_dget1 hu (pv 1) (pv 4) ⟨rfl, rfl, rfl, rfl⟩) (nomark _))
          (pw_or1 (pt_cmpR op_ne (pe_cmpR op_isN (pv 5) pe_non (nomark _)) (pe_cmpR op_isN (pe_dget1 hu (pv 1) (pv 4) ⟨rfl, rfl, rfl, rfl⟩) pe_non (nomark _)) (nomark _))))) (pss_one (ps_ret pe_bl)) pss_nil))))
      (pss_one (ps_ret (pe_ifExp (pt_cmpR op_isN (pv 2) pe_non (nomark _)) (pe_cmpR op_isN (pe_fld (pv 0) rfl) pe_non (nomark _))
        (pe_and (pe_call GW r1 rfl mW kW bW .nil pass0 (pa_cons (pe_fld (pv 0) rfl) pa_nil)) (pe_one (pe_cmpR op_eq (pe_fld (pv 0) rfl) (pv 2) (nomark _)))))))))), ?_⟩
    obtain ⟨ks, k2, ek, ek2, pm, nk, mk, lk⟩ := due.keys
    obtain ⟨dx, ob⟩ := id hD.ob
    refine ⟨_, rfl, p, dx, _, rfl, ob, flds_no _ _ (by decide +kernel) (by decide +kernel), p, h, fz, kvs, ks, rfl, hD, ek, by omega, nk, fun ys Fd H1 py sy nF s1 hF => ?_⟩
    have ly : ys.length ≤ 4 := by rw [py.length_eq]; exact lk
    have my : ∀ z ∈ ys, z ∈ nam4 := fun z hz => mk z (py.mem_iff.mp hz)
    have ny : ys.Nodup := py.nodup_iff.mpr nk
    have hq1 := s1 _ _ hq
    -- isinstance(found, dict)
    refine ⟨_, rfl, .ref Fd, true, rfl, .inl ⟨"dict", .base (.dK hF), by decide +kernel⟩, _, rfl, iteF ?_⟩
    -- found != due
    have lenL : ls.length = ys.length := by
      have := congrArg List.length ek2
      rw [List.length_map, List.length_map] at this
      rw [this, ← pm.length_eq, py.length_eq]
    refine ⟨_, rfl, _, rfl, Fd, q, _, ls, rfl, rfl, hF, hq1, by rw [List.length_map]; exact lenL.symm, fun pr hpr => ?_, _, rfl, iteF ?_⟩
    · obtain ⟨z, hz, rfl⟩ := List.mem_map.mp hpr
      have vz := val_in ek (py.mem_iff.mp hz)
      refine ⟨by rw [← due.at']; exact vz, ?_⟩
      obtain ⟨d, cv, sb, _, sh, ev⟩ := due.ok _ (valV_pair vz)
      exact ⟨d, good_dp 4 (CV.same s1 cv) sb, sh, ev⟩
    -- list(found) != sorted(due)
    refine ⟨_, rfl, Fd, _, rfl, .inl hF, fun l1 hl1 => ?_⟩
    have s2 := same_upd (o := .lst ((ys.map fun z => ((Sum.inr z : Key), getZ kvs z)).map fun kv => kV kv.1)) hl1
    refine ⟨_, rfl, q, ls, k2, rfl, .inl (s2 _ _ hq1), ek2, by rw [← pm.length_eq]; omega, fun y2 l2 py2 sy2 hl2 => ?_⟩
    have s3 := same_upd (o := .lst (y2.map V.str)) hl2
    have ey : ys = y2 := sorted_one my ny (py.trans (pm.trans py2.symm)) sy sy2
    subst ey
    have em : ((ys.map fun z => ((Sum.inr z : Key), getZ kvs z)).map fun kv => kV kv.1) = ys.map V.str := by
      rw [List.map_map]; rfl
    rw [em] at s2 s3 ⊢
    obtain ⟨z1, z2, z3⟩ := strs_ok my
    have sh : SeqAt.shaped (.list (ys.map PyData.str)) = true := by
      show (PyData.canLayAll0 (ys.map PyData.str) && decide (PyData.depthAll (ys.map PyData.str) + 1 ≤ 64)) = true
      rw [z1, z2]; rfl
    refine ⟨.list (ys.map PyData.str), .list (ys.map PyData.str), .lst (SqL.of (s3 _ _ upd_same)) (dp_strs ys), .lst (SqL.of upd_same) (dp_strs ys), sh, sh, _, rfl, ?_⟩
    have ev : PyData.eqv (.list (ys.map PyData.str)) (.list (ys.map PyData.str)) = true := by
      simp only [PyData.eqv]; exact z3
    rw [ev]
    refine iteF ?_
    have s4 := s2.trans s3
    have hF4 := s4 _ _ hF
    have s14 := s1.trans s4
    generalize upd (upd H1 l1 (.lst (ys.map V.str))) l2 (.lst (ys.map V.str)) = H4 at s4 hF4 s14 ⊢
    -- found["spoilt"] = 1
    refine ⟨_, rfl, Fd, _, rfl, DPut.k (k := Sum.inr "spoilt") hF4 (small1000 (by rw [List.length_map]; omega)), ?_⟩
    have s5 : Same H (upd H4 Fd (.dK (putK (ys.map fun z => ((Sum.inr z : Key), getZ kvs z)) (.inr "spoilt") (.int 1)))) := fun b o e => by
      rw [upd_ne (ne_of_none e nF)]; exact s14 b o e
    generalize upd H4 Fd (.dK (putK (ys.map fun z => ((Sum.inr z : Key), getZ kvs z)) (.inr "spoilt") (.int 1))) = H5 at s5 ⊢
    refine ⟨(by show 5 ≤ sizeLine; decide), fun pl hpl => ⟨pl, rfl, ⟨_, SqL.of upd_same⟩, ?_⟩⟩
    have s6 := s5.trans (same_upd (o := .lst [.str "a", .str "book", .str "", .str "votes", .str "spoilt"]) hpl)
    have hp6 : (upd H5 pl (.lst [.str "a", .str "book", .str "", .str "votes", .str "spoilt"])) pl = some (.lst [.str "a", .str "book", .str "", .str "votes", .str "spoilt"]) := upd_same
    generalize upd H5 pl (.lst [.str "a", .str "book", .str "", .str "votes", .str "spoilt"]) = H6 at s6 hp6 ⊢
    refine for_list (K := K) (a := pl) (xs := [.str "a", .str "book", .str "", .str "votes", .str "spoilt"]) (fun j σ G => (∃ z4 z5 : Option V, σ = [some (.ref p), some (.ref q), some fz, some (.ref Fd), z4, z5]) ∧ G = H6)
      ⟨⟨_, _, rfl⟩, rfl⟩ (fun j σ G _ e => by rw [e.2]; exact SqL.of hp6) ?_ ?_
    · rintro j v σ G hj ⟨⟨y4, y5, rfl⟩, rfl⟩
      obtain ⟨z, rfl⟩ : ∃ z, v = .str z := by
        have m := List.mem_of_getElem? hj
        simp only [List.mem_cons, List.not_mem_nil, or_false] at m
        rcases m with rfl | rfl | rfl | rfl | rfl <;> exact ⟨_, rfl⟩
      have D6 := hD.same s6
      obtain ⟨dx6, ob6⟩ := id D6.ob
      refine ⟨_, rfl, p, dx6, _, rfl, ob6, flds_no _ _ (by decide +kernel) (by decide +kernel), _, rfl, p, h, fz, kvs, .str z, 1, .str z, rfl, D6, .inr (.inr (.inr (.inl ⟨z, rfl, rfl⟩))), fun z2 e2 => ?_, fun z2 => by simp [isD] at z2⟩
      cases e2
      have hq6 := s6 _ _ hq
      obtain ⟨d, dp, sh, ev⟩ : ∃ d, Dp K G ((valV kvs (.inr z : Key)).getD .non) d ∧ SeqAt.shaped d = true ∧ PyData.eqv d d = true := by
        cases c : valV kvs (.inr z : Key) with
        | none => exact ⟨.none, .non, by decide +kernel, by decide +kernel⟩
        | some v =>
          obtain ⟨d, cv, sb, _, sh, ev⟩ := due.ok _ (valV_pair c)
          exact ⟨d, good_dp 4 (CV.same s6 cv) sb, sh, ev⟩
      refine ⟨_, rfl, _, rfl, q, rfl, .inl ⟨ls, .inl hq6⟩, _, rfl, _, DGet.k (k := Sum.inr z) hq6, ?_⟩
      rw [← due.at']
      refine ⟨d, d, dp, dp, sh, sh, _, rfl, ?_⟩
      rw [ev]
      refine iteF ?_
      refine ⟨_, rfl, rfl, _, rfl, q, rfl, .inl ⟨ls, .inl hq6⟩, _, rfl, _, DGet.k (k := Sum.inr z) hq6, ?_⟩
      rw [← due.at']
      refine ⟨rfl, rfl, _, rfl, ?_⟩
      rw [decide_eq_true rfl]
      refine iteF ?_
      exact ⟨⟨_, _, rfl⟩, rfl⟩
    · rintro σ G ⟨⟨y4, y5, rfl⟩, rfl⟩
      have D6 := hD.same s6
      obtain ⟨dx6, ob6⟩ := id D6.ob
      refine ⟨_, rfl, rfl, _, rfl, ?_⟩
      rcases hf with rfl | ⟨i, rfl⟩
      · refine iteT ?_
        exact ⟨_, rfl, p, C, dx6, _, _, rfl, ob6, D.T.cl, D.T.nF, flds_fuse _ _, rfl, k _ s6⟩
      · refine iteF ?_
        refine ⟨_, rfl, p, C, dx6, _, _, rfl, ob6, D.T.cl, D.T.nF, flds_fuse _ _, i, rfl, _, rfl, ?_⟩
        refine iteT ?_
        refine ⟨_, rfl, p, C, dx6, _, _, rfl, ob6, D.T.cl, D.T.nF, flds_fuse _ _, _, rfl, rfl, ?_⟩
        rw [decide_eq_true rfl]
        exact k _ s6
end
end Pu

namespace Pu
open PySem PySem.Spec PyProof.Rows L2 LamX
/-! ### the rows of the law: a disk, what it must hold, its fuse -/
structure Row where
  p : Addr
  h : Addr
  q : Addr
  f : V
  kvs : List (Key × V)
  ls : List (Key × V)
structure RowOk (C : Addr) (H : Hp) (r : Row) : Prop where
  dk : DkAt C H r.p r.h r.f r.kvs
  fz : r.f = .non ∨ ∃ i, r.f = .int i
  q : H r.q = some (.dK r.ls)
  du : Due H r.kvs r.ls
def apart (r s : Row) : Prop := r.p ≠ s.p ∧ r.h ≠ s.h ∧ r.h ≠ s.q ∧ r.q ≠ s.h ∧ r.q ≠ s.q
structure Iv (C d g c lD lU lF : Addr) (H : Hp) (rs : List Row) : Prop where
  a1 : H lD = some (.lst (rs.map fun r => .ref r.p))
  a2 : H lU = some (.lst (rs.map fun r => .ref r.q))
  a3 : H lF = some (.lst (rs.map fun r => r.f))
  l1 : 1 ≤ rs.length
  l4 : rs.length ≤ 4
  ok : ∀ r ∈ rs, RowOk C H r
  ap : rs.Pairwise apart
  own : ∀ r ∈ rs, r.h ≠ r.q ∧ r.h ≠ d ∧ r.q ≠ d
  n1 : lD ≠ lU
  n2 : lD ≠ lF
  n3 : lU ≠ lF
  g1 : lD ≠ g ∧ lU ≠ g ∧ lF ≠ g
  c1 : lD ≠ c ∧ lU ≠ c ∧ lF ≠ c
theorem Due.keep {H H' : Hp} {kvs ls : List (Key × V)} (k : TKeep H H') (D : Due H kvs ls) : Due H' kvs ls :=
  ⟨D.n1, D.n2, D.at', D.nm, fun kv hk => by
    obtain ⟨d, cv, sb, z⟩ := D.ok kv hk
    exact ⟨d, good_keep k 4 cv sb, sb, z⟩⟩
theorem KpN.tk {H H' : Hp} {d g c : Addr} {T : Int} (S : StA H d g c T) (k : KpN d g H H') : TKeep H H' := fun b xs e => by
  obtain ⟨l, t, h, _⟩ := S.dk
  obtain ⟨gs, h2, _⟩ := S.gr
  exact k _ _ e (ne_of e h (by intro z; cases z)) (ne_of e h2 (by intro z; cases z)) fun ps z => by cases z
theorem Iv.keep {C d g c lD lU lF : Addr} {H H' : Hp} {rs : List Row} {T : Int} (S : StA H d g c T) (k : KpN d g H H') (I : Iv C d g c lD lU lF H rs) : Iv C d g c lD lU lF H' rs := by
  obtain ⟨l, t, h, _⟩ := id S.dk
  obtain ⟨gs, h2, _⟩ := id S.gr
  have lst : ∀ {b xs}, H b = some (.lst xs) → b ≠ g → H' b = some (.lst xs) := fun e n => k _ _ e (ne_of e h (by intro z; cases z)) n fun ps z => by cases z
  have dct : ∀ {b xs}, H b = some (.dK xs) → b ≠ d → H' b = some (.dK xs) := fun e n => k _ _ e n (ne_of e h2 (by intro z; cases z)) fun ps z => by cases z
  have ins : ∀ {b C dx fs}, H b = some (.ins C dx fs) → H' b = some (.ins C dx fs) := fun e => k _ _ e (ne_of e h (by intro z; cases z)) (ne_of e h2 (by intro z; cases z)) fun ps z => by cases z
  refine { I with a1 := lst I.a1 I.g1.1, a2 := lst I.a2 I.g1.2.1, a3 := lst I.a3 I.g1.2.2, ok := fun r hr => ?_ }
  have o := I.ok r hr
  have w := I.own r hr
  obtain ⟨dx, e⟩ := o.dk.ob
  exact ⟨⟨⟨dx, ins e⟩, dct o.dk.dc w.2.1⟩, o.fz, dct o.q w.2.2, o.du.keep (KpN.tk S k)⟩
theorem Iv.same {C d g c lD lU lF : Addr} {H H' : Hp} {rs : List Row} (k : Same H H') (I : Iv C d g c lD lU lF H rs) : Iv C d g c lD lU lF H' rs :=
  { I with a1 := k _ _ I.a1, a2 := k _ _ I.a2, a3 := k _ _ I.a3, ok := fun r hr => ⟨(I.ok r hr).dk.same k, (I.ok r hr).fz, k _ _ (I.ok r hr).q, (I.ok r hr).du.keep (TKeep.same k)⟩ }
/-- a further row -/
theorem Iv.push {C d g c lD lU lF : Addr} {H H' : Hp} {rs : List Row} {r : Row} (I : Iv C d g c lD lU lF H rs) (hl : rs.length < 4) (h1 : H' lD = some (.lst (rs.map (fun r => V.ref r.p) ++ [.ref r.p]))) (h2 : H' lU = some (.lst (rs.map (fun r => V.ref r.q) ++ [.ref r.q]))) (h3 : H' lF = some (.lst (rs.map (fun r => r.f) ++ [r.f])))
    (k : ∀ b o, H b = some o → b ≠ lD → b ≠ lU → b ≠ lF → H' b = some o) (ok : RowOk C H' r) (np : H r.p = none) (nh : H r.h = none) (nq : H r.q = none) (hq : r.h ≠ r.q) (nd : H d ≠ none) : Iv C d g c lD lU lF H' (rs ++ [r]) := by
  have tk : TKeep H H' := fun b xs e => k b _ e (ne_of e I.a1 (by intro z; cases z)) (ne_of e I.a2 (by intro z; cases z)) (ne_of e I.a3 (by intro z; cases z))
  have nn : ∀ {a b : Addr} {o : HO}, H a = some o → H b = none → a ≠ b := fun e n z => by rw [z, n] at e; cases e
  refine { I with a1 := by rw [h1, List.map_append]; rfl, a2 := by rw [h2, List.map_append]; rfl, a3 := by rw [h3, List.map_append]; rfl, l1 := by rw [List.length_append]; exact Nat.le_add_left _ _, l4 := by rw [List.length_append]; exact hl, ok := fun s hs => ?_, ap := ?_, own := fun s hs => ?_ }
  · rcases List.mem_append.mp hs with hs | hs
    · have o := I.ok s hs
      obtain ⟨dx, e⟩ := o.dk.ob
      exact ⟨⟨⟨dx, k _ _ e (ne_of e I.a1 (by intro z; cases z)) (ne_of e I.a2 (by intro z; cases z)) (ne_of e I.a3 (by intro z; cases z))⟩, k _ _ o.dk.dc (ne_of o.dk.dc I.a1 (by intro z; cases z)) (ne_of o.dk.dc I.a2 (by intro z; cases z)) (ne_of o.dk.dc I.a3 (by intro z; cases z))⟩, o.fz,
        k _ _ o.q (ne_of o.q I.a1 (by intro z; cases z)) (ne_of o.q I.a2 (by intro z; cases z)) (ne_of o.q I.a3 (by intro z; cases z)), o.du.keep tk⟩
    · rw [List.mem_singleton.mp hs]; exact ok
  · refine List.pairwise_append.mpr ⟨I.ap, List.pairwise_singleton _ _, fun s hs t ht => ?_⟩
    rw [List.mem_singleton.mp ht]
    have o := I.ok s hs
    obtain ⟨dx, e⟩ := o.dk.ob
    exact ⟨nn e np, nn o.dk.dc nh, nn o.dk.dc nq, nn o.q nh, nn o.q nq⟩
  · rcases List.mem_append.mp hs with hs | hs
    · exact I.own s hs
    · rw [List.mem_singleton.mp hs]
      exact ⟨hq, fun z => nd (by rw [← z]; exact nh), fun z => nd (by rw [← z]; exact nq)⟩
/-- one row changed: its disk's contents and fuse, what it must hold, its fuse in the list -/
theorem Iv.put {C d g c lD lU lF : Addr} {H H' : Hp} {rs : List Row} {i : Nat} {r s : Row} (I : Iv C d g c lD lU lF H rs) (hi : rs[i]? = some r) (e1 : s.p = r.p) (e2 : s.h = r.h) (e3 : s.q = r.q)
    (h3 : H' lF = some (.lst ((rs.map fun r => r.f).set i s.f))) (k : ∀ b o, H b = some o → b ≠ r.p → b ≠ r.h → b ≠ r.q → b ≠ lF → H' b = some o) (ok : RowOk C H' s) : Iv C d g c lD lU lF H' (rs.set i s) := by
  have hm := List.mem_of_getElem? hi
  have o := I.ok r hm
  obtain ⟨dx, e⟩ := o.dk.ob
  have lt : i < rs.length := (List.getElem?_eq_some_iff.mp hi).1
  have hr : rs[i] = r := (List.getElem?_eq_some_iff.mp hi).2
  have lst : ∀ {b xs}, H b = some (.lst xs) → b ≠ lF → H' b = some (.lst xs) := fun e' n => k _ _ e' (ne_of e' e (by intro z; cases z)) (ne_of e' o.dk.dc (by intro z; cases z)) (ne_of e' o.q (by intro z; cases z)) n
  have tk : TKeep H H' := fun b xs e' => k b _ e' (ne_of e' e (by intro z; cases z)) (ne_of e' o.dk.dc (by intro z; cases z)) (ne_of e' o.q (by intro z; cases z)) (ne_of e' I.a3 (by intro z; cases z))
  have mp : ∀ {α : Type} (φ : Row → α), φ s = φ r → (rs.set i s).map φ = rs.map φ := fun φ h => by
    rw [List.map_set, h, ← hr]
    have : rs.map φ = (rs.map φ).set i ((rs.map φ)[i]'(by rw [List.length_map]; exact lt)) := (List.set_getElem_self _).symm
    rw [List.getElem_map] at this
    exact this.symm
  have far : ∀ {j : Nat} {t : Row}, rs[j]? = some t → j ≠ i → apart t r := fun {j t} hj ne => by
    obtain ⟨lj, ej⟩ := List.getElem?_eq_some_iff.mp hj
    have sym : ∀ {a b : Row}, apart a b → apart b a := fun ⟨z1, z2, z3, z4, z5⟩ => ⟨z1.symm, z2.symm, z4.symm, z3.symm, z5.symm⟩
    rcases Nat.lt_or_ge j i with l | l
    · have q := List.pairwise_iff_getElem.mp I.ap j i lj lt l
      rw [ej, hr] at q
      exact q
    · have q := List.pairwise_iff_getElem.mp I.ap i j lt lj (by omega)
      rw [ej, hr] at q
      exact sym q
  have hset : ∀ t ∈ rs.set i s, t = s ∨ ∃ j, rs[j]? = some t ∧ j ≠ i := fun t ht => by
    obtain ⟨j, hj⟩ := List.getElem?_of_mem ht
    rw [List.getElem?_set] at hj
    split at hj
    · cases hj; exact .inl rfl
    · exact .inr ⟨j, hj, fun z => by subst z; contradiction⟩
  refine { I with a1 := ?_, a2 := ?_, a3 := ?_, l1 := by rw [List.length_set]; exact I.l1, l4 := by rw [List.length_set]; exact I.l4, ok := fun t ht => ?_, ap := ?_, own := fun t ht => ?_ }
  · rw [mp (fun r => V.ref r.p) (by rw [e1])]; exact lst I.a1 I.n2
  · rw [mp (fun r => V.ref r.q) (by rw [e3])]; exact lst I.a2 I.n3
  · rw [List.map_set]; exact h3
  · rcases hset t ht with rfl | ⟨j, hj, ne⟩
    · exact ok
    · obtain ⟨f1, f2, f3, f4, f5⟩ := far hj ne
      have o2 := I.ok t (List.mem_of_getElem? hj)
      obtain ⟨dx2, e'⟩ := o2.dk.ob
      exact ⟨⟨⟨dx2, k _ _ e' f1 (ne_of e' o.dk.dc (by intro z; cases z)) (ne_of e' o.q (by intro z; cases z)) (ne_of e' I.a3 (by intro z; cases z))⟩, k _ _ o2.dk.dc (ne_of o2.dk.dc e (by intro z; cases z)) f2 f3 (ne_of o2.dk.dc I.a3 (by intro z; cases z))⟩, o2.fz,
        k _ _ o2.q (ne_of o2.q e (by intro z; cases z)) f4 f5 (ne_of o2.q I.a3 (by intro z; cases z)), o2.du.keep tk⟩
  · refine List.pairwise_iff_getElem.mpr fun x y hx hy hxy => ?_
    have q := fun (hx : x < rs.length) (hy : y < rs.length) => List.pairwise_iff_getElem.mp I.ap x y hx hy hxy
    rw [List.length_set] at hx hy
    have q := q hx hy
    rw [List.getElem_set, List.getElem_set]
    split
    · rename_i cx
      subst cx
      rw [hr] at q
      split
      · omega
      · obtain ⟨z1, z2, z3, z4, z5⟩ := q
        exact ⟨by rw [e1]; exact z1, by rw [e2]; exact z2, by rw [e2]; exact z3, by rw [e3]; exact z4, by rw [e3]; exact z5⟩
    · split
      · rename_i cy
        subst cy
        rw [hr] at q
        obtain ⟨z1, z2, z3, z4, z5⟩ := q
        exact ⟨by rw [e1]; exact z1, by rw [e2]; exact z2, by rw [e3]; exact z3, by rw [e2]; exact z4, by rw [e3]; exact z5⟩
      · exact q
  · rcases hset t ht with rfl | ⟨j, hj, ne⟩
    · rw [e2, e3]; exact I.own r hm
    · exact I.own t (List.mem_of_getElem? hj)
theorem put_cases (kvs : List (Key × V)) (k : Key) (v : V) : (putK kvs k v = kvs.map fun kv => if kv.1 = k then (kv.1, v) else kv) ∨ (k ∉ kvs.map (·.1) ∧ putK kvs k v = kvs ++ [(k, v)]) := by
  unfold putK
  by_cases h : (kvs.any fun kv => decide (kv.fst = k)) = true
  · rw [if_pos h]; exact .inl rfl
  · rw [if_neg h]
    refine .inr ⟨fun m => h ?_, rfl⟩
    obtain ⟨kv, hk, e⟩ := List.mem_map.mp m
    exact List.any_eq_true.mpr ⟨kv, hk, decide_eq_true e⟩
theorem put_mem {kvs : List (Key × V)} {k : Key} {v : V} {kv : Key × V} (h : kv ∈ putK kvs k v) : kv = (k, v) ∨ kv ∈ kvs := by
  rcases put_cases kvs k v with e | ⟨_, e⟩
  · rw [e] at h
    obtain ⟨x, hx, ex⟩ := List.mem_map.mp h
    split at ex
    · rename_i c
      exact .inl (by rw [← ex, c])
    · exact .inr (by rw [← ex]; exact hx)
  · rw [e] at h
    rcases List.mem_append.mp h with h | h
    · exact .inr h
    · exact .inl (List.mem_singleton.mp h)
theorem put_nd {kvs : List (Key × V)} {k : Key} {v : V} (h : (kvs.map (·.1)).Nodup) : ((putK kvs k v).map (·.1)).Nodup := by
  rcases put_cases kvs k v with e | ⟨n, e⟩
  · rw [e, List.map_map]
    have z : kvs.map ((fun x => x.1) ∘ fun kv => if kv.1 = k then (kv.1, v) else kv) = kvs.map (·.1) := List.map_congr_left fun x _ => by
      show (if x.1 = k then (x.1, v) else x).1 = x.1
      split <;> rfl
    rw [z]; exact h
  · rw [e, List.map_append, List.nodup_append]
    exact ⟨h, by simp, fun a ha b hb z => by
      have : b = k := List.mem_singleton.mp hb
      rw [z, this] at ha
      exact n ha⟩
/-- a cell written on both sides -/
theorem Due.put {H : Hp} {kvs ls : List (Key × V)} {z : Str} {v : V} {d : PyData} (D : Due H kvs ls) (hz : z ∈ nam4) (cv : CV 4 H v d) (ok : stB d = true ∧ szB d ≤ 50 ∧ SeqAt.shaped d = true ∧ PyData.eqv d d = true) : Due H (putK kvs (.inr z) v) (putK ls (.inr z) v) := by
  refine ⟨put_nd D.n1, put_nd D.n2, fun k => by rw [valV_put, valV_put, D.at' k], fun kv hk => ?_, fun kv hk => ?_⟩
  · rcases put_mem hk with q | q
    · exact ⟨z, hz, by rw [q]⟩
    · exact D.nm kv q
  · rcases put_mem hk with q | q
    · exact ⟨d, by rw [q]; exact cv, ok⟩
    · exact D.ok kv q
/-- a fuse that may be: nothing of it stands in the heap -/
theorem fuse_all {H : Hp} {n : Nat} {v : V} {d : PyData} (h : CV n H v d) (f : fuB d = true) : (v = .non ∨ ∃ i, v = .int i) ∧ ∃ d', fuB d' = true ∧ ∀ H, CV 4 H v d' := by
  cases n with
  | zero => exact h.elim
  | succ n =>
    rcases h with ⟨rfl, rfl⟩ | ⟨b, rfl, rfl⟩ | ⟨i, rfl, rfl⟩ | ⟨z, rfl, rfl⟩ | ⟨a, ys, ds, rfl, h, rfl, p⟩ | ⟨a, o, rfl, h, ho, rfl⟩
    · exact ⟨.inl rfl, .none, f, fun _ => .inl ⟨rfl, rfl⟩⟩
    · exact absurd f (by simp [fuB])
    · exact ⟨.inr ⟨i, rfl⟩, .int i, f, fun _ => .inr (.inr (.inl ⟨i, rfl, rfl⟩))⟩
    · exact absurd f (by simp [fuB])
    · exact absurd f (by simp [fuB])
    · exact absurd f (by simp [fuB])
theorem Due.nil {H : Hp} : Due H [] [] := ⟨by simp, by simp, fun _ => rfl, fun _ h => (nomatch h), fun _ h => (nomatch h)⟩
end Pu

namespace Pu
open PySem PySem.Spec PyProof.Rows L2 LamX
/-! ### a disk made of another's cells -/
def newK (kvs : List (Key × V)) (ys : List Str) : List (Key × V) := ys.map fun z => (Sum.inr z, getZ kvs z)
theorem newK_keys (kvs : List (Key × V)) (ys : List Str) : (newK kvs ys).map (·.1) = ys.map Sum.inr := by
  unfold newK
  rw [List.map_map]; rfl
theorem newK_val {kvs : List (Key × V)} : ∀ {ys : List Str} {z : Str}, z ∈ ys → valV (newK kvs ys) (.inr z) = some (getZ kvs z)
  | y :: r, z, h => by
    by_cases e : y = z
    · subst e
      exact valV_pos rfl
    · rcases List.mem_cons.mp h with q | q
      · exact absurd q.symm e
      · show valV ((Sum.inr y, getZ kvs y) :: newK kvs r) _ = _
        rw [valV_neg (fun z => e (Sum.inr.inj z))]
        exact newK_val q
section
variable {H : Hp} {kvs ls : List (Key × V)} {ks ys : List Str}
theorem Due.new (D : Due H kvs ls) (ek : kvs.map (·.1) = ks.map Sum.inr) (p : ys.Perm ks) (nk : ks.Nodup) (mk : ∀ z ∈ ks, z ∈ nam4) : Due H (newK kvs ys) ls := by
  have mem : ∀ z, (Sum.inr z : Key) ∈ kvs.map (·.1) ↔ z ∈ ys := fun z => by
    rw [ek, p.mem_iff]
    exact ⟨fun h => by
      obtain ⟨y, hy, ey⟩ := List.mem_map.mp h
      rw [← Sum.inr.inj ey]; exact hy, fun h => List.mem_map_of_mem h⟩
  refine ⟨by rw [newK_keys]; exact inr_nd.mpr (p.nodup_iff.mpr nk), D.n2, fun k => ?_, fun kv hk => ?_, fun kv hk => ?_⟩
  · rw [← D.at']
    by_cases m : k ∈ kvs.map (·.1)
    · obtain ⟨z, hz, rfl⟩ := List.mem_map.mp (ek ▸ m)
      rw [newK_val (p.mem_iff.mpr hz), val_in ek hz]
    · have n2 : k ∉ (newK kvs ys).map (·.1) := fun q => m (by
        rw [newK_keys] at q
        obtain ⟨z, hz, rfl⟩ := List.mem_map.mp q
        exact (mem z).mpr hz)
      have none_of : ∀ {l : List (Key × V)}, k ∉ l.map (·.1) → valV l k = none := fun {l} n => by
        cases e : valV l k with
        | none => rfl
        | some v => exact absurd (valV_in e) n
      rw [none_of m, none_of n2]
  · obtain ⟨z, hz, rfl⟩ := List.mem_map.mp hk
    exact ⟨z, mk z (p.mem_iff.mp hz), rfl⟩
  · obtain ⟨z, hz, rfl⟩ := List.mem_map.mp hk
    obtain ⟨kv, hkv, e⟩ := List.mem_map.mp ((mem z).mpr hz)
    have v := val_in ek (p.mem_iff.mp hz)
    cases c : valV kvs (.inr z : Key) with
    | none => rw [c] at v; cases v
    | some u =>
      rw [c] at v
      cases v
      have q := D.ok _ (valV_pair (kvs := kvs) (k := .inr z) (v := getZ kvs z) (by rw [c]))
      exact q
theorem cel_pairs {H' : Hp} : ∀ {kvs : List (Key × V)}, (∀ kv ∈ kvs, ∃ z ∈ nam4, kv.1 = Sum.inr z) → (∀ kv ∈ kvs, ∃ d, CV 4 H' kv.2 d ∧ stB d = true ∧ szB d ≤ 50 ∧ SeqAt.shaped d = true ∧ PyData.eqv d d = true) →
    ∃ ds, Paired (fun kv d => CV 6 H' kv.2 d ∧ szB d ≤ 1000) kvs ds ∧ (cellL kvs ds).all id = true
  | [], _, _ => ⟨[], .nil, rfl⟩
  | kv :: r, h1, h2 => by
    obtain ⟨ds, p, e⟩ := cel_pairs (kvs := r) (fun x hx => h1 x (List.mem_cons_of_mem _ hx)) (fun x hx => h2 x (List.mem_cons_of_mem _ hx))
    obtain ⟨z, _, ez⟩ := h1 kv List.mem_cons_self
    obtain ⟨d, cv, sb, sz, _⟩ := h2 kv List.mem_cons_self
    refine ⟨d :: ds, .cons ⟨CV.up (CV.up cv), by omega⟩ p, ?_⟩
    simp only [cellL, List.all_cons, id, e, Bool.and_true, ez, keyS, sb]
theorem Due.cel {K : PySem.W.Frag} {P : Program} {w : World} {a : Addr} (D : Due H kvs ls) (ha : H a = some (.dK kvs)) (hl : kvs.length ≤ 100) : CelV K P w H (.ref a) true := by
  have tk : TKeep H (delH H a) := fun b xs e => by
    have ne : b ≠ a := ne_of e ha (by intro z; cases z)
    rw [delH_ne ne]; exact e
  obtain ⟨ds, p, e⟩ := cel_pairs (H' := delH H a) D.nm (D.keep tk).ok
  have q := CelV.dk (K := K) (P := P) (w := w) a kvs ds rfl ha p hl
  rw [e] at q
  exact q
theorem merge_nd : ∀ {pre kvs : List (Key × V)}, ((pre ++ kvs).map (·.1)).Nodup → mergeK pre kvs = pre ++ kvs
  | pre, [], _ => by rw [List.append_nil]; rfl
  | pre, (k, v) :: r, h => by
    show mergeK (putK pre k v) r = _
    have nk : k ∉ pre.map (·.1) := fun m => by
      rw [List.map_append, List.nodup_append] at h
      exact h.2.2 k m k (by simp) rfl
    rw [put_snoc nk, merge_nd (by rw [List.append_assoc]; exact h), List.append_assoc]
    rfl
end
theorem Tabs.up {H H' : Hp} {L : List (Addr × Str)} (k1 : ∀ b ps, H b = some (.tbl ps) → H' b = some (.tbl ps)) (k2 : ∀ b q, H b = some (CodeO b q) → H' b = some (CodeO b q)) (t : Tabs L H) : Tabs L H' := fun p hp => by
  obtain ⟨ps, e1, e2, e3⟩ := t p hp
  exact ⟨ps, k1 _ _ e1, e2, fun pos cv hc => by
    obtain ⟨c, r1, r2⟩ := e3 pos cv hc
    exact ⟨c, r1, k2 _ _ r2⟩⟩
theorem str_of {H : Hp} {n : Nat} {v : V} {z : Str} (h : CV n H v (.str z)) : v = .str z := by
  cases n with
  | zero => exact h.elim
  | succ n =>
    rcases h with ⟨_, q⟩ | ⟨b, _, q⟩ | ⟨i, _, q⟩ | ⟨z, rfl, q⟩ | ⟨a, ys, ds, _, _, q, _⟩ | ⟨a, o, _, _, _, q⟩
    · cases q
    · cases q
    · cases q
    · cases q; rfl
    · cases q
    · cases q
theorem cell_of {n : Nat} {N : Addr → Prop} {H : Hp} {v : V} (h : oneD n [.str "a", .str "book", .str "", .str "votes"] N H v) : ∃ z ∈ nam4, v = .str z := by
  obtain ⟨d, hd, c⟩ := h
  simp only [List.mem_cons, List.not_mem_nil, or_false] at hd
  rcases hd with rfl | rfl | rfl | rfl
  · exact ⟨"a", by decide +kernel, str_of c.cv⟩
  · exact ⟨"book", by decide +kernel, str_of c.cv⟩
  · exact ⟨"", by decide +kernel, str_of c.cv⟩
  · exact ⟨"votes", by decide +kernel, str_of c.cv⟩
theorem ixN_at {n k : Nat} (h : k < n) : ixN n (k : Int) = some k := by
  unfold ixN
  simp
  omega
theorem SqL.up {K : PySem.W.Frag} {H H' : Hp} {a : Addr} {xs : List V} (k : ∀ o, H a = some o → H' a = some o) (h : SqL K H a xs) : SqL K H' a xs := by
  rcases h with (h | ⟨o, h⟩) | h
  · exact .inl (.inl (k _ h))
  · exact .inl (.inr ⟨o, k _ h⟩)
  · exact .inr h
end Pu

namespace Pu
open PySem PySem.Spec PyProof.Rows L2 LamX
def qLaw : Str := (PyProof.Rows.envOfC "law" (defScope sLaw) 0 0 .none).qual ++ "<lambda>"
def Gd (P : Program) (w : World) (K : PySem.W.Frag) (mg : Str → Option Value) (base : Heap) (CX : CXT) (k : Nat) (x : Str) (ps : List Str) (sp : Sp) : Prop :=
  ∃ f fd, FnOk P w K mg base CX k f fd ps sp ∧ Binds K fd ps [] ∧ PySem.W.keepIn K (.ref f) = true ∧ mg x = some (.ref f)
structure Lw (P : Program) (w : World) (K : PySem.W.Frag) (mg : Str → Option Value) (base : Heap) (C PE0 : Addr) (e : Ec) (L : List (Addr × Str)) : Prop where
  begun : Gd P w K mg base CX0 1 "_law_begun" ["script"] (spBegun K)
  draw : Gd P w K mg base CX0 2 "_law_draw" ["state", "size_here"] spDraw
  pick : Gd P w K mg base CX0 3 "_law_pick" ["state", "several"] (spPick K)
  val : Gd P w K mg base CX0 4 "_law_dc_value" ["state"] (spDcVal 4)
  ref : Gd P w K mg base CX0 6 "_law_dc_refused" ["state", "disk"] (spDcRef C L)
  un : Gd P w K mg base CX0 8 "_law_dc_unmade" ["state"] (spDcUn L)
  hol : Gd P w K mg base CX0 3 "_law_dc_holds" ["disk", "due", "fuse"] (spDcHolds C)
  D : DkC P w K mg base C e
  cg : Cgt K mg PE0
  fell : ErX K mg PE0 "Fell" e.fell
  ms : mg "isinstance" = none
  ml : mg "len" = none
  mr : mg "range" = none
  mm : mg "min" = none
  md : mg "dict" = none
  mi : mg "list" = none
  mz : mg "zip" = none
def spLaw (K : PySem.W.Frag) (L : List (Addr × Str)) : Sp := fun vs H Q _ => ∃ (a : Addr) (ns : List Int), vs = [.ref a] ∧ SqL K H a (ns.map V.int) ∧ ns.length ≤ 63 ∧ Tabs L H ∧ ∀ H', Q (.bl true) H'
theorem ix_listK {X : Cx} {K : PySem.W.Frag} (h : X.K = K) : IxR X (rIxL K) := h ▸ ix_list
section
variable {P : Program} {w : World} {K : PySem.W.Frag} {mg : Str → Option Value} {base : Heap}
abbrev nLw : List Str := ["script", "state", "fuses", "dues", "turn", "way", "given", "caught", "disk", "due", "fuse", "at", "cell", "disks", "value"]
theorem scLw : FnScope nLw ["script"] (defScope sLaw) := ⟨rfl, rfl, rfl, by decide +kernel, rfl, by decide +kernel, by decide +kernel⟩
theorem ok_law {f C PE0 c0 Pt : Addr} {e : Ec} {od an : Option Addr} {oc dV kV doc pm ct : Value} {osl : Array (Option Value)} {L : List (Addr × Str)} (hL1 : (Pt, qLaw) ∈ L) (hL2 : ∀ p ∈ L, p.1 = Pt → p.2 = qLaw)
    (lk : K.lookup f = some ⟨oc, od, .func (PySem.W.fnOf "law" "law" (defArgs sLaw) (defBody sLaw) (defScope sLaw) dV kV doc pm an (.ref c0) ct), osl⟩) (hcd : PySem.W.codeIn K (.ref c0) "law" = true) (TB : TabB base mg c0 Pt) (W : Lw P w K mg base C PE0 e L) :
    FnOk P w K mg base CX0 10 f (PySem.W.fnOf "law" "law" (defArgs sLaw) (defBody sLaw) (defScope sLaw) dV kV doc pm an (.ref c0) ct) ["script"] (spLaw K L) := by
  obtain ⟨mPE, fC, odC, anC, ocC, dVC, kVC, docC, pmC, cdC, ctC, oslC, lC, hC, bC, kC, mC⟩ := W.cg
  have D := W.D
  obtain ⟨fi, fdi, GI, MI, bI, kbI⟩ := D.mak
  obtain ⟨fw, fdw, GW, bW, meW, kbW⟩ := D.write
  obtain ⟨fc, fdc, GC, bCc, meC⟩ := D.cells
  obtain ⟨fB, fdB, GB, bB, kB, mB⟩ := W.begun
  obtain ⟨fD, fdD, GD, bD, kD, mD⟩ := W.draw
  obtain ⟨fP, fdP, GP, bP, kP, mP⟩ := W.pick
  obtain ⟨fV, fdV, GV, bV, kV', mV⟩ := W.val
  obtain ⟨fR, fdR, GR, bR, kR, mR⟩ := W.ref
  obtain ⟨fU, fdU, GU, bU, kU, mU⟩ := W.un
  obtain ⟨fH, fdH, GH, bH, kH, mH⟩ := W.hol
  refine fn_of lk hcd scLw (fun vs H Q E h => ?_) (fun A outer s H vs Q E hr h => ?_)
  · obtain ⟨a, ns, rfl, _⟩ := h
    rfl
  · obtain ⟨a, ns, rfl, hS, hlen, hTab, k⟩ := h
    have hu := hu_of hr
    have r1 : Room 1 (A.deeper (PyProof.Rows.envOfC "law" (defScope sLaw) s.heap.objs.size f (.ref c0))) := hr.mono (by decide)
    have r2 : Room 2 (A.deeper (PyProof.Rows.envOfC "law" (defScope sLaw) s.heap.objs.size f (.ref c0))) := hr.mono (by decide)
    have r3 : Room 3 (A.deeper (PyProof.Rows.envOfC "law" (defScope sLaw) s.heap.objs.size f (.ref c0))) := hr.mono (by decide)
    have r4 : Room 4 (A.deeper (PyProof.Rows.envOfC "law" (defScope sLaw) s.heap.objs.size f (.ref c0))) := hr.mono (by decide)
    have r5 : Room 5 (A.deeper (PyProof.Rows.envOfC "law" (defScope sLaw) s.heap.objs.size f (.ref c0))) := hr.mono (by decide)
    have r6 : Room 6 (A.deeper (PyProof.Rows.envOfC "law" (defScope sLaw) s.heap.objs.size f (.ref c0))) := hr.mono (by decide)
    have r8 : Room 8 (A.deeper (PyProof.Rows.envOfC "law" (defScope sLaw) s.heap.objs.size f (.ref c0))) := hr.mono (by decide)
    suffices hz : ∃ t, PSs (cxOf CX0 P w K mg base nLw "law" (defScope sLaw) f (.ref c0) A outer s H E).nox (defBody sLaw) t ∧ t { nx := fun _ H' => Q .non H', rt := Q } (L2.start nLw [.ref a]) H by
      obtain ⟨t, h, q⟩ := hz
      exact ⟨t, h.nox, q⟩
    refine ⟨_, pss_cons (ps_set (i := 1) scLw.nd rfl (Or.inl rfl) (pe_call GB r1 rfl mB kB bB .nil pass0 (pa_cons (pv 0) pa_nil)))
      (pss_cons (ps_set (i := 2) scLw.nd rfl (Or.inl rfl) (pe_lst (pa_cons (pe_call GP r3 rfl mP kP bP .nil pass0 (pa_cons (pv 1) (pa_cons (c_list (n := 4) (ds := [.none, .int 0, .int 1, .int 2, .int 5]) (c_cons c_non (c_cons c_int (c_cons c_int (c_cons c_int (c_cons c_int c_nil)))))) pa_nil))) pa_nil)))
      (pss_cons (ps_asg (pe_tup (pa_cons (pe_lst (pa_cons (pe_make MI GI r5 rfl D.nm bI .nil (passes_call L2.takes0 (fun _ _ _ _ h => h)) (pa_cons pe_dnewK (pa_cons (pe_ix ix_list (pv 2) pe_int (fun _ _ => rfl)) pa_nil))) pa_nil)) (pa_cons (pe_lst (pa_cons pe_dnewK pa_nil)) pa_nil)))
          (pg_tup rfl (pgs_cons (pg_name (i := 13) scLw.nd rfl (Or.inr rfl)) (pgs_cons (pg_name (i := 3) scLw.nd rfl (Or.inl rfl)) pgs_nil))))
      (pss_cons (ps_for PassesOwn.never rfl (pi_range1 rfl W.mr (pa_cons (pe_op op_add pe_int (pe_callB (call_min2 rfl) (by rfl) W.mm (by decide +kernel) (pa_cons (pe_callB call_len_seq (by rfl) W.ml boot_len (pa_cons (pv 0) pa_nil)) (pa_cons pe_int pa_nil)))) pa_nil)) (pg_name (i := 4) scLw.nd rfl (Or.inl rfl))
        (pss_cons (ps_asg (pe_tup (pa_cons (pe_call GD r2 rfl mD kD bD .nil pass0 (pa_cons (pv 1) (pa_cons (pe_callB call_len_seq (by rfl) W.ml boot_len (pa_cons (pv 13) pa_nil)) pa_nil))) (pa_cons (pe_call GD r2 rfl mD kD bD .nil pass0 (pa_cons (pv 1) (pa_cons pe_int pa_nil))) pa_nil)))
            (pg_tup rfl (pgs_cons (pg_name (i := 11) scLw.nd rfl (Or.inr rfl)) (pgs_cons (pg_name (i := 5) scLw.nd rfl (Or.inl rfl)) pgs_nil))))
        (C8.pss_cut (ps_if (PW.pt (pw_and (pt_cmpR op_eq (pv 5) pe_int (nomark _)) (pw_and1 (pt_cmpR op_lt (pe_callB call_len_seq (by rfl) W.ml boot_len (pa_cons (pv 13) pa_nil)) pe_int (nomark _)))))
          (pss_cons (ps_expr (pe_bm PySem.F.plainAttrs_list PySem.F.slot_list_append PySem.F.type_list_append mt_append (pv 2) (pa_cons (pe_call GP r3 rfl mP kP bP .nil pass0 (pa_cons (pv 1) (pa_cons (c_list (n := 4) (ds := [.none, .int 0, .int 1, .int 3]) (c_cons c_non (c_cons c_int (c_cons c_int (c_cons c_int c_nil))))) pa_nil))) pa_nil)))
          (pss_cons (ps_set (i := 6) scLw.nd rfl (Or.inl rfl) (pe_meth0 (pe_ix ix_list (pv 13) (pv 11) (fun _ _ => rfl)) D.cl meC GC r1 bCc .nil pass0))
          (pss_cons (ps_expr (pe_bm PySem.F.plainAttrs_list PySem.F.slot_list_append PySem.F.type_list_append mt_append (pv 13) (pa_cons (pe_makeK0 MI GI r5 rfl D.nm kbI (passes_call L2.takes0 (fun _ _ _ _ h => h)) (pk_cons (pe_ix ix_list (pv 2) (pe_op op_sub (pe_callB call_len_seq (by rfl) W.ml boot_len (pa_cons (pv 2) pa_nil)) pe_int) (fun _ _ => rfl)) (pk_cons (pv 6) pk_nil))) pa_nil)))
          (pss_cons (ps_expr (pe_bm PySem.F.plainAttrs_list PySem.F.slot_list_append PySem.F.type_list_append mt_append (pv 3) (pa_cons (pe_callTy (call_dictP rfl) (by rfl) W.md (by decide +kernel) (pa_cons (LiI.pe_listItems rfl (pe_ix ix_list (pv 3) (pv 11) (fun _ _ => rfl)) (by rfl) W.mi (by decide +kernel)) pa_nil)) pa_nil)))
          (pss_one (ps_dput hu (pv 6) pe_str (pe_tup (pa_cons pe_str pa_nil)) rfl))))))
          (pss_cons (ps_asg (pe_tup (pa_cons (pe_call GP r3 rfl mP kP bP .nil pass0 (pa_cons (pv 1) (pa_cons (c_list (n := 4) (ds := [.str "a", .str "book", .str "", .str "votes"]) (c_cons c_str (c_cons c_str (c_cons c_str (c_cons c_str c_nil))))) pa_nil))) (pa_cons (pe_call GV r4 rfl mV kV' bV .nil pass0 (pa_cons (pv 1) pa_nil)) pa_nil)))
              (pg_tup rfl (pgs_cons (pg_name (i := 12) scLw.nd rfl (Or.inr rfl)) (pgs_cons (pg_name (i := 14) scLw.nd rfl (Or.inr rfl)) pgs_nil))))
          (pss_cons (ps_set (i := 7) scLw.nd rfl (Or.inl rfl) (pe_lamcall (T := L) (TT := TTc K PE0) (a := "work") (Ng := ["work", "caught", "error"]) rfl mC kC lC hC bC scCa rfl (Or.inl rfl) (caught_gives mPE) TB rfl hL1 hL2 r5 (lamS_by (by show lamSB (defScope sLaw) _ = true; decide +kernel)) rfl (fun _ _ _ _ _ => rfl)
                (fun A outer s H E f c' hr2 => pe_methKw (pe_ix (ix_listK (K := K) rfl) (pv 13) (pv 11) (fun _ _ => rfl)) D.cl meW GW hr2 kbW (passes_call (takes_of rfl rfl rfl rfl) (fun _ _ _ _ h => h)) (pk_cons (pv 12) (pk_cons (pv 14) pk_nil)))))
          (pss_cons (ps_if (PW.pt (pw_or (pt_cmpR op_ne (pe_cmpR op_notN (pv 7) pe_non (nomark _)) (pe_cmpR op_eq (pe_ix ix_list (pv 2) (pv 11) (fun _ _ => rfl)) pe_int (nomark _)) (nomark _))
              (pw_or1 (PW.pt (pw_and (pt_cmpR op_notN (pv 7) pe_non (nomark _)) (pw_and1 (pt_not (pt_val (pe_callB call_isV (by rfl) W.ms (by decide +kernel) (pa_cons (pv 7) (pa_cons (pe_glob (v := .ref e.fell) rfl W.fell.er.g rfl) pa_nil))))))))))) (pss_one (ps_ret pe_bl)) pss_nil)
          (pss_one (ps_if (pt_cmpR op_isN (pv 7) pe_non (nomark _))
            (pss_cons (ps_dput hu (pe_ix ix_list (pv 3) (pv 11) (fun _ _ => rfl)) (pv 12) (pv 14) rfl)
            (pss_one (ps_asg (pe_ifExp (pt_cmpR op_isN (pe_ix ix_list (pv 2) (pv 11) (fun _ _ => rfl)) pe_non (nomark _)) pe_non (pe_op op_sub (pe_ix ix_list (pv 2) (pv 11) (fun _ _ => rfl)) pe_int)) (pg_sub (pv 2) (pv 11) set_list))))
            pss_nil))))))
        (pss_cons (ps_if (pt_not (pt_val (pe_call GR r6 rfl mR kR bR .nil pass0 (pa_cons (pv 1) (pa_cons (pe_ix ix_list (pv 13) (pv 11) (fun _ _ => rfl)) pa_nil))))) (pss_one (ps_ret pe_bl)) pss_nil)
        (pss_one (ps_for PassesOwn.never rfl (pi_zip3 rfl W.mz (pa_cons (pv 13) (pa_cons (pv 3) (pa_cons (pv 2) pa_nil)))) (pg_tup rfl (pgs_cons (pg_name (i := 8) scLw.nd rfl (Or.inl rfl)) (pgs_cons (pg_name (i := 9) scLw.nd rfl (Or.inl rfl)) (pgs_cons (pg_name (i := 10) scLw.nd rfl (Or.inl rfl)) pgs_nil))))
          (pss_one (ps_if (pt_not (pt_val (pe_call GH r3 rfl mH kH bH .nil pass0 (pa_cons (pv 8) (pa_cons (pv 9) (pa_cons (pv 10) pa_nil)))))) (pss_one (ps_ret pe_bl)) pss_nil))))))))
      (pss_one (ps_ret (pe_and (pe_call GU r8 rfl mU kU bU .nil pass0 (pa_cons (pv 1) pa_nil)) (pe_one (pe_cmpR op_isN (pe_meth (pe_make MI GI r5 rfl D.nm bI .nil (passes_call L2.takes0 (fun _ _ _ _ h => h)) (pa_cons pe_dnewK (pa_cons pe_non pa_nil))) D.cl meW GW r3 bW .nil (passes_call L2.takes0 (fun _ _ _ _ h => h)) (pa_cons pe_str (pa_cons pe_int pa_nil))) pe_non (nomark _))))))))), ?_⟩
    -- state, fuses
    refine ⟨_, rfl, a, ns, rfl, hS, by omega, fun d g c H1 s1 nd ng nc S1 => ?_⟩
    have t1 := Tabs.sm s1 hTab
    refine ⟨_, rfl, ?_⟩
    intro p2 xs2 H2 s2 n2 h2 q2
    refine pick_new (E := E0) S1 (by decide) s2 n2 h2 q2 (by decide) (by decide) fun fu H3 hf k3 S3 => ?_
    have k13 := (Kp.of (d := d) (g := g) s2).trans k3
    have t3 := Tabs.kp S1 k13 t1
    obtain ⟨d0, hd0, c0'⟩ := hf
    have f0 : ∀ d ∈ [PyData.none, .int 0, .int 1, .int 2, .int 5], fuB d = true := by decide +kernel
    obtain ⟨hfz, df, hdf, hfv⟩ := fuse_all c0'.cv (f0 d0 hd0)
    obtain ⟨_, hg3, _⟩ := id S3.gr
    obtain ⟨_, hc3, _⟩ := id S3.ce
    refine ⟨(by show 1 ≤ sizeLine; decide), fun lF nF => ?_⟩
    have s4 := same_upd (o := .lst [fu]) nF
    have hF4 : (upd H3 lF (.lst [fu])) lF = some (.lst [fu]) := upd_same
    have S4 := S3.same s4
    have t4 := Tabs.sm s4 t3
    generalize upd H3 lF (.lst [fu]) = H4 at s4 hF4 S4 t4 ⊢
    -- the first disk
    intro e0 ne0
    have s5 := same_upd (o := .dK []) ne0
    have he5 : (upd H4 e0 (.dK [])) e0 = some (.dK []) := upd_same
    have hF5 := s5 _ _ hF4
    have S5 := S4.same s5
    have t5 := Tabs.sm s5 t4
    generalize upd H4 e0 (.dK []) = H5 at s5 he5 hF5 S5 t5 ⊢
    refine ⟨_, rfl, lF, _, 0, fu, rfl, rfl, SqL.of hF5, atI_nat (j := 0) rfl, ?_⟩
    intro px dx hx hdx ne
    have sM : Same H5 (upd (upd H5 dx (.own px)) px (.ins C dx [])) := (same_upd hdx).trans (same_upd (by rw [upd_ne (Ne.symm ne)]; exact hx))
    have ce : CelV K P w (upd (upd H5 dx (.own px)) px (.ins C dx [])) (.ref e0) true := CelV.dk e0 [] [] rfl (sM _ _ he5) .nil (Nat.zero_le _)
    refine ⟨px, dx, .ref e0, fu, rfl, upd_same, .inr (.inr ⟨ce, 4, df, e0, [], hfv _, hdf, rfl, sM _ _ he5, by simp, Nat.zero_le _, fun hh H6 nh D6 k6 => ⟨rfl, ?_⟩⟩)⟩
    have nh5 := sM.free nh
    have s6 : Same H5 H6 := fun b o q => k6 b o (sM b o q) (ne_of_none q hx)
    refine ⟨(by show 1 ≤ sizeLine; decide), fun lD nD => ?_⟩
    have s7 := same_upd (o := .lst [.ref px]) nD
    intro q0 nq
    have s8 := same_upd (o := .dK []) nq
    refine ⟨(by show 1 ≤ sizeLine; decide), fun lU nU => ?_⟩
    have s9 := same_upd (o := .lst [.ref q0]) nU
    refine ⟨(by show 2 ≤ sizeLine; decide), fun tt nt => ?_⟩
    have s10 := same_upd (o := .tup [.ref lD, .ref lU]) nt
    refine ⟨tt, _, rfl, SqT.of upd_same, rfl, _, _, rfl, _, _, rfl, rfl, ?_⟩
    have nn : ∀ {Hz : Hp} {x y : Addr} {o : HO}, Hz x = some o → Hz y = none → x ≠ y := fun e n z => by rw [z, n] at e; cases e
    have hlD := s10 _ _ (s9 _ _ (s8 _ _ (upd_same : (upd H6 lD (.lst [.ref px])) lD = some (.lst [.ref px]))))
    have hq0 := s10 _ _ (s9 _ _ (upd_same : (upd (upd H6 lD (.lst [.ref px])) q0 (.dK [])) q0 = some (.dK [])))
    have hlU := s10 _ _ (upd_same : (upd (upd (upd H6 lD (.lst [.ref px])) q0 (.dK [])) lU (.lst [.ref q0])) lU = some (.lst [.ref q0]))
    have s78 := s7.trans s8
    have sAll := s6.trans (s78.trans (s9.trans s10))
    have nU6 : H6 lU = none := s78.free nU
    have nq6 : H6 q0 = none := s7.free nq
    obtain ⟨l1', t1', hd5, _⟩ := id S5.dk
    obtain ⟨g1', hg5, _⟩ := id S5.gr
    obtain ⟨c1', hc5, _⟩ := id S5.ce
    have I0 : Iv C d g c lD lU lF _ [⟨px, hh, q0, fu, [], []⟩] := {
      a1 := hlD, a2 := hlU, a3 := sAll _ _ hF5, l1 := Nat.le_refl _, l4 := Nat.le_of_ble_eq_true rfl
      ok := fun r hr => by
        rw [List.mem_singleton.mp hr]
        exact ⟨D6.same (s78.trans (s9.trans s10)), hfz, hq0, Due.nil⟩
      ap := List.pairwise_singleton _ _
      own := fun r hr => by
        rw [List.mem_singleton.mp hr]
        exact ⟨nn D6.dc nq6, (nn hd5 nh5).symm, (nn (s6 _ _ hd5) nq6).symm⟩
      n1 := nn (s8 _ _ upd_same) nU
      n2 := (nn (s6 _ _ hF5) nD).symm
      n3 := (nn (s6 _ _ hF5) nU6).symm
      g1 := ⟨(nn (s6 _ _ hg5) nD).symm, (nn (s6 _ _ hg5) nU6).symm, (nn hg3 nF).symm⟩
      c1 := ⟨(nn (s6 _ _ hc5) nD).symm, (nn (s6 _ _ hc5) nU6).symm, (nn hc3 nF).symm⟩ }
    have S10 := S5.same sAll
    have ha10 := SqL.up (fun o e => sAll _ _ (s5 _ _ (s4 _ _ (k13 _ _ (s1 _ _ e) (nn e nd) (nn e ng))))) hS
    have t10 := Tabs.sm sAll t5
    generalize upd (upd (upd (upd H6 lD (.lst [.ref px])) q0 (.dK [])) lU (.lst [.ref q0])) tt (.tup [.ref lD, .ref lU]) = H10 at I0 S10 t10 ha10 ⊢
    refine ⟨_, rfl, a, _, rfl, .inl ha10, _, _, rfl, 4, _, rfl, rfl, _, rfl, ?_, ?_, ?_⟩
    · rw [List.length_map]; split <;> omega
    · rw [List.length_map]; split <;> omega
    refine for_range (lo := 0) (fun i σ H2 => ∃ (rs : List Row) (z4 z5 z6 z7 z8 z9 z10 z11 z12 z14 : Option V), σ = [some (.ref a), some (.ref d), some (.ref lF), some (.ref lU), z4, z5, z6, z7, z8, z9, z10, z11, z12, some (.ref lD), z14] ∧ StA H2 d g c (1 + 6 * (i : Int)) ∧ Tabs L H2 ∧ Iv C d g c lD lU lF H2 rs)
      ⟨_, _, _, _, _, _, _, _, _, _, _, rfl, S10.mono (by show (0 : Int) + 1 ≤ 1 + 6 * 0; decide), t10, I0⟩ ?_ ?_
    rotate_left
    · rintro σ Hf ⟨rs, z4, z5, z6, z7, z8, z9, z10, z11, z12, z14, rfl, Sf, tf, If⟩
      refine ⟨_, rfl, d, g, c, _, rfl, Sf, ?_, tf, fun Hg kg tg Sg => ⟨_, rfl, iteT ?_⟩⟩
      · rw [List.length_map]
        show 1 + 6 * _ + 10 < (1000000000000 : Int)
        split <;> omega
      intro ed ned
      have he : (upd Hg ed (.dK [])) ed = some (.dK []) := upd_same
      generalize upd Hg ed (.dK []) = He at he ⊢
      intro py dy hy hdy ney
      have sN : Same He (upd (upd He dy (.own py)) py (.ins C dy [])) := (same_upd hdy).trans (same_upd (by rw [upd_ne (Ne.symm ney)]; exact hy))
      have ce2 : CelV K P w (upd (upd He dy (.own py)) py (.ins C dy [])) (.ref ed) true := CelV.dk ed [] [] rfl (sN _ _ he) .nil (Nat.zero_le _)
      refine ⟨py, dy, .ref ed, .non, rfl, upd_same, .inr (.inr ⟨ce2, 1, .none, ed, [], .inl ⟨rfl, rfl⟩, rfl, rfl, sN _ _ he, by simp, Nat.zero_le _, fun hh2 Hh nh2 D2 _ => ⟨rfl, ?_⟩⟩)⟩
      obtain ⟨dz, obz⟩ := id D2.ob
      refine ⟨py, dz, _, rfl, obz, flds_no _ _ (by decide +kernel) (by decide +kernel), py, hh2, .non, [], .str "a", .int 1, 1, .str "a", 1, .int 1, rfl, D2, .inl rfl, Nat.zero_le _, .inr (.inr (.inr (.inl ⟨_, rfl, rfl⟩))), .inr (.inr (.inl ⟨1, rfl, rfl⟩)), by decide +kernel, fun z => ?_, fun z _ e2 => ?_, fun z _ _ e3 => ?_, fun z _ _ _ Hi _ _ => ⟨rfl, ?_⟩⟩
      · simp [isD] at z
      · exact absurd e2 (by decide +kernel)
      · cases e3
      · exact k _
    rintro i σ H2 hi ⟨rs, z4, z5, z6, z7, z8, z9, z10, z11, z12, z14, rfl, S2, t2, I2⟩
    have hi12 : (i : Int) < 12 := by
      have q := hi
      rw [List.length_map] at q
      split at q <;> omega
    have lens : (rs.map fun r => V.ref r.p).length = rs.length := List.length_map ..
    -- at, way
    have l1 := I2.l1
    have l4 := I2.l4
    refine ⟨_, rfl, _, rfl, lD, _, rfl, .inl (SqL.of I2.a1), d, g, c, _, _, rfl, S2, by show 1 + 6 * (i : Int) < 1000000000000; omega, by rw [lens]; omega, by rw [lens]; omega, fun at1 H3 a0 a1' k3 S3 => ?_⟩
    rw [lens] at a1'
    refine ⟨_, rfl, d, g, c, _, 4, rfl, S3, by show 1 + 6 * (i : Int) + 1 < 1000000000000; omega, by decide, by decide, fun wy H4 w0 w1 k4 S4 => ?_⟩
    have k24 := k3.trans k4
    have t4 := Tabs.kp S2 k24 t2
    have I4 := I2.keep S2 (KpN.kp k24)
    refine ⟨(by show 2 ≤ sizeLine; decide), fun tt nt => ⟨tt, _, rfl, SqT.of upd_same, rfl, _, _, rfl, _, _, rfl, rfl, ?_⟩⟩
    have s5 := same_upd (o := .tup [.int at1, .int wy]) nt
    have I5 := I4.same s5
    have S5 := S4.same s5
    have t5 := Tabs.sm s5 t4
    generalize upd H4 tt (.tup [.int at1, .int wy]) = H5 at s5 I5 S5 t5 ⊢
    obtain ⟨kk, rfl⟩ : ∃ kk : Nat, at1 = (kk : Int) := ⟨at1.toNat, by omega⟩
    have hkk : kk < rs.length := by omega
    refine ⟨fun σ' H' => ∃ (rs' : List Row) (z4 z5 z6 z7 z8 z9 z10 z12 z14 : Option V), σ' = [some (.ref a), some (.ref d), some (.ref lF), some (.ref lU), z4, z5, z6, z7, z8, z9, z10, some (.int (kk : Int)), z12, some (.ref lD), z14] ∧ kk < rs'.length ∧ StA H' d g c (1 + 6 * (i : Int) + 4) ∧ Tabs L H' ∧ Iv C d g c lD lU lF H' rs', ?_, ?_⟩
    rotate_left
    · rintro σ' H6 ⟨rs', y4, y5, y6, y7, y8, y9, y10, y12, y14, rfl, hk6, S6, t6, I6⟩
      obtain ⟨r, hr6⟩ : ∃ r, rs'[kk]? = some r := ⟨rs'[kk], List.getElem?_eq_getElem hk6⟩
      have mr := List.mem_of_getElem? hr6
      have or := I6.ok r mr
      obtain ⟨ks, _, ek, _, _, _, _, lk⟩ := or.du.keys
      have lkv : r.kvs.length ≤ 100 := by
        have := congrArg List.length ek
        rw [List.length_map, List.length_map] at this
        omega
      refine ⟨_, rfl, _, rfl, _, rfl, lD, _, (kk : Int), .ref r.p, rfl, rfl, SqL.of I6.a1, atI_nat (by rw [List.getElem?_map, hr6]; rfl), ?_⟩
      refine ⟨d, g, c, r.p, r.h, r.f, r.kvs, _, rfl, S6, by show 1 + 6 * (i : Int) + 4 + 10 < 1000000000000; omega, or.dk, or.fz, lkv, (I6.own r mr).2.1, t6, fun H7 k7 t7 S7 => ⟨_, rfl, iteF ?_⟩⟩
      have I7 := I6.keep S6 k7
      refine ⟨_, rfl, _, rfl, _, rfl, lD, lU, lF, _, _, _, rfl, SqL.of I7.a1, SqL.of I7.a2, SqL.of I7.a3, ?_⟩
      refine for_it (walk3 (by rw [List.length_map, List.length_map]) (by rw [List.length_map, List.length_map])) (fun j σ G => (∃ z8 z9 z10 : Option V, σ = [some (.ref a), some (.ref d), some (.ref lF), some (.ref lU), y4, y5, y6, y7, z8, z9, z10, some (.int (kk : Int)), y12, some (.ref lD), y14]) ∧ Same H7 G)
        ⟨⟨_, _, _, rfl⟩, Same.refl H7⟩ (fun j σ G _ e => ⟨SqL.of (e.2 _ _ I7.a1), SqL.of (e.2 _ _ I7.a2), SqL.of (e.2 _ _ I7.a3)⟩) ?_ ?_
      · rintro j x σ G G' hj ⟨⟨u8, u9, u10, rfl⟩, sG⟩ ⟨T, x1, x2, x3, rfl, hT, rfl, e1, e2, e3⟩
        rw [List.getElem?_map] at e1 e2 e3
        rw [List.length_map] at hj
        have hrj := List.getElem?_eq_getElem hj
        rw [hrj] at e1 e2 e3
        cases e1; cases e2; cases e3
        have sT := sG.trans (same_upd (o := .tup [.ref rs'[j].p, .ref rs'[j].q, rs'[j].f]) hT)
        have oj := (I7.same sT).ok rs'[j] (List.getElem_mem hj)
        refine ⟨T, _, rfl, SqT.of upd_same, rfl, _, _, rfl, _, _, rfl, _, _, rfl, rfl, ?_⟩
        refine ⟨_, rfl, _, rfl, _, rfl, rs'[j].p, rs'[j].h, rs'[j].q, rs'[j].f, rs'[j].kvs, rs'[j].ls, rfl, oj.dk, oj.fz, oj.q, oj.du, fun G2 s2 => ⟨_, rfl, iteF ?_⟩⟩
        exact ⟨⟨_, _, _, rfl⟩, sT.trans s2⟩
      · rintro σ G ⟨⟨u8, u9, u10, rfl⟩, sG⟩
        exact ⟨rs', _, _, _, _, _, _, _, _, _, _, rfl, (S7.same sG).mono (by show 1 + 6 * (i : Int) + 4 + 2 ≤ 1 + 6 * ((i + 1 : Nat) : Int); omega), Tabs.sm sG t7, I7.same sG⟩
    obtain ⟨r, hr5⟩ : ∃ r, rs[kk]? = some r := ⟨rs[kk], List.getElem?_eq_getElem hkk⟩
    have mr := List.mem_of_getElem? hr5
    obtain ⟨ks, k2, ek, ek2, _, nk, mk, lk⟩ := (I5.ok r mr).du.keys
    have lens2 : (rs.map fun r => r.f).length = rs.length := List.length_map ..
    have lens3 : (rs.map fun r => V.ref r.q).length = rs.length := List.length_map ..
    -- if way == 0 and len(disks) < 4
    refine (fun els => ⟨_, rfl, rfl, _, rfl, ite2 (fun _ => ⟨_, rfl, lD, _, rfl, .inl (SqL.of I5.a1), _, _, rfl, rfl, _, rfl, ite2 (fun c4 => ?th) (fun _ => els)⟩) (fun _ => els)⟩) ?el
    case th =>
      have c4' : rs.length < 4 := by
        have := of_decide_eq_true c4
        rw [lens] at this
        omega
      -- fuses.append(..)
      refine ⟨_, rfl, .inl ⟨rfl, _, SqL.of I5.a3⟩, _, rfl, ?_⟩
      intro p6 xs6 H6 s6 n6 h6 q6
      refine pick_new (E := E0) S5 (by show 1 + 6 * (i : Int) + 1 + 1 < 1000000000000; omega) s6 n6 h6 q6 (by decide) (by decide) fun fu2 H7 hf2 k7 S7 => ?_
      have k57 := (Kp.of (d := d) (g := g) s6).trans k7
      have I7 := I5.keep S5 (KpN.kp k57)
      have t7 := Tabs.kp S5 k57 t5
      obtain ⟨d2, hd2, cf2⟩ := hf2
      have f2 : ∀ d ∈ [PyData.none, .int 0, .int 1, .int 3], fuB d = true := by decide +kernel
      obtain ⟨hfz2, df2, hdf2, hfv2⟩ := fuse_all cf2.cv (f2 d2 hd2)
      refine ⟨lF, _, fu2, rfl, rfl, I7.a3, small1000 (by rw [lens2]; omega), ?_⟩
      have or := I7.ok r mr
      obtain ⟨dx7, ob7⟩ := id or.dk.ob
      have up8 : ∀ {b : Addr} {o : HO}, H7 b = some o → b ≠ lF → (upd H7 lF (.lst (rs.map (fun r => r.f) ++ [fu2]))) b = some o := fun e n => by rw [upd_ne n]; exact e
      have hF8 : (upd H7 lF (.lst (rs.map (fun r => r.f) ++ [fu2]))) lF = some (.lst (rs.map (fun r => r.f) ++ [fu2])) := upd_same
      have S8 := S7.upd (a := lF) (o := .lst (rs.map (fun r => r.f) ++ [fu2])) (ne_of S7.dk.choose_spec.choose_spec.1 I7.a3 (by intro z; cases z)) I7.g1.2.2.symm I7.c1.2.2.symm
      have free8 : ∀ {b}, (upd H7 lF (.lst (rs.map (fun r => r.f) ++ [fu2]))) b = none → H7 b = none := fun {b} e => by
        by_cases z : b = lF
        · rw [z, upd_same] at e; cases e
        · rw [upd_ne z] at e; exact e
      generalize upd H7 lF (.lst (rs.map (fun r => r.f) ++ [fu2])) = H8 at up8 hF8 S8 free8 ⊢
      have hD8 := up8 I7.a1 I7.n2
      have hU8 := up8 I7.a2 I7.n3
      have ob8 := up8 ob7 (ne_of ob7 I7.a3 (by intro z; cases z))
      have dk8 : DkAt C H8 r.p r.h r.f r.kvs := ⟨⟨_, ob8⟩, up8 or.dk.dc (ne_of or.dk.dc I7.a3 (by intro z; cases z))⟩
      -- given = disks[at].cells()
      refine ⟨_, rfl, _, rfl, lD, _, (kk : Int), .ref r.p, rfl, rfl, SqL.of hD8, atI_nat (by rw [List.getElem?_map, hr5]; rfl), r.p, dx7, _, rfl, ob8, flds_no _ _ (by decide +kernel) (by decide +kernel), ?_⟩
      refine ⟨r.p, r.h, r.f, r.kvs, ks, rfl, dk8, ek, by omega, nk, fun ys Gd H9 py sy nG s9 hG => ?_⟩
      have hD9 := s9 _ _ hD8
      have hU9 := s9 _ _ hU8
      have hF9 := s9 _ _ hF8
      have du9 : Due H9 (newK r.kvs ys) r.ls := ((or.du.keep (fun b xs e => s9 _ _ (up8 e (ne_of e I7.a3 (by intro z; cases z))))).new ek py nk mk)
      have ly : (newK r.kvs ys).length ≤ 100 := by
        show (ys.map _).length ≤ 100
        rw [List.length_map, py.length_eq]; omega
      -- disks.append(Disk(..))
      refine ⟨_, rfl, .inl ⟨rfl, _, SqL.of hD9⟩, ?_⟩
      refine ⟨_, rfl, _, rfl, lF, _, rfl, .inl (SqL.of hF9), _, 1, rfl, rfl, lF, _, _, fu2, rfl, rfl, SqL.of hF9, ?_, ?_⟩
      · rw [List.length_append, lens2]
        have e : ((rs.length + [fu2].length : Nat) : Int) - 1 = (rs.length : Int) := by simp
        rw [e]
        exact atI_nat (by rw [List.getElem?_append_right (by rw [lens2]; exact Nat.le_refl _), lens2]; simp)
      refine ⟨_, rfl, rfl, fun px2 dx2 hx2 hdx2 ne2 => ?_⟩
      have sN : Same H9 (upd (upd H9 dx2 (.own px2)) px2 (.ins C dx2 [])) := (same_upd hdx2).trans (same_upd (by rw [upd_ne (Ne.symm ne2)]; exact hx2))
      have hGN := sN _ _ hG
      have duN := du9.keep (TKeep.same sN)
      refine ⟨px2, dx2, .ref Gd, fu2, rfl, upd_same, .inr (.inr ⟨duN.cel hGN ly, 4, df2, Gd, newK r.kvs ys, hfv2 _, hdf2, rfl, hGN, du9.n1, ly, fun hh2 H10 nh2 D10 k10 => ⟨rfl, ?_⟩⟩)⟩
      have nh9 := sN.free nh2
      have s10 : Same H9 H10 := fun b o q => k10 b o (sN b o q) (ne_of_none q hx2)
      have hD10 := s10 _ _ hD9
      refine ⟨lD, _, .ref px2, rfl, rfl, hD10, small1000 (by rw [lens]; omega), ?_⟩
      have hD11 : (upd H10 lD (.lst (rs.map (fun r => V.ref r.p) ++ [.ref px2]))) lD = some (.lst (rs.map (fun r => V.ref r.p) ++ [.ref px2])) := upd_same
      have up11 : ∀ {b : Addr} {o : HO}, H10 b = some o → b ≠ lD → (upd H10 lD (.lst (rs.map (fun r => V.ref r.p) ++ [.ref px2]))) b = some o := fun e n => by rw [upd_ne n]; exact e
      have free11 : ∀ {b}, (upd H10 lD (.lst (rs.map (fun r => V.ref r.p) ++ [.ref px2]))) b = none → H10 b = none := fun {b} e => by
        by_cases z : b = lD
        · rw [z, upd_same] at e; cases e
        · rw [upd_ne z] at e; exact e
      have S10 := S8.same (s9.trans s10)
      have S11 := S10.upd (a := lD) (o := .lst (rs.map (fun r => V.ref r.p) ++ [.ref px2])) (ne_of S10.dk.choose_spec.choose_spec.1 hD10 (by intro z; cases z)) I7.g1.1.symm I7.c1.1.symm
      generalize upd H10 lD (.lst (rs.map (fun r => V.ref r.p) ++ [.ref px2])) = H11 at hD11 up11 free11 S11 ⊢
      have hU11 := up11 (s10 _ _ hU9) I7.n1.symm
      have hq11 : H11 r.q = some (.dK r.ls) := up11 (s10 _ _ (s9 _ _ (up8 or.q (ne_of or.q I7.a3 (by intro z; cases z))))) (ne_of or.q I7.a1 (by intro z; cases z))
      have hG11 := up11 (s10 _ _ hG) (ne_of (s10 _ _ hG) hD10 (by intro z; cases z))
      have D11 : DkAt C H11 px2 hh2 fu2 (newK r.kvs ys) := by
        obtain ⟨⟨dz, e1⟩, e2⟩ := D10
        exact ⟨⟨dz, up11 e1 (ne_of e1 hD10 (by intro z; cases z))⟩, up11 e2 (ne_of e2 hD10 (by intro z; cases z))⟩
      -- dues.append(dict(list(..)))
      refine ⟨_, rfl, .inl ⟨rfl, _, SqL.of hU11⟩, ?_⟩
      refine ⟨_, rfl, _, rfl, lU, _, (kk : Int), .ref r.q, rfl, rfl, SqL.of hU11, atI_nat (by rw [List.getElem?_map, hr5]; rfl), r.q, r.ls, rfl, hq11, fun H12 pl ts s12 npl nts npts hpl prs => ?_⟩
      refine ⟨pl, ts, r.ls, rfl, SqL.of hpl, paired_imp (fun x y z => SqT.of z) prs, fun q2 nq2 => ?_⟩
      have em : mergeK [] r.ls = r.ls := merge_nd (pre := []) du9.n2
      rw [em]
      have s13 : Same H11 (upd H12 q2 (.dK r.ls)) := fun b o e => (same_upd nq2) b o (s12 b o e)
      have hq13 : (upd H12 q2 (.dK r.ls)) q2 = some (.dK r.ls) := upd_same
      have nq12 : H11 q2 = none := by
        cases e : H11 q2 with
        | none => rfl
        | some o => rw [s12 _ _ e] at nq2; cases nq2
      generalize upd H12 q2 (.dK r.ls) = H13 at s13 hq13 ⊢
      have hU13 := s13 _ _ hU11
      refine ⟨lU, _, .ref q2, rfl, rfl, hU13, small1000 (by rw [lens3]; omega), ?_⟩
      have hU14 : (upd H13 lU (.lst (rs.map (fun r => V.ref r.q) ++ [.ref q2]))) lU = some (.lst (rs.map (fun r => V.ref r.q) ++ [.ref q2])) := upd_same
      have up14 : ∀ {b : Addr} {o : HO}, H13 b = some o → b ≠ lU → (upd H13 lU (.lst (rs.map (fun r => V.ref r.q) ++ [.ref q2]))) b = some o := fun e n => by rw [upd_ne n]; exact e
      have S13 := S11.same s13
      have S14 := S13.upd (a := lU) (o := .lst (rs.map (fun r => V.ref r.q) ++ [.ref q2])) (ne_of S13.dk.choose_spec.choose_spec.1 hU13 (by intro z; cases z)) I7.g1.2.1.symm I7.c1.2.1.symm
      generalize upd H13 lU (.lst (rs.map (fun r => V.ref r.q) ++ [.ref q2])) = H14 at hU14 up14 S14 ⊢
      have hG13 := s13 _ _ hG11
      have hG14 := up14 hG13 (ne_of hG13 hU13 (by intro z; cases z))
      -- given["book"] = ("other",)
      refine ⟨(by show 1 ≤ sizeLine; decide), fun tb ntb => ?_⟩
      have s15 := same_upd (o := .tup [.str "other"]) ntb
      have hG15 := s15 _ _ hG14
      refine ⟨_, rfl, Gd, _, rfl, DPut.k (k := Sum.inr "book") hG15 (small1000 (by have := ly; unfold newK at this; omega)), ?_⟩
      generalize hH16 : upd (upd H14 tb (.tup [.str "other"])) Gd (.dK (putK (ys.map fun z => ((Sum.inr z : Key), getZ r.kvs z)) (.inr "book") (.ref tb))) = H16
      have up16 : ∀ {b : Addr} {o : HO}, H14 b = some o → b ≠ Gd → H16 b = some o := fun e n => by rw [← hH16, upd_ne n]; exact s15 _ _ e
      have up916 : ∀ {b : Addr} {o : HO}, H9 b = some o → b ≠ lD → b ≠ lU → b ≠ Gd → H16 b = some o := fun e n1 n2 n3 => up16 (up14 (s13 _ _ (up11 (s10 _ _ e) n1)) n2) n3
      have up716 : ∀ b o, H7 b = some o → b ≠ lD → b ≠ lU → b ≠ lF → H16 b = some o := fun b o e n1 n2 n3 => up916 (s9 _ _ (up8 e n3)) n1 n2 (nn (up8 e n3) nG)
      have lG : ∀ {b : Addr} {xs : List V}, H14 b = some (.lst xs) → H16 b = some (.lst xs) := fun e => up16 e (ne_of e hG14 (by intro z; cases z))
      have nq9 : H9 q2 = none := s10.free (free11 nq12)
      have px9 : H9 px2 = none := hx2
      obtain ⟨⟨dz, e1⟩, e2⟩ := id D11
      have p13 := s13 _ _ e1
      have h13 := s13 _ _ e2
      have p14 := up14 p13 (ne_of p13 hU13 (by intro z; cases z))
      have h14 := up14 h13 (ne_of h13 hU13 (by intro z; cases z))
      have q14 := up14 hq13 (ne_of hq13 hU13 (by intro z; cases z))
      have I16 : Iv C d g c lD lU lF H16 (rs ++ [⟨px2, hh2, q2, fu2, newK r.kvs ys, r.ls⟩]) := I7.push c4' (lG (up14 (s13 _ _ hD11) I7.n1)) (lG hU14) (lG (up14 (s13 _ _ (up11 (s10 _ _ hF9) I7.n2.symm)) I7.n3.symm)) up716
        ⟨⟨⟨dz, up16 p14 (ne_of p14 hG14 (by intro z; cases z))⟩, up16 h14 (nn hG nh9).symm⟩, hfz2, up16 q14 (nn hG nq9).symm, du9.keep (fun b xs e => up916 e (ne_of e hD9 (by intro z; cases z)) (ne_of e hU9 (by intro z; cases z)) (ne_of e hG (by intro z; cases z)))⟩
        (free8 (s9.free px9)) (free8 (s9.free nh9)) (free8 (s9.free nq9)) (nn e2 nq12) (fun z => by
          obtain ⟨_, _, e, _⟩ := S7.dk
          rw [e] at z; cases z)
      have t16 : Tabs L H16 := Tabs.up (fun b ps e => up716 _ _ e (ne_of e I7.a1 (by intro z; cases z)) (ne_of e I7.a2 (by intro z; cases z)) (ne_of e I7.a3 (by intro z; cases z)))
        (fun b q e => up716 _ _ e (ne_of e I7.a1 (by intro z; unfold CodeO at z; cases z)) (ne_of e I7.a2 (by intro z; unfold CodeO at z; cases z)) (ne_of e I7.a3 (by intro z; unfold CodeO at z; cases z))) t7
      have S16 : StA H16 d g c (1 + 6 * (i : Int) + 4) := by
        rw [← hH16]
        obtain ⟨_, _, ed8, _⟩ := id S8.dk
        obtain ⟨_, eg8, _⟩ := id S8.gr
        obtain ⟨_, ec8, _⟩ := id S8.ce
        exact ((S14.same s15).upd (nn ed8 nG) (nn eg8 nG) (nn ec8 nG)).mono (by omega)
      exact ⟨rs ++ [⟨px2, hh2, q2, fu2, newK r.kvs ys, r.ls⟩], _, _, _, _, _, _, _, _, _, rfl, by rw [List.length_append]; omega, S16, t16, I16⟩
    case el =>
      refine ⟨_, rfl, ?_⟩
      intro p6 xs6 H6 s6 n6 h6 q6
      refine pick_new (E := E0) S5 (by show 1 + 6 * (i : Int) + 1 + 1 < 1000000000000; omega) s6 n6 h6 q6 (by decide) (by decide) fun cl H7 hc k7 S7 => ?_
      have k57 := (Kp.of (d := d) (g := g) s6).trans k7
      obtain ⟨z, hz, rfl⟩ := cell_of hc
      refine ⟨_, rfl, d, g, c, _, rfl, S7, by show 1 + 6 * (i : Int) + 1 + 1 + 1 < 1000000000000; omega, fun va H8 hv k8 S8 => ⟨(by show 2 ≤ sizeLine; decide), fun t2' nt2 => ⟨t2', _, rfl, SqT.of upd_same, rfl, _, _, rfl, _, _, rfl, rfl, ?_⟩⟩⟩
      have s9 := same_upd (o := .tup [.str z, va]) nt2
      have k58 := k57.trans k8
      have I9 := (I5.keep S5 (KpN.kp k58)).same s9
      have t9 := Tabs.sm s9 (Tabs.kp S5 k58 t5)
      have S9 := S8.same s9
      obtain ⟨dv, cv8, vok⟩ := hv
      have cv9 := CV.same s9 cv8.cv
      generalize upd H8 t2' (.tup [.str z, va]) = H9 at I9 t9 S9 cv9 ⊢
      -- caught = _law_caught(lambda: disks[at].write(cell=cell, value=value))
      refine ⟨t9, fun Ha ka ta E1 Q1 hE hQ => ?_⟩
      have Ia := I9.keep S9 (KpN.ext ka)
      have Sa := S9.ext ka
      have cva := CV.ext ka 4 cv9
      have or := Ia.ok r mr
      obtain ⟨dxa, oba⟩ := id or.dk.ob
      have lkv : r.kvs.length ≤ 100 := by
        have := congrArg List.length ek
        rw [List.length_map, List.length_map] at this
        omega
      have lkl : r.ls.length ≤ 100 := by
        have := congrArg List.length ek2
        rw [List.length_map, List.length_map] at this
        have p4 : k2.length ≤ 4 := by
          obtain ⟨ks', k2', e1', e2', pm', _, _, lk'⟩ := or.du.keys
          have := congrArg List.length e2'
          rw [List.length_map, List.length_map] at this
          have := congrArg List.length ek2
          rw [List.length_map, List.length_map] at this
          have := pm'.length_eq
          omega
        omega
      refine ⟨_, rfl, _, rfl, lD, _, (kk : Int), .ref r.p, rfl, rfl, SqL.of Ia.a1, atI_nat (by rw [List.getElem?_map, hr5]; rfl), r.p, dxa, _, rfl, oba, flds_no _ _ (by decide +kernel) (by decide +kernel), _, rfl, _, rfl, ?_⟩
      refine ⟨r.p, r.h, r.f, r.kvs, .str z, va, 1, .str z, 4, dv, rfl, or.dk, or.fz, lkv, .inr (.inr (.inr (.inl ⟨_, rfl, rfl⟩))), cva, by omega, fun q => ?_, fun _ _ q => ?_, fun _ _ _ fe Hb sb => ?_, fun z2 ez _ fe Hb Db fb => ?_⟩
      · simp [isD] at q
      · rw [vok.1] at q; cases q
      · -- it fell
        refine hE _ _ _ ⟨true, W.fell.exm, fun _ aa na => ?_, fun q => nomatch q⟩
        have sc := sb.trans (same_upd (o := ExV (.ref e.fell) none aa) na)
        have hE8 : (upd Hb aa (ExV (.ref e.fell) none aa)) aa = some (ExV (.ref e.fell) none aa) := upd_same
        generalize upd Hb aa (ExV (.ref e.fell) none aa) = Hc at sc hE8 ⊢
        have Ic := Ia.same sc
        refine ⟨_, rfl, rfl, _, rfl, _, rfl, lF, _, (kk : Int), r.f, rfl, rfl, SqL.of Ic.a3, atI_nat (by rw [List.getElem?_map, hr5]; rfl), ?_⟩
        rw [fe]
        refine ⟨rfl, rfl, _, rfl, ?_⟩
        refine iteF ?_
        refine ⟨_, rfl, rfl, _, rfl, ?_⟩
        refine iteT ?_
        refine ⟨_, rfl, aa, e.fell, e.fell, true, rfl, hE8, W.fell.xc, W.fell.kit, _, rfl, iteF ?_⟩
        refine ⟨_, rfl, rfl, _, rfl, iteF ?_⟩
        exact ⟨rs, _, _, _, _, _, _, _, _, _, rfl, hkk, (Sa.same sc).mono (by omega), Tabs.sm sc ta, Ic⟩
      · -- it was written
        cases ez
        refine hQ .non _ ?_
        have hDb : ∀ {b xs}, Ha b = some (.lst xs) → Hb b = some (.lst xs) := fun e => fb _ _ e (ne_of e oba (by intro z; cases z)) (ne_of e or.dk.dc (by intro z; cases z))
        have hqb : Hb r.q = some (.dK r.ls) := fb _ _ or.q (ne_of or.q oba (by intro z; cases z)) (Ia.own r mr).1.symm
        have fz0 : decide (r.f = .int 0) = false := decide_eq_false fe
        have scf : scal r.f (.int 0) = true := by
          rcases or.fz with q | ⟨j, q⟩ <;> rw [q] <;> rfl
        refine ⟨_, rfl, rfl, _, rfl, _, rfl, lF, _, (kk : Int), r.f, rfl, rfl, SqL.of (hDb Ia.a3), atI_nat (by rw [List.getElem?_map, hr5]; rfl), scf, rfl, _, rfl, ?_⟩
        rw [fz0]
        refine iteF ?_
        refine ⟨_, rfl, rfl, _, rfl, iteF ?_⟩
        refine ⟨_, rfl, rfl, _, rfl, iteT ?_⟩
        -- dues[at][cell] = value
        refine ⟨_, rfl, _, rfl, _, rfl, lU, _, (kk : Int), .ref r.q, rfl, rfl, SqL.of (hDb Ia.a2), atI_nat (by rw [List.getElem?_map, hr5]; rfl), _, rfl, r.q, _, rfl, DPut.k (k := Sum.inr z) hqb (small1000 (by omega)), ?_⟩
        have upc : ∀ {b : Addr} {o : HO}, Hb b = some o → b ≠ r.q → (upd Hb r.q (.dK (putK r.ls (.inr z) va))) b = some o := fun e n => by rw [upd_ne n]; exact e
        have hqc : (upd Hb r.q (.dK (putK r.ls (.inr z) va))) r.q = some (.dK (putK r.ls (.inr z) va)) := upd_same
        generalize upd Hb r.q (.dK (putK r.ls (.inr z) va)) = Hc at upc hqc ⊢
        have hFc : Hc lF = some (.lst (rs.map fun r => r.f)) := upc (hDb Ia.a3) (ne_of Ia.a3 or.q (by intro z; cases z))
        have fin : ∀ Hd, Hd lF = some (.lst ((rs.map fun r => r.f).set kk (decF r.f))) → (∀ b o, Hc b = some o → b ≠ lF → Hd b = some o) → StA Hd d g c (1 + 6 * (i : Int) + 4) ∧ Tabs L Hd ∧ Iv C d g c lD lU lF Hd (rs.set kk { r with f := decF r.f, kvs := putK r.kvs (.inr z) va, ls := putK r.ls (.inr z) va }) := fun Hd e1 e2 => by
          have upd' : ∀ b o, Ha b = some o → b ≠ r.p → b ≠ r.h → b ≠ r.q → b ≠ lF → Hd b = some o := fun b o e n1 n2 n3 n4 => e2 _ _ (upc (fb _ _ e n1 n2) n3) n4
          have tk : TKeep Ha Hd := fun b xs e => upd' b _ e (ne_of e oba (by intro z; cases z)) (ne_of e or.dk.dc (by intro z; cases z)) (ne_of e or.q (by intro z; cases z)) (ne_of e Ia.a3 (by intro z; cases z))
          obtain ⟨⟨dy, b1⟩, b2⟩ := id Db
          have w := Ia.own r mr
          have b1c := upc b1 (ne_of b1 hqb (by intro z; cases z))
          have b2c := upc b2 w.1
          have I' := Ia.put (s := { r with f := decF r.f, kvs := putK r.kvs (.inr z) va, ls := putK r.ls (.inr z) va }) hr5 rfl rfl rfl e1 upd'
            ⟨⟨⟨dy, e2 _ _ b1c (ne_of b1c hFc (by intro z; cases z))⟩, e2 _ _ b2c (ne_of b2c hFc (by intro z; cases z))⟩, (by rcases or.fz with q | ⟨j, q⟩ <;> rw [q] <;> first | exact .inl rfl | exact .inr ⟨_, rfl⟩),
              e2 _ _ hqc (ne_of hqc hFc (by intro z; cases z)), (or.du.keep tk).put hz (good_keep tk 4 cva vok.1) vok⟩
          obtain ⟨l0, t0, ed, d1, d2, d3⟩ := id Sa.dk
          obtain ⟨gs0, eg, g2⟩ := id Sa.gr
          obtain ⟨cs0, ec, c2⟩ := id Sa.ce
          refine ⟨⟨⟨l0, t0, upd' _ _ ed (ne_of ed oba (by intro z; cases z)) w.2.1.symm w.2.2.symm (ne_of ed Ia.a3 (by intro z; cases z)), d1, d2, by omega⟩, ⟨gs0, upd' _ _ eg (ne_of eg oba (by intro z; cases z)) (ne_of eg or.dk.dc (by intro z; cases z)) (ne_of eg or.q (by intro z; cases z)) Ia.g1.2.2.symm, g2⟩,
            ⟨cs0, upd' _ _ ec (ne_of ec oba (by intro z; cases z)) (ne_of ec or.dk.dc (by intro z; cases z)) (ne_of ec or.q (by intro z; cases z)) Ia.c1.2.2.symm, c2⟩, Sa.gc⟩, ?_, I'⟩
          exact Tabs.up (fun b ps e => upd' _ _ e (ne_of e oba (by intro z; cases z)) (ne_of e or.dk.dc (by intro z; cases z)) (ne_of e or.q (by intro z; cases z)) (ne_of e Ia.a3 (by intro z; cases z)))
            (fun b q e => upd' _ _ e (ne_of e oba (by intro z; unfold CodeO at z; cases z)) (ne_of e or.dk.dc (by intro z; unfold CodeO at z; cases z)) (ne_of e or.q (by intro z; unfold CodeO at z; cases z)) (ne_of e Ia.a3 (by intro z; unfold CodeO at z; cases z))) ta
        -- fuses[at] = ..
        refine ⟨_, rfl, _, rfl, lF, _, (kk : Int), r.f, rfl, rfl, SqL.of hFc, atI_nat (by rw [List.getElem?_map, hr5]; rfl), rfl, _, rfl, ?_⟩
        rcases or.fz with q | ⟨j, q⟩
        · rw [q] at fin ⊢
          refine iteT ?_
          refine ⟨_, rfl, _, rfl, lF, _, (kk : Int), kk, rfl, rfl, hFc, ixN_at (by rw [lens2]; exact hkk), ?_⟩
          obtain ⟨f1, f2, f3⟩ := fin _ upd_same fun b o e n => by rw [upd_ne n]; exact e
          exact ⟨_, _, _, _, _, _, _, _, _, _, rfl, by rw [List.length_set]; exact hkk, f1, f2, f3⟩
        · rw [q] at fin ⊢
          refine iteF ?_
          refine ⟨_, rfl, _, rfl, lF, _, (kk : Int), .int j, rfl, rfl, SqL.of hFc, atI_nat (by rw [List.getElem?_map, hr5, ← q]; rfl), _, 1, rfl, rfl, ?_⟩
          refine ⟨_, rfl, _, rfl, lF, _, (kk : Int), kk, rfl, rfl, hFc, ixN_at (by rw [lens2]; exact hkk), ?_⟩
          obtain ⟨f1, f2, f3⟩ := fin _ upd_same fun b o e n => by rw [upd_ne n]; exact e
          exact ⟨_, _, _, _, _, _, _, _, _, _, rfl, by rw [List.length_set]; exact hkk, f1, f2, f3⟩
end
end Pu

namespace Pu
open PySem L2 LamX
/-- a def of the text stands behind the top under its name -/
def DefAt (K : PySem.W.Frag) (x : Str) (st : Stmt) : Prop := ∃ (f : Addr) (oc : Value) (od : Option Addr) (kV doc pm : Value) (an : Option Addr) (cd ct : Value) (osl : Array (Option Value)), PySem.W.nsIn K mainGlobals x = some (some (.ref f)) ∧
  K.lookup f = some ⟨oc, od, .func (PySem.W.fnOf x x (defArgs st) (defBody st) (defScope st) .none kV doc pm an cd ct), osl⟩ ∧ PySem.W.codeIn K cd x = true ∧ PySem.W.keepIn K (.ref f) = true
theorem DefAt.get {K : PySem.W.Frag} {x : Str} {st : Stmt} {h : Heap} {mg : Str → Option Value} (D : DefAt K x st) (X : K.In h) (G : h.Ns mainGlobals mg) : ∃ f fd, Fun K x x st f fd ∧ PySem.W.keepIn K (.ref f) = true ∧ mg x = some (.ref f) := by
  obtain ⟨f, oc, od, kV, doc, pm, an, cd, ct, osl, a, l, c, k⟩ := D
  exact ⟨f, _, fun_mk l c k, k, PySem.W.mg_of X G a⟩
theorem defAt_mk {K : PySem.W.Frag} {x : Str} {st : Stmt} {f : Addr} {oc : Value} {od : Option Addr} {kV doc pm : Value} {an : Option Addr} {cd ct : Value} {osl : Array (Option Value)} (a : PySem.W.nsIn K mainGlobals x = some (some (.ref f)))
    (l : K.lookup f = some ⟨oc, od, .func (PySem.W.fnOf x x (defArgs st) (defBody st) (defScope st) .none kV doc pm an cd ct), osl⟩) (c : PySem.W.codeIn K cd x = true) (k : PySem.W.keepIn K (.ref f) = true) : DefAt K x st := ⟨f, oc, od, kV, doc, pm, an, cd, ct, osl, a, l, c, k⟩
/-- an error class, all that is asked of it -/
structure ClsAt (K : PySem.W.Frag) (x : Str) (C PE0 : Addr) : Prop where
  aC : PySem.W.nsIn K mainGlobals x = some (some (.ref C))
  xi : PySem.W.excIn K C [.type "ValueError", .type "Exception", .type "BaseException", .type "object"] "ValueError.__new__" = true
  kk : PySem.W.keepIn K (.ref C) = true
  bb : PySem.W.subIn K (.ref C) (.type "BaseException") = some true
  ty : PySem.W.typeIn K (.ref C) = some (.type "type")
  hg : PySem.W.findIn K (.ref C) "__getattribute__" = some (some (.builtin "BaseException.__getattribute__"))
  hk : PySem.W.findIn K (.ref C) "__getattr__" = some none
  hd : PySem.W.hasDictIn K C = true
  ha : PySem.W.findIn K (.ref C) "__class__" = some (some (.builtin "object.__class__"))
  hn : PySem.W.specialIn K (.builtin "object.__class__") "__get__" = some (some (.builtin "getset_descriptor.__get__"))
  ht : PySem.W.takesIn K (.builtin "object.__class__") = some true
  hm : PySem.W.mroIn K C (.type "object") = some true
  kit : PySem.W.kitOne K (.ref C) (.ref C) = some true
  pb : PySem.W.subIn K (.ref PE0) (.type "BaseException") = some true
  pd : PySem.W.hasDictIn K PE0 = true
  pt : PySem.W.typeIn K (.ref PE0) = some (.type "type")
  cp : PySem.W.subIn K (.ref C) (.ref PE0) = some true
theorem vals_sw {vs : List V} {us : List Value} {zs : List V} {ws : List Value} (r : Vals vs us) (q : Vals zs ws) : Vals (gVSw vs zs) (gSw us ws) := by
  cases r with
  | nil => exact q
  | cons a r =>
    cases r with
    | nil =>
      cases q with
      | nil => exact .cons a .nil
      | cons b q =>
        cases q with
        | nil => exact .cons a (.cons b .nil)
        | cons c q =>
          cases q with
          | nil => exact .cons a (.cons c (.cons b .nil))
          | cons d q => exact .cons a (.cons b (.cons c (.cons d q)))
    | cons b r => exact Vals.append (.cons a (.cons b r)) q
theorem vals_ap {vs : List V} {us : List Value} {zs : List V} {ws : List Value} (r : Vals vs us) (q : Vals zs ws) : Vals (gVAp vs zs) (gAp us ws) := by
  cases r with
  | nil => exact .nil
  | cons a r =>
    cases r with
    | nil =>
      cases q with
      | nil => exact .nil
      | cons b q =>
        cases q with
        | nil => exact .nil
        | cons c q =>
          cases q with
          | nil => exact .cons a (.cons b (.cons c .nil))
          | cons d q => exact .nil
    | cons b r => exact .nil
/-- a method -/
def MethAt (K : PySem.W.Frag) (C : Addr) (m q : Str) (st : Stmt) : Prop := ∃ (f : Addr) (oc : Value) (od : Option Addr) (kV doc pm : Value) (an : Option Addr) (cd ct : Value) (osl : Array (Option Value)), PySem.W.findIn K (.ref C) m = some (some (.ref f)) ∧
  K.lookup f = some ⟨oc, od, .func (PySem.W.fnOf m q (defArgs st) (defBody st) (defScope st) .none kV doc pm an cd ct), osl⟩ ∧ PySem.W.codeIn K cd q = true ∧ PySem.W.keepIn K (.ref f) = true ∧ PySem.W.isFn K (.ref f) = true
theorem methAt_mk {K : PySem.W.Frag} {C f : Addr} {m q : Str} {st : Stmt} {oc : Value} {od : Option Addr} {kV doc pm : Value} {an : Option Addr} {cd ct : Value} {osl : Array (Option Value)} (a : PySem.W.findIn K (.ref C) m = some (some (.ref f)))
    (l : K.lookup f = some ⟨oc, od, .func (PySem.W.fnOf m q (defArgs st) (defBody st) (defScope st) .none kV doc pm an cd ct), osl⟩) (c : PySem.W.codeIn K cd q = true) (k : PySem.W.keepIn K (.ref f) = true) (n : PySem.W.isFn K (.ref f) = true) : MethAt K C m q st := ⟨f, oc, od, kV, doc, pm, an, cd, ct, osl, a, l, c, k, n⟩
theorem MethAt.get {K : PySem.W.Frag} {C : Addr} {m q : Str} {st : Stmt} (D : MethAt K C m q st) : ∃ f fd, Fun K m q st f fd ∧ Meth K C m f := by
  obtain ⟨f, oc, od, kV, doc, pm, an, cd, ct, osl, a, l, c, k, n⟩ := D
  exact ⟨f, _, ⟨⟨_, _, _, _, _, _, _, _, _, rfl, l, c⟩, k⟩, ⟨a, n, k⟩⟩
/-- the class -/
structure DiskAt (K : PySem.W.Frag) (C : Addr) : Prop where
  aC : PySem.W.nsIn K mainGlobals "Disk" = some (some (.ref C))
  pg : PySem.W.plainGet K C Str.empty = true
  hd : PySem.W.hasDictIn K C = true
  po : PySem.W.plainOver K C = true
  sa : PySem.W.findIn K (.ref C) "__setattr__" = some (some (.builtin "object.__setattr__"))
  nF : PySem.W.findIn K (.ref C) "fuse" = some none
  nH : PySem.W.findIn K (.ref C) "_held" = some none
  mk1 : PySem.W.makesIn K C = true
  kp : PySem.W.keepIn K (.ref C) = true
structure LamAt (K : PySem.W.Frag) (h : Heap) (x : Str) (st : Stmt) (f c0 Pt : Addr) : Prop where
  ex : ∃ (oc kV doc pm ct : Value) (od an : Option Addr) (osl : Array (Option Value)), K.lookup f = some ⟨oc, od, .func (PySem.W.fnOf x x (defArgs st) (defBody st) (defScope st) .none kV doc pm an (.ref c0) ct), osl⟩
  a : PySem.W.nsIn K mainGlobals x = some (some (.ref f))
  c : PySem.W.codeIn K (.ref c0) x = true
  k : PySem.W.keepIn K (.ref f) = true
  hP : h.get? Pt = some { cls := .none, data := .fields #[] }
  nP : K.lookup Pt = none
  hc : PySem.W.CodeHd h c0 Pt
theorem lamAt_mk {K : PySem.W.Frag} {h : Heap} {x : Str} {st : Stmt} {f c0 Pt : Addr} {oc kV doc pm ct : Value} {od an : Option Addr} {osl : Array (Option Value)} (a : PySem.W.nsIn K mainGlobals x = some (some (.ref f))) (l : K.lookup f = some ⟨oc, od, .func (PySem.W.fnOf x x (defArgs st) (defBody st) (defScope st) .none kV doc pm an (.ref c0) ct), osl⟩)
    (c : PySem.W.codeIn K (.ref c0) x = true) (k : PySem.W.keepIn K (.ref f) = true) (hP : h.get? Pt = some { cls := .none, data := .fields #[] }) (nP : K.lookup Pt = none) (hc : PySem.W.CodeHd h c0 Pt) : LamAt K h x st f c0 Pt := ⟨⟨_, _, _, _, _, _, _, _, l⟩, a, c, k, hP, nP, hc⟩
theorem er_of {K : PySem.W.Frag} {h : Heap} {mg : Str → Option Value} {x : Str} {C PE0 : Addr} (X : K.In h) (G : h.Ns mainGlobals mg) (cl : ClsAt K x C PE0) : ErX K mg PE0 x C :=
  ⟨⟨cl.xi, PySem.W.mg_of X G cl.aC, cl.kk, cl.bb, cl.ty⟩, ⟨cl.hg, cl.hk, cl.bb, cl.hd, cl.ha, cl.hn, cl.ht, cl.hm⟩, cl.kit, PySem.W.exm_ref cl.pb cl.pd cl.pt cl.cp⟩
theorem all_mk {l : PySem.W.OpenLaw} {w : World} {K : PySem.W.Frag} {h : Heap} {mg : Str → Option Value} {fa : Addr} (X : K.In h) (G : h.Ns mainGlobals mg) (hfa : mg "law" = some (.ref fa))
    {C PE0 e_cell e_cells e_content e_fuse e_fell f28 c28 P28 f25 c25 P25 f26 c26 P26 : Addr}
    (d9 : DefAt K "is_number" (top 9))
    (d10 : DefAt K "is_number_from" (top 10))
    (d13 : DefAt K "are_cells" (top 13))
    (d14 : DefAt K "is_storable" (top 14))
    (d15 : DefAt K "check_cell" (top 15))
    (d16 : DefAt K "check_fuse" (top 16))
    (d18 : DefAt K "_law_begun" (top 18))
    (d19 : DefAt K "_law_blended" (top 19))
    (d20 : DefAt K "_law_draw" (top 20))
    (d21 : DefAt K "_law_pick" (top 21))
    (d23 : DefAt K "_law_is_whole" (top 23))
    (d24 : DefAt K "_law_dc_value" (top 24))
    (d27 : DefAt K "_law_dc_holds" (top 27))
    (d22 : DefAt K "_law_caught" (top 22))
    (m_read : MethAt K C "read" "Disk.read" sDRead)
    (m_write : MethAt K C "write" "Disk.write" sDWrite)
    (m_cells : MethAt K C "cells" "Disk.cells" sDCells)
    (m___init__ : MethAt K C "__init__" "Disk.__init__" sDInit)
    (dk : DiskAt K C)
    (aP : PySem.W.nsIn K mainGlobals "PurseError" = some (some (.ref PE0)))
    (c_cell : ClsAt K "BadCell" e_cell PE0)
    (c_cells : ClsAt K "BadCells" e_cells PE0)
    (c_content : ClsAt K "BadContent" e_content PE0)
    (c_fuse : ClsAt K "BadFuse" e_fuse PE0)
    (c_fell : ClsAt K "Fell" e_fell PE0)
    (l28 : LamAt K h "law" (top 28) f28 c28 P28)
    (l25 : LamAt K h "_law_dc_refused" (top 25) f25 c25 P25)
    (l26 : LamAt K h "_law_dc_unmade" (top 26) f26 c26 P26)
    {t1 : Tok} (n1 : PySem.W.nsIn K mainGlobals "FIRST_TOO_LONG" = some (some (.int BIG t1)))
    (ne1 : P28 ≠ P25) (ne2 : P28 ≠ P26) (ne3 : P25 ≠ P26)
    (z_isinstance : PySem.W.nsIn K mainGlobals "isinstance" = some none)
    (z_int : PySem.W.nsIn K mainGlobals "int" = some none)
    (z_bool : PySem.W.nsIn K mainGlobals "bool" = some none)
    (z_tuple : PySem.W.nsIn K mainGlobals "tuple" = some none)
    (z_len : PySem.W.nsIn K mainGlobals "len" = some none)
    (z_all : PySem.W.nsIn K mainGlobals "all" = some none)
    (z_abs : PySem.W.nsIn K mainGlobals "abs" = some none)
    (z_list : PySem.W.nsIn K mainGlobals "list" = some none)
    (z_range : PySem.W.nsIn K mainGlobals "range" = some none)
    (z_min : PySem.W.nsIn K mainGlobals "min" = some none)
    (z_str : PySem.W.nsIn K mainGlobals "str" = some none)
    (z_sorted : PySem.W.nsIn K mainGlobals "sorted" = some none)
    (z_dict : PySem.W.nsIn K mainGlobals "dict" = some none)
    (z_zip : PySem.W.nsIn K mainGlobals "zip" = some none) :
    LawAtS l w K CX0 10 63 "script" mg fa h := by
  have e := hfa.symm.trans (PySem.W.mg_of X G l28.a)
  cases e
  have no : ∀ {x : Str}, PySem.W.nsIn K mainGlobals x = some none → mg x = none := fun z => PySem.W.mg_none_of X G z
  have m_isinstance := no z_isinstance
  have m_int := no z_int
  have m_bool := no z_bool
  have m_tuple := no z_tuple
  have m_len := no z_len
  have m_all := no z_all
  have m_abs := no z_abs
  have m_list := no z_list
  have m_range := no z_range
  have m_min := no z_min
  have m_str := no z_str
  have m_sorted := no z_sorted
  have m_dict := no z_dict
  have m_zip := no z_zip
  obtain ⟨f9, fd9, F9, k9, m9⟩ := d9.get X G
  obtain ⟨f10, fd10, F10, k10, m10⟩ := d10.get X G
  obtain ⟨f13, fd13, F13, k13, m13⟩ := d13.get X G
  obtain ⟨f14, fd14, F14, k14, m14⟩ := d14.get X G
  obtain ⟨f15, fd15, F15, k15, m15⟩ := d15.get X G
  obtain ⟨f16, fd16, F16, k16, m16⟩ := d16.get X G
  obtain ⟨f18, fd18, F18, k18, m18⟩ := d18.get X G
  obtain ⟨f19, fd19, F19, k19, m19⟩ := d19.get X G
  obtain ⟨f20, fd20, F20, k20, m20⟩ := d20.get X G
  obtain ⟨f21, fd21, F21, k21, m21⟩ := d21.get X G
  obtain ⟨f23, fd23, F23, k23, m23⟩ := d23.get X G
  obtain ⟨f24, fd24, F24, k24, m24⟩ := d24.get X G
  obtain ⟨f27, fd27, F27, k27, m27⟩ := d27.get X G
  obtain ⟨f22, oc8, od8, kV8, doc8, pm8, an8, cd8, ct8, osl8, a22, l22, c22, k22⟩ := d22
  have m22 := PySem.W.mg_of X G a22
  have F22 := fun_mk (st := top 22) l22 c22 k22
  have b9 := F9.binds (ps := ["value"]) fun _ _ _ _ _ _ us hl => match us, hl with | [_], _ => rfl
  have b10 := F10.binds (ps := ["value", "least"]) fun _ _ _ _ _ _ us hl => match us, hl with | [_, _], _ => rfl
  have b13 := F13.binds (ps := ["value"]) fun _ _ _ _ _ _ us hl => match us, hl with | [_], _ => rfl
  have b14 := F14.binds (ps := ["value"]) fun _ _ _ _ _ _ us hl => match us, hl with | [_], _ => rfl
  have b15 := F15.binds (ps := ["cell"]) fun _ _ _ _ _ _ us hl => match us, hl with | [_], _ => rfl
  have b16 := F16.binds (ps := ["fuse"]) fun _ _ _ _ _ _ us hl => match us, hl with | [_], _ => rfl
  have b18 := F18.binds (ps := ["script"]) fun _ _ _ _ _ _ us hl => match us, hl with | [_], _ => rfl
  have b19 := F19.binds (ps := ["state"]) fun _ _ _ _ _ _ us hl => match us, hl with | [_], _ => rfl
  have b20 := F20.binds (ps := ["state", "size_here"]) fun _ _ _ _ _ _ us hl => match us, hl with | [_, _], _ => rfl
  have b21 := F21.binds (ps := ["state", "several"]) fun _ _ _ _ _ _ us hl => match us, hl with | [_, _], _ => rfl
  have b23 := F23.binds (ps := ["item"]) fun _ _ _ _ _ _ us hl => match us, hl with | [_], _ => rfl
  have b24 := F24.binds (ps := ["state"]) fun _ _ _ _ _ _ us hl => match us, hl with | [_], _ => rfl
  have b27 := F27.binds (ps := ["disk", "due", "fuse"]) fun _ _ _ _ _ _ us hl => match us, hl with | [_, _, _], _ => rfl
  have b22 := F22.binds (ps := ["work"]) fun _ _ _ _ _ _ us hl => match us, hl with | [_], _ => rfl
  obtain ⟨fr, fdr, Fr, mer⟩ := m_read.get
  have br := Fr.binds (ps := ["self", "cell"]) fun _ _ _ _ _ _ us hl => match us, hl with | [_, _], _ => rfl
  obtain ⟨fw, fdw, Fw, mew⟩ := m_write.get
  have bw := Fw.binds (ps := ["self", "cell", "value"]) fun _ _ _ _ _ _ us hl => match us, hl with | [_, _, _], _ => rfl
  obtain ⟨fc, fdc, Fc, mec⟩ := m_cells.get
  have bc := Fc.binds (ps := ["self"]) fun _ _ _ _ _ _ us hl => match us, hl with | [_], _ => rfl
  obtain ⟨fi, fdi, Fi, mei⟩ := m___init__.get
  have bi := Fi.binds (ps := ["self", "cells", "fuse"]) fun _ _ _ _ _ _ us hl => match us, hl with | [_, _, _], _ => rfl
  obtain ⟨oc28, kV28, doc28, pm28, ct28, od28, an28, osl28, lk28⟩ := l28.ex
  have FF28 := fun_mk (st := top 28) lk28 l28.c l28.k
  have b28 := FF28.binds (ps := ["script"]) fun _ _ _ _ _ _ us hl => match us, hl with | [_], _ => rfl
  obtain ⟨oc25, kV25, doc25, pm25, ct25, od25, an25, osl25, lk25⟩ := l25.ex
  have FF25 := fun_mk (st := top 25) lk25 l25.c l25.k
  have b25 := FF25.binds (ps := ["state", "disk"]) fun _ _ _ _ _ _ us hl => match us, hl with | [_, _], _ => rfl
  obtain ⟨oc26, kV26, doc26, pm26, ct26, od26, an26, osl26, lk26⟩ := l26.ex
  have FF26 := fun_mk (st := top 26) lk26 l26.c l26.k
  have b26 := FF26.binds (ps := ["state"]) fun _ _ _ _ _ _ us hl => match us, hl with | [_], _ => rfl
  have kbW : KBinds K fdw ["self", "cell", "value"] ["cell", "value"] gAp gVAp := by
    obtain ⟨oc, od, kV, doc, pm, an, cdv, ct, osl, rfl, lk, hcd⟩ := Fw.ex
    exact ⟨fun s us ws _ hl => by
      match us, ws, hl with
      | [x], [c, v], _ => exact .of_eq rfl, fun {vs us zs ws} r q => vals_ap r q⟩
  have kbI : KBn K fdi ["self", "cells", "fuse"] 1 ["fuse", "cells"] gSw gVSw := by
    obtain ⟨oc, od, kV, doc, pm, an, cdv, ct, osl, rfl, lk, hcd⟩ := Fi.ex
    exact ⟨fun s us ws _ hu hw => by
      match us, ws, hu, hw with
      | [x], [f, c], _, _ => exact .of_eq rfl, fun {vs us zs ws} r q => by
      exact vals_sw r q⟩
  have E_cell := er_of X G c_cell
  have E_cells := er_of X G c_cells
  have E_content := er_of X G c_content
  have E_fuse := er_of X G c_fuse
  have E_fell := er_of X G c_fell
  refine ⟨_, [(c28, P28), (c25, P25), (c26, P26)], spLaw K [(P28, qLaw), (P25, qRef), (P26, qUn)], fun p hp => ?_, fun p hp => ?_, fun p hp => ?_, fun s v => .of_eq rfl,
    fun H a ns hl _ hH hS => ⟨a, ns, rfl, hS, hl, fun p hp => ?_, fun _ => rfl⟩, fun base _ _ hT => ok_law (C := C) (PE0 := PE0) (c0 := c28) (Pt := P28) (e := ⟨e_cell, e_cells, e_content, e_fuse, e_fell⟩) List.mem_cons_self (fun p hp e => ?_) lk28 l28.c (hT _ List.mem_cons_self) ?_⟩
  · simp only [List.mem_cons, List.not_mem_nil, or_false] at hp
    rcases hp with rfl | rfl | rfl
    · exact l28.hP
    · exact l25.hP
    · exact l26.hP
  · simp only [List.mem_cons, List.not_mem_nil, or_false] at hp
    rcases hp with rfl | rfl | rfl
    · exact l28.nP
    · exact l25.nP
    · exact l26.nP
  · simp only [List.mem_cons, List.not_mem_nil, or_false] at hp
    rcases hp with rfl | rfl | rfl
    · exact l28.hc
    · exact l25.hc
    · exact l26.hc
  · simp only [List.mem_cons, List.not_mem_nil, or_false] at hp
    rcases hp with rfl | rfl | rfl
    · exact TabS.nil (hH (c28, P28) (by simp))
    · exact TabS.nil (hH (c25, P25) (by simp))
    · exact TabS.nil (hH (c26, P26) (by simp))
  · simp only [List.mem_cons, List.not_mem_nil, or_false] at hp
    rcases hp with rfl | rfl | rfl
    · rfl
    · exact absurd e.symm ne1
    · exact absurd e.symm ne2
  have G19 := ok_blend (P := l.prog) (w := w) (base := base) F19 m_int
  have G20 := ok_draw F20 m_int G19 b19 k19 m19
  have G21 := ok_pick F21 m_len G20 b20 k20 m20
  have G9 := ok_isnum (P := l.prog) (w := w) (base := base) F9 m_isinstance m_int m_bool (PySem.W.mg_of X G n1)
  have G10 := ok_from F10 G9 b9 k9 m9
  have G14 := ok_stor F14 m_isinstance m_tuple m_str G9 b9 k9 m9
  have G13 := ok_are F13 m_isinstance m_str m_dict m_all G14 b14 k14 m14
  have G15 := ok_chkcell (P := l.prog) (w := w) (base := base) F15 E_cell.er m_isinstance m_str
  have G16 := ok_chkfuse F16 E_fuse.er G10 b10 k10 m10
  have T : Dcl K C := ⟨⟨dk.pg, dk.hd, dk.po, dk.sa⟩, dk.nF, dk.nH⟩
  have Gr := ok_dread (e := ⟨e_cell, e_cells, e_content, e_fuse, e_fell⟩) Fr T G15 b15 k15 m15
  have Gw := ok_dwrite (e := ⟨e_cell, e_cells, e_content, e_fuse, e_fell⟩) Fw T G15 b15 k15 m15 G14 b14 k14 m14 E_content.er E_fell.er
  have Gc := ok_dcells (P := l.prog) (w := w) (base := base) (mg := mg) Fc T m_sorted
  have Gi := ok_dinit (e := ⟨e_cell, e_cells, e_content, e_fuse, e_fell⟩) Fi T G13 b13 k13 m13 G16 b16 k16 m16 E_cells.er
  have D : DkC l.prog w K mg base C ⟨e_cell, e_cells, e_content, e_fuse, e_fell⟩ := { T := T, cl := T.cl, read := ⟨_, _, Gr, br, mer⟩, write := ⟨_, _, Gw, bw, mew, kbW⟩, cells := ⟨_, _, Gc, bc, mec⟩, mak := ⟨_, _, Gi, ⟨dk.mk1, mei.at_, mei.fn, dk.kp⟩, bi, kbI⟩, nm := PySem.W.mg_of X G dk.aC }
  have Cg : Cgt K mg PE0 := ⟨PySem.W.mg_of X G aP, _, _, _, _, _, _, _, _, _, _, _, l22, c22, b22, k22, m22⟩
  have G24 := ok_dcval F24 G21 b21 k21 m21
  have G23 := ok_whole2 (P := l.prog) (w := w) (base := base) F23 m_isinstance m_int m_bool
  have G27 := ok_dcho F27 D m_isinstance m_dict m_list m_sorted G23 b23 k23 m23
  have G25 := ok_dcref (P := l.prog) (w := w) (base := base) (L := [(P28, qLaw), (P25, qRef), (P26, qUn)]) (by simp) (fun p hp e => by
    simp only [List.mem_cons, List.not_mem_nil, or_false] at hp
    rcases hp with rfl | rfl | rfl
    · exact absurd e ne1
    · rfl
    · exact absurd e.symm ne3) lk25 l25.c (hT (c25, P25) (by simp)) D Cg m_isinstance E_cell E_content G21 b21 k21 m21
  have G26 := ok_dcun (P := l.prog) (w := w) (base := base) (L := [(P28, qLaw), (P25, qRef), (P26, qUn)]) (by simp) (fun p hp e => by
    simp only [List.mem_cons, List.not_mem_nil, or_false] at hp
    rcases hp with rfl | rfl | rfl
    · exact absurd e ne2
    · exact absurd e ne3
    · rfl) lk26 l26.c (hT (c26, P26) (by simp)) D Cg m_isinstance E_cells E_fuse G21 b21 k21 m21
  exact { begun := ⟨_, _, ok_begun F18 m_abs, b18, k18, m18⟩, draw := ⟨_, _, G20, b20, k20, m20⟩, pick := ⟨_, _, G21, b21, k21, m21⟩, val := ⟨_, _, G24, b24, k24, m24⟩, ref := ⟨_, _, G25, b25, l25.k, PySem.W.mg_of X G l25.a⟩, un := ⟨_, _, G26, b26, l26.k, PySem.W.mg_of X G l26.a⟩,
          hol := ⟨_, _, G27, b27, k27, m27⟩, D := D, cg := Cg, fell := E_fell, ms := m_isinstance, ml := m_len, mr := m_range, mm := m_min, md := m_dict, mi := m_list, mz := m_zip }
end Pu

open PySem PySem.W PyProof.Rows
set_option maxRecDepth 100000 in
set_option maxHeartbeats 0 in
theorem PySem.Challenge.cw_pursesapart_k23_disks_and_their_copies_holds : PySem.Challenge.rw_pursesapart_k23_disks_and_their_copies.Holds := by
  w_on; o_law; k_head; (case hw => w_witness2)
  k_fill
  refine LamX.walk_ofTs (n := 63) (k := 10) (x := "script") (CX := fun _ => L2.CX0) rfl (by decide) rfl ⟨rfl, by decide, by decide⟩ (fun w h Y => PySem.W.km_in_of Y) ?F (fun _ _ _ _ _ z => z)
  intro w mg fa h Y KX G hmg
  have hT := PySem.W.km_tabs_of Y
  refine' Pu.all_mk KX G hmg ?u_d9 ?u_d10 ?u_d13 ?u_d14 ?u_d15 ?u_d16 ?u_d18 ?u_d19 ?u_d20 ?u_d21 ?u_d23 ?u_d24 ?u_d27 ?u_d22 ?u_mread ?u_mwrite ?u_mcells ?u_minit ?u_dk ?u_aP ?u_ccell ?u_ccells ?u_ccontent ?u_cfuse ?u_cfell ?u_l28 ?u_l25 ?u_l26 ?u_n1 ?u_ne1 ?u_ne2 ?u_ne3 ?u_zisinstance ?u_zint ?u_zbool ?u_ztuple ?u_zlen ?u_zall ?u_zabs ?u_zlist ?u_zrange ?u_zmin ?u_zstr ?u_zsorted ?u_zdict ?u_zzip
  (case u_d9 => refine' Pu.defAt_mk ?v_a ?v_l ?v_c ?v_k; (case v_a => k_is); (case v_l => k_is); (case v_c => k_is); (case v_k => k_is))
  (case u_d10 => refine' Pu.defAt_mk ?v_a ?v_l ?v_c ?v_k; (case v_a => k_is); (case v_l => k_is); (case v_c => k_is); (case v_k => k_is))
  (case u_d13 => refine' Pu.defAt_mk ?v_a ?v_l ?v_c ?v_k; (case v_a => k_is); (case v_l => k_is); (case v_c => k_is); (case v_k => k_is))
  (case u_d14 => refine' Pu.defAt_mk ?v_a ?v_l ?v_c ?v_k; (case v_a => k_is); (case v_l => k_is); (case v_c => k_is); (case v_k => k_is))
  (case u_d15 => refine' Pu.defAt_mk ?v_a ?v_l ?v_c ?v_k; (case v_a => k_is); (case v_l => k_is); (case v_c => k_is); (case v_k => k_is))
  (case u_d16 => refine' Pu.defAt_mk ?v_a ?v_l ?v_c ?v_k; (case v_a => k_is); (case v_l => k_is); (case v_c => k_is); (case v_k => k_is))
  (case u_d18 => refine' Pu.defAt_mk ?v_a ?v_l ?v_c ?v_k; (case v_a => k_is); (case v_l => k_is); (case v_c => k_is); (case v_k => k_is))
  (case u_d19 => refine' Pu.defAt_mk ?v_a ?v_l ?v_c ?v_k; (case v_a => k_is); (case v_l => k_is); (case v_c => k_is); (case v_k => k_is))
  (case u_d20 => refine' Pu.defAt_mk ?v_a ?v_l ?v_c ?v_k; (case v_a => k_is); (case v_l => k_is); (case v_c => k_is); (case v_k => k_is))
  (case u_d21 => refine' Pu.defAt_mk ?v_a ?v_l ?v_c ?v_k; (case v_a => k_is); (case v_l => k_is); (case v_c => k_is); (case v_k => k_is))
  (case u_d23 => refine' Pu.defAt_mk ?v_a ?v_l ?v_c ?v_k; (case v_a => k_is); (case v_l => k_is); (case v_c => k_is); (case v_k => k_is))
  (case u_d24 => refine' Pu.defAt_mk ?v_a ?v_l ?v_c ?v_k; (case v_a => k_is); (case v_l => k_is); (case v_c => k_is); (case v_k => k_is))
  (case u_d27 => refine' Pu.defAt_mk ?v_a ?v_l ?v_c ?v_k; (case v_a => k_is); (case v_l => k_is); (case v_c => k_is); (case v_k => k_is))
  (case u_d22 => refine' Pu.defAt_mk ?v_a ?v_l ?v_c ?v_k; (case v_a => k_is); (case v_l => k_is); (case v_c => k_is); (case v_k => k_is))
  (case u_l28 => refine' Pu.lamAt_mk ?v_a ?v_l ?v_c ?v_k (hT _ (List.mem_cons_of_mem _ (List.mem_cons_of_mem _ List.mem_cons_self))) ?v_n ?v_h; (case v_a => k_is); (case v_l => k_is); (case v_c => k_is); (case v_k => k_is); (case v_n => kernel_rfl); (case v_h => exact PySem.W.codeHd_of_K KX (by kernel_rfl)))
  (case u_l25 => refine' Pu.lamAt_mk ?v_a ?v_l ?v_c ?v_k (hT _ (List.mem_cons_of_mem _ List.mem_cons_self)) ?v_n ?v_h; (case v_a => k_is); (case v_l => k_is); (case v_c => k_is); (case v_k => k_is); (case v_n => kernel_rfl); (case v_h => exact PySem.W.codeHd_of_K KX (by kernel_rfl)))
  (case u_l26 => refine' Pu.lamAt_mk ?v_a ?v_l ?v_c ?v_k (hT _ List.mem_cons_self) ?v_n ?v_h; (case v_a => k_is); (case v_l => k_is); (case v_c => k_is); (case v_k => k_is); (case v_n => kernel_rfl); (case v_h => exact PySem.W.codeHd_of_K KX (by kernel_rfl)))
  (case u_dk => refine' ⟨?w1, ?w2, ?w3, ?w4, ?w5, ?w6, ?w7, ?w8, ?w9⟩; (case w1 => k_is); (case w2 => kernel_rfl); (case w3 => k_is); (case w4 => kernel_rfl); (case w5 => k_is); (case w6 => k_is); (case w7 => k_is); (case w8 => kernel_rfl); (case w9 => k_is))
  (case u_aP => k_is)
  (case u_mread => refine' Pu.methAt_mk ?v_a ?v_l ?v_c ?v_k ?v_f; (case v_a => k_is); (case v_l => k_is); (case v_c => k_is); (case v_k => k_is); (case v_f => k_is))
  (case u_mwrite => refine' Pu.methAt_mk ?v_a ?v_l ?v_c ?v_k ?v_f; (case v_a => k_is); (case v_l => k_is); (case v_c => k_is); (case v_k => k_is); (case v_f => k_is))
  (case u_mcells => refine' Pu.methAt_mk ?v_a ?v_l ?v_c ?v_k ?v_f; (case v_a => k_is); (case v_l => k_is); (case v_c => k_is); (case v_k => k_is); (case v_f => k_is))
  (case u_minit => refine' Pu.methAt_mk ?v_a ?v_l ?v_c ?v_k ?v_f; (case v_a => k_is); (case v_l => k_is); (case v_c => k_is); (case v_k => k_is); (case v_f => k_is))
  (case u_ccell =>
    refine' ⟨?w1, ?w3, ?w4, ?w5, ?w6, ?w7, ?w8, ?w9, ?w10, ?w11, ?w12, ?w13, ?w14, ?w15, ?w16, ?w17, ?w18⟩
    (case w1 => k_is); (case w3 => k_exc); (case w4 => k_is); (case w5 => k_is); (case w6 => k_is); (case w7 => k_is); (case w8 => k_is); (case w9 => k_is)
    (case w10 => k_is); (case w11 => k_is); (case w12 => k_is); (case w13 => k_is); (case w14 => kernel_rfl); (case w15 => k_is); (case w16 => k_is); (case w17 => k_is); (case w18 => k_is))
  (case u_ccells =>
    refine' ⟨?w1, ?w3, ?w4, ?w5, ?w6, ?w7, ?w8, ?w9, ?w10, ?w11, ?w12, ?w13, ?w14, ?w15, ?w16, ?w17, ?w18⟩
    (case w1 => k_is); (case w3 => k_exc); (case w4 => k_is); (case w5 => k_is); (case w6 => k_is); (case w7 => k_is); (case w8 => k_is); (case w9 => k_is)
    (case w10 => k_is); (case w11 => k_is); (case w12 => k_is); (case w13 => k_is); (case w14 => kernel_rfl); (case w15 => k_is); (case w16 => k_is); (case w17 => k_is); (case w18 => k_is))
  (case u_ccontent =>
    refine' ⟨?w1, ?w3, ?w4, ?w5, ?w6, ?w7, ?w8, ?w9, ?w10, ?w11, ?w12, ?w13, ?w14, ?w15, ?w16, ?w17, ?w18⟩
    (case w1 => k_is); (case w3 => k_exc); (case w4 => k_is); (case w5 => k_is); (case w6 => k_is); (case w7 => k_is); (case w8 => k_is); (case w9 => k_is)
    (case w10 => k_is); (case w11 => k_is); (case w12 => k_is); (case w13 => k_is); (case w14 => kernel_rfl); (case w15 => k_is); (case w16 => k_is); (case w17 => k_is); (case w18 => k_is))
  (case u_cfuse =>
    refine' ⟨?w1, ?w3, ?w4, ?w5, ?w6, ?w7, ?w8, ?w9, ?w10, ?w11, ?w12, ?w13, ?w14, ?w15, ?w16, ?w17, ?w18⟩
    (case w1 => k_is); (case w3 => k_exc); (case w4 => k_is); (case w5 => k_is); (case w6 => k_is); (case w7 => k_is); (case w8 => k_is); (case w9 => k_is)
    (case w10 => k_is); (case w11 => k_is); (case w12 => k_is); (case w13 => k_is); (case w14 => kernel_rfl); (case w15 => k_is); (case w16 => k_is); (case w17 => k_is); (case w18 => k_is))
  (case u_cfell =>
    refine' ⟨?w1, ?w3, ?w4, ?w5, ?w6, ?w7, ?w8, ?w9, ?w10, ?w11, ?w12, ?w13, ?w14, ?w15, ?w16, ?w17, ?w18⟩
    (case w1 => k_is); (case w3 => k_exc); (case w4 => k_is); (case w5 => k_is); (case w6 => k_is); (case w7 => k_is); (case w8 => k_is); (case w9 => k_is)
    (case w10 => k_is); (case w11 => k_is); (case w12 => k_is); (case w13 => k_is); (case w14 => kernel_rfl); (case w15 => k_is); (case w16 => k_is); (case w17 => k_is); (case w18 => k_is))
  (case u_n1 => k_is)
  (case u_ne1 => decide)
  (case u_ne2 => decide)
  (case u_ne3 => decide)
  (case u_zisinstance => k_is)
  (case u_zint => k_is)
  (case u_zbool => k_is)
  (case u_ztuple => k_is)
  (case u_zlen => k_is)
  (case u_zall => k_is)
  (case u_zabs => k_is)
  (case u_zlist => k_is)
  (case u_zrange => k_is)
  (case u_zmin => k_is)
  (case u_zstr => k_is)
  (case u_zsorted => k_is)
  (case u_zdict => k_is)
  (case u_zzip => k_is)
