import PyProof.Rows.All
import Wide.All
import OpenK.AllK
import Wide.FinOn
import HandS.Base
import HandS.Call
import HandS.List
import HandS.Comp
import HandS.Dict
import HandS.Words
import HandS.Lambda
import HandS.Codes
import HandS.Wide
import HandS.IsInst
import HandS.TupAny
import HandS.Style
import HandS.Exc
import HandS.ExcOwn
import HandS.WordsExc
import HandS.ExcIs
import HandS.EndTab
import HandS.ExcValue
import HandS.TupMul
import PySem.Challenge.RW_pursesapart_k00_banks_judged
set_option Elab.async false
set_option linter.all false
set_option maxRecDepth 100000
set_option maxHeartbeats 8000000
namespace Pu
open PySem L2
def top (i : Nat) : Stmt := PySem.Challenge.pw_pursesapart_k00_banks_judged.main.body.getD i (.Pass ⟨0, 0, 0, 0⟩)
abbrev sBegun : Stmt := top 14
abbrev sBlend : Stmt := top 15
abbrev sDraw : Stmt := top 16
abbrev sPick : Stmt := top 17

/-! ### heaps: all stays but at the state's dict d and the list g -/
def Kp (d g : Addr) (H H' : Hp) : Prop := ∀ b o, H b = some o → b ≠ d → b ≠ g → H' b = some o
theorem Kp.refl (d g : Addr) (H : Hp) : Kp d g H H := fun _ _ h _ _ => h
theorem Kp.trans {d g : Addr} {H H1 H2 : Hp} (a : Kp d g H H1) (b : Kp d g H1 H2) : Kp d g H H2 := fun c o h x y => b c o (a c o h x y) x y
theorem Kp.of {d g : Addr} {H H' : Hp} (s : Same H H') : Kp d g H H' := fun c o h _ _ => s c o h
theorem Kp.new {d g p : Addr} {H : Hp} {o : HO} (n : H p = none) : Kp d g H (upd H p o) := fun c u h _ _ => by
  rw [upd_ne (ne_of_none h n)]; exact h
theorem Kp.atD {d g : Addr} {H : Hp} {o : HO} : Kp d g H (upd H d o) := fun c u h x _ => by
  rw [upd_ne x]; exact h
theorem Kp.atG {d g : Addr} {H : Hp} {o : HO} : Kp d g H (upd H g o) := fun c u h _ y => by
  rw [upd_ne y]; exact h
theorem Kp.rd {d g a : Addr} {H H' : Hp} {u : HO} (k : Kp d g H H') (h : Rd H a u) (x : a ≠ d) (y : a ≠ g) : Rd H' a u := by
  rcases h with h | ⟨o, h⟩
  · exact .inl (k _ _ h x y)
  · exact .inr ⟨o, k _ _ h x y⟩
theorem Kp.seqL {K : PySem.W.Frag} {d g a : Addr} {H H' : Hp} {xs : List V} (k : Kp d g H H') (h : SqL K H a xs) (x : a ≠ d) (y : a ≠ g) : SqL K H' a xs := by
  rcases h with h | h
  · exact .inl (k.rd h x y)
  · exact .inr h
theorem Kp.seqT {K : PySem.W.Frag} {d g a : Addr} {H H' : Hp} {xs : List V} (k : Kp d g H H') (h : SqT K H a xs) (x : a ≠ d) (y : a ≠ g) : SqT K H' a xs := by
  rcases h with h | h
  · exact .inl (k.rd h x y)
  · exact .inr h

/-! ### the state of the draws -/
theorem n_gc : ¬ (("great" : Str) = "cells") := by decide +kernel
theorem n_gl : ¬ (("great" : Str) = "left") := by decide +kernel
theorem n_gt : ¬ (("great" : Str) = "turn") := by decide +kernel
theorem n_cl : ¬ (("cells" : Str) = "left") := by decide +kernel
theorem n_ct : ¬ (("cells" : Str) = "turn") := by decide +kernel
theorem n_lt : ¬ (("left" : Str) = "turn") := by decide +kernel
theorem n_tl : ¬ (("turn" : Str) = "left") := by decide +kernel
def stk (g c : Addr) (l t : Int) : List (Key × V) := [(.inr "great", .ref g), (.inr "cells", .ref c), (.inr "left", .int l), (.inr "turn", .int t)]
theorem stk_great (g c : Addr) (l t : Int) : valV (stk g c l t) (.inr "great" : Key) = some (.ref g) := valV_pos rfl
theorem stk_cells (g c : Addr) (l t : Int) : valV (stk g c l t) (.inr "cells" : Key) = some (.ref c) :=
  (valV_neg fun e => n_gc (Sum.inr.inj e)).trans (valV_pos rfl)
theorem stk_left (g c : Addr) (l t : Int) : valV (stk g c l t) (.inr "left" : Key) = some (.int l) :=
  (valV_neg fun e => n_gl (Sum.inr.inj e)).trans ((valV_neg fun e => n_cl (Sum.inr.inj e)).trans (valV_pos rfl))
theorem stk_turn (g c : Addr) (l t : Int) : valV (stk g c l t) (.inr "turn" : Key) = some (.int t) :=
  (valV_neg fun e => n_gt (Sum.inr.inj e)).trans ((valV_neg fun e => n_ct (Sum.inr.inj e)).trans ((valV_neg fun e => n_lt (Sum.inr.inj e)).trans (valV_pos rfl)))
theorem stk_putL (g c : Addr) (l t z : Int) : putK (stk g c l t) (.inr "left" : Key) (.int z) = stk g c z t := by
  unfold putK
  rw [valV_any, stk_left]
  rw [if_pos (by rfl)]
  simp only [stk, List.map_cons, List.map_nil, Sum.inr.injEq, n_gl, n_cl, n_tl, if_true, if_false]
theorem stk_putT (g c : Addr) (l t z : Int) : putK (stk g c l t) (.inr "turn" : Key) (.int z) = stk g c l z := by
  unfold putK
  rw [valV_any, stk_turn]
  rw [if_pos (by rfl)]
  simp only [stk, List.map_cons, List.map_nil, Sum.inr.injEq, n_gt, n_ct, n_lt, if_true, if_false]
theorem stk_merge (g c : Addr) (l t : Int) : mergeK [] (stk g c l t) = stk g c l t := by
  have e1 : putK ([] : List (Key × V)) (.inr "great") (.ref g) = [(.inr "great", .ref g)] := putK_new _ rfl
  have e2 : putK ([(.inr "great", .ref g)] : List (Key × V)) (.inr "cells") (.ref c) = [(.inr "great", .ref g), (.inr "cells", .ref c)] :=
    putK_new _ ((valV_neg fun e => n_gc (Sum.inr.inj e)).trans rfl)
  have e3 : putK ([(.inr "great", .ref g), (.inr "cells", .ref c)] : List (Key × V)) (.inr "left") (.int l) = [(.inr "great", .ref g), (.inr "cells", .ref c), (.inr "left", .int l)] :=
    putK_new _ ((valV_neg fun e => n_gl (Sum.inr.inj e)).trans ((valV_neg fun e => n_cl (Sum.inr.inj e)).trans rfl))
  have e4 : putK ([(.inr "great", .ref g), (.inr "cells", .ref c), (.inr "left", .int l)] : List (Key × V)) (.inr "turn") (.int t) = stk g c l t :=
    putK_new _ ((valV_neg fun e => n_gt (Sum.inr.inj e)).trans ((valV_neg fun e => n_ct (Sum.inr.inj e)).trans ((valV_neg fun e => n_lt (Sum.inr.inj e)).trans rfl)))
  show putK (putK (putK (putK ([] : List (Key × V)) (.inr "great") (.ref g)) (.inr "cells") (.ref c)) (.inr "left") (.int l)) (.inr "turn") (.int t) = _
  rw [e1, e2, e3, e4]
/-- the state stands at d: its lists at g and c, T the most turns that were -/
structure StA (H : Hp) (d g c : Addr) (T : Int) : Prop where
  dk : ∃ l t, H d = some (.dK (stk g c l t)) ∧ 0 ≤ l ∧ 0 ≤ t ∧ t ≤ T
  gr : ∃ gs : List Int, H g = some (.lst (gs.map V.int)) ∧ ∀ z ∈ gs, 0 ≤ z
  ce : ∃ cs : List Int, H c = some (.lst (cs.map V.int)) ∧ ∀ z ∈ cs, 0 ≤ z
  gc : g ≠ c
theorem StA.dg {H : Hp} {d g c : Addr} {T : Int} (S : StA H d g c T) : d ≠ g := by
  obtain ⟨l, t, h, _⟩ := S.dk; obtain ⟨gs, h2, _⟩ := S.gr
  exact ne_of h h2 (by intro z; cases z)
theorem StA.dc {H : Hp} {d g c : Addr} {T : Int} (S : StA H d g c T) : d ≠ c := by
  obtain ⟨l, t, h, _⟩ := S.dk; obtain ⟨gs, h2, _⟩ := S.ce
  exact ne_of h h2 (by intro z; cases z)
theorem StA.mono {H : Hp} {d g c : Addr} {T T' : Int} (S : StA H d g c T) (h : T ≤ T') : StA H d g c T' := by
  obtain ⟨l, t, h1, h2, h3, h4⟩ := S.dk
  exact ⟨⟨l, t, h1, h2, h3, Int.le_trans h4 h⟩, S.gr, S.ce, S.gc⟩
theorem StA.same {H H' : Hp} {d g c : Addr} {T : Int} (S : StA H d g c T) (s : Same H H') : StA H' d g c T := by
  obtain ⟨l, t, h1, h2, h3, h4⟩ := S.dk
  obtain ⟨gs, h5, h6⟩ := S.gr
  obtain ⟨cs, h7, h8⟩ := S.ce
  exact ⟨⟨l, t, s _ _ h1, h2, h3, h4⟩, ⟨gs, s _ _ h5, h6⟩, ⟨cs, s _ _ h7, h8⟩, S.gc⟩
theorem StA.new {H : Hp} {d g c p : Addr} {T : Int} {o : HO} (S : StA H d g c T) (n : H p = none) : StA (upd H p o) d g c T :=
  S.same fun b u e => by rw [upd_ne (ne_of_none e n)]; exact e
/-- the bound of the turns: far beyond what a law draws -/
abbrev TB : Int := 1000000000000

def spBegun (K : PySem.W.Frag) : Sp := fun vs H Q _ => ∃ (a : Addr) (ns : List Int), vs = [.ref a] ∧ SqL K H a (ns.map V.int) ∧ ns.length ≤ 1000 ∧
  ∀ (d g c : Addr) (H' : Hp), Same H H' → H d = none → H g = none → H c = none → StA H' d g c 0 → Q (.ref d) H'
def spBlend : Sp := fun vs H Q _ => ∃ (d g c : Addr) (T : Int), vs = [.ref d] ∧ StA H d g c T ∧ T < TB ∧
  ∀ (f : Int) (H' : Hp), 0 ≤ f → Kp d g H H' → StA H' d g c (T + 1) → Q (.int f) H'
def spDraw : Sp := fun vs H Q _ => ∃ (d g c : Addr) (T n : Int), vs = [.ref d, .int n] ∧ StA H d g c T ∧ T < TB ∧ 0 < n ∧ n ≤ 1000000000000000000 ∧
  ∀ (r : Int) (H' : Hp), 0 ≤ r → r < n → Kp d g H H' → StA H' d g c (T + 1) → Q (.int r) H'
def spPick (K : PySem.W.Frag) : Sp := fun vs H Q _ => ∃ (d g c p : Addr) (T : Int) (xs : List V), vs = [.ref d, .ref p] ∧ StA H d g c T ∧ T < TB ∧ (SqL K H p xs ∨ SqT K H p xs) ∧ p ≠ d ∧ p ≠ g ∧ xs ≠ [] ∧ xs.length ≤ 100000 ∧
  ∀ (x : V) (H' : Hp), x ∈ xs → Kp d g H H' → StA H' d g c (T + 1) → Q x H'
end Pu

namespace Pu
open PySem L2
theorem getS {H : Hp} {d : Addr} {kvs : List (Key × V)} {k : Key} {v : V} (h : H d = some (.dK kvs)) (e : valV kvs k = some v) : DGet H d (kV k) (some v) := e ▸ DGet.k h
def primes : List Int := [2147483249, 2147483237, 2147483179]
theorem prime_at {i : Nat} {y : V} (h : (primes.map V.int)[i]? = some y) : ∃ z : Int, y = .int z ∧ 0 < z ∧ z < 2147483648 := by
  match i, h with
  | 0, h => exact ⟨_, (Option.some.inj h).symm, by decide, by decide⟩
  | 1, h => exact ⟨_, (Option.some.inj h).symm, by decide, by decide⟩
  | 2, h => exact ⟨_, (Option.some.inj h).symm, by decide, by decide⟩
  | n + 3, h => cases h
theorem int_at {ns : List Int} {i : Nat} {y : V} (h : (ns.map V.int)[i]? = some y) : ∃ z, ns[i]? = some z ∧ y = .int z := by
  rw [List.getElem?_map] at h
  cases e : ns[i]? with
  | none => rw [e] at h; cases h
  | some z => rw [e] at h; exact ⟨z, rfl, (Option.some.inj h).symm⟩
section
variable {P : Program} {w : World} {K : PySem.W.Frag} {mg : Str → Option Value} {base : Heap}
theorem scBl : FnScope ["state", "turn", "found", "prime", "blend", "cell"] ["state"] (defScope sBlend) := ⟨rfl, rfl, rfl, by decide +kernel, rfl, by decide +kernel, by decide +kernel⟩
theorem ok_blend {f : Addr} {fd : FuncData} (F : Fun K "_law_blended" "_law_blended" sBlend f fd) (mi : mg "int" = none) : FnOk P w K mg base CX0 1 f fd ["state"] spBlend := by
  refine F.ok scBl (fun vs H Q E h => ?_) (fun cdv A outer s H vs Q E hr h => ?_)
  · obtain ⟨d, g, c, T, rfl, _⟩ := h
    rfl
  · obtain ⟨d, g, c, T, rfl, S, hT, k⟩ := h
    have hu := hu_of hr
    have hT' : T < 1000000000000 := hT
    obtain ⟨⟨l, t, hd, l0, t0, tT⟩, ⟨gs, hg, g0⟩, ⟨cs, hc, c0⟩, gc⟩ := id S
    refine ⟨_, pss_cons (ps_par (i := 1) (j := 2) rfl scBl.nd rfl rfl (by decide) rfl rfl (pa_cons (pe_op op_add (pe_dget hu (pv 0) pe_str (fun _ _ => rfl)) pe_int) (pa_cons pe_int pa_nil)) (by rfl))
      (pss_cons (ps_dput hu (pv 0) pe_str (pv 1) rfl)
      (pss_cons (ps_for PassesOwn.never rfl (pi_list (pe_lst (pa_cons pe_int (pa_cons pe_int (pa_cons pe_int pa_nil))))) (pg_name (i := 3) scBl.nd rfl (Or.inl rfl))
        (pss_cons (ps_set (i := 4) scBl.nd rfl (Or.inl rfl) (pe_op op_add (pe_op op_mul pe_int (pv 1)) (pe_op op_fdiv (pv 3) pe_int)))
        (pss_cons (ps_for PassesOwn.never rfl (pi_list (pe_dget hu (pv 0) pe_str (fun _ _ => rfl))) (pg_name (i := 5) scBl.nd rfl (Or.inl rfl))
          (pss_one (ps_set (i := 4) scBl.nd rfl (Or.inl rfl) (pe_op op_mod (pe_callTy call_int1 (by rfl) mi (by decide +kernel) (pa_cons (pe_op op_add (pe_op op_add (pe_op op_mul (pv 4) pe_int) (pv 5)) (pv 1)) pa_nil)) (pv 3)))))
        (pss_one (ps_set (i := 2) scBl.nd rfl (Or.inl rfl) (pe_op op_add (pe_op op_mul (pv 2) pe_int) (pe_op op_mod (pe_callTy call_int1 (by rfl) mi (by decide +kernel) (pa_cons (pe_op op_pow (pv 4) pe_int) pa_nil)) (pv 3))))))))
      (pss_one (ps_ret (pv 2))))), ?_⟩
    refine ⟨_, rfl, d, .int t, rfl, getS hd (stk_turn g c l t), t, 1, rfl, rfl, .int (t + 1), .int 0, rfl, ?_⟩
    refine ⟨_, rfl, _, rfl, d, _, rfl, DPut.k (k := Sum.inr "turn") hd (by show 4 < sizeLine; decide), ?_⟩
    rw [stk_putT]
    have hdc := S.dc
    have hdg := S.dg
    refine ⟨(by show 3 ≤ sizeLine; decide), fun p hp => ?_⟩
    have np : H p = none := by
      by_cases e : p = d
      · rw [e, upd_same] at hp; cases hp
      · rw [upd_ne e] at hp; exact hp
    have pd : d ≠ p := ne_of_none hd np
    have pg : g ≠ p := ne_of_none hg np
    have pc : c ≠ p := ne_of_none hc np
    obtain ⟨H2, eH⟩ : ∃ H2, H2 = upd (upd H d (.dK (stk g c l (t + 1)))) p (.lst [V.int 2147483249, V.int 2147483237, V.int 2147483179]) := ⟨_, rfl⟩
    have hd2 : H2 d = some (.dK (stk g c l (t + 1))) := by rw [eH, upd_ne pd, upd_same]
    have hg2 : H2 g = some (.lst (gs.map V.int)) := by rw [eH, upd_ne pg, upd_ne hdg.symm]; exact hg
    have hc2 : H2 c = some (.lst (cs.map V.int)) := by rw [eH, upd_ne pc, upd_ne hdc.symm]; exact hc
    have kp : Kp d g H H2 := by rw [eH]; exact Kp.trans Kp.atD (Kp.new hp)
    have hp2 : H2 p = some (.lst (primes.map V.int)) := by rw [eH]; exact upd_same
    rw [← eH]
    clear eH
    refine ⟨p, rfl, ⟨_, SqL.of hp2⟩, for_list (K := K) (a := p) (xs := primes.map V.int)
      (fun i σ H' => H2 = H' ∧ ∃ (f : Int) (o3 o4 o5 : Option V), σ = [some (.ref d), some (.int (t + 1)), some (.int f), o3, o4, o5] ∧ 0 ≤ f)
      ⟨rfl, 0, none, none, none, rfl, Int.le_refl 0⟩ (fun i σ H' _ h => by obtain ⟨rfl, _⟩ := h; exact SqL.of hp2) ?_ ?_⟩
    · rintro i y σ H' hi ⟨rfl, f, o3, o4, o5, rfl, hf⟩
      obtain ⟨z, rfl, z0, z1⟩ := prime_at hi
      refine ⟨_, rfl, _, _, rfl, rfl, .inl ⟨by decide, by decide⟩, _, rfl, z, 73, rfl, rfl, ⟨by decide, by decide⟩, _, _, rfl, rfl, ?_⟩
      -- for cell in state['cells']
      have q0 : (0 : Int) ≤ z / 73 := Int.ediv_nonneg (by omega) (by decide)
      have q1 : z / 73 ≤ z := Int.ediv_le_self _ (by omega)
      refine ⟨_, rfl, d, _, rfl, getS hd2 (stk_cells g c l (t + 1)), c, rfl, ⟨_, SqL.of hc2⟩, for_list (K := K) (a := c) (xs := cs.map V.int)
        (fun j σ H' => H2 = H' ∧ ∃ (b : Int) (o5 : Option V), σ = [some (.ref d), some (.int (t + 1)), some (.int f), some (.int z), some (.int b), o5] ∧ 0 ≤ b ∧ b < 2 ^ 64)
        ⟨rfl, _, o5, rfl, by omega, by omega⟩ (fun i σ H' _ h => by obtain ⟨rfl, _⟩ := h; exact SqL.of hc2) ?_ ?_⟩
      · rintro j x σ H' hj ⟨rfl, b, o5, rfl, b0, b1⟩
        obtain ⟨e, _, rfl⟩ := int_at hj
        refine ⟨_, rfl, _, _, rfl, rfl, .inr ⟨by decide, by decide⟩, _, rfl, _, e, rfl, rfl, _, rfl, _, t + 1, rfl, rfl, .inl ⟨_, rfl, _, rfl, _, z, rfl, rfl, z0, ?_⟩⟩
        have m0 := Int.emod_nonneg (b * 69621 + e + (t + 1)) (show z ≠ 0 by omega)
        have m1 := Int.emod_lt_of_pos (b * 69621 + e + (t + 1)) z0
        exact ⟨rfl, _, _, rfl, m0, by omega⟩
      · rintro σ H' ⟨rfl, b, o5, rfl, b0, b1⟩
        refine ⟨_, rfl, _, _, rfl, rfl, .inr ⟨by decide, by decide⟩, _, rfl, b, 5, rfl, rfl, ⟨by decide, by decide, by omega⟩, .inl ⟨_, rfl, _, rfl, _, z, rfl, rfl, z0, _, _, rfl, rfl, ?_⟩⟩
        have m0 := Int.emod_nonneg (b ^ (5 : Int).toNat) (show z ≠ 0 by omega)
        exact ⟨rfl, _, _, _, _, rfl, by omega⟩
    · rintro σ H' ⟨rfl, f, o3, o4, o5, rfl, hf⟩
      refine ⟨_, rfl, ?_⟩
      exact k f _ hf kp ⟨⟨l, t + 1, hd2, l0, by omega, by omega⟩, ⟨gs, hg2, g0⟩, ⟨cs, hc2, c0⟩, gc⟩
end
end Pu

namespace Pu
open PySem L2
theorem dp_ints {K : PySem.W.Frag} {H : Hp} : ∀ gs : List Int, DpAll K H (gs.map V.int) (gs.map PyData.int)
  | [] => .nil
  | i :: r => .cons (.int i) (dp_ints r)
theorem lay_ints : ∀ gs : List Int, PyData.canLayAll0 (gs.map PyData.int) = true
  | [] => rfl
  | i :: r => by
    show (PyData.canLay0 (.int i) && PyData.canLayAll0 (r.map PyData.int)) = true
    rw [lay_ints r]; rfl
theorem dep_ints : ∀ gs : List Int, PyData.depthAll (gs.map PyData.int) = 0
  | [] => rfl
  | i :: r => by
    show max (PyData.depth (.int i)) (PyData.depthAll (r.map PyData.int)) = 0
    rw [dep_ints r]; rfl
theorem shaped_ints (gs : List Int) : SeqAt.shaped (.list (gs.map PyData.int)) = true := by
  show (PyData.canLayAll0 (gs.map PyData.int) && decide (PyData.depthAll (gs.map PyData.int) + 1 ≤ 64)) = true
  rw [lay_ints, dep_ints]; rfl
theorem eqv_nil (gs : List Int) : PyData.eqv (.list (gs.map PyData.int)) (.list []) = gs.isEmpty := by
  cases gs <;> rfl
section
variable {P : Program} {w : World} {K : PySem.W.Frag} {mg : Str → Option Value} {base : Heap}
theorem scDr : FnScope ["state", "size_here", "found"] ["state", "size_here"] (defScope sDraw) := ⟨rfl, rfl, rfl, by decide +kernel, rfl, by decide +kernel, by decide +kernel⟩
/-- behind a bound on the state: what the draw does with what is left -/
theorem ok_draw {f fB : Addr} {fd fdB : FuncData} (F : Fun K "_law_draw" "_law_draw" sDraw f fd) (mi : mg "int" = none)
    (GB : FnOk P w K mg base CX0 1 fB fdB ["state"] spBlend) (bB : Binds K fdB ["state"] []) (kB : PySem.W.keepIn K (.ref fB) = true) (mB : mg "_law_blended" = some (.ref fB)) :
    FnOk P w K mg base CX0 2 f fd ["state", "size_here"] spDraw := by
  refine F.ok scDr (fun vs H Q E h => ?_) (fun cdv A outer s H vs Q E hr h => ?_)
  · obtain ⟨d, g, c, T, n, rfl, _⟩ := h
    rfl
  · obtain ⟨d, g, c, T, n, rfl, S, hT, n0, n1, k⟩ := h
    have hu := hu_of hr
    obtain ⟨⟨l, t, hd, l0, t0, tT⟩, ⟨gs, hg, g0⟩, ⟨cs, hc, c0⟩, gc⟩ := id S
    have hdg := S.dg
    refine ⟨_, C8.pss_cut (ps_if (pt_cmpR op_eq (pe_dget hu (pv 0) pe_str (fun _ _ => rfl)) pe_int (nomark _))
        (pss_one (ps_dput hu (pv 0) pe_str (pe_ifExp (pt_cmpR (op_neD hr.units) (pe_dget hu (pv 0) pe_str (fun _ _ => rfl)) (pe_lst pa_nil) (nomark _))
          (pe_bm PySem.F.plainAttrs_list PySem.F.slot_list_pop PySem.F.type_list_pop mt_popAt (pe_dget hu (pv 0) pe_str (fun _ _ => rfl)) (pa_cons pe_int pa_nil))
          (pe_call GB hr rfl mB kB bB .nil pass0 (pa_cons (pv 0) pa_nil))) rfl)) pss_nil)
      (pss_cons (ps_set (i := 2) scDr.nd rfl (Or.inl rfl) (pe_op op_mod (pe_callTy call_int1 (by rfl) mi (by decide +kernel) (pa_cons (pe_dget hu (pv 0) pe_str (fun _ _ => rfl)) pa_nil)) (pv 1)))
      (pss_cons (ps_dput hu (pv 0) pe_str (pe_op op_fdivW (pe_dget hu (pv 0) pe_str (fun _ _ => rfl)) (pv 1)) rfl)
      (pss_one (ps_ret (pv 2))))), ?_⟩
    -- between: z is left
    refine ⟨fun σ' H' => σ' = [some (.ref d), some (.int n), none] ∧ Kp d g H H' ∧ StA H' d g c (T + 1), ?_, ?_⟩
    · refine ⟨_, rfl, d, _, rfl, getS hd (stk_left g c l t), rfl, _, rfl, ?_⟩
      refine ite2 (fun _ => ?_) (fun _ => ?_)
      · refine ⟨_, rfl, d, _, rfl, getS hd (stk_great g c l t), (by show 0 ≤ sizeLine; exact Nat.zero_le _), fun p hp => ?_⟩
        have pg : g ≠ p := ne_of_none hg hp
        have pd : d ≠ p := ne_of_none hd hp
        have pc : c ≠ p := ne_of_none hc hp
        have kp : Kp d g H (upd H p (.lst [])) := Kp.new hp
        have hg1 : (upd H p (.lst [])) g = some (.lst (gs.map V.int)) := by rw [upd_ne pg]; exact hg
        have hd1 : (upd H p (.lst [])) d = some (.dK (stk g c l t)) := by rw [upd_ne pd]; exact hd
        have hc1 : (upd H p (.lst [])) c = some (.lst (cs.map V.int)) := by rw [upd_ne pc]; exact hc
        have S1 : StA (upd H p (.lst [])) d g c T := S.new hp
        refine ⟨.list (gs.map PyData.int), .list [], .lst (SqL.of hg1) (dp_ints gs), .lst (SqL.of upd_same) .nil, shaped_ints gs, shaped_ints [], _, rfl, ?_⟩
        rw [eqv_nil]
        generalize upd H p (.lst []) = H1 at kp hg1 hd1 hc1 S1
        cases gs with
        | nil =>
          refine iteF ?_
          refine ⟨_, rfl, d, g, c, T, rfl, S1, hT, fun f H2 f0 kp2 S2 => ?_⟩
          obtain ⟨l2, t2, hd2, _, t20, tT2⟩ := S2.dk
          refine ⟨_, rfl, d, _, rfl, DPut.k (k := Sum.inr "left") hd2 (by show 4 < sizeLine; decide), ?_⟩
          rw [stk_putL]
          refine ⟨rfl, (kp.trans kp2).trans Kp.atD, ⟨f, t2, upd_same, f0, t20, tT2⟩, ?_, ?_, gc⟩
          · obtain ⟨gs', h1, h2⟩ := S2.gr
            exact ⟨gs', by rw [upd_ne hdg.symm]; exact h1, h2⟩
          · obtain ⟨cs', h1, h2⟩ := S2.ce
            exact ⟨cs', by rw [upd_ne S.dc.symm]; exact h1, h2⟩
        | cons z r =>
          refine iteT ?_
          refine ⟨_, rfl, d, _, rfl, getS hd1 (stk_great g c l t), .inl ⟨rfl, _, SqL.of hg1⟩, g, _, 0, 0, .int z, rfl, rfl, hg1, by decide, by decide, (ixN_seq (by unfold ixN; simp)).1, rfl, ?_⟩
          have hd2 : (upd H1 g (.lst (((z :: r).map V.int).eraseIdx 0))) d = some (.dK (stk g c l t)) := by rw [upd_ne hdg]; exact hd1
          refine ⟨_, rfl, d, _, rfl, DPut.k (k := Sum.inr "left") hd2 (by show 4 < sizeLine; decide), ?_⟩
          rw [stk_putL]
          refine ⟨rfl, (kp.trans Kp.atG).trans Kp.atD, ⟨z, t, upd_same, g0 z List.mem_cons_self, t0, by omega⟩, ⟨r, ?_, fun y hy => g0 y (List.mem_cons_of_mem _ hy)⟩, ⟨cs, ?_, c0⟩, gc⟩
          · rw [upd_ne hdg.symm]; exact upd_same
          · rw [upd_ne S.dc.symm, upd_ne gc.symm]; exact hc1
      · exact ⟨rfl, Kp.refl d g H, S.mono (by omega)⟩
    · rintro σ' H' ⟨rfl, kp, S'⟩
      obtain ⟨z, t', hd1, z0, t0', tT'⟩ := S'.dk
      have m0 := Int.emod_nonneg z (show n ≠ 0 by omega)
      have m1 := Int.emod_lt_of_pos z n0
      refine ⟨_, rfl, d, _, rfl, getS hd1 (stk_left g c z t'), .inl ⟨z, rfl, _, rfl, z, n, rfl, rfl, n0, ?_⟩⟩
      refine ⟨_, rfl, d, _, rfl, getS hd1 (stk_left g c z t'), _, rfl, z, n, rfl, rfl, wide_div (b := 60) n0 (by omega) (by decide) (by decide), ?_⟩
      refine ⟨_, rfl, d, _, rfl, DPut.k (k := Sum.inr "left") hd1 (by show 4 < sizeLine; decide), ?_⟩
      rw [stk_putL]
      refine ⟨_, rfl, ?_⟩
      refine k _ _ m0 m1 (kp.trans Kp.atD) ⟨⟨z / n, t', upd_same, Int.ediv_nonneg z0 (by omega), t0', tT'⟩, ?_, ?_, gc⟩
      · obtain ⟨gs', h1, h2⟩ := S'.gr
        exact ⟨gs', by rw [upd_ne hdg.symm]; exact h1, h2⟩
      · obtain ⟨cs', h1, h2⟩ := S'.ce
        exact ⟨cs', by rw [upd_ne S.dc.symm]; exact h1, h2⟩
end
end Pu

namespace Pu
open PySem L2
section
variable {P : Program} {w : World} {K : PySem.W.Frag} {mg : Str → Option Value} {base : Heap}
theorem scPi : FnScope ["state", "several"] ["state", "several"] (defScope sPick) := ⟨rfl, rfl, rfl, by decide +kernel, rfl, by decide +kernel, by decide +kernel⟩
theorem ok_pick {f fD : Addr} {fd fdD : FuncData} (F : Fun K "_law_pick" "_law_pick" sPick f fd) (ml : mg "len" = none)
    (GD : FnOk P w K mg base CX0 2 fD fdD ["state", "size_here"] spDraw) (bD : Binds K fdD ["state", "size_here"] []) (kD : PySem.W.keepIn K (.ref fD) = true) (mD : mg "_law_draw" = some (.ref fD)) :
    FnOk P w K mg base CX0 3 f fd ["state", "several"] (spPick K) := by
  refine F.ok scPi (fun vs H Q E h => ?_) (fun cdv A outer s H vs Q E hr h => ?_)
  · obtain ⟨d, g, c, p, T, xs, rfl, _⟩ := h
    rfl
  · obtain ⟨d, g, c, p, T, xs, rfl, S, hT, hx, pd, pg, x0, x1, k⟩ := h
    refine ⟨_, pss_one (ps_ret (pe_ix ix_seq (pv 1) (pe_call GD hr rfl mD kD bD .nil pass0 (pa_cons (pv 0) (pa_cons (pe_callB call_len_seq (by rfl) ml boot_len (pa_cons (pv 1) pa_nil)) pa_nil))) (fun _ _ => rfl))), ?_⟩
    have l0 : 0 < xs.length := List.length_pos_iff.mpr x0
    refine ⟨_, rfl, _, rfl, _, rfl, p, xs, rfl, hx, d, g, c, T, _, rfl, S, hT, by omega, by omega, fun r H' r0 r1 kp S' => ?_⟩
    have hk : r.toNat < xs.length := by omega
    have e : atI xs r = some xs[r.toNat] := by
      have q := atI_nat (xs := xs) (j := r.toNat) (v := xs[r.toNat]) (List.getElem?_eq_getElem hk)
      rw [show ((r.toNat : Nat) : Int) = r by omega] at q
      exact q
    rcases hx with hx | hx
    · exact .inl ⟨p, xs, r, _, rfl, rfl, kp.seqL hx pd pg, e, k _ _ (List.getElem_mem hk) kp S'⟩
    · exact .inr (.inl ⟨p, xs, r, _, rfl, rfl, kp.seqT hx pd pg, e, k _ _ (List.getElem_mem hk) kp S'⟩)

theorem scBe : FnScope ["script", "great", "cell"] ["script"] (defScope sBegun) := ⟨rfl, rfl, rfl, by decide +kernel, rfl, by decide +kernel, by decide +kernel⟩
theorem abs_nn (z : Int) : 0 ≤ (if z < 0 then -z else z) := by split <;> omega
theorem ok_begun {f : Addr} {fd : FuncData} (F : Fun K "_law_begun" "_law_begun" sBegun f fd) (ma : mg "abs" = none) : FnOk P w K mg base CX0 1 f fd ["script"] (spBegun K) := by
  refine F.ok scBe (fun vs H Q E h => ?_) (fun cdv A outer s H vs Q E hr h => ?_)
  · obtain ⟨a, ns, rfl, _⟩ := h
    rfl
  · obtain ⟨a, ns, rfl, hS, hl, k⟩ := h
    refine ⟨_, pss_cons (ps_setLc (i := 1) (own := [("cell", 2)]) (g := gName 2) rfl scBe.nd rfl rfl (sw_true rfl rfl rfl (by decide +kernel)) (pi_list (pv 0)) (blkOk_by (own := [("cell", 2)]) (N := ["script", "great", "cell"]) (sc := defScope sBegun) (by decide +kernel)) (fun _ _ _ _ _ => pg_name (i := 2) scBe.nd rfl (Or.inl rfl))
          (fun _ _ _ _ _ => pts_one (pt_cmpR op_ge (pe_callB call_abs (by rfl) ma (by decide +kernel) (pa_cons (pv 2) pa_nil)) (pe_op op_pow pe_int pe_int) (nomark _)))
          (fun _ _ _ _ _ => pe_op op_sub (pe_callB call_abs (by rfl) ma (by decide +kernel) (pa_cons (pv 2) pa_nil)) (pe_op op_pow pe_int pe_int)))
      (pss_one (ps_ret (pe_disp (pps_cons pe_str (pv 1) (pps_cons pe_str (pe_lc (own := [("cell", 2)]) (g := gName 2) rfl scBe.nd (pi_list (pv 0)) (blkOk_by (own := [("cell", 2)]) (N := ["script", "great", "cell"]) (sc := defScope sBegun) (by decide +kernel)) (fun _ _ _ _ _ => pg_name (i := 2) scBe.nd rfl (Or.inl rfl)) (fun _ _ _ _ _ => pts_nil)
          (fun _ _ _ _ _ => pe_callB call_abs (by rfl) ma (by decide +kernel) (pa_cons (pv 2) pa_nil))) (pps_cons pe_str pe_int (pps_cons pe_str pe_int pps_nil)))) (by rfl) (by rfl) (fun z => by cases z) (by decide)))), ?_⟩
    refine ⟨_, rfl, a, rfl, ⟨_, hS⟩, fun D hD => lc_list (K := K) (a := a) (xs := ns.map V.int) (fun i H' => ∃ gs : List Int, H' = upd H D (.lst (gs.map V.int)) ∧ (∀ z ∈ gs, 0 ≤ z) ∧ gs.length ≤ i)
      ⟨[], rfl, (fun z hz => nomatch hz), Nat.le_refl 0⟩ (fun i H' _ ⟨gs, e, _⟩ => by rw [e]; exact Same.seq (fun b o q => by rw [upd_ne (ne_of_none q hD)]; exact q) hS) ?_ ?_⟩
    · rintro i x H' hx ⟨gs, rfl, g0, gl⟩
      have hil : i < ns.length := by have := (List.getElem?_eq_some_iff.mp hx).1; rwa [List.length_map] at this
      obtain ⟨z, hz, rfl⟩ := int_at hx
      refine ⟨rfl, _, rfl, z, rfl, 10, 18, rfl, rfl, ⟨by decide, by decide, by decide⟩, _, _, rfl, rfl, _, rfl, ?_⟩
      refine ite2 (fun c => ?_) (fun _ => ?_)
      · have c' := of_decide_eq_true c
        refine ⟨_, rfl, z, rfl, 10, 18, rfl, rfl, ⟨by decide, by decide, by decide⟩, _, _, rfl, rfl, _, upd_same, ?_, gs ++ [(if z < 0 then -z else z) - 10 ^ (18 : Int).toNat], ?_, ?_, ?_⟩
        · exact small1000 (by rw [List.length_map]; omega)
        · rw [upd_upd, List.map_append]; rfl
        · intro y hy
          rcases List.mem_append.mp hy with hy | hy
          · exact g0 y hy
          · have e : y = _ := List.mem_singleton.mp hy
            rw [e]; omega
        · rw [List.length_append]; exact Nat.succ_le_succ gl
      · exact ⟨gs, rfl, g0, Nat.le_succ_of_le gl⟩
    · rintro H' ⟨gs, rfl, g0, gl⟩
      have nD : a ≠ D ∨ True := .inr trivial
      have s1 : Same H (upd H D (.lst (gs.map V.int))) := fun b o q => by rw [upd_ne (ne_of_none q hD)]; exact q
      refine fun p hp => ?_
      have np : H p = none := s1.free hp
      have pD : D ≠ p := fun e => by rw [← e, upd_same] at hp; cases hp
      have s2 : Same (upd H D (.lst (gs.map V.int))) (upd (upd H D (.lst (gs.map V.int))) p (.dK [])) := fun b o q => by rw [upd_ne (ne_of_none q hp)]; exact q
      refine ⟨_, rfl, _, rfl, a, rfl, ⟨_, (s1.trans s2).seq hS⟩, fun D2 hD2 => ?_⟩
      have nD2 : H D2 = none := (s1.trans s2).free hD2
      have D2D : D ≠ D2 := fun e => by rw [← e, upd_ne pD, upd_same] at hD2; cases hD2
      have D2p : p ≠ D2 := fun e => by rw [← e, upd_same] at hD2; cases hD2
      have s3 : ∀ o, Same (upd (upd H D (.lst (gs.map V.int))) p (.dK [])) (upd (upd (upd H D (.lst (gs.map V.int))) p (.dK [])) D2 o) := fun o' b o q => by rw [upd_ne (ne_of_none q hD2)]; exact q
      refine lc_list (K := K) (a := a) (xs := ns.map V.int) (fun i H' => ∃ cs : List Int, H' = upd (upd (upd H D (.lst (gs.map V.int))) p (.dK [])) D2 (.lst (cs.map V.int)) ∧ (∀ z ∈ cs, 0 ≤ z) ∧ cs.length ≤ i)
        ⟨[], rfl, (fun z hz => nomatch hz), Nat.le_refl 0⟩ (fun i H' _ ⟨cs, e, _⟩ => by rw [e]; exact ((s1.trans s2).trans (s3 _)).seq hS) ?_ ?_
      · rintro i x H' hx ⟨cs, rfl, c0, cl⟩
        have hil : i < ns.length := by have := (List.getElem?_eq_some_iff.mp hx).1; rwa [List.length_map] at this
        obtain ⟨z, hz, rfl⟩ := int_at hx
        refine ⟨rfl, ?_⟩
        dsimp only [tYes]
        refine iteT ?_
        refine ⟨_, rfl, z, rfl, _, upd_same, ?_, cs ++ [if z < 0 then -z else z], ?_, ?_, ?_⟩
        · exact small1000 (by rw [List.length_map]; omega)
        · rw [upd_upd, List.map_append]; rfl
        · intro y hy
          rcases List.mem_append.mp hy with hy | hy
          · exact c0 y hy
          · have e : y = _ := List.mem_singleton.mp hy
            rw [e]; exact abs_nn z
        · rw [List.length_append]; exact Nat.succ_le_succ cl
      · rintro H' ⟨cs, rfl, c0, cl⟩
        refine ⟨by rw [upd_ne D2p, upd_same], stk D D2 0 0, rfl, (by show 4 ≤ 15; decide), ?_⟩
        rw [stk_merge]
        refine k p D D2 _ ?_ np hD nD2 ⟨⟨0, 0, upd_same, Int.le_refl 0, Int.le_refl 0, Int.le_refl 0⟩, ⟨gs, ?_, g0⟩, ⟨cs, ?_, c0⟩, D2D⟩
        · intro b o q
          rw [upd_ne (ne_of_none q np)]
          exact ((s1.trans s2).trans (s3 _)) b o q
        · rw [upd_ne pD, upd_ne D2D, upd_ne pD, upd_same]
        · rw [upd_ne D2p.symm, upd_same]
end
end Pu

namespace Pu
open PySem PySem.Spec PyProof.Rows L2
/-! ### values without objects of one's own: N tells at which addresses their parts may stand -/
inductive Pv (N : Addr → Prop) (H : Hp) (m : Nat) (P : V → Prop) : V → Prop where
  | non : Pv N H m P .non
  | bl (b : Bool) : Pv N H m P (.bl b)
  | int (i : Int) : Pv N H m P (.int i)
  | str (z : Str) : Pv N H m P (.str z)
  | tup (a : Addr) (xs : List V) : H a = some (.tup xs) → N a → xs.length ≤ m → (∀ x ∈ xs, P x) → Pv N H m P (.ref a)
  | lst (a : Addr) (xs : List V) : H a = some (.lst xs) → N a → xs.length ≤ m → (∀ x ∈ xs, P x) → Pv N H m P (.ref a)
  | dct (a : Addr) : H a = some (.dK []) → N a → Pv N H m P (.ref a)
/-- nested below n, no more than m items each -/
def PV (m : Nat) : Nat → (Addr → Prop) → Hp → V → Prop
  | 0 => fun _ _ _ => False
  | n + 1 => fun N H => Pv N H m (PV m n N H)
/-- what is told of a value stays as long as its parts stand -/
def Mon (R : (Addr → Prop) → Hp → V → Prop) : Prop := ∀ (N N' : Addr → Prop) (H H' : Hp) (v : V), (∀ a o, N a → H a = some o → N' a ∧ H' a = some o) → R N H v → R N' H' v
theorem Pv.imp {N N' : Addr → Prop} {H H' : Hp} {m m' : Nat} {P P' : V → Prop} (k : ∀ a o, N a → H a = some o → N' a ∧ H' a = some o) (hm : m ≤ m') (hp : ∀ x, P x → P' x) {v : V} (h : Pv N H m P v) : Pv N' H' m' P' v := by
  cases h with
  | non => exact .non
  | bl b => exact .bl b
  | int i => exact .int i
  | str z => exact .str z
  | tup a xs e x l q => exact .tup a xs (k _ _ x e).2 (k _ _ x e).1 (Nat.le_trans l hm) fun x hx => hp x (q x hx)
  | lst a xs e x l q => exact .lst a xs (k _ _ x e).2 (k _ _ x e).1 (Nat.le_trans l hm) fun x hx => hp x (q x hx)
  | dct a e x => exact .dct a (k _ _ x e).2 (k _ _ x e).1
theorem PV.imp {N N' : Addr → Prop} {H H' : Hp} {m m' : Nat} (k : ∀ a o, N a → H a = some o → N' a ∧ H' a = some o) (hm : m ≤ m') : ∀ (n : Nat) {v : V}, PV m n N H v → PV m' n N' H' v
  | 0, _, h => h
  | n + 1, _, h => Pv.imp k hm (fun _ q => PV.imp k hm n q) h
theorem PV.mon (m n : Nat) : Mon (PV m n) := fun _ _ _ _ _ k h => PV.imp k (Nat.le_refl m) n h
theorem PV.up {N : Addr → Prop} {H : Hp} {m : Nat} : ∀ {n : Nat} {v : V}, PV m n N H v → PV m (n + 1) N H v
  | 0, _, h => h.elim
  | _ + 1, _, h => Pv.imp (fun _ _ x e => ⟨x, e⟩) (Nat.le_refl m) (fun _ q => PV.up q) h
theorem PV.ups {N : Addr → Prop} {H : Hp} {m : Nat} {v : V} {n k : Nat} (h : PV m n N H v) (hk : n ≤ k) : PV m k N H v := by
  induction hk with
  | refl => exact h
  | step _ ih => exact ih.up
theorem PV.wide {N : Addr → Prop} {H : Hp} {m m' : Nat} {v : V} {n : Nat} (h : PV m n N H v) (hm : m ≤ m') : PV m' n N H v := PV.imp (fun _ _ x e => ⟨x, e⟩) hm n h
/-- away from the state's dict and the list of great numbers -/
abbrev Nd (d g : Addr) : Addr → Prop := fun a => a ≠ d ∧ a ≠ g
theorem Kp.nd {d g : Addr} {H H' : Hp} (k : Kp d g H H') : ∀ a o, Nd d g a → H a = some o → Nd d g a ∧ H' a = some o := fun a o n e => ⟨n, k a o e n.1 n.2⟩
theorem Mon.kp {R : (Addr → Prop) → Hp → V → Prop} (mo : Mon R) {d g : Addr} {H H' : Hp} {v : V} (k : Kp d g H H') (h : R (Nd d g) H v) : R (Nd d g) H' v := mo _ _ _ _ _ k.nd h
theorem StA.nd {H : Hp} {d g c : Addr} {T : Int} (S : StA H d g c T) : ∀ a, H a = none → Nd d g a := fun a n => by
  obtain ⟨l, t, h, _⟩ := S.dk
  obtain ⟨gs, h2, _⟩ := S.gr
  exact ⟨(ne_of_none h n).symm, (ne_of_none h2 n).symm⟩
theorem Mon.new {R : (Addr → Prop) → Hp → V → Prop} (mo : Mon R) {H H' : Hp} {N : Addr → Prop} {v : V} (k : ∀ a, H a = none → N a) (h : R (fun a => H a = none) H' v) : R N H' v := mo _ _ _ _ _ (fun a _ n e => ⟨k a n, e⟩) h

/-! ### t == () -/
section
variable {X : Cx}
def rEqT0 (K : PySem.W.Frag) : R2 := fun x y H Q => ∃ a b xs, x = .ref a ∧ y = .ref b ∧ SqT K H a xs ∧ SqT K H b [] ∧ Q (.bl xs.isEmpty) H
theorem op_eqT0 (hu : X.A.units + 1 < cLine) : OpR X (compareOp .Eq) (rEqT0 X.K) := by
  intro pins s σ H x y v u Q I rx ry h
  obtain ⟨a, b, xs, rfl, rfl, ha, hb, q⟩ := h
  cases (show v = Value.ref a from rx)
  cases (show u = Value.ref b from ry)
  obtain ⟨us, r1, ⟨o1, e1, c1, n1, d1⟩, _⟩ := I.tuple ha
  obtain ⟨ws, r2, ⟨o2, e2, c2, n2, d2⟩, _⟩ := I.tuple hb
  cases r2
  refine SeqAt.eq_tupleAt (e := fun _ => true) ⟨o1, e1, c1, n1, d1⟩ ⟨o2, e2, c2, n2, d2⟩ (by omega) (fun j h1 h2 => absurd h2 (by simp)) ?_
  refine ⟨.bl xs.isEmpty, H, I, ?_, q⟩
  cases r1 with
  | nil => rfl
  | cons r t => rfl
end

/-! ### t[::-1] -/
theorem fm_congr {α β : Type} {f f' : α → Option β} : ∀ {l : List α}, (∀ x ∈ l, f x = f' x) → l.filterMap f = l.filterMap f'
  | [], _ => rfl
  | x :: r, h => by
    rw [List.filterMap_cons, List.filterMap_cons, h x List.mem_cons_self, fm_congr (l := r) fun y hy => h y (List.mem_cons_of_mem _ hy)]
theorem rev_pick (xs : List Value) : ((List.range xs.length).filterMap fun (k : Nat) => xs.toArray[(((xs.length : Int) - 1) + (k : Int) * (-1)).toNat]?).toArray = xs.reverse.toArray := by
  have q := HT.pick_gen xs.reverse.toArray 0 xs.length
  have e : (List.range xs.length).filterMap (fun (k : Nat) => xs.toArray[(((xs.length : Int) - 1) + (k : Int) * (-1)).toNat]?) = (List.range xs.length).filterMap (fun (k : Nat) => xs.reverse.toArray[(((0 : Nat) : Int) + (k : Int) * 1).toNat]?) := by
    refine fm_congr fun k hk => ?_
    have hk' : k < xs.length := List.mem_range.mp hk
    rw [List.getElem?_toArray, List.getElem?_toArray, show (((0 : Nat) : Int) + (k : Int) * 1).toNat = k by omega, List.getElem?_reverse (by omega)]
    congr 1
    omega
  rw [e, q]
  rw [show xs.reverse.toArray.toList = xs.reverse from rfl, List.drop_zero, List.take_of_length_le (by simp)]
section
variable {prog : Program} {w : World} {A : Around} {E : Value → Shared → Prop} {s : Shared}
theorem part_of {v : Value} {o : Option Int} {Q : Option Int → Shared → Prop} (p : IsPart v o) (h : Q o s) : wpAny (model prog w) A (Builtin.Slice.slicePartIndex v) Q E s := HT.slicePart_ p h
theorem applied_rev {sl : Addr} {va vb vc : Value} {n : Nat} {Q : Int × Int × Nat → Shared → Prop} (hS : s.heap.IsSliceOf sl va vb vc) (pa : IsPart va none) (pb : IsPart vb none) (pc : IsPart vc (some (-1)))
    (h : Q ((n : Int) - 1, -1, n) s) : wpAny (model prog w) A (Builtin.Slice.sliceApplied (.ref sl) (pure (n : Int))) Q E s := by
  obtain ⟨ob, hob, _, hda⟩ := id hS
  unfold Builtin.Slice.sliceApplied
  unfold Builtin.Slice.sliceFields
  refine wpAny_bind (wpAny_bind (wpAny_field hob hda (x := va) rfl (wpAny_bind (wpAny_field hob hda (x := vb) rfl (wpAny_bind (wpAny_field hob hda (x := vc) rfl (wpAny_pure ?_)))))))
  refine wpAny_bind (part_of pc ?_)
  show wpAny _ _ (if ((-1 : Int) == 0) = true then _ else _) _ _ s
  rw [if_neg (show ¬ (((-1 : Int) == 0) = true) by decide)]
  refine wpAny_bind (part_of pa (wpAny_bind (part_of pb (wpAny_bind (wpAny_pure ?_)))))
  have e : Builtin.Slice.slicePlaces ((n : Int) - 1) (-1) (-1) = n := by
    unfold Builtin.Slice.slicePlaces
    by_cases h0 : n = 0
    · subst h0; rfl
    · rw [if_neg (by decide), if_pos (by omega), show (- -1 : Int) = 1 from rfl, Int.ediv_one]
      omega
  show wpAny _ _ (pure (((n : Int) - 1), (-1 : Int), Builtin.Slice.slicePlaces ((n : Int) - 1) (-1) (-1))) _ _ s
  rw [e]
  exact wpAny_pure h
theorem tuple_rev {t sl : Addr} {us : List Value} {va vb vc : Value} {Q : Value → Shared → Prop} (hT : IsTup s.heap t us.toArray) (hS : s.heap.IsSliceOf sl va vb vc) (pa : IsPart va none) (pb : IsPart vb none) (pc : IsPart vc (some (-1)))
    (h : Q (.ref s.heap.objs.size) { s with heap := s.heap.push { cls := .type "tuple", data := .seq us.reverse.toArray } }) (hz : us.length ≤ sizeLine) : wpAny (model prog w) A (getItem (.ref t) (.ref sl)) Q E s := by
  have hk : sizeOk (.seq us.reverse.toArray) := by
    show us.reverse.toArray.size ≤ sizeLine
    rw [List.size_toArray, List.length_reverse]; exact hz
  obtain ⟨ob, hob, hcl, hda⟩ := id hS
  have ts : s.TypeIs (.ref sl) "slice" := ⟨ob, hob, hcl⟩
  unfold getItem
  try with_reducible refine wpAny_holding ?_
  first | refine wpAny_bind (wpAny_pure ?_) | skip
  refine wpAny_bind (wpAny_sequenceKey hT.typeIs (by decide) ?_)
  refine wpAny_bind (wpAny_callSpecial?_slot (name := Str.ofString "__getitem__") hT.typeIs slot_tuple_getitem
    (wpAny_call_entry slot_tuple_getitem hT.typeIs entry_tuple_getitem ?_ (args_tuple_getitem _ _)))
  show wpAny _ _ (Builtin.Tuple.tupleItemsOf (.ref t) >>= _) _ _ s
  refine wpAny_bind (tupleItemsOf_ hT ?_)
  refine wpAny_bind (wpAny_typeOf ts ?_)
  rw [if_pos (by decide)]
  have hn : (us.toArray.size : Int) = (us.length : Int) := by rw [List.size_toArray]
  rw [hn]
  refine wpAny_bind (applied_rev hS pa pb pc ?_)
  have no : ¬ ((((us.length : Int) - 1 == 0) && ((-1 : Int) == 1) && (us.length == us.toArray.size)) = true) := by
    intro q
    rw [Bool.and_eq_true, Bool.and_eq_true] at q
    exact absurd q.1.2 (by decide)
  show wpAny _ _ (if (((us.length : Int) - 1 == 0) && ((-1 : Int) == 1) && (us.length == us.toArray.size)) = true then _ else _) _ _ s
  rw [if_neg no, rev_pick]
  first
    | exact wpAny_bind (m := Builtin.Tuple.tupleExact _) (wpAny_newObj_type (wpAny_pure ⟨_, rfl, wpAny_pure h⟩) hk)
    | exact wpAny_bind (m := Builtin.Tuple.tupleExact _) (wpAny_newObj_type (wpAny_bind (wpAny_pure (wpAny_pure ⟨_, rfl, wpAny_pure h⟩))) hk)
    | exact wpAny_bind (wpAny_bind (m := Builtin.Tuple.tupleExact _) (wpAny_newObj_type (wpAny_pure (wpAny_pure ⟨_, rfl, wpAny_pure h⟩)) hk))
    | exact wpAny_bind (wpAny_bind (m := Builtin.Tuple.tupleExact _) (wpAny_newObj_type (wpAny_pure ⟨_, rfl, wpAny_pure h⟩) hk))
end
section
variable {X : Cx}
def tRevT (K : PySem.W.Frag) (te : TE) : TE := fun σ H Q => te σ H fun x H1 => ∃ a xs, x = .ref a ∧ SqT K H1 a xs ∧ ∀ p, H1 p = none → Q (.ref p) (upd H1 p (.tup xs.reverse))
theorem pe_revT {e : Expr} {te : TE} {k : Nat} {p1 p2 p3 pos : Pos} (he : PE X e te) : PE X (.Subscript e (.Slice none none (some (.UnaryOp .USub (.Constant (.int 1) k p1) p2)) p3) pos) (tRevT X.K te) := by
  refine ⟨fun pn s σ H Q I h => ?_⟩
  refine Subscript_ (thn (he.run pn s σ H _ I h) fun v s1 ⟨x, H1, J1, r1, q1⟩ => ?_)
  obtain ⟨a, xs, rfl, hx, q⟩ := q1
  cases r1
  have ho : PO X (some (.UnaryOp .USub (.Constant (.int 1) k p1) p2)) (tPart (tUn (rU fun i => .int (-i)) (tC (.int 1)))) := po_some (pe_un un_neg pe_int)
  refine wpAny_Slice (thn (po_none.run pn s1 σ H1 (fun o G => o = none ∧ G = H1) J1 ⟨rfl, rfl⟩) fun va s2 ⟨o2, H2, J2, pa, eo, eh⟩ => ?_)
  subst eo eh
  refine thn (po_none.run pn s2 σ H2 (fun o G => o = none ∧ G = H2) J2 ⟨rfl, rfl⟩) fun vb s3 ⟨o3, H3, J3, pb, eo, eh⟩ => ?_
  subst eo eh
  refine thn (ho.run pn s3 σ H3 (fun o G => o = some (-1) ∧ G = H3) J3 ⟨1, rfl, -1, rfl, rfl, rfl⟩) fun vc s4 ⟨o4, H4, J4, pc, eo, eh⟩ => ?_
  subst eo eh
  have J5 : Inv X pn σ H4 { s4 with heap := s4.heap.push { cls := .type "slice", data := .fields #[va, vb, vc] } } := J4.kept (t' := s4.toks) fun b ob q => Heap.get?_push_of_some _ q
  obtain ⟨us, r, hT, hz⟩ := J5.tuple hx
  have hl := r.length
  show wpAny (model X.prog X.w) X.A (subscriptTail e (.Slice none none (some (.UnaryOp .USub (.Constant (.int 1) k p1) p2)) p3) (.ref a) (.ref s4.heap.objs.size)) (EP X pn σ Q) X.xe { s4 with heap := s4.heap.push { cls := .type "slice", data := .fields #[va, vb, vc] } }
  refine tail_any (ops := [.ref a, .ref s4.heap.objs.size]) hT.typeIs slot_tuple_getitem.lookup ?_ (by with_unfolding_all rfl)
  refine tuple_rev hT (Heap.IsSliceOf.new _ va vb vc) pa pb pc ?_ (by omega)
  refine ⟨.ref _, _, J5.laid (t' := s4.toks) (o := .tup xs.reverse) (fun b ob q => Heap.get?_push_of_some _ q) (Nat.le_refl _) ?_, rfl, q _ (J5.hok.fresh (Nat.le_refl _))⟩
  exact ⟨by rw [List.length_reverse]; exact hz, _, r.reverse, IsTup.new _ _⟩
end
end Pu

namespace Pu
open PySem L2
/-! ### readings made weaker -/
section
variable {X : Cx}
theorem pe_imp {e : Expr} {t t' : TE} (h : PE X e t) (k : ∀ σ H Q, t' σ H Q → t σ H Q) : PE X e t' := ⟨fun pn s σ H Q I q => h.run pn s σ H Q I (k σ H Q q)⟩
theorem pa_imp {es : List Expr} {t t' : TA} (h : PA X es t) (k : ∀ σ H Q, t' σ H Q → t σ H Q) : PA X es t' := ⟨fun ps pn s σ H Q I q => h.run ps pn s σ H Q I (k σ H Q q)⟩
theorem op_imp {f : Value → Value → Sem Value} {r r' : R2} (h : OpR X f r) (k : ∀ x y H Q, r' x y H Q → r x y H Q) : OpR X f r' := fun pn s σ H x y v u Q I rx ry q => h pn s σ H x y v u Q I rx ry (k x y H Q q)
theorem sl_imp {r r' : V → Option Int → Option Int → Hp → VK → Prop} (h : SlR X r) (k : ∀ x l u H Q, r' x l u H Q → r x l u H Q) : SlR X r' := fun pn s σ H x v vl vu lo hi sl Q I rx hs pl pu q => h pn s σ H x v vl vu lo hi sl Q I rx hs pl pu (k x lo hi H Q q)

/-! ### data that is written out: new objects, of which R holds -/
abbrev RV : Type := (Addr → Prop) → Hp → V → Prop
def TN (R : RV) : TE := fun _ H Q => ∀ v H', Same H H' → R (fun a => H a = none) H' v → Q v H'
def TNs (R : RV) (k : Nat) : TA := fun _ H Q => ∀ vs H', Same H H' → vs.length = k → (∀ v ∈ vs, R (fun a => H a = none) H' v) → Q vs H'
def tupR (R : RV) (k : Nat) : RV := fun N H v => ∃ a xs, v = .ref a ∧ N a ∧ H a = some (.tup xs) ∧ xs.length = k ∧ ∀ x ∈ xs, R N H x
def lstR (R : RV) (k : Nat) : RV := fun N H v => ∃ a xs, v = .ref a ∧ N a ∧ H a = some (.lst xs) ∧ xs.length = k ∧ ∀ x ∈ xs, R N H x
theorem tupR.mon {R : RV} {k : Nat} (mo : Mon R) : Mon (tupR R k) := fun N N' H H' v kk ⟨a, xs, e, n, h, l, q⟩ => ⟨a, xs, e, (kk a _ n h).1, (kk a _ n h).2, l, fun x hx => mo _ _ _ _ _ kk (q x hx)⟩
theorem lstR.mon {R : RV} {k : Nat} (mo : Mon R) : Mon (lstR R k) := fun N N' H H' v kk ⟨a, xs, e, n, h, l, q⟩ => ⟨a, xs, e, (kk a _ n h).1, (kk a _ n h).2, l, fun x hx => mo _ _ _ _ _ kk (q x hx)⟩
theorem same_upd {H : Hp} {p : Addr} {o : HO} (n : H p = none) : Same H (upd H p o) := fun b u e => by rw [upd_ne (ne_of_none e n)]; exact e
theorem n_w {e : Expr} {R R' : RV} (h : PE X e (TN R)) (k : ∀ N H v, R N H v → R' N H v) : PE X e (TN R') := pe_imp h fun _ _ _ q v H' s r => q v H' s (k _ _ _ r)
theorem n_int {i : Int} {j : Nat} {pos : Pos} {m n : Nat} : PE X (.Constant (.int i) j pos) (TN (PV m (n + 1))) := pe_imp pe_int fun _ H _ q => q _ H (Same.refl H) (.int i)
theorem n_neg {i : Int} {j : Nat} {p1 p2 : Pos} {m n : Nat} : PE X (.UnaryOp .USub (.Constant (.int i) j p1) p2) (TN (PV m (n + 1))) := pe_imp (pe_un un_neg pe_int) fun _ H _ q => ⟨i, rfl, q _ H (Same.refl H) (.int _)⟩
theorem n_bl {b : Bool} {j : Nat} {pos : Pos} {m n : Nat} : PE X (.Constant (.bool b) j pos) (TN (PV m (n + 1))) := pe_imp pe_bl fun _ H _ q => q _ H (Same.refl H) (.bl b)
theorem n_non {j : Nat} {pos : Pos} {m n : Nat} : PE X (.Constant .none j pos) (TN (PV m (n + 1))) := pe_imp pe_non fun _ H _ q => q _ H (Same.refl H) .non
theorem n_str {x : Str} {j : Nat} {pos : Pos} {m n : Nat} : PE X (.Constant (.str x) j pos) (TN (PV m (n + 1))) := pe_imp pe_str fun _ H _ q => q _ H (Same.refl H) (.str x)
theorem na_nil {R : RV} : PA X [] (TNs R 0) := pa_imp pa_nil fun _ H _ q => q [] H (Same.refl H) rfl fun _ h => nomatch h
theorem na_cons {e : Expr} {es : List Expr} {R : RV} {k : Nat} (mo : Mon R) (he : PE X e (TN R)) (hr : PA X es (TNs R k)) (hs : starEach (e :: es) X.env = (false, eval e X.env) :: starEach es X.env := by rfl) : PA X (e :: es) (TNs R (k + 1)) :=
  pa_imp (pa_cons he hr hs) fun _ H Q q v H1 s1 r1 vs H2 s2 l r2 => q (v :: vs) H2 (s1.trans s2) (by rw [List.length_cons, l]) fun x hx => by
    rcases List.mem_cons.mp hx with rfl | hx
    · exact mo _ _ _ _ _ (fun a o n e => ⟨n, s2 a o e⟩) r1
    · exact mo _ _ _ _ _ (fun a o n e => ⟨s1.free n, e⟩) (r2 x hx)
theorem n_tupR {es : List Expr} {R : RV} {k : Nat} {x1 : Nat} {pos : Pos} (mo : Mon R) (h : PA X es (TNs R k)) (hk : k ≤ 1000) : PE X (.Tuple es x1 pos) (TN (tupR R k)) :=
  pe_imp (pe_tup h) fun _ H Q q vs H1 s1 l r => ⟨by rw [l]; exact Nat.le_of_lt (small1000 hk), fun p hp => q _ _ (s1.trans (same_upd hp)) ⟨p, vs, rfl, s1.free hp, upd_same, l, fun x hx => mo _ _ _ _ _ (fun a o n e => ⟨n, same_upd hp a o e⟩) (r x hx)⟩⟩
theorem n_lstR {es : List Expr} {R : RV} {k : Nat} {pos : Pos} (mo : Mon R) (h : PA X es (TNs R k)) (hk : k ≤ 1000) : PE X (.List es pos) (TN (lstR R k)) :=
  pe_imp (pe_lst h) fun _ H Q q vs H1 s1 l r => ⟨by rw [l]; exact Nat.le_of_lt (small1000 hk), fun p hp => q _ _ (s1.trans (same_upd hp)) ⟨p, vs, rfl, s1.free hp, upd_same, l, fun x hx => mo _ _ _ _ _ (fun a o n e => ⟨n, same_upd hp a o e⟩) (r x hx)⟩⟩
theorem n_tup {es : List Expr} {m n k : Nat} {x1 : Nat} {pos : Pos} (h : PA X es (TNs (PV m n) k)) (hk : k ≤ 1000 := by decide) (hm : k ≤ m := by decide) : PE X (.Tuple es x1 pos) (TN (PV m (n + 1))) :=
  n_w (n_tupR (PV.mon m n) h hk) fun N H v ⟨a, xs, e, na, ha, l, r⟩ => by rw [e]; exact .tup a xs ha na (by omega) r
theorem n_lst {es : List Expr} {m n k : Nat} {pos : Pos} (h : PA X es (TNs (PV m n) k)) (hk : k ≤ 1000 := by decide) (hm : k ≤ m := by decide) : PE X (.List es pos) (TN (PV m (n + 1))) :=
  n_w (n_lstR (PV.mon m n) h hk) fun N H v ⟨a, xs, e, na, ha, l, r⟩ => by rw [e]; exact .lst a xs ha na (by omega) r
theorem n_dct {m n : Nat} {pos : Pos} : PE X (.Dict [] [] pos) (TN (PV m (n + 1))) := pe_imp pe_dnewK fun _ H Q q p hp => q _ _ (same_upd hp) (.dct p upd_same hp)

/-! ### tuples put together and cut -/
def TupV (N : Addr → Prop) (H : Hp) (v : V) (xs : List V) : Prop := ∃ a, v = .ref a ∧ N a ∧ H a = some (.tup xs)
theorem TupV.kp {d g : Addr} {H H' : Hp} {v : V} {xs : List V} (k : Kp d g H H') (h : TupV (Nd d g) H v xs) : TupV (Nd d g) H' v xs := by
  obtain ⟨a, e, n, q⟩ := h
  exact ⟨a, e, n, k a _ q n.1 n.2⟩
theorem TupV.same {N : Addr → Prop} {H H' : Hp} {v : V} {xs : List V} (k : Same H H') (h : TupV N H v xs) : TupV N H' v xs := by
  obtain ⟨a, e, n, q⟩ := h
  exact ⟨a, e, n, k a _ q⟩
theorem TupV.at {N : Addr → Prop} {H : Hp} {a : Addr} {xs : List V} (h : TupV N H (.ref a) xs) : H a = some (.tup xs) := by
  obtain ⟨b, e, _, q⟩ := h
  cases e
  exact q
theorem Mon.same {R : RV} (mo : Mon R) {N : Addr → Prop} {H H' : Hp} {v : V} (s : Same H H') (h : R N H v) : R N H' v := mo _ _ _ _ _ (fun a o n e => ⟨n, s a o e⟩) h
def rCat2 : R2 := fun x y H Q => ∃ N xs ys, (∀ q, H q = none → N q) ∧ TupV N H x xs ∧ TupV N H y ys ∧ xs.length + ys.length ≤ 100000 ∧ ∀ v H', Same H H' → TupV N H' v (xs ++ ys) → Q v H'
theorem op_cat2 : OpR X (binaryOp .Add) rCat2 := op_imp op_catA fun x y H Q ⟨N, xs, ys, nw, ⟨a, ea, na, ha⟩, ⟨b, eb, nb, hb⟩, l, q⟩ =>
  ⟨a, b, xs, ys, ea, eb, SqT.of ha, SqT.of hb, Nat.le_trans l (by decide), fun e => q _ H (Same.refl H) ⟨b, rfl, nb, by rw [e]; exact hb⟩, fun _ e => q _ H (Same.refl H) ⟨a, rfl, na, by rw [e, List.append_nil]; exact ha⟩,
    fun _ _ p hp => q _ _ (same_upd hp) ⟨p, rfl, nw p hp, upd_same⟩⟩
def rSl2 : V → Option Int → Option Int → Hp → VK → Prop := fun x lo hi H Q => ∃ N xs, (∀ q, H q = none → N q) ∧ TupV N H x xs ∧ ∀ v H', Same H H' → TupV N H' v (cutV xs lo hi) → Q v H'
theorem sl_tup2 : SlR X rSl2 := sl_imp sl_tupA fun x lo hi H Q ⟨N, xs, nw, ⟨a, ea, na, ha⟩, q⟩ =>
  ⟨a, xs, ea, SqT.of ha, fun ⟨h1, h2⟩ => q _ H (Same.refl H) ⟨a, rfl, na, by
      have e : cutV xs lo hi = xs := by
        unfold cutV
        rw [h1, h2, List.drop_zero, Nat.sub_zero, List.take_of_length_le (Nat.le_refl _)]
      rw [e]; exact ha⟩, fun _ p hp => q _ _ (same_upd hp) ⟨p, rfl, nw p hp, upd_same⟩⟩
theorem mem_cut {xs : List V} {lo hi : Option Int} {x : V} (h : x ∈ cutV xs lo hi) : x ∈ xs := List.mem_of_mem_drop (List.mem_of_mem_take h)
end
end Pu

namespace Pu
open PySem L2
abbrev sOdd : Stmt := top 22
abbrev sWhole : Stmt := top 20
abbrev sTruth : Stmt := top 19
abbrev sBank : Stmt := top 21
abbrev sBent : Stmt := top 23
/-! ### isinstance of such values -/
def tyN (H : Hp) : V → String
  | .non => "NoneType"
  | .bl _ => "bool"
  | .int _ => "int"
  | .str _ => "str"
  | .ref a => match H a with
    | some (.tup _) => "tuple"
    | some (.lst _) => "list"
    | some (.dK _) => "dict"
    | _ => "?"
  | _ => "?"
theorem tyN_tup {H : Hp} {a : Addr} {xs : List V} (h : H a = some (.tup xs)) : tyN H (.ref a) = "tuple" := by
  show (match H a with | some (.tup _) => "tuple" | some (.lst _) => "list" | some (.dK _) => "dict" | _ => "?") = "tuple"
  rw [h]
theorem tyN_lst {H : Hp} {a : Addr} {xs : List V} (h : H a = some (.lst xs)) : tyN H (.ref a) = "list" := by
  show (match H a with | some (.tup _) => "tuple" | some (.lst _) => "list" | some (.dK _) => "dict" | _ => "?") = "list"
  rw [h]
theorem tyN_dct {H : Hp} {a : Addr} {kvs : List (Key × V)} (h : H a = some (.dK kvs)) : tyN H (.ref a) = "dict" := by
  show (match H a with | some (.tup _) => "tuple" | some (.lst _) => "list" | some (.dK _) => "dict" | _ => "?") = "dict"
  rw [h]
theorem pv_ty {K : PySem.W.Frag} {N : Addr → Prop} {H : Hp} {m n : Nat} {v : V} (h : PV m n N H v) : TyX K H v (.type (tyN H v)) ∧ tyN H v ∈ ["NoneType", "bool", "int", "str", "tuple", "list", "dict"] := by
  cases n with
  | zero => exact h.elim
  | succ n =>
    cases h with
    | non => exact ⟨.base .non, by show "NoneType" ∈ _; decide⟩
    | bl b => exact ⟨.base (.bl b), by show "bool" ∈ _; decide⟩
    | int i => exact ⟨.base (.int i), by show "int" ∈ _; decide⟩
    | str z => exact ⟨.base (.str z), by show "str" ∈ _; decide⟩
    | tup a xs e x l q => rw [tyN_tup e]; exact ⟨.base (.tup e), by decide⟩
    | lst a xs e x l q => rw [tyN_lst e]; exact ⟨.base (.lst e), by decide⟩
    | dct a e x => rw [tyN_dct e]; exact ⟨.base (.dK e), by decide⟩
/-- what «tuple» says of such a value -/
theorem pv_tup {N : Addr → Prop} {H : Hp} {m n : Nat} {v : V} (h : PV m n N H v) (t : tyN H v = "tuple") : ∃ xs k, n = k + 1 ∧ TupV N H v xs ∧ xs.length ≤ m ∧ ∀ x ∈ xs, PV m k N H x := by
  cases n with
  | zero => exact h.elim
  | succ n =>
    cases h with
    | non => exact absurd t (by show ¬ "NoneType" = "tuple"; decide)
    | bl b => exact absurd t (by show ¬ "bool" = "tuple"; decide)
    | int i => exact absurd t (by show ¬ "int" = "tuple"; decide)
    | str z => exact absurd t (by show ¬ "str" = "tuple"; decide)
    | tup a xs e x l q => exact ⟨xs, n, rfl, ⟨a, rfl, x, e⟩, l, q⟩
    | lst a xs e x l q => rw [tyN_lst e] at t; exact absurd t (by decide)
    | dct a e x => rw [tyN_dct e] at t; exact absurd t (by decide)
theorem pv_int {N : Addr → Prop} {H : Hp} {m n : Nat} {v : V} (h : PV m n N H v) (t : tyN H v = "int") : ∃ i, v = .int i := by
  cases n with
  | zero => exact h.elim
  | succ n =>
    cases h with
    | non => exact absurd t (by show ¬ "NoneType" = "int"; decide)
    | bl b => exact absurd t (by show ¬ "bool" = "int"; decide)
    | int i => exact ⟨i, rfl⟩
    | str z => exact absurd t (by show ¬ "str" = "int"; decide)
    | tup a xs e x l q => rw [tyN_tup e] at t; exact absurd t (by decide)
    | lst a xs e x l q => rw [tyN_lst e] at t; exact absurd t (by decide)
    | dct a e x => rw [tyN_dct e] at t; exact absurd t (by decide)
def isB (T c : String) : Bool := T == c || (T == "bool" && c == "int")
theorem kit_all : ∀ T ∈ ["NoneType", "bool", "int", "str", "tuple", "list", "dict"], ∀ c ∈ ["int", "bool", "tuple"], kitB T c = some (isB T c) := by decide +kernel
def rIsP : List V → Hp → VK → Prop := fun xs H Q => ∃ x c m n N, xs = [x, .ty c] ∧ c ∈ ["int", "bool", "tuple"] ∧ PV m n N H x ∧ Q (.bl (isB (tyN H x) c)) H
section
variable {X : Cx}
theorem call_isP : CallR X (.builtin "isinstance") rIsP := fun pn s σ H xs us Q I r ⟨x, c, m, n, N, e, hc, hx, q⟩ =>
  call_isi pn s σ H xs us Q I r ⟨x, .ty c, _, _, _, e, .ty c, (pv_ty hx).1, kit_ty (kit_all _ (pv_ty (K := X.K) hx).2 c hc), q⟩
theorem pe_tyn {x : Str} {pos : Pos} (n : String) (hg : Gl X x) (hm : X.mg x = none) (hv : bootBuiltins x = some (.type n)) (hn : x ≠ "__name__" := by decide) (hd : (x == ("__debug__" : Str)) = false := by decide) : PE X (.Name x pos) (tC (.ty n)) :=
  pe_bltn (v := .ty n) hg hm hv (by rfl) hn hd
end

def spWhole : Sp := fun vs H Q _ => ∃ v m n N, vs = [v] ∧ PV m n N H v ∧ Q (.bl (tyN H v == "int")) H
def spTruth : Sp := fun vs H Q _ => ∃ a b : Bool, vs = [.bl a, .bl b] ∧ Q (.bl (decide (a = b))) H
def spOdd : Sp := fun vs H Q _ => ∃ (d g c : Addr) (T : Int), vs = [.ref d] ∧ StA H d g c T ∧ T < TB ∧
  ∀ (x : V) (H' : Hp), PV 2 2 (Nd d g) H' x → Kp d g H H' → StA H' d g c (T + 1) → Q x H'
section
variable {P : Program} {w : World} {K : PySem.W.Frag} {mg : Str → Option Value} {base : Heap}
theorem scWh : FnScope ["item"] ["item"] (defScope sWhole) := ⟨rfl, rfl, rfl, by decide +kernel, rfl, by decide +kernel, by decide +kernel⟩
theorem ok_whole {f : Addr} {fd : FuncData} (F : Fun K "_law_is_whole" "_law_is_whole" sWhole f fd) (ms : mg "isinstance" = none) (mi : mg "int" = none) (mb : mg "bool" = none) : FnOk P w K mg base CX0 1 f fd ["item"] spWhole := by
  refine F.ok scWh (fun vs H Q E h => ?_) (fun cdv A outer s H vs Q E hr h => ?_)
  · obtain ⟨v, m, n, N, rfl, _⟩ := h
    rfl
  · obtain ⟨v, m, n, N, rfl, hv, k⟩ := h
    refine ⟨_, pss_one (ps_ret (pe_and (pe_callB call_isP (by rfl) ms (by decide +kernel) (pa_cons (pv 0) (pa_cons (pe_tyn "int" (by rfl) mi (by decide +kernel)) pa_nil)))
      (pe_one (pe_not (pe_callB call_isP (by rfl) ms (by decide +kernel) (pa_cons (pv 0) (pa_cons (pe_tyn "bool" (by rfl) mb (by decide +kernel)) pa_nil))))))), ?_⟩
    refine ⟨_, rfl, v, "int", m, n, N, rfl, by decide, hv, _, rfl, ?_⟩
    have key : ∀ T ∈ ["NoneType", "bool", "int", "str", "tuple", "list", "dict"], (isB T "int" = true → (!isB T "bool") = (T == "int")) ∧ (isB T "int" = false → false = (T == "int")) := by decide +kernel
    have kv := key _ (pv_ty (K := K) hv).2
    cases e : isB (tyN H v) "int" with
    | true =>
      refine iteT ?_
      refine ⟨_, rfl, v, "bool", m, n, N, rfl, by decide, hv, _, rfl, ?_⟩
      rw [kv.1 e]; exact k
    | false =>
      refine iteF ?_
      rw [kv.2 e]; exact k
theorem scTr : FnScope ["found", "due"] ["found", "due"] (defScope sTruth) := ⟨rfl, rfl, rfl, by decide +kernel, rfl, by decide +kernel, by decide +kernel⟩
theorem ok_truth {f : Addr} {fd : FuncData} (F : Fun K "_law_is_truth" "_law_is_truth" sTruth f fd) : FnOk P w K mg base CX0 1 f fd ["found", "due"] spTruth := by
  refine F.ok scTr (fun vs H Q E h => ?_) (fun cdv A outer s H vs Q E hr h => ?_)
  · obtain ⟨a, b, rfl, _⟩ := h
    rfl
  · obtain ⟨a, b, rfl, k⟩ := h
    refine ⟨_, pss_one (ps_ret (pe_ifExp (pt_val (pv 1)) (pe_cmpR op_isBl (pv 0) pe_bl (nomark _)) (pe_cmpR op_isBl (pv 0) pe_bl (nomark _)))), ?_⟩
    refine ⟨_, rfl, b, rfl, ?_⟩
    cases b with
    | true => exact iteT ⟨_, rfl, a, true, rfl, rfl, k⟩
    | false => exact iteF ⟨_, rfl, a, false, rfl, rfl, k⟩
theorem scOd : FnScope ["state", "some"] ["state"] (defScope sOdd) := ⟨rfl, rfl, rfl, by decide +kernel, rfl, by decide +kernel, by decide +kernel⟩
theorem ok_odd {f fP : Addr} {fd fdP : FuncData} (F : Fun K "_law_pu_odd" "_law_pu_odd" sOdd f fd)
    (GP : FnOk P w K mg base CX0 3 fP fdP ["state", "several"] (spPick K)) (bP : Binds K fdP ["state", "several"] []) (kP : PySem.W.keepIn K (.ref fP) = true) (mP : mg "_law_pick" = some (.ref fP)) :
    FnOk P w K mg base CX0 4 f fd ["state"] spOdd := by
  refine F.ok scOd (fun vs H Q E h => ?_) (fun cdv A outer s H vs Q E hr h => ?_)
  · obtain ⟨d, g, c, T, rfl, _⟩ := h
    rfl
  · obtain ⟨d, g, c, T, rfl, S, hT, k⟩ := h
    have mo := PV.mon 2 2
    refine ⟨_, pss_cons (ps_set (i := 1) scOd.nd rfl (Or.inl rfl) (n_lstR (R := PV 2 2) (k := 13) mo (na_cons mo n_non (na_cons mo n_int (na_cons mo n_neg (na_cons mo n_bl (na_cons mo n_str (na_cons mo n_str (na_cons mo (n_tup na_nil)
          (na_cons mo (n_lst na_nil) (na_cons mo n_dct (na_cons mo (n_tup (na_cons (PV.mon 2 1) n_str na_nil)) (na_cons mo (n_tup (na_cons (PV.mon 2 1) n_str (na_cons (PV.mon 2 1) n_neg na_nil)))
          (na_cons mo (n_tup (na_cons (PV.mon 2 1) n_str (na_cons (PV.mon 2 1) n_bl na_nil))) (na_cons mo (n_tup (na_cons (PV.mon 2 1) n_int (na_cons (PV.mon 2 1) n_int na_nil))) na_nil))))))))))))) (by decide)))
      (pss_one (ps_ret (pe_call GP hr rfl mP kP bP .nil pass0 (pa_cons (pv 0) (pa_cons (pv 1) pa_nil))))), ?_⟩
    intro v H1 s1 ⟨a, xs, e, n, ha, l, q⟩
    subst e
    have S1 := S.same s1
    have nd := S.nd a n
    refine ⟨_, rfl, _, rfl, d, g, c, a, T, xs, rfl, S1, hT, .inl (SqL.of ha), nd.1, nd.2, (by intro e; rw [e] at l; cases l), by omega, fun x H2 hx k2 S2 => ?_⟩
    refine k x H2 ?_ ((Kp.of s1).trans k2) S2
    exact mo.kp k2 (mo.new S.nd (q x hx))
end
end Pu

namespace Pu
open PySem L2
theorem cut_to {xs : List V} {j : Nat} (h : j ≤ xs.length) : cutV xs none (some (j : Int)) = xs.take j := by
  unfold cutV
  rw [HT.sIx_none, HT.sIx_nat, List.drop_zero, Nat.sub_zero, Nat.min_eq_left h]
theorem cut_from {xs : List V} {j : Nat} (h : j ≤ xs.length) : cutV xs (some (j : Int)) none = xs.drop j := by
  unfold cutV
  rw [HT.sIx_none, HT.sIx_nat, Nat.min_eq_left h, List.take_of_length_le (by rw [List.length_drop]; exact Nat.le_refl _)]
theorem cut_len {xs : List V} {lo hi : Option Int} : (cutV xs lo hi).length ≤ xs.length := cutV_length xs lo hi
theorem cut_one {xs : List V} {j : Nat} (h : j + 1 ≤ xs.length) : (cutV xs (some (j : Int)) (some ((j : Int) + 1))).length ≤ 1 := by
  unfold cutV
  rw [show (j : Int) + 1 = ((j + 1 : Nat) : Int) by omega, HT.sIx_nat, HT.sIx_nat, Nat.min_eq_left h, Nat.min_eq_left (by omega), List.length_take]
  omega
/-- a tuple whose items are such values -/
theorem TupV.pv {N : Addr → Prop} {H : Hp} {v : V} {xs : List V} {m n : Nat} (t : TupV N H v xs) (l : xs.length ≤ m) (q : ∀ x ∈ xs, PV m n N H x) : PV m (n + 1) N H v := by
  obtain ⟨a, e, na, h⟩ := t
  rw [e]; exact .tup a xs h na l q

def spBankP : Sp := fun vs H Q _ => ∃ (d g c : Addr) (T : Int), vs = [.ref d] ∧ StA H d g c T ∧ T < TB ∧
  ∀ (x : V) (H' : Hp), tupR (PV 8 2) 3 (Nd d g) H' x → Kp d g H H' → StA H' d g c (T + 1) → Q x H'
def spBent (N : Nat) : Sp := fun vs H Q _ => ∃ (d g c : Addr) (T : Int) (m n : Nat) (v : V), vs = [.ref d, v] ∧ StA H d g c T ∧ T + 5 * (N : Int) < TB ∧ PV m n (Nd d g) H v ∧ 2 ≤ m ∧ m ≤ 1000 ∧ n ≤ N ∧
  ∀ (x : V) (H' : Hp), PV (m + 1) (n + 1) (Nd d g) H' x → Kp d g H H' → StA H' d g c (T + 5 * (N : Int)) → Q x H'
section
variable {P : Program} {w : World} {K : PySem.W.Frag} {mg : Str → Option Value} {base : Heap}
theorem scBa : FnScope ["state", "some"] ["state"] (defScope sBank) := ⟨rfl, rfl, rfl, by decide +kernel, rfl, by decide +kernel, by decide +kernel⟩
theorem ok_bank {f fP : Addr} {fd fdP : FuncData} (F : Fun K "_law_pu_bank" "_law_pu_bank" sBank f fd)
    (GP : FnOk P w K mg base CX0 3 fP fdP ["state", "several"] (spPick K)) (bP : Binds K fdP ["state", "several"] []) (kP : PySem.W.keepIn K (.ref fP) = true) (mP : mg "_law_pick" = some (.ref fP)) :
    FnOk P w K mg base CX0 4 f fd ["state"] spBankP := by
  refine F.ok scBa (fun vs H Q E h => ?_) (fun cdv A outer s H vs Q E hr h => ?_)
  · obtain ⟨d, g, c, T, rfl, _⟩ := h
    rfl
  · obtain ⟨d, g, c, T, rfl, S, hT, k⟩ := h
    have m1 := PV.mon 8 1
    have m2 := PV.mon 8 2
    have m3 : Mon (tupR (PV 8 2) 3) := tupR.mon m2
    refine ⟨_, pss_cons (ps_set (i := 1) scBa.nd rfl (Or.inl rfl) (n_lstR (R := tupR (PV 8 2) 3) (k := 6) m3
        (na_cons m3 (n_tupR m2 (na_cons m2 (n_tup (na_cons m1 n_int (na_cons m1 n_int na_nil))) (na_cons m2 n_int (na_cons m2 n_int na_nil))) (by decide))
        (na_cons m3 (n_tupR m2 (na_cons m2 (n_tup (na_cons m1 n_int (na_cons m1 n_int (na_cons m1 n_int na_nil)))) (na_cons m2 n_int (na_cons m2 n_int na_nil))) (by decide))
        (na_cons m3 (n_tupR m2 (na_cons m2 (n_tup (na_cons m1 n_int na_nil)) (na_cons m2 n_int (na_cons m2 n_int na_nil))) (by decide))
        (na_cons m3 (n_tupR m2 (na_cons m2 (n_tup (na_cons m1 n_int (na_cons m1 n_int na_nil))) (na_cons m2 n_int (na_cons m2 n_int na_nil))) (by decide))
        (na_cons m3 (n_tupR m2 (na_cons m2 (n_tup (na_cons m1 n_int (na_cons m1 n_int (na_cons m1 n_int (na_cons m1 n_int na_nil))))) (na_cons m2 n_int (na_cons m2 n_int na_nil))) (by decide))
        (na_cons m3 (n_tupR m2 (na_cons m2 (n_tup (na_cons m1 n_int (na_cons m1 n_int na_nil))) (na_cons m2 n_int (na_cons m2 n_int na_nil))) (by decide)) na_nil)))))) (by decide)))
      (pss_one (ps_ret (pe_call GP hr rfl mP kP bP .nil pass0 (pa_cons (pv 0) (pa_cons (pe_op op_cat (pv 1) (n_lstR (R := tupR (PV 8 2) 3) (k := 2) m3
        (na_cons m3 (n_tupR m2 (na_cons m2 (n_tup (na_cons m1 n_int (na_cons m1 n_int (na_cons m1 n_int na_nil)))) (na_cons m2 n_int (na_cons m2 n_int na_nil))) (by decide))
        (na_cons m3 (n_tupR m2 (na_cons m2 (n_tup (na_cons m1 n_int (na_cons m1 n_int (na_cons m1 n_int na_nil)))) (na_cons m2 n_int (na_cons m2 n_int na_nil))) (by decide)) na_nil)) (by decide))) pa_nil))))), ?_⟩
    intro v H1 s1 ⟨a, xs, e, n, ha, l, q⟩
    subst e
    refine ⟨_, rfl, _, rfl, ?_⟩
    intro v2 H2 s2 ⟨b, ys, e2, n2, hb, l2, q2⟩
    subst e2
    refine ⟨a, b, xs, ys, rfl, rfl, s2 _ _ ha, hb, by rw [l, l2]; exact Nat.le_of_lt (small1000 (by decide)), fun p hp => ?_⟩
    have s3 : Same H (upd H2 p (.lst (xs ++ ys))) := (s1.trans s2).trans (same_upd hp)
    have S3 := S.same s3
    have nd := S.nd p ((s1.trans s2).free hp)
    refine ⟨d, g, c, p, T, xs ++ ys, rfl, S3, hT, .inl (SqL.of upd_same), nd.1, nd.2, (by intro e; have := congrArg List.length e; rw [List.length_append, l, l2] at this; cases this), by rw [List.length_append, l, l2]; decide, fun x H4 hx k4 S4 => ?_⟩
    refine k x H4 ?_ ((Kp.of s3).trans k4) S4
    refine m3.kp k4 ?_
    rcases List.mem_append.mp hx with hx | hx
    · exact m3 _ _ _ _ _ (fun a' o n' e => ⟨S.nd a' n', same_upd hp a' o (s2 a' o e)⟩) (q x hx)
    · exact m3 _ _ _ _ _ (fun a' o n' e => ⟨S.nd a' (s1.free n'), same_upd hp a' o e⟩) (q2 x hx)
end
end Pu

namespace Pu
open PySem L2
section
variable {P : Program} {w : World} {K : PySem.W.Frag} {mg : Str → Option Value} {base : Heap}
theorem fn_false {CX : CXT} {k : Nat} {f : Addr} {fd : FuncData} {ps : List Str} {sp : Sp} (h : ∀ vs H Q E, ¬ sp vs H Q E) : FnOk P w K mg base CX k f fd ps sp := by
  exact ⟨fun _ _ _ _ q => (h _ _ _ _ q).elim, fun _ _ _ _ _ _ _ _ _ _ _ _ _ q => (h _ _ _ _ q).elim⟩
/-- what the drawing defs keep, and where they stand -/
structure Dr (P : Program) (w : World) (K : PySem.W.Frag) (mg : Str → Option Value) (base : Heap) : Prop where
  draw : ∃ f fd, FnOk P w K mg base CX0 2 f fd ["state", "size_here"] spDraw ∧ Binds K fd ["state", "size_here"] [] ∧ PySem.W.keepIn K (.ref f) = true ∧ mg "_law_draw" = some (.ref f)
  pick : ∃ f fd, FnOk P w K mg base CX0 3 f fd ["state", "several"] (spPick K) ∧ Binds K fd ["state", "several"] [] ∧ PySem.W.keepIn K (.ref f) = true ∧ mg "_law_pick" = some (.ref f)
  odd : ∃ f fd, FnOk P w K mg base CX0 4 f fd ["state"] spOdd ∧ Binds K fd ["state"] [] ∧ PySem.W.keepIn K (.ref f) = true ∧ mg "_law_pu_odd" = some (.ref f)
  whole : ∃ f fd, FnOk P w K mg base CX0 1 f fd ["item"] spWhole ∧ Binds K fd ["item"] [] ∧ PySem.W.keepIn K (.ref f) = true ∧ mg "_law_is_whole" = some (.ref f)
  ms : mg "isinstance" = none
  mt : mg "tuple" = none
  ml : mg "len" = none
  mli : mg "list" = none
theorem scBt : FnScope ["state", "item", "at", "way"] ["state", "item"] (defScope sBent) := ⟨rfl, rfl, rfl, by decide +kernel, rfl, by decide +kernel, by decide +kernel⟩
theorem ok_bent {f : Addr} {fd : FuncData} (F : Fun K "_law_pu_bent" "_law_pu_bent" sBent f fd) (D : Dr P w K mg base) (bR : Binds K fd ["state", "item"] []) (kR : PySem.W.keepIn K (.ref f) = true) (mR : mg "_law_pu_bent" = some (.ref f)) :
    ∀ N : Nat, FnOk P w K mg base CX0 (5 + N) f fd ["state", "item"] (spBent N)
  | 0 => fn_false fun vs H Q E ⟨d, g, c, T, m, n, v, _, _, _, hv, _, _, hn, _⟩ => by
    have e : n = 0 := by omega
    subst e
    exact hv
  | N + 1 => by
    have GR := ok_bent F D bR kR mR N
    obtain ⟨fD, fdD, GD, bD, kD, mD⟩ := D.draw
    obtain ⟨fP, fdP, GP, bP, kP, mP⟩ := D.pick
    obtain ⟨fO, fdO, GO, bO, kO, mO⟩ := D.odd
    obtain ⟨fW, fdW, GW, bW, kW, mW⟩ := D.whole
    refine F.ok scBt (fun vs H Q E h => ?_) (fun cdv A outer s H vs Q E hr h => ?_)
    · obtain ⟨d, g, c, T, m, n, v, rfl, _⟩ := h
      rfl
    · obtain ⟨d, g, c, T, m, n, v, rfl, S, hT, hv, hm2, hm, hn, k⟩ := h
      have hu := hu_of hr
      have r1 : Room 1 (A.deeper (PyProof.Rows.envOfC "_law_pu_bent" (defScope sBent) s.heap.objs.size f cdv)) := hr.mono (by show _ ≤ 5 + N; omega)
      have r2 : Room 2 (A.deeper (PyProof.Rows.envOfC "_law_pu_bent" (defScope sBent) s.heap.objs.size f cdv)) := hr.mono (by show _ ≤ 5 + N; omega)
      have r3 : Room 3 (A.deeper (PyProof.Rows.envOfC "_law_pu_bent" (defScope sBent) s.heap.objs.size f cdv)) := hr.mono (by show _ ≤ 5 + N; omega)
      have r4 : Room 4 (A.deeper (PyProof.Rows.envOfC "_law_pu_bent" (defScope sBent) s.heap.objs.size f cdv)) := hr.mono (by show _ ≤ 5 + N; omega)
      have hT' : T + 5 * ((N : Int) + 1) < 1000000000000 := by have := hT; push_cast at this; exact this
      refine ⟨_, pss_cons (ps_if (PW.pt (pw_or (pt_not (pt_val (pe_callB call_isP (by rfl) D.ms (by decide +kernel) (pa_cons (pv 1) (pa_cons (pe_tyn "tuple" (by rfl) D.mt (by decide +kernel)) pa_nil)))))
            (pw_or (pt_cmpR (op_eqT0 hu) (pv 1) (pe_tup pa_nil) (nomark _)) (pw_or1 (pt_cmpR op_eq (pe_call GD r2 rfl mD kD bD .nil pass0 (pa_cons (pv 0) (pa_cons pe_int pa_nil))) pe_int (nomark _))))))
          (pss_one (ps_ret (pe_call GO r4 rfl mO kO bO .nil pass0 (pa_cons (pv 0) pa_nil)))) pss_nil)
        (pss_cons (ps_par (i := 2) (j := 3) rfl scBt.nd rfl rfl (by decide) rfl rfl (pa_cons (pe_call GD r2 rfl mD kD bD .nil pass0 (pa_cons (pv 0) (pa_cons (pe_callB call_len_seq (by rfl) D.ml boot_len (pa_cons (pv 1) pa_nil)) pa_nil)))
            (pa_cons (pe_call GD r2 rfl mD kD bD .nil pass0 (pa_cons (pv 0) (pa_cons pe_int pa_nil))) pa_nil)) (by rfl))
        (pss_cons (ps_if (pt_cmpR op_lt (pv 3) pe_int (nomark _)) (pss_one (ps_ret (pe_op op_cat2 (pe_op op_cat2 (pe_slice sl_tup2 (pv 1) po_none (po_some (pv 2)))
            (pe_tup (pa_cons (pe_call GR hr rfl mR kR bR .nil pass0 (pa_cons (pv 0) (pa_cons (pe_ix ix_tup (pv 1) (pv 2) (fun _ _ => rfl)) pa_nil))) pa_nil))) (pe_slice sl_tup2 (pv 1) (po_some (pe_op op_add (pv 2) pe_int)) po_none)))) pss_nil)
        (pss_cons (ps_if (pt_cmpR op_eq (pv 3) pe_int (nomark _)) (pss_one (ps_ret (pe_op op_cat2 (pe_slice sl_tup2 (pv 1) po_none (po_some (pv 2))) (pe_slice sl_tup2 (pv 1) (po_some (pe_op op_add (pv 2) pe_int)) po_none)))) pss_nil)
        (pss_cons (ps_if (pt_cmpR op_eq (pv 3) pe_int (nomark _)) (pss_one (ps_ret (pe_op op_cat2 (pe_op op_cat2 (pe_slice sl_tup2 (pv 1) po_none (po_some (pv 2))) (pe_slice sl_tup2 (pv 1) (po_some (pv 2)) (po_some (pe_op op_add (pv 2) pe_int)))) (pe_slice sl_tup2 (pv 1) (po_some (pv 2)) po_none)))) pss_nil)
        (C8.pss_cut (ps_if (PW.pt (pw_and (pt_cmpR op_eq (pv 3) pe_int (nomark _)) (pw_and1 (pt_val (pe_call GW r1 rfl mW kW bW .nil pass0 (pa_cons (pe_ix ix_tup (pv 1) (pv 2) (fun _ _ => rfl)) pa_nil))))))
            (pss_one (ps_ret (pe_op op_cat2 (pe_op op_cat2 (pe_slice sl_tup2 (pv 1) po_none (po_some (pv 2)))
              (pe_tup (pa_cons (pe_op op_add (pe_ix ix_tup (pv 1) (pv 2) (fun _ _ => rfl)) (pe_call GP r3 rfl mP kP bP .nil pass0 (pa_cons (pv 0) (pa_cons (pe_lst (pa_cons pe_int (pa_cons (pe_un un_neg pe_int) pa_nil))) pa_nil)))) pa_nil))) (pe_slice sl_tup2 (pv 1) (po_some (pe_op op_add (pv 2) pe_int)) po_none)))) pss_nil)
        (pss_one (ps_ret (pe_ifExp (pt_cmpR op_eq (pv 3) pe_int (nomark _))
          (pe_callTy call_tuple_of (by rfl) D.mt (by decide +kernel) (pa_cons (pe_op op_cat (pe_callTy call_list_of (by rfl) D.mli (by decide +kernel) (pa_cons (pe_revT (pe_slice sl_tup2 (pv 1) po_none (po_some (pv 2)))) pa_nil))
            (pe_callTy call_list_of (by rfl) D.mli (by decide +kernel) (pa_cons (pe_slice sl_tup2 (pv 1) (po_some (pv 2)) po_none) pa_nil))) pa_nil))
          (pe_callTy call_list_of (by rfl) D.mli (by decide +kernel) (pa_cons (pv 1) pa_nil)))))))))), ?_⟩
      -- the odd value
      have fin : ∀ (x : V) (H' : Hp) (T' : Int), T' ≤ T + 5 * ((N : Int) + 1) → PV (m + 1) (n + 1) (Nd d g) H' x → Kp d g H H' → StA H' d g c T' → Q x H' := fun x H' T' ht hx kp S' => k x H' hx kp (S'.mono (by push_cast; exact ht))
      have n1 : 1 ≤ n := by
        rcases Nat.eq_zero_or_pos n with e | e
        · subst e; exact hv.elim
        · exact e
      have oddv : ∀ {x : V} {H' : Hp}, PV 2 2 (Nd d g) H' x → PV (m + 1) (n + 1) (Nd d g) H' x := fun h => (h.ups (by omega)).wide (by omega)
      refine ⟨_, rfl, v, "tuple", m, n, _, rfl, by decide, hv, _, rfl, ?_⟩
      cases e : isB (tyN H v) "tuple" with
      | false =>
        refine iteT ?_
        refine iteT ?_
        exact ⟨_, rfl, d, g, c, T, rfl, S, by show T < 1000000000000; omega, fun x H2 hx k2 S2 => fin x H2 _ (by omega) (oddv hx) k2 S2⟩
      | true =>
        refine iteF ?_
        have et : tyN H v = "tuple" := by
          have key : ∀ T ∈ ["NoneType", "bool", "int", "str", "tuple", "list", "dict"], isB T "tuple" = true → T = "tuple" := by decide +kernel
          exact key _ (pv_ty (K := K) hv).2 e
        obtain ⟨xs, j, rfl, tv, hl, hx⟩ := pv_tup hv et
        obtain ⟨a, rfl, na, ha⟩ := id tv
        refine ⟨_, rfl, (by show 0 ≤ sizeLine; exact Nat.zero_le _), fun p hp => ⟨a, p, xs, rfl, rfl, SqT.of (same_upd hp _ _ ha), SqT.of upd_same, _, rfl, ?_⟩⟩
        have S1 := S.new (o := .tup []) hp
        have k1 : Kp d g H (upd H p (.tup [])) := Kp.new hp
        by_cases hxe : xs = []
        · rw [hxe]
          refine iteT ?_
          refine iteT ?_
          exact ⟨_, rfl, d, g, c, T, rfl, S1, by show T < 1000000000000; omega, fun x H2 hx k2 S2 => fin x H2 _ (by omega) (oddv hx) (k1.trans k2) S2⟩
        have hne : xs.isEmpty = false := by cases xs with | nil => exact absurd rfl hxe | cons _ _ => rfl
        rw [hne]
        refine iteF ?_
        refine ⟨_, rfl, d, g, c, T, 9, rfl, S1, by show T < 1000000000000; omega, by decide, by decide, fun r H2 _ _ k2 S2 => ?_⟩
        refine ⟨rfl, _, rfl, ?_⟩
        refine ite2 (fun _ => ?_) (fun _ => ?_)
        · exact ⟨_, rfl, d, g, c, _, rfl, S2, by show T + 1 < 1000000000000; omega, fun x H3 hx k3 S3 => fin x H3 _ (by omega) (oddv hx) ((k1.trans k2).trans k3) S3⟩
        -- at, way
        have k12 := k1.trans k2
        have l0 : 0 < xs.length := List.length_pos_iff.mpr hxe
        have t2 : TupV (Nd d g) H2 (.ref a) xs := tv.kp k12
        obtain ⟨a', ea, na', ha2⟩ := id t2
        cases ea
        refine ⟨_, rfl, _, rfl, a, xs, rfl, .inr (SqT.of ha2), d, g, c, _, _, rfl, S2, by show T + 1 < 1000000000000; omega, by omega, by omega, fun at' H3 at0 at1 k3 S3 => ?_⟩
        refine ⟨_, rfl, d, g, c, _, 8, rfl, S3, by show T + 1 + 1 < 1000000000000; omega, by decide, by decide, fun way H4 _ _ k4 S4 => ⟨_, _, rfl, ?_⟩⟩
        have k14 := (k12.trans k3).trans k4
        obtain ⟨i, rfl⟩ : ∃ i : Nat, at' = (i : Int) := ⟨at'.toNat, by omega⟩
        have hi : i < xs.length := by omega
        have t4 : TupV (Nd d g) H4 (.ref a) xs := tv.kp k14
        have q4 : ∀ x ∈ xs, PV m j (Nd d g) H4 x := fun x h => (PV.mon m j).kp k14 (hx x h)
        have nw := S4.nd
        obtain ⟨y, hy⟩ : ∃ y, xs[i]? = some y := ⟨_, List.getElem?_eq_getElem hi⟩
        have my : y ∈ xs := List.mem_of_getElem? hy
        have ay : atI xs (i : Int) = some y := atI_nat hy
        have done : ∀ (v8 : V) (H8 : Hp) (ys : List V) (T8 : Int), T8 ≤ T + 5 * ((N : Int) + 1) → Kp d g H4 H8 → StA H8 d g c T8 → TupV (Nd d g) H8 v8 ys → ys.length ≤ m + 1 → (∀ y ∈ ys, y ∈ xs ∨ PV (m + 1) (j + 1) (Nd d g) H8 y) → Q v8 H8 :=
          fun v8 H8 ys T8 hT8 k8 S8 t8 l8 q8 => fin v8 H8 T8 hT8 (t8.pv l8 fun y hy => by
            rcases q8 y hy with h | h
            · exact (((PV.mon m j).kp k8 (q4 y h)).up).wide (by omega)
            · exact h) (k14.trans k8) S8
        have lto : (cutV xs none (some (i : Int))).length = i := by rw [cut_to (by omega), List.length_take]; omega
        have lfr : (cutV xs (some ((i : Int) + 1)) none).length = xs.length - i - 1 := by
          rw [show (i : Int) + 1 = ((i + 1 : Nat) : Int) by omega, cut_from (by omega), List.length_drop]; omega
        have lfr0 : (cutV xs (some (i : Int)) none).length = xs.length - i := by rw [cut_from (by omega), List.length_drop]
        have hN : (N : Int) ≥ 0 := by omega
        -- way < 4
        refine ⟨_, rfl, _, _, rfl, rfl, _, rfl, ?_⟩
        refine ite2 (fun _ => ?_) (fun _ => ?_)
        · refine ⟨_, rfl, _, rfl, _, rfl, Nd d g, xs, nw, t4, fun v5 H5 s5 t5 => ?_⟩
          have S5 := S4.same s5
          refine ⟨_, rfl, _, rfl, _, rfl, a, xs, (i : Int), y, rfl, rfl, SqT.of (s5 _ _ t4.at), ay, d, g, c, _, m, j, y, rfl, S5, by show T + 1 + 1 + 1 + 5 * (N : Int) < 1000000000000; omega, (PV.mon m j).same s5 (q4 y my), hm2, hm, by omega, fun z H6 hz k6 S6 => ?_⟩
          refine ⟨(by show 1 ≤ sizeLine; decide), fun p6 hp6 => ?_⟩
          have S7 := S6.new (o := .tup [z]) hp6
          have k7 : Kp d g H4 (upd H6 p6 (.tup [z])) := ((Kp.of s5).trans k6).trans (Kp.new hp6)
          refine ⟨Nd d g, _, [z], S7.nd, (t5.kp k6).same (same_upd hp6), ⟨p6, rfl, S6.nd p6 hp6, upd_same⟩, by rw [lto]; show i + 1 ≤ 100000; omega, fun v8 H8 s8 t8 => ?_⟩
          refine ⟨_, rfl, _, rfl, _, _, rfl, rfl, _, rfl, Nd d g, xs, (S7.same s8).nd, (t4.kp k7).same s8, fun v9 H9 s9 t9 => ?_⟩
          refine ⟨Nd d g, _, _, ((S7.same s8).same s9).nd, t8.same s9, t9, ?_, fun v10 H10 s10 t10 => ?_⟩
          · rw [List.length_append, lto, lfr]; show i + 1 + _ ≤ 100000; omega
          · refine done v10 H10 _ _ (by omega) (k7.trans (Kp.of ((s8.trans s9).trans s10))) (((S7.same s8).same s9).same s10) t10 ?_ ?_
            · rw [List.length_append, List.length_append, lto, lfr]; show i + 1 + _ ≤ m + 1; omega
            · intro y hy
              rcases List.mem_append.mp hy with hy | hy
              · rcases List.mem_append.mp hy with hy | hy
                · exact .inl (mem_cut hy)
                · have e := List.mem_singleton.mp hy
                  rw [e]
                  exact .inr ((PV.mon _ _).same (((same_upd hp6).trans s8).trans (s9.trans s10)) hz)
              · exact .inl (mem_cut hy)
        -- way == 4
        refine ⟨_, rfl, rfl, _, rfl, ?_⟩
        refine ite2 (fun _ => ?_) (fun _ => ?_)
        · refine ⟨_, rfl, _, rfl, _, rfl, Nd d g, xs, nw, t4, fun v5 H5 s5 t5 => ?_⟩
          refine ⟨_, rfl, _, rfl, _, _, rfl, rfl, _, rfl, Nd d g, xs, (S4.same s5).nd, t4.same s5, fun v6 H6 s6 t6 => ?_⟩
          refine ⟨Nd d g, _, _, ((S4.same s5).same s6).nd, t5.same s6, t6, by rw [lto, lfr]; omega, fun v7 H7 s7 t7 => ?_⟩
          refine done v7 H7 _ _ (by omega) (Kp.of ((s5.trans s6).trans s7)) (((S4.same s5).same s6).same s7) t7 (by rw [List.length_append, lto, lfr]; omega) fun y hy => ?_
          rcases List.mem_append.mp hy with hy | hy
          · exact .inl (mem_cut hy)
          · exact .inl (mem_cut hy)
        -- way == 5
        refine ⟨_, rfl, rfl, _, rfl, ?_⟩
        refine ite2 (fun _ => ?_) (fun _ => ?_)
        · have lmid := cut_one (xs := xs) (j := i) (by omega)
          refine ⟨_, rfl, _, rfl, _, rfl, Nd d g, xs, nw, t4, fun v5 H5 s5 t5 => ?_⟩
          refine ⟨_, rfl, _, rfl, _, rfl, _, rfl, _, _, rfl, rfl, _, rfl, Nd d g, xs, (S4.same s5).nd, t4.same s5, fun v6 H6 s6 t6 => ?_⟩
          refine ⟨Nd d g, _, _, ((S4.same s5).same s6).nd, t5.same s6, t6, by rw [lto]; omega, fun v7 H7 s7 t7 => ?_⟩
          have S7 := ((S4.same s5).same s6).same s7
          have s57 := (s5.trans s6).trans s7
          refine ⟨_, rfl, _, rfl, _, rfl, Nd d g, xs, S7.nd, t4.same s57, fun v8 H8 s8 t8 => ?_⟩
          refine ⟨Nd d g, _, _, (S7.same s8).nd, t7.same s8, t8, by rw [List.length_append, lto, lfr0]; omega, fun v9 H9 s9 t9 => ?_⟩
          refine done v9 H9 _ _ (by omega) (Kp.of (s57.trans (s8.trans s9))) ((S7.same s8).same s9) t9 (by rw [List.length_append, List.length_append, lto, lfr0]; omega) fun y hy => ?_
          rcases List.mem_append.mp hy with hy | hy
          · rcases List.mem_append.mp hy with hy | hy
            · exact .inl (mem_cut hy)
            · exact .inl (mem_cut hy)
          · exact .inl (mem_cut hy)
        -- way == 6, a whole item
        refine ⟨fun σ' H' => σ' = [some (.ref d), some (.ref a), some (.int (i : Int)), some (.int way)] ∧ H' = H4, ?_, ?_⟩
        · refine ⟨_, rfl, rfl, _, rfl, ?_⟩
          refine ite2 (fun _ => ?_) (fun _ => ?_)
          · refine ⟨_, rfl, _, rfl, a, xs, (i : Int), y, rfl, rfl, SqT.of t4.at, ay, y, m, j, _, rfl, q4 y my, _, rfl, ?_⟩
            cases ew : tyN H4 y == "int" with
            | false =>
              refine iteF ?_
              exact ⟨rfl, rfl⟩
            | true =>
              refine iteT ?_
              obtain ⟨z, ez⟩ := pv_int (q4 y my) (eq_of_beq ew)
              refine ⟨_, rfl, _, rfl, _, rfl, Nd d g, xs, nw, t4, fun v5 H5 s5 t5 => ?_⟩
              have S5 := S4.same s5
              refine ⟨_, rfl, _, rfl, a, xs, (i : Int), y, rfl, rfl, SqT.of (s5 _ _ t4.at), ay, _, rfl, 1, rfl, (by show 2 ≤ sizeLine; decide), fun pL hL => ?_⟩
              have S6 := S5.new (o := .lst [.int 1, .int (-1)]) hL
              have nL := S5.nd pL hL
              refine ⟨d, g, c, pL, _, [.int 1, .int (-1)], rfl, S6, by show T + 1 + 1 + 1 < 1000000000000; omega, .inl (SqL.of upd_same), nL.1, nL.2, (by intro e; cases e), by decide, fun x H7 hx7 k7 S7 => ?_⟩
              obtain ⟨e7, rfl⟩ : ∃ e7, x = .int e7 := by
                rcases List.mem_cons.mp hx7 with h | h
                · exact ⟨_, h⟩
                · exact ⟨_, List.mem_singleton.mp h⟩
              refine ⟨z, e7, ez, rfl, (by show 1 ≤ sizeLine; decide), fun p8 hp8 => ?_⟩
              have S8 := S7.new (o := .tup [.int (z + e7)]) hp8
              have s5L := s5.trans (same_upd (o := .lst [.int 1, .int (-1)]) hL)
              have k8 : Kp d g H4 (upd H7 p8 (.tup [.int (z + e7)])) := ((Kp.of s5L).trans k7).trans (Kp.new hp8)
              refine ⟨Nd d g, _, [.int (z + e7)], S8.nd, ((t5.same (same_upd hL)).kp k7).same (same_upd hp8), ⟨p8, rfl, S7.nd p8 hp8, upd_same⟩, by rw [lto]; show i + 1 ≤ 100000; omega, fun v9 H9 s9 t9 => ?_⟩
              refine ⟨_, rfl, _, rfl, _, _, rfl, rfl, _, rfl, Nd d g, xs, (S8.same s9).nd, (t4.kp k8).same s9, fun v10 H10 s10 t10 => ?_⟩
              refine ⟨Nd d g, _, _, ((S8.same s9).same s10).nd, t9.same s10, t10, by rw [List.length_append, lto, lfr]; show i + 1 + _ ≤ 100000; omega, fun v11 H11 s11 t11 => ?_⟩
              refine done v11 H11 _ _ (by omega) (k8.trans (Kp.of ((s9.trans s10).trans s11))) (((S8.same s9).same s10).same s11) t11 (by rw [List.length_append, List.length_append, lto, lfr]; show i + 1 + _ ≤ m + 1; omega) fun y hy => ?_
              rcases List.mem_append.mp hy with hy | hy
              · rcases List.mem_append.mp hy with hy | hy
                · exact .inl (mem_cut hy)
                · have e := List.mem_singleton.mp hy
                  rw [e]
                  exact .inr (.int _)
              · exact .inl (mem_cut hy)
          · refine iteF ?_
            exact ⟨rfl, rfl⟩
        · rintro σ' H' ⟨rfl, rfl⟩
          refine ⟨_, rfl, rfl, _, rfl, ?_⟩
          refine ite2 (fun _ => ?_) (fun _ => ?_)
          · refine ⟨_, rfl, _, rfl, _, rfl, Nd d g, xs, nw, t4, fun v5 H5 s5 t5 => ?_⟩
            obtain ⟨a5, rfl, n5, h5⟩ := t5
            refine ⟨a5, _, rfl, SqT.of h5, fun p6 hp6 => ⟨p6, _, rfl, .inr (SqT.of upd_same), fun l7 hl7 => ?_⟩⟩
            have s7 := (s5.trans (same_upd hp6)).trans (same_upd (o := .lst (cutV xs none (some (i : Int))).reverse) hl7)
            have S7 := S4.same s7
            refine ⟨_, rfl, _, rfl, _, rfl, Nd d g, xs, S7.nd, t4.same s7, fun v8 H8 s8 t8 => ?_⟩
            obtain ⟨a8, rfl, n8, h8⟩ := t8
            refine ⟨a8, _, rfl, .inr (SqT.of h8), fun l9 hl9 => ?_⟩
            refine ⟨l7, l9, _, _, rfl, rfl, same_upd hl9 _ _ (s8 _ _ upd_same), upd_same, ?_, fun p10 hp10 => ?_⟩
            · rw [List.length_reverse, lto, lfr0]; exact Nat.le_of_lt (small1000 (by omega))
            · refine ⟨p10, _, rfl, .inl ⟨SqL.of upd_same, fun p11 hp11 => ?_⟩⟩
              have s11 := ((s8.trans (same_upd hl9)).trans (same_upd hp10)).trans (same_upd (o := .tup ((cutV xs none (some (i : Int))).reverse ++ cutV xs (some (i : Int)) none)) hp11)
              refine done _ _ ((cutV xs none (some (i : Int))).reverse ++ cutV xs (some (i : Int)) none) _ (by omega) (Kp.of (s7.trans s11)) (S7.same s11) ⟨p11, rfl, ?_, upd_same⟩ ?_ fun y hy => ?_
              · exact ((S7.same ((s8.trans (same_upd hl9)).trans (same_upd hp10))).nd p11 hp11)
              · rw [List.length_append, List.length_reverse, lto, lfr0]; omega
              · rcases List.mem_append.mp hy with hy | hy
                · exact .inl (mem_cut (List.mem_reverse.mp hy))
                · exact .inl (mem_cut hy)
          · refine ⟨_, rfl, a, xs, rfl, .inr (SqT.of t4.at), fun l5 hl5 => ?_⟩
            refine fin _ _ _ (by omega) ?_ (k14.trans (Kp.new hl5)) (S4.new hl5)
            refine .lst l5 xs upd_same (nw l5 hl5) (by omega) fun y hy => ?_
            exact (((PV.mon m j).same (same_upd hl5) (q4 y hy)).up).wide (by omega)
end
end Pu

namespace Pu
open PySem PySem.Spec PyProof.Rows L2
abbrev sIsNum : Stmt := top 7
abbrev sNumFrom : Stmt := top 8
abbrev sIsBegin : Stmt := top 9
abbrev sIsBank : Stmt := top 10
/-! ### sum of a tuple -/
theorem pre_take (ns : List Int) : ∀ j, preSum (fun i => ns.getD i 0) j = (ns.take j).sum
  | 0 => by simp [preSum]
  | j + 1 => by
    rw [preSum, pre_take ns j]
    by_cases h : j < ns.length
    · rw [List.take_succ_eq_append_getElem h, List.sum_append]
      simp [List.getD, List.getElem?_eq_getElem h]
    · rw [List.take_of_length_le (by omega), List.take_of_length_le (by omega)]
      simp [List.getD, List.getElem?_eq_none (show ns.length ≤ j by omega)]
theorem vals_int_at {ns : List Int} {us : List Value} (r : Vals (ns.map V.int) us) {i : Nat} {v : Value} (h : us[i]? = some v) : ∃ t, v = .int (ns.getD i 0) t := by
  have hl := r.length
  rw [List.length_map] at hl
  have hi : i < us.length := (List.getElem?_eq_some_iff.mp h).1
  obtain ⟨u, h1, h2⟩ := Vals.get (i := i) (x := V.int (ns.getD i 0)) r (by rw [List.getElem?_map, List.getElem?_eq_getElem (show i < ns.length by omega)]; simp [List.getD, List.getElem?_eq_getElem (show i < ns.length by omega)])
  rw [h] at h1
  cases h1
  exact h2
section
variable {X : Cx}
def rSumT (K : PySem.W.Frag) : List V → Hp → VK → Prop := fun vs H Q => ∃ (a : Addr) (ns : List Int), vs = [V.ref a] ∧ SqT K H a (ns.map V.int) ∧ Q (.int ns.sum) H
theorem cr_sumT (hc : X.calm = true) : CallR X (.builtin "sum") (rSumT X.K) := by
  intro pn s σ H vs us Q I r h
  obtain ⟨a, ns, rfl, hs, q⟩ := h
  obtain ⟨its, rv, hT, _⟩ := I.tuple hs
  rw [Vals.ref1 r]
  have hh : X.A.in1.handled = none := I.ok.hd hc
  have ht : s.heap.IsTuple a its.toArray := hT
  have lt : a < s.heap.objs.size := by obtain ⟨_, e, _⟩ := hT; exact Heap.lt_size e
  refine call_sum_walkG (wpAny_pyIter_tuple ht ?_)
  refine ⟨s.heap.objs.size, [s.heap.objs.size, a], [s.heap.objs.size], its.toArray.size, _, _, fun i => ns.getD i 0, rfl, Walks.tuple hh _ a (Nat.ne_of_lt lt) its.toArray,
    ⟨⟨_, Heap.get?_push_size _ rfl, rfl, rfl⟩, ?_⟩, fun b hb => ?_, fun i v h => vals_int_at rv (by simpa using h), fun h' tk t' hk => ?_⟩
  · obtain ⟨o, e, rest⟩ := hT
    exact ⟨o, Heap.get?_push_of_some _ e, rest⟩
  · show b < (s.heap.push _).objs.size
    rw [Heap.size_push]
    rcases List.mem_cons.mp hb with rfl | hb
    · exact Nat.lt_succ_self _
    · rw [List.mem_singleton.mp hb]; exact Nat.lt_succ_of_lt lt
  · have kp : ∀ b o, s.heap.get? b = some o → h'.get? b = some o := fun b o e => hk b o (fun hm => by
      have e1 := List.mem_singleton.mp hm
      exact absurd (e1 ▸ Heap.lt_size e) (Nat.lt_irrefl _)) (Heap.get?_push_of_some _ e)
    have hl := rv.length
    rw [List.length_map] at hl
    rw [pre_take, List.take_of_length_le (by rw [List.size_toArray, ← hl]; exact Nat.le_refl _)]
    exact ⟨.int _, H, I.kept kp, ⟨_, rfl⟩, q⟩
end
/-! ### numbers and banks, as functions of the value -/
abbrev BIG : Int := 1000000000000000000
def numB : V → Bool
  | .int i => decide (-BIG < i) && decide (i < BIG)
  | _ => false
def geB : V → Int → Bool
  | .int i, l => decide (l ≤ i)
  | _, _ => false
def numF (v : V) (l : Int) : Bool := numB v && geB v l
def toI : V → Int
  | .int i => i
  | _ => 0
def tupOf (H : Hp) : V → Option (List V)
  | .ref a => match H a with
    | some (.tup xs) => some xs
    | _ => none
  | _ => none
def begL (xs : List V) : Bool := decide (1 ≤ xs.length) && decide (xs.length ≤ 8) && xs.all (fun v => numF v 0) && numB (.int (xs.map toI).sum)
def begB (H : Hp) (v : V) : Bool := match tupOf H v with
  | some xs => begL xs
  | none => false
def bankL (H : Hp) : List V → Bool
  | [b, m, l] => begB H b && numF l 0 && numF m (3 * toI l + 1) && decide (toI m ≤ 13)
  | _ => false
def bankB (H : Hp) (v : V) : Bool := match tupOf H v with
  | some xs => bankL H xs
  | none => false
theorem tupOf_at {H : Hp} {a : Addr} {xs : List V} (h : H a = some (.tup xs)) : tupOf H (.ref a) = some xs := by
  show (match H a with | some (.tup xs) => some xs | _ => none) = some xs
  rw [h]
theorem tupOf_no {N : Addr → Prop} {H : Hp} {m n : Nat} {v : V} (h : PV m n N H v) (t : tyN H v ≠ "tuple") : tupOf H v = none := by
  cases n with
  | zero => exact h.elim
  | succ n =>
    cases h with
    | non => rfl
    | bl b => rfl
    | int i => rfl
    | str z => rfl
    | tup a xs e x l q => exact absurd (tyN_tup e) t
    | lst a xs e x l q => show (match H a with | some (.tup xs) => some xs | _ => none) = none; rw [e]
    | dct a e x => show (match H a with | some (.tup xs) => some xs | _ => none) = none; rw [e]
theorem num_no {N : Addr → Prop} {H : Hp} {m n : Nat} {v : V} (h : PV m n N H v) (t : tyN H v ≠ "int") : numB v = false := by
  cases n with
  | zero => exact h.elim
  | succ n =>
    cases h with
    | non => rfl
    | bl b => rfl
    | int i => exact absurd rfl t
    | str z => rfl
    | tup a xs e x l q => rfl
    | lst a xs e x l q => rfl
    | dct a e x => rfl
def spIsNum : Sp := fun vs H Q _ => ∃ v m n N, vs = [v] ∧ PV m n N H v ∧ Q (.bl (numB v)) H
def spNumFrom : Sp := fun vs H Q _ => ∃ v m n N l, vs = [v, .int l] ∧ PV m n N H v ∧ Q (.bl (numF v l)) H
def spIsBegin : Sp := fun vs H Q _ => ∃ v m n N, vs = [v] ∧ PV m n N H v ∧ m ≤ 2000 ∧ ∀ H', Same H H' → Q (.bl (begB H v)) H'
def spIsBank : Sp := fun vs H Q _ => ∃ v m n N, vs = [v] ∧ PV m n N H v ∧ m ≤ 2000 ∧ ∀ H', Same H H' → Q (.bl (bankB H v)) H'
section
variable {P : Program} {w : World} {K : PySem.W.Frag} {mg : Str → Option Value} {base : Heap}
theorem isB_int {N : Addr → Prop} {H : Hp} {m n : Nat} {v : V} (K : PySem.W.Frag) (h : PV m n N H v) : (isB (tyN H v) "int" = true ∧ isB (tyN H v) "bool" = false ↔ tyN H v = "int") ∧ (isB (tyN H v) "int" = true ∧ isB (tyN H v) "bool" = true → tyN H v = "bool") ∧ (isB (tyN H v) "int" = false → tyN H v ≠ "int") ∧ (isB (tyN H v) "tuple" = true → tyN H v = "tuple") ∧ (isB (tyN H v) "tuple" = false → tyN H v ≠ "tuple") := by
  have key : ∀ T ∈ ["NoneType", "bool", "int", "str", "tuple", "list", "dict"], (isB T "int" = true ∧ isB T "bool" = false ↔ T = "int") ∧ (isB T "int" = true ∧ isB T "bool" = true → T = "bool") ∧ (isB T "int" = false → T ≠ "int") ∧ (isB T "tuple" = true → T = "tuple") ∧ (isB T "tuple" = false → T ≠ "tuple") := by decide +kernel
  exact key _ (pv_ty (K := K) h).2
theorem scIN : FnScope ["value"] ["value"] (defScope sIsNum) := ⟨rfl, rfl, rfl, by decide +kernel, rfl, by decide +kernel, by decide +kernel⟩
theorem ok_isnum {f : Addr} {fd : FuncData} {t1 : Tok} (F : Fun K "is_number" "is_number" sIsNum f fd) (ms : mg "isinstance" = none) (mi : mg "int" = none) (mb : mg "bool" = none) (mF : mg "FIRST_TOO_LONG" = some (.int BIG t1)) : FnOk P w K mg base CX0 1 f fd ["value"] spIsNum := by
  refine F.ok scIN (fun vs H Q E h => ?_) (fun cdv A outer s H vs Q E hr h => ?_)
  · obtain ⟨v, m, n, N, rfl, _⟩ := h
    rfl
  · obtain ⟨v, m, n, N, rfl, hv, k⟩ := h
    refine ⟨_, pss_cons (ps_if (PW.pt (pw_or (pt_not (pt_val (pe_callB call_isP (by rfl) ms (by decide +kernel) (pa_cons (pv 0) (pa_cons (pe_tyn "int" (by rfl) mi (by decide +kernel)) pa_nil)))))
          (pw_or1 (pt_val (pe_callB call_isP (by rfl) ms (by decide +kernel) (pa_cons (pv 0) (pa_cons (pe_tyn "bool" (by rfl) mb (by decide +kernel)) pa_nil))))))) (pss_one (ps_ret pe_bl)) pss_nil)
      (pss_one (ps_ret (pe_chain op_lt op_lt (pe_un un_neg (pe_glob (v := .int BIG) rfl mF ⟨_, rfl⟩)) (pv 0) (pe_glob (v := .int BIG) rfl mF ⟨_, rfl⟩)))), ?_⟩
    obtain ⟨h1, h2, h3, _, _⟩ := isB_int K hv
    refine ⟨_, rfl, v, "int", m, n, N, rfl, by decide, hv, _, rfl, ?_⟩
    cases e : isB (tyN H v) "int" with
    | false =>
      refine iteT ?_
      refine iteT ?_
      have e2 := num_no hv (h3 e)
      rw [e2] at k
      exact k
    | true =>
      refine iteF ?_
      refine ⟨_, rfl, v, "bool", m, n, N, rfl, by decide, hv, _, rfl, ?_⟩
      cases e3 : isB (tyN H v) "bool" with
      | true =>
        refine iteT ?_
        have e2 := num_no hv (by rw [h2 ⟨e, e3⟩]; decide)
        rw [e2] at k
        exact k
      | false =>
        refine iteF ?_
        obtain ⟨i, rfl⟩ := pv_int hv (h1.mp ⟨e, e3⟩)
        refine ⟨BIG, rfl, _, rfl, _, _, rfl, rfl, _, rfl, ?_⟩
        by_cases c : -BIG < i
        · rw [decide_eq_true c]
          refine iteT ?_
          refine ⟨_, _, rfl, rfl, ?_⟩
          have e2 : numB (.int i) = decide (i < BIG) := by show (decide (-BIG < i) && decide (i < BIG)) = _; rw [decide_eq_true c]; rfl
          rw [e2] at k
          exact k
        · rw [decide_eq_false c]
          refine iteF ?_
          have e2 : numB (.int i) = false := by show (decide (-BIG < i) && decide (i < BIG)) = _; rw [decide_eq_false c]; rfl
          rw [e2] at k
          exact k
end
end Pu

namespace Pu
open PySem L2
section
variable {P : Program} {w : World} {K : PySem.W.Frag} {mg : Str → Option Value} {base : Heap}
theorem num_int {v : V} (h : numB v = true) : ∃ i, v = .int i ∧ -BIG < i ∧ i < BIG := by
  cases v with
  | int i =>
    have h' : (decide (-BIG < i) && decide (i < BIG)) = true := h
    rw [Bool.and_eq_true] at h'
    exact ⟨i, rfl, of_decide_eq_true h'.1, of_decide_eq_true h'.2⟩
  | non => cases h
  | bl b => cases h
  | str z => cases h
  | byt b => cases h
  | flt b => cases h
  | ref a => cases h
  | ty n => cases h
theorem scNF : FnScope ["value", "least"] ["value", "least"] (defScope sNumFrom) := ⟨rfl, rfl, rfl, by decide +kernel, rfl, by decide +kernel, by decide +kernel⟩
theorem ok_numfrom {f f1 : Addr} {fd fd1 : FuncData} (F : Fun K "is_number_from" "is_number_from" sNumFrom f fd) (G1 : FnOk P w K mg base CX0 1 f1 fd1 ["value"] spIsNum) (b1 : Binds K fd1 ["value"] []) (k1 : PySem.W.keepIn K (.ref f1) = true) (m1 : mg "is_number" = some (.ref f1)) :
    FnOk P w K mg base CX0 2 f fd ["value", "least"] spNumFrom := by
  refine F.ok scNF (fun vs H Q E h => ?_) (fun cdv A outer s H vs Q E hr h => ?_)
  · obtain ⟨v, m, n, N, l, rfl, _⟩ := h
    rfl
  · obtain ⟨v, m, n, N, l, rfl, hv, k⟩ := h
    refine ⟨_, pss_one (ps_ret (pe_and (pe_call G1 hr rfl m1 k1 b1 .nil pass0 (pa_cons (pv 0) pa_nil)) (pe_one (pe_cmpR op_ge (pv 0) (pv 1) (nomark _))))), ?_⟩
    refine ⟨_, rfl, v, m, n, N, rfl, hv, _, rfl, ?_⟩
    cases e : numB v with
    | false =>
      refine iteF ?_
      have e2 : numF v l = false := by unfold numF; rw [e]; rfl
      rw [e2] at k
      exact k
    | true =>
      refine iteT ?_
      obtain ⟨i, rfl, _⟩ := num_int e
      refine ⟨_, rfl, _, rfl, i, l, rfl, rfl, ?_⟩
      have e2 : numF (.int i) l = decide (l ≤ i) := by unfold numF; rw [e]; rfl
      rw [e2] at k
      exact k
theorem scBg : FnScope ["value", "held"] ["value"] (defScope sIsBegin) := ⟨rfl, rfl, rfl, by decide +kernel, rfl, by decide +kernel, by decide +kernel⟩
/-- all numbers from 0: the items are the ints that they look like -/
theorem all_ints : ∀ {xs : List V} {l : Int}, xs.all (fun v => numF v l) = true → xs = (xs.map toI).map V.int
  | [], _, _ => rfl
  | x :: r, l, h => by
    rw [List.all_cons, Bool.and_eq_true] at h
    have h1 : (numB x && geB x l) = true := h.1
    rw [Bool.and_eq_true] at h1
    obtain ⟨i, rfl, _⟩ := num_int h1.1
    rw [List.map_cons, List.map_cons, ← all_ints h.2]
    rfl
theorem ok_isbegin {f f1 f2 : Addr} {fd fd1 fd2 : FuncData} {t8 : Tok} (F : Fun K "is_begin" "is_begin" sIsBegin f fd) (ms : mg "isinstance" = none) (mt : mg "tuple" = none) (ml : mg "len" = none) (mal : mg "all" = none) (msu : mg "sum" = none)
    (mM : mg "MOST_PURSES" = some (.int 8 t8)) (G1 : FnOk P w K mg base CX0 1 f1 fd1 ["value"] spIsNum) (b1 : Binds K fd1 ["value"] []) (k1 : PySem.W.keepIn K (.ref f1) = true) (m1 : mg "is_number" = some (.ref f1))
    (G2 : FnOk P w K mg base CX0 2 f2 fd2 ["value", "least"] spNumFrom) (b2 : Binds K fd2 ["value", "least"] []) (k2 : PySem.W.keepIn K (.ref f2) = true) (m2 : mg "is_number_from" = some (.ref f2)) :
    FnOk P w K mg base CX0 3 f fd ["value"] spIsBegin := by
  refine F.ok scBg (fun vs H Q E h => ?_) (fun cdv A outer s H vs Q E hr h => ?_)
  · obtain ⟨v, m, n, N, rfl, _⟩ := h
    rfl
  · obtain ⟨v, m, n, N, rfl, hv, hm, k⟩ := h
    have r1 : Room 1 (A.deeper (PyProof.Rows.envOfC "is_begin" (defScope sIsBegin) s.heap.objs.size f cdv)) := hr.mono (by decide)
    refine ⟨_, pss_cons (ps_if (PW.pt (pw_or (pt_not (pt_val (pe_callB call_isP (by rfl) ms (by decide +kernel) (pa_cons (pv 0) (pa_cons (pe_tyn "tuple" (by rfl) mt (by decide +kernel)) pa_nil)))))
          (pw_or1 (pt_not (pt_chain op_le op_le pe_int (pe_callB call_len_seq (by rfl) ml boot_len (pa_cons (pv 0) pa_nil)) (pe_glob (v := .int 8) rfl mM ⟨_, rfl⟩)))))) (pss_one (ps_ret pe_bl)) pss_nil)
      (pss_one (ps_ret (pe_and (pe_callB (cr_all rfl) (by rfl) mal (by decide +kernel) (pa_cons (pe_lc (own := [("held", 1)]) (g := gName 1) rfl scBg.nd (pi_tup (pv 0)) (blkOk_by (own := [("held", 1)]) (N := ["value", "held"]) (sc := defScope sIsBegin) (by decide +kernel))
            (fun _ _ _ _ _ => pg_name (i := 1) scBg.nd rfl (Or.inl rfl)) (fun _ _ _ _ _ => pts_nil) (fun _ _ _ _ _ => pe_call G2 hr rfl m2 k2 b2 .nil pass0 (pa_cons (pv 1) (pa_cons pe_int pa_nil)))) pa_nil))
        (pe_one (pe_call G1 r1 rfl m1 k1 b1 .nil pass0 (pa_cons (pe_callB (cr_sumT rfl) (by rfl) msu (by decide +kernel) (pa_cons (pv 0) pa_nil)) pa_nil)))))), ?_⟩
    obtain ⟨_, _, _, h4, h5⟩ := isB_int K hv
    refine ⟨_, rfl, v, "tuple", m, n, N, rfl, by decide, hv, _, rfl, ?_⟩
    cases e : isB (tyN H v) "tuple" with
    | false =>
      refine iteT ?_
      refine iteT ?_
      have e2 : begB H v = false := by unfold begB; rw [tupOf_no hv (h5 e)]
      rw [e2] at k
      exact k H (Same.refl H)
    | true =>
      refine iteF ?_
      obtain ⟨xs, j, rfl, ⟨a, rfl, na, ha⟩, hl, hx⟩ := pv_tup hv (h4 e)
      have eb : begB H (.ref a) = begL xs := by unfold begB; rw [tupOf_at ha]
      rw [eb] at k
      refine ⟨_, rfl, a, xs, rfl, .inr (SqT.of ha), _, _, rfl, rfl, _, rfl, ?_⟩
      have no1 : ¬ (1 : Int) ≤ (xs.length : Int) → begL xs = false := fun c => by
        unfold begL; rw [decide_eq_false (show ¬ 1 ≤ xs.length by omega)]; rfl
      by_cases c1 : (1 : Int) ≤ (xs.length : Int)
      · rw [decide_eq_true c1]
        refine iteT ?_
        refine ⟨_, _, rfl, rfl, _, rfl, ?_⟩
        by_cases c2 : (xs.length : Int) ≤ 8
        · rw [decide_eq_true c2]
          refine iteF ?_
          have hlen : xs.length ≤ 8 := by omega
          have sD : ∀ (D : Addr) (l : List V), H D = none → Same H (upd H D (.lst l)) := fun D l hD => same_upd hD
          refine ⟨_, rfl, a, rfl, ⟨xs, SqT.of ha⟩, fun D hD => lc_tup (K := K) (a := a) (xs := xs) (fun i H' => H' = upd H D (.lst ((xs.take i).map fun v => V.bl (numF v 0))))
            rfl (fun i H' _ e => by rw [e]; exact SqT.of (same_upd hD _ _ ha)) ?_ ?_⟩
          · rintro i x H' hxi rfl
            have hi : i < xs.length := (List.getElem?_eq_some_iff.mp hxi).1
            refine ⟨rfl, ?_⟩
            dsimp only [tYes]
            refine iteT ?_
            refine ⟨_, rfl, x, m, j, N, 0, rfl, (PV.mon m j).same (same_upd hD) (hx x (List.mem_of_getElem? hxi)), _, upd_same, ?_, ?_⟩
            · rw [List.length_map, List.length_take]; exact small1000 (by omega)
            · rw [upd_upd, List.take_succ, hxi, List.map_append]; rfl
          · rintro H' rfl
            rw [List.take_of_length_le (Nat.le_refl _)]
            refine ⟨D, xs.map (fun v => numF v 0), rfl, SqL.of (by rw [List.map_map]; exact upd_same), _, rfl, ?_⟩
            have ea : (xs.map (fun v => numF v 0)).all id = xs.all (fun v => numF v 0) := by rw [List.all_map]; rfl
            rw [ea]
            have key : begL xs = (xs.all (fun v => numF v 0) && numB (.int (xs.map toI).sum)) := by
              unfold begL
              rw [decide_eq_true (show 1 ≤ xs.length by omega), decide_eq_true hlen]; rfl
            cases eall : xs.all (fun v => numF v 0) with
            | false =>
              refine iteF ?_
              rw [key, eall] at k
              exact k _ (same_upd hD)
            | true =>
              refine iteT ?_
              have ei := all_ints eall
              refine ⟨_, rfl, a, xs.map toI, rfl, SqT.of (by rw [← ei]; exact same_upd hD _ _ ha), .int (xs.map toI).sum, 0, 1, N, rfl, .int _, ?_⟩
              rw [key, eall] at k
              exact k _ (same_upd hD)
        · rw [decide_eq_false c2]
          refine iteT ?_
          have e2 : begL xs = false := by unfold begL; rw [decide_eq_false (show ¬ xs.length ≤ 8 by omega), Bool.and_false]; rfl
          rw [e2] at k
          exact k H (Same.refl H)
      · rw [decide_eq_false c1]
        refine iteF ?_
        refine ⟨_, rfl, ?_⟩
        refine iteT ?_
        rw [no1 c1] at k
        exact k H (Same.refl H)
end
end Pu

namespace Pu
open PySem L2
abbrev sOwn : Stmt := top 24
def wholeV : V → Bool
  | .int _ => true
  | _ => false
theorem whole_eq {N : Addr → Prop} {H : Hp} {m n : Nat} {v : V} (h : PV m n N H v) : (tyN H v == "int") = wholeV v := by
  cases n with
  | zero => exact h.elim
  | succ n =>
    cases h with
    | non => rfl
    | bl b => rfl
    | int i => rfl
    | str z => rfl
    | tup a xs e x l q => rw [tyN_tup e]; rfl
    | lst a xs e x l q => rw [tyN_lst e]; rfl
    | dct a e x => rw [tyN_dct e]; rfl
theorem whole_int {v : V} (h : wholeV v = true) : ∃ i, v = .int i := by
  cases v with
  | int i => exact ⟨i, rfl⟩
  | non => cases h
  | bl b => cases h
  | str z => cases h
  | byt b => cases h
  | flt b => cases h
  | ref a => cases h
  | ty n => cases h
def okA (v : V) : Bool := wholeV v && decide (0 ≤ toI v)
theorem okA_int {v : V} (h : okA v = true) : ∃ i, v = .int i ∧ 0 ≤ i := by
  unfold okA at h
  rw [Bool.and_eq_true] at h
  obtain ⟨i, rfl⟩ := whole_int h.1
  exact ⟨i, rfl, of_decide_eq_true h.2⟩
theorem okA_ints : ∀ {xs : List V}, xs.all okA = true → xs = (xs.map toI).map V.int ∧ ∀ z ∈ xs.map toI, 0 ≤ z
  | [], _ => ⟨rfl, fun z h => nomatch h⟩
  | x :: r, h => by
    rw [List.all_cons, Bool.and_eq_true] at h
    obtain ⟨i, rfl, hi⟩ := okA_int h.1
    obtain ⟨h1, h2⟩ := okA_ints h.2
    refine ⟨by rw [List.map_cons, List.map_cons, ← h1]; rfl, fun z hz => ?_⟩
    rw [List.map_cons] at hz
    rcases List.mem_cons.mp hz with e | e
    · rw [e]; exact hi
    · exact h2 z e
theorem le_sum : ∀ {ns : List Int}, (∀ z ∈ ns, 0 ≤ z) → 0 ≤ ns.sum ∧ ∀ z ∈ ns, z ≤ ns.sum
  | [], _ => ⟨Int.le_refl 0, fun z h => nomatch h⟩
  | x :: r, h => by
    obtain ⟨h1, h2⟩ := le_sum (ns := r) fun z hz => h z (List.mem_cons_of_mem _ hz)
    have h0 := h x List.mem_cons_self
    rw [List.sum_cons]
    refine ⟨by omega, fun z hz => ?_⟩
    rcases List.mem_cons.mp hz with e | e
    · rw [e]; omega
    · have := h2 z e; omega
theorem numF_int (i l : Int) : numF (.int i) l = (decide (-BIG < i) && decide (i < BIG) && decide (l ≤ i)) := rfl
theorem numF_ok {v : V} (h : numF v 0 = true) : okA v = true := by
  unfold numF at h
  rw [Bool.and_eq_true] at h
  obtain ⟨i, rfl, _⟩ := num_int h.1
  have h2 : decide (0 ≤ i) = true := h.2
  show (true && decide (0 ≤ i)) = true
  rw [h2]; rfl
theorem all_ok {xs : List V} (h : xs.all (fun v => numF v 0) = true) : xs.all okA = true := by
  rw [List.all_eq_true] at h ⊢
  exact fun v hv => numF_ok (h v hv)
/-- the law's reading of what is there at first, beside the program's -/
theorem begL_own {xs : List V} (h1 : 1 ≤ xs.length) (h8 : xs.length ≤ 8) (ho : xs.all okA = true) : begL xs = decide ((xs.map toI).sum < BIG) := by
  obtain ⟨e, p⟩ := okA_ints ho
  obtain ⟨s0, sm⟩ := le_sum p
  unfold begL
  rw [decide_eq_true h1, decide_eq_true h8]
  by_cases c : (xs.map toI).sum < BIG
  · rw [decide_eq_true c]
    have ha : xs.all (fun v => numF v 0) = true := by
      rw [List.all_eq_true]
      intro v hv
      obtain ⟨i, rfl, hi⟩ := okA_int (List.all_eq_true.mp ho v hv)
      have := sm i (List.mem_map.mpr ⟨_, hv, rfl⟩)
      rw [numF_int, decide_eq_true (show -BIG < i by omega), decide_eq_true (show i < BIG by omega), decide_eq_true hi]; rfl
    rw [ha]
    show (true && (decide (-BIG < (xs.map toI).sum) && decide ((xs.map toI).sum < BIG))) = true
    rw [decide_eq_true c, decide_eq_true (show -BIG < (xs.map toI).sum by omega)]; rfl
  · rw [decide_eq_false c]
    show (_ && (decide (-BIG < (xs.map toI).sum) && decide ((xs.map toI).sum < BIG))) = false
    rw [decide_eq_false c, Bool.and_false, Bool.and_false]
theorem begL_not {xs : List V} (ho : xs.all okA = false) : begL xs = false := by
  have h : xs.all (fun v => numF v 0) = false := by
    cases e : xs.all (fun v => numF v 0) with
    | false => rfl
    | true => rw [all_ok e] at ho; cases ho
  unfold begL
  rw [h, Bool.and_false]; rfl
theorem last_own {li mi : Int} : (decide (0 ≤ li) && (decide (1 ≤ mi) && (decide (3 * li < mi) && decide (mi < 14)))) = (numF (.int li) 0 && numF (.int mi) (3 * li + 1) && decide (mi ≤ 13)) := by
  have hB : BIG = 1000000000000000000 := rfl
  rw [numF_int, numF_int, Bool.eq_iff_iff]
  simp only [Bool.and_eq_true, decide_eq_true_eq]
  omega
theorem b_and3 (a b c : Bool) : (a && b && c) = (a && (b && c)) := Bool.and_assoc a b c
section
variable {P : Program} {w : World} {K : PySem.W.Frag} {mg : Str → Option Value} {base : Heap}
theorem scBk : FnScope ["value", "begin", "members", "lies"] ["value"] (defScope sIsBank) := ⟨rfl, rfl, rfl, by decide +kernel, rfl, by decide +kernel, by decide +kernel⟩
theorem ok_isbank {f f2 f3 : Addr} {fd fd2 fd3 : FuncData} {t13 : Tok} (F : Fun K "is_bank" "is_bank" sIsBank f fd) (ms : mg "isinstance" = none) (mt : mg "tuple" = none) (ml : mg "len" = none) (mM : mg "MOST_MEMBERS" = some (.int 13 t13))
    (G2 : FnOk P w K mg base CX0 2 f2 fd2 ["value", "least"] spNumFrom) (b2 : Binds K fd2 ["value", "least"] []) (k2 : PySem.W.keepIn K (.ref f2) = true) (m2 : mg "is_number_from" = some (.ref f2))
    (G3 : FnOk P w K mg base CX0 3 f3 fd3 ["value"] spIsBegin) (b3 : Binds K fd3 ["value"] []) (k3 : PySem.W.keepIn K (.ref f3) = true) (m3 : mg "is_begin" = some (.ref f3)) :
    FnOk P w K mg base CX0 4 f fd ["value"] spIsBank := by
  refine F.ok scBk (fun vs H Q E h => ?_) (fun cdv A outer s H vs Q E hr h => ?_)
  · obtain ⟨v, m, n, N, rfl, _⟩ := h
    rfl
  · obtain ⟨v, m, n, N, rfl, hv, hm, k⟩ := h
    have r2 : Room 2 (A.deeper (PyProof.Rows.envOfC "is_bank" (defScope sIsBank) s.heap.objs.size f cdv)) := hr.mono (by decide)
    refine ⟨_, pss_cons (ps_if (PW.pt (pw_or (pt_not (pt_val (pe_callB call_isP (by rfl) ms (by decide +kernel) (pa_cons (pv 0) (pa_cons (pe_tyn "tuple" (by rfl) mt (by decide +kernel)) pa_nil)))))
          (pw_or1 (pt_cmpR op_ne (pe_callB call_len_seq (by rfl) ml boot_len (pa_cons (pv 0) pa_nil)) pe_int (nomark _))))) (pss_one (ps_ret pe_bl)) pss_nil)
      (pss_cons (ps_asg (pv 0) (pg_tup rfl (pgs_cons (pg_name (i := 1) scBk.nd rfl (Or.inl rfl)) (pgs_cons (pg_name (i := 2) scBk.nd rfl (Or.inl rfl)) (pgs_cons (pg_name (i := 3) scBk.nd rfl (Or.inl rfl)) pgs_nil)))))
      (pss_cons (ps_if (PW.pt (pw_or (pt_not (pt_val (pe_call G3 hr rfl m3 k3 b3 .nil pass0 (pa_cons (pv 1) pa_nil)))) (pw_or1 (pt_not (pt_val (pe_call G2 r2 rfl m2 k2 b2 .nil pass0 (pa_cons (pv 3) (pa_cons pe_int pa_nil)))))))) (pss_one (ps_ret pe_bl)) pss_nil)
      (pss_one (ps_ret (pe_and (pe_call G2 r2 rfl m2 k2 b2 .nil pass0 (pa_cons (pv 2) (pa_cons (pe_op op_add (pe_op op_mul pe_int (pv 3)) pe_int) pa_nil))) (pe_one (pe_cmpR op_le (pv 2) (pe_glob (v := .int 13) rfl mM ⟨_, rfl⟩) (nomark _)))))))), ?_⟩
    obtain ⟨_, _, _, h4, h5⟩ := isB_int K hv
    refine ⟨_, rfl, v, "tuple", m, n, N, rfl, by decide, hv, _, rfl, ?_⟩
    cases e : isB (tyN H v) "tuple" with
    | false =>
      refine iteT ?_
      refine iteT ?_
      have e2 : bankB H v = false := by unfold bankB; rw [tupOf_no hv (h5 e)]
      rw [e2] at k
      exact k H (Same.refl H)
    | true =>
      refine iteF ?_
      obtain ⟨xs, j, rfl, ⟨a, rfl, na, ha⟩, hl, hx⟩ := pv_tup hv (h4 e)
      have eb : bankB H (.ref a) = bankL H xs := by unfold bankB; rw [tupOf_at ha]
      rw [eb] at k
      refine ⟨_, rfl, a, xs, rfl, .inr (SqT.of ha), rfl, _, rfl, ?_⟩
      by_cases c3 : xs.length = 3
      · have e3 : (!decide (V.int (xs.length : Int) = V.int 3)) = false := by rw [c3]; rfl
        rw [e3]
        refine iteF ?_
        obtain ⟨b, mm, l, rfl⟩ : ∃ b mm l, xs = [b, mm, l] := by
          match xs, c3 with
          | [b, mm, l], _ => exact ⟨b, mm, l, rfl⟩
        refine ⟨_, rfl, a, _, rfl, SqT.of ha, rfl, _, _, rfl, _, _, rfl, _, _, rfl, rfl, ?_⟩
        have hb := hx b (by simp)
        have hmm := hx mm (by simp)
        have hll := hx l (by simp)
        refine ⟨_, rfl, b, m, j, N, rfl, hb, hm, fun H1 s1 => ⟨_, rfl, ?_⟩⟩
        have key : bankL H [b, mm, l] = (begB H b && numF l 0 && numF mm (3 * toI l + 1) && decide (toI mm ≤ 13)) := rfl
        cases ebg : begB H b with
        | false =>
          refine iteT ?_
          refine iteT ?_
          rw [key, ebg] at k
          exact k H1 s1
        | true =>
          refine iteF ?_
          refine ⟨_, rfl, l, m, j, N, 0, rfl, (PV.mon m j).same s1 hll, _, rfl, ?_⟩
          cases el : numF l 0 with
          | false =>
            refine iteT ?_
            rw [key, ebg, el] at k
            exact k H1 s1
          | true =>
            refine iteF ?_
            obtain ⟨li, rfl, hli⟩ := okA_int (numF_ok el)
            refine ⟨_, rfl, _, rfl, _, _, rfl, rfl, .inl ⟨by decide, by decide⟩, _, _, rfl, rfl, mm, m, j, N, 3 * li + 1, rfl, (PV.mon m j).same s1 hmm, _, rfl, ?_⟩
            have e3 : numF mm (3 * toI (.int li) + 1) = numF mm (3 * li + 1) := rfl
            cases em : numF mm (3 * li + 1) with
            | false =>
              refine iteF ?_
              rw [key, ebg, el, e3, em] at k
              exact k H1 s1
            | true =>
              refine iteT ?_
              obtain ⟨mi, rfl, _⟩ : ∃ i, mm = .int i ∧ True := by
                unfold numF at em
                rw [Bool.and_eq_true] at em
                obtain ⟨i, h, _⟩ := num_int em.1
                exact ⟨i, h, trivial⟩
              refine ⟨_, rfl, mi, 13, rfl, rfl, ?_⟩
              rw [key, ebg, el, e3, em] at k
              exact k H1 s1
      · have e3 : (!decide (V.int (xs.length : Int) = V.int 3)) = true := by
          rw [decide_eq_false (fun q => c3 (by have := V.int.inj q; omega))]; rfl
        rw [e3]
        refine iteT ?_
        have e2 : bankL H xs = false := by
          match xs, c3 with
          | [], _ => rfl
          | [_], _ => rfl
          | [_, _], _ => rfl
          | [_, _, _], c => exact absurd rfl c
          | _ :: _ :: _ :: _ :: _, _ => rfl
        rw [e2] at k
        exact k H (Same.refl H)
end
end Pu

namespace Pu
open PySem L2
section
variable {P : Program} {w : World} {K : PySem.W.Frag} {mg : Str → Option Value} {base : Heap}
theorem scOw : FnScope ["value", "begin", "members", "lies", "amount"] ["value"] (defScope sOwn) := ⟨rfl, rfl, rfl, by decide +kernel, rfl, by decide +kernel, by decide +kernel⟩
theorem ones (k : Nat) : (List.replicate k (1 : Int)).map V.int ++ [V.int 1] = (List.replicate (k + 1) (1 : Int)).map V.int := by
  rw [List.replicate_succ', List.map_append]; rfl
theorem ok_own {f fW : Addr} {fd fdW : FuncData} (F : Fun K "_law_k00_is_bank" "_law_k00_is_bank" sOwn f fd) (ms : mg "isinstance" = none) (mt : mg "tuple" = none) (ml : mg "len" = none) (msu : mg "sum" = none)
    (GW : FnOk P w K mg base CX0 1 fW fdW ["item"] spWhole) (bW : Binds K fdW ["item"] []) (kW : PySem.W.keepIn K (.ref fW) = true) (mW : mg "_law_is_whole" = some (.ref fW)) :
    FnOk P w K mg base CX0 2 f fd ["value"] spIsBank := by
  refine F.ok scOw (fun vs H Q E h => ?_) (fun cdv A outer s H vs Q E hr h => ?_)
  · obtain ⟨v, m, n, N, rfl, _⟩ := h
    rfl
  · obtain ⟨v, m, n, N, rfl, hv, hm, k⟩ := h
    refine ⟨_, pss_cons (ps_if (PW.pt (pw_or (pt_not (pt_val (pe_callB call_isP (by rfl) ms (by decide +kernel) (pa_cons (pv 0) (pa_cons (pe_tyn "tuple" (by rfl) mt (by decide +kernel)) pa_nil)))))
          (pw_or (pt_cmpR op_ne (pe_callB call_len_seq (by rfl) ml boot_len (pa_cons (pv 0) pa_nil)) pe_int (nomark _))
          (pw_or1 (pt_not (pt_val (pe_callB call_isP (by rfl) ms (by decide +kernel) (pa_cons (pe_ix ix_tup (pv 0) pe_int (fun _ _ => rfl)) (pa_cons (pe_tyn "tuple" (by rfl) mt (by decide +kernel)) pa_nil))))))))) (pss_one (ps_ret pe_bl)) pss_nil)
      (pss_cons (ps_asg (pv 0) (pg_tup rfl (pgs_cons (pg_name (i := 1) scOw.nd rfl (Or.inl rfl)) (pgs_cons (pg_name (i := 2) scOw.nd rfl (Or.inl rfl)) (pgs_cons (pg_name (i := 3) scOw.nd rfl (Or.inl rfl)) pgs_nil)))))
      (pss_cons (ps_if (PW.pt (pw_or (pt_cmpR op_lt (pe_callB call_len_seq (by rfl) ml boot_len (pa_cons (pv 1) pa_nil)) pe_int (nomark _))
          (pw_or (pt_cmpR op_gt (pe_callB call_len_seq (by rfl) ml boot_len (pa_cons (pv 1) pa_nil)) pe_int (nomark _))
          (pw_or (pt_not (pt_val (pe_call GW hr rfl mW kW bW .nil pass0 (pa_cons (pv 2) pa_nil)))) (pw_or1 (pt_not (pt_val (pe_call GW hr rfl mW kW bW .nil pass0 (pa_cons (pv 3) pa_nil))))))))) (pss_one (ps_ret pe_bl)) pss_nil)
      (pss_cons (ps_if (PW.pt (pw_or (pt_cmpR (op_neD hr.units) (pe_lc (own := [("amount", 4)]) (g := gName 4) rfl scOw.nd (pi_tup (pv 1)) (blkOk_by (own := [("amount", 4)]) (N := ["value", "begin", "members", "lies", "amount"]) (sc := defScope sOwn) (by decide +kernel))
            (fun _ _ _ _ _ => pg_name (i := 4) scOw.nd rfl (Or.inl rfl))
            (fun _ _ _ _ _ => pts_one (PW.pt (pw_or (pt_not (pt_val (pe_call GW hr rfl mW kW bW .nil pass0 (pa_cons (pv 4) pa_nil)))) (pw_or1 (pt_cmpR op_lt (pv 4) pe_int (nomark _))))))
            (fun _ _ _ _ _ => pe_int)) (pe_lst pa_nil) (nomark _))
          (pw_or1 (pt_cmpR op_ge (pe_callB (cr_sumT rfl) (by rfl) msu (by decide +kernel) (pa_cons (pv 1) pa_nil)) (pe_op op_pow pe_int pe_int) (nomark _))))) (pss_one (ps_ret pe_bl)) pss_nil)
      (pss_one (ps_ret (pe_and (pe_cmpR op_ge (pv 3) pe_int (nomark _)) (pe_and (pe_cmpR op_ge (pv 2) pe_int (nomark _)) (pe_one (pe_chain op_lt op_lt (pe_op op_mul pe_int (pv 3)) (pv 2) pe_int))))))))), ?_⟩
    obtain ⟨_, _, _, h4, h5⟩ := isB_int K hv
    refine ⟨_, rfl, v, "tuple", m, n, N, rfl, by decide, hv, _, rfl, ?_⟩
    cases e : isB (tyN H v) "tuple" with
    | false =>
      refine iteT ?_
      refine iteT ?_
      have e2 : bankB H v = false := by unfold bankB; rw [tupOf_no hv (h5 e)]
      rw [e2] at k
      exact k H (Same.refl H)
    | true =>
      refine iteF ?_
      obtain ⟨xs, j, rfl, ⟨a, rfl, na, ha⟩, hl, hx⟩ := pv_tup hv (h4 e)
      have eb : bankB H (.ref a) = bankL H xs := by unfold bankB; rw [tupOf_at ha]
      rw [eb] at k
      refine ⟨_, rfl, a, xs, rfl, .inr (SqT.of ha), rfl, _, rfl, ?_⟩
      by_cases c3 : xs.length = 3
      · have e3 : (!decide (V.int (xs.length : Int) = V.int 3)) = false := by rw [c3]; rfl
        rw [e3]
        refine iteF ?_
        obtain ⟨b, mm, l, rfl⟩ : ∃ b mm l, xs = [b, mm, l] := by
          match xs, c3 with
          | [b, mm, l], _ => exact ⟨b, mm, l, rfl⟩
        have hb := hx b (by simp)
        have hmm := hx mm (by simp)
        have hll := hx l (by simp)
        obtain ⟨_, _, _, g4, g5⟩ := isB_int K hb
        have key : bankL H [b, mm, l] = (begB H b && numF l 0 && numF mm (3 * toI l + 1) && decide (toI mm ≤ 13)) := rfl
        refine ⟨_, rfl, a, _, 0, b, rfl, rfl, SqT.of ha, atI_nat (j := 0) rfl, b, "tuple", m, j, N, rfl, by decide, hb, _, rfl, ?_⟩
        cases et : isB (tyN H b) "tuple" with
        | false =>
          refine iteT ?_
          have e2 : begB H b = false := by unfold begB; rw [tupOf_no hb (g5 et)]
          rw [key, e2] at k
          exact k H (Same.refl H)
        | true =>
          refine iteF ?_
          obtain ⟨ys, j2, rfl, ⟨a2, rfl, na2, ha2⟩, hl2, hx2⟩ := pv_tup hb (g4 et)
          have ebg : begB H (.ref a2) = begL ys := by unfold begB; rw [tupOf_at ha2]
          rw [key, ebg] at k
          refine ⟨_, rfl, a, _, rfl, SqT.of ha, rfl, _, _, rfl, _, _, rfl, _, _, rfl, rfl, ?_⟩
          refine ⟨_, rfl, a2, ys, rfl, .inr (SqT.of ha2), _, _, rfl, rfl, _, rfl, ?_⟩
          by_cases c1 : (ys.length : Int) < 1
          · rw [decide_eq_true c1]
            refine iteT ?_
            refine iteT ?_
            have e2 : begL ys = false := by unfold begL; rw [decide_eq_false (show ¬ 1 ≤ ys.length by omega)]; rfl
            rw [e2] at k
            exact k H (Same.refl H)
          rw [decide_eq_false c1]
          refine iteF ?_
          refine ⟨_, rfl, a2, ys, rfl, .inr (SqT.of ha2), _, _, rfl, rfl, _, rfl, ?_⟩
          by_cases c2 : (8 : Int) < (ys.length : Int)
          · rw [decide_eq_true c2]
            refine iteT ?_
            refine iteT ?_
            have e2 : begL ys = false := by unfold begL; rw [decide_eq_false (show ¬ ys.length ≤ 8 by omega), Bool.and_false]; rfl
            rw [e2] at k
            exact k H (Same.refl H)
          rw [decide_eq_false c2]
          refine iteF ?_
          refine ⟨_, rfl, mm, m, _, N, rfl, hmm, _, rfl, ?_⟩
          rw [whole_eq hmm]
          cases em : wholeV mm with
          | false =>
            refine iteT ?_
            refine iteT ?_
            have e2 : ∀ z, numF mm z = false := fun z => by
              unfold numF
              cases q : numB mm with
              | false => rfl
              | true => obtain ⟨i, rfl, _⟩ := num_int q; cases em
            rw [e2, Bool.and_false] at k
            exact k H (Same.refl H)
          | true =>
            refine iteF ?_
            obtain ⟨mi, rfl⟩ := whole_int em
            refine ⟨_, rfl, l, m, _, N, rfl, hll, _, rfl, ?_⟩
            rw [whole_eq hll]
            cases el : wholeV l with
            | false =>
              refine iteT ?_
              have e2 : numF l 0 = false := by
                unfold numF
                cases q : numB l with
                | false => rfl
                | true => obtain ⟨i, rfl, _⟩ := num_int q; cases el
              rw [e2, Bool.and_false] at k
              exact k H (Same.refl H)
            | true =>
              refine iteF ?_
              obtain ⟨li, rfl⟩ := whole_int el
              refine ⟨_, rfl, a2, rfl, ⟨ys, SqT.of ha2⟩, fun D hD => lc_tup (K := K) (a := a2) (xs := ys) (fun i H' => ∃ kk : Nat, H' = upd H D (.lst ((List.replicate kk (1 : Int)).map V.int)) ∧ (kk = 0 ↔ (ys.take i).all okA = true) ∧ kk ≤ i)
                ⟨0, rfl, ⟨fun _ => rfl, fun _ => rfl⟩, Nat.le_refl 0⟩ (fun i H' _ ⟨kk, e, _⟩ => by rw [e]; exact SqT.of (same_upd hD _ _ ha2)) ?_ ?_⟩
              · rintro i x H' hxi ⟨kk, rfl, hk0, hki⟩
                have hi : i < ys.length := (List.getElem?_eq_some_iff.mp hxi).1
                have px := (PV.mon m j2).same (same_upd (o := .lst ((List.replicate kk (1 : Int)).map V.int)) hD) (hx2 x (List.mem_of_getElem? hxi))
                have et : (ys.take (i + 1)).all okA = ((ys.take i).all okA && okA x) := by
                  rw [List.take_succ, hxi, List.all_append]
                  show (_ && (okA x && true)) = _
                  rw [Bool.and_true]
                have add : okA x = false → ∃ acc, upd H D (.lst ((List.replicate kk (1 : Int)).map V.int)) D = some (.lst acc) ∧ acc.length < sizeLine ∧ ∃ k2 : Nat, upd (upd H D (.lst ((List.replicate kk (1 : Int)).map V.int))) D (.lst (acc ++ [V.int 1])) = upd H D (.lst ((List.replicate k2 (1 : Int)).map V.int)) ∧ (k2 = 0 ↔ (ys.take (i + 1)).all okA = true) ∧ k2 ≤ i + 1 := fun q =>
                  ⟨_, upd_same, by rw [List.length_map, List.length_replicate]; exact small1000 (by omega), kk + 1, by rw [upd_upd, ones], by rw [et, q, Bool.and_false]; exact ⟨fun z => (by omega), fun z => nomatch z⟩, by omega⟩
                refine ⟨rfl, _, rfl, x, m, j2, N, rfl, px, _, rfl, ?_⟩
                rw [whole_eq px]
                cases ew : wholeV x with
                | false =>
                  refine iteT ?_
                  refine iteT ?_
                  exact add (by unfold okA; rw [ew]; rfl)
                | true =>
                  refine iteF ?_
                  obtain ⟨z, rfl⟩ := whole_int ew
                  refine ⟨_, rfl, z, 0, rfl, rfl, _, rfl, ?_⟩
                  by_cases c0 : z < 0
                  · rw [decide_eq_true c0]
                    refine iteT ?_
                    exact add (by show (true && decide (0 ≤ z)) = false; rw [decide_eq_false (by omega)]; rfl)
                  · rw [decide_eq_false c0]
                    refine iteF ?_
                    refine ⟨kk, rfl, ?_, by omega⟩
                    rw [et, show okA (.int z) = true by show (true && decide (0 ≤ z)) = true; rw [decide_eq_true (by omega)]; rfl, Bool.and_true]
                    exact hk0
              · rintro H' ⟨kk, rfl, hk0, hki⟩
                rw [List.take_of_length_le (Nat.le_refl _)] at hk0
                refine ⟨(by show 0 ≤ sizeLine; exact Nat.zero_le _), fun p hp => ?_⟩
                have sD : Same H (upd H D (.lst ((List.replicate kk (1 : Int)).map V.int))) := same_upd hD
                have s2 := sD.trans (same_upd (o := .lst []) hp)
                have Dp' : D ≠ p := fun q => by rw [← q, upd_same] at hp; cases hp
                refine ⟨.list ((List.replicate kk (1 : Int)).map PyData.int), .list [], .lst (SqL.of (by rw [upd_ne Dp']; exact upd_same)) (dp_ints _), .lst (SqL.of upd_same) .nil, shaped_ints _, shaped_ints [], _, rfl, ?_⟩
                rw [eqv_nil]
                by_cases ck : kk = 0
                · have eo := hk0.mp ck
                  rw [ck]
                  refine iteF ?_
                  obtain ⟨ei, p0⟩ := okA_ints eo
                  have ebl := begL_own (show 1 ≤ ys.length by omega) (show ys.length ≤ 8 by omega) eo
                  rw [ebl] at k
                  rw [ck] at s2
                  refine ⟨_, rfl, a2, ys.map toI, rfl, SqT.of (by rw [← ei]; exact s2 _ _ ha2), 10, 18, rfl, rfl, ⟨by decide, by decide, by decide⟩, _, _, rfl, rfl, _, rfl, ?_⟩
                  have e18 : (10 : Int) ^ (18 : Int).toNat = BIG := by decide
                  rw [e18]
                  by_cases cs : BIG ≤ (ys.map toI).sum
                  · rw [decide_eq_true cs]
                    refine iteT ?_
                    rw [decide_eq_false (show ¬ (ys.map toI).sum < BIG by omega)] at k
                    exact k _ s2
                  · rw [decide_eq_false cs]
                    refine iteF ?_
                    rw [decide_eq_true (show (ys.map toI).sum < BIG by omega)] at k
                    have kk2 : (numF (.int li) 0 && numF (.int mi) (3 * li + 1) && decide (mi ≤ 13)) = (decide (0 ≤ li) && (decide (1 ≤ mi) && (decide (3 * li < mi) && decide (mi < 14)))) := last_own.symm
                    have k' : ∀ H', Same H H' → Q (.bl (decide (0 ≤ li) && (decide (1 ≤ mi) && (decide (3 * li < mi) && decide (mi < 14))))) H' := fun H' s' => by
                      rw [← kk2]
                      exact k H' s'
                    refine ⟨_, rfl, li, 0, rfl, rfl, _, rfl, ?_⟩
                    by_cases d1 : 0 ≤ li
                    · rw [decide_eq_true d1] at k' ⊢
                      refine iteT ?_
                      refine ⟨_, rfl, mi, 1, rfl, rfl, _, rfl, ?_⟩
                      by_cases d2 : 1 ≤ mi
                      · rw [decide_eq_true d2] at k' ⊢
                        refine iteT ?_
                        refine ⟨_, rfl, _, _, rfl, rfl, .inl ⟨by decide, by decide⟩, _, rfl, _, _, rfl, rfl, _, rfl, ?_⟩
                        by_cases d3 : 3 * li < mi
                        · rw [decide_eq_true d3] at k' ⊢
                          refine iteT ?_
                          refine ⟨_, _, rfl, rfl, ?_⟩
                          exact k' _ s2
                        · rw [decide_eq_false d3] at k' ⊢
                          refine iteF ?_
                          exact k' _ s2
                      · rw [decide_eq_false d2] at k' ⊢
                        refine iteF ?_
                        exact k' _ s2
                    · rw [decide_eq_false d1] at k' ⊢
                      refine iteF ?_
                      exact k' _ s2
                · have eo : ys.all okA = false := by
                    cases q : ys.all okA with
                    | false => rfl
                    | true => exact absurd (hk0.mpr q) ck
                  have ene : ((List.replicate kk (1 : Int))).isEmpty = false := by cases kk with | zero => exact absurd rfl ck | succ kk => rfl
                  rw [ene]
                  refine iteT ?_
                  refine iteT ?_
                  rw [begL_not eo] at k
                  exact k _ s2
      · have e3 : (!decide (V.int (xs.length : Int) = V.int 3)) = true := by
          rw [decide_eq_false (fun q => c3 (by have := V.int.inj q; omega))]; rfl
        rw [e3]
        refine iteT ?_
        refine iteT ?_
        have e2 : bankL H xs = false := by
          match xs, c3 with
          | [], _ => rfl
          | [_], _ => rfl
          | [_, _], _ => rfl
          | [_, _, _], c => exact absurd rfl c
          | _ :: _ :: _ :: _ :: _, _ => rfl
        rw [e2] at k
        exact k H (Same.refl H)
end
end Pu

namespace Pu
open PySem L2
abbrev sCheck : Stmt := top 11
abbrev sNeed : Stmt := top 12
abbrev sCaught : Stmt := top 18
def needV (H : Hp) (v : V) : Int := match tupOf H v with
  | some [_, m, l] => toI m - toI l
  | _ => 0
def spCheck (C : Addr) : Sp := fun vs H Q E => ∃ v m n N, vs = [v] ∧ PV m n N H v ∧ m ≤ 2000 ∧ (bankB H v = true → ∀ H', Same H H' → Q .non H') ∧ (bankB H v = false → ∀ H', Same H H' → E (.ref C) none H')
def spNeed (C : Addr) : Sp := fun vs H Q E => ∃ v m n N, vs = [v] ∧ PV m n N H v ∧ m ≤ 2000 ∧ (bankB H v = true → ∀ H', Same H H' → Q (.int (needV H v)) H') ∧ (bankB H v = false → ∀ H', Same H H' → E (.ref C) none H')
/-- an error class of the program: over ValueError, without an __init__ of its own -/
structure Er (K : PySem.W.Frag) (mg : Str → Option Value) (x : Str) (C : Addr) : Prop where
  xi : PySem.W.excIn K C [.type "ValueError", .type "Exception", .type "BaseException", .type "object"] "ValueError.__new__" = true
  g : mg x = some (.ref C)
  k : PySem.W.keepIn K (.ref C) = true
  b : PySem.W.subIn K (.ref C) (.type "BaseException") = some true
  t : PySem.W.typeIn K (.ref C) = some (.type "type")
theorem bank_tup {N : Addr → Prop} {H : Hp} {m n : Nat} {v : V} (h : PV m n N H v) (b : bankB H v = true) : ∃ a x mi li, v = .ref a ∧ H a = some (.tup [x, .int mi, .int li]) := by
  by_cases t : tyN H v = "tuple"
  · obtain ⟨xs, k, _, ⟨a, rfl, _, ha⟩, _, _⟩ := pv_tup h t
    unfold bankB at b
    rw [tupOf_at ha] at b
    match xs, ha, b with
    | [x, mm, l], ha, b =>
      have b' : (begB H x && numF l 0 && numF mm (3 * toI l + 1) && decide (toI mm ≤ 13)) = true := b
      simp only [Bool.and_eq_true] at b'
      obtain ⟨⟨⟨_, h1⟩, h2⟩, _⟩ := b'
      unfold numF at h1 h2
      rw [Bool.and_eq_true] at h1 h2
      obtain ⟨li, rfl, _⟩ := num_int h1.1
      obtain ⟨mi, rfl, _⟩ := num_int h2.1
      exact ⟨a, x, mi, li, rfl, ha⟩
    | [], _, b => cases b
    | [_], _, b => cases b
    | [_, _], _, b => cases b
    | _ :: _ :: _ :: _ :: _, _, b => cases b
  · unfold bankB at b
    rw [tupOf_no h t] at b
    cases b
section
variable {P : Program} {w : World} {K : PySem.W.Frag} {mg : Str → Option Value} {base : Heap}
theorem scCk : FnScope ["bank"] ["bank"] (defScope sCheck) := ⟨rfl, rfl, rfl, by decide +kernel, rfl, by decide +kernel, by decide +kernel⟩
theorem ok_check {f f4 C : Addr} {fd fd4 : FuncData} (F : Fun K "check_bank" "check_bank" sCheck f fd) (R : Er K mg "BadBank" C) (G4 : FnOk P w K mg base CX0 4 f4 fd4 ["value"] spIsBank) (b4 : Binds K fd4 ["value"] []) (k4 : PySem.W.keepIn K (.ref f4) = true) (m4 : mg "is_bank" = some (.ref f4)) :
    FnOk P w K mg base (L2.CX P w) 5 f fd ["bank"] (spCheck C) := by
  refine F.okX scCk (fun vs H Q E h => ?_) (fun cdv A outer s H vs Q E hr h => ?_)
  · obtain ⟨v, m, n, N, rfl, _⟩ := h
    rfl
  · obtain ⟨v, m, n, N, rfl, hv, hm, k1, k2⟩ := h
    refine ⟨_, pss_one (ps_if (pt_not (pt_val (pe_call G4 hr rfl m4 k4 b4 .nil pass0 (pa_cons (pv 0) pa_nil))))
      (pss_one (ps_raise rfl (takes_of rfl rfl rfl rfl) (pmk_own PySem.F.excBase_ValueError R.xi R.g R.k (raises_own R.b R.t) rfl))) pss_nil), ?_⟩
    refine ⟨_, rfl, v, m, n, N, rfl, hv, hm, fun H' s' => ⟨_, rfl, ?_⟩⟩
    cases e : bankB H v with
    | true =>
      refine iteF ?_
      exact k1 e H' s'
    | false =>
      refine iteT ?_
      exact k2 e H' s'
theorem scNe : FnScope ["bank"] ["bank"] (defScope sNeed) := ⟨rfl, rfl, rfl, by decide +kernel, rfl, by decide +kernel, by decide +kernel⟩
theorem ok_need {f f5 C : Addr} {fd fd5 : FuncData} (F : Fun K "need_of" "need_of" sNeed f fd) (G5 : FnOk P w K mg base (L2.CX P w) 5 f5 fd5 ["bank"] (spCheck C)) (b5 : Binds K fd5 ["bank"] []) (k5 : PySem.W.keepIn K (.ref f5) = true) (m5 : mg "check_bank" = some (.ref f5)) :
    FnOk P w K mg base (L2.CX P w) 6 f fd ["bank"] (spNeed C) := by
  refine F.okX scNe (fun vs H Q E h => ?_) (fun cdv A outer s H vs Q E hr h => ?_)
  · obtain ⟨v, m, n, N, rfl, _⟩ := h
    rfl
  · obtain ⟨v, m, n, N, rfl, hv, hm, k1, k2⟩ := h
    refine ⟨_, pss_cons (ps_expr (pe_call G5 hr rfl m5 k5 b5 .nil (passes_call (W := fun cls d _ H => E cls d H) (takes_of rfl rfl rfl rfl) (fun _ _ _ _ h => h)) (pa_cons (pv 0) pa_nil)))
      (pss_one (ps_ret (pe_op op_sub (pe_ix ix_tup (pv 0) pe_int (fun _ _ => rfl)) (pe_ix ix_tup (pv 0) pe_int (fun _ _ => rfl))))), ?_⟩
    refine ⟨_, rfl, v, m, n, N, rfl, hv, hm, fun e H' s' => ?_, fun e H' s' => k2 e H' s'⟩
    obtain ⟨a, x, mi, li, rfl, ha⟩ := bank_tup hv e
    have q := k1 e H' s'
    have en : needV H (.ref a) = mi - li := by unfold needV; rw [tupOf_at ha]; rfl
    rw [en] at q
    exact ⟨_, rfl, a, _, 1, _, rfl, rfl, SqT.of (s' _ _ ha), atI_nat (j := 1) rfl, _, rfl, a, _, 2, _, rfl, rfl, SqT.of (s' _ _ ha), atI_nat (j := 2) rfl, mi, li, rfl, rfl, q⟩
end
end Pu

namespace Pu
open PySem PySem.Spec PyProof.Rows L2
/-! ### try: body, except x as n: suite, the error being told to the suite as an object that stays known -/
/-- an error that was caught: its class, its own dict -/
def ExV (cls : Value) (d : Option Addr) (a : Addr) : HO := .ext fun h => ∃ (ob : Obj) (vs : Array Value), h.get? a = some ob ∧ Zc cls d ob ∧ ob.data = .fields vs
theorem exV_ok {P : Program} {w : World} {H : Hp} {h : Heap} {a : Addr} {cls : Value} {d : Option Addr} {ob : Obj} {vs : Array Value} (e : h.get? a = some ob) (z : Zc cls d ob) (f : ob.data = .fields vs) : ObjOk P w H h a (ExV cls d a) :=
  ⟨⟨ob, vs, e, z, f⟩, ⟨ob, e⟩, fun _ _ ⟨o, v, q, r⟩ k => ⟨o, v, k o q, r⟩⟩
/-- what «except x as n» wishes: the error stands at a, tracked -/
def wHeld (K : PySem.W.Frag) (c : Value) (i : Nat) (ts : Addr → Value → Option Addr → TS) (Wo : WX) (D : Ends) : WX := fun cls d σ H => ∃ b, PySem.W.exmOne K cls c = some b ∧
  (b = true → ∀ a, H a = none → ts a cls d { nx := fun σ' H' => D.nx (σ'.set i none) H', rt := D.rt, bk := fun σ' H' => D.bk (σ'.set i none) H', ct := fun σ' H' => D.ct (σ'.set i none) H' } (σ.set i (some (.ref a))) (upd H a (ExV cls d a))) ∧ (b = false → Wo cls d σ H)
section
variable {X : Cx} {pins : List (Addr × Obj)} {σ : L2.St} {H : Hp} {sI s : Shared}
/-- the error was not there at the entry -/
theorem not_before {B : Heap} {a : Addr} (hex : X.ex = []) (I : Inv X pins σ H sI) (nb : ∀ b o, sI.heap.get? b = some o → b ∉ frs X.stack → B.get? b = some o) (hB : B.get? a = none) (nf : a ∉ frs X.stack) : X.s_0.heap.get? a = none := by
  cases e : X.s_0.heap.get? a with
  | none => rfl
  | some o =>
    obtain ⟨o', q⟩ := I.base.there a o e (by rw [hex]; exact fun z => nomatch z)
    have z := nb a o' q nf
    rw [hB] at z
    cases z
/-- an error object at a, not there at the entry, becomes a tracked one -/
theorem track {a : Addr} {ob : Obj} {vs : Array Value} {cls : Value} {d : Option Addr} (I : Inv X pins σ H s) (na : H a = none) (n0 : X.s_0.heap.get? a = none) (nL : a ≠ X.env.locals) (np : ∀ p ∈ X.pn ++ pins, p.1 ≠ a)
    (ha : s.heap.get? a = some ob) (hz : Zc cls d ob) (hd : ob.data = .fields vs) : Inv X pins σ (upd H a (ExV cls d a)) s := by
  have ne0 : ∀ b o, X.s_0.heap.get? b = some o → b ≠ a := fun b o e z => by rw [z, n0] at e; cases e
  have neH : ∀ b u, H b = some u → b ≠ a := fun b u e z => by rw [z, na] at e; cases e
  have neC : ∀ y c, X.env.cells.lookup y = some c → c ≠ a := fun y c e z => by
    obtain ⟨v, o, ho, hv⟩ := I.cell y c e
    rw [z, ha] at ho
    cases ho
    rw [hd] at hv
    cases hv
  refine ⟨I.ok, I.os, I.bare, ⟨I.base.keep, I.base.slot, fun b o e n hx => ?_, I.base.there, fun b xs e => ?_, fun b o u e => ?_, fun b ps e => ?_⟩, I.loc, I.cell, ?_, fun y c e => ?_, fun p hp => ?_, ?_, I.len⟩
  · rw [upd_ne (ne0 b o e)]; exact I.base.free b o e n hx
  · have q := I.base.tups b xs e
    rw [upd_ne (neH b _ q)]; exact q
  · have q := I.base.frzs b o u e
    rw [upd_ne (neH b _ q)]; exact q
  · obtain ⟨more, q⟩ := I.base.tbls b ps e
    exact ⟨more, by rw [upd_ne (neH b _ q)]; exact q⟩
  · rw [upd_ne nL.symm]; exact I.free
  · rw [upd_ne (neC y c e)]; exact I.freeC y c e
  · obtain ⟨e, n, r1, r2, r3⟩ := I.pin p hp
    exact ⟨e, by rw [upd_ne (np p hp)]; exact n, r1, r2, r3⟩
  · exact I.hok.laidN (fun _ _ e => e) na (exV_ok ha hz hd)
/-- into the suite, without a pin for the error -/
theorem to_suite (I : Inv X pins σ H s) (a : Addr) : Inv (X.suite a (X.pn ++ pins)) [] σ H s :=
  ⟨I.ok.suite _ _, I.os, I.bare, I.base, I.loc, I.cell, I.free, I.freeC, fun p hp => I.pin p (by rw [List.append_nil] at hp; exact hp), I.hok, I.len⟩
theorem of_suite {a : Addr} {q : List (Addr × Obj)} (I : Inv (X.suite a (X.pn ++ pins)) q σ H s) (ok : X.Ok) : Inv X pins σ H s :=
  ⟨ok, I.os, I.bare, I.base, I.loc, I.cell, I.free, I.freeC, fun p hp => I.pin p (List.mem_append_left _ hp), I.hok, I.len⟩
end
section
variable {X : Cx} {x n : Str} {c : Value} {i : Nat} {body suite : List Stmt} {b₀ : Stmt} {p1 p2 p3 : Pos} {tb : WX → TS} {ts : Addr → Value → Option Addr → TS} {Wo : WX}
theorem ps_try_held (hs : X.stack = X.env :: X.outer) (hf : X.env.frame = some X.env.locals) (hex : X.ex = []) (hN : X.N.Nodup) (hi : X.N[i]? = some n) (hln : X.env.kindOf n = some .local) (hc : Names X x c) (tk : Takes X Wo)
    (hb : ∀ (W : WX) (pn : List (Addr × Obj)) (xe : Value → Shared → Prop), Takes (X.tr pn xe) W → PassesOwn (model X.prog X.w) X.A X.env xe → PSs (X.tr pn xe) body (tb W))
    (hsu : ∀ (a : Addr) (cls : Value) (d : Option Addr) (pn : List (Addr × Obj)), PSs (X.suite a pn) (b₀ :: suite) (ts a cls d)) :
    PS X (.Try body [.ExceptHandler (some (.Name x p1)) (some n) (b₀ :: suite) p2] [] [] p3) (fun D σ H => tb (wHeld X.K c i ts Wo D) D σ H) := by
  refine ⟨fun pins s σ H D I h => ?_⟩
  have ok := I.ok
  have fr : X.A.frames = some (X.env :: X.outer) := by rw [ok.frames, hs]
  refine wpAny_Try_except ?_
  refine wpAny_mono ((hb (wHeld X.K c i ts Wo D) (X.pn ++ pins) (fun er t1 => wpAny (model X.prog X.w) X.A (noteFrame er X.env) (fun _ t2 => wpAny (model X.prog X.w) X.A (setFlight er none) (fun _ t3 =>
    wpAny (model X.prog X.w) X.A (handleBy er X.env [.ExceptHandler (some (.Name x p1)) (some n) (b₀ :: suite) p2]) (SP X pins D) X.xe t3) X.xe t2) X.xe t1) (fun u t0 xx => ?_) PassesOwn.looking).run [] s σ H D (I.toTry _) h) (fun fl t1 hsp => ?_) (fun er t1 he => he)
  · obtain ⟨a, B, sI, pin2, σ1, H1, cls, d, rfl, J0, nb, up, sky, na, eo, ag, b, hb1, hyes, hno⟩ := xx
    have J : Inv X pins σ1 H1 sI := J0.ofTry ok
    have sky1 : Sky B (X.env :: X.outer) a (Zc cls d) X.env.locals t0.heap := by rw [← hs]; exact sky
    show wpAny (model X.prog X.w) X.A (noteFrame (.ref a) X.env) _ _ _
    refine Sky.land Zc.steady fr hf sky1 fun h3 fly up3 => ?_
    have J3 : Inv X pins σ1 H1 { t0 with heap := h3 } := J.landed nb fly.1 (up.trans up3) eo ag
    obtain ⟨ob, vs, hob, hz, hd⟩ := fly.there
    have notF : a ∉ frs (X.env :: X.outer) := fun hm => by
      obtain ⟨_, o', e', hnf⟩ := fly.2.2.1.mem hm
      rw [hob] at e'
      cases e'
      exact hnf _ hd
    have nL : a ≠ X.env.locals := fun z => notF (List.mem_filterMap.mpr ⟨X.env, List.mem_cons_self, by rw [hf, z]⟩)
    have nst : a ∉ frs X.stack := by rw [hs]; exact notF
    have n0 := not_before hex J nb fly.2.1 nst
    have npin : ∀ p ∈ X.pn ++ pins, p.1 ≠ a := fun p hp z => by
      obtain ⟨e, _, r1, r2, _⟩ := J.pin p hp
      have q := nb p.1 p.2 e (fun hm => (List.mem_cons.mp (J.stkSub _ hm)).elim r1 r2)
      rw [z, fly.2.1] at q
      cases q
    have S3 := to_suite J3 a
    refine wpAny_handleBy_cons (codeAny_handlers_test ?_) (by intro q; cases q)
    have LT : PySem.W.Looks (model X.prog X.w) h3 (typeOf (.ref a)) cls := fun _ _ _ _ k q => wpAny_typeOf_ref (k _ _ hob) (by rw [hz.1]; exact q)
    have LM := PySem.W.exm_one (M := model X.prog X.w) J3.kIn LT hb1
    have see : ∀ {Q : Value → Shared → Prop} {E : Value → Shared → Prop}, Q c { t0 with heap := h3 } → wpAny (model X.prog X.w) (X.A.mark (some (.ref a))) (eval (.Name x p1) X.env) Q E { t0 with heap := h3 } := fun {Q E} q => by
      obtain ⟨hg, hdb, hm | ⟨hm, hv, hnn⟩⟩ := hc
      · exact ld_glob (X := X.suite a (X.pn ++ pins)) S3 hg hm q hdb
      · exact ld_blt (X := X.suite a (X.pn ++ pins)) S3 hg hm hv q hnn hdb
    refine see (LM.here ?_)
    cases b with
    | true =>
      refine codeAny_handlers_suite_as ?_
      refine HandSPX.lands_againZ fly fun h4 fly4 up4 => ?_
      have J4 : Inv X pins σ1 H1 { t0 with heap := h4 } := J.landed nb fly4.1 ((up.trans up3).trans up4) eo ag
      obtain ⟨ob4, vs4, hob4, hz4, hd4⟩ := fly4.there
      have T4 := to_suite (track J4 na n0 nL npin hob4 hz4 hd4) a
      refine store_ok (X := X.suite a (X.pn ++ pins)) (v := .ref a) T4 hN hi (.inl hln) rfl (fun s5 T5 => ?_) (.inr hln)
      refine wpAny_mono ((hsu a cls d (X.pn ++ pins)).run [] s5 _ _ _ T5 (hyes rfl a na)) (fun fl t6 hsp => ?_) (fun _ _ z => False.elim z)
      have fin : ∀ {σ6 : L2.St} {H6 : Hp} {Q : Shared → Prop}, Inv (X.suite a (X.pn ++ pins)) [] σ6 H6 t6 → (∀ t7, Inv X pins (σ6.set i none) H6 t7 → Q t7) →
          wpAny (model X.prog X.w) X.A (do bindName X.env n .none; unbindBehindTheSuite X.env n p2) (fun _ t7 => Q t7) X.xe t6 := fun {σ6 H6 Q} T6 hq => gone_ok (of_suite T6 ok) hN hi hln hq
      cases fl with
      | next =>
        obtain ⟨σ6, H6, T6, q6⟩ := hsp
        exact fin T6 fun _ J7 => ⟨_, _, J7, q6⟩
      | brk =>
        obtain ⟨σ6, H6, T6, q6⟩ := hsp
        exact fin T6 fun _ J7 => ⟨_, _, J7, q6⟩
      | cont =>
        obtain ⟨σ6, H6, T6, q6⟩ := hsp
        exact fin T6 fun _ J7 => ⟨_, _, J7, q6⟩
      | ret u =>
        obtain ⟨v6, σ6, H6, T6, r6, q6⟩ := hsp
        exact fin T6 fun _ J7 => ⟨_, _, _, J7, r6, q6⟩
    | false =>
      show wpAny _ X.A (handleBy (.ref a) X.env []) _ _ _
      refine wpAny_handleBy_nil ?_
      obtain ⟨g1, g2, g3, oe, us, T, oT, ts', e1, e2, e3, e4, e5⟩ := id fly
      unfold PySem.passOn
      refine wpAny_bind (wpAny_field e1 e3 e4 ?_)
      rw [if_neg (show ¬ ((Value.ref T == Value.none) = true) by simp)]
      have out : wpAny (model X.prog X.w) X.A (setFlight (.ref a) X.env.frame) (fun _ t4 => wpAny (model X.prog X.w) X.A (throw (.ref a) : Sem Flow) (SP X pins D) X.xe t4) X.xe { t0 with heap := h3 } := by
        rw [hf]
        refine HandSPX.setFlight_upZ fly fun h4 hh4 up4 => wpAny_throw (tk _ _ ?_)
        exact ⟨a, B, sI, pins, σ1, H1, cls, d, rfl, J, nb, (up.trans up3).trans up4, .inr (.inr (by rw [hs]; exact hh4)), na, eo, ag, hno rfl⟩
      first
        | exact wpAny_bind (wpAny_pure (wpAny_bind out))
        | exact wpAny_bind out
  · cases fl with
    | next =>
      obtain ⟨σ1, H1, J1, q⟩ := hsp
      exact wpAny_execs_nil ⟨σ1, H1, J1.ofTry ok, q⟩
    | brk =>
      obtain ⟨σ1, H1, J1, q⟩ := hsp
      exact ⟨σ1, H1, J1.ofTry ok, q⟩
    | cont =>
      obtain ⟨σ1, H1, J1, q⟩ := hsp
      exact ⟨σ1, H1, J1.ofTry ok, q⟩
    | ret u =>
      obtain ⟨v, σ1, H1, J1, r, q⟩ := hsp
      exact ⟨v, σ1, H1, J1.ofTry ok, r, q⟩
end
end Pu

namespace Pu
open PySem L2 LamX
/-- the error that some work raises, or None: tl is what the work is told to do -/
def TTc (K : PySem.W.Frag) (PE0 : Addr) : (XK → Hp → VK → Prop) → Hp → VK → Prop := fun tl H Q => ∀ (E1 : XK) (Q1 : VK),
  (∀ cls d H', (∃ b, PySem.W.exmOne K cls (.ref PE0) = some b ∧ (b = true → ∀ a, H' a = none → Q (.ref a) (upd H' a (ExV cls d a))) ∧ (b = false → False)) → E1 cls d H') → (∀ v H', Q .non H' → Q1 v H') → tl E1 H Q1
theorem scCa : FnScope ["work", "caught", "error"] ["work"] (defScope sCaught) := ⟨rfl, rfl, rfl, by decide +kernel, rfl, by decide +kernel, by decide +kernel⟩
theorem takes_len {X : Cx} {W : WX} (tk : Takes X W) : Takes X (fun cls d σ H => σ.length = X.N.length → W cls d σ H) := fun u s' ⟨a, B, sI, pins, σ, H, cls, d, e, I, nb, up, sky, na, os, ag, w⟩ =>
  tk u s' ⟨a, B, sI, pins, σ, H, cls, d, e, I, nb, up, sky, na, os, ag, w I.len⟩
theorem caught_gives {X : Cx} {g PE0 : Addr} {cdg : Value} {q : Str} (hm : X.mg "PurseError" = some (.ref PE0)) :
    GivesTo X ["work", "caught", "error"] "_law_caught" (defScope sCaught) g cdg (defBody sCaught) "work" q (TTc X.K PE0) := by
  intro f c' s H Q tl act hc h
  have hgl : Gl (cxOf C8.CX0 X.prog X.w X.K X.mg X.base ["work", "caught", "error"] "_law_caught" (defScope sCaught) g cdg X.A X.stack s H C8.E0).nox "PurseError" := rfl
  refine ⟨_, pss_cons (ps_set (X := (cxOf C8.CX0 X.prog X.w X.K X.mg X.base ["work", "caught", "error"] "_law_caught" (defScope sCaught) g cdg X.A X.stack s H C8.E0).nox) (i := 1) scCa.nd rfl (Or.inl rfl) pe_non)
    (pss_cons (ps_try_held (X := (cxOf C8.CX0 X.prog X.w X.K X.mg X.base ["work", "caught", "error"] "_law_caught" (defScope sCaught) g cdg X.A X.stack s H C8.E0).nox) (c := .ref PE0) (i := 2) (Wo := fun _ _ _ _ => False)
        (tb := fun W D σ H => ∃ Ech : XK, (∀ cls d σ' H', Ech cls d H' → σ'.length = 3 → W cls d σ' H') ∧ σ[0]? = some (some (.ref f)) ∧ H c' = some (CodeO c' q) ∧ tl Ech H (fun _ H' => D.nx σ H'))
        (ts := fun _ _ _ => tAsg (tVar 2) (gName 1))
        rfl rfl rfl scCa.nd rfl rfl ⟨hgl, by decide, .inl hm⟩ LamX.takes0 (fun W pn xe tk _ => ?_) (fun a cls d pn => pss_one (ps_set (i := 1) scCa.nd rfl (Or.inl rfl) (pv 2))))
    (pss_one (ps_ret (pv 1)))), ?_⟩
  · refine ⟨fun pins s' σ H' D I h' => ?_⟩
    obtain ⟨Ech, hW, h1, h2, h3⟩ := h'
    exact (pss_one (ps_expr (act _ pn xe Ech _ _ (takes_len tk) (fun cls d σ' H' q => hW cls d σ' H' q)))).run pins s' σ H' D I ⟨h1, h2, h3⟩
  · refine ⟨fun cls d H' => ∃ b, PySem.W.exmOne X.K cls (.ref PE0) = some b ∧ (b = true → ∀ a, H' a = none → Q (.ref a) (upd H' a (ExV cls d a))) ∧ (b = false → False), fun cls d σ' H' ⟨b, e1, e2, e3⟩ hl => ⟨b, e1, fun hb a na => ?_, fun hb => e3 hb⟩, rfl, hc, h _ _ (fun _ _ _ q => q) fun v H' q => ⟨_, rfl, q⟩⟩
    match σ', hl with
    | [x, y, z], _ => exact ⟨_, rfl, _, rfl, e2 hb a na⟩
end Pu

namespace Pu
open PySem L2 LamX
abbrev sLaw : Stmt := top 25
/-! ### calls by a keyword alone -/
section
variable {X : Cx} {CX : CXT} {k : Nat} {f : Addr} {fd : FuncData} {ps ks : List Str} {sp : Sp} {E : XK} {x : Str} {p pos : Pos} {kws : List Keyword} {tk : TA} {g : List Value → List Value → List Value} {gV : List V → List V → List V}
theorem pe_callKw (F : FnOk X.prog X.w X.K X.mg X.base CX k f fd ps sp) (hr : Room k X.A) (hg : Gl X x) (hm : X.mg x = some (.ref f)) (hk : PySem.W.keepIn X.K (.ref f) = true) (hb : KBinds X.K fd ps ks g gV) (hx : Passes CX X E)
    (hkw : PK X kws tk) (hall : (backToKw pos (keywordEach kws X.env)).all (·.1.isSome) = true := by rfl) (hks : (backToKw pos (keywordEach kws X.env)).filterMap (·.1) = ks := by rfl) (hdb : (x == ("__debug__" : Str)) = false := by decide)
    (hpl : ((backTo pos (starEach [] X.env)).any (·.1) || (backToKw pos (keywordEach kws X.env)).any (·.1.isNone)) = false := by rfl) : PE X (.Call (.Name x p) [] kws pos) (tCallK sp gV E tNil tk) := by
  refine ⟨fun pn s σ H Q I h => wpAny_Call_Name_kw (ld_glob I hg hm ?_ hdb)⟩
  refine PySem.W.callWith_KW0 (h₀ := X.base) I.ok.mod.kin hk hall (thn (hkw.run pos pn s σ H _ I h) fun ws t ⟨zs, G, J, rz, q⟩ => ⟨J.kIn, ?_⟩) hpl
  rw [hks]
  exact run_fnk (us := []) (vs := []) F hr hb hx J .nil rz q
end
def g1 : List Value → List Value → List Value := fun us ws => match us with
  | [] => ws
  | _ => []
def gV1 : List V → List V → List V := fun us ws => match us with
  | [] => ws
  | _ => []
theorem kb1 {K : PySem.W.Frag} {fd : FuncData} {p : Str} (h : ∀ w : Value, bindArgs fd ⟨[], [(p, w)]⟩ = pure [(p, w)]) : KBinds K fd [p] [p] g1 gV1 where
  to := fun s us ws _ hl => by
    match us, ws, hl with
    | [], [w], _ => exact .of_eq (h w)
  rel := fun {vs us zs ws} r q => by
    cases r with
    | nil => exact q
    | cons _ _ => exact .nil
/-! ### (0,) * k -/
section
variable {X : Cx}
theorem n_rep {i k : Int} {m n : Nat} {x1 j1 j2 : Nat} {p1 p2 p3 pos : Pos} (hk : 2 ≤ k) (hk2 : k ≤ 1000) (hm : k.toNat ≤ m) : PE X (.BinOp (.Tuple [.Constant (.int i) j1 p1] x1 p2) .Mult (.Constant (.int k) j2 p3) pos) (TN (PV m (n + 2))) :=
  pe_imp (pe_op op_repT (pe_tup (pa_cons pe_int pa_nil)) pe_int) fun _ H Q q => ⟨by show 1 ≤ sizeLine; decide, fun p hp => ⟨p, k, [.int i], rfl, rfl, SqT.of upd_same, (by intro e; cases e), hk, hk2, (Nat.le_of_ble_eq_true rfl : 1 ≤ 1000), fun p2 hp2 => by
    have s2 : Same H (upd (upd H p (.tup [.int i])) p2 (.tup (List.replicate k.toNat [V.int i]).flatten)) := (same_upd hp).trans (same_upd hp2)
    refine q _ _ s2 (.tup p2 _ upd_same ((same_upd hp).free hp2) ?_ fun x hx => ?_)
    · rw [List.length_flatten, List.map_replicate]
      simp
      omega
    · obtain ⟨l, hl, hxl⟩ := List.mem_flatten.mp hx
      rw [(List.mem_replicate.mp hl).2] at hxl
      rw [List.mem_singleton.mp hxl]
      exact .int i⟩⟩
end
/-! ### isinstance of an error that was caught -/
section
variable {X : Cx}
def rIsV (K : PySem.W.Frag) : List V → Hp → VK → Prop := fun xs H Q => ∃ (a D C : Addr) (b : Bool), xs = [.ref a, .ref C] ∧ H a = some (ExV (.ref D) none a) ∧ ExcC K D ∧ PySem.W.kitOne K (.ref D) (.ref C) = some b ∧ Q (.bl b) H
theorem call_isV : CallR X (.builtin "isinstance") (rIsV X.K) := by
  intro pn s σ H xs us Q I r h
  obtain ⟨a, D, C, b, rfl, ha, ex, kit, q⟩ := h
  obtain ⟨u1, u2, rfl, r1, r2⟩ := vals2 r
  cases (show u1 = Value.ref a from r1)
  cases (show u2 = Value.ref C from r2)
  obtain ⟨⟨ob, vs, e, ⟨z1, z2⟩, hd⟩, _, _⟩ := I.hok a _ ha
  have J : PySem.W.InstAt s.heap a ob D none := by
    obtain ⟨c0, d0, da, sl⟩ := ob
    dsimp only at z1 z2 hd
    subst z1 z2 hd
    exact ⟨e, rfl, rfl, trivial⟩
  exact PySem.W.kia_one (PySem.W.handS_kitx_exc ex.hg ex.hk ex.hs ex.hd ex.ha ex.hn ex.ht ex.hm) I.kIn J kit (fun z => nomatch z) fun tk => ⟨.bl b, H, I.tok tk, rfl, q⟩
end
/-! ### what stays beside the tables of code -/
theorem PV.ext {N : Addr → Prop} {H H' : Hp} (k : ExtN H H') {m : Nat} : ∀ {n : Nat} {v : V}, PV m n N H v → PV m n N H' v
  | 0, _, h => h
  | n + 1, _, h => by
    cases h with
    | non => exact .non
    | bl b => exact .bl b
    | int i => exact .int i
    | str z => exact .str z
    | tup a xs e x l q => exact .tup a xs (k _ _ e fun ps z => by cases z) x l fun y hy => PV.ext k (q y hy)
    | lst a xs e x l q => exact .lst a xs (k _ _ e fun ps z => by cases z) x l fun y hy => PV.ext k (q y hy)
    | dct a e x => exact .dct a (k _ _ e fun ps z => by cases z) x
theorem StA.ext {H H' : Hp} {d g c : Addr} {T : Int} (S : StA H d g c T) (s : ExtN H H') : StA H' d g c T := by
  obtain ⟨l, t, h1, h2, h3, h4⟩ := S.dk
  obtain ⟨gs, h5, h6⟩ := S.gr
  obtain ⟨cs, h7, h8⟩ := S.ce
  exact ⟨⟨l, t, s _ _ h1 (fun ps z => by cases z), h2, h3, h4⟩, ⟨gs, s _ _ h5 (fun ps z => by cases z), h6⟩, ⟨cs, s _ _ h7 (fun ps z => by cases z), h8⟩, S.gc⟩
theorem StA.upd {H : Hp} {d g c a : Addr} {T : Int} {o : HO} (S : StA H d g c T) (h1 : d ≠ a) (h2 : g ≠ a) (h3 : c ≠ a) : StA (upd H a o) d g c T := by
  obtain ⟨l, t, e1, e2, e3, e4⟩ := S.dk
  obtain ⟨gs, e5, e6⟩ := S.gr
  obtain ⟨cs, e7, e8⟩ := S.ce
  exact ⟨⟨l, t, by rw [upd_ne h1]; exact e1, e2, e3, e4⟩, ⟨gs, by rw [upd_ne h2]; exact e5, e6⟩, ⟨cs, by rw [upd_ne h3]; exact e7, e8⟩, S.gc⟩
theorem tab_kp {H H' : Hp} {d g c P : Addr} {T : Int} {q : Str} (S : StA H d g c T) (k : Kp d g H H') (t : TabS H P q) : TabS H' P q := by
  obtain ⟨l, t1, e1, _⟩ := S.dk
  obtain ⟨gs, e5, _⟩ := S.gr
  obtain ⟨ps, h1, h2, h3⟩ := t
  refine ⟨ps, k _ _ h1 (ne_of h1 e1 (by intro z; cases z)) (ne_of h1 e5 (by intro z; cases z)), h2, fun pos cv hc => ?_⟩
  obtain ⟨cc, r1, r2⟩ := h3 pos cv hc
  exact ⟨cc, r1, k _ _ r2 (ne_of r2 e1 (by intro z; unfold CodeO at z; cases z)) (ne_of r2 e5 (by intro z; unfold CodeO at z; cases z))⟩
theorem tupOf_ext {N : Addr → Prop} {H H' : Hp} {m n : Nat} {v : V} (h : PV m n N H v) (k : ExtN H H') : tupOf H' v = tupOf H v := by
  cases n with
  | zero => exact h.elim
  | succ n =>
    cases h with
    | non => rfl
    | bl b => rfl
    | int i => rfl
    | str z => rfl
    | tup a xs e x l q => rw [tupOf_at e, tupOf_at (k _ _ e fun ps z => by cases z)]
    | lst a xs e x l q =>
      show (match H' a with | some (.tup xs) => some xs | _ => none) = (match H a with | some (.tup xs) => some xs | _ => none)
      rw [e, k _ _ e fun ps z => by cases z]
    | dct a e x =>
      show (match H' a with | some (.tup xs) => some xs | _ => none) = (match H a with | some (.tup xs) => some xs | _ => none)
      rw [e, k _ _ e fun ps z => by cases z]
theorem bank_ext {N : Addr → Prop} {H H' : Hp} {m n : Nat} {v : V} (h : PV m n N H v) (k : ExtN H H') : bankB H' v = bankB H v := by
  unfold bankB
  rw [tupOf_ext h k]
  by_cases t : tyN H v = "tuple"
  · obtain ⟨xs, j, rfl, ⟨a, rfl, _, ha⟩, _, hx⟩ := pv_tup h t
    rw [tupOf_at ha]
    match xs, hx with
    | [b, mm, l], hx =>
      show (begB H' b && numF l 0 && numF mm (3 * toI l + 1) && decide (toI mm ≤ 13)) = (begB H b && numF l 0 && numF mm (3 * toI l + 1) && decide (toI mm ≤ 13))
      unfold begB
      rw [tupOf_ext (hx b (by simp)) k]
    | [], _ => rfl
    | [_], _ => rfl
    | [_, _], _ => rfl
    | _ :: _ :: _ :: _ :: _, _ => rfl
  · rw [tupOf_no h t]
end Pu

namespace Pu
open PySem L2 LamX
/-- a def of the text under its name, what it promises -/
def Gd (P : Program) (w : World) (K : PySem.W.Frag) (mg : Str → Option Value) (base : Heap) (CX : CXT) (k : Nat) (x : Str) (ps : List Str) (sp : Sp) : Prop :=
  ∃ f fd, FnOk P w K mg base CX k f fd ps sp ∧ Binds K fd ps [] ∧ PySem.W.keepIn K (.ref f) = true ∧ mg x = some (.ref f)
/-- .. also by its one keyword -/
def Gk (P : Program) (w : World) (K : PySem.W.Frag) (mg : Str → Option Value) (base : Heap) (CX : CXT) (k : Nat) (x p : Str) (sp : Sp) : Prop :=
  ∃ f fd, FnOk P w K mg base CX k f fd [p] sp ∧ Binds K fd [p] [] ∧ KBinds K fd [p] [p] g1 gV1 ∧ PySem.W.keepIn K (.ref f) = true ∧ mg x = some (.ref f)
def qLam : Str := (PyProof.Rows.envOfC "law" (defScope sLaw) 0 0 .none).qual ++ "<lambda>"
def spLaw (K : PySem.W.Frag) (Pt : Addr) : Sp := fun vs H Q _ => ∃ (a : Addr) (ns : List Int), vs = [.ref a] ∧ SqL K H a (ns.map V.int) ∧ ns.length ≤ 63 ∧ TabS H Pt qLam ∧ ∀ H', Q (.bl true) H'
structure Lw (P : Program) (w : World) (K : PySem.W.Frag) (mg : Str → Option Value) (base : Heap) (C PE0 : Addr) : Prop where
  dr : Dr P w K mg base
  begun : Gd P w K mg base CX0 1 "_law_begun" ["script"] (spBegun K)
  bank : Gd P w K mg base CX0 4 "_law_pu_bank" ["state"] spBankP
  bent3 : Gd P w K mg base CX0 8 "_law_pu_bent" ["state", "item"] (spBent 3)
  bent4 : Gd P w K mg base CX0 9 "_law_pu_bent" ["state", "item"] (spBent 4)
  own : Gd P w K mg base CX0 2 "_law_k00_is_bank" ["value"] spIsBank
  truth : Gd P w K mg base CX0 1 "_law_is_truth" ["found", "due"] spTruth
  isb : Gk P w K mg base CX0 4 "is_bank" "value" spIsBank
  need : Gk P w K mg base (L2.CX P w) 6 "need_of" "bank" (spNeed C)
  er : Er K mg "BadBank" C
  xc : ExcC K C
  kit : PySem.W.kitOne K (.ref C) (.ref C) = some true
  pe : mg "PurseError" = some (.ref PE0)
  exm : PySem.W.exmOne K (.ref C) (.ref PE0) = some true
  mr : mg "range" = none
  mm : mg "min" = none
section
variable {P : Program} {w : World} {K : PySem.W.Frag} {mg : Str → Option Value} {base : Heap}
abbrev nL : List Str := ["script", "state", "lap", "bank_here", "bent", "amounts", "members", "lies", "great", "some", "due", "value", "turn"]
theorem scL : FnScope nL ["script"] (defScope sLaw) := ⟨rfl, rfl, rfl, by decide +kernel, rfl, by decide +kernel, by decide +kernel⟩
theorem ok_law {f C PE0 c0 Pt fC : Addr} {od an odC anC : Option Addr} {oc dV kV doc pm ct ocC dVC kVC docC pmC cdC ctC : Value} {osl oslC : Array (Option Value)}
    (lk : K.lookup f = some ⟨oc, od, .func (PySem.W.fnOf "law" "law" (defArgs sLaw) (defBody sLaw) (defScope sLaw) dV kV doc pm an (.ref c0) ct), osl⟩) (hcd : PySem.W.codeIn K (.ref c0) "law" = true) (TB : TabB base mg c0 Pt) (W : Lw P w K mg base C PE0)
    (lC : K.lookup fC = some ⟨ocC, odC, .func (PySem.W.fnOf "_law_caught" "_law_caught" (defArgs sCaught) (defBody sCaught) (defScope sCaught) dVC kVC docC pmC anC cdC ctC), oslC⟩) (hC : PySem.W.codeIn K cdC "_law_caught" = true) (bC : Binds K (PySem.W.fnOf "_law_caught" "_law_caught" (defArgs sCaught) (defBody sCaught) (defScope sCaught) dVC kVC docC pmC anC cdC ctC) ["work"] [])
    (kC : PySem.W.keepIn K (.ref fC) = true) (mC : mg "_law_caught" = some (.ref fC)) :
    FnOk P w K mg base CX0 10 f (PySem.W.fnOf "law" "law" (defArgs sLaw) (defBody sLaw) (defScope sLaw) dV kV doc pm an (.ref c0) ct) ["script"] (spLaw K Pt) := by
  have D := W.dr
  obtain ⟨fB, fdB, GB, bB, kB, mB⟩ := W.begun
  obtain ⟨fA, fdA, GA, bA, kA, mA⟩ := W.bank
  obtain ⟨f3, fd3, G3, b3, k3, m3⟩ := W.bent3
  obtain ⟨f4, fd4, G4, b4, k4, m4⟩ := W.bent4
  obtain ⟨fO, fdO, GO, bO, kO, mO⟩ := W.own
  obtain ⟨fT, fdT, GT, bT, kT, mT⟩ := W.truth
  obtain ⟨fI, fdI, GI, bI, kbI, kI, mI⟩ := W.isb
  obtain ⟨fN, fdN, GN, bN, kbN, kN, mN⟩ := W.need
  obtain ⟨fD, fdD, GD, bD, kD, mD⟩ := D.draw
  obtain ⟨fP, fdP, GP, bP, kP, mP⟩ := D.pick
  obtain ⟨fX, fdX, GX, bX, kX, mX⟩ := D.odd
  refine fn_of lk hcd scL (fun vs H Q E h => ?_) (fun A outer s H vs Q E hr h => ?_)
  · obtain ⟨a, ns, rfl, _⟩ := h
    rfl
  · obtain ⟨a, ns, rfl, hS, hlen, hTab, k⟩ := h
    have r1 : Room 1 (A.deeper (PyProof.Rows.envOfC "law" (defScope sLaw) s.heap.objs.size f (.ref c0))) := hr.mono (by decide)
    have r2 : Room 2 (A.deeper (PyProof.Rows.envOfC "law" (defScope sLaw) s.heap.objs.size f (.ref c0))) := hr.mono (by decide)
    have r3 : Room 3 (A.deeper (PyProof.Rows.envOfC "law" (defScope sLaw) s.heap.objs.size f (.ref c0))) := hr.mono (by decide)
    have r4 : Room 4 (A.deeper (PyProof.Rows.envOfC "law" (defScope sLaw) s.heap.objs.size f (.ref c0))) := hr.mono (by decide)
    have r6 : Room 6 (A.deeper (PyProof.Rows.envOfC "law" (defScope sLaw) s.heap.objs.size f (.ref c0))) := hr.mono (by decide)
    have r8 : Room 8 (A.deeper (PyProof.Rows.envOfC "law" (defScope sLaw) s.heap.objs.size f (.ref c0))) := hr.mono (by decide)
    have m1 := PV.mon 20 1
    have m5 := PV.mon 20 5
    suffices hz : ∃ t, PSs (cxOf CX0 P w K mg base nL "law" (defScope sLaw) f (.ref c0) A outer s H E).nox (defBody sLaw) t ∧ t { nx := fun _ H' => Q .non H', rt := Q } (L2.start nL [.ref a]) H by
      obtain ⟨t, h, q⟩ := hz
      exact ⟨t, h.nox, q⟩
    refine ⟨_, pss_cons (ps_set (i := 1) scL.nd rfl (Or.inr rfl) (pe_call GB r1 rfl mB kB bB .nil pass0 (pa_cons (pv 0) pa_nil)))
      (pss_cons (ps_for PassesOwn.never rfl (pi_range1 rfl W.mr (pa_cons (pe_op op_add pe_int (pe_callB (call_min2 rfl) (by rfl) W.mm (by decide +kernel) (pa_cons (pe_callB call_len_seq (by rfl) D.ml boot_len (pa_cons (pv 0) pa_nil)) (pa_cons pe_int pa_nil)))) pa_nil))
          (pg_name (i := 2) scL.nd rfl (Or.inl rfl))
        (pss_cons (ps_set (i := 3) scL.nd rfl (Or.inl rfl) (pe_call GA r4 rfl mA kA bA .nil pass0 (pa_cons (pv 1) pa_nil)))
        (pss_cons (ps_set (i := 4) scL.nd rfl (Or.inl rfl) (pe_call G3 r8 rfl m3 k3 b3 .nil pass0 (pa_cons (pv 1) (pa_cons (pv 3) pa_nil))))
        (pss_cons (ps_set (i := 5) scL.nd rfl (Or.inl rfl) (pe_callTy call_tuple_of (by rfl) D.mt (by decide +kernel) (pa_cons (pe_lc (own := [("turn", 12)]) (g := gName 12) rfl scL.nd
              (pi_range1 rfl W.mr (pa_cons (pe_call GD r2 rfl mD kD bD .nil pass0 (pa_cons (pv 1) (pa_cons pe_int pa_nil))) pa_nil))
              (blkOk_by (own := [("turn", 12)]) (N := nL) (sc := defScope sLaw) (by decide +kernel)) (fun _ _ _ _ _ => pg_name (i := 12) scL.nd rfl (Or.inl rfl)) (fun _ _ _ _ _ => pts_nil)
              (fun _ _ _ _ _ => pe_call GP r3 rfl mP kP bP .nil pass0 (pa_cons (pv 1) (pa_cons (pe_lst (pa_cons pe_int (pa_cons pe_int (pa_cons (pe_op op_pow pe_int pe_int) (pa_cons pe_int pa_nil))))) pa_nil)))) pa_nil)))
        (pss_cons (ps_par (i := 6) (j := 7) rfl scL.nd rfl rfl (by decide) rfl rfl (pa_cons (pe_call GD r2 rfl mD kD bD .nil pass0 (pa_cons (pv 1) (pa_cons pe_int pa_nil))) (pa_cons (pe_call GD r2 rfl mD kD bD .nil pass0 (pa_cons (pv 1) (pa_cons pe_int pa_nil))) pa_nil)) (by rfl))
        (pss_cons (ps_set (i := 8) scL.nd rfl (Or.inl rfl) (pe_tup (pa_cons (pe_tup (pa_cons (pe_op op_sub (pe_op op_pow pe_int pe_int) pe_int) (pa_cons (pe_call GD r2 rfl mD kD bD .nil pass0 (pa_cons (pv 1) (pa_cons pe_int pa_nil))) pa_nil))) (pa_cons pe_int (pa_cons pe_int pa_nil)))))
        (pss_cons (ps_set (i := 9) scL.nd rfl (Or.inl rfl) (pe_lst (pa_cons (pv 3) (pa_cons (pv 4) (pa_cons (pe_call G4 hr rfl m4 k4 b4 .nil pass0 (pa_cons (pv 1) (pa_cons (pv 4) pa_nil)))
            (pa_cons (pe_tup (pa_cons (pv 5) (pa_cons (pv 6) (pa_cons (pv 7) pa_nil)))) (pa_cons (pv 8)
            (pa_cons (n_tup (m := 20) (n := 5) (na_cons m5 (n_rep (m := 20) (n := 3) (by decide) (by decide) (by decide)) (na_cons m5 n_int (na_cons m5 n_int na_nil)))) pa_nil))))))))
        (pss_cons (ps_set (i := 9) scL.nd rfl (Or.inl rfl) (pe_op op_cat (pv 9) (pe_lst (pa_cons (n_tup (m := 20) (n := 5) (na_cons m5 (n_rep (m := 20) (n := 3) (by decide) (by decide) (by decide)) (na_cons m5 n_int (na_cons m5 n_int na_nil))))
            (pa_cons (n_tup (m := 20) (n := 5) (na_cons m5 (n_tup na_nil) (na_cons m5 n_int (na_cons m5 n_int na_nil))))
            (pa_cons (n_tup (m := 20) (n := 5) (na_cons m5 (n_tup (na_cons (PV.mon 20 4) n_int na_nil)) (na_cons m5 n_int (na_cons m5 n_int na_nil))))
            (pa_cons (n_tup (m := 20) (n := 5) (na_cons m5 (n_tup (na_cons (PV.mon 20 4) n_int na_nil)) (na_cons m5 n_int (na_cons m5 n_int na_nil))))
            (pa_cons (n_tup (m := 20) (n := 5) (na_cons m5 (n_tup (na_cons (PV.mon 20 4) n_int na_nil)) (na_cons m5 n_int (na_cons m5 n_int na_nil))))
            (pa_cons (pe_callTy call_list_of (by rfl) D.mli (by decide +kernel) (pa_cons (pv 3) pa_nil)) pa_nil)))))))))
        (pss_one (ps_for PassesOwn.never rfl (pi_list (pe_op op_cat (pv 9) (pe_lst (pa_cons (n_tup (m := 20) (n := 5) (na_cons m5 (n_tup (na_cons (PV.mon 20 4) n_bl na_nil)) (na_cons m5 n_int (na_cons m5 n_int na_nil))))
            (pa_cons (n_tup (m := 20) (n := 5) (na_cons m5 (n_tup (na_cons (PV.mon 20 4) n_int na_nil)) (na_cons m5 n_int (na_cons m5 n_bl na_nil))))
            (pa_cons (n_tup (m := 20) (n := 5) (na_cons m5 (n_tup (na_cons (PV.mon 20 4) n_int (na_cons (PV.mon 20 4) n_bl na_nil))) (na_cons m5 n_int (na_cons m5 n_int na_nil))))
            (pa_cons (pe_call GX r4 rfl mX kX bX .nil pass0 (pa_cons (pv 1) pa_nil)) pa_nil))))))) (pg_name (i := 11) scL.nd rfl (Or.inr rfl))
          (pss_cons (ps_set (i := 10) scL.nd rfl (Or.inl rfl) (pe_call GO r2 rfl mO kO bO .nil pass0 (pa_cons (pv 11) pa_nil)))
          (pss_cons (ps_if (pt_not (pt_val (pe_call GT r1 rfl mT kT bT .nil pass0 (pa_cons (pe_callKw GI r4 rfl mI kI kbI pass0 (pk_cons (pv 11) pk_nil)) (pa_cons (pv 10) pa_nil))))) (pss_one (ps_ret pe_bl)) pss_nil)
          (pss_cons (ps_if (PW.pt (pw_and (pt_val (pv 10)) (pw_and1 (pt_cmpR op_ne (pe_callKw GN r6 rfl mN kN kbN (passes_call L2.takes0 (fun _ _ _ _ h => h)) (pk_cons (pv 11) pk_nil)) (pe_op op_sub (pe_ix ix_tup (pv 11) pe_int (fun _ _ => rfl)) (pe_ix ix_tup (pv 11) pe_int (fun _ _ => rfl))) (nomark _))))) (pss_one (ps_ret pe_bl)) pss_nil)
          (pss_one (ps_if (PW.pt (pw_and (pt_not (pt_val (pv 10))) (pw_and1 (pt_not (pt_val (pe_callB call_isV (by rfl) D.ms (by decide +kernel)
            (pa_cons (pe_lamcall (T := [(Pt, qLam)]) (TT := TTc K PE0) (a := "work") (Ng := ["work", "caught", "error"]) rfl mC kC lC hC bC scCa rfl (Or.inl rfl) (caught_gives W.pe) TB rfl List.mem_cons_self (fun p hp _ => by rw [List.mem_singleton.mp hp]; rfl) r8 (lamS_by (by show lamSB (defScope sLaw) _ = true; decide +kernel)) rfl (fun _ _ _ _ _ => rfl)
                (fun A outer s H E f c' hr2 => pe_call GN hr2 rfl mN kN bN .nil (passes_call (takes_of rfl rfl rfl rfl) (fun _ _ _ _ h => h)) (pa_cons (pv 11) pa_nil)))
              (pa_cons (pe_glob (v := .ref C) rfl W.er.g rfl) pa_nil)))))))) (pss_one (ps_ret pe_bl)) pss_nil)))))))))))))))
      (pss_one (ps_ret pe_bl))), ?_⟩

    -- state
    refine ⟨_, rfl, a, ns, rfl, hS, by omega, fun d g c H1 s1 nd ng nc S1 => ?_⟩
    have t1 := hTab.ext s1
    refine ⟨_, rfl, a, _, rfl, .inl (s1.seq hS), _, _, rfl, 2, _, rfl, rfl, _, rfl, ?_, ?_, ?_⟩
    · rw [List.length_map]; split <;> omega
    · rw [List.length_map]; split <;> omega
    refine for_range (lo := 0) (fun i σ H2 => ∃ z2 z3 z4 z5 z6 z7 z8 z9 z10 z11 z12 : Option V, σ = [some (.ref a), some (.ref d), z2, z3, z4, z5, z6, z7, z8, z9, z10, z11, z12] ∧ StA H2 d g c (100 * (i : Int)) ∧ TabS H2 Pt qLam)
      ⟨_, _, _, _, _, _, _, _, _, _, _, rfl, S1.mono (by show (0 : Int) ≤ 100 * 0; decide), t1⟩ ?_ (fun σ H2 _ => k H2)
    rintro i σ H2 hi ⟨z2, z3, z4, z5, z6, z7, z8, z9, z10, z11, z12, rfl, S2, t2⟩
    have hi8 : (i : Int) < 10 := by
      have q := hi
      rw [List.length_map] at q
      split at q <;> omega
    -- bank_here
    refine ⟨_, rfl, d, g, c, _, rfl, S2, by show 100 * (i : Int) < 1000000000000; omega, fun bk H3 hbk k3 S3 => ?_⟩
    have t3 := tab_kp S2 k3 t2
    obtain ⟨ab, xb, rfl, nab, hab, lab, qab⟩ := hbk
    have vbk : PV 8 3 (Nd d g) H3 (.ref ab) := .tup ab xb hab nab (by omega) qab
    -- bent
    refine ⟨_, rfl, _, rfl, d, g, c, _, 8, 3, _, rfl, S3, by show 100 * (i : Int) + 1 + 5 * ((3 : Nat) : Int) < 1000000000000; omega, vbk, by decide, by decide, Nat.le_refl 3, fun bt H4 hbt k4 S4 => ?_⟩
    have t4 := tab_kp S3 k4 t3
    -- amounts
    refine ⟨_, rfl, d, g, c, _, 10, rfl, S4, by show 100 * (i : Int) + 1 + 5 * ((3 : Nat) : Int) < 1000000000000; omega, by decide, by decide, fun rr H5 h50 h51 k5 S5 => ?_⟩
    have t5 := tab_kp S4 k5 t4
    have S5' := S5.mono (T' := 100 * (i : Int) + 17) (by omega)
    refine ⟨_, rfl, by omega, by omega, ?_⟩
    refine fun L6 hL6 => lc_range (lo := 0) (fun j H' => ∃ xs : List V, H' L6 = some (.lst xs) ∧ xs.length = j ∧ (∀ x ∈ xs, ∃ z, x = V.int z) ∧ Kp d g H5 H' ∧ StA H' d g c (100 * (i : Int) + 17 + (j : Int)))
      ⟨[], upd_same, rfl, (fun x hx => nomatch hx), Kp.new hL6, (S5'.new hL6).mono (by omega)⟩ ?_ ?_
    · rintro j H' hj ⟨xs, hx, lx, qx, kx, Sx⟩
      have hj9 : (j : Int) < 10 := by omega
      refine ⟨rfl, ?_⟩
      dsimp only [tYes]
      refine iteT ?_
      refine ⟨_, rfl, 10, 17, rfl, rfl, ⟨by decide, by decide, by decide⟩, (by show 4 ≤ sizeLine; decide), fun p hp => ?_⟩
      have np := Sx.nd p hp
      refine ⟨d, g, c, p, _, _, rfl, Sx.new hp, by show 100 * (i : Int) + 17 + (j : Int) < 1000000000000; omega, .inl (SqL.of upd_same), np.1, np.2, (by intro e; cases e), by show 4 ≤ 100000; decide, fun x H'' hx'' k'' S'' => ?_⟩
      have n6 := S5'.nd L6 hL6
      have e6 : H'' L6 = some (.lst xs) := k'' _ _ (same_upd hp _ _ hx) n6.1 n6.2
      refine ⟨xs, e6, small1000 (by omega), xs ++ [x], upd_same, by rw [List.length_append, lx]; rfl, ?_, ?_, ?_⟩
      · intro y hy
        rcases List.mem_append.mp hy with hy | hy
        · exact qx y hy
        · rw [List.mem_singleton.mp hy]
          simp only [List.mem_cons, List.not_mem_nil, or_false] at hx''
          rcases hx'' with e | e | e | e
          · exact ⟨_, e⟩
          · exact ⟨_, e⟩
          · exact ⟨_, e⟩
          · exact ⟨_, e⟩
      · intro b o hb h1 h2
        have nb : b ≠ L6 := ne_of_none hb hL6
        rw [upd_ne nb]
        exact k'' _ _ (same_upd hp _ _ (kx b o hb h1 h2)) h1 h2
      · exact (S''.upd n6.1.symm n6.2.symm (fun q => by
          obtain ⟨cs, hcs, _⟩ := S5'.ce
          rw [q, hL6] at hcs
          cases hcs)).mono (by push_cast; omega)
    rintro H6 ⟨xs6, hx6, lx6, qx6, k6, S6'⟩
    refine ⟨L6, xs6, rfl, .inl ⟨SqL.of hx6, fun p6 hp6 => ?_⟩⟩
    have S6 := (S6'.new (o := .tup xs6) hp6).mono (T' := 100 * (i : Int) + 27) (by omega)
    have n6 := S6'.nd p6 hp6
    have t6 := tab_kp S5 (k6.trans (Kp.new (o := .tup xs6) hp6)) t5
    -- members, lies
    refine ⟨_, rfl, d, g, c, _, 15, rfl, S6, by show 100 * (i : Int) + 27 < 1000000000000; omega, by decide, by decide, fun mv H7 _ _ k7 S7 => ?_⟩
    refine ⟨_, rfl, d, g, c, _, 6, rfl, S7, by show 100 * (i : Int) + 27 + 1 < 1000000000000; omega, by decide, by decide, fun lv H8 _ _ k8 S8 => ⟨_, _, rfl, ?_⟩⟩
    have t8 := tab_kp S7 k8 (tab_kp S6 k7 t6)
    -- great
    refine ⟨10, 18, rfl, rfl, ⟨by decide, by decide, by decide⟩, _, _, rfl, rfl, _, rfl, d, g, c, _, 2, rfl, S8, by show 100 * (i : Int) + 27 + 1 + 1 < 1000000000000; omega, by decide, by decide, fun gv H9 _ _ k9 S9 => ?_⟩
    have t9 := tab_kp S8 k9 t8
    refine ⟨(by show 2 ≤ sizeLine; decide), fun pg hpg => ⟨(by show 3 ≤ sizeLine; decide), fun pG hpG => ?_⟩⟩
    have s10 := (same_upd (o := .tup [V.int _, V.int gv]) hpg).trans (same_upd (o := .tup [V.ref pg, V.int 4, V.int 1]) hpG)
    have S10 := S9.same s10
    have t10 := t9.ext s10
    -- some
    refine ⟨_, rfl, _, rfl, _, rfl, _, rfl, d, g, c, _, 9, 4, bt, rfl, S10, by show 100 * (i : Int) + 27 + 1 + 1 + 1 + 5 * ((4 : Nat) : Int) < 1000000000000; omega, ?_, by decide, by decide, Nat.le_refl 4, fun bb H11 hbb k11 S11 => ?_⟩
    · exact (PV.mon 9 4).kp (k5.trans ((k6.trans (Kp.new (o := .tup xs6) hp6)).trans ((k7.trans (k8.trans k9)).trans (Kp.of s10)))) hbt
    have t11 := tab_kp S10 k11 t10
    have k4B : Kp d g H4 H11 := (k5.trans ((k6.trans (Kp.new (o := .tup xs6) hp6)).trans ((k7.trans (k8.trans k9)).trans (Kp.of s10)))).trans k11
    have k6B : Kp d g (upd H6 p6 (.tup xs6)) H11 := (k7.trans (k8.trans k9)).trans ((Kp.of s10).trans k11)
    refine ⟨_, rfl, _, rfl, _, rfl, (by show 3 ≤ sizeLine; decide), fun pt hpt => ⟨_, rfl, fun v5 H13 s13 r13 => ⟨(by show 6 ≤ sizeLine; decide), fun pl hpl => ?_⟩⟩⟩
    -- what all of these are
    have vbk' : PV 20 6 (Nd d g) H11 (.ref ab) := (((PV.mon 8 3).kp (k4.trans k4B) vbk).wide (by decide)).ups (by decide)
    have vbt' : PV 20 6 (Nd d g) H11 bt := (((PV.mon 9 4).kp k4B hbt).wide (by decide)).ups (by decide)
    have vbb' : PV 20 6 (Nd d g) H11 bb := ((show PV 10 5 (Nd d g) H11 bb from hbb).wide (by decide)).ups (by decide)
    have vam : PV 20 1 (Nd d g) (upd H6 p6 (.tup xs6)) (.ref p6) → False ∨ True := fun _ => .inr trivial
    have vam' : PV 20 5 (Nd d g) H11 (.ref p6) := by
      refine .tup p6 xs6 (k6B _ _ upd_same n6.1 n6.2) n6 (by omega) fun x hx => ?_
      obtain ⟨z, rfl⟩ := qx6 x hx
      exact .int z
    have vgr' : PV 20 6 (Nd d g) H11 (.ref pG) := by
      have nG := (S9.new hpg).nd pG hpG
      have ng' := S9.nd pg hpg
      refine .tup pG _ (k11 _ _ upd_same nG.1 nG.2) nG (by show 3 ≤ 20; decide) fun x hx => ?_
      have npG : pg ≠ pG := fun e => by rw [e] at hpG; rw [upd_same] at hpG; cases hpG
      simp only [List.mem_cons, List.not_mem_nil, or_false] at hx
      rcases hx with rfl | rfl | rfl
      · refine .tup pg _ (k11 _ _ ((upd_ne npG).trans upd_same) ng'.1 ng'.2) ng' (by show 2 ≤ 20; decide) fun x hx => ?_
        simp only [List.mem_cons, List.not_mem_nil, or_false] at hx
        rcases hx with rfl | rfl
        · exact .int _
        · exact .int _
      · exact .int _
      · exact .int _
    have m6 := PV.mon 20 6
    have npt := S11.nd pt hpt
    have vmm' : PV 20 6 (Nd d g) (upd H11 pt (.tup [.ref p6, .int mv, .int lv])) (.ref pt) := by
      refine .tup pt _ upd_same npt (by show 3 ≤ 20; decide) fun x hx => ?_
      simp only [List.mem_cons, List.not_mem_nil, or_false] at hx
      rcases hx with rfl | rfl | rfl
      · exact (PV.mon 20 5).same (same_upd hpt) vam'
      · exact .int _
      · exact .int _
    have S13 := (S11.new (o := .tup [.ref p6, .int mv, .int lv]) hpt).same s13
    have v5' : PV 20 6 (Nd d g) H13 v5 := m6.new (S11.new (o := .tup [.ref p6, .int mv, .int lv]) hpt).nd r13
    have all6 : ∀ x ∈ [V.ref ab, bt, bb, V.ref pt, V.ref pG, v5], PV 20 6 (Nd d g) H13 x := fun x hx => by
      simp only [List.mem_cons, List.not_mem_nil, or_false] at hx
      rcases hx with rfl | rfl | rfl | rfl | rfl | rfl
      · exact m6.same ((same_upd hpt).trans s13) vbk'
      · exact m6.same ((same_upd hpt).trans s13) vbt'
      · exact m6.same ((same_upd hpt).trans s13) vbb'
      · exact m6.same s13 vmm'
      · exact m6.same ((same_upd hpt).trans s13) vgr'
      · exact v5'
    have t13 := t11.ext ((same_upd (o := .tup [.ref p6, .int mv, .int lv]) hpt).trans s13)
    have hl14 : upd H13 pl (.lst [V.ref ab, bt, bb, V.ref pt, V.ref pG, v5]) pl = some (.lst [V.ref ab, bt, bb, V.ref pt, V.ref pG, v5]) := upd_same
    have hab13 : H13 ab = some (.tup xb) := ((same_upd hpt).trans s13) _ _ ((k4.trans k4B) _ _ hab nab.1 nab.2)
    generalize hW : [V.ref ab, bt, bb, V.ref pt, V.ref pG, v5] = some6 at *
    have l6 : some6.length = 6 := by rw [← hW]; rfl
    -- some + ..
    refine ⟨_, rfl, fun w1 G1 q1 e1 w2 G2 q2 e2 w3 G3 q3 e3 w4 G4 q4 e4 w5 G5 q5 e5 => ⟨_, rfl, ?_⟩⟩
    have S14 := S13.new (o := .lst some6) hpl
    have vbk13 : ∀ x ∈ xb, PV 20 5 (Nd d g) H13 x := fun x hx => (((((PV.mon 8 2).kp (k4.trans k4B) (qab x hx)).wide (by decide)).ups (by decide) : PV 20 5 (Nd d g) H11 x) |> (PV.mon 20 5).same ((same_upd hpt).trans s13))
    have sG : Same H13 G5 := (same_upd hpl).trans (q1.trans (q2.trans (q3.trans (q4.trans q5))))
    refine ⟨ab, xb, rfl, .inr (SqT.of (sG _ _ hab13)), fun lq hlq => ⟨(by show 6 ≤ sizeLine; decide), fun pL hpL => ⟨pl, pL, some6, _, rfl, rfl, ?_, upd_same, ?_, fun ps hps => ?_⟩⟩⟩
    · exact ((q1.trans (q2.trans (q3.trans (q4.trans q5)))).trans ((same_upd hlq).trans (same_upd hpL))) _ _ upd_same
    · rw [l6]; show 6 + 6 ≤ sizeLine; decide
    have S15 := S14.same (q1.trans (q2.trans (q3.trans (q4.trans q5))))
    have S16 := ((S15.new (o := .lst xb) hlq).new (o := .lst [w1, w2, w3, w4, w5, V.ref lq]) hpL).new (o := .lst (some6 ++ [w1, w2, w3, w4, w5, V.ref lq])) hps
    have sH : Same G5 (upd (upd (upd G5 lq (.lst xb)) pL (.lst [w1, w2, w3, w4, w5, V.ref lq])) ps (.lst (some6 ++ [w1, w2, w3, w4, w5, V.ref lq]))) := (same_upd hlq).trans ((same_upd hpL).trans (same_upd hps))
    have t16 := t13.ext (sG.trans sH)
    have nlq := S15.nd lq hlq
    have all12 : ∀ x ∈ some6 ++ [w1, w2, w3, w4, w5, V.ref lq], PV 20 6 (Nd d g) (upd (upd (upd G5 lq (.lst xb)) pL (.lst [w1, w2, w3, w4, w5, V.ref lq])) ps (.lst (some6 ++ [w1, w2, w3, w4, w5, V.ref lq]))) x := fun x hx => by
      rcases List.mem_append.mp hx with hx | hx
      · exact m6.same (sG.trans sH) (all6 x hx)
      · simp only [List.mem_cons, List.not_mem_nil, or_false] at hx
        rcases hx with rfl | rfl | rfl | rfl | rfl | rfl
        · exact m6.same ((q2.trans (q3.trans (q4.trans q5))).trans sH) (m6.new S14.nd e1)
        · exact m6.same ((q3.trans (q4.trans q5)).trans sH) (m6.new (S14.same q1).nd e2)
        · exact m6.same ((q4.trans q5).trans sH) (m6.new (S14.same (q1.trans q2)).nd e3)
        · exact m6.same (q5.trans sH) (m6.new (S14.same (q1.trans (q2.trans q3))).nd e4)
        · exact m6.same sH (m6.new (S14.same (q1.trans (q2.trans (q3.trans q4)))).nd e5)
        · exact .lst lq xb (((same_upd hpL).trans (same_upd hps)) _ _ upd_same) nlq (by omega) fun x hx => (PV.mon 20 5).same (sG.trans sH) (vbk13 x hx)
    have hps' : (upd (upd (upd G5 lq (.lst xb)) pL (.lst [w1, w2, w3, w4, w5, V.ref lq])) ps (.lst (some6 ++ [w1, w2, w3, w4, w5, V.ref lq]))) ps = some (.lst (some6 ++ [w1, w2, w3, w4, w5, V.ref lq])) := upd_same
    have nps := ((S15.new (o := .lst xb) hlq).new (o := .lst [w1, w2, w3, w4, w5, V.ref lq]) hpL).nd ps hps
    have l12 : (some6 ++ [w1, w2, w3, w4, w5, V.ref lq]).length = 12 := by rw [List.length_append, l6]; rfl
    generalize some6 ++ [w1, w2, w3, w4, w5, V.ref lq] = some12 at *
    generalize hG16 : upd (upd (upd G5 lq (.lst xb)) pL (.lst [w1, w2, w3, w4, w5, V.ref lq])) ps (.lst some12) = G16 at *
    -- for value in some + ..
    refine ⟨_, rfl, fun u1 F1 f1 j1 u2 F2 f2 j2 u3 F3 f3 j3 => ⟨_, rfl, d, g, c, _, rfl, S16.same (f1.trans (f2.trans f3)), by show 100 * (i : Int) + 27 + 1 + 1 + 1 + 5 * ((4 : Nat) : Int) < 1000000000000; omega, fun ov F4 hov kv S17 => ?_⟩⟩
    refine ⟨(by show 4 ≤ sizeLine; decide), fun pM hpM => ⟨ps, pM, some12, _, rfl, rfl, same_upd hpM _ _ (kv _ _ ((f1.trans (f2.trans f3)) _ _ hps') nps.1 nps.2), upd_same, ?_, fun pZ hpZ => ⟨pZ, rfl, ⟨_, SqL.of upd_same⟩, ?_⟩⟩⟩
    · rw [l12]; show 12 + 4 ≤ sizeLine; decide
    have sF : Same F4 (upd (upd F4 pM (.lst [u1, u2, u3, ov])) pZ (.lst (some12 ++ [u1, u2, u3, ov]))) := (same_upd hpM).trans (same_upd hpZ)
    have kF : Kp d g G16 (upd (upd F4 pM (.lst [u1, u2, u3, ov])) pZ (.lst (some12 ++ [u1, u2, u3, ov]))) := (Kp.of (f1.trans (f2.trans f3))).trans (kv.trans (Kp.of sF))
    have all16 : ∀ x ∈ some12 ++ [u1, u2, u3, ov], PV 20 6 (Nd d g) (upd (upd F4 pM (.lst [u1, u2, u3, ov])) pZ (.lst (some12 ++ [u1, u2, u3, ov]))) x := fun x hx => by
      rcases List.mem_append.mp hx with hx | hx
      · exact m6.kp kF (all12 x hx)
      · simp only [List.mem_cons, List.not_mem_nil, or_false] at hx
        rcases hx with rfl | rfl | rfl | rfl
        · exact m6.kp ((Kp.of (f2.trans f3)).trans (kv.trans (Kp.of sF))) (m6.new S16.nd j1)
        · exact m6.kp ((Kp.of f3).trans (kv.trans (Kp.of sF))) (m6.new (S16.same f1).nd j2)
        · exact m6.kp (kv.trans (Kp.of sF)) (m6.new (S16.same (f1.trans f2)).nd j3)
        · exact m6.same sF ((hov.wide (by decide)).ups (by decide))
    have S18 := (S17.same sF).mono (T' := 100 * ((i : Int) + 1)) (by omega)
    have t18 := tab_kp S16 kF t16
    have hZ : (upd (upd F4 pM (.lst [u1, u2, u3, ov])) pZ (.lst (some12 ++ [u1, u2, u3, ov]))) pZ = some (.lst (some12 ++ [u1, u2, u3, ov])) := upd_same
    generalize some12 ++ [u1, u2, u3, ov] = vals at *
    refine for_list (K := K) (a := pZ) (xs := vals) (fun j σ H7 => ∃ z2 z3 z4 z5 z6 z7 z8 z9 z10 z11 z12 : Option V, σ = [some (.ref a), some (.ref d), z2, z3, z4, z5, z6, z7, z8, z9, z10, z11, z12] ∧ StA H7 d g c (100 * ((i : Int) + 1)) ∧ TabS H7 Pt qLam ∧ H7 pZ = some (.lst vals) ∧ ∀ v ∈ vals, PV 20 6 (Nd d g) H7 v)
      ⟨_, _, _, _, _, _, _, _, _, _, _, rfl, S18, t18, hZ, all16⟩ (fun j σ H7 _ ⟨_, _, _, _, _, _, _, _, _, _, _, _, _, _, e, _⟩ => SqL.of e) ?_
      (fun σ H7 ⟨z2, z3, z4, z5, z6, z7, z8, z9, z10, z11, z12, e, S, t, _, _⟩ => ⟨z2, z3, z4, z5, z6, z7, z8, z9, z10, z11, z12, e, by push_cast; exact S, t⟩)
    clear all16 all12 all6
    rintro j v σ H7 hj ⟨y2, y3, y4, y5, y6, y7, y8, y9, y10, y11, y12, rfl, S7, t7, h7, a7⟩
    have hv := a7 v (List.mem_of_getElem? hj)
    -- due
    refine ⟨_, rfl, v, 20, 6, Nd d g, rfl, hv, by decide, fun Ha sa => ?_⟩
    have ea : bankB Ha v = bankB H7 v := bank_ext hv (ExtN.of sa)
    refine ⟨_, rfl, v, 20, 6, Nd d g, rfl, m6.same sa hv, by decide, fun Hb sb => ⟨_, rfl, _, _, rfl, _, rfl, ?_⟩⟩
    rw [ea, decide_eq_true rfl]
    refine iteF ?_
    have S8' := (S7.same sa).same sb
    have t8' := (t7.ext sa).ext sb
    have hvb := m6.same (sa.trans sb) hv
    have eb : bankB Hb v = bankB H7 v := bank_ext hv (ExtN.of (sa.trans sb))
    cases ed : bankB H7 v with
    | true =>
      rw [ed] at eb
      refine ⟨_, rfl, _, rfl, ?_⟩
      refine iteT ?_
      refine ⟨_, rfl, v, 20, 6, Nd d g, rfl, hvb, by decide, fun _ Hc sc => ?_, fun z => by rw [eb] at z; cases z⟩
      obtain ⟨av, xv, mi, li, rfl, hav⟩ := bank_tup hvb eb
      have en : needV Hb (.ref av) = mi - li := by unfold needV; rw [tupOf_at hav]; rfl
      refine ⟨_, rfl, av, _, 1, _, rfl, rfl, SqT.of (sc _ _ hav), atI_nat (j := 1) rfl, _, rfl, av, _, 2, _, rfl, rfl, SqT.of (sc _ _ hav), atI_nat (j := 2) rfl, mi, li, rfl, rfl, rfl, _, rfl, ?_⟩
      rw [en]
      refine iteNS rfl ?_
      refine ⟨_, rfl, _, rfl, ?_⟩
      refine iteF ?_
      refine iteF ?_
      exact ⟨_, _, _, _, _, _, _, _, _, _, _, rfl, S8'.same sc, t8'.ext sc, sc _ _ (sb _ _ (sa _ _ h7)), fun y hy => m6.same ((sa.trans sb).trans sc) (a7 y hy)⟩
    | false =>
      rw [ed] at eb
      refine ⟨_, rfl, _, rfl, ?_⟩
      refine iteF ?_
      refine iteF ?_
      refine ⟨_, rfl, _, rfl, ?_⟩
      refine iteT ?_
      have T8 : Tabs [(Pt, qLam)] Hb := fun p hp => by rw [List.mem_singleton.mp hp]; exact t8'
      refine ⟨T8, fun Hc eN T9 E1 Q1 hE hQ => ?_⟩
      have vc := PV.ext eN hvb
      have ec : bankB Hc v = false := (bank_ext hvb eN).trans eb
      refine ⟨_, rfl, v, 20, 6, Nd d g, rfl, vc, by decide, (fun z => by rw [ec] at z; cases z), fun _ He se => hE _ _ _ ⟨true, W.exm, fun _ ae nae => ?_, fun z => nomatch z⟩⟩
      refine ⟨ae, C, C, true, rfl, upd_same, W.xc, W.kit, _, rfl, ?_⟩
      refine iteF ?_
      have eF : ExtN Hb (upd He ae (ExV (.ref C) none ae)) := eN.trans (ExtN.of (se.trans (same_upd nae)))
      exact ⟨_, _, _, _, _, _, _, _, _, _, _, rfl, S8'.ext eF, (T9 _ List.mem_cons_self).ext (se.trans (same_upd nae)), eF _ _ (sb _ _ (sa _ _ h7)) (fun ps z => by cases z), fun y hy => PV.ext eF (m6.same (sa.trans sb) (a7 y hy))⟩
end
end Pu

namespace Pu
open PySem L2 LamX
/-- a def of the text stands behind the top under its name -/
def DefAt (K : PySem.W.Frag) (x : Str) (st : Stmt) : Prop := ∃ (f : Addr) (oc : Value) (od : Option Addr) (kV doc pm : Value) (an : Option Addr) (cd ct : Value) (osl : Array (Option Value)), PySem.W.nsIn K mainGlobals x = some (some (.ref f)) ∧
  K.lookup f = some ⟨oc, od, .func (PySem.W.fnOf x x (defArgs st) (defBody st) (defScope st) .none kV doc pm an cd ct), osl⟩ ∧ PySem.W.codeIn K cd x = true ∧ PySem.W.keepIn K (.ref f) = true
theorem DefAt.get {K : PySem.W.Frag} {x : Str} {st : Stmt} {h : Heap} {mg : Str → Option Value} (D : DefAt K x st) (X : K.In h) (G : h.Ns mainGlobals mg) : ∃ f fd, Fun K x x st f fd ∧ PySem.W.keepIn K (.ref f) = true ∧ mg x = some (.ref f) := by
  obtain ⟨f, oc, od, kV, doc, pm, an, cd, ct, osl, a, l, c, k⟩ := D
  exact ⟨f, _, fun_mk l c k, k, PySem.W.mg_of X G a⟩
theorem defAt_mk {K : PySem.W.Frag} {x : Str} {st : Stmt} {f : Addr} {oc : Value} {od : Option Addr} {kV doc pm : Value} {an : Option Addr} {cd ct : Value} {osl : Array (Option Value)} (a : PySem.W.nsIn K mainGlobals x = some (some (.ref f)))
    (l : K.lookup f = some ⟨oc, od, .func (PySem.W.fnOf x x (defArgs st) (defBody st) (defScope st) .none kV doc pm an cd ct), osl⟩) (c : PySem.W.codeIn K cd x = true) (k : PySem.W.keepIn K (.ref f) = true) : DefAt K x st := ⟨f, oc, od, kV, doc, pm, an, cd, ct, osl, a, l, c, k⟩
/-- the error class, all that is asked of it -/
structure ClsAt (K : PySem.W.Frag) (C PE0 : Addr) : Prop where
  aC : PySem.W.nsIn K mainGlobals "BadBank" = some (some (.ref C))
  aP : PySem.W.nsIn K mainGlobals "PurseError" = some (some (.ref PE0))
  xi : PySem.W.excIn K C [.type "ValueError", .type "Exception", .type "BaseException", .type "object"] "ValueError.__new__" = true
  kk : PySem.W.keepIn K (.ref C) = true
  bb : PySem.W.subIn K (.ref C) (.type "BaseException") = some true
  ty : PySem.W.typeIn K (.ref C) = some (.type "type")
  hg : PySem.W.findIn K (.ref C) "__getattribute__" = some (some (.builtin "BaseException.__getattribute__"))
  hk : PySem.W.findIn K (.ref C) "__getattr__" = some none
  hd : PySem.W.hasDictIn K C = true
  ha : PySem.W.findIn K (.ref C) "__class__" = some (some (.builtin "object.__class__"))
  hn : PySem.W.specialIn K (.builtin "object.__class__") "__get__" = some (some (.builtin "getset_descriptor.__get__"))
  ht : PySem.W.takesIn K (.builtin "object.__class__") = some true
  hm : PySem.W.mroIn K C (.type "object") = some true
  kit : PySem.W.kitOne K (.ref C) (.ref C) = some true
  pb : PySem.W.subIn K (.ref PE0) (.type "BaseException") = some true
  pd : PySem.W.hasDictIn K PE0 = true
  pt : PySem.W.typeIn K (.ref PE0) = some (.type "type")
  cp : PySem.W.subIn K (.ref C) (.ref PE0) = some true
theorem all_mk {l : PySem.W.OpenLaw} {w : World} {K : PySem.W.Frag} {h : Heap} {mg : Str → Option Value} {fa : Addr} (X : K.In h) (G : h.Ns mainGlobals mg) (hfa : mg "law" = some (.ref fa))
    {Pt c0 C PE0 fL : Addr} (hP : h.get? Pt = some { cls := .none, data := .fields #[] }) (nP : K.lookup Pt = none) (hc : PySem.W.CodeHd h c0 Pt)
    (d7 : DefAt K "is_number" (top 7)) (d8 : DefAt K "is_number_from" (top 8)) (d9 : DefAt K "is_begin" (top 9)) (d10 : DefAt K "is_bank" (top 10)) (d11 : DefAt K "check_bank" (top 11)) (d12 : DefAt K "need_of" (top 12))
    (d14 : DefAt K "_law_begun" (top 14)) (d15 : DefAt K "_law_blended" (top 15)) (d16 : DefAt K "_law_draw" (top 16)) (d17 : DefAt K "_law_pick" (top 17)) (d18 : DefAt K "_law_caught" (top 18)) (d19 : DefAt K "_law_is_truth" (top 19)) (d20 : DefAt K "_law_is_whole" (top 20))
    (d21 : DefAt K "_law_pu_bank" (top 21)) (d22 : DefAt K "_law_pu_odd" (top 22)) (d23 : DefAt K "_law_pu_bent" (top 23)) (d24 : DefAt K "_law_k00_is_bank" (top 24))
    {oc kV doc pm ct : Value} {od an : Option Addr} {osl : Array (Option Value)} (aL : PySem.W.nsIn K mainGlobals "law" = some (some (.ref fL))) (lL : K.lookup fL = some ⟨oc, od, .func (PySem.W.fnOf "law" "law" (defArgs sLaw) (defBody sLaw) (defScope sLaw) .none kV doc pm an (.ref c0) ct), osl⟩) (cL : PySem.W.codeIn K (.ref c0) "law" = true)
    (cl : ClsAt K C PE0) {t1 t8 t13 : Tok} (n1 : PySem.W.nsIn K mainGlobals "FIRST_TOO_LONG" = some (some (.int BIG t1))) (n8 : PySem.W.nsIn K mainGlobals "MOST_PURSES" = some (some (.int 8 t8))) (n13 : PySem.W.nsIn K mainGlobals "MOST_MEMBERS" = some (some (.int 13 t13)))
    (z1 : PySem.W.nsIn K mainGlobals "isinstance" = some none) (z2 : PySem.W.nsIn K mainGlobals "int" = some none) (z3 : PySem.W.nsIn K mainGlobals "bool" = some none) (z4 : PySem.W.nsIn K mainGlobals "tuple" = some none) (z5 : PySem.W.nsIn K mainGlobals "len" = some none)
    (z6 : PySem.W.nsIn K mainGlobals "all" = some none) (z7 : PySem.W.nsIn K mainGlobals "sum" = some none) (z8 : PySem.W.nsIn K mainGlobals "abs" = some none) (z9 : PySem.W.nsIn K mainGlobals "list" = some none) (z10 : PySem.W.nsIn K mainGlobals "range" = some none) (z11 : PySem.W.nsIn K mainGlobals "min" = some none) :
    LawAtS l w K CX0 10 63 "script" mg fa h := by
  have e := hfa.symm.trans (PySem.W.mg_of X G aL)
  cases e
  have no : ∀ {x : Str}, PySem.W.nsIn K mainGlobals x = some none → mg x = none := fun z => PySem.W.mg_none_of X G z
  obtain ⟨f7, fd7, F7, k7, m7⟩ := d7.get X G
  obtain ⟨f8, fd8, F8, k8, m8⟩ := d8.get X G
  obtain ⟨f9, fd9, F9, k9, m9⟩ := d9.get X G
  obtain ⟨f10, fd10, F10, k10, m10⟩ := d10.get X G
  obtain ⟨f11, fd11, F11, k11, m11⟩ := d11.get X G
  obtain ⟨f12, fd12, F12, k12, m12⟩ := d12.get X G
  obtain ⟨f14, fd14, F14, k14, m14⟩ := d14.get X G
  obtain ⟨f15, fd15, F15, k15, m15⟩ := d15.get X G
  obtain ⟨f16, fd16, F16, k16, m16⟩ := d16.get X G
  obtain ⟨f17, fd17, F17, k17, m17⟩ := d17.get X G
  obtain ⟨f19, fd19, F19, k19, m19⟩ := d19.get X G
  obtain ⟨f20, fd20, F20, k20, m20⟩ := d20.get X G
  obtain ⟨f21, fd21, F21, k21, m21⟩ := d21.get X G
  obtain ⟨f22, fd22, F22, k22, m22⟩ := d22.get X G
  obtain ⟨f23, fd23, F23, k23, m23⟩ := d23.get X G
  obtain ⟨f24, fd24, F24, k24, m24⟩ := d24.get X G
  obtain ⟨f18, oc8, od8, kV8, doc8, pm8, an8, cd8, ct8, osl8, a18, l18, c18, k18⟩ := d18
  have m18 := PySem.W.mg_of X G a18
  have F18 := fun_mk (st := top 18) l18 c18 k18
  have b7 := F7.binds (ps := ["value"]) fun _ _ _ _ _ _ us hl => match us, hl with | [_], _ => rfl
  have b8 := F8.binds (ps := ["value", "least"]) fun _ _ _ _ _ _ us hl => match us, hl with | [_, _], _ => rfl
  have b9 := F9.binds (ps := ["value"]) fun _ _ _ _ _ _ us hl => match us, hl with | [_], _ => rfl
  have b10 := F10.binds (ps := ["value"]) fun _ _ _ _ _ _ us hl => match us, hl with | [_], _ => rfl
  have b11 := F11.binds (ps := ["bank"]) fun _ _ _ _ _ _ us hl => match us, hl with | [_], _ => rfl
  have b12 := F12.binds (ps := ["bank"]) fun _ _ _ _ _ _ us hl => match us, hl with | [_], _ => rfl
  have b14 := F14.binds (ps := ["script"]) fun _ _ _ _ _ _ us hl => match us, hl with | [_], _ => rfl
  have b15 := F15.binds (ps := ["state"]) fun _ _ _ _ _ _ us hl => match us, hl with | [_], _ => rfl
  have b16 := F16.binds (ps := ["state", "size_here"]) fun _ _ _ _ _ _ us hl => match us, hl with | [_, _], _ => rfl
  have b17 := F17.binds (ps := ["state", "several"]) fun _ _ _ _ _ _ us hl => match us, hl with | [_, _], _ => rfl
  have b18 := F18.binds (ps := ["work"]) fun _ _ _ _ _ _ us hl => match us, hl with | [_], _ => rfl
  have b19 := F19.binds (ps := ["found", "due"]) fun _ _ _ _ _ _ us hl => match us, hl with | [_, _], _ => rfl
  have b20 := F20.binds (ps := ["item"]) fun _ _ _ _ _ _ us hl => match us, hl with | [_], _ => rfl
  have b21 := F21.binds (ps := ["state"]) fun _ _ _ _ _ _ us hl => match us, hl with | [_], _ => rfl
  have b22 := F22.binds (ps := ["state"]) fun _ _ _ _ _ _ us hl => match us, hl with | [_], _ => rfl
  have b23 := F23.binds (ps := ["state", "item"]) fun _ _ _ _ _ _ us hl => match us, hl with | [_, _], _ => rfl
  have b24 := F24.binds (ps := ["value"]) fun _ _ _ _ _ _ us hl => match us, hl with | [_], _ => rfl
  have kb10 : KBinds K fd10 ["value"] ["value"] g1 gV1 := by
    obtain ⟨oc, od, kV, doc, pm, an, cdv, ct, osl, rfl, lk, hcd⟩ := F10.ex
    exact kb1 fun w => rfl
  have kb12 : KBinds K fd12 ["bank"] ["bank"] g1 gV1 := by
    obtain ⟨oc, od, kV, doc, pm, an, cdv, ct, osl, rfl, lk, hcd⟩ := F12.ex
    exact kb1 fun w => rfl
  have er : Er K mg "BadBank" C := ⟨cl.xi, PySem.W.mg_of X G cl.aC, cl.kk, cl.bb, cl.ty⟩
  refine ⟨_, [(c0, Pt)], spLaw K Pt, fun p hp => by rw [List.mem_singleton.mp hp]; exact hP, fun p hp => by rw [List.mem_singleton.mp hp]; exact nP, fun p hp => by rw [List.mem_singleton.mp hp]; exact hc, fun s v => .of_eq rfl,
    fun H a ns hl _ hH hS => ⟨a, ns, rfl, hS, hl, TabS.nil (hH _ List.mem_cons_self), fun _ => rfl⟩, fun base _ _ hT => ok_law (C := C) (PE0 := PE0) lL cL (hT _ List.mem_cons_self) ?_ l18 c18 b18 k18 m18⟩
  have G15 := ok_blend (P := l.prog) (w := w) (base := base) F15 (no z2)
  have G16 := ok_draw F16 (no z2) G15 b15 k15 m15
  have G17 := ok_pick F17 (no z5) G16 b16 k16 m16
  have G22 := ok_odd F22 G17 b17 k17 m17
  have G20 := ok_whole (P := l.prog) (w := w) (base := base) F20 (no z1) (no z2) (no z3)
  have D : Dr l.prog w K mg base := ⟨⟨_, _, G16, b16, k16, m16⟩, ⟨_, _, G17, b17, k17, m17⟩, ⟨_, _, G22, b22, k22, m22⟩, ⟨_, _, G20, b20, k20, m20⟩, no z1, no z4, no z5, no z9⟩
  have G7 := ok_isnum (P := l.prog) (w := w) (base := base) F7 (no z1) (no z2) (no z3) (PySem.W.mg_of X G n1)
  have G8 := ok_numfrom F8 G7 b7 k7 m7
  have G9 := ok_isbegin F9 (no z1) (no z4) (no z5) (no z6) (no z7) (PySem.W.mg_of X G n8) G7 b7 k7 m7 G8 b8 k8 m8
  have G10 := ok_isbank F10 (no z1) (no z4) (no z5) (PySem.W.mg_of X G n13) G8 b8 k8 m8 G9 b9 k9 m9
  have G11 := ok_check F11 er G10 b10 k10 m10
  have G12 := ok_need F12 G11 b11 k11 m11
  exact { dr := D, begun := ⟨_, _, ok_begun F14 (no z8), b14, k14, m14⟩, bank := ⟨_, _, ok_bank F21 G17 b17 k17 m17, b21, k21, m21⟩, bent3 := ⟨_, _, ok_bent F23 D b23 k23 m23 3, b23, k23, m23⟩, bent4 := ⟨_, _, ok_bent F23 D b23 k23 m23 4, b23, k23, m23⟩,
          own := ⟨_, _, ok_own F24 (no z1) (no z4) (no z5) (no z7) G20 b20 k20 m20, b24, k24, m24⟩, truth := ⟨_, _, ok_truth F19, b19, k19, m19⟩, isb := ⟨_, _, G10, b10, kb10, k10, m10⟩, need := ⟨_, _, G12, b12, kb12, k12, m12⟩, er := er,
          xc := ⟨cl.hg, cl.hk, cl.bb, cl.hd, cl.ha, cl.hn, cl.ht, cl.hm⟩, kit := cl.kit, pe := PySem.W.mg_of X G cl.aP, exm := PySem.W.exm_ref cl.pb cl.pd cl.pt cl.cp, mr := no z10, mm := no z11 }
end Pu

open PySem PySem.W PyProof.Rows
set_option maxRecDepth 100000 in
set_option maxHeartbeats 0 in
theorem PySem.Challenge.cw_pursesapart_k00_banks_judged_holds : PySem.Challenge.rw_pursesapart_k00_banks_judged.Holds := by
  w_on; o_law; k_head; (case hw => w_witness2)
  k_fill
  refine LamX.walk_ofTs (n := 63) (k := 10) (x := "script") (CX := fun _ => L2.CX0) rfl (by decide) rfl ⟨rfl, by decide, by decide⟩ (fun w h Y => PySem.W.km_in_of Y) ?F (fun _ _ _ _ _ z => z)
  intro w mg fa h Y KX G hmg
  have hT := PySem.W.km_tabs_of Y
  refine' Pu.all_mk (Pt := 154) KX G hmg (hT 154 (List.mem_singleton.mpr rfl)) ?u_nP ?u_hc ?u_d7 ?u_d8 ?u_d9 ?u_d10 ?u_d11 ?u_d12 ?u_d14 ?u_d15 ?u_d16 ?u_d17 ?u_d18 ?u_d19 ?u_d20 ?u_d21 ?u_d22 ?u_d23 ?u_d24 ?u_aL ?u_lL ?u_cL ?u_cl ?u_n1 ?u_n8 ?u_n13 ?u_z1 ?u_z2 ?u_z3 ?u_z4 ?u_z5 ?u_z6 ?u_z7 ?u_z8 ?u_z9 ?u_z10 ?u_z11
  (case u_nP => kernel_rfl)
  (case u_aL => k_is); (case u_lL => k_is); (case u_cL => k_is)
  (case u_hc => exact PySem.W.codeHd_of_K KX (by kernel_rfl))
  (case u_d7 => refine' Pu.defAt_mk ?v_a ?v_l ?v_c ?v_k; (case v_a => k_is); (case v_l => k_is); (case v_c => k_is); (case v_k => k_is))
  (case u_d8 => refine' Pu.defAt_mk ?v_a ?v_l ?v_c ?v_k; (case v_a => k_is); (case v_l => k_is); (case v_c => k_is); (case v_k => k_is))
  (case u_d9 => refine' Pu.defAt_mk ?v_a ?v_l ?v_c ?v_k; (case v_a => k_is); (case v_l => k_is); (case v_c => k_is); (case v_k => k_is))
  (case u_d10 => refine' Pu.defAt_mk ?v_a ?v_l ?v_c ?v_k; (case v_a => k_is); (case v_l => k_is); (case v_c => k_is); (case v_k => k_is))
  (case u_d11 => refine' Pu.defAt_mk ?v_a ?v_l ?v_c ?v_k; (case v_a => k_is); (case v_l => k_is); (case v_c => k_is); (case v_k => k_is))
  (case u_d12 => refine' Pu.defAt_mk ?v_a ?v_l ?v_c ?v_k; (case v_a => k_is); (case v_l => k_is); (case v_c => k_is); (case v_k => k_is))
  (case u_d14 => refine' Pu.defAt_mk ?v_a ?v_l ?v_c ?v_k; (case v_a => k_is); (case v_l => k_is); (case v_c => k_is); (case v_k => k_is))
  (case u_d15 => refine' Pu.defAt_mk ?v_a ?v_l ?v_c ?v_k; (case v_a => k_is); (case v_l => k_is); (case v_c => k_is); (case v_k => k_is))
  (case u_d16 => refine' Pu.defAt_mk ?v_a ?v_l ?v_c ?v_k; (case v_a => k_is); (case v_l => k_is); (case v_c => k_is); (case v_k => k_is))
  (case u_d17 => refine' Pu.defAt_mk ?v_a ?v_l ?v_c ?v_k; (case v_a => k_is); (case v_l => k_is); (case v_c => k_is); (case v_k => k_is))
  (case u_d18 => refine' Pu.defAt_mk ?v_a ?v_l ?v_c ?v_k; (case v_a => k_is); (case v_l => k_is); (case v_c => k_is); (case v_k => k_is))
  (case u_d19 => refine' Pu.defAt_mk ?v_a ?v_l ?v_c ?v_k; (case v_a => k_is); (case v_l => k_is); (case v_c => k_is); (case v_k => k_is))
  (case u_d20 => refine' Pu.defAt_mk ?v_a ?v_l ?v_c ?v_k; (case v_a => k_is); (case v_l => k_is); (case v_c => k_is); (case v_k => k_is))
  (case u_d21 => refine' Pu.defAt_mk ?v_a ?v_l ?v_c ?v_k; (case v_a => k_is); (case v_l => k_is); (case v_c => k_is); (case v_k => k_is))
  (case u_d22 => refine' Pu.defAt_mk ?v_a ?v_l ?v_c ?v_k; (case v_a => k_is); (case v_l => k_is); (case v_c => k_is); (case v_k => k_is))
  (case u_d23 => refine' Pu.defAt_mk ?v_a ?v_l ?v_c ?v_k; (case v_a => k_is); (case v_l => k_is); (case v_c => k_is); (case v_k => k_is))
  (case u_d24 => refine' Pu.defAt_mk ?v_a ?v_l ?v_c ?v_k; (case v_a => k_is); (case v_l => k_is); (case v_c => k_is); (case v_k => k_is))
  (case u_n1 => k_is)
  (case u_n8 => k_is)
  (case u_n13 => k_is)
  (case u_z1 => k_is)
  (case u_z2 => k_is)
  (case u_z3 => k_is)
  (case u_z4 => k_is)
  (case u_z5 => k_is)
  (case u_z6 => k_is)
  (case u_z7 => k_is)
  (case u_z8 => k_is)
  (case u_z9 => k_is)
  (case u_z10 => k_is)
  (case u_z11 => k_is)
  (case u_cl =>
    refine' ⟨?w1, ?w2, ?w3, ?w4, ?w5, ?w6, ?w7, ?w8, ?w9, ?w10, ?w11, ?w12, ?w13, ?w14, ?w15, ?w16, ?w17, ?w18⟩
    (case w1 => k_is); (case w2 => k_is); (case w3 => k_exc); (case w4 => k_is); (case w5 => k_is); (case w6 => k_is); (case w7 => k_is); (case w8 => k_is); (case w9 => k_is)
    (case w10 => k_is); (case w11 => k_is); (case w12 => k_is); (case w13 => k_is); (case w14 => kernel_rfl); (case w15 => k_is); (case w16 => k_is); (case w17 => k_is); (case w18 => k_is))
