import PyProof.Rows.All
import Wide.All
import OpenK.AllK
import Wide.FinOn
import HandS.Base
import HandS.Call
import HandS.List
import HandS.Comp
import HandS.Dict
import HandS.Words
import HandS.Lambda
import HandS.Codes
import HandS.Wide
import HandS.IsInst
import HandS.TupAny
import HandS.Style
import HandS.Exc
import HandS.ExcOwn
import HandS.WordsExc
import HandS.ExcIs
import HandS.EndTab
import HandS.ExcValue
import HandS.TupMul
import HandS.TupLe
import HandS.DictEq
import HandS.SetFor
import HandS.Strs
import PySem.Challenge.RW_pursesapart_k22_letters_judged
set_option Elab.async false
set_option linter.all false
set_option maxRecDepth 100000
set_option maxHeartbeats 8000000
namespace Pu
open PySem L2
def top (i : Nat) : Stmt := PySem.Challenge.pw_pursesapart_k22_letters_judged.main.body.getD i (.Pass ⟨0, 0, 0, 0⟩)
abbrev sBegun : Stmt := top 26
abbrev sBlend : Stmt := top 27
abbrev sDraw : Stmt := top 28
abbrev sPick : Stmt := top 29

/-! ### heaps: all stays but at the state's dict d and the list g -/
def Kp (d g : Addr) (H H' : Hp) : Prop := ∀ b o, H b = some o → b ≠ d → b ≠ g → H' b = some o
theorem Kp.refl (d g : Addr) (H : Hp) : Kp d g H H := fun _ _ h _ _ => h
theorem Kp.trans {d g : Addr} {H H1 H2 : Hp} (a : Kp d g H H1) (b : Kp d g H1 H2) : Kp d g H H2 := fun c o h x y => b c o (a c o h x y) x y
theorem Kp.of {d g : Addr} {H H' : Hp} (s : Same H H') : Kp d g H H' := fun c o h _ _ => s c o h
theorem Kp.new {d g p : Addr} {H : Hp} {o : HO} (n : H p = none) : Kp d g H (upd H p o) := fun c u h _ _ => by
  rw [upd_ne (ne_of_none h n)]; exact h
theorem Kp.atD {d g : Addr} {H : Hp} {o : HO} : Kp d g H (upd H d o) := fun c u h x _ => by
  rw [upd_ne x]; exact h
theorem Kp.atG {d g : Addr} {H : Hp} {o : HO} : Kp d g H (upd H g o) := fun c u h _ y => by
  rw [upd_ne y]; exact h
theorem Kp.rd {d g a : Addr} {H H' : Hp} {u : HO} (k : Kp d g H H') (h : Rd H a u) (x : a ≠ d) (y : a ≠ g) : Rd H' a u := by
  rcases h with h | ⟨o, h⟩
  · exact .inl (k _ _ h x y)
  · exact .inr ⟨o, k _ _ h x y⟩
theorem Kp.seqL {K : PySem.W.Frag} {d g a : Addr} {H H' : Hp} {xs : List V} (k : Kp d g H H') (h : SqL K H a xs) (x : a ≠ d) (y : a ≠ g) : SqL K H' a xs := by
  rcases h with h | h
  · exact .inl (k.rd h x y)
  · exact .inr h
theorem Kp.seqT {K : PySem.W.Frag} {d g a : Addr} {H H' : Hp} {xs : List V} (k : Kp d g H H') (h : SqT K H a xs) (x : a ≠ d) (y : a ≠ g) : SqT K H' a xs := by
  rcases h with h | h
  · exact .inl (k.rd h x y)
  · exact .inr h

/-! ### the state of the draws -/
theorem n_gc : ¬ (("great" : Str) = "cells") := by decide +kernel
theorem n_gl : ¬ (("great" : Str) = "left") := by decide +kernel
theorem n_gt : ¬ (("great" : Str) = "turn") := by decide +kernel
theorem n_cl : ¬ (("cells" : Str) = "left") := by decide +kernel
theorem n_ct : ¬ (("cells" : Str) = "turn") := by decide +kernel
theorem n_lt : ¬ (("left" : Str) = "turn") := by decide +kernel
theorem n_tl : ¬ (("turn" : Str) = "left") := by decide +kernel
def stk (g c : Addr) (l t : Int) : List (Key × V) := [(.inr "great", .ref g), (.inr "cells", .ref c), (.inr "left", .int l), (.inr "turn", .int t)]
theorem stk_great (g c : Addr) (l t : Int) : valV (stk g c l t) (.inr "great" : Key) = some (.ref g) := valV_pos rfl
theorem stk_cells (g c : Addr) (l t : Int) : valV (stk g c l t) (.inr "cells" : Key) = some (.ref c) :=
  (valV_neg fun e => n_gc (Sum.inr.inj e)).trans (valV_pos rfl)
theorem stk_left (g c : Addr) (l t : Int) : valV (stk g c l t) (.inr "left" : Key) = some (.int l) :=
  (valV_neg fun e => n_gl (Sum.inr.inj e)).trans ((valV_neg fun e => n_cl (Sum.inr.inj e)).trans (valV_pos rfl))
theorem stk_turn (g c : Addr) (l t : Int) : valV (stk g c l t) (.inr "turn" : Key) = some (.int t) :=
  (valV_neg fun e => n_gt (Sum.inr.inj e)).trans ((valV_neg fun e => n_ct (Sum.inr.inj e)).trans ((valV_neg fun e => n_lt (Sum.inr.inj e)).trans (valV_pos rfl)))
theorem stk_putL (g c : Addr) (l t z : Int) : putK (stk g c l t) (.inr "left" : Key) (.int z) = stk g c z t := by
  unfold putK
  rw [valV_any, stk_left]
  rw [if_pos (by rfl)]
  simp only [stk, List.map_cons, List.map_nil, Sum.inr.injEq, n_gl, n_cl, n_tl, if_true, if_false]
theorem stk_putT (g c : Addr) (l t z : Int) : putK (stk g c l t) (.inr "turn" : Key) (.int z) = stk g c l z := by
  unfold putK
  rw [valV_any, stk_turn]
  rw [if_pos (by rfl)]
  simp only [stk, List.map_cons, List.map_nil, Sum.inr.injEq, n_gt, n_ct, n_lt, if_true, if_false]
theorem stk_merge (g c : Addr) (l t : Int) : mergeK [] (stk g c l t) = stk g c l t := by
  have e1 : putK ([] : List (Key × V)) (.inr "great") (.ref g) = [(.inr "great", .ref g)] := putK_new _ rfl
  have e2 : putK ([(.inr "great", .ref g)] : List (Key × V)) (.inr "cells") (.ref c) = [(.inr "great", .ref g), (.inr "cells", .ref c)] :=
    putK_new _ ((valV_neg fun e => n_gc (Sum.inr.inj e)).trans rfl)
  have e3 : putK ([(.inr "great", .ref g), (.inr "cells", .ref c)] : List (Key × V)) (.inr "left") (.int l) = [(.inr "great", .ref g), (.inr "cells", .ref c), (.inr "left", .int l)] :=
    putK_new _ ((valV_neg fun e => n_gl (Sum.inr.inj e)).trans ((valV_neg fun e => n_cl (Sum.inr.inj e)).trans rfl))
  have e4 : putK ([(.inr "great", .ref g), (.inr "cells", .ref c), (.inr "left", .int l)] : List (Key × V)) (.inr "turn") (.int t) = stk g c l t :=
    putK_new _ ((valV_neg fun e => n_gt (Sum.inr.inj e)).trans ((valV_neg fun e => n_ct (Sum.inr.inj e)).trans ((valV_neg fun e => n_lt (Sum.inr.inj e)).trans rfl)))
  show putK (putK (putK (putK ([] : List (Key × V)) (.inr "great") (.ref g)) (.inr "cells") (.ref c)) (.inr "left") (.int l)) (.inr "turn") (.int t) = _
  rw [e1, e2, e3, e4]
/-- the state stands at d: its lists at g and c, T the most turns that were -/
structure StA (H : Hp) (d g c : Addr) (T : Int) : Prop where
  dk : ∃ l t, H d = some (.dK (stk g c l t)) ∧ 0 ≤ l ∧ 0 ≤ t ∧ t ≤ T
  gr : ∃ gs : List Int, H g = some (.lst (gs.map V.int)) ∧ ∀ z ∈ gs, 0 ≤ z
  ce : ∃ cs : List Int, H c = some (.lst (cs.map V.int)) ∧ ∀ z ∈ cs, 0 ≤ z
  gc : g ≠ c
theorem StA.dg {H : Hp} {d g c : Addr} {T : Int} (S : StA H d g c T) : d ≠ g := by
  obtain ⟨l, t, h, _⟩ := S.dk; obtain ⟨gs, h2, _⟩ := S.gr
  exact ne_of h h2 (by intro z; cases z)
theorem StA.dc {H : Hp} {d g c : Addr} {T : Int} (S : StA H d g c T) : d ≠ c := by
  obtain ⟨l, t, h, _⟩ := S.dk; obtain ⟨gs, h2, _⟩ := S.ce
  exact ne_of h h2 (by intro z; cases z)
theorem StA.mono {H : Hp} {d g c : Addr} {T T' : Int} (S : StA H d g c T) (h : T ≤ T') : StA H d g c T' := by
  obtain ⟨l, t, h1, h2, h3, h4⟩ := S.dk
  exact ⟨⟨l, t, h1, h2, h3, Int.le_trans h4 h⟩, S.gr, S.ce, S.gc⟩
theorem StA.same {H H' : Hp} {d g c : Addr} {T : Int} (S : StA H d g c T) (s : Same H H') : StA H' d g c T := by
  obtain ⟨l, t, h1, h2, h3, h4⟩ := S.dk
  obtain ⟨gs, h5, h6⟩ := S.gr
  obtain ⟨cs, h7, h8⟩ := S.ce
  exact ⟨⟨l, t, s _ _ h1, h2, h3, h4⟩, ⟨gs, s _ _ h5, h6⟩, ⟨cs, s _ _ h7, h8⟩, S.gc⟩
theorem StA.new {H : Hp} {d g c p : Addr} {T : Int} {o : HO} (S : StA H d g c T) (n : H p = none) : StA (upd H p o) d g c T :=
  S.same fun b u e => by rw [upd_ne (ne_of_none e n)]; exact e
/-- the bound of the turns: far beyond what a law draws -/
abbrev TB : Int := 1000000000000

def spBegun (K : PySem.W.Frag) : Sp := fun vs H Q _ => ∃ (a : Addr) (ns : List Int), vs = [.ref a] ∧ SqL K H a (ns.map V.int) ∧ ns.length ≤ 1000 ∧
  ∀ (d g c : Addr) (H' : Hp), Same H H' → H d = none → H g = none → H c = none → StA H' d g c 0 → Q (.ref d) H'
def spBlend : Sp := fun vs H Q _ => ∃ (d g c : Addr) (T : Int), vs = [.ref d] ∧ StA H d g c T ∧ T < TB ∧
  ∀ (f : Int) (H' : Hp), 0 ≤ f → Kp d g H H' → StA H' d g c (T + 1) → Q (.int f) H'
def spDraw : Sp := fun vs H Q _ => ∃ (d g c : Addr) (T n : Int), vs = [.ref d, .int n] ∧ StA H d g c T ∧ T < TB ∧ 0 < n ∧ n ≤ 1000000000000000000 ∧
  ∀ (r : Int) (H' : Hp), 0 ≤ r → r < n → Kp d g H H' → StA H' d g c (T + 1) → Q (.int r) H'
def spPick (K : PySem.W.Frag) : Sp := fun vs H Q _ => ∃ (d g c p : Addr) (T : Int) (xs : List V), vs = [.ref d, .ref p] ∧ StA H d g c T ∧ T < TB ∧ (SqL K H p xs ∨ SqT K H p xs) ∧ p ≠ d ∧ p ≠ g ∧ xs ≠ [] ∧ xs.length ≤ 100000 ∧
  ∀ (x : V) (H' : Hp), x ∈ xs → Kp d g H H' → StA H' d g c (T + 1) → Q x H'
end Pu

namespace Pu
open PySem L2
theorem getS {H : Hp} {d : Addr} {kvs : List (Key × V)} {k : Key} {v : V} (h : H d = some (.dK kvs)) (e : valV kvs k = some v) : DGet H d (kV k) (some v) := e ▸ DGet.k h
def primes : List Int := [2147483249, 2147483237, 2147483179]
theorem prime_at {i : Nat} {y : V} (h : (primes.map V.int)[i]? = some y) : ∃ z : Int, y = .int z ∧ 0 < z ∧ z < 2147483648 := by
  match i, h with
  | 0, h => exact ⟨_, (Option.some.inj h).symm, by decide, by decide⟩
  | 1, h => exact ⟨_, (Option.some.inj h).symm, by decide, by decide⟩
  | 2, h => exact ⟨_, (Option.some.inj h).symm, by decide, by decide⟩
  | n + 3, h => cases h
theorem int_at {ns : List Int} {i : Nat} {y : V} (h : (ns.map V.int)[i]? = some y) : ∃ z, ns[i]? = some z ∧ y = .int z := by
  rw [List.getElem?_map] at h
  cases e : ns[i]? with
  | none => rw [e] at h; cases h
  | some z => rw [e] at h; exact ⟨z, rfl, (Option.some.inj h).symm⟩
section
variable {P : Program} {w : World} {K : PySem.W.Frag} {mg : Str → Option Value} {base : Heap}
theorem scBl : FnScope ["state", "turn", "found", "prime", "blend", "cell"] ["state"] (defScope sBlend) := ⟨rfl, rfl, rfl, by decide +kernel, rfl, by decide +kernel, by decide +kernel⟩
theorem ok_blend {f : Addr} {fd : FuncData} (F : Fun K "_law_blended" "_law_blended" sBlend f fd) (mi : mg "int" = none) : FnOk P w K mg base CX0 1 f fd ["state"] spBlend := by
  refine F.ok scBl (fun vs H Q E h => ?_) (fun cdv A outer s H vs Q E hr h => ?_)
  · obtain ⟨d, g, c, T, rfl, _⟩ := h
    rfl
  · obtain ⟨d, g, c, T, rfl, S, hT, k⟩ := h
    have hu := hu_of hr
    have hT' : T < 1000000000000 := hT
    obtain ⟨⟨l, t, hd, l0, t0, tT⟩, ⟨gs, hg, g0⟩, ⟨cs, hc, c0⟩, gc⟩ := id S
    refine ⟨_, pss_cons (ps_par (i := 1) (j := 2) rfl scBl.nd rfl rfl (by decide) rfl rfl (pa_cons (pe_op op_add (pe_dget hu (pv 0) pe_str (fun _ _ => rfl)) pe_int) (pa_cons pe_int pa_nil)) (by rfl))
      (pss_cons (ps_dput hu (pv 0) pe_str (pv 1) rfl)
      (pss_cons (ps_for PassesOwn.never rfl (pi_list (pe_lst (pa_cons pe_int (pa_cons pe_int (pa_cons pe_int pa_nil))))) (pg_name (i := 3) scBl.nd rfl (Or.inl rfl))
        (pss_cons (ps_set (i := 4) scBl.nd rfl (Or.inl rfl) (pe_op op_add (pe_op op_mul pe_int (pv 1)) (pe_op op_fdiv (pv 3) pe_int)))
        (pss_cons (ps_for PassesOwn.never rfl (pi_list (pe_dget hu (pv 0) pe_str (fun _ _ => rfl))) (pg_name (i := 5) scBl.nd rfl (Or.inl rfl))
          (pss_one (ps_set (i := 4) scBl.nd rfl (Or.inl rfl) (pe_op op_mod (pe_callTy call_int1 (by rfl) mi (by decide +kernel) (pa_cons (pe_op op_add (pe_op op_add (pe_op op_mul (pv 4) pe_int) (pv 5)) (pv 1)) pa_nil)) (pv 3)))))
        (pss_one (ps_set (i := 2) scBl.nd rfl (Or.inl rfl) (pe_op op_add (pe_op op_mul (pv 2) pe_int) (pe_op op_mod (pe_callTy call_int1 (by rfl) mi (by decide +kernel) (pa_cons (pe_op op_pow (pv 4) pe_int) pa_nil)) (pv 3))))))))
      (pss_one (ps_ret (pv 2))))), ?_⟩
    refine ⟨_, rfl, d, .int t, rfl, getS hd (stk_turn g c l t), t, 1, rfl, rfl, .int (t + 1), .int 0, rfl, ?_⟩
    refine ⟨_, rfl, _, rfl, d, _, rfl, DPut.k (k := Sum.inr "turn") hd (by show 4 < sizeLine; decide), ?_⟩
    rw [stk_putT]
    have hdc := S.dc
    have hdg := S.dg
    refine ⟨(by show 3 ≤ sizeLine; decide), fun p hp => ?_⟩
    have np : H p = none := by
      by_cases e : p = d
      · rw [e, upd_same] at hp; cases hp
      · rw [upd_ne e] at hp; exact hp
    have pd : d ≠ p := ne_of_none hd np
    have pg : g ≠ p := ne_of_none hg np
    have pc : c ≠ p := ne_of_none hc np
    obtain ⟨H2, eH⟩ : ∃ H2, H2 = upd (upd H d (.dK (stk g c l (t + 1)))) p (.lst [V.int 2147483249, V.int 2147483237, V.int 2147483179]) := ⟨_, rfl⟩
    have hd2 : H2 d = some (.dK (stk g c l (t + 1))) := by rw [eH, upd_ne pd, upd_same]
    have hg2 : H2 g = some (.lst (gs.map V.int)) := by rw [eH, upd_ne pg, upd_ne hdg.symm]; exact hg
    have hc2 : H2 c = some (.lst (cs.map V.int)) := by rw [eH, upd_ne pc, upd_ne hdc.symm]; exact hc
    have kp : Kp d g H H2 := by rw [eH]; exact Kp.trans Kp.atD (Kp.new hp)
    have hp2 : H2 p = some (.lst (primes.map V.int)) := by rw [eH]; exact upd_same
    rw [← eH]
    clear eH
    refine ⟨p, rfl, ⟨_, SqL.of hp2⟩, for_list (K := K) (a := p) (xs := primes.map V.int)
      (fun i σ H' => H2 = H' ∧ ∃ (f : Int) (o3 o4 o5 : Option V), σ = [some (.ref d), some (.int (t + 1)), some (.int f), o3, o4, o5] ∧ 0 ≤ f)
      ⟨rfl, 0, none, none, none, rfl, Int.le_refl 0⟩ (fun i σ H' _ h => by obtain ⟨rfl, _⟩ := h; exact SqL.of hp2) ?_ ?_⟩
    · rintro i y σ H' hi ⟨rfl, f, o3, o4, o5, rfl, hf⟩
      obtain ⟨z, rfl, z0, z1⟩ := prime_at hi
      refine ⟨_, rfl, _, _, rfl, rfl, .inl ⟨by decide, by decide⟩, _, rfl, z, 73, rfl, rfl, ⟨by decide, by decide⟩, _, _, rfl, rfl, ?_⟩
      -- for cell in state['cells']
      have q0 : (0 : Int) ≤ z / 73 := Int.ediv_nonneg (by omega) (by decide)
      have q1 : z / 73 ≤ z := Int.ediv_le_self _ (by omega)
      refine ⟨_, rfl, d, _, rfl, getS hd2 (stk_cells g c l (t + 1)), c, rfl, ⟨_, SqL.of hc2⟩, for_list (K := K) (a := c) (xs := cs.map V.int)
        (fun j σ H' => H2 = H' ∧ ∃ (b : Int) (o5 : Option V), σ = [some (.ref d), some (.int (t + 1)), some (.int f), some (.int z), some (.int b), o5] ∧ 0 ≤ b ∧ b < 2 ^ 64)
        ⟨rfl, _, o5, rfl, by omega, by omega⟩ (fun i σ H' _ h => by obtain ⟨rfl, _⟩ := h; exact SqL.of hc2) ?_ ?_⟩
      · rintro j x σ H' hj ⟨rfl, b, o5, rfl, b0, b1⟩
        obtain ⟨e, _, rfl⟩ := int_at hj
        refine ⟨_, rfl, _, _, rfl, rfl, .inr ⟨by decide, by decide⟩, _, rfl, _, e, rfl, rfl, _, rfl, _, t + 1, rfl, rfl, .inl ⟨_, rfl, _, rfl, _, z, rfl, rfl, z0, ?_⟩⟩
        have m0 := Int.emod_nonneg (b * 69621 + e + (t + 1)) (show z ≠ 0 by omega)
        have m1 := Int.emod_lt_of_pos (b * 69621 + e + (t + 1)) z0
        exact ⟨rfl, _, _, rfl, m0, by omega⟩
      · rintro σ H' ⟨rfl, b, o5, rfl, b0, b1⟩
        refine ⟨_, rfl, _, _, rfl, rfl, .inr ⟨by decide, by decide⟩, _, rfl, b, 5, rfl, rfl, ⟨by decide, by decide, by omega⟩, .inl ⟨_, rfl, _, rfl, _, z, rfl, rfl, z0, _, _, rfl, rfl, ?_⟩⟩
        have m0 := Int.emod_nonneg (b ^ (5 : Int).toNat) (show z ≠ 0 by omega)
        exact ⟨rfl, _, _, _, _, rfl, by omega⟩
    · rintro σ H' ⟨rfl, f, o3, o4, o5, rfl, hf⟩
      refine ⟨_, rfl, ?_⟩
      exact k f _ hf kp ⟨⟨l, t + 1, hd2, l0, by omega, by omega⟩, ⟨gs, hg2, g0⟩, ⟨cs, hc2, c0⟩, gc⟩
end
end Pu

namespace Pu
open PySem L2
theorem dp_ints {K : PySem.W.Frag} {H : Hp} : ∀ gs : List Int, DpAll K H (gs.map V.int) (gs.map PyData.int)
  | [] => .nil
  | i :: r => .cons (.int i) (dp_ints r)
theorem lay_ints : ∀ gs : List Int, PyData.canLayAll0 (gs.map PyData.int) = true
  | [] => rfl
  | i :: r => by
    show (PyData.canLay0 (.int i) && PyData.canLayAll0 (r.map PyData.int)) = true
    rw [lay_ints r]; rfl
theorem dep_ints : ∀ gs : List Int, PyData.depthAll (gs.map PyData.int) = 0
  | [] => rfl
  | i :: r => by
    show max (PyData.depth (.int i)) (PyData.depthAll (r.map PyData.int)) = 0
    rw [dep_ints r]; rfl
theorem shaped_ints (gs : List Int) : SeqAt.shaped (.list (gs.map PyData.int)) = true := by
  show (PyData.canLayAll0 (gs.map PyData.int) && decide (PyData.depthAll (gs.map PyData.int) + 1 ≤ 64)) = true
  rw [lay_ints, dep_ints]; rfl
theorem eqv_nil (gs : List Int) : PyData.eqv (.list (gs.map PyData.int)) (.list []) = gs.isEmpty := by
  cases gs <;> rfl
section
variable {P : Program} {w : World} {K : PySem.W.Frag} {mg : Str → Option Value} {base : Heap}
theorem scDr : FnScope ["state", "size_here", "found"] ["state", "size_here"] (defScope sDraw) := ⟨rfl, rfl, rfl, by decide +kernel, rfl, by decide +kernel, by decide +kernel⟩
/-- behind a bound on the state: what the draw does with what is left -/
theorem ok_draw {f fB : Addr} {fd fdB : FuncData} (F : Fun K "_law_draw" "_law_draw" sDraw f fd) (mi : mg "int" = none)
    (GB : FnOk P w K mg base CX0 1 fB fdB ["state"] spBlend) (bB : Binds K fdB ["state"] []) (kB : PySem.W.keepIn K (.ref fB) = true) (mB : mg "_law_blended" = some (.ref fB)) :
    FnOk P w K mg base CX0 2 f fd ["state", "size_here"] spDraw := by
  refine F.ok scDr (fun vs H Q E h => ?_) (fun cdv A outer s H vs Q E hr h => ?_)
  · obtain ⟨d, g, c, T, n, rfl, _⟩ := h
    rfl
  · obtain ⟨d, g, c, T, n, rfl, S, hT, n0, n1, k⟩ := h
    have hu := hu_of hr
    obtain ⟨⟨l, t, hd, l0, t0, tT⟩, ⟨gs, hg, g0⟩, ⟨cs, hc, c0⟩, gc⟩ := id S
    have hdg := S.dg
    refine ⟨_, C8.pss_cut (ps_if (pt_cmpR op_eq (pe_dget hu (pv 0) pe_str (fun _ _ => rfl)) pe_int (nomark _))
        (pss_one (ps_dput hu (pv 0) pe_str (pe_ifExp (pt_cmpR (op_neD hr.units) (pe_dget hu (pv 0) pe_str (fun _ _ => rfl)) (pe_lst pa_nil) (nomark _))
          (pe_bm PySem.F.plainAttrs_list PySem.F.slot_list_pop PySem.F.type_list_pop mt_popAt (pe_dget hu (pv 0) pe_str (fun _ _ => rfl)) (pa_cons pe_int pa_nil))
          (pe_call GB hr rfl mB kB bB .nil pass0 (pa_cons (pv 0) pa_nil))) rfl)) pss_nil)
      (pss_cons (ps_set (i := 2) scDr.nd rfl (Or.inl rfl) (pe_op op_mod (pe_callTy call_int1 (by rfl) mi (by decide +kernel) (pa_cons (pe_dget hu (pv 0) pe_str (fun _ _ => rfl)) pa_nil)) (pv 1)))
      (pss_cons (ps_dput hu (pv 0) pe_str (pe_op op_fdivW (pe_dget hu (pv 0) pe_str (fun _ _ => rfl)) (pv 1)) rfl)
      (pss_one (ps_ret (pv 2))))), ?_⟩
    -- between: z is left
    refine ⟨fun σ' H' => σ' = [some (.ref d), some (.int n), none] ∧ Kp d g H H' ∧ StA H' d g c (T + 1), ?_, ?_⟩
    · refine ⟨_, rfl, d, _, rfl, getS hd (stk_left g c l t), rfl, _, rfl, ?_⟩
      refine ite2 (fun _ => ?_) (fun _ => ?_)
      · refine ⟨_, rfl, d, _, rfl, getS hd (stk_great g c l t), (by show 0 ≤ sizeLine; exact Nat.zero_le _), fun p hp => ?_⟩
        have pg : g ≠ p := ne_of_none hg hp
        have pd : d ≠ p := ne_of_none hd hp
        have pc : c ≠ p := ne_of_none hc hp
        have kp : Kp d g H (upd H p (.lst [])) := Kp.new hp
        have hg1 : (upd H p (.lst [])) g = some (.lst (gs.map V.int)) := by rw [upd_ne pg]; exact hg
        have hd1 : (upd H p (.lst [])) d = some (.dK (stk g c l t)) := by rw [upd_ne pd]; exact hd
        have hc1 : (upd H p (.lst [])) c = some (.lst (cs.map V.int)) := by rw [upd_ne pc]; exact hc
        have S1 : StA (upd H p (.lst [])) d g c T := S.new hp
        refine ⟨.list (gs.map PyData.int), .list [], .lst (SqL.of hg1) (dp_ints gs), .lst (SqL.of upd_same) .nil, shaped_ints gs, shaped_ints [], _, rfl, ?_⟩
        rw [eqv_nil]
        generalize upd H p (.lst []) = H1 at kp hg1 hd1 hc1 S1
        cases gs with
        | nil =>
          refine iteF ?_
          refine ⟨_, rfl, d, g, c, T, rfl, S1, hT, fun f H2 f0 kp2 S2 => ?_⟩
          obtain ⟨l2, t2, hd2, _, t20, tT2⟩ := S2.dk
          refine ⟨_, rfl, d, _, rfl, DPut.k (k := Sum.inr "left") hd2 (by show 4 < sizeLine; decide), ?_⟩
          rw [stk_putL]
          refine ⟨rfl, (kp.trans kp2).trans Kp.atD, ⟨f, t2, upd_same, f0, t20, tT2⟩, ?_, ?_, gc⟩
          · obtain ⟨gs', h1, h2⟩ := S2.gr
            exact ⟨gs', by rw [upd_ne hdg.symm]; exact h1, h2⟩
          · obtain ⟨cs', h1, h2⟩ := S2.ce
            exact ⟨cs', by rw [upd_ne S.dc.symm]; exact h1, h2⟩
        | cons z r =>
          refine iteT ?_
          refine ⟨_, rfl, d, _, rfl, getS hd1 (stk_great g c l t), .inl ⟨rfl, _, SqL.of hg1⟩, g, _, 0, 0, .int z, rfl, rfl, hg1, by decide, by decide, (ixN_seq (by unfold ixN; simp)).1, rfl, ?_⟩
          have hd2 : (upd H1 g (.lst (((z :: r).map V.int).eraseIdx 0))) d = some (.dK (stk g c l t)) := by rw [upd_ne hdg]; exact hd1
          refine ⟨_, rfl, d, _, rfl, DPut.k (k := Sum.inr "left") hd2 (by show 4 < sizeLine; decide), ?_⟩
          rw [stk_putL]
          refine ⟨rfl, (kp.trans Kp.atG).trans Kp.atD, ⟨z, t, upd_same, g0 z List.mem_cons_self, t0, by omega⟩, ⟨r, ?_, fun y hy => g0 y (List.mem_cons_of_mem _ hy)⟩, ⟨cs, ?_, c0⟩, gc⟩
          · rw [upd_ne hdg.symm]; exact upd_same
          · rw [upd_ne S.dc.symm, upd_ne gc.symm]; exact hc1
      · exact ⟨rfl, Kp.refl d g H, S.mono (by omega)⟩
    · rintro σ' H' ⟨rfl, kp, S'⟩
      obtain ⟨z, t', hd1, z0, t0', tT'⟩ := S'.dk
      have m0 := Int.emod_nonneg z (show n ≠ 0 by omega)
      have m1 := Int.emod_lt_of_pos z n0
      refine ⟨_, rfl, d, _, rfl, getS hd1 (stk_left g c z t'), .inl ⟨z, rfl, _, rfl, z, n, rfl, rfl, n0, ?_⟩⟩
      refine ⟨_, rfl, d, _, rfl, getS hd1 (stk_left g c z t'), _, rfl, z, n, rfl, rfl, wide_div (b := 60) n0 (by omega) (by decide) (by decide), ?_⟩
      refine ⟨_, rfl, d, _, rfl, DPut.k (k := Sum.inr "left") hd1 (by show 4 < sizeLine; decide), ?_⟩
      rw [stk_putL]
      refine ⟨_, rfl, ?_⟩
      refine k _ _ m0 m1 (kp.trans Kp.atD) ⟨⟨z / n, t', upd_same, Int.ediv_nonneg z0 (by omega), t0', tT'⟩, ?_, ?_, gc⟩
      · obtain ⟨gs', h1, h2⟩ := S'.gr
        exact ⟨gs', by rw [upd_ne hdg.symm]; exact h1, h2⟩
      · obtain ⟨cs', h1, h2⟩ := S'.ce
        exact ⟨cs', by rw [upd_ne S.dc.symm]; exact h1, h2⟩
end
end Pu

namespace Pu
open PySem L2
section
variable {P : Program} {w : World} {K : PySem.W.Frag} {mg : Str → Option Value} {base : Heap}
theorem scPi : FnScope ["state", "several"] ["state", "several"] (defScope sPick) := ⟨rfl, rfl, rfl, by decide +kernel, rfl, by decide +kernel, by decide +kernel⟩
theorem ok_pick {f fD : Addr} {fd fdD : FuncData} (F : Fun K "_law_pick" "_law_pick" sPick f fd) (ml : mg "len" = none)
    (GD : FnOk P w K mg base CX0 2 fD fdD ["state", "size_here"] spDraw) (bD : Binds K fdD ["state", "size_here"] []) (kD : PySem.W.keepIn K (.ref fD) = true) (mD : mg "_law_draw" = some (.ref fD)) :
    FnOk P w K mg base CX0 3 f fd ["state", "several"] (spPick K) := by
  refine F.ok scPi (fun vs H Q E h => ?_) (fun cdv A outer s H vs Q E hr h => ?_)
  · obtain ⟨d, g, c, p, T, xs, rfl, _⟩ := h
    rfl
  · obtain ⟨d, g, c, p, T, xs, rfl, S, hT, hx, pd, pg, x0, x1, k⟩ := h
    refine ⟨_, pss_one (ps_ret (pe_ix ix_seq (pv 1) (pe_call GD hr rfl mD kD bD .nil pass0 (pa_cons (pv 0) (pa_cons (pe_callB call_len_seq (by rfl) ml boot_len (pa_cons (pv 1) pa_nil)) pa_nil))) (fun _ _ => rfl))), ?_⟩
    have l0 : 0 < xs.length := List.length_pos_iff.mpr x0
    refine ⟨_, rfl, _, rfl, _, rfl, p, xs, rfl, hx, d, g, c, T, _, rfl, S, hT, by omega, by omega, fun r H' r0 r1 kp S' => ?_⟩
    have hk : r.toNat < xs.length := by omega
    have e : atI xs r = some xs[r.toNat] := by
      have q := atI_nat (xs := xs) (j := r.toNat) (v := xs[r.toNat]) (List.getElem?_eq_getElem hk)
      rw [show ((r.toNat : Nat) : Int) = r by omega] at q
      exact q
    rcases hx with hx | hx
    · exact .inl ⟨p, xs, r, _, rfl, rfl, kp.seqL hx pd pg, e, k _ _ (List.getElem_mem hk) kp S'⟩
    · exact .inr (.inl ⟨p, xs, r, _, rfl, rfl, kp.seqT hx pd pg, e, k _ _ (List.getElem_mem hk) kp S'⟩)

theorem scBe : FnScope ["script", "great", "cell"] ["script"] (defScope sBegun) := ⟨rfl, rfl, rfl, by decide +kernel, rfl, by decide +kernel, by decide +kernel⟩
theorem abs_nn (z : Int) : 0 ≤ (if z < 0 then -z else z) := by split <;> omega
theorem ok_begun {f : Addr} {fd : FuncData} (F : Fun K "_law_begun" "_law_begun" sBegun f fd) (ma : mg "abs" = none) : FnOk P w K mg base CX0 1 f fd ["script"] (spBegun K) := by
  refine F.ok scBe (fun vs H Q E h => ?_) (fun cdv A outer s H vs Q E hr h => ?_)
  · obtain ⟨a, ns, rfl, _⟩ := h
    rfl
  · obtain ⟨a, ns, rfl, hS, hl, k⟩ := h
    refine ⟨_, pss_cons (ps_setLc (i := 1) (own := [("cell", 2)]) (g := gName 2) rfl scBe.nd rfl rfl (sw_true rfl rfl rfl (by decide +kernel)) (pi_list (pv 0)) (blkOk_by (own := [("cell", 2)]) (N := ["script", "great", "cell"]) (sc := defScope sBegun) (by decide +kernel)) (fun _ _ _ _ _ => pg_name (i := 2) scBe.nd rfl (Or.inl rfl))
          (fun _ _ _ _ _ => pts_one (pt_cmpR op_ge (pe_callB call_abs (by rfl) ma (by decide +kernel) (pa_cons (pv 2) pa_nil)) (pe_op op_pow pe_int pe_int) (nomark _)))
          (fun _ _ _ _ _ => pe_op op_sub (pe_callB call_abs (by rfl) ma (by decide +kernel) (pa_cons (pv 2) pa_nil)) (pe_op op_pow pe_int pe_int)))
      (pss_one (ps_ret (pe_disp (pps_cons pe_str (pv 1) (pps_cons pe_str (pe_lc (own := [("cell", 2)]) (g := gName 2) rfl scBe.nd (pi_list (pv 0)) (blkOk_by (own := [("cell", 2)]) (N := ["script", "great", "cell"]) (sc := defScope sBegun) (by decide +kernel)) (fun _ _ _ _ _ => pg_name (i := 2) scBe.nd rfl (Or.inl rfl)) (fun _ _ _ _ _ => pts_nil)
          (fun _ _ _ _ _ => pe_callB call_abs (by rfl) ma (by decide +kernel) (pa_cons (pv 2) pa_nil))) (pps_cons pe_str pe_int (pps_cons pe_str pe_int pps_nil)))) (by rfl) (by rfl) (fun z => by cases z) (by decide)))), ?_⟩
    refine ⟨_, rfl, a, rfl, ⟨_, hS⟩, fun D hD => lc_list (K := K) (a := a) (xs := ns.map V.int) (fun i H' => ∃ gs : List Int, H' = upd H D (.lst (gs.map V.int)) ∧ (∀ z ∈ gs, 0 ≤ z) ∧ gs.length ≤ i)
      ⟨[], rfl, (fun z hz => nomatch hz), Nat.le_refl 0⟩ (fun i H' _ ⟨gs, e, _⟩ => by rw [e]; exact Same.seq (fun b o q => by rw [upd_ne (ne_of_none q hD)]; exact q) hS) ?_ ?_⟩
    · rintro i x H' hx ⟨gs, rfl, g0, gl⟩
      have hil : i < ns.length := by have := (List.getElem?_eq_some_iff.mp hx).1; rwa [List.length_map] at this
      obtain ⟨z, hz, rfl⟩ := int_at hx
      refine ⟨rfl, _, rfl, z, rfl, 10, 18, rfl, rfl, ⟨by decide, by decide, by decide⟩, _, _, rfl, rfl, _, rfl, ?_⟩
      refine ite2 (fun c => ?_) (fun _ => ?_)
      · have c' := of_decide_eq_true c
        refine ⟨_, rfl, z, rfl, 10, 18, rfl, rfl, ⟨by decide, by decide, by decide⟩, _, _, rfl, rfl, _, upd_same, ?_, gs ++ [(if z < 0 then -z else z) - 10 ^ (18 : Int).toNat], ?_, ?_, ?_⟩
        · exact small1000 (by rw [List.length_map]; omega)
        · rw [upd_upd, List.map_append]; rfl
        · intro y hy
          rcases List.mem_append.mp hy with hy | hy
          · exact g0 y hy
          · have e : y = _ := List.mem_singleton.mp hy
            rw [e]; omega
        · rw [List.length_append]; exact Nat.succ_le_succ gl
      · exact ⟨gs, rfl, g0, Nat.le_succ_of_le gl⟩
    · rintro H' ⟨gs, rfl, g0, gl⟩
      have nD : a ≠ D ∨ True := .inr trivial
      have s1 : Same H (upd H D (.lst (gs.map V.int))) := fun b o q => by rw [upd_ne (ne_of_none q hD)]; exact q
      refine fun p hp => ?_
      have np : H p = none := s1.free hp
      have pD : D ≠ p := fun e => by rw [← e, upd_same] at hp; cases hp
      have s2 : Same (upd H D (.lst (gs.map V.int))) (upd (upd H D (.lst (gs.map V.int))) p (.dK [])) := fun b o q => by rw [upd_ne (ne_of_none q hp)]; exact q
      refine ⟨_, rfl, _, rfl, a, rfl, ⟨_, (s1.trans s2).seq hS⟩, fun D2 hD2 => ?_⟩
      have nD2 : H D2 = none := (s1.trans s2).free hD2
      have D2D : D ≠ D2 := fun e => by rw [← e, upd_ne pD, upd_same] at hD2; cases hD2
      have D2p : p ≠ D2 := fun e => by rw [← e, upd_same] at hD2; cases hD2
      have s3 : ∀ o, Same (upd (upd H D (.lst (gs.map V.int))) p (.dK [])) (upd (upd (upd H D (.lst (gs.map V.int))) p (.dK [])) D2 o) := fun o' b o q => by rw [upd_ne (ne_of_none q hD2)]; exact q
      refine lc_list (K := K) (a := a) (xs := ns.map V.int) (fun i H' => ∃ cs : List Int, H' = upd (upd (upd H D (.lst (gs.map V.int))) p (.dK [])) D2 (.lst (cs.map V.int)) ∧ (∀ z ∈ cs, 0 ≤ z) ∧ cs.length ≤ i)
        ⟨[], rfl, (fun z hz => nomatch hz), Nat.le_refl 0⟩ (fun i H' _ ⟨cs, e, _⟩ => by rw [e]; exact ((s1.trans s2).trans (s3 _)).seq hS) ?_ ?_
      · rintro i x H' hx ⟨cs, rfl, c0, cl⟩
        have hil : i < ns.length := by have := (List.getElem?_eq_some_iff.mp hx).1; rwa [List.length_map] at this
        obtain ⟨z, hz, rfl⟩ := int_at hx
        refine ⟨rfl, ?_⟩
        dsimp only [tYes]
        refine iteT ?_
        refine ⟨_, rfl, z, rfl, _, upd_same, ?_, cs ++ [if z < 0 then -z else z], ?_, ?_, ?_⟩
        · exact small1000 (by rw [List.length_map]; omega)
        · rw [upd_upd, List.map_append]; rfl
        · intro y hy
          rcases List.mem_append.mp hy with hy | hy
          · exact c0 y hy
          · have e : y = _ := List.mem_singleton.mp hy
            rw [e]; exact abs_nn z
        · rw [List.length_append]; exact Nat.succ_le_succ cl
      · rintro H' ⟨cs, rfl, c0, cl⟩
        refine ⟨by rw [upd_ne D2p, upd_same], stk D D2 0 0, rfl, (by show 4 ≤ 15; decide), ?_⟩
        rw [stk_merge]
        refine k p D D2 _ ?_ np hD nD2 ⟨⟨0, 0, upd_same, Int.le_refl 0, Int.le_refl 0, Int.le_refl 0⟩, ⟨gs, ?_, g0⟩, ⟨cs, ?_, c0⟩, D2D⟩
        · intro b o q
          rw [upd_ne (ne_of_none q np)]
          exact ((s1.trans s2).trans (s3 _)) b o q
        · rw [upd_ne pD, upd_ne D2D, upd_ne pD, upd_same]
        · rw [upd_ne D2p.symm, upd_same]
end
end Pu

namespace Pu
open PySem PySem.Spec PyProof.Rows L2
/-! ### values without objects of one's own: N tells at which addresses their parts may stand -/
inductive Pv (N : Addr → Prop) (H : Hp) (m : Nat) (P : V → Prop) : V → Prop where
  | non : Pv N H m P .non
  | bl (b : Bool) : Pv N H m P (.bl b)
  | int (i : Int) : Pv N H m P (.int i)
  | str (z : Str) : Pv N H m P (.str z)
  | tup (a : Addr) (xs : List V) : H a = some (.tup xs) → N a → xs.length ≤ m → (∀ x ∈ xs, P x) → Pv N H m P (.ref a)
  | lst (a : Addr) (xs : List V) : H a = some (.lst xs) → N a → xs.length ≤ m → (∀ x ∈ xs, P x) → Pv N H m P (.ref a)
  | dct (a : Addr) : H a = some (.dK []) → N a → Pv N H m P (.ref a)
/-- nested below n, no more than m items each -/
def PV (m : Nat) : Nat → (Addr → Prop) → Hp → V → Prop
  | 0 => fun _ _ _ => False
  | n + 1 => fun N H => Pv N H m (PV m n N H)
/-- what is told of a value stays as long as its parts stand -/
def Mon (R : (Addr → Prop) → Hp → V → Prop) : Prop := ∀ (N N' : Addr → Prop) (H H' : Hp) (v : V), (∀ a o, N a → H a = some o → N' a ∧ H' a = some o) → R N H v → R N' H' v
theorem Pv.imp {N N' : Addr → Prop} {H H' : Hp} {m m' : Nat} {P P' : V → Prop} (k : ∀ a o, N a → H a = some o → N' a ∧ H' a = some o) (hm : m ≤ m') (hp : ∀ x, P x → P' x) {v : V} (h : Pv N H m P v) : Pv N' H' m' P' v := by
  cases h with
  | non => exact .non
  | bl b => exact .bl b
  | int i => exact .int i
  | str z => exact .str z
  | tup a xs e x l q => exact .tup a xs (k _ _ x e).2 (k _ _ x e).1 (Nat.le_trans l hm) fun x hx => hp x (q x hx)
  | lst a xs e x l q => exact .lst a xs (k _ _ x e).2 (k _ _ x e).1 (Nat.le_trans l hm) fun x hx => hp x (q x hx)
  | dct a e x => exact .dct a (k _ _ x e).2 (k _ _ x e).1
theorem PV.imp {N N' : Addr → Prop} {H H' : Hp} {m m' : Nat} (k : ∀ a o, N a → H a = some o → N' a ∧ H' a = some o) (hm : m ≤ m') : ∀ (n : Nat) {v : V}, PV m n N H v → PV m' n N' H' v
  | 0, _, h => h
  | n + 1, _, h => Pv.imp k hm (fun _ q => PV.imp k hm n q) h
theorem PV.mon (m n : Nat) : Mon (PV m n) := fun _ _ _ _ _ k h => PV.imp k (Nat.le_refl m) n h
theorem PV.up {N : Addr → Prop} {H : Hp} {m : Nat} : ∀ {n : Nat} {v : V}, PV m n N H v → PV m (n + 1) N H v
  | 0, _, h => h.elim
  | _ + 1, _, h => Pv.imp (fun _ _ x e => ⟨x, e⟩) (Nat.le_refl m) (fun _ q => PV.up q) h
theorem PV.ups {N : Addr → Prop} {H : Hp} {m : Nat} {v : V} {n k : Nat} (h : PV m n N H v) (hk : n ≤ k) : PV m k N H v := by
  induction hk with
  | refl => exact h
  | step _ ih => exact ih.up
theorem PV.wide {N : Addr → Prop} {H : Hp} {m m' : Nat} {v : V} {n : Nat} (h : PV m n N H v) (hm : m ≤ m') : PV m' n N H v := PV.imp (fun _ _ x e => ⟨x, e⟩) hm n h
/-- away from the state's dict and the list of great numbers -/
abbrev Nd (d g : Addr) : Addr → Prop := fun a => a ≠ d ∧ a ≠ g
theorem Kp.nd {d g : Addr} {H H' : Hp} (k : Kp d g H H') : ∀ a o, Nd d g a → H a = some o → Nd d g a ∧ H' a = some o := fun a o n e => ⟨n, k a o e n.1 n.2⟩
theorem Mon.kp {R : (Addr → Prop) → Hp → V → Prop} (mo : Mon R) {d g : Addr} {H H' : Hp} {v : V} (k : Kp d g H H') (h : R (Nd d g) H v) : R (Nd d g) H' v := mo _ _ _ _ _ k.nd h
theorem StA.nd {H : Hp} {d g c : Addr} {T : Int} (S : StA H d g c T) : ∀ a, H a = none → Nd d g a := fun a n => by
  obtain ⟨l, t, h, _⟩ := S.dk
  obtain ⟨gs, h2, _⟩ := S.gr
  exact ⟨(ne_of_none h n).symm, (ne_of_none h2 n).symm⟩
theorem Mon.new {R : (Addr → Prop) → Hp → V → Prop} (mo : Mon R) {H H' : Hp} {N : Addr → Prop} {v : V} (k : ∀ a, H a = none → N a) (h : R (fun a => H a = none) H' v) : R N H' v := mo _ _ _ _ _ (fun a _ n e => ⟨k a n, e⟩) h

/-! ### t == () -/
section
variable {X : Cx}
def rEqT0 (K : PySem.W.Frag) : R2 := fun x y H Q => ∃ a b xs, x = .ref a ∧ y = .ref b ∧ SqT K H a xs ∧ SqT K H b [] ∧ Q (.bl xs.isEmpty) H
theorem op_eqT0 (hu : X.A.units + 1 < cLine) : OpR X (compareOp .Eq) (rEqT0 X.K) := by
  intro pins s σ H x y v u Q I rx ry h
  obtain ⟨a, b, xs, rfl, rfl, ha, hb, q⟩ := h
  cases (show v = Value.ref a from rx)
  cases (show u = Value.ref b from ry)
  obtain ⟨us, r1, ⟨o1, e1, c1, n1, d1⟩, _⟩ := I.tuple ha
  obtain ⟨ws, r2, ⟨o2, e2, c2, n2, d2⟩, _⟩ := I.tuple hb
  cases r2
  refine SeqAt.eq_tupleAt (e := fun _ => true) ⟨o1, e1, c1, n1, d1⟩ ⟨o2, e2, c2, n2, d2⟩ (by omega) (fun j h1 h2 => absurd h2 (by simp)) ?_
  refine ⟨.bl xs.isEmpty, H, I, ?_, q⟩
  cases r1 with
  | nil => rfl
  | cons r t => rfl
end

/-! ### t[::-1] -/
theorem fm_congr {α β : Type} {f f' : α → Option β} : ∀ {l : List α}, (∀ x ∈ l, f x = f' x) → l.filterMap f = l.filterMap f'
  | [], _ => rfl
  | x :: r, h => by
    rw [List.filterMap_cons, List.filterMap_cons, h x List.mem_cons_self, fm_congr (l := r) fun y hy => h y (List.mem_cons_of_mem _ hy)]
theorem rev_pick (xs : List Value) : ((List.range xs.length).filterMap fun (k : Nat) => xs.toArray[(((xs.length : Int) - 1) + (k : Int) * (-1)).toNat]?).toArray = xs.reverse.toArray := by
  have q := HT.pick_gen xs.reverse.toArray 0 xs.length
  have e : (List.range xs.length).filterMap (fun (k : Nat) => xs.toArray[(((xs.length : Int) - 1) + (k : Int) * (-1)).toNat]?) = (List.range xs.length).filterMap (fun (k : Nat) => xs.reverse.toArray[(((0 : Nat) : Int) + (k : Int) * 1).toNat]?) := by
    refine fm_congr fun k hk => ?_
    have hk' : k < xs.length := List.mem_range.mp hk
    rw [List.getElem?_toArray, List.getElem?_toArray, show (((0 : Nat) : Int) + (k : Int) * 1).toNat = k by omega, List.getElem?_reverse (by omega)]
    congr 1
    omega
  rw [e, q]
  rw [show xs.reverse.toArray.toList = xs.reverse from rfl, List.drop_zero, List.take_of_length_le (by simp)]
section
variable {prog : Program} {w : World} {A : Around} {E : Value → Shared → Prop} {s : Shared}
theorem part_of {v : Value} {o : Option Int} {Q : Option Int → Shared → Prop} (p : IsPart v o) (h : Q o s) : wpAny (model prog w) A (Builtin.Slice.slicePartIndex v) Q E s := HT.slicePart_ p h
theorem applied_rev {sl : Addr} {va vb vc : Value} {n : Nat} {Q : Int × Int × Nat → Shared → Prop} (hS : s.heap.IsSliceOf sl va vb vc) (pa : IsPart va none) (pb : IsPart vb none) (pc : IsPart vc (some (-1)))
    (h : Q ((n : Int) - 1, -1, n) s) : wpAny (model prog w) A (Builtin.Slice.sliceApplied (.ref sl) (pure (n : Int))) Q E s := by
  obtain ⟨ob, hob, _, hda⟩ := id hS
  unfold Builtin.Slice.sliceApplied
  unfold Builtin.Slice.sliceFields
  refine wpAny_bind (wpAny_bind (wpAny_field hob hda (x := va) rfl (wpAny_bind (wpAny_field hob hda (x := vb) rfl (wpAny_bind (wpAny_field hob hda (x := vc) rfl (wpAny_pure ?_)))))))
  refine wpAny_bind (part_of pc ?_)
  show wpAny _ _ (if ((-1 : Int) == 0) = true then _ else _) _ _ s
  rw [if_neg (show ¬ (((-1 : Int) == 0) = true) by decide)]
  refine wpAny_bind (part_of pa (wpAny_bind (part_of pb (wpAny_bind (wpAny_pure ?_)))))
  have e : Builtin.Slice.slicePlaces ((n : Int) - 1) (-1) (-1) = n := by
    unfold Builtin.Slice.slicePlaces
    by_cases h0 : n = 0
    · subst h0; rfl
    · rw [if_neg (by decide), if_pos (by omega), show (- -1 : Int) = 1 from rfl, Int.ediv_one]
      omega
  show wpAny _ _ (pure (((n : Int) - 1), (-1 : Int), Builtin.Slice.slicePlaces ((n : Int) - 1) (-1) (-1))) _ _ s
  rw [e]
  exact wpAny_pure h
theorem tuple_rev {t sl : Addr} {us : List Value} {va vb vc : Value} {Q : Value → Shared → Prop} (hT : IsTup s.heap t us.toArray) (hS : s.heap.IsSliceOf sl va vb vc) (pa : IsPart va none) (pb : IsPart vb none) (pc : IsPart vc (some (-1)))
    (h : Q (.ref s.heap.objs.size) { s with heap := s.heap.push { cls := .type "tuple", data := .seq us.reverse.toArray } }) (hz : us.length ≤ sizeLine) : wpAny (model prog w) A (getItem (.ref t) (.ref sl)) Q E s := by
  have hk : sizeOk (.seq us.reverse.toArray) := by
    show us.reverse.toArray.size ≤ sizeLine
    rw [List.size_toArray, List.length_reverse]; exact hz
  obtain ⟨ob, hob, hcl, hda⟩ := id hS
  have ts : s.TypeIs (.ref sl) "slice" := ⟨ob, hob, hcl⟩
  unfold getItem
  try with_reducible refine wpAny_holding ?_
  first | refine wpAny_bind (wpAny_pure ?_) | skip
  refine wpAny_bind (wpAny_sequenceKey hT.typeIs (by decide) ?_)
  refine wpAny_bind (wpAny_callSpecial?_slot (name := Str.ofString "__getitem__") hT.typeIs slot_tuple_getitem
    (wpAny_call_entry slot_tuple_getitem hT.typeIs entry_tuple_getitem ?_ (args_tuple_getitem _ _)))
  show wpAny _ _ (Builtin.Tuple.tupleItemsOf (.ref t) >>= _) _ _ s
  refine wpAny_bind (tupleItemsOf_ hT ?_)
  refine wpAny_bind (wpAny_typeOf ts ?_)
  rw [if_pos (by decide)]
  have hn : (us.toArray.size : Int) = (us.length : Int) := by rw [List.size_toArray]
  rw [hn]
  refine wpAny_bind (applied_rev hS pa pb pc ?_)
  have no : ¬ ((((us.length : Int) - 1 == 0) && ((-1 : Int) == 1) && (us.length == us.toArray.size)) = true) := by
    intro q
    rw [Bool.and_eq_true, Bool.and_eq_true] at q
    exact absurd q.1.2 (by decide)
  show wpAny _ _ (if (((us.length : Int) - 1 == 0) && ((-1 : Int) == 1) && (us.length == us.toArray.size)) = true then _ else _) _ _ s
  rw [if_neg no, rev_pick]
  first
    | exact wpAny_bind (m := Builtin.Tuple.tupleExact _) (wpAny_newObj_type (wpAny_pure ⟨_, rfl, wpAny_pure h⟩) hk)
    | exact wpAny_bind (m := Builtin.Tuple.tupleExact _) (wpAny_newObj_type (wpAny_bind (wpAny_pure (wpAny_pure ⟨_, rfl, wpAny_pure h⟩))) hk)
    | exact wpAny_bind (wpAny_bind (m := Builtin.Tuple.tupleExact _) (wpAny_newObj_type (wpAny_pure (wpAny_pure ⟨_, rfl, wpAny_pure h⟩)) hk))
    | exact wpAny_bind (wpAny_bind (m := Builtin.Tuple.tupleExact _) (wpAny_newObj_type (wpAny_pure ⟨_, rfl, wpAny_pure h⟩) hk))
end
section
variable {X : Cx}
def tRevT (K : PySem.W.Frag) (te : TE) : TE := fun σ H Q => te σ H fun x H1 => ∃ a xs, x = .ref a ∧ SqT K H1 a xs ∧ ∀ p, H1 p = none → Q (.ref p) (upd H1 p (.tup xs.reverse))
theorem pe_revT {e : Expr} {te : TE} {k : Nat} {p1 p2 p3 pos : Pos} (he : PE X e te) : PE X (.Subscript e (.Slice none none (some (.UnaryOp .USub (.Constant (.int 1) k p1) p2)) p3) pos) (tRevT X.K te) := by
  refine ⟨fun pn s σ H Q I h => ?_⟩
  refine Subscript_ (thn (he.run pn s σ H _ I h) fun v s1 ⟨x, H1, J1, r1, q1⟩ => ?_)
  obtain ⟨a, xs, rfl, hx, q⟩ := q1
  cases r1
  have ho : PO X (some (.UnaryOp .USub (.Constant (.int 1) k p1) p2)) (tPart (tUn (rU fun i => .int (-i)) (tC (.int 1)))) := po_some (pe_un un_neg pe_int)
  refine wpAny_Slice (thn (po_none.run pn s1 σ H1 (fun o G => o = none ∧ G = H1) J1 ⟨rfl, rfl⟩) fun va s2 ⟨o2, H2, J2, pa, eo, eh⟩ => ?_)
  subst eo eh
  refine thn (po_none.run pn s2 σ H2 (fun o G => o = none ∧ G = H2) J2 ⟨rfl, rfl⟩) fun vb s3 ⟨o3, H3, J3, pb, eo, eh⟩ => ?_
  subst eo eh
  refine thn (ho.run pn s3 σ H3 (fun o G => o = some (-1) ∧ G = H3) J3 ⟨1, rfl, -1, rfl, rfl, rfl⟩) fun vc s4 ⟨o4, H4, J4, pc, eo, eh⟩ => ?_
  subst eo eh
  have J5 : Inv X pn σ H4 { s4 with heap := s4.heap.push { cls := .type "slice", data := .fields #[va, vb, vc] } } := J4.kept (t' := s4.toks) fun b ob q => Heap.get?_push_of_some _ q
  obtain ⟨us, r, hT, hz⟩ := J5.tuple hx
  have hl := r.length
  show wpAny (model X.prog X.w) X.A (subscriptTail e (.Slice none none (some (.UnaryOp .USub (.Constant (.int 1) k p1) p2)) p3) (.ref a) (.ref s4.heap.objs.size)) (EP X pn σ Q) X.xe { s4 with heap := s4.heap.push { cls := .type "slice", data := .fields #[va, vb, vc] } }
  refine tail_any (ops := [.ref a, .ref s4.heap.objs.size]) hT.typeIs slot_tuple_getitem.lookup ?_ (by with_unfolding_all rfl)
  refine tuple_rev hT (Heap.IsSliceOf.new _ va vb vc) pa pb pc ?_ (by omega)
  refine ⟨.ref _, _, J5.laid (t' := s4.toks) (o := .tup xs.reverse) (fun b ob q => Heap.get?_push_of_some _ q) (Nat.le_refl _) ?_, rfl, q _ (J5.hok.fresh (Nat.le_refl _))⟩
  exact ⟨by rw [List.length_reverse]; exact hz, _, r.reverse, IsTup.new _ _⟩
end
end Pu

namespace Pu
open PySem L2
/-! ### readings made weaker -/
section
variable {X : Cx}
theorem pe_imp {e : Expr} {t t' : TE} (h : PE X e t) (k : ∀ σ H Q, t' σ H Q → t σ H Q) : PE X e t' := ⟨fun pn s σ H Q I q => h.run pn s σ H Q I (k σ H Q q)⟩
theorem pa_imp {es : List Expr} {t t' : TA} (h : PA X es t) (k : ∀ σ H Q, t' σ H Q → t σ H Q) : PA X es t' := ⟨fun ps pn s σ H Q I q => h.run ps pn s σ H Q I (k σ H Q q)⟩
theorem op_imp {f : Value → Value → Sem Value} {r r' : R2} (h : OpR X f r) (k : ∀ x y H Q, r' x y H Q → r x y H Q) : OpR X f r' := fun pn s σ H x y v u Q I rx ry q => h pn s σ H x y v u Q I rx ry (k x y H Q q)
theorem sl_imp {r r' : V → Option Int → Option Int → Hp → VK → Prop} (h : SlR X r) (k : ∀ x l u H Q, r' x l u H Q → r x l u H Q) : SlR X r' := fun pn s σ H x v vl vu lo hi sl Q I rx hs pl pu q => h pn s σ H x v vl vu lo hi sl Q I rx hs pl pu (k x lo hi H Q q)

/-! ### data that is written out: new objects, of which R holds -/
abbrev RV : Type := (Addr → Prop) → Hp → V → Prop
def TN (R : RV) : TE := fun _ H Q => ∀ v H', Same H H' → R (fun a => H a = none) H' v → Q v H'
def TNs (R : RV) (k : Nat) : TA := fun _ H Q => ∀ vs H', Same H H' → vs.length = k → (∀ v ∈ vs, R (fun a => H a = none) H' v) → Q vs H'
def tupR (R : RV) (k : Nat) : RV := fun N H v => ∃ a xs, v = .ref a ∧ N a ∧ H a = some (.tup xs) ∧ xs.length = k ∧ ∀ x ∈ xs, R N H x
def lstR (R : RV) (k : Nat) : RV := fun N H v => ∃ a xs, v = .ref a ∧ N a ∧ H a = some (.lst xs) ∧ xs.length = k ∧ ∀ x ∈ xs, R N H x
theorem tupR.mon {R : RV} {k : Nat} (mo : Mon R) : Mon (tupR R k) := fun N N' H H' v kk ⟨a, xs, e, n, h, l, q⟩ => ⟨a, xs, e, (kk a _ n h).1, (kk a _ n h).2, l, fun x hx => mo _ _ _ _ _ kk (q x hx)⟩
theorem lstR.mon {R : RV} {k : Nat} (mo : Mon R) : Mon (lstR R k) := fun N N' H H' v kk ⟨a, xs, e, n, h, l, q⟩ => ⟨a, xs, e, (kk a _ n h).1, (kk a _ n h).2, l, fun x hx => mo _ _ _ _ _ kk (q x hx)⟩
theorem same_upd {H : Hp} {p : Addr} {o : HO} (n : H p = none) : Same H (upd H p o) := fun b u e => by rw [upd_ne (ne_of_none e n)]; exact e
theorem n_w {e : Expr} {R R' : RV} (h : PE X e (TN R)) (k : ∀ N H v, R N H v → R' N H v) : PE X e (TN R') := pe_imp h fun _ _ _ q v H' s r => q v H' s (k _ _ _ r)
theorem n_int {i : Int} {j : Nat} {pos : Pos} {m n : Nat} : PE X (.Constant (.int i) j pos) (TN (PV m (n + 1))) := pe_imp pe_int fun _ H _ q => q _ H (Same.refl H) (.int i)
theorem n_neg {i : Int} {j : Nat} {p1 p2 : Pos} {m n : Nat} : PE X (.UnaryOp .USub (.Constant (.int i) j p1) p2) (TN (PV m (n + 1))) := pe_imp (pe_un un_neg pe_int) fun _ H _ q => ⟨i, rfl, q _ H (Same.refl H) (.int _)⟩
theorem n_bl {b : Bool} {j : Nat} {pos : Pos} {m n : Nat} : PE X (.Constant (.bool b) j pos) (TN (PV m (n + 1))) := pe_imp pe_bl fun _ H _ q => q _ H (Same.refl H) (.bl b)
theorem n_non {j : Nat} {pos : Pos} {m n : Nat} : PE X (.Constant .none j pos) (TN (PV m (n + 1))) := pe_imp pe_non fun _ H _ q => q _ H (Same.refl H) .non
theorem n_str {x : Str} {j : Nat} {pos : Pos} {m n : Nat} : PE X (.Constant (.str x) j pos) (TN (PV m (n + 1))) := pe_imp pe_str fun _ H _ q => q _ H (Same.refl H) (.str x)
theorem na_nil {R : RV} : PA X [] (TNs R 0) := pa_imp pa_nil fun _ H _ q => q [] H (Same.refl H) rfl fun _ h => nomatch h
theorem na_cons {e : Expr} {es : List Expr} {R : RV} {k : Nat} (mo : Mon R) (he : PE X e (TN R)) (hr : PA X es (TNs R k)) (hs : starEach (e :: es) X.env = (false, eval e X.env) :: starEach es X.env := by rfl) : PA X (e :: es) (TNs R (k + 1)) :=
  pa_imp (pa_cons he hr hs) fun _ H Q q v H1 s1 r1 vs H2 s2 l r2 => q (v :: vs) H2 (s1.trans s2) (by rw [List.length_cons, l]) fun x hx => by
    rcases List.mem_cons.mp hx with rfl | hx
    · exact mo _ _ _ _ _ (fun a o n e => ⟨n, s2 a o e⟩) r1
    · exact mo _ _ _ _ _ (fun a o n e => ⟨s1.free n, e⟩) (r2 x hx)
theorem n_tupR {es : List Expr} {R : RV} {k : Nat} {x1 : Nat} {pos : Pos} (mo : Mon R) (h : PA X es (TNs R k)) (hk : k ≤ 1000) : PE X (.Tuple es x1 pos) (TN (tupR R k)) :=
  pe_imp (pe_tup h) fun _ H Q q vs H1 s1 l r => ⟨by rw [l]; exact Nat.le_of_lt (small1000 hk), fun p hp => q _ _ (s1.trans (same_upd hp)) ⟨p, vs, rfl, s1.free hp, upd_same, l, fun x hx => mo _ _ _ _ _ (fun a o n e => ⟨n, same_upd hp a o e⟩) (r x hx)⟩⟩
theorem n_lstR {es : List Expr} {R : RV} {k : Nat} {pos : Pos} (mo : Mon R) (h : PA X es (TNs R k)) (hk : k ≤ 1000) : PE X (.List es pos) (TN (lstR R k)) :=
  pe_imp (pe_lst h) fun _ H Q q vs H1 s1 l r => ⟨by rw [l]; exact Nat.le_of_lt (small1000 hk), fun p hp => q _ _ (s1.trans (same_upd hp)) ⟨p, vs, rfl, s1.free hp, upd_same, l, fun x hx => mo _ _ _ _ _ (fun a o n e => ⟨n, same_upd hp a o e⟩) (r x hx)⟩⟩
theorem n_tup {es : List Expr} {m n k : Nat} {x1 : Nat} {pos : Pos} (h : PA X es (TNs (PV m n) k)) (hk : k ≤ 1000 := by decide) (hm : k ≤ m := by decide) : PE X (.Tuple es x1 pos) (TN (PV m (n + 1))) :=
  n_w (n_tupR (PV.mon m n) h hk) fun N H v ⟨a, xs, e, na, ha, l, r⟩ => by rw [e]; exact .tup a xs ha na (by omega) r
theorem n_lst {es : List Expr} {m n k : Nat} {pos : Pos} (h : PA X es (TNs (PV m n) k)) (hk : k ≤ 1000 := by decide) (hm : k ≤ m := by decide) : PE X (.List es pos) (TN (PV m (n + 1))) :=
  n_w (n_lstR (PV.mon m n) h hk) fun N H v ⟨a, xs, e, na, ha, l, r⟩ => by rw [e]; exact .lst a xs ha na (by omega) r
theorem n_dct {m n : Nat} {pos : Pos} : PE X (.Dict [] [] pos) (TN (PV m (n + 1))) := pe_imp pe_dnewK fun _ H Q q p hp => q _ _ (same_upd hp) (.dct p upd_same hp)

/-! ### tuples put together and cut -/
def TupV (N : Addr → Prop) (H : Hp) (v : V) (xs : List V) : Prop := ∃ a, v = .ref a ∧ N a ∧ H a = some (.tup xs)
theorem TupV.kp {d g : Addr} {H H' : Hp} {v : V} {xs : List V} (k : Kp d g H H') (h : TupV (Nd d g) H v xs) : TupV (Nd d g) H' v xs := by
  obtain ⟨a, e, n, q⟩ := h
  exact ⟨a, e, n, k a _ q n.1 n.2⟩
theorem TupV.same {N : Addr → Prop} {H H' : Hp} {v : V} {xs : List V} (k : Same H H') (h : TupV N H v xs) : TupV N H' v xs := by
  obtain ⟨a, e, n, q⟩ := h
  exact ⟨a, e, n, k a _ q⟩
theorem TupV.at {N : Addr → Prop} {H : Hp} {a : Addr} {xs : List V} (h : TupV N H (.ref a) xs) : H a = some (.tup xs) := by
  obtain ⟨b, e, _, q⟩ := h
  cases e
  exact q
theorem Mon.same {R : RV} (mo : Mon R) {N : Addr → Prop} {H H' : Hp} {v : V} (s : Same H H') (h : R N H v) : R N H' v := mo _ _ _ _ _ (fun a o n e => ⟨n, s a o e⟩) h
def rCat2 : R2 := fun x y H Q => ∃ N xs ys, (∀ q, H q = none → N q) ∧ TupV N H x xs ∧ TupV N H y ys ∧ xs.length + ys.length ≤ 100000 ∧ ∀ v H', Same H H' → TupV N H' v (xs ++ ys) → Q v H'
theorem op_cat2 : OpR X (binaryOp .Add) rCat2 := op_imp op_catA fun x y H Q ⟨N, xs, ys, nw, ⟨a, ea, na, ha⟩, ⟨b, eb, nb, hb⟩, l, q⟩ =>
  ⟨a, b, xs, ys, ea, eb, SqT.of ha, SqT.of hb, Nat.le_trans l (by decide), fun e => q _ H (Same.refl H) ⟨b, rfl, nb, by rw [e]; exact hb⟩, fun _ e => q _ H (Same.refl H) ⟨a, rfl, na, by rw [e, List.append_nil]; exact ha⟩,
    fun _ _ p hp => q _ _ (same_upd hp) ⟨p, rfl, nw p hp, upd_same⟩⟩
def rSl2 : V → Option Int → Option Int → Hp → VK → Prop := fun x lo hi H Q => ∃ N xs, (∀ q, H q = none → N q) ∧ TupV N H x xs ∧ ∀ v H', Same H H' → TupV N H' v (cutV xs lo hi) → Q v H'
theorem sl_tup2 : SlR X rSl2 := sl_imp sl_tupA fun x lo hi H Q ⟨N, xs, nw, ⟨a, ea, na, ha⟩, q⟩ =>
  ⟨a, xs, ea, SqT.of ha, fun ⟨h1, h2⟩ => q _ H (Same.refl H) ⟨a, rfl, na, by
      have e : cutV xs lo hi = xs := by
        unfold cutV
        rw [h1, h2, List.drop_zero, Nat.sub_zero, List.take_of_length_le (Nat.le_refl _)]
      rw [e]; exact ha⟩, fun _ p hp => q _ _ (same_upd hp) ⟨p, rfl, nw p hp, upd_same⟩⟩
theorem mem_cut {xs : List V} {lo hi : Option Int} {x : V} (h : x ∈ cutV xs lo hi) : x ∈ xs := List.mem_of_mem_drop (List.mem_of_mem_take h)
end
end Pu

namespace Pu
open PySem L2
abbrev sOdd : Stmt := top 34
abbrev sWhole : Stmt := top 32
abbrev sTruth : Stmt := top 31
abbrev sBank : Stmt := top 33
abbrev sBent : Stmt := top 35
/-! ### isinstance of such values -/
def tyN (H : Hp) : V → String
  | .non => "NoneType"
  | .bl _ => "bool"
  | .int _ => "int"
  | .str _ => "str"
  | .ref a => match H a with
    | some (.tup _) => "tuple"
    | some (.lst _) => "list"
    | some (.dK _) => "dict"
    | _ => "?"
  | _ => "?"
theorem tyN_tup {H : Hp} {a : Addr} {xs : List V} (h : H a = some (.tup xs)) : tyN H (.ref a) = "tuple" := by
  show (match H a with | some (.tup _) => "tuple" | some (.lst _) => "list" | some (.dK _) => "dict" | _ => "?") = "tuple"
  rw [h]
theorem tyN_lst {H : Hp} {a : Addr} {xs : List V} (h : H a = some (.lst xs)) : tyN H (.ref a) = "list" := by
  show (match H a with | some (.tup _) => "tuple" | some (.lst _) => "list" | some (.dK _) => "dict" | _ => "?") = "list"
  rw [h]
theorem tyN_dct {H : Hp} {a : Addr} {kvs : List (Key × V)} (h : H a = some (.dK kvs)) : tyN H (.ref a) = "dict" := by
  show (match H a with | some (.tup _) => "tuple" | some (.lst _) => "list" | some (.dK _) => "dict" | _ => "?") = "dict"
  rw [h]
theorem pv_ty {K : PySem.W.Frag} {N : Addr → Prop} {H : Hp} {m n : Nat} {v : V} (h : PV m n N H v) : TyX K H v (.type (tyN H v)) ∧ tyN H v ∈ ["NoneType", "bool", "int", "str", "tuple", "list", "dict"] := by
  cases n with
  | zero => exact h.elim
  | succ n =>
    cases h with
    | non => exact ⟨.base .non, by show "NoneType" ∈ _; decide⟩
    | bl b => exact ⟨.base (.bl b), by show "bool" ∈ _; decide⟩
    | int i => exact ⟨.base (.int i), by show "int" ∈ _; decide⟩
    | str z => exact ⟨.base (.str z), by show "str" ∈ _; decide⟩
    | tup a xs e x l q => rw [tyN_tup e]; exact ⟨.base (.tup e), by decide⟩
    | lst a xs e x l q => rw [tyN_lst e]; exact ⟨.base (.lst e), by decide⟩
    | dct a e x => rw [tyN_dct e]; exact ⟨.base (.dK e), by decide⟩
/-- what «tuple» says of such a value -/
theorem pv_tup {N : Addr → Prop} {H : Hp} {m n : Nat} {v : V} (h : PV m n N H v) (t : tyN H v = "tuple") : ∃ xs k, n = k + 1 ∧ TupV N H v xs ∧ xs.length ≤ m ∧ ∀ x ∈ xs, PV m k N H x := by
  cases n with
  | zero => exact h.elim
  | succ n =>
    cases h with
    | non => exact absurd t (by show ¬ "NoneType" = "tuple"; decide)
    | bl b => exact absurd t (by show ¬ "bool" = "tuple"; decide)
    | int i => exact absurd t (by show ¬ "int" = "tuple"; decide)
    | str z => exact absurd t (by show ¬ "str" = "tuple"; decide)
    | tup a xs e x l q => exact ⟨xs, n, rfl, ⟨a, rfl, x, e⟩, l, q⟩
    | lst a xs e x l q => rw [tyN_lst e] at t; exact absurd t (by decide)
    | dct a e x => rw [tyN_dct e] at t; exact absurd t (by decide)
theorem pv_int {N : Addr → Prop} {H : Hp} {m n : Nat} {v : V} (h : PV m n N H v) (t : tyN H v = "int") : ∃ i, v = .int i := by
  cases n with
  | zero => exact h.elim
  | succ n =>
    cases h with
    | non => exact absurd t (by show ¬ "NoneType" = "int"; decide)
    | bl b => exact absurd t (by show ¬ "bool" = "int"; decide)
    | int i => exact ⟨i, rfl⟩
    | str z => exact absurd t (by show ¬ "str" = "int"; decide)
    | tup a xs e x l q => rw [tyN_tup e] at t; exact absurd t (by decide)
    | lst a xs e x l q => rw [tyN_lst e] at t; exact absurd t (by decide)
    | dct a e x => rw [tyN_dct e] at t; exact absurd t (by decide)
def isB (T c : String) : Bool := T == c || (T == "bool" && c == "int")
theorem kit_all : ∀ T ∈ ["NoneType", "bool", "int", "str", "tuple", "list", "dict"], ∀ c ∈ ["int", "bool", "tuple", "str"], kitB T c = some (isB T c) := by decide +kernel
def rIsP : List V → Hp → VK → Prop := fun xs H Q => ∃ x c m n N, xs = [x, .ty c] ∧ c ∈ ["int", "bool", "tuple", "str"] ∧ PV m n N H x ∧ Q (.bl (isB (tyN H x) c)) H
section
variable {X : Cx}
theorem call_isP : CallR X (.builtin "isinstance") rIsP := fun pn s σ H xs us Q I r ⟨x, c, m, n, N, e, hc, hx, q⟩ =>
  call_isi pn s σ H xs us Q I r ⟨x, .ty c, _, _, _, e, .ty c, (pv_ty hx).1, kit_ty (kit_all _ (pv_ty (K := X.K) hx).2 c hc), q⟩
theorem pe_tyn {x : Str} {pos : Pos} (n : String) (hg : Gl X x) (hm : X.mg x = none) (hv : bootBuiltins x = some (.type n)) (hn : x ≠ "__name__" := by decide) (hd : (x == ("__debug__" : Str)) = false := by decide) : PE X (.Name x pos) (tC (.ty n)) :=
  pe_bltn (v := .ty n) hg hm hv (by rfl) hn hd
end

def spWhole : Sp := fun vs H Q _ => ∃ v m n N, vs = [v] ∧ PV m n N H v ∧ Q (.bl (tyN H v == "int")) H
def spTruth : Sp := fun vs H Q _ => ∃ a b : Bool, vs = [.bl a, .bl b] ∧ Q (.bl (decide (a = b))) H
def spOdd : Sp := fun vs H Q _ => ∃ (d g c : Addr) (T : Int), vs = [.ref d] ∧ StA H d g c T ∧ T < TB ∧
  ∀ (x : V) (H' : Hp), PV 2 2 (Nd d g) H' x → Kp d g H H' → StA H' d g c (T + 1) → Q x H'
section
variable {P : Program} {w : World} {K : PySem.W.Frag} {mg : Str → Option Value} {base : Heap}
theorem scWh : FnScope ["item"] ["item"] (defScope sWhole) := ⟨rfl, rfl, rfl, by decide +kernel, rfl, by decide +kernel, by decide +kernel⟩
theorem ok_whole {f : Addr} {fd : FuncData} (F : Fun K "_law_is_whole" "_law_is_whole" sWhole f fd) (ms : mg "isinstance" = none) (mi : mg "int" = none) (mb : mg "bool" = none) : FnOk P w K mg base CX0 1 f fd ["item"] spWhole := by
  refine F.ok scWh (fun vs H Q E h => ?_) (fun cdv A outer s H vs Q E hr h => ?_)
  · obtain ⟨v, m, n, N, rfl, _⟩ := h
    rfl
  · obtain ⟨v, m, n, N, rfl, hv, k⟩ := h
    refine ⟨_, pss_one (ps_ret (pe_and (pe_callB call_isP (by rfl) ms (by decide +kernel) (pa_cons (pv 0) (pa_cons (pe_tyn "int" (by rfl) mi (by decide +kernel)) pa_nil)))
      (pe_one (pe_not (pe_callB call_isP (by rfl) ms (by decide +kernel) (pa_cons (pv 0) (pa_cons (pe_tyn "bool" (by rfl) mb (by decide +kernel)) pa_nil))))))), ?_⟩
    refine ⟨_, rfl, v, "int", m, n, N, rfl, by decide, hv, _, rfl, ?_⟩
    have key : ∀ T ∈ ["NoneType", "bool", "int", "str", "tuple", "list", "dict"], (isB T "int" = true → (!isB T "bool") = (T == "int")) ∧ (isB T "int" = false → false = (T == "int")) := by decide +kernel
    have kv := key _ (pv_ty (K := K) hv).2
    cases e : isB (tyN H v) "int" with
    | true =>
      refine iteT ?_
      refine ⟨_, rfl, v, "bool", m, n, N, rfl, by decide, hv, _, rfl, ?_⟩
      rw [kv.1 e]; exact k
    | false =>
      refine iteF ?_
      rw [kv.2 e]; exact k
theorem scTr : FnScope ["found", "due"] ["found", "due"] (defScope sTruth) := ⟨rfl, rfl, rfl, by decide +kernel, rfl, by decide +kernel, by decide +kernel⟩
theorem ok_truth {f : Addr} {fd : FuncData} (F : Fun K "_law_is_truth" "_law_is_truth" sTruth f fd) : FnOk P w K mg base CX0 1 f fd ["found", "due"] spTruth := by
  refine F.ok scTr (fun vs H Q E h => ?_) (fun cdv A outer s H vs Q E hr h => ?_)
  · obtain ⟨a, b, rfl, _⟩ := h
    rfl
  · obtain ⟨a, b, rfl, k⟩ := h
    refine ⟨_, pss_one (ps_ret (pe_ifExp (pt_val (pv 1)) (pe_cmpR op_isBl (pv 0) pe_bl (nomark _)) (pe_cmpR op_isBl (pv 0) pe_bl (nomark _)))), ?_⟩
    refine ⟨_, rfl, b, rfl, ?_⟩
    cases b with
    | true => exact iteT ⟨_, rfl, a, true, rfl, rfl, k⟩
    | false => exact iteF ⟨_, rfl, a, false, rfl, rfl, k⟩
theorem scOd : FnScope ["state", "some"] ["state"] (defScope sOdd) := ⟨rfl, rfl, rfl, by decide +kernel, rfl, by decide +kernel, by decide +kernel⟩
theorem ok_odd {f fP : Addr} {fd fdP : FuncData} (F : Fun K "_law_pu_odd" "_law_pu_odd" sOdd f fd)
    (GP : FnOk P w K mg base CX0 3 fP fdP ["state", "several"] (spPick K)) (bP : Binds K fdP ["state", "several"] []) (kP : PySem.W.keepIn K (.ref fP) = true) (mP : mg "_law_pick" = some (.ref fP)) :
    FnOk P w K mg base CX0 4 f fd ["state"] spOdd := by
  refine F.ok scOd (fun vs H Q E h => ?_) (fun cdv A outer s H vs Q E hr h => ?_)
  · obtain ⟨d, g, c, T, rfl, _⟩ := h
    rfl
  · obtain ⟨d, g, c, T, rfl, S, hT, k⟩ := h
    have mo := PV.mon 2 2
    refine ⟨_, pss_cons (ps_set (i := 1) scOd.nd rfl (Or.inl rfl) (n_lstR (R := PV 2 2) (k := 13) mo (na_cons mo n_non (na_cons mo n_int (na_cons mo n_neg (na_cons mo n_bl (na_cons mo n_str (na_cons mo n_str (na_cons mo (n_tup na_nil)
          (na_cons mo (n_lst na_nil) (na_cons mo n_dct (na_cons mo (n_tup (na_cons (PV.mon 2 1) n_str na_nil)) (na_cons mo (n_tup (na_cons (PV.mon 2 1) n_str (na_cons (PV.mon 2 1) n_neg na_nil)))
          (na_cons mo (n_tup (na_cons (PV.mon 2 1) n_str (na_cons (PV.mon 2 1) n_bl na_nil))) (na_cons mo (n_tup (na_cons (PV.mon 2 1) n_int (na_cons (PV.mon 2 1) n_int na_nil))) na_nil))))))))))))) (by decide)))
      (pss_one (ps_ret (pe_call GP hr rfl mP kP bP .nil pass0 (pa_cons (pv 0) (pa_cons (pv 1) pa_nil))))), ?_⟩
    intro v H1 s1 ⟨a, xs, e, n, ha, l, q⟩
    subst e
    have S1 := S.same s1
    have nd := S.nd a n
    refine ⟨_, rfl, _, rfl, d, g, c, a, T, xs, rfl, S1, hT, .inl (SqL.of ha), nd.1, nd.2, (by intro e; rw [e] at l; cases l), by omega, fun x H2 hx k2 S2 => ?_⟩
    refine k x H2 ?_ ((Kp.of s1).trans k2) S2
    exact mo.kp k2 (mo.new S.nd (q x hx))
end
end Pu

namespace Pu
open PySem L2
theorem cut_to {xs : List V} {j : Nat} (h : j ≤ xs.length) : cutV xs none (some (j : Int)) = xs.take j := by
  unfold cutV
  rw [HT.sIx_none, HT.sIx_nat, List.drop_zero, Nat.sub_zero, Nat.min_eq_left h]
theorem cut_from {xs : List V} {j : Nat} (h : j ≤ xs.length) : cutV xs (some (j : Int)) none = xs.drop j := by
  unfold cutV
  rw [HT.sIx_none, HT.sIx_nat, Nat.min_eq_left h, List.take_of_length_le (by rw [List.length_drop]; exact Nat.le_refl _)]
theorem cut_len {xs : List V} {lo hi : Option Int} : (cutV xs lo hi).length ≤ xs.length := cutV_length xs lo hi
theorem cut_one {xs : List V} {j : Nat} (h : j + 1 ≤ xs.length) : (cutV xs (some (j : Int)) (some ((j : Int) + 1))).length ≤ 1 := by
  unfold cutV
  rw [show (j : Int) + 1 = ((j + 1 : Nat) : Int) by omega, HT.sIx_nat, HT.sIx_nat, Nat.min_eq_left h, Nat.min_eq_left (by omega), List.length_take]
  omega
/-- a tuple whose items are such values -/
theorem TupV.pv {N : Addr → Prop} {H : Hp} {v : V} {xs : List V} {m n : Nat} (t : TupV N H v xs) (l : xs.length ≤ m) (q : ∀ x ∈ xs, PV m n N H x) : PV m (n + 1) N H v := by
  obtain ⟨a, e, na, h⟩ := t
  rw [e]; exact .tup a xs h na l q

def spBankP : Sp := fun vs H Q _ => ∃ (d g c : Addr) (T : Int), vs = [.ref d] ∧ StA H d g c T ∧ T < TB ∧
  ∀ (x : V) (H' : Hp), tupR (PV 8 2) 3 (Nd d g) H' x → Kp d g H H' → StA H' d g c (T + 1) → Q x H'
def spBent (N : Nat) : Sp := fun vs H Q _ => ∃ (d g c : Addr) (T : Int) (m n : Nat) (v : V), vs = [.ref d, v] ∧ StA H d g c T ∧ T + 5 * (N : Int) < TB ∧ PV m n (Nd d g) H v ∧ 2 ≤ m ∧ m ≤ 1000 ∧ n ≤ N ∧
  ∀ (x : V) (H' : Hp), PV (m + 1) (n + 1) (Nd d g) H' x → Kp d g H H' → StA H' d g c (T + 5 * (N : Int)) → Q x H'
section
variable {P : Program} {w : World} {K : PySem.W.Frag} {mg : Str → Option Value} {base : Heap}
theorem scBa : FnScope ["state", "some"] ["state"] (defScope sBank) := ⟨rfl, rfl, rfl, by decide +kernel, rfl, by decide +kernel, by decide +kernel⟩
theorem ok_bank {f fP : Addr} {fd fdP : FuncData} (F : Fun K "_law_pu_bank" "_law_pu_bank" sBank f fd)
    (GP : FnOk P w K mg base CX0 3 fP fdP ["state", "several"] (spPick K)) (bP : Binds K fdP ["state", "several"] []) (kP : PySem.W.keepIn K (.ref fP) = true) (mP : mg "_law_pick" = some (.ref fP)) :
    FnOk P w K mg base CX0 4 f fd ["state"] spBankP := by
  refine F.ok scBa (fun vs H Q E h => ?_) (fun cdv A outer s H vs Q E hr h => ?_)
  · obtain ⟨d, g, c, T, rfl, _⟩ := h
    rfl
  · obtain ⟨d, g, c, T, rfl, S, hT, k⟩ := h
    have m1 := PV.mon 8 1
    have m2 := PV.mon 8 2
    have m3 : Mon (tupR (PV 8 2) 3) := tupR.mon m2
    refine ⟨_, pss_cons (ps_set (i := 1) scBa.nd rfl (Or.inl rfl) (n_lstR (R := tupR (PV 8 2) 3) (k := 6) m3
        (na_cons m3 (n_tupR m2 (na_cons m2 (n_tup (na_cons m1 n_int (na_cons m1 n_int na_nil))) (na_cons m2 n_int (na_cons m2 n_int na_nil))) (by decide))
        (na_cons m3 (n_tupR m2 (na_cons m2 (n_tup (na_cons m1 n_int (na_cons m1 n_int (na_cons m1 n_int na_nil)))) (na_cons m2 n_int (na_cons m2 n_int na_nil))) (by decide))
        (na_cons m3 (n_tupR m2 (na_cons m2 (n_tup (na_cons m1 n_int na_nil)) (na_cons m2 n_int (na_cons m2 n_int na_nil))) (by decide))
        (na_cons m3 (n_tupR m2 (na_cons m2 (n_tup (na_cons m1 n_int (na_cons m1 n_int na_nil))) (na_cons m2 n_int (na_cons m2 n_int na_nil))) (by decide))
        (na_cons m3 (n_tupR m2 (na_cons m2 (n_tup (na_cons m1 n_int (na_cons m1 n_int (na_cons m1 n_int (na_cons m1 n_int na_nil))))) (na_cons m2 n_int (na_cons m2 n_int na_nil))) (by decide))
        (na_cons m3 (n_tupR m2 (na_cons m2 (n_tup (na_cons m1 n_int (na_cons m1 n_int na_nil))) (na_cons m2 n_int (na_cons m2 n_int na_nil))) (by decide)) na_nil)))))) (by decide)))
      (pss_one (ps_ret (pe_call GP hr rfl mP kP bP .nil pass0 (pa_cons (pv 0) (pa_cons (pe_op op_cat (pv 1) (n_lstR (R := tupR (PV 8 2) 3) (k := 2) m3
        (na_cons m3 (n_tupR m2 (na_cons m2 (n_tup (na_cons m1 n_int (na_cons m1 n_int (na_cons m1 n_int na_nil)))) (na_cons m2 n_int (na_cons m2 n_int na_nil))) (by decide))
        (na_cons m3 (n_tupR m2 (na_cons m2 (n_tup (na_cons m1 n_int (na_cons m1 n_int (na_cons m1 n_int na_nil)))) (na_cons m2 n_int (na_cons m2 n_int na_nil))) (by decide)) na_nil)) (by decide))) pa_nil))))), ?_⟩
    intro v H1 s1 ⟨a, xs, e, n, ha, l, q⟩
    subst e
    refine ⟨_, rfl, _, rfl, ?_⟩
    intro v2 H2 s2 ⟨b, ys, e2, n2, hb, l2, q2⟩
    subst e2
    refine ⟨a, b, xs, ys, rfl, rfl, s2 _ _ ha, hb, by rw [l, l2]; exact Nat.le_of_lt (small1000 (by decide)), fun p hp => ?_⟩
    have s3 : Same H (upd H2 p (.lst (xs ++ ys))) := (s1.trans s2).trans (same_upd hp)
    have S3 := S.same s3
    have nd := S.nd p ((s1.trans s2).free hp)
    refine ⟨d, g, c, p, T, xs ++ ys, rfl, S3, hT, .inl (SqL.of upd_same), nd.1, nd.2, (by intro e; have := congrArg List.length e; rw [List.length_append, l, l2] at this; cases this), by rw [List.length_append, l, l2]; decide, fun x H4 hx k4 S4 => ?_⟩
    refine k x H4 ?_ ((Kp.of s3).trans k4) S4
    refine m3.kp k4 ?_
    rcases List.mem_append.mp hx with hx | hx
    · exact m3 _ _ _ _ _ (fun a' o n' e => ⟨S.nd a' n', same_upd hp a' o (s2 a' o e)⟩) (q x hx)
    · exact m3 _ _ _ _ _ (fun a' o n' e => ⟨S.nd a' (s1.free n'), same_upd hp a' o e⟩) (q2 x hx)
end
end Pu

namespace Pu
open PySem L2
section
variable {P : Program} {w : World} {K : PySem.W.Frag} {mg : Str → Option Value} {base : Heap}
theorem fn_false {CX : CXT} {k : Nat} {f : Addr} {fd : FuncData} {ps : List Str} {sp : Sp} (h : ∀ vs H Q E, ¬ sp vs H Q E) : FnOk P w K mg base CX k f fd ps sp := by
  exact ⟨fun _ _ _ _ q => (h _ _ _ _ q).elim, fun _ _ _ _ _ _ _ _ _ _ _ _ _ q => (h _ _ _ _ q).elim⟩
/-- what the drawing defs keep, and where they stand -/
structure Dr (P : Program) (w : World) (K : PySem.W.Frag) (mg : Str → Option Value) (base : Heap) : Prop where
  draw : ∃ f fd, FnOk P w K mg base CX0 2 f fd ["state", "size_here"] spDraw ∧ Binds K fd ["state", "size_here"] [] ∧ PySem.W.keepIn K (.ref f) = true ∧ mg "_law_draw" = some (.ref f)
  pick : ∃ f fd, FnOk P w K mg base CX0 3 f fd ["state", "several"] (spPick K) ∧ Binds K fd ["state", "several"] [] ∧ PySem.W.keepIn K (.ref f) = true ∧ mg "_law_pick" = some (.ref f)
  odd : ∃ f fd, FnOk P w K mg base CX0 4 f fd ["state"] spOdd ∧ Binds K fd ["state"] [] ∧ PySem.W.keepIn K (.ref f) = true ∧ mg "_law_pu_odd" = some (.ref f)
  whole : ∃ f fd, FnOk P w K mg base CX0 1 f fd ["item"] spWhole ∧ Binds K fd ["item"] [] ∧ PySem.W.keepIn K (.ref f) = true ∧ mg "_law_is_whole" = some (.ref f)
  ms : mg "isinstance" = none
  mt : mg "tuple" = none
  ml : mg "len" = none
  mli : mg "list" = none
theorem scBt : FnScope ["state", "item", "at", "way"] ["state", "item"] (defScope sBent) := ⟨rfl, rfl, rfl, by decide +kernel, rfl, by decide +kernel, by decide +kernel⟩
theorem ok_bent {f : Addr} {fd : FuncData} (F : Fun K "_law_pu_bent" "_law_pu_bent" sBent f fd) (D : Dr P w K mg base) (bR : Binds K fd ["state", "item"] []) (kR : PySem.W.keepIn K (.ref f) = true) (mR : mg "_law_pu_bent" = some (.ref f)) :
    ∀ N : Nat, FnOk P w K mg base CX0 (5 + N) f fd ["state", "item"] (spBent N)
  | 0 => fn_false fun vs H Q E ⟨d, g, c, T, m, n, v, _, _, _, hv, _, _, hn, _⟩ => by
    have e : n = 0 := by omega
    subst e
    exact hv
  | N + 1 => by
    have GR := ok_bent F D bR kR mR N
    obtain ⟨fD, fdD, GD, bD, kD, mD⟩ := D.draw
    obtain ⟨fP, fdP, GP, bP, kP, mP⟩ := D.pick
    obtain ⟨fO, fdO, GO, bO, kO, mO⟩ := D.odd
    obtain ⟨fW, fdW, GW, bW, kW, mW⟩ := D.whole
    refine F.ok scBt (fun vs H Q E h => ?_) (fun cdv A outer s H vs Q E hr h => ?_)
    · obtain ⟨d, g, c, T, m, n, v, rfl, _⟩ := h
      rfl
    · obtain ⟨d, g, c, T, m, n, v, rfl, S, hT, hv, hm2, hm, hn, k⟩ := h
      have hu := hu_of hr
      have r1 : Room 1 (A.deeper (PyProof.Rows.envOfC "_law_pu_bent" (defScope sBent) s.heap.objs.size f cdv)) := hr.mono (by show _ ≤ 5 + N; omega)
      have r2 : Room 2 (A.deeper (PyProof.Rows.envOfC "_law_pu_bent" (defScope sBent) s.heap.objs.size f cdv)) := hr.mono (by show _ ≤ 5 + N; omega)
      have r3 : Room 3 (A.deeper (PyProof.Rows.envOfC "_law_pu_bent" (defScope sBent) s.heap.objs.size f cdv)) := hr.mono (by show _ ≤ 5 + N; omega)
      have r4 : Room 4 (A.deeper (PyProof.Rows.envOfC "_law_pu_bent" (defScope sBent) s.heap.objs.size f cdv)) := hr.mono (by show _ ≤ 5 + N; omega)
      have hT' : T + 5 * ((N : Int) + 1) < 1000000000000 := by have := hT; push_cast at this; exact this
      refine ⟨_, pss_cons (ps_if (PW.pt (pw_or (pt_not (pt_val (pe_callB call_isP (by rfl) D.ms (by decide +kernel) (pa_cons (pv 1) (pa_cons (pe_tyn "tuple" (by rfl) D.mt (by decide +kernel)) pa_nil)))))
            (pw_or (pt_cmpR (op_eqT0 hu) (pv 1) (pe_tup pa_nil) (nomark _)) (pw_or1 (pt_cmpR op_eq (pe_call GD r2 rfl mD kD bD .nil pass0 (pa_cons (pv 0) (pa_cons pe_int pa_nil))) pe_int (nomark _))))))
          (pss_one (ps_ret (pe_call GO r4 rfl mO kO bO .nil pass0 (pa_cons (pv 0) pa_nil)))) pss_nil)
        (pss_cons (ps_par (i := 2) (j := 3) rfl scBt.nd rfl rfl (by decide) rfl rfl (pa_cons (pe_call GD r2 rfl mD kD bD .nil pass0 (pa_cons (pv 0) (pa_cons (pe_callB call_len_seq (by rfl) D.ml boot_len (pa_cons (pv 1) pa_nil)) pa_nil)))
            (pa_cons (pe_call GD r2 rfl mD kD bD .nil pass0 (pa_cons (pv 0) (pa_cons pe_int pa_nil))) pa_nil)) (by rfl))
        (pss_cons (ps_if (pt_cmpR op_lt (pv 3) pe_int (nomark _)) (pss_one (ps_ret (pe_op op_cat2 (pe_op op_cat2 (pe_slice sl_tup2 (pv 1) po_none (po_some (pv 2)))
            (pe_tup (pa_cons (pe_call GR hr rfl mR kR bR .nil pass0 (pa_cons (pv 0) (pa_cons (pe_ix ix_tup (pv 1) (pv 2) (fun _ _ => rfl)) pa_nil))) pa_nil))) (pe_slice sl_tup2 (pv 1) (po_some (pe_op op_add (pv 2) pe_int)) po_none)))) pss_nil)
        (pss_cons (ps_if (pt_cmpR op_eq (pv 3) pe_int (nomark _)) (pss_one (ps_ret (pe_op op_cat2 (pe_slice sl_tup2 (pv 1) po_none (po_some (pv 2))) (pe_slice sl_tup2 (pv 1) (po_some (pe_op op_add (pv 2) pe_int)) po_none)))) pss_nil)
        (pss_cons (ps_if (pt_cmpR op_eq (pv 3) pe_int (nomark _)) (pss_one (ps_ret (pe_op op_cat2 (pe_op op_cat2 (pe_slice sl_tup2 (pv 1) po_none (po_some (pv 2))) (pe_slice sl_tup2 (pv 1) (po_some (pv 2)) (po_some (pe_op op_add (pv 2) pe_int)))) (pe_slice sl_tup2 (pv 1) (po_some (pv 2)) po_none)))) pss_nil)
        (C8.pss_cut (ps_if (PW.pt (pw_and (pt_cmpR op_eq (pv 3) pe_int (nomark _)) (pw_and1 (pt_val (pe_call GW r1 rfl mW kW bW .nil pass0 (pa_cons (pe_ix ix_tup (pv 1) (pv 2) (fun _ _ => rfl)) pa_nil))))))
            (pss_one (ps_ret (pe_op op_cat2 (pe_op op_cat2 (pe_slice sl_tup2 (pv 1) po_none (po_some (pv 2)))
              (pe_tup (pa_cons (pe_op op_add (pe_ix ix_tup (pv 1) (pv 2) (fun _ _ => rfl)) (pe_call GP r3 rfl mP kP bP .nil pass0 (pa_cons (pv 0) (pa_cons (pe_lst (pa_cons pe_int (pa_cons (pe_un un_neg pe_int) pa_nil))) pa_nil)))) pa_nil))) (pe_slice sl_tup2 (pv 1) (po_some (pe_op op_add (pv 2) pe_int)) po_none)))) pss_nil)
        (pss_one (ps_ret (pe_ifExp (pt_cmpR op_eq (pv 3) pe_int (nomark _))
          (pe_callTy call_tuple_of (by rfl) D.mt (by decide +kernel) (pa_cons (pe_op op_cat (pe_callTy call_list_of (by rfl) D.mli (by decide +kernel) (pa_cons (pe_revT (pe_slice sl_tup2 (pv 1) po_none (po_some (pv 2)))) pa_nil))
            (pe_callTy call_list_of (by rfl) D.mli (by decide +kernel) (pa_cons (pe_slice sl_tup2 (pv 1) (po_some (pv 2)) po_none) pa_nil))) pa_nil))
          (pe_callTy call_list_of (by rfl) D.mli (by decide +kernel) (pa_cons (pv 1) pa_nil)))))))))), ?_⟩
      -- the odd value
      have fin : ∀ (x : V) (H' : Hp) (T' : Int), T' ≤ T + 5 * ((N : Int) + 1) → PV (m + 1) (n + 1) (Nd d g) H' x → Kp d g H H' → StA H' d g c T' → Q x H' := fun x H' T' ht hx kp S' => k x H' hx kp (S'.mono (by push_cast; exact ht))
      have n1 : 1 ≤ n := by
        rcases Nat.eq_zero_or_pos n with e | e
        · subst e; exact hv.elim
        · exact e
      have oddv : ∀ {x : V} {H' : Hp}, PV 2 2 (Nd d g) H' x → PV (m + 1) (n + 1) (Nd d g) H' x := fun h => (h.ups (by omega)).wide (by omega)
      refine ⟨_, rfl, v, "tuple", m, n, _, rfl, by decide, hv, _, rfl, ?_⟩
      cases e : isB (tyN H v) "tuple" with
      | false =>
        refine iteT ?_
        refine iteT ?_
        exact ⟨_, rfl, d, g, c, T, rfl, S, by show T < 1000000000000; omega, fun x H2 hx k2 S2 => fin x H2 _ (by omega) (oddv hx) k2 S2⟩
      | true =>
        refine iteF ?_
        have et : tyN H v = "tuple" := by
          have key : ∀ T ∈ ["NoneType", "bool", "int", "str", "tuple", "list", "dict"], isB T "tuple" = true → T = "tuple" := by decide +kernel
          exact key _ (pv_ty (K := K) hv).2 e
        obtain ⟨xs, j, rfl, tv, hl, hx⟩ := pv_tup hv et
        obtain ⟨a, rfl, na, ha⟩ := id tv
        refine ⟨_, rfl, (by show 0 ≤ sizeLine; exact Nat.zero_le _), fun p hp => ⟨a, p, xs, rfl, rfl, SqT.of (same_upd hp _ _ ha), SqT.of upd_same, _, rfl, ?_⟩⟩
        have S1 := S.new (o := .tup []) hp
        have k1 : Kp d g H (upd H p (.tup [])) := Kp.new hp
        by_cases hxe : xs = []
        · rw [hxe]
          refine iteT ?_
          refine iteT ?_
          exact ⟨_, rfl, d, g, c, T, rfl, S1, by show T < 1000000000000; omega, fun x H2 hx k2 S2 => fin x H2 _ (by omega) (oddv hx) (k1.trans k2) S2⟩
        have hne : xs.isEmpty = false := by cases xs with | nil => exact absurd rfl hxe | cons _ _ => rfl
        rw [hne]
        refine iteF ?_
        refine ⟨_, rfl, d, g, c, T, 9, rfl, S1, by show T < 1000000000000; omega, by decide, by decide, fun r H2 _ _ k2 S2 => ?_⟩
        refine ⟨rfl, _, rfl, ?_⟩
        refine ite2 (fun _ => ?_) (fun _ => ?_)
        · exact ⟨_, rfl, d, g, c, _, rfl, S2, by show T + 1 < 1000000000000; omega, fun x H3 hx k3 S3 => fin x H3 _ (by omega) (oddv hx) ((k1.trans k2).trans k3) S3⟩
        -- at, way
        have k12 := k1.trans k2
        have l0 : 0 < xs.length := List.length_pos_iff.mpr hxe
        have t2 : TupV (Nd d g) H2 (.ref a) xs := tv.kp k12
        obtain ⟨a', ea, na', ha2⟩ := id t2
        cases ea
        refine ⟨_, rfl, _, rfl, a, xs, rfl, .inr (SqT.of ha2), d, g, c, _, _, rfl, S2, by show T + 1 < 1000000000000; omega, by omega, by omega, fun at' H3 at0 at1 k3 S3 => ?_⟩
        refine ⟨_, rfl, d, g, c, _, 8, rfl, S3, by show T + 1 + 1 < 1000000000000; omega, by decide, by decide, fun way H4 _ _ k4 S4 => ⟨_, _, rfl, ?_⟩⟩
        have k14 := (k12.trans k3).trans k4
        obtain ⟨i, rfl⟩ : ∃ i : Nat, at' = (i : Int) := ⟨at'.toNat, by omega⟩
        have hi : i < xs.length := by omega
        have t4 : TupV (Nd d g) H4 (.ref a) xs := tv.kp k14
        have q4 : ∀ x ∈ xs, PV m j (Nd d g) H4 x := fun x h => (PV.mon m j).kp k14 (hx x h)
        have nw := S4.nd
        obtain ⟨y, hy⟩ : ∃ y, xs[i]? = some y := ⟨_, List.getElem?_eq_getElem hi⟩
        have my : y ∈ xs := List.mem_of_getElem? hy
        have ay : atI xs (i : Int) = some y := atI_nat hy
        have done : ∀ (v8 : V) (H8 : Hp) (ys : List V) (T8 : Int), T8 ≤ T + 5 * ((N : Int) + 1) → Kp d g H4 H8 → StA H8 d g c T8 → TupV (Nd d g) H8 v8 ys → ys.length ≤ m + 1 → (∀ y ∈ ys, y ∈ xs ∨ PV (m + 1) (j + 1) (Nd d g) H8 y) → Q v8 H8 :=
          fun v8 H8 ys T8 hT8 k8 S8 t8 l8 q8 => fin v8 H8 T8 hT8 (t8.pv l8 fun y hy => by
            rcases q8 y hy with h | h
            · exact (((PV.mon m j).kp k8 (q4 y h)).up).wide (by omega)
            · exact h) (k14.trans k8) S8
        have lto : (cutV xs none (some (i : Int))).length = i := by rw [cut_to (by omega), List.length_take]; omega
        have lfr : (cutV xs (some ((i : Int) + 1)) none).length = xs.length - i - 1 := by
          rw [show (i : Int) + 1 = ((i + 1 : Nat) : Int) by omega, cut_from (by omega), List.length_drop]; omega
        have lfr0 : (cutV xs (some (i : Int)) none).length = xs.length - i := by rw [cut_from (by omega), List.length_drop]
        have hN : (N : Int) ≥ 0 := by omega
        -- way < 4
        refine ⟨_, rfl, _, _, rfl, rfl, _, rfl, ?_⟩
        refine ite2 (fun _ => ?_) (fun _ => ?_)
        · refine ⟨_, rfl, _, rfl, _, rfl, Nd d g, xs, nw, t4, fun v5 H5 s5 t5 => ?_⟩
          have S5 := S4.same s5
          refine ⟨_, rfl, _, rfl, _, rfl, a, xs, (i : Int), y, rfl, rfl, SqT.of (s5 _ _ t4.at), ay, d, g, c, _, m, j, y, rfl, S5, by show T + 1 + 1 + 1 + 5 * (N : Int) < 1000000000000; omega, (PV.mon m j).same s5 (q4 y my), hm2, hm, by omega, fun z H6 hz k6 S6 => ?_⟩
          refine ⟨(by show 1 ≤ sizeLine; decide), fun p6 hp6 => ?_⟩
          have S7 := S6.new (o := .tup [z]) hp6
          have k7 : Kp d g H4 (upd H6 p6 (.tup [z])) := ((Kp.of s5).trans k6).trans (Kp.new hp6)
          refine ⟨Nd d g, _, [z], S7.nd, (t5.kp k6).same (same_upd hp6), ⟨p6, rfl, S6.nd p6 hp6, upd_same⟩, by rw [lto]; show i + 1 ≤ 100000; omega, fun v8 H8 s8 t8 => ?_⟩
          refine ⟨_, rfl, _, rfl, _, _, rfl, rfl, _, rfl, Nd d g, xs, (S7.same s8).nd, (t4.kp k7).same s8, fun v9 H9 s9 t9 => ?_⟩
          refine ⟨Nd d g, _, _, ((S7.same s8).same s9).nd, t8.same s9, t9, ?_, fun v10 H10 s10 t10 => ?_⟩
          · rw [List.length_append, lto, lfr]; show i + 1 + _ ≤ 100000; omega
          · refine done v10 H10 _ _ (by omega) (k7.trans (Kp.of ((s8.trans s9).trans s10))) (((S7.same s8).same s9).same s10) t10 ?_ ?_
            · rw [List.length_append, List.length_append, lto, lfr]; show i + 1 + _ ≤ m + 1; omega
            · intro y hy
              rcases List.mem_append.mp hy with hy | hy
              · rcases List.mem_append.mp hy with hy | hy
                · exact .inl (mem_cut hy)
                · have e := List.mem_singleton.mp hy
                  rw [e]
                  exact .inr ((PV.mon _ _).same (((same_upd hp6).trans s8).trans (s9.trans s10)) hz)
              · exact .inl (mem_cut hy)
        -- way == 4
        refine ⟨_, rfl, rfl, _, rfl, ?_⟩
        refine ite2 (fun _ => ?_) (fun _ => ?_)
        · refine ⟨_, rfl, _, rfl, _, rfl, Nd d g, xs, nw, t4, fun v5 H5 s5 t5 => ?_⟩
          refine ⟨_, rfl, _, rfl, _, _, rfl, rfl, _, rfl, Nd d g, xs, (S4.same s5).nd, t4.same s5, fun v6 H6 s6 t6 => ?_⟩
          refine ⟨Nd d g, _, _, ((S4.same s5).same s6).nd, t5.same s6, t6, by rw [lto, lfr]; omega, fun v7 H7 s7 t7 => ?_⟩
          refine done v7 H7 _ _ (by omega) (Kp.of ((s5.trans s6).trans s7)) (((S4.same s5).same s6).same s7) t7 (by rw [List.length_append, lto, lfr]; omega) fun y hy => ?_
          rcases List.mem_append.mp hy with hy | hy
          · exact .inl (mem_cut hy)
          · exact .inl (mem_cut hy)
        -- way == 5
        refine ⟨_, rfl, rfl, _, rfl, ?_⟩
        refine ite2 (fun _ => ?_) (fun _ => ?_)
        · have lmid := cut_one (xs := xs) (j := i) (by omega)
          refine ⟨_, rfl, _, rfl, _, rfl, Nd d g, xs, nw, t4, fun v5 H5 s5 t5 => ?_⟩
          refine ⟨_, rfl, _, rfl, _, rfl, _, rfl, _, _, rfl, rfl, _, rfl, Nd d g, xs, (S4.same s5).nd, t4.same s5, fun v6 H6 s6 t6 => ?_⟩
          refine ⟨Nd d g, _, _, ((S4.same s5).same s6).nd, t5.same s6, t6, by rw [lto]; omega, fun v7 H7 s7 t7 => ?_⟩
          have S7 := ((S4.same s5).same s6).same s7
          have s57 := (s5.trans s6).trans s7
          refine ⟨_, rfl, _, rfl, _, rfl, Nd d g, xs, S7.nd, t4.same s57, fun v8 H8 s8 t8 => ?_⟩
          refine ⟨Nd d g, _, _, (S7.same s8).nd, t7.same s8, t8, by rw [List.length_append, lto, lfr0]; omega, fun v9 H9 s9 t9 => ?_⟩
          refine done v9 H9 _ _ (by omega) (Kp.of (s57.trans (s8.trans s9))) ((S7.same s8).same s9) t9 (by rw [List.length_append, List.length_append, lto, lfr0]; omega) fun y hy => ?_
          rcases List.mem_append.mp hy with hy | hy
          · rcases List.mem_append.mp hy with hy | hy
            · exact .inl (mem_cut hy)
            · exact .inl (mem_cut hy)
          · exact .inl (mem_cut hy)
        -- way == 6, a whole item
        refine ⟨fun σ' H' => σ' = [some (.ref d), some (.ref a), some (.int (i : Int)), some (.int way)] ∧ H' = H4, ?_, ?_⟩
        · refine ⟨_, rfl, rfl, _, rfl, ?_⟩
          refine ite2 (fun _ => ?_) (fun _ => ?_)
          · refine ⟨_, rfl, _, rfl, a, xs, (i : Int), y, rfl, rfl, SqT.of t4.at, ay, y, m, j, _, rfl, q4 y my, _, rfl, ?_⟩
            cases ew : tyN H4 y == "int" with
            | false =>
              refine iteF ?_
              exact ⟨rfl, rfl⟩
            | true =>
              refine iteT ?_
              obtain ⟨z, ez⟩ := pv_int (q4 y my) (eq_of_beq ew)
              refine ⟨_, rfl, _, rfl, _, rfl, Nd d g, xs, nw, t4, fun v5 H5 s5 t5 => ?_⟩
              have S5 := S4.same s5
              refine ⟨_, rfl, _, rfl, a, xs, (i : Int), y, rfl, rfl, SqT.of (s5 _ _ t4.at), ay, _, rfl, 1, rfl, (by show 2 ≤ sizeLine; decide), fun pL hL => ?_⟩
              have S6 := S5.new (o := .lst [.int 1, .int (-1)]) hL
              have nL := S5.nd pL hL
              refine ⟨d, g, c, pL, _, [.int 1, .int (-1)], rfl, S6, by show T + 1 + 1 + 1 < 1000000000000; omega, .inl (SqL.of upd_same), nL.1, nL.2, (by intro e; cases e), by decide, fun x H7 hx7 k7 S7 => ?_⟩
              obtain ⟨e7, rfl⟩ : ∃ e7, x = .int e7 := by
                rcases List.mem_cons.mp hx7 with h | h
                · exact ⟨_, h⟩
                · exact ⟨_, List.mem_singleton.mp h⟩
              refine ⟨z, e7, ez, rfl, (by show 1 ≤ sizeLine; decide), fun p8 hp8 => ?_⟩
              have S8 := S7.new (o := .tup [.int (z + e7)]) hp8
              have s5L := s5.trans (same_upd (o := .lst [.int 1, .int (-1)]) hL)
              have k8 : Kp d g H4 (upd H7 p8 (.tup [.int (z + e7)])) := ((Kp.of s5L).trans k7).trans (Kp.new hp8)
              refine ⟨Nd d g, _, [.int (z + e7)], S8.nd, ((t5.same (same_upd hL)).kp k7).same (same_upd hp8), ⟨p8, rfl, S7.nd p8 hp8, upd_same⟩, by rw [lto]; show i + 1 ≤ 100000; omega, fun v9 H9 s9 t9 => ?_⟩
              refine ⟨_, rfl, _, rfl, _, _, rfl, rfl, _, rfl, Nd d g, xs, (S8.same s9).nd, (t4.kp k8).same s9, fun v10 H10 s10 t10 => ?_⟩
              refine ⟨Nd d g, _, _, ((S8.same s9).same s10).nd, t9.same s10, t10, by rw [List.length_append, lto, lfr]; show i + 1 + _ ≤ 100000; omega, fun v11 H11 s11 t11 => ?_⟩
              refine done v11 H11 _ _ (by omega) (k8.trans (Kp.of ((s9.trans s10).trans s11))) (((S8.same s9).same s10).same s11) t11 (by rw [List.length_append, List.length_append, lto, lfr]; show i + 1 + _ ≤ m + 1; omega) fun y hy => ?_
              rcases List.mem_append.mp hy with hy | hy
              · rcases List.mem_append.mp hy with hy | hy
                · exact .inl (mem_cut hy)
                · have e := List.mem_singleton.mp hy
                  rw [e]
                  exact .inr (.int _)
              · exact .inl (mem_cut hy)
          · refine iteF ?_
            exact ⟨rfl, rfl⟩
        · rintro σ' H' ⟨rfl, rfl⟩
          refine ⟨_, rfl, rfl, _, rfl, ?_⟩
          refine ite2 (fun _ => ?_) (fun _ => ?_)
          · refine ⟨_, rfl, _, rfl, _, rfl, Nd d g, xs, nw, t4, fun v5 H5 s5 t5 => ?_⟩
            obtain ⟨a5, rfl, n5, h5⟩ := t5
            refine ⟨a5, _, rfl, SqT.of h5, fun p6 hp6 => ⟨p6, _, rfl, .inr (SqT.of upd_same), fun l7 hl7 => ?_⟩⟩
            have s7 := (s5.trans (same_upd hp6)).trans (same_upd (o := .lst (cutV xs none (some (i : Int))).reverse) hl7)
            have S7 := S4.same s7
            refine ⟨_, rfl, _, rfl, _, rfl, Nd d g, xs, S7.nd, t4.same s7, fun v8 H8 s8 t8 => ?_⟩
            obtain ⟨a8, rfl, n8, h8⟩ := t8
            refine ⟨a8, _, rfl, .inr (SqT.of h8), fun l9 hl9 => ?_⟩
            refine ⟨l7, l9, _, _, rfl, rfl, same_upd hl9 _ _ (s8 _ _ upd_same), upd_same, ?_, fun p10 hp10 => ?_⟩
            · rw [List.length_reverse, lto, lfr0]; exact Nat.le_of_lt (small1000 (by omega))
            · refine ⟨p10, _, rfl, .inl ⟨SqL.of upd_same, fun p11 hp11 => ?_⟩⟩
              have s11 := ((s8.trans (same_upd hl9)).trans (same_upd hp10)).trans (same_upd (o := .tup ((cutV xs none (some (i : Int))).reverse ++ cutV xs (some (i : Int)) none)) hp11)
              refine done _ _ ((cutV xs none (some (i : Int))).reverse ++ cutV xs (some (i : Int)) none) _ (by omega) (Kp.of (s7.trans s11)) (S7.same s11) ⟨p11, rfl, ?_, upd_same⟩ ?_ fun y hy => ?_
              · exact ((S7.same ((s8.trans (same_upd hl9)).trans (same_upd hp10))).nd p11 hp11)
              · rw [List.length_append, List.length_reverse, lto, lfr0]; omega
              · rcases List.mem_append.mp hy with hy | hy
                · exact .inl (mem_cut (List.mem_reverse.mp hy))
                · exact .inl (mem_cut hy)
          · refine ⟨_, rfl, a, xs, rfl, .inr (SqT.of t4.at), fun l5 hl5 => ?_⟩
            refine fin _ _ _ (by omega) ?_ (k14.trans (Kp.new hl5)) (S4.new hl5)
            refine .lst l5 xs upd_same (nw l5 hl5) (by omega) fun y hy => ?_
            exact (((PV.mon m j).same (same_upd hl5) (q4 y hy)).up).wide (by omega)
end
end Pu

namespace Pu
open PySem PySem.Spec PyProof.Rows L2
abbrev sIsNum : Stmt := top 7
abbrev sNumFrom : Stmt := top 8
abbrev sIsBegin : Stmt := top 11
abbrev sIsBank : Stmt := top 12
/-! ### sum of a tuple -/
theorem pre_take (ns : List Int) : ∀ j, preSum (fun i => ns.getD i 0) j = (ns.take j).sum
  | 0 => by simp [preSum]
  | j + 1 => by
    rw [preSum, pre_take ns j]
    by_cases h : j < ns.length
    · rw [List.take_succ_eq_append_getElem h, List.sum_append]
      simp [List.getD, List.getElem?_eq_getElem h]
    · rw [List.take_of_length_le (by omega), List.take_of_length_le (by omega)]
      simp [List.getD, List.getElem?_eq_none (show ns.length ≤ j by omega)]
theorem vals_int_at {ns : List Int} {us : List Value} (r : Vals (ns.map V.int) us) {i : Nat} {v : Value} (h : us[i]? = some v) : ∃ t, v = .int (ns.getD i 0) t := by
  have hl := r.length
  rw [List.length_map] at hl
  have hi : i < us.length := (List.getElem?_eq_some_iff.mp h).1
  obtain ⟨u, h1, h2⟩ := Vals.get (i := i) (x := V.int (ns.getD i 0)) r (by rw [List.getElem?_map, List.getElem?_eq_getElem (show i < ns.length by omega)]; simp [List.getD, List.getElem?_eq_getElem (show i < ns.length by omega)])
  rw [h] at h1
  cases h1
  exact h2
section
variable {X : Cx}
def rSumT (K : PySem.W.Frag) : List V → Hp → VK → Prop := fun vs H Q => ∃ (a : Addr) (ns : List Int), vs = [V.ref a] ∧ SqT K H a (ns.map V.int) ∧ Q (.int ns.sum) H
theorem cr_sumT (hc : X.calm = true) : CallR X (.builtin "sum") (rSumT X.K) := by
  intro pn s σ H vs us Q I r h
  obtain ⟨a, ns, rfl, hs, q⟩ := h
  obtain ⟨its, rv, hT, _⟩ := I.tuple hs
  rw [Vals.ref1 r]
  have hh : X.A.in1.handled = none := I.ok.hd hc
  have ht : s.heap.IsTuple a its.toArray := hT
  have lt : a < s.heap.objs.size := by obtain ⟨_, e, _⟩ := hT; exact Heap.lt_size e
  refine call_sum_walkG (wpAny_pyIter_tuple ht ?_)
  refine ⟨s.heap.objs.size, [s.heap.objs.size, a], [s.heap.objs.size], its.toArray.size, _, _, fun i => ns.getD i 0, rfl, Walks.tuple hh _ a (Nat.ne_of_lt lt) its.toArray,
    ⟨⟨_, Heap.get?_push_size _ rfl, rfl, rfl⟩, ?_⟩, fun b hb => ?_, fun i v h => vals_int_at rv (by simpa using h), fun h' tk t' hk => ?_⟩
  · obtain ⟨o, e, rest⟩ := hT
    exact ⟨o, Heap.get?_push_of_some _ e, rest⟩
  · show b < (s.heap.push _).objs.size
    rw [Heap.size_push]
    rcases List.mem_cons.mp hb with rfl | hb
    · exact Nat.lt_succ_self _
    · rw [List.mem_singleton.mp hb]; exact Nat.lt_succ_of_lt lt
  · have kp : ∀ b o, s.heap.get? b = some o → h'.get? b = some o := fun b o e => hk b o (fun hm => by
      have e1 := List.mem_singleton.mp hm
      exact absurd (e1 ▸ Heap.lt_size e) (Nat.lt_irrefl _)) (Heap.get?_push_of_some _ e)
    have hl := rv.length
    rw [List.length_map] at hl
    rw [pre_take, List.take_of_length_le (by rw [List.size_toArray, ← hl]; exact Nat.le_refl _)]
    exact ⟨.int _, H, I.kept kp, ⟨_, rfl⟩, q⟩
end
/-! ### numbers and banks, as functions of the value -/
abbrev BIG : Int := 1000000000000000000
def numB : V → Bool
  | .int i => decide (-BIG < i) && decide (i < BIG)
  | _ => false
def geB : V → Int → Bool
  | .int i, l => decide (l ≤ i)
  | _, _ => false
def numF (v : V) (l : Int) : Bool := numB v && geB v l
def toI : V → Int
  | .int i => i
  | _ => 0
def tupOf (H : Hp) : V → Option (List V)
  | .ref a => match H a with
    | some (.tup xs) => some xs
    | _ => none
  | _ => none
def begL (xs : List V) : Bool := decide (1 ≤ xs.length) && decide (xs.length ≤ 8) && xs.all (fun v => numF v 0) && numB (.int (xs.map toI).sum)
def begB (H : Hp) (v : V) : Bool := match tupOf H v with
  | some xs => begL xs
  | none => false
def bankL (H : Hp) : List V → Bool
  | [b, m, l] => begB H b && numF l 0 && numF m (3 * toI l + 1) && decide (toI m ≤ 13)
  | _ => false
def bankB (H : Hp) (v : V) : Bool := match tupOf H v with
  | some xs => bankL H xs
  | none => false
theorem tupOf_at {H : Hp} {a : Addr} {xs : List V} (h : H a = some (.tup xs)) : tupOf H (.ref a) = some xs := by
  show (match H a with | some (.tup xs) => some xs | _ => none) = some xs
  rw [h]
theorem tupOf_no {N : Addr → Prop} {H : Hp} {m n : Nat} {v : V} (h : PV m n N H v) (t : tyN H v ≠ "tuple") : tupOf H v = none := by
  cases n with
  | zero => exact h.elim
  | succ n =>
    cases h with
    | non => rfl
    | bl b => rfl
    | int i => rfl
    | str z => rfl
    | tup a xs e x l q => exact absurd (tyN_tup e) t
    | lst a xs e x l q => show (match H a with | some (.tup xs) => some xs | _ => none) = none; rw [e]
    | dct a e x => show (match H a with | some (.tup xs) => some xs | _ => none) = none; rw [e]
theorem num_no {N : Addr → Prop} {H : Hp} {m n : Nat} {v : V} (h : PV m n N H v) (t : tyN H v ≠ "int") : numB v = false := by
  cases n with
  | zero => exact h.elim
  | succ n =>
    cases h with
    | non => rfl
    | bl b => rfl
    | int i => exact absurd rfl t
    | str z => rfl
    | tup a xs e x l q => rfl
    | lst a xs e x l q => rfl
    | dct a e x => rfl
def spIsNum : Sp := fun vs H Q _ => ∃ v m n N, vs = [v] ∧ PV m n N H v ∧ Q (.bl (numB v)) H
def spNumFrom : Sp := fun vs H Q _ => ∃ v m n N l, vs = [v, .int l] ∧ PV m n N H v ∧ Q (.bl (numF v l)) H
def spIsBegin : Sp := fun vs H Q _ => ∃ v m n N, vs = [v] ∧ PV m n N H v ∧ m ≤ 2000 ∧ ∀ H', Same H H' → Q (.bl (begB H v)) H'
def spIsBank : Sp := fun vs H Q _ => ∃ v m n N, vs = [v] ∧ PV m n N H v ∧ m ≤ 2000 ∧ ∀ H', Same H H' → Q (.bl (bankB H v)) H'
section
variable {P : Program} {w : World} {K : PySem.W.Frag} {mg : Str → Option Value} {base : Heap}
theorem isB_int {N : Addr → Prop} {H : Hp} {m n : Nat} {v : V} (K : PySem.W.Frag) (h : PV m n N H v) : (isB (tyN H v) "int" = true ∧ isB (tyN H v) "bool" = false ↔ tyN H v = "int") ∧ (isB (tyN H v) "int" = true ∧ isB (tyN H v) "bool" = true → tyN H v = "bool") ∧ (isB (tyN H v) "int" = false → tyN H v ≠ "int") ∧ (isB (tyN H v) "tuple" = true → tyN H v = "tuple") ∧ (isB (tyN H v) "tuple" = false → tyN H v ≠ "tuple") := by
  have key : ∀ T ∈ ["NoneType", "bool", "int", "str", "tuple", "list", "dict"], (isB T "int" = true ∧ isB T "bool" = false ↔ T = "int") ∧ (isB T "int" = true ∧ isB T "bool" = true → T = "bool") ∧ (isB T "int" = false → T ≠ "int") ∧ (isB T "tuple" = true → T = "tuple") ∧ (isB T "tuple" = false → T ≠ "tuple") := by decide +kernel
  exact key _ (pv_ty (K := K) h).2
theorem scIN : FnScope ["value"] ["value"] (defScope sIsNum) := ⟨rfl, rfl, rfl, by decide +kernel, rfl, by decide +kernel, by decide +kernel⟩
theorem ok_isnum {f : Addr} {fd : FuncData} {t1 : Tok} (F : Fun K "is_number" "is_number" sIsNum f fd) (ms : mg "isinstance" = none) (mi : mg "int" = none) (mb : mg "bool" = none) (mF : mg "FIRST_TOO_LONG" = some (.int BIG t1)) : FnOk P w K mg base CX0 1 f fd ["value"] spIsNum := by
  refine F.ok scIN (fun vs H Q E h => ?_) (fun cdv A outer s H vs Q E hr h => ?_)
  · obtain ⟨v, m, n, N, rfl, _⟩ := h
    rfl
  · obtain ⟨v, m, n, N, rfl, hv, k⟩ := h
    refine ⟨_, pss_cons (ps_if (PW.pt (pw_or (pt_not (pt_val (pe_callB call_isP (by rfl) ms (by decide +kernel) (pa_cons (pv 0) (pa_cons (pe_tyn "int" (by rfl) mi (by decide +kernel)) pa_nil)))))
          (pw_or1 (pt_val (pe_callB call_isP (by rfl) ms (by decide +kernel) (pa_cons (pv 0) (pa_cons (pe_tyn "bool" (by rfl) mb (by decide +kernel)) pa_nil))))))) (pss_one (ps_ret pe_bl)) pss_nil)
      (pss_one (ps_ret (pe_chain op_lt op_lt (pe_un un_neg (pe_glob (v := .int BIG) rfl mF ⟨_, rfl⟩)) (pv 0) (pe_glob (v := .int BIG) rfl mF ⟨_, rfl⟩)))), ?_⟩
    obtain ⟨h1, h2, h3, _, _⟩ := isB_int K hv
    refine ⟨_, rfl, v, "int", m, n, N, rfl, by decide, hv, _, rfl, ?_⟩
    cases e : isB (tyN H v) "int" with
    | false =>
      refine iteT ?_
      refine iteT ?_
      have e2 := num_no hv (h3 e)
      rw [e2] at k
      exact k
    | true =>
      refine iteF ?_
      refine ⟨_, rfl, v, "bool", m, n, N, rfl, by decide, hv, _, rfl, ?_⟩
      cases e3 : isB (tyN H v) "bool" with
      | true =>
        refine iteT ?_
        have e2 := num_no hv (by rw [h2 ⟨e, e3⟩]; decide)
        rw [e2] at k
        exact k
      | false =>
        refine iteF ?_
        obtain ⟨i, rfl⟩ := pv_int hv (h1.mp ⟨e, e3⟩)
        refine ⟨BIG, rfl, _, rfl, _, _, rfl, rfl, _, rfl, ?_⟩
        by_cases c : -BIG < i
        · rw [decide_eq_true c]
          refine iteT ?_
          refine ⟨_, _, rfl, rfl, ?_⟩
          have e2 : numB (.int i) = decide (i < BIG) := by show (decide (-BIG < i) && decide (i < BIG)) = _; rw [decide_eq_true c]; rfl
          rw [e2] at k
          exact k
        · rw [decide_eq_false c]
          refine iteF ?_
          have e2 : numB (.int i) = false := by show (decide (-BIG < i) && decide (i < BIG)) = _; rw [decide_eq_false c]; rfl
          rw [e2] at k
          exact k
end
end Pu

namespace Pu
open PySem L2
section
variable {P : Program} {w : World} {K : PySem.W.Frag} {mg : Str → Option Value} {base : Heap}
theorem num_int {v : V} (h : numB v = true) : ∃ i, v = .int i ∧ -BIG < i ∧ i < BIG := by
  cases v with
  | int i =>
    have h' : (decide (-BIG < i) && decide (i < BIG)) = true := h
    rw [Bool.and_eq_true] at h'
    exact ⟨i, rfl, of_decide_eq_true h'.1, of_decide_eq_true h'.2⟩
  | non => cases h
  | bl b => cases h
  | str z => cases h
  | byt b => cases h
  | flt b => cases h
  | ref a => cases h
  | ty n => cases h
theorem scNF : FnScope ["value", "least"] ["value", "least"] (defScope sNumFrom) := ⟨rfl, rfl, rfl, by decide +kernel, rfl, by decide +kernel, by decide +kernel⟩
theorem ok_numfrom {f f1 : Addr} {fd fd1 : FuncData} (F : Fun K "is_number_from" "is_number_from" sNumFrom f fd) (G1 : FnOk P w K mg base CX0 1 f1 fd1 ["value"] spIsNum) (b1 : Binds K fd1 ["value"] []) (k1 : PySem.W.keepIn K (.ref f1) = true) (m1 : mg "is_number" = some (.ref f1)) :
    FnOk P w K mg base CX0 2 f fd ["value", "least"] spNumFrom := by
  refine F.ok scNF (fun vs H Q E h => ?_) (fun cdv A outer s H vs Q E hr h => ?_)
  · obtain ⟨v, m, n, N, l, rfl, _⟩ := h
    rfl
  · obtain ⟨v, m, n, N, l, rfl, hv, k⟩ := h
    refine ⟨_, pss_one (ps_ret (pe_and (pe_call G1 hr rfl m1 k1 b1 .nil pass0 (pa_cons (pv 0) pa_nil)) (pe_one (pe_cmpR op_ge (pv 0) (pv 1) (nomark _))))), ?_⟩
    refine ⟨_, rfl, v, m, n, N, rfl, hv, _, rfl, ?_⟩
    cases e : numB v with
    | false =>
      refine iteF ?_
      have e2 : numF v l = false := by unfold numF; rw [e]; rfl
      rw [e2] at k
      exact k
    | true =>
      refine iteT ?_
      obtain ⟨i, rfl, _⟩ := num_int e
      refine ⟨_, rfl, _, rfl, i, l, rfl, rfl, ?_⟩
      have e2 : numF (.int i) l = decide (l ≤ i) := by unfold numF; rw [e]; rfl
      rw [e2] at k
      exact k
theorem scBg : FnScope ["value", "held"] ["value"] (defScope sIsBegin) := ⟨rfl, rfl, rfl, by decide +kernel, rfl, by decide +kernel, by decide +kernel⟩
/-- all numbers from 0: the items are the ints that they look like -/
theorem all_ints : ∀ {xs : List V} {l : Int}, xs.all (fun v => numF v l) = true → xs = (xs.map toI).map V.int
  | [], _, _ => rfl
  | x :: r, l, h => by
    rw [List.all_cons, Bool.and_eq_true] at h
    have h1 : (numB x && geB x l) = true := h.1
    rw [Bool.and_eq_true] at h1
    obtain ⟨i, rfl, _⟩ := num_int h1.1
    rw [List.map_cons, List.map_cons, ← all_ints h.2]
    rfl
theorem ok_isbegin {f f1 f2 : Addr} {fd fd1 fd2 : FuncData} {t8 : Tok} (F : Fun K "is_begin" "is_begin" sIsBegin f fd) (ms : mg "isinstance" = none) (mt : mg "tuple" = none) (ml : mg "len" = none) (mal : mg "all" = none) (msu : mg "sum" = none)
    (mM : mg "MOST_PURSES" = some (.int 8 t8)) (G1 : FnOk P w K mg base CX0 1 f1 fd1 ["value"] spIsNum) (b1 : Binds K fd1 ["value"] []) (k1 : PySem.W.keepIn K (.ref f1) = true) (m1 : mg "is_number" = some (.ref f1))
    (G2 : FnOk P w K mg base CX0 2 f2 fd2 ["value", "least"] spNumFrom) (b2 : Binds K fd2 ["value", "least"] []) (k2 : PySem.W.keepIn K (.ref f2) = true) (m2 : mg "is_number_from" = some (.ref f2)) :
    FnOk P w K mg base CX0 3 f fd ["value"] spIsBegin := by
  refine F.ok scBg (fun vs H Q E h => ?_) (fun cdv A outer s H vs Q E hr h => ?_)
  · obtain ⟨v, m, n, N, rfl, _⟩ := h
    rfl
  · obtain ⟨v, m, n, N, rfl, hv, hm, k⟩ := h
    have r1 : Room 1 (A.deeper (PyProof.Rows.envOfC "is_begin" (defScope sIsBegin) s.heap.objs.size f cdv)) := hr.mono (by decide)
    refine ⟨_, pss_cons (ps_if (PW.pt (pw_or (pt_not (pt_val (pe_callB call_isP (by rfl) ms (by decide +kernel) (pa_cons (pv 0) (pa_cons (pe_tyn "tuple" (by rfl) mt (by decide +kernel)) pa_nil)))))
          (pw_or1 (pt_not (pt_chain op_le op_le pe_int (pe_callB call_len_seq (by rfl) ml boot_len (pa_cons (pv 0) pa_nil)) (pe_glob (v := .int 8) rfl mM ⟨_, rfl⟩)))))) (pss_one (ps_ret pe_bl)) pss_nil)
      (pss_one (ps_ret (pe_and (pe_callB (cr_all rfl) (by rfl) mal (by decide +kernel) (pa_cons (pe_lc (own := [("held", 1)]) (g := gName 1) rfl scBg.nd (pi_tup (pv 0)) (blkOk_by (own := [("held", 1)]) (N := ["value", "held"]) (sc := defScope sIsBegin) (by decide +kernel))
            (fun _ _ _ _ _ => pg_name (i := 1) scBg.nd rfl (Or.inl rfl)) (fun _ _ _ _ _ => pts_nil) (fun _ _ _ _ _ => pe_call G2 hr rfl m2 k2 b2 .nil pass0 (pa_cons (pv 1) (pa_cons pe_int pa_nil)))) pa_nil))
        (pe_one (pe_call G1 r1 rfl m1 k1 b1 .nil pass0 (pa_cons (pe_callB (cr_sumT rfl) (by rfl) msu (by decide +kernel) (pa_cons (pv 0) pa_nil)) pa_nil)))))), ?_⟩
    obtain ⟨_, _, _, h4, h5⟩ := isB_int K hv
    refine ⟨_, rfl, v, "tuple", m, n, N, rfl, by decide, hv, _, rfl, ?_⟩
    cases e : isB (tyN H v) "tuple" with
    | false =>
      refine iteT ?_
      refine iteT ?_
      have e2 : begB H v = false := by unfold begB; rw [tupOf_no hv (h5 e)]
      rw [e2] at k
      exact k H (Same.refl H)
    | true =>
      refine iteF ?_
      obtain ⟨xs, j, rfl, ⟨a, rfl, na, ha⟩, hl, hx⟩ := pv_tup hv (h4 e)
      have eb : begB H (.ref a) = begL xs := by unfold begB; rw [tupOf_at ha]
      rw [eb] at k
      refine ⟨_, rfl, a, xs, rfl, .inr (SqT.of ha), _, _, rfl, rfl, _, rfl, ?_⟩
      have no1 : ¬ (1 : Int) ≤ (xs.length : Int) → begL xs = false := fun c => by
        unfold begL; rw [decide_eq_false (show ¬ 1 ≤ xs.length by omega)]; rfl
      by_cases c1 : (1 : Int) ≤ (xs.length : Int)
      · rw [decide_eq_true c1]
        refine iteT ?_
        refine ⟨_, _, rfl, rfl, _, rfl, ?_⟩
        by_cases c2 : (xs.length : Int) ≤ 8
        · rw [decide_eq_true c2]
          refine iteF ?_
          have hlen : xs.length ≤ 8 := by omega
          have sD : ∀ (D : Addr) (l : List V), H D = none → Same H (upd H D (.lst l)) := fun D l hD => same_upd hD
          refine ⟨_, rfl, a, rfl, ⟨xs, SqT.of ha⟩, fun D hD => lc_tup (K := K) (a := a) (xs := xs) (fun i H' => H' = upd H D (.lst ((xs.take i).map fun v => V.bl (numF v 0))))
            rfl (fun i H' _ e => by rw [e]; exact SqT.of (same_upd hD _ _ ha)) ?_ ?_⟩
          · rintro i x H' hxi rfl
            have hi : i < xs.length := (List.getElem?_eq_some_iff.mp hxi).1
            refine ⟨rfl, ?_⟩
            dsimp only [tYes]
            refine iteT ?_
            refine ⟨_, rfl, x, m, j, N, 0, rfl, (PV.mon m j).same (same_upd hD) (hx x (List.mem_of_getElem? hxi)), _, upd_same, ?_, ?_⟩
            · rw [List.length_map, List.length_take]; exact small1000 (by omega)
            · rw [upd_upd, List.take_succ, hxi, List.map_append]; rfl
          · rintro H' rfl
            rw [List.take_of_length_le (Nat.le_refl _)]
            refine ⟨D, xs.map (fun v => numF v 0), rfl, SqL.of (by rw [List.map_map]; exact upd_same), _, rfl, ?_⟩
            have ea : (xs.map (fun v => numF v 0)).all id = xs.all (fun v => numF v 0) := by rw [List.all_map]; rfl
            rw [ea]
            have key : begL xs = (xs.all (fun v => numF v 0) && numB (.int (xs.map toI).sum)) := by
              unfold begL
              rw [decide_eq_true (show 1 ≤ xs.length by omega), decide_eq_true hlen]; rfl
            cases eall : xs.all (fun v => numF v 0) with
            | false =>
              refine iteF ?_
              rw [key, eall] at k
              exact k _ (same_upd hD)
            | true =>
              refine iteT ?_
              have ei := all_ints eall
              refine ⟨_, rfl, a, xs.map toI, rfl, SqT.of (by rw [← ei]; exact same_upd hD _ _ ha), .int (xs.map toI).sum, 0, 1, N, rfl, .int _, ?_⟩
              rw [key, eall] at k
              exact k _ (same_upd hD)
        · rw [decide_eq_false c2]
          refine iteT ?_
          have e2 : begL xs = false := by unfold begL; rw [decide_eq_false (show ¬ xs.length ≤ 8 by omega), Bool.and_false]; rfl
          rw [e2] at k
          exact k H (Same.refl H)
      · rw [decide_eq_false c1]
        refine iteF ?_
        refine ⟨_, rfl, ?_⟩
        refine iteT ?_
        rw [no1 c1] at k
        exact k H (Same.refl H)
end
end Pu

namespace Pu
open PySem L2
def wholeV : V → Bool
  | .int _ => true
  | _ => false
theorem whole_eq {N : Addr → Prop} {H : Hp} {m n : Nat} {v : V} (h : PV m n N H v) : (tyN H v == "int") = wholeV v := by
  cases n with
  | zero => exact h.elim
  | succ n =>
    cases h with
    | non => rfl
    | bl b => rfl
    | int i => rfl
    | str z => rfl
    | tup a xs e x l q => rw [tyN_tup e]; rfl
    | lst a xs e x l q => rw [tyN_lst e]; rfl
    | dct a e x => rw [tyN_dct e]; rfl
theorem whole_int {v : V} (h : wholeV v = true) : ∃ i, v = .int i := by
  cases v with
  | int i => exact ⟨i, rfl⟩
  | non => cases h
  | bl b => cases h
  | str z => cases h
  | byt b => cases h
  | flt b => cases h
  | ref a => cases h
  | ty n => cases h
def okA (v : V) : Bool := wholeV v && decide (0 ≤ toI v)
theorem okA_int {v : V} (h : okA v = true) : ∃ i, v = .int i ∧ 0 ≤ i := by
  unfold okA at h
  rw [Bool.and_eq_true] at h
  obtain ⟨i, rfl⟩ := whole_int h.1
  exact ⟨i, rfl, of_decide_eq_true h.2⟩
theorem okA_ints : ∀ {xs : List V}, xs.all okA = true → xs = (xs.map toI).map V.int ∧ ∀ z ∈ xs.map toI, 0 ≤ z
  | [], _ => ⟨rfl, fun z h => nomatch h⟩
  | x :: r, h => by
    rw [List.all_cons, Bool.and_eq_true] at h
    obtain ⟨i, rfl, hi⟩ := okA_int h.1
    obtain ⟨h1, h2⟩ := okA_ints h.2
    refine ⟨by rw [List.map_cons, List.map_cons, ← h1]; rfl, fun z hz => ?_⟩
    rw [List.map_cons] at hz
    rcases List.mem_cons.mp hz with e | e
    · rw [e]; exact hi
    · exact h2 z e
theorem le_sum : ∀ {ns : List Int}, (∀ z ∈ ns, 0 ≤ z) → 0 ≤ ns.sum ∧ ∀ z ∈ ns, z ≤ ns.sum
  | [], _ => ⟨Int.le_refl 0, fun z h => nomatch h⟩
  | x :: r, h => by
    obtain ⟨h1, h2⟩ := le_sum (ns := r) fun z hz => h z (List.mem_cons_of_mem _ hz)
    have h0 := h x List.mem_cons_self
    rw [List.sum_cons]
    refine ⟨by omega, fun z hz => ?_⟩
    rcases List.mem_cons.mp hz with e | e
    · rw [e]; omega
    · have := h2 z e; omega
theorem numF_int (i l : Int) : numF (.int i) l = (decide (-BIG < i) && decide (i < BIG) && decide (l ≤ i)) := rfl
theorem numF_ok {v : V} (h : numF v 0 = true) : okA v = true := by
  unfold numF at h
  rw [Bool.and_eq_true] at h
  obtain ⟨i, rfl, _⟩ := num_int h.1
  have h2 : decide (0 ≤ i) = true := h.2
  show (true && decide (0 ≤ i)) = true
  rw [h2]; rfl
theorem all_ok {xs : List V} (h : xs.all (fun v => numF v 0) = true) : xs.all okA = true := by
  rw [List.all_eq_true] at h ⊢
  exact fun v hv => numF_ok (h v hv)
/-- the law's reading of what is there at first, beside the program's -/
theorem begL_own {xs : List V} (h1 : 1 ≤ xs.length) (h8 : xs.length ≤ 8) (ho : xs.all okA = true) : begL xs = decide ((xs.map toI).sum < BIG) := by
  obtain ⟨e, p⟩ := okA_ints ho
  obtain ⟨s0, sm⟩ := le_sum p
  unfold begL
  rw [decide_eq_true h1, decide_eq_true h8]
  by_cases c : (xs.map toI).sum < BIG
  · rw [decide_eq_true c]
    have ha : xs.all (fun v => numF v 0) = true := by
      rw [List.all_eq_true]
      intro v hv
      obtain ⟨i, rfl, hi⟩ := okA_int (List.all_eq_true.mp ho v hv)
      have := sm i (List.mem_map.mpr ⟨_, hv, rfl⟩)
      rw [numF_int, decide_eq_true (show -BIG < i by omega), decide_eq_true (show i < BIG by omega), decide_eq_true hi]; rfl
    rw [ha]
    show (true && (decide (-BIG < (xs.map toI).sum) && decide ((xs.map toI).sum < BIG))) = true
    rw [decide_eq_true c, decide_eq_true (show -BIG < (xs.map toI).sum by omega)]; rfl
  · rw [decide_eq_false c]
    show (_ && (decide (-BIG < (xs.map toI).sum) && decide ((xs.map toI).sum < BIG))) = false
    rw [decide_eq_false c, Bool.and_false, Bool.and_false]
theorem begL_not {xs : List V} (ho : xs.all okA = false) : begL xs = false := by
  have h : xs.all (fun v => numF v 0) = false := by
    cases e : xs.all (fun v => numF v 0) with
    | false => rfl
    | true => rw [all_ok e] at ho; cases ho
  unfold begL
  rw [h, Bool.and_false]; rfl
theorem last_own {li mi : Int} : (decide (0 ≤ li) && (decide (1 ≤ mi) && (decide (3 * li < mi) && decide (mi < 14)))) = (numF (.int li) 0 && numF (.int mi) (3 * li + 1) && decide (mi ≤ 13)) := by
  have hB : BIG = 1000000000000000000 := rfl
  rw [numF_int, numF_int, Bool.eq_iff_iff]
  simp only [Bool.and_eq_true, decide_eq_true_eq]
  omega
theorem b_and3 (a b c : Bool) : (a && b && c) = (a && (b && c)) := Bool.and_assoc a b c
section
variable {P : Program} {w : World} {K : PySem.W.Frag} {mg : Str → Option Value} {base : Heap}
theorem scBk : FnScope ["value", "begin", "members", "lies"] ["value"] (defScope sIsBank) := ⟨rfl, rfl, rfl, by decide +kernel, rfl, by decide +kernel, by decide +kernel⟩
theorem ok_isbank {f f2 f3 : Addr} {fd fd2 fd3 : FuncData} {t13 : Tok} (F : Fun K "is_bank" "is_bank" sIsBank f fd) (ms : mg "isinstance" = none) (mt : mg "tuple" = none) (ml : mg "len" = none) (mM : mg "MOST_MEMBERS" = some (.int 13 t13))
    (G2 : FnOk P w K mg base CX0 2 f2 fd2 ["value", "least"] spNumFrom) (b2 : Binds K fd2 ["value", "least"] []) (k2 : PySem.W.keepIn K (.ref f2) = true) (m2 : mg "is_number_from" = some (.ref f2))
    (G3 : FnOk P w K mg base CX0 3 f3 fd3 ["value"] spIsBegin) (b3 : Binds K fd3 ["value"] []) (k3 : PySem.W.keepIn K (.ref f3) = true) (m3 : mg "is_begin" = some (.ref f3)) :
    FnOk P w K mg base CX0 4 f fd ["value"] spIsBank := by
  refine F.ok scBk (fun vs H Q E h => ?_) (fun cdv A outer s H vs Q E hr h => ?_)
  · obtain ⟨v, m, n, N, rfl, _⟩ := h
    rfl
  · obtain ⟨v, m, n, N, rfl, hv, hm, k⟩ := h
    have r2 : Room 2 (A.deeper (PyProof.Rows.envOfC "is_bank" (defScope sIsBank) s.heap.objs.size f cdv)) := hr.mono (by decide)
    refine ⟨_, pss_cons (ps_if (PW.pt (pw_or (pt_not (pt_val (pe_callB call_isP (by rfl) ms (by decide +kernel) (pa_cons (pv 0) (pa_cons (pe_tyn "tuple" (by rfl) mt (by decide +kernel)) pa_nil)))))
          (pw_or1 (pt_cmpR op_ne (pe_callB call_len_seq (by rfl) ml boot_len (pa_cons (pv 0) pa_nil)) pe_int (nomark _))))) (pss_one (ps_ret pe_bl)) pss_nil)
      (pss_cons (ps_asg (pv 0) (pg_tup rfl (pgs_cons (pg_name (i := 1) scBk.nd rfl (Or.inl rfl)) (pgs_cons (pg_name (i := 2) scBk.nd rfl (Or.inl rfl)) (pgs_cons (pg_name (i := 3) scBk.nd rfl (Or.inl rfl)) pgs_nil)))))
      (pss_cons (ps_if (PW.pt (pw_or (pt_not (pt_val (pe_call G3 hr rfl m3 k3 b3 .nil pass0 (pa_cons (pv 1) pa_nil)))) (pw_or1 (pt_not (pt_val (pe_call G2 r2 rfl m2 k2 b2 .nil pass0 (pa_cons (pv 3) (pa_cons pe_int pa_nil)))))))) (pss_one (ps_ret pe_bl)) pss_nil)
      (pss_one (ps_ret (pe_and (pe_call G2 r2 rfl m2 k2 b2 .nil pass0 (pa_cons (pv 2) (pa_cons (pe_op op_add (pe_op op_mul pe_int (pv 3)) pe_int) pa_nil))) (pe_one (pe_cmpR op_le (pv 2) (pe_glob (v := .int 13) rfl mM ⟨_, rfl⟩) (nomark _)))))))), ?_⟩
    obtain ⟨_, _, _, h4, h5⟩ := isB_int K hv
    refine ⟨_, rfl, v, "tuple", m, n, N, rfl, by decide, hv, _, rfl, ?_⟩
    cases e : isB (tyN H v) "tuple" with
    | false =>
      refine iteT ?_
      refine iteT ?_
      have e2 : bankB H v = false := by unfold bankB; rw [tupOf_no hv (h5 e)]
      rw [e2] at k
      exact k H (Same.refl H)
    | true =>
      refine iteF ?_
      obtain ⟨xs, j, rfl, ⟨a, rfl, na, ha⟩, hl, hx⟩ := pv_tup hv (h4 e)
      have eb : bankB H (.ref a) = bankL H xs := by unfold bankB; rw [tupOf_at ha]
      rw [eb] at k
      refine ⟨_, rfl, a, xs, rfl, .inr (SqT.of ha), rfl, _, rfl, ?_⟩
      by_cases c3 : xs.length = 3
      · have e3 : (!decide (V.int (xs.length : Int) = V.int 3)) = false := by rw [c3]; rfl
        rw [e3]
        refine iteF ?_
        obtain ⟨b, mm, l, rfl⟩ : ∃ b mm l, xs = [b, mm, l] := by
          match xs, c3 with
          | [b, mm, l], _ => exact ⟨b, mm, l, rfl⟩
        refine ⟨_, rfl, a, _, rfl, SqT.of ha, rfl, _, _, rfl, _, _, rfl, _, _, rfl, rfl, ?_⟩
        have hb := hx b (by simp)
        have hmm := hx mm (by simp)
        have hll := hx l (by simp)
        refine ⟨_, rfl, b, m, j, N, rfl, hb, hm, fun H1 s1 => ⟨_, rfl, ?_⟩⟩
        have key : bankL H [b, mm, l] = (begB H b && numF l 0 && numF mm (3 * toI l + 1) && decide (toI mm ≤ 13)) := rfl
        cases ebg : begB H b with
        | false =>
          refine iteT ?_
          refine iteT ?_
          rw [key, ebg] at k
          exact k H1 s1
        | true =>
          refine iteF ?_
          refine ⟨_, rfl, l, m, j, N, 0, rfl, (PV.mon m j).same s1 hll, _, rfl, ?_⟩
          cases el : numF l 0 with
          | false =>
            refine iteT ?_
            rw [key, ebg, el] at k
            exact k H1 s1
          | true =>
            refine iteF ?_
            obtain ⟨li, rfl, hli⟩ := okA_int (numF_ok el)
            refine ⟨_, rfl, _, rfl, _, _, rfl, rfl, .inl ⟨by decide, by decide⟩, _, _, rfl, rfl, mm, m, j, N, 3 * li + 1, rfl, (PV.mon m j).same s1 hmm, _, rfl, ?_⟩
            have e3 : numF mm (3 * toI (.int li) + 1) = numF mm (3 * li + 1) := rfl
            cases em : numF mm (3 * li + 1) with
            | false =>
              refine iteF ?_
              rw [key, ebg, el, e3, em] at k
              exact k H1 s1
            | true =>
              refine iteT ?_
              obtain ⟨mi, rfl, _⟩ : ∃ i, mm = .int i ∧ True := by
                unfold numF at em
                rw [Bool.and_eq_true] at em
                obtain ⟨i, h, _⟩ := num_int em.1
                exact ⟨i, h, trivial⟩
              refine ⟨_, rfl, mi, 13, rfl, rfl, ?_⟩
              rw [key, ebg, el, e3, em] at k
              exact k H1 s1
      · have e3 : (!decide (V.int (xs.length : Int) = V.int 3)) = true := by
          rw [decide_eq_false (fun q => c3 (by have := V.int.inj q; omega))]; rfl
        rw [e3]
        refine iteT ?_
        have e2 : bankL H xs = false := by
          match xs, c3 with
          | [], _ => rfl
          | [_], _ => rfl
          | [_, _], _ => rfl
          | [_, _, _], c => exact absurd rfl c
          | _ :: _ :: _ :: _ :: _, _ => rfl
        rw [e2] at k
        exact k H (Same.refl H)
end
end Pu

namespace Pu
open PySem L2
abbrev sCheck : Stmt := top 13
abbrev sCaught : Stmt := top 30
def needV (H : Hp) (v : V) : Int := match tupOf H v with
  | some [_, m, l] => toI m - toI l
  | _ => 0
def spCheck (C : Addr) : Sp := fun vs H Q E => ∃ v m n N, vs = [v] ∧ PV m n N H v ∧ m ≤ 2000 ∧ (bankB H v = true → ∀ H', Same H H' → Q .non H') ∧ (bankB H v = false → ∀ H', Same H H' → E (.ref C) none H')
def spNeed (C : Addr) : Sp := fun vs H Q E => ∃ v m n N, vs = [v] ∧ PV m n N H v ∧ m ≤ 2000 ∧ (bankB H v = true → ∀ H', Same H H' → Q (.int (needV H v)) H') ∧ (bankB H v = false → ∀ H', Same H H' → E (.ref C) none H')
/-- an error class of the program: over ValueError, without an __init__ of its own -/
structure Er (K : PySem.W.Frag) (mg : Str → Option Value) (x : Str) (C : Addr) : Prop where
  xi : PySem.W.excIn K C [.type "ValueError", .type "Exception", .type "BaseException", .type "object"] "ValueError.__new__" = true
  g : mg x = some (.ref C)
  k : PySem.W.keepIn K (.ref C) = true
  b : PySem.W.subIn K (.ref C) (.type "BaseException") = some true
  t : PySem.W.typeIn K (.ref C) = some (.type "type")
theorem bank_tup {N : Addr → Prop} {H : Hp} {m n : Nat} {v : V} (h : PV m n N H v) (b : bankB H v = true) : ∃ a x mi li, v = .ref a ∧ H a = some (.tup [x, .int mi, .int li]) := by
  by_cases t : tyN H v = "tuple"
  · obtain ⟨xs, k, _, ⟨a, rfl, _, ha⟩, _, _⟩ := pv_tup h t
    unfold bankB at b
    rw [tupOf_at ha] at b
    match xs, ha, b with
    | [x, mm, l], ha, b =>
      have b' : (begB H x && numF l 0 && numF mm (3 * toI l + 1) && decide (toI mm ≤ 13)) = true := b
      simp only [Bool.and_eq_true] at b'
      obtain ⟨⟨⟨_, h1⟩, h2⟩, _⟩ := b'
      unfold numF at h1 h2
      rw [Bool.and_eq_true] at h1 h2
      obtain ⟨li, rfl, _⟩ := num_int h1.1
      obtain ⟨mi, rfl, _⟩ := num_int h2.1
      exact ⟨a, x, mi, li, rfl, ha⟩
    | [], _, b => cases b
    | [_], _, b => cases b
    | [_, _], _, b => cases b
    | _ :: _ :: _ :: _ :: _, _, b => cases b
  · unfold bankB at b
    rw [tupOf_no h t] at b
    cases b
section
variable {P : Program} {w : World} {K : PySem.W.Frag} {mg : Str → Option Value} {base : Heap}
theorem scCk : FnScope ["bank"] ["bank"] (defScope sCheck) := ⟨rfl, rfl, rfl, by decide +kernel, rfl, by decide +kernel, by decide +kernel⟩
theorem ok_check {f f4 C : Addr} {fd fd4 : FuncData} (F : Fun K "check_bank" "check_bank" sCheck f fd) (R : Er K mg "BadBank" C) (G4 : FnOk P w K mg base CX0 4 f4 fd4 ["value"] spIsBank) (b4 : Binds K fd4 ["value"] []) (k4 : PySem.W.keepIn K (.ref f4) = true) (m4 : mg "is_bank" = some (.ref f4)) :
    FnOk P w K mg base (L2.CX P w) 5 f fd ["bank"] (spCheck C) := by
  refine F.okX scCk (fun vs H Q E h => ?_) (fun cdv A outer s H vs Q E hr h => ?_)
  · obtain ⟨v, m, n, N, rfl, _⟩ := h
    rfl
  · obtain ⟨v, m, n, N, rfl, hv, hm, k1, k2⟩ := h
    refine ⟨_, pss_one (ps_if (pt_not (pt_val (pe_call G4 hr rfl m4 k4 b4 .nil pass0 (pa_cons (pv 0) pa_nil))))
      (pss_one (ps_raise rfl (takes_of rfl rfl rfl rfl) (pmk_own PySem.F.excBase_ValueError R.xi R.g R.k (raises_own R.b R.t) rfl))) pss_nil), ?_⟩
    refine ⟨_, rfl, v, m, n, N, rfl, hv, hm, fun H' s' => ⟨_, rfl, ?_⟩⟩
    cases e : bankB H v with
    | true =>
      refine iteF ?_
      exact k1 e H' s'
    | false =>
      refine iteT ?_
      exact k2 e H' s'
end
end Pu

namespace Pu
open PySem PySem.Spec PyProof.Rows L2
/-! ### try: body, except x as n: suite, the error being told to the suite as an object that stays known -/
/-- an error that was caught: its class, its own dict -/
def ExV (cls : Value) (d : Option Addr) (a : Addr) : HO := .ext fun h => ∃ (ob : Obj) (vs : Array Value), h.get? a = some ob ∧ Zc cls d ob ∧ ob.data = .fields vs
theorem exV_ok {P : Program} {w : World} {H : Hp} {h : Heap} {a : Addr} {cls : Value} {d : Option Addr} {ob : Obj} {vs : Array Value} (e : h.get? a = some ob) (z : Zc cls d ob) (f : ob.data = .fields vs) : ObjOk P w H h a (ExV cls d a) :=
  ⟨⟨ob, vs, e, z, f⟩, ⟨ob, e⟩, fun _ _ ⟨o, v, q, r⟩ k => ⟨o, v, k o q, r⟩⟩
/-- what «except x as n» wishes: the error stands at a, tracked -/
def wHeld (K : PySem.W.Frag) (c : Value) (i : Nat) (ts : Addr → Value → Option Addr → TS) (Wo : WX) (D : Ends) : WX := fun cls d σ H => ∃ b, PySem.W.exmOne K cls c = some b ∧
  (b = true → ∀ a, H a = none → ts a cls d { nx := fun σ' H' => D.nx (σ'.set i none) H', rt := D.rt, bk := fun σ' H' => D.bk (σ'.set i none) H', ct := fun σ' H' => D.ct (σ'.set i none) H' } (σ.set i (some (.ref a))) (upd H a (ExV cls d a))) ∧ (b = false → Wo cls d σ H)
section
variable {X : Cx} {pins : List (Addr × Obj)} {σ : L2.St} {H : Hp} {sI s : Shared}
/-- the error was not there at the entry -/
theorem not_before {B : Heap} {a : Addr} (hex : X.ex = []) (I : Inv X pins σ H sI) (nb : ∀ b o, sI.heap.get? b = some o → b ∉ frs X.stack → B.get? b = some o) (hB : B.get? a = none) (nf : a ∉ frs X.stack) : X.s_0.heap.get? a = none := by
  cases e : X.s_0.heap.get? a with
  | none => rfl
  | some o =>
    obtain ⟨o', q⟩ := I.base.there a o e (by rw [hex]; exact fun z => nomatch z)
    have z := nb a o' q nf
    rw [hB] at z
    cases z
/-- an error object at a, not there at the entry, becomes a tracked one -/
theorem track {a : Addr} {ob : Obj} {vs : Array Value} {cls : Value} {d : Option Addr} (I : Inv X pins σ H s) (na : H a = none) (n0 : X.s_0.heap.get? a = none) (nL : a ≠ X.env.locals) (np : ∀ p ∈ X.pn ++ pins, p.1 ≠ a)
    (ha : s.heap.get? a = some ob) (hz : Zc cls d ob) (hd : ob.data = .fields vs) : Inv X pins σ (upd H a (ExV cls d a)) s := by
  have ne0 : ∀ b o, X.s_0.heap.get? b = some o → b ≠ a := fun b o e z => by rw [z, n0] at e; cases e
  have neH : ∀ b u, H b = some u → b ≠ a := fun b u e z => by rw [z, na] at e; cases e
  have neC : ∀ y c, X.env.cells.lookup y = some c → c ≠ a := fun y c e z => by
    obtain ⟨v, o, ho, hv⟩ := I.cell y c e
    rw [z, ha] at ho
    cases ho
    rw [hd] at hv
    cases hv
  refine ⟨I.ok, I.os, I.bare, ⟨I.base.keep, I.base.slot, fun b o e n hx => ?_, I.base.there, fun b xs e => ?_, fun b o u e => ?_, fun b ps e => ?_⟩, I.loc, I.cell, ?_, fun y c e => ?_, fun p hp => ?_, ?_, I.len⟩
  · rw [upd_ne (ne0 b o e)]; exact I.base.free b o e n hx
  · have q := I.base.tups b xs e
    rw [upd_ne (neH b _ q)]; exact q
  · have q := I.base.frzs b o u e
    rw [upd_ne (neH b _ q)]; exact q
  · obtain ⟨more, q⟩ := I.base.tbls b ps e
    exact ⟨more, by rw [upd_ne (neH b _ q)]; exact q⟩
  · rw [upd_ne nL.symm]; exact I.free
  · rw [upd_ne (neC y c e)]; exact I.freeC y c e
  · obtain ⟨e, n, r1, r2, r3⟩ := I.pin p hp
    exact ⟨e, by rw [upd_ne (np p hp)]; exact n, r1, r2, r3⟩
  · exact I.hok.laidN (fun _ _ e => e) na (exV_ok ha hz hd)
/-- into the suite, without a pin for the error -/
theorem to_suite (I : Inv X pins σ H s) (a : Addr) : Inv (X.suite a (X.pn ++ pins)) [] σ H s :=
  ⟨I.ok.suite _ _, I.os, I.bare, I.base, I.loc, I.cell, I.free, I.freeC, fun p hp => I.pin p (by rw [List.append_nil] at hp; exact hp), I.hok, I.len⟩
theorem of_suite {a : Addr} {q : List (Addr × Obj)} (I : Inv (X.suite a (X.pn ++ pins)) q σ H s) (ok : X.Ok) : Inv X pins σ H s :=
  ⟨ok, I.os, I.bare, I.base, I.loc, I.cell, I.free, I.freeC, fun p hp => I.pin p (List.mem_append_left _ hp), I.hok, I.len⟩
end
section
variable {X : Cx} {x n : Str} {c : Value} {i : Nat} {body suite : List Stmt} {b₀ : Stmt} {p1 p2 p3 : Pos} {tb : WX → TS} {ts : Addr → Value → Option Addr → TS} {Wo : WX}
theorem ps_try_held (hs : X.stack = X.env :: X.outer) (hf : X.env.frame = some X.env.locals) (hex : X.ex = []) (hN : X.N.Nodup) (hi : X.N[i]? = some n) (hln : X.env.kindOf n = some .local) (hc : Names X x c) (tk : Takes X Wo)
    (hb : ∀ (W : WX) (pn : List (Addr × Obj)) (xe : Value → Shared → Prop), Takes (X.tr pn xe) W → PassesOwn (model X.prog X.w) X.A X.env xe → PSs (X.tr pn xe) body (tb W))
    (hsu : ∀ (a : Addr) (cls : Value) (d : Option Addr) (pn : List (Addr × Obj)), PSs (X.suite a pn) (b₀ :: suite) (ts a cls d)) :
    PS X (.Try body [.ExceptHandler (some (.Name x p1)) (some n) (b₀ :: suite) p2] [] [] p3) (fun D σ H => tb (wHeld X.K c i ts Wo D) D σ H) := by
  refine ⟨fun pins s σ H D I h => ?_⟩
  have ok := I.ok
  have fr : X.A.frames = some (X.env :: X.outer) := by rw [ok.frames, hs]
  refine wpAny_Try_except ?_
  refine wpAny_mono ((hb (wHeld X.K c i ts Wo D) (X.pn ++ pins) (fun er t1 => wpAny (model X.prog X.w) X.A (noteFrame er X.env) (fun _ t2 => wpAny (model X.prog X.w) X.A (setFlight er none) (fun _ t3 =>
    wpAny (model X.prog X.w) X.A (handleBy er X.env [.ExceptHandler (some (.Name x p1)) (some n) (b₀ :: suite) p2]) (SP X pins D) X.xe t3) X.xe t2) X.xe t1) (fun u t0 xx => ?_) PassesOwn.looking).run [] s σ H D (I.toTry _) h) (fun fl t1 hsp => ?_) (fun er t1 he => he)
  · obtain ⟨a, B, sI, pin2, σ1, H1, cls, d, rfl, J0, nb, up, sky, na, eo, ag, b, hb1, hyes, hno⟩ := xx
    have J : Inv X pins σ1 H1 sI := J0.ofTry ok
    have sky1 : Sky B (X.env :: X.outer) a (Zc cls d) X.env.locals t0.heap := by rw [← hs]; exact sky
    show wpAny (model X.prog X.w) X.A (noteFrame (.ref a) X.env) _ _ _
    refine Sky.land Zc.steady fr hf sky1 fun h3 fly up3 => ?_
    have J3 : Inv X pins σ1 H1 { t0 with heap := h3 } := J.landed nb fly.1 (up.trans up3) eo ag
    obtain ⟨ob, vs, hob, hz, hd⟩ := fly.there
    have notF : a ∉ frs (X.env :: X.outer) := fun hm => by
      obtain ⟨_, o', e', hnf⟩ := fly.2.2.1.mem hm
      rw [hob] at e'
      cases e'
      exact hnf _ hd
    have nL : a ≠ X.env.locals := fun z => notF (List.mem_filterMap.mpr ⟨X.env, List.mem_cons_self, by rw [hf, z]⟩)
    have nst : a ∉ frs X.stack := by rw [hs]; exact notF
    have n0 := not_before hex J nb fly.2.1 nst
    have npin : ∀ p ∈ X.pn ++ pins, p.1 ≠ a := fun p hp z => by
      obtain ⟨e, _, r1, r2, _⟩ := J.pin p hp
      have q := nb p.1 p.2 e (fun hm => (List.mem_cons.mp (J.stkSub _ hm)).elim r1 r2)
      rw [z, fly.2.1] at q
      cases q
    have S3 := to_suite J3 a
    refine wpAny_handleBy_cons (codeAny_handlers_test ?_) (by intro q; cases q)
    have LT : PySem.W.Looks (model X.prog X.w) h3 (typeOf (.ref a)) cls := fun _ _ _ _ k q => wpAny_typeOf_ref (k _ _ hob) (by rw [hz.1]; exact q)
    have LM := PySem.W.exm_one (M := model X.prog X.w) J3.kIn LT hb1
    have see : ∀ {Q : Value → Shared → Prop} {E : Value → Shared → Prop}, Q c { t0 with heap := h3 } → wpAny (model X.prog X.w) (X.A.mark (some (.ref a))) (eval (.Name x p1) X.env) Q E { t0 with heap := h3 } := fun {Q E} q => by
      obtain ⟨hg, hdb, hm | ⟨hm, hv, hnn⟩⟩ := hc
      · exact ld_glob (X := X.suite a (X.pn ++ pins)) S3 hg hm q hdb
      · exact ld_blt (X := X.suite a (X.pn ++ pins)) S3 hg hm hv q hnn hdb
    refine see (LM.here ?_)
    cases b with
    | true =>
      refine codeAny_handlers_suite_as ?_
      refine HandSPX.lands_againZ fly fun h4 fly4 up4 => ?_
      have J4 : Inv X pins σ1 H1 { t0 with heap := h4 } := J.landed nb fly4.1 ((up.trans up3).trans up4) eo ag
      obtain ⟨ob4, vs4, hob4, hz4, hd4⟩ := fly4.there
      have T4 := to_suite (track J4 na n0 nL npin hob4 hz4 hd4) a
      refine store_ok (X := X.suite a (X.pn ++ pins)) (v := .ref a) T4 hN hi (.inl hln) rfl (fun s5 T5 => ?_) (.inr hln)
      refine wpAny_mono ((hsu a cls d (X.pn ++ pins)).run [] s5 _ _ _ T5 (hyes rfl a na)) (fun fl t6 hsp => ?_) (fun _ _ z => False.elim z)
      have fin : ∀ {σ6 : L2.St} {H6 : Hp} {Q : Shared → Prop}, Inv (X.suite a (X.pn ++ pins)) [] σ6 H6 t6 → (∀ t7, Inv X pins (σ6.set i none) H6 t7 → Q t7) →
          wpAny (model X.prog X.w) X.A (do bindName X.env n .none; unbindBehindTheSuite X.env n p2) (fun _ t7 => Q t7) X.xe t6 := fun {σ6 H6 Q} T6 hq => gone_ok (of_suite T6 ok) hN hi hln hq
      cases fl with
      | next =>
        obtain ⟨σ6, H6, T6, q6⟩ := hsp
        exact fin T6 fun _ J7 => ⟨_, _, J7, q6⟩
      | brk =>
        obtain ⟨σ6, H6, T6, q6⟩ := hsp
        exact fin T6 fun _ J7 => ⟨_, _, J7, q6⟩
      | cont =>
        obtain ⟨σ6, H6, T6, q6⟩ := hsp
        exact fin T6 fun _ J7 => ⟨_, _, J7, q6⟩
      | ret u =>
        obtain ⟨v6, σ6, H6, T6, r6, q6⟩ := hsp
        exact fin T6 fun _ J7 => ⟨_, _, _, J7, r6, q6⟩
    | false =>
      show wpAny _ X.A (handleBy (.ref a) X.env []) _ _ _
      refine wpAny_handleBy_nil ?_
      obtain ⟨g1, g2, g3, oe, us, T, oT, ts', e1, e2, e3, e4, e5⟩ := id fly
      unfold PySem.passOn
      refine wpAny_bind (wpAny_field e1 e3 e4 ?_)
      rw [if_neg (show ¬ ((Value.ref T == Value.none) = true) by simp)]
      have out : wpAny (model X.prog X.w) X.A (setFlight (.ref a) X.env.frame) (fun _ t4 => wpAny (model X.prog X.w) X.A (throw (.ref a) : Sem Flow) (SP X pins D) X.xe t4) X.xe { t0 with heap := h3 } := by
        rw [hf]
        refine HandSPX.setFlight_upZ fly fun h4 hh4 up4 => wpAny_throw (tk _ _ ?_)
        exact ⟨a, B, sI, pins, σ1, H1, cls, d, rfl, J, nb, (up.trans up3).trans up4, .inr (.inr (by rw [hs]; exact hh4)), na, eo, ag, hno rfl⟩
      first
        | exact wpAny_bind (wpAny_pure (wpAny_bind out))
        | exact wpAny_bind out
  · cases fl with
    | next =>
      obtain ⟨σ1, H1, J1, q⟩ := hsp
      exact wpAny_execs_nil ⟨σ1, H1, J1.ofTry ok, q⟩
    | brk =>
      obtain ⟨σ1, H1, J1, q⟩ := hsp
      exact ⟨σ1, H1, J1.ofTry ok, q⟩
    | cont =>
      obtain ⟨σ1, H1, J1, q⟩ := hsp
      exact ⟨σ1, H1, J1.ofTry ok, q⟩
    | ret u =>
      obtain ⟨v, σ1, H1, J1, r, q⟩ := hsp
      exact ⟨v, σ1, H1, J1.ofTry ok, r, q⟩
end
end Pu

namespace Pu
open PySem L2 LamX
/-- the error that some work raises, or None: tl is what the work is told to do -/
def TTc (K : PySem.W.Frag) (PE0 : Addr) : (XK → Hp → VK → Prop) → Hp → VK → Prop := fun tl H Q => ∀ (E1 : XK) (Q1 : VK),
  (∀ cls d H', (∃ b, PySem.W.exmOne K cls (.ref PE0) = some b ∧ (b = true → ∀ a, H' a = none → Q (.ref a) (upd H' a (ExV cls d a))) ∧ (b = false → False)) → E1 cls d H') → (∀ v H', Q .non H' → Q1 v H') → tl E1 H Q1
theorem scCa : FnScope ["work", "caught", "error"] ["work"] (defScope sCaught) := ⟨rfl, rfl, rfl, by decide +kernel, rfl, by decide +kernel, by decide +kernel⟩
theorem takes_len {X : Cx} {W : WX} (tk : Takes X W) : Takes X (fun cls d σ H => σ.length = X.N.length → W cls d σ H) := fun u s' ⟨a, B, sI, pins, σ, H, cls, d, e, I, nb, up, sky, na, os, ag, w⟩ =>
  tk u s' ⟨a, B, sI, pins, σ, H, cls, d, e, I, nb, up, sky, na, os, ag, w I.len⟩
theorem caught_gives {X : Cx} {g PE0 : Addr} {cdg : Value} {q : Str} (hm : X.mg "PurseError" = some (.ref PE0)) :
    GivesTo X ["work", "caught", "error"] "_law_caught" (defScope sCaught) g cdg (defBody sCaught) "work" q (TTc X.K PE0) := by
  intro f c' s H Q tl act hc h
  have hgl : Gl (cxOf C8.CX0 X.prog X.w X.K X.mg X.base ["work", "caught", "error"] "_law_caught" (defScope sCaught) g cdg X.A X.stack s H C8.E0).nox "PurseError" := rfl
  refine ⟨_, pss_cons (ps_set (X := (cxOf C8.CX0 X.prog X.w X.K X.mg X.base ["work", "caught", "error"] "_law_caught" (defScope sCaught) g cdg X.A X.stack s H C8.E0).nox) (i := 1) scCa.nd rfl (Or.inl rfl) pe_non)
    (pss_cons (ps_try_held (X := (cxOf C8.CX0 X.prog X.w X.K X.mg X.base ["work", "caught", "error"] "_law_caught" (defScope sCaught) g cdg X.A X.stack s H C8.E0).nox) (c := .ref PE0) (i := 2) (Wo := fun _ _ _ _ => False)
        (tb := fun W D σ H => ∃ Ech : XK, (∀ cls d σ' H', Ech cls d H' → σ'.length = 3 → W cls d σ' H') ∧ σ[0]? = some (some (.ref f)) ∧ H c' = some (CodeO c' q) ∧ tl Ech H (fun _ H' => D.nx σ H'))
        (ts := fun _ _ _ => tAsg (tVar 2) (gName 1))
        rfl rfl rfl scCa.nd rfl rfl ⟨hgl, by decide, .inl hm⟩ LamX.takes0 (fun W pn xe tk _ => ?_) (fun a cls d pn => pss_one (ps_set (i := 1) scCa.nd rfl (Or.inl rfl) (pv 2))))
    (pss_one (ps_ret (pv 1)))), ?_⟩
  · refine ⟨fun pins s' σ H' D I h' => ?_⟩
    obtain ⟨Ech, hW, h1, h2, h3⟩ := h'
    exact (pss_one (ps_expr (act _ pn xe Ech _ _ (takes_len tk) (fun cls d σ' H' q => hW cls d σ' H' q)))).run pins s' σ H' D I ⟨h1, h2, h3⟩
  · refine ⟨fun cls d H' => ∃ b, PySem.W.exmOne X.K cls (.ref PE0) = some b ∧ (b = true → ∀ a, H' a = none → Q (.ref a) (upd H' a (ExV cls d a))) ∧ (b = false → False), fun cls d σ' H' ⟨b, e1, e2, e3⟩ hl => ⟨b, e1, fun hb a na => ?_, fun hb => e3 hb⟩, rfl, hc, h _ _ (fun _ _ _ q => q) fun v H' q => ⟨_, rfl, q⟩⟩
    match σ', hl with
    | [x, y, z], _ => exact ⟨_, rfl, _, rfl, e2 hb a na⟩
end Pu

namespace Pu
open PySem L2 LamX
abbrev sLaw : Stmt := top 43
/-! ### calls by a keyword alone -/
section
variable {X : Cx} {CX : CXT} {k : Nat} {f : Addr} {fd : FuncData} {ps ks : List Str} {sp : Sp} {E : XK} {x : Str} {p pos : Pos} {kws : List Keyword} {tk : TA} {g : List Value → List Value → List Value} {gV : List V → List V → List V}
theorem pe_callKw (F : FnOk X.prog X.w X.K X.mg X.base CX k f fd ps sp) (hr : Room k X.A) (hg : Gl X x) (hm : X.mg x = some (.ref f)) (hk : PySem.W.keepIn X.K (.ref f) = true) (hb : KBinds X.K fd ps ks g gV) (hx : Passes CX X E)
    (hkw : PK X kws tk) (hall : (backToKw pos (keywordEach kws X.env)).all (·.1.isSome) = true := by rfl) (hks : (backToKw pos (keywordEach kws X.env)).filterMap (·.1) = ks := by rfl) (hdb : (x == ("__debug__" : Str)) = false := by decide)
    (hpl : ((backTo pos (starEach [] X.env)).any (·.1) || (backToKw pos (keywordEach kws X.env)).any (·.1.isNone)) = false := by rfl) : PE X (.Call (.Name x p) [] kws pos) (tCallK sp gV E tNil tk) := by
  refine ⟨fun pn s σ H Q I h => wpAny_Call_Name_kw (ld_glob I hg hm ?_ hdb)⟩
  refine PySem.W.callWith_KW0 (h₀ := X.base) I.ok.mod.kin hk hall (thn (hkw.run pos pn s σ H _ I h) fun ws t ⟨zs, G, J, rz, q⟩ => ⟨J.kIn, ?_⟩) hpl
  rw [hks]
  exact run_fnk (us := []) (vs := []) F hr hb hx J .nil rz q
end
def g1 : List Value → List Value → List Value := fun us ws => match us with
  | [] => ws
  | _ => []
def gV1 : List V → List V → List V := fun us ws => match us with
  | [] => ws
  | _ => []
theorem kb1 {K : PySem.W.Frag} {fd : FuncData} {p : Str} (h : ∀ w : Value, bindArgs fd ⟨[], [(p, w)]⟩ = pure [(p, w)]) : KBinds K fd [p] [p] g1 gV1 where
  to := fun s us ws _ hl => by
    match us, ws, hl with
    | [], [w], _ => exact .of_eq (h w)
  rel := fun {vs us zs ws} r q => by
    cases r with
    | nil => exact q
    | cons _ _ => exact .nil
/-! ### (0,) * k -/
section
variable {X : Cx}
theorem n_rep {i k : Int} {m n : Nat} {x1 j1 j2 : Nat} {p1 p2 p3 pos : Pos} (hk : 2 ≤ k) (hk2 : k ≤ 1000) (hm : k.toNat ≤ m) : PE X (.BinOp (.Tuple [.Constant (.int i) j1 p1] x1 p2) .Mult (.Constant (.int k) j2 p3) pos) (TN (PV m (n + 2))) :=
  pe_imp (pe_op op_repT (pe_tup (pa_cons pe_int pa_nil)) pe_int) fun _ H Q q => ⟨by show 1 ≤ sizeLine; decide, fun p hp => ⟨p, k, [.int i], rfl, rfl, SqT.of upd_same, (by intro e; cases e), hk, hk2, (Nat.le_of_ble_eq_true rfl : 1 ≤ 1000), fun p2 hp2 => by
    have s2 : Same H (upd (upd H p (.tup [.int i])) p2 (.tup (List.replicate k.toNat [V.int i]).flatten)) := (same_upd hp).trans (same_upd hp2)
    refine q _ _ s2 (.tup p2 _ upd_same ((same_upd hp).free hp2) ?_ fun x hx => ?_)
    · rw [List.length_flatten, List.map_replicate]
      simp
      omega
    · obtain ⟨l, hl, hxl⟩ := List.mem_flatten.mp hx
      rw [(List.mem_replicate.mp hl).2] at hxl
      rw [List.mem_singleton.mp hxl]
      exact .int i⟩⟩
end
/-! ### isinstance of an error that was caught -/
section
variable {X : Cx}
def rIsV (K : PySem.W.Frag) : List V → Hp → VK → Prop := fun xs H Q => ∃ (a D C : Addr) (b : Bool), xs = [.ref a, .ref C] ∧ H a = some (ExV (.ref D) none a) ∧ ExcC K D ∧ PySem.W.kitOne K (.ref D) (.ref C) = some b ∧ Q (.bl b) H
theorem call_isV : CallR X (.builtin "isinstance") (rIsV X.K) := by
  intro pn s σ H xs us Q I r h
  obtain ⟨a, D, C, b, rfl, ha, ex, kit, q⟩ := h
  obtain ⟨u1, u2, rfl, r1, r2⟩ := vals2 r
  cases (show u1 = Value.ref a from r1)
  cases (show u2 = Value.ref C from r2)
  obtain ⟨⟨ob, vs, e, ⟨z1, z2⟩, hd⟩, _, _⟩ := I.hok a _ ha
  have J : PySem.W.InstAt s.heap a ob D none := by
    obtain ⟨c0, d0, da, sl⟩ := ob
    dsimp only at z1 z2 hd
    subst z1 z2 hd
    exact ⟨e, rfl, rfl, trivial⟩
  exact PySem.W.kia_one (PySem.W.handS_kitx_exc ex.hg ex.hk ex.hs ex.hd ex.ha ex.hn ex.ht ex.hm) I.kIn J kit (fun z => nomatch z) fun tk => ⟨.bl b, H, I.tok tk, rfl, q⟩
end
/-! ### what stays beside the tables of code -/
theorem PV.ext {N : Addr → Prop} {H H' : Hp} (k : ExtN H H') {m : Nat} : ∀ {n : Nat} {v : V}, PV m n N H v → PV m n N H' v
  | 0, _, h => h
  | n + 1, _, h => by
    cases h with
    | non => exact .non
    | bl b => exact .bl b
    | int i => exact .int i
    | str z => exact .str z
    | tup a xs e x l q => exact .tup a xs (k _ _ e fun ps z => by cases z) x l fun y hy => PV.ext k (q y hy)
    | lst a xs e x l q => exact .lst a xs (k _ _ e fun ps z => by cases z) x l fun y hy => PV.ext k (q y hy)
    | dct a e x => exact .dct a (k _ _ e fun ps z => by cases z) x
theorem StA.ext {H H' : Hp} {d g c : Addr} {T : Int} (S : StA H d g c T) (s : ExtN H H') : StA H' d g c T := by
  obtain ⟨l, t, h1, h2, h3, h4⟩ := S.dk
  obtain ⟨gs, h5, h6⟩ := S.gr
  obtain ⟨cs, h7, h8⟩ := S.ce
  exact ⟨⟨l, t, s _ _ h1 (fun ps z => by cases z), h2, h3, h4⟩, ⟨gs, s _ _ h5 (fun ps z => by cases z), h6⟩, ⟨cs, s _ _ h7 (fun ps z => by cases z), h8⟩, S.gc⟩
theorem StA.upd {H : Hp} {d g c a : Addr} {T : Int} {o : HO} (S : StA H d g c T) (h1 : d ≠ a) (h2 : g ≠ a) (h3 : c ≠ a) : StA (upd H a o) d g c T := by
  obtain ⟨l, t, e1, e2, e3, e4⟩ := S.dk
  obtain ⟨gs, e5, e6⟩ := S.gr
  obtain ⟨cs, e7, e8⟩ := S.ce
  exact ⟨⟨l, t, by rw [upd_ne h1]; exact e1, e2, e3, e4⟩, ⟨gs, by rw [upd_ne h2]; exact e5, e6⟩, ⟨cs, by rw [upd_ne h3]; exact e7, e8⟩, S.gc⟩
theorem tab_kp {H H' : Hp} {d g c P : Addr} {T : Int} {q : Str} (S : StA H d g c T) (k : Kp d g H H') (t : TabS H P q) : TabS H' P q := by
  obtain ⟨l, t1, e1, _⟩ := S.dk
  obtain ⟨gs, e5, _⟩ := S.gr
  obtain ⟨ps, h1, h2, h3⟩ := t
  refine ⟨ps, k _ _ h1 (ne_of h1 e1 (by intro z; cases z)) (ne_of h1 e5 (by intro z; cases z)), h2, fun pos cv hc => ?_⟩
  obtain ⟨cc, r1, r2⟩ := h3 pos cv hc
  exact ⟨cc, r1, k _ _ r2 (ne_of r2 e1 (by intro z; unfold CodeO at z; cases z)) (ne_of r2 e5 (by intro z; unfold CodeO at z; cases z))⟩
theorem tupOf_ext {N : Addr → Prop} {H H' : Hp} {m n : Nat} {v : V} (h : PV m n N H v) (k : ExtN H H') : tupOf H' v = tupOf H v := by
  cases n with
  | zero => exact h.elim
  | succ n =>
    cases h with
    | non => rfl
    | bl b => rfl
    | int i => rfl
    | str z => rfl
    | tup a xs e x l q => rw [tupOf_at e, tupOf_at (k _ _ e fun ps z => by cases z)]
    | lst a xs e x l q =>
      show (match H' a with | some (.tup xs) => some xs | _ => none) = (match H a with | some (.tup xs) => some xs | _ => none)
      rw [e, k _ _ e fun ps z => by cases z]
    | dct a e x =>
      show (match H' a with | some (.tup xs) => some xs | _ => none) = (match H a with | some (.tup xs) => some xs | _ => none)
      rw [e, k _ _ e fun ps z => by cases z]
theorem bank_ext {N : Addr → Prop} {H H' : Hp} {m n : Nat} {v : V} (h : PV m n N H v) (k : ExtN H H') : bankB H' v = bankB H v := by
  unfold bankB
  rw [tupOf_ext h k]
  by_cases t : tyN H v = "tuple"
  · obtain ⟨xs, j, rfl, ⟨a, rfl, _, ha⟩, _, hx⟩ := pv_tup h t
    rw [tupOf_at ha]
    match xs, hx with
    | [b, mm, l], hx =>
      show (begB H' b && numF l 0 && numF mm (3 * toI l + 1) && decide (toI mm ≤ 13)) = (begB H b && numF l 0 && numF mm (3 * toI l + 1) && decide (toI mm ≤ 13))
      unfold begB
      rw [tupOf_ext (hx b (by simp)) k]
    | [], _ => rfl
    | [_], _ => rfl
    | [_, _], _ => rfl
    | _ :: _ :: _ :: _ :: _, _ => rfl
  · rw [tupOf_no h t]
end Pu

namespace Pu
open PySem PySem.Spec PyProof.Rows PySem.SeqAt L2
/-! ### x == "..", x of any kind -/
section
variable {A : Around} {s : Shared}
theorem str_eq_dict (b : Str) (u : Tok) (l : Addr) (dd : Option Addr) (sl : Array (Option Value)) (es : Array DictEntry) (ep : Nat) :
    Meets (Builtin.«str.__eq__» ⟨[.str b u, .ref l], []⟩) (fun _ R s => s.heap.get? l = some { cls := .type "dict", dict := dd, data := .dict es ep, slots := sl } ∧ R (.ok (.ret .notImplemented)) s) :=
  .of_wp fun prog w A R s h => by
    obtain ⟨hp, g, d, tk, os⟩ := s
    obtain ⟨hl, h⟩ := h
    wp_walk using wpAny_loadPart' hl, wpAny_load hl
    exact ⟨_, rfl, h⟩
theorem rc_dict_str {P : Program} {w' : World} {kvs : List (Key × Value)} {a : Addr} {b : Str} {u : Tok} (da : s.heap.DictOf (mixKind P w') a kvs) (hu : A.units < cLine) : RcAt A s (.ref a) (.str b u) false := fun prog w E Q h => by
  refine rc_eq_decline_or (k := false) da.typeIs (typeIs_str s b u) (by decide) PySem.F.sub_str_dict PySem.F.slot_dict_eq PySem.F.slot_str_eq_refl (fun Q' hq => ?_) (fun Q' hq => ?_) (fun _ hq => wpAny_of_eq (rfl : isSame (.ref a) (.str b u) = pure false) hq) (.inr hu) h
  · refine wpAny_call_entry PySem.F.slot_dict_eq da.typeIs PySem.F.entry_dict_eq ?_ (PySem.F.args_dict_eq_2 _ _)
    show wpAny _ _ (Builtin.Dict.dictSlotArgs "__eq__" ⟨[.ref a, .str b u], []⟩ >>= _) _ _ s
    refine wpAny_bind ?_
    unfold Builtin.Dict.dictSlotArgs
    refine wpAny_bind (wpAny_notOrdered_dict da.typeIs (wpAny_pure ?_))
    refine wpAny_bind (wpAny_isInstance (T := "str") (typeIs_str s b u) PySem.F.sub_str_dict ?_)
    exact wpAny_bind (wpAny_rule (wpAny_pure ⟨_, rfl, hq⟩))
  · obtain ⟨ob, es, ep, ho, hc, hd, _⟩ := id da
    obtain ⟨o2, h2, c2⟩ := da.typeIs
    rw [ho] at h2
    cases h2
    obtain ⟨c, dd, data, sl⟩ := ob
    dsimp only at c2 hd
    subst c2 hd
    exact call_meets PySem.F.slot_str_eq_refl (typeIs_str s b u) PySem.F.entry_str_eq (PySem.F.args_str_eq_2 _ _) (str_eq_dict b u a dd sl es ep) ⟨ho, hq⟩
end
/-- whether a value is just this text -/
def isStr (z : Str) : V → Bool
  | .str t => decide (t = z)
  | _ => false
def rEqPS : R2 := fun x y H Q => ∃ m n N z, y = .str z ∧ PV m n N H x ∧ Q (.bl (isStr z x)) H
section
variable {X : Cx}
theorem op_eqPS (hu : X.A.units < cLine) : OpR X (compareOp .Eq) rEqPS := by
  intro pn s σ H x y v u Q I rx ry ⟨m, n, N, z, ey, hx, q⟩
  subst ey
  have flat : ∀ b : Bool, scal x (.str z) = true → decide (x = .str z) = b → Q (.bl b) H → wpAny (model X.prog X.w) X.A (compareOp .Eq v u) (EP X pn σ Q) X.xe s := fun b h1 h2 h3 => op_eq pn s σ H x (.str z) v u Q I rx ry ⟨h1, by rw [h2]; exact h3⟩
  have far : ∀ a : Addr, RcAt X.A s (.ref a) u false → Q (.bl false) H → wpAny (model X.prog X.w) X.A (compareOp .Eq (.ref a) u) (EP X pn σ Q) X.xe s := fun a R h => R X.prog X.w X.xe (EP X pn σ Q) ⟨.bl false, H, I, rfl, h⟩
  cases n with
  | zero => exact hx.elim
  | succ n =>
    cases hx with
    | non => exact flat false rfl (decide_eq_false fun e => nomatch e) q
    | bl b => exact flat false rfl (decide_eq_false fun e => nomatch e) q
    | int i => exact flat false rfl (decide_eq_false fun e => nomatch e) q
    | str t => exact flat (decide (t = z)) rfl (by
        by_cases c : t = z
        · rw [decide_eq_true c, c]; exact decide_eq_true rfl
        · rw [decide_eq_false c]; exact decide_eq_false fun e => c (V.str.inj e)) q
    | tup a xs e x l q' =>
      obtain ⟨t, rfl⟩ := ry
      cases rx
      obtain ⟨its, r1, p1, _⟩ := I.tuple (SqT.of e)
      exact far a (RcAt.tuple_str z t p1 hu) q
    | lst a xs e x l q' =>
      obtain ⟨t, rfl⟩ := ry
      cases rx
      obtain ⟨its, r1, p1, _⟩ := I.list (SqL.of e)
      exact far a (RcAt.list_str z t p1.isList hu) q
    | dct a e x =>
      obtain ⟨t, rfl⟩ := ry
      cases rx
      obtain ⟨_, _, vs, _, da⟩ := (show ObjOk X.prog X.w H s.heap a (.dK []) from I.hok a _ e)
      exact far a (rc_dict_str da hu) q
/-! ### (x, i) < (x, j) -/
def rLtN (K : PySem.W.Frag) : R2 := fun x y H Q => ∃ (a b : Addr) (z : Str) (i j : Int), x = .ref a ∧ y = .ref b ∧ SqT K H a [.str z, .int i] ∧ SqT K H b [.str z, .int j] ∧ Q (.bl (decide (i < j))) H
theorem op_ltN (hu : X.A.units < cLine) : OpR X (compareOp .Lt) (rLtN X.K) := by
  intro pn s σ H x y v u Q I rx ry ⟨a, b, z, i, j, ex, ey, ha, hb, q⟩
  subst ex ey
  cases rx
  cases ry
  obtain ⟨its, r1, p1, _⟩ := I.tuple ha
  obtain ⟨its2, r2, p2, _⟩ := I.tuple hb
  obtain ⟨v1, v2, rfl, ⟨t1, rfl⟩, ⟨t2, rfl⟩⟩ := vals2 r1
  obtain ⟨w1, w2, rfl, ⟨t3, rfl⟩, ⟨t4, rfl⟩⟩ := vals2 r2
  have R := Ob.RcOp.tuples_lt (A := X.A) (s := s) (e := fun k => if k = 0 then true else (i == j)) (r := fun k => decide (i < j)) p1 p2 hu (fun k h1 h2 => by
      match k, h1, h2 with
      | 0, _, _ =>
        have e := SeqAt.EqAt.str_str (A := X.A.in1) (s := s) z t1 z t3
        rw [show (z == z) = true from beq_self_eq_true z] at e
        exact e
      | 1, _, _ => exact SeqAt.EqAt.int_int i t2 j t4
      | k + 2, h1, _ => exact absurd h1 (by simp)) (fun k h1 h2 he => by
      match k, h1, h2, he with
      | 0, _, _, he => cases he
      | 1, _, _, _ => exact Ob.RcOp.lt_int i j t2 t4
      | k + 2, h1, _, _ => exact absurd h1 (by simp))
  have e : Ob.lexAt (fun k => if k = 0 then true else (i == j)) (fun k => decide (i < j)) (decide (#[Value.str z t1, .int i t2].size < #[Value.str z t3, .int j t4].size)) 0 (min #[Value.str z t1, .int i t2].size #[Value.str z t3, .int j t4].size) = decide (i < j) := by
    show (if (if (0 : Nat) = 0 then true else (i == j)) = true then (if (if (1 : Nat) = 0 then true else (i == j)) = true then false else decide (i < j)) else decide (i < j)) = decide (i < j)
    by_cases c : i = j
    · subst c
      simp
    · simp [c]
  refine R X.prog X.w X.xe (EP X pn σ Q) ?_
  exact ⟨.bl _, H, I, rfl, by
    have q2 := q
    rw [← e] at q2
    exact q2⟩
end
end Pu

namespace Pu
open PySem PySem.Spec PyProof.Rows L2
/-! ### set(l), l a list of ints, any of them again -/
abbrev noSet (w : World) : Obj := { cls := .type "set", dict := none, data := .set #[] 0 (.fresh 0 0 (!w.params.followText "set-order")) }
section
variable {P : Program} {w : World} {A : Around} {E : Value → Shared → Prop} {s : Shared}
set_option maxHeartbeats 8000000 in
theorem set_of_list {L : Addr} {vals : Array Value} (zs : List Int) {Q : Value → Shared → Prop} (calm : A.handled = none) (isL : s.heap.IsList L vals) (areI : IntsAre vals.toList zs) (few : zs.length + 1 < scanBound)
    (fin : ∀ (h2 : Heap) (tk n : Nat), SetR w h2 s.heap.objs.size (fun j => decide (j ∈ zs)) n → n ≤ zs.length → (∀ b o, s.heap.get? b = some o → h2.get? b = some o) → Q (.ref s.heap.objs.size) { s with heap := h2, toks := tk }) :
    wpAny (model P w) A (call (.type "set") [.ref L]) Q E s := by
  have size_eq : vals.size = zs.length := by
    have e := IntsAre.length areI
    rwa [Array.length_toList] at e
  have hmade := PySem.F.called_set.made
  have hsub := PySem.F.called_set.sub
  obtain ⟨c0, tl0, hmro⟩ := PySem.F.called_set.mro
  refine wpAny_call (codeAny_of_tree ?_)
  show wpAny _ _ (callAny (.type "set") _) _ _ s
  refine wpAny_pure ⟨Code.quiet_builtin _ (by decide +kernel), codeAny_builtin PySem.F.entry_type_call ?_⟩
  rw [Around.under_plain (weight_type_call_type "set" [.ref L] []) rfl]
  have nT := PySem.F.called_set.notType
  have cC := PySem.F.called_set.canCreate
  have tC := PySem.F.typeCall_set_1 (.ref L)
  repeat (any_goals (first | assumption | wp_step))
  refine codeAny_mono (code_set_led1 (.ref L) (E := E) (Q₁ := fun ob s1 => ob = .ref s.heap.objs.size ∧ s1 = { s with heap := s.heap.push (noSet w) }) ⟨rfl, rfl⟩) fun r s1 hr => ?_
  cases r with
  | error e => exact hr
  | ok fl =>
    cases fl with
    | ret obj =>
      obtain ⟨rfl, rfl⟩ := hr
      have atS : (s.heap.push (noSet w)).get? s.heap.objs.size = some (noSet w) := Heap.get?_push_size _ rfl
      have tyS : Shared.TypeIs { s with heap := s.heap.push (noSet w) } (.ref s.heap.objs.size) "set" := ⟨_, atS, rfl⟩
      have lkI := PySem.F.called_set.init.lookup
      have bdI := PySem.F.called_set.init.bind (.ref s.heap.objs.size)
      repeat (any_goals (first | assumption | wp_step))
      refine codeAny_mono (codeAny_call_builtin (R := wants (fun r s2 => r = .none ∧ ∃ h2 tk n, s2 = { s with heap := h2, toks := tk } ∧ SetR w h2 s.heap.objs.size (fun j => decide (j ∈ zs)) n ∧ n ≤ zs.length ∧
          (∀ b o, s.heap.get? b = some o → h2.get? b = some o)) E) PySem.F.called_set.init.plain PySem.F.entry_set_init (check_set_init_1 tyS ?_)) fun r2 s2 hr2 => ?_
      · obtain ⟨oL, atL, hcl, nL, hdl⟩ := isL
        obtain ⟨ocls, odict, odata, oslots⟩ := oL
        dsimp only at hcl hdl
        subst hcl hdl
        have atL' : (s.heap.push (noSet w)).get? L = some { cls := .type "list", dict := odict, data := .seq vals nL, slots := oslots } := Heap.get?_push_of_some _ atL
        have isL1 : (s.heap.push (noSet w)).IsList L vals := ⟨_, atL', rfl, nL, rfl⟩
        have k1 := PySem.F.sub_list_set
        have k2 := PySem.F.sub_list_frozenset
        have k3 : (Value.type "list" == Value.type "dict") = false := by decide
        unfold Builtin.«set.__init__» noKeywords Builtin.Frozenset.updateFrom
        generalize gI : pyIter = itOf
        wp_walk
        subst gI
        refine wpAny_pyIter_list isL1 (wpAny_bind (wpAny_runValue ?_))
        have ltL : L < s.heap.objs.size := Heap.lt_size atL
        have calm3 : A.in1.in1.in1.handled = none := by simp [calm]
        have nLI : L ≠ (s.heap.push (noSet w)).objs.size := by
          rw [Heap.size_push]
          exact fun e => Nat.ne_of_lt (Nat.lt_succ_of_lt ltL) e
        have nSf : s.heap.objs.size ∉ [(s.heap.push (noSet w)).objs.size, L] := by
          rw [Heap.size_push]
          simp only [List.mem_cons, List.not_mem_nil, or_false]
          rintro (e | e)
          · exact Nat.ne_of_lt (Nat.lt_succ_self _) e
          · exact Nat.ne_of_gt ltL e
        have each : ∀ (i : Nat) (v : Value), vals[i]? = some v → ∃ k t, zs[i]? = some k ∧ v = .int k t := fun i v hv => by
          have lt : i < zs.length := by rw [← size_eq]; exact (Array.getElem?_eq_some_iff.mp hv).1
          obtain ⟨t, e⟩ := PyProof.Rows.IntsAre.int_at areI i v (by rw [Array.getElem?_toList]; exact hv)
          exact ⟨zs[i], t, List.getElem?_eq_getElem lt, by rw [e, List.getD_eq_getElem?_getD, List.getElem?_eq_getElem lt]; rfl⟩
        refine set_update_ints ((Walks.list calm3 _ L nLI vals).toS) s.heap.objs.size nSf zs size_eq few each (vals.size - 0) 0 _ (by omega) (Nat.zero_le _) ⟨⟨_, Heap.get?_push_size _ rfl, rfl, rfl⟩, isL1.push _⟩ ?s0 ?s1
        case s0 => exact ⟨0, Nat.le_refl 0, setR_new_at (Heap.get?_push_of_some _ atS)⟩
        case s1 =>
          intro s3 n3 mv le3 R3
          obtain ⟨h3, g3, d3, tk3, os3⟩ := s3
          have e1 : g3 = s.gens := mv.gens
          have e2 : d3 = s.drawn := mv.drawn
          have e3 : os3 = s.os := mv.os
          subst e1 e2 e3
          show wpAny _ _ _ _ _ _
          refine wpAny_pure ?_
          show wpAny _ _ (ret Value.none) _ _ _
          rw [size_eq] at le3
          refine wpAny_pure ⟨rfl, h3, tk3, n3, rfl, R3, le3, fun b o e => ?_⟩
          have lt := Heap.lt_size e
          refine mv.heap b o ?_ (Heap.get?_push_of_some _ (Heap.get?_push_of_some _ e))
          rw [Heap.size_push]
          simp only [List.mem_cons, List.not_mem_nil, or_false]
          rintro (e | e)
          · exact Nat.ne_of_lt lt e
          · exact Nat.ne_of_lt (Nat.lt_succ_of_lt lt) e
      · cases r2 with
        | error e => exact hr2
        | ok f2 =>
          cases f2 with
          | ret r =>
            obtain ⟨rfl, h2, tk, n, rfl, R2, le2, kp⟩ := hr2
            repeat (any_goals (first | assumption | wp_step))
            exact fin _ _ _ R2 le2 kp
          | _ => exact hr2.elim
    | _ => exact hr.elim
end
section
variable {X : Cx}
def rSetL (K : PySem.W.Frag) (w : World) : List V → Hp → VK → Prop := fun xs H Q => ∃ (l : Addr) (zs : List Int), xs = [.ref l] ∧ SqL K H l (zs.map V.int) ∧ zs.length ≤ 1000 ∧
  ∀ (p : Addr) (n : Nat), H p = none → n ≤ zs.length → Q (.ref p) (upd H p (SetO w p (fun j => decide (j ∈ zs)) n))
theorem cr_setL (hc : X.calm = true) : CallR X (.type "set") (rSetL X.K X.w) := by
  intro pn s σ H xs us Q I r ⟨l, zs, ex, hl, few, q⟩
  subst ex
  rw [Vals.ref1 r]
  obtain ⟨its, rv, pl, _⟩ := I.list hl
  have i1 : IntsAre its.toArray.toList zs := by
    have z := Vals.ints rv
    simpa using z
  refine set_of_list (P := X.prog) (w := X.w) zs (I.ok.hd hc) pl.isList i1 (by unfold scanBound; omega) fun h2 tk n R le kp => ?_
  exact ⟨.ref s.heap.objs.size, upd H s.heap.objs.size (SetO X.w s.heap.objs.size (fun j => decide (j ∈ zs)) n), I.laid (t' := tk) kp (Nat.le_refl _) (setO_new R), rfl, q _ n (I.hok.fresh (Nat.le_refl _)) le⟩
end
end Pu

namespace Pu
open PySem L2
/-! ### what a letter is, read off plain data -/
inductive Dt where
  | non
  | bl (b : Bool)
  | int (i : Int)
  | str (z : Str)
  | tup (xs : List Dt)
  | oth
def dtOf : Nat → Hp → V → Dt
  | 0, _, _ => .non
  | n + 1, H, v => match v with
    | .non => .non
    | .bl b => .bl b
    | .int i => .int i
    | .str z => .str z
    | .ref a => (match H a with | some (.tup xs) => .tup (xs.map (dtOf n H)) | _ => .oth)
    | _ => .oth
theorem dt_tup {n : Nat} {H : Hp} {a : Addr} {xs : List V} (h : H a = some (.tup xs)) : dtOf (n + 1) H (.ref a) = .tup (xs.map (dtOf n H)) := by
  show (match H a with | some (.tup xs) => Dt.tup (xs.map (dtOf n H)) | _ => .oth) = _
  rw [h]
theorem dt_lst {n : Nat} {H : Hp} {a : Addr} {xs : List V} (h : H a = some (.lst xs)) : dtOf (n + 1) H (.ref a) = .oth := by
  show (match H a with | some (.tup xs) => Dt.tup (xs.map (dtOf n H)) | _ => .oth) = _
  rw [h]
theorem dt_dct {n : Nat} {H : Hp} {a : Addr} (h : H a = some (.dK [])) : dtOf (n + 1) H (.ref a) = .oth := by
  show (match H a with | some (.tup xs) => Dt.tup (xs.map (dtOf n H)) | _ => .oth) = _
  rw [h]
theorem dt_ext {N : Addr → Prop} {H H' : Hp} {m : Nat} (k : ∀ a o, N a → H a = some o → H' a = some o) : ∀ {n : Nat} {v : V}, PV m n N H v → dtOf n H' v = dtOf n H v
  | 0, _, h => h.elim
  | n + 1, _, h => by
    cases h with
    | non => rfl
    | bl b => rfl
    | int i => rfl
    | str z => rfl
    | tup a xs e x l q => rw [dt_tup e, dt_tup (k _ _ x e), List.map_congr_left fun y hy => dt_ext k (q y hy)]
    | lst a xs e x l q => rw [dt_lst e, dt_lst (k _ _ x e)]
    | dct a e x => rw [dt_dct e, dt_dct (k _ _ x e)]
theorem dt_same {N : Addr → Prop} {H H' : Hp} {m n : Nat} {v : V} (h : PV m n N H v) (s : Same H H') : dtOf n H' v = dtOf n H v := dt_ext (fun a o _ e => s a o e) h
/-- a tuple, or none -/
theorem pv_view {N : Addr → Prop} {H : Hp} {m n : Nat} {v : V} (h : PV m n N H v) : (∃ xs j a, n = j + 1 ∧ v = .ref a ∧ N a ∧ H a = some (.tup xs) ∧ xs.length ≤ m ∧ (∀ x ∈ xs, PV m j N H x) ∧ dtOf n H v = .tup (xs.map (dtOf j H)) ∧ isB (tyN H v) "tuple" = true) ∨ ((∀ ds, dtOf n H v ≠ .tup ds) ∧ isB (tyN H v) "tuple" = false) := by
  cases n with
  | zero => exact h.elim
  | succ n =>
    cases h with
    | non => exact .inr ⟨(fun ds e => nomatch e), rfl⟩
    | bl b => exact .inr ⟨(fun ds e => nomatch e), rfl⟩
    | int i => exact .inr ⟨(fun ds e => nomatch e), rfl⟩
    | str z => exact .inr ⟨(fun ds e => nomatch e), rfl⟩
    | tup a xs e x l q => exact .inl ⟨xs, n, a, rfl, rfl, x, e, l, q, dt_tup e, by rw [tyN_tup e]; rfl⟩
    | lst a xs e x l q => exact .inr ⟨(fun ds z => by rw [dt_lst e] at z; cases z), by rw [tyN_lst e]; rfl⟩
    | dct a e x => exact .inr ⟨(fun ds z => by rw [dt_dct e] at z; cases z), by rw [tyN_dct e]; rfl⟩
def strB (z : Str) : Dt → Bool
  | .str t => decide (t = z)
  | _ => false
def intOf : Dt → Int
  | .int i => i
  | _ => 0
def numB0 : Dt → Bool
  | .int i => decide (0 ≤ i) && decide (i < BIG)
  | _ => false
def nameB : Dt → Bool
  | .tup [x, y] => strB "name" x && numB0 y
  | _ => false
def numOf : Dt → Int
  | .tup [_, y] => intOf y
  | _ => 0
def asc : List Int → Bool
  | [] => true
  | [_] => true
  | x :: y :: r => decide (x < y) && asc (y :: r)
def itemB : Dt → Bool
  | .tup [p, .tup vs] => nameB p && (vs.all nameB && asc (vs.map numOf))
  | _ => false
def itemsB : Dt → Bool
  | .tup xs => xs.all itemB
  | _ => false
def rowB (np : Nat) : Dt → Bool
  | .tup xs => decide (xs.length = np) && xs.all numB0
  | _ => false
def endB (np : Nat) (nm : Int) : Dt → Bool
  | .tup [x, y] => if strB "owner" x = true then numB0 y && decide (intOf y < (np : Int)) else strB "member" x && (numB0 y && decide (intOf y < nm))
  | _ => false
def bodyB (np : Nat) (s r : Str) : Dt → Bool
  | .tup [x, y, z] => strB "ask" x && (decide (s = "owner") && (decide (r = "member") && (nameB y && itemsB z)))
  | .tup [x, y] => if strB "vote" x = true then decide (s = "member") && (decide (r = "owner") && nameB y) else if strB "tell" x = true then itemsB y else strB "want" x && rowB np y
  | _ => false
def wordOf : Dt → Str
  | .tup [.str s, _] => s
  | _ => Str.empty
def letterB (np : Nat) (nm : Int) : Dt → Bool
  | .tup [a, b, c] => endB np nm a && (endB np nm b && bodyB np (wordOf a) (wordOf b) c)
  | _ => false
/-! values and their data -/
theorem str_dt {N : Addr → Prop} {H : Hp} {m n : Nat} {v : V} (h : PV m n N H v) (z : Str) : isStr z v = strB z (dtOf n H v) := by
  cases n with
  | zero => exact h.elim
  | succ n =>
    cases h with
    | non => rfl
    | bl b => rfl
    | int i => rfl
    | str z => rfl
    | tup a xs e x l q => rw [dt_tup e]; rfl
    | lst a xs e x l q => rw [dt_lst e]; rfl
    | dct a e x => rw [dt_dct e]; rfl
theorem num_dt {N : Addr → Prop} {H : Hp} {m n : Nat} {v : V} (h : PV m n N H v) : numF v 0 = numB0 (dtOf n H v) := by
  cases n with
  | zero => exact h.elim
  | succ n =>
    cases h with
    | non => rfl
    | bl b => rfl
    | int i =>
      have hB : BIG = 1000000000000000000 := rfl
      show numF (.int i) 0 = (decide (0 ≤ i) && decide (i < BIG))
      rw [numF_int, Bool.eq_iff_iff]
      simp only [Bool.and_eq_true, decide_eq_true_eq]
      omega
    | str z => rfl
    | tup a xs e x l q => rw [dt_tup e]; rfl
    | lst a xs e x l q => rw [dt_lst e]; rfl
    | dct a e x => rw [dt_dct e]; rfl
theorem num0_int {N : Addr → Prop} {H : Hp} {m n : Nat} {v : V} (h : PV m n N H v) (b : numB0 (dtOf n H v) = true) : ∃ i, v = .int i ∧ dtOf n H v = .int i ∧ 0 ≤ i := by
  cases n with
  | zero => exact h.elim
  | succ n =>
    cases h with
    | non => cases b
    | bl b' => cases b
    | int i =>
      have b' : (decide (0 ≤ i) && decide (i < BIG)) = true := b
      rw [Bool.and_eq_true] at b'
      exact ⟨i, rfl, rfl, of_decide_eq_true b'.1⟩
    | str z => cases b
    | tup a xs e x l q => rw [dt_tup e] at b; cases b
    | lst a xs e x l q => rw [dt_lst e] at b; cases b
    | dct a e x => rw [dt_dct e] at b; cases b
/-! strictly ascending numbers -/
theorem asc_pair : ∀ {l : List Int}, asc l = true ↔ l.Pairwise (· < ·)
  | [] => ⟨fun _ => .nil, fun _ => rfl⟩
  | [x] => ⟨fun _ => by simp, fun _ => rfl⟩
  | x :: y :: r => by
    show (decide (x < y) && asc (y :: r)) = true ↔ _
    rw [Bool.and_eq_true, asc_pair (l := y :: r), decide_eq_true_eq, List.pairwise_cons (a := x)]
    constructor
    · rintro ⟨h1, h2⟩
      refine ⟨fun z hz => ?_, h2⟩
      rcases List.mem_cons.mp hz with e | e
      · rw [e]; exact h1
      · exact Int.lt_trans h1 ((List.pairwise_cons.mp h2).1 z e)
    · rintro ⟨h1, h2⟩
      exact ⟨h1 y List.mem_cons_self, h2⟩
theorem strict_eq : ∀ {l k : List Int}, l.Pairwise (· < ·) → k.Pairwise (· < ·) → (∀ z, z ∈ l ↔ z ∈ k) → l = k
  | [], [], _, _, _ => rfl
  | [], y :: k, _, _, e => absurd ((e y).mpr List.mem_cons_self) (by simp)
  | x :: l, [], _, _, e => absurd ((e x).mp List.mem_cons_self) (by simp)
  | x :: l, y :: k, h1, h2, e => by
    obtain ⟨a1, a2⟩ := List.pairwise_cons.mp h1
    obtain ⟨b1, b2⟩ := List.pairwise_cons.mp h2
    have exy : x = y := by
      rcases List.mem_cons.mp ((e x).mp List.mem_cons_self) with q | q
      · exact q
      · rcases List.mem_cons.mp ((e y).mpr List.mem_cons_self) with p | p
        · exact p.symm
        · have := a1 y p; have := b1 x q; omega
    subst exy
    rw [strict_eq a2 b2 fun z => ⟨fun hz => ?_, fun hz => ?_⟩]
    · rcases List.mem_cons.mp ((e z).mp (List.mem_cons_of_mem _ hz)) with q | q
      · have := a1 z hz; omega
      · exact q
    · rcases List.mem_cons.mp ((e z).mpr (List.mem_cons_of_mem _ hz)) with q | q
      · have := b1 z hz; omega
      · exact q
theorem asc_step : ∀ {l : List Int}, asc l = (List.range (l.length - 1)).all fun i => decide (l.getD i 0 < l.getD (i + 1) 0)
  | [] => rfl
  | [x] => rfl
  | x :: y :: r => by
    show (decide (x < y) && asc (y :: r)) = _
    rw [asc_step (l := y :: r)]
    show _ = (List.range (r.length + 1)).all _
    rw [List.range_succ_eq_map, List.all_cons, List.all_map]
    rfl
end Pu

namespace Pu
open PySem L2
abbrev sBelow : Stmt := top 9
abbrev sName : Stmt := top 17
abbrev sLeNum : Stmt := top 36
abbrev sLeName : Stmt := top 37
/-- a reading of plain data -/
def spD (f : Dt → Bool) : Sp := fun vs H Q _ => ∃ v m n N, vs = [v] ∧ PV m n N H v ∧ m ≤ 1000 ∧ ∀ H', Same H H' → Q (.bl (f (dtOf n H v))) H'
def spBelow : Sp := fun vs H Q _ => ∃ v m n N l, vs = [v, .int l] ∧ PV m n N H v ∧ Q (.bl (numB0 (dtOf n H v) && decide (intOf (dtOf n H v) < l))) H
section
variable {P : Program} {w : World} {K : PySem.W.Frag} {mg : Str → Option Value} {base : Heap}
theorem scBw : FnScope ["value", "limit"] ["value", "limit"] (defScope sBelow) := ⟨rfl, rfl, rfl, by decide +kernel, rfl, by decide +kernel, by decide +kernel⟩
theorem ok_below {f f2 : Addr} {fd fd2 : FuncData} (F : Fun K "is_number_below" "is_number_below" sBelow f fd) (G2 : FnOk P w K mg base CX0 2 f2 fd2 ["value", "least"] spNumFrom) (b2 : Binds K fd2 ["value", "least"] []) (k2 : PySem.W.keepIn K (.ref f2) = true) (m2 : mg "is_number_from" = some (.ref f2)) :
    FnOk P w K mg base CX0 3 f fd ["value", "limit"] spBelow := by
  refine F.ok scBw (fun vs H Q E h => ?_) (fun cdv A outer s H vs Q E hr h => ?_)
  · obtain ⟨v, m, n, N, l, rfl, _⟩ := h
    rfl
  · obtain ⟨v, m, n, N, l, rfl, hv, k⟩ := h
    refine ⟨_, pss_one (ps_ret (pe_and (pe_call G2 hr rfl m2 k2 b2 .nil pass0 (pa_cons (pv 0) (pa_cons pe_int pa_nil))) (pe_one (pe_cmpR op_lt (pv 0) (pv 1) (nomark _))))), ?_⟩
    refine ⟨_, rfl, v, m, n, N, 0, rfl, hv, _, rfl, ?_⟩
    rw [num_dt hv]
    cases e : numB0 (dtOf n H v) with
    | false =>
      refine iteF ?_
      rw [e] at k
      exact k
    | true =>
      refine iteT ?_
      obtain ⟨i, rfl, ed, _⟩ := num0_int hv e
      rw [e, ed] at k
      exact ⟨_, rfl, _, rfl, i, l, rfl, rfl, k⟩
theorem scNm : FnScope ["value"] ["value"] (defScope sName) := ⟨rfl, rfl, rfl, by decide +kernel, rfl, by decide +kernel, by decide +kernel⟩
theorem ok_name {f f2 : Addr} {fd fd2 : FuncData} (F : Fun K "is_name_pair" "is_name_pair" sName f fd) (ms : mg "isinstance" = none) (mt : mg "tuple" = none) (ml : mg "len" = none)
    (G2 : FnOk P w K mg base CX0 2 f2 fd2 ["value", "least"] spNumFrom) (b2 : Binds K fd2 ["value", "least"] []) (k2 : PySem.W.keepIn K (.ref f2) = true) (m2 : mg "is_number_from" = some (.ref f2)) :
    FnOk P w K mg base CX0 3 f fd ["value"] (spD nameB) := by
  refine F.ok scNm (fun vs H Q E h => ?_) (fun cdv A outer s H vs Q E hr h => ?_)
  · obtain ⟨v, m, n, N, rfl, _⟩ := h
    rfl
  · obtain ⟨v, m, n, N, rfl, hv, hm, k⟩ := h
    have hu := Nat.lt_of_succ_lt (hu_of hr)
    refine ⟨_, pss_cons (ps_if (PW.pt (pw_or (pt_not (pt_val (pe_callB call_isP (by rfl) ms (by decide +kernel) (pa_cons (pv 0) (pa_cons (pe_tyn "tuple" (by rfl) mt (by decide +kernel)) pa_nil)))))
          (pw_or1 (pt_cmpR op_ne (pe_callB call_len_seq (by rfl) ml boot_len (pa_cons (pv 0) pa_nil)) pe_int (nomark _))))) (pss_one (ps_ret pe_bl)) pss_nil)
      (pss_one (ps_ret (pe_and (pe_cmpR (op_eqPS hu) (pe_ix ix_tup (pv 0) pe_int (fun _ _ => rfl)) pe_str (nomark _)) (pe_one (pe_call G2 hr rfl m2 k2 b2 .nil pass0 (pa_cons (pe_ix ix_tup (pv 0) pe_int (fun _ _ => rfl)) (pa_cons pe_int pa_nil))))))), ?_⟩
    refine ⟨_, rfl, v, "tuple", m, n, N, rfl, by decide, hv, _, rfl, ?_⟩
    rcases pv_view hv with ⟨xs, j, a, rfl, rfl, na, ha, hl, hx, ed, et⟩ | ⟨nt, et⟩
    · rw [et]
      refine iteF ?_
      refine ⟨_, rfl, a, xs, rfl, .inr (SqT.of ha), rfl, _, rfl, ?_⟩
      rw [ed] at k
      by_cases c2 : xs.length = 2
      · obtain ⟨x, y, rfl⟩ : ∃ x y, xs = [x, y] := by
          match xs, c2 with
          | [x, y], _ => exact ⟨x, y, rfl⟩
        refine iteF ?_
        have px := hx x (by simp)
        have py := hx y (by simp)
        have k' : ∀ H', Same H H' → Q (.bl (strB "name" (dtOf j H x) && numB0 (dtOf j H y))) H' := k
        refine ⟨_, rfl, a, _, 0, x, rfl, rfl, SqT.of ha, atI_nat (j := 0) rfl, m, j, N, "name", rfl, px, _, rfl, ?_⟩
        rw [str_dt px]
        cases e : strB "name" (dtOf j H x) with
        | false =>
          refine iteF ?_
          rw [e] at k'
          exact k' H (Same.refl H)
        | true =>
          refine iteT ?_
          rw [e] at k'
          refine ⟨_, rfl, a, _, 1, y, rfl, rfl, SqT.of ha, atI_nat (j := 1) rfl, y, m, j, N, 0, rfl, py, ?_⟩
          rw [num_dt py]
          exact k' H (Same.refl H)
      · have e3 : (!decide (V.int (xs.length : Int) = V.int 2)) = true := by
          rw [decide_eq_false (fun q => c2 (by have := V.int.inj q; omega))]; rfl
        rw [e3]
        refine iteT ?_
        have e2 : nameB (.tup (xs.map (dtOf j H))) = false := by
          match xs, c2 with
          | [], _ => rfl
          | [_], _ => rfl
          | [_, _], c => exact absurd rfl c
          | _ :: _ :: _ :: _, _ => rfl
        rw [e2] at k
        exact k H (Same.refl H)
    · rw [et]
      refine iteT ?_
      refine iteT ?_
      have e2 : nameB (dtOf n H v) = false := by
        cases e : dtOf n H v with
        | tup ds => exact absurd e (nt ds)
        | _ => rfl
      rw [e2] at k
      exact k H (Same.refl H)
theorem scLn : FnScope ["item"] ["item"] (defScope sLeNum) := ⟨rfl, rfl, rfl, by decide +kernel, rfl, by decide +kernel, by decide +kernel⟩
theorem ok_lenum {f fW : Addr} {fd fdW : FuncData} (F : Fun K "_law_le_number" "_law_le_number" sLeNum f fd) (GW : FnOk P w K mg base CX0 1 fW fdW ["item"] spWhole) (bW : Binds K fdW ["item"] []) (kW : PySem.W.keepIn K (.ref fW) = true) (mW : mg "_law_is_whole" = some (.ref fW)) :
    FnOk P w K mg base CX0 2 f fd ["item"] (spD numB0) := by
  refine F.ok scLn (fun vs H Q E h => ?_) (fun cdv A outer s H vs Q E hr h => ?_)
  · obtain ⟨v, m, n, N, rfl, _⟩ := h
    rfl
  · obtain ⟨v, m, n, N, rfl, hv, hm, k⟩ := h
    refine ⟨_, pss_one (ps_ret (pe_and (pe_call GW hr rfl mW kW bW .nil pass0 (pa_cons (pv 0) pa_nil)) (pe_one (pe_chain op_le op_lt pe_int (pv 0) (pe_op op_pow pe_int pe_int))))), ?_⟩
    refine ⟨_, rfl, v, m, n, N, rfl, hv, _, rfl, ?_⟩
    rw [whole_eq hv]
    cases e : wholeV v with
    | false =>
      refine iteF ?_
      have e2 : numB0 (dtOf n H v) = false := by
        rw [← num_dt hv]
        cases v with
        | int i => cases e
        | _ => rfl
      rw [e2] at k
      exact k H (Same.refl H)
    | true =>
      refine iteT ?_
      obtain ⟨i, rfl⟩ := whole_int e
      have e2 : numB0 (dtOf n H (.int i)) = (decide (0 ≤ i) && decide (i < BIG)) := by
        cases n with
        | zero => exact hv.elim
        | succ n => rfl
      rw [e2] at k
      refine ⟨_, rfl, 0, i, rfl, rfl, _, rfl, ?_⟩
      by_cases c : 0 ≤ i
      · rw [decide_eq_true c] at k ⊢
        refine iteT ?_
        refine ⟨10, 18, rfl, rfl, ⟨by decide, by decide, by decide⟩, _, _, rfl, rfl, ?_⟩
        exact k H (Same.refl H)
      · rw [decide_eq_false c] at k ⊢
        refine iteF ?_
        exact k H (Same.refl H)
theorem scLe : FnScope ["item"] ["item"] (defScope sLeName) := ⟨rfl, rfl, rfl, by decide +kernel, rfl, by decide +kernel, by decide +kernel⟩
theorem ok_lename {f f2 : Addr} {fd fd2 : FuncData} (F : Fun K "_law_le_name" "_law_le_name" sLeName f fd) (ms : mg "isinstance" = none) (mt : mg "tuple" = none) (ml : mg "len" = none)
    (G2 : FnOk P w K mg base CX0 2 f2 fd2 ["item"] (spD numB0)) (b2 : Binds K fd2 ["item"] []) (k2 : PySem.W.keepIn K (.ref f2) = true) (m2 : mg "_law_le_number" = some (.ref f2)) :
    FnOk P w K mg base CX0 3 f fd ["item"] (spD nameB) := by
  refine F.ok scLe (fun vs H Q E h => ?_) (fun cdv A outer s H vs Q E hr h => ?_)
  · obtain ⟨v, m, n, N, rfl, _⟩ := h
    rfl
  · obtain ⟨v, m, n, N, rfl, hv, hm, k⟩ := h
    have hu := Nat.lt_of_succ_lt (hu_of hr)
    refine ⟨_, pss_one (ps_ret (pe_and (pe_callB call_isP (by rfl) ms (by decide +kernel) (pa_cons (pv 0) (pa_cons (pe_tyn "tuple" (by rfl) mt (by decide +kernel)) pa_nil))) (pe_and (pe_cmpR op_eq (pe_callB call_len_seq (by rfl) ml boot_len (pa_cons (pv 0) pa_nil)) pe_int (nomark _))
      (pe_and (pe_cmpR (op_eqPS hu) (pe_ix ix_tup (pv 0) pe_int (fun _ _ => rfl)) pe_str (nomark _)) (pe_one (pe_call G2 hr rfl m2 k2 b2 .nil pass0 (pa_cons (pe_ix ix_tup (pv 0) pe_int (fun _ _ => rfl)) pa_nil))))))), ?_⟩
    refine ⟨_, rfl, v, "tuple", m, n, N, rfl, by decide, hv, _, rfl, ?_⟩
    rcases pv_view hv with ⟨xs, j, a, rfl, rfl, na, ha, hl, hx, ed, et⟩ | ⟨nt, et⟩
    · rw [et]
      refine iteT ?_
      refine ⟨_, rfl, a, xs, rfl, .inr (SqT.of ha), rfl, _, rfl, ?_⟩
      rw [ed] at k
      by_cases c2 : xs.length = 2
      · obtain ⟨x, y, rfl⟩ : ∃ x y, xs = [x, y] := by
          match xs, c2 with
          | [x, y], _ => exact ⟨x, y, rfl⟩
        refine iteT ?_
        have px := hx x (by simp)
        have py := hx y (by simp)
        have k' : ∀ H', Same H H' → Q (.bl (strB "name" (dtOf j H x) && numB0 (dtOf j H y))) H' := k
        refine ⟨_, rfl, a, _, 0, x, rfl, rfl, SqT.of ha, atI_nat (j := 0) rfl, m, j, N, "name", rfl, px, _, rfl, ?_⟩
        rw [str_dt px]
        cases e : strB "name" (dtOf j H x) with
        | false =>
          refine iteF ?_
          rw [e] at k'
          exact k' H (Same.refl H)
        | true =>
          refine iteT ?_
          rw [e] at k'
          exact ⟨_, rfl, a, _, 1, y, rfl, rfl, SqT.of ha, atI_nat (j := 1) rfl, y, m, j, N, rfl, py, hm, fun H' s' => k' H' s'⟩
      · have e3 : decide (V.int (xs.length : Int) = V.int 2) = false := decide_eq_false (fun q => c2 (by have := V.int.inj q; omega))
        rw [e3]
        refine iteF ?_
        have e2 : nameB (.tup (xs.map (dtOf j H))) = false := by
          match xs, c2 with
          | [], _ => rfl
          | [_], _ => rfl
          | [_, _], c => exact absurd rfl c
          | _ :: _ :: _ :: _, _ => rfl
        rw [e2] at k
        exact k H (Same.refl H)
    · rw [et]
      refine iteF ?_
      have e2 : nameB (dtOf n H v) = false := by
        cases e : dtOf n H v with
        | tup ds => exact absurd e (nt ds)
        | _ => rfl
      rw [e2] at k
      exact k H (Same.refl H)
end
end Pu

namespace Pu
open PySem L2
abbrev sAsc : Stmt := top 10
abbrev sLooks : Stmt := top 24
abbrev sCerts : Stmt := top 23
abbrev sAsking : Stmt := top 22
/-- names at these places, with these numbers -/
def NamesAt (H : Hp) (xs : List V) (zs : List Int) : Prop := xs.length = zs.length ∧ ∀ t x, xs[t]? = some x → ∃ b, x = .ref b ∧ H b = some (.tup [.str "name", .int (zs.getD t 0)])
def spAsc : Sp := fun vs H Q _ => ∃ (a : Addr) (xs : List V) (zs : List Int), vs = [.ref a] ∧ H a = some (.tup xs) ∧ xs.length ≤ 1000 ∧ NamesAt H xs zs ∧ ∀ H', Same H H' → Q (.bl (asc zs)) H'
theorem nameB_get {N : Addr → Prop} {H : Hp} {m n : Nat} {v : V} (h : PV m n N H v) (b : nameB (dtOf n H v) = true) : ∃ p i, v = .ref p ∧ H p = some (.tup [.str "name", .int i]) ∧ numOf (dtOf n H v) = i := by
  rcases pv_view h with ⟨xs, j, a, rfl, rfl, na, ha, hl, hx, ed, et⟩ | ⟨nt, et⟩
  · rw [ed] at b ⊢
    match xs, hx, b, ha with
    | [x, y], hx, b, ha =>
      have b' : (strB "name" (dtOf j H x) && numB0 (dtOf j H y)) = true := b
      rw [Bool.and_eq_true] at b'
      obtain ⟨i, rfl, ei, _⟩ := num0_int (hx y (by simp)) b'.2
      have hx0 := hx x (by simp)
      have ex : x = .str "name" := by
        have q := b'.1
        rw [← str_dt hx0] at q
        cases x with
        | str t => exact congrArg V.str (of_decide_eq_true q)
        | _ => cases q
      rw [ex] at ha
      exact ⟨a, i, rfl, ha, by show intOf (dtOf j H (.int i)) = i; rw [ei]; rfl⟩
    | [], _, b, _ => cases b
    | [_], _, b, _ => cases b
    | _ :: _ :: _ :: _, _, b, _ => cases b
  · cases e : dtOf n H v with
    | tup ds => exact absurd e (nt ds)
    | _ => rw [e] at b; cases b
theorem names_of {N : Addr → Prop} {H : Hp} {m n : Nat} {xs : List V} (h : ∀ x ∈ xs, PV m n N H x) (b : (xs.map (dtOf n H)).all nameB = true) : NamesAt H xs ((xs.map (dtOf n H)).map numOf) := by
  refine ⟨by rw [List.length_map, List.length_map], fun t x ht => ?_⟩
  have hm := List.mem_of_getElem? ht
  obtain ⟨p, i, e1, e2, e3⟩ := nameB_get (h x hm) (List.all_eq_true.mp b _ (List.mem_map.mpr ⟨x, hm, rfl⟩))
  have e4 : ((xs.map (dtOf n H)).map numOf).getD t 0 = i := by
    rw [List.getD_eq_getElem?_getD, List.getElem?_map, List.getElem?_map, ht]
    exact e3
  rw [e4]
  exact ⟨p, e1, e2⟩
theorem ix_tK {X : Cx} {K : PySem.W.Frag} (h : X.K = K) : IxR X (rIxT K) := h ▸ ix_tup
theorem op_ltK {X : Cx} {K : PySem.W.Frag} (h : X.K = K) (hu : X.A.units < cLine) : OpR X (compareOp .Lt) (rLtN K) := h ▸ op_ltN hu
section
variable {P : Program} {w : World} {K : PySem.W.Frag} {mg : Str → Option Value} {base : Heap}
theorem scAs : FnScope ["values", "at"] ["values"] (defScope sAsc) := ⟨rfl, rfl, rfl, by decide +kernel, rfl, by decide +kernel, by decide +kernel⟩
theorem ok_asc {f : Addr} {fd : FuncData} (F : Fun K "is_ascending" "is_ascending" sAsc f fd) (mal : mg "all" = none) (mr : mg "range" = none) (ml : mg "len" = none) : FnOk P w K mg base CX0 1 f fd ["values"] spAsc := by
  refine F.ok scAs (fun vs H Q E h => ?_) (fun cdv A outer s H vs Q E hr h => ?_)
  · obtain ⟨a, xs, zs, rfl, _⟩ := h
    rfl
  · obtain ⟨a, xs, zs, rfl, ha, hl, ⟨le, hn⟩, k⟩ := h
    have hu := Nat.lt_of_succ_lt (hu_of hr)
    refine ⟨_, pss_one (ps_ret (pe_callB (cr_all rfl) (by rfl) mal (by decide +kernel) (pa_cons (pe_lc (own := [("at", 1)]) (g := gName 1) rfl scAs.nd
        (pi_range1 rfl mr (pa_cons (pe_op op_sub (pe_callB call_len_seq (by rfl) ml boot_len (pa_cons (pv 0) pa_nil)) pe_int) pa_nil)) (blkOk_by (own := [("at", 1)]) (N := ["values", "at"]) (sc := defScope sAsc) (by decide +kernel))
        (fun _ _ _ _ _ => pg_name (i := 1) scAs.nd rfl (Or.inl rfl)) (fun _ _ _ _ _ => pts_nil) (fun _ _ _ _ _ => pe_cmpR (op_ltK (K := K) rfl hu) (pe_ix (ix_tK (K := K) rfl) (pv 0) (pv 1) (fun _ _ => rfl)) (pe_ix (ix_tK (K := K) rfl) (pv 0) (pe_op op_add (pv 1) pe_int) (fun _ _ => rfl)) (nomark _))) pa_nil))), ?_⟩
    refine ⟨_, rfl, a, xs, rfl, .inr (SqT.of ha), _, _, rfl, rfl, _, rfl, by omega, by omega, fun D hD => ?_⟩
    refine lc_range (lo := 0) (fun i H' => H' = upd H D (.lst ((List.range i).map fun t => V.bl (decide (zs.getD t 0 < zs.getD (t + 1) 0))))) rfl ?_ ?_
    · rintro i H' hi rfl
      have sD : ∀ l, Same H (upd H D (.lst l)) := fun l => same_upd hD
      have h1 : i < xs.length := by omega
      have h2 : i + 1 < xs.length := by omega
      obtain ⟨b1, e1, g1⟩ := hn i xs[i] (List.getElem?_eq_getElem h1)
      obtain ⟨b2, e2, g2⟩ := hn (i + 1) xs[i + 1] (List.getElem?_eq_getElem h2)
      refine ⟨rfl, ?_⟩
      dsimp only [tYes]
      refine iteT ?_
      refine ⟨_, rfl, _, rfl, a, xs, ((i : Nat) : Int), xs[i], rfl, by rw [show (0 : Int) + (i : Int) = (i : Int) by omega], SqT.of (sD _ _ _ ha), atI_nat (List.getElem?_eq_getElem h1), ?_⟩
      refine ⟨_, rfl, _, rfl, _, _, rfl, rfl, a, xs, ((i + 1 : Nat) : Int), xs[i + 1], rfl, (show V.int (0 + (i : Int) + 1) = V.int ((i + 1 : Nat) : Int) from congrArg V.int (by omega)), SqT.of (sD _ _ _ ha), atI_nat (List.getElem?_eq_getElem h2), ?_⟩
      refine ⟨b1, b2, "name", zs.getD i 0, zs.getD (i + 1) 0, e1, e2, SqT.of (sD _ _ _ g1), SqT.of (sD _ _ _ g2), _, upd_same, ?_, ?_⟩
      · rw [List.length_map, List.length_range]; exact small1000 (by omega)
      · rw [upd_upd, List.range_succ, List.map_append]; rfl
    · rintro H' rfl
      refine ⟨D, (List.range ((xs.length : Int) - 1).toNat).map fun t => decide (zs.getD t 0 < zs.getD (t + 1) 0), rfl, SqL.of (by rw [List.map_map]; exact upd_same), ?_⟩
      have ea : ((List.range ((xs.length : Int) - 1).toNat).map fun t => decide (zs.getD t 0 < zs.getD (t + 1) 0)).all id = asc zs := by
        rw [asc_step, List.all_map, show ((xs.length : Int) - 1).toNat = zs.length - 1 by omega]; rfl
      rw [ea]
      exact k _ (same_upd hD)
theorem scLk : FnScope ["value", "payment", "votes", "vote"] ["value"] (defScope sLooks) := ⟨rfl, rfl, rfl, by decide +kernel, rfl, by decide +kernel, by decide +kernel⟩
theorem itemB_len {n : Nat} {H : Hp} {xs : List V} (c : ¬ xs.length = 2) : itemB (.tup (xs.map (dtOf n H))) = false := by
  match xs, c with
  | [], _ => rfl
  | [_], _ => rfl
  | [_, _], c => exact absurd rfl c
  | a :: b :: c :: r, _ =>
    show itemB (.tup (dtOf n H a :: dtOf n H b :: dtOf n H c :: r.map (dtOf n H))) = false
    cases dtOf n H b <;> rfl
theorem ok_looks {f f3 f1 : Addr} {fd fd3 fd1 : FuncData} (F : Fun K "looks_certified" "looks_certified" sLooks f fd) (ms : mg "isinstance" = none) (mt : mg "tuple" = none) (ml : mg "len" = none) (mal : mg "all" = none)
    (G3 : FnOk P w K mg base CX0 3 f3 fd3 ["value"] (spD nameB)) (b3 : Binds K fd3 ["value"] []) (k3 : PySem.W.keepIn K (.ref f3) = true) (m3 : mg "is_name_pair" = some (.ref f3))
    (G1 : FnOk P w K mg base CX0 1 f1 fd1 ["values"] spAsc) (b1 : Binds K fd1 ["values"] []) (k1 : PySem.W.keepIn K (.ref f1) = true) (m1 : mg "is_ascending" = some (.ref f1)) :
    FnOk P w K mg base CX0 4 f fd ["value"] (spD itemB) := by
  refine F.ok scLk (fun vs H Q E h => ?_) (fun cdv A outer s H vs Q E hr h => ?_)
  · obtain ⟨v, m, n, N, rfl, _⟩ := h
    rfl
  · obtain ⟨v, m, n, N, rfl, hv, hm, k⟩ := h
    have r1 : Room 1 (A.deeper (PyProof.Rows.envOfC "looks_certified" (defScope sLooks) s.heap.objs.size f cdv)) := hr.mono (by decide)
    refine ⟨_, pss_cons (ps_if (PW.pt (pw_or (pt_not (pt_val (pe_callB call_isP (by rfl) ms (by decide +kernel) (pa_cons (pv 0) (pa_cons (pe_tyn "tuple" (by rfl) mt (by decide +kernel)) pa_nil)))))
          (pw_or1 (pt_cmpR op_ne (pe_callB call_len_seq (by rfl) ml boot_len (pa_cons (pv 0) pa_nil)) pe_int (nomark _))))) (pss_one (ps_ret pe_bl)) pss_nil)
      (pss_cons (ps_asg (pv 0) (pg_tup rfl (pgs_cons (pg_name (i := 1) scLk.nd rfl (Or.inl rfl)) (pgs_cons (pg_name (i := 2) scLk.nd rfl (Or.inl rfl)) pgs_nil))))
      (pss_cons (ps_if (PW.pt (pw_or (pt_not (pt_val (pe_call G3 hr rfl m3 k3 b3 .nil pass0 (pa_cons (pv 1) pa_nil)))) (pw_or1 (pt_not (pt_val (pe_callB call_isP (by rfl) ms (by decide +kernel) (pa_cons (pv 2) (pa_cons (pe_tyn "tuple" (by rfl) mt (by decide +kernel)) pa_nil)))))))) (pss_one (ps_ret pe_bl)) pss_nil)
      (pss_one (ps_ret (pe_and (pe_callB (cr_all rfl) (by rfl) mal (by decide +kernel) (pa_cons (pe_lc (own := [("vote", 3)]) (g := gName 3) rfl scLk.nd (pi_tup (pv 2)) (blkOk_by (own := [("vote", 3)]) (N := ["value", "payment", "votes", "vote"]) (sc := defScope sLooks) (by decide +kernel))
            (fun _ _ _ _ _ => pg_name (i := 3) scLk.nd rfl (Or.inl rfl)) (fun _ _ _ _ _ => pts_nil) (fun _ _ _ _ _ => pe_call G3 hr rfl m3 k3 b3 .nil pass0 (pa_cons (pv 3) pa_nil))) pa_nil))
        (pe_one (pe_call G1 r1 rfl m1 k1 b1 .nil pass0 (pa_cons (pv 2) pa_nil)))))))), ?_⟩
    refine ⟨_, rfl, v, "tuple", m, n, N, rfl, by decide, hv, _, rfl, ?_⟩
    rcases pv_view hv with ⟨xs, j, a, rfl, rfl, na, ha, hl, hx, ed, et⟩ | ⟨nt, et⟩
    · rw [et]
      refine iteF ?_
      refine ⟨_, rfl, a, xs, rfl, .inr (SqT.of ha), rfl, _, rfl, ?_⟩
      rw [ed] at k
      by_cases c2 : xs.length = 2
      · obtain ⟨x, y, rfl⟩ : ∃ x y, xs = [x, y] := by
          match xs, c2 with
          | [x, y], _ => exact ⟨x, y, rfl⟩
        refine iteF ?_
        have px := hx x (by simp)
        have py := hx y (by simp)
        have k' : ∀ H', Same H H' → Q (.bl (itemB (.tup [dtOf j H x, dtOf j H y]))) H' := k
        refine ⟨_, rfl, a, _, rfl, SqT.of ha, rfl, _, _, rfl, _, _, rfl, rfl, ?_⟩
        refine ⟨_, rfl, x, m, j, N, rfl, px, hm, fun H1 s1 => ⟨_, rfl, ?_⟩⟩
        cases e : nameB (dtOf j H x) with
        | false =>
          refine iteT ?_
          refine iteT ?_
          have e2 : itemB (.tup [dtOf j H x, dtOf j H y]) = false := by
            cases ey : dtOf j H y with
            | tup ds => show (nameB (dtOf j H x) && _) = false; rw [e]; rfl
            | _ => rfl
          rw [e2] at k'
          exact k' H1 s1
        | true =>
          refine iteF ?_
          have py1 := (PV.mon m j).same s1 py
          refine ⟨_, rfl, y, "tuple", m, j, N, rfl, by decide, py1, _, rfl, ?_⟩
          rcases pv_view py1 with ⟨ys, j2, a2, rfl, rfl, na2, ha2, hl2, hx2, ed2, et2⟩ | ⟨nt2, et2⟩
          · rw [et2]
            refine iteF ?_
            have edy : dtOf (j2 + 1) H (.ref a2) = .tup (ys.map (dtOf j2 H1)) := by rw [← dt_same py s1]; exact ed2
            have key : itemB (.tup [dtOf (j2 + 1) H x, dtOf (j2 + 1) H (.ref a2)]) = ((ys.map (dtOf j2 H1)).all nameB && asc ((ys.map (dtOf j2 H1)).map numOf)) := by
              rw [edy]
              show (nameB (dtOf (j2 + 1) H x) && _) = _
              rw [e]; rfl
            rw [key] at k'
            refine ⟨_, rfl, a2, rfl, ⟨ys, SqT.of ha2⟩, fun D hD => lc_tup (K := K) (a := a2) (xs := ys) (fun i H' => H' D = some (.lst ((ys.take i).map fun z => V.bl (nameB (dtOf j2 H1 z)))) ∧ Same H1 H')
              ⟨upd_same, same_upd hD⟩ (fun i H' _ e => SqT.of (e.2 _ _ ha2)) ?_ ?_⟩
            · rintro i z H' hzi ⟨hL, sL⟩
              have hi : i < ys.length := (List.getElem?_eq_some_iff.mp hzi).1
              have pz := hx2 z (List.mem_of_getElem? hzi)
              refine ⟨rfl, ?_⟩
              dsimp only [tYes]
              refine iteT ?_
              refine ⟨_, rfl, z, m, j2, N, rfl, (PV.mon m j2).same sL pz, hm, fun H2 s2 => ⟨_, s2 _ _ hL, ?_, ?_, ?_⟩⟩
              · rw [List.length_map, List.length_take]; exact small1000 (by omega)
              · rw [dt_same pz sL, List.take_succ, hzi, List.map_append]; exact upd_same
              · intro b o hb
                have nb : b ≠ D := ne_of_none hb hD
                rw [upd_ne nb]
                exact s2 _ _ (sL _ _ hb)
            · rintro H' ⟨hL, sL⟩
              rw [List.take_of_length_le (Nat.le_refl _)] at hL
              refine ⟨D, ys.map (fun z => nameB (dtOf j2 H1 z)), rfl, SqL.of (by rw [List.map_map]; exact hL), _, rfl, ?_⟩
              have ea : (ys.map (fun z => nameB (dtOf j2 H1 z))).all id = (ys.map (dtOf j2 H1)).all nameB := by rw [List.all_map, List.all_map]; rfl
              rw [ea]
              cases eall : (ys.map (dtOf j2 H1)).all nameB with
              | false =>
                refine iteF ?_
                rw [eall] at k'
                exact k' _ (s1.trans sL)
              | true =>
                refine iteT ?_
                rw [eall] at k'
                obtain ⟨nl, nn⟩ := names_of hx2 eall
                exact ⟨_, rfl, a2, ys, _, rfl, sL _ _ ha2, by omega, ⟨nl, fun t x hx => (nn t x hx).elim fun b q => ⟨b, q.1, sL _ _ q.2⟩⟩, fun H3 s3 => k' H3 ((s1.trans sL).trans s3)⟩
          · rw [et2]
            refine iteT ?_
            have e2 : itemB (.tup [dtOf j H x, dtOf j H y]) = false := by
              cases ey : dtOf j H y with
              | tup ds => exact absurd ((dt_same py s1).trans ey) (nt2 ds)
              | _ => rfl
            rw [e2] at k'
            exact k' H1 s1
      · have e3 : (!decide (V.int (xs.length : Int) = V.int 2)) = true := by
          rw [decide_eq_false (fun q => c2 (by have := V.int.inj q; omega))]; rfl
        rw [e3]
        refine iteT ?_
        rw [itemB_len c2] at k
        exact k H (Same.refl H)
    · rw [et]
      refine iteT ?_
      refine iteT ?_
      have e2 : itemB (dtOf n H v) = false := by
        cases e : dtOf n H v with
        | tup ds => exact absurd e (nt ds)
        | _ => rfl
      rw [e2] at k
      exact k H (Same.refl H)
theorem scCe : FnScope ["value", "item"] ["value"] (defScope sCerts) := ⟨rfl, rfl, rfl, by decide +kernel, rfl, by decide +kernel, by decide +kernel⟩
theorem ok_certs {f f4 : Addr} {fd fd4 : FuncData} (F : Fun K "are_certificates" "are_certificates" sCerts f fd) (ms : mg "isinstance" = none) (mt : mg "tuple" = none) (mal : mg "all" = none)
    (G4 : FnOk P w K mg base CX0 4 f4 fd4 ["value"] (spD itemB)) (b4 : Binds K fd4 ["value"] []) (k4 : PySem.W.keepIn K (.ref f4) = true) (m4 : mg "looks_certified" = some (.ref f4)) :
    FnOk P w K mg base CX0 5 f fd ["value"] (spD itemsB) := by
  refine F.ok scCe (fun vs H Q E h => ?_) (fun cdv A outer s H vs Q E hr h => ?_)
  · obtain ⟨v, m, n, N, rfl, _⟩ := h
    rfl
  · obtain ⟨v, m, n, N, rfl, hv, hm, k⟩ := h
    refine ⟨_, pss_one (ps_ret (pe_and (pe_callB call_isP (by rfl) ms (by decide +kernel) (pa_cons (pv 0) (pa_cons (pe_tyn "tuple" (by rfl) mt (by decide +kernel)) pa_nil)))
        (pe_one (pe_callB (cr_all rfl) (by rfl) mal (by decide +kernel) (pa_cons (pe_lc (own := [("item", 1)]) (g := gName 1) rfl scCe.nd (pi_tup (pv 0)) (blkOk_by (own := [("item", 1)]) (N := ["value", "item"]) (sc := defScope sCerts) (by decide +kernel))
            (fun _ _ _ _ _ => pg_name (i := 1) scCe.nd rfl (Or.inl rfl)) (fun _ _ _ _ _ => pts_nil) (fun _ _ _ _ _ => pe_call G4 hr rfl m4 k4 b4 .nil pass0 (pa_cons (pv 1) pa_nil))) pa_nil))))), ?_⟩
    refine ⟨_, rfl, v, "tuple", m, n, N, rfl, by decide, hv, _, rfl, ?_⟩
    rcases pv_view hv with ⟨ys, j, a, rfl, rfl, na, ha, hl, hx, ed, et⟩ | ⟨nt, et⟩
    · rw [et]
      refine iteT ?_
      rw [ed] at k
      refine ⟨_, rfl, a, rfl, ⟨ys, SqT.of ha⟩, fun D hD => lc_tup (K := K) (a := a) (xs := ys) (fun i H' => H' D = some (.lst ((ys.take i).map fun z => V.bl (itemB (dtOf j H z)))) ∧ Same H H')
        ⟨upd_same, same_upd hD⟩ (fun i H' _ e => SqT.of (e.2 _ _ ha)) ?_ ?_⟩
      · rintro i z H' hzi ⟨hL, sL⟩
        have hi : i < ys.length := (List.getElem?_eq_some_iff.mp hzi).1
        have pz := hx z (List.mem_of_getElem? hzi)
        refine ⟨rfl, ?_⟩
        dsimp only [tYes]
        refine iteT ?_
        refine ⟨_, rfl, z, m, j, N, rfl, (PV.mon m j).same sL pz, hm, fun H2 s2 => ⟨_, s2 _ _ hL, ?_, ?_, ?_⟩⟩
        · rw [List.length_map, List.length_take]; exact small1000 (by omega)
        · rw [dt_same pz sL, List.take_succ, hzi, List.map_append]; exact upd_same
        · intro b o hb
          have nb : b ≠ D := ne_of_none hb hD
          rw [upd_ne nb]
          exact s2 _ _ (sL _ _ hb)
      · rintro H' ⟨hL, sL⟩
        rw [List.take_of_length_le (Nat.le_refl _)] at hL
        refine ⟨D, ys.map (fun z => itemB (dtOf j H z)), rfl, SqL.of (by rw [List.map_map]; exact hL), ?_⟩
        have ea : (ys.map (fun z => itemB (dtOf j H z))).all id = itemsB (.tup (ys.map (dtOf j H))) := by
          show _ = (ys.map (dtOf j H)).all itemB
          rw [List.all_map, List.all_map]; rfl
        rw [ea]
        exact k _ sL
    · rw [et]
      refine iteF ?_
      have e2 : itemsB (dtOf n H v) = false := by
        cases e : dtOf n H v with
        | tup ds => exact absurd e (nt ds)
        | _ => rfl
      rw [e2] at k
      exact k H (Same.refl H)
/-- the name and the certificates of an asking body -/
def spAsk : Sp := fun vs H Q _ => ∃ (a : Addr) (x y z : V) (m n : Nat) (N : Addr → Prop), vs = [.ref a] ∧ H a = some (.tup [x, y, z]) ∧ PV m n N H y ∧ PV m n N H z ∧ m ≤ 1000 ∧ ∀ H', Same H H' → Q (.bl (nameB (dtOf n H y) && itemsB (dtOf n H z))) H'
theorem scAk : FnScope ["body"] ["body"] (defScope sAsking) := ⟨rfl, rfl, rfl, by decide +kernel, rfl, by decide +kernel, by decide +kernel⟩
theorem ok_asking {f f3 f5 : Addr} {fd fd3 fd5 : FuncData} (F : Fun K "is_asking" "is_asking" sAsking f fd)
    (G3 : FnOk P w K mg base CX0 3 f3 fd3 ["value"] (spD nameB)) (b3 : Binds K fd3 ["value"] []) (k3 : PySem.W.keepIn K (.ref f3) = true) (m3 : mg "is_name_pair" = some (.ref f3))
    (G5 : FnOk P w K mg base CX0 5 f5 fd5 ["value"] (spD itemsB)) (b5 : Binds K fd5 ["value"] []) (k5 : PySem.W.keepIn K (.ref f5) = true) (m5 : mg "are_certificates" = some (.ref f5)) :
    FnOk P w K mg base CX0 6 f fd ["body"] spAsk := by
  refine F.ok scAk (fun vs H Q E h => ?_) (fun cdv A outer s H vs Q E hr h => ?_)
  · obtain ⟨a, x, y, z, m, n, N, rfl, _⟩ := h
    rfl
  · obtain ⟨a, x, y, z, m, n, N, rfl, ha, py, pz, hm, k⟩ := h
    have r3 : Room 3 (A.deeper (PyProof.Rows.envOfC "is_asking" (defScope sAsking) s.heap.objs.size f cdv)) := hr.mono (by decide)
    refine ⟨_, pss_one (ps_ret (pe_and (pe_call G3 r3 rfl m3 k3 b3 .nil pass0 (pa_cons (pe_ix ix_tup (pv 0) pe_int (fun _ _ => rfl)) pa_nil)) (pe_one (pe_call G5 hr rfl m5 k5 b5 .nil pass0 (pa_cons (pe_ix ix_tup (pv 0) pe_int (fun _ _ => rfl)) pa_nil))))), ?_⟩
    refine ⟨_, rfl, a, _, 1, y, rfl, rfl, SqT.of ha, atI_nat (j := 1) rfl, y, m, n, N, rfl, py, hm, fun H1 s1 => ⟨_, rfl, ?_⟩⟩
    cases e : nameB (dtOf n H y) with
    | false =>
      refine iteF ?_
      rw [e] at k
      exact k H1 s1
    | true =>
      refine iteT ?_
      rw [e] at k
      refine ⟨_, rfl, a, _, 2, z, rfl, rfl, SqT.of (s1 _ _ ha), atI_nat (j := 2) rfl, z, m, n, N, rfl, (PV.mon m n).same s1 pz, hm, fun H2 s2 => ?_⟩
      rw [dt_same pz s1]
      exact k H2 (s1.trans s2)
end
end Pu

namespace Pu
open PySem L2
abbrev sRow : Stmt := top 16
abbrev sPurse : Stmt := top 14
abbrev sMember : Stmt := top 15
abbrev sEnd : Stmt := top 20
abbrev sBody : Stmt := top 21
abbrev sLetter : Stmt := top 19
/-- a bank's tuple, with so many purses and members -/
def BkV (H : Hp) (v : V) (np : Nat) (nm : Int) : Prop := ∃ (a x : Addr) (ys : List V) (li : V), v = .ref a ∧ H a = some (.tup [.ref x, .int nm, li]) ∧ H x = some (.tup ys) ∧ ys.length = np
theorem BkV.same {H H' : Hp} {v : V} {np : Nat} {nm : Int} (h : BkV H v np nm) (s : Same H H') : BkV H' v np nm := by
  obtain ⟨a, x, ys, li, e, h1, h2, l⟩ := h
  exact ⟨a, x, ys, li, e, s _ _ h1, s _ _ h2, l⟩
def spBD (f : Nat → Int → Dt → Bool) : Sp := fun vs H Q _ => ∃ (b : V) (np : Nat) (nm : Int) (v : V) (m n : Nat) (N : Addr → Prop), vs = [b, v] ∧ BkV H b np nm ∧ PV m n N H v ∧ m ≤ 1000 ∧ ∀ H', Same H H' → Q (.bl (f np nm (dtOf n H v))) H'
def spBody : Sp := fun vs H Q _ => ∃ (b : V) (np : Nat) (nm : Int) (s r : Str) (v : V) (m n : Nat) (N : Addr → Prop), vs = [b, .str s, .str r, v] ∧ BkV H b np nm ∧ PV m n N H v ∧ m ≤ 1000 ∧ ∀ H', Same H H' → Q (.bl (bodyB np s r (dtOf n H v))) H'
def spLetter (C : Addr) : Sp := fun vs H Q E => ∃ (b v : V) (m n : Nat) (N : Addr → Prop) (m2 n2 : Nat) (N2 : Addr → Prop), vs = [b, v] ∧ PV m2 n2 N2 H b ∧ m2 ≤ 1000 ∧ PV m n N H v ∧ m ≤ 1000 ∧
  (bankB H b = true → ∀ np nm, BkV H b np nm → ∀ H', Same H H' → Q (.bl (letterB np nm (dtOf n H v))) H') ∧ (bankB H b = false → ∀ H', Same H H' → E (.ref C) none H')
section
variable {P : Program} {w : World} {K : PySem.W.Frag} {mg : Str → Option Value} {base : Heap}
theorem scRw : FnScope ["bank", "value", "many"] ["bank", "value"] (defScope sRow) := ⟨rfl, rfl, rfl, by decide +kernel, rfl, by decide +kernel, by decide +kernel⟩
theorem ok_row {f f2 : Addr} {fd fd2 : FuncData} (F : Fun K "is_row" "is_row" sRow f fd) (ms : mg "isinstance" = none) (mt : mg "tuple" = none) (ml : mg "len" = none) (mal : mg "all" = none)
    (G2 : FnOk P w K mg base CX0 2 f2 fd2 ["value", "least"] spNumFrom) (b2 : Binds K fd2 ["value", "least"] []) (k2 : PySem.W.keepIn K (.ref f2) = true) (m2 : mg "is_number_from" = some (.ref f2)) :
    FnOk P w K mg base CX0 3 f fd ["bank", "value"] (spBD fun np _ d => rowB np d) := by
  refine F.ok scRw (fun vs H Q E h => ?_) (fun cdv A outer s H vs Q E hr h => ?_)
  · obtain ⟨b, np, nm, v, m, n, N, rfl, _⟩ := h
    rfl
  · obtain ⟨b, np, nm, v, m, n, N, rfl, hb, hv, hm, k⟩ := h
    obtain ⟨ab, xb, bs, li, rfl, hab, hxb, lb⟩ := id hb
    have k : ∀ H', Same H H' → Q (.bl (rowB np (dtOf n H v))) H' := k
    refine ⟨_, pss_cons (ps_if (PW.pt (pw_or (pt_not (pt_val (pe_callB call_isP (by rfl) ms (by decide +kernel) (pa_cons (pv 1) (pa_cons (pe_tyn "tuple" (by rfl) mt (by decide +kernel)) pa_nil)))))
          (pw_or1 (pt_cmpR op_ne (pe_callB call_len_seq (by rfl) ml boot_len (pa_cons (pv 1) pa_nil)) (pe_callB call_len_seq (by rfl) ml boot_len (pa_cons (pe_ix ix_tup (pv 0) pe_int (fun _ _ => rfl)) pa_nil)) (nomark _))))) (pss_one (ps_ret pe_bl)) pss_nil)
      (pss_one (ps_ret (pe_callB (cr_all rfl) (by rfl) mal (by decide +kernel) (pa_cons (pe_lc (own := [("many", 2)]) (g := gName 2) rfl scRw.nd (pi_tup (pv 1)) (blkOk_by (own := [("many", 2)]) (N := ["bank", "value", "many"]) (sc := defScope sRow) (by decide +kernel))
            (fun _ _ _ _ _ => pg_name (i := 2) scRw.nd rfl (Or.inl rfl)) (fun _ _ _ _ _ => pts_nil) (fun _ _ _ _ _ => pe_call G2 hr rfl m2 k2 b2 .nil pass0 (pa_cons (pv 2) (pa_cons pe_int pa_nil)))) pa_nil)))), ?_⟩
    refine ⟨_, rfl, v, "tuple", m, n, N, rfl, by decide, hv, _, rfl, ?_⟩
    rcases pv_view hv with ⟨ys, j, a, rfl, rfl, na, ha, hl, hx, ed, et⟩ | ⟨nt, et⟩
    · rw [et]
      refine iteF ?_
      rw [ed] at k
      have key : rowB np (.tup (ys.map (dtOf j H))) = (decide (ys.length = np) && (ys.map (dtOf j H)).all numB0) := by
        show (decide ((ys.map (dtOf j H)).length = np) && _) = _
        rw [List.length_map]
      rw [key] at k
      refine ⟨_, rfl, a, ys, rfl, .inr (SqT.of ha), _, rfl, ab, _, 0, _, rfl, rfl, SqT.of hab, atI_nat (j := 0) rfl, xb, bs, rfl, .inr (SqT.of hxb), rfl, _, rfl, ?_⟩
      rw [lb]
      by_cases c : ys.length = np
      · rw [decide_eq_true c] at k
        rw [c]
        refine iteNS rfl ?_
        refine ⟨_, rfl, a, rfl, ⟨ys, SqT.of ha⟩, fun D hD => lc_tup (K := K) (a := a) (xs := ys) (fun i H' => H' = upd H D (.lst ((ys.take i).map fun z => V.bl (numF z 0))))
          rfl (fun i H' _ e => by rw [e]; exact SqT.of (same_upd hD _ _ ha)) ?_ ?_⟩
        · rintro i z H' hzi rfl
          have hi : i < ys.length := (List.getElem?_eq_some_iff.mp hzi).1
          refine ⟨rfl, ?_⟩
          dsimp only [tYes]
          refine iteT ?_
          refine ⟨_, rfl, z, m, j, N, 0, rfl, (PV.mon m j).same (same_upd hD) (hx z (List.mem_of_getElem? hzi)), _, upd_same, ?_, ?_⟩
          · rw [List.length_map, List.length_take]; exact small1000 (by omega)
          · rw [upd_upd, List.take_succ, hzi, List.map_append]; rfl
        · rintro H' rfl
          rw [List.take_of_length_le (Nat.le_refl _)]
          refine ⟨D, ys.map (fun z => numF z 0), rfl, SqL.of (by rw [List.map_map]; exact upd_same), ?_⟩
          have ea : (ys.map (fun z => numF z 0)).all id = (ys.map (dtOf j H)).all numB0 := by
            rw [List.all_map, List.all_map, Bool.eq_iff_iff, List.all_eq_true, List.all_eq_true]
            exact ⟨fun h z hz => (num_dt (hx z hz)).symm.trans (h z hz), fun h z hz => (num_dt (hx z hz)).trans (h z hz)⟩
          rw [ea]
          exact k _ (same_upd hD)
      · rw [decide_eq_false c] at k
        have e3 : (!decide (V.int (ys.length : Int) = V.int (np : Int))) = true := by
          rw [decide_eq_false (fun q => c (by have := V.int.inj q; omega))]; rfl
        rw [e3]
        refine iteT ?_
        exact k H (Same.refl H)
    · rw [et]
      refine iteT ?_
      refine iteT ?_
      have e2 : rowB np (dtOf n H v) = false := by
        cases e : dtOf n H v with
        | tup ds => exact absurd e (nt ds)
        | _ => rfl
      rw [e2] at k
      exact k H (Same.refl H)
theorem scPu : FnScope ["bank", "value"] ["bank", "value"] (defScope sPurse) := ⟨rfl, rfl, rfl, by decide +kernel, rfl, by decide +kernel, by decide +kernel⟩
theorem ok_purse {f f3 : Addr} {fd fd3 : FuncData} (F : Fun K "is_purse" "is_purse" sPurse f fd) (ml : mg "len" = none) (G3 : FnOk P w K mg base CX0 3 f3 fd3 ["value", "limit"] spBelow) (b3 : Binds K fd3 ["value", "limit"] []) (k3 : PySem.W.keepIn K (.ref f3) = true) (m3 : mg "is_number_below" = some (.ref f3)) :
    FnOk P w K mg base CX0 4 f fd ["bank", "value"] (spBD fun np _ d => numB0 d && decide (intOf d < (np : Int))) := by
  refine F.ok scPu (fun vs H Q E h => ?_) (fun cdv A outer s H vs Q E hr h => ?_)
  · obtain ⟨b, np, nm, v, m, n, N, rfl, _⟩ := h
    rfl
  · obtain ⟨b, np, nm, v, m, n, N, rfl, hb, hv, hm, k⟩ := h
    obtain ⟨ab, xb, bs, li, rfl, hab, hxb, lb⟩ := id hb
    refine ⟨_, pss_one (ps_ret (pe_call G3 hr rfl m3 k3 b3 .nil pass0 (pa_cons (pv 1) (pa_cons (pe_callB call_len_seq (by rfl) ml boot_len (pa_cons (pe_ix ix_tup (pv 0) pe_int (fun _ _ => rfl)) pa_nil)) pa_nil)))), ?_⟩
    refine ⟨_, rfl, _, rfl, ab, _, 0, _, rfl, rfl, SqT.of hab, atI_nat (j := 0) rfl, xb, bs, rfl, .inr (SqT.of hxb), v, m, n, N, _, rfl, hv, ?_⟩
    rw [lb]
    exact k H (Same.refl H)
theorem scMe : FnScope ["bank", "value"] ["bank", "value"] (defScope sMember) := ⟨rfl, rfl, rfl, by decide +kernel, rfl, by decide +kernel, by decide +kernel⟩
theorem ok_member {f f3 : Addr} {fd fd3 : FuncData} (F : Fun K "is_member" "is_member" sMember f fd) (G3 : FnOk P w K mg base CX0 3 f3 fd3 ["value", "limit"] spBelow) (b3 : Binds K fd3 ["value", "limit"] []) (k3 : PySem.W.keepIn K (.ref f3) = true) (m3 : mg "is_number_below" = some (.ref f3)) :
    FnOk P w K mg base CX0 4 f fd ["bank", "value"] (spBD fun _ nm d => numB0 d && decide (intOf d < nm)) := by
  refine F.ok scMe (fun vs H Q E h => ?_) (fun cdv A outer s H vs Q E hr h => ?_)
  · obtain ⟨b, np, nm, v, m, n, N, rfl, _⟩ := h
    rfl
  · obtain ⟨b, np, nm, v, m, n, N, rfl, hb, hv, hm, k⟩ := h
    obtain ⟨ab, xb, bs, li, rfl, hab, hxb, lb⟩ := id hb
    refine ⟨_, pss_one (ps_ret (pe_call G3 hr rfl m3 k3 b3 .nil pass0 (pa_cons (pv 1) (pa_cons (pe_ix ix_tup (pv 0) pe_int (fun _ _ => rfl)) pa_nil)))), ?_⟩
    exact ⟨_, rfl, _, rfl, ab, _, 1, _, rfl, rfl, SqT.of hab, atI_nat (j := 1) rfl, v, m, n, N, _, rfl, hv, k H (Same.refl H)⟩
theorem scEn : FnScope ["bank", "value"] ["bank", "value"] (defScope sEnd) := ⟨rfl, rfl, rfl, by decide +kernel, rfl, by decide +kernel, by decide +kernel⟩
theorem end_len {n np : Nat} {nm : Int} {H : Hp} {xs : List V} (c : ¬ xs.length = 2) : endB np nm (.tup (xs.map (dtOf n H))) = false := by
  match xs, c with
  | [], _ => rfl
  | [_], _ => rfl
  | [_, _], c => exact absurd rfl c
  | _ :: _ :: _ :: _, _ => rfl
theorem ok_end {f f4 f5 : Addr} {fd fd4 fd5 : FuncData} (F : Fun K "is_end" "is_end" sEnd f fd) (ms : mg "isinstance" = none) (mt : mg "tuple" = none) (ml : mg "len" = none)
    (G4 : FnOk P w K mg base CX0 4 f4 fd4 ["bank", "value"] (spBD fun np _ d => numB0 d && decide (intOf d < (np : Int)))) (b4 : Binds K fd4 ["bank", "value"] []) (k4 : PySem.W.keepIn K (.ref f4) = true) (m4 : mg "is_purse" = some (.ref f4))
    (G5 : FnOk P w K mg base CX0 4 f5 fd5 ["bank", "value"] (spBD fun _ nm d => numB0 d && decide (intOf d < nm))) (b5 : Binds K fd5 ["bank", "value"] []) (k5 : PySem.W.keepIn K (.ref f5) = true) (m5 : mg "is_member" = some (.ref f5)) :
    FnOk P w K mg base CX0 5 f fd ["bank", "value"] (spBD endB) := by
  refine F.ok scEn (fun vs H Q E h => ?_) (fun cdv A outer s H vs Q E hr h => ?_)
  · obtain ⟨b, np, nm, v, m, n, N, rfl, _⟩ := h
    rfl
  · obtain ⟨b, np, nm, v, m, n, N, rfl, hb, hv, hm, k⟩ := h
    have hu := Nat.lt_of_succ_lt (hu_of hr)
    refine ⟨_, pss_cons (ps_if (PW.pt (pw_or (pt_not (pt_val (pe_callB call_isP (by rfl) ms (by decide +kernel) (pa_cons (pv 1) (pa_cons (pe_tyn "tuple" (by rfl) mt (by decide +kernel)) pa_nil)))))
          (pw_or1 (pt_cmpR op_ne (pe_callB call_len_seq (by rfl) ml boot_len (pa_cons (pv 1) pa_nil)) pe_int (nomark _))))) (pss_one (ps_ret pe_bl)) pss_nil)
      (pss_cons (ps_if (pt_cmpR (op_eqPS hu) (pe_ix ix_tup (pv 1) pe_int (fun _ _ => rfl)) pe_str (nomark _)) (pss_one (ps_ret (pe_call G4 hr rfl m4 k4 b4 .nil pass0 (pa_cons (pv 0) (pa_cons (pe_ix ix_tup (pv 1) pe_int (fun _ _ => rfl)) pa_nil))))) pss_nil)
      (pss_one (ps_ret (pe_and (pe_cmpR (op_eqPS hu) (pe_ix ix_tup (pv 1) pe_int (fun _ _ => rfl)) pe_str (nomark _)) (pe_one (pe_call G5 hr rfl m5 k5 b5 .nil pass0 (pa_cons (pv 0) (pa_cons (pe_ix ix_tup (pv 1) pe_int (fun _ _ => rfl)) pa_nil)))))))), ?_⟩
    refine ⟨_, rfl, v, "tuple", m, n, N, rfl, by decide, hv, _, rfl, ?_⟩
    rcases pv_view hv with ⟨xs, j, a, rfl, rfl, na, ha, hl, hx, ed, et⟩ | ⟨nt, et⟩
    · rw [et]
      refine iteF ?_
      refine ⟨_, rfl, a, xs, rfl, .inr (SqT.of ha), rfl, _, rfl, ?_⟩
      rw [ed] at k
      by_cases c2 : xs.length = 2
      · obtain ⟨x, y, rfl⟩ : ∃ x y, xs = [x, y] := by
          match xs, c2 with
          | [x, y], _ => exact ⟨x, y, rfl⟩
        refine iteF ?_
        have px := hx x (by simp)
        have py := hx y (by simp)
        have k' : ∀ H', Same H H' → Q (.bl (if strB "owner" (dtOf j H x) = true then numB0 (dtOf j H y) && decide (intOf (dtOf j H y) < (np : Int)) else strB "member" (dtOf j H x) && (numB0 (dtOf j H y) && decide (intOf (dtOf j H y) < nm)))) H' := k
        refine ⟨_, rfl, a, _, 0, x, rfl, rfl, SqT.of ha, atI_nat (j := 0) rfl, m, j, N, "owner", rfl, px, _, rfl, ?_⟩
        rw [str_dt px]
        cases e : strB "owner" (dtOf j H x) with
        | true =>
          rw [e, if_pos rfl] at k'
          refine iteT ?_
          exact ⟨_, rfl, _, rfl, a, _, 1, y, rfl, rfl, SqT.of ha, atI_nat (j := 1) rfl, b, np, nm, y, m, j, N, rfl, hb, py, hm, k'⟩
        | false =>
          rw [e, if_neg (by decide)] at k'
          refine iteF ?_
          refine ⟨_, rfl, a, _, 0, x, rfl, rfl, SqT.of ha, atI_nat (j := 0) rfl, m, j, N, "member", rfl, px, _, rfl, ?_⟩
          rw [str_dt px]
          cases e2 : strB "member" (dtOf j H x) with
          | false =>
            rw [e2] at k'
            refine iteF ?_
            exact k' H (Same.refl H)
          | true =>
            rw [e2] at k'
            refine iteT ?_
            exact ⟨_, rfl, _, rfl, a, _, 1, y, rfl, rfl, SqT.of ha, atI_nat (j := 1) rfl, b, np, nm, y, m, j, N, rfl, hb, py, hm, k'⟩
      · have e3 : (!decide (V.int (xs.length : Int) = V.int 2)) = true := by
          rw [decide_eq_false (fun q => c2 (by have := V.int.inj q; omega))]; rfl
        rw [e3]
        refine iteT ?_
        rw [end_len c2] at k
        exact k H (Same.refl H)
    · rw [et]
      refine iteT ?_
      refine iteT ?_
      have e2 : endB np nm (dtOf n H v) = false := by
        cases e : dtOf n H v with
        | tup ds => exact absurd e (nt ds)
        | _ => rfl
      rw [e2] at k
      exact k H (Same.refl H)
end
end Pu

namespace Pu
open PySem L2
section
variable {P : Program} {w : World} {K : PySem.W.Frag} {mg : Str → Option Value} {base : Heap}
theorem body_len {n np : Nat} {s r : Str} {H : Hp} {xs : List V} (c : ¬ (2 ≤ xs.length ∧ xs.length ≤ 3)) : bodyB np s r (.tup (xs.map (dtOf n H))) = false := by
  match xs, c with
  | [], _ => rfl
  | [_], _ => rfl
  | [_, _], c => exact absurd ⟨by simp, by simp⟩ c
  | [_, _, _], c => exact absurd ⟨by simp, by simp⟩ c
  | _ :: _ :: _ :: _ :: _, _ => rfl
theorem scBo : FnScope ["bank", "sender", "receiver", "value", "word", "told"] ["bank", "sender", "receiver", "value"] (defScope sBody) := ⟨rfl, rfl, rfl, by decide +kernel, rfl, by decide +kernel, by decide +kernel⟩
theorem ok_body {f f3 f4 f5 f6 : Addr} {fd fd3 fd4 fd5 fd6 : FuncData} (F : Fun K "is_body" "is_body" sBody f fd) (ms : mg "isinstance" = none) (mt : mg "tuple" = none) (ml : mg "len" = none)
    (G3 : FnOk P w K mg base CX0 3 f3 fd3 ["value"] (spD nameB)) (b3 : Binds K fd3 ["value"] []) (k3 : PySem.W.keepIn K (.ref f3) = true) (m3 : mg "is_name_pair" = some (.ref f3))
    (G4 : FnOk P w K mg base CX0 3 f4 fd4 ["bank", "value"] (spBD fun np _ d => rowB np d)) (b4 : Binds K fd4 ["bank", "value"] []) (k4 : PySem.W.keepIn K (.ref f4) = true) (m4 : mg "is_row" = some (.ref f4))
    (G5 : FnOk P w K mg base CX0 5 f5 fd5 ["value"] (spD itemsB)) (b5 : Binds K fd5 ["value"] []) (k5 : PySem.W.keepIn K (.ref f5) = true) (m5 : mg "are_certificates" = some (.ref f5))
    (G6 : FnOk P w K mg base CX0 6 f6 fd6 ["body"] spAsk) (b6 : Binds K fd6 ["body"] []) (k6 : PySem.W.keepIn K (.ref f6) = true) (m6 : mg "is_asking" = some (.ref f6)) :
    FnOk P w K mg base CX0 7 f fd ["bank", "sender", "receiver", "value"] spBody := by
  refine F.ok scBo (fun vs H Q E h => ?_) (fun cdv A outer st H vs Q E hr h => ?_)
  · obtain ⟨b, np, nm, s, r, v, m, n, N, rfl, _⟩ := h
    rfl
  · obtain ⟨b, np, nm, s, r, v, m, n, N, rfl, hb, hv, hm, k⟩ := h
    have hu := Nat.lt_of_succ_lt (hu_of hr)
    have r3 : Room 3 (A.deeper (PyProof.Rows.envOfC "is_body" (defScope sBody) st.heap.objs.size f cdv)) := hr.mono (by decide)
    have r5 : Room 5 (A.deeper (PyProof.Rows.envOfC "is_body" (defScope sBody) st.heap.objs.size f cdv)) := hr.mono (by decide)
    refine ⟨_, pss_cons (ps_if (PW.pt (pw_or (pt_not (pt_val (pe_callB call_isP (by rfl) ms (by decide +kernel) (pa_cons (pv 3) (pa_cons (pe_tyn "tuple" (by rfl) mt (by decide +kernel)) pa_nil)))))
          (pw_or1 (pt_not (pt_chain op_le op_le pe_int (pe_callB call_len_seq (by rfl) ml boot_len (pa_cons (pv 3) pa_nil)) pe_int))))) (pss_one (ps_ret pe_bl)) pss_nil)
      (pss_cons (ps_if (pt_cmpR op_eq (pe_callB call_len_seq (by rfl) ml boot_len (pa_cons (pv 3) pa_nil)) pe_int (nomark _))
          (pss_one (ps_ret (pe_and (pe_cmpR (op_eqPS hu) (pe_ix ix_tup (pv 3) pe_int (fun _ _ => rfl)) pe_str (nomark _)) (pe_and (pe_cmpR op_eq (pv 1) pe_str (nomark _)) (pe_and (pe_cmpR op_eq (pv 2) pe_str (nomark _)) (pe_one (pe_call G6 hr rfl m6 k6 b6 .nil pass0 (pa_cons (pv 3) pa_nil)))))))) pss_nil)
      (pss_cons (ps_asg (pv 3) (pg_tup rfl (pgs_cons (pg_name (i := 4) scBo.nd rfl (Or.inl rfl)) (pgs_cons (pg_name (i := 5) scBo.nd rfl (Or.inl rfl)) pgs_nil))))
      (pss_cons (ps_if (pt_cmpR (op_eqPS hu) (pv 4) pe_str (nomark _)) (pss_one (ps_ret (pe_and (pe_cmpR op_eq (pv 1) pe_str (nomark _)) (pe_and (pe_cmpR op_eq (pv 2) pe_str (nomark _)) (pe_one (pe_call G3 r3 rfl m3 k3 b3 .nil pass0 (pa_cons (pv 5) pa_nil))))))) pss_nil)
      (pss_cons (ps_if (pt_cmpR (op_eqPS hu) (pv 4) pe_str (nomark _)) (pss_one (ps_ret (pe_call G5 r5 rfl m5 k5 b5 .nil pass0 (pa_cons (pv 5) pa_nil)))) pss_nil)
      (pss_one (ps_ret (pe_and (pe_cmpR (op_eqPS hu) (pv 4) pe_str (nomark _)) (pe_one (pe_call G4 r3 rfl m4 k4 b4 .nil pass0 (pa_cons (pv 0) (pa_cons (pv 5) pa_nil))))))))))), ?_⟩
    refine ⟨_, rfl, v, "tuple", m, n, N, rfl, by decide, hv, _, rfl, ?_⟩
    rcases pv_view hv with ⟨xs, j, a, rfl, rfl, na, ha, hl, hx, ed, et⟩ | ⟨nt, et⟩
    · rw [et]
      refine iteF ?_
      rw [ed] at k
      have eqS : ∀ {u z : Str}, decide (V.str u = V.str z) = decide (u = z) := fun {u z} => by
        by_cases c : u = z
        · rw [decide_eq_true c, c]; exact decide_eq_true rfl
        · rw [decide_eq_false c]; exact decide_eq_false fun e => c (V.str.inj e)
      refine ⟨_, rfl, a, xs, rfl, .inr (SqT.of ha), _, _, rfl, rfl, _, rfl, ?_⟩
      by_cases c2 : (2 : Int) ≤ (xs.length : Int)
      · rw [decide_eq_true c2]
        refine iteT ?_
        refine ⟨_, _, rfl, rfl, _, rfl, ?_⟩
        by_cases c3 : (xs.length : Int) ≤ 3
        · rw [decide_eq_true c3]
          refine iteF ?_
          refine ⟨_, rfl, a, xs, rfl, .inr (SqT.of ha), rfl, _, rfl, ?_⟩
          by_cases c4 : xs.length = 3
          · obtain ⟨x, y, z, rfl⟩ : ∃ x y z, xs = [x, y, z] := by
              match xs, c4 with
              | [x, y, z], _ => exact ⟨x, y, z, rfl⟩
            have px := hx x (by simp)
            have py := hx y (by simp)
            have pz := hx z (by simp)
            have k' : ∀ H', Same H H' → Q (.bl (strB "ask" (dtOf j H x) && (decide (s = "owner") && (decide (r = "member") && (nameB (dtOf j H y) && itemsB (dtOf j H z)))))) H' := k
            refine iteT ?_
            refine ⟨_, rfl, a, _, 0, x, rfl, rfl, SqT.of ha, atI_nat (j := 0) rfl, m, j, N, "ask", rfl, px, _, rfl, ?_⟩
            rw [str_dt px]
            cases e : strB "ask" (dtOf j H x) with
            | false =>
              rw [e] at k'
              refine iteF ?_
              exact k' H (Same.refl H)
            | true =>
              rw [e] at k'
              refine iteT ?_
              refine ⟨_, rfl, rfl, _, rfl, ?_⟩
              rw [eqS]
              cases e1 : decide (s = "owner") with
              | false =>
                rw [e1] at k'
                refine iteF ?_
                exact k' H (Same.refl H)
              | true =>
                rw [e1] at k'
                refine iteT ?_
                refine ⟨_, rfl, rfl, _, rfl, ?_⟩
                rw [eqS]
                cases e2 : decide (r = "member") with
                | false =>
                  rw [e2] at k'
                  refine iteF ?_
                  exact k' H (Same.refl H)
                | true =>
                  rw [e2] at k'
                  refine iteT ?_
                  exact ⟨_, rfl, a, x, y, z, m, j, N, rfl, ha, py, pz, hm, k'⟩
          · obtain ⟨x, y, rfl⟩ : ∃ x y, xs = [x, y] := by
              match xs, c2, c3, c4 with
              | [x, y], _, _, _ => exact ⟨x, y, rfl⟩
              | [], c2, _, _ => exact absurd c2 (by decide)
              | [_], c2, _, _ => exact absurd c2 (by simp)
              | [_, _, _], _, _, c4 => exact absurd rfl c4
              | _ :: _ :: _ :: _ :: _, _, c3, _ => exact absurd c3 (by simp only [List.length_cons]; omega)
            have px := hx x (by simp)
            have py := hx y (by simp)
            have k' : ∀ H', Same H H' → Q (.bl (if strB "vote" (dtOf j H x) = true then decide (s = "member") && (decide (r = "owner") && nameB (dtOf j H y)) else if strB "tell" (dtOf j H x) = true then itemsB (dtOf j H y) else strB "want" (dtOf j H x) && rowB np (dtOf j H y))) H' := k
            refine iteF ?_
            refine ⟨_, rfl, a, _, rfl, SqT.of ha, rfl, _, _, rfl, _, _, rfl, rfl, ?_⟩
            refine ⟨_, rfl, m, j, N, "vote", rfl, px, _, rfl, ?_⟩
            rw [str_dt px]
            cases e : strB "vote" (dtOf j H x) with
            | true =>
              rw [e, if_pos rfl] at k'
              refine iteT ?_
              refine ⟨_, rfl, rfl, _, rfl, ?_⟩
              rw [eqS]
              cases e1 : decide (s = "member") with
              | false =>
                rw [e1] at k'
                refine iteF ?_
                exact k' H (Same.refl H)
              | true =>
                rw [e1] at k'
                refine iteT ?_
                refine ⟨_, rfl, rfl, _, rfl, ?_⟩
                rw [eqS]
                cases e2 : decide (r = "owner") with
                | false =>
                  rw [e2] at k'
                  refine iteF ?_
                  exact k' H (Same.refl H)
                | true =>
                  rw [e2] at k'
                  refine iteT ?_
                  exact ⟨_, rfl, y, m, j, N, rfl, py, hm, k'⟩
            | false =>
              rw [e, if_neg (by decide)] at k'
              refine iteF ?_
              refine ⟨_, rfl, m, j, N, "tell", rfl, px, _, rfl, ?_⟩
              rw [str_dt px]
              cases e1 : strB "tell" (dtOf j H x) with
              | true =>
                rw [e1, if_pos rfl] at k'
                refine iteT ?_
                exact ⟨_, rfl, y, m, j, N, rfl, py, hm, k'⟩
              | false =>
                rw [e1, if_neg (by decide)] at k'
                refine iteF ?_
                refine ⟨_, rfl, m, j, N, "want", rfl, px, _, rfl, ?_⟩
                rw [str_dt px]
                cases e2 : strB "want" (dtOf j H x) with
                | false =>
                  rw [e2] at k'
                  refine iteF ?_
                  exact k' H (Same.refl H)
                | true =>
                  rw [e2] at k'
                  refine iteT ?_
                  exact ⟨_, rfl, _, rfl, b, np, nm, y, m, j, N, rfl, hb, py, hm, k'⟩
        · rw [decide_eq_false c3]
          refine iteT ?_
          rw [body_len (fun q => c3 (by omega))] at k
          exact k H (Same.refl H)
      · rw [decide_eq_false c2]
        refine iteF ?_
        refine ⟨_, rfl, ?_⟩
        refine iteT ?_
        rw [body_len (fun q => c2 (by omega))] at k
        exact k H (Same.refl H)
    · rw [et]
      refine iteT ?_
      refine iteT ?_
      have e2 : bodyB np s r (dtOf n H v) = false := by
        cases e : dtOf n H v with
        | tup ds => exact absurd e (nt ds)
        | _ => rfl
      rw [e2] at k
      exact k H (Same.refl H)
theorem scLt : FnScope ["bank", "value", "sender", "receiver", "body"] ["bank", "value"] (defScope sLetter) := ⟨rfl, rfl, rfl, by decide +kernel, rfl, by decide +kernel, by decide +kernel⟩
theorem letter_len {n np : Nat} {nm : Int} {H : Hp} {xs : List V} (c : ¬ xs.length = 3) : letterB np nm (.tup (xs.map (dtOf n H))) = false := by
  match xs, c with
  | [], _ => rfl
  | [_], _ => rfl
  | [_, _], _ => rfl
  | [_, _, _], c => exact absurd rfl c
  | _ :: _ :: _ :: _ :: _, _ => rfl
/-- the bank's parts, if it is one -/
theorem bank_parts {N : Addr → Prop} {H : Hp} {m n : Nat} {v : V} (h : PV m n N H v) (b : bankB H v = true) : ∃ np nm, BkV H v np nm := by
  obtain ⟨a, x, mi, li, rfl, ha⟩ := bank_tup h b
  have b' : (begB H x && numF (.int li) 0 && numF (.int mi) (3 * toI (.int li) + 1) && decide (toI (.int mi) ≤ 13)) = true := by
    unfold bankB at b
    rw [tupOf_at ha] at b
    exact b
  simp only [Bool.and_eq_true] at b'
  have hb := b'.1.1.1
  unfold begB at hb
  cases x with
  | ref xa =>
    cases e : H xa with
    | none => rw [show tupOf H (.ref xa) = none by show (match H xa with | some (.tup xs) => some xs | _ => none) = none; rw [e]] at hb; cases hb
    | some o =>
      cases o with
      | tup ys => exact ⟨ys.length, mi, a, xa, ys, .int li, rfl, ha, e, rfl⟩
      | _ => rw [show tupOf H (.ref xa) = none by show (match H xa with | some (.tup xs) => some xs | _ => none) = none; rw [e]] at hb; cases hb
  | _ => cases hb
/-- an end's first item is a word -/
theorem end_word {N : Addr → Prop} {H : Hp} {m n np : Nat} {nm : Int} {v : V} (h : PV m n N H v) (b : endB np nm (dtOf n H v) = true) : ∃ a s y, v = .ref a ∧ H a = some (.tup [.str s, y]) ∧ wordOf (dtOf n H v) = s ∧ (s = "owner" ∨ s = "member") := by
  rcases pv_view h with ⟨xs, j, a, rfl, rfl, na, ha, hl, hx, ed, et⟩ | ⟨nt, et⟩
  · rw [ed] at b ⊢
    match xs, hx, b, ha with
    | [x, y], hx, b, ha =>
      have b' : (if strB "owner" (dtOf j H x) = true then numB0 (dtOf j H y) && decide (intOf (dtOf j H y) < (np : Int)) else strB "member" (dtOf j H x) && (numB0 (dtOf j H y) && decide (intOf (dtOf j H y) < nm))) = true := b
      have px := hx x (by simp)
      have get : ∀ z, strB z (dtOf j H x) = true → x = .str z ∧ dtOf j H x = .str z := fun z q => by
        have q2 := q
        rw [← str_dt px] at q2
        have e : x = .str z := by
          cases x with
          | str t => exact congrArg V.str (of_decide_eq_true q2)
          | _ => cases q2
        refine ⟨e, ?_⟩
        cases ed2 : dtOf j H x with
        | str t => rw [ed2] at q; exact congrArg Dt.str (of_decide_eq_true q)
        | _ => rw [ed2] at q; cases q
      cases e : strB "owner" (dtOf j H x) with
      | true =>
        obtain ⟨e1, e2⟩ := get _ e
        rw [e1] at ha
        refine ⟨a, "owner", y, rfl, ha, ?_, .inl rfl⟩
        show wordOf (.tup [dtOf j H x, dtOf j H y]) = _
        rw [e2]; rfl
      | false =>
        rw [e, if_neg (by decide), Bool.and_eq_true] at b'
        obtain ⟨e1, e2⟩ := get _ b'.1
        rw [e1] at ha
        refine ⟨a, "member", y, rfl, ha, ?_, .inr rfl⟩
        show wordOf (.tup [dtOf j H x, dtOf j H y]) = _
        rw [e2]; rfl
    | [], _, b, _ => cases b
    | [_], _, b, _ => cases b
    | _ :: _ :: _ :: _, _, b, _ => cases b
  · cases e : dtOf n H v with
    | tup ds => exact absurd e (nt ds)
    | _ => rw [e] at b; cases b
theorem ok_letter {f f5 f7 f1 C : Addr} {fd fd5 fd7 fd1 : FuncData} (F : Fun K "is_letter" "is_letter" sLetter f fd) (ms : mg "isinstance" = none) (mt : mg "tuple" = none) (ml : mg "len" = none)
    (G1 : FnOk P w K mg base (L2.CX P w) 5 f1 fd1 ["bank"] (spCheck C)) (b1 : Binds K fd1 ["bank"] []) (k1 : PySem.W.keepIn K (.ref f1) = true) (m1 : mg "check_bank" = some (.ref f1))
    (G5 : FnOk P w K mg base CX0 5 f5 fd5 ["bank", "value"] (spBD endB)) (b5 : Binds K fd5 ["bank", "value"] []) (k5 : PySem.W.keepIn K (.ref f5) = true) (m5 : mg "is_end" = some (.ref f5))
    (G7 : FnOk P w K mg base CX0 7 f7 fd7 ["bank", "sender", "receiver", "value"] spBody) (b7 : Binds K fd7 ["bank", "sender", "receiver", "value"] []) (k7 : PySem.W.keepIn K (.ref f7) = true) (m7 : mg "is_body" = some (.ref f7)) :
    FnOk P w K mg base (L2.CX P w) 8 f fd ["bank", "value"] (spLetter C) := by
  refine F.okX scLt (fun vs H Q E h => ?_) (fun cdv A outer s H vs Q E hr h => ?_)
  · obtain ⟨b, v, m, n, N, m2, n2, N2, rfl, _⟩ := h
    rfl
  · obtain ⟨b, v, m, n, N, m2, n2, N2, rfl, hb, hm2, hv, hm, kq, ke⟩ := h
    have r5 : Room 5 (A.deeper (PyProof.Rows.envOfC "is_letter" (defScope sLetter) s.heap.objs.size f cdv)) := hr.mono (by decide)
    refine ⟨_, pss_cons (ps_expr (pe_call G1 r5 rfl m1 k1 b1 .nil (passes_call (W := fun cls d _ H => E cls d H) (takes_of rfl rfl rfl rfl) (fun _ _ _ _ h => h)) (pa_cons (pv 0) pa_nil)))
      (pss_cons (ps_if (PW.pt (pw_or (pt_not (pt_val (pe_callB call_isP (by rfl) ms (by decide +kernel) (pa_cons (pv 1) (pa_cons (pe_tyn "tuple" (by rfl) mt (by decide +kernel)) pa_nil)))))
          (pw_or1 (pt_cmpR op_ne (pe_callB call_len_seq (by rfl) ml boot_len (pa_cons (pv 1) pa_nil)) pe_int (nomark _))))) (pss_one (ps_ret pe_bl)) pss_nil)
      (pss_cons (ps_asg (pv 1) (pg_tup rfl (pgs_cons (pg_name (i := 2) scLt.nd rfl (Or.inl rfl)) (pgs_cons (pg_name (i := 3) scLt.nd rfl (Or.inl rfl)) (pgs_cons (pg_name (i := 4) scLt.nd rfl (Or.inl rfl)) pgs_nil)))))
      (pss_cons (ps_if (PW.pt (pw_or (pt_not (pt_val (pe_call G5 r5 rfl m5 k5 b5 .nil pass0 (pa_cons (pv 0) (pa_cons (pv 2) pa_nil))))) (pw_or1 (pt_not (pt_val (pe_call G5 r5 rfl m5 k5 b5 .nil pass0 (pa_cons (pv 0) (pa_cons (pv 3) pa_nil)))))))) (pss_one (ps_ret pe_bl)) pss_nil)
      (pss_one (ps_ret (pe_call G7 hr rfl m7 k7 b7 .nil pass0 (pa_cons (pv 0) (pa_cons (pe_ix ix_tup (pv 2) pe_int (fun _ _ => rfl)) (pa_cons (pe_ix ix_tup (pv 3) pe_int (fun _ _ => rfl)) (pa_cons (pv 4) pa_nil)))))))))), ?_⟩
    refine ⟨_, rfl, b, m2, n2, N2, rfl, hb, by omega, fun e H1 s1 => ?_, fun e H1 s1 => ke e H1 s1⟩
    obtain ⟨np, nm, hk⟩ := bank_parts hb e
    have k := kq e np nm hk
    have hv1 := (PV.mon m n).same s1 hv
    refine ⟨_, rfl, v, "tuple", m, n, N, rfl, by decide, hv1, _, rfl, ?_⟩
    rcases pv_view hv1 with ⟨xs, j, a, rfl, rfl, na, ha, hl, hx, ed, et⟩ | ⟨nt, et⟩
    · rw [et]
      refine iteF ?_
      refine ⟨_, rfl, a, xs, rfl, .inr (SqT.of ha), rfl, _, rfl, ?_⟩
      rw [← dt_same hv s1, ed] at k
      by_cases c3 : xs.length = 3
      · obtain ⟨x, y, z, rfl⟩ : ∃ x y z, xs = [x, y, z] := by
          match xs, c3 with
          | [x, y, z], _ => exact ⟨x, y, z, rfl⟩
        refine iteF ?_
        have px := hx x (by simp)
        have py := hx y (by simp)
        have pz := hx z (by simp)
        have k' : ∀ H', Same H H' → Q (.bl (endB np nm (dtOf j H1 x) && (endB np nm (dtOf j H1 y) && bodyB np (wordOf (dtOf j H1 x)) (wordOf (dtOf j H1 y)) (dtOf j H1 z)))) H' := k
        refine ⟨_, rfl, a, _, rfl, SqT.of ha, rfl, _, _, rfl, _, _, rfl, _, _, rfl, rfl, ?_⟩
        refine ⟨_, rfl, _, rfl, b, np, nm, x, m, j, N, rfl, hk.same s1, px, hm, fun H2 s2 => ⟨_, rfl, ?_⟩⟩
        cases e1 : endB np nm (dtOf j H1 x) with
        | false =>
          refine iteT ?_
          refine iteT ?_
          rw [e1] at k'
          exact k' H2 (s1.trans s2)
        | true =>
          refine iteF ?_
          rw [e1] at k'
          refine ⟨_, rfl, _, rfl, b, np, nm, y, m, j, N, rfl, hk.same (s1.trans s2), (PV.mon m j).same s2 py, hm, fun H3 s3 => ⟨_, rfl, ?_⟩⟩
          rw [dt_same py s2]
          cases e2 : endB np nm (dtOf j H1 y) with
          | false =>
            refine iteT ?_
            rw [e2] at k'
            exact k' H3 (s1.trans (s2.trans s3))
          | true =>
            refine iteF ?_
            rw [e2] at k'
            obtain ⟨ax, sx, x2, rfl, hax, wx, _⟩ := end_word px e1
            obtain ⟨ay, sy, y2, rfl, hay, wy, _⟩ := end_word py e2
            rw [wx, wy] at k'
            have s23 := s2.trans s3
            refine ⟨_, rfl, _, rfl, ax, _, 0, .str sx, rfl, rfl, SqT.of (s23 _ _ hax), atI_nat (j := 0) rfl, _, rfl, ay, _, 0, .str sy, rfl, rfl, SqT.of (s23 _ _ hay), atI_nat (j := 0) rfl, _, rfl, b, np, nm, sx, sy, z, m, j, N, rfl, hk.same (s1.trans s23), (PV.mon m j).same s23 pz, hm, fun H4 s4 => ?_⟩
            rw [dt_same pz s23]
            exact k' H4 (s1.trans (s23.trans s4))
      · have e3 : (!decide (V.int (xs.length : Int) = V.int 3)) = true := by
          rw [decide_eq_false (fun q => c3 (by have := V.int.inj q; omega))]; rfl
        rw [e3]
        refine iteT ?_
        rw [letter_len c3] at k
        exact k H1 s1
    · rw [et]
      refine iteT ?_
      refine iteT ?_
      have e2 : letterB np nm (dtOf n H v) = false := by
        rw [← dt_same hv s1]
        cases e : dtOf n H1 v with
        | tup ds => exact absurd e (nt ds)
        | _ => rfl
      rw [e2] at k
      exact k H1 s1
end
end Pu

namespace Pu
open PySem L2
abbrev sLeEnd : Stmt := top 38
abbrev sLeItems : Stmt := top 39
/-- the same, of no more than 60 items each -/
def spD6 (f : Dt → Bool) : Sp := fun vs H Q _ => ∃ v m n N, vs = [v] ∧ PV m n N H v ∧ m ≤ 60 ∧ ∀ H', Same H H' → Q (.bl (f (dtOf n H v))) H'
theorem ones (k : Nat) : (List.replicate k (1 : Int)).map V.int ++ [V.int 1] = (List.replicate (k + 1) (1 : Int)).map V.int := by
  rw [List.replicate_succ', List.map_append]; rfl
theorem eqv_ints : ∀ xs ys : List Int, PyData.eqv (.list (xs.map PyData.int)) (.list (ys.map PyData.int)) = decide (xs = ys)
  | [], [] => rfl
  | [], y :: ys => rfl
  | x :: xs, [] => rfl
  | x :: xs, y :: ys => by
    have e : PyData.eqv (.list ((x :: xs).map PyData.int)) (.list ((y :: ys).map PyData.int)) = ((x == y) && PyData.eqv (.list (xs.map PyData.int)) (.list (ys.map PyData.int))) := by simp only [List.map_cons, PyData.eqv, PyData.eqvAll]
    rw [e, eqv_ints xs ys, Bool.eq_iff_iff]
    simp
section
variable {P : Program} {w : World} {K : PySem.W.Frag} {mg : Str → Option Value} {base : Heap}
theorem scLE : FnScope ["bank_here", "item"] ["bank_here", "item"] (defScope sLeEnd) := ⟨rfl, rfl, rfl, by decide +kernel, rfl, by decide +kernel, by decide +kernel⟩
theorem ok_leend {f f2 : Addr} {fd fd2 : FuncData} (F : Fun K "_law_le_end" "_law_le_end" sLeEnd f fd) (ms : mg "isinstance" = none) (mt : mg "tuple" = none) (ml : mg "len" = none)
    (G2 : FnOk P w K mg base CX0 2 f2 fd2 ["item"] (spD numB0)) (b2 : Binds K fd2 ["item"] []) (k2 : PySem.W.keepIn K (.ref f2) = true) (m2 : mg "_law_le_number" = some (.ref f2)) :
    FnOk P w K mg base CX0 3 f fd ["bank_here", "item"] (spBD endB) := by
  refine F.ok scLE (fun vs H Q E h => ?_) (fun cdv A outer s H vs Q E hr h => ?_)
  · obtain ⟨b, np, nm, v, m, n, N, rfl, _⟩ := h
    rfl
  · obtain ⟨b, np, nm, v, m, n, N, rfl, hb, hv, hm, k⟩ := h
    have hu := Nat.lt_of_succ_lt (hu_of hr)
    refine ⟨_, pss_cons (ps_if (PW.pt (pw_or (pt_not (pt_val (pe_callB call_isP (by rfl) ms (by decide +kernel) (pa_cons (pv 1) (pa_cons (pe_tyn "tuple" (by rfl) mt (by decide +kernel)) pa_nil)))))
          (pw_or (pt_cmpR op_ne (pe_callB call_len_seq (by rfl) ml boot_len (pa_cons (pv 1) pa_nil)) pe_int (nomark _)) (pw_or1 (pt_not (pt_val (pe_call G2 hr rfl m2 k2 b2 .nil pass0 (pa_cons (pe_ix ix_tup (pv 1) pe_int (fun _ _ => rfl)) pa_nil)))))))) (pss_one (ps_ret pe_bl)) pss_nil)
      (pss_one (ps_ret (pe_or (pe_and (pe_cmpR (op_eqPS hu) (pe_ix ix_tup (pv 1) pe_int (fun _ _ => rfl)) pe_str (nomark _)) (pe_one (pe_cmpR op_lt (pe_ix ix_tup (pv 1) pe_int (fun _ _ => rfl)) (pe_callB call_len_seq (by rfl) ml boot_len (pa_cons (pe_ix ix_tup (pv 0) pe_int (fun _ _ => rfl)) pa_nil)) (nomark _))))
        (pe_one (pe_and (pe_cmpR (op_eqPS hu) (pe_ix ix_tup (pv 1) pe_int (fun _ _ => rfl)) pe_str (nomark _)) (pe_one (pe_cmpR op_lt (pe_ix ix_tup (pv 1) pe_int (fun _ _ => rfl)) (pe_ix ix_tup (pv 0) pe_int (fun _ _ => rfl)) (nomark _)))))))), ?_⟩
    obtain ⟨ab, xb, bs, li, rfl, hab, hxb, lb⟩ := id hb
    refine ⟨_, rfl, v, "tuple", m, n, N, rfl, by decide, hv, _, rfl, ?_⟩
    rcases pv_view hv with ⟨xs, j, a, rfl, rfl, na, ha, hl, hx, ed, et⟩ | ⟨nt, et⟩
    · rw [et]
      refine iteF ?_
      refine ⟨_, rfl, a, xs, rfl, .inr (SqT.of ha), rfl, _, rfl, ?_⟩
      rw [ed] at k
      by_cases c2 : xs.length = 2
      · obtain ⟨x, y, rfl⟩ : ∃ x y, xs = [x, y] := by
          match xs, c2 with
          | [x, y], _ => exact ⟨x, y, rfl⟩
        refine iteF ?_
        have px := hx x (by simp)
        have py := hx y (by simp)
        have k' : ∀ H', Same H H' → Q (.bl (if strB "owner" (dtOf j H x) = true then numB0 (dtOf j H y) && decide (intOf (dtOf j H y) < (np : Int)) else strB "member" (dtOf j H x) && (numB0 (dtOf j H y) && decide (intOf (dtOf j H y) < nm)))) H' := k
        refine ⟨_, rfl, a, _, 1, y, rfl, rfl, SqT.of ha, atI_nat (j := 1) rfl, y, m, j, N, rfl, py, hm, fun H1 s1 => ⟨_, rfl, ?_⟩⟩
        cases en : numB0 (dtOf j H y) with
        | false =>
          rw [en] at k'
          refine iteT ?_
          have q := k' H1 s1
          have e0 : (if strB "owner" (dtOf j H x) = true then false && decide (intOf (dtOf j H y) < (np : Int)) else strB "member" (dtOf j H x) && (false && decide (intOf (dtOf j H y) < nm))) = false := by
            split
            · rfl
            · rw [Bool.false_and, Bool.and_false]
          rw [e0] at q
          exact q
        | true =>
          rw [en] at k'
          refine iteF ?_
          obtain ⟨i, rfl, edi, _⟩ := num0_int py en
          have px1 := (PV.mon m j).same s1 px
          rw [edi] at k'
          refine ⟨_, rfl, a, _, 0, x, rfl, rfl, SqT.of (s1 _ _ ha), atI_nat (j := 0) rfl, m, j, N, "owner", rfl, px1, _, rfl, ?_⟩
          rw [str_dt px1, dt_same px s1]
          have go2 : strB "owner" (dtOf j H x) = false ∨ strB "member" (dtOf j H x) = false := by
            cases dtOf j H x with
            | str t =>
              by_cases c : t = "owner"
              · right
                rw [c]
                show decide (("owner" : Str) = "member") = false
                decide +kernel
              · left
                exact decide_eq_false c
            | _ => exact .inl rfl
          cases e : strB "owner" (dtOf j H x) with
          | true =>
            rw [e, if_pos rfl] at k'
            have em : strB "member" (dtOf j H x) = false := by
              rcases go2 with z | z
              · rw [e] at z; cases z
              · exact z
            refine iteT ?_
            refine ⟨_, rfl, a, _, 1, _, rfl, rfl, SqT.of (s1 _ _ ha), atI_nat (j := 1) rfl, _, rfl, ab, _, 0, _, rfl, rfl, SqT.of (s1 _ _ hab), atI_nat (j := 0) rfl, xb, bs, rfl, .inr (SqT.of (s1 _ _ hxb)), i, _, rfl, rfl, _, rfl, ?_⟩
            rw [lb]
            have q := k' H1 s1
            have e4 : (true && decide (intOf (.int i) < (np : Int))) = decide (i < (np : Int)) := rfl
            rw [e4] at q
            cases ec : decide (i < (np : Int)) with
            | true =>
              rw [ec] at q
              refine iteT ?_
              exact q
            | false =>
              rw [ec] at q
              refine iteF ?_
              refine ⟨_, rfl, a, _, 0, x, rfl, rfl, SqT.of (s1 _ _ ha), atI_nat (j := 0) rfl, m, j, N, "member", rfl, px1, _, rfl, ?_⟩
              rw [str_dt px1, dt_same px s1, em]
              refine iteF ?_
              exact q
          | false =>
            rw [e, if_neg (by decide)] at k'
            refine iteF ?_
            refine ⟨_, rfl, ?_⟩
            refine iteF ?_
            refine ⟨_, rfl, a, _, 0, x, rfl, rfl, SqT.of (s1 _ _ ha), atI_nat (j := 0) rfl, m, j, N, "member", rfl, px1, _, rfl, ?_⟩
            rw [str_dt px1, dt_same px s1]
            cases em : strB "member" (dtOf j H x) with
            | false =>
              rw [em] at k'
              refine iteF ?_
              exact k' H1 s1
            | true =>
              rw [em] at k'
              refine iteT ?_
              exact ⟨_, rfl, a, _, 1, _, rfl, rfl, SqT.of (s1 _ _ ha), atI_nat (j := 1) rfl, _, rfl, ab, _, 1, _, rfl, rfl, SqT.of (s1 _ _ hab), atI_nat (j := 1) rfl, i, nm, rfl, rfl, k' H1 s1⟩
      · have e3 : (!decide (V.int (xs.length : Int) = V.int 2)) = true := by
          rw [decide_eq_false (fun q => c2 (by have := V.int.inj q; omega))]; rfl
        rw [e3]
        refine iteT ?_
        refine iteT ?_
        rw [end_len c2] at k
        exact k H (Same.refl H)
    · rw [et]
      refine iteT ?_
      refine iteT ?_
      have e2 : endB np nm (dtOf n H v) = false := by
        cases e : dtOf n H v with
        | tup ds => exact absurd e (nt ds)
        | _ => rfl
      rw [e2] at k
      exact k H (Same.refl H)
end
end Pu

namespace Pu
open PySem L2
section
variable {P : Program} {w : World} {K : PySem.W.Frag} {mg : Str → Option Value} {base : Heap}
theorem scLI : FnScope ["item", "pair", "numbers", "name"] ["item"] (defScope sLeItems) := ⟨rfl, rfl, rfl, by decide +kernel, rfl, by decide +kernel, by decide +kernel⟩
theorem ok_leitems {f f3 : Addr} {fd fd3 : FuncData} (F : Fun K "_law_le_items" "_law_le_items" sLeItems f fd) (ms : mg "isinstance" = none) (mt : mg "tuple" = none) (ml : mg "len" = none) (mso : mg "sorted" = none) (mse : mg "set" = none)
    (G3 : FnOk P w K mg base CX0 3 f3 fd3 ["item"] (spD nameB)) (b3 : Binds K fd3 ["item"] []) (k3 : PySem.W.keepIn K (.ref f3) = true) (m3 : mg "_law_le_name" = some (.ref f3)) :
    FnOk P w K mg base CX0 4 f fd ["item"] (spD6 itemsB) := by
  refine F.ok scLI (fun vs H Q E h => ?_) (fun cdv A outer s H vs Q E hr h => ?_)
  · obtain ⟨v, m, n, N, rfl, _⟩ := h
    rfl
  · obtain ⟨v, m, n, N, rfl, hv, hm, k⟩ := h
    refine ⟨_, pss_cons (ps_if (pt_not (pt_val (pe_callB call_isP (by rfl) ms (by decide +kernel) (pa_cons (pv 0) (pa_cons (pe_tyn "tuple" (by rfl) mt (by decide +kernel)) pa_nil))))) (pss_one (ps_ret pe_bl)) pss_nil)
      (pss_cons (ps_for PassesOwn.never rfl (pi_tup (pv 0)) (pg_name (i := 1) scLI.nd rfl (Or.inl rfl))
        (pss_cons (ps_if (PW.pt (pw_or (pt_not (pt_val (pe_callB call_isP (by rfl) ms (by decide +kernel) (pa_cons (pv 1) (pa_cons (pe_tyn "tuple" (by rfl) mt (by decide +kernel)) pa_nil)))))
            (pw_or (pt_cmpR op_ne (pe_callB call_len_seq (by rfl) ml boot_len (pa_cons (pv 1) pa_nil)) pe_int (nomark _)) (pw_or1 (pt_not (pt_val (pe_call G3 hr rfl m3 k3 b3 .nil pass0 (pa_cons (pe_ix ix_tup (pv 1) pe_int (fun _ _ => rfl)) pa_nil)))))))) (pss_one (ps_ret pe_bl)) pss_nil)
        (pss_cons (ps_if (PW.pt (pw_or (pt_not (pt_val (pe_callB call_isP (by rfl) ms (by decide +kernel) (pa_cons (pe_ix ix_tup (pv 1) pe_int (fun _ _ => rfl)) (pa_cons (pe_tyn "tuple" (by rfl) mt (by decide +kernel)) pa_nil)))))
            (pw_or1 (pt_cmpR (op_neD hr.units) (pe_lc (own := [("name", 3)]) (g := gName 3) rfl scLI.nd (pi_tup (pe_ix ix_tup (pv 1) pe_int (fun _ _ => rfl))) (blkOk_by (own := [("name", 3)]) (N := ["item", "pair", "numbers", "name"]) (sc := defScope sLeItems) (by decide +kernel))
                (fun _ _ _ _ _ => pg_name (i := 3) scLI.nd rfl (Or.inl rfl)) (fun _ _ _ _ _ => pts_one (pt_not (pt_val (pe_call G3 hr rfl m3 k3 b3 .nil pass0 (pa_cons (pv 3) pa_nil))))) (fun _ _ _ _ _ => pe_int)) (pe_lst pa_nil) (nomark _))))) (pss_one (ps_ret pe_bl)) pss_nil)
        (pss_cons (ps_setLc (i := 2) (own := [("name", 3)]) (g := gName 3) rfl scLI.nd rfl rfl (sw_true rfl rfl rfl (by decide +kernel)) (pi_tup (pe_ix ix_tup (pv 1) pe_int (fun _ _ => rfl))) (blkOk_by (own := [("name", 3)]) (N := ["item", "pair", "numbers", "name"]) (sc := defScope sLeItems) (by decide +kernel))
            (fun _ _ _ _ _ => pg_name (i := 3) scLI.nd rfl (Or.inl rfl)) (fun _ _ _ _ _ => pts_nil) (fun _ _ _ _ _ => pe_ix (ix_tK (K := K) rfl) (pv 3) pe_int (fun _ _ => rfl)))
        (pss_one (ps_if (pt_cmpR (op_neD hr.units) (pv 2) (pe_callB (cr_sortedSet rfl) (by rfl) mso (by decide +kernel) (pa_cons (pe_callTy (cr_setL rfl) (by rfl) mse (by decide +kernel) (pa_cons (pv 2) pa_nil)) pa_nil)) (nomark _)) (pss_one (ps_ret pe_bl)) pss_nil))))))
      (pss_one (ps_ret pe_bl))), ?_⟩
    refine ⟨_, rfl, v, "tuple", m, n, N, rfl, by decide, hv, _, rfl, ?_⟩
    rcases pv_view hv with ⟨ys, j, a, rfl, rfl, na, ha, hl, hx, ed, et⟩ | ⟨nt, et⟩
    · rw [et]
      refine iteF ?_
      have k : ∀ H', Same H H' → Q (.bl ((ys.map (dtOf j H)).all itemB)) H' := fun H' s' => by
        have q := k H' s'
        rw [ed] at q
        exact q
      refine ⟨_, rfl, a, rfl, ⟨ys, SqT.of ha⟩, for_tup (K := K) (a := a) (xs := ys) (fun i σ H' => (∃ z1 z2 z3 : Option V, σ = [some (.ref a), z1, z2, z3]) ∧ Same H H' ∧ ((ys.take i).map (dtOf j H)).all itemB = true)
        ⟨⟨_, _, _, rfl⟩, Same.refl H, rfl⟩ (fun i σ H' _ e => SqT.of (e.2.1 _ _ ha)) ?_ ?_⟩
      · rintro i z σ H1 hzi ⟨⟨z1, z2, z3, rfl⟩, s1, h1⟩
        have hz := List.mem_of_getElem? hzi
        have pz := hx z hz
        have pz1 := (PV.mon m j).same s1 pz
        have no : itemB (dtOf j H z) = false → ∀ H', Same H H' → Q (.bl false) H' := fun q H' s' => by
          have e : (ys.map (dtOf j H)).all itemB = false := by
            cases c : (ys.map (dtOf j H)).all itemB with
            | false => rfl
            | true => rw [List.all_eq_true.mp c _ (List.mem_map.mpr ⟨z, hz, rfl⟩)] at q; cases q
          rw [← e]
          exact k H' s'
        have yes : itemB (dtOf j H z) = true → ((ys.take (i + 1)).map (dtOf j H)).all itemB = true := fun q => by
          rw [List.take_succ, hzi, List.map_append, List.all_append, h1]
          show (true && (itemB (dtOf j H z) && true)) = true
          rw [q]; rfl
        rw [← dt_same pz s1] at no yes
        refine ⟨_, rfl, z, "tuple", m, j, N, rfl, by decide, pz1, _, rfl, ?_⟩
        rcases pv_view pz1 with ⟨ps, j2, az, rfl, rfl, nz, haz, hlz, hxz, edz, etz⟩ | ⟨ntz, etz⟩
        · rw [etz]
          refine iteF ?_
          rw [edz] at no yes
          refine ⟨_, rfl, az, ps, rfl, .inr (SqT.of haz), rfl, _, rfl, ?_⟩
          by_cases c2 : ps.length = 2
          · obtain ⟨x, y, rfl⟩ : ∃ x y, ps = [x, y] := by
              match ps, c2 with
              | [x, y], _ => exact ⟨x, y, rfl⟩
            refine iteF ?_
            have px := hxz x (by simp)
            have py := hxz y (by simp)
            refine ⟨_, rfl, az, _, 0, x, rfl, rfl, SqT.of haz, atI_nat (j := 0) rfl, x, m, j2, N, rfl, px, by omega, fun H2 s2 => ⟨_, rfl, ?_⟩⟩
            have no' : itemB (.tup [dtOf j2 H1 x, dtOf j2 H1 y]) = false → ∀ H', Same H H' → Q (.bl false) H' := no
            have yes' : itemB (.tup [dtOf j2 H1 x, dtOf j2 H1 y]) = true → ((ys.take (i + 1)).map (dtOf (j2 + 1) H)).all itemB = true := yes
            cases e1 : nameB (dtOf j2 H1 x) with
            | false =>
              refine iteT ?_
              refine no' ?_ H2 (s1.trans s2)
              cases ey : dtOf j2 H1 y with
              | tup ds => show (nameB (dtOf j2 H1 x) && _) = false; rw [e1]; rfl
              | _ => rfl
            | true =>
              refine iteF ?_
              have py2 := (PV.mon m j2).same s2 py
              have haz2 := s2 _ _ haz
              refine ⟨_, rfl, az, _, 1, y, rfl, rfl, SqT.of haz2, atI_nat (j := 1) rfl, y, "tuple", m, j2, N, rfl, by decide, py2, _, rfl, ?_⟩
              rcases pv_view py2 with ⟨ws, j3, ay, rfl, rfl, ny, hay, hly, hxy, edy, ety⟩ | ⟨nty, ety⟩
              · rw [ety]
                refine iteF ?_
                have key : itemB (.tup [dtOf (j3 + 1) H1 x, dtOf (j3 + 1) H1 (.ref ay)]) = ((ws.map (dtOf j3 H2)).all nameB && asc ((ws.map (dtOf j3 H2)).map numOf)) := by
                  rw [← dt_same py s2, edy]
                  show (nameB (dtOf (j3 + 1) H1 x) && _) = _
                  rw [e1]; rfl
                rw [key] at no' yes'
                refine ⟨_, rfl, az, _, 1, _, rfl, rfl, SqT.of haz2, atI_nat (j := 1) rfl, ay, rfl, ⟨ws, SqT.of hay⟩, fun D hD => lc_tup (K := K) (a := ay) (xs := ws)
                  (fun t H' => ∃ kk : Nat, H' D = some (.lst ((List.replicate kk (1 : Int)).map V.int)) ∧ (∀ b o, H2 b = some o → H' b = some o) ∧ (kk = 0 ↔ ((ws.take t).map (dtOf j3 H2)).all nameB = true) ∧ kk ≤ t)
                  ⟨0, upd_same, same_upd hD, ⟨fun _ => rfl, fun _ => rfl⟩, Nat.le_refl 0⟩ (fun t H' _ ⟨kk, _, e, _⟩ => SqT.of (e _ _ hay)) ?_ ?_⟩
                · rintro t u H' hut ⟨kk, hL, sL, hk0, hkt⟩
                  have ht : t < ws.length := (List.getElem?_eq_some_iff.mp hut).1
                  have pu := hxy u (List.mem_of_getElem? hut)
                  have et2 : ((ws.take (t + 1)).map (dtOf j3 H2)).all nameB = (((ws.take t).map (dtOf j3 H2)).all nameB && nameB (dtOf j3 H2 u)) := by
                    rw [List.take_succ, hut, List.map_append, List.all_append]
                    show (_ && (nameB (dtOf j3 H2 u) && true)) = _
                    rw [Bool.and_true]
                  refine ⟨rfl, _, rfl, u, m, j3, N, rfl, (PV.mon m j3).same sL pu, by omega, fun H3 s3 => ⟨_, rfl, ?_⟩⟩
                  rw [dt_same pu sL]
                  cases eu : nameB (dtOf j3 H2 u) with
                  | true =>
                    refine iteF ?_
                    refine ⟨kk, s3 _ _ hL, fun b o hb => s3 _ _ (sL b o hb), ?_, by omega⟩
                    rw [et2, eu, Bool.and_true]
                    exact hk0
                  | false =>
                    refine iteT ?_
                    refine ⟨_, s3 _ _ hL, by rw [List.length_map, List.length_replicate]; exact small1000 (by omega), kk + 1, by rw [upd_same, ones], fun b o hb => ?_, ?_, by omega⟩
                    · have nb : b ≠ D := ne_of_none hb hD
                      rw [upd_ne nb]
                      exact s3 _ _ (sL b o hb)
                    · rw [et2, eu, Bool.and_false]
                      exact ⟨fun z => by omega, fun z => nomatch z⟩
                · rintro H' ⟨kk, hL, sL, hk0, hkt⟩
                  rw [List.take_of_length_le (Nat.le_refl _)] at hk0
                  refine ⟨(by show 0 ≤ sizeLine; exact Nat.zero_le _), fun p hp => ?_⟩
                  refine ⟨.list ((List.replicate kk (1 : Int)).map PyData.int), .list [], .lst (SqL.of (same_upd hp _ _ hL)) (dp_ints _), .lst (SqL.of upd_same) .nil, shaped_ints _, shaped_ints [], _, rfl, ?_⟩
                  rw [eqv_nil]
                  have sN : Same H2 (upd H' p (.lst [])) := fun b o hb => same_upd hp _ _ (sL b o hb)
                  by_cases ck : kk = 0
                  · have eall := hk0.mp ck
                    rw [ck]
                    refine iteF ?_
                    rw [eall] at no' yes'
                    obtain ⟨nl, nn⟩ := names_of hxy eall
                    have hmz : ((ws.map (dtOf j3 H2)).map numOf).length ≤ 60 := by rw [List.length_map, List.length_map]; omega
                    generalize (ws.map (dtOf j3 H2)).map numOf = zs at *
                    -- numbers
                    refine ⟨_, rfl, az, _, 1, _, rfl, rfl, SqT.of (sN _ _ haz2), atI_nat (j := 1) rfl, ay, rfl, ⟨ws, SqT.of (sN _ _ hay)⟩, fun D2 hD2 => lc_tup (K := K) (a := ay) (xs := ws)
                      (fun t H3 => H3 = upd (upd H' p (.lst [])) D2 (.lst ((zs.take t).map V.int))) rfl (fun t H3 _ e => by rw [e]; exact SqT.of (same_upd hD2 _ _ (sN _ _ hay))) ?_ ?_⟩
                    · rintro t u H3 hut rfl
                      have ht : t < ws.length := (List.getElem?_eq_some_iff.mp hut).1
                      obtain ⟨b, rfl, hb⟩ := nn t u hut
                      refine ⟨rfl, ?_⟩
                      dsimp only [tYes]
                      refine iteT ?_
                      refine ⟨_, rfl, b, _, 1, _, rfl, rfl, SqT.of (same_upd hD2 _ _ (sN _ _ hb)), atI_nat (j := 1) rfl, _, upd_same, ?_, ?_⟩
                      · rw [List.length_map, List.length_take]; exact small1000 (by omega)
                      · have hz : zs[t]? = some (zs.getD t 0) := by
                          rw [List.getD_eq_getElem?_getD, List.getElem?_eq_getElem (show t < zs.length by omega)]; rfl
                        rw [upd_upd, List.take_succ, hz, List.map_append]; rfl
                    · rintro H3 rfl
                      rw [List.take_of_length_le (show zs.length ≤ ws.length by omega)]
                      -- sorted(set(numbers))
                      refine ⟨_, rfl, _, rfl, D2, zs, rfl, SqL.of upd_same, by omega, fun pS nS hpS hnS => ?_⟩
                      refine ⟨pS, _, nS, rfl, upd_same, by omega, fun ns' pT pw mem _ hpT => ?_⟩
                      have hD2' : upd (upd (upd (upd H' p (.lst [])) D2 (.lst (zs.map V.int))) pS (SetO w pS (fun j => decide (j ∈ zs)) nS)) pT (.lst (ns'.map V.int)) D2 = some (.lst (zs.map V.int)) := same_upd hpT _ _ (same_upd hpS _ _ upd_same)
                      have sE : Same H (upd (upd (upd (upd H' p (.lst [])) D2 (.lst (zs.map V.int))) pS (SetO w pS (fun j => decide (j ∈ zs)) nS)) pT (.lst (ns'.map V.int))) := (s1.trans s2).trans (sN.trans ((same_upd hD2).trans ((same_upd hpS).trans (same_upd hpT))))
                      refine ⟨.list (zs.map PyData.int), .list (ns'.map PyData.int), .lst (SqL.of hD2') (dp_ints _), .lst (SqL.of upd_same) (dp_ints _), shaped_ints _, shaped_ints _, _, rfl, ?_⟩
                      rw [eqv_ints]
                      have mem' : ∀ q, q ∈ ns' ↔ q ∈ zs := fun q => (mem q).trans decide_eq_true_iff
                      cases ea : asc zs with
                      | true =>
                        rw [decide_eq_true (strict_eq (asc_pair.mp ea) pw fun q => (mem' q).symm)]
                        refine iteF ?_
                        exact ⟨⟨_, _, _, rfl⟩, sE, yes' (by rw [ea]; rfl)⟩
                      | false =>
                        rw [decide_eq_false (fun q => by rw [asc_pair.mpr (q ▸ pw)] at ea; cases ea)]
                        refine iteT ?_
                        exact no' (by rw [ea]; rfl) _ sE
                  · have eall : (ws.map (dtOf j3 H2)).all nameB = false := by
                      cases q : (ws.map (dtOf j3 H2)).all nameB with
                      | false => rfl
                      | true => exact absurd (hk0.mpr q) ck
                    have ene : ((List.replicate kk (1 : Int))).isEmpty = false := by cases kk with | zero => exact absurd rfl ck | succ kk => rfl
                    rw [ene]
                    refine iteT ?_
                    exact no' (by rw [eall]; rfl) _ ((s1.trans s2).trans sN)
              · rw [ety]
                refine iteT ?_
                refine iteT ?_
                refine no' ?_ H2 (s1.trans s2)
                cases ey : dtOf j2 H1 y with
                | tup ds => exact absurd ((dt_same py s2).trans ey) (nty ds)
                | _ => rfl
          · have e3 : (!decide (V.int (ps.length : Int) = V.int 2)) = true := by
              rw [decide_eq_false (fun q => c2 (by have := V.int.inj q; omega))]; rfl
            rw [e3]
            refine iteT ?_
            refine iteT ?_
            exact no (itemB_len c2) H1 s1
        · rw [etz]
          refine iteT ?_
          refine iteT ?_
          refine no ?_ H1 s1
          cases e : dtOf j H1 z with
          | tup ds => exact absurd e (ntz ds)
          | _ => rfl
      · rintro σ H' ⟨_, s', h'⟩
        rw [List.take_of_length_le (Nat.le_refl _)] at h'
        have q := k H' s'
        rw [h'] at q
        exact q
    · rw [et]
      refine iteT ?_
      have e2 : itemsB (dtOf n H v) = false := by
        cases e : dtOf n H v with
        | tup ds => exact absurd e (nt ds)
        | _ => rfl
      rw [e2] at k
      exact k H (Same.refl H)
end
end Pu

namespace Pu
open PySem L2
abbrev sLeBody : Stmt := top 40
abbrev sLeLetter : Stmt := top 41
def spLB : Sp := fun vs H Q _ => ∃ (b : V) (np : Nat) (nm : Int) (v : V) (m n : Nat) (N : Addr → Prop) (l : Addr) (s r : Str), vs = [b, v, .ref l] ∧ BkV H b np nm ∧ PV m n N H v ∧ m ≤ 60 ∧ H l = some (.lst [.str s, .str r]) ∧ PyData.strOk s = true ∧ PyData.strOk r = true ∧ ∀ H', Same H H' → Q (.bl (bodyB np s r (dtOf n H v))) H'
def spBD6 (f : Nat → Int → Dt → Bool) : Sp := fun vs H Q _ => ∃ (b : V) (np : Nat) (nm : Int) (v : V) (m n : Nat) (N : Addr → Prop), vs = [b, v] ∧ BkV H b np nm ∧ PV m n N H v ∧ m ≤ 60 ∧ ∀ H', Same H H' → Q (.bl (f np nm (dtOf n H v))) H'
theorem body_dumb {np : Nat} {s r : Str} {d : Dt} (h : ∀ z, strB z d = false) : ∀ ds : List Dt, bodyB np s r (.tup (d :: ds)) = false
  | [] => rfl
  | [y] => by
    show (if strB "vote" d = true then decide (s = "member") && (decide (r = "owner") && nameB y) else if strB "tell" d = true then itemsB y else strB "want" d && rowB np y) = false
    rw [h, h, h]; rfl
  | [y, z] => by
    show (strB "ask" d && _) = false
    rw [h]; rfl
  | _ :: _ :: _ :: _ => rfl
theorem body_ask {np : Nat} {s r : Str} : ∀ ds : List Dt, ds.length ≠ 2 → bodyB np s r (.tup (.str "ask" :: ds)) = false
  | [], _ => rfl
  | [y], _ => by
    show (if strB "vote" (.str "ask") = true then decide (s = "member") && (decide (r = "owner") && nameB y) else if strB "tell" (.str "ask") = true then itemsB y else strB "want" (.str "ask") && rowB np y) = false
    have e1 : strB "vote" (.str "ask") = false := by show decide (("ask" : Str) = "vote") = false; decide +kernel
    have e2 : strB "tell" (.str "ask") = false := by show decide (("ask" : Str) = "tell") = false; decide +kernel
    have e3 : strB "want" (.str "ask") = false := by show decide (("ask" : Str) = "want") = false; decide +kernel
    rw [e1, e2, e3]; rfl
  | [y, z], h => absurd rfl h
  | _ :: _ :: _ :: _, _ => rfl
theorem body_two {np : Nat} {s r : Str} {d : Dt} (h : strB "ask" d = false) : ∀ ds : List Dt, ds.length ≠ 1 → bodyB np s r (.tup (d :: ds)) = false
  | [], _ => rfl
  | [y], e => absurd rfl e
  | [y, z], _ => by
    show (strB "ask" d && _) = false
    rw [h]; rfl
  | _ :: _ :: _ :: _, _ => rfl
theorem eqv_way (s r a b : Str) : PyData.eqv (.list [.str s, .str r]) (.list [.str a, .str b]) = (decide (s = a) && decide (r = b)) := by
  have e : PyData.eqv (.list [.str s, .str r]) (.list [.str a, .str b]) = ((s == a) && ((r == b) && true)) := by simp only [PyData.eqv, PyData.eqvAll]
  rw [e, Bool.and_true]
  have q : ∀ x y : Str, (x == y) = decide (x = y) := fun x y => by
    by_cases c : x = y
    · rw [decide_eq_true c, c]; exact beq_self_eq_true y
    · rw [decide_eq_false c]; exact beq_eq_false_iff_ne.mpr c
  rw [q, q]
theorem shaped_two {a b : Str} (ha : PyData.strOk a = true) (hb : PyData.strOk b = true) : SeqAt.shaped (.list [.str a, .str b]) = true := by
  simp only [SeqAt.shaped, PyData.canLay0, PyData.canLayAll0, PyData.depth, PyData.depthAll]
  rw [ha, hb]
  rfl
theorem strOk_o : PyData.strOk "owner" = true := by decide +kernel
theorem strOk_m : PyData.strOk "member" = true := by decide +kernel
theorem isB_str {N : Addr → Prop} {H : Hp} {m n : Nat} {v : V} (h : PV m n N H v) : (∃ t, v = .str t ∧ dtOf n H v = .str t ∧ isB (tyN H v) "str" = true) ∨ ((∀ z, strB z (dtOf n H v) = false) ∧ isB (tyN H v) "str" = false) := by
  cases n with
  | zero => exact h.elim
  | succ n =>
    cases h with
    | non => exact .inr ⟨fun z => rfl, rfl⟩
    | bl b => exact .inr ⟨fun z => rfl, rfl⟩
    | int i => exact .inr ⟨fun z => rfl, rfl⟩
    | str z => exact .inl ⟨z, rfl, rfl, rfl⟩
    | tup a xs e x l q => exact .inr ⟨fun z => by rw [dt_tup e]; rfl, by rw [tyN_tup e]; rfl⟩
    | lst a xs e x l q => exact .inr ⟨fun z => by rw [dt_lst e]; rfl, by rw [tyN_lst e]; rfl⟩
    | dct a e x => exact .inr ⟨fun z => by rw [dt_dct e]; rfl, by rw [tyN_dct e]; rfl⟩
section
variable {P : Program} {w : World} {K : PySem.W.Frag} {mg : Str → Option Value} {base : Heap}
theorem scLB : FnScope ["bank_here", "item", "way", "many"] ["bank_here", "item", "way"] (defScope sLeBody) := ⟨rfl, rfl, rfl, by decide +kernel, rfl, by decide +kernel, by decide +kernel⟩
theorem ok_lebody {f f2 f3 f4 : Addr} {fd fd2 fd3 fd4 : FuncData} (F : Fun K "_law_le_body" "_law_le_body" sLeBody f fd) (ms : mg "isinstance" = none) (mt : mg "tuple" = none) (mst : mg "str" = none) (ml : mg "len" = none)
    (G2 : FnOk P w K mg base CX0 2 f2 fd2 ["item"] (spD numB0)) (b2 : Binds K fd2 ["item"] []) (k2 : PySem.W.keepIn K (.ref f2) = true) (m2 : mg "_law_le_number" = some (.ref f2))
    (G3 : FnOk P w K mg base CX0 3 f3 fd3 ["item"] (spD nameB)) (b3 : Binds K fd3 ["item"] []) (k3 : PySem.W.keepIn K (.ref f3) = true) (m3 : mg "_law_le_name" = some (.ref f3))
    (G4 : FnOk P w K mg base CX0 4 f4 fd4 ["item"] (spD6 itemsB)) (b4 : Binds K fd4 ["item"] []) (k4 : PySem.W.keepIn K (.ref f4) = true) (m4 : mg "_law_le_items" = some (.ref f4)) :
    FnOk P w K mg base CX0 5 f fd ["bank_here", "item", "way"] spLB := by
  refine F.ok scLB (fun vs H Q E h => ?_) (fun cdv A outer st H vs Q E hr h => ?_)
  · obtain ⟨b, np, nm, v, m, n, N, l, s, r, rfl, _⟩ := h
    rfl
  · obtain ⟨b, np, nm, v, m, n, N, l, s, r, rfl, hb, hv, hm, hw, oks, okr, k⟩ := h
    have hu1 := hu_of hr
    have hu := Nat.lt_of_succ_lt hu1
    have r2 : Room 2 (A.deeper (PyProof.Rows.envOfC "_law_le_body" (defScope sLeBody) st.heap.objs.size f cdv)) := hr.mono (by decide)
    have r3 : Room 3 (A.deeper (PyProof.Rows.envOfC "_law_le_body" (defScope sLeBody) st.heap.objs.size f cdv)) := hr.mono (by decide)
    refine ⟨_, pss_cons (ps_if (PW.pt (pw_or (pt_not (pt_val (pe_callB call_isP (by rfl) ms (by decide +kernel) (pa_cons (pv 1) (pa_cons (pe_tyn "tuple" (by rfl) mt (by decide +kernel)) pa_nil)))))
          (pw_or (pt_cmpR (op_eqT0 hu1) (pv 1) (pe_tup pa_nil) (nomark _)) (pw_or1 (pt_not (pt_val (pe_callB call_isP (by rfl) ms (by decide +kernel) (pa_cons (pe_ix ix_tup (pv 1) pe_int (fun _ _ => rfl)) (pa_cons (pe_tyn "str" (by rfl) mst (by decide +kernel)) pa_nil)))))))))
          (pss_one (ps_ret pe_bl)) pss_nil)
      (pss_cons (ps_if (pt_cmpR (op_eqPS hu) (pe_ix ix_tup (pv 1) pe_int (fun _ _ => rfl)) pe_str (nomark _)) (pss_one (ps_ret (pe_and (pe_cmpR op_eq (pe_callB call_len_seq (by rfl) ml boot_len (pa_cons (pv 1) pa_nil)) pe_int (nomark _))
          (pe_and (pe_cmpR (op_eqD hr.units) (pv 2) (pe_lst (pa_cons pe_str (pa_cons pe_str pa_nil))) (nomark _)) (pe_and (pe_call G3 r3 rfl m3 k3 b3 .nil pass0 (pa_cons (pe_ix ix_tup (pv 1) pe_int (fun _ _ => rfl)) pa_nil))
            (pe_one (pe_call G4 hr rfl m4 k4 b4 .nil pass0 (pa_cons (pe_ix ix_tup (pv 1) pe_int (fun _ _ => rfl)) pa_nil)))))))) pss_nil)
      (pss_cons (ps_if (pt_cmpR op_ne (pe_callB call_len_seq (by rfl) ml boot_len (pa_cons (pv 1) pa_nil)) pe_int (nomark _)) (pss_one (ps_ret pe_bl)) pss_nil)
      (pss_cons (ps_if (pt_cmpR (op_eqPS hu) (pe_ix ix_tup (pv 1) pe_int (fun _ _ => rfl)) pe_str (nomark _)) (pss_one (ps_ret (pe_and (pe_cmpR (op_eqD hr.units) (pv 2) (pe_lst (pa_cons pe_str (pa_cons pe_str pa_nil))) (nomark _))
          (pe_one (pe_call G3 r3 rfl m3 k3 b3 .nil pass0 (pa_cons (pe_ix ix_tup (pv 1) pe_int (fun _ _ => rfl)) pa_nil)))))) pss_nil)
      (pss_cons (ps_if (pt_cmpR (op_eqPS hu) (pe_ix ix_tup (pv 1) pe_int (fun _ _ => rfl)) pe_str (nomark _)) (pss_one (ps_ret (pe_call G4 hr rfl m4 k4 b4 .nil pass0 (pa_cons (pe_ix ix_tup (pv 1) pe_int (fun _ _ => rfl)) pa_nil)))) pss_nil)
      (pss_cons (ps_if (PW.pt (pw_or (pt_cmpR op_ne (pe_ix ix_tup (pv 1) pe_int (fun _ _ => rfl)) pe_str (nomark _)) (pw_or (pt_not (pt_val (pe_callB call_isP (by rfl) ms (by decide +kernel) (pa_cons (pe_ix ix_tup (pv 1) pe_int (fun _ _ => rfl)) (pa_cons (pe_tyn "tuple" (by rfl) mt (by decide +kernel)) pa_nil)))))
          (pw_or1 (pt_cmpR op_ne (pe_callB call_len_seq (by rfl) ml boot_len (pa_cons (pe_ix ix_tup (pv 1) pe_int (fun _ _ => rfl)) pa_nil)) (pe_callB call_len_seq (by rfl) ml boot_len (pa_cons (pe_ix ix_tup (pv 0) pe_int (fun _ _ => rfl)) pa_nil)) (nomark _)))))) (pss_one (ps_ret pe_bl)) pss_nil)
      (pss_one (ps_ret (pe_cmpR (op_eqD hr.units) (pe_lc (own := [("many", 3)]) (g := gName 3) rfl scLB.nd (pi_tup (pe_ix ix_tup (pv 1) pe_int (fun _ _ => rfl))) (blkOk_by (own := [("many", 3)]) (N := ["bank_here", "item", "way", "many"]) (sc := defScope sLeBody) (by decide +kernel))
            (fun _ _ _ _ _ => pg_name (i := 3) scLB.nd rfl (Or.inl rfl)) (fun _ _ _ _ _ => pts_one (pt_not (pt_val (pe_call G2 r2 rfl m2 k2 b2 .nil pass0 (pa_cons (pv 3) pa_nil))))) (fun _ _ _ _ _ => pe_int)) (pe_lst pa_nil) (nomark _))))))))), ?_⟩
    refine ⟨_, rfl, v, "tuple", m, n, N, rfl, by decide, hv, _, rfl, ?_⟩
    rcases pv_view hv with ⟨xs, j, a, rfl, rfl, na, ha, hl, hx, ed, et⟩ | ⟨nt, et⟩
    · rw [et]
      refine iteF ?_
      rw [ed] at k
      refine ⟨_, rfl, (by show 0 ≤ sizeLine; exact Nat.zero_le _), fun p hp => ⟨a, p, xs, rfl, rfl, SqT.of (same_upd hp _ _ ha), SqT.of upd_same, _, rfl, ?_⟩⟩
      have s1 : Same H (upd H p (.tup [])) := same_upd hp
      generalize upd H p (.tup []) = H1 at *
      match xs, hx, ha, k with
      | [], hx, ha, k =>
        refine iteT ?_
        refine iteT ?_
        exact k H1 s1
      | x :: rest, hx, ha, k =>
        refine iteF ?_
        have px := hx x (by simp)
        have px1 := (PV.mon m j).same s1 px
        have ha1 := s1 _ _ ha
        refine ⟨_, rfl, a, _, 0, x, rfl, rfl, SqT.of ha1, atI_nat (j := 0) rfl, x, "str", m, j, N, rfl, by decide, px1, _, rfl, ?_⟩
        rcases isB_str px1 with ⟨t, rfl, edx, ets⟩ | ⟨nos, ets⟩
        · rw [ets]
          refine iteF ?_
          have edx : dtOf j H (.str t) = .str t := by rw [← dt_same px s1]; exact edx
          have k' : ∀ H', Same H H' → Q (.bl (bodyB np s r (.tup (.str t :: rest.map (dtOf j H))))) H' := fun H' s' => by
            have q := k H' s'
            rw [List.map_cons, edx] at q
            exact q
          refine ⟨_, rfl, a, _, 0, .str t, rfl, rfl, SqT.of ha1, atI_nat (j := 0) rfl, m, j, N, "ask", rfl, px1, _, rfl, ?_⟩
          show (if decide (t = "ask") = true then _ else _)
          by_cases ca : t = "ask"
          · rw [decide_eq_true ca]
            subst ca
            refine iteT ?_
            refine ⟨_, rfl, a, _, rfl, .inr (SqT.of ha1), rfl, _, rfl, ?_⟩
            by_cases cl : rest.length = 2
            · obtain ⟨y, z, rfl⟩ : ∃ y z, rest = [y, z] := by
                match rest, cl with
                | [y, z], _ => exact ⟨y, z, rfl⟩
              have py1 := (PV.mon m j).same s1 (hx y (by simp))
              have pz1 := (PV.mon m j).same s1 (hx z (by simp))
              have ey := dt_same (hx y (by simp)) s1
              have ez := dt_same (hx z (by simp)) s1
              have k2 : ∀ H', Same H1 H' → Q (.bl (decide (s = "owner") && (decide (r = "member") && (nameB (dtOf j H1 y) && itemsB (dtOf j H1 z))))) H' := fun H' s' => by
                have q : Q (.bl (decide (("ask" : Str) = "ask") && (decide (s = "owner") && (decide (r = "member") && (nameB (dtOf j H y) && itemsB (dtOf j H z)))))) H' := k' H' (s1.trans s')
                rw [decide_eq_true (show ("ask" : Str) = "ask" from rfl), Bool.true_and, ← ey, ← ez] at q
                exact q
              refine iteT ?_
              refine ⟨_, rfl, (by show 2 ≤ sizeLine; decide), fun q hq => ⟨.list [.str s, .str r], .list [.str "owner", .str "member"], .lst (SqL.of (same_upd hq _ _ (s1 _ _ hw))) (.cons (.str s) (.cons (.str r) .nil)), .lst (SqL.of upd_same) (.cons (.str _) (.cons (.str _) .nil)), shaped_two oks okr, shaped_two strOk_o strOk_m, _, rfl, ?_⟩⟩
              have s2 := same_upd (o := .lst [.str "owner", .str "member"]) hq
              generalize upd H1 q (.lst [.str "owner", .str "member"]) = H2 at *
              rw [eqv_way]
              cases e1 : decide (s = "owner") with
              | false =>
                rw [e1] at k2
                refine iteF ?_
                exact k2 _ s2
              | true =>
                rw [e1] at k2
                cases e2 : decide (r = "member") with
                | false =>
                  rw [e2] at k2
                  refine iteF ?_
                  exact k2 _ s2
                | true =>
                  rw [e2] at k2
                  refine iteT ?_
                  refine ⟨_, rfl, a, _, 1, y, rfl, rfl, SqT.of (s2 _ _ ha1), atI_nat (j := 1) rfl, y, m, j, N, rfl, (PV.mon m j).same s2 py1, by omega, fun H3 s3 => ⟨_, rfl, ?_⟩⟩
                  rw [dt_same py1 s2]
                  cases e3 : nameB (dtOf j H1 y) with
                  | false =>
                    rw [e3] at k2
                    refine iteF ?_
                    exact k2 _ (s2.trans s3)
                  | true =>
                    rw [e3] at k2
                    refine iteT ?_
                    refine ⟨_, rfl, a, _, 2, z, rfl, rfl, SqT.of (s3 _ _ (s2 _ _ ha1)), atI_nat (j := 2) rfl, z, m, j, N, rfl, (PV.mon m j).same (s2.trans s3) pz1, hm, fun H4 s4 => ?_⟩
                    rw [dt_same pz1 (s2.trans s3)]
                    exact k2 _ ((s2.trans s3).trans s4)
            · have e3 : decide (V.int (((V.str "ask" :: rest).length : Nat) : Int) = V.int 3) = false := decide_eq_false (fun q => cl (by have := V.int.inj q; rw [List.length_cons] at this; omega))
              rw [e3]
              refine iteF ?_
              have q := k' H1 s1
              rw [body_ask _ (by rw [List.length_map]; exact cl)] at q
              exact q
          · rw [decide_eq_false ca]
            refine iteF ?_
            refine ⟨_, rfl, a, _, rfl, .inr (SqT.of ha1), rfl, _, rfl, ?_⟩
            by_cases cl : rest.length = 1
            · obtain ⟨y, rfl⟩ : ∃ y, rest = [y] := by
                match rest, cl with
                | [y], _ => exact ⟨y, rfl⟩
              have py1 := (PV.mon m j).same s1 (hx y (by simp))
              have ey := dt_same (hx y (by simp)) s1
              have k2 : ∀ H', Same H1 H' → Q (.bl (if decide (t = "vote") = true then decide (s = "member") && (decide (r = "owner") && nameB (dtOf j H1 y)) else if decide (t = "tell") = true then itemsB (dtOf j H1 y) else decide (t = "want") && rowB np (dtOf j H1 y))) H' := fun H' s' => by
                have q : Q (.bl (if decide (t = "vote") = true then decide (s = "member") && (decide (r = "owner") && nameB (dtOf j H y)) else if decide (t = "tell") = true then itemsB (dtOf j H y) else decide (t = "want") && rowB np (dtOf j H y))) H' := k' H' (s1.trans s')
                rw [← ey] at q
                exact q
              refine iteF ?_
              refine ⟨_, rfl, a, _, 0, .str t, rfl, rfl, SqT.of ha1, atI_nat (j := 0) rfl, m, j, N, "vote", rfl, px1, _, rfl, ?_⟩
              show (if decide (t = "vote") = true then _ else _)
              cases cv : decide (t = "vote") with
              | true =>
                rw [cv, if_pos rfl] at k2
                refine iteT ?_
                refine ⟨_, rfl, (by show 2 ≤ sizeLine; decide), fun q hq => ⟨.list [.str s, .str r], .list [.str "member", .str "owner"], .lst (SqL.of (same_upd hq _ _ (s1 _ _ hw))) (.cons (.str s) (.cons (.str r) .nil)), .lst (SqL.of upd_same) (.cons (.str _) (.cons (.str _) .nil)), shaped_two oks okr, shaped_two strOk_m strOk_o, _, rfl, ?_⟩⟩
                have s2 := same_upd (o := .lst [.str "member", .str "owner"]) hq
                generalize upd H1 q (.lst [.str "member", .str "owner"]) = H2 at *
                rw [eqv_way]
                cases e1 : decide (s = "member") with
                | false =>
                  rw [e1] at k2
                  refine iteF ?_
                  exact k2 _ s2
                | true =>
                  rw [e1] at k2
                  cases e2 : decide (r = "owner") with
                  | false =>
                    rw [e2] at k2
                    refine iteF ?_
                    exact k2 _ s2
                  | true =>
                    rw [e2] at k2
                    refine iteT ?_
                    refine ⟨_, rfl, a, _, 1, y, rfl, rfl, SqT.of (s2 _ _ ha1), atI_nat (j := 1) rfl, y, m, j, N, rfl, (PV.mon m j).same s2 py1, by omega, fun H3 s3 => ?_⟩
                    rw [dt_same py1 s2]
                    exact k2 _ (s2.trans s3)
              | false =>
                rw [cv, if_neg (by decide)] at k2
                refine iteF ?_
                refine ⟨_, rfl, a, _, 0, .str t, rfl, rfl, SqT.of ha1, atI_nat (j := 0) rfl, m, j, N, "tell", rfl, px1, _, rfl, ?_⟩
                show (if decide (t = "tell") = true then _ else _)
                cases ct : decide (t = "tell") with
                | true =>
                  rw [ct, if_pos rfl] at k2
                  refine iteT ?_
                  exact ⟨_, rfl, a, _, 1, y, rfl, rfl, SqT.of ha1, atI_nat (j := 1) rfl, y, m, j, N, rfl, py1, hm, k2⟩
                | false =>
                  rw [ct, if_neg (by decide)] at k2
                  refine iteF ?_
                  refine ⟨_, rfl, a, _, 0, .str t, rfl, rfl, SqT.of ha1, atI_nat (j := 0) rfl, rfl, _, rfl, ?_⟩
                  by_cases cw : t = "want"
                  · rw [decide_eq_true cw, Bool.true_and] at k2
                    rw [decide_eq_true (congrArg V.str cw)]
                    refine iteF ?_
                    refine ⟨_, rfl, a, _, 1, y, rfl, rfl, SqT.of ha1, atI_nat (j := 1) rfl, y, "tuple", m, j, N, rfl, by decide, py1, _, rfl, ?_⟩
                    rcases pv_view py1 with ⟨ws, j3, ay, rfl, rfl, ny, hay, hly, hxy, edy, ety⟩ | ⟨nty, ety⟩
                    · rw [ety]
                      refine iteF ?_
                      have key : rowB np (dtOf (j3 + 1) H1 (.ref ay)) = (decide (ws.length = np) && (ws.map (dtOf j3 H1)).all numB0) := by
                        rw [edy]
                        show (decide ((ws.map (dtOf j3 H1)).length = np) && _) = _
                        rw [List.length_map]
                      rw [key] at k2
                      obtain ⟨ab, xb, bs, li, rfl, hab, hxb, lb⟩ := id (hb.same s1)
                      refine ⟨_, rfl, a, _, 1, _, rfl, rfl, SqT.of ha1, atI_nat (j := 1) rfl, ay, ws, rfl, .inr (SqT.of hay), _, rfl, ab, _, 0, _, rfl, rfl, SqT.of hab, atI_nat (j := 0) rfl, xb, bs, rfl, .inr (SqT.of hxb), rfl, _, rfl, ?_⟩
                      rw [lb]
                      by_cases cn : ws.length = np
                      · rw [decide_eq_true cn, Bool.true_and] at k2
                        rw [cn]
                        refine iteNS rfl ?_
                        refine ⟨_, rfl, a, _, 1, _, rfl, rfl, SqT.of ha1, atI_nat (j := 1) rfl, ay, rfl, ⟨ws, SqT.of hay⟩, fun D hD => lc_tup (K := K) (a := ay) (xs := ws)
                          (fun i H' => ∃ kk : Nat, H' D = some (.lst ((List.replicate kk (1 : Int)).map V.int)) ∧ (∀ b o, H1 b = some o → H' b = some o) ∧ (kk = 0 ↔ ((ws.take i).map (dtOf j3 H1)).all numB0 = true) ∧ kk ≤ i)
                          ⟨0, upd_same, same_upd hD, ⟨fun _ => rfl, fun _ => rfl⟩, Nat.le_refl 0⟩ (fun i H' _ ⟨kk, _, e, _⟩ => SqT.of (e _ _ hay)) ?_ ?_⟩
                        · rintro i u H' hut ⟨kk, hL, sL, hk0, hkt⟩
                          have ht : i < ws.length := (List.getElem?_eq_some_iff.mp hut).1
                          have pu := hxy u (List.mem_of_getElem? hut)
                          have et2 : ((ws.take (i + 1)).map (dtOf j3 H1)).all numB0 = (((ws.take i).map (dtOf j3 H1)).all numB0 && numB0 (dtOf j3 H1 u)) := by
                            rw [List.take_succ, hut, List.map_append, List.all_append]
                            show (_ && (numB0 (dtOf j3 H1 u) && true)) = _
                            rw [Bool.and_true]
                          refine ⟨rfl, _, rfl, u, m, j3, N, rfl, (PV.mon m j3).same sL pu, by omega, fun H3 s3 => ⟨_, rfl, ?_⟩⟩
                          rw [dt_same pu sL]
                          cases eu : numB0 (dtOf j3 H1 u) with
                          | true =>
                            refine iteF ?_
                            refine ⟨kk, s3 _ _ hL, fun b o hb => s3 _ _ (sL b o hb), ?_, by omega⟩
                            rw [et2, eu, Bool.and_true]
                            exact hk0
                          | false =>
                            refine iteT ?_
                            refine ⟨_, s3 _ _ hL, by rw [List.length_map, List.length_replicate]; exact small1000 (by omega), kk + 1, by rw [upd_same, ones], fun b o hb => ?_, ?_, by omega⟩
                            · have nb : b ≠ D := ne_of_none hb hD
                              rw [upd_ne nb]
                              exact s3 _ _ (sL b o hb)
                            · rw [et2, eu, Bool.and_false]
                              exact ⟨fun z => by omega, fun z => nomatch z⟩
                        · rintro H' ⟨kk, hL, sL, hk0, hkt⟩
                          rw [List.take_of_length_le (Nat.le_refl _)] at hk0
                          refine ⟨(by show 0 ≤ sizeLine; exact Nat.zero_le _), fun p hp => ?_⟩
                          refine ⟨.list ((List.replicate kk (1 : Int)).map PyData.int), .list [], .lst (SqL.of (same_upd hp _ _ hL)) (dp_ints _), .lst (SqL.of upd_same) .nil, shaped_ints _, shaped_ints [], ?_⟩
                          rw [eqv_nil]
                          have sN : Same H1 (upd H' p (.lst [])) := fun b o hb => same_upd hp _ _ (sL b o hb)
                          have ek : (List.replicate kk (1 : Int)).isEmpty = (ws.map (dtOf j3 H1)).all numB0 := by
                            by_cases ck : kk = 0
                            · rw [hk0.mp ck, ck]; rfl
                            · have eall : (ws.map (dtOf j3 H1)).all numB0 = false := by
                                cases q : (ws.map (dtOf j3 H1)).all numB0 with
                                | false => rfl
                                | true => exact absurd (hk0.mpr q) ck
                              rw [eall]
                              cases kk with
                              | zero => exact absurd rfl ck
                              | succ kk => rfl
                          rw [ek]
                          exact k2 _ sN
                      · rw [decide_eq_false cn] at k2
                        have e3 : (!decide (V.int (ws.length : Int) = V.int (np : Int))) = true := by
                          rw [decide_eq_false (fun q => cn (by have := V.int.inj q; omega))]; rfl
                        rw [e3]
                        refine iteT ?_
                        exact k2 _ (Same.refl H1)
                    · rw [ety]
                      refine iteT ?_
                      refine iteT ?_
                      have e2 : rowB np (dtOf j H1 y) = false := by
                        cases e : dtOf j H1 y with
                        | tup ds => exact absurd e (nty ds)
                        | _ => rfl
                      rw [e2] at k2
                      exact k2 _ (Same.refl H1)
                  · rw [decide_eq_false cw] at k2
                    rw [decide_eq_false (fun q => cw (V.str.inj q))]
                    refine iteT ?_
                    refine iteT ?_
                    exact k2 _ (Same.refl H1)
            · have e3 : (!decide (V.int (((V.str t :: rest).length : Nat) : Int) = V.int 2)) = true := by
                rw [decide_eq_false (fun q => cl (by have := V.int.inj q; rw [List.length_cons] at this; omega))]; rfl
              rw [e3]
              refine iteT ?_
              have q := k' H1 s1
              rw [body_two (show strB "ask" (.str t) = false from decide_eq_false ca) _ (by rw [List.length_map]; exact cl)] at q
              exact q
        · rw [ets]
          refine iteT ?_
          have q := k H1 s1
          rw [List.map_cons, body_dumb fun z => by rw [← dt_same px s1]; exact nos z] at q
          exact q
    · rw [et]
      refine iteT ?_
      refine iteT ?_
      have e2 : bodyB np s r (dtOf n H v) = false := by
        cases e : dtOf n H v with
        | tup ds => exact absurd e (nt ds)
        | _ => rfl
      rw [e2] at k
      exact k H (Same.refl H)
end
end Pu

namespace Pu
open PySem L2
section
variable {P : Program} {w : World} {K : PySem.W.Frag} {mg : Str → Option Value} {base : Heap}
theorem scLL : FnScope ["bank_here", "item"] ["bank_here", "item"] (defScope sLeLetter) := ⟨rfl, rfl, rfl, by decide +kernel, rfl, by decide +kernel, by decide +kernel⟩
theorem ok_leletter {f f3 f5 : Addr} {fd fd3 fd5 : FuncData} (F : Fun K "_law_le_letter" "_law_le_letter" sLeLetter f fd) (ms : mg "isinstance" = none) (mt : mg "tuple" = none) (ml : mg "len" = none)
    (G3 : FnOk P w K mg base CX0 3 f3 fd3 ["bank_here", "item"] (spBD endB)) (b3 : Binds K fd3 ["bank_here", "item"] []) (k3 : PySem.W.keepIn K (.ref f3) = true) (m3 : mg "_law_le_end" = some (.ref f3))
    (G5 : FnOk P w K mg base CX0 5 f5 fd5 ["bank_here", "item", "way"] spLB) (b5 : Binds K fd5 ["bank_here", "item", "way"] []) (k5 : PySem.W.keepIn K (.ref f5) = true) (m5 : mg "_law_le_body" = some (.ref f5)) :
    FnOk P w K mg base CX0 6 f fd ["bank_here", "item"] (spBD6 letterB) := by
  refine F.ok scLL (fun vs H Q E h => ?_) (fun cdv A outer s H vs Q E hr h => ?_)
  · obtain ⟨b, np, nm, v, m, n, N, rfl, _⟩ := h
    rfl
  · obtain ⟨b, np, nm, v, m, n, N, rfl, hk, hv, hm, k⟩ := h
    have r3 : Room 3 (A.deeper (PyProof.Rows.envOfC "_law_le_letter" (defScope sLeLetter) s.heap.objs.size f cdv)) := hr.mono (by decide)
    refine ⟨_, pss_cons (ps_if (PW.pt (pw_or (pt_not (pt_val (pe_callB call_isP (by rfl) ms (by decide +kernel) (pa_cons (pv 1) (pa_cons (pe_tyn "tuple" (by rfl) mt (by decide +kernel)) pa_nil)))))
          (pw_or1 (pt_cmpR op_ne (pe_callB call_len_seq (by rfl) ml boot_len (pa_cons (pv 1) pa_nil)) pe_int (nomark _))))) (pss_one (ps_ret pe_bl)) pss_nil)
      (pss_cons (ps_if (PW.pt (pw_or (pt_not (pt_val (pe_call G3 r3 rfl m3 k3 b3 .nil pass0 (pa_cons (pv 0) (pa_cons (pe_ix ix_tup (pv 1) pe_int (fun _ _ => rfl)) pa_nil))))) (pw_or1 (pt_not (pt_val (pe_call G3 r3 rfl m3 k3 b3 .nil pass0 (pa_cons (pv 0) (pa_cons (pe_ix ix_tup (pv 1) pe_int (fun _ _ => rfl)) pa_nil)))))))) (pss_one (ps_ret pe_bl)) pss_nil)
      (pss_one (ps_ret (pe_call G5 hr rfl m5 k5 b5 .nil pass0 (pa_cons (pv 0) (pa_cons (pe_ix ix_tup (pv 1) pe_int (fun _ _ => rfl)) (pa_cons (pe_lst (pa_cons (pe_ix ix_tup (pe_ix ix_tup (pv 1) pe_int (fun _ _ => rfl)) pe_int (fun _ _ => rfl)) (pa_cons (pe_ix ix_tup (pe_ix ix_tup (pv 1) pe_int (fun _ _ => rfl)) pe_int (fun _ _ => rfl)) pa_nil))) pa_nil))))))), ?_⟩
    refine ⟨_, rfl, v, "tuple", m, n, N, rfl, by decide, hv, _, rfl, ?_⟩
    rcases pv_view hv with ⟨xs, j, a, rfl, rfl, na, ha, hl, hx, ed, et⟩ | ⟨nt, et⟩
    · rw [et]
      refine iteF ?_
      refine ⟨_, rfl, a, xs, rfl, .inr (SqT.of ha), rfl, _, rfl, ?_⟩
      rw [ed] at k
      by_cases c3 : xs.length = 3
      · obtain ⟨x, y, z, rfl⟩ : ∃ x y z, xs = [x, y, z] := by
          match xs, c3 with
          | [x, y, z], _ => exact ⟨x, y, z, rfl⟩
        refine iteF ?_
        have px := hx x (by simp)
        have py := hx y (by simp)
        have pz := hx z (by simp)
        have k' : ∀ H', Same H H' → Q (.bl (endB np nm (dtOf j H x) && (endB np nm (dtOf j H y) && bodyB np (wordOf (dtOf j H x)) (wordOf (dtOf j H y)) (dtOf j H z)))) H' := k
        refine ⟨_, rfl, _, rfl, a, _, 0, x, rfl, rfl, SqT.of ha, atI_nat (j := 0) rfl, b, np, nm, x, m, j, N, rfl, hk, px, by omega, fun H2 s2 => ⟨_, rfl, ?_⟩⟩
        cases e1 : endB np nm (dtOf j H x) with
        | false =>
          refine iteT ?_
          refine iteT ?_
          rw [e1] at k'
          exact k' H2 s2
        | true =>
          refine iteF ?_
          rw [e1] at k'
          refine ⟨_, rfl, _, rfl, a, _, 1, y, rfl, rfl, SqT.of (s2 _ _ ha), atI_nat (j := 1) rfl, b, np, nm, y, m, j, N, rfl, hk.same s2, (PV.mon m j).same s2 py, by omega, fun H3 s3 => ⟨_, rfl, ?_⟩⟩
          rw [dt_same py s2]
          cases e2 : endB np nm (dtOf j H y) with
          | false =>
            refine iteT ?_
            rw [e2] at k'
            exact k' H3 (s2.trans s3)
          | true =>
            refine iteF ?_
            rw [e2] at k'
            obtain ⟨ax, sx, x2, rfl, hax, wx, ox⟩ := end_word px e1
            obtain ⟨ay, sy, y2, rfl, hay, wy, oy⟩ := end_word py e2
            rw [wx, wy] at k'
            have s23 := s2.trans s3
            have strok : ∀ {u : Str}, u = "owner" ∨ u = "member" → PyData.strOk u = true := fun {u} h => by
              rcases h with e | e
              · rw [e]; exact strOk_o
              · rw [e]; exact strOk_m
            refine ⟨_, rfl, _, rfl, a, _, 2, z, rfl, rfl, SqT.of (s23 _ _ ha), atI_nat (j := 2) rfl, _, rfl, a, _, 0, .ref ax, rfl, rfl, SqT.of (s23 _ _ ha), atI_nat (j := 0) rfl, ax, _, 0, .str sx, rfl, rfl, SqT.of (s23 _ _ hax), atI_nat (j := 0) rfl,
              _, rfl, a, _, 1, .ref ay, rfl, rfl, SqT.of (s23 _ _ ha), atI_nat (j := 1) rfl, ay, _, 0, .str sy, rfl, rfl, SqT.of (s23 _ _ hay), atI_nat (j := 0) rfl, (by show 2 ≤ sizeLine; decide), fun q hq => ?_⟩
            have s24 := s23.trans (same_upd (o := .lst [.str sx, .str sy]) hq)
            refine ⟨b, np, nm, z, m, j, N, q, sx, sy, rfl, hk.same s24, (PV.mon m j).same s24 pz, hm, upd_same, strok ox, strok oy, fun H4 s4 => ?_⟩
            rw [dt_same pz s24]
            exact k' H4 (s24.trans s4)
      · have e3 : (!decide (V.int (xs.length : Int) = V.int 3)) = true := by
          rw [decide_eq_false (fun q => c3 (by have := V.int.inj q; omega))]; rfl
        rw [e3]
        refine iteT ?_
        rw [letter_len c3] at k
        exact k H (Same.refl H)
    · rw [et]
      refine iteT ?_
      refine iteT ?_
      have e2 : letterB np nm (dtOf n H v) = false := by
        cases e : dtOf n H v with
        | tup ds => exact absurd e (nt ds)
        | _ => rfl
      rw [e2] at k
      exact k H (Same.refl H)
end
end Pu

namespace Pu
open PySem L2
abbrev sDrawn : Stmt := top 42
def okBk (ns : List Int) (mi li : Int) : Bool := begL (ns.map V.int) && numF (.int li) 0 && numF (.int mi) (3 * li + 1) && decide (mi ≤ 13)
/-- a bank -/
def bkR : RV := fun N H v => ∃ (a x : Addr) (ns : List Int) (mi li : Int), v = .ref a ∧ N a ∧ N x ∧ H a = some (.tup [.ref x, .int mi, .int li]) ∧ H x = some (.tup (ns.map V.int)) ∧ okBk ns mi li = true
theorem bkR.mon : Mon bkR := fun N N' H H' v k ⟨a, x, ns, mi, li, e, n1, n2, h1, h2, o⟩ => ⟨a, x, ns, mi, li, e, (k _ _ n1 h1).1, (k _ _ n2 h2).1, (k _ _ n1 h1).2, (k _ _ n2 h2).2, o⟩
theorem bkR.parts {N : Addr → Prop} {H : Hp} {v : V} (h : bkR N H v) : ∃ np nm, BkV H v np nm ∧ np ≤ 8 ∧ 0 ≤ nm ∧ nm ≤ 13 := by
  obtain ⟨a, x, ns, mi, li, rfl, n1, n2, h1, h2, o⟩ := h
  have hB : BIG = 1000000000000000000 := rfl
  unfold okBk begL at o
  rw [numF_int, numF_int] at o
  simp only [Bool.and_eq_true, decide_eq_true_eq] at o
  exact ⟨ns.length, mi, ⟨a, x, _, _, rfl, h1, h2, by rw [List.length_map]⟩, by have := o.1.1.1.1.1.2; rw [List.length_map] at this; exact this, by omega, by omega⟩
theorem bkR.bank {N : Addr → Prop} {H : Hp} {v : V} (h : bkR N H v) : bankB H v = true := by
  obtain ⟨a, x, ns, mi, li, rfl, n1, n2, h1, h2, o⟩ := h
  unfold bankB
  rw [tupOf_at h1]
  show (begB H (.ref x) && numF (.int li) 0 && numF (.int mi) (3 * li + 1) && decide (mi ≤ 13)) = true
  unfold begB
  rw [tupOf_at h2]
  exact o
theorem bkR.pv {N : Addr → Prop} {H : Hp} {v : V} (h : bkR N H v) : PV 8 3 N H v := by
  have hp := h.parts
  obtain ⟨a, x, ns, mi, li, rfl, n1, n2, h1, h2, o⟩ := h
  have hl : ns.length ≤ 8 := by
    unfold okBk begL at o
    simp only [Bool.and_eq_true, decide_eq_true_eq] at o
    have := o.1.1.1.1.1.2
    rw [List.length_map] at this
    exact this
  refine .tup a _ h1 n1 (by show 3 ≤ 8; decide) fun y hy => ?_
  simp only [List.mem_cons, List.not_mem_nil, or_false] at hy
  rcases hy with rfl | rfl | rfl
  · refine .tup x _ h2 n2 (by rw [List.length_map]; exact hl) fun y hy => ?_
    obtain ⟨z, _, rfl⟩ := List.mem_map.mp hy
    exact .int z
  · exact .int _
  · exact .int _
section
variable {X : Cx}
theorem n_bank {es : List Expr} {t : TA} {ns : List Int} {mi li : Int} {k1 k2 j1 j2 : Nat} {p1 p2 p3 p4 : Pos} (h : PA X es t) (ht : ∀ σ H (Q : List V → Hp → Prop), Q (ns.map V.int) H → t σ H Q) (hl : ns.length ≤ 1000) (o : okBk ns mi li = true) :
    PE X (.Tuple [.Tuple es k1 p1, .Constant (.int mi) j1 p2, .Constant (.int li) j2 p3] k2 p4) (TN bkR) :=
  pe_imp (pe_tup (pa_cons (pe_tup h) (pa_cons pe_int (pa_cons pe_int pa_nil)))) fun σ H Q q => ht σ H _ ⟨by rw [List.length_map]; exact Nat.le_of_lt (small1000 hl), fun p hp => ⟨(by show 3 ≤ sizeLine; decide), fun p' hp' => by
    have s := (same_upd (o := .tup (ns.map V.int)) hp).trans (same_upd (o := .tup [.ref p, .int mi, .int li]) hp')
    have npp : p ≠ p' := fun e => by rw [← e, upd_same] at hp'; cases hp'
    exact q _ _ s ⟨p', p, ns, mi, li, rfl, (same_upd hp).free hp', hp, upd_same, by rw [upd_ne npp]; exact upd_same, o⟩⟩⟩
end
def spBankQ : Sp := fun vs H Q _ => ∃ (d g c : Addr) (T : Int), vs = [.ref d] ∧ StA H d g c T ∧ T < TB ∧
  ∀ (x : V) (H' : Hp), bkR (Nd d g) H' x → Kp d g H H' → StA H' d g c (T + 1) → Q x H'
section
variable {P : Program} {w : World} {K : PySem.W.Frag} {mg : Str → Option Value} {base : Heap}
theorem ok_bankQ {f fP : Addr} {fd fdP : FuncData} (F : Fun K "_law_pu_bank" "_law_pu_bank" sBank f fd)
    (GP : FnOk P w K mg base CX0 3 fP fdP ["state", "several"] (spPick K)) (bP : Binds K fdP ["state", "several"] []) (kP : PySem.W.keepIn K (.ref fP) = true) (mP : mg "_law_pick" = some (.ref fP)) :
    FnOk P w K mg base CX0 4 f fd ["state"] spBankQ := by
  refine F.ok scBa (fun vs H Q E h => ?_) (fun cdv A outer s H vs Q E hr h => ?_)
  · obtain ⟨d, g, c, T, rfl, _⟩ := h
    rfl
  · obtain ⟨d, g, c, T, rfl, S, hT, k⟩ := h
    have m3 := bkR.mon
    refine ⟨_, pss_cons (ps_set (i := 1) scBa.nd rfl (Or.inl rfl) (n_lstR (R := bkR) (k := 6) m3
        (na_cons m3 (n_bank (ns := [5, 0]) (pa_cons pe_int (pa_cons pe_int pa_nil)) (fun _ _ _ q => q) (by decide) (by decide +kernel))
        (na_cons m3 (n_bank (ns := [3, 3, 3]) (pa_cons pe_int (pa_cons pe_int (pa_cons pe_int pa_nil))) (fun _ _ _ q => q) (by decide) (by decide +kernel))
        (na_cons m3 (n_bank (ns := [9]) (pa_cons pe_int pa_nil) (fun _ _ _ q => q) (by decide) (by decide +kernel))
        (na_cons m3 (n_bank (ns := [2, 7]) (pa_cons pe_int (pa_cons pe_int pa_nil)) (fun _ _ _ q => q) (by decide) (by decide +kernel))
        (na_cons m3 (n_bank (ns := [4, 4, 4, 4]) (pa_cons pe_int (pa_cons pe_int (pa_cons pe_int (pa_cons pe_int pa_nil)))) (fun _ _ _ q => q) (by decide) (by decide +kernel))
        (na_cons m3 (n_bank (ns := [0, 10]) (pa_cons pe_int (pa_cons pe_int pa_nil)) (fun _ _ _ q => q) (by decide) (by decide +kernel)) na_nil)))))) (by decide)))
      (pss_one (ps_ret (pe_call GP hr rfl mP kP bP .nil pass0 (pa_cons (pv 0) (pa_cons (pe_op op_cat (pv 1) (n_lstR (R := bkR) (k := 2) m3
        (na_cons m3 (n_bank (ns := [6, 1, 2]) (pa_cons pe_int (pa_cons pe_int (pa_cons pe_int pa_nil))) (fun _ _ _ q => q) (by decide) (by decide +kernel))
        (na_cons m3 (n_bank (ns := [20, 0, 5]) (pa_cons pe_int (pa_cons pe_int (pa_cons pe_int pa_nil))) (fun _ _ _ q => q) (by decide) (by decide +kernel)) na_nil)) (by decide))) pa_nil))))), ?_⟩
    intro v H1 s1 ⟨a, xs, e, n, ha, l, q⟩
    subst e
    refine ⟨_, rfl, _, rfl, ?_⟩
    intro v2 H2 s2 ⟨b, ys, e2, n2, hb, l2, q2⟩
    subst e2
    refine ⟨a, b, xs, ys, rfl, rfl, s2 _ _ ha, hb, by rw [l, l2]; exact Nat.le_of_lt (small1000 (by decide)), fun p hp => ?_⟩
    have s3 : Same H (upd H2 p (.lst (xs ++ ys))) := (s1.trans s2).trans (same_upd hp)
    have S3 := S.same s3
    have nd := S.nd p ((s1.trans s2).free hp)
    refine ⟨d, g, c, p, T, xs ++ ys, rfl, S3, hT, .inl (SqL.of upd_same), nd.1, nd.2, (by intro e; have := congrArg List.length e; rw [List.length_append, l, l2] at this; cases this), by rw [List.length_append, l, l2]; decide, fun x H4 hx k4 S4 => ?_⟩
    refine k x H4 ?_ ((Kp.of s3).trans k4) S4
    refine m3.kp k4 ?_
    rcases List.mem_append.mp hx with hx | hx
    · exact m3 _ _ _ _ _ (fun a' o n' e => ⟨S.nd a' n', same_upd hp a' o (s2 a' o e)⟩) (q x hx)
    · exact m3 _ _ _ _ _ (fun a' o n' e => ⟨S.nd a' (s1.free n'), same_upd hp a' o e⟩) (q2 x hx)
theorem okBk_bounds {ns : List Int} {mi li : Int} (o : okBk ns mi li = true) : ns.length ≤ 8 ∧ 0 ≤ mi ∧ mi ≤ 13 := by
  have hB : BIG = 1000000000000000000 := rfl
  unfold okBk begL at o
  rw [numF_int, numF_int] at o
  simp only [Bool.and_eq_true, decide_eq_true_eq] at o
  refine ⟨?_, by omega, by omega⟩
  have := o.1.1.1.1.1.2
  rw [List.length_map] at this
  exact this
/-- away from one list more -/
abbrev Ne (d g e : Addr) : Addr → Prop := fun a => Nd d g a ∧ a ≠ e
theorem pv_kpE {d g e : Addr} {H H' : Hp} {m n : Nat} {v : V} (k : Kp d g H H') (h : PV m n (Ne d g e) H v) : PV m n (Ne d g e) H' v := PV.mon m n _ _ _ _ _ (fun a o n e => ⟨n, k a o e n.1.1 n.1.2⟩) h
theorem pv_updE {d g e : Addr} {H : Hp} {m n : Nat} {v : V} {o : HO} (h : PV m n (Ne d g e) H v) : PV m n (Ne d g e) (upd H e o) v := PV.mon m n _ _ _ _ _ (fun a u n q => ⟨n, by rw [upd_ne n.2]; exact q⟩) h
theorem pv_dropE {d g e : Addr} {H : Hp} {m n : Nat} {v : V} (h : PV m n (Ne d g e) H v) : PV m n (Nd d g) H v := PV.mon m n _ _ _ _ _ (fun a u n q => ⟨n.1, q⟩) h
theorem Kp.updNew {d g e : Addr} {H H' : Hp} {o : HO} (k : Kp d g H H') (n : H e = none) : Kp d g H (upd H' e o) := fun b u h x y => by
  rw [upd_ne (ne_of_none h n)]
  exact k b u h x y
abbrev nDr : List Str := ["state", "bank_here", "ends", "lap", "owner", "member", "items", "numbers", "far", "row", "name", "some", "turn", "number"]
theorem scDw : FnScope nDr ["state", "bank_here"] (defScope sDrawn) := ⟨rfl, rfl, rfl, by decide +kernel, rfl, by decide +kernel, by decide +kernel⟩
def spDrawn : Sp := fun vs H Q _ => ∃ (d g c : Addr) (T : Int) (b : V), vs = [.ref d, b] ∧ StA H d g c T ∧ T + 100 < TB ∧ bkR (Nd d g) H b ∧
  ∀ (x : V) (H' : Hp), tupR (PV 20 6) 3 (Nd d g) H' x → Kp d g H H' → StA H' d g c (T + 100) → Q x H'
theorem ok_drawn {f : Addr} {fd : FuncData} (F : Fun K "_law_le_drawn" "_law_le_drawn" sDrawn f fd) (D : Dr P w K mg base) (mr : mg "range" = none) (mso : mg "sorted" = none) :
    FnOk P w K mg base CX0 4 f fd ["state", "bank_here"] spDrawn := by
  obtain ⟨fD, fdD, GD, bD, kD, mD⟩ := D.draw
  obtain ⟨fP, fdP, GP, bP, kP, mP⟩ := D.pick
  refine F.ok scDw (fun vs H Q E h => ?_) (fun cdv A outer s H vs Q E hr h => ?_)
  · obtain ⟨d, g, c, T, b, rfl, _⟩ := h
    rfl
  · obtain ⟨d, g, c, T, b, rfl, S, hT, hb, k⟩ := h
    have r2 : Room 2 (A.deeper (PyProof.Rows.envOfC "_law_le_drawn" (defScope sDrawn) s.heap.objs.size f cdv)) := hr.mono (by decide)
    have hT' : T + 100 < 1000000000000 := hT
    refine ⟨_, pss_cons (ps_set (i := 2) scDw.nd rfl (Or.inl rfl) (pe_lst pa_nil))
      (pss_cons (ps_for PassesOwn.never rfl (pi_range1 rfl mr (pa_cons pe_int pa_nil)) (pg_name (i := 3) scDw.nd rfl (Or.inl rfl))
        (pss_cons (ps_par (i := 4) (j := 5) rfl scDw.nd rfl rfl (by decide) rfl rfl (pa_cons (pe_call GD r2 rfl mD kD bD .nil pass0 (pa_cons (pv 0) (pa_cons (pe_op op_add (pe_callB call_len_seq (by rfl) D.ml boot_len (pa_cons (pe_ix ix_tup (pv 1) pe_int (fun _ _ => rfl)) pa_nil)) pe_int) pa_nil)))
            (pa_cons (pe_call GD r2 rfl mD kD bD .nil pass0 (pa_cons (pv 0) (pa_cons (pe_op op_add (pe_ix ix_tup (pv 1) pe_int (fun _ _ => rfl)) pe_int) pa_nil))) pa_nil)) (by rfl))
        (pss_one (ps_expr (pe_bm PySem.F.plainAttrs_list PySem.F.slot_list_append PySem.F.type_list_append mt_append (pv 2) (pa_cons (pe_call GP hr rfl mP kP bP .nil pass0 (pa_cons (pv 0) (pa_cons (pe_lst (pa_cons (pe_tup (pa_cons pe_str (pa_cons (pv 4) pa_nil))) (pa_cons (pe_tup (pa_cons pe_str (pa_cons (pv 5) pa_nil))) pa_nil))) pa_nil))) pa_nil))))))
      (pss_cons (ps_set (i := 6) scDw.nd rfl (Or.inl rfl) (pe_lst pa_nil))
      (pss_cons (ps_for PassesOwn.never rfl (pi_range1 rfl mr (pa_cons (pe_call GD r2 rfl mD kD bD .nil pass0 (pa_cons (pv 0) (pa_cons pe_int pa_nil))) pa_nil)) (pg_name (i := 3) scDw.nd rfl (Or.inl rfl))
        (pss_cons (ps_set (i := 7) scDw.nd rfl (Or.inl rfl) (pe_callB cr_sorted (by rfl) mso (by decide +kernel) (pa_cons (pe_lc (own := [("turn", 12)]) (g := gName 12) rfl scDw.nd (pi_range1 rfl mr (pa_cons (pe_call GD r2 rfl mD kD bD .nil pass0 (pa_cons (pv 0) (pa_cons pe_int pa_nil))) pa_nil))
              (blkOk_by (own := [("turn", 12)]) (N := nDr) (sc := defScope sDrawn) (by decide +kernel)) (fun _ _ _ _ _ => pg_name (i := 12) scDw.nd rfl (Or.inl rfl)) (fun _ _ _ _ _ => pts_nil) (fun _ _ _ _ _ => pe_call GD r2 rfl mD kD bD .nil pass0 (pa_cons (pv 0) (pa_cons pe_int pa_nil)))) pa_nil)))
        (pss_cons (ps_set (i := 8) scDw.nd rfl (Or.inl rfl) (pe_call GP hr rfl mP kP bP .nil pass0 (pa_cons (pv 0) (pa_cons (pe_lst (pa_cons (pe_call GD r2 rfl mD kD bD .nil pass0 (pa_cons (pv 0) (pa_cons pe_int pa_nil))) (pa_cons (pe_call GD r2 rfl mD kD bD .nil pass0 (pa_cons (pv 0) (pa_cons pe_int pa_nil)))
            (pa_cons (pe_op op_sub (pe_op op_pow pe_int pe_int) pe_int) (pa_cons (pe_op op_pow pe_int pe_int) pa_nil))))) pa_nil))))
        (pss_one (ps_expr (pe_bm PySem.F.plainAttrs_list PySem.F.slot_list_append PySem.F.type_list_append mt_append (pv 6) (pa_cons (pe_tup (pa_cons (pe_tup (pa_cons pe_str (pa_cons (pv 8) pa_nil))) (pa_cons (pe_callTy call_tuple_of (by rfl) D.mt (by decide +kernel)
            (pa_cons (pe_lc (own := [("number", 13)]) (g := gName 13) rfl scDw.nd (pi_list (pv 7)) (blkOk_by (own := [("number", 13)]) (N := nDr) (sc := defScope sDrawn) (by decide +kernel)) (fun _ _ _ _ _ => pg_name (i := 13) scDw.nd rfl (Or.inl rfl)) (fun _ _ _ _ _ => pts_nil)
              (fun _ _ _ _ _ => pe_tup (pa_cons pe_str (pa_cons (pv 13) pa_nil)))) pa_nil)) pa_nil))) pa_nil)))))))
      (pss_cons (ps_set (i := 9) scDw.nd rfl (Or.inl rfl) (pe_callTy call_tuple_of (by rfl) D.mt (by decide +kernel) (pa_cons (pe_lc (own := [("lap", 3)]) (g := gName 3) rfl scDw.nd
            (pi_range1 rfl mr (pa_cons (pe_op op_add (pe_callB call_len_seq (by rfl) D.ml boot_len (pa_cons (pe_ix ix_tup (pv 1) pe_int (fun _ _ => rfl)) pa_nil)) (pe_call GP hr rfl mP kP bP .nil pass0 (pa_cons (pv 0) (pa_cons (pe_lst (pa_cons pe_int (pa_cons pe_int (pa_cons pe_int (pa_cons pe_int pa_nil))))) pa_nil)))) pa_nil))
            (blkOk_by (own := [("lap", 3)]) (N := nDr) (sc := defScope sDrawn) (by decide +kernel)) (fun _ _ _ _ _ => pg_name (i := 3) scDw.nd rfl (Or.inl rfl)) (fun _ _ _ _ _ => pts_nil) (fun _ _ _ _ _ => pe_call GD r2 rfl mD kD bD .nil pass0 (pa_cons (pv 0) (pa_cons pe_int pa_nil)))) pa_nil)))
      (pss_cons (ps_set (i := 9) scDw.nd rfl (Or.inl rfl) (pe_op op_cat2 (pe_tup (pa_cons (pe_call GP hr rfl mP kP bP .nil pass0 (pa_cons (pv 0) (pa_cons (pe_lst (pa_cons pe_int (pa_cons pe_int (pa_cons (pe_op op_sub (pe_op op_pow pe_int pe_int) pe_int) (pa_cons (pe_op op_pow pe_int pe_int) pa_nil))))) pa_nil))) pa_nil)) (pe_slice sl_tup2 (pv 9) (po_some pe_int) po_none)))
      (pss_cons (ps_set (i := 10) scDw.nd rfl (Or.inl rfl) (pe_tup (pa_cons pe_str (pa_cons (pe_call GP hr rfl mP kP bP .nil pass0 (pa_cons (pv 0) (pa_cons (pe_lst (pa_cons pe_int (pa_cons pe_int (pa_cons (pe_op op_sub (pe_op op_pow pe_int pe_int) pe_int) (pa_cons (pe_op op_pow pe_int pe_int) pa_nil))))) pa_nil))) pa_nil))))
      (pss_cons (ps_set (i := 11) scDw.nd rfl (Or.inl rfl) (pe_lst (pa_cons (pe_tup (pa_cons pe_str (pa_cons (pv 10) (pa_cons (pe_callTy call_tuple_of (by rfl) D.mt (by decide +kernel) (pa_cons (pv 6) pa_nil)) pa_nil)))) (pa_cons (pe_tup (pa_cons pe_str (pa_cons (pv 10) pa_nil)))
          (pa_cons (pe_tup (pa_cons pe_str (pa_cons (pe_callTy call_tuple_of (by rfl) D.mt (by decide +kernel) (pa_cons (pv 6) pa_nil)) pa_nil))) (pa_cons (pe_tup (pa_cons pe_str (pa_cons (pv 9) pa_nil))) pa_nil))))))
      (pss_one (ps_ret (pe_tup (pa_cons (pe_ix ix_seq (pv 2) pe_int (fun _ _ => rfl)) (pa_cons (pe_ix ix_seq (pv 2) pe_int (fun _ _ => rfl)) (pa_cons (pe_call GP hr rfl mP kP bP .nil pass0 (pa_cons (pv 0) (pa_cons (pv 11) pa_nil))) pa_nil))))))))))))), ?_⟩
    obtain ⟨ab, xb, bs, mi, li, rfl, nab, nxb, hab, hxb, okb⟩ := id hb
    obtain ⟨lbs, mi0, mi13⟩ := okBk_bounds okb
    -- ends
    refine ⟨(by show 0 ≤ sizeLine; exact Nat.zero_le _), fun E hE => ?_⟩
    have nE := S.nd E hE
    have eC : c ≠ E := fun q => by
      obtain ⟨cs, hcs, _⟩ := S.ce
      rw [q, hE] at hcs
      cases hcs
    refine ⟨2, rfl, by decide, by decide, for_range (lo := 0) (fun i σ H1 => (∃ z3 z4 z5 : Option V, σ = [some (.ref d), some (.ref ab), some (.ref E), z3, z4, z5, none, none, none, none, none, none, none, none]) ∧
        (∃ xs, H1 E = some (.lst xs) ∧ xs.length = i ∧ ∀ x ∈ xs, PV 20 2 (Ne d g E) H1 x) ∧ Kp d g H H1 ∧ StA H1 d g c (T + 3 * (i : Int)))
      ⟨⟨_, _, _, rfl⟩, ⟨[], upd_same, rfl, fun x hx => nomatch hx⟩, Kp.new hE, (S.new hE).mono (by omega)⟩ ?_ ?_⟩
    · rintro i σ H1 hi ⟨⟨z3, z4, z5, rfl⟩, ⟨xs, hx, lx, qx⟩, kx, Sx⟩
      have hi2 : (i : Int) < 2 := by have : i < 2 := hi; omega
      refine ⟨_, rfl, _, rfl, ab, _, 0, _, rfl, rfl, SqT.of (kx _ _ hab nab.1 nab.2), atI_nat (j := 0) rfl, xb, _, rfl, .inr (SqT.of (kx _ _ hxb nxb.1 nxb.2)), _, _, rfl, rfl, ?_⟩
      refine ⟨d, g, c, _, _, rfl, Sx, by show T + 3 * (i : Int) < 1000000000000; omega, by rw [List.length_map]; omega, by rw [List.length_map]; omega, fun o1 H2 _ _ k2 S2 => ?_⟩
      have k02 := kx.trans k2
      refine ⟨_, rfl, _, rfl, ab, _, 1, _, rfl, rfl, SqT.of (k02 _ _ hab nab.1 nab.2), atI_nat (j := 1) rfl, _, _, rfl, rfl, ?_⟩
      refine ⟨d, g, c, _, _, rfl, S2, by show T + 3 * (i : Int) + 1 < 1000000000000; omega, by omega, by omega, fun o2 H3 _ _ k3 S3 => ⟨_, _, rfl, ?_⟩⟩
      have k13 := k2.trans k3
      have hx3 := k13 _ _ hx nE.1 nE.2
      refine ⟨_, rfl, .inl ⟨rfl, _, SqL.of hx3⟩, _, rfl, _, rfl, (by show 2 ≤ sizeLine; decide), fun p1 hp1 => ⟨_, rfl, (by show 2 ≤ sizeLine; decide), fun p2 hp2 => ⟨(by show 2 ≤ sizeLine; decide), fun pl hpl => ?_⟩⟩⟩
      have s4 := (same_upd (o := .tup [.str "owner", .int o1]) hp1).trans ((same_upd (o := .tup [.str "member", .int o2]) hp2).trans (same_upd (o := .lst [.ref p1, .ref p2]) hpl))
      have S4 := S3.same s4
      have npl := (S3.same ((same_upd (o := .tup [.str "owner", .int o1]) hp1).trans (same_upd (o := .tup [.str "member", .int o2]) hp2))).nd pl hpl
      have np1 : Ne d g E p1 := ⟨S3.nd p1 hp1, fun e => by rw [e, hx3] at hp1; cases hp1⟩
      have np2 : Ne d g E p2 := ⟨(S3.same (same_upd (o := .tup [.str "owner", .int o1]) hp1)).nd p2 hp2, fun e => by rw [e, same_upd hp1 _ _ hx3] at hp2; cases hp2⟩
      have v1 : PV 20 2 (Ne d g E) (upd (upd (upd H3 p1 (.tup [.str "owner", .int o1])) p2 (.tup [.str "member", .int o2])) pl (.lst [.ref p1, .ref p2])) (.ref p1) := by
        refine .tup p1 _ (((same_upd hp2).trans (same_upd hpl)) _ _ upd_same) np1 (by show 2 ≤ 20; decide) fun y hy => ?_
        simp only [List.mem_cons, List.not_mem_nil, or_false] at hy
        rcases hy with rfl | rfl
        · exact .str _
        · exact .int _
      have v2 : PV 20 2 (Ne d g E) (upd (upd (upd H3 p1 (.tup [.str "owner", .int o1])) p2 (.tup [.str "member", .int o2])) pl (.lst [.ref p1, .ref p2])) (.ref p2) := by
        refine .tup p2 _ ((same_upd hpl) _ _ upd_same) np2 (by show 2 ≤ 20; decide) fun y hy => ?_
        simp only [List.mem_cons, List.not_mem_nil, or_false] at hy
        rcases hy with rfl | rfl
        · exact .str _
        · exact .int _
      refine ⟨d, g, c, pl, _, _, rfl, S4, by show T + 3 * (i : Int) + 1 + 1 < 1000000000000; omega, .inl (SqL.of upd_same), npl.1, npl.2, (by intro e; cases e), by show 2 ≤ 100000; decide, fun x H5 hx5 k5 S5 => ?_⟩
      have k15 := k13.trans ((Kp.of s4).trans k5)
      have vx : PV 20 2 (Ne d g E) H5 x := by
        simp only [List.mem_cons, List.not_mem_nil, or_false] at hx5
        rcases hx5 with rfl | rfl
        · exact pv_kpE k5 v1
        · exact pv_kpE k5 v2
      refine ⟨E, xs, x, rfl, rfl, k15 _ _ hx nE.1 nE.2, small1000 (by omega), ?_⟩
      refine ⟨⟨_, _, _, rfl⟩, ⟨xs ++ [x], upd_same, by rw [List.length_append, lx]; rfl, fun y hy => ?_⟩, (kx.trans k15).updNew hE, (S5.upd nE.1.symm nE.2.symm eC).mono (by push_cast; omega)⟩
      rcases List.mem_append.mp hy with hy | hy
      · exact pv_updE (pv_kpE k15 (qx y hy))
      · rw [List.mem_singleton.mp hy]
        exact pv_updE vx
    rintro σ H1 ⟨⟨z3, z4, z5, rfl⟩, ⟨xs, hx, lx, qx⟩, k1, S1⟩
    have S1 : StA H1 d g c (T + 6) := S1
    obtain ⟨x0, x1, rfl⟩ : ∃ x0 x1, xs = [x0, x1] := by
      match xs, lx with
      | [x0, x1], _ => exact ⟨x0, x1, rfl⟩
    have v0 : PV 20 2 (Nd d g) H1 x0 := pv_dropE (qx x0 (by simp))
    have v1 : PV 20 2 (Nd d g) H1 x1 := pv_dropE (qx x1 (by simp))
    clear qx
    -- items
    refine ⟨(by show 0 ≤ sizeLine; exact Nat.zero_le _), fun I hI => ?_⟩
    have nI := S1.nd I hI
    have iC : c ≠ I := fun q => by
      obtain ⟨cs, hcs, _⟩ := S1.ce
      rw [q, hI] at hcs
      cases hcs
    refine ⟨_, rfl, d, g, c, _, 4, rfl, S1.new hI, by show T + 6 < 1000000000000; omega, by decide, by decide, fun lapN H2 hl0 hl4 k2 S2 => ?_⟩
    refine ⟨_, rfl, by omega, by omega, ?_⟩
    have k12 : Kp d g H1 H2 := (Kp.new hI).trans k2
    refine for_range (lo := 0) (fun i σ H3 => (∃ z3 z4 z5 z7 z8 : Option V, σ = [some (.ref d), some (.ref ab), some (.ref E), z3, z4, z5, some (.ref I), z7, z8, none, none, none, none, none]) ∧
        (∃ xs, H3 I = some (.lst xs) ∧ xs.length = i ∧ ∀ x ∈ xs, PV 20 4 (Ne d g I) H3 x) ∧ Kp d g H1 H3 ∧ StA H3 d g c (T + 7 + 9 * (i : Int)))
      ⟨⟨_, _, _, _, _, rfl⟩, ⟨[], k2 _ _ upd_same nI.1 nI.2, rfl, fun x hx => nomatch hx⟩, k12, S2.mono (by omega)⟩ ?_ ?_
    · rintro i σ H3 hi ⟨⟨z3, z4, z5, z7, z8, rfl⟩, ⟨xs, hx, lx, qx⟩, kx, Sx⟩
      have hi4 : (i : Int) < 4 := by omega
      -- numbers
      refine ⟨_, rfl, d, g, c, _, 6, rfl, Sx, by show T + 7 + 9 * (i : Int) < 1000000000000; omega, by decide, by decide, fun nn H4 hn0 hn6 k4 S4 => ?_⟩
      refine ⟨_, rfl, by omega, by omega, fun L hL => lc_range (lo := 0) (fun j H' => ∃ ns : List Int, H' L = some (.lst (ns.map V.int)) ∧ ns.length = j ∧ Kp d g H4 H' ∧ StA H' d g c (T + 8 + 9 * (i : Int) + (j : Int)))
        ⟨[], upd_same, rfl, Kp.new hL, (S4.new hL).mono (by omega)⟩ ?_ ?_⟩
      · rintro j H' hj ⟨ns, hLj, lj, kj, Sj⟩
        have hj6 : (j : Int) < 6 := by omega
        have nL := S4.nd L hL
        have cL : c ≠ L := fun q => by
          obtain ⟨cs, hcs, _⟩ := S4.ce
          rw [q, hL] at hcs
          cases hcs
        refine ⟨rfl, ?_⟩
        dsimp only [tYes]
        refine iteT ?_
        refine ⟨_, rfl, d, g, c, _, 30, rfl, Sj, by show T + 8 + 9 * (i : Int) + (j : Int) < 1000000000000; omega, by decide, by decide, fun r H5 _ _ k5 S5 => ?_⟩
        refine ⟨_, k5 _ _ hLj nL.1 nL.2, by rw [List.length_map]; exact small1000 (by omega), ns ++ [r], by rw [upd_same, List.map_append]; rfl, by rw [List.length_append, lj]; rfl, (kj.trans k5).updNew hL, (S5.upd nL.1.symm nL.2.symm cL).mono (by push_cast; omega)⟩
      rintro H6 ⟨ns, hL6, ln, k6, S6⟩
      refine ⟨L, ns, rfl, SqL.of hL6, by omega, fun ns' pS perm _ hpS => ?_⟩
      have lns : ns'.length ≤ 5 := by rw [perm.length_eq]; omega
      have S7 := (S6.new (o := .lst (ns'.map V.int)) hpS).mono (T' := T + 8 + 9 * (i : Int) + 5) (by omega)
      have k7 : Kp d g H3 (upd H6 pS (.lst (ns'.map V.int))) := k4.trans (k6.trans (Kp.new hpS))
      have nS := S6.nd pS hpS
      have hS7 : (upd H6 pS (.lst (ns'.map V.int))) pS = some (.lst (ns'.map V.int)) := upd_same
      generalize upd H6 pS (.lst (ns'.map V.int)) = H7 at *
      -- far
      refine ⟨_, rfl, _, rfl, d, g, c, _, 9, rfl, S7, by show T + 8 + 9 * (i : Int) + 5 < 1000000000000; omega, by decide, by decide, fun f1 H8 _ _ k8 S8 => ?_⟩
      refine ⟨_, rfl, d, g, c, _, 9, rfl, S8, by show T + 8 + 9 * (i : Int) + 5 + 1 < 1000000000000; omega, by decide, by decide, fun f2 H9 _ _ k9 S9 => ?_⟩
      refine ⟨10, 18, rfl, rfl, ⟨by decide, by decide, by decide⟩, _, _, rfl, rfl, 10, 18, rfl, rfl, ⟨by decide, by decide, by decide⟩, (by show 4 ≤ sizeLine; decide), fun pl hpl => ?_⟩
      have npl := S9.nd pl hpl
      refine ⟨d, g, c, pl, _, _, rfl, S9.new hpl, by show T + 8 + 9 * (i : Int) + 5 + 1 + 1 < 1000000000000; omega, .inl (SqL.of upd_same), npl.1, npl.2, (by intro e; cases e), by show 4 ≤ 100000; decide, fun x H10 hx10 k10 S10 => ?_⟩
      obtain ⟨far, rfl⟩ : ∃ z, x = V.int z := by
        simp only [List.mem_cons, List.not_mem_nil, or_false] at hx10
        rcases hx10 with e | e | e | e
        · exact ⟨_, e⟩
        · exact ⟨_, e⟩
        · exact ⟨_, e⟩
        · exact ⟨_, e⟩
      have k7T := k8.trans (k9.trans ((Kp.new hpl).trans k10))
      have k3T := k7.trans k7T
      have hI10 := k3T _ _ hx nI.1 nI.2
      have hS10 := k7T _ _ hS7 nS.1 nS.2
      -- append
      refine ⟨_, rfl, .inl ⟨rfl, _, SqL.of hI10⟩, _, rfl, (by show 2 ≤ sizeLine; decide), fun p1 hp1 => ?_⟩
      have s11 := same_upd (o := .tup [.str "name", .int far]) hp1
      have np1 : Ne d g I p1 := ⟨S10.nd p1 hp1, fun e => by rw [e, hI10] at hp1; cases hp1⟩
      have h11 : (upd H10 p1 (.tup [.str "name", .int far])) p1 = some (.tup [.str "name", .int far]) := upd_same
      have S11 := S10.same s11
      generalize upd H10 p1 (.tup [.str "name", .int far]) = H11 at *
      have hI11 := s11 _ _ hI10
      refine ⟨_, rfl, pS, rfl, ⟨_, SqL.of (s11 _ _ hS10)⟩, fun L2 hL2 => lc_list (K := K) (a := pS) (xs := ns'.map V.int) (fun t H' => ∃ ys, H' L2 = some (.lst ys) ∧ ys.length = t ∧ (∀ y ∈ ys, PV 20 2 (fun a => Ne d g I a ∧ a ≠ L2) H' y) ∧ Same H11 H')
        ⟨[], upd_same, rfl, (fun y hy => nomatch hy), same_upd hL2⟩ (fun t H' _ ⟨_, _, _, _, e⟩ => SqL.of (e _ _ (s11 _ _ hS10))) ?_ ?_⟩
      · rintro t y H' hty ⟨ys, hLt, lt, qt, sT⟩
        have ht : t < (ns'.map V.int).length := (List.getElem?_eq_some_iff.mp hty).1
        rw [List.length_map] at ht
        obtain ⟨z, _, rfl⟩ := int_at hty
        refine ⟨rfl, ?_⟩
        dsimp only [tYes]
        refine iteT ?_
        refine ⟨_, rfl, (by show 2 ≤ sizeLine; decide), fun p hp => ?_⟩
        have sp := same_upd (o := .tup [.str "name", .int z]) hp
        refine ⟨ys, sp _ _ hLt, small1000 (by omega), ys ++ [.ref p], upd_same, by rw [List.length_append, lt]; rfl, fun y hy => ?_, fun b o hb => ?_⟩
        · have dropL : ∀ {v : V}, PV 20 2 (fun a => Ne d g I a ∧ a ≠ L2) (upd H' p (.tup [.str "name", .int z])) v → PV 20 2 (fun a => Ne d g I a ∧ a ≠ L2) (upd (upd H' p (.tup [.str "name", .int z])) L2 (.lst (ys ++ [.ref p]))) v :=
            fun h => PV.mon 20 2 _ _ _ _ _ (fun a o n e => ⟨n, by rw [upd_ne n.2]; exact e⟩) h
          rcases List.mem_append.mp hy with hy | hy
          · exact dropL ((PV.mon 20 2).same sp (qt y hy))
          · rw [List.mem_singleton.mp hy]
            refine dropL (.tup p _ upd_same ⟨⟨(S11.same sT).nd p hp, fun e => by rw [e, sT _ _ hI11] at hp; cases hp⟩, fun e => by rw [e, hLt] at hp; cases hp⟩ (by show 2 ≤ 20; decide) fun y hy => ?_)
            simp only [List.mem_cons, List.not_mem_nil, or_false] at hy
            rcases hy with rfl | rfl
            · exact .str _
            · exact .int _
        · have nb : b ≠ L2 := ne_of_none hb hL2
          rw [upd_ne nb]
          exact sp _ _ (sT b o hb)
      rintro H12 ⟨ys, hL12, ly, qy, s12⟩
      rw [List.length_map] at ly
      refine ⟨L2, ys, rfl, .inl ⟨SqL.of hL12, fun pT hpT => ⟨(by show 2 ≤ sizeLine; decide), fun p2 hp2 => ?_⟩⟩⟩
      have s13 := same_upd (o := .tup ys) hpT
      have s14 := same_upd (o := .tup [.ref p1, .ref pT]) hp2
      have S12 := S11.same s12
      have npT : Ne d g I pT := ⟨S12.nd pT hpT, fun e => by rw [e, s12 _ _ hI11] at hpT; cases hpT⟩
      have np2 : Ne d g I p2 := ⟨(S12.same s13).nd p2 hp2, fun e => by rw [e, s13 _ _ (s12 _ _ hI11)] at hp2; cases hp2⟩
      have s24 := s12.trans (s13.trans s14)
      have vp : PV 20 4 (Ne d g I) (upd (upd H12 pT (.tup ys)) p2 (.tup [.ref p1, .ref pT])) (.ref p2) := by
        refine .tup p2 _ upd_same np2 (by show 2 ≤ 20; decide) fun y hy => ?_
        simp only [List.mem_cons, List.not_mem_nil, or_false] at hy
        rcases hy with rfl | rfl
        · refine .tup p1 _ (s24 _ _ h11) np1 (by show 2 ≤ 20; decide) fun y hy => ?_
          simp only [List.mem_cons, List.not_mem_nil, or_false] at hy
          rcases hy with rfl | rfl
          · exact .str _
          · exact .int _
        · refine .tup pT _ (s14 _ _ upd_same) npT (by omega) fun y hy => ?_
          exact PV.mon 20 2 _ _ _ _ _ (fun a o n e => ⟨n.1, (s13.trans s14) _ _ e⟩) (qy y hy)
      have kF : Kp d g H3 (upd (upd H12 pT (.tup ys)) p2 (.tup [.ref p1, .ref pT])) := k3T.trans (Kp.of (s11.trans s24))
      refine ⟨I, xs, _, rfl, rfl, s24 _ _ hI11, small1000 (by omega), ?_⟩
      refine ⟨⟨_, _, _, _, _, rfl⟩, ⟨xs ++ [.ref p2], upd_same, by rw [List.length_append, lx]; rfl, fun y hy => ?_⟩, (kx.trans kF).updNew hI, ((S11.same s24).upd nI.1.symm nI.2.symm iC).mono (by push_cast; omega)⟩
      rcases List.mem_append.mp hy with hy | hy
      · exact pv_updE (pv_kpE kF (qx y hy))
      · rw [List.mem_singleton.mp hy]
        exact pv_updE vp
    rintro σ H3 ⟨⟨z3, z4, z5, z7, z8, rfl⟩, ⟨its, hi3, li3, qi3⟩, k13, S3'⟩
    have S3 := S3'.mono (T' := T + 34) (by omega)
    have vits : ∀ x ∈ its, PV 20 4 (Nd d g) H3 x := fun x hx => pv_dropE (qi3 x hx)
    have lits : its.length ≤ 3 := by omega
    have k03 : Kp d g H H3 := k1.trans k13
    have hE3 : H3 E = some (.lst [x0, x1]) := k13 _ _ hx nE.1 nE.2
    have vx0 : PV 20 2 (Nd d g) H3 x0 := (PV.mon 20 2).kp k13 v0
    have vx1 : PV 20 2 (Nd d g) H3 x1 := (PV.mon 20 2).kp k13 v1
    clear qi3 v0 v1 hx k13 k12 S3' S2 k2
    -- row
    refine ⟨_, rfl, ab, _, 0, _, rfl, rfl, SqT.of (k03 _ _ hab nab.1 nab.2), atI_nat (j := 0) rfl, xb, _, rfl, .inr (SqT.of (k03 _ _ hxb nxb.1 nxb.2)), _, rfl, (by show 4 ≤ sizeLine; decide), fun pl hpl => ?_⟩
    have npl := S3.nd pl hpl
    refine ⟨d, g, c, pl, _, _, rfl, S3.new hpl, by show T + 34 < 1000000000000; omega, .inl (SqL.of upd_same), npl.1, npl.2, (by intro e; cases e), by show 4 ≤ 100000; decide, fun x H4 hx4 k4 S4 => ?_⟩
    obtain ⟨e4, rfl, e0, e1⟩ : ∃ z, x = V.int z ∧ 0 ≤ z ∧ z ≤ 1 := by
      simp only [List.mem_cons, List.not_mem_nil, or_false] at hx4
      rcases hx4 with e | e | e | e
      · exact ⟨_, e, by decide, by decide⟩
      · exact ⟨_, e, by decide, by decide⟩
      · exact ⟨_, e, by decide, by decide⟩
      · exact ⟨_, e, by decide, by decide⟩
    have k34 : Kp d g H3 H4 := (Kp.new hpl).trans k4
    refine ⟨_, _, rfl, rfl, _, rfl, by rw [List.length_map]; omega, by rw [List.length_map]; omega, fun L hL => lc_range (lo := 0) (fun j H' => ∃ ns : List Int, H' L = some (.lst (ns.map V.int)) ∧ ns.length = j ∧ Kp d g H4 H' ∧ StA H' d g c (T + 35 + (j : Int)))
      ⟨[], upd_same, rfl, Kp.new hL, (S4.new hL).mono (by omega)⟩ ?_ ?_⟩
    · rintro j H' hj ⟨ns, hLj, lj, kj, Sj⟩
      have hj9 : (j : Int) < 9 := by rw [List.length_map] at hj; omega
      have nL := S4.nd L hL
      have cL : c ≠ L := fun q => by
        obtain ⟨cs, hcs, _⟩ := S4.ce
        rw [q, hL] at hcs
        cases hcs
      refine ⟨rfl, ?_⟩
      dsimp only [tYes]
      refine iteT ?_
      refine ⟨_, rfl, d, g, c, _, 5, rfl, Sj, by show T + 35 + (j : Int) < 1000000000000; omega, by decide, by decide, fun r H5 _ _ k5 S5 => ?_⟩
      refine ⟨_, k5 _ _ hLj nL.1 nL.2, by rw [List.length_map]; exact small1000 (by omega), ns ++ [r], by rw [upd_same, List.map_append]; rfl, by rw [List.length_append, lj]; rfl, (kj.trans k5).updNew hL, (S5.upd nL.1.symm nL.2.symm cL).mono (by push_cast; omega)⟩
    rintro H5 ⟨ns, hL5, ln, k5, S5'⟩
    rw [List.length_map] at ln
    have lns : ns.length ≤ 9 := by omega
    refine ⟨L, _, rfl, .inl ⟨SqL.of hL5, fun pr hpr => ?_⟩⟩
    have S6 := (S5'.new (o := .tup (ns.map V.int)) hpr).mono (T' := T + 44) (by rw [List.length_map]; omega)
    have tR : TupV (Nd d g) (upd H5 pr (.tup (ns.map V.int))) (.ref pr) (ns.map V.int) := ⟨pr, rfl, S5'.nd pr hpr, upd_same⟩
    have k36 : Kp d g H3 (upd H5 pr (.tup (ns.map V.int))) := k34.trans (k5.trans (Kp.new hpr))
    generalize upd H5 pr (.tup (ns.map V.int)) = H6 at *
    -- row, its first number exchanged
    refine ⟨_, rfl, 10, 18, rfl, rfl, ⟨by decide, by decide, by decide⟩, _, _, rfl, rfl, 10, 18, rfl, rfl, ⟨by decide, by decide, by decide⟩, (by show 4 ≤ sizeLine; decide), fun pm hpm => ?_⟩
    have npm := S6.nd pm hpm
    refine ⟨d, g, c, pm, _, _, rfl, S6.new hpm, by show T + 44 < 1000000000000; omega, .inl (SqL.of upd_same), npm.1, npm.2, (by intro e; cases e), by show 4 ≤ 100000; decide, fun x H7 hx7 k7 S7 => ?_⟩
    obtain ⟨r0, rfl⟩ : ∃ z, x = V.int z := by
      simp only [List.mem_cons, List.not_mem_nil, or_false] at hx7
      rcases hx7 with e | e | e | e
      · exact ⟨_, e⟩
      · exact ⟨_, e⟩
      · exact ⟨_, e⟩
      · exact ⟨_, e⟩
    have k67 : Kp d g H6 H7 := (Kp.new hpm).trans k7
    refine ⟨(by show 1 ≤ sizeLine; decide), fun pq hpq => ?_⟩
    have S8 := S7.new (o := .tup [.int r0]) hpq
    have tQ : TupV (Nd d g) (upd H7 pq (.tup [.int r0])) (.ref pq) [.int r0] := ⟨pq, rfl, S7.nd pq hpq, upd_same⟩
    refine ⟨_, rfl, _, rfl, Nd d g, _, S8.nd, (tR.kp k67).same (same_upd hpq), fun vs1 H9 s9 t9 => ?_⟩
    refine ⟨Nd d g, _, _, (S8.same s9).nd, tQ.same s9, t9, by have := cut_len (xs := ns.map V.int) (lo := some 1) (hi := none); rw [List.length_map] at this; show 1 + _ ≤ 100000; omega, fun vr H10 s10 t10 => ?_⟩
    have S10 := (S8.same s9).same s10
    have k610 : Kp d g H6 H10 := k67.trans (Kp.of ((same_upd hpq).trans (s9.trans s10)))
    have vrow : PV 20 2 (Nd d g) H10 vr := by
      refine t10.pv ?_ fun y hy => ?_
      · rw [List.length_append]
        have := cut_len (xs := ns.map V.int) (lo := some 1) (hi := none)
        rw [List.length_map] at this
        show 1 + _ ≤ 20
        omega
      · rcases List.mem_append.mp hy with hy | hy
        · rw [List.mem_singleton.mp hy]; exact .int _
        · obtain ⟨z, _, rfl⟩ := List.mem_map.mp (mem_cut hy)
          exact .int z
    clear t9 tQ tR t10
    -- name
    refine ⟨_, rfl, 10, 18, rfl, rfl, ⟨by decide, by decide, by decide⟩, _, _, rfl, rfl, 10, 18, rfl, rfl, ⟨by decide, by decide, by decide⟩, (by show 4 ≤ sizeLine; decide), fun pn hpn => ?_⟩
    have npn := S10.nd pn hpn
    refine ⟨d, g, c, pn, _, _, rfl, S10.new hpn, by show T + 44 + 1 < 1000000000000; omega, .inl (SqL.of upd_same), npn.1, npn.2, (by intro e; cases e), by show 4 ≤ 100000; decide, fun x H11 hx11 k11 S11 => ?_⟩
    obtain ⟨n0, rfl⟩ : ∃ z, x = V.int z := by
      simp only [List.mem_cons, List.not_mem_nil, or_false] at hx11
      rcases hx11 with e | e | e | e
      · exact ⟨_, e⟩
      · exact ⟨_, e⟩
      · exact ⟨_, e⟩
      · exact ⟨_, e⟩
    refine ⟨(by show 2 ≤ sizeLine; decide), fun po hpo => ?_⟩
    have s12 := same_upd (o := .tup [.str "name", .int n0]) hpo
    have S12 := S11.same s12
    have k1012 : Kp d g H10 (upd H11 po (.tup [.str "name", .int n0])) := (Kp.new hpn).trans (k11.trans (Kp.of s12))
    have vname : PV 20 2 (Nd d g) (upd H11 po (.tup [.str "name", .int n0])) (.ref po) := by
      refine .tup po _ upd_same (S11.nd po hpo) (by show 2 ≤ 20; decide) fun y hy => ?_
      simp only [List.mem_cons, List.not_mem_nil, or_false] at hy
      rcases hy with rfl | rfl
      · exact .str _
      · exact .int _
    have k312 : Kp d g H3 (upd H11 po (.tup [.str "name", .int n0])) := k36.trans (k610.trans k1012)
    have vrow := (PV.mon 20 2).kp k1012 vrow
    generalize upd H11 po (.tup [.str "name", .int n0]) = H12 at *
    have hI12 := k312 _ _ hi3 nI.1 nI.2
    have vits12 : ∀ x ∈ its, PV 20 4 (Nd d g) H12 x := fun x hx => (PV.mon 20 4).kp k312 (vits x hx)
    -- some
    refine ⟨_, rfl, _, rfl, I, its, rfl, .inl ⟨SqL.of hI12, fun pa hpa => ⟨(by show 3 ≤ sizeLine; decide), fun pb hpb => ?_⟩⟩⟩
    have sa := (same_upd (o := .tup its) hpa).trans (same_upd (o := .tup [.str "ask", .ref po, .ref pa]) hpb)
    have Sa := S12.same sa
    have npa := S12.nd pa hpa
    have npb := (S12.same (same_upd (o := .tup its) hpa)).nd pb hpb
    have m5 := PV.mon 20 5
    have va : PV 20 6 (Nd d g) (upd (upd H12 pa (.tup its)) pb (.tup [.str "ask", .ref po, .ref pa])) (.ref pb) := by
      refine .tup pb _ upd_same npb (by show 3 ≤ 20; decide) fun y hy => ?_
      simp only [List.mem_cons, List.not_mem_nil, or_false] at hy
      rcases hy with rfl | rfl | rfl
      · exact .str _
      · exact m5.same sa (vname.ups (by decide))
      · exact .tup pa _ ((same_upd hpb) _ _ upd_same) npa (by omega) fun y hy => (PV.mon 20 4).same sa (vits12 y hy)
    generalize upd (upd H12 pa (.tup its)) pb (.tup [.str "ask", .ref po, .ref pa]) = H13 at *
    refine ⟨_, rfl, (by show 2 ≤ sizeLine; decide), fun pc hpc => ?_⟩
    have sb := same_upd (o := .tup [.str "vote", .ref po]) hpc
    have Sb := Sa.same sb
    have vb : PV 20 6 (Nd d g) (upd H13 pc (.tup [.str "vote", .ref po])) (.ref pc) := by
      refine .tup pc _ upd_same (Sa.nd pc hpc) (by show 2 ≤ 20; decide) fun y hy => ?_
      simp only [List.mem_cons, List.not_mem_nil, or_false] at hy
      rcases hy with rfl | rfl
      · exact .str _
      · exact m5.same (sa.trans sb) (vname.ups (by decide))
    generalize upd H13 pc (.tup [.str "vote", .ref po]) = H14 at *
    refine ⟨_, rfl, I, its, rfl, .inl ⟨SqL.of (sb _ _ (sa _ _ hI12)), fun pe hpe => ⟨(by show 2 ≤ sizeLine; decide), fun pf hpf => ?_⟩⟩⟩
    have sc := (same_upd (o := .tup its) hpe).trans (same_upd (o := .tup [.str "tell", .ref pe]) hpf)
    have Sc := Sb.same sc
    have npe := Sb.nd pe hpe
    have npf := (Sb.same (same_upd (o := .tup its) hpe)).nd pf hpf
    have vc : PV 20 6 (Nd d g) (upd (upd H14 pe (.tup its)) pf (.tup [.str "tell", .ref pe])) (.ref pf) := by
      refine .tup pf _ upd_same npf (by show 2 ≤ 20; decide) fun y hy => ?_
      simp only [List.mem_cons, List.not_mem_nil, or_false] at hy
      rcases hy with rfl | rfl
      · exact .str _
      · exact .tup pe _ ((same_upd hpf) _ _ upd_same) npe (by omega) fun y hy => (PV.mon 20 4).same (sa.trans (sb.trans sc)) (vits12 y hy)
    generalize upd (upd H14 pe (.tup its)) pf (.tup [.str "tell", .ref pe]) = H15 at *
    refine ⟨_, rfl, (by show 2 ≤ sizeLine; decide), fun pg hpg => ?_⟩
    have sd := same_upd (o := .tup [.str "want", vr]) hpg
    have Sd := Sc.same sd
    have vd : PV 20 6 (Nd d g) (upd H15 pg (.tup [.str "want", vr])) (.ref pg) := by
      refine .tup pg _ upd_same (Sc.nd pg hpg) (by show 2 ≤ 20; decide) fun y hy => ?_
      simp only [List.mem_cons, List.not_mem_nil, or_false] at hy
      rcases hy with rfl | rfl
      · exact .str _
      · exact m5.same (sa.trans (sb.trans (sc.trans sd))) (vrow.ups (by decide))
    generalize upd H15 pg (.tup [.str "want", vr]) = H16 at *
    refine ⟨(by show 4 ≤ sizeLine; decide), fun ph hph => ?_⟩
    have se := same_upd (o := .lst [.ref pb, .ref pc, .ref pf, .ref pg]) hph
    have Se := Sd.same se
    have nph := Sd.nd ph hph
    have hph17 : (upd H16 ph (.lst [.ref pb, .ref pc, .ref pf, .ref pg])) ph = some (.lst [.ref pb, .ref pc, .ref pf, .ref pg]) := upd_same
    have m6 := PV.mon 20 6
    have all4 : ∀ y ∈ [V.ref pb, .ref pc, .ref pf, .ref pg], PV 20 6 (Nd d g) (upd H16 ph (.lst [.ref pb, .ref pc, .ref pf, .ref pg])) y := fun y hy => by
      simp only [List.mem_cons, List.not_mem_nil, or_false] at hy
      rcases hy with rfl | rfl | rfl | rfl
      · exact m6.same (sb.trans (sc.trans (sd.trans se))) va
      · exact m6.same (sc.trans (sd.trans se)) vb
      · exact m6.same (sd.trans se) vc
      · exact m6.same se vd
    generalize upd H16 ph (.lst [.ref pb, .ref pc, .ref pf, .ref pg]) = H17 at *
    -- the letter
    have k317 : Kp d g H3 H17 := k312.trans (Kp.of (sa.trans (sb.trans (sc.trans (sd.trans se)))))
    have hE17 := k317 _ _ hE3 nE.1 nE.2
    refine ⟨_, rfl, .inl ⟨E, [x0, x1], 0, x0, rfl, rfl, SqL.of hE17, atI_nat (j := 0) rfl, _, rfl, .inl ⟨E, [x0, x1], 1, x1, rfl, rfl, SqL.of hE17, atI_nat (j := 1) rfl, ?_⟩⟩⟩
    refine ⟨_, rfl, _, rfl, d, g, c, ph, _, _, rfl, Se, by show T + 44 + 1 + 1 < 1000000000000; omega, .inl (SqL.of hph17), nph.1, nph.2, (by intro e; cases e), by show 4 ≤ 100000; decide, fun x H18 hx18 k18 S18 => ?_⟩
    have vx := m6.kp k18 (all4 x hx18)
    refine ⟨(by show 3 ≤ sizeLine; decide), fun pz hpz => ?_⟩
    have sz := same_upd (o := .tup [x0, x1, x]) hpz
    refine k _ _ ⟨pz, _, rfl, S18.nd pz hpz, upd_same, rfl, fun y hy => ?_⟩ (k03.trans (k317.trans (k18.trans (Kp.of sz)))) ((S18.same sz).mono (by omega))
    simp only [List.mem_cons, List.not_mem_nil, or_false] at hy
    rcases hy with rfl | rfl | rfl
    · exact m6.same sz (m6.kp (k317.trans k18) (vx0.ups (by decide)))
    · exact m6.same sz (m6.kp (k317.trans k18) (vx1.ups (by decide)))
    · exact m6.same sz vx
end
end Pu

namespace Pu
open PySem L2 LamX
def Gd (P : Program) (w : World) (K : PySem.W.Frag) (mg : Str → Option Value) (base : Heap) (CX : CXT) (k : Nat) (x : Str) (ps : List Str) (sp : Sp) : Prop :=
  ∃ f fd, FnOk P w K mg base CX k f fd ps sp ∧ Binds K fd ps [] ∧ PySem.W.keepIn K (.ref f) = true ∧ mg x = some (.ref f)
def g2 : List Value → List Value → List Value := fun us ws => match us, ws with
  | [], [a, b] => [b, a]
  | _, _ => []
def gV2 : List V → List V → List V := fun us ws => match us, ws with
  | [], [a, b] => [b, a]
  | _, _ => []
theorem kb2 {K : PySem.W.Frag} {fd : FuncData} {p q : Str} (h : ∀ a b : Value, bindArgs fd ⟨[], [(p, a), (q, b)]⟩ = pure [(q, b), (p, a)]) : KBinds K fd [q, p] [p, q] g2 gV2 where
  to := fun s us ws _ hl => by
    match us, ws, hl with
    | [], [a, b], _ => exact .of_eq (h a b)
  rel := fun {vs us zs ws} r q => by
    cases r with
    | nil =>
      cases q with
      | nil => exact .nil
      | cons r1 q =>
        cases q with
        | nil => exact .nil
        | cons r2 q =>
          cases q with
          | nil => exact .cons r2 (.cons r1 .nil)
          | cons _ _ => exact .nil
    | cons _ _ =>
      cases q with
      | nil => exact .nil
      | cons _ q =>
        cases q with
        | nil => exact .nil
        | cons _ q => exact .nil
theorem BkV.uniq {H : Hp} {v : V} {n1 n2 : Nat} {m1 m2 : Int} (h : BkV H v n1 m1) (k : BkV H v n2 m2) : n1 = n2 ∧ m1 = m2 := by
  obtain ⟨a, x, ys, li, rfl, h1, h2, l1⟩ := h
  obtain ⟨a', x', ys', li', e, k1, k2, l2⟩ := k
  cases e
  rw [h1] at k1
  cases k1
  rw [h2] at k2
  cases k2
  exact ⟨l1.symm.trans l2, rfl⟩
theorem tupOf_mon {N : Addr → Prop} {H H' : Hp} {m n : Nat} {v : V} (h : PV m n N H v) (k : ∀ a o, N a → H a = some o → H' a = some o) : tupOf H' v = tupOf H v := by
  cases n with
  | zero => exact h.elim
  | succ n =>
    cases h with
    | non => rfl
    | bl b => rfl
    | int i => rfl
    | str z => rfl
    | tup a xs e x l q => rw [tupOf_at e, tupOf_at (k _ _ x e)]
    | lst a xs e x l q =>
      show (match H' a with | some (.tup xs) => some xs | _ => none) = (match H a with | some (.tup xs) => some xs | _ => none)
      rw [e, k _ _ x e]
    | dct a e x =>
      show (match H' a with | some (.tup xs) => some xs | _ => none) = (match H a with | some (.tup xs) => some xs | _ => none)
      rw [e, k _ _ x e]
theorem bank_mon {N : Addr → Prop} {H H' : Hp} {m n : Nat} {v : V} (h : PV m n N H v) (k : ∀ a o, N a → H a = some o → H' a = some o) : bankB H' v = bankB H v := by
  unfold bankB
  rw [tupOf_mon h k]
  by_cases t : tyN H v = "tuple"
  · obtain ⟨xs, j, rfl, ⟨a, rfl, _, ha⟩, _, hx⟩ := pv_tup h t
    rw [tupOf_at ha]
    match xs, hx with
    | [b, mm, l], hx =>
      show (begB H' b && numF l 0 && numF mm (3 * toI l + 1) && decide (toI mm ≤ 13)) = (begB H b && numF l 0 && numF mm (3 * toI l + 1) && decide (toI mm ≤ 13))
      unfold begB
      rw [tupOf_mon (hx b (by simp)) k]
    | [], _ => rfl
    | [_], _ => rfl
    | [_, _], _ => rfl
    | _ :: _ :: _ :: _ :: _, _ => rfl
  · rw [tupOf_no h t]
/-- no bank -/
def wrR : RV := fun N H v => PV 20 3 N H v ∧ bankB H v = false
theorem wrR.mon : Mon wrR := fun N N' H H' v k ⟨h1, h2⟩ => ⟨PV.mon 20 3 _ _ _ _ _ k h1, by rw [bank_mon h1 fun a o n e => (k a o n e).2]; exact h2⟩
theorem wr_at {N : Addr → Prop} {H : Hp} {a : Addr} {xs : List V} (h : H a = some (.tup xs)) (n : N a) (l : xs.length ≤ 20) (q : ∀ x ∈ xs, PV 20 2 N H x) (b : bankL H xs = false) : wrR N H (.ref a) :=
  ⟨.tup a xs h n l q, by unfold bankB; rw [tupOf_at h]; exact b⟩
section
variable {X : Cx}
/-- ((), 4, 1) -/
theorem n_wr0 {mi li : Int} {k1 k2 j1 j2 : Nat} {p1 p2 p3 p4 : Pos} : PE X (.Tuple [.Tuple [] k1 p1, .Constant (.int mi) j1 p2, .Constant (.int li) j2 p3] k2 p4) (TN wrR) :=
  pe_imp (pe_tup (pa_cons (pe_tup pa_nil) (pa_cons pe_int (pa_cons pe_int pa_nil)))) fun σ H Q q => ⟨(by show 0 ≤ sizeLine; exact Nat.zero_le _), fun p hp => ⟨(by show 3 ≤ sizeLine; decide), fun p' hp' => by
    have s1 := same_upd (o := .tup []) hp
    have s2 := same_upd (o := .tup [.ref p, .int mi, .int li]) hp'
    have hpp : (upd (upd H p (.tup [])) p' (.tup [.ref p, .int mi, .int li])) p = some (.tup []) := s2 _ _ upd_same
    refine q _ _ (s1.trans s2) (wr_at upd_same (s1.free hp') (by show 3 ≤ 20; decide) (fun y hy => ?_) ?_)
    · simp only [List.mem_cons, List.not_mem_nil, or_false] at hy
      rcases hy with rfl | rfl | rfl
      · exact .tup p [] hpp hp (Nat.zero_le _) fun y hy => nomatch hy
      · exact .int _
      · exact .int _
    · show (begB _ (.ref p) && numF (.int li) 0 && numF (.int mi) (3 * li + 1) && decide (mi ≤ 13)) = false
      unfold begB
      rw [tupOf_at hpp]
      rfl⟩⟩
/-- ((-1,), 4, 1) -/
theorem n_wr1 {z mi li : Int} {k1 k2 j0 j1 j2 : Nat} {p0 p1 p2 p3 p4 p5 : Pos} (hz : 0 < z) : PE X (.Tuple [.Tuple [.UnaryOp .USub (.Constant (.int z) j0 p0) p5] k1 p1, .Constant (.int mi) j1 p2, .Constant (.int li) j2 p3] k2 p4) (TN wrR) :=
  pe_imp (pe_tup (pa_cons (pe_tup (pa_cons (pe_un un_neg pe_int) pa_nil)) (pa_cons pe_int (pa_cons pe_int pa_nil)))) fun σ H Q q => ⟨z, rfl, (by show 1 ≤ sizeLine; decide), fun p hp => ⟨(by show 3 ≤ sizeLine; decide), fun p' hp' => by
    have s1 := same_upd (o := .tup [.int (-z)]) hp
    have s2 := same_upd (o := .tup [.ref p, .int mi, .int li]) hp'
    have hpp : (upd (upd H p (.tup [.int (-z)])) p' (.tup [.ref p, .int mi, .int li])) p = some (.tup [.int (-z)]) := s2 _ _ upd_same
    refine q _ _ (s1.trans s2) (wr_at upd_same (s1.free hp') (by show 3 ≤ 20; decide) (fun y hy => ?_) ?_)
    · simp only [List.mem_cons, List.not_mem_nil, or_false] at hy
      rcases hy with rfl | rfl | rfl
      · exact .tup p _ hpp hp (by show 1 ≤ 20; decide) fun y hy => by rw [List.mem_singleton.mp hy]; exact .int _
      · exact .int _
      · exact .int _
    · show (begB _ (.ref p) && numF (.int li) 0 && numF (.int mi) (3 * li + 1) && decide (mi ≤ 13)) = false
      unfold begB
      rw [tupOf_at hpp]
      have e : begL [.int (-z)] = false := by
        show (decide (1 ≤ 1) && decide (1 ≤ 8) && (numF (.int (-z)) 0 && true) && _) = false
        rw [numF_int, decide_eq_false (show ¬ 0 ≤ -z by omega), Bool.and_false]; rfl
      show (begL [.int (-z)] && numF (.int li) 0 && numF (.int mi) (3 * li + 1) && decide (mi ≤ 13)) = false
      rw [e]; rfl⟩⟩
end
def qLam : Str := (PyProof.Rows.envOfC "law" (defScope sLaw) 0 0 .none).qual ++ "<lambda>"
def spLaw (K : PySem.W.Frag) (Pt : Addr) : Sp := fun vs H Q _ => ∃ (a : Addr) (ns : List Int), vs = [.ref a] ∧ SqL K H a (ns.map V.int) ∧ ns.length ≤ 63 ∧ TabS H Pt qLam ∧ ∀ H', Q (.bl true) H'
structure Lw (P : Program) (w : World) (K : PySem.W.Frag) (mg : Str → Option Value) (base : Heap) (C PE0 : Addr) : Prop where
  dr : Dr P w K mg base
  begun : Gd P w K mg base CX0 1 "_law_begun" ["script"] (spBegun K)
  bank : Gd P w K mg base CX0 4 "_law_pu_bank" ["state"] spBankQ
  drawn : Gd P w K mg base CX0 4 "_law_le_drawn" ["state", "bank_here"] spDrawn
  bent7 : Gd P w K mg base CX0 12 "_law_pu_bent" ["state", "item"] (spBent 7)
  bent8 : Gd P w K mg base CX0 13 "_law_pu_bent" ["state", "item"] (spBent 8)
  own : Gd P w K mg base CX0 6 "_law_le_letter" ["bank_here", "item"] (spBD6 letterB)
  truth : Gd P w K mg base CX0 1 "_law_is_truth" ["found", "due"] spTruth
  isl : ∃ f fd, FnOk P w K mg base (L2.CX P w) 8 f fd ["bank", "value"] (spLetter C) ∧ Binds K fd ["bank", "value"] [] ∧ KBinds K fd ["bank", "value"] ["value", "bank"] g2 gV2 ∧ PySem.W.keepIn K (.ref f) = true ∧ mg "is_letter" = some (.ref f)
  er : Er K mg "BadBank" C
  xc : ExcC K C
  kit : PySem.W.kitOne K (.ref C) (.ref C) = some true
  pe : mg "PurseError" = some (.ref PE0)
  exm : PySem.W.exmOne K (.ref C) (.ref PE0) = some true
  mr : mg "range" = none
  mm : mg "min" = none
section
variable {P : Program} {w : World} {K : PySem.W.Frag} {mg : Str → Option Value} {base : Heap}
abbrev nL : List Str := ["script", "state", "turn", "bank_here", "bent", "item", "turned", "some", "letter", "wrong"]
theorem scL : FnScope nL ["script"] (defScope sLaw) := ⟨rfl, rfl, rfl, by decide +kernel, rfl, by decide +kernel, by decide +kernel⟩
theorem ok_law {f C PE0 c0 Pt fC : Addr} {od an odC anC : Option Addr} {oc dV kV doc pm ct ocC dVC kVC docC pmC cdC ctC : Value} {osl oslC : Array (Option Value)}
    (lk : K.lookup f = some ⟨oc, od, .func (PySem.W.fnOf "law" "law" (defArgs sLaw) (defBody sLaw) (defScope sLaw) dV kV doc pm an (.ref c0) ct), osl⟩) (hcd : PySem.W.codeIn K (.ref c0) "law" = true) (TB : TabB base mg c0 Pt) (W : Lw P w K mg base C PE0)
    (lC : K.lookup fC = some ⟨ocC, odC, .func (PySem.W.fnOf "_law_caught" "_law_caught" (defArgs sCaught) (defBody sCaught) (defScope sCaught) dVC kVC docC pmC anC cdC ctC), oslC⟩) (hC : PySem.W.codeIn K cdC "_law_caught" = true) (bC : Binds K (PySem.W.fnOf "_law_caught" "_law_caught" (defArgs sCaught) (defBody sCaught) (defScope sCaught) dVC kVC docC pmC anC cdC ctC) ["work"] [])
    (kC : PySem.W.keepIn K (.ref fC) = true) (mC : mg "_law_caught" = some (.ref fC)) :
    FnOk P w K mg base CX0 14 f (PySem.W.fnOf "law" "law" (defArgs sLaw) (defBody sLaw) (defScope sLaw) dV kV doc pm an (.ref c0) ct) ["script"] (spLaw K Pt) := by
  have D := W.dr
  obtain ⟨fB, fdB, GB, bB, kB, mB⟩ := W.begun
  obtain ⟨fA, fdA, GA, bA, kA, mA⟩ := W.bank
  obtain ⟨fW, fdW, GW, bW, kW, mW⟩ := W.drawn
  obtain ⟨f7, fd7, G7, b7, k7, m7⟩ := W.bent7
  obtain ⟨f8, fd8, G8, b8, k8, m8⟩ := W.bent8
  obtain ⟨fO, fdO, GO, bO, kO, mO⟩ := W.own
  obtain ⟨fT, fdT, GT, bT, kT, mT⟩ := W.truth
  obtain ⟨fN, fdN, GN, bN, kbN, kN, mN⟩ := W.isl
  obtain ⟨fP, fdP, GP, bP, kP, mP⟩ := D.pick
  refine fn_of lk hcd scL (fun vs H Q E h => ?_) (fun A outer s H vs Q E hr h => ?_)
  · obtain ⟨a, ns, rfl, _⟩ := h
    rfl
  · obtain ⟨a, ns, rfl, hS, hlen, hTab, k⟩ := h
    have r1 : Room 1 (A.deeper (PyProof.Rows.envOfC "law" (defScope sLaw) s.heap.objs.size f (.ref c0))) := hr.mono (by decide)
    have r3 : Room 3 (A.deeper (PyProof.Rows.envOfC "law" (defScope sLaw) s.heap.objs.size f (.ref c0))) := hr.mono (by decide)
    have r4 : Room 4 (A.deeper (PyProof.Rows.envOfC "law" (defScope sLaw) s.heap.objs.size f (.ref c0))) := hr.mono (by decide)
    have r6 : Room 6 (A.deeper (PyProof.Rows.envOfC "law" (defScope sLaw) s.heap.objs.size f (.ref c0))) := hr.mono (by decide)
    have r8 : Room 8 (A.deeper (PyProof.Rows.envOfC "law" (defScope sLaw) s.heap.objs.size f (.ref c0))) := hr.mono (by decide)
    have r10 : Room 10 (A.deeper (PyProof.Rows.envOfC "law" (defScope sLaw) s.heap.objs.size f (.ref c0))) := hr.mono (by decide)
    have r12 : Room 12 (A.deeper (PyProof.Rows.envOfC "law" (defScope sLaw) s.heap.objs.size f (.ref c0))) := hr.mono (by decide)
    suffices hz : ∃ t, PSs (cxOf CX0 P w K mg base nL "law" (defScope sLaw) f (.ref c0) A outer s H E).nox (defBody sLaw) t ∧ t { nx := fun _ H' => Q .non H', rt := Q } (L2.start nL [.ref a]) H by
      obtain ⟨t, h, q⟩ := hz
      exact ⟨t, h.nox, q⟩
    refine ⟨_, pss_cons (ps_set (i := 1) scL.nd rfl (Or.inl rfl) (pe_call GB r1 rfl mB kB bB .nil pass0 (pa_cons (pv 0) pa_nil)))
      (pss_cons (ps_for PassesOwn.never rfl (pi_range1 rfl W.mr (pa_cons (pe_op op_add pe_int (pe_callB (call_min2 rfl) (by rfl) W.mm (by decide +kernel) (pa_cons (pe_callB call_len_seq (by rfl) D.ml boot_len (pa_cons (pv 0) pa_nil)) (pa_cons pe_int pa_nil)))) pa_nil))
          (pg_name (i := 2) scL.nd rfl (Or.inl rfl))
        (pss_cons (ps_set (i := 3) scL.nd rfl (Or.inl rfl) (pe_call GA r4 rfl mA kA bA .nil pass0 (pa_cons (pv 1) pa_nil)))
        (pss_cons (ps_set (i := 8) scL.nd rfl (Or.inr rfl) (pe_call GW r4 rfl mW kW bW .nil pass0 (pa_cons (pv 1) (pa_cons (pv 3) pa_nil))))
        (pss_cons (ps_set (i := 4) scL.nd rfl (Or.inl rfl) (pe_call G7 r12 rfl m7 k7 b7 .nil pass0 (pa_cons (pv 1) (pa_cons (pv 8) pa_nil))))
        (pss_cons (ps_for PassesOwn.never rfl (pi_list (pe_lst (pa_cons (pv 8) (pa_cons (pv 4) (pa_cons (pe_call G7 r12 rfl m7 k7 b7 .nil pass0 (pa_cons (pv 1) (pa_cons (pv 8) pa_nil)))
              (pa_cons (pe_call G8 hr rfl m8 k8 b8 .nil pass0 (pa_cons (pv 1) (pa_cons (pv 4) pa_nil))) (pa_cons (pe_op op_cat2 (pe_slice sl_tup2 (pv 8) po_none (po_some pe_int)) (pv 8)) pa_nil))))))) (pg_name (i := 5) scL.nd rfl (Or.inl rfl))
            (pss_one (ps_if (pt_not (pt_val (pe_call GT r1 rfl mT kT bT .nil pass0 (pa_cons (pe_call GN r8 rfl mN kN bN .nil (passes_call L2.takes0 (fun _ _ _ _ h => h)) (pa_cons (pv 3) (pa_cons (pv 5) pa_nil))) (pa_cons (pe_call GO r6 rfl mO kO bO .nil pass0 (pa_cons (pv 3) (pa_cons (pv 5) pa_nil))) pa_nil))))) (pss_one (ps_ret pe_bl)) pss_nil)))
        (pss_cons (ps_set (i := 6) scL.nd rfl (Or.inl rfl) (pe_tup (pa_cons (pe_ix ix_tup (pv 8) pe_int (fun _ _ => rfl)) (pa_cons (pe_ix ix_tup (pv 8) pe_int (fun _ _ => rfl)) (pa_cons (pe_ix ix_tup (pv 8) pe_int (fun _ _ => rfl)) pa_nil)))))
        (pss_cons (ps_if (pt_not (pt_val (pe_call GT r1 rfl mT kT bT .nil pass0 (pa_cons (pe_callKw GN r8 rfl mN kN kbN (passes_call L2.takes0 (fun _ _ _ _ h => h)) (pk_cons (pv 6) (pk_cons (pv 3) pk_nil))) (pa_cons (pe_call GO r6 rfl mO kO bO .nil pass0 (pa_cons (pv 3) (pa_cons (pv 6) pa_nil))) pa_nil))))) (pss_one (ps_ret pe_bl)) pss_nil)
        (pss_cons (ps_set (i := 7) scL.nd rfl (Or.inl rfl) (pe_lst (pa_cons pe_non (pa_cons (pe_tup (pa_cons (pe_ix ix_tup (pv 3) pe_int (fun _ _ => rfl)) (pa_cons pe_int (pa_cons pe_int pa_nil)))) (pa_cons n_wr0
            (pa_cons (pe_callTy call_list_of (by rfl) D.mli (by decide +kernel) (pa_cons (pv 3) pa_nil)) (pa_cons (pe_slice sl_tup2 (pv 3) po_none (po_some pe_int)) (pa_cons (n_wr1 (by decide)) pa_nil))))))))
        (pss_cons (ps_set (i := 9) scL.nd rfl (Or.inr rfl) (pe_call GP r3 rfl mP kP bP .nil pass0 (pa_cons (pv 1) (pa_cons (pv 7) pa_nil))))
        (pss_one (ps_if (pt_not (pt_val (pe_callB call_isV (by rfl) D.ms (by decide +kernel)
            (pa_cons (pe_lamcall (T := [(Pt, qLam)]) (TT := TTc K PE0) (a := "work") (Ng := ["work", "caught", "error"]) rfl mC kC lC hC bC scCa rfl (Or.inl rfl) (caught_gives W.pe) TB rfl List.mem_cons_self (fun p hp _ => by rw [List.mem_singleton.mp hp]; rfl) r10 (lamS_by (by show lamSB (defScope sLaw) _ = true; decide +kernel)) rfl (fun _ _ _ _ _ => rfl)
                (fun A outer s H E f c' hr2 => pe_call GN hr2 rfl mN kN bN .nil (passes_call (takes_of rfl rfl rfl rfl) (fun _ _ _ _ h => h)) (pa_cons (pv 9) (pa_cons (pv 8) pa_nil))))
              (pa_cons (pe_glob (v := .ref C) rfl W.er.g rfl) pa_nil))))) (pss_one (ps_ret pe_bl)) pss_nil)))))))))))
      (pss_one (ps_ret pe_bl))), ?_⟩
    -- state
    refine ⟨_, rfl, a, ns, rfl, hS, by omega, fun d g c H1 s1 nd ng nc S1 => ?_⟩
    have t1 := hTab.ext s1
    refine ⟨_, rfl, a, _, rfl, .inl (s1.seq hS), _, _, rfl, 3, _, rfl, rfl, _, rfl, ?_, ?_, ?_⟩
    · rw [List.length_map]; split <;> omega
    · rw [List.length_map]; split <;> omega
    refine for_range (lo := 0) (fun i σ H2 => ∃ z2 z3 z4 z5 z6 z7 z8 z9 : Option V, σ = [some (.ref a), some (.ref d), z2, z3, z4, z5, z6, z7, z8, z9] ∧ StA H2 d g c (300 * (i : Int)) ∧ TabS H2 Pt qLam)
      ⟨_, _, _, _, _, _, _, _, rfl, S1.mono (by show (0 : Int) ≤ 300 * 0; decide), t1⟩ ?_ (fun σ H2 _ => k H2)
    rintro i σ H2 hi ⟨z2, z3, z4, z5, z6, z7, z8, z9, rfl, S2, t2⟩
    have hi8 : (i : Int) < 10 := by
      have q := hi
      rw [List.length_map] at q
      split at q <;> omega
    have m6 := PV.mon 20 6
    have m7 := PV.mon 20 7
    have m9 := PV.mon 22 9
    -- bank_here
    refine ⟨_, rfl, d, g, c, _, rfl, S2, by show 300 * (i : Int) < 1000000000000; omega, fun bk H3 hbk k3 S3 => ?_⟩
    have t3 := tab_kp S2 k3 t2
    -- letter
    refine ⟨_, rfl, _, rfl, d, g, c, _, bk, rfl, S3, by show 300 * (i : Int) + 1 + 100 < 1000000000000; omega, hbk, fun lt H4 hlt k4 S4 => ?_⟩
    have t4 := tab_kp S3 k4 t3
    obtain ⟨al, xl, rfl, nal, hal, lal, qal⟩ := hlt
    obtain ⟨e0, e1, bd, rfl⟩ : ∃ e0 e1 bd, xl = [e0, e1, bd] := by
      match xl, lal with
      | [x, y, z], _ => exact ⟨x, y, z, rfl⟩
    have vl : PV 20 7 (Nd d g) H4 (.ref al) := .tup al _ hal nal (by show 3 ≤ 20; decide) qal
    have hbk4 := bkR.mon.kp k4 hbk
    -- bent
    refine ⟨_, rfl, _, rfl, d, g, c, _, 20, 7, _, rfl, S4, by show 300 * (i : Int) + 1 + 100 + 5 * ((7 : Nat) : Int) < 1000000000000; omega, vl, by decide, by decide, Nat.le_refl 7, fun bt H5 hbt k5 S5 => ?_⟩
    have t5 := tab_kp S4 k5 t4
    -- for item in [..]
    refine ⟨_, rfl, _, rfl, _, rfl, _, rfl, d, g, c, _, 20, 7, _, rfl, S5, by show 300 * (i : Int) + 1 + 100 + 5 * ((7 : Nat) : Int) + 5 * ((7 : Nat) : Int) < 1000000000000; omega, m7.kp k5 vl, by decide, by decide, Nat.le_refl 7, fun b2 H6 hb2 k6 S6 => ?_⟩
    have t6 := tab_kp S5 k6 t5
    refine ⟨_, rfl, _, rfl, d, g, c, _, 21, 8, _, rfl, S6, by show 300 * (i : Int) + 1 + 100 + 5 * ((7 : Nat) : Int) + 5 * ((7 : Nat) : Int) + 5 * ((8 : Nat) : Int) < 1000000000000; omega, (PV.mon 21 8).kp k6 hbt, by decide, by decide, Nat.le_refl 8, fun b3 H7 hb3 k7 S7 => ?_⟩
    have t7 := tab_kp S6 k7 t6
    have k47 : Kp d g H4 H7 := k5.trans (k6.trans k7)
    have hal7 := k47 _ _ hal nal.1 nal.2
    have tl7 : TupV (Nd d g) H7 (.ref al) [e0, e1, bd] := ⟨al, rfl, nal, hal7⟩
    refine ⟨_, rfl, _, rfl, Nd d g, _, S7.nd, tl7, fun v8 H8 s8 t8 => ⟨_, rfl, Nd d g, _, _, (S7.same s8).nd, t8, tl7.same s8, ?_, fun v9 H9 s9 t9 => ⟨(by show 5 ≤ sizeLine; decide), fun pl hpl => ⟨pl, rfl, ⟨_, SqL.of upd_same⟩, ?_⟩⟩⟩⟩
    · have := cut_len (xs := [e0, e1, bd]) (lo := none) (hi := some 1)
      show _ + 3 ≤ 100000
      have e : [e0, e1, bd].length = 3 := rfl
      omega
    have S10 := ((S7.same s8).same s9).new (o := .lst [.ref al, bt, b2, b3, v9]) hpl
    have s710 : Same H7 (upd H9 pl (.lst [.ref al, bt, b2, b3, v9])) := s8.trans (s9.trans (same_upd hpl))
    have t10 := t7.ext s710
    have hp10 : (upd H9 pl (.lst [.ref al, bt, b2, b3, v9])) pl = some (.lst [.ref al, bt, b2, b3, v9]) := upd_same
    have q7 : ∀ x ∈ [e0, e1, bd], PV 20 6 (Nd d g) H7 x := fun x hx => m6.kp k47 (qal x hx)
    have all10 : ∀ x ∈ [V.ref al, bt, b2, b3, v9], PV 22 9 (Nd d g) (upd H9 pl (.lst [.ref al, bt, b2, b3, v9])) x := fun x hx => by
      simp only [List.mem_cons, List.not_mem_nil, or_false] at hx
      rcases hx with rfl | rfl | rfl | rfl | rfl
      · exact m9.same s710 (((m7.kp k47 vl).wide (by decide)).ups (by decide))
      · exact m9.same s710 ((((PV.mon 21 8).kp (k6.trans k7) hbt).wide (by decide)).ups (by decide))
      · exact m9.same s710 ((((PV.mon 21 8).kp k7 hb2).wide (by decide)).ups (by decide))
      · exact m9.same s710 hb3
      · refine PV.ups (n := 7) ?_ (by decide)
        have w9 : TupV (Nd d g) (upd H9 pl (.lst [.ref al, bt, b2, b3, x])) x (cutV [e0, e1, bd] none (some 1) ++ [e0, e1, bd]) := t9.same (same_upd hpl)
        refine w9.pv ?_ fun y hy => ?_
        · rw [List.length_append]
          have := cut_len (xs := [e0, e1, bd]) (lo := none) (hi := some 1)
          have e : [e0, e1, bd].length = 3 := rfl
          omega
        · rcases List.mem_append.mp hy with hy | hy
          · exact (m6.same s710 (q7 y (mem_cut hy))).wide (by decide)
          · exact (m6.same s710 (q7 y hy)).wide (by decide)
    have hbk10 : bkR (Nd d g) (upd H9 pl (.lst [.ref al, bt, b2, b3, v9])) bk := bkR.mon.same s710 (bkR.mon.kp k47 hbk4)
    have hal10 := s710 _ _ hal7
    generalize upd H9 pl (.lst [.ref al, bt, b2, b3, v9]) = H10 at *
    generalize [V.ref al, bt, b2, b3, v9] = vals at *
    refine for_list (K := K) (a := pl) (xs := vals) (fun j σ G => (∃ z5 z6 z7 z9 : Option V, σ = [some (.ref a), some (.ref d), some (.int (0 + (i : Int))), some bk, some bt, z5, z6, z7, some (.ref al), z9]) ∧ Same H10 G)
      ⟨⟨_, _, _, _, rfl⟩, Same.refl H10⟩ (fun j σ G _ e => SqL.of (e.2 _ _ hp10)) ?_ ?_
    · rintro j v σ G hj ⟨⟨y5, y6, y7, y9, rfl⟩, sG⟩
      have hv := m9.same sG (all10 v (List.mem_of_getElem? hj))
      have hbG := bkR.mon.same sG hbk10
      refine ⟨_, rfl, _, rfl, bk, v, 22, 9, Nd d g, 8, 3, Nd d g, rfl, hbG.pv, by decide, hv, by decide, fun _ np nm hk Ga sa => ?_, fun z => by rw [hbG.bank] at z; cases z⟩
      refine ⟨_, rfl, _, rfl, bk, np, nm, v, 22, 9, Nd d g, rfl, hk.same sa, m9.same sa hv, by decide, fun Gb sb => ⟨_, _, rfl, _, rfl, ?_⟩⟩
      rw [dt_same hv sa, decide_eq_true rfl]
      refine iteF ?_
      exact ⟨⟨_, _, _, _, rfl⟩, sG.trans (sa.trans sb)⟩
    rintro σ G ⟨⟨y5, y6, y7, y9, rfl⟩, sG⟩
    have SG := S10.same sG
    have tG := t10.ext sG
    have halG := sG _ _ hal10
    have hbG := bkR.mon.same sG hbk10
    have qG : ∀ x ∈ [e0, e1, bd], PV 20 6 (Nd d g) G x := fun x hx => m6.same (s710.trans sG) (q7 x hx)
    -- turned
    refine ⟨_, rfl, al, _, 1, e1, rfl, rfl, SqT.of halG, atI_nat (j := 1) rfl, _, rfl, al, _, 0, e0, rfl, rfl, SqT.of halG, atI_nat (j := 0) rfl, _, rfl, al, _, 2, bd, rfl, rfl, SqT.of halG, atI_nat (j := 2) rfl, (by show 3 ≤ sizeLine; decide), fun pt hpt => ?_⟩
    have s11 := same_upd (o := .tup [e1, e0, bd]) hpt
    have vt : PV 20 7 (Nd d g) (upd G pt (.tup [e1, e0, bd])) (.ref pt) := by
      refine .tup pt _ upd_same (SG.nd pt hpt) (by show 3 ≤ 20; decide) fun y hy => ?_
      simp only [List.mem_cons, List.not_mem_nil, or_false] at hy
      refine m6.same s11 (qG y ?_)
      rcases hy with rfl | rfl | rfl
      · simp
      · simp
      · simp
    have hb11 := bkR.mon.same s11 hbG
    generalize upd G pt (.tup [e1, e0, bd]) = G1 at *
    refine ⟨_, rfl, _, rfl, bk, .ref pt, 20, 7, Nd d g, 8, 3, Nd d g, rfl, hb11.pv, by decide, vt, by decide, fun _ np nm hk Ga sa => ?_, fun z => by rw [hb11.bank] at z; cases z⟩
    refine ⟨_, rfl, _, rfl, bk, np, nm, .ref pt, 20, 7, Nd d g, rfl, hk.same sa, m7.same sa vt, by decide, fun Gb sb => ⟨_, _, rfl, _, rfl, ?_⟩⟩
    rw [dt_same vt sa, decide_eq_true rfl]
    refine iteF ?_
    have sB := s11.trans (sa.trans sb)
    have SB := SG.same sB
    have tB := tG.ext sB
    have hbB := bkR.mon.same sB hbG
    have halB := sB _ _ halG
    have vlB : PV 20 7 (Nd d g) Gb (.ref al) := .tup al _ halB nal (by show 3 ≤ 20; decide) fun x hx => m6.same sB (qG x hx)
    have hpv := hbB.pv
    clear hk hb11 vt
    obtain ⟨ab, xb, bs, mi, li, rfl, nab, nxb, hab, hxb, okb⟩ := id hbB
    obtain ⟨lbs, _, _⟩ := okBk_bounds okb
    -- some
    refine ⟨_, rfl, ab, _, 0, _, rfl, rfl, SqT.of hab, atI_nat (j := 0) rfl, (by show 3 ≤ sizeLine; decide), fun p1 hp1 => ?_⟩
    have f1 := same_upd (o := .tup [.ref xb, .int 3, .int 1]) hp1
    have w1 : wrR (Nd d g) (upd Gb p1 (.tup [.ref xb, .int 3, .int 1])) (.ref p1) := by
      refine wr_at upd_same (SB.nd p1 hp1) (by show 3 ≤ 20; decide) (fun y hy => ?_) ?_
      · simp only [List.mem_cons, List.not_mem_nil, or_false] at hy
        rcases hy with rfl | rfl | rfl
        · refine .tup xb _ (f1 _ _ hxb) nxb (by rw [List.length_map]; omega) fun y hy => ?_
          obtain ⟨z, _, rfl⟩ := List.mem_map.mp hy
          exact .int z
        · exact .int _
        · exact .int _
      · show (begB _ (.ref xb) && numF (.int 1) 0 && numF (.int 3) (3 * 1 + 1) && decide ((3 : Int) ≤ 13)) = false
        rw [show numF (.int 3) (3 * 1 + 1) = false by decide +kernel, Bool.and_false, Bool.false_and]
    have SC := SB.same f1
    generalize upd Gb p1 (.tup [.ref xb, .int 3, .int 1]) = G2 at *
    refine fun w2 G3 f2 r2 => ⟨_, rfl, ab, _, rfl, .inr (SqT.of (f2 _ _ (f1 _ _ hab))), fun l4 hl4 => ?_⟩
    have SD := SC.same f2
    have f3 := same_upd (o := .lst [.ref xb, .int mi, .int li]) hl4
    have w3 : wrR (Nd d g) (upd G3 l4 (.lst [.ref xb, .int mi, .int li])) (.ref l4) := by
      refine ⟨.lst l4 _ upd_same (SD.nd l4 hl4) (by show 3 ≤ 20; decide) fun y hy => ?_, ?_⟩
      · simp only [List.mem_cons, List.not_mem_nil, or_false] at hy
        rcases hy with rfl | rfl | rfl
        · refine .tup xb _ (f3 _ _ (f2 _ _ (f1 _ _ hxb))) nxb (by rw [List.length_map]; omega) fun y hy => ?_
          obtain ⟨z, _, rfl⟩ := List.mem_map.mp hy
          exact .int z
        · exact .int _
        · exact .int _
      · unfold bankB
        have e : tupOf (upd G3 l4 (.lst [.ref xb, .int mi, .int li])) (.ref l4) = none := by
          show (match (upd G3 l4 (.lst [.ref xb, .int mi, .int li])) l4 with | some (.tup xs) => some xs | _ => none) = none
          rw [upd_same]
        rw [e]
    have SE := SD.same f3
    generalize upd G3 l4 (.lst [.ref xb, .int mi, .int li]) = G4 at *
    have tb4 : TupV (Nd d g) G4 (.ref ab) [.ref xb, .int mi, .int li] := ⟨ab, rfl, nab, f3 _ _ (f2 _ _ (f1 _ _ hab))⟩
    refine ⟨_, rfl, _, rfl, Nd d g, _, SE.nd, tb4, fun v5 G5 f4 t5' => ?_⟩
    have SF := SE.same f4
    have w4 : wrR (Nd d g) G5 v5 := by
      have ec : cutV [.ref xb, .int mi, .int li] none (some 2) = [V.ref xb, .int mi] := cut_to (xs := [.ref xb, .int mi, .int li]) (j := 2) (by show 2 ≤ 3; decide)
      rw [ec] at t5'
      obtain ⟨a5, rfl, n5, h5⟩ := t5'
      refine wr_at h5 n5 (by show 2 ≤ 20; decide) (fun y hy => ?_) rfl
      simp only [List.mem_cons, List.not_mem_nil, or_false] at hy
      rcases hy with rfl | rfl
      · refine .tup xb _ (f4 _ _ (f3 _ _ (f2 _ _ (f1 _ _ hxb)))) nxb (by rw [List.length_map]; omega) fun y hy => ?_
        obtain ⟨z, _, rfl⟩ := List.mem_map.mp hy
        exact .int z
      · exact .int _
    refine fun w6 G6 f5 r6 => ⟨(by show 6 ≤ sizeLine; decide), fun pL hpL => ?_⟩
    have SH := SF.same f5
    have f6 := same_upd (o := .lst [.non, .ref p1, w2, .ref l4, v5, w6]) hpL
    have all6 : ∀ x ∈ [V.non, .ref p1, w2, .ref l4, v5, w6], wrR (Nd d g) (upd G6 pL (.lst [.non, .ref p1, w2, .ref l4, v5, w6])) x := fun x hx => by
      simp only [List.mem_cons, List.not_mem_nil, or_false] at hx
      rcases hx with rfl | rfl | rfl | rfl | rfl | rfl
      · exact ⟨.non, rfl⟩
      · exact wrR.mon.same (f2.trans (f3.trans (f4.trans (f5.trans f6)))) w1
      · exact wrR.mon.same (f3.trans (f4.trans (f5.trans f6))) (wrR.mon.new SC.nd r2)
      · exact wrR.mon.same (f4.trans (f5.trans f6)) w3
      · exact wrR.mon.same (f5.trans f6) w4
      · exact wrR.mon.same f6 (wrR.mon.new SF.nd r6)
    have hL6 : (upd G6 pL (.lst [.non, .ref p1, w2, .ref l4, v5, w6])) pL = some (.lst [.non, .ref p1, w2, .ref l4, v5, w6]) := upd_same
    have SI := SH.same f6
    have npL := SH.nd pL hpL
    have fB : Same Gb (upd G6 pL (.lst [.non, .ref p1, w2, .ref l4, v5, w6])) := f1.trans (f2.trans (f3.trans (f4.trans (f5.trans f6))))
    generalize upd G6 pL (.lst [.non, .ref p1, w2, .ref l4, v5, w6]) = G7 at *
    -- wrong
    refine ⟨_, rfl, _, rfl, d, g, c, pL, _, _, rfl, SI, by show 300 * (i : Int) + 1 + 100 + 5 * ((7 : Nat) : Int) + 5 * ((7 : Nat) : Int) + 5 * ((8 : Nat) : Int) < 1000000000000; omega, .inl (SqL.of hL6), npL.1, npL.2, (by intro e; cases e), by show 6 ≤ 100000; decide, fun wx G8 hwx k8' S8 => ?_⟩
    obtain ⟨pw, nb⟩ := wrR.mon.kp k8' (all6 wx hwx)
    have vl8 := m7.kp k8' (m7.same fB vlB)
    have t8' := tab_kp SI k8' (tB.ext fB)
    have T8 : Tabs [(Pt, qLam)] G8 := fun p hp => by rw [List.mem_singleton.mp hp]; exact t8'
    refine ⟨T8, fun Hc eN T9 E1 Q1 hE hQ => ?_⟩
    have nbc : bankB Hc wx = false := (bank_ext pw eN).trans nb
    refine ⟨_, rfl, _, rfl, wx, .ref al, 20, 7, Nd d g, 20, 3, Nd d g, rfl, PV.ext eN pw, by decide, PV.ext eN vl8, by decide, (fun z => by rw [nbc] at z; cases z), fun _ He se => hE _ _ _ ⟨true, W.exm, fun _ ae nae => ?_, fun z => nomatch z⟩⟩
    refine ⟨ae, C, C, true, rfl, upd_same, W.xc, W.kit, _, rfl, ?_⟩
    refine iteF ?_
    have eF : ExtN G8 (upd He ae (ExV (.ref C) none ae)) := eN.trans (ExtN.of (se.trans (same_upd nae)))
    exact ⟨_, _, _, _, _, _, _, _, rfl, (S8.ext eF).mono (by push_cast; omega), (T9 _ List.mem_cons_self).ext (se.trans (same_upd nae))⟩
end
end Pu

namespace Pu
open PySem L2 LamX
/-- a def of the text stands behind the top under its name -/
def DefAt (K : PySem.W.Frag) (x : Str) (st : Stmt) : Prop := ∃ (f : Addr) (oc : Value) (od : Option Addr) (kV doc pm : Value) (an : Option Addr) (cd ct : Value) (osl : Array (Option Value)), PySem.W.nsIn K mainGlobals x = some (some (.ref f)) ∧
  K.lookup f = some ⟨oc, od, .func (PySem.W.fnOf x x (defArgs st) (defBody st) (defScope st) .none kV doc pm an cd ct), osl⟩ ∧ PySem.W.codeIn K cd x = true ∧ PySem.W.keepIn K (.ref f) = true
theorem DefAt.get {K : PySem.W.Frag} {x : Str} {st : Stmt} {h : Heap} {mg : Str → Option Value} (D : DefAt K x st) (X : K.In h) (G : h.Ns mainGlobals mg) : ∃ f fd, Fun K x x st f fd ∧ PySem.W.keepIn K (.ref f) = true ∧ mg x = some (.ref f) := by
  obtain ⟨f, oc, od, kV, doc, pm, an, cd, ct, osl, a, l, c, k⟩ := D
  exact ⟨f, _, fun_mk l c k, k, PySem.W.mg_of X G a⟩
theorem defAt_mk {K : PySem.W.Frag} {x : Str} {st : Stmt} {f : Addr} {oc : Value} {od : Option Addr} {kV doc pm : Value} {an : Option Addr} {cd ct : Value} {osl : Array (Option Value)} (a : PySem.W.nsIn K mainGlobals x = some (some (.ref f)))
    (l : K.lookup f = some ⟨oc, od, .func (PySem.W.fnOf x x (defArgs st) (defBody st) (defScope st) .none kV doc pm an cd ct), osl⟩) (c : PySem.W.codeIn K cd x = true) (k : PySem.W.keepIn K (.ref f) = true) : DefAt K x st := ⟨f, oc, od, kV, doc, pm, an, cd, ct, osl, a, l, c, k⟩
/-- the error class, all that is asked of it -/
structure ClsAt (K : PySem.W.Frag) (C PE0 : Addr) : Prop where
  aC : PySem.W.nsIn K mainGlobals "BadBank" = some (some (.ref C))
  aP : PySem.W.nsIn K mainGlobals "PurseError" = some (some (.ref PE0))
  xi : PySem.W.excIn K C [.type "ValueError", .type "Exception", .type "BaseException", .type "object"] "ValueError.__new__" = true
  kk : PySem.W.keepIn K (.ref C) = true
  bb : PySem.W.subIn K (.ref C) (.type "BaseException") = some true
  ty : PySem.W.typeIn K (.ref C) = some (.type "type")
  hg : PySem.W.findIn K (.ref C) "__getattribute__" = some (some (.builtin "BaseException.__getattribute__"))
  hk : PySem.W.findIn K (.ref C) "__getattr__" = some none
  hd : PySem.W.hasDictIn K C = true
  ha : PySem.W.findIn K (.ref C) "__class__" = some (some (.builtin "object.__class__"))
  hn : PySem.W.specialIn K (.builtin "object.__class__") "__get__" = some (some (.builtin "getset_descriptor.__get__"))
  ht : PySem.W.takesIn K (.builtin "object.__class__") = some true
  hm : PySem.W.mroIn K C (.type "object") = some true
  kit : PySem.W.kitOne K (.ref C) (.ref C) = some true
  pb : PySem.W.subIn K (.ref PE0) (.type "BaseException") = some true
  pd : PySem.W.hasDictIn K PE0 = true
  pt : PySem.W.typeIn K (.ref PE0) = some (.type "type")
  cp : PySem.W.subIn K (.ref C) (.ref PE0) = some true
theorem all_mk {l : PySem.W.OpenLaw} {w : World} {K : PySem.W.Frag} {h : Heap} {mg : Str → Option Value} {fa : Addr} (X : K.In h) (G : h.Ns mainGlobals mg) (hfa : mg "law" = some (.ref fa))
    {Pt c0 C PE0 fL : Addr} (hP : h.get? Pt = some { cls := .none, data := .fields #[] }) (nP : K.lookup Pt = none) (hc : PySem.W.CodeHd h c0 Pt)
    (d7 : DefAt K "is_number" (top 7)) (d8 : DefAt K "is_number_from" (top 8)) (d9 : DefAt K "is_number_below" (top 9)) (d10 : DefAt K "is_ascending" (top 10)) (d11 : DefAt K "is_begin" (top 11)) (d12 : DefAt K "is_bank" (top 12)) (d13 : DefAt K "check_bank" (top 13)) (d14 : DefAt K "is_purse" (top 14)) (d15 : DefAt K "is_member" (top 15)) (d16 : DefAt K "is_row" (top 16)) (d17 : DefAt K "is_name_pair" (top 17)) (d19 : DefAt K "is_letter" (top 19)) (d20 : DefAt K "is_end" (top 20)) (d21 : DefAt K "is_body" (top 21)) (d22 : DefAt K "is_asking" (top 22)) (d23 : DefAt K "are_certificates" (top 23)) (d24 : DefAt K "looks_certified" (top 24)) (d26 : DefAt K "_law_begun" (top 26)) (d27 : DefAt K "_law_blended" (top 27)) (d28 : DefAt K "_law_draw" (top 28)) (d29 : DefAt K "_law_pick" (top 29)) (d31 : DefAt K "_law_is_truth" (top 31)) (d32 : DefAt K "_law_is_whole" (top 32)) (d33 : DefAt K "_law_pu_bank" (top 33)) (d34 : DefAt K "_law_pu_odd" (top 34)) (d35 : DefAt K "_law_pu_bent" (top 35)) (d36 : DefAt K "_law_le_number" (top 36)) (d37 : DefAt K "_law_le_name" (top 37)) (d38 : DefAt K "_law_le_end" (top 38)) (d39 : DefAt K "_law_le_items" (top 39)) (d40 : DefAt K "_law_le_body" (top 40)) (d41 : DefAt K "_law_le_letter" (top 41)) (d42 : DefAt K "_law_le_drawn" (top 42)) (d30 : DefAt K "_law_caught" (top 30))
    {oc kV doc pm ct : Value} {od an : Option Addr} {osl : Array (Option Value)} (aL : PySem.W.nsIn K mainGlobals "law" = some (some (.ref fL))) (lL : K.lookup fL = some ⟨oc, od, .func (PySem.W.fnOf "law" "law" (defArgs sLaw) (defBody sLaw) (defScope sLaw) .none kV doc pm an (.ref c0) ct), osl⟩) (cL : PySem.W.codeIn K (.ref c0) "law" = true)
    (cl : ClsAt K C PE0) {t1 t8 t13 : Tok} (n1 : PySem.W.nsIn K mainGlobals "FIRST_TOO_LONG" = some (some (.int BIG t1))) (n8 : PySem.W.nsIn K mainGlobals "MOST_PURSES" = some (some (.int 8 t8))) (n13 : PySem.W.nsIn K mainGlobals "MOST_MEMBERS" = some (some (.int 13 t13)))
    (z_isinstance : PySem.W.nsIn K mainGlobals "isinstance" = some none) (z_int : PySem.W.nsIn K mainGlobals "int" = some none) (z_bool : PySem.W.nsIn K mainGlobals "bool" = some none) (z_tuple : PySem.W.nsIn K mainGlobals "tuple" = some none) (z_len : PySem.W.nsIn K mainGlobals "len" = some none) (z_all : PySem.W.nsIn K mainGlobals "all" = some none) (z_sum : PySem.W.nsIn K mainGlobals "sum" = some none) (z_abs : PySem.W.nsIn K mainGlobals "abs" = some none) (z_list : PySem.W.nsIn K mainGlobals "list" = some none) (z_range : PySem.W.nsIn K mainGlobals "range" = some none) (z_min : PySem.W.nsIn K mainGlobals "min" = some none) (z_str : PySem.W.nsIn K mainGlobals "str" = some none) (z_sorted : PySem.W.nsIn K mainGlobals "sorted" = some none) (z_set : PySem.W.nsIn K mainGlobals "set" = some none) :
    LawAtS l w K CX0 14 63 "script" mg fa h := by
  have e := hfa.symm.trans (PySem.W.mg_of X G aL)
  cases e
  have no : ∀ {x : Str}, PySem.W.nsIn K mainGlobals x = some none → mg x = none := fun z => PySem.W.mg_none_of X G z
  have m_isinstance := no z_isinstance
  have m_int := no z_int
  have m_bool := no z_bool
  have m_tuple := no z_tuple
  have m_len := no z_len
  have m_all := no z_all
  have m_sum := no z_sum
  have m_abs := no z_abs
  have m_list := no z_list
  have m_range := no z_range
  have m_min := no z_min
  have m_str := no z_str
  have m_sorted := no z_sorted
  have m_set := no z_set
  obtain ⟨f7, fd7, F7, k7, m7⟩ := d7.get X G
  obtain ⟨f8, fd8, F8, k8, m8⟩ := d8.get X G
  obtain ⟨f9, fd9, F9, k9, m9⟩ := d9.get X G
  obtain ⟨f10, fd10, F10, k10, m10⟩ := d10.get X G
  obtain ⟨f11, fd11, F11, k11, m11⟩ := d11.get X G
  obtain ⟨f12, fd12, F12, k12, m12⟩ := d12.get X G
  obtain ⟨f13, fd13, F13, k13, m13⟩ := d13.get X G
  obtain ⟨f14, fd14, F14, k14, m14⟩ := d14.get X G
  obtain ⟨f15, fd15, F15, k15, m15⟩ := d15.get X G
  obtain ⟨f16, fd16, F16, k16, m16⟩ := d16.get X G
  obtain ⟨f17, fd17, F17, k17, m17⟩ := d17.get X G
  obtain ⟨f19, fd19, F19, k19, m19⟩ := d19.get X G
  obtain ⟨f20, fd20, F20, k20, m20⟩ := d20.get X G
  obtain ⟨f21, fd21, F21, k21, m21⟩ := d21.get X G
  obtain ⟨f22, fd22, F22, k22, m22⟩ := d22.get X G
  obtain ⟨f23, fd23, F23, k23, m23⟩ := d23.get X G
  obtain ⟨f24, fd24, F24, k24, m24⟩ := d24.get X G
  obtain ⟨f26, fd26, F26, k26, m26⟩ := d26.get X G
  obtain ⟨f27, fd27, F27, k27, m27⟩ := d27.get X G
  obtain ⟨f28, fd28, F28, k28, m28⟩ := d28.get X G
  obtain ⟨f29, fd29, F29, k29, m29⟩ := d29.get X G
  obtain ⟨f31, fd31, F31, k31, m31⟩ := d31.get X G
  obtain ⟨f32, fd32, F32, k32, m32⟩ := d32.get X G
  obtain ⟨f33, fd33, F33, k33, m33⟩ := d33.get X G
  obtain ⟨f34, fd34, F34, k34, m34⟩ := d34.get X G
  obtain ⟨f35, fd35, F35, k35, m35⟩ := d35.get X G
  obtain ⟨f36, fd36, F36, k36, m36⟩ := d36.get X G
  obtain ⟨f37, fd37, F37, k37, m37⟩ := d37.get X G
  obtain ⟨f38, fd38, F38, k38, m38⟩ := d38.get X G
  obtain ⟨f39, fd39, F39, k39, m39⟩ := d39.get X G
  obtain ⟨f40, fd40, F40, k40, m40⟩ := d40.get X G
  obtain ⟨f41, fd41, F41, k41, m41⟩ := d41.get X G
  obtain ⟨f42, fd42, F42, k42, m42⟩ := d42.get X G
  obtain ⟨f30, oc8, od8, kV8, doc8, pm8, an8, cd8, ct8, osl8, a30, l30, c30, k30⟩ := d30
  have m30 := PySem.W.mg_of X G a30
  have F30 := fun_mk (st := top 30) l30 c30 k30
  have b7 := F7.binds (ps := ["value"]) fun _ _ _ _ _ _ us hl => match us, hl with | [_], _ => rfl
  have b8 := F8.binds (ps := ["value", "least"]) fun _ _ _ _ _ _ us hl => match us, hl with | [_, _], _ => rfl
  have b9 := F9.binds (ps := ["value", "limit"]) fun _ _ _ _ _ _ us hl => match us, hl with | [_, _], _ => rfl
  have b10 := F10.binds (ps := ["values"]) fun _ _ _ _ _ _ us hl => match us, hl with | [_], _ => rfl
  have b11 := F11.binds (ps := ["value"]) fun _ _ _ _ _ _ us hl => match us, hl with | [_], _ => rfl
  have b12 := F12.binds (ps := ["value"]) fun _ _ _ _ _ _ us hl => match us, hl with | [_], _ => rfl
  have b13 := F13.binds (ps := ["bank"]) fun _ _ _ _ _ _ us hl => match us, hl with | [_], _ => rfl
  have b14 := F14.binds (ps := ["bank", "value"]) fun _ _ _ _ _ _ us hl => match us, hl with | [_, _], _ => rfl
  have b15 := F15.binds (ps := ["bank", "value"]) fun _ _ _ _ _ _ us hl => match us, hl with | [_, _], _ => rfl
  have b16 := F16.binds (ps := ["bank", "value"]) fun _ _ _ _ _ _ us hl => match us, hl with | [_, _], _ => rfl
  have b17 := F17.binds (ps := ["value"]) fun _ _ _ _ _ _ us hl => match us, hl with | [_], _ => rfl
  have b19 := F19.binds (ps := ["bank", "value"]) fun _ _ _ _ _ _ us hl => match us, hl with | [_, _], _ => rfl
  have b20 := F20.binds (ps := ["bank", "value"]) fun _ _ _ _ _ _ us hl => match us, hl with | [_, _], _ => rfl
  have b21 := F21.binds (ps := ["bank", "sender", "receiver", "value"]) fun _ _ _ _ _ _ us hl => match us, hl with | [_, _, _, _], _ => rfl
  have b22 := F22.binds (ps := ["body"]) fun _ _ _ _ _ _ us hl => match us, hl with | [_], _ => rfl
  have b23 := F23.binds (ps := ["value"]) fun _ _ _ _ _ _ us hl => match us, hl with | [_], _ => rfl
  have b24 := F24.binds (ps := ["value"]) fun _ _ _ _ _ _ us hl => match us, hl with | [_], _ => rfl
  have b26 := F26.binds (ps := ["script"]) fun _ _ _ _ _ _ us hl => match us, hl with | [_], _ => rfl
  have b27 := F27.binds (ps := ["state"]) fun _ _ _ _ _ _ us hl => match us, hl with | [_], _ => rfl
  have b28 := F28.binds (ps := ["state", "size_here"]) fun _ _ _ _ _ _ us hl => match us, hl with | [_, _], _ => rfl
  have b29 := F29.binds (ps := ["state", "several"]) fun _ _ _ _ _ _ us hl => match us, hl with | [_, _], _ => rfl
  have b31 := F31.binds (ps := ["found", "due"]) fun _ _ _ _ _ _ us hl => match us, hl with | [_, _], _ => rfl
  have b32 := F32.binds (ps := ["item"]) fun _ _ _ _ _ _ us hl => match us, hl with | [_], _ => rfl
  have b33 := F33.binds (ps := ["state"]) fun _ _ _ _ _ _ us hl => match us, hl with | [_], _ => rfl
  have b34 := F34.binds (ps := ["state"]) fun _ _ _ _ _ _ us hl => match us, hl with | [_], _ => rfl
  have b35 := F35.binds (ps := ["state", "item"]) fun _ _ _ _ _ _ us hl => match us, hl with | [_, _], _ => rfl
  have b36 := F36.binds (ps := ["item"]) fun _ _ _ _ _ _ us hl => match us, hl with | [_], _ => rfl
  have b37 := F37.binds (ps := ["item"]) fun _ _ _ _ _ _ us hl => match us, hl with | [_], _ => rfl
  have b38 := F38.binds (ps := ["bank_here", "item"]) fun _ _ _ _ _ _ us hl => match us, hl with | [_, _], _ => rfl
  have b39 := F39.binds (ps := ["item"]) fun _ _ _ _ _ _ us hl => match us, hl with | [_], _ => rfl
  have b40 := F40.binds (ps := ["bank_here", "item", "way"]) fun _ _ _ _ _ _ us hl => match us, hl with | [_, _, _], _ => rfl
  have b41 := F41.binds (ps := ["bank_here", "item"]) fun _ _ _ _ _ _ us hl => match us, hl with | [_, _], _ => rfl
  have b42 := F42.binds (ps := ["state", "bank_here"]) fun _ _ _ _ _ _ us hl => match us, hl with | [_, _], _ => rfl
  have b30 := F30.binds (ps := ["work"]) fun _ _ _ _ _ _ us hl => match us, hl with | [_], _ => rfl
  have kb19 : KBinds K fd19 ["bank", "value"] ["value", "bank"] g2 gV2 := by
    obtain ⟨oc, od, kV, doc, pm, an, cdv, ct, osl, rfl, lk, hcd⟩ := F19.ex
    exact kb2 fun a b => rfl
  have er : Er K mg "BadBank" C := ⟨cl.xi, PySem.W.mg_of X G cl.aC, cl.kk, cl.bb, cl.ty⟩
  refine ⟨_, [(c0, Pt)], spLaw K Pt, fun p hp => by rw [List.mem_singleton.mp hp]; exact hP, fun p hp => by rw [List.mem_singleton.mp hp]; exact nP, fun p hp => by rw [List.mem_singleton.mp hp]; exact hc, fun s v => .of_eq rfl,
    fun H a ns hl _ hH hS => ⟨a, ns, rfl, hS, hl, TabS.nil (hH _ List.mem_cons_self), fun _ => rfl⟩, fun base _ _ hT => ok_law (C := C) (PE0 := PE0) lL cL (hT _ List.mem_cons_self) ?_ l30 c30 b30 k30 m30⟩
  have G27 := ok_blend (P := l.prog) (w := w) (base := base) F27 m_int
  have G28 := ok_draw F28 m_int G27 b27 k27 m27
  have G29 := ok_pick F29 m_len G28 b28 k28 m28
  have G34 := ok_odd F34 G29 b29 k29 m29
  have G32 := ok_whole (P := l.prog) (w := w) (base := base) F32 m_isinstance m_int m_bool
  have D : Dr l.prog w K mg base := ⟨⟨_, _, G28, b28, k28, m28⟩, ⟨_, _, G29, b29, k29, m29⟩, ⟨_, _, G34, b34, k34, m34⟩, ⟨_, _, G32, b32, k32, m32⟩, m_isinstance, m_tuple, m_len, m_list⟩
  have G7 := ok_isnum (P := l.prog) (w := w) (base := base) F7 m_isinstance m_int m_bool (PySem.W.mg_of X G n1)
  have G8 := ok_numfrom F8 G7 b7 k7 m7
  have G9 := ok_below F9 G8 b8 k8 m8
  have G10 := ok_asc (P := l.prog) (w := w) (base := base) F10 m_all m_range m_len
  have G11 := ok_isbegin F11 m_isinstance m_tuple m_len m_all m_sum (PySem.W.mg_of X G n8) G7 b7 k7 m7 G8 b8 k8 m8
  have G12 := ok_isbank F12 m_isinstance m_tuple m_len (PySem.W.mg_of X G n13) G8 b8 k8 m8 G11 b11 k11 m11
  have G13 := ok_check F13 er G12 b12 k12 m12
  have G14 := ok_purse F14 m_len G9 b9 k9 m9
  have G15 := ok_member F15 G9 b9 k9 m9
  have G16 := ok_row F16 m_isinstance m_tuple m_len m_all G8 b8 k8 m8
  have G17 := ok_name F17 m_isinstance m_tuple m_len G8 b8 k8 m8
  have G24 := ok_looks F24 m_isinstance m_tuple m_len m_all G17 b17 k17 m17 G10 b10 k10 m10
  have G23 := ok_certs F23 m_isinstance m_tuple m_all G24 b24 k24 m24
  have G22 := ok_asking F22 G17 b17 k17 m17 G23 b23 k23 m23
  have G20 := ok_end F20 m_isinstance m_tuple m_len G14 b14 k14 m14 G15 b15 k15 m15
  have G21 := ok_body F21 m_isinstance m_tuple m_len G17 b17 k17 m17 G16 b16 k16 m16 G23 b23 k23 m23 G22 b22 k22 m22
  have G19 := ok_letter F19 m_isinstance m_tuple m_len G13 b13 k13 m13 G20 b20 k20 m20 G21 b21 k21 m21
  have G36 := ok_lenum F36 G32 b32 k32 m32
  have G37 := ok_lename F37 m_isinstance m_tuple m_len G36 b36 k36 m36
  have G38 := ok_leend F38 m_isinstance m_tuple m_len G36 b36 k36 m36
  have G39 := ok_leitems F39 m_isinstance m_tuple m_len m_sorted m_set G37 b37 k37 m37
  have G40 := ok_lebody F40 m_isinstance m_tuple m_str m_len G36 b36 k36 m36 G37 b37 k37 m37 G39 b39 k39 m39
  have G41 := ok_leletter F41 m_isinstance m_tuple m_len G38 b38 k38 m38 G40 b40 k40 m40
  exact { dr := D, begun := ⟨_, _, ok_begun F26 m_abs, b26, k26, m26⟩, bank := ⟨_, _, ok_bankQ F33 G29 b29 k29 m29, b33, k33, m33⟩, drawn := ⟨_, _, ok_drawn F42 D m_range m_sorted, b42, k42, m42⟩,
          bent7 := ⟨_, _, ok_bent F35 D b35 k35 m35 7, b35, k35, m35⟩, bent8 := ⟨_, _, ok_bent F35 D b35 k35 m35 8, b35, k35, m35⟩, own := ⟨_, _, G41, b41, k41, m41⟩, truth := ⟨_, _, ok_truth F31, b31, k31, m31⟩,
          isl := ⟨_, _, G19, b19, kb19, k19, m19⟩, er := er, xc := ⟨cl.hg, cl.hk, cl.bb, cl.hd, cl.ha, cl.hn, cl.ht, cl.hm⟩, kit := cl.kit, pe := PySem.W.mg_of X G cl.aP, exm := PySem.W.exm_ref cl.pb cl.pd cl.pt cl.cp, mr := m_range, mm := m_min }
end Pu

open PySem PySem.W PyProof.Rows
set_option maxRecDepth 100000 in
set_option maxHeartbeats 0 in
theorem PySem.Challenge.cw_pursesapart_k22_letters_judged_holds : PySem.Challenge.rw_pursesapart_k22_letters_judged.Holds := by
  w_on; o_law; k_head; (case hw => w_witness2)
  k_fill
  refine LamX.walk_ofTs (n := 63) (k := 14) (x := "script") (CX := fun _ => L2.CX0) rfl (by decide) rfl ⟨rfl, by decide, by decide⟩ (fun w h Y => PySem.W.km_in_of Y) ?F (fun _ _ _ _ _ z => z)
  intro w mg fa h Y KX G hmg
  have hT := PySem.W.km_tabs_of Y
  refine' Pu.all_mk KX G hmg (hT _ (List.mem_singleton.mpr rfl)) ?u_nP ?u_hc ?u_d7 ?u_d8 ?u_d9 ?u_d10 ?u_d11 ?u_d12 ?u_d13 ?u_d14 ?u_d15 ?u_d16 ?u_d17 ?u_d19 ?u_d20 ?u_d21 ?u_d22 ?u_d23 ?u_d24 ?u_d26 ?u_d27 ?u_d28 ?u_d29 ?u_d31 ?u_d32 ?u_d33 ?u_d34 ?u_d35 ?u_d36 ?u_d37 ?u_d38 ?u_d39 ?u_d40 ?u_d41 ?u_d42 ?u_d30 ?u_aL ?u_lL ?u_cL ?u_cl ?u_n1 ?u_n8 ?u_n13 ?u_z_isinstance ?u_z_int ?u_z_bool ?u_z_tuple ?u_z_len ?u_z_all ?u_z_sum ?u_z_abs ?u_z_list ?u_z_range ?u_z_min ?u_z_str ?u_z_sorted ?u_z_set
  (case u_nP => kernel_rfl)
  (case u_aL => k_is); (case u_lL => k_is); (case u_cL => k_is)
  (case u_hc => exact PySem.W.codeHd_of_K KX (by kernel_rfl))
  (case u_d7 => refine' Pu.defAt_mk ?v_a ?v_l ?v_c ?v_k; (case v_a => k_is); (case v_l => k_is); (case v_c => k_is); (case v_k => k_is))
  (case u_d8 => refine' Pu.defAt_mk ?v_a ?v_l ?v_c ?v_k; (case v_a => k_is); (case v_l => k_is); (case v_c => k_is); (case v_k => k_is))
  (case u_d9 => refine' Pu.defAt_mk ?v_a ?v_l ?v_c ?v_k; (case v_a => k_is); (case v_l => k_is); (case v_c => k_is); (case v_k => k_is))
  (case u_d10 => refine' Pu.defAt_mk ?v_a ?v_l ?v_c ?v_k; (case v_a => k_is); (case v_l => k_is); (case v_c => k_is); (case v_k => k_is))
  (case u_d11 => refine' Pu.defAt_mk ?v_a ?v_l ?v_c ?v_k; (case v_a => k_is); (case v_l => k_is); (case v_c => k_is); (case v_k => k_is))
  (case u_d12 => refine' Pu.defAt_mk ?v_a ?v_l ?v_c ?v_k; (case v_a => k_is); (case v_l => k_is); (case v_c => k_is); (case v_k => k_is))
  (case u_d13 => refine' Pu.defAt_mk ?v_a ?v_l ?v_c ?v_k; (case v_a => k_is); (case v_l => k_is); (case v_c => k_is); (case v_k => k_is))
  (case u_d14 => refine' Pu.defAt_mk ?v_a ?v_l ?v_c ?v_k; (case v_a => k_is); (case v_l => k_is); (case v_c => k_is); (case v_k => k_is))
  (case u_d15 => refine' Pu.defAt_mk ?v_a ?v_l ?v_c ?v_k; (case v_a => k_is); (case v_l => k_is); (case v_c => k_is); (case v_k => k_is))
  (case u_d16 => refine' Pu.defAt_mk ?v_a ?v_l ?v_c ?v_k; (case v_a => k_is); (case v_l => k_is); (case v_c => k_is); (case v_k => k_is))
  (case u_d17 => refine' Pu.defAt_mk ?v_a ?v_l ?v_c ?v_k; (case v_a => k_is); (case v_l => k_is); (case v_c => k_is); (case v_k => k_is))
  (case u_d19 => refine' Pu.defAt_mk ?v_a ?v_l ?v_c ?v_k; (case v_a => k_is); (case v_l => k_is); (case v_c => k_is); (case v_k => k_is))
  (case u_d20 => refine' Pu.defAt_mk ?v_a ?v_l ?v_c ?v_k; (case v_a => k_is); (case v_l => k_is); (case v_c => k_is); (case v_k => k_is))
  (case u_d21 => refine' Pu.defAt_mk ?v_a ?v_l ?v_c ?v_k; (case v_a => k_is); (case v_l => k_is); (case v_c => k_is); (case v_k => k_is))
  (case u_d22 => refine' Pu.defAt_mk ?v_a ?v_l ?v_c ?v_k; (case v_a => k_is); (case v_l => k_is); (case v_c => k_is); (case v_k => k_is))
  (case u_d23 => refine' Pu.defAt_mk ?v_a ?v_l ?v_c ?v_k; (case v_a => k_is); (case v_l => k_is); (case v_c => k_is); (case v_k => k_is))
  (case u_d24 => refine' Pu.defAt_mk ?v_a ?v_l ?v_c ?v_k; (case v_a => k_is); (case v_l => k_is); (case v_c => k_is); (case v_k => k_is))
  (case u_d26 => refine' Pu.defAt_mk ?v_a ?v_l ?v_c ?v_k; (case v_a => k_is); (case v_l => k_is); (case v_c => k_is); (case v_k => k_is))
  (case u_d27 => refine' Pu.defAt_mk ?v_a ?v_l ?v_c ?v_k; (case v_a => k_is); (case v_l => k_is); (case v_c => k_is); (case v_k => k_is))
  (case u_d28 => refine' Pu.defAt_mk ?v_a ?v_l ?v_c ?v_k; (case v_a => k_is); (case v_l => k_is); (case v_c => k_is); (case v_k => k_is))
  (case u_d29 => refine' Pu.defAt_mk ?v_a ?v_l ?v_c ?v_k; (case v_a => k_is); (case v_l => k_is); (case v_c => k_is); (case v_k => k_is))
  (case u_d31 => refine' Pu.defAt_mk ?v_a ?v_l ?v_c ?v_k; (case v_a => k_is); (case v_l => k_is); (case v_c => k_is); (case v_k => k_is))
  (case u_d32 => refine' Pu.defAt_mk ?v_a ?v_l ?v_c ?v_k; (case v_a => k_is); (case v_l => k_is); (case v_c => k_is); (case v_k => k_is))
  (case u_d33 => refine' Pu.defAt_mk ?v_a ?v_l ?v_c ?v_k; (case v_a => k_is); (case v_l => k_is); (case v_c => k_is); (case v_k => k_is))
  (case u_d34 => refine' Pu.defAt_mk ?v_a ?v_l ?v_c ?v_k; (case v_a => k_is); (case v_l => k_is); (case v_c => k_is); (case v_k => k_is))
  (case u_d35 => refine' Pu.defAt_mk ?v_a ?v_l ?v_c ?v_k; (case v_a => k_is); (case v_l => k_is); (case v_c => k_is); (case v_k => k_is))
  (case u_d36 => refine' Pu.defAt_mk ?v_a ?v_l ?v_c ?v_k; (case v_a => k_is); (case v_l => k_is); (case v_c => k_is); (case v_k => k_is))
  (case u_d37 => refine' Pu.defAt_mk ?v_a ?v_l ?v_c ?v_k; (case v_a => k_is); (case v_l => k_is); (case v_c => k_is); (case v_k => k_is))
  (case u_d38 => refine' Pu.defAt_mk ?v_a ?v_l ?v_c ?v_k; (case v_a => k_is); (case v_l => k_is); (case v_c => k_is); (case v_k => k_is))
  (case u_d39 => refine' Pu.defAt_mk ?v_a ?v_l ?v_c ?v_k; (case v_a => k_is); (case v_l => k_is); (case v_c => k_is); (case v_k => k_is))
  (case u_d40 => refine' Pu.defAt_mk ?v_a ?v_l ?v_c ?v_k; (case v_a => k_is); (case v_l => k_is); (case v_c => k_is); (case v_k => k_is))
  (case u_d41 => refine' Pu.defAt_mk ?v_a ?v_l ?v_c ?v_k; (case v_a => k_is); (case v_l => k_is); (case v_c => k_is); (case v_k => k_is))
  (case u_d42 => refine' Pu.defAt_mk ?v_a ?v_l ?v_c ?v_k; (case v_a => k_is); (case v_l => k_is); (case v_c => k_is); (case v_k => k_is))
  (case u_d30 => refine' Pu.defAt_mk ?v_a ?v_l ?v_c ?v_k; (case v_a => k_is); (case v_l => k_is); (case v_c => k_is); (case v_k => k_is))
  (case u_n1 => k_is)
  (case u_n8 => k_is)
  (case u_n13 => k_is)
  (case u_z_isinstance => k_is)
  (case u_z_int => k_is)
  (case u_z_bool => k_is)
  (case u_z_tuple => k_is)
  (case u_z_len => k_is)
  (case u_z_all => k_is)
  (case u_z_sum => k_is)
  (case u_z_abs => k_is)
  (case u_z_list => k_is)
  (case u_z_range => k_is)
  (case u_z_min => k_is)
  (case u_z_str => k_is)
  (case u_z_sorted => k_is)
  (case u_z_set => k_is)
  (case u_cl =>
    refine' ⟨?w1, ?w2, ?w3, ?w4, ?w5, ?w6, ?w7, ?w8, ?w9, ?w10, ?w11, ?w12, ?w13, ?w14, ?w15, ?w16, ?w17, ?w18⟩
    (case w1 => k_is); (case w2 => k_is); (case w3 => k_exc); (case w4 => k_is); (case w5 => k_is); (case w6 => k_is); (case w7 => k_is); (case w8 => k_is); (case w9 => k_is)
    (case w10 => k_is); (case w11 => k_is); (case w12 => k_is); (case w13 => k_is); (case w14 => kernel_rfl); (case w15 => k_is); (case w16 => k_is); (case w17 => k_is); (case w18 => k_is))
