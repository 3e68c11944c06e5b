import PyProof.Rows.All
import Wide.All
import OpenK.AllK
import Wide.FinOn
import HandS.Base
import HandS.Words
import HandS.ExcField
import HandS.Defaults
import HandS.Head0
import HandS.Head1
import HandS.Head2
import HandS.HeadHook1
import HandS.HeadHook2
import HandS.Call
import HandS.List
import HandS.Comp
import HandS.Dict
import HandS.Lambda
import HandS.Codes
import HandS.Wide
import HandS.IsInst
import HandS.TupAny
import HandS.Style
import HandS.EndTab
import PyProof.ReprRoads
import HandS.ExcInit
import HandS.ExcValue
import HandS.ExcIs
import PyProof.ReprLen
import HandS.Walk
import PySem.Challenge.RW_pursesapart_k08_errors_and_what_they_tel
set_option Elab.async false
set_option linter.all false
set_option maxRecDepth 100000
set_option maxHeartbeats 0
namespace Pu
open PySem L2
def top (i : Nat) : Stmt := PySem.Challenge.pw_pursesapart_k08_errors_and_what_they_tel.main.body.getD i (.Pass ⟨0, 0, 0, 0⟩)
abbrev iniS (i : Nat) : Stmt := inClass (top i) 0
abbrev sLaw : Stmt := top 82
def nmG : List Str := (["BadAct", "BadAgreed", "BadAmount", "BadBank", "BadBook"] : List Str) ++ ((["BadBooks", "BadCell", "BadCells", "BadCertificate", "BadCertificates"] : List Str) ++ ((["BadCharter", "BadCheats", "BadContent", "BadDisk", "BadEnd"] : List Str) ++ ((["BadFrame", "BadFuse", "BadHands", "BadKept", "BadLeast"] : List Str) ++ ((["BadLetter", "BadLiars", "BadLot", "BadMany", "BadMember"] : List Str) ++ ((["BadMembers", "BadName", "BadNumber", "BadOwner", "BadOwners"] : List Str) ++ ((["BadPaper", "BadPart", "BadPayment", "BadPayments", "BadPicks"] : List Str) ++ ((["BadPlan", "BadProposer", "BadProposers", "BadPurse", "BadPurses"] : List Str) ++ ((["BadRow", "BadRule", "BadRun", "BadSequence", "BadShelf"] : List Str) ++ ((["BadSplit", "BadSteps", "BadTimes", "BadTrust", "BadVote"] : List Str) ++ ((["BadVotes", "BadWeaving", "BadWeb", "BadWho", "BadWishes"] : List Str) ++ ((["Busy", "Empty", "Fell", "FewLie", "Gone"] : List Str) ++ ((["NoClash", "NotGone", "NotHere", "NotRight", "TooMany"] : List Str)))))))))))))
def nmA : List Str := (["BadAct", "BadAgreed", "BadAmount"] : List Str) ++ ((["BadBank", "BadBook", "BadBooks"] : List Str) ++ ((["BadCell", "BadCells", "BadCertificate"] : List Str) ++ ((["BadCertificates", "BadCharter", "BadCheats"] : List Str) ++ ((["BadContent", "BadDisk", "BadEnd"] : List Str) ++ ((["BadFrame", "BadFuse", "BadHands"] : List Str) ++ ((["BadKept", "BadLeast", "BadLetter"] : List Str) ++ ((["BadLiars", "BadLot", "BadMany"] : List Str) ++ ((["BadMember", "BadMembers", "BadName"] : List Str) ++ ((["BadNumber", "BadOwner", "BadOwners"] : List Str) ++ ((["BadPaper", "BadPart", "BadPayment"] : List Str) ++ ((["BadPayments", "BadPicks", "BadPlan"] : List Str) ++ ((["BadProposer", "BadProposers", "BadPurse"] : List Str) ++ ((["BadPurses", "BadRow", "BadRule"] : List Str) ++ ((["BadRun", "BadSequence", "BadShelf"] : List Str) ++ ((["BadSplit", "BadSteps", "BadTimes"] : List Str) ++ ((["BadTrust", "BadVote", "BadVotes"] : List Str) ++ ((["BadWeaving", "BadWeb", "BadWho"] : List Str) ++ ((["BadWishes", "Busy", "Empty"] : List Str) ++ ((["Fell", "FewLie", "Gone"] : List Str) ++ ((["NoClash", "NotGone", "NotHere"] : List Str) ++ ((["NotRight", "TooMany"] : List Str) ++ ((["BadText", "Clash", "MoreLie"] : List Str) ++ ((["NotSettling", "Poor", "StillHeld"] : List Str))))))))))))))))))))))))
def cf (K : PySem.W.Frag) (x : Str) : Addr := match PySem.W.nsIn K mainGlobals x with
  | some (some (.ref a)) => a
  | _ => 0
def isR (K : PySem.W.Frag) (x : Str) : Bool := match PySem.W.nsIn K mainGlobals x with
  | some (some (.ref _)) => true
  | _ => false
abbrev bmV : List Value := [.type "ValueError", .type "Exception", .type "BaseException", .type "object"]
def exB (K : PySem.W.Frag) (D : Addr) : Bool :=
  decide (PySem.W.findIn K (.ref D) "__getattribute__" = some (some (.builtin "BaseException.__getattribute__"))) && (decide (PySem.W.findIn K (.ref D) "__getattr__" = some none) && (decide (PySem.W.subIn K (.ref D) (.type "BaseException") = some true) &&
  (PySem.W.hasDictIn K D && (decide (PySem.W.findIn K (.ref D) "__class__" = some (some (.builtin "object.__class__"))) && (decide (PySem.W.specialIn K (.builtin "object.__class__") "__get__" = some (some (.builtin "getset_descriptor.__get__"))) &&
  (decide (PySem.W.takesIn K (.builtin "object.__class__") = some true) && decide (PySem.W.mroIn K D (.type "object") = some true)))))))
def clsB (K : PySem.W.Frag) (mro : List Value) (D : Addr) : Bool := decide ((PySem.W.clsIn K D).map (·.mro) = some mro) && decide (PySem.W.typeIn K (.ref D) = some (.type "type"))
def oneB (K : PySem.W.Frag) (PE0 : Addr) (x : Str) : Bool := isR K x && (clsB K (.ref (cf K x) :: .ref PE0 :: bmV) (cf K x) && (exB K (cf K x) && !decide (cf K x = PE0)))
def madeB (K : PySem.W.Frag) (x : Str) : Bool := PySem.W.excIn K (cf K x) bmV "ValueError.__new__" && PySem.W.keepIn K (.ref (cf K x))
def apartB : List Addr → Bool
  | [] => true
  | a :: r => (r.all fun b => !Nat.beq a b) && apartB r
def oexB (K : PySem.W.Frag) (D : Addr) : Bool := match K.lookup D with
  | some ⟨.type "type", _, .cls k, slots⟩ => (match k.mro, slots.toList with
    | .ref D' :: tl, [_, _, _, _, some (.builtin nw), _] => D' == D && (nw == "ValueError.__new__" && (!k.hasDel && (k.hasDict && PySem.HandSPX.refsVE tl)))
    | _, _ => false)
  | _ => false
def iniA (K : PySem.W.Frag) (x : Str) : Addr := He.ma K (cf K x) "__init__"
def sixB (K : PySem.W.Frag) (x : Str) (fl : List Str) : Bool := oexB K (cf K x) && (decide (PySem.W.findIn K (.ref (cf K x)) "__setattr__" = some (some (.builtin "object.__setattr__"))) && (decide (PySem.W.subIn K (.ref (cf K x)) (.type "BaseException") = some true) &&
  (PySem.W.keepIn K (.ref (cf K x)) && (xfB K (cf K x) && ((fl.all fun f => decide (PySem.W.findIn K (.ref (cf K x)) f = some none)) && (decide (PySem.W.findIn K (.ref (cf K x)) "__init__" = some (some (.ref (iniA K x)))) && decide (PySem.W.typeIn K (.ref (iniA K x)) = some (.type "function"))))))))
abbrev dfG (x : Str) (st : Stmt) : He.DefD := ⟨(x, none), x, x, defArgs st, defBody st, defScope st, [], []⟩
abbrev dfI (x q : Str) (st : Stmt) : He.DefD := ⟨(x, some "__init__"), "__init__", q, defArgs st, defBody st, defScope st, [], []⟩
def fnL : List He.DefD := [dfG "_law_begun" (top 74), dfG "_law_blended" (top 75), dfG "_law_draw" (top 76), dfG "_law_pick" (top 77), dfG "_law_er_made" (top 78), dfG "_law_er_kinds" (top 79), dfG "_law_er_named" (top 80), dfG "_law_er_placed" (top 81), dfG "law" sLaw, dfI "BadText" "BadText.__init__" (iniS 49), dfI "MoreLie" "MoreLie.__init__" (iniS 64), dfI "NotSettling" "NotSettling.__init__" (iniS 69), dfI "Poor" "Poor.__init__" (iniS 70), dfI "StillHeld" "StillHeld.__init__" (iniS 71), dfI "Clash" "Clash.__init__" (iniS 59)]
def faL : List He.Fa := [.glo "_law_begun", .glo "_law_blended", .glo "_law_draw", .glo "_law_pick", .glo "_law_er_made", .glo "_law_er_kinds", .glo "_law_er_named", .glo "_law_er_placed", .glo "law", .free "isinstance", .free "range", .free "min", .free "len", .free "tuple", .free "str", .free "enumerate", .free "repr", .free "ValueError", .free "int", .free "abs"]
abbrev R8 : PySem.W.OpenRow := PySem.W.OpenLaw.row PySem.Challenge.rw_pursesapart_k08_errors_and_what_they_tel
def loose8 : List Str := (["PurseError", "BadAct", "BadAgreed", "BadAmount", "BadBank", "BadBook", "BadBooks", "BadCell", "BadCells", "BadCertificate", "BadCertificates", "BadCharter", "BadCheats", "BadContent", "BadDisk", "BadEnd", "BadFrame", "BadFuse", "BadHands", "BadKept", "BadLeast", "BadLetter", "BadLiars", "BadLot", "BadMany", "BadMember", "BadMembers", "BadName", "BadNumber", "BadOwner"] : List Str) ++ (["BadOwners", "BadPaper", "BadPart", "BadPayment", "BadPayments", "BadPicks", "BadPlan", "BadProposer", "BadProposers", "BadPurse", "BadPurses", "BadRow", "BadRule", "BadRun", "BadSequence", "BadShelf", "BadSplit", "BadSteps", "BadText", "BadTimes", "BadTrust", "BadVote", "BadVotes", "BadWeaving", "BadWeb", "BadWho", "BadWishes", "Busy", "Clash", "Empty"] : List Str) ++ (["Fell", "FewLie", "Gone", "MoreLie", "NoClash", "NotGone", "NotHere", "NotRight", "NotSettling", "Poor", "StillHeld", "TooMany", "_law_begun", "_law_blended", "_law_draw", "_law_pick", "_law_er_made", "_law_er_kinds", "_law_er_named", "_law_er_placed"] : List Str)
abbrev q8 : Program := PySem.W.view R8.prog [82]
abbrev d8 : PySem.DefRec := HandSHeadRun.topDef R8.prog 82
def ex1 (K : PySem.W.Frag) : Bool := isR K "PurseError" && (nmA.all fun x => oneB K (cf K "PurseError") x)
def ex2 (K : PySem.W.Frag) : Bool := (nmG.all fun x => madeB K x) && (apartB (nmA.map (cf K)) && (clsB K (.ref (cf K "PurseError") :: bmV) (cf K "PurseError") && (exB K (cf K "PurseError") &&
  (PySem.W.excIn K (cf K "PurseError") bmV "ValueError.__new__" && (PySem.W.keepIn K (.ref (cf K "PurseError")) && (sixB K "BadText" ["line"] && (sixB K "MoreLie" ["liars"] && (sixB K "NotSettling" ["most"] && (sixB K "Poor" ["has"] && (sixB K "StillHeld" ["holder"] && (sixB K "Clash" ["one", "other"])))))))))))
def fr8 (g : Addr → Option Obj) : PySem.W.Frag := He.frG g (He.asD g 4)
noncomputable def run0 (w : World) (os : OsState) : Option PySem.W.SharedT := HandSHeadRun.endF (HandSHeadRun.stepQ (HandSHeadRun.denQ HandSHeadRun.tabQ) R8.prog w) 16400 R8.prog w os
end Pu

namespace Pu
open PySem PySem.W L2
theorem runA (w : World) (os : OsState) : (run0 w os).map (fun s => (HandSHeadRun.looksF R8.prog (boot_heap w.params) s.abs, HandSHeadRun.seenQ q8 loose8 (importedModules R8.prog.main.body) (fun s => PySem.W.xlAt q8 [] s && PySem.W.recOk R8.toRowW.records s) s.abs)) = some (true, PySem.W.openGood q8 loose8) := by
  kernel_rfl
end Pu

namespace Pu
open PySem PySem.W L2
theorem runB (w : World) (os : OsState) : (run0 w os).map (fun s => He.obsD faL fnL (fr8 (HandSHeadRun.getT s))) = some (He.valD fnL) := by
  kernel_rfl
end Pu

namespace Pu
open PySem PySem.W L2
theorem runB2 (w : World) (os : OsState) : (run0 w os).map (fun s => ex1 (fr8 (HandSHeadRun.getT s))) = some true := by
  kernel_rfl
end Pu

namespace Pu
open PySem PySem.W L2
theorem runC (w : World) (os : OsState) : (run0 w os).map (fun s => ex2 (fr8 (HandSHeadRun.getT s))) = some true := by
  kernel_rfl
end Pu

namespace Pu
open PySem L2
abbrev sBegun : Stmt := top 74
abbrev sBlend : Stmt := top 75
abbrev sDraw : Stmt := top 76
abbrev sPick : Stmt := top 77

/-! ### heaps: all stays but at the state's dict d and the list g -/
def Kp (d g : Addr) (H H' : Hp) : Prop := ∀ b o, H b = some o → b ≠ d → b ≠ g → H' b = some o
theorem Kp.refl (d g : Addr) (H : Hp) : Kp d g H H := fun _ _ h _ _ => h
theorem Kp.trans {d g : Addr} {H H1 H2 : Hp} (a : Kp d g H H1) (b : Kp d g H1 H2) : Kp d g H H2 := fun c o h x y => b c o (a c o h x y) x y
theorem Kp.of {d g : Addr} {H H' : Hp} (s : Same H H') : Kp d g H H' := fun c o h _ _ => s c o h
theorem Kp.new {d g p : Addr} {H : Hp} {o : HO} (n : H p = none) : Kp d g H (upd H p o) := fun c u h _ _ => by
  rw [upd_ne (ne_of_none h n)]; exact h
theorem Kp.atD {d g : Addr} {H : Hp} {o : HO} : Kp d g H (upd H d o) := fun c u h x _ => by
  rw [upd_ne x]; exact h
theorem Kp.atG {d g : Addr} {H : Hp} {o : HO} : Kp d g H (upd H g o) := fun c u h _ y => by
  rw [upd_ne y]; exact h
theorem Kp.rd {d g a : Addr} {H H' : Hp} {u : HO} (k : Kp d g H H') (h : Rd H a u) (x : a ≠ d) (y : a ≠ g) : Rd H' a u := by
  rcases h with h | ⟨o, h⟩
  · exact .inl (k _ _ h x y)
  · exact .inr ⟨o, k _ _ h x y⟩
theorem Kp.seqL {K : PySem.W.Frag} {d g a : Addr} {H H' : Hp} {xs : List V} (k : Kp d g H H') (h : SqL K H a xs) (x : a ≠ d) (y : a ≠ g) : SqL K H' a xs := by
  rcases h with h | h
  · exact .inl (k.rd h x y)
  · exact .inr h
theorem Kp.seqT {K : PySem.W.Frag} {d g a : Addr} {H H' : Hp} {xs : List V} (k : Kp d g H H') (h : SqT K H a xs) (x : a ≠ d) (y : a ≠ g) : SqT K H' a xs := by
  rcases h with h | h
  · exact .inl (k.rd h x y)
  · exact .inr h

/-! ### the state of the draws -/
theorem n_gc : ¬ (("great" : Str) = "cells") := by decide +kernel
theorem n_gl : ¬ (("great" : Str) = "left") := by decide +kernel
theorem n_gt : ¬ (("great" : Str) = "turn") := by decide +kernel
theorem n_cl : ¬ (("cells" : Str) = "left") := by decide +kernel
theorem n_ct : ¬ (("cells" : Str) = "turn") := by decide +kernel
theorem n_lt : ¬ (("left" : Str) = "turn") := by decide +kernel
theorem n_tl : ¬ (("turn" : Str) = "left") := by decide +kernel
def stk (g c : Addr) (l t : Int) : List (Key × V) := [(.inr "great", .ref g), (.inr "cells", .ref c), (.inr "left", .int l), (.inr "turn", .int t)]
theorem stk_great (g c : Addr) (l t : Int) : valV (stk g c l t) (.inr "great" : Key) = some (.ref g) := valV_pos rfl
theorem stk_cells (g c : Addr) (l t : Int) : valV (stk g c l t) (.inr "cells" : Key) = some (.ref c) :=
  (valV_neg fun e => n_gc (Sum.inr.inj e)).trans (valV_pos rfl)
theorem stk_left (g c : Addr) (l t : Int) : valV (stk g c l t) (.inr "left" : Key) = some (.int l) :=
  (valV_neg fun e => n_gl (Sum.inr.inj e)).trans ((valV_neg fun e => n_cl (Sum.inr.inj e)).trans (valV_pos rfl))
theorem stk_turn (g c : Addr) (l t : Int) : valV (stk g c l t) (.inr "turn" : Key) = some (.int t) :=
  (valV_neg fun e => n_gt (Sum.inr.inj e)).trans ((valV_neg fun e => n_ct (Sum.inr.inj e)).trans ((valV_neg fun e => n_lt (Sum.inr.inj e)).trans (valV_pos rfl)))
theorem stk_putL (g c : Addr) (l t z : Int) : putK (stk g c l t) (.inr "left" : Key) (.int z) = stk g c z t := by
  unfold putK
  rw [valV_any, stk_left]
  rw [if_pos (by rfl)]
  simp only [stk, List.map_cons, List.map_nil, Sum.inr.injEq, n_gl, n_cl, n_tl, if_true, if_false]
theorem stk_putT (g c : Addr) (l t z : Int) : putK (stk g c l t) (.inr "turn" : Key) (.int z) = stk g c l z := by
  unfold putK
  rw [valV_any, stk_turn]
  rw [if_pos (by rfl)]
  simp only [stk, List.map_cons, List.map_nil, Sum.inr.injEq, n_gt, n_ct, n_lt, if_true, if_false]
theorem stk_merge (g c : Addr) (l t : Int) : mergeK [] (stk g c l t) = stk g c l t := by
  have e1 : putK ([] : List (Key × V)) (.inr "great") (.ref g) = [(.inr "great", .ref g)] := putK_new _ rfl
  have e2 : putK ([(.inr "great", .ref g)] : List (Key × V)) (.inr "cells") (.ref c) = [(.inr "great", .ref g), (.inr "cells", .ref c)] :=
    putK_new _ ((valV_neg fun e => n_gc (Sum.inr.inj e)).trans rfl)
  have e3 : putK ([(.inr "great", .ref g), (.inr "cells", .ref c)] : List (Key × V)) (.inr "left") (.int l) = [(.inr "great", .ref g), (.inr "cells", .ref c), (.inr "left", .int l)] :=
    putK_new _ ((valV_neg fun e => n_gl (Sum.inr.inj e)).trans ((valV_neg fun e => n_cl (Sum.inr.inj e)).trans rfl))
  have e4 : putK ([(.inr "great", .ref g), (.inr "cells", .ref c), (.inr "left", .int l)] : List (Key × V)) (.inr "turn") (.int t) = stk g c l t :=
    putK_new _ ((valV_neg fun e => n_gt (Sum.inr.inj e)).trans ((valV_neg fun e => n_ct (Sum.inr.inj e)).trans ((valV_neg fun e => n_lt (Sum.inr.inj e)).trans rfl)))
  show putK (putK (putK (putK ([] : List (Key × V)) (.inr "great") (.ref g)) (.inr "cells") (.ref c)) (.inr "left") (.int l)) (.inr "turn") (.int t) = _
  rw [e1, e2, e3, e4]
/-- the state stands at d: its lists at g and c, T the most turns that were -/
structure StA (H : Hp) (d g c : Addr) (T : Int) : Prop where
  dk : ∃ l t, H d = some (.dK (stk g c l t)) ∧ 0 ≤ l ∧ 0 ≤ t ∧ t ≤ T
  gr : ∃ gs : List Int, H g = some (.lst (gs.map V.int)) ∧ ∀ z ∈ gs, 0 ≤ z
  ce : ∃ cs : List Int, H c = some (.lst (cs.map V.int)) ∧ ∀ z ∈ cs, 0 ≤ z
  gc : g ≠ c
theorem StA.dg {H : Hp} {d g c : Addr} {T : Int} (S : StA H d g c T) : d ≠ g := by
  obtain ⟨l, t, h, _⟩ := S.dk; obtain ⟨gs, h2, _⟩ := S.gr
  exact ne_of h h2 (by intro z; cases z)
theorem StA.dc {H : Hp} {d g c : Addr} {T : Int} (S : StA H d g c T) : d ≠ c := by
  obtain ⟨l, t, h, _⟩ := S.dk; obtain ⟨gs, h2, _⟩ := S.ce
  exact ne_of h h2 (by intro z; cases z)
theorem StA.mono {H : Hp} {d g c : Addr} {T T' : Int} (S : StA H d g c T) (h : T ≤ T') : StA H d g c T' := by
  obtain ⟨l, t, h1, h2, h3, h4⟩ := S.dk
  exact ⟨⟨l, t, h1, h2, h3, Int.le_trans h4 h⟩, S.gr, S.ce, S.gc⟩
theorem StA.same {H H' : Hp} {d g c : Addr} {T : Int} (S : StA H d g c T) (s : Same H H') : StA H' d g c T := by
  obtain ⟨l, t, h1, h2, h3, h4⟩ := S.dk
  obtain ⟨gs, h5, h6⟩ := S.gr
  obtain ⟨cs, h7, h8⟩ := S.ce
  exact ⟨⟨l, t, s _ _ h1, h2, h3, h4⟩, ⟨gs, s _ _ h5, h6⟩, ⟨cs, s _ _ h7, h8⟩, S.gc⟩
theorem StA.new {H : Hp} {d g c p : Addr} {T : Int} {o : HO} (S : StA H d g c T) (n : H p = none) : StA (upd H p o) d g c T :=
  S.same fun b u e => by rw [upd_ne (ne_of_none e n)]; exact e
/-- the bound of the turns: far beyond what a law draws -/
abbrev TB : Int := 1000000000000

def spBegun (K : PySem.W.Frag) : Sp := fun vs H Q _ => ∃ (a : Addr) (ns : List Int), vs = [.ref a] ∧ SqL K H a (ns.map V.int) ∧ ns.length ≤ 1000 ∧
  ∀ (d g c : Addr) (H' : Hp), Same H H' → H d = none → H g = none → H c = none → StA H' d g c 0 → Q (.ref d) H'
def spBlend : Sp := fun vs H Q _ => ∃ (d g c : Addr) (T : Int), vs = [.ref d] ∧ StA H d g c T ∧ T < TB ∧
  ∀ (f : Int) (H' : Hp), 0 ≤ f → Kp d g H H' → StA H' d g c (T + 1) → Q (.int f) H'
def spDraw : Sp := fun vs H Q _ => ∃ (d g c : Addr) (T n : Int), vs = [.ref d, .int n] ∧ StA H d g c T ∧ T < TB ∧ 0 < n ∧ n ≤ 1000000000000000000 ∧
  ∀ (r : Int) (H' : Hp), 0 ≤ r → r < n → Kp d g H H' → StA H' d g c (T + 1) → Q (.int r) H'
def spPick (K : PySem.W.Frag) : Sp := fun vs H Q _ => ∃ (d g c p : Addr) (T : Int) (xs : List V), vs = [.ref d, .ref p] ∧ StA H d g c T ∧ T < TB ∧ (SqL K H p xs ∨ SqT K H p xs) ∧ p ≠ d ∧ p ≠ g ∧ xs ≠ [] ∧ xs.length ≤ 100000 ∧
  ∀ (x : V) (H' : Hp), x ∈ xs → Kp d g H H' → StA H' d g c (T + 1) → Q x H'
end Pu

namespace Pu
open PySem L2
theorem getS {H : Hp} {d : Addr} {kvs : List (Key × V)} {k : Key} {v : V} (h : H d = some (.dK kvs)) (e : valV kvs k = some v) : DGet H d (kV k) (some v) := e ▸ DGet.k h
def primes : List Int := [2147483249, 2147483237, 2147483179]
theorem prime_at {i : Nat} {y : V} (h : (primes.map V.int)[i]? = some y) : ∃ z : Int, y = .int z ∧ 0 < z ∧ z < 2147483648 := by
  match i, h with
  | 0, h => exact ⟨_, (Option.some.inj h).symm, by decide, by decide⟩
  | 1, h => exact ⟨_, (Option.some.inj h).symm, by decide, by decide⟩
  | 2, h => exact ⟨_, (Option.some.inj h).symm, by decide, by decide⟩
  | n + 3, h => cases h
theorem int_at {ns : List Int} {i : Nat} {y : V} (h : (ns.map V.int)[i]? = some y) : ∃ z, ns[i]? = some z ∧ y = .int z := by
  rw [List.getElem?_map] at h
  cases e : ns[i]? with
  | none => rw [e] at h; cases h
  | some z => rw [e] at h; exact ⟨z, rfl, (Option.some.inj h).symm⟩
section
variable {P : Program} {w : World} {K : PySem.W.Frag} {mg : Str → Option Value} {base : Heap}
theorem scBl : FnScope ["state", "turn", "found", "prime", "blend", "cell"] ["state"] (defScope sBlend) := ⟨rfl, rfl, rfl, by decide +kernel, rfl, by decide +kernel, by decide +kernel⟩
theorem ok_blend {f : Addr} {fd : FuncData} (F : Fun K "_law_blended" "_law_blended" sBlend f fd) (mi : mg "int" = none) : FnOk P w K mg base CX0 1 f fd ["state"] spBlend := by
  refine F.ok scBl (fun vs H Q E h => ?_) (fun cdv A outer s H vs Q E hr h => ?_)
  · obtain ⟨d, g, c, T, rfl, _⟩ := h
    rfl
  · obtain ⟨d, g, c, T, rfl, S, hT, k⟩ := h
    have hu := hu_of hr
    have hT' : T < 1000000000000 := hT
    obtain ⟨⟨l, t, hd, l0, t0, tT⟩, ⟨gs, hg, g0⟩, ⟨cs, hc, c0⟩, gc⟩ := id S
    refine ⟨_, pss_cons (ps_par (i := 1) (j := 2) rfl scBl.nd rfl rfl (by decide) rfl rfl (pa_cons (pe_op op_add (pe_dget hu (pv 0) pe_str (fun _ _ => rfl)) pe_int) (pa_cons pe_int pa_nil)) (by rfl))
      (pss_cons (ps_dput hu (pv 0) pe_str (pv 1) rfl)
      (pss_cons (ps_for PassesOwn.never rfl (pi_list (pe_lst (pa_cons pe_int (pa_cons pe_int (pa_cons pe_int pa_nil))))) (pg_name (i := 3) scBl.nd rfl (Or.inl rfl))
        (pss_cons (ps_set (i := 4) scBl.nd rfl (Or.inl rfl) (pe_op op_add (pe_op op_mul pe_int (pv 1)) (pe_op op_fdiv (pv 3) pe_int)))
        (pss_cons (ps_for PassesOwn.never rfl (pi_list (pe_dget hu (pv 0) pe_str (fun _ _ => rfl))) (pg_name (i := 5) scBl.nd rfl (Or.inl rfl))
          (pss_one (ps_set (i := 4) scBl.nd rfl (Or.inl rfl) (pe_op op_mod (pe_callTy call_int1 (by rfl) mi (by decide +kernel) (pa_cons (pe_op op_add (pe_op op_add (pe_op op_mul (pv 4) pe_int) (pv 5)) (pv 1)) pa_nil)) (pv 3)))))
        (pss_one (ps_set (i := 2) scBl.nd rfl (Or.inl rfl) (pe_op op_add (pe_op op_mul (pv 2) pe_int) (pe_op op_mod (pe_callTy call_int1 (by rfl) mi (by decide +kernel) (pa_cons (pe_op op_pow (pv 4) pe_int) pa_nil)) (pv 3))))))))
      (pss_one (ps_ret (pv 2))))), ?_⟩
    refine ⟨_, rfl, d, .int t, rfl, getS hd (stk_turn g c l t), t, 1, rfl, rfl, .int (t + 1), .int 0, rfl, ?_⟩
    refine ⟨_, rfl, _, rfl, d, _, rfl, DPut.k (k := Sum.inr "turn") hd (by show 4 < sizeLine; decide), ?_⟩
    rw [stk_putT]
    have hdc := S.dc
    have hdg := S.dg
    refine ⟨(by show 3 ≤ sizeLine; decide), fun p hp => ?_⟩
    have np : H p = none := by
      by_cases e : p = d
      · rw [e, upd_same] at hp; cases hp
      · rw [upd_ne e] at hp; exact hp
    have pd : d ≠ p := ne_of_none hd np
    have pg : g ≠ p := ne_of_none hg np
    have pc : c ≠ p := ne_of_none hc np
    obtain ⟨H2, eH⟩ : ∃ H2, H2 = upd (upd H d (.dK (stk g c l (t + 1)))) p (.lst [V.int 2147483249, V.int 2147483237, V.int 2147483179]) := ⟨_, rfl⟩
    have hd2 : H2 d = some (.dK (stk g c l (t + 1))) := by rw [eH, upd_ne pd, upd_same]
    have hg2 : H2 g = some (.lst (gs.map V.int)) := by rw [eH, upd_ne pg, upd_ne hdg.symm]; exact hg
    have hc2 : H2 c = some (.lst (cs.map V.int)) := by rw [eH, upd_ne pc, upd_ne hdc.symm]; exact hc
    have kp : Kp d g H H2 := by rw [eH]; exact Kp.trans Kp.atD (Kp.new hp)
    have hp2 : H2 p = some (.lst (primes.map V.int)) := by rw [eH]; exact upd_same
    rw [← eH]
    clear eH
    refine ⟨p, rfl, ⟨_, SqL.of hp2⟩, for_list (K := K) (a := p) (xs := primes.map V.int)
      (fun i σ H' => H2 = H' ∧ ∃ (f : Int) (o3 o4 o5 : Option V), σ = [some (.ref d), some (.int (t + 1)), some (.int f), o3, o4, o5] ∧ 0 ≤ f)
      ⟨rfl, 0, none, none, none, rfl, Int.le_refl 0⟩ (fun i σ H' _ h => by obtain ⟨rfl, _⟩ := h; exact SqL.of hp2) ?_ ?_⟩
    · rintro i y σ H' hi ⟨rfl, f, o3, o4, o5, rfl, hf⟩
      obtain ⟨z, rfl, z0, z1⟩ := prime_at hi
      refine ⟨_, rfl, _, _, rfl, rfl, .inl ⟨by decide, by decide⟩, _, rfl, z, 73, rfl, rfl, ⟨by decide, by decide⟩, _, _, rfl, rfl, ?_⟩
      -- for cell in state['cells']
      have q0 : (0 : Int) ≤ z / 73 := Int.ediv_nonneg (by omega) (by decide)
      have q1 : z / 73 ≤ z := Int.ediv_le_self _ (by omega)
      refine ⟨_, rfl, d, _, rfl, getS hd2 (stk_cells g c l (t + 1)), c, rfl, ⟨_, SqL.of hc2⟩, for_list (K := K) (a := c) (xs := cs.map V.int)
        (fun j σ H' => H2 = H' ∧ ∃ (b : Int) (o5 : Option V), σ = [some (.ref d), some (.int (t + 1)), some (.int f), some (.int z), some (.int b), o5] ∧ 0 ≤ b ∧ b < 2 ^ 64)
        ⟨rfl, _, o5, rfl, by omega, by omega⟩ (fun i σ H' _ h => by obtain ⟨rfl, _⟩ := h; exact SqL.of hc2) ?_ ?_⟩
      · rintro j x σ H' hj ⟨rfl, b, o5, rfl, b0, b1⟩
        obtain ⟨e, _, rfl⟩ := int_at hj
        refine ⟨_, rfl, _, _, rfl, rfl, .inr ⟨by decide, by decide⟩, _, rfl, _, e, rfl, rfl, _, rfl, _, t + 1, rfl, rfl, .inl ⟨_, rfl, _, rfl, _, z, rfl, rfl, z0, ?_⟩⟩
        have m0 := Int.emod_nonneg (b * 69621 + e + (t + 1)) (show z ≠ 0 by omega)
        have m1 := Int.emod_lt_of_pos (b * 69621 + e + (t + 1)) z0
        exact ⟨rfl, _, _, rfl, m0, by omega⟩
      · rintro σ H' ⟨rfl, b, o5, rfl, b0, b1⟩
        refine ⟨_, rfl, _, _, rfl, rfl, .inr ⟨by decide, by decide⟩, _, rfl, b, 5, rfl, rfl, ⟨by decide, by decide, by omega⟩, .inl ⟨_, rfl, _, rfl, _, z, rfl, rfl, z0, _, _, rfl, rfl, ?_⟩⟩
        have m0 := Int.emod_nonneg (b ^ (5 : Int).toNat) (show z ≠ 0 by omega)
        exact ⟨rfl, _, _, _, _, rfl, by omega⟩
    · rintro σ H' ⟨rfl, f, o3, o4, o5, rfl, hf⟩
      refine ⟨_, rfl, ?_⟩
      exact k f _ hf kp ⟨⟨l, t + 1, hd2, l0, by omega, by omega⟩, ⟨gs, hg2, g0⟩, ⟨cs, hc2, c0⟩, gc⟩
end
end Pu

namespace Pu
open PySem L2
theorem dp_ints {K : PySem.W.Frag} {H : Hp} : ∀ gs : List Int, DpAll K H (gs.map V.int) (gs.map PyData.int)
  | [] => .nil
  | i :: r => .cons (.int i) (dp_ints r)
theorem lay_ints : ∀ gs : List Int, PyData.canLayAll0 (gs.map PyData.int) = true
  | [] => rfl
  | i :: r => by
    show (PyData.canLay0 (.int i) && PyData.canLayAll0 (r.map PyData.int)) = true
    rw [lay_ints r]; rfl
theorem dep_ints : ∀ gs : List Int, PyData.depthAll (gs.map PyData.int) = 0
  | [] => rfl
  | i :: r => by
    show max (PyData.depth (.int i)) (PyData.depthAll (r.map PyData.int)) = 0
    rw [dep_ints r]; rfl
theorem shaped_ints (gs : List Int) : SeqAt.shaped (.list (gs.map PyData.int)) = true := by
  show (PyData.canLayAll0 (gs.map PyData.int) && decide (PyData.depthAll (gs.map PyData.int) + 1 ≤ 64)) = true
  rw [lay_ints, dep_ints]; rfl
theorem eqv_nil (gs : List Int) : PyData.eqv (.list (gs.map PyData.int)) (.list []) = gs.isEmpty := by
  cases gs <;> rfl
section
variable {P : Program} {w : World} {K : PySem.W.Frag} {mg : Str → Option Value} {base : Heap}
theorem scDr : FnScope ["state", "size_here", "found"] ["state", "size_here"] (defScope sDraw) := ⟨rfl, rfl, rfl, by decide +kernel, rfl, by decide +kernel, by decide +kernel⟩
/-- behind a bound on the state: what the draw does with what is left -/
theorem ok_draw {f fB : Addr} {fd fdB : FuncData} (F : Fun K "_law_draw" "_law_draw" sDraw f fd) (mi : mg "int" = none)
    (GB : FnOk P w K mg base CX0 1 fB fdB ["state"] spBlend) (bB : Binds K fdB ["state"] []) (kB : PySem.W.keepIn K (.ref fB) = true) (mB : mg "_law_blended" = some (.ref fB)) :
    FnOk P w K mg base CX0 2 f fd ["state", "size_here"] spDraw := by
  refine F.ok scDr (fun vs H Q E h => ?_) (fun cdv A outer s H vs Q E hr h => ?_)
  · obtain ⟨d, g, c, T, n, rfl, _⟩ := h
    rfl
  · obtain ⟨d, g, c, T, n, rfl, S, hT, n0, n1, k⟩ := h
    have hu := hu_of hr
    obtain ⟨⟨l, t, hd, l0, t0, tT⟩, ⟨gs, hg, g0⟩, ⟨cs, hc, c0⟩, gc⟩ := id S
    have hdg := S.dg
    refine ⟨_, C8.pss_cut (ps_if (pt_cmpR op_eq (pe_dget hu (pv 0) pe_str (fun _ _ => rfl)) pe_int (nomark _))
        (pss_one (ps_dput hu (pv 0) pe_str (pe_ifExp (pt_cmpR (op_neD hr.units) (pe_dget hu (pv 0) pe_str (fun _ _ => rfl)) (pe_lst pa_nil) (nomark _))
          (pe_bm PySem.F.plainAttrs_list PySem.F.slot_list_pop PySem.F.type_list_pop mt_popAt (pe_dget hu (pv 0) pe_str (fun _ _ => rfl)) (pa_cons pe_int pa_nil))
          (pe_call GB hr rfl mB kB bB .nil pass0 (pa_cons (pv 0) pa_nil))) rfl)) pss_nil)
      (pss_cons (ps_set (i := 2) scDr.nd rfl (Or.inl rfl) (pe_op op_mod (pe_callTy call_int1 (by rfl) mi (by decide +kernel) (pa_cons (pe_dget hu (pv 0) pe_str (fun _ _ => rfl)) pa_nil)) (pv 1)))
      (pss_cons (ps_dput hu (pv 0) pe_str (pe_op op_fdivW (pe_dget hu (pv 0) pe_str (fun _ _ => rfl)) (pv 1)) rfl)
      (pss_one (ps_ret (pv 2))))), ?_⟩
    -- between: z is left
    refine ⟨fun σ' H' => σ' = [some (.ref d), some (.int n), none] ∧ Kp d g H H' ∧ StA H' d g c (T + 1), ?_, ?_⟩
    · refine ⟨_, rfl, d, _, rfl, getS hd (stk_left g c l t), rfl, _, rfl, ?_⟩
      refine ite2 (fun _ => ?_) (fun _ => ?_)
      · refine ⟨_, rfl, d, _, rfl, getS hd (stk_great g c l t), (by show 0 ≤ sizeLine; exact Nat.zero_le _), fun p hp => ?_⟩
        have pg : g ≠ p := ne_of_none hg hp
        have pd : d ≠ p := ne_of_none hd hp
        have pc : c ≠ p := ne_of_none hc hp
        have kp : Kp d g H (upd H p (.lst [])) := Kp.new hp
        have hg1 : (upd H p (.lst [])) g = some (.lst (gs.map V.int)) := by rw [upd_ne pg]; exact hg
        have hd1 : (upd H p (.lst [])) d = some (.dK (stk g c l t)) := by rw [upd_ne pd]; exact hd
        have hc1 : (upd H p (.lst [])) c = some (.lst (cs.map V.int)) := by rw [upd_ne pc]; exact hc
        have S1 : StA (upd H p (.lst [])) d g c T := S.new hp
        refine ⟨.list (gs.map PyData.int), .list [], .lst (SqL.of hg1) (dp_ints gs), .lst (SqL.of upd_same) .nil, shaped_ints gs, shaped_ints [], _, rfl, ?_⟩
        rw [eqv_nil]
        generalize upd H p (.lst []) = H1 at kp hg1 hd1 hc1 S1
        cases gs with
        | nil =>
          refine iteF ?_
          refine ⟨_, rfl, d, g, c, T, rfl, S1, hT, fun f H2 f0 kp2 S2 => ?_⟩
          obtain ⟨l2, t2, hd2, _, t20, tT2⟩ := S2.dk
          refine ⟨_, rfl, d, _, rfl, DPut.k (k := Sum.inr "left") hd2 (by show 4 < sizeLine; decide), ?_⟩
          rw [stk_putL]
          refine ⟨rfl, (kp.trans kp2).trans Kp.atD, ⟨f, t2, upd_same, f0, t20, tT2⟩, ?_, ?_, gc⟩
          · obtain ⟨gs', h1, h2⟩ := S2.gr
            exact ⟨gs', by rw [upd_ne hdg.symm]; exact h1, h2⟩
          · obtain ⟨cs', h1, h2⟩ := S2.ce
            exact ⟨cs', by rw [upd_ne S.dc.symm]; exact h1, h2⟩
        | cons z r =>
          refine iteT ?_
          refine ⟨_, rfl, d, _, rfl, getS hd1 (stk_great g c l t), .inl ⟨rfl, _, SqL.of hg1⟩, g, _, 0, 0, .int z, rfl, rfl, hg1, by decide, by decide, (ixN_seq (by unfold ixN; simp)).1, rfl, ?_⟩
          have hd2 : (upd H1 g (.lst (((z :: r).map V.int).eraseIdx 0))) d = some (.dK (stk g c l t)) := by rw [upd_ne hdg]; exact hd1
          refine ⟨_, rfl, d, _, rfl, DPut.k (k := Sum.inr "left") hd2 (by show 4 < sizeLine; decide), ?_⟩
          rw [stk_putL]
          refine ⟨rfl, (kp.trans Kp.atG).trans Kp.atD, ⟨z, t, upd_same, g0 z List.mem_cons_self, t0, by omega⟩, ⟨r, ?_, fun y hy => g0 y (List.mem_cons_of_mem _ hy)⟩, ⟨cs, ?_, c0⟩, gc⟩
          · rw [upd_ne hdg.symm]; exact upd_same
          · rw [upd_ne S.dc.symm, upd_ne gc.symm]; exact hc1
      · exact ⟨rfl, Kp.refl d g H, S.mono (by omega)⟩
    · rintro σ' H' ⟨rfl, kp, S'⟩
      obtain ⟨z, t', hd1, z0, t0', tT'⟩ := S'.dk
      have m0 := Int.emod_nonneg z (show n ≠ 0 by omega)
      have m1 := Int.emod_lt_of_pos z n0
      refine ⟨_, rfl, d, _, rfl, getS hd1 (stk_left g c z t'), .inl ⟨z, rfl, _, rfl, z, n, rfl, rfl, n0, ?_⟩⟩
      refine ⟨_, rfl, d, _, rfl, getS hd1 (stk_left g c z t'), _, rfl, z, n, rfl, rfl, wide_div (b := 60) n0 (by omega) (by decide) (by decide), ?_⟩
      refine ⟨_, rfl, d, _, rfl, DPut.k (k := Sum.inr "left") hd1 (by show 4 < sizeLine; decide), ?_⟩
      rw [stk_putL]
      refine ⟨_, rfl, ?_⟩
      refine k _ _ m0 m1 (kp.trans Kp.atD) ⟨⟨z / n, t', upd_same, Int.ediv_nonneg z0 (by omega), t0', tT'⟩, ?_, ?_, gc⟩
      · obtain ⟨gs', h1, h2⟩ := S'.gr
        exact ⟨gs', by rw [upd_ne hdg.symm]; exact h1, h2⟩
      · obtain ⟨cs', h1, h2⟩ := S'.ce
        exact ⟨cs', by rw [upd_ne S.dc.symm]; exact h1, h2⟩
end
end Pu

namespace Pu
open PySem L2
section
variable {P : Program} {w : World} {K : PySem.W.Frag} {mg : Str → Option Value} {base : Heap}
theorem scPi : FnScope ["state", "several"] ["state", "several"] (defScope sPick) := ⟨rfl, rfl, rfl, by decide +kernel, rfl, by decide +kernel, by decide +kernel⟩
theorem ok_pick {f fD : Addr} {fd fdD : FuncData} (F : Fun K "_law_pick" "_law_pick" sPick f fd) (ml : mg "len" = none)
    (GD : FnOk P w K mg base CX0 2 fD fdD ["state", "size_here"] spDraw) (bD : Binds K fdD ["state", "size_here"] []) (kD : PySem.W.keepIn K (.ref fD) = true) (mD : mg "_law_draw" = some (.ref fD)) :
    FnOk P w K mg base CX0 3 f fd ["state", "several"] (spPick K) := by
  refine F.ok scPi (fun vs H Q E h => ?_) (fun cdv A outer s H vs Q E hr h => ?_)
  · obtain ⟨d, g, c, p, T, xs, rfl, _⟩ := h
    rfl
  · obtain ⟨d, g, c, p, T, xs, rfl, S, hT, hx, pd, pg, x0, x1, k⟩ := h
    refine ⟨_, pss_one (ps_ret (pe_ix ix_seq (pv 1) (pe_call GD hr rfl mD kD bD .nil pass0 (pa_cons (pv 0) (pa_cons (pe_callB call_len_seq (by rfl) ml boot_len (pa_cons (pv 1) pa_nil)) pa_nil))) (fun _ _ => rfl))), ?_⟩
    have l0 : 0 < xs.length := List.length_pos_iff.mpr x0
    refine ⟨_, rfl, _, rfl, _, rfl, p, xs, rfl, hx, d, g, c, T, _, rfl, S, hT, by omega, by omega, fun r H' r0 r1 kp S' => ?_⟩
    have hk : r.toNat < xs.length := by omega
    have e : atI xs r = some xs[r.toNat] := by
      have q := atI_nat (xs := xs) (j := r.toNat) (v := xs[r.toNat]) (List.getElem?_eq_getElem hk)
      rw [show ((r.toNat : Nat) : Int) = r by omega] at q
      exact q
    rcases hx with hx | hx
    · exact .inl ⟨p, xs, r, _, rfl, rfl, kp.seqL hx pd pg, e, k _ _ (List.getElem_mem hk) kp S'⟩
    · exact .inr (.inl ⟨p, xs, r, _, rfl, rfl, kp.seqT hx pd pg, e, k _ _ (List.getElem_mem hk) kp S'⟩)

theorem scBe : FnScope ["script", "great", "cell"] ["script"] (defScope sBegun) := ⟨rfl, rfl, rfl, by decide +kernel, rfl, by decide +kernel, by decide +kernel⟩
theorem abs_nn (z : Int) : 0 ≤ (if z < 0 then -z else z) := by split <;> omega
theorem ok_begun {f : Addr} {fd : FuncData} (F : Fun K "_law_begun" "_law_begun" sBegun f fd) (ma : mg "abs" = none) : FnOk P w K mg base CX0 1 f fd ["script"] (spBegun K) := by
  refine F.ok scBe (fun vs H Q E h => ?_) (fun cdv A outer s H vs Q E hr h => ?_)
  · obtain ⟨a, ns, rfl, _⟩ := h
    rfl
  · obtain ⟨a, ns, rfl, hS, hl, k⟩ := h
    refine ⟨_, pss_cons (ps_setLc (i := 1) (own := [("cell", 2)]) (g := gName 2) rfl scBe.nd rfl rfl (sw_true rfl rfl rfl (by decide +kernel)) (pi_list (pv 0)) (blkOk_by (own := [("cell", 2)]) (N := ["script", "great", "cell"]) (sc := defScope sBegun) (by decide +kernel)) (fun _ _ _ _ _ => pg_name (i := 2) scBe.nd rfl (Or.inl rfl))
          (fun _ _ _ _ _ => pts_one (pt_cmpR op_ge (pe_callB call_abs (by rfl) ma (by decide +kernel) (pa_cons (pv 2) pa_nil)) (pe_op op_pow pe_int pe_int) (nomark _)))
          (fun _ _ _ _ _ => pe_op op_sub (pe_callB call_abs (by rfl) ma (by decide +kernel) (pa_cons (pv 2) pa_nil)) (pe_op op_pow pe_int pe_int)))
      (pss_one (ps_ret (pe_disp (pps_cons pe_str (pv 1) (pps_cons pe_str (pe_lc (own := [("cell", 2)]) (g := gName 2) rfl scBe.nd (pi_list (pv 0)) (blkOk_by (own := [("cell", 2)]) (N := ["script", "great", "cell"]) (sc := defScope sBegun) (by decide +kernel)) (fun _ _ _ _ _ => pg_name (i := 2) scBe.nd rfl (Or.inl rfl)) (fun _ _ _ _ _ => pts_nil)
          (fun _ _ _ _ _ => pe_callB call_abs (by rfl) ma (by decide +kernel) (pa_cons (pv 2) pa_nil))) (pps_cons pe_str pe_int (pps_cons pe_str pe_int pps_nil)))) (by rfl) (by rfl) (fun z => by cases z) (by decide)))), ?_⟩
    refine ⟨_, rfl, a, rfl, ⟨_, hS⟩, fun D hD => lc_list (K := K) (a := a) (xs := ns.map V.int) (fun i H' => ∃ gs : List Int, H' = upd H D (.lst (gs.map V.int)) ∧ (∀ z ∈ gs, 0 ≤ z) ∧ gs.length ≤ i)
      ⟨[], rfl, (fun z hz => nomatch hz), Nat.le_refl 0⟩ (fun i H' _ ⟨gs, e, _⟩ => by rw [e]; exact Same.seq (fun b o q => by rw [upd_ne (ne_of_none q hD)]; exact q) hS) ?_ ?_⟩
    · rintro i x H' hx ⟨gs, rfl, g0, gl⟩
      have hil : i < ns.length := by have := (List.getElem?_eq_some_iff.mp hx).1; rwa [List.length_map] at this
      obtain ⟨z, hz, rfl⟩ := int_at hx
      refine ⟨rfl, _, rfl, z, rfl, 10, 18, rfl, rfl, ⟨by decide, by decide, by decide⟩, _, _, rfl, rfl, _, rfl, ?_⟩
      refine ite2 (fun c => ?_) (fun _ => ?_)
      · have c' := of_decide_eq_true c
        refine ⟨_, rfl, z, rfl, 10, 18, rfl, rfl, ⟨by decide, by decide, by decide⟩, _, _, rfl, rfl, _, upd_same, ?_, gs ++ [(if z < 0 then -z else z) - 10 ^ (18 : Int).toNat], ?_, ?_, ?_⟩
        · exact small1000 (by rw [List.length_map]; omega)
        · rw [upd_upd, List.map_append]; rfl
        · intro y hy
          rcases List.mem_append.mp hy with hy | hy
          · exact g0 y hy
          · have e : y = _ := List.mem_singleton.mp hy
            rw [e]; omega
        · rw [List.length_append]; exact Nat.succ_le_succ gl
      · exact ⟨gs, rfl, g0, Nat.le_succ_of_le gl⟩
    · rintro H' ⟨gs, rfl, g0, gl⟩
      have nD : a ≠ D ∨ True := .inr trivial
      have s1 : Same H (upd H D (.lst (gs.map V.int))) := fun b o q => by rw [upd_ne (ne_of_none q hD)]; exact q
      refine fun p hp => ?_
      have np : H p = none := s1.free hp
      have pD : D ≠ p := fun e => by rw [← e, upd_same] at hp; cases hp
      have s2 : Same (upd H D (.lst (gs.map V.int))) (upd (upd H D (.lst (gs.map V.int))) p (.dK [])) := fun b o q => by rw [upd_ne (ne_of_none q hp)]; exact q
      refine ⟨_, rfl, _, rfl, a, rfl, ⟨_, (s1.trans s2).seq hS⟩, fun D2 hD2 => ?_⟩
      have nD2 : H D2 = none := (s1.trans s2).free hD2
      have D2D : D ≠ D2 := fun e => by rw [← e, upd_ne pD, upd_same] at hD2; cases hD2
      have D2p : p ≠ D2 := fun e => by rw [← e, upd_same] at hD2; cases hD2
      have s3 : ∀ o, Same (upd (upd H D (.lst (gs.map V.int))) p (.dK [])) (upd (upd (upd H D (.lst (gs.map V.int))) p (.dK [])) D2 o) := fun o' b o q => by rw [upd_ne (ne_of_none q hD2)]; exact q
      refine lc_list (K := K) (a := a) (xs := ns.map V.int) (fun i H' => ∃ cs : List Int, H' = upd (upd (upd H D (.lst (gs.map V.int))) p (.dK [])) D2 (.lst (cs.map V.int)) ∧ (∀ z ∈ cs, 0 ≤ z) ∧ cs.length ≤ i)
        ⟨[], rfl, (fun z hz => nomatch hz), Nat.le_refl 0⟩ (fun i H' _ ⟨cs, e, _⟩ => by rw [e]; exact ((s1.trans s2).trans (s3 _)).seq hS) ?_ ?_
      · rintro i x H' hx ⟨cs, rfl, c0, cl⟩
        have hil : i < ns.length := by have := (List.getElem?_eq_some_iff.mp hx).1; rwa [List.length_map] at this
        obtain ⟨z, hz, rfl⟩ := int_at hx
        refine ⟨rfl, ?_⟩
        dsimp only [tYes]
        refine iteT ?_
        refine ⟨_, rfl, z, rfl, _, upd_same, ?_, cs ++ [if z < 0 then -z else z], ?_, ?_, ?_⟩
        · exact small1000 (by rw [List.length_map]; omega)
        · rw [upd_upd, List.map_append]; rfl
        · intro y hy
          rcases List.mem_append.mp hy with hy | hy
          · exact c0 y hy
          · have e : y = _ := List.mem_singleton.mp hy
            rw [e]; exact abs_nn z
        · rw [List.length_append]; exact Nat.succ_le_succ cl
      · rintro H' ⟨cs, rfl, c0, cl⟩
        refine ⟨by rw [upd_ne D2p, upd_same], stk D D2 0 0, rfl, (by show 4 ≤ 15; decide), ?_⟩
        rw [stk_merge]
        refine k p D D2 _ ?_ np hD nD2 ⟨⟨0, 0, upd_same, Int.le_refl 0, Int.le_refl 0, Int.le_refl 0⟩, ⟨gs, ?_, g0⟩, ⟨cs, ?_, c0⟩, D2D⟩
        · intro b o q
          rw [upd_ne (ne_of_none q np)]
          exact ((s1.trans s2).trans (s3 _)) b o q
        · rw [upd_ne pD, upd_ne D2D, upd_ne pD, upd_same]
        · rw [upd_ne D2p.symm, upd_same]
end
end Pu

namespace Pu
open PySem PySem.Spec PyProof.Rows L2
/-! ### values without objects of one's own: N tells at which addresses their parts may stand -/
inductive Pv (N : Addr → Prop) (H : Hp) (m : Nat) (P : V → Prop) : V → Prop where
  | non : Pv N H m P .non
  | bl (b : Bool) : Pv N H m P (.bl b)
  | int (i : Int) : Pv N H m P (.int i)
  | str (z : Str) : Pv N H m P (.str z)
  | tup (a : Addr) (xs : List V) : H a = some (.tup xs) → N a → xs.length ≤ m → (∀ x ∈ xs, P x) → Pv N H m P (.ref a)
  | lst (a : Addr) (xs : List V) : H a = some (.lst xs) → N a → xs.length ≤ m → (∀ x ∈ xs, P x) → Pv N H m P (.ref a)
  | dct (a : Addr) : H a = some (.dK []) → N a → Pv N H m P (.ref a)
/-- nested below n, no more than m items each -/
def PV (m : Nat) : Nat → (Addr → Prop) → Hp → V → Prop
  | 0 => fun _ _ _ => False
  | n + 1 => fun N H => Pv N H m (PV m n N H)
/-- what is told of a value stays as long as its parts stand -/
def Mon (R : (Addr → Prop) → Hp → V → Prop) : Prop := ∀ (N N' : Addr → Prop) (H H' : Hp) (v : V), (∀ a o, N a → H a = some o → N' a ∧ H' a = some o) → R N H v → R N' H' v
theorem Pv.imp {N N' : Addr → Prop} {H H' : Hp} {m m' : Nat} {P P' : V → Prop} (k : ∀ a o, N a → H a = some o → N' a ∧ H' a = some o) (hm : m ≤ m') (hp : ∀ x, P x → P' x) {v : V} (h : Pv N H m P v) : Pv N' H' m' P' v := by
  cases h with
  | non => exact .non
  | bl b => exact .bl b
  | int i => exact .int i
  | str z => exact .str z
  | tup a xs e x l q => exact .tup a xs (k _ _ x e).2 (k _ _ x e).1 (Nat.le_trans l hm) fun x hx => hp x (q x hx)
  | lst a xs e x l q => exact .lst a xs (k _ _ x e).2 (k _ _ x e).1 (Nat.le_trans l hm) fun x hx => hp x (q x hx)
  | dct a e x => exact .dct a (k _ _ x e).2 (k _ _ x e).1
theorem PV.imp {N N' : Addr → Prop} {H H' : Hp} {m m' : Nat} (k : ∀ a o, N a → H a = some o → N' a ∧ H' a = some o) (hm : m ≤ m') : ∀ (n : Nat) {v : V}, PV m n N H v → PV m' n N' H' v
  | 0, _, h => h
  | n + 1, _, h => Pv.imp k hm (fun _ q => PV.imp k hm n q) h
theorem PV.mon (m n : Nat) : Mon (PV m n) := fun _ _ _ _ _ k h => PV.imp k (Nat.le_refl m) n h
theorem PV.up {N : Addr → Prop} {H : Hp} {m : Nat} : ∀ {n : Nat} {v : V}, PV m n N H v → PV m (n + 1) N H v
  | 0, _, h => h.elim
  | _ + 1, _, h => Pv.imp (fun _ _ x e => ⟨x, e⟩) (Nat.le_refl m) (fun _ q => PV.up q) h
theorem PV.ups {N : Addr → Prop} {H : Hp} {m : Nat} {v : V} {n k : Nat} (h : PV m n N H v) (hk : n ≤ k) : PV m k N H v := by
  induction hk with
  | refl => exact h
  | step _ ih => exact ih.up
theorem PV.wide {N : Addr → Prop} {H : Hp} {m m' : Nat} {v : V} {n : Nat} (h : PV m n N H v) (hm : m ≤ m') : PV m' n N H v := PV.imp (fun _ _ x e => ⟨x, e⟩) hm n h
/-- away from the state's dict and the list of great numbers -/
abbrev Nd (d g : Addr) : Addr → Prop := fun a => a ≠ d ∧ a ≠ g
theorem Kp.nd {d g : Addr} {H H' : Hp} (k : Kp d g H H') : ∀ a o, Nd d g a → H a = some o → Nd d g a ∧ H' a = some o := fun a o n e => ⟨n, k a o e n.1 n.2⟩
theorem Mon.kp {R : (Addr → Prop) → Hp → V → Prop} (mo : Mon R) {d g : Addr} {H H' : Hp} {v : V} (k : Kp d g H H') (h : R (Nd d g) H v) : R (Nd d g) H' v := mo _ _ _ _ _ k.nd h
theorem StA.nd {H : Hp} {d g c : Addr} {T : Int} (S : StA H d g c T) : ∀ a, H a = none → Nd d g a := fun a n => by
  obtain ⟨l, t, h, _⟩ := S.dk
  obtain ⟨gs, h2, _⟩ := S.gr
  exact ⟨(ne_of_none h n).symm, (ne_of_none h2 n).symm⟩
theorem Mon.new {R : (Addr → Prop) → Hp → V → Prop} (mo : Mon R) {H H' : Hp} {N : Addr → Prop} {v : V} (k : ∀ a, H a = none → N a) (h : R (fun a => H a = none) H' v) : R N H' v := mo _ _ _ _ _ (fun a _ n e => ⟨k a n, e⟩) h

/-! ### t == () -/
section
variable {X : Cx}
def rEqT0 (K : PySem.W.Frag) : R2 := fun x y H Q => ∃ a b xs, x = .ref a ∧ y = .ref b ∧ SqT K H a xs ∧ SqT K H b [] ∧ Q (.bl xs.isEmpty) H
theorem op_eqT0 (hu : X.A.units + 1 < cLine) : OpR X (compareOp .Eq) (rEqT0 X.K) := by
  intro pins s σ H x y v u Q I rx ry h
  obtain ⟨a, b, xs, rfl, rfl, ha, hb, q⟩ := h
  cases (show v = Value.ref a from rx)
  cases (show u = Value.ref b from ry)
  obtain ⟨us, r1, ⟨o1, e1, c1, n1, d1⟩, _⟩ := I.tuple ha
  obtain ⟨ws, r2, ⟨o2, e2, c2, n2, d2⟩, _⟩ := I.tuple hb
  cases r2
  refine SeqAt.eq_tupleAt (e := fun _ => true) ⟨o1, e1, c1, n1, d1⟩ ⟨o2, e2, c2, n2, d2⟩ (by omega) (fun j h1 h2 => absurd h2 (by simp)) ?_
  refine ⟨.bl xs.isEmpty, H, I, ?_, q⟩
  cases r1 with
  | nil => rfl
  | cons r t => rfl
end

/-! ### t[::-1] -/
theorem fm_congr {α β : Type} {f f' : α → Option β} : ∀ {l : List α}, (∀ x ∈ l, f x = f' x) → l.filterMap f = l.filterMap f'
  | [], _ => rfl
  | x :: r, h => by
    rw [List.filterMap_cons, List.filterMap_cons, h x List.mem_cons_self, fm_congr (l := r) fun y hy => h y (List.mem_cons_of_mem _ hy)]
theorem rev_pick (xs : List Value) : ((List.range xs.length).filterMap fun (k : Nat) => xs.toArray[(((xs.length : Int) - 1) + (k : Int) * (-1)).toNat]?).toArray = xs.reverse.toArray := by
  have q := HT.pick_gen xs.reverse.toArray 0 xs.length
  have e : (List.range xs.length).filterMap (fun (k : Nat) => xs.toArray[(((xs.length : Int) - 1) + (k : Int) * (-1)).toNat]?) = (List.range xs.length).filterMap (fun (k : Nat) => xs.reverse.toArray[(((0 : Nat) : Int) + (k : Int) * 1).toNat]?) := by
    refine fm_congr fun k hk => ?_
    have hk' : k < xs.length := List.mem_range.mp hk
    rw [List.getElem?_toArray, List.getElem?_toArray, show (((0 : Nat) : Int) + (k : Int) * 1).toNat = k by omega, List.getElem?_reverse (by omega)]
    congr 1
    omega
  rw [e, q]
  rw [show xs.reverse.toArray.toList = xs.reverse from rfl, List.drop_zero, List.take_of_length_le (by simp)]
section
variable {prog : Program} {w : World} {A : Around} {E : Value → Shared → Prop} {s : Shared}
theorem part_of {v : Value} {o : Option Int} {Q : Option Int → Shared → Prop} (p : IsPart v o) (h : Q o s) : wpAny (model prog w) A (Builtin.Slice.slicePartIndex v) Q E s := HT.slicePart_ p h
theorem applied_rev {sl : Addr} {va vb vc : Value} {n : Nat} {Q : Int × Int × Nat → Shared → Prop} (hS : s.heap.IsSliceOf sl va vb vc) (pa : IsPart va none) (pb : IsPart vb none) (pc : IsPart vc (some (-1)))
    (h : Q ((n : Int) - 1, -1, n) s) : wpAny (model prog w) A (Builtin.Slice.sliceApplied (.ref sl) (pure (n : Int))) Q E s := by
  obtain ⟨ob, hob, _, hda⟩ := id hS
  unfold Builtin.Slice.sliceApplied
  unfold Builtin.Slice.sliceFields
  refine wpAny_bind (wpAny_bind (wpAny_field hob hda (x := va) rfl (wpAny_bind (wpAny_field hob hda (x := vb) rfl (wpAny_bind (wpAny_field hob hda (x := vc) rfl (wpAny_pure ?_)))))))
  refine wpAny_bind (part_of pc ?_)
  show wpAny _ _ (if ((-1 : Int) == 0) = true then _ else _) _ _ s
  rw [if_neg (show ¬ (((-1 : Int) == 0) = true) by decide)]
  refine wpAny_bind (part_of pa (wpAny_bind (part_of pb (wpAny_bind (wpAny_pure ?_)))))
  have e : Builtin.Slice.slicePlaces ((n : Int) - 1) (-1) (-1) = n := by
    unfold Builtin.Slice.slicePlaces
    by_cases h0 : n = 0
    · subst h0; rfl
    · rw [if_neg (by decide), if_pos (by omega), show (- -1 : Int) = 1 from rfl, Int.ediv_one]
      omega
  show wpAny _ _ (pure (((n : Int) - 1), (-1 : Int), Builtin.Slice.slicePlaces ((n : Int) - 1) (-1) (-1))) _ _ s
  rw [e]
  exact wpAny_pure h
theorem tuple_rev {t sl : Addr} {us : List Value} {va vb vc : Value} {Q : Value → Shared → Prop} (hT : IsTup s.heap t us.toArray) (hS : s.heap.IsSliceOf sl va vb vc) (pa : IsPart va none) (pb : IsPart vb none) (pc : IsPart vc (some (-1)))
    (h : Q (.ref s.heap.objs.size) { s with heap := s.heap.push { cls := .type "tuple", data := .seq us.reverse.toArray } }) (hz : us.length ≤ sizeLine) : wpAny (model prog w) A (getItem (.ref t) (.ref sl)) Q E s := by
  have hk : sizeOk (.seq us.reverse.toArray) := by
    show us.reverse.toArray.size ≤ sizeLine
    rw [List.size_toArray, List.length_reverse]; exact hz
  obtain ⟨ob, hob, hcl, hda⟩ := id hS
  have ts : s.TypeIs (.ref sl) "slice" := ⟨ob, hob, hcl⟩
  unfold getItem
  try with_reducible refine wpAny_holding ?_
  first | refine wpAny_bind (wpAny_pure ?_) | skip
  refine wpAny_bind (wpAny_sequenceKey hT.typeIs (by decide) ?_)
  refine wpAny_bind (wpAny_callSpecial?_slot (name := Str.ofString "__getitem__") hT.typeIs slot_tuple_getitem
    (wpAny_call_entry slot_tuple_getitem hT.typeIs entry_tuple_getitem ?_ (args_tuple_getitem _ _)))
  show wpAny _ _ (Builtin.Tuple.tupleItemsOf (.ref t) >>= _) _ _ s
  refine wpAny_bind (tupleItemsOf_ hT ?_)
  refine wpAny_bind (wpAny_typeOf ts ?_)
  rw [if_pos (by decide)]
  have hn : (us.toArray.size : Int) = (us.length : Int) := by rw [List.size_toArray]
  rw [hn]
  refine wpAny_bind (applied_rev hS pa pb pc ?_)
  have no : ¬ ((((us.length : Int) - 1 == 0) && ((-1 : Int) == 1) && (us.length == us.toArray.size)) = true) := by
    intro q
    rw [Bool.and_eq_true, Bool.and_eq_true] at q
    exact absurd q.1.2 (by decide)
  show wpAny _ _ (if (((us.length : Int) - 1 == 0) && ((-1 : Int) == 1) && (us.length == us.toArray.size)) = true then _ else _) _ _ s
  rw [if_neg no, rev_pick]
  first
    | exact wpAny_bind (m := Builtin.Tuple.tupleExact _) (wpAny_newObj_type (wpAny_pure ⟨_, rfl, wpAny_pure h⟩) hk)
    | exact wpAny_bind (m := Builtin.Tuple.tupleExact _) (wpAny_newObj_type (wpAny_bind (wpAny_pure (wpAny_pure ⟨_, rfl, wpAny_pure h⟩))) hk)
    | exact wpAny_bind (wpAny_bind (m := Builtin.Tuple.tupleExact _) (wpAny_newObj_type (wpAny_pure (wpAny_pure ⟨_, rfl, wpAny_pure h⟩)) hk))
    | exact wpAny_bind (wpAny_bind (m := Builtin.Tuple.tupleExact _) (wpAny_newObj_type (wpAny_pure ⟨_, rfl, wpAny_pure h⟩) hk))
end
section
variable {X : Cx}
def tRevT (K : PySem.W.Frag) (te : TE) : TE := fun σ H Q => te σ H fun x H1 => ∃ a xs, x = .ref a ∧ SqT K H1 a xs ∧ ∀ p, H1 p = none → Q (.ref p) (upd H1 p (.tup xs.reverse))
theorem pe_revT {e : Expr} {te : TE} {k : Nat} {p1 p2 p3 pos : Pos} (he : PE X e te) : PE X (.Subscript e (.Slice none none (some (.UnaryOp .USub (.Constant (.int 1) k p1) p2)) p3) pos) (tRevT X.K te) := by
  refine ⟨fun pn s σ H Q I h => ?_⟩
  refine Subscript_ (thn (he.run pn s σ H _ I h) fun v s1 ⟨x, H1, J1, r1, q1⟩ => ?_)
  obtain ⟨a, xs, rfl, hx, q⟩ := q1
  cases r1
  have ho : PO X (some (.UnaryOp .USub (.Constant (.int 1) k p1) p2)) (tPart (tUn (rU fun i => .int (-i)) (tC (.int 1)))) := po_some (pe_un un_neg pe_int)
  refine wpAny_Slice (thn (po_none.run pn s1 σ H1 (fun o G => o = none ∧ G = H1) J1 ⟨rfl, rfl⟩) fun va s2 ⟨o2, H2, J2, pa, eo, eh⟩ => ?_)
  subst eo eh
  refine thn (po_none.run pn s2 σ H2 (fun o G => o = none ∧ G = H2) J2 ⟨rfl, rfl⟩) fun vb s3 ⟨o3, H3, J3, pb, eo, eh⟩ => ?_
  subst eo eh
  refine thn (ho.run pn s3 σ H3 (fun o G => o = some (-1) ∧ G = H3) J3 ⟨1, rfl, -1, rfl, rfl, rfl⟩) fun vc s4 ⟨o4, H4, J4, pc, eo, eh⟩ => ?_
  subst eo eh
  have J5 : Inv X pn σ H4 { s4 with heap := s4.heap.push { cls := .type "slice", data := .fields #[va, vb, vc] } } := J4.kept (t' := s4.toks) fun b ob q => Heap.get?_push_of_some _ q
  obtain ⟨us, r, hT, hz⟩ := J5.tuple hx
  have hl := r.length
  show wpAny (model X.prog X.w) X.A (subscriptTail e (.Slice none none (some (.UnaryOp .USub (.Constant (.int 1) k p1) p2)) p3) (.ref a) (.ref s4.heap.objs.size)) (EP X pn σ Q) X.xe { s4 with heap := s4.heap.push { cls := .type "slice", data := .fields #[va, vb, vc] } }
  refine tail_any (ops := [.ref a, .ref s4.heap.objs.size]) hT.typeIs slot_tuple_getitem.lookup ?_ (by with_unfolding_all rfl)
  refine tuple_rev hT (Heap.IsSliceOf.new _ va vb vc) pa pb pc ?_ (by omega)
  refine ⟨.ref _, _, J5.laid (t' := s4.toks) (o := .tup xs.reverse) (fun b ob q => Heap.get?_push_of_some _ q) (Nat.le_refl _) ?_, rfl, q _ (J5.hok.fresh (Nat.le_refl _))⟩
  exact ⟨by rw [List.length_reverse]; exact hz, _, r.reverse, IsTup.new _ _⟩
end
end Pu

namespace Pu
open PySem L2
/-! ### readings made weaker -/
section
variable {X : Cx}
theorem pe_imp {e : Expr} {t t' : TE} (h : PE X e t) (k : ∀ σ H Q, t' σ H Q → t σ H Q) : PE X e t' := ⟨fun pn s σ H Q I q => h.run pn s σ H Q I (k σ H Q q)⟩
theorem pa_imp {es : List Expr} {t t' : TA} (h : PA X es t) (k : ∀ σ H Q, t' σ H Q → t σ H Q) : PA X es t' := ⟨fun ps pn s σ H Q I q => h.run ps pn s σ H Q I (k σ H Q q)⟩
theorem op_imp {f : Value → Value → Sem Value} {r r' : R2} (h : OpR X f r) (k : ∀ x y H Q, r' x y H Q → r x y H Q) : OpR X f r' := fun pn s σ H x y v u Q I rx ry q => h pn s σ H x y v u Q I rx ry (k x y H Q q)
theorem sl_imp {r r' : V → Option Int → Option Int → Hp → VK → Prop} (h : SlR X r) (k : ∀ x l u H Q, r' x l u H Q → r x l u H Q) : SlR X r' := fun pn s σ H x v vl vu lo hi sl Q I rx hs pl pu q => h pn s σ H x v vl vu lo hi sl Q I rx hs pl pu (k x lo hi H Q q)

/-! ### data that is written out: new objects, of which R holds -/
abbrev RV : Type := (Addr → Prop) → Hp → V → Prop
def TN (R : RV) : TE := fun _ H Q => ∀ v H', Same H H' → R (fun a => H a = none) H' v → Q v H'
def TNs (R : RV) (k : Nat) : TA := fun _ H Q => ∀ vs H', Same H H' → vs.length = k → (∀ v ∈ vs, R (fun a => H a = none) H' v) → Q vs H'
def tupR (R : RV) (k : Nat) : RV := fun N H v => ∃ a xs, v = .ref a ∧ N a ∧ H a = some (.tup xs) ∧ xs.length = k ∧ ∀ x ∈ xs, R N H x
def lstR (R : RV) (k : Nat) : RV := fun N H v => ∃ a xs, v = .ref a ∧ N a ∧ H a = some (.lst xs) ∧ xs.length = k ∧ ∀ x ∈ xs, R N H x
theorem tupR.mon {R : RV} {k : Nat} (mo : Mon R) : Mon (tupR R k) := fun N N' H H' v kk ⟨a, xs, e, n, h, l, q⟩ => ⟨a, xs, e, (kk a _ n h).1, (kk a _ n h).2, l, fun x hx => mo _ _ _ _ _ kk (q x hx)⟩
theorem lstR.mon {R : RV} {k : Nat} (mo : Mon R) : Mon (lstR R k) := fun N N' H H' v kk ⟨a, xs, e, n, h, l, q⟩ => ⟨a, xs, e, (kk a _ n h).1, (kk a _ n h).2, l, fun x hx => mo _ _ _ _ _ kk (q x hx)⟩
theorem same_upd {H : Hp} {p : Addr} {o : HO} (n : H p = none) : Same H (upd H p o) := fun b u e => by rw [upd_ne (ne_of_none e n)]; exact e
theorem n_w {e : Expr} {R R' : RV} (h : PE X e (TN R)) (k : ∀ N H v, R N H v → R' N H v) : PE X e (TN R') := pe_imp h fun _ _ _ q v H' s r => q v H' s (k _ _ _ r)
theorem n_int {i : Int} {j : Nat} {pos : Pos} {m n : Nat} : PE X (.Constant (.int i) j pos) (TN (PV m (n + 1))) := pe_imp pe_int fun _ H _ q => q _ H (Same.refl H) (.int i)
theorem n_neg {i : Int} {j : Nat} {p1 p2 : Pos} {m n : Nat} : PE X (.UnaryOp .USub (.Constant (.int i) j p1) p2) (TN (PV m (n + 1))) := pe_imp (pe_un un_neg pe_int) fun _ H _ q => ⟨i, rfl, q _ H (Same.refl H) (.int _)⟩
theorem n_bl {b : Bool} {j : Nat} {pos : Pos} {m n : Nat} : PE X (.Constant (.bool b) j pos) (TN (PV m (n + 1))) := pe_imp pe_bl fun _ H _ q => q _ H (Same.refl H) (.bl b)
theorem n_non {j : Nat} {pos : Pos} {m n : Nat} : PE X (.Constant .none j pos) (TN (PV m (n + 1))) := pe_imp pe_non fun _ H _ q => q _ H (Same.refl H) .non
theorem n_str {x : Str} {j : Nat} {pos : Pos} {m n : Nat} : PE X (.Constant (.str x) j pos) (TN (PV m (n + 1))) := pe_imp pe_str fun _ H _ q => q _ H (Same.refl H) (.str x)
theorem na_nil {R : RV} : PA X [] (TNs R 0) := pa_imp pa_nil fun _ H _ q => q [] H (Same.refl H) rfl fun _ h => nomatch h
theorem na_cons {e : Expr} {es : List Expr} {R : RV} {k : Nat} (mo : Mon R) (he : PE X e (TN R)) (hr : PA X es (TNs R k)) (hs : starEach (e :: es) X.env = (false, eval e X.env) :: starEach es X.env := by rfl) : PA X (e :: es) (TNs R (k + 1)) :=
  pa_imp (pa_cons he hr hs) fun _ H Q q v H1 s1 r1 vs H2 s2 l r2 => q (v :: vs) H2 (s1.trans s2) (by rw [List.length_cons, l]) fun x hx => by
    rcases List.mem_cons.mp hx with rfl | hx
    · exact mo _ _ _ _ _ (fun a o n e => ⟨n, s2 a o e⟩) r1
    · exact mo _ _ _ _ _ (fun a o n e => ⟨s1.free n, e⟩) (r2 x hx)
theorem n_tupR {es : List Expr} {R : RV} {k : Nat} {x1 : Nat} {pos : Pos} (mo : Mon R) (h : PA X es (TNs R k)) (hk : k ≤ 1000) : PE X (.Tuple es x1 pos) (TN (tupR R k)) :=
  pe_imp (pe_tup h) fun _ H Q q vs H1 s1 l r => ⟨by rw [l]; exact Nat.le_of_lt (small1000 hk), fun p hp => q _ _ (s1.trans (same_upd hp)) ⟨p, vs, rfl, s1.free hp, upd_same, l, fun x hx => mo _ _ _ _ _ (fun a o n e => ⟨n, same_upd hp a o e⟩) (r x hx)⟩⟩
theorem n_lstR {es : List Expr} {R : RV} {k : Nat} {pos : Pos} (mo : Mon R) (h : PA X es (TNs R k)) (hk : k ≤ 1000) : PE X (.List es pos) (TN (lstR R k)) :=
  pe_imp (pe_lst h) fun _ H Q q vs H1 s1 l r => ⟨by rw [l]; exact Nat.le_of_lt (small1000 hk), fun p hp => q _ _ (s1.trans (same_upd hp)) ⟨p, vs, rfl, s1.free hp, upd_same, l, fun x hx => mo _ _ _ _ _ (fun a o n e => ⟨n, same_upd hp a o e⟩) (r x hx)⟩⟩
theorem n_tup {es : List Expr} {m n k : Nat} {x1 : Nat} {pos : Pos} (h : PA X es (TNs (PV m n) k)) (hk : k ≤ 1000 := by decide) (hm : k ≤ m := by decide) : PE X (.Tuple es x1 pos) (TN (PV m (n + 1))) :=
  n_w (n_tupR (PV.mon m n) h hk) fun N H v ⟨a, xs, e, na, ha, l, r⟩ => by rw [e]; exact .tup a xs ha na (by omega) r
theorem n_lst {es : List Expr} {m n k : Nat} {pos : Pos} (h : PA X es (TNs (PV m n) k)) (hk : k ≤ 1000 := by decide) (hm : k ≤ m := by decide) : PE X (.List es pos) (TN (PV m (n + 1))) :=
  n_w (n_lstR (PV.mon m n) h hk) fun N H v ⟨a, xs, e, na, ha, l, r⟩ => by rw [e]; exact .lst a xs ha na (by omega) r
theorem n_dct {m n : Nat} {pos : Pos} : PE X (.Dict [] [] pos) (TN (PV m (n + 1))) := pe_imp pe_dnewK fun _ H Q q p hp => q _ _ (same_upd hp) (.dct p upd_same hp)

/-! ### tuples put together and cut -/
def TupV (N : Addr → Prop) (H : Hp) (v : V) (xs : List V) : Prop := ∃ a, v = .ref a ∧ N a ∧ H a = some (.tup xs)
theorem TupV.kp {d g : Addr} {H H' : Hp} {v : V} {xs : List V} (k : Kp d g H H') (h : TupV (Nd d g) H v xs) : TupV (Nd d g) H' v xs := by
  obtain ⟨a, e, n, q⟩ := h
  exact ⟨a, e, n, k a _ q n.1 n.2⟩
theorem TupV.same {N : Addr → Prop} {H H' : Hp} {v : V} {xs : List V} (k : Same H H') (h : TupV N H v xs) : TupV N H' v xs := by
  obtain ⟨a, e, n, q⟩ := h
  exact ⟨a, e, n, k a _ q⟩
theorem TupV.at {N : Addr → Prop} {H : Hp} {a : Addr} {xs : List V} (h : TupV N H (.ref a) xs) : H a = some (.tup xs) := by
  obtain ⟨b, e, _, q⟩ := h
  cases e
  exact q
theorem Mon.same {R : RV} (mo : Mon R) {N : Addr → Prop} {H H' : Hp} {v : V} (s : Same H H') (h : R N H v) : R N H' v := mo _ _ _ _ _ (fun a o n e => ⟨n, s a o e⟩) h
def rCat2 : R2 := fun x y H Q => ∃ N xs ys, (∀ q, H q = none → N q) ∧ TupV N H x xs ∧ TupV N H y ys ∧ xs.length + ys.length ≤ 100000 ∧ ∀ v H', Same H H' → TupV N H' v (xs ++ ys) → Q v H'
theorem op_cat2 : OpR X (binaryOp .Add) rCat2 := op_imp op_catA fun x y H Q ⟨N, xs, ys, nw, ⟨a, ea, na, ha⟩, ⟨b, eb, nb, hb⟩, l, q⟩ =>
  ⟨a, b, xs, ys, ea, eb, SqT.of ha, SqT.of hb, Nat.le_trans l (by decide), fun e => q _ H (Same.refl H) ⟨b, rfl, nb, by rw [e]; exact hb⟩, fun _ e => q _ H (Same.refl H) ⟨a, rfl, na, by rw [e, List.append_nil]; exact ha⟩,
    fun _ _ p hp => q _ _ (same_upd hp) ⟨p, rfl, nw p hp, upd_same⟩⟩
def rSl2 : V → Option Int → Option Int → Hp → VK → Prop := fun x lo hi H Q => ∃ N xs, (∀ q, H q = none → N q) ∧ TupV N H x xs ∧ ∀ v H', Same H H' → TupV N H' v (cutV xs lo hi) → Q v H'
theorem sl_tup2 : SlR X rSl2 := sl_imp sl_tupA fun x lo hi H Q ⟨N, xs, nw, ⟨a, ea, na, ha⟩, q⟩ =>
  ⟨a, xs, ea, SqT.of ha, fun ⟨h1, h2⟩ => q _ H (Same.refl H) ⟨a, rfl, na, by
      have e : cutV xs lo hi = xs := by
        unfold cutV
        rw [h1, h2, List.drop_zero, Nat.sub_zero, List.take_of_length_le (Nat.le_refl _)]
      rw [e]; exact ha⟩, fun _ p hp => q _ _ (same_upd hp) ⟨p, rfl, nw p hp, upd_same⟩⟩
theorem mem_cut {xs : List V} {lo hi : Option Int} {x : V} (h : x ∈ cutV xs lo hi) : x ∈ xs := List.mem_of_mem_drop (List.mem_of_mem_take h)
end
end Pu

namespace Pu
open PySem PySem.Spec PyProof.Rows L2
/-! ### repr of nested data, where no repr is under way -/
section
variable {X : Cx}
def rReprD (K : PySem.W.Frag) : List V → Hp → VK → Prop := fun xs H Q => ∃ (a : Addr) (d : PyData), xs = [.ref a] ∧ Dp K H (.ref a) d ∧ d.showable = true ∧ d.hasDict = false ∧ d.depth ≤ 60 ∧ d.shown.length ≤ sizeLine ∧ Q (.str d.shown) H
theorem call_reprD (hg : X.A.guards = some []) (hu : X.A.units + 64 < cLine) : CallR X (.builtin "repr") (rReprD X.K) := by
  intro pn s σ H xs us Q I r ⟨a, d, ex, hd, hs, hn, hp, hl, q⟩
  subst ex
  rw [Vals.ref1 r]
  obtain ⟨as, rd⟩ := Dp.reads I d (.ref a) (.ref a) hd rfl
  refine repr_of_reads' rd hs (fun z => by rw [hn] at z; cases z) hg (by omega) (fun _ _ e => e) (fun h' u tk k => ?_) hl
  exact ⟨.str d.shown, H, I.kept k, ⟨u, rfl⟩, q⟩
end
/-! ### the law's own call, its def told at the caller's very surroundings -/
section
variable {P : Program} {w : World} {K : PySem.W.Frag} {mg mb : Str → Option Value} {fa a : Addr} {s₁ : Shared} {vs : List Value} {ns : List Int}
theorem call_here (KX : K.In s₁.heap) (hns : s₁.heap.Ns mainGlobals mg) (hb : s₁.heap.Ns builtinsNs mb) (hbb : ∀ x : Str, x ≠ "__name__" → mb x = bootBuiltins x) (hlim : s₁.heap.NoLimit) (hg : s₁.gens = #[])
    (ha : s₁.heap.get? a = some { cls := .type "list", data := .seq vs.toArray }) (hi : IntsAre vs ns) (hl : ns.length ≤ sizeLine)
    (F : ∀ (base : Heap) (H : Hp), Env0 P w K mg base callerA [] s₁ H → SqL K H a (ns.map V.int) →
      codeAny (model P w) callerA (.call (.ref fa) ⟨[.ref a], []⟩) (CR L2.CX0 [] P w H s₁ (fun v _ => v = .bl true) fun _ _ _ => False) s₁) :
    codeAny (model P w) callerA (.call (.ref fa) ⟨[.ref a], []⟩) (fun r s' => r = .ok (.ret (.bool true)) ∧ OldK s₁.heap s'.heap ∧ s'.os = s₁.os ∧ AllBare s'.gens) s₁ := by
  have rv := vals_ints hi
  have lv := hi.length
  have mid : ∀ H : Hp, Only H → SqL K H a (ns.map V.int) → HOk P w H s₁.heap → (∀ b, H b ≠ none → b = a) → (H a ≠ none → K.lookup a = none) →
      codeAny (model P w) callerA (.call (.ref fa) ⟨[.ref a], []⟩) (fun r s' => r = .ok (.ret (.bool true)) ∧ OldK s₁.heap s'.heap ∧ s'.os = s₁.os ∧ AllBare s'.gens) s₁ := by
    intro H only seq hok one notK
    have free : ∀ {b : Addr} {o : Obj}, s₁.heap.get? b = some o → (∀ es ep, o.data = .dict es ep → H b = none) := fun {b o} e es ep d => by
      cases q : H b with
      | none => rfl
      | some u =>
        obtain rfl := one b (by rw [q]; exact nofun)
        rw [ha] at e
        cases e
        cases (show Data.seq vs.toArray _ = Data.dict es ep from d)
    have ns0 : ∀ {b : Addr} {m : Str → Option Value}, s₁.heap.Ns b m → (hidT s₁.heap H).Ns b m := fun {b m} ⟨o, es, ep, e, d, r⟩ => ⟨o, es, ep, hidT_get e (free e es ep d), d, r⟩
    have inB : K.In (hidT s₁.heap H) := fun b o e => hidT_get (KX b o e) (by
      cases q : H b with
      | none => rfl
      | some u =>
        obtain rfl := one b (by rw [q]; exact nofun)
        rw [notK (by rw [q]; exact nofun)] at e
        cases e)
    have md : L2.Mod K mg (hidT s₁.heap H) := ⟨inB, ns0 hns, ⟨mb, ns0 hb, hbb⟩, let ⟨mc, h1, h2⟩ := hlim; ⟨mc, ns0 h1, h2⟩⟩
    have e0 : Env0 P w K mg (hidT s₁.heap H) callerA [] s₁ H := ⟨rfl, md, fun b o e => of_hidT e, Nat.le_of_eq (hidT_size _ _), trivial, fun b z => (nomatch z), hok, .of_eq hg⟩
    refine codeAny_mono (F _ H e0 seq) fun r s' h => ?_
    cases r with
    | error e => exact (show False from h).elim
    | ok fl =>
      cases fl with
      | ret u =>
        obtain ⟨v, H', os, bare, un, hok', r', q⟩ := h
        subst q
        cases (show u = Value.bool true from r')
        refine ⟨rfl, OldK.of_keep fun b o e => ?_, os, bare⟩
        rcases only b with n | ⟨ob, xs, z⟩
        · exact un.keep b o e n (fun z => nomatch z) (fun z => nomatch z)
        · obtain ⟨e1, _⟩ := hok b _ z
          obtain ⟨e2, _⟩ := hok' b _ (un.frzs b ob _ z)
          rw [e] at e1
          cases e1
          exact e2
      | next => exact (show False from h).elim
      | brk => exact (show False from h).elim
      | cont => exact (show False from h).elim
  cases hk : K.lookup a with
  | some o =>
    have e := KX a o hk
    rw [ha] at e
    cases e
    exact mid (fun _ => none) (fun _ => .inl rfl) (.inr ⟨_, vs.toArray, _, hk, rfl, rfl, rfl, by rw [List.size_toArray, lv]; exact hl, by simpa using rv⟩) (fun b u z => nomatch (show (none : Option HO) = some u from z)) (fun b z => absurd rfl z) (fun z => absurd rfl z)
  | none =>
    have at1 : (fun b => if b = a then some (HO.frz { cls := .type "list", data := .seq vs.toArray } (.lst (ns.map V.int))) else none) a = some (HO.frz { cls := .type "list", data := .seq vs.toArray } (.lst (ns.map V.int))) := if_pos rfl
    have at0 : ∀ b, b ≠ a → (fun b => if b = a then some (HO.frz { cls := .type "list", data := .seq vs.toArray } (.lst (ns.map V.int))) else none) b = none := fun b n => if_neg n
    generalize (fun b => if b = a then some (HO.frz { cls := .type "list", data := .seq vs.toArray } (.lst (ns.map V.int))) else none) = H at at1 at0
    refine mid H (fun b => ?_) (.inl (.inr ⟨_, at1⟩)) (fun b u z => ?_) (fun b z => ?_) fun _ => hk
    · by_cases n : b = a
      · rw [n]; exact .inr ⟨_, _, at1⟩
      · exact .inl (at0 b n)
    · by_cases n : b = a
      · subst n
        rw [at1] at z
        cases z
        exact ⟨ha, by rw [List.length_map]; exact hl, vs, _, rv, ha⟩
      · rw [at0 b n] at z; cases z
    · by_cases n : b = a
      · exact n
      · exact absurd (at0 b n) z
end
end Pu

namespace Pu
open PySem PySem.Spec PyProof.Rows L2
/-! ### an error of a class with its own __init__, made as a value -/
def tOex (C : Addr) (sp : Sp) (dvs : List V) (ta : TA) : TE := fun σ H Q => ta σ H fun vs H1 => vs.length ≤ 1000 ∧ ∀ a, H1 a = none → sp (.ref a :: (vs ++ dvs)) (upd H1 a (exo a C none)) (fun v H2 => v = .non ∧ Q (.ref a) H2) fun _ _ _ => False
section
variable {X : Cx} {e : Expr} {es : List Expr} {ta : TA} {p pos : Pos}
theorem pe_oex {CX : CXT} {x : Str} {C fI : Addr} {k : Nat} {fd : FuncData} {ps : List Str} {sp : Sp} {ds : List Value} {dvs : List V} (T : OexC X.K C) (iC : PySem.W.findIn X.K (.ref C) "__init__" = some (some (.ref fI))) (tI : PySem.W.typeIn X.K (.ref fI) = some (.type "function"))
    (G : FnOk X.prog X.w X.K X.mg X.base CX k fI fd ps sp) (room : Room (k + 1) X.A) (bi : Binds X.K fd ps ds) (vd : Vals dvs ds) (px : Passes CX X fun _ _ _ => False) (gl : Gl X x) (hm : X.mg x = some (.ref C)) (ha : PA X (e :: es) ta)
    (hdb : (x == ("__debug__" : Str)) = false := by decide) (he : starEach (e :: es) X.env = (false, eval e X.env) :: starEach es X.env := by rfl) (hpl : (backTo pos (starEach es X.env)).any (·.1) = false := by rfl) :
    PE X (.Call (.Name x p) (e :: es) [] pos) (tOex C sp dvs ta) := by
  refine ⟨fun pins s σ H Q I h => ?_⟩
  obtain ⟨nm, q, N, bs, bm, sn, sub, ab, col, dd, k0, k1, k2, k3, k5, clsAt, refs⟩ := T.cls
  refine wpAny_Call_Name_kw (ld_glob I gl hm ?_ hdb)
  refine PySem.W.callWith_K (h₀ := X.base) I.ok.mod.kin T.kC (thn (ha.run pos pins s σ H _ I h) fun us s1 ⟨vs, H1, I1, r1, len, q1⟩ => ⟨I1.kIn, ?_⟩) he hpl
  show wpAny _ _ (call (.ref C) us) _ _ _
  obtain ⟨hp, g, dr, tk, os⟩ := s1
  have later : hp.objs.size ≤ hp.objs.size + 1 := Nat.le_succ _
  have ask := q1 (hp.objs.size + 1) (I1.hok.fresh later)
  have two : ∀ b o, hp.get? b = some o → ((hp.push (PySem.W.kdv_tup us)).push (PySem.HandSPX.excO C hp.objs.size)).get? b = some o := fun b o z => Heap.get?_push_of_some _ (Heap.get?_push_of_some _ z)
  have there : ((hp.push (PySem.W.kdv_tup us)).push (PySem.HandSPX.excO C hp.objs.size)).get? (hp.objs.size + 1) = some (PySem.HandSPX.excO C hp.objs.size) := by heap_get
  have I2 : Inv X pins σ (upd H1 (hp.objs.size + 1) (exo (hp.objs.size + 1) C none)) ⟨(hp.push (PySem.W.kdv_tup us)).push (PySem.HandSPX.excO C hp.objs.size), g, dr, tk, os⟩ :=
    I1.laid (t' := tk) (a := hp.objs.size + 1) (o := exo (hp.objs.size + 1) C none) (h' := (hp.push (PySem.W.kdv_tup us)).push (PySem.HandSPX.excO C hp.objs.size)) two later (exo_ok there)
  have r2 : Vals (V.ref (hp.objs.size + 1) :: (vs ++ dvs)) (Value.ref (hp.objs.size + 1) :: (us ++ ds)) := .cons rfl (r1.append vd)
  have many : (Value.ref (hp.objs.size + 1) :: us ++ ds).length = ps.length := by
    have z := r2.length
    rw [G.len _ _ _ _ ask] at z
    exact z.symm
  have few : us.length ≤ sizeLine := by
    rw [← Paired.length r1, sizeLine_eq]
    omega
  refine wpAny_call (PySem.HandSPX.call_own PySem.F.excBase_ValueError (fun Y => PySem.HandSPX.refsVE_contains Y bm refs) (I1.kIn _ _ clsAt) (PySem.W.looks_findIn I1.kIn iC) (fun self => PySem.W.bind_fn I1.kIn self tI) few
    (codeAny_mono (G.run _ X.stack _ _ ⟨Value.ref (hp.objs.size + 1) :: us, []⟩ (Value.ref (hp.objs.size + 1) :: (us ++ ds)) _ _ (fun _ _ _ => False) (room.make C us []) (I2.env0.make C us []) (bi _ (Value.ref (hp.objs.size + 1) :: us) I2.kIn many) r2 ask) fun r s' back => ?_))
  cases r with
  | error er => exact px pins σ _ _ er s' I2 back
  | ok fl =>
    cases fl with
    | ret u =>
      obtain ⟨v, H2, I3, rv, ev, q2⟩ := I2.after back
      subst ev
      exact ⟨rv, .ref (hp.objs.size + 1), H2, ⟨I3.ok, I3.os, I3.bare, I3.base, I3.loc, I3.cell, I3.free, I3.freeC, I3.pin, I3.hok, I3.len⟩, rfl, q2⟩
    | next => exact False.elim back
    | brk => exact False.elim back
    | cont => exact False.elim back
/-! ### its attribute, read -/
def tXv (K : PySem.W.Frag) (f : Str) (te : TE) : TE := fun σ H Q => te σ H fun x H1 => ∃ (a C d : Addr) (fs : List (Str × V)) (v : V), x = .ref a ∧ XfC K C ∧ PySem.W.findIn K (.ref C) f = some none ∧ H1 a = some (exo a C (some d)) ∧ H1 d = some (exd d fs) ∧ fs.lookup f = some v ∧ Q v H1
theorem pe_xv {te : TE} {n : Str} (he : PE X e te) (hb : attributeBase e n X.env (eval e X.env) = eval e X.env := by rfl) : PE X (.Attribute e n pos) (tXv X.K n te) := by
  refine ⟨fun pins s σ H Q I h => ?_⟩
  refine attr_of hb (thn (he.run pins s σ H _ I h) fun u s1 ⟨x, H1, I1, rx, a, C, d, fs, v, ex, T, hno, ea, ed, l, q⟩ => ?_)
  subst ex
  cases rx
  obtain ⟨t1, hoe⟩ := exo_at I1.hok ea
  obtain ⟨mA, hns, rel⟩ := exd_at I1.hok ed
  obtain ⟨od, ho, hl⟩ := lookIn_ns hns
  obtain ⟨u, hu, ru⟩ := RelO.some_of (v := v) (o := mA n) (by rw [← l]; exact rel n)
  have J : PySem.W.InstAt s1.heap a { cls := .ref C, dict := some d, data := .fields #[.ref t1, .none, .none, .none, .bool false, .none] } C (some od) := ⟨hoe, rfl, rfl, ho⟩
  exact HandSPX.exc_get I1.kIn J T.ga T.gg T.exC (PySem.W.findObj_own T.hdC hno rfl (by rw [hl, hu])) (handed_of ru) ⟨v, H1, I1.tok _, ru, q⟩
end
end Pu

namespace Pu
open PySem PySem.Spec PyProof.Rows PySem.HandSPX PySem.W PySem.Calls
/-! ### an own error class called by keywords alone -/
section
variable {prog : Program} {w : World} {A : Around} {E : Value → Shared → Prop} {R : Result → Shared → Prop} {hp : Heap} {gs : Array GenState} {dr : Drawn} {tk : Nat} {os : OsState}
variable {nm qn : Str} {C N : Addr} {bs bm bmB : List Value} {hdct : Bool} {sn : List Str} {sub : List Value} {ab : Bool} {col : Option Bool} {dd : Option Addr} {k0 k1 k2 k3 k5 : Option Value} {B newId initId : String} {kw : List (Str × Value)}
theorem bind_star {b : String} {n : Nat} {ks : List Str} {full short : String} : Bind.check ⟨.any, b, b, .cls, [⟨"args", .varPos, false⟩, ⟨"kwargs", .varKw, false⟩]⟩ full short n ks = pure () := by
  simp [Bind.check, Bind.checkCount, Bind.isPositional]
theorem kw_new_checked {M : Model} (F : ExcBaseFacts B newId initId bmB) (hT : ∀ X : String, bm.contains (.type X) = bmB.contains (.type X)) {Q : Unit → Shared → Prop}
    (at1 : hp.get? C = some (excClassObj nm qn C N bs bm hdct sn sub ab col dd k0 k1 k2 k3 k5 newId)) (fin : Q () ⟨hp, gs, dr, tk, os⟩) : wpAny M A (checkBuiltinCall newId ⟨[.ref C], kw⟩) Q E ⟨hp, gs, dr, tk, os⟩ := by
  have inB : (Value.ref C :: bm).contains (.type B) = true := by
    rw [List.contains_cons, hT, F.hasB, Bool.or_true]
  have star0 := F.noStar
  simp only [checkBuiltinCall, F.newKind, F.newSplit, F.newRow]
  repeat (first | refine wpAny_loadPart_at at1 ?_ | (refine wpAny_isSubtype_exc at1 ?_; rw [inB]) | refine wpAny_staticBase_exc at1 ?_ | refine wpAny_madeBy_exc at1 ?_ | simp only [bne_self_eq_false, Bool.false_eq_true, if_false] | wp_step)
  exact fin
theorem kw_new_made (F : ExcBaseFacts B newId initId bmB) (hT : ∀ X : String, bm.contains (.type X) = bmB.contains (.type X))
    (at1 : hp.get? C = some (excClassObj nm qn C N bs bm hdct sn sub ab col dd k0 k1 k2 k3 k5 newId))
    (fin : R (.ok (.ret (.ref (hp.objs.size + 1)))) ⟨(hp.push (kdv_tup [])).push (excO C hp.objs.size), gs, dr, tk, os⟩) : codeAny (model prog w) A (.builtin newId ⟨[.ref C], kw⟩) R ⟨hp, gs, dr, tk, os⟩ := by
  have ends0 := F.ends
  have inB : (Value.ref C :: bm).contains (.type B) = true := by
    rw [List.contains_cons, hT, F.hasB, Bool.or_true]
  have inA : (Value.ref C :: bm).contains (.type "AttributeError") = false := by
    rw [List.contains_cons, hT, F.noAttr]
    rfl
  have inN : (Value.ref C :: bm).contains (.type "NameError") = false := by
    rw [List.contains_cons, hT, F.noName]
    rfl
  have zero : ([] : List Value).length ≤ sizeLine := Nat.zero_le _
  refine codeAny_builtinAt F.entry ?_
  unfold Builtin.«BaseException.__new__»
  refine PySem.wpAt_bind ?_
  show PySem.wpAt _ _ _ (stack >>= _) _ _ _
  refine PySem.wpAt_bind (PySem.wpAt_stack fun p below => PySem.wpAt_of_wpAny ?_)
  wp_walk
  refine PySem.wpAt_of_wpAny ?_
  rw [F.owner]
  repeat (first | with_reducible refine wpAny_madeHere_exc F.canon at1 ?_ | with_reducible refine wpAny_loadPart_at at1 ?_ | (with_reducible refine wpAny_isSubtype_exc at1 ?_; first | rw [inB] | rw [inA] | rw [inN]) | wp_step)
  show R _ _
  rw [Heap.size_push]
  exact fin
theorem kw_type_called (F : ExcBaseFacts B newId initId bmB) (hT : ∀ X : String, bm.contains (.type X) = bmB.contains (.type X)) {fI : Addr} {Q : Fin → Shared → Prop}
    (at1 : hp.get? C = some (excClassObj nm qn C N bs bm hdct sn sub ab col dd k0 k1 k2 k3 k5 newId))
    (look : W.Looks (model prog w) hp (typeLookup (.ref C) "__init__") (some (.ref fI))) (bnd : ∀ self, W.Looks (model prog w) hp (bindSpecial (.ref fI) self) (.ref fI, [self]))
    (fin : codeAny (model prog w) A (.call (.ref fI) ⟨[.ref (hp.objs.size + 1)], kw⟩)
      (fun r s' => match r with | .ok (.ret v) => v = .none ∧ Q (.done (.ret (.ref (hp.objs.size + 1)))) s' | .ok _ => False | .error e => E e s') ⟨(hp.push (kdv_tup [])).push (excO C hp.objs.size), gs, dr, tk, os⟩) :
    wpAny (model prog w) A (Builtin.«type.__call__» ⟨[.ref C], kw⟩) Q E ⟨hp, gs, dr, tk, os⟩ := by
  repeat (first | with_reducible refine wpAny_loadPart_at at1 ?_ | with_reducible refine wpAny_madeBy_exc at1 ?_ | wp_step)
  refine codeAny_call_builtin_code (Code.quiet_builtin _ F.quiet) (kw_new_checked F hT at1 ?_)
  refine kw_new_made F hT at1 ?_
  show wpAny _ _ _ _ _ _
  have kp : ∀ b o, hp.get? b = some o → ((hp.push (kdv_tup [])).push (excO C hp.objs.size)).get? b = some o := fun b o e => Heap.get?_push_of_some _ (Heap.get?_push_of_some _ e)
  have at2 := kp _ _ at1
  have new0 : ((hp.push (kdv_tup [])).push (excO C hp.objs.size)).get? (hp.objs.size + 1) = some (excO C hp.objs.size) := by heap_get
  have inC : (Value.ref C :: bm).contains (.ref C) = true := by simp
  have look1 := look.keeps kp
  have bnd1 := (bnd (.ref (hp.objs.size + 1))).keeps kp
  unfold isInstance
  repeat (first | with_reducible refine wpAny_loadPart_at new0 ?_ | (with_reducible refine wpAny_isSubtype_exc at2 ?_; rw [inC]) | wp_step)
  show wpAny _ _ (typeLookup (.ref C) _) _ _ _
  refine look1.at ?_
  refine wpAny_holding (wpAny_bind (bnd1.at ?_))
  refine wpAny_bind (wpAny_call (codeAny_mono fin fun r s' z => ?_))
  rcases r with e | (v | _ | _ | _) <;> first | exact z | exact z.elim | skip
  obtain ⟨rfl, z⟩ := z
  first
    | exact wpAny_pure (wpAny_pure z)
    | (wp_walk; exact z)
theorem kw_class_called (F : ExcBaseFacts B newId initId bmB) (hT : ∀ X : String, bm.contains (.type X) = bmB.contains (.type X)) {fI : Addr}
    (at1 : hp.get? C = some (excClassObj nm qn C N bs bm hdct sn sub ab col dd k0 k1 k2 k3 k5 newId))
    (look : W.Looks (model prog w) hp (typeLookup (.ref C) "__init__") (some (.ref fI))) (bnd : ∀ self, W.Looks (model prog w) hp (bindSpecial (.ref fI) self) (.ref fI, [self]))
    (fin : codeAny (model prog w) (A.under (.builtin "type.__call__" ⟨[.ref C], kw⟩)) (.call (.ref fI) ⟨[.ref (hp.objs.size + 1)], kw⟩) (W.InitBack (hp.objs.size + 1) R) ⟨(hp.push (kdv_tup [])).push (excO C hp.objs.size), gs, dr, tk, os⟩) :
    codeAny (model prog w) A (.call (.ref C) ⟨[], kw⟩) R ⟨hp, gs, dr, tk, os⟩ := by
  have f1 := tc_lookup
  have f2 := tc_bind (.ref C)
  have isTy : (⟨hp, gs, dr, tk, os⟩ : Shared).TypeIs (.ref C) "type" := ⟨_, at1, rfl⟩
  refine codeAny_of_tree ?_
  show wpAny _ _ (callAny (.ref C) _) _ _ _
  repeat (any_goals (first | assumption | with_reducible refine wpAny_loadPart_at at1 ?_ | wp_step))
  refine ⟨rfl, ?_⟩
  refine codeAny_call_builtin_at (Code.quiet_builtin _ (by decide +kernel)) entry_typeCall ?_
  have chk : ∀ {Q : Unit → Shared → Prop} {E' : Value → Shared → Prop} {A' : Around}, Q () ⟨hp, gs, dr, tk, os⟩ → wpAny (model prog w) A' (checkBuiltinCall "type.__call__" ⟨[.ref C], kw⟩) Q E' ⟨hp, gs, dr, tk, os⟩ := by
    intro Q E' A' q
    have f3 := tc_sub
    simp only [checkBuiltinCall, tc_kind, tc_split]
    repeat (any_goals (first | assumption | with_reducible refine wpAny_loadPart_at at1 ?_ | with_reducible refine wpAny_onRaise ?_ | with_reducible refine wpAny_map ?_ | wp_step))
  refine chk (kw_type_called F hT at1 look bnd ?_)
  refine codeAny_mono fin fun r s' z => ?_
  rcases r with e | (v | _ | _ | _) <;> exact z
end
end Pu

namespace Pu
open PySem PySem.Spec PyProof.Rows L2
/-! ### X(a=.., ..) of such a class -/
def tOexK (C : Addr) (sp : Sp) (gV : List V → List V → List V) (tk : TA) : TE := fun σ H Q => tk σ H fun zs H1 => ∀ a, H1 a = none → sp (gV [.ref a] zs) (upd H1 a (exo a C none)) (fun v H2 => v = .non ∧ Q (.ref a) H2) fun _ _ _ => False
section
variable {X : Cx} {tk : TA} {p pos : Pos} {kws : List Keyword}
theorem pe_oexK {CX : CXT} {x : Str} {C fI : Addr} {k : Nat} {fd : FuncData} {ps ks : List Str} {sp : Sp} {g : List Value → List Value → List Value} {gV : List V → List V → List V} (T : OexC X.K C) (iC : PySem.W.findIn X.K (.ref C) "__init__" = some (some (.ref fI))) (tI : PySem.W.typeIn X.K (.ref fI) = some (.type "function"))
    (G : FnOk X.prog X.w X.K X.mg X.base CX k fI fd ps sp) (room : Room (k + 1) X.A) (kb : KBinds X.K fd ps ks g gV) (px : Passes CX X fun _ _ _ => False) (gl : Gl X x) (hm : X.mg x = some (.ref C)) (hkw : PK X kws tk)
    (hall : (backToKw pos (keywordEach kws X.env)).all (·.1.isSome) = true := by rfl) (hks : (backToKw pos (keywordEach kws X.env)).filterMap (·.1) = ks := by rfl) (hdb : (x == ("__debug__" : Str)) = false := by decide)
    (hpl : ((backTo pos (starEach [] X.env)).any (·.1) || (backToKw pos (keywordEach kws X.env)).any (·.1.isNone)) = false := by rfl) : PE X (.Call (.Name x p) [] kws pos) (tOexK C sp gV tk) := by
  refine ⟨fun pins s σ H Q I h => ?_⟩
  obtain ⟨nm, q, N, bs, bm, sn, sub, ab, col, dd, k0, k1, k2, k3, k5, clsAt, refs⟩ := T.cls
  refine wpAny_Call_Name_kw (ld_glob I gl hm ?_ hdb)
  refine PySem.W.callWith_KW0 (h₀ := X.base) I.ok.mod.kin T.kC hall (thn (hkw.run pos pins s σ H _ I h) fun ws s1 ⟨zs, H1, I1, rz, q1⟩ => ⟨I1.kIn, ?_⟩) hpl
  rw [hks]
  obtain ⟨hp, gs, dr, tok, os⟩ := s1
  have later : hp.objs.size ≤ hp.objs.size + 1 := Nat.le_succ _
  have ask := q1 (hp.objs.size + 1) (I1.hok.fresh later)
  have two : ∀ b o, hp.get? b = some o → ((hp.push (PySem.W.kdv_tup [])).push (PySem.HandSPX.excO C hp.objs.size)).get? b = some o := fun b o z => Heap.get?_push_of_some _ (Heap.get?_push_of_some _ z)
  have there : ((hp.push (PySem.W.kdv_tup [])).push (PySem.HandSPX.excO C hp.objs.size)).get? (hp.objs.size + 1) = some (PySem.HandSPX.excO C hp.objs.size) := by heap_get
  have I2 : Inv X pins σ (upd H1 (hp.objs.size + 1) (exo (hp.objs.size + 1) C none)) ⟨(hp.push (PySem.W.kdv_tup [])).push (PySem.HandSPX.excO C hp.objs.size), gs, dr, tok, os⟩ :=
    I1.laid (t' := tok) (a := hp.objs.size + 1) (o := exo (hp.objs.size + 1) C none) (h' := (hp.push (PySem.W.kdv_tup [])).push (PySem.HandSPX.excO C hp.objs.size)) two later (exo_ok there)
  have r1 : Vals [V.ref (hp.objs.size + 1)] [Value.ref (hp.objs.size + 1)] := .cons rfl .nil
  have r2 := kb.rel r1 rz
  have many : (g [Value.ref (hp.objs.size + 1)] ws).length = ps.length := by
    have z := r2.length
    rw [G.len _ _ _ _ ask] at z
    exact z.symm
  refine wpAny_call (kw_class_called PySem.F.excBase_ValueError (fun Y => PySem.HandSPX.refsVE_contains Y bm refs) (I1.kIn _ _ clsAt) (PySem.W.looks_findIn I1.kIn iC) (fun self => PySem.W.bind_fn I1.kIn self tI)
    (codeAny_mono (G.run _ X.stack _ _ ⟨[Value.ref (hp.objs.size + 1)], ks.zip ws⟩ (g [Value.ref (hp.objs.size + 1)] ws) _ _ (fun _ _ _ => False) (room.make C [] (ks.zip ws)) (I2.env0.make C [] (ks.zip ws)) (kb.to _ _ _ I2.kIn many) r2 ask) fun r s' back => ?_))
  cases r with
  | error er => exact px pins σ _ _ er s' I2 back
  | ok fl =>
    cases fl with
    | ret u =>
      obtain ⟨v, H2, I3, rv, ev, q2⟩ := I2.after back
      subst ev
      exact ⟨rv, .ref (hp.objs.size + 1), H2, ⟨I3.ok, I3.os, I3.bare, I3.base, I3.loc, I3.cell, I3.free, I3.freeC, I3.pin, I3.hok, I3.len⟩, rfl, q2⟩
    | next => exact False.elim back
    | brk => exact False.elim back
    | cont => exact False.elim back
end
end Pu
namespace PySem.W
open PySem PySem.Spec PySem.Calls PyProof.Rows
/-! ### isinstance of an error with a dict of its own -/
section
variable {prog : Program} {w : World} {A : Around} {E : Value → Shared → Prop} {s : Shared} {K : Frag} {x D : Addr} {ox : Obj} {od : Option Obj}
theorem pu_find {C : Addr} {name : Str} {a g : Value} (one : (clsIn K C).isSome = true) (two : findIn K (.ref C) name = some (some a)) (three : specialIn K a "__get__" = some (some g)) (four : takesIn K a = some true) : findObj K C od name = some (.bind g a) := by
  obtain ⟨cd, one⟩ := Option.isSome_iff_exists.mp one
  unfold findObj
  rw [one, Option.bind_some, two, Option.bind_some]
  simp [three, four]
theorem pu_class {Q : Option Value → Shared → Prop} (e1 : findIn K (.ref D) "__getattribute__" = some (some (.builtin "BaseException.__getattribute__"))) (e2 : findIn K (.ref D) "__getattr__" = some none) (e3 : subIn K (.ref D) (.type "BaseException") = some true) (e4 : hasDictIn K D = true)
    (e5 : findIn K (.ref D) "__class__" = some (some (.builtin "object.__class__"))) (e6 : specialIn K (.builtin "object.__class__") "__get__" = some (some (.builtin "getset_descriptor.__get__"))) (e7 : takesIn K (.builtin "object.__class__") = some true)
    (e8 : mroIn K D (.type "object") = some true) (X : K.In s.heap) (I : InstAt s.heap x ox D od) (fin : Q (some (.ref D)) { s with toks := s.toks + 1 }) : wpAny (model prog w) A (getAttr? (.ref x) "__class__") Q E s := by
  have found : findObj K D od "__class__" = some (.bind (.builtin "getset_descriptor.__get__") (.builtin "object.__class__")) := pu_find (by obtain ⟨cd, z, _⟩ := any_some e4; rw [z]; rfl) e5 e6 e7
  obtain ⟨hp, gs, dr, tok, os⟩ := s
  have l0 := I.type (M := model prog w)
  have l1 := looks_findIn (M := model prog w) X e1
  have l2 := looks_findIn (M := model prog w) X e2
  have l3 := looks_find (M := model prog w) X I found
  have under : Looks (model prog w) hp (isInstance (.ref x) (.type "BaseException")) true := l0.andThen (looks_subIn X e3)
  have n0 : (false && onTheHeap (Value.builtin "BaseException.__getattribute__")) = false := rfl
  have n2 : (Value.builtin "BaseException.__getattribute__" == Value.builtin "object.__getattribute__") = false := by decide +kernel
  have n1 : (onTheHeap (Value.ref D) && Value.builtin "BaseException.__getattribute__" == Value.builtin "object.__getattribute__") = false := by
    rw [n2]
    rfl
  unfold getAttr? getAttrBy? getAttrBy
  refine wpAny_bind (wpAny_mkText (wpAny_bind (wpAny_attempt (wpAny_holding (wpAny_bind (l0.at (wpAny_bind (l1.at ?_))))))))
  show wpAny _ _ (if (onTheHeap (Value.ref D) && Value.builtin "BaseException.__getattribute__" == Value.builtin "object.__getattribute__") = true then _ else _) _ _ _
  rw [n1, if_neg Bool.false_ne_true]
  unfold getAttrByItsOwn hookBefore
  refine wpAny_bind ?_
  rw [if_pos (show onTheHeap (Value.ref D) = true from rfl)]
  refine l2.at ?_
  refine wpAny_bind (wpAny_attempt (wpAny_holding ?_))
  unfold callGetattribute
  rw [n0, if_neg Bool.false_ne_true]
  unfold boundAndCalled
  rw [PySem.F.excAttr_ValueError.ga.bind (.ref x)]
  refine wpAny_bind (wpAny_pure ?_)
  show wpAny _ _ (call (.builtin "BaseException.__getattribute__") [.ref x, .str "__class__" tok]) _ _ _
  refine wpAny_call (codeAny_call_builtin PySem.F.excAttr_ValueError.ga.plain PySem.F.entry_bexc_ga ?_)
  refine @check_slot (model prog w) _ _ ⟨hp, gs, dr, tok + 1, os⟩ "BaseException.__getattribute__" "BaseException" "__getattribute__" (.ref x) [.str "__class__" tok] [] _ (by decide +kernel) (by decide +kernel) under (PySem.F.args_bexc_ga (.ref x) (.str "__class__" tok)) ?_
  unfold Builtin.«object.__getattribute__»
  refine wpAny_bind (wpAny_of_eq (a := ((Value.ref x : Value), [Value.str "__class__" tok])) (by first | rfl | (simp only [slotArgs]; rfl)) ?_)
  refine wpAny_bind (wpAny_pure (wpAny_bind (l0.at (wpAny_bind (l3.at ?_)))))
  show wpAny _ _ (holding [Value.builtin "object.__class__"] (call (.builtin "getset_descriptor.__get__") [.builtin "object.__class__", .ref x, .ref D]) >>= ret) _ _ _
  refine wpAny_bind (wpAny_holding (wpAny_call (class_get (s := ⟨hp, gs, dr, tok + 1, os⟩) (ox := ox) (od := od) X I e8 ?_)))
  refine wpAny_pure ?_
  show wpAny _ _ (handedOut (.ref D)) _ _ _
  rw [handedOut_of (v := .ref D) rfl]
  first
    | exact wpAny_pure (wpAny_pure fin)
    | exact wpAny_pure fin
    | exact wpAny_pure (wpAny_bind (wpAny_pure (wpAny_pure fin)))
theorem pu_kit (e1 : findIn K (.ref D) "__getattribute__" = some (some (.builtin "BaseException.__getattribute__"))) (e2 : findIn K (.ref D) "__getattr__" = some none) (e3 : subIn K (.ref D) (.type "BaseException") = some true) (e4 : hasDictIn K D = true)
    (e5 : findIn K (.ref D) "__class__" = some (some (.builtin "object.__class__"))) (e6 : specialIn K (.builtin "object.__class__") "__get__" = some (some (.builtin "getset_descriptor.__get__"))) (e7 : takesIn K (.builtin "object.__class__") = some true)
    (e8 : mroIn K D (.type "object") = some true) : KitX K (.ref x) (.ref D) (fun h => InstAt h x ox D od) where
  ty := fun _ _ _ I => I.type
  it := fun _ _ X _ => by
    obtain ⟨cdD, z, _⟩ := any_some e4
    unfold clsIn at z
    split at z
    · rename_i c' d' cd' sl' ho
      intro A' Q' E' s' k q
      unfold isType loadHead
      exact wpAny_bind (wpAny_loadPart (k _ _ (X _ _ ho)) (wpAny_pure q))
    · cases z
  ne := fun h tp dd its n sl X htp => by
    obtain ⟨cdD, z, _⟩ := any_some e4
    refine Bool.eq_false_iff.mpr fun q => ?_
    obtain rfl : D = tp := Value.ref.inj (beq_iff_eq.mp q)
    unfold clsIn at z
    split at z
    · rename_i c' d' cd' sl' ho
      cases (X _ _ ho).symm.trans htp
    · cases z
  ca := fun X I k => pu_class e1 e2 e3 e4 e5 e6 e7 e8 X I k
end
end PySem.W

namespace Pu
open PySem L2
abbrev sMade : Stmt := top 78
abbrev sKinds : Stmt := top 79
/-- an error of the class at D stands at a -/
def ErrAt (H : Hp) (a D : Addr) : Prop := H a = some (ExO (.ref D) a) ∨ ∃ d fs, H a = some (exo a D (some d)) ∧ H d = some (exd d fs)
theorem ErrAt.same {H H' : Hp} {a D : Addr} (h : ErrAt H a D) (s : Same H H') : ErrAt H' a D := by
  rcases h with h | ⟨d, fs, h1, h2⟩
  · exact .inl (s _ _ h)
  · exact .inr ⟨d, fs, s _ _ h1, s _ _ h2⟩
inductive ErrL (H : Hp) : List V → List Addr → Prop where
  | nil : ErrL H [] []
  | cons {a C : Addr} {vs : List V} {Cs : List Addr} : ErrAt H a C → ErrL H vs Cs → ErrL H (.ref a :: vs) (C :: Cs)
theorem ErrL.same {H H' : Hp} (s : Same H H') : ∀ {vs : List V} {Cs : List Addr}, ErrL H vs Cs → ErrL H' vs Cs
  | _, _, .nil => .nil
  | _, _, .cons h r => .cons (h.same s) (ErrL.same s r)
theorem ErrL.app {H : Hp} : ∀ {vs ws : List V} {Cs Ds : List Addr}, ErrL H vs Cs → ErrL H ws Ds → ErrL H (vs ++ ws) (Cs ++ Ds)
  | _, _, _, _, .nil, q => q
  | _, _, _, _, .cons h r, q => .cons h (ErrL.app r q)
theorem ErrL.len {H : Hp} : ∀ {vs : List V} {Cs : List Addr}, ErrL H vs Cs → vs.length = Cs.length
  | _, _, .nil => rfl
  | _, _, .cons h r => congrArg Nat.succ (ErrL.len r)
theorem ErrL.get {H : Hp} : ∀ {vs : List V} {Cs : List Addr}, ErrL H vs Cs → ∀ {i : Nat} {v : V}, vs[i]? = some v → ∃ a C, v = .ref a ∧ Cs[i]? = some C ∧ ErrAt H a C
  | _, _, .nil, i, v, h => by cases h
  | _, _, .cons h r, 0, v, e => by cases e; exact ⟨_, _, rfl, rfl, h⟩
  | _, _, .cons h r, i + 1, v, e => ErrL.get r (i := i) e
section
variable {X : Cx}
def rIsErr (K : PySem.W.Frag) : List V → Hp → VK → Prop := fun xs H Q => ∃ (a D : Addr) (c : V) (cv : Value) (b : Bool), xs = [.ref a, c] ∧ (∀ u, RelV c u → u = cv) ∧ ErrAt H a D ∧ ExcC K D ∧ PySem.W.kitOne K (.ref D) cv = some b ∧ Q (.bl b) H
theorem call_isErr : CallR X (.builtin "isinstance") (rIsErr X.K) := by
  intro pn s σ H xs us Q I r ⟨a, D, c, cv, b, ex, hc, ea, C, kit, q⟩
  subst ex
  obtain ⟨u1, u2, rfl, r1, r2⟩ := vals2 r
  cases (show u1 = Value.ref a from r1)
  cases hc u2 r2
  rcases ea with ea | ⟨d, fs, ea, ed⟩
  · obtain ⟨⟨ob, vs, e, ⟨z1, z2⟩, hd, _⟩, _, _⟩ := I.hok a _ ea
    have J : PySem.W.InstAt s.heap a ob D none := by
      obtain ⟨c0, d0, da, sl⟩ := ob
      dsimp only at z1 z2 hd
      subst z1 z2 hd
      exact ⟨e, rfl, rfl, trivial⟩
    exact PySem.W.kia_one (PySem.W.pu_kit C.hg C.hk C.hs C.hd C.ha C.hn C.ht C.hm) I.kIn J kit (fun z => nomatch z) fun tk => ⟨.bl b, H, I.tok tk, rfl, q⟩
  · obtain ⟨t1, hoe⟩ := exo_at I.hok ea
    obtain ⟨mA, hns, rel⟩ := exd_at I.hok ed
    obtain ⟨od, ho, hl⟩ := lookIn_ns hns
    have J : PySem.W.InstAt s.heap a { cls := .ref D, dict := some d, data := .fields #[.ref t1, .none, .none, .none, .bool false, .none] } D (some od) := ⟨hoe, rfl, rfl, ho⟩
    exact PySem.W.kia_one (PySem.W.pu_kit C.hg C.hk C.hs C.hd C.ha C.hn C.ht C.hm) I.kIn J kit (fun z => nomatch z) fun tk => ⟨.bl b, H, I.tok tk, rfl, q⟩
/-! ### the kinds of an error, name by name -/
def NmOk (X : Cx) (Cf : Str → Addr) (D : Addr) (kd : Str → Bool) (y : Str) : Prop := X.mg y = some (.ref (Cf y)) ∧ PySem.W.kitOne X.K (.ref D) (.ref (Cf y)) = some (kd y)
def TK (X : Cx) (Cf : Str → Addr) (a D : Addr) (kd : Str → Bool) (g : List Str) : TA := fun σ H Q => (∀ y ∈ g, NmOk X Cf D kd y) ∧ (∃ z, σ = [some (.ref a), z]) ∧ ErrAt H a D ∧ Q (g.map fun y => V.bl (kd y)) H
def TFin (X : Cx) (Cf : Str → Addr) (a D : Addr) (kd : Str → Bool) (g : List Str) : TS := fun E σ H => (∀ y ∈ g, NmOk X Cf D kd y) ∧ ErrAt H a D ∧ ∃ q ys, σ = [some (.ref a), some (.ref q)] ∧ H q = some (.lst ys) ∧ ys.length + g.length ≤ 1000 ∧
  ∀ q' H', Same H H' → H' q' = some (.lst (ys ++ g.map fun y => V.bl (kd y))) → E.rt (.ref q') H'
variable {Cf : Str → Addr} {a D : Addr} {kd : Str → Bool}
theorem kc_nil : PA X [] (TK X Cf a D kd []) := pa_imp pa_nil fun _ H _ q => q.2.2.2
theorem kc_cons {x y : Str} {p1 p2 p3 p4 : Pos} {es : List Expr} {g : List Str} (ms : X.mg "isinstance" = none) (xc : ExcC X.K D) (h0 : PE X (.Name y p2) (tVar 0)) (hr : PA X es (TK X Cf a D kd g)) (hI : Gl X "isinstance" := by rfl) (hg : Gl X x := by rfl)
    (hdb : (x == ("__debug__" : Str)) = false := by decide +kernel) (hs1 : starEach [.Name x p3] X.env = (false, eval (.Name x p3) X.env) :: starEach [] X.env := by rfl) (hs2 : starEach [.Name y p2, .Name x p3] X.env = (false, eval (.Name y p2) X.env) :: starEach [.Name x p3] X.env := by rfl)
    (hs : starEach (.Call (.Name "isinstance" p1) [.Name y p2, .Name x p3] [] p4 :: es) X.env = (false, eval (.Call (.Name "isinstance" p1) [.Name y p2, .Name x p3] [] p4) X.env) :: starEach es X.env := by rfl) : PA X (.Call (.Name "isinstance" p1) [.Name y p2, .Name x p3] [] p4 :: es) (TK X Cf a D kd (x :: g)) := by
  refine ⟨fun ps pn s σ H Q I ⟨hall, ⟨z, hσ⟩, ea, q⟩ => ?_⟩
  have c := hall x List.mem_cons_self
  refine (pa_cons (pe_callB call_isErr hI ms (by decide +kernel) (pa_cons h0 (pa_cons (pe_glob (v := .ref (Cf x)) hg c.1 rfl hdb) pa_nil hs1) hs2)) hr hs).run ps pn s σ H Q I ?_
  subst hσ
  exact ⟨_, rfl, a, D, .ref (Cf x), .ref (Cf x), kd x, rfl, (fun u q => q), ea, xc, c.2, fun y hy => hall y (List.mem_cons_of_mem _ hy), ⟨z, rfl⟩, ea, q⟩
theorem ki_last {es : List Expr} {f : Str} {p1 p2 p3 p4 : Pos} {g : List Str} (hes : PA X es (TK X Cf a D kd g)) (hf : PE X (.Name f p1) (tVar 1)) : PSs X [.Return (some (.BinOp (.Name f p1) .Add (.List es p2) p3)) p4] (TFin X Cf a D kd g) := by
  refine ⟨fun pn s σ H E I ⟨hall, ea, q, ys, hσ, hq, hl, k⟩ => ?_⟩
  refine (pss_one (ps_ret (pe_op op_cat hf (pe_lst hes)))).run pn s σ H E I ?_
  subst hσ
  have l1 : (g.map fun y => V.bl (kd y)).length = g.length := List.length_map ..
  exact ⟨_, rfl, hall, ⟨_, rfl⟩, ea, (by rw [l1]; exact Nat.le_of_lt (small1000 (by omega))), fun p hp => ⟨q, p, ys, _, rfl, rfl, same_upd hp _ _ hq, upd_same, (by rw [l1]; exact Nat.le_of_lt (small1000 (by omega))), fun p' hp' => k p' _ ((same_upd hp).trans (same_upd hp')) upd_same⟩⟩
theorem ki_cons {es : List Expr} {rest : List Stmt} {f : Str} {p0 p1 p2 p3 p4 : Pos} {g g2 : List Str} (hes : PA X es (TK X Cf a D kd g)) (hrest : PSs X rest (TFin X Cf a D kd g2)) (hf : PE X (.Name f p1) (tVar 1)) (nd : X.N.Nodup) (hi : X.N[1]? = some f := by rfl) (hx : Loc X.env.scope f := by exact Or.inl rfl)
    (hs : swapsWith (.BinOp (.Name f p1) .Add (.List es p2) p3) (some (.Name f p0)) p4.line X.env = pure false := by rfl) (hfn : X.fn f = true ∨ X.env.scope.names.lookup f = some .local := by first | exact .inl rfl | exact .inr rfl) :
    PSs X (.Assign [.Name f p0] (.BinOp (.Name f p1) .Add (.List es p2) p3) p4 :: rest) (TFin X Cf a D kd (g ++ g2)) := by
  refine ⟨fun pn s σ H E I ⟨hall, ea, q, ys, hσ, hq, hl, k⟩ => ?_⟩
  refine (pss_cons (ps_set (i := 1) nd hi hx (pe_op op_cat hf (pe_lst hes)) hs hfn) hrest).run pn s σ H E I ?_
  subst hσ
  rw [List.length_append] at hl
  have l1 : (g.map fun y => V.bl (kd y)).length = g.length := List.length_map ..
  refine ⟨_, rfl, fun y hy => hall y (List.mem_append_left _ hy), ⟨_, rfl⟩, ea, (by rw [l1]; exact Nat.le_of_lt (small1000 (by omega))), fun p hp => ⟨q, p, ys, _, rfl, rfl, same_upd hp _ _ hq, upd_same, (by rw [l1]; exact Nat.le_of_lt (small1000 (by omega))), fun p' hp' => ?_⟩⟩
  have s1 := (same_upd (o := .lst (g.map fun y => V.bl (kd y))) hp).trans (same_upd (o := .lst (ys ++ g.map fun y => V.bl (kd y))) hp')
  refine ⟨fun y hy => hall y (List.mem_append_right _ hy), ea.same s1, p', _, rfl, upd_same, (by rw [List.length_append, l1]; omega), fun q' H' s2 h2 => k q' H' (s1.trans s2) ?_⟩
  rw [h2, List.map_append, List.append_assoc]
/-! ### a list of errors, written out -/
def MkOk (X : Cx) (Cf : Str → Addr) (y : Str) : Prop := PySem.W.excIn X.K (Cf y) [.type "ValueError", .type "Exception", .type "BaseException", .type "object"] "ValueError.__new__" = true ∧ X.mg y = some (.ref (Cf y)) ∧ PySem.W.keepIn X.K (.ref (Cf y)) = true
def TM (X : Cx) (Cf : Str → Addr) (g : List Str) : TA := fun σ H Q => (∀ y ∈ g, MkOk X Cf y) ∧ (∃ v r, σ = some v :: r) ∧ ∀ vs H', Same H H' → ErrL H' vs (g.map Cf) → Q vs H'
def TMr (X : Cx) (Cf : Str → Addr) (g : List Str) (u : TS) : TS := fun E σ H => (∀ y ∈ g, MkOk X Cf y) ∧ ∃ v0 v1 v2 v3 v4 q ys Cs, σ = [some v0, some v1, some v2, some v3, some v4, some (.ref q)] ∧ H q = some (.lst ys) ∧ ErrL H ys Cs ∧ Cs.length + g.length ≤ 1000 ∧
  ∀ q' ys' H', Same H H' → H' q' = some (.lst ys') → ErrL H' ys' (Cs ++ g.map Cf) → u E [some v0, some v1, some v2, some v3, some v4, some (.ref q')] H'
theorem mc_nil : PA X [] (TM X Cf []) := pa_imp pa_nil fun _ H _ q => q.2.2 [] H (Same.refl H) .nil
theorem mc_cons {x y : Str} {p p2 pos : Pos} {es : List Expr} {g : List Str} (h0 : PE X (.Name y p2) (tVar 0)) (hr : PA X es (TM X Cf g)) (hg : Gl X x := by rfl) (hdb : (x == ("__debug__" : Str)) = false := by decide +kernel)
    (hs1 : starEach [.Name y p2] X.env = (false, eval (.Name y p2) X.env) :: starEach [] X.env := by rfl) (hs : starEach (.Call (.Name x p) [.Name y p2] [] pos :: es) X.env = (false, eval (.Call (.Name x p) [.Name y p2] [] pos) X.env) :: starEach es X.env := by rfl) :
    PA X (.Call (.Name x p) [.Name y p2] [] pos :: es) (TM X Cf (x :: g)) := by
  refine ⟨fun ps pn s σ H Q I ⟨hall, ⟨v, r, hσ⟩, q⟩ => ?_⟩
  have c := hall x List.mem_cons_self
  refine (pa_cons (pe_exc1 PySem.F.excBase_ValueError c.1 c.2.1 c.2.2 hg h0 hs1 hdb) hr hs).run ps pn s σ H Q I ?_
  subst hσ
  refine ⟨v, rfl, fun b hb => ⟨fun y hy => hall y (List.mem_cons_of_mem _ hy), ⟨v, r, rfl⟩, fun vs H2 s2 h2 => ?_⟩⟩
  exact q _ H2 ((same_upd hb).trans s2) (.cons (.inl (s2 _ _ upd_same)) h2)
theorem mi_end {rest : List Stmt} {u : TS} (h : PSs X rest u) : PSs X rest (TMr X Cf [] u) := by
  refine ⟨fun pn s σ H E I ⟨_, v0, v1, v2, v3, v4, q, ys, Cs, hσ, hq, he, _, k⟩ => ?_⟩
  subst hσ
  exact h.run pn s _ H E I (k q ys H (Same.refl H) hq (by rw [List.map_nil, List.append_nil]; exact he))
theorem mi_cons {es : List Expr} {rest : List Stmt} {u : TS} {f : Str} {p0 p1 p2 p3 p4 : Pos} {g g2 : List Str} (hes : PA X es (TM X Cf g)) (hrest : PSs X rest (TMr X Cf g2 u)) (hf : PE X (.Name f p1) (tVar 5)) (nd : X.N.Nodup) (hi : X.N[5]? = some f := by rfl) (hx : Loc X.env.scope f := by exact Or.inl rfl)
    (hs : swapsWith (.BinOp (.Name f p1) .Add (.List es p2) p3) (some (.Name f p0)) p4.line X.env = pure false := by rfl) (hfn : X.fn f = true ∨ X.env.scope.names.lookup f = some .local := by first | exact .inl rfl | exact .inr rfl) :
    PSs X (.Assign [.Name f p0] (.BinOp (.Name f p1) .Add (.List es p2) p3) p4 :: rest) (TMr X Cf (g ++ g2) u) := by
  refine ⟨fun pn s σ H E I ⟨hall, v0, v1, v2, v3, v4, q, ys, Cs, hσ, hq, he, hl, k⟩ => ?_⟩
  refine (pss_cons (ps_set (i := 5) nd hi hx (pe_op op_cat hf (pe_lst hes)) hs hfn) hrest).run pn s σ H E I ?_
  subst hσ
  rw [List.length_append] at hl
  have l0 := he.len
  refine ⟨_, rfl, fun y hy => hall y (List.mem_append_left _ hy), ⟨_, _, rfl⟩, fun vs H1 s1 h1 => ?_⟩
  have l1 := h1.len
  rw [List.length_map] at l1
  refine ⟨(by rw [l1]; exact Nat.le_of_lt (small1000 (by omega))), fun p hp => ⟨q, p, ys, _, rfl, rfl, same_upd hp _ _ (s1 _ _ hq), upd_same, (by rw [l1, l0]; exact Nat.le_of_lt (small1000 (by omega))), fun p' hp' => ?_⟩⟩
  have s2 := (same_upd (o := .lst vs) hp).trans (same_upd (o := .lst (ys ++ vs)) hp')
  refine ⟨fun y hy => hall y (List.mem_append_right _ hy), v0, v1, v2, v3, v4, p', ys ++ vs, Cs ++ g.map Cf, rfl, upd_same, ((he.same s1).app h1).same s2, (by rw [List.length_append, List.length_map]; omega), fun q' ys' H' s3 h3 h4 => ?_⟩
  exact k q' ys' H' ((s1.trans s2).trans s3) h3 (by rw [List.map_append, ← List.append_assoc]; exact h4)
end
theorem nmA_eq : nmA = nmG ++ (["BadText", "Clash", "MoreLie", "NotSettling", "Poor", "StillHeld"] : List Str) := rfl
section
variable {P : Program} {w : World} {K : PySem.W.Frag} {mg : Str → Option Value} {base : Heap} {Cf : Str → Addr}
/-- the kinds of an error -/
def spKinds (K : PySem.W.Frag) (mg : Str → Option Value) (Cf : Str → Addr) : Sp := fun vs H Q _ => ∃ (a D : Addr) (kd : Str → Bool), vs = [.ref a] ∧ ErrAt H a D ∧ ExcC K D ∧ (∀ y ∈ nmA, mg y = some (.ref (Cf y)) ∧ PySem.W.kitOne K (.ref D) (.ref (Cf y)) = some (kd y)) ∧
  ∀ p H', Same H H' → H' p = some (.lst (nmA.map fun y => V.bl (kd y))) → Q (.ref p) H'
theorem scKi : FnScope ["error", "found"] ["error"] (defScope sKinds) := ⟨rfl, rfl, rfl, by decide +kernel, rfl, by decide +kernel, by decide +kernel⟩
theorem ok_kinds {f : Addr} {fd : FuncData} (F : Fun K "_law_er_kinds" "_law_er_kinds" sKinds f fd) (ms : mg "isinstance" = none) : FnOk P w K mg base CX0 1 f fd ["error"] (spKinds K mg Cf) := by
  refine F.ok scKi (fun vs H Q E h => ?_) (fun cdv A outer s H vs Q E hr h => ?_)
  · obtain ⟨a, D, kd, rfl, _⟩ := h
    rfl
  · obtain ⟨a, D, kd, rfl, ea, xc, kits, k⟩ := h
    refine ⟨_, pss_cons (ps_set (i := 1) scKi.nd rfl (Or.inl rfl) (pe_lst pa_nil))
      (ki_cons (kc_cons (Cf := Cf) (a := a) (D := D) (kd := kd) (x := "BadAct") ms xc (pv 0) (kc_cons (Cf := Cf) (a := a) (D := D) (kd := kd) (x := "BadAgreed") ms xc (pv 0) (kc_cons (Cf := Cf) (a := a) (D := D) (kd := kd) (x := "BadAmount") ms xc (pv 0) kc_nil)))
      (ki_cons (kc_cons (Cf := Cf) (a := a) (D := D) (kd := kd) (x := "BadBank") ms xc (pv 0) (kc_cons (Cf := Cf) (a := a) (D := D) (kd := kd) (x := "BadBook") ms xc (pv 0) (kc_cons (Cf := Cf) (a := a) (D := D) (kd := kd) (x := "BadBooks") ms xc (pv 0) kc_nil)))
      (ki_cons (kc_cons (Cf := Cf) (a := a) (D := D) (kd := kd) (x := "BadCell") ms xc (pv 0) (kc_cons (Cf := Cf) (a := a) (D := D) (kd := kd) (x := "BadCells") ms xc (pv 0) (kc_cons (Cf := Cf) (a := a) (D := D) (kd := kd) (x := "BadCertificate") ms xc (pv 0) kc_nil)))
      (ki_cons (kc_cons (Cf := Cf) (a := a) (D := D) (kd := kd) (x := "BadCertificates") ms xc (pv 0) (kc_cons (Cf := Cf) (a := a) (D := D) (kd := kd) (x := "BadCharter") ms xc (pv 0) (kc_cons (Cf := Cf) (a := a) (D := D) (kd := kd) (x := "BadCheats") ms xc (pv 0) kc_nil)))
      (ki_cons (kc_cons (Cf := Cf) (a := a) (D := D) (kd := kd) (x := "BadContent") ms xc (pv 0) (kc_cons (Cf := Cf) (a := a) (D := D) (kd := kd) (x := "BadDisk") ms xc (pv 0) (kc_cons (Cf := Cf) (a := a) (D := D) (kd := kd) (x := "BadEnd") ms xc (pv 0) kc_nil)))
      (ki_cons (kc_cons (Cf := Cf) (a := a) (D := D) (kd := kd) (x := "BadFrame") ms xc (pv 0) (kc_cons (Cf := Cf) (a := a) (D := D) (kd := kd) (x := "BadFuse") ms xc (pv 0) (kc_cons (Cf := Cf) (a := a) (D := D) (kd := kd) (x := "BadHands") ms xc (pv 0) kc_nil)))
      (ki_cons (kc_cons (Cf := Cf) (a := a) (D := D) (kd := kd) (x := "BadKept") ms xc (pv 0) (kc_cons (Cf := Cf) (a := a) (D := D) (kd := kd) (x := "BadLeast") ms xc (pv 0) (kc_cons (Cf := Cf) (a := a) (D := D) (kd := kd) (x := "BadLetter") ms xc (pv 0) kc_nil)))
      (ki_cons (kc_cons (Cf := Cf) (a := a) (D := D) (kd := kd) (x := "BadLiars") ms xc (pv 0) (kc_cons (Cf := Cf) (a := a) (D := D) (kd := kd) (x := "BadLot") ms xc (pv 0) (kc_cons (Cf := Cf) (a := a) (D := D) (kd := kd) (x := "BadMany") ms xc (pv 0) kc_nil)))
      (ki_cons (kc_cons (Cf := Cf) (a := a) (D := D) (kd := kd) (x := "BadMember") ms xc (pv 0) (kc_cons (Cf := Cf) (a := a) (D := D) (kd := kd) (x := "BadMembers") ms xc (pv 0) (kc_cons (Cf := Cf) (a := a) (D := D) (kd := kd) (x := "BadName") ms xc (pv 0) kc_nil)))
      (ki_cons (kc_cons (Cf := Cf) (a := a) (D := D) (kd := kd) (x := "BadNumber") ms xc (pv 0) (kc_cons (Cf := Cf) (a := a) (D := D) (kd := kd) (x := "BadOwner") ms xc (pv 0) (kc_cons (Cf := Cf) (a := a) (D := D) (kd := kd) (x := "BadOwners") ms xc (pv 0) kc_nil)))
      (ki_cons (kc_cons (Cf := Cf) (a := a) (D := D) (kd := kd) (x := "BadPaper") ms xc (pv 0) (kc_cons (Cf := Cf) (a := a) (D := D) (kd := kd) (x := "BadPart") ms xc (pv 0) (kc_cons (Cf := Cf) (a := a) (D := D) (kd := kd) (x := "BadPayment") ms xc (pv 0) kc_nil)))
      (ki_cons (kc_cons (Cf := Cf) (a := a) (D := D) (kd := kd) (x := "BadPayments") ms xc (pv 0) (kc_cons (Cf := Cf) (a := a) (D := D) (kd := kd) (x := "BadPicks") ms xc (pv 0) (kc_cons (Cf := Cf) (a := a) (D := D) (kd := kd) (x := "BadPlan") ms xc (pv 0) kc_nil)))
      (ki_cons (kc_cons (Cf := Cf) (a := a) (D := D) (kd := kd) (x := "BadProposer") ms xc (pv 0) (kc_cons (Cf := Cf) (a := a) (D := D) (kd := kd) (x := "BadProposers") ms xc (pv 0) (kc_cons (Cf := Cf) (a := a) (D := D) (kd := kd) (x := "BadPurse") ms xc (pv 0) kc_nil)))
      (ki_cons (kc_cons (Cf := Cf) (a := a) (D := D) (kd := kd) (x := "BadPurses") ms xc (pv 0) (kc_cons (Cf := Cf) (a := a) (D := D) (kd := kd) (x := "BadRow") ms xc (pv 0) (kc_cons (Cf := Cf) (a := a) (D := D) (kd := kd) (x := "BadRule") ms xc (pv 0) kc_nil)))
      (ki_cons (kc_cons (Cf := Cf) (a := a) (D := D) (kd := kd) (x := "BadRun") ms xc (pv 0) (kc_cons (Cf := Cf) (a := a) (D := D) (kd := kd) (x := "BadSequence") ms xc (pv 0) (kc_cons (Cf := Cf) (a := a) (D := D) (kd := kd) (x := "BadShelf") ms xc (pv 0) kc_nil)))
      (ki_cons (kc_cons (Cf := Cf) (a := a) (D := D) (kd := kd) (x := "BadSplit") ms xc (pv 0) (kc_cons (Cf := Cf) (a := a) (D := D) (kd := kd) (x := "BadSteps") ms xc (pv 0) (kc_cons (Cf := Cf) (a := a) (D := D) (kd := kd) (x := "BadTimes") ms xc (pv 0) kc_nil)))
      (ki_cons (kc_cons (Cf := Cf) (a := a) (D := D) (kd := kd) (x := "BadTrust") ms xc (pv 0) (kc_cons (Cf := Cf) (a := a) (D := D) (kd := kd) (x := "BadVote") ms xc (pv 0) (kc_cons (Cf := Cf) (a := a) (D := D) (kd := kd) (x := "BadVotes") ms xc (pv 0) kc_nil)))
      (ki_cons (kc_cons (Cf := Cf) (a := a) (D := D) (kd := kd) (x := "BadWeaving") ms xc (pv 0) (kc_cons (Cf := Cf) (a := a) (D := D) (kd := kd) (x := "BadWeb") ms xc (pv 0) (kc_cons (Cf := Cf) (a := a) (D := D) (kd := kd) (x := "BadWho") ms xc (pv 0) kc_nil)))
      (ki_cons (kc_cons (Cf := Cf) (a := a) (D := D) (kd := kd) (x := "BadWishes") ms xc (pv 0) (kc_cons (Cf := Cf) (a := a) (D := D) (kd := kd) (x := "Busy") ms xc (pv 0) (kc_cons (Cf := Cf) (a := a) (D := D) (kd := kd) (x := "Empty") ms xc (pv 0) kc_nil)))
      (ki_cons (kc_cons (Cf := Cf) (a := a) (D := D) (kd := kd) (x := "Fell") ms xc (pv 0) (kc_cons (Cf := Cf) (a := a) (D := D) (kd := kd) (x := "FewLie") ms xc (pv 0) (kc_cons (Cf := Cf) (a := a) (D := D) (kd := kd) (x := "Gone") ms xc (pv 0) kc_nil)))
      (ki_cons (kc_cons (Cf := Cf) (a := a) (D := D) (kd := kd) (x := "NoClash") ms xc (pv 0) (kc_cons (Cf := Cf) (a := a) (D := D) (kd := kd) (x := "NotGone") ms xc (pv 0) (kc_cons (Cf := Cf) (a := a) (D := D) (kd := kd) (x := "NotHere") ms xc (pv 0) kc_nil)))
      (ki_cons (kc_cons (Cf := Cf) (a := a) (D := D) (kd := kd) (x := "NotRight") ms xc (pv 0) (kc_cons (Cf := Cf) (a := a) (D := D) (kd := kd) (x := "TooMany") ms xc (pv 0) kc_nil))
      (ki_cons (kc_cons (Cf := Cf) (a := a) (D := D) (kd := kd) (x := "BadText") ms xc (pv 0) (kc_cons (Cf := Cf) (a := a) (D := D) (kd := kd) (x := "Clash") ms xc (pv 0) (kc_cons (Cf := Cf) (a := a) (D := D) (kd := kd) (x := "MoreLie") ms xc (pv 0) kc_nil)))
      (ki_last (kc_cons (Cf := Cf) (a := a) (D := D) (kd := kd) (x := "NotSettling") ms xc (pv 0) (kc_cons (Cf := Cf) (a := a) (D := D) (kd := kd) (x := "Poor") ms xc (pv 0) (kc_cons (Cf := Cf) (a := a) (D := D) (kd := kd) (x := "StillHeld") ms xc (pv 0) kc_nil))) (pv 1)) (pv 1) scKi.nd) (pv 1) scKi.nd) (pv 1) scKi.nd) (pv 1) scKi.nd) (pv 1) scKi.nd) (pv 1) scKi.nd) (pv 1) scKi.nd) (pv 1) scKi.nd) (pv 1) scKi.nd) (pv 1) scKi.nd) (pv 1) scKi.nd) (pv 1) scKi.nd) (pv 1) scKi.nd) (pv 1) scKi.nd) (pv 1) scKi.nd) (pv 1) scKi.nd) (pv 1) scKi.nd) (pv 1) scKi.nd) (pv 1) scKi.nd) (pv 1) scKi.nd) (pv 1) scKi.nd) (pv 1) scKi.nd) (pv 1) scKi.nd), ?_⟩
    refine ⟨(by show 0 ≤ sizeLine; exact Nat.zero_le _), fun p0 h0 => ?_⟩
    refine ⟨kits, ea.same (same_upd h0), p0, [], rfl, upd_same, (by show 0 + 71 ≤ 1000; decide), fun q' H' s h => ?_⟩
    exact k q' H' ((same_upd h0).trans s) h
end
end Pu

namespace Pu
open PySem L2
abbrev sNamed : Stmt := top 80
abbrev sPlaced : Stmt := top 81
def spI1 (C : Addr) (f : Str) : Sp := fun vs H Q _ => ∃ a v, vs = [.ref a, v] ∧ H a = some (exo a C none) ∧ ∀ d H', H d = none → d ≠ a → H' = upd (upd H d (exd d [(f, v)])) a (exo a C (some d)) → Q .non H'
def spI2 (C : Addr) : Sp := fun vs H Q _ => ∃ a v w, vs = [.ref a, v, w] ∧ H a = some (exo a C none) ∧ ∀ d H', H d = none → d ≠ a → H' = upd (upd (upd H d (exd d [("one", v)])) a (exo a C (some d))) d (exd d [("other", w), ("one", v)]) → Q .non H'
section
variable {P : Program} {w : World} {K : PySem.W.Frag} {mg : Str → Option Value} {base : Heap}
theorem sc_BadText : FnScope ["self", "line"] ["self", "line"] (defScope (iniS 49)) := ⟨rfl, rfl, rfl, by decide +kernel, rfl, by decide +kernel, by decide +kernel⟩
theorem ok_BadText {f C : Addr} {fd : FuncData} (F : Fun K "__init__" "BadText.__init__" (iniS 49) f fd) (T : OexC K C) (no : PySem.W.findIn K (.ref C) "line" = some none) : FnOk P w K mg base CX0 1 f fd ["self", "line"] (spI1 C "line") := by
  refine F.ok sc_BadText (fun vs H Q E h => ?_) (fun cdv A outer s H vs Q E hr h => ?_)
  · obtain ⟨a, v, rfl, _⟩ := h
    rfl
  · obtain ⟨a, v, rfl, ha, k⟩ := h
    exact ⟨_, pss_one (ps_ost (pv 0) (pv 1)), _, rfl, _, rfl, a, C, rfl, T, no, .inl ⟨ha, fun dx n ne => k dx _ n ne rfl⟩⟩
theorem sc_MoreLie : FnScope ["self", "liars"] ["self", "liars"] (defScope (iniS 64)) := ⟨rfl, rfl, rfl, by decide +kernel, rfl, by decide +kernel, by decide +kernel⟩
theorem ok_MoreLie {f C : Addr} {fd : FuncData} (F : Fun K "__init__" "MoreLie.__init__" (iniS 64) f fd) (T : OexC K C) (no : PySem.W.findIn K (.ref C) "liars" = some none) : FnOk P w K mg base CX0 1 f fd ["self", "liars"] (spI1 C "liars") := by
  refine F.ok sc_MoreLie (fun vs H Q E h => ?_) (fun cdv A outer s H vs Q E hr h => ?_)
  · obtain ⟨a, v, rfl, _⟩ := h
    rfl
  · obtain ⟨a, v, rfl, ha, k⟩ := h
    exact ⟨_, pss_one (ps_ost (pv 0) (pv 1)), _, rfl, _, rfl, a, C, rfl, T, no, .inl ⟨ha, fun dx n ne => k dx _ n ne rfl⟩⟩
theorem sc_NotSettling : FnScope ["self", "most"] ["self", "most"] (defScope (iniS 69)) := ⟨rfl, rfl, rfl, by decide +kernel, rfl, by decide +kernel, by decide +kernel⟩
theorem ok_NotSettling {f C : Addr} {fd : FuncData} (F : Fun K "__init__" "NotSettling.__init__" (iniS 69) f fd) (T : OexC K C) (no : PySem.W.findIn K (.ref C) "most" = some none) : FnOk P w K mg base CX0 1 f fd ["self", "most"] (spI1 C "most") := by
  refine F.ok sc_NotSettling (fun vs H Q E h => ?_) (fun cdv A outer s H vs Q E hr h => ?_)
  · obtain ⟨a, v, rfl, _⟩ := h
    rfl
  · obtain ⟨a, v, rfl, ha, k⟩ := h
    exact ⟨_, pss_one (ps_ost (pv 0) (pv 1)), _, rfl, _, rfl, a, C, rfl, T, no, .inl ⟨ha, fun dx n ne => k dx _ n ne rfl⟩⟩
theorem sc_Poor : FnScope ["self", "has"] ["self", "has"] (defScope (iniS 70)) := ⟨rfl, rfl, rfl, by decide +kernel, rfl, by decide +kernel, by decide +kernel⟩
theorem ok_Poor {f C : Addr} {fd : FuncData} (F : Fun K "__init__" "Poor.__init__" (iniS 70) f fd) (T : OexC K C) (no : PySem.W.findIn K (.ref C) "has" = some none) : FnOk P w K mg base CX0 1 f fd ["self", "has"] (spI1 C "has") := by
  refine F.ok sc_Poor (fun vs H Q E h => ?_) (fun cdv A outer s H vs Q E hr h => ?_)
  · obtain ⟨a, v, rfl, _⟩ := h
    rfl
  · obtain ⟨a, v, rfl, ha, k⟩ := h
    exact ⟨_, pss_one (ps_ost (pv 0) (pv 1)), _, rfl, _, rfl, a, C, rfl, T, no, .inl ⟨ha, fun dx n ne => k dx _ n ne rfl⟩⟩
theorem sc_StillHeld : FnScope ["self", "holder"] ["self", "holder"] (defScope (iniS 71)) := ⟨rfl, rfl, rfl, by decide +kernel, rfl, by decide +kernel, by decide +kernel⟩
theorem ok_StillHeld {f C : Addr} {fd : FuncData} (F : Fun K "__init__" "StillHeld.__init__" (iniS 71) f fd) (T : OexC K C) (no : PySem.W.findIn K (.ref C) "holder" = some none) : FnOk P w K mg base CX0 1 f fd ["self", "holder"] (spI1 C "holder") := by
  refine F.ok sc_StillHeld (fun vs H Q E h => ?_) (fun cdv A outer s H vs Q E hr h => ?_)
  · obtain ⟨a, v, rfl, _⟩ := h
    rfl
  · obtain ⟨a, v, rfl, ha, k⟩ := h
    exact ⟨_, pss_one (ps_ost (pv 0) (pv 1)), _, rfl, _, rfl, a, C, rfl, T, no, .inl ⟨ha, fun dx n ne => k dx _ n ne rfl⟩⟩
theorem sc_Clash : FnScope ["self", "one", "other"] ["self", "one", "other"] (defScope (iniS 59)) := ⟨rfl, rfl, rfl, by decide +kernel, rfl, by decide +kernel, by decide +kernel⟩
theorem ok_Clash {f C : Addr} {fd : FuncData} (F : Fun K "__init__" "Clash.__init__" (iniS 59) f fd) (T : OexC K C) (no1 : PySem.W.findIn K (.ref C) "one" = some none) (no2 : PySem.W.findIn K (.ref C) "other" = some none) : FnOk P w K mg base CX0 1 f fd ["self", "one", "other"] (spI2 C) := by
  refine F.ok sc_Clash (fun vs H Q E h => ?_) (fun cdv A outer s H vs Q E hr h => ?_)
  · obtain ⟨a, v, w, rfl, _⟩ := h
    rfl
  · obtain ⟨a, v, w, rfl, ha, k⟩ := h
    refine ⟨_, pss_cons (ps_ost (pv 0) (pv 1)) (pss_one (ps_ost (pv 0) (pv 2))), _, rfl, _, rfl, a, C, rfl, T, no1, .inl ⟨ha, fun dx n ne => ?_⟩⟩
    refine ⟨_, rfl, _, rfl, a, C, rfl, T, no2, .inr ⟨dx, _, upd_same, (by rw [upd_ne ne]; exact upd_same), (by show 1 ≤ 900; decide), k dx _ n ne rfl⟩⟩
end
/-- a class with an __init__ of its own, all that a maker asks of it -/
structure Ow (P : Program) (w : World) (K : PySem.W.Frag) (mg : Str → Option Value) (base : Heap) (x : Str) (C : Addr) (ps ks : List Str) (sp : Sp) (g : List Value → List Value → List Value) (gV : List V → List V → List V) : Prop where
  ox : OexC K C
  mgC : mg x = some (.ref C)
  ini : ∃ fI fd, PySem.W.findIn K (.ref C) "__init__" = some (some (.ref fI)) ∧ PySem.W.typeIn K (.ref fI) = some (.type "function") ∧ FnOk P w K mg base CX0 1 fI fd ps sp ∧ Binds K fd ps [] ∧ KBinds K fd ps ks g gV
  xf : XfC K C
def g1 : List Value → List Value → List Value := fun us ws => match us, ws with
  | [s], [a] => [s, a]
  | _, _ => []
def gV1 : List V → List V → List V := fun us ws => match us, ws with
  | [s], [a] => [s, a]
  | _, _ => []
def g2 : List Value → List Value → List Value := fun us ws => match us, ws with
  | [s], [a, b] => [s, b, a]
  | _, _ => []
def gV2 : List V → List V → List V := fun us ws => match us, ws with
  | [s], [a, b] => [s, b, a]
  | _, _ => []
theorem same3 {H : Hp} {a d : Addr} {o1 o2 o3 : HO} (ha : H a = none) (hd : (upd H a o1) d = none) : Same H (upd (upd (upd H a o1) d o2) a o3) := fun b o e => by
  have nb : b ≠ a := ne_of_none e ha
  have nd : b ≠ d := ne_of_none (show (upd H a o1) b = some o by rw [upd_ne nb]; exact e) hd
  rw [upd_ne nb, upd_ne nd, upd_ne nb]; exact e
section
variable {X : Cx} {x y y2 : Str} {C : Addr} {p p2 p3 pos : Pos} {f : Str} {i j : Nat}
def tN1 (C : Addr) (f : Str) (i : Nat) : TE := fun σ H Q => ∃ v, σ[i]? = some (some v) ∧ ∀ a d H', Same H H' → H' a = some (exo a C (some d)) → H' d = some (exd d [(f, v)]) → Q (.ref a) H'
def tN2 (C : Addr) (i j : Nat) : TE := fun σ H Q => ∃ v w, σ[i]? = some (some v) ∧ σ[j]? = some (some w) ∧ ∀ a d H', Same H H' → H' a = some (exo a C (some d)) → H' d = some (exd d [("other", w), ("one", v)]) → Q (.ref a) H'
theorem end1 {H : Hp} {Q : VK} {v : V} (q : ∀ a d H', Same H H' → H' a = some (exo a C (some d)) → H' d = some (exd d [(f, v)]) → Q (.ref a) H') (a : Addr) (ha : H a = none) : spI1 C f [.ref a, v] (upd H a (exo a C none)) (fun v H2 => v = .non ∧ Q (.ref a) H2) fun _ _ _ => False :=
  ⟨a, v, rfl, upd_same, fun d H' hd ne e => ⟨rfl, by
    rw [e]
    exact q a d _ (same3 ha hd) upd_same (by rw [upd_ne ne]; exact upd_same)⟩⟩
theorem end2 {H : Hp} {Q : VK} {v w : V} (q : ∀ a d H', Same H H' → H' a = some (exo a C (some d)) → H' d = some (exd d [("other", w), ("one", v)]) → Q (.ref a) H') (a : Addr) (ha : H a = none) : spI2 C [.ref a, v, w] (upd H a (exo a C none)) (fun v H2 => v = .non ∧ Q (.ref a) H2) fun _ _ _ => False :=
  ⟨a, v, w, rfl, upd_same, fun d H' hd ne e => ⟨rfl, by
    rw [e]
    refine q a d _ (fun b o eb => ?_) (by rw [upd_ne ne.symm]; exact upd_same) upd_same
    have nb : b ≠ a := ne_of_none eb ha
    have nd : b ≠ d := ne_of_none (show (upd H a _) b = some o by rw [upd_ne nb]; exact eb) hd
    rw [upd_ne nd]
    exact same3 ha hd b o eb⟩⟩
theorem pe_o1 {ps ks : List Str} {g gV} (W : Ow X.prog X.w X.K X.mg X.base x C ps ks (spI1 C f) g gV) (room : Room 2 X.A) (gl : Gl X x) (hy : PE X (.Name y p2) (tVar i)) (hdb : (x == ("__debug__" : Str)) = false := by decide +kernel)
    (hs1 : starEach [.Name y p2] X.env = (false, eval (.Name y p2) X.env) :: starEach [] X.env := by rfl) (hpl : (backTo pos (starEach [] X.env)).any (·.1) = false := by rfl) : PE X (.Call (.Name x p) [.Name y p2] [] pos) (tN1 C f i) := by
  obtain ⟨fI, fd, iC, tI, G, bi, _⟩ := W.ini
  exact pe_imp (pe_oex W.ox iC tI G room bi .nil pass0 gl W.mgC (pa_cons hy pa_nil hs1) hdb hs1 hpl) fun σ H Q ⟨v, e, q⟩ => ⟨v, e, (by show 1 ≤ 1000; decide), end1 q⟩
theorem pe_o2 {ps ks : List Str} {g gV} (W : Ow X.prog X.w X.K X.mg X.base x C ps ks (spI2 C) g gV) (room : Room 2 X.A) (gl : Gl X x) (hy : PE X (.Name y p2) (tVar i)) (hy2 : PE X (.Name y2 p3) (tVar j)) (hdb : (x == ("__debug__" : Str)) = false := by decide +kernel)
    (hs1 : starEach [.Name y2 p3] X.env = (false, eval (.Name y2 p3) X.env) :: starEach [] X.env := by rfl) (hs : starEach [.Name y p2, .Name y2 p3] X.env = (false, eval (.Name y p2) X.env) :: starEach [.Name y2 p3] X.env := by rfl) (hpl : (backTo pos (starEach [.Name y2 p3] X.env)).any (·.1) = false := by rfl) :
    PE X (.Call (.Name x p) [.Name y p2, .Name y2 p3] [] pos) (tN2 C i j) := by
  obtain ⟨fI, fd, iC, tI, G, bi, _⟩ := W.ini
  exact pe_imp (pe_oex W.ox iC tI G room bi .nil pass0 gl W.mgC (pa_cons hy (pa_cons hy2 pa_nil hs1) hs) hdb hs hpl) fun σ H Q ⟨v, w, e1, e2, q⟩ => ⟨v, e1, w, e2, (by show 2 ≤ 1000; decide), end2 q⟩
theorem pe_k1 {ps ks : List Str} {n : Option Str} {pk : Pos} (W : Ow X.prog X.w X.K X.mg X.base x C ps ks (spI1 C f) g1 gV1) (room : Room 2 X.A) (gl : Gl X x) (hy : PE X (.Name y p2) (tVar i)) (hdb : (x == ("__debug__" : Str)) = false := by decide +kernel)
    (hall : (backToKw pos (keywordEach [⟨n, .Name y p2, pk⟩] X.env)).all (·.1.isSome) = true := by rfl) (hks : (backToKw pos (keywordEach [⟨n, .Name y p2, pk⟩] X.env)).filterMap (·.1) = ks := by rfl)
    (hpl : ((backTo pos (starEach [] X.env)).any (·.1) || (backToKw pos (keywordEach [⟨n, .Name y p2, pk⟩] X.env)).any (·.1.isNone)) = false := by rfl) : PE X (.Call (.Name x p) [] [⟨n, .Name y p2, pk⟩] pos) (tN1 C f i) := by
  obtain ⟨fI, fd, iC, tI, G, _, kb⟩ := W.ini
  exact pe_imp (pe_oexK W.ox iC tI G room kb pass0 gl W.mgC (pk_cons hy pk_nil) hall hks hdb hpl) fun σ H Q ⟨v, e, q⟩ => ⟨v, e, end1 q⟩
theorem pe_k2 {ps ks : List Str} {n n2 : Option Str} {pk pk2 : Pos} (W : Ow X.prog X.w X.K X.mg X.base x C ps ks (spI2 C) g2 gV2) (room : Room 2 X.A) (gl : Gl X x) (hy : PE X (.Name y p2) (tVar j)) (hy2 : PE X (.Name y2 p3) (tVar i)) (hdb : (x == ("__debug__" : Str)) = false := by decide +kernel)
    (hall : (backToKw pos (keywordEach [⟨n, .Name y p2, pk⟩, ⟨n2, .Name y2 p3, pk2⟩] X.env)).all (·.1.isSome) = true := by rfl) (hks : (backToKw pos (keywordEach [⟨n, .Name y p2, pk⟩, ⟨n2, .Name y2 p3, pk2⟩] X.env)).filterMap (·.1) = ks := by rfl)
    (hpl : ((backTo pos (starEach [] X.env)).any (·.1) || (backToKw pos (keywordEach [⟨n, .Name y p2, pk⟩, ⟨n2, .Name y2 p3, pk2⟩] X.env)).any (·.1.isNone)) = false := by rfl) : PE X (.Call (.Name x p) [] [⟨n, .Name y p2, pk⟩, ⟨n2, .Name y2 p3, pk2⟩] pos) (tN2 C i j) := by
  obtain ⟨fI, fd, iC, tI, G, _, kb⟩ := W.ini
  exact pe_imp (pe_oexK W.ox iC tI G room kb pass0 gl W.mgC (pk_cons hy (pk_cons hy2 pk_nil)) hall hks hdb hpl) fun σ H Q ⟨v, w, e1, e2, q⟩ => ⟨w, e2, v, e1, end2 q⟩
/-- the attribute of a new one -/
def tGt (i : Nat) : TE := fun σ H Q => ∃ v, σ[i]? = some (some v) ∧ ∀ H', Same H H' → Q v H'
theorem pe_g1 {e : Expr} (xf : XfC X.K C) (no : PySem.W.findIn X.K (.ref C) f = some none) (he : PE X e (tN1 C f i)) (hb : attributeBase e f X.env (eval e X.env) = eval e X.env := by rfl) : PE X (.Attribute e f pos) (tGt i) :=
  pe_imp (pe_xv he hb) fun σ H Q ⟨v, e, q⟩ => ⟨v, e, fun a d H' s ha hd => ⟨a, C, d, _, v, rfl, xf, no, ha, hd, (by rw [lookup_put, if_pos rfl]), q H' s⟩⟩
/-! a list of errors of any kind -/
def Full (σ : L2.St) : Prop := ∃ v0 v1 v2 v3 v4 z, σ = [some v0, some v1, some v2, some v3, some v4, z]
def TNL (Cs : List Addr) : TA := fun σ H Q => Full σ ∧ ∀ vs H', Same H H' → ErrL H' vs Cs → Q vs H'
theorem onl_nil : PA X [] (TNL []) := pa_imp pa_nil fun _ H _ q => q.2 [] H (Same.refl H) .nil
theorem onl_1 {e : Expr} {es : List Expr} {Cs : List Addr} (he : PE X e (tN1 C f i)) (hi : i < 5) (hr : PA X es (TNL Cs)) (hs : starEach (e :: es) X.env = (false, eval e X.env) :: starEach es X.env := by rfl) : PA X (e :: es) (TNL (C :: Cs)) :=
  pa_imp (pa_cons he hr hs) fun σ H Q ⟨⟨v0, v1, v2, v3, v4, z, e⟩, q⟩ => by
    subst e
    have h : ∃ v, ([some v0, some v1, some v2, some v3, some v4, z] : L2.St)[i]? = some (some v) := by
      match i, hi with
      | 0, _ => exact ⟨_, rfl⟩
      | 1, _ => exact ⟨_, rfl⟩
      | 2, _ => exact ⟨_, rfl⟩
      | 3, _ => exact ⟨_, rfl⟩
      | 4, _ => exact ⟨_, rfl⟩
    obtain ⟨v, h⟩ := h
    exact ⟨v, h, fun a d H1 s1 h1 h2 => ⟨⟨v0, v1, v2, v3, v4, z, rfl⟩, fun vs H2 s2 h3 => q _ H2 (s1.trans s2) (.cons (ErrAt.same (.inr ⟨d, _, h1, h2⟩) s2) h3)⟩⟩
theorem onl_2 {e : Expr} {es : List Expr} {Cs : List Addr} (he : PE X e (tN2 C 2 3)) (hr : PA X es (TNL Cs)) (hs : starEach (e :: es) X.env = (false, eval e X.env) :: starEach es X.env := by rfl) : PA X (e :: es) (TNL (C :: Cs)) :=
  pa_imp (pa_cons he hr hs) fun σ H Q ⟨⟨v0, v1, v2, v3, v4, z, e⟩, q⟩ => by
    subst e
    exact ⟨v2, v3, rfl, rfl, fun a d H1 s1 h1 h2 => ⟨⟨v0, v1, v2, v3, v4, z, rfl⟩, fun vs H2 s2 h3 => q _ H2 (s1.trans s2) (.cons (ErrAt.same (.inr ⟨d, _, h1, h2⟩) s2) h3)⟩⟩
end
/-- all six -/
structure Six (P : Program) (w : World) (K : PySem.W.Frag) (mg : Str → Option Value) (base : Heap) (Cf : Str → Addr) : Prop where
  badText : Ow P w K mg base "BadText" (Cf "BadText") ["self", "line"] ["line"] (spI1 (Cf "BadText") "line") g1 gV1
  nBadText : PySem.W.findIn K (.ref (Cf "BadText")) "line" = some none
  moreLie : Ow P w K mg base "MoreLie" (Cf "MoreLie") ["self", "liars"] ["liars"] (spI1 (Cf "MoreLie") "liars") g1 gV1
  nMoreLie : PySem.W.findIn K (.ref (Cf "MoreLie")) "liars" = some none
  notSettling : Ow P w K mg base "NotSettling" (Cf "NotSettling") ["self", "most"] ["most"] (spI1 (Cf "NotSettling") "most") g1 gV1
  nNotSettling : PySem.W.findIn K (.ref (Cf "NotSettling")) "most" = some none
  poor : Ow P w K mg base "Poor" (Cf "Poor") ["self", "has"] ["has"] (spI1 (Cf "Poor") "has") g1 gV1
  nPoor : PySem.W.findIn K (.ref (Cf "Poor")) "has" = some none
  stillHeld : Ow P w K mg base "StillHeld" (Cf "StillHeld") ["self", "holder"] ["holder"] (spI1 (Cf "StillHeld") "holder") g1 gV1
  nStillHeld : PySem.W.findIn K (.ref (Cf "StillHeld")) "holder" = some none
  clash : Ow P w K mg base "Clash" (Cf "Clash") ["self", "one", "other"] ["other", "one"] (spI2 (Cf "Clash")) g2 gV2
  nOne : PySem.W.findIn K (.ref (Cf "Clash")) "one" = some none
  nOther : PySem.W.findIn K (.ref (Cf "Clash")) "other" = some none
def spMade (Cf : Str → Addr) : Sp := fun vs H Q _ => ∃ v0 v1 v2 v3 v4, vs = [v0, v1, v2, v3, v4] ∧ ∀ q ys H', Same H H' → H' q = some (.lst ys) → ErrL H' ys (nmA.map Cf) → Q (.ref q) H'
def spTold : Sp := fun vs H Q _ => ∃ v0 v1 v2 v3, vs = [v0, v1, v2, v3] ∧ ∀ q H', Same H H' → H' q = some (.lst [v0, v1, v2, v3, v0, v0, v3]) → Q (.ref q) H'
section
variable {P : Program} {w : World} {K : PySem.W.Frag} {mg : Str → Option Value} {base : Heap} {Cf : Str → Addr}
theorem scMa : FnScope ["text", "line", "one", "other", "thing", "found"] ["text", "line", "one", "other", "thing"] (defScope sMade) := ⟨rfl, rfl, rfl, by decide +kernel, rfl, by decide +kernel, by decide +kernel⟩
theorem ok_made {f : Addr} {fd : FuncData} (F : Fun K "_law_er_made" "_law_er_made" sMade f fd) (S : Six P w K mg base Cf)
    (hall : ∀ y ∈ nmG, PySem.W.excIn K (Cf y) [.type "ValueError", .type "Exception", .type "BaseException", .type "object"] "ValueError.__new__" = true ∧ mg y = some (.ref (Cf y)) ∧ PySem.W.keepIn K (.ref (Cf y)) = true) :
    FnOk P w K mg base CX0 3 f fd ["text", "line", "one", "other", "thing"] (spMade Cf) := by
  refine F.ok scMa (fun vs H Q E h => ?_) (fun cdv A outer s H vs Q E hr h => ?_)
  · obtain ⟨v0, v1, v2, v3, v4, rfl, _⟩ := h
    rfl
  · obtain ⟨v0, v1, v2, v3, v4, rfl, k⟩ := h
    refine ⟨_, pss_cons (ps_set (i := 5) scMa.nd rfl (Or.inl rfl) (pe_lst pa_nil))
      (mi_cons (mc_cons (Cf := Cf) (x := "BadAct") (pv 0) (mc_cons (Cf := Cf) (x := "BadAgreed") (pv 0) (mc_cons (Cf := Cf) (x := "BadAmount") (pv 0) (mc_cons (Cf := Cf) (x := "BadBank") (pv 0) (mc_cons (Cf := Cf) (x := "BadBook") (pv 0) mc_nil)))))
      (mi_cons (mc_cons (Cf := Cf) (x := "BadBooks") (pv 0) (mc_cons (Cf := Cf) (x := "BadCell") (pv 0) (mc_cons (Cf := Cf) (x := "BadCells") (pv 0) (mc_cons (Cf := Cf) (x := "BadCertificate") (pv 0) (mc_cons (Cf := Cf) (x := "BadCertificates") (pv 0) mc_nil)))))
      (mi_cons (mc_cons (Cf := Cf) (x := "BadCharter") (pv 0) (mc_cons (Cf := Cf) (x := "BadCheats") (pv 0) (mc_cons (Cf := Cf) (x := "BadContent") (pv 0) (mc_cons (Cf := Cf) (x := "BadDisk") (pv 0) (mc_cons (Cf := Cf) (x := "BadEnd") (pv 0) mc_nil)))))
      (mi_cons (mc_cons (Cf := Cf) (x := "BadFrame") (pv 0) (mc_cons (Cf := Cf) (x := "BadFuse") (pv 0) (mc_cons (Cf := Cf) (x := "BadHands") (pv 0) (mc_cons (Cf := Cf) (x := "BadKept") (pv 0) (mc_cons (Cf := Cf) (x := "BadLeast") (pv 0) mc_nil)))))
      (mi_cons (mc_cons (Cf := Cf) (x := "BadLetter") (pv 0) (mc_cons (Cf := Cf) (x := "BadLiars") (pv 0) (mc_cons (Cf := Cf) (x := "BadLot") (pv 0) (mc_cons (Cf := Cf) (x := "BadMany") (pv 0) (mc_cons (Cf := Cf) (x := "BadMember") (pv 0) mc_nil)))))
      (mi_cons (mc_cons (Cf := Cf) (x := "BadMembers") (pv 0) (mc_cons (Cf := Cf) (x := "BadName") (pv 0) (mc_cons (Cf := Cf) (x := "BadNumber") (pv 0) (mc_cons (Cf := Cf) (x := "BadOwner") (pv 0) (mc_cons (Cf := Cf) (x := "BadOwners") (pv 0) mc_nil)))))
      (mi_cons (mc_cons (Cf := Cf) (x := "BadPaper") (pv 0) (mc_cons (Cf := Cf) (x := "BadPart") (pv 0) (mc_cons (Cf := Cf) (x := "BadPayment") (pv 0) (mc_cons (Cf := Cf) (x := "BadPayments") (pv 0) (mc_cons (Cf := Cf) (x := "BadPicks") (pv 0) mc_nil)))))
      (mi_cons (mc_cons (Cf := Cf) (x := "BadPlan") (pv 0) (mc_cons (Cf := Cf) (x := "BadProposer") (pv 0) (mc_cons (Cf := Cf) (x := "BadProposers") (pv 0) (mc_cons (Cf := Cf) (x := "BadPurse") (pv 0) (mc_cons (Cf := Cf) (x := "BadPurses") (pv 0) mc_nil)))))
      (mi_cons (mc_cons (Cf := Cf) (x := "BadRow") (pv 0) (mc_cons (Cf := Cf) (x := "BadRule") (pv 0) (mc_cons (Cf := Cf) (x := "BadRun") (pv 0) (mc_cons (Cf := Cf) (x := "BadSequence") (pv 0) (mc_cons (Cf := Cf) (x := "BadShelf") (pv 0) mc_nil)))))
      (mi_cons (mc_cons (Cf := Cf) (x := "BadSplit") (pv 0) (mc_cons (Cf := Cf) (x := "BadSteps") (pv 0) (mc_cons (Cf := Cf) (x := "BadTimes") (pv 0) (mc_cons (Cf := Cf) (x := "BadTrust") (pv 0) (mc_cons (Cf := Cf) (x := "BadVote") (pv 0) mc_nil)))))
      (mi_cons (mc_cons (Cf := Cf) (x := "BadVotes") (pv 0) (mc_cons (Cf := Cf) (x := "BadWeaving") (pv 0) (mc_cons (Cf := Cf) (x := "BadWeb") (pv 0) (mc_cons (Cf := Cf) (x := "BadWho") (pv 0) (mc_cons (Cf := Cf) (x := "BadWishes") (pv 0) mc_nil)))))
      (mi_cons (mc_cons (Cf := Cf) (x := "Busy") (pv 0) (mc_cons (Cf := Cf) (x := "Empty") (pv 0) (mc_cons (Cf := Cf) (x := "Fell") (pv 0) (mc_cons (Cf := Cf) (x := "FewLie") (pv 0) (mc_cons (Cf := Cf) (x := "Gone") (pv 0) mc_nil)))))
      (mi_cons (mc_cons (Cf := Cf) (x := "NoClash") (pv 0) (mc_cons (Cf := Cf) (x := "NotGone") (pv 0) (mc_cons (Cf := Cf) (x := "NotHere") (pv 0) (mc_cons (Cf := Cf) (x := "NotRight") (pv 0) (mc_cons (Cf := Cf) (x := "TooMany") (pv 0) mc_nil)))))
      (mi_end (pss_one (ps_ret (pe_op op_cat (pv 5) (pe_lst (onl_1 (pe_o1 S.badText hr (by rfl) (pv 1)) (by decide) (onl_2 (pe_o2 S.clash hr (by rfl) (pv 2) (pv 3)) (onl_1 (pe_o1 S.moreLie hr (by rfl) (pv 4)) (by decide)
        (onl_1 (pe_o1 S.notSettling hr (by rfl) (pv 1)) (by decide) (onl_1 (pe_o1 S.poor hr (by rfl) (pv 1)) (by decide) (onl_1 (pe_o1 S.stillHeld hr (by rfl) (pv 4)) (by decide) onl_nil))))))))))) (pv 5) scMa.nd) (pv 5) scMa.nd) (pv 5) scMa.nd) (pv 5) scMa.nd) (pv 5) scMa.nd) (pv 5) scMa.nd) (pv 5) scMa.nd) (pv 5) scMa.nd) (pv 5) scMa.nd) (pv 5) scMa.nd) (pv 5) scMa.nd) (pv 5) scMa.nd) (pv 5) scMa.nd), ?_⟩
    refine ⟨(by show 0 ≤ sizeLine; exact Nat.zero_le _), fun p0 h0 => ?_⟩
    refine ⟨hall, v0, v1, v2, v3, v4, p0, [], [], rfl, upd_same, .nil, (by show 0 + 65 ≤ 1000; decide), fun q' ys' H' s1 h1 h2 => ?_⟩
    have l1 := h2.len
    refine ⟨_, rfl, ⟨v0, v1, v2, v3, v4, _, rfl⟩, fun vs H2 s2 h3 => ⟨(by rw [h3.len]; exact Nat.le_of_lt (small1000 (by show 6 ≤ 1000; decide))), fun p hp => ?_⟩⟩
    refine ⟨q', p, ys', vs, rfl, rfl, same_upd hp _ _ (s2 _ _ h1), upd_same, (by rw [h3.len, l1]; exact Nat.le_of_lt (small1000 (by show 65 + 6 ≤ 1000; decide))), fun p' hp' => ?_⟩
    have s3 := (same_upd (o := .lst vs) hp).trans (same_upd (o := .lst (ys' ++ vs)) hp')
    refine k p' _ _ ((((same_upd h0).trans s1).trans s2).trans s3) upd_same ?_
    have z := ((h2.same s2).app h3).same s3
    rw [nmA_eq, List.map_append]
    exact z
theorem sc_named : FnScope ["line", "one", "other", "thing", "clash", "found"] ["line", "one", "other", "thing"] (defScope sNamed) := ⟨rfl, rfl, rfl, by decide +kernel, rfl, by decide +kernel, by decide +kernel⟩
theorem ok_named {f : Addr} {fd : FuncData} (F : Fun K "_law_er_named" "_law_er_named" sNamed f fd) (S : Six P w K mg base Cf) : FnOk P w K mg base CX0 3 f fd ["line", "one", "other", "thing"] spTold := by
  refine F.ok sc_named (fun vs H Q E h => ?_) (fun cdv A outer s H vs Q E hr h => ?_)
  · obtain ⟨v0, v1, v2, v3, rfl, _⟩ := h
    rfl
  · obtain ⟨v0, v1, v2, v3, rfl, k⟩ := h
    refine ⟨_, pss_cons (ps_set (i := 4) sc_named.nd rfl (Or.inl rfl) (pe_k2 S.clash hr (by rfl) (pv 2) (pv 1)))
      (pss_cons (ps_set (i := 5) sc_named.nd rfl (Or.inl rfl) (pe_lst (pa_cons (pe_g1 S.badText.xf S.nBadText (pe_k1 S.badText hr (by rfl) (pv 0))) (pa_cons (pe_xv (pv 4)) (pa_cons (pe_xv (pv 4)) (pa_cons (pe_g1 S.moreLie.xf S.nMoreLie (pe_k1 S.moreLie hr (by rfl) (pv 3))) pa_nil))))))
      (pss_one (ps_ret (pe_op op_cat (pv 5) (pe_lst (pa_cons (pe_g1 S.notSettling.xf S.nNotSettling (pe_k1 S.notSettling hr (by rfl) (pv 0))) (pa_cons (pe_g1 S.poor.xf S.nPoor (pe_k1 S.poor hr (by rfl) (pv 0))) (pa_cons (pe_g1 S.stillHeld.xf S.nStillHeld (pe_k1 S.stillHeld hr (by rfl) (pv 3))) pa_nil)))))))), ?_⟩
    refine ⟨v1, v2, rfl, rfl, fun a d H1 s1 ha hd => ?_⟩
    refine ⟨v0, rfl, fun H2 s2 => ⟨_, rfl, a, _, d, _, v1, rfl, S.clash.xf, S.nOne, s2 _ _ ha, s2 _ _ hd, (by rw [lookup_put, if_neg (by decide +kernel), lookup_put, if_pos rfl]), _, rfl, a, _, d, _, v2, rfl, S.clash.xf, S.nOther, s2 _ _ ha, s2 _ _ hd, (by rw [lookup_put, if_pos rfl]), v3, rfl, fun H3 s3 => ?_⟩⟩
    refine ⟨(by show 4 ≤ sizeLine; decide), fun p hp => ⟨_, rfl, v0, rfl, fun H4 s4 => ⟨v0, rfl, fun H5 s5 => ⟨v3, rfl, fun H6 s6 => ?_⟩⟩⟩⟩
    refine ⟨(by show 3 ≤ sizeLine; decide), fun p2 hp2 => ?_⟩
    refine ⟨p, p2, [v0, v1, v2, v3], [v0, v0, v3], rfl, rfl, same_upd hp2 _ _ (s6 _ _ (s5 _ _ (s4 _ _ upd_same))), upd_same, (by show 7 ≤ sizeLine; decide), fun p3 hp3 => ?_⟩
    exact k p3 _ (((((((s1.trans s2).trans s3).trans (same_upd hp)).trans s4).trans s5).trans s6).trans ((same_upd hp2).trans (same_upd hp3))) upd_same
theorem sc_placed : FnScope ["line", "one", "other", "thing", "clash", "found"] ["line", "one", "other", "thing"] (defScope sPlaced) := ⟨rfl, rfl, rfl, by decide +kernel, rfl, by decide +kernel, by decide +kernel⟩
theorem ok_placed {f : Addr} {fd : FuncData} (F : Fun K "_law_er_placed" "_law_er_placed" sPlaced f fd) (S : Six P w K mg base Cf) : FnOk P w K mg base CX0 3 f fd ["line", "one", "other", "thing"] spTold := by
  refine F.ok sc_placed (fun vs H Q E h => ?_) (fun cdv A outer s H vs Q E hr h => ?_)
  · obtain ⟨v0, v1, v2, v3, rfl, _⟩ := h
    rfl
  · obtain ⟨v0, v1, v2, v3, rfl, k⟩ := h
    refine ⟨_, pss_cons (ps_set (i := 4) sc_placed.nd rfl (Or.inl rfl) (pe_o2 S.clash hr (by rfl) (pv 1) (pv 2)))
      (pss_cons (ps_set (i := 5) sc_placed.nd rfl (Or.inl rfl) (pe_lst (pa_cons (pe_g1 S.badText.xf S.nBadText (pe_o1 S.badText hr (by rfl) (pv 0))) (pa_cons (pe_xv (pv 4)) (pa_cons (pe_xv (pv 4)) (pa_cons (pe_g1 S.moreLie.xf S.nMoreLie (pe_o1 S.moreLie hr (by rfl) (pv 3))) pa_nil))))))
      (pss_one (ps_ret (pe_op op_cat (pv 5) (pe_lst (pa_cons (pe_g1 S.notSettling.xf S.nNotSettling (pe_o1 S.notSettling hr (by rfl) (pv 0))) (pa_cons (pe_g1 S.poor.xf S.nPoor (pe_o1 S.poor hr (by rfl) (pv 0))) (pa_cons (pe_g1 S.stillHeld.xf S.nStillHeld (pe_o1 S.stillHeld hr (by rfl) (pv 3))) pa_nil)))))))), ?_⟩
    refine ⟨v1, v2, rfl, rfl, fun a d H1 s1 ha hd => ?_⟩
    refine ⟨v0, rfl, fun H2 s2 => ⟨_, rfl, a, _, d, _, v1, rfl, S.clash.xf, S.nOne, s2 _ _ ha, s2 _ _ hd, (by rw [lookup_put, if_neg (by decide +kernel), lookup_put, if_pos rfl]), _, rfl, a, _, d, _, v2, rfl, S.clash.xf, S.nOther, s2 _ _ ha, s2 _ _ hd, (by rw [lookup_put, if_pos rfl]), v3, rfl, fun H3 s3 => ?_⟩⟩
    refine ⟨(by show 4 ≤ sizeLine; decide), fun p hp => ⟨_, rfl, v0, rfl, fun H4 s4 => ⟨v0, rfl, fun H5 s5 => ⟨v3, rfl, fun H6 s6 => ?_⟩⟩⟩⟩
    refine ⟨(by show 3 ≤ sizeLine; decide), fun p2 hp2 => ?_⟩
    refine ⟨p, p2, [v0, v1, v2, v3], [v0, v0, v3], rfl, rfl, same_upd hp2 _ _ (s6 _ _ (s5 _ _ (s4 _ _ upd_same))), upd_same, (by show 7 ≤ sizeLine; decide), fun p3 hp3 => ?_⟩
    exact k p3 _ (((((((s1.trans s2).trans s3).trans (same_upd hp)).trans s4).trans s5).trans s6).trans ((same_upd hp2).trans (same_upd hp3))) upd_same
end
end Pu

namespace Pu
open PySem PySem.Spec PyProof.Rows PySem.StrLaws L2
/-! ### small data -/
structure Sm (n B : Nat) (d : PyData) : Prop where
  ls : d.leavesShort 20 = true
  wt : d.weight ≤ B
  sh : d.showable = true
  nd : d.hasDict = false
  dp : d.depth ≤ n
structure SmL (n B : Nat) (ds : List PyData) : Prop where
  ls : PyData.leavesShortAll 20 ds = true
  wt : PyData.weightAll ds ≤ B
  sh : PyData.showableAll ds = true
  nd : PyData.hasDictAll ds = false
  dp : PyData.depthAll ds ≤ n
theorem SmL.nil {n B : Nat} : SmL n B [] := ⟨by simp only [PyData.leavesShortAll], by simp only [PyData.weightAll]; exact Nat.zero_le _, by simp only [PyData.showableAll], by simp only [PyData.hasDictAll], by simp only [PyData.depthAll]; exact Nat.zero_le _⟩
theorem SmL.cons {n B C : Nat} {d : PyData} {ds : List PyData} (h : Sm n B d) (r : SmL n C ds) : SmL n (B + 1 + C) (d :: ds) :=
  ⟨by simp only [PyData.leavesShortAll, h.ls, r.ls, Bool.and_self], by simp only [PyData.weightAll]; have := h.wt; have := r.wt; omega, by simp only [PyData.showableAll, h.sh, r.sh, Bool.and_self], by simp only [PyData.hasDictAll, h.nd, r.nd, Bool.or_self],
    by simp only [PyData.depthAll]; have := h.dp; have := r.dp; omega⟩
theorem SmL.tup {n B : Nat} {ds : List PyData} (h : SmL n B ds) : Sm (n + 1) B (.tuple ds) :=
  ⟨by simp only [PyData.leavesShort, h.ls], by simp only [PyData.weight]; exact h.wt, by simp only [PyData.showable, h.sh], by simp only [PyData.hasDict, h.nd], by simp only [PyData.depth]; have := h.dp; omega⟩
theorem SmL.lst {n B : Nat} {ds : List PyData} (h : SmL n B ds) : Sm (n + 1) B (.list ds) :=
  ⟨by simp only [PyData.leavesShort, h.ls], by simp only [PyData.weight]; exact h.wt, by simp only [PyData.showable, h.sh], by simp only [PyData.hasDict, h.nd], by simp only [PyData.depth]; have := h.dp; omega⟩
theorem Sm.up {n m B C : Nat} {d : PyData} (h : Sm n B d) (hn : n ≤ m) (hB : B ≤ C) : Sm m C d := ⟨h.ls, Nat.le_trans h.wt hB, h.sh, h.nd, Nat.le_trans h.dp hn⟩
theorem sm_int {n : Nat} {i : Int} (h0 : 0 ≤ i) (h : i < 1000000000000000000) : Sm n 60 (.int i) := by
  have ha : i.natAbs < 10 ^ 18 := by
    have e : (10 : Nat) ^ 18 = 1000000000000000000 := by decide
    omega
  have hl : i.natAbs.log2 < 60 := by
    by_cases z : i.natAbs = 0
    · rw [z]; decide
    · exact (Nat.log2_lt z).mpr (Nat.lt_of_lt_of_le ha (by decide))
  refine ⟨?_, ?_, ?_, by simp only [PyData.hasDict], by simp only [PyData.depth]; exact Nat.zero_le _⟩
  · simp only [PyData.leavesShort, decide_eq_true_eq]
    have e := int_text_length_le10 (k := 18) (by decide) ha
    show (Str.ofString (toString i)).length ≤ 20
    rw [PySem.ofString_length]; omega
  · simp only [PyData.weight]
    split <;> omega
  · simp only [PyData.showable, decide_eq_true_eq]
    omega
theorem sm_str {n B : Nat} {x : Str} (h : (x.cps.toList.all fun c => decide (c < 16 ^ 8)) = true) (hs : x.cps.size ≤ B) : Sm n B (.str x) :=
  ⟨by simp only [PyData.leavesShort]; exact h, by simp only [PyData.weight]; exact hs, by simp only [PyData.showable], by simp only [PyData.hasDict], by simp only [PyData.depth]; exact Nat.zero_le _⟩
theorem Sm.fits {n B : Nat} {d : PyData} (h : Sm n B d) (hB : B ≤ 10000) : d.shown.length ≤ sizeLine := by
  have e := PyData.shown_le 20 (by decide) d h.ls
  have e2 : (20 + 2) * d.weight ≤ 22 * 10000 := Nat.mul_le_mul (by decide) (Nat.le_trans h.wt hB)
  rw [sizeLine_eq]
  omega
theorem sm_ints : ∀ {zs : List Int}, (∀ z ∈ zs, 0 ≤ z ∧ z < 1000000000000000000) → ∀ {m : Nat}, zs.length ≤ m → SmL 5 (61 * m) (zs.map PyData.int)
  | [], _, m, _ => .nil
  | z :: r, h, 0, hm => by cases hm
  | z :: r, h, m + 1, hm => by
    have q := SmL.cons (sm_int (n := 5) (h z List.mem_cons_self).1 (h z List.mem_cons_self).2) (sm_ints (zs := r) (fun y hy => h y (List.mem_cons_of_mem _ hy)) (Nat.le_of_succ_le_succ hm))
    have e : 60 + 1 + 61 * m = 61 * (m + 1) := by omega
    rw [e] at q
    exact q
/-! ### values that are such data, tuples within tuples, at addresses of N -/
def PDn : Nat → (Addr → Prop) → Hp → V → PyData → Prop
  | 0 => fun _ _ _ _ => False
  | n + 1 => fun N H v d => (∃ i, v = .int i ∧ d = .int i) ∨ (∃ z, v = .str z ∧ d = .str z) ∨ ∃ a xs ds, v = .ref a ∧ N a ∧ H a = some (.tup xs) ∧ d = .tuple ds ∧ Paired (PDn n N H) xs ds
theorem paired_imp {α β : Type} {R S : α → β → Prop} (h : ∀ x y, R x y → S x y) : ∀ {xs : List α} {ys : List β}, Paired R xs ys → Paired S xs ys
  | _, _, .nil => .nil
  | _, _, .cons r t => .cons (h _ _ r) (paired_imp h t)
theorem PDn.imp {N N' : Addr → Prop} {H H' : Hp} (k : ∀ a o, N a → H a = some o → N' a ∧ H' a = some o) : ∀ (n : Nat) {v : V} {d : PyData}, PDn n N H v d → PDn n N' H' v d
  | 0, _, _, h => h
  | n + 1, _, _, .inl h => .inl h
  | n + 1, _, _, .inr (.inl h) => .inr (.inl h)
  | n + 1, _, _, .inr (.inr ⟨a, xs, ds, e, x, h, ed, p⟩) => .inr (.inr ⟨a, xs, ds, e, (k a _ x h).1, (k a _ x h).2, ed, paired_imp (fun _ _ q => PDn.imp k n q) p⟩)
theorem dp_all {K : PySem.W.Frag} {N : Addr → Prop} {H : Hp} {n : Nat} (f : ∀ v d, PDn n N H v d → Dp K H v d) : ∀ {xs : List V} {ds : List PyData}, Paired (PDn n N H) xs ds → DpAll K H xs ds
  | _, _, .nil => .nil
  | _, _, .cons r t => .cons (f _ _ r) (dp_all f t)
theorem PDn.dp {K : PySem.W.Frag} {N : Addr → Prop} {H : Hp} : ∀ (n : Nat) {v : V} {d : PyData}, PDn n N H v d → Dp K H v d
  | 0, _, _, h => h.elim
  | n + 1, _, _, .inl ⟨i, e1, e2⟩ => by subst e1 e2; exact .int i
  | n + 1, _, _, .inr (.inl ⟨z, e1, e2⟩) => by subst e1 e2; exact .str z
  | n + 1, _, _, .inr (.inr ⟨a, xs, ds, e, x, h, ed, p⟩) => by
    subst e ed
    exact .tup (SqT.of h) (dp_all (fun _ _ q => PDn.dp n q) p)
theorem PDn.kp {d g : Addr} {H H' : Hp} {n : Nat} {v : V} {t : PyData} (k : Kp d g H H') (h : PDn n (Nd d g) H v t) : PDn n (Nd d g) H' v t := PDn.imp k.nd n h
theorem PDn.same {N : Addr → Prop} {H H' : Hp} {n : Nat} {v : V} {t : PyData} (s : Same H H') (h : PDn n N H v t) : PDn n N H' v t := PDn.imp (fun a o x e => ⟨x, s a o e⟩) n h
theorem PDn.up {N : Addr → Prop} {H : Hp} : ∀ {n : Nat} {v : V} {t : PyData}, PDn n N H v t → PDn (n + 1) N H v t
  | 0, _, _, h => h.elim
  | n + 1, _, _, .inl h => .inl h
  | n + 1, _, _, .inr (.inl h) => .inr (.inl h)
  | n + 1, _, _, .inr (.inr ⟨a, xs, ds, e, x, h, ed, p⟩) => .inr (.inr ⟨a, xs, ds, e, x, h, ed, paired_imp (fun _ _ q => PDn.up q) p⟩)
theorem pd_ints {N : Addr → Prop} {H : Hp} {n : Nat} : ∀ zs : List Int, Paired (PDn (n + 1) N H) (zs.map V.int) (zs.map PyData.int)
  | [] => .nil
  | z :: r => .cons (.inl ⟨z, rfl, rfl⟩) (pd_ints r)
/-- ("name", i) -/
def nmD (i : Int) : PyData := .tuple [.str "name", .int i]
theorem nm_pd {N : Addr → Prop} {H : Hp} {a : Addr} {i : Int} (x : N a) (h : H a = some (.tup [.str "name", .int i])) : PDn 2 N H (.ref a) (nmD i) := .inr (.inr ⟨a, _, _, rfl, x, h, rfl, .cons (.inr (.inl ⟨_, rfl, rfl⟩)) (.cons (.inl ⟨_, rfl, rfl⟩) .nil)⟩)
theorem nm_sm {i : Int} (h0 : 0 ≤ i) (h : i < 400) : Sm 6 70 (nmD i) := (SmL.tup (n := 5) (.cons (sm_str (B := 4) (by decide +kernel) (by decide +kernel)) (.cons (sm_int h0 (by omega)) (.nil (B := 0))))).up (Nat.le_refl 6) (by decide)
/-! ### lists of truth values -/
theorem dp_bools {K : PySem.W.Frag} {H : Hp} : ∀ bs : List Bool, DpAll K H (bs.map V.bl) (bs.map PyData.bool)
  | [] => .nil
  | b :: r => .cons (.bl b) (dp_bools r)
theorem lay_bools : ∀ bs : List Bool, PyData.canLayAll0 (bs.map PyData.bool) = true
  | [] => rfl
  | b :: r => by
    show (PyData.canLay0 (.bool b) && PyData.canLayAll0 (r.map PyData.bool)) = true
    rw [lay_bools r]; rfl
theorem dep_bools : ∀ bs : List Bool, PyData.depthAll (bs.map PyData.bool) = 0
  | [] => rfl
  | b :: r => by
    show max (PyData.depth (.bool b)) (PyData.depthAll (r.map PyData.bool)) = 0
    rw [dep_bools r]; rfl
theorem shaped_bools (bs : List Bool) : SeqAt.shaped (.list (bs.map PyData.bool)) = true := by
  show (PyData.canLayAll0 (bs.map PyData.bool) && decide (PyData.depthAll (bs.map PyData.bool) + 1 ≤ 64)) = true
  rw [lay_bools, dep_bools]; rfl
theorem eqv_bools : ∀ bs : List Bool, PyData.eqv (.list (bs.map PyData.bool)) (.list (bs.map PyData.bool)) = true
  | [] => by simp [PyData.eqv, PyData.eqvAll]
  | b :: r => by
    have q := eqv_bools r
    simp only [PyData.eqv, PyData.eqvAll, List.map_cons] at q ⊢
    rw [q]
    cases b <;> rfl
def kdAt (i : Nat) : List Bool := nmA.map fun y => decide (nmA[i]? = some y)
theorem kdAt_eq : ∀ i < 71, kdAt i = (List.range 71).map fun j => decide (j = i) := by decide +kernel
theorem nmA_len : nmA.length = 71 := rfl
theorem shown_str (z : Str) : True := trivial
end Pu

namespace Pu
open PySem L2 LamX
abbrev nL : List Str := ["script", "state", "lap", "line", "one", "other", "thing", "text", "errors_here", "at", "error", "base", "due", "turn", "place"]
def Gd (P : Program) (w : World) (K : PySem.W.Frag) (mg : Str → Option Value) (base : Heap) (k : Nat) (x : Str) (ps : List Str) (sp : Sp) : Prop :=
  ∃ f fd, FnOk P w K mg base CX0 k f fd ps sp ∧ Binds K fd ps [] ∧ PySem.W.keepIn K (.ref f) = true ∧ mg x = some (.ref f)
/-- what the text's error classes are, PE above them all -/
structure Wk (K : PySem.W.Frag) (mg : Str → Option Value) (Cf : Str → Addr) (PE0 : Addr) : Prop where
  gl : ∀ x ∈ nmA, mg x = some (.ref (Cf x))
  xc : ∀ x ∈ nmA, ExcC K (Cf x)
  kit : ∀ x ∈ nmA, ∀ y ∈ nmA, PySem.W.kitOne K (.ref (Cf x)) (.ref (Cf y)) = some (decide (x = y))
  kp : ∀ x ∈ nmA, PySem.W.kitOne K (.ref (Cf x)) (.ref PE0) = some true
  kv : ∀ x ∈ nmA, PySem.W.kitOne K (.ref (Cf x)) (.type "ValueError") = some true
  pi : PySem.W.excIn K PE0 [.type "ValueError", .type "Exception", .type "BaseException", .type "object"] "ValueError.__new__" = true
  pg : mg "PurseError" = some (.ref PE0)
  pk : PySem.W.keepIn K (.ref PE0) = true
  px : ExcC K PE0
  pb : ∀ y ∈ nmA, PySem.W.kitOne K (.ref PE0) (.ref (Cf y)) = some false
  pv : PySem.W.kitOne K (.ref PE0) (.type "ValueError") = some true
structure Lw (P : Program) (w : World) (K : PySem.W.Frag) (mg : Str → Option Value) (base : Heap) (Cf : Str → Addr) (PE0 : Addr) : Prop where
  begun : Gd P w K mg base 1 "_law_begun" ["script"] (spBegun K)
  draw : Gd P w K mg base 2 "_law_draw" ["state", "size_here"] spDraw
  pick : Gd P w K mg base 3 "_law_pick" ["state", "several"] (spPick K)
  made : Gd P w K mg base 3 "_law_er_made" ["text", "line", "one", "other", "thing"] (spMade Cf)
  kinds : Gd P w K mg base 1 "_law_er_kinds" ["error"] (spKinds K mg Cf)
  named : Gd P w K mg base 3 "_law_er_named" ["line", "one", "other", "thing"] spTold
  placed : Gd P w K mg base 3 "_law_er_placed" ["line", "one", "other", "thing"] spTold
  wk : Wk K mg Cf PE0
  ms : mg "isinstance" = none
  mr : mg "range" = none
  mm : mg "min" = none
  ml : mg "len" = none
  mt : mg "tuple" = none
  mst : mg "str" = none
  men : mg "enumerate" = none
  mre : mg "repr" = none
  mv : mg "ValueError" = none
theorem Kp.updNew {d g p : Addr} {H H' : Hp} {o : HO} (k : Kp d g H H') (n : H p = none) : Kp d g H (upd H' p o) := fun b u e x y => by
  rw [upd_ne (ne_of_none e n)]; exact k b u e x y
theorem StA.upd {H : Hp} {d g c p : Addr} {T : Int} {o : HO} (S : StA H d g c T) (x : d ≠ p) (y : g ≠ p) (z : c ≠ p) : StA (L2.upd H p o) d g c T := by
  obtain ⟨l, t, h1, h2, h3, h4⟩ := S.dk
  obtain ⟨gs, h5, h6⟩ := S.gr
  obtain ⟨cs, h7, h8⟩ := S.ce
  exact ⟨⟨l, t, by rw [upd_ne x]; exact h1, h2, h3, h4⟩, ⟨gs, by rw [upd_ne y]; exact h5, h6⟩, ⟨cs, by rw [upd_ne z]; exact h7, h8⟩, S.gc⟩
theorem pe_tyn {X : Cx} {x : Str} {pos : Pos} (n : String) (hg : Gl X x) (hm : X.mg x = none) (hv : bootBuiltins x = some (.type n)) (hn : x ≠ "__name__" := by decide) (hd : (x == ("__debug__" : Str)) = false := by decide) : PE X (.Name x pos) (tC (.ty n)) :=
  pe_bltn (v := .ty n) hg hm hv (by rfl) hn hd
section
variable {P : Program} {w : World} {K : PySem.W.Frag} {mg : Str → Option Value} {base : Heap} {Cf : Str → Addr} {PE0 : Addr}
theorem scL : FnScope nL ["script"] (defScope sLaw) := ⟨rfl, rfl, rfl, by decide +kernel, rfl, by decide +kernel, by decide +kernel⟩
theorem law_body {f : Addr} {cv : Value} {A : Around} {outer : List Env} {s : Shared} {H : Hp} {Q : VK} {E : XK} {a : Addr} {ns : List Int} (W : Lw P w K mg base Cf PE0) (hr : Room 3 (A.deeper (PyProof.Rows.envOfC "law" (defScope sLaw) s.heap.objs.size f cv)))
    (hgu : (A.deeper (PyProof.Rows.envOfC "law" (defScope sLaw) s.heap.objs.size f cv)).guards = some [])
    (hS : SqL K H a (ns.map V.int)) (hlen : ns.length ≤ 63) (k : ∀ H', Q (.bl true) H') : ∃ t, PSs (cxOf CX0 P w K mg base nL "law" (defScope sLaw) f cv A outer s H E).nox (defBody sLaw) t ∧ t { nx := fun _ H' => Q .non H', rt := Q } (L2.start nL [.ref a]) H := by
  obtain ⟨fB, fdB, GB, bB, kB, mB⟩ := W.begun
  obtain ⟨fD, fdD, GD, bD, kD, mD⟩ := W.draw
  obtain ⟨fP, fdP, GP, bP, kP, mP⟩ := W.pick
  obtain ⟨fM, fdM, GM, bM, kM, mM⟩ := W.made
  obtain ⟨fK, fdK, GK, bK, kK, mK⟩ := W.kinds
  obtain ⟨fN, fdN, GN, bN, kN, mN⟩ := W.named
  obtain ⟨fL, fdL, GL, bL, kL, mL⟩ := W.placed
  have r1 : Room 1 (A.deeper (PyProof.Rows.envOfC "law" (defScope sLaw) s.heap.objs.size f cv)) := hr.mono (by decide)
  have r2 : Room 2 (A.deeper (PyProof.Rows.envOfC "law" (defScope sLaw) s.heap.objs.size f cv)) := hr.mono (by decide)
  have hu := hr.units
  refine ⟨_, pss_cons (ps_set (i := 1) scL.nd rfl (Or.inr rfl) (pe_call GB r1 rfl mB kB bB .nil pass0 (pa_cons (pv 0) pa_nil)))
    (pss_cons (ps_for PassesOwn.never rfl (pi_range1 rfl W.mr (pa_cons (pe_op op_add pe_int (pe_callB (call_min2 rfl) (by rfl) W.mm (by decide +kernel) (pa_cons (pe_callB call_len_seq (by rfl) W.ml boot_len (pa_cons (pv 0) pa_nil)) (pa_cons pe_int pa_nil)))) pa_nil))
        (pg_name (i := 2) scL.nd rfl (Or.inl rfl))
      (pss_cons (ps_par3 (i := 3) (j := 4) (l := 5) rfl scL.nd rfl rfl rfl (by decide) (by decide) (by decide) rfl rfl rfl (pa_cons (pe_call GD r2 rfl mD kD bD .nil pass0 (pa_cons (pv 1) (pa_cons (pe_op op_pow pe_int pe_int) pa_nil)))
          (pa_cons (pe_tup (pa_cons pe_str (pa_cons (pe_call GD r2 rfl mD kD bD .nil pass0 (pa_cons (pv 1) (pa_cons pe_int pa_nil))) pa_nil)))
          (pa_cons (pe_tup (pa_cons pe_str (pa_cons (pe_call GD r2 rfl mD kD bD .nil pass0 (pa_cons (pv 1) (pa_cons pe_int pa_nil))) pa_nil))) pa_nil))) (by rfl))
      (pss_cons (ps_set (i := 6) scL.nd rfl (Or.inl rfl) (pe_callTy call_tuple_of (by rfl) W.mt (by decide +kernel) (pa_cons (pe_lc (own := [("turn", 13)]) (g := gName 13) rfl scL.nd
            (pi_range1 rfl W.mr (pa_cons (pe_call GD r2 rfl mD kD bD .nil pass0 (pa_cons (pv 1) (pa_cons pe_int pa_nil))) pa_nil))
            (blkOk_by (own := [("turn", 13)]) (N := nL) (sc := defScope sLaw) (by decide +kernel)) (fun _ _ _ _ _ => pg_name (i := 13) scL.nd rfl (Or.inl rfl)) (fun _ _ _ _ _ => pts_nil) (fun _ _ _ _ _ => pe_call GD r2 rfl mD kD bD .nil pass0 (pa_cons (pv 1) (pa_cons pe_int pa_nil)))) pa_nil)))
      (pss_cons (ps_set (i := 6) scL.nd rfl (Or.inl rfl) (pe_call GP hr rfl mP kP bP .nil pass0 (pa_cons (pv 1) (pa_cons (pe_lst (pa_cons (pv 6) (pa_cons (pe_tup (pa_cons pe_str (pa_cons (pv 4) pa_nil)))
            (pa_cons (pe_tup (pa_cons pe_str (pa_cons pe_int (pa_cons (pe_tup (pa_cons (pv 4) (pa_cons (pv 5) pa_nil))) pa_nil)))) pa_nil)))) pa_nil))))
      (pss_cons (ps_set (i := 7) scL.nd rfl (Or.inl rfl) (pe_call GP hr rfl mP kP bP .nil pass0 (pa_cons (pv 1) (pa_cons (pe_lst (pa_cons pe_str (pa_cons pe_str (pa_cons pe_str
            (pa_cons (pe_op op_add_str pe_str (pe_callTy call_str_int (by rfl) W.mst (by decide +kernel) (pa_cons (pv 3) pa_nil))) pa_nil))))) pa_nil))))
      (pss_cons (ps_set (i := 8) scL.nd rfl (Or.inl rfl) (pe_call GM hr rfl mM kM bM .nil pass0 (pa_cons (pv 7) (pa_cons (pv 3) (pa_cons (pv 4) (pa_cons (pv 5) (pa_cons (pv 6) pa_nil)))))))
      (pss_cons (ps_for PassesOwn.never rfl (pi_enum (by rfl) W.men (pa_cons (pv 8) pa_nil)) (pg_tup rfl (pgs_cons (pg_name (i := 9) scL.nd rfl (Or.inr rfl)) (pgs_cons (pg_name (i := 10) scL.nd rfl (Or.inl rfl)) pgs_nil)))
          (pss_cons (ps_if (PW.pt (pw_or (pt_not (pt_val (pe_callB call_isErr (by rfl) W.ms (by decide +kernel) (pa_cons (pv 10) (pa_cons (pe_glob (v := .ref PE0) rfl W.wk.pg rfl) pa_nil)))))
              (pw_or1 (pt_not (pt_val (pe_callB call_isErr (by rfl) W.ms (by decide +kernel) (pa_cons (pv 10) (pa_cons (pe_tyn "ValueError" (by rfl) W.mv (by decide +kernel)) pa_nil))))))))
            (pss_one (ps_ret pe_bl)) pss_nil)
          (pss_one (ps_if (pt_cmpR (op_neD hu) (pe_call GK r1 rfl mK kK bK .nil pass0 (pa_cons (pv 10) pa_nil)) (pe_lc (own := [("place", 14)]) (g := gName 14) rfl scL.nd
              (pi_range1 rfl W.mr (pa_cons (pe_callB call_len_seq (by rfl) W.ml boot_len (pa_cons (pv 8) pa_nil)) pa_nil))
              (blkOk_by (own := [("place", 14)]) (N := nL) (sc := defScope sLaw) (by decide +kernel)) (fun _ _ _ _ _ => pg_name (i := 14) scL.nd rfl (Or.inl rfl)) (fun _ _ _ _ _ => pts_nil) (fun _ _ _ _ _ => pe_cmpR op_eq (pv 14) (pv 9) (nomark _))) (nomark _))
            (pss_one (ps_ret pe_bl)) pss_nil))))
      (pss_cons (ps_set (i := 11) scL.nd rfl (Or.inl rfl) (pe_exc1 PySem.F.excBase_ValueError W.wk.pi W.wk.pg W.wk.pk (by rfl) (pv 7)))
      (pss_cons (ps_if (PW.pt (pw_or (pt_not (pt_val (pe_callB call_isErr (by rfl) W.ms (by decide +kernel) (pa_cons (pv 11) (pa_cons (pe_tyn "ValueError" (by rfl) W.mv (by decide +kernel)) pa_nil)))))
          (pw_or1 (pt_cmpR op_in_seq pe_bl (pe_call GK r1 rfl mK kK bK .nil pass0 (pa_cons (pv 11) pa_nil)) (by rfl))))) (pss_one (ps_ret pe_bl)) pss_nil)
      (pss_cons (ps_set (i := 12) scL.nd rfl (Or.inl rfl) (pe_callB (call_reprD hgu hu) (by rfl) W.mre (by decide +kernel) (pa_cons (pe_lst (pa_cons (pv 3) (pa_cons (pv 4) (pa_cons (pv 5) (pa_cons (pv 6) (pa_cons (pv 3) (pa_cons (pv 3) (pa_cons (pv 6) pa_nil)))))))) pa_nil)))
      (pss_one (ps_if (PW.pt (pw_or (pt_cmpR op_ne (pe_callB (call_reprD hgu hu) (by rfl) W.mre (by decide +kernel) (pa_cons (pe_call GN hr rfl mN kN bN .nil pass0 (pa_cons (pv 3) (pa_cons (pv 4) (pa_cons (pv 5) (pa_cons (pv 6) pa_nil))))) pa_nil)) (pv 12) (nomark _))
          (pw_or1 (pt_cmpR op_ne (pe_callB (call_reprD hgu hu) (by rfl) W.mre (by decide +kernel) (pa_cons (pe_call GL hr rfl mL kL bL .nil pass0 (pa_cons (pv 3) (pa_cons (pv 4) (pa_cons (pv 5) (pa_cons (pv 6) pa_nil))))) pa_nil)) (pv 12) (nomark _))))) (pss_one (ps_ret pe_bl)) pss_nil))))))))))))
    (pss_one (ps_ret pe_bl))), ?_⟩
  refine ⟨_, rfl, a, ns, rfl, hS, by omega, fun d g c H1 s1 nd ng nc S1 => ?_⟩
  refine ⟨_, rfl, a, _, rfl, .inl (s1.seq hS), _, _, rfl, 1, _, rfl, rfl, _, rfl, ?_, ?_, ?_⟩
  · rw [List.length_map]; split <;> omega
  · rw [List.length_map]; split <;> omega
  refine for_range (lo := 0) (fun i σ H2 => ∃ z2 z3 z4 z5 z6 z7 z8 z9 z10 z11 z12 z13 z14 : Option V, σ = [some (.ref a), some (.ref d), z2, z3, z4, z5, z6, z7, z8, z9, z10, z11, z12, z13, z14] ∧ StA H2 d g c (100 * (i : Int)))
    ⟨_, _, _, _, _, _, _, _, _, _, _, _, _, rfl, S1.mono (by show (0 : Int) ≤ 100 * 0; decide)⟩ ?_ (fun σ H2 _ => k H2)
  rintro i σ H2 hi ⟨z2, z3, z4, z5, z6, z7, z8, z9, z10, z11, z12, z13, z14, rfl, S2⟩
  have hi8 : (i : Int) < 10 := by
    have q := hi
    rw [List.length_map] at q
    split at q <;> omega
  -- line, one, other
  refine ⟨_, rfl, 10, 18, rfl, rfl, ⟨by decide, by decide, by decide⟩, d, g, c, _, _, rfl, S2, by show 100 * (i : Int) < 1000000000000; omega, by decide, by decide, fun l H3 l0 l1 k3 S3 => ?_⟩
  have e18 : (10 : Int) ^ (18 : Int).toNat = 1000000000000000000 := by decide
  rw [e18] at l1
  refine ⟨_, rfl, d, g, c, _, 400, rfl, S3, by show 100 * (i : Int) + 1 < 1000000000000; omega, by decide, by decide, fun a1 H4 a10 a11 k4 S4 => ⟨(by show 2 ≤ sizeLine; decide), fun p1 hp1 => ?_⟩⟩
  refine ⟨_, rfl, d, g, c, _, 400, rfl, S4.new hp1, by show 100 * (i : Int) + 1 + 1 < 1000000000000; omega, by decide, by decide, fun a2 H5 a20 a21 k5 S5 => ⟨(by show 2 ≤ sizeLine; decide), fun p2 hp2 => ⟨_, _, _, rfl, ?_⟩⟩⟩
  have n1 : Nd d g p1 := S4.nd p1 hp1
  have n2 : Nd d g p2 := S5.nd p2 hp2
  have h1 : (upd H5 p2 (.tup [.str "name", .int a2])) p1 = some (.tup [.str "name", .int a1]) := same_upd hp2 _ _ (k5 _ _ upd_same n1.1 n1.2)
  have h2 : (upd H5 p2 (.tup [.str "name", .int a2])) p2 = some (.tup [.str "name", .int a2]) := upd_same
  have S6 := S5.new (o := .tup [.str "name", .int a2]) hp2
  generalize upd H5 p2 (.tup [.str "name", .int a2]) = H6 at h1 h2 S6
  -- thing, a tuple of numbers
  refine ⟨_, rfl, d, g, c, _, 5, rfl, S6, by show 100 * (i : Int) + 1 + 1 + 1 < 1000000000000; omega, by decide, by decide, fun cnt H7 c0 c5 k7 S7 => ?_⟩
  refine ⟨_, rfl, by omega, by omega, fun L hL => lc_range (lo := 0) (fun j H' => ∃ zs : List Int, H' L = some (.lst (zs.map V.int)) ∧ zs.length = j ∧ (∀ z ∈ zs, 0 ≤ z ∧ z < 1000000000000000000) ∧ Kp d g H7 H' ∧ StA H' d g c (100 * (i : Int) + 4 + (j : Int)))
    ⟨[], upd_same, rfl, (fun z hz => nomatch hz), Kp.new hL, (S7.new hL).mono (by omega)⟩ ?_ ?_⟩
  · rintro j H' hj ⟨zs, hLj, lj, qj, kj, Sj⟩
    have hj5 : (j : Int) < 5 := by omega
    have nL := S7.nd L hL
    have cL : c ≠ L := fun q => by
      obtain ⟨cs, hcs, _⟩ := S7.ce
      rw [q, hL] at hcs
      cases hcs
    refine ⟨rfl, ?_⟩
    dsimp only [tYes]
    refine iteT ?_
    refine ⟨_, rfl, d, g, c, _, 13, rfl, Sj, by show 100 * (i : Int) + 4 + (j : Int) < 1000000000000; omega, by decide, by decide, fun r H8 r0 r13 k8 S8 => ?_⟩
    refine ⟨_, k8 _ _ hLj nL.1 nL.2, by rw [List.length_map]; exact small1000 (by omega), zs ++ [r], by rw [upd_same, List.map_append]; rfl, by rw [List.length_append, lj]; rfl, fun z hz => ?_, (kj.trans k8).updNew hL, (S8.upd nL.1.symm nL.2.symm cL).mono (by push_cast; omega)⟩
    rcases List.mem_append.mp hz with hz | hz
    · exact qj z hz
    · rw [List.mem_singleton.mp hz]; omega
  rintro H8 ⟨zs, hL8, lz, qz, k8, S8⟩
  have lz4 : zs.length ≤ 4 := by omega
  refine ⟨L, _, rfl, .inl ⟨SqL.of hL8, fun pr hpr => ?_⟩⟩
  have nr : Nd d g pr := S8.nd pr hpr
  have k69 : Kp d g H6 (upd H8 pr (.tup (zs.map V.int))) := k7.trans (k8.trans (Kp.new hpr))
  have h1 := k69 _ _ h1 n1.1 n1.2
  have h2 := k69 _ _ h2 n2.1 n2.2
  have h3 : (upd H8 pr (.tup (zs.map V.int))) pr = some (.tup (zs.map V.int)) := upd_same
  have S9 := (S8.new (o := .tup (zs.map V.int)) hpr).mono (T' := 100 * (i : Int) + 10) (by omega)
  generalize upd H8 pr (.tup (zs.map V.int)) = H9 at h1 h2 h3 S9 k69
  -- thing, picked
  refine ⟨_, rfl, _, rfl, _, rfl, (by show 2 ≤ sizeLine; decide), fun t2 ht2 => ⟨_, rfl, _, rfl, (by show 2 ≤ sizeLine; decide), fun t3 ht3 => ⟨(by show 3 ≤ sizeLine; decide), fun t4 ht4 => ⟨(by show 3 ≤ sizeLine; decide), fun pl hpl => ?_⟩⟩⟩⟩
  have m1 := same_upd (o := .tup [.str "here", .ref p1]) ht2
  have m2 := same_upd (o := .tup [.ref p1, .ref p2]) ht3
  have m3 := same_upd (o := .tup [.str "next", .int 0, .ref t3]) ht4
  have m4 := same_upd (o := .lst [.ref pr, .ref t2, .ref t4]) hpl
  have m := m1.trans (m2.trans (m3.trans m4))
  have nt2 : Nd d g t2 := S9.nd t2 ht2
  have nt3 : Nd d g t3 := (S9.same m1).nd t3 ht3
  have nt4 : Nd d g t4 := ((S9.same m1).same m2).nd t4 ht4
  have npl : Nd d g pl := (((S9.same m1).same m2).same m3).nd pl hpl
  have S10 := S9.same m
  have q1 := m _ _ h1
  have q2 := m _ _ h2
  have q3 := m _ _ h3
  have q4 := (m2.trans (m3.trans m4)) _ _ (upd_same (H := H9) (a := t2) (o := .tup [.str "here", .ref p1]))
  have q5 := (m3.trans m4) _ _ (upd_same (a := t3) (o := .tup [.ref p1, .ref p2]))
  have q6 := m4 _ _ (upd_same (a := t4) (o := .tup [.str "next", .int 0, .ref t3]))
  have q7 := upd_same (H := upd (upd (upd H9 t2 (.tup [.str "here", .ref p1])) t3 (.tup [.ref p1, .ref p2])) t4 (.tup [.str "next", .int 0, .ref t3])) (a := pl) (o := .lst [.ref pr, .ref t2, .ref t4])
  generalize upd (upd (upd (upd H9 t2 (.tup [.str "here", .ref p1])) t3 (.tup [.ref p1, .ref p2])) t4 (.tup [.str "next", .int 0, .ref t3])) pl (.lst [.ref pr, .ref t2, .ref t4]) = H10 at m q1 q2 q3 q4 q5 q6 q7 S10
  have sa1 := nm_sm a10 a11
  have sa2 := nm_sm a20 a21
  have ths : ∀ x ∈ [V.ref pr, .ref t2, .ref t4], ∃ t, PDn 4 (Nd d g) H10 x t ∧ Sm 8 400 t := fun x hx => by
    have o1 : PDn 2 (Nd d g) H10 (.ref p1) (nmD a1) := nm_pd n1 q1
    have o2 : PDn 2 (Nd d g) H10 (.ref p2) (nmD a2) := nm_pd n2 q2
    simp only [List.mem_cons, List.not_mem_nil, or_false] at hx
    rcases hx with rfl | rfl | rfl
    · exact ⟨.tuple (zs.map PyData.int), .inr (.inr ⟨pr, _, _, rfl, nr, q3, rfl, pd_ints zs⟩), (SmL.tup (sm_ints qz lz4)).up (by decide) (by decide)⟩
    · exact ⟨.tuple [.str "here", nmD a1], .inr (.inr ⟨t2, _, _, rfl, nt2, q4, rfl, .cons (.inr (.inl ⟨_, rfl, rfl⟩)) (.cons o1.up .nil)⟩), (SmL.tup (.cons (sm_str (B := 4) (by decide +kernel) (by decide +kernel)) (.cons sa1 (.nil (B := 0))))).up (by decide) (by decide)⟩
    · exact ⟨.tuple [.str "next", .int 0, .tuple [nmD a1, nmD a2]], .inr (.inr ⟨t4, _, _, rfl, nt4, q6, rfl, .cons (.inr (.inl ⟨_, rfl, rfl⟩)) (.cons (.inl ⟨_, rfl, rfl⟩) (.cons (.inr (.inr ⟨t3, _, _, rfl, nt3, q5, rfl, .cons o1 (.cons o2 .nil)⟩)) .nil))⟩),
        (SmL.tup (.cons (sm_str (B := 4) (by decide +kernel) (by decide +kernel)) (.cons (sm_int (by decide) (by decide)) (.cons (SmL.tup (.cons sa1 (.cons sa2 (.nil (B := 0))))) (.nil (B := 0)))))).up (by decide) (by decide)⟩
  refine ⟨d, g, c, pl, _, _, rfl, S10, by show 100 * (i : Int) + 10 < 1000000000000; omega, .inl (SqL.of q7), npl.1, npl.2, (by intro e; cases e), (by show 3 ≤ 100000; decide), fun th H11 hth k11 S11 => ?_⟩
  obtain ⟨t, hpd, sm⟩ := ths th hth
  have hpd := hpd.kp k11
  have q1 := k11 _ _ q1 n1.1 n1.2
  have q2 := k11 _ _ q2 n2.1 n2.2
  -- text
  have sl := sm_int (n := 0) l0 l1
  have ll : (Str.ofString (toString l)).length ≤ 20 := by
    have z := sl.ls
    simp only [PyData.leavesShort, decide_eq_true_eq] at z
    exact z
  have llog : l.natAbs.log2 < 1920 := by
    have z := sl.sh
    simp only [PyData.showable, decide_eq_true_eq] at z
    exact z
  refine ⟨_, rfl, _, rfl, l, rfl, llog, _, _, rfl, rfl, ?_, (by show 4 ≤ sizeLine; decide), fun pl2 hpl2 => ?_⟩
  · have e1 : ("a text of " : Str).length = 10 := by decide +kernel
    rw [e1, sizeLine_eq]
    have : (Str.ofString (toString l)).length ≤ 20 := ll
    omega
  have n3 := S11.nd pl2 hpl2
  refine ⟨d, g, c, pl2, _, _, rfl, S11.new hpl2, by show 100 * (i : Int) + 10 + 1 < 1000000000000; omega, .inl (SqL.of upd_same), n3.1, n3.2, (by intro e; cases e), (by show 4 ≤ 100000; decide), fun tx H12 _ k12 S12 => ?_⟩
  have k1112 : Kp d g H11 H12 := (Kp.new hpl2).trans k12
  have hpd := hpd.kp k1112
  have q1 := k1112 _ _ q1 n1.1 n1.2
  have q2 := k1112 _ _ q2 n2.1 n2.2
  -- the errors
  refine ⟨_, rfl, _, rfl, _, rfl, _, rfl, _, rfl, _, _, _, _, _, rfl, fun q ys H13 s13 hq hE => ?_⟩
  have lys : ys.length = 71 := hE.len
  have S13 := S12.same s13
  have hpd := hpd.same s13
  have q1 := s13 _ _ q1
  have q2 := s13 _ _ q2
  refine ⟨_, rfl, q, ys, rfl, SqL.of hq, for_it walk_enum (fun _ σ H' => ∃ z9 z10 z14 : Option V, σ = [some (.ref a), some (.ref d), some (.int (0 + (i : Int))), some (.int l), some (.ref p1), some (.ref p2), some th, some tx, some (.ref q), z9, z10, z11, z12, z13, z14] ∧ Same H13 H')
    ⟨_, _, _, rfl, Same.refl H13⟩ (fun _ σ H' _ ⟨_, _, _, _, s'⟩ => SqL.of (s' _ _ hq)) ?_ ?_⟩
  · rintro i2 x σ H14 H15 hi2 ⟨z9, z10, z14, rfl, s14⟩ ⟨T, x1, x2, rfl, hT, rfl, ex1, ex2⟩
    cases ex1
    have s15 : Same H13 (upd H14 T (.tup [.int (i2 : Nat), x2])) := s14.trans (same_upd hT)
    obtain ⟨aE, C, rfl, hC, eA⟩ := hE.get ex2
    have hi71 : i2 < 71 := by omega
    have hn : nmA[i2]? = some nmA[i2] := List.getElem?_eq_getElem (by rw [nmA_len]; exact hi71)
    have eC : C = Cf nmA[i2] := by
      rw [List.getElem?_map, hn] at hC
      exact (Option.some.inj hC).symm
    subst eC
    have hm : nmA[i2] ∈ nmA := List.getElem_mem _
    refine ⟨T, _, rfl, SqT.of upd_same, rfl, _, _, rfl, _, _, rfl, rfl, ?_⟩
    have eA := eA.same s15
    have hq15 := s15 _ _ hq
    generalize upd H14 T (.tup [.int (i2 : Nat), .ref aE]) = H15 at s15 eA hq15
    refine ⟨_, rfl, aE, _, .ref PE0, .ref PE0, true, rfl, (fun u q => q), eA, W.wk.xc _ hm, W.wk.kp _ hm, _, rfl, iteF ?_⟩
    refine ⟨_, rfl, aE, _, .ty "ValueError", .type "ValueError", true, rfl, (fun u q => q), eA, W.wk.xc _ hm, W.wk.kv _ hm, _, rfl, iteF ?_⟩
    refine ⟨_, rfl, aE, _, fun y => decide (nmA[i2] = y), rfl, eA, W.wk.xc _ hm, fun y hy => ⟨W.wk.gl y hy, W.wk.kit _ hm y hy⟩, fun p H16 s16 hp => ?_⟩
    refine ⟨_, rfl, q, _, rfl, .inl (SqL.of (s16 _ _ hq15)), _, rfl, by omega, by omega, fun L2 hL2 => lc_range (lo := 0) (fun j H' => H' = upd H16 L2 (.lst (((List.range j).map fun m => decide (m = i2)).map V.bl))) rfl ?_ ?_⟩
    · rintro j H' hj rfl
      refine ⟨rfl, ?_⟩
      dsimp only [tYes]
      refine iteT ?_
      refine ⟨_, rfl, _, rfl, rfl, _, upd_same, ?_, ?_⟩
      · rw [List.length_map, List.length_map, List.length_range]; exact small1000 (by omega)
      · have e : decide (V.int (0 + (j : Int)) = V.int ((i2 : Nat) : Int)) = decide (j = i2) := by
          by_cases z : j = i2
          · rw [decide_eq_true z, z]; exact decide_eq_true (by rw [Int.zero_add])
          · rw [decide_eq_false z]; exact decide_eq_false fun y => z (by have := V.int.inj y; omega)
        rw [e, upd_upd, List.range_succ, List.map_append, List.map_append]
        rfl
    · rintro H' rfl
      have e2 : (fun y => V.bl (decide (nmA[i2] = y))) = (V.bl ∘ fun y => decide (nmA[i2]? = some y)) := by
        funext y
        show _ = V.bl (decide (nmA[i2]? = some y))
        rw [hn]
        congr 1
        by_cases z : nmA[i2] = y
        · rw [decide_eq_true z]; exact (decide_eq_true (congrArg some z)).symm
        · rw [decide_eq_false z]; exact (decide_eq_false fun w => z (Option.some.inj w)).symm
      have hp2 : (upd H16 L2 (.lst (((List.range ys.length).map fun m => decide (m = i2)).map V.bl))) p = some (.lst ((kdAt i2).map V.bl)) := by
        rw [same_upd hL2 _ _ hp, e2, ← List.map_map]
        rfl
      rw [lys, ← kdAt_eq i2 hi71] at hp2
      rw [lys, show ((71 : Nat) : Int).toNat = 71 from rfl, ← kdAt_eq i2 hi71]
      refine ⟨_, _, .lst (SqL.of hp2) (dp_bools _), .lst (SqL.of upd_same) (dp_bools _), shaped_bools _, shaped_bools _, _, rfl, ?_⟩
      rw [eqv_bools]
      exact iteF ⟨_, _, _, rfl, s15.trans (s16.trans (same_upd hL2))⟩
  · rintro σ H14 ⟨z9, z10, z14, rfl, s14⟩
    have S14 := S13.same s14
    have hpd := hpd.same s14
    have q1 := s14 _ _ q1
    have q2 := s14 _ _ q2
    refine ⟨_, rfl, fun aB hB => ?_⟩
    have sB := same_upd (o := ExO (.ref PE0) aB) hB
    have eB : ErrAt (upd H14 aB (ExO (.ref PE0) aB)) aB PE0 := .inl upd_same
    generalize upd H14 aB (ExO (.ref PE0) aB) = H15 at sB eB
    refine ⟨_, rfl, aB, PE0, .ty "ValueError", .type "ValueError", true, rfl, (fun u q => q), eB, W.wk.px, W.wk.pv, _, rfl, iteF ?_⟩
    refine ⟨_, rfl, aB, PE0, fun _ => false, rfl, eB, W.wk.px, fun y hy => ⟨W.wk.gl y hy, W.wk.pb y hy⟩, fun p H16 s16 hp => ⟨p, _, rfl, .inl (SqL.of hp), rfl, rfl, _, rfl, iteF ?_⟩⟩
    have s1416 := sB.trans s16
    have S16 := S14.same s1416
    have hpd := hpd.same s1416
    have q1 := s1416 _ _ q1
    have q2 := s1416 _ _ q2
    have data : ∀ {H : Hp}, Same H16 H → DpAll K H [.int l, .ref p1, .ref p2, th, .int l, .int l, th] [.int l, nmD a1, nmD a2, t, .int l, .int l, t] := fun {H} s => by
      have o1 : Dp K H (.ref p1) (nmD a1) := PDn.dp 2 (PDn.same s (nm_pd n1 q1))
      have o2 : Dp K H (.ref p2) (nmD a2) := PDn.dp 2 (PDn.same s (nm_pd n2 q2))
      have o3 : Dp K H th t := PDn.dp 4 (PDn.same s hpd)
      exact .cons (.int l) (.cons o1 (.cons o2 (.cons o3 (.cons (.int l) (.cons (.int l) (.cons o3 .nil))))))
    have sl8 := sm_int (n := 8) l0 l1
    have small : Sm 9 2000 (.list [.int l, nmD a1, nmD a2, t, .int l, .int l, t]) := (SmL.lst (n := 8) (.cons sl8 (.cons (sa1.up (by decide) (Nat.le_refl _)) (.cons (sa2.up (by decide) (Nat.le_refl _)) (.cons sm (.cons sl8 (.cons sl8 (.cons sm (.nil (B := 0)))))))))).up (by decide) (by decide)
    refine ⟨_, rfl, _, rfl, _, rfl, _, rfl, _, rfl, _, rfl, _, rfl, (by show 7 ≤ sizeLine; decide), fun pd hpd7 => ?_⟩
    refine ⟨pd, _, rfl, .lst (SqL.of upd_same) (data (same_upd hpd7)), small.sh, small.nd, Nat.le_trans small.dp (by decide), small.fits (by decide), ?_⟩
    have s17 := same_upd (o := .lst [.int l, .ref p1, .ref p2, th, .int l, .int l, th]) hpd7
    have S17 := S16.same s17
    generalize upd H16 pd (.lst [.int l, .ref p1, .ref p2, th, .int l, .int l, th]) = H17 at s17 S17
    refine ⟨_, rfl, _, rfl, _, rfl, _, rfl, _, _, _, _, rfl, fun qn H18 s18 hq18 => ?_⟩
    refine ⟨qn, _, rfl, .lst (SqL.of hq18) (data (s17.trans s18)), small.sh, small.nd, Nat.le_trans small.dp (by decide), small.fits (by decide), _, rfl, rfl, _, rfl, iteNS rfl ?_⟩
    refine ⟨_, rfl, _, rfl, _, rfl, _, rfl, _, _, _, _, rfl, fun qm H19 s19 hq19 => ?_⟩
    refine ⟨qm, _, rfl, .lst (SqL.of hq19) (data ((s17.trans s18).trans s19)), small.sh, small.nd, Nat.le_trans small.dp (by decide), small.fits (by decide), _, rfl, rfl, _, rfl, iteNS rfl ?_⟩
    exact ⟨_, _, _, _, _, _, _, _, _, _, _, _, _, rfl, ((S17.same s18).same s19).mono (by push_cast; omega)⟩
end
end Pu

namespace Pu
open PySem L2 LamX
/-- where a name of the top leads to -/
theorem cf_of {K : PySem.W.Frag} {x : Str} {a : Addr} (h : PySem.W.nsIn K mainGlobals x = some (some (.ref a))) : cf K x = a := by
  unfold cf
  rw [h]
theorem isR_of {K : PySem.W.Frag} {x : Str} (h : isR K x = true) : PySem.W.nsIn K mainGlobals x = some (some (.ref (cf K x))) := by
  unfold isR at h
  split at h
  · rename_i a e
    rw [cf_of e, e]
  · cases h
theorem exB_ok {K : PySem.W.Frag} {D : Addr} (h : exB K D = true) : ExcC K D := by
  unfold exB at h
  simp only [Bool.and_eq_true, decide_eq_true_eq] at h
  obtain ⟨h1, h2, h3, h4, h5, h6, h7, h8⟩ := h
  exact ⟨h1, h2, h3, h4, h5, h6, h7, h8⟩
theorem kit_cls {K : PySem.W.Frag} {D C : Addr} {mro : List Value} (h : clsB K mro D = true) (n : mro ≠ []) (hC : ∃ m, clsB K m C = true) (self : mro.contains (.ref D) = true) : PySem.W.kitOne K (.ref D) (.ref C) = some (mro.contains (.ref C)) := by
  obtain ⟨m, hC⟩ := hC
  unfold clsB at h hC
  simp only [Bool.and_eq_true, decide_eq_true_eq, Option.map_eq_some_iff] at h hC
  obtain ⟨⟨cd, h1, h2⟩, _⟩ := h
  obtain ⟨⟨ce, h3, _⟩, h4⟩ := hC
  unfold PySem.W.kitOne
  by_cases e : D = C
  · subst e
    rw [if_pos (beq_self_eq_true _), self]
  · rw [if_neg (fun q => e (Value.ref.inj (beq_iff_eq.mp q)))]
    unfold PySem.W.kitCls PySem.W.subIn PySem.W.mroIn
    simp only [h1, h3, h4, h2, Option.isSome_some, beq_self_eq_true, Bool.and_self, if_true, Option.bind_some]
    rw [if_neg (by rw [List.isEmpty_iff]; exact n)]
theorem kit_ve {K : PySem.W.Frag} {D : Addr} {mro : List Value} (h : clsB K mro D = true) (n : mro ≠ []) (c : mro.contains (.type "ValueError") = true) : PySem.W.kitOne K (.ref D) (.type "ValueError") = some true := by
  unfold clsB at h
  simp only [Bool.and_eq_true, decide_eq_true_eq, Option.map_eq_some_iff] at h
  obtain ⟨⟨cd, h1, h2⟩, _⟩ := h
  unfold PySem.W.kitOne
  rw [if_neg (fun q => by have z := beq_iff_eq.mp q; cases z)]
  have km : PySem.W.kitMeta "ValueError" = true := by decide +kernel
  unfold PySem.W.kitCls PySem.W.subIn PySem.W.mroIn
  simp only [h1, h2, km, if_true, Option.bind_some]
  rw [if_neg (by rw [List.isEmpty_iff]; exact n), c]
theorem apart_ne : ∀ {xs : List Addr}, apartB xs = true → ∀ {i j : Nat} {a : Addr}, xs[i]? = some a → xs[j]? = some a → i = j
  | [], _, i, _, _, h, _ => by cases h
  | b :: r, h, i, j, a, h1, h2 => by
    unfold apartB at h
    rw [Bool.and_eq_true, List.all_eq_true] at h
    have no : ∀ {k : Nat}, r[k]? = some b → False := fun {k} e => by
      have z := h.1 b (List.mem_of_getElem? e)
      simp at z
    match i, j, h1, h2 with
    | 0, 0, _, _ => rfl
    | 0, j + 1, h1, h2 => cases h1; exact (no h2).elim
    | i + 1, 0, h1, h2 => cases h2; exact (no h1).elim
    | i + 1, j + 1, h1, h2 => exact congrArg Nat.succ (apart_ne h.2 (i := i) (j := j) h1 h2)
structure Facts (K : PySem.W.Frag) (PE0 : Addr) : Prop where
  one : (nmA.all fun x => oneB K PE0 x) = true
  md : (nmG.all fun x => madeB K x) = true
  ap : apartB (nmA.map (cf K)) = true
  aP : PySem.W.nsIn K mainGlobals "PurseError" = some (some (.ref PE0))
  cP : clsB K (.ref PE0 :: bmV) PE0 = true
  eP : exB K PE0 = true
  xP : PySem.W.excIn K PE0 bmV "ValueError.__new__" = true
  kP : PySem.W.keepIn K (.ref PE0) = true
theorem Facts.wk {K : PySem.W.Frag} {PE0 : Addr} (F : Facts K PE0) {h : Heap} {mg : Str → Option Value} (X : K.In h) (G : h.Ns mainGlobals mg) : Wk K mg (cf K) PE0 := by
  have all : ∀ x ∈ nmA, isR K x = true ∧ clsB K (.ref (cf K x) :: .ref PE0 :: bmV) (cf K x) = true ∧ exB K (cf K x) = true ∧ cf K x ≠ PE0 := fun x hx => by
    have z := List.all_eq_true.mp F.one x hx
    unfold oneB at z
    simp only [Bool.and_eq_true, Bool.not_eq_true', decide_eq_false_iff_not] at z
    exact z
  have selfIn : ∀ x, (Value.ref (cf K x) :: Value.ref PE0 :: bmV).contains (.ref (cf K x)) = true := fun x => by rw [List.contains_cons, beq_self_eq_true, Bool.true_or]
  refine ⟨fun x hx => PySem.W.mg_of X G (isR_of (all x hx).1), fun x hx => exB_ok (all x hx).2.2.1, fun x hx y hy => ?_, fun x hx => ?_, fun x hx => kit_ve (all x hx).2.1 (by simp) (by simp), F.xP, PySem.W.mg_of X G F.aP, F.kP, exB_ok F.eP, fun y hy => ?_, kit_ve F.cP (by simp) (by simp)⟩
  · rw [kit_cls (all x hx).2.1 (by simp) ⟨_, (all y hy).2.1⟩ (selfIn x)]
    congr 1
    obtain ⟨i, hi⟩ := List.mem_iff_getElem?.mp hx
    obtain ⟨j, hj⟩ := List.mem_iff_getElem?.mp hy
    by_cases e : x = y
    · subst e
      rw [selfIn, decide_eq_true rfl]
    · rw [decide_eq_false e]
      have ne : cf K y ≠ cf K x := fun q => by
        have z := apart_ne F.ap (i := i) (j := j) (a := cf K x) (by rw [List.getElem?_map, hi]; rfl) (by rw [List.getElem?_map, hj]; exact congrArg some q)
        subst z
        rw [hi] at hj
        exact e (Option.some.inj hj)
      have n2 := (all y hy).2.2.2
      simp [ne, n2]
  · rw [kit_cls (all x hx).2.1 (by simp) ⟨_, F.cP⟩ (selfIn x)]
    simp
  · rw [kit_cls F.cP (by simp) ⟨_, (all y hy).2.1⟩ (by simp)]
    have n2 := (all y hy).2.2.2
    simp [n2]
theorem Facts.made {K : PySem.W.Frag} {PE0 : Addr} (F : Facts K PE0) {h : Heap} {mg : Str → Option Value} (X : K.In h) (G : h.Ns mainGlobals mg) : ∀ y ∈ nmG, PySem.W.excIn K (cf K y) [.type "ValueError", .type "Exception", .type "BaseException", .type "object"] "ValueError.__new__" = true ∧ mg y = some (.ref (cf K y)) ∧ PySem.W.keepIn K (.ref (cf K y)) = true := fun y hy => by
  have z := List.all_eq_true.mp F.md y hy
  unfold madeB at z
  rw [Bool.and_eq_true] at z
  exact ⟨z.1, (F.wk X G).gl y (by rw [nmA_eq]; exact List.mem_append_left _ hy), z.2⟩
/-- a def of the text stands behind the top under its name -/
def DefAt (K : PySem.W.Frag) (x : Str) (st : Stmt) : Prop := ∃ (f : Addr) (oc : Value) (od : Option Addr) (kV doc pm : Value) (an : Option Addr) (cd ct : Value) (osl : Array (Option Value)), PySem.W.nsIn K mainGlobals x = some (some (.ref f)) ∧
  K.lookup f = some ⟨oc, od, .func (PySem.W.fnOf x x (defArgs st) (defBody st) (defScope st) .none kV doc pm an cd ct), osl⟩ ∧ PySem.W.codeIn K cd x = true ∧ PySem.W.keepIn K (.ref f) = true
theorem DefAt.get {K : PySem.W.Frag} {x : Str} {st : Stmt} {h : Heap} {mg : Str → Option Value} (D : DefAt K x st) (X : K.In h) (G : h.Ns mainGlobals mg) : ∃ f fd, Fun K x x st f fd ∧ PySem.W.keepIn K (.ref f) = true ∧ mg x = some (.ref f) := by
  obtain ⟨f, oc, od, kV, doc, pm, an, cd, ct, osl, a, l, c, k⟩ := D
  exact ⟨f, _, fun_mk l c k, k, PySem.W.mg_of X G a⟩
theorem defAt_mk {K : PySem.W.Frag} {x : Str} {st : Stmt} {f : Addr} {oc : Value} {od : Option Addr} {kV doc pm : Value} {an : Option Addr} {cd ct : Value} {osl : Array (Option Value)} (a : PySem.W.nsIn K mainGlobals x = some (some (.ref f)))
    (l : K.lookup f = some ⟨oc, od, .func (PySem.W.fnOf x x (defArgs st) (defBody st) (defScope st) .none kV doc pm an cd ct), osl⟩) (c : PySem.W.codeIn K cd x = true) (k : PySem.W.keepIn K (.ref f) = true) : DefAt K x st := ⟨f, oc, od, kV, doc, pm, an, cd, ct, osl, a, l, c, k⟩
/-- a class with its own __init__, behind the top -/
def OwF (K : PySem.W.Frag) (x q : Str) (st : Stmt) (fl : List Str) : Prop := ∃ (C fI : Addr) (oc : Value) (od : Option Addr) (kV doc pm : Value) (an : Option Addr) (cd ct : Value) (osl : Array (Option Value)), PySem.W.nsIn K mainGlobals x = some (some (.ref C)) ∧ OexC K C ∧ XfC K C ∧
  PySem.W.findIn K (.ref C) "__init__" = some (some (.ref fI)) ∧ PySem.W.typeIn K (.ref fI) = some (.type "function") ∧ K.lookup fI = some ⟨oc, od, .func (PySem.W.fnOf "__init__" q (defArgs st) (defBody st) (defScope st) .none kV doc pm an cd ct), osl⟩ ∧ PySem.W.codeIn K cd q = true ∧ PySem.W.keepIn K (.ref fI) = true ∧
  (fl.all fun f => decide (PySem.W.findIn K (.ref C) f = some none)) = true
theorem owF_mk {K : PySem.W.Frag} {x q : Str} {st : Stmt} {fl : List Str} {C fI : Addr} {oc : Value} {od : Option Addr} {kV doc pm : Value} {an : Option Addr} {cd ct : Value} {osl : Array (Option Value)}
    {nm qn : Str} {N : Addr} {bs bm : List Value} {sn : List Str} {sub : List Value} {ab : Bool} {col : Option Bool} {dd : Option Addr} {k0 k1 k2 k3 k5 : Option Value}
    (a : PySem.W.nsIn K mainGlobals x = some (some (.ref C))) (hC : K.lookup C = some (excClassObj nm qn C N bs bm true sn sub ab col dd k0 k1 k2 k3 k5 "ValueError.__new__")) (hbm : PySem.HandSPX.refsVE bm = true)
    (sa : PySem.W.findIn K (.ref C) "__setattr__" = some (some (.builtin "object.__setattr__"))) (exC : PySem.W.subIn K (.ref C) (.type "BaseException") = some true) (tyC : PySem.W.typeIn K (.ref C) = some (.type "type")) (kC : PySem.W.keepIn K (.ref C) = true) (xf : xfB K C = true)
    (ii : PySem.W.findIn K (.ref C) "__init__" = some (some (.ref fI))) (ti : PySem.W.typeIn K (.ref fI) = some (.type "function")) (l : K.lookup fI = some ⟨oc, od, .func (PySem.W.fnOf "__init__" q (defArgs st) (defBody st) (defScope st) .none kV doc pm an cd ct), osl⟩)
    (c : PySem.W.codeIn K cd q = true) (kf : PySem.W.keepIn K (.ref fI) = true) (no : (fl.all fun f => decide (PySem.W.findIn K (.ref C) f = some none)) = true) : OwF K x q st fl :=
  ⟨C, fI, oc, od, kV, doc, pm, an, cd, ct, osl, a, ⟨⟨nm, qn, N, bs, bm, sn, sub, ab, col, dd, k0, k1, k2, k3, k5, by first | exact hC | skip, hbm⟩, sa, exC, tyC, kC⟩, xfB_ok xf, ii, ti, l, c, kf, no⟩
theorem kb1 {K : PySem.W.Frag} {fd : FuncData} {p q : Str} (h : ∀ a b : Value, bindArgs fd ⟨[a], [(q, b)]⟩ = pure [(p, a), (q, b)]) : KBinds K fd [p, q] [q] g1 gV1 where
  to := fun s us ws _ hl => by
    match us, ws, hl with
    | [a], [b], _ => exact .of_eq (h a b)
  rel := fun {vs us zs ws} r q => by
    cases r with
    | nil => exact .nil
    | cons r1 r =>
      cases r with
      | nil =>
        cases q with
        | nil => exact .nil
        | cons r2 q =>
          cases q with
          | nil => exact .cons r1 (.cons r2 .nil)
          | cons _ _ => exact .nil
      | cons _ _ => exact .nil
theorem kb2 {K : PySem.W.Frag} {fd : FuncData} {p q1 q2 : Str} (h : ∀ a b c : Value, bindArgs fd ⟨[a], [(q2, b), (q1, c)]⟩ = pure [(p, a), (q1, c), (q2, b)]) : KBinds K fd [p, q1, q2] [q2, q1] g2 gV2 where
  to := fun s us ws _ hl => by
    match us, ws, hl with
    | [a], [b, c], _ => exact .of_eq (h a b c)
  rel := fun {vs us zs ws} r q => by
    cases r with
    | nil => exact .nil
    | cons r1 r =>
      cases r with
      | nil =>
        cases q with
        | nil => exact .nil
        | cons r2 q =>
          cases q with
          | nil => exact .nil
          | cons r3 q =>
            cases q with
            | nil => exact .cons r1 (.cons r3 (.cons r2 .nil))
            | cons _ _ => exact .nil
      | cons _ _ => exact .nil
theorem law_call {P : Program} {w : World} {K : PySem.W.Frag} {h : Heap} {mg : Str → Option Value} {fa PE0 fL : Addr} (X : K.In h) (G : h.Ns mainGlobals mg) (hfa : mg "law" = some (.ref fa)) (fx : Facts K PE0)
    (d74 : DefAt K "_law_begun" (top 74))    (d75 : DefAt K "_law_blended" (top 75))    (d76 : DefAt K "_law_draw" (top 76))    (d77 : DefAt K "_law_pick" (top 77))    (d78 : DefAt K "_law_er_made" (top 78))    (d79 : DefAt K "_law_er_kinds" (top 79))    (d80 : DefAt K "_law_er_named" (top 80))    (d81 : DefAt K "_law_er_placed" (top 81))
    (o49 : OwF K "BadText" "BadText.__init__" (iniS 49) ["line"])    (o64 : OwF K "MoreLie" "MoreLie.__init__" (iniS 64) ["liars"])    (o69 : OwF K "NotSettling" "NotSettling.__init__" (iniS 69) ["most"])    (o70 : OwF K "Poor" "Poor.__init__" (iniS 70) ["has"])    (o71 : OwF K "StillHeld" "StillHeld.__init__" (iniS 71) ["holder"])    (o59 : OwF K "Clash" "Clash.__init__" (iniS 59) ["one", "other"])
    {oc kV doc pm cv ct : Value} {od an : Option Addr} {osl : Array (Option Value)} (aL : PySem.W.nsIn K mainGlobals "law" = some (some (.ref fL))) (lL : K.lookup fL = some ⟨oc, od, .func (PySem.W.fnOf "law" "law" (defArgs sLaw) (defBody sLaw) (defScope sLaw) .none kV doc pm an cv ct), osl⟩) (cL : PySem.W.codeIn K cv "law" = true)
    (z_isinstance : PySem.W.nsIn K mainGlobals "isinstance" = some none) (z_range : PySem.W.nsIn K mainGlobals "range" = some none) (z_min : PySem.W.nsIn K mainGlobals "min" = some none) (z_len : PySem.W.nsIn K mainGlobals "len" = some none) (z_tuple : PySem.W.nsIn K mainGlobals "tuple" = some none) (z_str : PySem.W.nsIn K mainGlobals "str" = some none) (z_enumerate : PySem.W.nsIn K mainGlobals "enumerate" = some none) (z_repr : PySem.W.nsIn K mainGlobals "repr" = some none) (z_ValueError : PySem.W.nsIn K mainGlobals "ValueError" = some none) (z_int : PySem.W.nsIn K mainGlobals "int" = some none) (z_abs : PySem.W.nsIn K mainGlobals "abs" = some none)
    {s₁ : Shared} {base : Heap} {H : Hp} {a : Addr} {ns : List Int} (e0 : Env0 P w K mg base callerA [] s₁ H) (hS : SqL K H a (ns.map V.int)) (hlen : ns.length ≤ 63) :
    codeAny (model P w) callerA (.call (.ref fa) ⟨[.ref a], []⟩) (CR L2.CX0 [] P w H s₁ (fun v _ => v = .bl true) fun _ _ _ => False) s₁ := by
  have e := hfa.symm.trans (PySem.W.mg_of X G aL)
  cases e
  have no : ∀ {x : Str}, PySem.W.nsIn K mainGlobals x = some none → mg x = none := fun z => PySem.W.mg_none_of X G z
  obtain ⟨f74, fd74, F74, k74, m74⟩ := d74.get X G
  have b74 := F74.binds (ps := ["script"]) fun _ _ _ _ _ _ us hl => match us, hl with | [_], _ => rfl
  obtain ⟨f75, fd75, F75, k75, m75⟩ := d75.get X G
  have b75 := F75.binds (ps := ["state"]) fun _ _ _ _ _ _ us hl => match us, hl with | [_], _ => rfl
  obtain ⟨f76, fd76, F76, k76, m76⟩ := d76.get X G
  have b76 := F76.binds (ps := ["state", "size_here"]) fun _ _ _ _ _ _ us hl => match us, hl with | [_, _], _ => rfl
  obtain ⟨f77, fd77, F77, k77, m77⟩ := d77.get X G
  have b77 := F77.binds (ps := ["state", "several"]) fun _ _ _ _ _ _ us hl => match us, hl with | [_, _], _ => rfl
  obtain ⟨f78, fd78, F78, k78, m78⟩ := d78.get X G
  have b78 := F78.binds (ps := ["text", "line", "one", "other", "thing"]) fun _ _ _ _ _ _ us hl => match us, hl with | [_, _, _, _, _], _ => rfl
  obtain ⟨f79, fd79, F79, k79, m79⟩ := d79.get X G
  have b79 := F79.binds (ps := ["error"]) fun _ _ _ _ _ _ us hl => match us, hl with | [_], _ => rfl
  obtain ⟨f80, fd80, F80, k80, m80⟩ := d80.get X G
  have b80 := F80.binds (ps := ["line", "one", "other", "thing"]) fun _ _ _ _ _ _ us hl => match us, hl with | [_, _, _, _], _ => rfl
  obtain ⟨f81, fd81, F81, k81, m81⟩ := d81.get X G
  have b81 := F81.binds (ps := ["line", "one", "other", "thing"]) fun _ _ _ _ _ _ us hl => match us, hl with | [_, _, _, _], _ => rfl
  obtain ⟨C49, i49, p491, p492, p493, p494, p495, p496, p497, p498, p499, a49, ox49, xf49, in49, ti49, li49, ci49, ki49, no49⟩ := o49
  have ec49 := cf_of a49
  subst ec49
  have Fi49 := fun_mk (st := iniS 49) li49 ci49 ki49
  have bi49 := Fi49.binds (ps := ["self", "line"]) fun _ _ _ _ _ _ us hl => match us, hl with | [_, _], _ => rfl
  have n49 : PySem.W.findIn K (.ref (cf K "BadText")) "line" = some none := of_decide_eq_true (List.all_eq_true.mp no49 "line" List.mem_cons_self)
  obtain ⟨C64, i64, p641, p642, p643, p644, p645, p646, p647, p648, p649, a64, ox64, xf64, in64, ti64, li64, ci64, ki64, no64⟩ := o64
  have ec64 := cf_of a64
  subst ec64
  have Fi64 := fun_mk (st := iniS 64) li64 ci64 ki64
  have bi64 := Fi64.binds (ps := ["self", "liars"]) fun _ _ _ _ _ _ us hl => match us, hl with | [_, _], _ => rfl
  have n64 : PySem.W.findIn K (.ref (cf K "MoreLie")) "liars" = some none := of_decide_eq_true (List.all_eq_true.mp no64 "liars" List.mem_cons_self)
  obtain ⟨C69, i69, p691, p692, p693, p694, p695, p696, p697, p698, p699, a69, ox69, xf69, in69, ti69, li69, ci69, ki69, no69⟩ := o69
  have ec69 := cf_of a69
  subst ec69
  have Fi69 := fun_mk (st := iniS 69) li69 ci69 ki69
  have bi69 := Fi69.binds (ps := ["self", "most"]) fun _ _ _ _ _ _ us hl => match us, hl with | [_, _], _ => rfl
  have n69 : PySem.W.findIn K (.ref (cf K "NotSettling")) "most" = some none := of_decide_eq_true (List.all_eq_true.mp no69 "most" List.mem_cons_self)
  obtain ⟨C70, i70, p701, p702, p703, p704, p705, p706, p707, p708, p709, a70, ox70, xf70, in70, ti70, li70, ci70, ki70, no70⟩ := o70
  have ec70 := cf_of a70
  subst ec70
  have Fi70 := fun_mk (st := iniS 70) li70 ci70 ki70
  have bi70 := Fi70.binds (ps := ["self", "has"]) fun _ _ _ _ _ _ us hl => match us, hl with | [_, _], _ => rfl
  have n70 : PySem.W.findIn K (.ref (cf K "Poor")) "has" = some none := of_decide_eq_true (List.all_eq_true.mp no70 "has" List.mem_cons_self)
  obtain ⟨C71, i71, p711, p712, p713, p714, p715, p716, p717, p718, p719, a71, ox71, xf71, in71, ti71, li71, ci71, ki71, no71⟩ := o71
  have ec71 := cf_of a71
  subst ec71
  have Fi71 := fun_mk (st := iniS 71) li71 ci71 ki71
  have bi71 := Fi71.binds (ps := ["self", "holder"]) fun _ _ _ _ _ _ us hl => match us, hl with | [_, _], _ => rfl
  have n71 : PySem.W.findIn K (.ref (cf K "StillHeld")) "holder" = some none := of_decide_eq_true (List.all_eq_true.mp no71 "holder" List.mem_cons_self)
  obtain ⟨C59, i59, p591, p592, p593, p594, p595, p596, p597, p598, p599, a59, ox59, xf59, in59, ti59, li59, ci59, ki59, no59⟩ := o59
  have ec59 := cf_of a59
  subst ec59
  have Fi59 := fun_mk (st := iniS 59) li59 ci59 ki59
  have bi59 := Fi59.binds (ps := ["self", "one", "other"]) fun _ _ _ _ _ _ us hl => match us, hl with | [_, _, _], _ => rfl
  have n59a : PySem.W.findIn K (.ref (cf K "Clash")) "one" = some none := of_decide_eq_true (List.all_eq_true.mp no59 "one" List.mem_cons_self)
  have n59b : PySem.W.findIn K (.ref (cf K "Clash")) "other" = some none := of_decide_eq_true (List.all_eq_true.mp no59 "other" (List.mem_cons_of_mem _ List.mem_cons_self))
  have six : Six P w K mg base (cf K) := ⟨⟨ox49, PySem.W.mg_of X G a49, ⟨i49, _, in49, ti49, ok_BadText Fi49 ox49 n49, bi49, kb1 fun _ _ => rfl⟩, xf49⟩, n49,
    ⟨ox64, PySem.W.mg_of X G a64, ⟨i64, _, in64, ti64, ok_MoreLie Fi64 ox64 n64, bi64, kb1 fun _ _ => rfl⟩, xf64⟩, n64,
    ⟨ox69, PySem.W.mg_of X G a69, ⟨i69, _, in69, ti69, ok_NotSettling Fi69 ox69 n69, bi69, kb1 fun _ _ => rfl⟩, xf69⟩, n69,
    ⟨ox70, PySem.W.mg_of X G a70, ⟨i70, _, in70, ti70, ok_Poor Fi70 ox70 n70, bi70, kb1 fun _ _ => rfl⟩, xf70⟩, n70,
    ⟨ox71, PySem.W.mg_of X G a71, ⟨i71, _, in71, ti71, ok_StillHeld Fi71 ox71 n71, bi71, kb1 fun _ _ => rfl⟩, xf71⟩, n71,
    ⟨ox59, PySem.W.mg_of X G a59, ⟨i59, _, in59, ti59, ok_Clash Fi59 ox59 n59a n59b, bi59, kb2 fun _ _ _ => rfl⟩, xf59⟩, n59a, n59b⟩
  have G75 := ok_blend (P := P) (w := w) (base := base) F75 (no z_int)
  have G76 := ok_draw F76 (no z_int) G75 b75 k75 m75
  have G77 := ok_pick F77 (no z_len) G76 b76 k76 m76
  have G74 := ok_begun (P := P) (w := w) (base := base) F74 (no z_abs)
  have G78 := ok_made F78 six (fx.made X G)
  have G79 := ok_kinds (P := P) (w := w) (base := base) (mg := mg) (Cf := cf K) F79 (no z_isinstance)
  have G80 := ok_named F80 six
  have G81 := ok_placed F81 six
  have W : Lw P w K mg base (cf K) PE0 := ⟨⟨_, _, G74, b74, k74, m74⟩, ⟨_, _, G76, b76, k76, m76⟩, ⟨_, _, G77, b77, k77, m77⟩, ⟨_, _, G78, b78, k78, m78⟩, ⟨_, _, G79, b79, k79, m79⟩, ⟨_, _, G80, b80, k80, m80⟩, ⟨_, _, G81, b81, k81, m81⟩, fx.wk X G,
    no z_isinstance, no z_range, no z_min, no z_len, no z_tuple, no z_str, no z_enumerate, no z_repr, no z_ValueError⟩
  exact LamX.run_ofS (k := 3) (N := nL) (ps := ["script"]) lL cL scL ⟨rfl, by decide, by decide⟩ e0 (.of_eq rfl) (Paired.cons (show RelV (.ref a) (.ref a) from rfl) .nil) rfl fun r => by
    obtain ⟨t, h, q⟩ := law_body (Q := fun v _ => v = V.bl true) (E := fun _ _ _ => False) W r rfl hS hlen (fun _ => rfl)
    exact ⟨t, h.nox, q⟩
theorem walk8 {l : PySem.W.OpenLaw} {q : Program} {loose : List Str} {XP : (Str → Option Value) → Heap → Prop} {YP : World → Heap → Prop} {d : DefRec} {K : Params → PySem.W.Frag} (hn : l.most = some 63) (hdf : d.params.defaults = [])
    (hY : ∀ (w : World) (h : Heap), YP w h → (K w.params).In h)
    (F : ∀ (w : World) (mg : Str → Option Value) (fa : Addr) (h : Heap), (K w.params).In h → h.Ns mainGlobals mg → mg d.name = some (.ref fa) →
      ∀ {s₁ : Shared} {base : Heap} {H : Hp} {a : Addr} {ns : List Int}, Env0 l.prog w (K w.params) mg base callerA [] s₁ H → SqL (K w.params) H a (ns.map V.int) → ns.length ≤ 63 →
        codeAny (model l.prog w) callerA (.call (.ref fa) ⟨[.ref a], []⟩) (CR L2.CX0 [] l.prog w H s₁ (fun v _ => v = .bl true) fun _ _ _ => False) s₁) :
    PySem.W.WalkO q loose XP YP l.row.toRowW d [] (fun f vs => PySem.call f vs) := by
  refine Att.attach_call hn hdf fun w s₀ s₁ mg mb fa o pm cd doc a vs ns G Y ho hd hcd hmg hobj hints hlen hg => ?_
  have KX := hY w _ Y
  exact call_here KX G.T.g G.T.b G.T.builtins G.T.nolimit hg hobj hints (Nat.le_trans hlen (by decide)) fun base H e0 seq => F w mg fa _ KX G.T.g hmg e0 seq hlen
end Pu

namespace Pu
open PySem L2 LamX
/-! ### the facts as one Bool over what the top has left -/
theorem oexB_ok {K : PySem.W.Frag} {D : Addr} (h : oexB K D = true) : ∃ nm q N bs bm sn sub ab col dd k0 k1 k2 k3 k5, K.lookup D = some (excClassObj nm q D N bs bm true sn sub ab col dd k0 k1 k2 k3 k5 "ValueError.__new__") ∧ PySem.HandSPX.refsVE bm = true := by
  unfold oexB at h
  split at h
  · rename_i dd k slots hl
    split at h
    · rename_i D' tl k0 k1 k2 k3 nw k5 em es
      simp only [Bool.and_eq_true, beq_iff_eq, Bool.not_eq_true'] at h
      obtain ⟨rfl, rfl, h1, h2, h3⟩ := h
      obtain ⟨nm, bs, mro, ns, qn, hd, sn, sub, ab, col, del⟩ := k
      dsimp only at em h1 h2
      subst em h1 h2
      obtain ⟨l⟩ := slots
      dsimp only at es
      subst es
      exact ⟨nm, qn, ns, bs, tl, sn, sub, ab, col, dd, k0, k1, k2, k3, k5, hl, h3⟩
    · cases h
  · cases h
theorem cls_ty {K : PySem.W.Frag} {D : Addr} {m : List Value} (h : clsB K m D = true) : PySem.W.typeIn K (.ref D) = some (.type "type") := by
  unfold clsB at h
  rw [Bool.and_eq_true] at h
  exact of_decide_eq_true h.2
theorem owF_of {K : PySem.W.Frag} {x q : Str} {st : Stmt} {fl : List Str} {PE0 : Addr} {fd : FuncData} (h1 : oneB K PE0 x = true) (h : sixB K x fl = true) (F : FunD K "__init__" q (defArgs st) (defBody st) (defScope st) [] [] (iniA K x) fd) : OwF K x q st fl := by
  unfold oneB at h1
  unfold sixB at h
  simp only [Bool.and_eq_true, decide_eq_true_eq] at h1 h
  obtain ⟨a, c, _⟩ := h1
  obtain ⟨h2, h3, h4, h5, h6, h7, h8, h9⟩ := h
  obtain ⟨oc, od, dV, kV, doc, pm, an, cdv, ct, osl, rfl, lk, ci, dv, _⟩ := F.ex
  rcases dv with ⟨_, rfl⟩ | ⟨ne, _⟩
  · exact ⟨cf K x, iniA K x, oc, od, kV, doc, pm, an, cdv, ct, osl, isR_of a, ⟨oexB_ok h2, h3, h4, cls_ty c, h5⟩, xfB_ok h6, h8, h9, lk, ci, F.kp, h7⟩
  · exact absurd rfl ne
theorem defAt_of {K : PySem.W.Frag} {x : Str} {st : Stmt} {fd : FuncData} (a : (He.Fa.glo x).ok K = true) (F : FunD K x x (defArgs st) (defBody st) (defScope st) [] [] (He.ga K x) fd) : DefAt K x st := by
  obtain ⟨oc, od, dV, kV, doc, pm, an, cdv, ct, osl, rfl, lk, ci, dv, _⟩ := F.ex
  rcases dv with ⟨_, rfl⟩ | ⟨ne, _⟩
  · exact ⟨He.ga K x, oc, od, kV, doc, pm, an, cdv, ct, osl, He.eqO_ok a, lk, ci, F.kp⟩
  · exact absurd rfl ne
/-! ### the Hook: defs, facts, the Bool -/
def obs8 (g : Addr → Option Obj) : (He.AlD × Bool) × Bool := ((He.obsD faL fnL (fr8 g), ex1 (fr8 g)), ex2 (fr8 g))
def hook8 : PySem.W.Hook where
  α := (He.AlD × Bool) × Bool
  obs := fun s => obs8 s.heap.get?
  val := fun _ => ((He.valD fnL, true), true)
  says := fun _ h => ∃ K : PySem.W.Frag, K.In h ∧ He.SaysD faL fnL K ∧ ex1 K = true ∧ ex2 K = true
  of := fun _ _ e => ⟨_, He.frG_in, congrArg (fun z : (He.AlD × Bool) × Bool => z.1.1) e, congrArg (fun z : (He.AlD × Bool) × Bool => z.1.2) e, congrArg (fun z : (He.AlD × Bool) × Bool => z.2) e⟩
  keeps := fun _ _ _ ⟨K, hK, c⟩ k => ⟨K, PySem.W.Frag.In.keeps hK k, c⟩
def ob8 (s : PySem.W.SharedT) : (He.AlD × Bool) × Bool := obs8 (HandSHeadRun.getT s)
theorem ob8_eq (s : PySem.W.SharedT) : ob8 s = hook8.obs s.abs := by
  have e : HandSHeadRun.getT s = s.abs.heap.get? := funext (HandSHeadRun.getT_eq s)
  show obs8 (HandSHeadRun.getT s) = obs8 s.abs.heap.get?
  rw [e]
theorem join4 {α β γ δ ε : Type} {z : Option α} {f : α → Bool × β} {g : α → γ} {h : α → δ} {k : α → ε} {b : β} {c : γ} {d : δ} {e : ε} (a1 : z.map f = some (true, b)) (a2 : z.map g = some c) (a3 : z.map h = some d) (a4 : z.map k = some e) :
    z.map (fun s => ((f s).1, (f s).2, ((g s, h s), k s))) = some (true, b, ((c, d), e)) := by
  cases z with
  | none => cases a1
  | some y =>
    have e1 : f y = (true, b) := Option.some.inj a1
    have e2 : g y = c := Option.some.inj a2
    have e3 : h y = d := Option.some.inj a3
    have e4 : k y = e := Option.some.inj a4
    simp only [Option.map_some, e1, e2, e3, e4]
theorem run8 (w : World) : HandSHeadRun.RunEq R8 q8 hook8 ob8 16400 loose8 w := fun os => join4 (runA w os) (runB w os) (runB2 w os) (runC w os)
theorem all8 {P : Program} {w : World} {K : PySem.W.Frag} {h : Heap} {mg : Str → Option Value} {fa : Addr} (X : K.In h) (G : h.Ns mainGlobals mg) (hfa : mg "law" = some (.ref fa)) (c : He.SaysD faL fnL K) (m1x : ex1 K = true) (m2x : ex2 K = true)
    {s₁ : Shared} {base : Heap} {H : Hp} {a : Addr} {ns : List Int} (e0 : Env0 P w K mg base callerA [] s₁ H) (hS : SqL K H a (ns.map V.int)) (hlen : ns.length ≤ 63) :
    codeAny (model P w) callerA (.call (.ref fa) ⟨[.ref a], []⟩) (CR L2.CX0 [] P w H s₁ (fun v _ => v = .bl true) fun _ _ _ => False) s₁ := by
  unfold ex1 at m1x
  unfold ex2 at m2x
  simp only [Bool.and_eq_true] at m1x m2x
  obtain ⟨m1, m2⟩ := m1x
  obtain ⟨m3, m4, m5, m6, m7, m8, s49, s64, s69, s70, s71, s59⟩ := m2x
  have fx : Facts K (cf K "PurseError") := ⟨m2, m3, m4, isR_of m1, m5, m6, m7, m8⟩
  have one := List.all_eq_true.mp m2
  obtain ⟨fd74, F74⟩ := c.def_ 0 (d := dfG "_law_begun" (top 74)) rfl
  have d74 := defAt_of (st := top 74) (c.fact 0 (f := .glo "_law_begun") rfl) F74
  obtain ⟨fd75, F75⟩ := c.def_ 1 (d := dfG "_law_blended" (top 75)) rfl
  have d75 := defAt_of (st := top 75) (c.fact 1 (f := .glo "_law_blended") rfl) F75
  obtain ⟨fd76, F76⟩ := c.def_ 2 (d := dfG "_law_draw" (top 76)) rfl
  have d76 := defAt_of (st := top 76) (c.fact 2 (f := .glo "_law_draw") rfl) F76
  obtain ⟨fd77, F77⟩ := c.def_ 3 (d := dfG "_law_pick" (top 77)) rfl
  have d77 := defAt_of (st := top 77) (c.fact 3 (f := .glo "_law_pick") rfl) F77
  obtain ⟨fd78, F78⟩ := c.def_ 4 (d := dfG "_law_er_made" (top 78)) rfl
  have d78 := defAt_of (st := top 78) (c.fact 4 (f := .glo "_law_er_made") rfl) F78
  obtain ⟨fd79, F79⟩ := c.def_ 5 (d := dfG "_law_er_kinds" (top 79)) rfl
  have d79 := defAt_of (st := top 79) (c.fact 5 (f := .glo "_law_er_kinds") rfl) F79
  obtain ⟨fd80, F80⟩ := c.def_ 6 (d := dfG "_law_er_named" (top 80)) rfl
  have d80 := defAt_of (st := top 80) (c.fact 6 (f := .glo "_law_er_named") rfl) F80
  obtain ⟨fd81, F81⟩ := c.def_ 7 (d := dfG "_law_er_placed" (top 81)) rfl
  have d81 := defAt_of (st := top 81) (c.fact 7 (f := .glo "_law_er_placed") rfl) F81
  obtain ⟨fdL, FL⟩ := c.def_ 8 (d := dfG "law" sLaw) rfl
  have dL := defAt_of (st := sLaw) (c.fact 8 (f := .glo "law") rfl) FL
  obtain ⟨fL, oc, od, kV, doc, pm, an, cd, ct, osl, aL, lL, cL, kL⟩ := dL
  obtain ⟨fi49, Fi49⟩ := c.def_ 9 (d := dfI "BadText" "BadText.__init__" (iniS 49)) rfl
  have o49 := owF_of (x := "BadText") (q := "BadText.__init__") (st := iniS 49) (fl := ["line"]) (one "BadText" (List.mem_of_getElem? (i := 65) rfl)) s49 Fi49
  obtain ⟨fi64, Fi64⟩ := c.def_ 10 (d := dfI "MoreLie" "MoreLie.__init__" (iniS 64)) rfl
  have o64 := owF_of (x := "MoreLie") (q := "MoreLie.__init__") (st := iniS 64) (fl := ["liars"]) (one "MoreLie" (List.mem_of_getElem? (i := 67) rfl)) s64 Fi64
  obtain ⟨fi69, Fi69⟩ := c.def_ 11 (d := dfI "NotSettling" "NotSettling.__init__" (iniS 69)) rfl
  have o69 := owF_of (x := "NotSettling") (q := "NotSettling.__init__") (st := iniS 69) (fl := ["most"]) (one "NotSettling" (List.mem_of_getElem? (i := 68) rfl)) s69 Fi69
  obtain ⟨fi70, Fi70⟩ := c.def_ 12 (d := dfI "Poor" "Poor.__init__" (iniS 70)) rfl
  have o70 := owF_of (x := "Poor") (q := "Poor.__init__") (st := iniS 70) (fl := ["has"]) (one "Poor" (List.mem_of_getElem? (i := 69) rfl)) s70 Fi70
  obtain ⟨fi71, Fi71⟩ := c.def_ 13 (d := dfI "StillHeld" "StillHeld.__init__" (iniS 71)) rfl
  have o71 := owF_of (x := "StillHeld") (q := "StillHeld.__init__") (st := iniS 71) (fl := ["holder"]) (one "StillHeld" (List.mem_of_getElem? (i := 70) rfl)) s71 Fi71
  obtain ⟨fi59, Fi59⟩ := c.def_ 14 (d := dfI "Clash" "Clash.__init__" (iniS 59)) rfl
  have o59 := owF_of (x := "Clash") (q := "Clash.__init__") (st := iniS 59) (fl := ["one", "other"]) (one "Clash" (List.mem_of_getElem? (i := 66) rfl)) s59 Fi59
  exact law_call X G hfa fx d74 d75 d76 d77 d78 d79 d80 d81 o49 o64 o69 o70 o71 o59 aL lL cL (He.eqO_ok (c.fact 9 (f := .free "isinstance") rfl)) (He.eqO_ok (c.fact 10 (f := .free "range") rfl)) (He.eqO_ok (c.fact 11 (f := .free "min") rfl)) (He.eqO_ok (c.fact 12 (f := .free "len") rfl)) (He.eqO_ok (c.fact 13 (f := .free "tuple") rfl)) (He.eqO_ok (c.fact 14 (f := .free "str") rfl)) (He.eqO_ok (c.fact 15 (f := .free "enumerate") rfl)) (He.eqO_ok (c.fact 16 (f := .free "repr") rfl)) (He.eqO_ok (c.fact 17 (f := .free "ValueError") rfl)) (He.eqO_ok (c.fact 18 (f := .free "int") rfl)) (He.eqO_ok (c.fact 19 (f := .free "abs") rfl)) e0 hS hlen
end Pu

namespace Pu
open PySem PySem.W PySem.Calls PyProof.Rows
theorem t1 : opening R8.prog = plainProg R8.prog.main.scope.names := by kernel_rfl
theorem t2 : ∀ s, fenceModules? R8.prog s = some s := fun s => by kernel_rfl
theorem t3 : defOf q8 R8.name = some (d8, []) := by kernel_rfl
theorem t4 : R8.prog.theDef R8.name = some (d8.params, d8.body, d8.scope) := by kernel_rfl
theorem t4b : kwWritten? d8.params.kwonlyargs d8.params.kw_defaults = some [] := by kernel_rfl
theorem t4c : (!R8.writes || R8.records.isEmpty) = true := by kernel_rfl
theorem t4d : d8.params.defaults = [] := by kernel_rfl
theorem t4e : d8.name = ("law" : PySem.Str) := by kernel_rfl
theorem t5 : R8.wellSaid = true := by decide +kernel
theorem t6 : (chainsOk q8 && opensWell R8.prog && (frees R8.toRowW && R8.within.isEmpty)) = true := by decide +kernel
theorem t7 : R8.prog.bare := ⟨rfl, rfl, rfl, rfl, rfl, by decide +kernel⟩
theorem t8 : R8.toRowW.promised := by w_witness2
end Pu

namespace Pu
open PySem PySem.W PySem.Calls PyProof.Rows
theorem call8 : WalkO q8 loose8 (XL q8 []) hook8.says R8.toRowW d8 [] (fun f vs => PySem.call f vs) := by
  refine Att.attach_call (l := PySem.Challenge.rw_pursesapart_k08_errors_and_what_they_tel) (n := 63) rfl t4d fun w s₀ s₁ mg mb fa o pm cd doc a vs ns G Y ho hd hcd hmg hobj hints hlen hg => ?_
  obtain ⟨K, KX, c, m1, m2⟩ := Y
  have hm2 : mg ("law" : PySem.Str) = some (.ref fa) := by
    rw [← t4e]
    exact hmg
  exact call_here KX G.T.g G.T.b G.T.builtins G.T.nolimit hg hobj hints (Nat.le_trans hlen (by decide)) fun base H e0 seq => all8 KX G.T.g hm2 c m1 m2 e0 seq hlen
end Pu

namespace Pu
open PySem PySem.W PySem.Calls PyProof.Rows
theorem holds8 : R8.Holds := HandSHeadRun.head_any (r := R8) (q := q8) (H := hook8) (ob := ob8) (M := 16400) (loose := loose8) (d := d8) (kwd := []) ob8_eq t1 t2 run8 t3 t4 t4b t4c t5 t6 t7 t8 call8
end Pu

open PySem PySem.W PySem.Calls PyProof.Rows
set_option maxRecDepth 100000 in
set_option maxHeartbeats 0 in
theorem PySem.Challenge.cw_pursesapart_k08_errors_and_what_they_tel_holds : PySem.Challenge.rw_pursesapart_k08_errors_and_what_they_tel.Holds := by
  w_on; o_law
  exact Pu.holds8
