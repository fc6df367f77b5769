import PyProof.Rows.All
import Wide.All
import OpenK.AllK
import Wide.FinOn
import HandS.ExcInit
import HandS.Nested
import KE.KExcSuper
import HandS.ExcIs
import HandS.ExcField
import HandS.Words
import HandS.HeadEnd
import HandS.HeadHook4
import HandS.HeadWalk
import HandS.Head2
import HandS.ForMost
import HandS.AnyAll
import HandS.GenList
import KE.DataEq
import HandS.Wide
import HandS.DictComp
import HandS.IsInst
import HandS.Flow
import HandS.Style
import HandS.FStr
import HandS.FStrTup
import PyProof.ReprLen
import HandS.ExcCtx
import HandS.Lambda
import HandS.HotCalls
import KE.KExcIs
import HandS.Comp
import HandS.Walk
import HandS.HeadHook1
import HandS.ExcInitHot
import HandS.SetTxt0
import HandS.SetBool
import HandS.Set
import HandS.SetFor
import HandS.More
import HandS.List
import HandS.Strs
import HandS.WordsDict
import HandS.Small
import PyProof.Rows.StrMeet
import HandS.TupLe
import PySem.Challenge.RW_countworks_k02_whole_fair_books
set_option Elab.async false
set_option linter.all false
set_option maxRecDepth 100000
set_option maxHeartbeats 0
/-! the row's statements; the program's exceptions, as the head tells of them -/
namespace Lw
open L2 PySem PySem.Spec PyProof.Rows
def topS (i : Nat) : Stmt := PySem.Challenge.pw_countworks_k02_whole_fair_books.main.body.getD i (.Pass ⟨0, 0, 0, 0⟩)
/-- the classes' names, in the law's order -/
def nms : List Str := ["BadBook", "NoStep", "NoRule", "BadMaking", "BadNumber", "BadThing", "BadTape", "Ended", "BadSeries", "NotPlain", "BadWord", "BadParts", "Full", "Nothing", "BadText"]
def nm (j : Nat) : Str := nms.getD j ""
def ea (K : PySem.W.Frag) (j : Nat) : Addr := He.ga K (nm j)
/-- the fields of the first three -/
def fld (j : Nat) : Str := (["wrong", "spot", "lacks"] : List Str).getD j ""
/-- what the written part says of them -/
structure Errs (K : PySem.W.Frag) (mg : Str → Option Value) : Prop where
  g : ∀ j, j < 15 → mg (nm j) = some (.ref (ea K j))
  kit : ∀ i j, i < 15 → j < 15 → PySem.W.kitOne K (.ref (ea K i)) (.ref (ea K j)) = some (decide (i = j))
  ve : ∀ i, i < 15 → PySem.W.kitOne K (.ref (ea K i)) (.type "ValueError") = some true
  exc : ∀ i, i < 15 → ExcC K (ea K i)
  exm : ∀ i j, i < 15 → j < 3 → PySem.W.exmOne K (.ref (ea K i)) (.ref (ea K j)) = some (decide (i = j))
  ce : ∀ i, i < 15 → PySem.W.exmOne K (.ref (ea K i)) (.ref (He.ga K "CountError")) = some true
  gce : mg "CountError" = some (.ref (He.ga K "CountError"))
  xf : ∀ j, j < 3 → XfC K (ea K j)
  nof : ∀ j, j < 3 → PySem.W.findIn K (.ref (ea K j)) (fld j) = some none
def dd (x : Str) (st : Stmt) : He.DefD := ⟨(x, none), x, x, defArgs st, defBody st, defScope st, [], []⟩
end Lw
/-! the head's facts: the program's exceptions, BadBook's __init__; the statics' table told too -/
namespace Lw
open L2 PySem PySem.Spec PyProof.Rows
def inClass : Stmt → List Stmt
  | .ClassDef _ _ _ body .. => body
  | _ => []
/-- BadBook's __init__ -/
def sIni : Stmt := (inClass (topS 3)).getD 0 (.Pass ⟨0, 0, 0, 0⟩)
def cBad (K : PySem.W.Frag) : Addr := ea K 0
def fIni (K : PySem.W.Frag) : Addr := He.ma K (cBad K) "__init__"
abbrev IniV : Type := Option (Str × Str × Arguments × FuncBody × Scope × Addr × List Str × Addr)
def iniObs (K : PySem.W.Frag) : IniV := match K.lookup (fIni K) with
  | some ⟨_, _, .func fd, _⟩ => some (fd.name, fd.qualname, fd.params, fd.body, fd.scope, fd.globals, fd.closure.map (·.1), fd.builtins)
  | _ => none
def iniVal : IniV := some ("__init__", "BadBook.__init__", defArgs sIni, .stmts (defBody sIni), defScope sIni, mainGlobals, ["__class__"], builtinsNs)
def noneB : Value → Bool
  | .none => true
  | _ => false
theorem noneB_ok {v : Value} (h : noneB v = true) : v = .none := by
  cases v <;> first | rfl | cases h
def fileB (K : PySem.W.Frag) (f : Str) (c : Addr) : Bool := match K.lookup c with
  | some ⟨_, _, .fields vs, _⟩ => (match (vs[2]? : Option Value) with
    | some (.str y _) => f == y
    | _ => false)
  | _ => false
def cellB (K : PySem.W.Frag) (C : Addr) (cl : List (Str × Addr)) : Bool := match cl with
  | [(_, cc)] => (match K.lookup cc with
    | some ⟨_, _, .cell (some (.ref D)), _⟩ => decide (D = C)
    | _ => false)
  | _ => false
def codeB (K : PySem.W.Frag) (f : Str) (v : Value) : Bool := match v with
  | .ref c => PySem.W.codeIn K (.ref c) "BadBook.__init__" && fileB K f c
  | _ => false
def iniB (f : Str) (K : PySem.W.Frag) : Bool := match K.lookup (fIni K) with
  | some ⟨_, _, .func fd, _⟩ => noneB fd.defaults && (noneB fd.kwdefaults && (fd.annotations.isNone && (codeB K f fd.code && cellB K (cBad K) fd.closure)))
  | _ => false
abbrev nfIni (cc c : Addr) : NdefX.NF := ⟨"__init__", "BadBook.__init__", defArgs sIni, defBody sIni, defScope sIni, [(("__class__" : Str), cc)], c⟩
section
variable {K : PySem.W.Frag} {f : Str}
theorem file_of {c : Addr} (h : fileB K f c = true) : ∃ (ccl : Value) (cdd : Option Addr) (vs : Array Value) (ccs : Array (Option Value)) (y : Str) (tf : Tok), K.lookup c = some ⟨ccl, cdd, .fields vs, ccs⟩ ∧ vs[2]? = some (.str y tf) ∧ (f == y) = true := by
  unfold fileB at h
  split at h
  · rename_i ccl cdd vs ccs e
    split at h
    · rename_i y tf e2
      exact ⟨ccl, cdd, vs, ccs, y, tf, e, e2, h⟩
    · cases h
  · cases h
theorem cell_of {C : Addr} {cl : List (Str × Addr)} (h : cellB K C cl = true) (hn : cl.map (·.1) = (["__class__"] : List Str)) : ∃ cc, cl = [(("__class__" : Str), cc)] ∧ ∃ (o : Value) (d : Option Addr) (sl : Array (Option Value)), K.lookup cc = some ⟨o, d, .cell (some (.ref C)), sl⟩ := by
  unfold cellB at h
  split at h
  · rename_i x cc
    split at h
    · rename_i o d D sl e
      have e1 : x = "__class__" := by simpa using hn
      have e2 : D = C := of_decide_eq_true h
      exact ⟨cc, by rw [e1], o, d, sl, by rw [e, e2]⟩
    · cases h
  · cases h
theorem ini_of (e : iniObs K = iniVal) (h : iniB f K = true) : ∃ (cc c : Addr) (oc : Value) (od : Option Addr) (osl : Array (Option Value)) (doc pm ctv : Value), K.lookup (fIni K) = some ⟨oc, od, .func ((nfIni cc c).fd doc pm ctv), osl⟩ ∧ PySem.W.codeIn K (.ref c) "BadBook.__init__" = true ∧ fileB K f c = true ∧
    ∃ (o : Value) (d : Option Addr) (sl : Array (Option Value)), K.lookup cc = some ⟨o, d, .cell (some (.ref (cBad K))), sl⟩ := by
  unfold iniB at h
  unfold iniObs at e
  split at h
  · rename_i oc od fd osl lk
    rw [lk] at e
    rcases fd with ⟨n1, n2, n3, n4, n5, n6, n7, n8, n9, n10, n11, n12, n13, n14, n15⟩
    unfold iniVal at e
    simp only [Prod.mk.injEq, Option.some.injEq] at e
    obtain ⟨h1, h2, h3, h4, h5, h6, h7, h8⟩ := e
    dsimp only at h
    have g1 := (He.ba h).1
    have g2 := (He.ba (He.ba h).2).1
    have g3 := (He.ba (He.ba (He.ba h).2).2).1
    have g4 := (He.ba (He.ba (He.ba (He.ba h).2).2).2).1
    have g5 := (He.ba (He.ba (He.ba (He.ba h).2).2).2).2
    clear h
    have a1 := noneB_ok g1
    have a2 := noneB_ok g2
    have a3 : n12 = none := Option.isNone_iff_eq_none.mp g3
    obtain ⟨cc, a4, o, d, sl, a5⟩ := cell_of g5 h7
    subst h1 h2 h3 h4 h5 h6 h8 a1 a2 a3 a4
    unfold codeB at g4
    split at g4
    · rename_i c
      obtain ⟨k1, k2⟩ := He.ba g4
      exact ⟨cc, c, oc, od, osl, _, _, _, lk, k1, k2, o, d, sl, a5⟩
    · cases g4
  · cases h
end
/-- the class as the library's OexC wants it -/
def oexB (K : PySem.W.Frag) (C : Addr) : Bool := (match K.lookup C with
  | some ⟨.type t, _, .cls cd, sl⟩ => decide (t = "type") && (cd.hasDict && (!cd.hasDel && (match cd.mro with
    | .ref C' :: bm => decide (C' = C) && PySem.HandSPX.refsVE bm
    | _ => false) && (match sl.toList with
    | [_, _, _, _, some (.builtin n), _] => decide (n = "ValueError.__new__")
    | _ => false)))
  | _ => false) && (He.eqO (PySem.W.findIn K (.ref C) "__setattr__") (some (some (.builtin "object.__setattr__"))) && (decide (PySem.W.subIn K (.ref C) (.type "BaseException") = some true) && (decide (PySem.W.typeIn K (.ref C) = some (.type "type")) && PySem.W.keepIn K (.ref C))))
theorem oex_of {K : PySem.W.Frag} {C : Addr} (h : oexB K C = true) : OexC K C := by
  obtain ⟨h0, h⟩ := He.ba h
  obtain ⟨h1, h⟩ := He.ba h
  obtain ⟨h2, h⟩ := He.ba h
  obtain ⟨h3, h4⟩ := He.ba h
  refine ⟨?_, He.eqO_ok h1, of_decide_eq_true h2, of_decide_eq_true h3, h4⟩
  clear h1 h2 h3 h4 h
  split at h0
  · rename_i t dd cd sl lk
    have g1 := (He.ba h0).1
    have g2 := (He.ba (He.ba h0).2).1
    have g3 := (He.ba (He.ba (He.ba (He.ba h0).2).2).1).1
    have g4 := (He.ba (He.ba (He.ba (He.ba h0).2).2).1).2
    have g5 := (He.ba (He.ba (He.ba h0).2).2).2
    clear h0
    rcases cd with ⟨nm, bs, mro, ns, qn, hd, sn, sub, ab, col, del⟩
    dsimp only at g2 g3 g4
    have d0 : del = false := by
      cases del with
      | false => rfl
      | true => cases g3
    split at g4
    · rename_i C' bm
      obtain ⟨k1, k2⟩ := He.ba g4
      split at g5
      · rename_i k0 k1' k2' k3 n k5 hs
        have hsl : sl = #[k0, k1', k2', k3, some (.builtin n), k5] := Array.toList_inj.mp hs
        have e1 := of_decide_eq_true g1
        have e2 := of_decide_eq_true k1
        have e3 := of_decide_eq_true g5
        subst hsl d0 g2 e1 e2 e3
        exact ⟨nm, qn, ns, bs, bm, sn, sub, ab, col, dd, k0, k1', k2', k3, k5, lk, k2⟩
      · cases g5
    · cases g4
  · cases h0
def rng (n : Nat) (p : Nat → Bool) : Bool := (List.range n).all p
theorem rng_ok {n : Nat} {p : Nat → Bool} (h : rng n p = true) : ∀ i, i < n → p i = true := fun i hi => List.all_eq_true.mp h i (List.mem_range.mpr hi)
def excB (K : PySem.W.Frag) (D : Addr) : Bool := He.eqO (PySem.W.findIn K (.ref D) "__getattribute__") (some (some (.builtin "BaseException.__getattribute__"))) && (He.eqO (PySem.W.findIn K (.ref D) "__getattr__") (some none) && (decide (PySem.W.subIn K (.ref D) (.type "BaseException") = some true) && (PySem.W.hasDictIn K D &&
  (He.eqO (PySem.W.findIn K (.ref D) "__class__") (some (some (.builtin "object.__class__"))) && (He.eqO (PySem.W.specialIn K (.builtin "object.__class__") "__get__") (some (some (.builtin "getset_descriptor.__get__"))) && (decide (PySem.W.takesIn K (.builtin "object.__class__") = some true) && decide (PySem.W.mroIn K D (.type "object") = some true)))))))
theorem exc_of {K : PySem.W.Frag} {D : Addr} (h : excB K D = true) : ExcC K D := by
  obtain ⟨h1, h⟩ := He.ba h
  obtain ⟨h2, h⟩ := He.ba h
  obtain ⟨h3, h⟩ := He.ba h
  obtain ⟨h4, h⟩ := He.ba h
  obtain ⟨h5, h⟩ := He.ba h
  obtain ⟨h6, h⟩ := He.ba h
  obtain ⟨h7, h8⟩ := He.ba h
  exact ⟨He.eqO_ok h1, He.eqO_ok h2, of_decide_eq_true h3, h4, He.eqO_ok h5, He.eqO_ok h6, of_decide_eq_true h7, of_decide_eq_true h8⟩
def errB1 (K : PySem.W.Frag) (i : Nat) : Bool := (He.Fa.glo (nm i)).ok K && (rng 15 (fun j => decide (PySem.W.kitOne K (.ref (ea K i)) (.ref (ea K j)) = some (decide (i = j)))) && (decide (PySem.W.kitOne K (.ref (ea K i)) (.type "ValueError") = some true) && (excB K (ea K i) &&
  (rng 3 (fun j => decide (PySem.W.exmOne K (.ref (ea K i)) (.ref (ea K j)) = some (decide (i = j)))) && decide (PySem.W.exmOne K (.ref (ea K i)) (.ref (He.ga K "CountError")) = some true)))))
def errB3 (K : PySem.W.Frag) (j : Nat) : Bool := xfB K (ea K j) && He.eqO (PySem.W.findIn K (.ref (ea K j)) (fld j)) (some none)
def errB (K : PySem.W.Frag) : Bool := rng 15 (errB1 K) && (rng 3 (errB3 K) && (He.Fa.glo "CountError").ok K)
theorem errs_of {K : PySem.W.Frag} {h : Heap} {mg : Str → Option Value} (X : K.In h) (G : h.Ns mainGlobals mg) (c : errB K = true) : Errs K mg := by
  obtain ⟨c1, c⟩ := He.ba c
  obtain ⟨c2, c3⟩ := He.ba c
  have one := fun i hi => He.ba (rng_ok c1 i hi)
  have two := fun i hi => He.ba (one i hi).2
  have thr := fun i hi => He.ba (two i hi).2
  have fou := fun i hi => He.ba (thr i hi).2
  have fiv := fun i hi => He.ba (fou i hi).2
  exact ⟨fun j hj => He.glo_ok X G (one j hj).1, fun i j hi hj => of_decide_eq_true (rng_ok (two i hi).1 j hj), fun i hi => of_decide_eq_true (thr i hi).1, fun i hi => exc_of (fou i hi).1, fun i j hi hj => of_decide_eq_true (rng_ok (fiv i hi).1 j hj), fun i hi => of_decide_eq_true (fiv i hi).2, He.glo_ok X G c3, fun j hj => xfB_ok (He.ba (rng_ok c2 j hj)).1, fun j hj => He.eqO_ok (He.ba (rng_ok c2 j hj)).2⟩
/-- BadBook's own -/
def badBk (f : Str) (K : PySem.W.Frag) : Bool := oexB K (cBad K) && (iniB f K && (He.eqO (PySem.W.findIn K (.ref (cBad K)) "__init__") (some (some (.ref (fIni K)))) && (decide (PySem.W.typeIn K (.ref (fIni K)) = some (.type "function")) && (decide (PySem.W.mroIn K (cBad K) (.ref (cBad K)) = some true) &&
  (He.eqO (PySem.W.ks_superIn K (cBad K) (cBad K) "__init__") (some (some (.builtin "ValueError.__init__"))) && (decide (PySem.W.subIn K (.ref (cBad K)) (.type "ValueError") = some true) && He.eqO (PySem.W.nsIn K cStatics "thirdparty.any") (some none)))))))
/-! ### the hook -/
structure SaysN (fa : List He.Fa) (fn : List He.DefD) (ts : List He.Tab) (tf : List He.Defn) (ex : PySem.W.Frag → Bool) (w : World) (h : Heap) (K : PySem.W.Frag) : Prop where
  x : He.SaysX fa fn ts tf ex w h K
  ini : iniObs K = iniVal
abbrev AlN : Type := (He.AlT × Bool × Bool) × IniV
/-- the part told: what the names reach in four steps, and the statics' table -/
def partN (g : Addr → Option Obj) : PySem.W.Frag := He.frT g (cStatics :: He.asD g 4)
def obsN (fa : List He.Fa) (fn : List He.DefD) (ts : List He.Tab) (tf : List He.Defn) (ex : PySem.W.Frag → Bool) (g : Addr → Option Obj) : AlN :=
  (fun K => ((He.obsT fa fn ts K, ex K, He.tabsB g tf K), iniObs K)) (partN g)
theorem tab_empty {g : Addr → Option Obj} {tf : List He.Defn} {K : PySem.W.Frag} (h : He.tabsB g tf K = true) {p : He.Defn} (hp : p ∈ tf) : PySem.W.codeHdIn K (He.cT K p).1 (He.cT K p).2 = true ∧ ∃ o, g (He.cT K p).2 = some o ∧ He.emptyTab o = true := by
  have z := He.ba (List.all_eq_true.mp h p hp)
  refine ⟨z.1, ?_⟩
  have z2 := z.2
  split at z2
  · rename_i o e
    exact ⟨o, e, z2⟩
  · cases z2
theorem saysN_of {fa : List He.Fa} {fn : List He.DefD} {ts : List He.Tab} {tf : List He.Defn} {ex : PySem.W.Frag → Bool} {w : World} {h : Heap} (e : obsN fa fn ts tf ex h.get? = ((He.valT fn ts w, true, true), iniVal)) : SaysN fa fn ts tf ex w h (partN h.get?) := by
  unfold obsN at e
  simp only [Prod.mk.injEq] at e
  obtain ⟨⟨e1, e2, e3⟩, e4⟩ := e
  refine ⟨⟨e1, e2, fun p hp => (tab_empty e3 hp).1, fun p hp => ?_, fun p hp => ?_⟩, e4⟩
  · obtain ⟨_, o, q, z⟩ := tab_empty e3 hp
    exact He.frT_none q z
  · obtain ⟨_, o, q, z⟩ := tab_empty e3 hp
    rw [q, He.emptyTab_eq z]
def hookN (fa : List He.Fa) (fn : List He.DefD) (ts : List He.Tab) (tf : List He.Defn) (ex : PySem.W.Frag → Bool) : PySem.W.Hook where
  α := AlN
  obs s := obsN fa fn ts tf ex s.heap.get?
  val w := ((He.valT fn ts w, true, true), iniVal)
  says w h := ∃ K : PySem.W.Frag, K.In h ∧ SaysN fa fn ts tf ex w h K
  of w s e := ⟨partN s.heap.get?, He.frT_in, saysN_of e⟩
  keeps w h h' c k := by
    obtain ⟨K, i, x, e⟩ := c
    exact ⟨K, fun a o z => k a o (i a o z), { x with empty := fun p hp => k _ _ (x.empty p hp) }, e⟩
theorem obsN_eq {fa : List He.Fa} {fn : List He.DefD} {ts : List He.Tab} {tf : List He.Defn} {ex : PySem.W.Frag → Bool} {g : Addr → Option Obj} {s : Shared} (h : ∀ a, g a = s.heap.get? a) : obsN fa fn ts tf ex g = (hookN fa fn ts tf ex).obs s := by
  obtain rfl : g = s.heap.get? := funext h
  rfl
end Lw
/-! the head of the row: facts by names, the run -/
namespace Lw
open L2 PySem PySem.Spec PyProof.Rows
def fn1 : List He.DefD := [dd "is_letter" (topS 22), dd "is_word" (topS 23), dd "is_formed" (topS 24), dd "inner" (topS 25), dd "parts_within" (topS 26), dd "words_within" (topS 27), dd "is_making" (topS 28), dd "need_making" (topS 29)]
def fn2 : List He.DefD := [dd "is_book" (topS 32), dd "lacking" (topS 33), dd "need_book" (topS 34), dd "need_rules" (topS 35), dd "is_bare" (topS 36), dd "bare_words" (topS 37), dd "standing_bare" (topS 38), dd "holds_bare" (topS 39)]
def fn3 : List He.DefD := [dd "is_in_ring" (topS 40), dd "unfair_words" (topS 41), dd "may_be_bare" (topS 42), dd "bare_names" (topS 43), dd "unfair" (topS 44), dd "need_fair" (topS 45), dd "need_of" (topS 46), dd "counts" (topS 64)]
def fn4 : List He.DefD := [dd "count" (topS 65), dd "_law_cell" (topS 67), dd "_law_drawn" (topS 68), dd "_law_roll" (topS 69), dd "_law_rounds" (topS 70), dd "_law_term" (topS 71), dd "_law_told" (topS 72), dd "_law_can_be_bare" (topS 73)]
def fn5 : List He.DefD := [dd "_law_flags" (topS 74), dd "_law_firm" (topS 75), dd "_law_free" (topS 76), dd "_law_book_of" (topS 77), dd "_law_bare_ones" (topS 78), dd "_law_is_loose" (topS 79), dd "_law_wrong_ones" (topS 80), dd "law" (topS 81)]
def fn02 : List He.DefD := fn1 ++ fn2 ++ fn3 ++ fn4 ++ fn5
def fa1 : List He.Fa := [.glo "is_letter", .glo "is_word", .glo "is_formed", .glo "inner", .glo "parts_within", .glo "words_within", .glo "is_making", .glo "need_making"]
def fa2 : List He.Fa := [.glo "is_book", .glo "lacking", .glo "need_book", .glo "need_rules", .glo "is_bare", .glo "bare_words", .glo "standing_bare", .glo "holds_bare"]
def fa3 : List He.Fa := [.glo "is_in_ring", .glo "unfair_words", .glo "may_be_bare", .glo "bare_names", .glo "unfair", .glo "need_fair", .glo "need_of", .glo "counts"]
def fa4 : List He.Fa := [.glo "count", .glo "_law_cell", .glo "_law_drawn", .glo "_law_roll", .glo "_law_rounds", .glo "_law_term", .glo "_law_told", .glo "_law_can_be_bare"]
def fa5 : List He.Fa := [.glo "_law_flags", .glo "_law_firm", .glo "_law_free", .glo "_law_book_of", .glo "_law_bare_ones", .glo "_law_is_loose", .glo "_law_wrong_ones", .glo "law"]
def fa6 : List He.Fa := [.free "len", .free "isinstance", .free "str", .free "tuple", .free "dict", .free "int", .free "bool", .free "all"]
def fa7 : List He.Fa := [.free "any", .free "list", .free "sorted", .free "set", .free "range", .free "max", .free "min", .free "sum"]
def fa8 : List He.Fa := [.free "enumerate", .glo "INNER", .int "MOST_LETTERS" 8, .int "MOST_DEEP" 6, .int "MOST_PARTS" 40, .int "MOST_WORDS" 8, .glo "BadBook", .glo "CountError"]
def fa9 : List He.Fa := [.free "ValueError", .free "super"]
def fa02 : List He.Fa := fa1 ++ fa2 ++ fa3 ++ fa4 ++ fa5 ++ fa6 ++ fa7 ++ fa8 ++ fa9
def ts02 : List He.Tab := [(fun K => He.ga K "INNER", ["none", "unit", "sum", "pair", "row", "bag", "set"])]
def tfA : List He.Defn := [("is_word", none), ("is_formed", none), ("is_book", none), ("holds_bare", none)]
def tf02 : List He.Defn := ("law", none) :: tfA
def exA (K : PySem.W.Frag) : Bool := He.valsB K (He.ga K "INNER") [("none", .int 0), ("unit", .int 0), ("sum", .int 2), ("pair", .int 2), ("row", .int 1), ("bag", .int 1), ("set", .int 1)] && decide ((He.cT K ("law", none)).2 ∉ (tfA.map (He.cT K)).map (·.2))
def file02 : Str := PySem.Challenge.rw_countworks_k02_whole_fair_books.prog.main.file
def ex02 (K : PySem.W.Frag) : Bool := exA K && (errB K && badBk file02 K)
abbrev R02 : PySem.W.OpenRow := PySem.W.OpenLaw.row PySem.Challenge.rw_countworks_k02_whole_fair_books
abbrev hk02 : PySem.W.Hook := hookN fa02 fn02 ts02 tf02 ex02
def ob02 (s : PySem.W.SharedT) : AlN := obsN fa02 fn02 ts02 tf02 ex02 (HandSHeadRun.getT s)
theorem ob02_eq (s : PySem.W.SharedT) : ob02 s = hk02.obs s.abs := obsN_eq (HandSHeadRun.getT_eq s)
def names_0 : List PySem.Str := ["CountError", "BadMaking", "BadBook", "BadNumber", "BadThing", "BadTape", "Ended", "BadSeries"]
def names_1 : List PySem.Str := ["NotPlain", "NoStep", "BadWord", "BadParts", "Full", "NoRule", "Nothing", "BadText"]
def names_2 : List PySem.Str := ["MOST_PARTS", "MOST_DEEP", "MOST_LETTERS", "INNER", "is_letter", "is_word", "is_formed", "inner"]
def names_3 : List PySem.Str := ["parts_within", "words_within", "is_making", "need_making", "MOST_WORDS", "is_book", "lacking", "need_book"]
def names_4 : List PySem.Str := ["need_rules", "is_bare", "bare_words", "standing_bare", "holds_bare", "is_in_ring", "unfair_words", "may_be_bare"]
def names_5 : List PySem.Str := ["bare_names", "unfair", "need_fair", "need_of", "MOST_SIZE", "is_whole", "need_whole", "need_size"]
def names_6 : List PySem.Str := ["leads_to", "reached", "needs", "put_behind", "in_order", "pairs_at", "rows_at", "weight"]
def names_7 : List PySem.Str := ["bunches_at", "count_at", "count_table", "counts", "count", "_law_cell", "_law_drawn", "_law_roll"]
def names_8 : List PySem.Str := ["_law_rounds", "_law_term", "_law_told", "_law_can_be_bare", "_law_flags", "_law_firm", "_law_free", "_law_book_of"]
def names_9 : List PySem.Str := ["_law_bare_ones", "_law_is_loose", "_law_wrong_ones"]
def names02 : List PySem.Str := names_0 ++ names_1 ++ names_2 ++ names_3 ++ names_4 ++ names_5 ++ names_6 ++ names_7 ++ names_8 ++ names_9
abbrev RE02 (w : World) : Prop := HandSHeadRun.RunEq R02 (PySem.W.view R02.prog [81]) hk02 ob02 8000 names02 w
end Lw
namespace Lw
open L2 PySem PySem.Spec PyProof.Rows
theorem run02_f (w : World) : RE02 (w.withFollow "special-get-raises" false) := by
  intro os
  kernel_rfl
theorem run02_t (w : World) : RE02 (w.withFollow "special-get-raises" true) := by
  intro os
  kernel_rfl
theorem run02 (w : World) : RE02 w := PySem.W.byRow2 "special-get-raises" (P := RE02) run02_f run02_t w
end Lw
/-! all, any of a generator expression over anything that PI serves, its element any expression of the layer (calls too). The frame's start is read off the library's block_start. -/
namespace Gx
open PySem PySem.Spec L2 GenW PyProof.Rows
/-- the context of a generator expression's own frame -/
abbrev gxC (X : Cx) (B : Around) (s : Shared) (H : Hp) (cenv : Env) (fp : List Addr) : Cx :=
  { X with A := B, s_0 := s, H_0 := H, env := cenv, outer := X.stack, stack := cenv :: X.stack, ex := fp, fn := fun _ => false, calm := true, pn := [], xe := fun _ _ => False }
/-- a generator expression's environment, made at C -/
abbrev gxE (X : Cx) (scope : Scope) (C : Addr) (code : Value) : Env := genEnv scope (cloFrom X.env.cells scope.names []) C code builtinsNs X.env
theorem loop_over {A : Around} {elt : Expr} {gens : List Comprehension} {scope : Scope} {pos : Pos} {it acc : Value} {cenv : Env} : A.over (.compLoop (.GeneratorExp elt gens scope pos) 0 it acc cenv) [] = A.deeper cenv := by
  cases A with
  | mk hd d fr gs u => cases fr <;> cases gs <;> rfl
theorem cells_plain : ∀ (names : List (Str × NameKind)) (n : Nat) (acc : List (Str × Addr)), (∀ y ∈ names, y.2 ≠ .cell) → cellsFrom n names acc = acc
  | [], _, _, _ => rfl
  | (x, k) :: r, n, acc, h => by
    have hk : (k == NameKind.cell) = false := by
      have := h (x, k) (.head _)
      cases k <;> first | rfl | exact absurd rfl this
    unfold cellsFrom
    rw [hk]
    exact cells_plain r n acc fun y hy => h y (.tail _ hy)
section
variable {X : Cx} {pins : List (Addr × Obj)} {σ : L2.St} {H : Hp} {s : Shared} {scope : Scope} {own : List (Str × Nat)}
/-- a captured name is a cell of the def -/
theorem held (I : Inv X pins σ H s) (ok : BlkOk X.N X.env.scope scope own) {y : Str} (h : (y, NameKind.free) ∈ scope.names) : ∃ c, X.env.cells.lookup y = some c :=
  I.ok.has y (ok.free (y, .free) h rfl)
theorem clo_to (I : Inv X pins σ H s) (ok : BlkOk X.N X.env.scope scope own) {y : Str} {c : Addr} (e : (cloFrom X.env.cells scope.names []).lookup y = some c) : X.env.cells.lookup y = some c := by
  cases cloFrom_mem (PySem.mem_of_lookup e) with
  | inl z => cases z
  | inr z =>
    obtain ⟨d, hd⟩ := held I ok z.1
    have q : c = d := by rw [z.2, hd]; rfl
    rw [q]; exact hd
theorem clo_from (I : Inv X pins σ H s) (ok : BlkOk X.N X.env.scope scope own) {y : Str} (h : scope.names.lookup y = some .free) : ∃ c, (cloFrom X.env.cells scope.names []).lookup y = some c ∧ X.env.cells.lookup y = some c :=
  (mem_lookup (cloFrom_has (acc := []) (PySem.mem_of_lookup h))).elim fun c e => ⟨c, e, clo_to I ok e⟩
/-- a slot that the block does not forget is a captured name's -/
theorem only_free (ok : BlkOk X.N X.env.scope scope own) (hN : X.N.Nodup) {i : Nat} {y : Str} {v : V} (e1 : X.N[i]? = some y) (e2 : (wipe σ (own.map (·.2)))[i]? = some (some v)) (e3 : Vis scope y) : scope.names.lookup y = some .free := by
  have mine : ∀ k, scope.names.lookup y = some k → k = .local ∨ k = .cell → False := fun k e hk =>
    (ok.own (y, k) (PySem.mem_of_lookup e) hk).elim
      (fun z => let ⟨p, hp, hy⟩ := List.mem_map.mp z; (wipe_some e2).2 (List.mem_map.mpr ⟨p, hp, nodup_ix hN ((ok.ix p hp).trans (congrArg some hy)) e1⟩))
      (fun z => z (List.mem_of_getElem? e1))
  exact e3.elim (fun e => (mine _ e (.inl rfl)).elim) fun z => z.elim (fun e => (mine _ e (.inr rfl)).elim) id
/-- the frame has been made: behind the generator's making -/
theorem gx_start {fp : List Addr} {code : Value} {A0 : Around} {s5 : Shared} {m : Str → Option Value} (I : Inv X pins σ H s) (ok : BlkOk X.N X.env.scope scope own) (hN : X.N.Nodup)
    (hcell : ∀ y ∈ scope.names, y.2 ≠ .cell) (hfp : ∀ b ∈ fp, FpOk X pins H b ∧ b < s.heap.objs.size) (hfr : A0.frames = some X.stack) (hhd : A0.handled = none)
    (hos : s5.os = s.os) (hbare : AllBare s5.gens) (kp : ∀ b o, s.heap.get? b = some o → s5.heap.get? b = some o) (hns : s5.heap.Ns s.heap.objs.size m) :
    Inv (gxC X (A0.deeper (gxE X scope s.heap.objs.size code)) s H (gxE X scope s.heap.objs.size code) fp) [] (wipe σ (own.map (·.2))) H s5 := by
  have blk := (block_start I ok hN hfp).ok
  rw [cells_plain scope.names _ _ hcell] at blk
  have good : (gxC X (A0.deeper (gxE X scope s.heap.objs.size code)) s H (gxE X scope s.heap.objs.size code) fp).Ok :=
    { mod := blk.mod, kind := ok.kind, glob := I.ok.glob, blt := rfl, above := Nat.le_refl _, inj := blk.inj, cab := (fun _ _ z _ => by cases z), hd := fun _ => hhd, frames := Around.frames_deeper hfr, stk := .inr ⟨rfl, rfl⟩
      has := fun y hy => hy.elim (fun e => absurd rfl (hcell (y, .cell) (PySem.mem_of_lookup e))) fun e => (clo_from I ok e).elim fun c q => ⟨c, q.1⟩
      exf := blk.exf, bs := blk.bs, bsz := blk.bsz, noex := blk.noex, exfs := blk.exfs, funs := blk.funs, frf := blk.frf }
  exact
    { ok := good, os := hos, bare := hbare, base := Un.kept kp, hok := I.hok.kept kp, len := (wipe_length _ _).trans I.len, pin := (fun _ z => by cases z), free := I.hok.fresh (Nat.le_refl _)
      freeC := fun y c e => I.freeC y c (clo_to I ok e)
      cell := fun y c e => (I.cell y c (clo_to I ok e)).elim fun v z => ⟨v, z.keeps kp⟩
      loc := ⟨m, hns, fun i y v e1 e2 e3 => by
        have fr := only_free ok hN e1 e2 e3
        obtain ⟨c, k1, k2⟩ := clo_from I ok fr
        have kind := ok.free (y, .free) (PySem.mem_of_lookup fr) rfl
        obtain ⟨mX, _, look⟩ := I.loc
        obtain ⟨u, rel, at_⟩ := look i y v e1 (wipe_some e2).1 (.inr kind)
        refine ⟨u, rel, .inr ⟨.inr fr, c, k1, ?_⟩⟩
        refine at_.elim (fun z => ?_) (fun ⟨_, d, hd, cd⟩ => by rw [k2] at hd; cases hd; exact cd.keeps kp)
        have z1 : X.env.scope.names.lookup y = some .local := z.1
        exact (kind.elim (fun q => by rw [z1] at q; cases q) (fun q => by rw [z1] at q; cases q) : False).elim⟩ }
/-- the state behind: gens and tokens others, all objects kept -/
theorem Inv.woke {s' : Shared} (I : Inv X pins σ H s) (ho : s'.os = s.os) (hk : ∀ b o, s.heap.get? b = some o → s'.heap.get? b = some o) (hg : AllBare s'.gens) : Inv X pins σ H s' :=
  I.call' (ch := []) ho (Un.kept hk) (I.hok.kept hk) hg fun b z => absurd z (by simp)
end
/-! ### the generator's run: W what holds ahead of a turn, Z of what is handed out, Qe at the end; Pn: what the consumer keeps beside it -/
section
variable {α : Type} {G : Cx} {Pn : α → List (Addr × Obj) → Prop} {W : α → Nat → Nat → Hp → Prop} {Z : α → Nat → Nat → V → Hp → Prop} {Qe : α → Hp → Prop}
def GXP (G : Cx) (Pn : α → List (Addr × Obj) → Prop) (Qe : α → Hp → Prop) : Nat → Shared → Shared → Prop := fun _ _ s₁ => ∃ acc pins ip σ' H, Pn acc pins ∧ Inv G (pins ++ ip) σ' H s₁ ∧ Qe acc H
abbrev GXR (G : Cx) (Pn : α → List (Addr × Obj) → Prop) (Qe : α → Hp → Prop) : GenEnd := fun n s₀ r s₁ => r = .ok .next ∧ GXP G Pn Qe n s₀ s₁
def GXY (G : Cx) (Pn : α → List (Addr × Obj) → Prop) (W : α → Nat → Nat → Hp → Prop) (Z : α → Nat → Nat → V → Hp → Prop) : Protocol := fun _ _ v s kap =>
  ∃ acc i m pins ip σ' H y, Pn acc pins ∧ Inv G (pins ++ ip) σ' H s ∧ RelV y v ∧ Z acc i m y H ∧
    ∀ acc' m' pins' s'', m' < m → W acc' (i + 1) m' H → Pn acc' pins' → Inv G (pins' ++ ip) σ' H s'' → kap (.send .none) s''
/-- what one turn asks -/
def Turns (J : It) (g : TG) (tt : TT) (te : TE) (vs : List Nat) (σw : L2.St) (W : α → Nat → Nat → Hp → Prop) (Z : α → Nat → Nat → V → Hp → Prop) (Qe : α → Hp → Prop) : Prop := ∀ acc i m H, W acc i m H →
  (J.stop i H ∧ Qe acc H) ∨ (J.go i H ∧ ∀ x H', J.yld i H x H' → g x σw H' fun σ2 H2 => wipe σ2 vs = σw ∧ tt σ2 H2 fun b H3 => if b = true then te σ2 H3 fun y H4 => Z acc i m y H4 else ∃ m', m' < m ∧ W acc (i + 1) m' H3)
/-- a step of the frame's code: by the layer's judgement in G, whose exceptions are none -/
theorem seg_in {A0 : Around} {R : GenEnd} {Y : Protocol} {n : Nat} {s₀ s : Shared} {elt : Expr} {gens : List Comprehension} {scope : Scope} {pos : Pos} {it : Value} {β γ : Type} {t : Sem β} {K : β → Sem γ} {K' : γ → Sem PySem.Fin} {H' : Value → Sem PySem.Fin} {gd : Bool → Bool} {lv : List Value → List Value} {Q : β → Shared → Prop}
    (hA : G.A = A0.deeper G.env) (h : wpAny (model G.prog G.w) G.A t Q (fun _ _ => False) s)
    (k : ∀ b s', Q b s' → Seg (model G.prog G.w) A0 R Y n s₀ (.compLoop (.GeneratorExp elt gens scope pos) 0 it .none G.env) ((K b).wrap K' H' gd lv) [] s') :
    Seg (model G.prog G.w) A0 R Y n s₀ (.compLoop (.GeneratorExp elt gens scope pos) 0 it .none G.env) ((t >>= K).wrap K' H' gd lv) [] s :=
  seg_bind_wrap (by rw [loop_over, ← hA]; exact thnF h k)
theorem seg_gx {A0 : Around} {tg elt iter : Expr} {ifs : List Expr} {scope : Scope} {pos : Pos} {J : It} {fp : List Addr} {it : Addr} {tn : Nat → Heap → Prop} {g : TG} {tt : TT} {te : TE} {vs : List Nat} {σw : L2.St}
    (hA : G.A = A0.deeper G.env) (hxe : G.xe = fun _ _ => False) (hcalm : G.calm = true) (hpn : G.pn = []) (hex : G.ex = fp) (hco : G.env.scope.isCoroutine = false)
    (T : Turn G.prog G.w G.K tg J fp it tn) (pg : PG G tg g) (pt : PTs G ifs tt) (pe : PE G elt te) (hPn : ∀ acc pins, Pn acc pins → ∀ p ∈ pins, p.1 ∉ fp) (turn : Turns J g tt te vs σw W Z Qe)
    : ∀ (m n : Nat) (acc : α) (i : Nat) (pins : List (Addr × Obj)) (s₀ s : Shared) (H : Hp), m + 1 ≤ n → W acc i m H → Pn acc pins → Inv G pins σw H s → tn i s.heap → (∀ b ∈ fp, H b = none) →
      Seg (model G.prog G.w) A0 (GXR G Pn Qe) (GXY G Pn W Z) n s₀ (.compLoop (.GeneratorExp elt [⟨tg, iter, ifs, 0⟩] scope pos) 0 (.ref it) .none G.env)
        ((model G.prog G.w).den (.compLoop (.GeneratorExp elt [⟨tg, iter, ifs, 0⟩] scope pos) 0 (.ref it) .none G.env)) [] s := by
  intro m
  refine Nat.strongRecOn m fun m ih n acc i pins s₀ s H hn w hP I st nfp => ?_
  have may : ∀ {σ' H' s'}, Inv G pins σ' H' s' → (∀ b ∈ fp, H' b = none) → ∀ b ∈ fp, FpOk G pins H' b := fun J' hz b hb =>
    have hb' : b ∈ G.ex := hex ▸ hb
    ⟨hz b hb, (J'.ok.exf b hb').1, J'.ok.exfs b hb', .inl hb', (J'.ok.exf b hb').2, fun p hq z => hPn acc pins hP p (by rw [hpn] at hq; exact hq) (z ▸ hb)⟩
  show Seg _ A0 _ _ _ s₀ _ ((compTurn (.GeneratorExp elt [⟨tg, iter, ifs, 0⟩] scope pos) 0 (.ref it) .none G.env).onRaise (leaving G.env)) [] s
  rw [Sem.onRaise_eq_wrap, compTurn_gen]
  refine seg_in hA (Q := fun _ s' => s' = s) (wpAny_standAt rfl) fun _ _ e => ?_
  subst e
  rcases turn acc i m H w with ⟨stop, qq⟩ | ⟨go, step⟩
  · refine seg_in hA (T.done G rfl rfl rfl hcalm i pins _ _ H (fun _ _ => False) I (may I nfp) st stop) fun r s1 h1 => ?_
    cases h1.1
    exact seg_end (.ok .next) ⟨rfl, acc, pins, [], _, H, hP, (List.append_nil pins).symm ▸ h1.2, qq⟩
  · refine seg_in hA (T.item G rfl rfl rfl hcalm i pins _ _ H (fun _ _ => False) I (may I nfp) st go) fun r s1 h1 => ?_
    obtain ⟨u, er, h1⟩ := h1
    cases er
    refine seg_in hA h1 fun _ s2 ⟨x, H2, I2, r2, y2, st2, n2⟩ => ?_
    have given := pg.run _ s2 _ H2 x u _ (I2.pinned (may I2 n2) (T.obj _ _ st2)) r2 (step x H2 y2)
    refine seg_in hA (hxe ▸ given) fun _ s3 ⟨σ3, H3, I3, w3, q3⟩ => ?_
    have asked := pt.run _ s3 σ3 H3 _ I3 q3
    refine seg_in hA (hxe ▸ asked) fun b s4 ⟨H4, I4, q4⟩ => ?_
    -- from the turn's end to the next turn's start
    have on : ∀ {pins' acc' s' H'}, Pn acc' pins' → Inv G (pins' ++ pinsAt fp s2.heap) σ3 H' s' → Inv G pins' σw H' s' ∧ tn (i + 1) s'.heap ∧ ∀ b ∈ fp, H' b = none := fun {pins' acc' s' H'} _ I' => by
      have still : ∀ b ∈ fp, ∀ o, s2.heap.get? b = some o → s'.heap.get? b = some o ∧ H' b = none := fun b hb o e =>
        (I'.pin (b, o) (List.mem_append_right G.pn (List.mem_append_right pins' (mem_pinsAt hb e)))).imp id And.left
      refine ⟨(I'.unpinned (pins := pins')).weak (by rw [← w3, wipe_length]) fun j v e => (wipe_some (w3.symm ▸ e : (wipe σ3 vs)[j]? = _)).1, T.keep _ _ _ st2 fun b hb o e => (still b hb o e).1, fun b hb => ?_⟩
      exact (T.obj _ _ st2 b hb).elim fun o e => (still b hb o e.1).2
    cases b with
    | false =>
      obtain ⟨m', hm, w'⟩ := (if_neg Bool.false_ne_true).mp q4
      obtain ⟨a1, a2, a3⟩ := on hP I4
      exact seg_again rfl (ih m' hm n acc (i + 1) pins s₀ s4 H4 (by omega) w' hP a1 a2 a3)
    | true =>
      have q5 := (if_pos rfl).mp q4
      obtain ⟨k, rfl⟩ : ∃ k, n = k + 1 := ⟨n - 1, by omega⟩
      have out : ∀ v, yieldOut G.env v = yieldValue v := fun v => by unfold yieldOut; rw [hco]; rfl
      have told := pe.run _ s4 σ3 H4 _ I4 q5
      simp only [if_true, out]
      rw [Sem.bind_eq_wrap', Sem.wrap_wrap, Sem.bind_eq_wrap', Sem.wrap_wrap]
      refine seg_wrap ?_
      rw [loop_over, ← hA]
      refine thnF (hxe ▸ told) fun z s5 ⟨yv, H5, I5, r5, hZ⟩ => ?_
      refine seg_at (seg_yield rfl rfl rfl ⟨acc, i, m, pins, _, σ3, H5, yv, hP, I5, r5, hZ, fun acc' m' pins' s'' hm hw hP' I'' => ?_⟩)
      obtain ⟨a1, a2, a3⟩ := on hP' I''
      exact seg_again rfl (ih m' hm k acc' (i + 1) pins' s'' s'' H5 (by omega) hw hP' a1 a2 a3)
end
end Gx
namespace Gx
open PySem PySem.Spec L2 GenW PyProof.Rows
/-! ### all, any: both draw truths until one is `stop` -/
/-- behind the drawing, in the generator's context -/
def After (G : Cx) (Q : Hp → Prop) (s' : Shared) : Prop := ∃ pl σ' H s1, Inv G pl σ' H s1 ∧ s'.os = s1.os ∧ AllBare s'.gens ∧ (∀ b o, s1.heap.get? b = some o → s'.heap.get? b = some o) ∧ Q H
abbrev alone (a : Addr) (go : Obj) : Unit → List (Addr × Obj) → Prop := fun _ p => p = [(a, go)]
/-- of a truth that is handed out: the end, or a further turn -/
def zAA (W : Unit → Nat → Nat → Hp → Prop) (Qf : Hp → Prop) (stop : Bool) : Unit → Nat → Nat → V → Hp → Prop := fun _ i m y H => ∃ b : Bool, y = .bl b ∧ if b = stop then Qf H else ∃ m', m' < m ∧ W () (i + 1) m' H
section
variable {G : Cx} {A : Around} {a : Addr} {g : Nat} {go : Obj} {W : Unit → Nat → Nat → Hp → Prop} {Qe Qf : Hp → Prop} {stop : Bool}
/-- the generator may be woken n times from s -/
def Ready (G : Cx) (A : Around) (a : Addr) (g : Nat) (go : Obj) (W : Unit → Nat → Nat → Hp → Prop) (Qe Qf : Hp → Prop) (stop : Bool) (n : Nat) (s : Shared) : Prop :=
  s.heap.IsGen a g ∧ s.heap.NoLimit ∧ ∃ gs, s.gens[g]? = some gs ∧ gs.Goes (model G.prog G.w) A (GXR G (alone a go) fun _ => Qe) (GXY G (alone a go) W (zAA W Qf stop)) n (.send .none) (s.setGen g .running)
/-- one drawing -/
theorem drawn {n : Nat} {s : Shared} {E : Value → Shared → Prop} {Q : Option Value → Shared → Prop} (hgen : ∀ h : Heap, h.get? a = some go → h.IsGen a g) (hh : A.handled = none) (hd : A.depth < recursionLimit) (r : Ready G A.in1 a g go W Qe Qf stop n s)
    (none_ : ∀ s', After G Qe s' → Q none s') (stop_ : ∀ s', After G Qf s' → Q (some (.bool stop)) s') (go_ : ∀ k s', n = k + 1 → Ready G A.in1 a g go W Qe Qf stop k s' → Q (some (.bool (!stop))) s') :
    wpAny (model G.prog G.w) A (pyNext (.ref a)) Q E s := by
  obtain ⟨isg, lim, gs, at_, goes⟩ := r
  have room : g + 1 ≤ s.gens.size := (Array.getElem?_eq_some_iff.mp at_).1
  refine wpAny_gsz room (wpAny_pyNext_genexpQ (P := GXP G (alone a go) fun _ => Qe) hh lim hd isg at_ goes (fun v s1 gs1 bare1 told many => ?_) (fun s1 ended h1 kept _ => ?_))
  · obtain ⟨acc, i, m, pl, ip, σ1, H1, y, own, I1, rel, ⟨b, ey, next⟩, wake⟩ := told
    subst ey
    cases (show v = Value.bool b from rel)
    by_cases e : b = stop
    · subst e
      exact stop_ _ ⟨_, _, H1, s1, I1, rfl, allBare_setGen I1.bare bare1, fun _ _ q => q, (if_pos rfl).mp next⟩
    · obtain ⟨m', less, w'⟩ := (if_neg e).mp next
      have eb : b = !stop := by cases b <;> cases stop <;> first | rfl | exact absurd rfl e
      subst eb
      have still : s1.heap.get? a = some go := (I1.pin (a, go) (List.mem_append_right _ (List.mem_append_left ip (own ▸ .head _)))).1
      cases n with
      | zero => exact (wake () m' pl s1 less w' own I1).elim
      | succ k =>
        refine go_ k _ rfl ⟨hgen _ still, I1.nolimit, gs1, setGen_at ?_, wake () m' pl _ less w' own (Inv.woke I1 rfl (fun _ _ q => q) (allBare_setGen (allBare_setGen I1.bare bare1) rfl))⟩
        exact (setGen_size s1 g gs1) ▸ many
  · obtain ⟨acc, pl, ip, σ1, H1, _, I1, q⟩ := ended
    exact none_ _ ⟨_, _, H1, s1, I1, rfl, allBare_setGen I1.bare rfl, kept, q⟩
variable {RR : Result → Shared → Prop}
theorem all_draws (hgen : ∀ h : Heap, h.get? a = some go → h.IsGen a g) (hh : A.handled = none) (hd : A.depth < recursionLimit) (yes : ∀ s', After G Qe s' → RR (.ok (.ret (.bool true))) s') (no : ∀ s', After G Qf s' → RR (.ok (.ret (.bool false))) s') :
    ∀ (n : Nat) (s : Shared), Ready G A.in1.in1 a g go W Qe Qf false n s → codeAny (model G.prog G.w) A (.builtin "all.loop" ⟨[.ref a], []⟩) RR s
  | n, s, r => by
    refine codeAny_builtin F.entry_all_loop (Around.under_plainId F.plain_all_loop _ ▸ ?_)
    show wpAny _ _ (pyNext _ >>= _) _ _ s
    refine wpAny_bind (drawn (A := A.in1) hgen hh hd r (fun s' q => wpAny_bind (wpAny_rule (wpAny_pure (yes s' q)))) (fun s' q => ?_) fun k s' e r' => ?_)
    · exact wpAny_bind (wpAny_holding (wpAny_truthy_bool (wpAny_bind (wpAny_letGo (wpAny_bind (wpAny_rule (wpAny_pure (no s' q))))))))
    · exact wpAny_bind (wpAny_holding (wpAny_truthy_bool (wpAny_bind (wpAny_letGo (wpAny_pure ⟨plainId_quiet F.plain_all_loop _, all_draws hgen hh hd yes no k s' r'⟩)))))
  termination_by n => n
  decreasing_by omega
theorem any_draws (hgen : ∀ h : Heap, h.get? a = some go → h.IsGen a g) (hh : A.handled = none) (hd : A.depth < recursionLimit) (no : ∀ s', After G Qe s' → RR (.ok (.ret (.bool false))) s') (yes : ∀ s', After G Qf s' → RR (.ok (.ret (.bool true))) s') :
    ∀ (n : Nat) (s : Shared), Ready G A.in1.in1 a g go W Qe Qf true n s → codeAny (model G.prog G.w) A (.builtin "any.loop" ⟨[.ref a], []⟩) RR s
  | n, s, r => by
    refine codeAny_builtin F.entry_any_loop (Around.under_plainId F.plain_any_loop _ ▸ ?_)
    show wpAny _ _ (pyNext _ >>= _) _ _ s
    refine wpAny_bind (drawn (A := A.in1) hgen hh hd r (fun s' q => wpAny_bind (wpAny_rule (wpAny_pure (no s' q)))) (fun s' q => ?_) fun k s' e r' => ?_)
    · exact wpAny_bind (wpAny_holding (wpAny_truthy_bool (wpAny_bind (wpAny_letGo (wpAny_bind (wpAny_rule (wpAny_pure (yes s' q))))))))
    · exact wpAny_bind (wpAny_holding (wpAny_truthy_bool (wpAny_bind (wpAny_letGo (wpAny_pure ⟨plainId_quiet F.plain_any_loop _, any_draws hgen hh hd no yes k s' r'⟩)))))
  termination_by n => n
  decreasing_by omega
end
end Gx
namespace Gx
open PySem PySem.Spec L2 GenW PyProof.Rows
section
variable {X : Cx}
/-- the table at P, of the code object at c, is asked for an expression's code: it may grow -/
theorem coded {c P : Addr} {gpos : Pos} {q : Str} {scope : Scope} {pins : List (Addr × Obj)} {σ : L2.St} {H : Hp} {s : Shared} {E : Value → Shared → Prop} {Q : Value → Shared → Prop} (TB : GxR.TabB X.base X.mg c P) (hc : X.env.code = .ref c) (I : Inv X pins σ H s) (t : GxR.TabG H P)
    (h : ∀ code s' H', Inv X pins σ H' s' → GxR.Tabbed P H H' → s'.gens = s.gens → (∀ b o, b ≠ P → s.heap.get? b = some o → s'.heap.get? b = some o) → Q code s') : wpAny (model X.prog X.w) X.A (genexprCode X.env gpos q scope) Q E s := by
  obtain ⟨ps, hP, tri⟩ := t
  have here : s.heap.get? P = some { cls := .none, data := .fields ps } := I.hok P _ hP
  have head : PySem.W.CodeHd s.heap c P := TB.code.keeps I.bk
  have grown : ∀ (code : Value) (h' : Heap) (tk : Nat) (more : Array Value), Heap.ExtBut P s.heap h' → h'.get? P = some { cls := .none, data := .fields (ps ++ more) } → TriplesOk (ps ++ more).toList → Q code { s with heap := h', toks := tk } := fun code h' tk more ext at_ tri' =>
    h code _ _ (GxR.inv_tab (g' := s.gens) (d' := s.drawn) (t' := tk) I hP ext at_ I.bare) ⟨⟨ps ++ more, upd_same, tri'⟩, fun b hb => upd_ne hb⟩ rfl ext
  cases among : codeAmong gpos ps.toList with
  | some cv => exact wpAny_genexprCode_hit hc (head.code here tri) among (grown cv s.heap s.toks #[] (Heap.ExtBut.refl _ _) (by simpa using here) (by simpa using tri))
  | none =>
    refine wpAny_genexprCodeX hc (head.code here tri) (head.tab here) among fun c' h' tk ext _ _ isCode _ tab _ => grown _ h' tk _ ext tab.2 ?_
    obtain ⟨_, _, _, _, _, _, _, _, _, _, _, _, _, _, _, _, _, _, _, ok, _⟩ := isCode
    exact ok
/-- the generator at a stands in s5, not begun; its frame is to be at s4's end -/
structure Made (X : Cx) (pins : List (Addr × Obj)) (σ : L2.St) (H2 : Hp) (tg elt iter : Expr) (ifs : List Expr) (scope : Scope) (gpos : Pos) (J : It) (a : Addr) (s5 : Shared) (g : Nat) (go : Obj) (fp : List Addr) (it : Addr) (tn : Nat → Heap → Prop) (s4 : Shared) (code : Value) (m : Str → Option Value) : Prop where
  gen : ∀ h : Heap, h.get? a = some go → h.IsGen a g
  at_ : s5.heap.get? a = some go
  nocell : ∀ v, go.data ≠ .cell v
  young : s4.heap.objs.size < a
  inv : Inv X pins σ H2 s4
  turn : Turn X.prog X.w X.K tg J fp it tn
  st : tn 0 s4.heap
  own : ∀ b ∈ fp, FpOk X pins H2 b ∧ b < s4.heap.objs.size
  os : s5.os = s4.os
  bare : AllBare s5.gens
  keep : ∀ b o, s4.heap.get? b = some o → s5.heap.get? b = some o
  ns : s5.heap.Ns s4.heap.objs.size m
  fresh : s5.gens[g]? = some (.fresh (.compStart (.GeneratorExp elt [⟨tg, iter, ifs, 0⟩] scope gpos) 0 (.ref it) .none (gxE X scope s4.heap.objs.size code)))
/-- the expression's own scope -/
structure GxS (X : Cx) (scope : Scope) (own : List (Str × Nat)) : Prop where
  blk : BlkOk X.N X.env.scope scope own
  cell : (∀ y ∈ scope.names, y.2 ≠ .cell)
  co : (scope.isCoroutine = false)
  dot : (scope.names.lookup (".0" : Str) = some NameKind.local)
theorem making {c P : Addr} {tg elt iter : Expr} {ifs : List Expr} {gpos : Pos} {scope : Scope} {own : List (Str × Nat)} {wi : TI} {k : Nat} {pins : List (Addr × Obj)} {σ : L2.St} {H : Hp} {s : Shared} {Q : Value → Shared → Prop} {R : It → Hp → Prop}
    (hr : Room k X.A) (TB : GxR.TabB X.base X.mg c P) (hc : X.env.code = .ref c) (S : GxS X scope own) (hi : PI X tg iter wi) (hs : ∀ v, genFold iter X.env v = pure v) (I : Inv X pins σ H s) (h : wi σ H fun J H1 => GxR.TabG H1 P ∧ ∀ H2, GxR.Tabbed P H1 H2 → R J H2)
    (hQ : ∀ J H2 a s5 g go fp it tn s4 code m, R J H2 → Made X pins σ H2 tg elt iter ifs scope gpos J a s5 g go fp it tn s4 code m → Q (.ref a) s5) : wpAny (model X.prog X.w) X.A (eval (.GeneratorExp elt [⟨tg, iter, ifs, 0⟩] scope gpos) X.env) Q X.xe s := by
  refine wpAny_GeneratorExp_make S.co (closure_ok fun y hy e => held I S.blk (e ▸ hy)) S.cell S.dot S.blk.kind hr.depth (thn (hi.run pins s σ H _ I h) fun v s1 p => thn p fun itv s2 q => ?_) hs
  obtain ⟨it, fp, tn, J, H1, rfl, I1, T, st, f1, tab, more⟩ := q
  have off : ∀ b ∈ fp, b ≠ P := fun b hb z => by
    obtain ⟨ps, e, _⟩ := tab
    have n := (f1 b hb).1
    rw [z, e] at n
    exact nomatch n
  refine ⟨I1.nolimit, coded TB hc I1 tab fun code s3 H3 I3 t3 g3 k3 => ?_⟩
  obtain ⟨bm, ob, b1, b2, _, _, b5, b6, b7, b8⟩ := TB.bm
  refine wpAny_builtinsFor (m := X.mg) (by rw [I3.ok.glob]; exact I3.mod.glob.keeps I3.bk) b1 b2 (I3.bk _ _ b5) b6 b7 b8 fun h' ns' same => ?_
  have size : h'.objs.size = s3.heap.objs.size + 1 := same.1.trans (Heap.size_push _ _)
  have stays : ∀ b o, s3.heap.get? b = some o → h'.get? b = some o := fun b o e => same.extBut b o (Nat.ne_of_lt (Heap.lt_size e)) (Heap.get?_push_of_some _ e)
  exact hQ J H3 _ _ _ _ fp it tn s3 code _ (more H3 t3)
    { gen := fun _ e => ⟨_, _, _, e, rfl, rfl, rfl⟩, at_ := Heap.get?_push_size _ rfl, nocell := fun _ z => by cases z
      young := by rw [size]; exact Nat.lt_succ_self _
      inv := I3, turn := T, st := T.keep _ _ _ st fun b hb o e => k3 b o (off b hb) e
      own := fun b hb => ⟨⟨by rw [t3.2 b (off b hb)]; exact (f1 b hb).1, (f1 b hb).2⟩, (T.obj _ _ st b hb).elim fun o e => Heap.lt_size (k3 b o (off b hb) e.1)⟩
      os := rfl, bare := I3.bare.push rfl, keep := fun b o e => Heap.get?_push_of_some _ (stays b o e), ns := ns'.push _, fresh := Array.getElem?_push_size .. }
/-- judged in every frame that such an expression may have -/
abbrev Within (X : Cx) (scope : Scope) (k : Nat) (p : Cx → Prop) : Prop := ∀ (B : Around) (s : Shared) (H : Hp) (C : Addr) (code : Value) (fp : List Addr), Room k B → p (gxC X B s H (gxE X scope C code) fp)
variable {c P : Addr} {tg elt iter : Expr} {ifs : List Expr} {p pos gpos : Pos} {scope : Scope} {own : List (Str × Nat)} {wi : TI} {g : TG} {tt : TT} {te : TE} {k : Nat}
/-- the turns of all (stop = false), any (stop = true) -/
def AA (J : It) (g : TG) (tt : TT) (te : TE) (vs : List Nat) (σw : L2.St) (stop : Bool) (Q : VK) (H2 : Hp) : Prop := ∃ W : Nat → Nat → Hp → Prop, (∃ m, W 0 m H2) ∧ ∀ i m H, W i m H →
  (J.stop i H ∧ Q (.bl (!stop)) H) ∨ (J.go i H ∧ ∀ x H', J.yld i H x H' → g x σw H' fun σ2 H3 => wipe σ2 vs = σw ∧ tt σ2 H3 fun b H4 =>
    if b = true then te σ2 H4 fun y H5 => ∃ c : Bool, y = .bl c ∧ if c = stop then Q (.bl stop) H5 else ∃ m', m' < m ∧ W (i + 1) m' H5 else ∃ m', m' < m ∧ W (i + 1) m' H4)
def tAA (P : Addr) (stop : Bool) (wi : TI) (g : TG) (tt : TT) (te : TE) (vs : List Nat) : TE := fun σ H Q => wi σ H fun J H1 => GxR.TabG H1 P ∧ ∀ H2, GxR.Tabbed P H1 H2 → AA J g tt te vs (wipe σ vs) stop Q H2
/-- what a made generator gives to all or any -/
theorem ready {pins : List (Addr × Obj)} {σ : L2.St} {H2 : Hp} {J : It} {a : Addr} {s5 s4 : Shared} {gn : Nat} {go : Obj} {fp : List Addr} {it : Addr} {tn : Nat → Heap → Prop} {code : Value} {m : Str → Option Value} {W : Nat → Nat → Hp → Prop} {m0 : Nat} {Qe Qf : Hp → Prop} {stop : Bool}
    (M : Made X pins σ H2 tg elt iter ifs scope gpos J a s5 gn go fp it tn s4 code m) (hr : Room (k + 1) X.A) (hN : X.N.Nodup) (S : GxS X scope own) (hg : Within X scope k fun G => PG G tg g) (ht : Within X scope k fun G => PTs G ifs tt) (he : Within X scope k fun G => PE G elt te)
    (w0 : W 0 m0 H2) (turn : Turns J g tt te (own.map (·.2)) (wipe σ (own.map (·.2))) (fun _ : Unit => W) (zAA (fun _ => W) Qf stop) fun _ => Qe) :
    Ready (gxC X (X.A.in1.in1.deeper (gxE X scope s4.heap.objs.size code)) s4 H2 (gxE X scope s4.heap.objs.size code) fp) X.A.in1.in1 a gn go (fun _ => W) Qe Qf stop (m0 + 1) s5 := by
  have room : Room k (X.A.in1.in1.deeper (gxE X scope s4.heap.objs.size code)) := ⟨hr.hd, by have := hr.dp; show X.A.depth + 1 + 3 * k + 5 < _; omega, by have := hr.un; show X.A.units + 1 + 1 + 3 + 16 * k + 200 < _; omega⟩
  have begun := gx_start (code := code) (A0 := X.A.in1.in1) (s5 := s5.setGen gn .running) M.inv S.blk hN S.cell M.own M.inv.ok.frames hr.hd M.os (allBare_setGen M.bare rfl) M.keep M.ns
  have old : s4.heap.objs.size ≤ a := Nat.le_of_lt M.young
  have pinned : Inv (gxC X (X.A.in1.in1.deeper (gxE X scope s4.heap.objs.size code)) s4 H2 (gxE X scope s4.heap.objs.size code) fp) [(a, go)] (wipe σ (own.map (·.2))) H2 (s5.setGen gn .running) := begun.pins_of fun p hp => by
    cases List.mem_singleton.mp hp
    exact ⟨M.at_, M.inv.hok.fresh old, Nat.ne_of_gt M.young, fun z => (List.mem_cons.mp (M.inv.stkSub a z)).elim (fun e => Nat.lt_irrefl _ (Nat.lt_of_lt_of_le M.inv.lt (e ▸ old))) (M.inv.nofs old), M.nocell⟩
  have st5 : tn 0 s5.heap := M.turn.keep _ _ _ M.st fun b _ o e => M.keep b o e
  have apart : ∀ acc pl, alone a go acc pl → ∀ p ∈ pl, p.1 ∉ fp := fun _ pl e p hp z => by
    cases e
    cases List.mem_singleton.mp hp
    exact Nat.lt_irrefl _ (Nat.lt_trans M.young (M.own a z).2)
  refine ⟨M.gen _ M.at_, M.inv.nolimit.keeps M.keep, _, M.fresh, rfl, ?_⟩
  have run := seg_gx (iter := iter) (scope := scope) (pos := gpos) rfl rfl rfl rfl rfl S.co M.turn (hg _ s4 H2 _ code fp room) (ht _ s4 H2 _ code fp room) (he _ s4 H2 _ code fp room) apart turn m0 (m0 + 1) () 0 _ (s5.setGen gn .running) _ H2 (Nat.le_refl _) w0 rfl pinned st5 fun b hb => (M.own b hb).1.1
  show Seg _ _ _ _ _ _ _ ((compStart _ 0 (.ref it) .none _).onRaise (leaving _)) [] _
  rw [Sem.onRaise_eq_wrap]
  unfold compStart
  refine seg_bind_wrap (m := ask) (wpAny_askSetting ?_)
  split
  · exact seg_again rfl run
  · refine seg_bind_wrap (wpAny_rule ?_)
    show Seg _ _ _ _ _ _ _ ((standAt _ >>= _).wrap _ _ _ _) _ _
    exact seg_bind_wrap (wpAny_standAt (seg_bind_wrap (M.turn.self _ 0 _ _ _ st5 (seg_again rfl run))))
/-- back in the def's own context -/
theorem back {pins : List (Addr × Obj)} {σ : L2.St} {H2 : Hp} {s4 s' : Shared} {fp : List Addr} {B : Around} {cenv : Env} {Q : Hp → Prop} (I : Inv X pins σ H2 s4) (f : ∀ b ∈ fp, FpOk X pins H2 b ∧ b < s4.heap.objs.size) (h : After (gxC X B s4 H2 cenv fp) Q s') : ∃ H', Inv X pins σ H' s' ∧ Q H' := by
  obtain ⟨pl, σ1, H1, s1, I1, ho, hb, hk, q⟩ := h
  refine ⟨H1, I.call' (ch := fp) (ho.trans I1.os) (I1.base.trans (Un.kept hk)) (I1.hok.kept hk) hb fun b z => ?_, q⟩
  obtain ⟨⟨_, f1, _, f3, f4, f5⟩, _⟩ := f b z
  exact ⟨f3, f1, f4, f5⟩
theorem pe_allG (hr : Room (k + 1) X.A) (hN : X.N.Nodup) (hgl : Gl X "all") (hm : X.mg "all" = none) (TB : GxR.TabB X.base X.mg c P) (hc : X.env.code = .ref c) (hi : PI X tg iter wi) (blk : BlkOk X.N X.env.scope scope own)
    (hg : Within X scope k fun G => PG G tg g) (ht : Within X scope k fun G => PTs G ifs tt) (he : Within X scope k fun G => PE G elt te)
    (cell : ∀ y ∈ scope.names, y.2 ≠ .cell := by decide +kernel) (co : scope.isCoroutine = false := by rfl) (dot : scope.names.lookup (".0" : Str) = some NameKind.local := by rfl) (hs : ∀ v, genFold iter X.env v = pure v := by intro _; rfl)
    (hst : starEach [.GeneratorExp elt [⟨tg, iter, ifs, 0⟩] scope gpos] X.env = (false, eval (.GeneratorExp elt [⟨tg, iter, ifs, 0⟩] scope gpos) X.env) :: starEach [] X.env := by rfl) :
    PE X (.Call (.Name "all" p) [.GeneratorExp elt [⟨tg, iter, ifs, 0⟩] scope gpos] [] pos) (tAA P false wi g tt te (own.map (·.2))) := ⟨fun pins s σ H Q I h => by
  refine wpAny_Call_Name_kw (ld_blt I hgl hm boot_all (PyProof.Rows.callWith_builtin1 ?_ hst (by rfl)))
  rw [hst]
  show wpAny _ _ (spliced ((false, _) :: backTo pos _)) _ _ s
  refine Calls.spliced_cons (making hr TB hc ⟨blk, cell, co, dot⟩ hi hs I h fun J H2 a s5 gn go fp it tn s4 code m ⟨W, ⟨m0, w0⟩, turn⟩ M => Calls.spliced_nil ?_)
  refine call_function_tree F.kind_all F.plain_all F.entry_all (F.args_all1 (.ref a)) (wpAny_bind (m := oneArg "all" _) (wpAny_pure (wpAny_bind (wpAny_pyIter_gen (M.gen _ M.at_) (wpAny_pure ⟨plainId_quiet F.plain_all_loop _, ?_⟩)))))
  refine all_draws (G := gxC X (X.A.in1.in1.deeper (gxE X scope s4.heap.objs.size code)) s4 H2 (gxE X scope s4.heap.objs.size code) fp) (Qe := Q (.bl true)) (Qf := Q (.bl false)) M.gen hr.hd hr.depth (fun s' q => ?_) (fun s' q => ?_) (m0 + 1) s5 (ready M hr hN ⟨blk, cell, co, dot⟩ hg ht he w0 fun _ => turn)
  · exact (back M.inv M.own q).elim fun H' z => ⟨.bl true, H', z.1, rfl, z.2⟩
  · exact (back M.inv M.own q).elim fun H' z => ⟨.bl false, H', z.1, rfl, z.2⟩⟩
theorem pe_anyG (hr : Room (k + 1) X.A) (hN : X.N.Nodup) (hgl : Gl X "any") (hm : X.mg "any" = none) (TB : GxR.TabB X.base X.mg c P) (hc : X.env.code = .ref c) (hi : PI X tg iter wi) (blk : BlkOk X.N X.env.scope scope own)
    (hg : Within X scope k fun G => PG G tg g) (ht : Within X scope k fun G => PTs G ifs tt) (he : Within X scope k fun G => PE G elt te)
    (cell : ∀ y ∈ scope.names, y.2 ≠ .cell := by decide +kernel) (co : scope.isCoroutine = false := by rfl) (dot : scope.names.lookup (".0" : Str) = some NameKind.local := by rfl) (hs : ∀ v, genFold iter X.env v = pure v := by intro _; rfl)
    (hst : starEach [.GeneratorExp elt [⟨tg, iter, ifs, 0⟩] scope gpos] X.env = (false, eval (.GeneratorExp elt [⟨tg, iter, ifs, 0⟩] scope gpos) X.env) :: starEach [] X.env := by rfl) :
    PE X (.Call (.Name "any" p) [.GeneratorExp elt [⟨tg, iter, ifs, 0⟩] scope gpos] [] pos) (tAA P true wi g tt te (own.map (·.2))) := ⟨fun pins s σ H Q I h => by
  refine wpAny_Call_Name_kw (ld_blt I hgl hm boot_any (PyProof.Rows.callWith_builtin1 ?_ hst (by rfl)))
  rw [hst]
  show wpAny _ _ (spliced ((false, _) :: backTo pos _)) _ _ s
  refine Calls.spliced_cons (making hr TB hc ⟨blk, cell, co, dot⟩ hi hs I h fun J H2 a s5 gn go fp it tn s4 code m ⟨W, ⟨m0, w0⟩, turn⟩ M => Calls.spliced_nil ?_)
  refine call_function_tree F.kind_any F.plain_any F.entry_any (F.args_any1 (.ref a)) (wpAny_bind (m := oneArg "any" _) (wpAny_pure (wpAny_bind (wpAny_pyIter_gen (M.gen _ M.at_) (wpAny_pure ⟨plainId_quiet F.plain_any_loop _, ?_⟩)))))
  refine any_draws (G := gxC X (X.A.in1.in1.deeper (gxE X scope s4.heap.objs.size code)) s4 H2 (gxE X scope s4.heap.objs.size code) fp) (Qe := Q (.bl false)) (Qf := Q (.bl true)) M.gen hr.hd hr.depth (fun s' q => ?_) (fun s' q => ?_) (m0 + 1) s5 (ready M hr hN ⟨blk, cell, co, dot⟩ hg ht he w0 fun _ => turn)
  · exact (back M.inv M.own q).elim fun H' z => ⟨.bl false, H', z.1, rfl, z.2⟩
  · exact (back M.inv M.own q).elim fun H' z => ⟨.bl true, H', z.1, rfl, z.2⟩⟩
end
end Gx
/-! helpers over the hand layer, whatever the row -/
namespace Hx
open L2 PySem PySem.Spec PyProof.Rows
/-! ### heaps that grow, tables aside -/
def TabsG (T : List Addr) (H : Hp) : Prop := ∀ P ∈ T, GxR.TabG H P
structure Gr (T : List Addr) (H H' : Hp) : Prop where
  keep : ∀ b o, H b = some o → b ∉ T → H' b = some o
  tabs : TabsG T H'
theorem TabsG.out {T : List Addr} {H : Hp} (t : TabsG T H) {b : Addr} {o : HO} (e : H b = some o) (n : ∀ ps, o ≠ .tbl ps) : b ∉ T := fun hb => by
  obtain ⟨ps, q, _⟩ := t b hb
  rw [q] at e
  exact n ps (Option.some.inj e).symm
theorem TabsG.none {T : List Addr} {H : Hp} (t : TabsG T H) {b : Addr} (e : H b = none) : b ∉ T := fun hb => by
  obtain ⟨ps, q, _⟩ := t b hb
  rw [q] at e
  cases e
theorem Gr.refl {T : List Addr} {H : Hp} (t : TabsG T H) : Gr T H H := ⟨fun _ _ e _ => e, t⟩
theorem Gr.trans {T : List Addr} {H H1 H2 : Hp} (a : Gr T H H1) (b : Gr T H1 H2) : Gr T H H2 := ⟨fun c o e n => b.keep c o (a.keep c o e n) n, b.tabs⟩
theorem Gr.free {T : List Addr} {H H' : Hp} (t : TabsG T H) (g : Gr T H H') {p : Addr} (h : H' p = none) : H p = none := by
  cases q : H p with
  | none => rfl
  | some o =>
    by_cases hb : p ∈ T
    · exact absurd hb (g.tabs.none h)
    · rw [g.keep p o q hb] at h
      cases h
theorem Gr.at {T : List Addr} {H H' : Hp} (g : Gr T H H') (t : TabsG T H) {b : Addr} {o : HO} (e : H b = some o) (n : ∀ ps, o ≠ .tbl ps) : H' b = some o := g.keep b o e (t.out e n)
/-- a new object -/
theorem Gr.new {T : List Addr} {H : Hp} (t : TabsG T H) {p : Addr} (o : HO) (h : H p = none) : Gr T H (upd H p o) := by
  have hp : p ∉ T := t.none h
  refine ⟨fun b x e _ => by rw [upd_ne (ne_of_none e h)]; exact e, fun P hP => ?_⟩
  obtain ⟨ps, q, r⟩ := t P hP
  exact ⟨ps, by rw [upd_ne (show P ≠ p from fun z => hp (by rw [← z]; exact hP))]; exact q, r⟩
/-- an object that is ours (made since H) is written -/
theorem Gr.own {T : List Addr} {H H1 : Hp} (g : Gr T H H1) (t : TabsG T H) {p : Addr} (o : HO) (h : H p = none) : Gr T H (upd H1 p o) := by
  have hp : p ∉ T := t.none h
  refine ⟨fun b x e n => by rw [upd_ne (ne_of_none e h)]; exact g.keep b x e n, fun P hP => ?_⟩
  obtain ⟨ps, q, r⟩ := g.tabs P hP
  exact ⟨ps, by rw [upd_ne (show P ≠ p from fun z => hp (by rw [← z]; exact hP))]; exact q, r⟩
theorem TabsG.upd {T : List Addr} {H : Hp} (t : TabsG T H) {p : Addr} (o : HO) (hp : p ∉ T) : TabsG T (upd H p o) := fun P hP => by
  obtain ⟨ps, q, r⟩ := t P hP
  exact ⟨ps, by rw [upd_ne (show P ≠ p from fun z => hp (by rw [← z]; exact hP))]; exact q, r⟩
/-- a table has grown -/
theorem Gr.tab {T : List Addr} {H H' : Hp} {P : Addr} (t : TabsG T H) (hP : P ∈ T) (h : GxR.Tabbed P H H') : Gr T H H' := by
  refine ⟨fun b o e n => by rw [h.2 b (fun z => n (z ▸ hP))]; exact e, fun P' hP' => ?_⟩
  by_cases z : P' = P
  · rw [z]; exact h.1
  · obtain ⟨ps, q, r⟩ := t P' hP'
    exact ⟨ps, by rw [h.2 _ z]; exact q, r⟩
theorem notbl_lst {xs : List V} : ∀ ps, HO.lst xs ≠ .tbl ps := fun _ z => by cases z
theorem notbl_tup {xs : List V} : ∀ ps, HO.tup xs ≠ .tbl ps := fun _ z => by cases z
theorem notbl_dK {xs : List (Key × V)} : ∀ ps, HO.dK xs ≠ .tbl ps := fun _ z => by cases z
theorem notbl_frz {o : Obj} {u : HO} : ∀ ps, HO.frz o u ≠ .tbl ps := fun _ z => by cases z
theorem Gr.seqL {T : List Addr} {K : PySem.W.Frag} {H H' : Hp} {a : Addr} {xs : List V} (g : Gr T H H') (t : TabsG T H) (h : SqL K H a xs) : SqL K H' a xs := by
  exact h.imp_left fun z => z.imp (fun y => g.at t y notbl_lst) fun ⟨o, y⟩ => ⟨o, g.at t y notbl_frz⟩
theorem Gr.seqT {T : List Addr} {K : PySem.W.Frag} {H H' : Hp} {a : Addr} {xs : List V} (g : Gr T H H') (t : TabsG T H) (h : SqT K H a xs) : SqT K H' a xs := by
  exact h.imp_left fun z => z.imp (fun y => g.at t y notbl_tup) fun ⟨o, y⟩ => ⟨o, g.at t y notbl_frz⟩
/-! ### a def whose code object is known -/
structure FunT (K : PySem.W.Frag) (x qual : Str) (st : Stmt) (f c : Addr) (fd : FuncData) : Prop where
  ex : ∃ (oc : Value) (od : Option Addr) (kV doc pm : Value) (an : Option Addr) (ct : Value) (osl : Array (Option Value)),
    fd = PySem.W.fnOf x qual (defArgs st) (defBody st) (defScope st) .none kV doc pm an (.ref c) ct ∧ K.lookup f = some ⟨oc, od, .func fd, osl⟩ ∧ PySem.W.codeIn K (.ref c) qual = true
  kp : (PySem.W.keepIn K (.ref f) = true)
section
variable {K : PySem.W.Frag} {P : Program} {w : World} {base : Heap} {mg : Str → Option Value}
theorem FunT.fun {x qual : Str} {st : Stmt} {f c : Addr} {fd : FuncData} (F : FunT K x qual st f c fd) : Fun K x qual st f fd := by
  obtain ⟨oc, od, kV, doc, pm, an, ct, osl, e, lk, hcd⟩ := F.ex
  exact ⟨⟨oc, od, kV, doc, pm, an, .ref c, ct, osl, e, lk, hcd⟩, F.kp⟩
theorem FunT.ok {x qual : Str} {st : Stmt} {f c : Addr} {fd : FuncData} {N ps : List Str} {k : Nat} {sp : Sp} (F : FunT K x qual st f c fd) (S : FnScope N ps (defScope st)) (len : ∀ vs H Q E, sp vs H Q E → vs.length = ps.length)
    (hbody : ∀ (A : Around) (outer : List Env) (s : Shared) (H : Hp) (vs : List V) (Q : VK) (E : XK), Room k (A.deeper (envOfC qual (defScope st) s.heap.objs.size f (.ref c))) → sp vs H Q E →
      ∃ t, PSs (cxOf CX0 P w K mg base N qual (defScope st) f (.ref c) A outer s H E).nox (defBody st) t ∧ t { nx := fun _ H' => Q .non H', rt := Q } (start N vs) H) : FnOk P w K mg base CX0 (k + 1) f fd ps sp := by
  obtain ⟨oc, od, kV, doc, pm, an, ct, osl, rfl, lk, hcd⟩ := F.ex
  exact fn_of lk hcd S len fun A outer s H vs Q E room asked => (hbody A outer s H vs Q E room asked).elim fun t z => ⟨t, z.1.nox, z.2⟩
end
/-! ### == of plain data -/
section
variable {X : Cx}
def rEqP (K : PySem.W.Frag) : R2 := fun x y H Q => ∃ d e, Dp K H x d ∧ Dp K H y e ∧ d.plain = true ∧ e.plain = true ∧ min d.depth e.depth ≤ 64 ∧ Q (.bl (PyData.eqv d e)) H
def rNeP (K : PySem.W.Frag) : R2 := fun x y H Q => ∃ d e, Dp K H x d ∧ Dp K H y e ∧ d.plain = true ∧ e.plain = true ∧ min d.depth e.depth ≤ 64 ∧ Q (.bl (!PyData.eqv d e)) H
theorem op_eqP (hu : X.A.units + 64 < cLine) : OpR X (compareOp .Eq) (rEqP X.K) := fun pins s σ H x y v u Q I rx ry ⟨d, e, hd, he, sd, se, hm, q⟩ =>
  (Dp.reads I d x v hd rx).elim fun as r1 => (Dp.reads I e y u he ry).elim fun bs r2 => SeqAt.eq_plain r1 r2 sd se (by omega) ⟨.bl _, H, I, rfl, q⟩
theorem op_neP (hu : X.A.units + 64 < cLine) : OpR X (compareOp .NotEq) (rNeP X.K) := fun pins s σ H x y v u Q I rx ry ⟨d, e, hd, he, sd, se, hm, q⟩ =>
  (Dp.reads I d x v hd rx).elim fun as r1 => (Dp.reads I e y u he ry).elim fun bs r2 => SeqAt.ne_plain r1 r2 sd se (by omega) ⟨.bl _, H, I, rfl, q⟩
end
theorem dp_ints {K : PySem.W.Frag} {H : Hp} : ∀ ns : List Int, DpAll K H (ns.map V.int) (ns.map PyData.int)
  | [] => .nil
  | n :: r => .cons (.int n) (dp_ints r)
theorem plain_ints : ∀ ns : List Int, PyData.plainAll (ns.map PyData.int) = true
  | [] => rfl
  | _ :: r => by simp only [List.map_cons, PyData.plainAll, PyData.plain, plain_ints r, Bool.and_self]
theorem dp_strs {K : PySem.W.Frag} {H : Hp} : ∀ ns : List Str, DpAll K H (ns.map V.str) (ns.map PyData.str)
  | [] => .nil
  | n :: r => .cons (.str n) (dp_strs r)
theorem plain_strs : ∀ ns : List Str, PyData.plainAll (ns.map PyData.str) = true
  | [] => rfl
  | _ :: r => by simp only [List.map_cons, PyData.plainAll, PyData.plain, plain_strs r, Bool.and_self]
theorem depth_strs : ∀ ns : List Str, PyData.depthAll (ns.map PyData.str) = 0
  | [] => rfl
  | _ :: r => by simp only [List.map_cons, PyData.depthAll, PyData.depth, depth_strs r, Nat.max_self]
theorem eqv_strs : ∀ xs ys : List Str, PyData.eqvAll (xs.map PyData.str) (ys.map PyData.str) = decide (xs = ys)
  | [], [] => rfl
  | [], _ :: _ => rfl
  | _ :: _, [] => rfl
  | x :: xs, y :: ys => by
    simp only [List.map_cons, PyData.eqvAll, PyData.eqv, eqv_strs xs ys]
    by_cases h : x = y
    · subst h
      by_cases h2 : xs = ys
      · subst h2; simp
      · simp [h2]
    · simp [h]
theorem if0 {c : Bool} {A B : Prop} (hc : c = false) (h : B) : if c = true then A else B := by
  rw [hc, if_neg Bool.false_ne_true]
  exact h
theorem if1 {c : Bool} {A B : Prop} (hc : c = true) (h : A) : if c = true then A else B := by
  rw [if_pos hc]
  exact h
theorem ifne {c d : Bool} {A B : Prop} (hc : c ≠ d) (h : B) : if c = d then A else B := by
  rw [if_neg hc]
  exact h
theorem ifeq {c d : Bool} {A B : Prop} (hc : c = d) (h : A) : if c = d then A else B := by
  rw [if_pos hc]
  exact h
theorem tyes {σ : L2.St} {H : Hp} {A B : Hp → Prop} (h : A H) : tYes σ H (fun b H3 => if b = true then A H3 else B H3) := @iteT (A H) (B H) h
end Hx
/-! an own exception whose __init__(self, x) says super().__init__(text), then one statement -/
namespace Xs
open L2 PySem PySem.Spec PyProof.Rows NdefX
/-- what the written part says of such a class -/
structure IniC (P : Program) (K : PySem.W.Frag) (mg : Str → Option Value) (C cc : Addr) (F : NF) : Prop where
  T : OexC K C
  cl : F.cl = [(("__class__" : Str), cc)]
  code : PySem.W.codeIn K (.ref F.c) F.qual = true
  file : ∃ (ccl : Value) (cdd : Option Addr) (vs : Array Value) (ccs : Array (Option Value)) (file : Str) (tf : Tok), K.lookup F.c = some ⟨ccl, cdd, .fields vs, ccs⟩ ∧ vs[2]? = some (.str file tf) ∧ ((P.main.file : Str) == file) = true
  cell : ∃ (cl : Value) (cld : Option Addr) (csl : Array (Option Value)), K.lookup cc = some ⟨cl, cld, .cell (some (.ref C)), csl⟩
  self : PySem.W.mroIn K C (.ref C) = some true
  up : PySem.W.ks_superIn K C C "__init__" = some (some (.builtin "ValueError.__init__"))
  sub : PySem.W.subIn K (.ref C) (.type "ValueError") = some true
  st : PySem.W.nsIn K cStatics "thirdparty.any" = some none
  ms : mg "super" = none
  top : (P.main.scope.names.lookup ("super" : Str)).isSome = false
section
variable {X : Cx} {pins : List (Addr × Obj)} {σ : L2.St} {H : Hp} {s : Shared} {a C u : Addr} {us : List Value} {A : Around} {E : Value → Shared → Prop}
/-- the bound __init__ is called: of the exception nothing is told anew -/
theorem bound_ok {Q : Value → Shared → Prop} (T : OexC X.K C) (I : Inv X pins σ H s) (e : H a = some (exo a C none)) (hu : s.heap.get? u = some (PySem.W.kxs_mw "ValueError.__init__" a)) (hl : us.length ≤ sizeLine) (h : ∀ s', Inv X pins σ H s' → Q .none s') :
    wpAny (model X.prog X.w) A (call (.ref u) us) Q E s := by
  obtain ⟨nm, q, N, bs, bm, sn, sub, ab, col, dd, k0, k1, k2, k3, k5, hC, _⟩ := T.cls
  have ⟨t1, ho⟩ := exo_at I.hok e
  have same : upd H a (exo a C none) = H := funext fun b => by
    by_cases hb : b = a
    · rw [hb, upd_same, e]
    · rw [upd_ne hb]
  have out : ∀ h' t2 (t' : Nat), (∀ b o, b ≠ a → s.heap.get? b = some o → h'.get? b = some o) → h'.get? a = some ({ cls := .ref C, dict := none, data := .fields #[.ref t2, .none, .none, .none, .bool false, .none] } : Obj) → Q .none { s with heap := h', toks := t' } := fun h' t2 t' k hx =>
    h _ (same ▸ I.write (t' := t') (x := a) (e := a) (o := exo a C none) (by rw [e]; exact True.intro) (.inl rfl) k ⟨_, hx⟩ (exo_ok hx))
  have FB := PySem.F.excBase_ValueError
  have kC := I.kIn _ _ hC
  obtain ⟨hp, g, d, t, os⟩ := s
  refine wpAny_call (codeAny_of_tree (show wpAny _ _ (callAny (.ref u) ⟨us, []⟩) _ _ _ from ?_))
  unfold callAny
  refine wpAny_bind (wpAny_load hu (PySem.W.KFB.if_so (by rfl) (PySem.W.KFB.if_so (by rfl) (wpAny_bind ?_))))
  refine PySem.W.check_bound_init FB.toExcCallFacts kC ho rfl ?_
  exact wpAny_pure ⟨plainId_quiet FB.init.plain _, codeAny_builtin FB.initEntry (PySem.W.exc_init_tree (cls := .ref C) (t0 := t1) (dv := none) (c2 := .none) (c3 := .none) (b4 := .bool false) ho hl fun h' k hx _ => out h' _ t k hx)⟩
end
section
variable {P : Program} {w : World} {K : PySem.W.Frag} {mg : Str → Option Value} {base : Heap} {C cc f1 : Addr} {F : NF} {N : List Str} {x : Str} {k : Nat}
theorem cells_at {A : Around} {outer : List Env} {s : Shared} {H : Hp} (D : IniC P K mg C cc F) (e0 : Env0 P w K mg base A outer s H) : CellsAt F.cl ["__class__"] [none] s.heap H := by
  obtain ⟨cl, cld, csl, hcell⟩ := D.cell
  have q := e0.bs cc _ (e0.mod.kin _ _ hcell)
  have one : ∀ y c, F.cl.lookup y = some c → y = "__class__" ∧ c = cc := fun y c z => by
    rw [D.cl] at z
    have m := PySem.mem_of_lookup z
    have m2 := List.mem_singleton.mp m
    injection m2 with m3 m4
    exact ⟨m3, m4⟩
  refine ⟨rfl, fun y c z => ?_, fun y z c h1 h2 => (one y c h1).1.trans (one z c h2).1.symm, fun i y z => ?_⟩
  · rw [(one y c z).2]
    exact ⟨q.2, _, _, q.1, rfl⟩
  · refine ⟨cc, ?_, fun v hv => ?_⟩
    · rw [List.mem_singleton.mp (List.mem_of_getElem? z), D.cl]
      rfl
    · cases i with
      | zero => cases hv
      | succ j => cases hv
/-- the def by its parts -/
theorem ini_ok {oc : Value} {od : Option Addr} {osl : Array (Option Value)} {doc pm ctv : Value} {e : Expr} {st : Stmt} {p0 p1 p2 p3 p4 : Pos} {ar : Arg} {sp : Sp} (D : IniC P K mg C cc F) (lk : K.lookup f1 = some ⟨oc, od, .func (F.fd doc pm ctv), osl⟩)
    (S : NScope N ["self", x] ["__class__"] F.scope) (hks : F.scope.names.lookup ("super" : Str) = some .globalImplicit)
    (hbd : F.body = [.Expr (.Call (.Attribute (.Call (.Name "super" p0) [] [] p1) "__init__" p2) [e] [] p3) p4, st])
    (har : (F.params.posonlyargs ++ F.params.args).head? = some ar) (ha : ar.arg = "self") (len : ∀ vs H Q E, sp vs H Q E → vs.length = 2)
    (hb : ∀ (A : Around) (outer : List Env) (s : Shared) (H : Hp) (vs : List V) (Q : VK) (E : XK), Room k (A.deeper (envF F f1 s.heap.objs.size)) → sp vs H Q E → ∃ (a : Addr) (te : TE) (ts : TS), vs[0]? = some (.ref a) ∧ H a = some (exo a C none) ∧
      PE (ncx CX0 P w K mg base N F f1 A outer s H E) e te ∧ PS (ncx CX0 P w K mg base N F f1 A outer s H E) st ts ∧
      te (startF N vs [none]) H fun v H1 => H1 a = some (exo a C none) ∧ ts { nx := fun _ H' => Q .non H', rt := Q } (startF N vs [none]) H1)
    (hst : ∀ env : Env, starEach [e] env = (false, eval e env) :: starEach [] env := by intro _; rfl) (hin : ∀ L : Addr, interactive (envF F f1 L) = false := by intro _; rfl)
    (hsw : ∀ L : Addr, swapsWith (.Call (.Attribute (.Call (.Name "super" p0) [] [] p1) "__init__" p2) [e] [] p3) none p4.line (envF F f1 L) = pure false := by intro _; rfl)
    (hev : ∀ L : Addr, ∃ pl : Sem Bool, eval (.Call (.Attribute (.Call (.Name "super" p0) [] [] p1) "__init__" p2) [e] [] p3) (envF F f1 L) = (do
      let ov ← attributeBase (.Call (.Name "super" p0) [] [] p1) "__init__" (envF F f1 L) (eval (.Call (.Name "super" p0) [] [] p1) (envF F f1 L))
      standAt p2.atName
      let (fn, first) ← holding [ov] (getMethod ov "__init__" pl)
      callWith p3 fn first (backTo p3 (starEach [e] (envF F f1 L))) []) := by intro _; exact ⟨_, rfl⟩) :
    FnOk P w K mg base CX0 (k + 1) f1 (F.fd doc pm ctv) ["self", x] sp := by
  refine ⟨len, fun A outer s H args us vs Q E hr e0 hbi r hsp => ?_⟩
  have kept : ∀ b o, base.get? b = some o → s.heap.get? b = some o := fun b o z => (e0.bs b o z).1
  have KX : K.In s.heap := e0.mod.kin.keeps kept
  refine ks_codeAny_call_defAt (fd := F.fd doc pm ctv) (body := F.body) (binds := List.zip (α := Str) ["self", x] us) hr.depth (KX _ _ lk) rfl (e0.mod.nolimit.keeps kept) (PySem.W.codeRec_of KX D.code) rfl hbi S.nocell (fun y hy => S.par y.1 (List.of_mem_zip hy).1) (fun h₁ hns kp => ?_) S.co S.gen S.kind
  obtain ⟨a, te, ts, hv, ea, pe, ps, q⟩ := hb A outer s H vs Q E (hr.deeper _) hsp
  have I : Inv (ncx CX0 P w K mg base N F f1 A outer s H E) [] (startF N vs [none]) H { s with heap := h₁, toks := s.toks + (List.zip (α := Str) ["self", x] us).length } := inv_startN S hr.hd e0 (len _ _ _ _ hsp) r (cells_at D e0) hns kp
  show PySem.wpAt (model P w) (A.deeper (envF F f1 s.heap.objs.size)) (.func F.body (envF F f1 s.heap.objs.size)) (execs F.body (envF F f1 s.heap.objs.size)) _ _ _
  generalize hs2 : ({ s with heap := h₁, toks := s.toks + (List.zip (α := Str) ["self", x] us).length } : Shared) = s2 at I ⊢
  generalize hcode : Code.func F.body (envF F f1 s.heap.objs.size) = code
  rw [hbd]
  obtain ⟨pl, hev⟩ := hev s.heap.objs.size
  refine ks_wpAt_execs_cons (ks_wpAt_Expr_any (ks_wpAt_MethodCall ?_ hev) (hin _) (hsw _))
  subst hcode
  obtain ⟨ccl, cdd, cvs, ccs, file, tf, hcd, hfl, hfe⟩ := D.file
  obtain ⟨cl, cld, csl, hcell⟩ := D.cell
  obtain ⟨nm, qn, NS, bs, bm, sn, sub, ab, col, dd, k0, k1, k2, k3, k5, hC, _⟩ := D.T.cls
  obtain ⟨mb, b1, b2⟩ := I.mod.blt
  obtain ⟨m, hm, look⟩ := I.loc
  have N0 : N[0]? = some ("self" : Str) := by
    have z := congrArg (fun l : List Str => l[0]?) S.pre
    rw [List.getElem?_take_of_lt (by show 0 < 3; decide)] at z
    exact z
  have selfL : F.scope.names.lookup ("self" : Str) = some .local := S.par _ List.mem_cons_self
  have hself : m "self" = some (.ref a) := by
    have s0 : (startF N vs [none])[0]? = some (some (.ref a)) := by
      unfold startF
      cases vs with
      | nil => cases hv
      | cons v r => cases hv; rfl
    obtain ⟨u, ru, lk2⟩ := look 0 "self" (.ref a) N0 s0 (.inl selfL)
    cases ru
    refine lk2.elim And.right fun z => ?_
    have z1 : F.scope.names.lookup ("self" : Str) = some .cell ∨ F.scope.names.lookup ("self" : Str) = some .free := z.1
    rw [selfL] at z1
    exact z1.elim (fun y => by cases y) fun y => by cases y
  have frk : F.scope.names.lookup ("__class__" : Str) = some .free := S.frk _ List.mem_cons_self
  have hcells : F.cl.lookup ("__class__" : Str) = some cc := by rw [D.cl]; rfl
  obtain ⟨t1, ho⟩ := exo_at I.hok ea
  have kC := I.kIn _ _ hC
  refine ks_wpAt_super_base (body := F.body) (env := envF F f1 s.heap.objs.size) hks frk (by decide) rfl (I.kIn _ _ lk) rfl har rfl (I.kIn _ _ hcd) rfl hfl hfe D.top ?_
  rw [ha]
  refine PySem.W.ks_loadName_global S.kind hks (Calls.loadGlobal_builtin (env := envF F f1 s.heap.objs.size) (I.mod.glob.keeps I.bk) D.ms (b1.keeps I.bk) ((b2 _ (by decide)).trans (by decide +kernel)) ⟨rfl, ?_⟩)
  refine wpAny_loadName_free S.kind frk hcells ⟨_, I.kIn _ _ hcell, rfl⟩ (wpAny_loadName_local S.kind selfL hm hself (ks_wpAny_isType_cls kC rfl ⟨rfl, ?_⟩))
  obtain ⟨hp, g, d, t, os⟩ := s2
  refine ks_wpAny_call_super kC rfl ho rfl (fun c z => by cases z) (PySem.W.looks_mroIn I.kIn D.self) (fun h2 hso k2 => ?_)
  have I2 : Inv (ncx CX0 P w K mg base N F f1 A outer s H E) [] (startF N vs [none]) H ⟨h2, g, d, t, os⟩ := I.kept (t' := t) k2
  have hup := D.up
  unfold PySem.W.ks_superIn at hup
  have inst : PySem.W.InstAt h2 a { cls := .ref C, data := .fields #[.ref t1, .none, .none, .none, .bool false, .none] } C none := ⟨k2 _ _ ho, rfl, rfl, trivial⟩
  cases hcls : PySem.W.clsIn K C with
  | none => rw [hcls] at hup; cases hup
  | some cd =>
    rw [hcls] at hup
    refine PySem.W.kxs_getMethod PySem.W.kxs_ValueError hso (PySem.W.looks_opaque I2.kIn D.st) (l₀ := cd.mro) ((PySem.W.looks_clsIn I2.kIn hcls).andThen .now) rfl I2.kIn hup (inst.type.andThen (PySem.W.looks_subIn I2.kIn D.sub)) (PySem.W.ks_ne I2.kIn inst hcls) (by decide) ?_
    have I3 : Inv (ncx CX0 P w K mg base N F f1 A outer s H E) [] (startF N vs [none]) H ⟨h2.push (PySem.W.kxs_mw "ValueError.__init__" a), g, d, t + 1, os⟩ := I2.kept (t' := t + 1) fun b o z => Heap.get?_push_of_some _ z
    have fresh := I2.fpOk (Nat.le_refl _) (I2.hok.fresh (Nat.le_refl _))
    have I4 : Inv (ncx CX0 P w K mg base N F f1 A outer s H E) [(h2.objs.size, PySem.W.kxs_mw "ValueError.__init__" a)] (startF N vs [none]) H ⟨h2.push (PySem.W.kxs_mw "ValueError.__init__" a), g, d, t + 1, os⟩ := I3.pins_of fun p hp => by
      rw [List.mem_singleton.mp hp]
      exact ⟨Heap.get?_push_size _ rfl, fresh.1, fresh.2.1, fresh.2.2.1, fun v z => by cases z⟩
    rw [hst]
    refine PySem.W.kxs_callWith (i := "ValueError.__init__") (x := a) rfl (Calls.evalArgs_plain ?_)
    refine Calls.spliced_cons (thn (pe.run _ _ _ _ _ I4 q) fun v s5 ⟨y, H5, I5, ry, e5, q5⟩ => Calls.spliced_nil ?_)
    have hu5 := (I5.pin (h2.objs.size, PySem.W.kxs_mw "ValueError.__init__" a) (List.mem_append_right _ List.mem_cons_self)).1
    refine ⟨hu5, bound_ok D.T I5 e5 hu5 (by show 1 ≤ sizeLine; decide) fun s6 I6 => ?_⟩
    have I7 : Inv (ncx CX0 P w K mg base N F f1 A outer s H E) [] (startF N vs [none]) H5 s6 := I6.pins_of fun p hp => by cases hp
    refine wpAt_of_wpAny (wpAny_mono ((pss_one ps).run [] _ _ _ _ I7 q5) (fun fl s8 hs => ?_) fun _ _ z => z)
    have fin : ∀ {σ' : L2.St} {H' : Hp} {v : V} {u : Value}, Inv (ncx CX0 P w K mg base N F f1 A outer s H E) [] σ' H' s8 → RelV v u → Q v H' → CE outer P w H s Q u s8 := fun J rv qq => ⟨_, _, J.os, J.bare, J.base, J.hok, rv, qq⟩
    cases fl with
    | ret u => exact hs.elim fun v z => z.elim fun σ' z => z.elim fun H' z => fin z.1 z.2.1 z.2.2
    | next => exact hs.elim fun σ' z => z.elim fun H' z => fin (v := V.non) (u := Value.none) z.1 rfl z.2
    | brk => exact hs.elim fun _ z => z.elim fun _ z => z.2.elim
    | cont => exact hs.elim fun _ z => z.elim fun _ z => z.2.elim
end
end Xs
/-! {x} in an f-string: None, a text, an int, a list of texts (some text of bounded length) -/
namespace Xs
open L2 PySem PySem.Spec PyProof.Rows
section
variable {s : Shared} {A : Around} {prog : Program} {w : World} {E : Value → Shared → Prop}
/-- a list's repr, be it under way or not -/
theorem list_text {a : Addr} {o : Obj} {items : Array Value} {n : Nat} {ts : List Str} {Q : Value → Shared → Prop} (ha : s.heap.get? a = some o) (hc : o.cls = .type "list") (hd : o.data = .seq items n) (hT : ReprAll prog w items.toList ts) (hsz : (listText ts).length ≤ sizeLine)
    (h : ∀ (m : Str) (h' : Heap) (u tk : Tok), (∀ b o, s.heap.get? b = some o → h'.get? b = some o) → m.length ≤ (listText ts).length + 5 → Q (.str m u) { s with heap := h', toks := tk }) : wpAny (model prog w) A (call (.builtin "list.__repr__") [.ref a]) Q E s := by
  have hty : s.TypeIs (.ref a) "list" := ⟨o, ha, hc⟩
  obtain ⟨its⟩ := items
  cases its with
  | nil => exact call_list_repr_empty hty ha hd (h _ _ _ _ (fun _ _ e => e) (Nat.le_trans (show ("[]" : Str).length ≤ 5 by decide) (Nat.le_add_left _ _)))
  | cons x r =>
    refine wpAny_call (codeAny_call_builtin PySem.F.slot_list_repr.plain PySem.F.entry_list_repr (PySem.F.slot_list_repr.check _ _ _ _ _ _ _ _ hty (PySem.F.args_list_repr_1 _) ?_))
    show wpAny _ _ (Builtin.listReprAt 0 ⟨[.ref a], []⟩) _ _ s
    unfold Builtin.listReprAt
    refine wpAny_bind (wpAny_of_eq (a := ((Value.ref a : Value), ([] : List Value))) (by rfl) ?_)
    refine wpAny_bind (m := Builtin.List.listItems (.ref a)) (wpAny_bind (m := seqItems? (.ref a)) (wpAny_seqItems ha hd (wpAny_pure ?_)))
    refine PySem.W.KFB.if_not rfl ?_
    refine wpAny_bind (wpAny_stack_any fun st => ?_)
    generalize (st.tail.any _) = run
    cases run with
    | true => exact PySem.W.KFB.if_so rfl (wpAny_bind (wpAny_rule (wpAny_bind (wpAny_mkStr (wpAny_pure (h _ _ _ _ (fun _ _ e => e) (Nat.le_trans (show ("[...]" : Str).length ≤ 5 by decide) (Nat.le_add_left _ _)))) (by decide)))))
    | false =>
      refine PySem.W.KFB.if_not rfl (wpAny_bind (m := newList []) (wpAny_newObj_type (wpAny_pure ⟨PySem.F.quiet_list_repr_loop _, ?_⟩)))
      refine codeAny_list_repr_start (P := s.heap.objs.size) (items := ⟨x :: r⟩) (Nat.ne_of_lt (Heap.lt_size ha)) (by simpa using hT.length_eq) (fun i y hy => ?_) (Heap.get?_push_of_some _ ha) hd (Heap.get?_push_size _ rfl) (fun h' u tk hk => h _ h' u tk (fun b o e => hk b o (Nat.ne_of_lt (Heap.lt_size e)) (Heap.get?_push_of_some _ e)) (Nat.le_add_right _ _)) (by omega)
      have get : ∀ {l : List Value} {ts : List Str}, ReprAll prog w l ts → ∀ (i : Nat) (y : Value), l[i]? = some y → ∃ t, ts[i]? = some t ∧ ReprIs prog w y t := fun {l ts} q => by
        induction q with
        | nil => intro i y e; cases e
        | cons r1 _ ih =>
          intro i y e
          cases i with
          | zero => cases e; exact ⟨_, rfl, r1⟩
          | succ i => exact ih i y e
      exact get hT i y (by simpa using hy)
end
section
variable {X : Cx}
theorem texts_len : ∀ l : List Str, (∀ y ∈ l, ∀ c ∈ y.cps.toList, c < 16 ^ 8) → ((l.map reprText).map (·.length)).sum + 2 * (l.map reprText).length ≤ fmtCost l
  | [], _ => Nat.zero_le _
  | y :: l, h => by
    have one := StrLaws.reprText_len y (h y List.mem_cons_self)
    have h2 := texts_len l fun z hz => h z (List.mem_cons_of_mem _ hz)
    rw [fmtCost_cons]
    simp only [List.map_cons, List.sum_cons, List.length_cons] at h2 ⊢
    omega
/-- {x} -/
def tFmtV (K : PySem.W.Frag) (te : TE) : TE := fun σ H Q => te σ H fun x H1 => (x = .non ∧ Q (.str "None") H1) ∨ (∃ y : Str, x = .str y ∧ y.length ≤ sizeLine ∧ Q (.str y) H1) ∨ (∃ i : Int, x = .int i ∧ i.natAbs.log2 < 1920 ∧ Q (.str (toString i)) H1) ∨
  ∃ (a : Addr) (l : List Str), x = .ref a ∧ SqL K H1 a (l.map V.str) ∧ (∀ y ∈ l, ∀ c ∈ y.cps.toList, c < 16 ^ 8) ∧ fmtCost l + 8 ≤ sizeLine ∧ ∀ m : Str, m.length ≤ fmtCost l + 8 → Q (.str m) H1
theorem pe_fmtV {e : Expr} {te : TE} {pos : Pos} {k : Nat} (hr : Room k X.A) (he : PE X e te) : PE X (.FormattedValue e (-1) none pos) (tFmtV X.K te) := by
  refine ⟨fun pins s σ H Q I h => wpAny_FormattedValue_plain (thn (he.run pins s σ H _ I h) fun v s1 ⟨x, H1, I1, r1, q⟩ => ?_)⟩
  rcases q with ⟨rfl, q⟩ | ⟨y, rfl, hz, q⟩ | ⟨i, rfl, hz, q⟩ | ⟨a, l, rfl, hl, hc, hz, q⟩
  · cases r1
    exact wpAny_formatField_none ⟨.str "None", H1, I1.tok _, ⟨_, rfl⟩, q⟩
  · obtain ⟨t, rfl⟩ := r1
    refine wpAny_formatField_str ⟨V.str y, H1, I1, ⟨t, rfl⟩, ?_⟩ ⟨V.str y, H1, I1.tok _, ⟨_, rfl⟩, ?_⟩ hz <;> exact q
  · obtain ⟨t, rfl⟩ := r1
    refine wpAny_formatField_int hz ⟨V.str (toString i), H1, I1.tok _, ⟨_, rfl⟩, ?_⟩
    exact q
  · cases r1
    obtain ⟨its, rv, pl, _⟩ := I1.list hl
    obtain ⟨o, ho, hcl, n, hd⟩ := pl.isList
    have hp := texts_len l hc
    have ht := listText_len_le (l.map reprText)
    have hu := hr.units
    refine wpAny_formatField_slot (fun _ _ => nofun) (by omega) ⟨o, ho, hcl⟩ PySem.F.slot_list_format PySem.F.slot_list_str PySem.F.slot_list_repr.toG (list_text (ts := l.map reprText) ho hcl hd (repr_all (by simpa using rv) fun y hy => ?_) (by omega) fun m h' u tk k hm => ⟨m, u, rfl, .str m, H1, I1.kept k, ⟨u, rfl⟩, q m (by omega)⟩)
    have one := StrLaws.reprText_len y (hc y hy)
    have h2 := fmtCost_mem hy
    omega
end
end Xs
/-! such an exception made with one thing, where nothing is handled: its context is None -/
namespace Xs
open L2 PySem PySem.Spec PyProof.Rows NdefX
/-- what may stand in the text -/
def Fmt (K : PySem.W.Frag) (H : Hp) (v : V) : Prop := v = .non ∨ (∃ y : Str, v = .str y ∧ y.length ≤ 1000) ∨ (∃ i : Int, v = .int i ∧ i.natAbs.log2 < 1920) ∨ ∃ (a : Addr) (l : List Str), v = .ref a ∧ SqL K H a (l.map V.str) ∧ (∀ y ∈ l, ∀ c ∈ y.cps.toList, c < 16 ^ 8) ∧ fmtCost l ≤ 100000
theorem Fmt.new {K : PySem.W.Frag} {H : Hp} {v : V} {p : Addr} {o : HO} (h : Fmt K H v) (np : H p = none) : Fmt K (upd H p o) v := by
  refine h.imp_right (Or.imp_right (Or.imp_right fun ⟨a, l, e, q, z⟩ => ⟨a, l, e, q.imp_left fun y => y.imp (fun y => ?_) fun ⟨o', y⟩ => ⟨o', ?_⟩, z⟩))
  · rw [upd_ne (ne_of_none y np)]; exact y
  · rw [upd_ne (ne_of_none y np)]; exact y
/-- __init__'s promise -/
def spIni (K : PySem.W.Frag) (C : Addr) (fld : Str) : Sp := fun vs H Q _ => ∃ (a : Addr) (v : V), vs = [.ref a, v] ∧ H a = some (exo a C none) ∧ Fmt K H v ∧ ∀ dx, H dx = none → dx ≠ a → Q .non (upd (upd H dx (exd dx [(fld, v)])) a (exo a C (some dx)))
section
variable {P : Program} {w : World} {K : PySem.W.Frag} {mg : Str → Option Value} {base : Heap} {C cc f1 : Addr} {F : NF} {x : Str}
theorem text_small {txt y : Str} (h1 : txt.length ≤ 1000) (h2 : y.length ≤ 1000000) : (Str.empty ++ txt ++ y).length ≤ sizeLine := by
  have e : (Str.empty ++ txt ++ y).length = 0 + txt.length + y.length := by
    rw [strLen_append, strLen_append]
    rfl
  have z : 2000000 ≤ sizeLine := by decide
  omega
theorem text_head {txt : Str} (h1 : txt.length ≤ 1000) : (Str.empty ++ txt).length ≤ sizeLine := by
  have e : (Str.empty ++ txt).length = 0 + txt.length := by
    rw [strLen_append]
    rfl
  have z : 2000000 ≤ sizeLine := by decide
  omega
/-- __init__(self, x): super().__init__(f"txt{x}"); self.fld = x -/
theorem ok_ini {oc : Value} {od : Option Addr} {osl : Array (Option Value)} {doc pm ctv : Value} {p0 p1 p2 p3 p4 q1 q2 q3 q4 q5 q6 q7 q8 : Pos} {j : Nat} {ar : Arg} {txt fld : Str} (D : IniC P K mg C cc F) (lk : K.lookup f1 = some ⟨oc, od, .func (F.fd doc pm ctv), osl⟩)
    (S : NScope ["self", x, "__class__"] ["self", x] ["__class__"] F.scope) (hks : F.scope.names.lookup ("super" : Str) = some .globalImplicit)
    (hbd : F.body = [.Expr (.Call (.Attribute (.Call (.Name "super" p0) [] [] p1) "__init__" p2) [.JoinedStr [.Constant (.str txt) j q1, .FormattedValue (.Name x q2) (-1) none q3] q4] [] p3) p4, .Assign [.Attribute (.Name "self" q5) fld q6] (.Name x q7) q8])
    (har : (F.params.posonlyargs ++ F.params.args).head? = some ar) (ha : ar.arg = "self") (hfld : PySem.W.findIn K (.ref C) fld = some none) (htx : txt.length ≤ 1000) (hdx : (x == ("__debug__" : Str)) = false) (hdc : (x == ("__classdict__" : Str)) = false)
    (hin : ∀ L : Addr, interactive (envF F f1 L) = false := by intro _; rfl)
    (hsw : ∀ L : Addr, swapsWith (.Call (.Attribute (.Call (.Name "super" p0) [] [] p1) "__init__" p2) [.JoinedStr [.Constant (.str txt) j q1, .FormattedValue (.Name x q2) (-1) none q3] q4] [] p3) none p4.line (envF F f1 L) = pure false := by intro _; rfl)
    (hs2 : ∀ L : Addr, swapsWith (.Name x q7) (some (.Attribute (.Name "self" q5) fld q6)) q8.line (envF F f1 L) = pure false := by intro _; rfl)
    (hev : ∀ L : Addr, ∃ pl : Sem Bool, eval (.Call (.Attribute (.Call (.Name "super" p0) [] [] p1) "__init__" p2) [.JoinedStr [.Constant (.str txt) j q1, .FormattedValue (.Name x q2) (-1) none q3] q4] [] p3) (envF F f1 L) = (do
      let ov ← attributeBase (.Call (.Name "super" p0) [] [] p1) "__init__" (envF F f1 L) (eval (.Call (.Name "super" p0) [] [] p1) (envF F f1 L))
      standAt p2.atName
      let (fn, first) ← holding [ov] (getMethod ov "__init__" pl)
      callWith p3 fn first (backTo p3 (starEach [.JoinedStr [.Constant (.str txt) j q1, .FormattedValue (.Name x q2) (-1) none q3] q4] (envF F f1 L))) []) := by intro _; exact ⟨_, rfl⟩) :
    FnOk P w K mg base CX0 1 f1 (F.fd doc pm ctv) ["self", x] (spIni K C fld) := by
  have l1 : F.scope.names.lookup ("self" : Str) = some .local := S.par _ List.mem_cons_self
  have l2 : F.scope.names.lookup x = some .local := S.par _ (List.mem_cons_of_mem _ List.mem_cons_self)
  refine ini_ok D lk S hks hbd har ha (fun vs H Q E ⟨a, v, e, _⟩ => by rw [e]; rfl) (fun A outer s H vs Q E hr hsp => ?_) (fun _ => rfl) hin hsw hev
  obtain ⟨a, v, rfl, ea, fm, q⟩ := hsp
  refine ⟨a, _, _, rfl, ea, pe_joined (PJ.cons pe_str (PJ.cons (pe_fmtV hr (pe_var (i := 1) rfl (.inl l2) hdx hdc)) PJ.nil)), ps_ost (pe_var (i := 0) rfl (.inl l1)) (pe_var (i := 1) rfl (.inl l2) hdx hdc) (hs2 _), ?_⟩
  have rest : ∀ m : Str, m.length ≤ 1000000 → ∃ y : Str, V.str m = .str y ∧ (Str.empty ++ txt ++ y).length ≤ sizeLine ∧ H a = some (exo a C none) ∧ tOst K fld (tVar 0) (tVar 1) { nx := fun _ H' => Q .non H', rt := Q } (startF ["self", x, "__class__"] [.ref a, v] [none]) H := fun m hm =>
    ⟨m, rfl, text_small htx hm, ea, v, rfl, .ref a, rfl, a, C, rfl, D.T, hfld, .inl ⟨ea, fun dx hn hne => q dx hn hne⟩⟩
  refine ⟨txt, rfl, text_head htx, v, rfl, ?_⟩
  rcases fm with e | ⟨y, e, hy⟩ | ⟨i, e, hi⟩ | ⟨b, l, e, hb, hc, hl⟩
  · exact .inl ⟨e, rest _ (by decide)⟩
  · exact .inr (.inl ⟨y, e, Nat.le_trans hy (by decide), rest _ (Nat.le_trans hy (by decide))⟩)
  · exact .inr (.inr (.inl ⟨i, e, hi, rest _ (Nat.le_trans (PyProof.Rows.int_text_len_1921 hi) (by decide))⟩))
  · exact .inr (.inr (.inr ⟨b, l, e, hb, hc, Nat.le_trans (Nat.add_le_add_right hl 8) (by decide), fun m hm => rest m (by omega)⟩))
end
section
variable {X : Cx} {C f1 : Addr} {fd : FuncData} {x fld a1 : Str} {e : Expr} {te : TE} {p pos : Pos}
/-- C(e) -/
theorem mkN (T : OexC X.K C) (iC : PySem.W.findIn X.K (.ref C) "__init__" = some (some (.ref f1))) (tI : PySem.W.typeIn X.K (.ref f1) = some (.type "function")) (G : FnOk X.prog X.w X.K X.mg X.base CX0 1 f1 fd ["self", a1] (spIni X.K C fld)) (bG : Binds X.K fd ["self", a1] [])
    (hr : Room 2 X.A) (hg : Gl X x) (hm : X.mg x = some (.ref C)) (he : PE X e te) (hdb : (x == ("__debug__" : Str)) = false := by decide) (hst : starEach [e] X.env = (false, eval e X.env) :: starEach [] X.env := by rfl) :
    L2N.PMk X (.Call (.Name x p) [e] [] pos) (fun σ H Q => te σ H fun v H1 => Fmt X.K H1 v ∧ ∀ d, H1 d = none → Q (.ref C) (some d) (upd H1 d (.xd [(fld, v)]))) := fun pins s σ H Q I h => by
  have ⟨_, _, _, _, bm, _, _, _, _, _, _, _, _, _, _, hC, hbm⟩ := T.cls
  refine wpAny_Call_Name_kw (ld_glob I hg hm (PySem.W.callWith_K (h₀ := X.base) I.ok.mod.kin T.kC ?_ hst (by rfl)) hdb)
  rw [hst]
  refine Calls.spliced_cons (thn (he.run pins s σ H _ I h) fun u s1 ⟨v, H1, I1, rv, fm, q1⟩ => Calls.spliced_nil ⟨I1.kIn, ?_⟩)
  rcases s1 with ⟨hp, g, dr, tk, os⟩
  have young : hp.objs.size ≤ hp.objs.size + 1 := Nat.le_succ _
  generalize hnew : (hp.push (PySem.W.kdv_tup [u])).push (PySem.HandSPX.excO C hp.objs.size) = hn
  have keep : ∀ b o, hp.get? b = some o → hn.get? b = some o := fun b o z => hnew ▸ Heap.get?_push_of_some _ (Heap.get?_push_of_some _ z)
  have there : hn.get? (hp.objs.size + 1) = some (PySem.HandSPX.excO C hp.objs.size) := by rw [← hnew]; heap_get
  have free := I1.hok.fresh young
  have I2 : Inv X pins σ (upd H1 (hp.objs.size + 1) (exo (hp.objs.size + 1) C none)) ⟨hn, g, dr, tk, os⟩ := I1.laid (t' := tk) keep young (exo_ok there)
  have vals : Vals [V.ref (hp.objs.size + 1), v] [Value.ref (hp.objs.size + 1), u] := .cons rfl (.cons rv .nil)
  have bind := bG ⟨hn, g, dr, tk, os⟩ [Value.ref (hp.objs.size + 1), u] I2.kIn rfl
  have run := G.run _ X.stack ⟨hn, g, dr, tk, os⟩ _ ⟨[Value.ref (hp.objs.size + 1), u], []⟩ [Value.ref (hp.objs.size + 1), u] _ (fun r H2 => r = .non ∧ ∃ d, H1 d = none ∧ d ≠ hp.objs.size + 1 ∧ H2 = upd (upd (upd H1 (hp.objs.size + 1) (exo (hp.objs.size + 1) C none)) d (exd d [(fld, v)])) (hp.objs.size + 1) (exo (hp.objs.size + 1) C (some d))) (fun _ _ _ => False)
    (hr.make C [u] []) (I2.env0.make C [u] []) bind vals ⟨_, v, rfl, upd_same, fm.new free, fun d nd ne => ⟨rfl, d, by rw [upd_ne ne] at nd; exact nd, ne, rfl⟩⟩
  change wpAny _ _ (call (.ref C) [u]) _ _ _
  refine wpAny_call (PySem.HandSPX.call_own PySem.F.excBase_ValueError (fun Y => PySem.HandSPX.refsVE_contains Y bm hbm) (I1.kIn _ _ hC) (PySem.W.looks_findIn I1.kIn iC) (fun self => PySem.W.bind_fn I1.kIn self tI) (by show 1 ≤ sizeLine; decide) ?_)
  rw [hnew]
  refine codeAny_mono run fun r s' end_ => ?_
  cases r with
  | error er => exact end_.elim
  | ok fl =>
    cases fl with
    | ret u2 =>
      obtain ⟨v2, H2, os2, bare2, un2, hok2, rv2, ev, d, nd, ne, eH⟩ := end_
      subst ev
      rcases s' with ⟨h2, g2, d2, t2, os'⟩
      have ea : H2 (hp.objs.size + 1) = some (exo (hp.objs.size + 1) C (some d)) := by rw [eH, upd_same]
      have ed : H2 d = some (exd d [(fld, v)]) := by rw [eH, upd_ne ne, upd_same]
      obtain ⟨t0, G2, J, kG, ge, hoe, na⟩ := mk_end0 (d2 := d2) (t2 := t2) I1 young keep un2 hok2 os2 bare2 ea ed nd
      have eq : upd (del H2 (hp.objs.size + 1)) d (.xd [(fld, v)]) = upd H1 d (.xd [(fld, v)]) := funext fun b => by
        by_cases hb : b = d
        · rw [hb, upd_same, upd_same]
        · rw [upd_ne hb, upd_ne hb]
          by_cases hc : b = hp.objs.size + 1
          · rw [hc, del_same, free]
          · rw [del_ne hc, eH, upd_ne hc, upd_ne hb, upd_ne hc]
      rw [eq] at J na
      exact ⟨rv2, _, _, _, ⟨G2, g2, d2, t2, os'⟩, _, .ref C, some d, rfl, J, kG, ge, hoe, ⟨rfl, rfl, fun vs z => by cases z; rfl⟩, rfl, rfl, na, rfl, bare2, raises_own T.exC T.tyC, q1 d nd⟩
    | next => exact end_.elim
    | brk => exact end_.elim
    | cont => exact end_.elim
end
end Xs
/-! try with several clauses `except x as n`, all of one name n -/
namespace Xs
open L2 PySem PySem.Spec PyProof.Rows
/-- what the clauses wish, one behind the other -/
def wAll (K : PySem.W.Frag) (i : Nat) (Wout : WX) (D : Ends) : List (Value × (Addr → Value → Option Addr → TS)) → WX
  | [] => Wout
  | p :: r => wAs K p.1 i p.2 (wAll K i Wout D r) D
/-- the clauses by their suites -/
inductive Clauses (X : Cx) (n : Str) : List ExceptHandler → List (Value × (Addr → Value → Option Addr → TS)) → Prop
  | nil : Clauses X n [] []
  | cons {x : Str} {c : Value} {ts : Addr → Value → Option Addr → TS} {st : Stmt} {more : List Stmt} {np pos : Pos} {hs : List ExceptHandler} {l : List (Value × (Addr → Value → Option Addr → TS))} (hc : Names X x c)
      (suite : ∀ (a : Addr) (oe : Obj) (cls : Value) (d : Option Addr) (pn : List (Addr × Obj)), L2N.Zn cls d oe → (∃ vs, oe.data = .fields vs) → PSs (X.suite a ((a, oe) :: pn)) (st :: more) (ts a cls d)) (rest : Clauses X n hs l) :
      Clauses X n (.ExceptHandler (some (.Name x np)) (some n) (st :: more) pos :: hs) ((c, ts) :: l)
section
variable {X : Cx} {pins : List (Addr × Obj)} {σ : L2.St} {H : Hp} {a : Addr} {cls : Value} {d : Option Addr} {s : Shared}
/-- the exception at a lies on the ground, its frame noted -/
structure Down (X : Cx) (pins : List (Addr × Obj)) (σ : L2.St) (H : Hp) (a : Addr) (cls : Value) (d : Option Addr) (B : Heap) (sI s : Shared) : Prop where
  inv : Inv X pins σ H sI
  ground : ∀ b o, sI.heap.get? b = some o → b ∉ frs X.stack → B.get? b = some o
  up : sI.heap.UpToSlots s.heap
  fly : HandSPX.FlyingZ B (X.env :: X.outer) a (L2N.Zn cls d) s.heap
  free : H a = none
  os : s.os = sI.os
  bare : AllBare s.gens
variable {B : Heap} {sI : Shared}
theorem Down.here (q : Down X pins σ H a cls d B sI s) : Inv X pins σ H s := q.inv.landed q.ground q.fly.1 q.up q.os q.bare
/-- .. as the suite sees it -/
theorem Down.seen (q : Down X pins σ H a cls d B sI s) (hf : X.env.frame = some X.env.locals) : ∃ oe vs, s.heap.get? a = some oe ∧ L2N.Zn cls d oe ∧ oe.data = .fields vs ∧ Inv (X.suite a ((a, oe) :: (X.pn ++ pins))) [] σ H s := by
  obtain ⟨oe, vs, he, hz, hd⟩ := q.fly.there
  have nfr : a ∉ frs (X.env :: X.outer) := fun hm => by
    obtain ⟨_, o, e, no⟩ := q.fly.2.2.1.mem hm
    rw [he] at e
    cases e
    exact no _ hd
  refine ⟨oe, vs, he, hz, hd, q.here.suite he hd q.free (fun z => nfr ?_) fun hm => nfr ?_⟩
  · exact List.mem_filterMap.mpr ⟨X.env, List.mem_cons_self, by rw [hf, z]⟩
  · obtain ⟨e, he, z⟩ := List.mem_filterMap.mp hm
    exact List.mem_filterMap.mpr ⟨e, List.mem_cons_of_mem _ he, z⟩
/-- no clause has taken it: it goes on -/
theorem Down.on {Wout : WX} {D : Ends} (q : Down X pins σ H a cls d B sI s) (hs : X.stack = X.env :: X.outer) (hf : X.env.frame = some X.env.locals) (tk : L2N.Takes X Wout) (w : Wout cls d σ H) : wpAny (model X.prog X.w) X.A (handleBy (.ref a) X.env []) (SP X pins D) X.xe s := by
  obtain ⟨_, _, _, oe, vs, T, _, _, he, _, hd, h1, _⟩ := id q.fly
  have go : wpAny (model X.prog X.w) X.A (setFlight (.ref a) X.env.frame) (fun _ s4 => wpAny (model X.prog X.w) X.A (throw (.ref a) : Sem Flow) (SP X pins D) X.xe s4) X.xe s := by
    rw [hf]
    exact HandSPX.setFlight_upZ q.fly fun h4 held up4 => wpAny_throw (tk _ _ ⟨a, B, sI, pins, σ, H, cls, d, rfl, q.inv, q.ground, q.up.trans up4, .inr (.inr (hs ▸ held)), q.free, q.os, q.bare, w⟩)
  refine wpAny_handleBy_nil ?_
  unfold PySem.passOn
  refine wpAny_bind (wpAny_field he hd h1 (PySem.W.KFB.if_not (by simp) ?_))
  first
    | exact wpAny_bind go
    | exact wpAny_bind (wpAny_pure (wpAny_bind go))
variable {n : Str} {i : Nat}
/-- the clauses in their order -/
theorem Down.all {Wout : WX} {D : Ends} (hs : X.stack = X.env :: X.outer) (hf : X.env.frame = some X.env.locals) (hN : X.N.Nodup) (hi : X.N[i]? = some n) (hn : X.env.kindOf n = some .local) (tk : L2N.Takes X Wout) {hds : List ExceptHandler} {l : List (Value × (Addr → Value → Option Addr → TS))} (cs : Clauses X n hds l) :
    Down X pins σ H a cls d B sI s → wAll X.K i Wout D l cls d σ H → wpAny (model X.prog X.w) X.A (handleBy (.ref a) X.env hds) (SP X pins D) X.xe s := by
  induction cs with
  | nil => exact fun q w => q.on hs hf tk w
  | @cons x c ts st more np pos hds l hc suite rest ih =>
    intro q ⟨b, hb, yes, no⟩
    obtain ⟨oe, vs, he, hz, hd, S⟩ := q.seen hf
    have typ : PySem.W.Looks (model X.prog X.w) s.heap (typeOf (.ref a)) cls := fun A Q E s k z => wpAny_typeOf_ref (k _ _ he) (by rw [hz.1]; exact z)
    have named : ∀ {Q : Value → Shared → Prop} {E : Value → Shared → Prop}, Q c s → wpAny (model X.prog X.w) (X.A.mark (some (.ref a))) (eval (.Name x np) X.env) Q E s := fun {Q E} z => by
      obtain ⟨hg, hdb, hm | ⟨hm, hv, hnn⟩⟩ := hc
      · exact ld_glob (X := X.suite a ((a, oe) :: (X.pn ++ pins))) S hg hm z hdb
      · exact ld_blt (X := X.suite a ((a, oe) :: (X.pn ++ pins))) S hg hm hv z hnn hdb
    refine wpAny_handleBy_cons (codeAny_handlers_test (named ((PySem.W.exm_one (M := model X.prog X.w) q.here.kIn typ hb).here ?_))) (fun z => by cases z)
    cases b with
    | false => exact ih q (no rfl)
    | true =>
      refine codeAny_handlers_suite_as (HandSPX.lands_againZ q.fly fun h4 fly4 up4 => ?_)
      have q4 : Down X pins σ H a cls d B sI { s with heap := h4 } := ⟨q.inv, q.ground, q.up.trans up4, fly4, q.free, q.os, q.bare⟩
      obtain ⟨oe4, vs4, he4, hz4, hd4, S4⟩ := q4.seen hf
      refine store_ok (X := X.suite a ((a, oe4) :: (X.pn ++ pins))) (v := .ref a) S4 hN hi (.inl hn) rfl (fun s5 S5 => ?_) (.inr hn)
      refine wpAny_mono ((suite a oe4 cls d (X.pn ++ pins) hz4 ⟨_, hd4⟩).run [] s5 _ H _ S5 (yes rfl a q.free)) (fun f s6 end_ => ?_) fun _ _ z => z.elim
      have gone : ∀ {σ6 : L2.St} {H6 : Hp} {Q : Shared → Prop}, Inv (X.suite a ((a, oe4) :: (X.pn ++ pins))) [] σ6 H6 s6 → (∀ s7, Inv X pins (σ6.set i none) H6 s7 → Q s7) → wpAny (model X.prog X.w) X.A (do bindName X.env n .none; unbindBehindTheSuite X.env n pos) (fun _ s7 => Q s7) X.xe s6 := fun S6 z =>
        gone_ok (S6.unsuite q.inv.ok) hN hi hn z
      cases f with
      | ret u => exact end_.elim fun v z => z.elim fun σ6 z => z.elim fun H6 z => gone z.1 fun s7 J => ⟨v, _, H6, J, z.2.1, z.2.2⟩
      | next => exact end_.elim fun σ6 z => z.elim fun H6 z => gone z.1 fun s7 J => ⟨_, H6, J, z.2⟩
      | brk => exact end_.elim fun σ6 z => z.elim fun H6 z => gone z.1 fun s7 J => ⟨_, H6, J, z.2⟩
      | cont => exact end_.elim fun σ6 z => z.elim fun H6 z => gone z.1 fun s7 J => ⟨_, H6, J, z.2⟩
end
/-- the statement -/
theorem ps_tryAll {X : Cx} {n : Str} {i : Nat} {body : List Stmt} {h0 : ExceptHandler} {hds : List ExceptHandler} {l : List (Value × (Addr → Value → Option Addr → TS))} {pos : Pos} {tb : WX → TS} {Wout : WX} (hs : X.stack = X.env :: X.outer) (hf : X.env.frame = some X.env.locals) (hN : X.N.Nodup)
    (hi : X.N[i]? = some n) (hn : X.env.kindOf n = some .local) (tk : L2N.Takes X Wout) (hb : ∀ (W : WX) (pn : List (Addr × Obj)) (xe : Value → Shared → Prop), L2N.Takes (X.tr pn xe) W → PassesOwn (model X.prog X.w) X.A X.env xe → PSs (X.tr pn xe) body (tb W))
    (cs : Clauses X n (h0 :: hds) l) : PS X (.Try body (h0 :: hds) [] [] pos) (fun D σ H => tb (wAll X.K i Wout D l) D σ H) := ⟨fun pins s σ H D I h => by
  have back : ∀ f s', SP (X.tr (X.pn ++ pins) (fun e s₁ => wpAny (model X.prog X.w) X.A (noteFrame e X.env) (fun _ s₂ => wpAny (model X.prog X.w) X.A (setFlight e none) (fun _ s₃ => wpAny (model X.prog X.w) X.A (handleBy e X.env (h0 :: hds)) (SP X pins D) X.xe s₃) X.xe s₂) X.xe s₁)) [] D f s' → SP X pins D f s' := fun f s' z => by
    cases f with
    | ret u => exact z.elim fun v z => z.elim fun σ' z => z.elim fun H' z => ⟨v, σ', H', z.1.ofTry I.ok, z.2⟩
    | next => exact z.elim fun σ' z => z.elim fun H' z => ⟨σ', H', z.1.ofTry I.ok, z.2⟩
    | brk => exact z.elim fun σ' z => z.elim fun H' z => ⟨σ', H', z.1.ofTry I.ok, z.2⟩
    | cont => exact z.elim fun σ' z => z.elim fun H' z => ⟨σ', H', z.1.ofTry I.ok, z.2⟩
  refine wpAny_Try_except (wpAny_mono ((hb (wAll X.K i Wout D l) (X.pn ++ pins) _ (fun u s' caught => ?_) PassesOwn.looking).run [] s σ H D (I.toTry _) h) (fun f s1 z => ?_) fun _ _ z => z)
  · obtain ⟨a, B, sI, _, σ', H', cls, d, rfl, J', ground, up, sky, na, os, bare, w⟩ := caught
    have hfr := I.ok.frames
    rw [hs] at hfr
    exact L2N.Sky.land L2N.Zn.steady hfr hf (hs ▸ sky) fun h3 fly up3 => Down.all hs hf hN hi hn tk cs ⟨J'.ofTry I.ok, ground, up.trans up3, fly, na, os, bare⟩ w
  · cases f with
    | next => exact wpAny_execs_nil (back _ _ z)
    | ret u => exact back _ _ z
    | brk => exact back _ _ z
    | cont => exact back _ _ z⟩
end Xs
/-! g(lambda: body), g calls what it got; whatever the exceptions' form (CXl) -/
namespace Xs
open L2 PySem PySem.Spec PyProof.Rows LamX
/-- the name of the lambdas of X's def -/
abbrev lamQ (X : Cx) : Str := X.env.qual ++ "<lambda>"
/-- a lambda that takes nothing -/
def NoArgs (params : Arguments) (body : Expr) (scope : Scope) : Prop := ∀ (q : Str) (clo : List (Str × Addr)) (m code tup : Value), bindArgs (PySem.W.kla_fn "<lambda>" q params body scope clo m code tup) ⟨[], []⟩ = pure []
/-- at s, with H tracked, X's def has made a lambda: it stands at f, its code object at c' -/
structure Made (X : Cx) (params : Arguments) (body : Expr) (scope : Scope) (s : Shared) (H : Hp) (f c' : Addr) : Prop where
  obj : ∃ m tup : Value, s.heap.get? f = some (PySem.W.kla_obj "<lambda>" (lamQ X) params body scope (cloFrom X.env.cells scope.names []) m c' tup)
  hid : H f = none
  off : f ∉ frs X.stack
  code : H c' = some (CodeO c' (lamQ X))
section
variable {X : Cx} {params : Arguments} {body : Expr} {scope : Scope} {f c' : Addr}
/-- the body's context: the library's, but with the wish that belongs to CXl -/
def bodyC (CXl : CXT) (X : Cx) (A : Around) (outer : List Env) (s : Shared) (H : Hp) (E : XK) (scope : Scope) (f c' : Addr) : Cx :=
  (lamCx X A outer s H E scope f c').wish fun e r =>
    let env := lamEnv X scope s.heap.objs.size f c'
    wpAny (model X.prog X.w) (A.deeper env) (leaving env e) (fun _ => CXl outer H s E e) (fun e' => CXl outer H s E e') r
/-- what the body promises, at any place where it runs with room k -/
def BodyOk (CXl : CXT) (X : Cx) (k : Nat) (body : Expr) (scope : Scope) (f c' : Addr) (E : XK) (tb : TE) : Prop :=
  ∀ A outer s H, Room k (A.deeper (lamEnv X scope s.heap.objs.size f c')) → PE (bodyC CXl X A outer s H E scope f c') body tb
/-- the lambda called later, at s1, from the frames of A1: its body's promise, with the slots as they were when it was made -/
theorem Made.runs {CXl : CXT} {pins : List (Addr × Obj)} {σ : L2.St} {H HZ : Hp} {s s1 : Shared} {A1 : Around} {outer : List Env} {k : Nat} {E : XK} {tb : TE} {Q : VK} (M : Made X params body scope s H f c') (I : Inv X pins σ H s) (L : LamS X.env.scope scope) (nb : NoArgs params body scope)
    (e0 : Env0 X.prog X.w X.K X.mg X.base A1 outer s1 HZ) (un : Un (frs X.stack) [] H HZ s.heap s1.heap) (hr : Room (k + 1) A1) (hc : HZ c' = some (CodeO c' (lamQ X))) (bd : BodyOk CXl X k body scope f c' E tb) (ht : tb σ HZ Q) :
    codeAny (model X.prog X.w) A1 (.call (.ref f) ⟨[], []⟩) (CR CXl outer X.prog X.w HZ s1 Q E) s1 := by
  obtain ⟨m, tup, ob⟩ := M.obj
  have there := un.keep f _ ob M.hid M.off fun z => nomatch z
  obtain ⟨⟨oc, vs, t, g1, g2, g3⟩, _⟩ := e0.hok c' _ hc
  have free := (e0.mod.nolimit.keeps fun b o z => (e0.bs b o z).1)
  refine PySem.W.kla_callFunE hr.depth there rfl L.co L.gen rfl ⟨c', oc, vs, t, rfl, g1, g2, g3⟩ ?_
  rw [nb]
  refine wpAny_pure (wpAny_newFunctionEnv (fun y hy => (L.own y hy).2) (fun y hy => nomatch hy) (fun h1 hns hsb => ⟨free.fresh _ hsb, PySem.W.kla_codeExpr ?_⟩) L.kind)
  have begin_ := lam_start2 (E := E) (f := f) (c' := c') (tk := s1.toks + ([] : List (Str × Value)).length) I L e0 hr.hd un hns fun b o z => hsb.extBut b o (Nat.ne_of_lt (Heap.lt_size z)) (Heap.get?_push_of_some _ z)
  exact wpAny_mono ((bd _ _ s1 HZ (hr.deeper _)).run [] _ _ HZ Q (begin_.wish _) ht) (fun v r ⟨u, H', J, z⟩ => ⟨u, H', J.os, J.bare, J.base, J.hok, z⟩) fun _ _ z => z
/-- the context of the def that got it, entered at s from X's frames -/
abbrev gotC (X : Cx) (N : List Str) (x : Str) (sg : Scope) (g : Addr) (cd : Value) (s : Shared) (H : Hp) : Cx := cxOf CX0 X.prog X.w X.K X.mg X.base N x sg g cd X.A X.stack s H E0
/-- a(), in that def, a its parameter -/
theorem Made.pe {CXl : CXT} {pins : List (Addr × Obj)} {σ : L2.St} {H : Hp} {s : Shared} {N : List Str} {x a : Str} {sg : Scope} {g : Addr} {cd : Value} {k : Nat} {pn : List (Addr × Obj)} {xe : Value → Shared → Prop} {E : XK} {tb : TE} {p1 p2 : Pos} (M : Made X params body scope s H f c') (I : Inv X pins σ H s) (L : LamS X.env.scope scope) (nb : NoArgs params body scope)
    (pass : Passes CXl ((gotC X N x sg g cd s H).tr pn xe) E) (hr : Room (k + 1) (X.A.deeper (envOfC x sg s.heap.objs.size g cd))) (bd : BodyOk CXl X k body scope f c' E tb) (hN : N[0]? = some a) (hv : Vis sg a) (na : (a == ("__debug__" : Str)) = false ∧ (a == ("__classdict__" : Str)) = false) :
    PE ((gotC X N x sg g cd s H).tr pn xe) (.Call (.Name a p1) [] [] p2) (fun σZ HZ Q => σZ[0]? = some (some (.ref f)) ∧ HZ c' = some (CodeO c' (lamQ X)) ∧ tb σ HZ Q) := by
  refine ⟨fun pinsZ sZ σZ HZ Q IZ ⟨hs, hc, ht⟩ => wpAny_Call_Name_kw (thn ((pe_var (pos := p1) hN hv na.1 na.2).run pinsZ sZ σZ HZ (fun v H1 => v = .ref f ∧ H1 = HZ) IZ ⟨_, hs, rfl, rfl⟩) ?_)⟩
  rintro u s1 ⟨v, H1, I1, r1, rfl, rfl⟩
  cases r1
  obtain ⟨m, tup, ob⟩ := M.obj
  have un : Un (frs X.stack) [] H H1 s.heap s1.heap := I1.base
  refine PySem.W.callWith_F0 ⟨_, _, _, _, un.keep f _ ob M.hid M.off fun z => nomatch z⟩ (wpAny_call (codeAny_mono (M.runs I L nb I1.env0 un hr hc bd ht) fun r s' z => ?_))
  match r, z with
  | .error e, z => exact pass pinsZ σZ H1 s1 e s' I1 z
  | .ok (.ret _), z => exact I1.after z
  | .ok .next, z => exact z.elim
  | .ok .brk, z => exact z.elim
  | .ok .cont, z => exact z.elim
end
/-- what the def makes of a thunk's reading tl -/
def Gives (CXl : CXT) (X : Cx) (N : List Str) (x : Str) (sg : Scope) (g : Addr) (cd : Value) (bg : List Stmt) (a q : Str) (TT : (XK → Hp → VK → Prop) → Hp → VK → Prop) : Prop := ∀ (f c' : Addr) (s : Shared) (H : Hp) (Q : VK) (tl : XK → Hp → VK → Prop),
  (∀ (pn : List (Addr × Obj)) (xe : Value → Shared → Prop) (E : XK) (p1 p2 : Pos), Passes CXl ((gotC X N x sg g cd s H).tr pn xe) E → PE ((gotC X N x sg g cd s H).tr pn xe) (.Call (.Name a p1) [] [] p2) fun σZ HZ Q => σZ[0]? = some (some (.ref f)) ∧ HZ c' = some (CodeO c' q) ∧ tl E HZ Q) →
  H c' = some (CodeO c' q) → TT tl H Q → ∃ t, PSs (gotC X N x sg g cd s H).nox bg t ∧ t { nx := fun _ H' => Q .non H', rt := Q } (L2.start N [.ref f]) H
/-- all but what stands at P stays -/
def But (P : Addr) (H H' : Hp) : Prop := ∀ b o, b ≠ P → H b = some o → H' b = some o
section
variable {X : Cx} {pins : List (Addr × Obj)} {σ : L2.St} {s : Shared} {H : Hp}
/-- a lambda made: only its maker's table changes -/
theorem thunk_made {c P : Addr} {params : Arguments} {body : Expr} {scope : Scope} {pos : Pos} {E : Value → Shared → Prop} {Q : Value → Shared → Prop} (I : Inv X pins σ H s) (TB : TabB X.base X.mg c P) (mine : X.env.code = .ref c) (hT : TabS H P (lamQ X)) (plain : defaultsOf params X.env = ([], [])) (L : LamS X.env.scope scope)
    (h : ∀ (f c' : Addr) (H1 : Hp) (s' : Shared), Inv X pins σ H1 s' → But P H H1 → TabS H1 P (lamQ X) → Made X params body scope s' H1 f c' → Q (.ref f) s') : wpAny (model X.prog X.w) X.A (eval (.Lambda params body scope pos) X.env) Q E s := by
  obtain ⟨ps, hP, ht, known⟩ := hT
  have tab0 := (show s.heap.get? P = some { cls := .none, data := .fields ps } from I.hok P _ hP)
  have young : ∀ f, s.heap.objs.size ≤ f → f ∉ frs X.stack := fun f hf z => by
    rcases List.mem_cons.mp (I.stkSub _ z) with y | y
    · rw [y] at hf
      exact Nat.not_le_of_lt I.lt hf
    · exact I.nofs hf y
  have globs := I.mod.glob.keeps I.bk
  refine PySem.W.kla_eval plain (match among : codeAmong pos ps.toList with | some cv => ?old | none => ?new)
  case old =>
    obtain ⟨c', e, code⟩ := known pos cv among
    subst e
    refine PySem.W.kla_makeFunctionHit (mg := X.mg) (c := c) (closure_ok (L.has I.ok)) I.ok.glob globs mine (TB.code.keeps I.bk) tab0 ht among (TB.bm.keeps I.bk) fun tup h' tk k hsz => ?_
    exact h _ c' H _ (I.kept fun b o z => Heap.get?_push_of_some _ (k b o z)) (fun _ _ _ z => z) ⟨ps, hP, ht, known⟩ ⟨⟨_, tup, Heap.get?_push_size _ rfl⟩, I.hok.fresh hsz, young _ hsz, code⟩
  case new =>
    refine PySem.W.kla_makeFunction (mg := X.mg) (c := c) (closure_ok (L.has I.ok)) I.ok.glob globs mine (TB.code.keeps I.bk) tab0 ht among TB.gP (TB.bm.keeps I.bk) fun c' tup h' tk k old lt rec_ tab => ?_
    obtain ⟨c2, oc, vs, t, e, g1, g2, g3⟩ := rec_
    cases e
    have fresh := I.hok.fresh old
    have big : s.heap.objs.size ≤ h'.objs.size := Nat.le_trans old (Nat.le_of_lt lt)
    let more : Array Value := #[rawInt pos.line, rawInt pos.col, .ref c']
    have J := inv_table (t' := tk) (more := more) (h' := h'.push (PySem.W.kla_obj "<lambda>" (lamQ X) params body scope (cloFrom X.env.cells scope.names []) ((X.mg "__name__").getD .none) c' tup)) I hP (fun b o n z => Heap.get?_push_of_some _ (k b o n z)) (Heap.get?_push_of_some _ tab) old ⟨oc, vs, t, Heap.get?_push_of_some _ g1, g2, g3⟩
    have nPc : P ≠ c' := ne_of_none hP fresh
    have stay : But P H (upd (upd H P (.tbl (ps ++ more))) c' (CodeO c' (lamQ X))) := fun b o n z => by rw [upd_ne (ne_of_none z fresh), upd_ne n]; exact z
    have row : (ps ++ more).toList = ps.toList ++ more.toList := Array.toList_append
    refine h _ c' _ _ J stay ⟨_, by rw [upd_ne nPc, upd_same], ?_, fun p' cv z => ?_⟩ ⟨⟨_, tup, Heap.get?_push_size _ rfl⟩, ?_, young _ big, upd_same⟩
    · rw [row]
      exact PySem.TriplesOk_snoc _ _ _ _ ht
    · rw [row] at z
      rcases among_app _ ht z with y | y
      · obtain ⟨c0, e1, e2⟩ := known p' cv y
        refine ⟨c0, e1, stay _ _ (fun w => ?_) e2⟩
        rw [w, hP] at e2
        exact codeO_ne ps (Option.some.inj e2).symm
      · exact ⟨c', y, upd_same⟩
    · have nP := Nat.ne_of_gt (Nat.lt_of_lt_of_le (Heap.lt_size tab0) big)
      rw [upd_ne (Nat.ne_of_gt lt), upd_ne nP]
      exact I.hok.fresh big
end
section
variable {X : Cx}
/-- g(lambda: body) -/
theorem pe_thunk {CXl : CXT} {TT : (XK → Hp → VK → Prop) → Hp → VK → Prop} {x a : Str} {g c P : Addr} {k : Nat} {pg params : Arguments} {bg : List Stmt} {sg scope : Scope} {dV kV doc pm cd ct oc : Value} {an od : Option Addr} {osl : Array (Option Value)} {N : List Str} {body : Expr} {t : XK → TE} {p lpos pos : Pos}
    (hg : Gl X x) (hm : X.mg x = some (.ref g)) (hk : PySem.W.keepIn X.K (.ref g) = true) (lk : X.K.lookup g = some ⟨oc, od, .func (PySem.W.fnOf x x pg bg sg dV kV doc pm an cd ct), osl⟩) (hcg : PySem.W.codeIn X.K cd x = true)
    (hb : L2.Binds X.K (PySem.W.fnOf x x pg bg sg dV kV doc pm an cd ct) [a] []) (Sg : FnScope N [a] sg) (hN : N[0]? = some a) (hva : Vis sg a) (hG : Gives CXl X N x sg g cd bg a (lamQ X) TT)
    (TB : TabB X.base X.mg c P) (mine : X.env.code = .ref c) (hr : Room (k + 2) X.A) (L : LamS X.env.scope scope) (plain : defaultsOf params X.env = ([], [])) (nb : NoArgs params body scope)
    (hbody : ∀ A outer s H E f c', Room k (A.deeper (lamEnv X scope s.heap.objs.size f c')) → PE (bodyC CXl X A outer s H E scope f c') body (t E))
    (nx : (x == ("__debug__" : Str)) = false := by decide) (na : (a == ("__debug__" : Str)) = false ∧ (a == ("__classdict__" : Str)) = false := by decide) :
    PE X (.Call (.Name x p) [.Lambda params body scope lpos] [] pos) (fun σ H Q => TabS H P (lamQ X) ∧ ∀ H1, But P H H1 → TabS H1 P (lamQ X) → TT (fun E H' Q' => t E σ H' Q') H1 Q) := by
  refine ⟨fun pins s σ H Q I ⟨hT, h⟩ => wpAny_Call_Name_kw (ld_glob I hg hm (PySem.W.callWith_K (h₀ := X.base) I.ok.mod.kin hk ?_ (by rfl) (by rfl)) nx)⟩
  refine Calls.spliced_cons (x := eval (.Lambda params body scope lpos) X.env) (rest := backTo pos (starEach [] X.env)) (thunk_made I TB mine hT plain L fun f c' H1 s' I1 eN T1 M => Calls.spliced_nil ⟨I1.kIn, wpAny_call ?_⟩)
  have run := run_ofS (CX := CX0) (N := N) (ps := [a]) (args := ⟨[.ref f], []⟩) (us := [.ref f]) (vs := [V.ref f]) (Q := Q) (E := E0) lk hcg Sg hr I1.env0 (hb s' [.ref f] I1.kIn rfl) (.cons rfl .nil) rfl fun room => by
    obtain ⟨t', ht', hq'⟩ := hG f c' s' H1 Q (fun E H' Q' => t E σ H' Q') (fun pn xe E p1 p2 pass => M.pe I1 L nb pass room (fun A outer s H r => hbody A outer s H E f c' r) hN hva na) M.code (h H1 eN T1)
    exact ⟨t', ht'.nox, hq'⟩
  refine codeAny_mono run fun r s2 z => ?_
  match r, z with
  | .error e, z => exact z.elim
  | .ok (.ret _), z => exact I1.after z
  | .ok .next, z => exact z.elim
  | .ok .brk, z => exact z.elim
  | .ok .cont, z => exact z.elim
end
end Xs
/-! isinstance of an exception that is handled, with fields or without, wherever it is pinned -/
namespace Xs
open L2 PySem PySem.Spec PyProof.Rows
theorem cls_ob {K : PySem.W.Frag} {D : Addr} (C : ExcC K D) : (PySem.W.clsIn K D).isSome = true := by
  obtain ⟨cd, hc, _⟩ := PySem.W.any_some C.hd
  rw [hc]
  rfl
section
variable {X : Cx}
/-- isinstance(e, c), the exception at a pinned with the object oe, of the class D, its dict (if any) tracked -/
def rIsP (K : PySem.W.Frag) (D a : Addr) (d : Option Addr) : List V → Hp → VK → Prop := fun xs H Q => ∃ (c : V) (cv : Value) (b : Bool), xs = [.ref a, c] ∧ (∀ u, RelV c u → u = cv) ∧ PySem.W.kitOne K (.ref D) cv = some b ∧ (∀ dx, d = some dx → ∃ fs, H dx = some (.xd fs)) ∧ Q (.bl b) H
theorem call_isP {a D : Addr} {d : Option Addr} {oe : Obj} (C : ExcC X.K D) (hp : (a, oe) ∈ X.pn) (hz : Zc (.ref D) d oe) (hf : ∃ vs, oe.data = .fields vs) : CallR X (.builtin "isinstance") (rIsP X.K D a d) := by
  intro pins s σ H xs us Q I r ⟨c, cv, b, ex, hcv, e, hd, q⟩
  subst ex
  cases r with
  | cons rx rr =>
    cases rr with
    | cons rt rr =>
      cases rr
      cases rx
      cases hcv _ rt
      have get := (I.pin (a, oe) (List.mem_append_left _ hp)).1
      obtain ⟨vs, hv⟩ := hf
      have nc : PySem.W.notCls oe = true := by unfold PySem.W.notCls; rw [hv]
      have J : ∃ od, PySem.W.InstAt s.heap a oe D od := by
        cases d with
        | none => exact ⟨none, get, hz.1, nc, by rw [hz.2]; trivial⟩
        | some dx =>
          obtain ⟨fs, ed⟩ := hd dx rfl
          have ok : ObjOk X.prog X.w H s.heap dx (.xd fs) := I.hok dx _ ed
          obtain ⟨mA, hns, _⟩ := ok
          obtain ⟨od, ho, _⟩ := lookIn_ns hns
          exact ⟨some od, get, hz.1, nc, by rw [hz.2]; exact ho⟩
      obtain ⟨od, J⟩ := J
      exact PySem.W.kia_one (PySem.W.kitx_exc (od := od) (cls_ob C) C.hg C.hk C.hs C.ha C.hn C.ht C.hm) I.kIn J e (fun z => nomatch z) fun tk => ⟨.bl b, H, I.tok tk, rfl, q⟩
end
end Xs
/-! where an exception is handled: a list walked to its end, list comprehensions -/
namespace Ho
open L2 PySem PySem.Spec PyProof.Rows HotX
section
variable {s : Shared} {A : Around} {P : Program} {w : World} {E : Value → Shared → Prop}
theorem list_end {it l x1 : Addr} {i : Nat} {its : Array Value} {Q : Option Value → Shared → Prop} (hot : HotAt A x1 s.heap) (ne : x1 ≠ it) (hit : s.heap.IsListIter it l i) (hl : s.heap.IsList l its) (hx : its[i]? = none)
    (h : ∀ h', (∀ b o, b ≠ it → s.heap.get? b = some o → h'.get? b = some o) → Q none { s with heap := h' }) : wpAny (model P w) A (pyNext (.ref it)) Q E s := by
  have ⟨o, ho, _, hd⟩ := hit
  have ⟨ol, hol, _, nl, hdl⟩ := hl
  obtain ⟨hh, o1, v1, h1, d1, c1⟩ := hot
  unfold pyNext
  refine wpAny_bind (wpAny_attempt (wpAny_callSpecial?_slot (name := Str.ofString "__next__") hit.typeIs slot_listiter_next (wpAny_call_entry slot_listiter_next hit.typeIs entry_listiter_next ?_ (args_listiter_next _))))
  refine wpAny_bind (m := field (.ref it) 0) (wpAny_field ho hd (x := .ref l) rfl ?_)
  have some_ : ¬ ((Value.ref l == Value.none) = true) := Bool.false_ne_true
  rw [if_neg some_]
  refine wpAny_bind (m := field (.ref it) 1) (wpAny_field ho hd (x := .int i 0) rfl (wpAny_bind (m := seqItems? (.ref l)) (wpAny_seqItems hol hdl ?_)))
  simp only [hx, Int.toNat_natCast]
  refine wpAny_bind (wpAny_rule (wpAny_bind (wpAny_setField ho hd (by simp) (wpAny_bind (m := newExc (.type "StopIteration") []) ?_))))
  simp only [newExc, newTuple]
  refine wpAny_bind (wpAny_newObj_type (wpAny_bind (m := firstArgMember _ _) (wpAny_of_eq (a := Value.none) (by first | rfl | (simp only [firstArgMember]; rfl)) (wpAny_newObj_type ?_ (by size_fits)))) (by size_fits))
  have keep : ∀ b u, b ≠ it → s.heap.get? b = some u → (s.heap.update it (Obj.mapFields (·.setIfInBounds 0 Value.none))).get? b = some u := fun b u n e => (Heap.get?_update_other _ _ (Ne.symm n)).trans e
  refine raiseNew_hot ⟨hh, o1, v1, Heap.get?_push_of_some _ (Heap.get?_push_of_some _ (keep x1 o1 ne h1)), d1, c1⟩ (Nat.ne_of_lt (Heap.lt_size (Heap.get?_push_of_some _ (keep x1 o1 ne h1)))) (Heap.get?_push_size _ rfl) rfl (by first | (simp; done) | (simp; omega) | (simp only [Array.size_append]; simp; omega)) ?_
  refine wpAny_bind (wpAny_isInstance (T := "StopIteration") (b := true) ⟨_, Heap.get?_update_self _ (Heap.get?_push_size _ rfl) rfl, rfl⟩ isSubtype_stop (wpAny_pure (h _ fun b u n e => ?_)))
  rw [Heap.get?_update_other _ _ (Nat.ne_of_gt (Heap.lt_size (Heap.get?_push_of_some _ (keep b u n e))))]
  exact Heap.get?_push_of_some _ (Heap.get?_push_of_some _ (keep b u n e))
end
section
variable {B : Cx}
theorem list_loop {tg elt l : Expr} {ifs : List Expr} {scope : Scope} {pos : Pos} {it D a : Addr} {p : Addr × Obj} {g : TG} {tt : TT} {te : TE} {vs : List Nat} {σw : L2.St} {W : Nat → Nat → Hp → Prop} {Qd : Hp → Prop} {R : Result → Shared → Prop}
    (hxe : B.xe = fun _ _ => False) (hpn : B.pn = []) (hex : B.ex = [it]) (hot : L2H.Hot1 B.A p) (pne : p.1 ≠ it) (pg : PG B tg g) (pt : PTs B ifs tt) (pe : PE B elt te)
    (turn : ∀ i m H, W i m H → ((Itl B.K a).stop i H ∧ Qd H) ∨ ((Itl B.K a).go i H ∧ ∃ Nx : Hp → Prop, (∀ H', Nx H' → ∃ m', m' < m ∧ W (i + 1) m' H') ∧ ∀ x H', (Itl B.K a).yld i H x H' → g x σw H' fun σ2 H2 => wipe σ2 vs = σw ∧ tt σ2 H2 fun b H3 =>
      if b = true then te σ2 H3 fun y H4 => ∃ acc, H4 D = some (.lst acc) ∧ acc.length < sizeLine ∧ Nx (upd H4 D (.lst (acc ++ [y]))) else Nx H3))
    (out : ∀ s' H', Inv B [p] σw H' s' → Qd H' → R (.ok .next) s') {m i : Nat} {s : Shared} {H : Hp} (I : Inv B [p] σw H s) (st : s.heap.IsListIter it a i) (nit : H it = none) (w0 : W i m H) :
    codeAny (model B.prog B.w) B.A (.compLoop (.ListComp elt [⟨tg, l, ifs, 0⟩] scope pos) 0 (.ref it) (.ref D) B.env) R s := by
  have may : ∀ {σ' H' s'}, Inv B [p] σ' H' s' → H' it = none → FpOk B [p] H' it := fun J' hz =>
    have hb' : it ∈ B.ex := hex ▸ List.mem_cons_self
    ⟨hz, (J'.ok.exf it hb').1, J'.ok.exfs it hb', .inl hb', (J'.ok.exf it hb').2, fun q hq z => by
      rw [hpn] at hq
      rw [List.mem_singleton.mp hq] at z
      exact pne z⟩
  refine compLoop_any (fun n s' => ∃ i H', Inv B [p] σw H' s' ∧ s'.heap.IsListIter it a i ∧ H' it = none ∧ W i n H') ?_ m ⟨i, H, I, st, nit, w0⟩
  intro n s ⟨i, H, I, st, nit, w⟩
  obtain ⟨f0, f1, f2, f3, f4, f5⟩ := may I nit
  rcases turn i n H w with ⟨⟨xs, hq, hx⟩, qq⟩ | ⟨⟨xs, x0, hq, hx⟩, Nx, hNx, step⟩
  · obtain ⟨its, rv, pl, _⟩ := I.list hq
    obtain ⟨hh, v1, e1, c1⟩ := hot
    refine list_end ⟨hh, p.2, v1, (I.pin p (List.mem_append_right _ List.mem_cons_self)).1, e1, c1⟩ pne st pl.isList (by have := rv.length; simp; omega) fun h' k => ?_
    exact out _ H (I.turned (t' := s.toks) (fun b o n e => k b o n e) f0 f1 f3 f4 f5) qq
  · obtain ⟨its, rv, pl, _⟩ := I.list hq
    have ⟨u, hu, ru⟩ := rv.get hx
    refine wpAny_pyNext_list_item st pl.isList (x := u) (by simpa using hu) fun h' st' sb => ?_
    have I2 : Inv B [p] σw H { s with heap := h' } := I.turned (t' := s.toks) (fun b o hb e => (sb.2 b hb).trans e) f0 f1 f3 f4 f5
    obtain ⟨o, oe, oc, od⟩ := id st'
    refine go_of (s := { s with heap := h' }) oe oc od (by decide) ?_
    have fp1 : ∀ b ∈ [it], FpOk B [p] H b := fun b hb => by rw [List.mem_singleton.mp hb]; exact may I2 nit
    have given := pg.run _ _ _ H x0 u _ (I2.pinned fp1 (fun b hb => by rw [List.mem_singleton.mp hb]; exact ⟨o, oe, fun v z => by rw [od] at z; cases z⟩)) ru (step x0 H ⟨rfl, fun ys hy => by rw [I.list_inj hy hq]; exact hx⟩)
    refine thnF (hxe ▸ given) fun _ s3 ⟨σ3, H3, I3, w3, q3⟩ => ?_
    have asked := pt.run _ s3 σ3 H3 _ I3 q3
    refine thnF (hxe ▸ asked) fun b s4 ⟨H4, I4, q4⟩ => ?_
    have on : ∀ {s' H'}, Inv B ([p] ++ pinsAt [it] h') σ3 H' s' → Nx H' → ∃ m, m < n ∧ ∃ i H', Inv B [p] σw H' s' ∧ s'.heap.IsListIter it a i ∧ H' it = none ∧ W i m H' := fun {s' H'} I' nx => by
      obtain ⟨m', less, w'⟩ := hNx H' nx
      have still := I'.pin (it, o) (List.mem_append_right B.pn (List.mem_append_right [p] (mem_pinsAt List.mem_cons_self oe)))
      exact ⟨m', less, i + 1, H', (I'.unpinned (pins := [p])).weak (by rw [← w3, wipe_length]) fun j v e => (wipe_some (w3.symm ▸ e : (wipe σ3 vs)[j]? = _)).1, ⟨o, still.1, oc, od⟩, still.2.1, w'⟩
    cases b with
    | false => exact on I4 ((if_neg Bool.false_ne_true).mp q4)
    | true =>
      have told := pe.run _ s4 σ3 H4 _ I4 ((if_pos rfl).mp q4)
      exact (if_pos rfl).mpr (thnF (hxe ▸ told) fun z s5 ⟨y, H5, I5, r5, acc, at5, few, nx⟩ => app_ok I5 at5 few r5 fun s6 I6 => on I6 nx)
end
section
variable {X : Cx}
/-- a list comprehension over a list where an exception is handled -/
theorem pe_lc {elt tg l : Expr} {ifs : List Expr} {scope : Scope} {own : List (PySem.Str × Nat)} {pos : Pos} {tl : TE} {g : TG} {tt : TT} {te : TE} (hot : L2H.HotC X) (hN : X.N.Nodup) (hl : PE X l tl) (blk : BlkOk X.N X.env.scope scope own)
    (hg : ∀ s H C cl fp, PG (X.blk s H scope (compEnvC scope cl C X.env) fp) tg g) (ht : ∀ s H C cl fp, PTs (X.blk s H scope (compEnvC scope cl C X.env) fp) ifs tt) (he : ∀ s H C cl fp, PE (X.blk s H scope (compEnvC scope cl C X.env) fp) elt te) (hs : ∀ x, foldedSetIterable l X.env x = pure x := by intro _; rfl) :
    PE X (.ListComp elt [⟨tg, l, ifs, 0⟩] scope pos) (tLc (iList X.K tl) g tt te (own.map (·.2))) := ⟨fun pins s σ H Q I h => by
  obtain ⟨p, ⟨hh, v1, e1, c1⟩, hp⟩ := hot
  rw [eval_ListComp]
  refine wpAny_comprehension_free (use := none) rfl hs (closure_ok fun y hy e => I.ok.has y.1 (blk.free y hy e)) blk.kind (fun y hy e => by rw [blk.uniq y hy, e]) (thn (hl.run pins s σ H _ I h) fun v s1 ⟨x, H1, I1, r1, a, ex, ⟨xs, hq⟩, q⟩ => ?_)
  subst ex
  cases r1
  obtain ⟨its, rv, pl, hz⟩ := I1.list hq
  refine wpAny_pyIter_list pl.isList ?_
  have I2 : Inv X pins σ H1 { s1 with heap := s1.heap.push { cls := .type "list_iterator", data := .fields #[.ref a, .int 0 0] } } := I1.kept (t' := s1.toks) fun b o e => Heap.get?_push_of_some _ e
  have it0 : (s1.heap.push { cls := .type "list_iterator", data := .fields #[.ref a, .int 0 0] }).IsListIter s1.heap.objs.size a 0 := ⟨_, Heap.get?_push_size _ rfl, rfl, rfl⟩
  have fit : FpOk X pins H1 s1.heap.objs.size := I1.fpOk (Nat.le_refl _) (I1.hok.fresh (Nat.le_refl _))
  have plt : p.1 < s1.heap.objs.size := Heap.lt_size (I1.pin p (List.mem_append_left _ hp)).1
  have itlt : s1.heap.objs.size < (s1.heap.push { cls := .type "list_iterator", data := .fields #[.ref a, .int 0 0] }).objs.size := by rw [Heap.size_push]; exact Nat.lt_succ_self _
  generalize s1.heap.objs.size = it at it0 fit plt itlt ⊢
  generalize hs2 : ({ s1 with heap := s1.heap.push { cls := .type "list_iterator", data := .fields #[.ref a, .int 0 0] } } : Shared) = s2 at I2 ⊢
  have e2 : s2.heap = s1.heap.push { cls := .type "list_iterator", data := .fields #[.ref a, .int 0 0] } := by rw [← hs2]
  rw [← e2] at it0 itlt
  refine wpAny_newObj_type (newEnv_comp ?_) (show 0 ≤ sizeLine from Nat.zero_le _)
  obtain ⟨W, ⟨m0, w0⟩, turn⟩ := q s2.heap.objs.size (I2.hok.fresh (Nat.le_refl _))
  have I3 : Inv X pins σ (upd H1 s2.heap.objs.size (.lst [])) { s2 with heap := s2.heap.push { cls := .type "list", data := .seq ([] : List Value).toArray } } :=
    I2.laid (t' := s2.toks) (fun b o e => Heap.get?_push_of_some _ e) (Nat.le_refl _) ⟨Nat.zero_le _, [], 0, .nil, Heap.get?_push_size _ rfl⟩
  have f3 : ∀ b ∈ [it], FpOk X pins (upd H1 s2.heap.objs.size (.lst [])) b ∧ b < (s2.heap.push { cls := .type "list", data := .seq ([] : List Value).toArray }).objs.size := fun b hb => by
    rw [List.mem_singleton.mp hb]
    exact ⟨⟨by rw [upd_ne (Nat.ne_of_lt itlt)]; exact fit.1, fit.2⟩, by rw [Heap.size_push]; exact Nat.lt_succ_of_lt itlt⟩
  have I4 := block_start I3 blk hN f3
  have pg := hg { s2 with heap := s2.heap.push { cls := .type "list", data := .seq ([] : List Value).toArray } } (upd H1 s2.heap.objs.size (.lst [])) (s2.heap.push { cls := .type "list", data := .seq ([] : List Value).toArray }).objs.size (cellsFrom ((s2.heap.push { cls := .type "list", data := .seq ([] : List Value).toArray }).objs.size + 1) scope.names (cloFrom X.env.cells scope.names [])) [it]
  have pt := ht { s2 with heap := s2.heap.push { cls := .type "list", data := .seq ([] : List Value).toArray } } (upd H1 s2.heap.objs.size (.lst [])) (s2.heap.push { cls := .type "list", data := .seq ([] : List Value).toArray }).objs.size (cellsFrom ((s2.heap.push { cls := .type "list", data := .seq ([] : List Value).toArray }).objs.size + 1) scope.names (cloFrom X.env.cells scope.names [])) [it]
  have pe := he { s2 with heap := s2.heap.push { cls := .type "list", data := .seq ([] : List Value).toArray } } (upd H1 s2.heap.objs.size (.lst [])) (s2.heap.push { cls := .type "list", data := .seq ([] : List Value).toArray }).objs.size (cellsFrom ((s2.heap.push { cls := .type "list", data := .seq ([] : List Value).toArray }).objs.size + 1) scope.names (cloFrom X.env.cells scope.names [])) [it]
  have st4 : (pushCells ((s2.heap.push { cls := .type "list", data := .seq ([] : List Value).toArray }).push { cls := .type "dict", data := .dict #[] }) scope.names).IsListIter it a 0 := it0.at fun o e => pushCells_keeps _ _ _ _ (Heap.get?_push_of_some _ (Heap.get?_push_of_some _ e))
  have p3 := I3.pin p (List.mem_append_left _ hp)
  have pne : p.1 ≠ it := Nat.ne_of_lt plt
  have I5 := I4.pins_of (pins' := [p]) fun q hq => by
    rw [List.mem_singleton.mp hq]
    refine ⟨pushCells_keeps _ _ _ _ (Heap.get?_push_of_some _ p3.1), p3.2.1, ?_, fun z => ?_, p3.2.2.2.2⟩
    · exact Nat.ne_of_lt (Heap.lt_size p3.1)
    · exact (List.mem_cons.mp (I3.stkSub p.1 z)).elim p3.2.2.1 p3.2.2.2.1
  have loop := list_loop (B := X.blk { s2 with heap := s2.heap.push { cls := .type "list", data := .seq ([] : List Value).toArray } } (upd H1 s2.heap.objs.size (.lst [])) scope (compEnvC scope (cellsFrom ((s2.heap.push { cls := .type "list", data := .seq ([] : List Value).toArray }).objs.size + 1) scope.names (cloFrom X.env.cells scope.names [])) (s2.heap.push { cls := .type "list", data := .seq ([] : List Value).toArray }).objs.size X.env) [it]) (elt := elt) (l := l) (scope := scope) (pos := pos) (D := s2.heap.objs.size) (R := compPost (model X.prog X.w) X.A X.xe none (fun v s' => ∃ x H', Inv X pins σ H' s' ∧ RelV x v ∧ Q x H') (.ref s2.heap.objs.size) (s2.heap.push { cls := .type "list", data := .seq ([] : List Value).toArray }).objs.size) rfl rfl rfl ⟨hh, v1, e1, c1⟩ pne pg pt pe turn ?_ I5 st4 (f3 it List.mem_cons_self).1.1 w0
  · exact codeAny_compStart_list loop (wpAny_pyIter_listiter st4 loop)
  · intro s5 H5 I5 q5
    obtain ⟨mp, ns, _⟩ := I5.loc
    have I6 : Inv X pins σ H5 s5 := I3.call' (ch := [it]) I5.os I5.base I5.hok I5.bare fun b hb => (f3 b hb).1.2.elim fun z1 z => ⟨z.2.1, z1, z.2.2.1, z.2.2.2⟩
    obtain ⟨z0, z1, _, z3, z4, z5⟩ := I3.fpOk (Nat.le_refl _) (show H5 (s2.heap.push { cls := .type "list", data := .seq ([] : List Value).toArray }).objs.size = none from I5.free)
    exact ⟨mp, ns, fun h2 same => ⟨.ref s2.heap.objs.size, H5, I6.turned (t' := s5.toks) (fun b o n e => (same.2 b n).trans e) z0 z1 z3 z4 z5, rfl, q5⟩⟩⟩
end
end Ho
/-! where an exception is handled: sum of a list; defs that know the handled exception -/
namespace Xs
open L2 PySem PySem.Spec PyProof.Rows HotX
section
variable {A : Around} {prog : Program} {w : World}
/-- a list walked to its end, the handled exception at x1 standing by -/
theorem hot_walk {it l x1 : Addr} {o1 : Obj} {its : Array Value} (hh : A.handled = some (.ref x1)) (ctx : ∃ vs : Array Value, o1.data = .fields vs ∧ vs[2]? = some .none) (n1 : x1 ≠ it) (n2 : l ≠ it) :
    Walks prog w A it [it, l, x1] [it] its.size (fun i v => its[i]? = some v) (fun i h => h.IsListIter it l i ∧ h.IsList l its ∧ h.get? x1 = some o1) where
  sub := fun b hb => by rw [List.mem_singleton.mp hb]; exact List.mem_cons_self
  frame := fun i h h' ⟨a, b, c⟩ k => by
    obtain ⟨ol, e, r⟩ := b
    exact ⟨a.at fun o e => k it List.mem_cons_self o e, ⟨ol, k l (by simp) ol e, r⟩, k x1 (by simp) o1 c⟩
  item := fun i s Q E hi ⟨a, b, c⟩ q => by
    refine wpAny_pyNext_list_item a b (x := its[i]) (Array.getElem?_eq_getElem hi) fun h' a' same => ?_
    obtain ⟨ol, e, r⟩ := b
    exact q _ h' s.toks (Array.getElem?_eq_getElem hi) ⟨a', ⟨ol, (same.2 l n2).trans e, r⟩, (same.2 x1 n1).trans c⟩ fun b o nb e => (same.2 b fun z => nb (List.mem_singleton.mpr z)).trans e
  done := fun s Q E ⟨a, b, c⟩ q => by
    obtain ⟨vs, hd, hv⟩ := ctx
    exact Ho.list_end ⟨hh, o1, vs, c, hd, hv⟩ n1 a b (by simp) fun h' k => q h' s.toks fun b o nb e => k b o (fun z => nb (List.mem_singleton.mpr z)) e
  self := fun i s Q E ⟨a, _⟩ q => wpAny_pyIter_listiter a q
end
section
variable {X : Cx}
theorem preSum_list : ∀ (ns : List Int) (f : Nat → Int), (∀ i, i < ns.length → ns[i]? = some (f i)) → preSum f ns.length = ns.sum
  | [], _, _ => rfl
  | n :: r, f, h => by
    have e : ∀ k, preSum f (k + 1) = f 0 + preSum (fun i => f (i + 1)) k := fun k => by
      induction k with
      | zero => simp [preSum]
      | succ k ih =>
        have a : preSum f (k + 1 + 1) = preSum f (k + 1) + f (k + 1) := rfl
        have b : preSum (fun i => f (i + 1)) (k + 1) = preSum (fun i => f (i + 1)) k + f (k + 1) := rfl
        rw [a, ih, b]
        omega
    rw [List.length_cons, e, List.sum_cons, preSum_list r (fun i => f (i + 1)) fun i hi => by
      have := h (i + 1) (by rw [List.length_cons]; omega)
      simpa using this]
    have h0 := h 0 (by simp)
    simp at h0
    rw [h0]
/-- sum(xs) of ints -/
theorem hot_sum (hot : L2H.HotC X) : CallR X (.builtin "sum") (rSum X.K) := by
  intro pins s σ H vs us Q I r ⟨a, ns, ev, hs, q⟩
  subst ev
  obtain ⟨p, ⟨hh, cv, e1, c1⟩, hp⟩ := hot
  have ⟨its, rv, hl, _⟩ := I.list hs
  rw [Vals.ref1 r]
  have pin := (I.pin p (List.mem_append_left _ hp)).1
  have alt : a < s.heap.objs.size := hl.isList.elim fun _ e => Heap.lt_size e.1
  have len : its.length = ns.length := by rw [← rv.length, List.length_map]
  refine call_sum_walkG (wpAny_pyIter_list hl.isList ⟨s.heap.objs.size, _, _, _, _, _, fun i => ns.getD i 0, rfl, hot_walk (its := its.toArray) (o1 := p.2) hh ⟨cv, e1, c1⟩ (Nat.ne_of_lt (Heap.lt_size pin)) (Nat.ne_of_lt alt), ⟨⟨_, Heap.get?_push_size _ rfl, rfl, rfl⟩, hl.isList.push _, Heap.get?_push_of_some _ pin⟩, fun b hb => ?_, fun i v hv => ?_, fun h' tk t' k => ?_⟩)
  · show b < (s.heap.push _).objs.size
    rw [Heap.size_push]
    rcases List.mem_cons.mp hb with z | hb
    · rw [z]; exact Nat.lt_succ_self _
    · rcases List.mem_cons.mp hb with z | hb
      · rw [z]; exact Nat.lt_succ_of_lt alt
      · rw [List.mem_singleton.mp hb]; exact Nat.lt_succ_of_lt (Heap.lt_size pin)
  · have hi : i < its.length := by
      have := (Array.getElem?_eq_some_iff.mp hv).1
      simpa using this
    have hn : ns[i]? = some (ns.getD i 0) := by
      rw [List.getD_eq_getElem?_getD, List.getElem?_eq_getElem (by omega)]; rfl
    have hm : (ns.map V.int)[i]? = some (.int (ns.getD i 0)) := by rw [List.getElem?_map, hn]; rfl
    obtain ⟨u, hu, ru⟩ := rv.get hm
    have : its[i]? = some v := by simpa using hv
    rw [hu] at this
    cases this
    obtain ⟨t, rfl⟩ := ru
    exact ⟨t, rfl⟩
  · have e : preSum (fun i => ns.getD i 0) its.toArray.size = ns.sum := by
      rw [List.size_toArray, len]
      exact preSum_list ns _ fun i hi => by rw [List.getD_eq_getElem?_getD, List.getElem?_eq_getElem hi]; rfl
    rw [e]
    refine ⟨.int ns.sum, H, I.kept (t' := tk) fun b o eb => k b o (fun z => ?_) (Heap.get?_push_of_some _ eb), ⟨_, rfl⟩, q⟩
    rw [List.mem_singleton.mp z] at eb
    exact Nat.lt_irrefl _ (Heap.lt_size eb)
end
/-! ### a def called there, that knows of what class the exception is -/
/-- its promise: Z of the exception's object, sp with its address -/
structure FnZ (P : Program) (w : World) (K : PySem.W.Frag) (mg : Str → Option Value) (base : Heap) (k : Nat) (f : Addr) (fd : FuncData) (ps : List Str) (Z : Obj → Prop) (sp : Addr → Sp) : Prop where
  len : ∀ a vs H Q E, sp a vs H Q E → vs.length = ps.length
  run : ∀ (A : Around) (outer : List Env) (s : Shared) (H : Hp) (args : Args) (us : List Value) (vs : List V) (Q : VK) (E : XK) (p : Addr × Obj), L2H.RoomH k A → L2H.Hot1 A p → Z p.2 → L2H.PinOk outer H s p → Env0 P w K mg base A outer s H → BindsTo s fd args (ps.zip us) → Vals vs us → sp p.1 vs H Q E →
    codeAny (model P w) A (.call (.ref f) args) (CR CX0 outer P w H s Q E) s
theorem fnZ_of {P : Program} {w : World} {K : PySem.W.Frag} {mg : Str → Option Value} {base : Heap} {k : Nat} {f : Addr} {x : Str} {st : Stmt} {fd : FuncData} {N ps : List Str} {Z : Obj → Prop} {sp : Addr → Sp} (F : Fun K x x st f fd) (S : FnScope N ps (defScope st)) (len : ∀ a vs H Q E, sp a vs H Q E → vs.length = ps.length)
    (body : ∀ (cd : Value) (A : Around) (outer : List Env) (s : Shared) (H : Hp) (vs : List V) (Q : VK) (E : XK) (p : Addr × Obj), L2H.Hot1 A p → Z p.2 → L2H.RoomH k (A.deeper (envOfC x (defScope st) s.heap.objs.size f cd)) → sp p.1 vs H Q E →
      ∃ t, PSs (L2H.cxH CX0 P w K mg base N x (defScope st) f cd A outer s H E p) (defBody st) t ∧ t { nx := fun _ H' => Q .non H', rt := Q } (L2.start N vs) H) : FnZ P w K mg base (k + 1) f fd ps Z sp := by
  obtain ⟨oc, od, kV, doc, pm, an, cd, ct, osl, rfl, lk, hcd⟩ := F.ex
  refine ⟨len, fun A outer s H args us vs Q E p hr hot hz pin e0 hb r hsp => ?_⟩
  have kept : ∀ b o, base.get? b = some o → s.heap.get? b = some o := fun b o z => (e0.bs b o z).1
  have KX : K.In s.heap := e0.mod.kin.keeps kept
  refine codeAny_call_function hr.depth (KX _ _ lk) rfl S.co S.gen rfl (PySem.W.codeRec_of KX hcd) (hb _ _ _ _ (wpAny_newFunctionEnv_cells S.kind (fun y hy => ?_) fun env he s1 x1 => ?_))
  · exact (S.par y.1 (List.of_mem_zip hy).1).imp id fun z => ⟨z, PySem.W.cellsFrom_some _ _ _ (.inl z)⟩
  · subst he
    obtain ⟨t, pt, q⟩ := body cd A outer s H vs Q E p hot hz (hr.deeper _) hsp
    have I := L2H.inv_startH (CX := CX0) (E := E) S pin e0 (len _ _ _ _ _ hsp) r x1
    refine ⟨(e0.mod.nolimit.keeps kept).keeps x1.toInCall.keep, codeAny_func (wpAny_mono (pt.run [] s1 _ H _ I q) (fun fl s' z => ?_) fun _ _ z => z)⟩
    cases fl with
    | ret u => exact z.elim fun v z => z.elim fun _ z => z.elim fun H' z => ⟨v, H', z.1.os, z.1.bare, z.1.base, z.1.hok, z.2⟩
    | next => exact z.elim fun _ z => z.elim fun H' z => ⟨.non, H', z.1.os, z.1.bare, z.1.base, z.1.hok, rfl, z.2⟩
    | brk => exact z.elim fun _ z => z.elim fun _ z => z.2.elim
    | cont => exact z.elim fun _ z => z.elim fun _ z => z.2.elim
section
variable {X : Cx} {k : Nat} {f a : Addr} {oe : Obj} {fd : FuncData} {ps : List Str} {Z : Obj → Prop} {sp : Addr → Sp} {x : Str} {q pos : Pos} {e : Expr} {es : List Expr} {t : TA}
/-- f(e, ..) in the suite -/
theorem pe_callZ (F : FnZ X.prog X.w X.K X.mg X.base k f fd ps Z sp) (hr : L2H.RoomH k X.A) (hot : L2H.Hot1 X.A (a, oe)) (hp : (a, oe) ∈ X.pn) (hz : Z oe) (hg : Gl X x) (hm : X.mg x = some (.ref f)) (hk : PySem.W.keepIn X.K (.ref f) = true) (hb : Binds X.K fd ps []) (ha : PA X (e :: es) t)
    (name : (x == ("__debug__" : Str)) = false := by decide) (bare1 : starEach (e :: es) X.env = (false, eval e X.env) :: starEach es X.env := by rfl) (bare2 : (backTo pos (starEach es X.env)).any (·.1) = false := by rfl) :
    PE X (.Call (.Name x q) (e :: es) [] pos) (fun σ H Q => t σ H fun vs H1 => sp a vs H1 Q E0) := ⟨fun pins s σ H Q I h => by
  refine wpAny_Call_Name_kw (ld_glob I hg hm (PySem.W.callWith_K (h₀ := X.base) I.ok.mod.kin hk (thn (ha.run pos pins s σ H _ I h) fun us s1 ⟨vs, H1, I1, r, z⟩ => ⟨I1.kIn, ?_⟩) bare1 bare2) name)
  have b := hb s1 us I1.kIn (by rw [List.append_nil, ← r.length]; exact F.len _ _ _ _ _ z)
  rw [List.append_nil] at b
  obtain ⟨g1, g2, g3, g4, g5⟩ := I1.pin (a, oe) (List.mem_append_left _ hp)
  refine wpAny_call (codeAny_mono (F.run X.A X.stack s1 H1 ⟨us, []⟩ us vs Q E0 (a, oe) hr hot hz ⟨g1, g2, fun m => (List.mem_cons.mp (I1.stkSub a m)).elim g3 g4, g5⟩ I1.env0 b r z) fun r s' y => ?_)
  cases r with
  | error _ => exact y.elim
  | ok fl =>
    cases fl with
    | ret u => exact I1.after y
    | next => exact y.elim
    | brk => exact y.elim
    | cont => exact y.elim⟩
end
end Xs
namespace Lw
open PySem PySem.Spec PyProof.Rows L2 Hx
abbrev sCell : Stmt := topS 67
abbrev sDrawn : Stmt := topS 68
abbrev sRoll : Stmt := topS 69
abbrev sRounds : Stmt := topS 70
theorem scCell : FnScope ["_law_script", "_law_k"] ["_law_script", "_law_k"] (defScope sCell) := ⟨rfl, rfl, rfl, by decide +kernel, rfl, by decide +kernel, by decide +kernel⟩
theorem scDrawn : FnScope ["_law_cell_here", "_law_k", "_law_more"] ["_law_cell_here", "_law_k"] (defScope sDrawn) := ⟨rfl, rfl, rfl, by decide +kernel, rfl, by decide +kernel, by decide +kernel⟩
theorem scRoll : FnScope ["_law_dice", "_law_many", "_law_told_here"] ["_law_dice", "_law_many"] (defScope sRoll) := ⟨rfl, rfl, rfl, by decide +kernel, rfl, by decide +kernel, by decide +kernel⟩
theorem scRounds : FnScope ["_law_script", "_law_high", "_law_k"] ["_law_script", "_law_high"] (defScope sRounds) := ⟨rfl, rfl, rfl, by decide +kernel, rfl, by decide +kernel, by decide +kernel⟩
section
variable {P : Program} {w : World} {K : PySem.W.Frag} {mg : Str → Option Value} {base : Heap} {T : List Addr}
/-! ### a cell -/
def spCell (K : PySem.W.Frag) (T : List Addr) : Sp := fun vs H Q _ => ∃ (a : Addr) (ns : List Int) (k : Nat), vs = [.ref a, .int k] ∧ k ≤ 1000 ∧ SqL K H a (ns.map V.int) ∧ ns.length ≤ 1000 ∧ TabsG T H ∧ ∀ H' r, Gr T H H' → Q (.int r) H'
theorem ok_cell {f : Addr} {fd : FuncData} {k : Nat} (F : Fun K "_law_cell" "_law_cell" sCell f fd) (ml : mg "len" = none) : FnOk P w K mg base CX0 (k + 1) f fd ["_law_script", "_law_k"] (spCell K T) := by
  refine F.ok scCell (fun vs H Q E h => ?_) (fun cdv A outer s H vs Q E hr h => ?_)
  · obtain ⟨a, ns, k, rfl, _⟩ := h
    rfl
  · obtain ⟨a, ns, k, rfl, hk, hS, hl, ht, q⟩ := h
    refine ⟨_, pss_cons (ps_if (pt_cmpR (op_eqP hr.units) (pv 0) (pe_lst pa_nil) (nomark _))
        (pss_one (ps_ret (pe_op op_mul (pv 1) pe_int))) pss_nil)
      (pss_one (ps_ret (pe_op op_add (pe_ix ix_list (pv 0) (pe_op op_mod (pv 1) (pe_callB call_len_seq (by rfl) ml PySem.boot_len (pa_cons (pv 0) pa_nil))) (fun _ _ => rfl))
        (pe_op op_mul (pe_op op_fdiv (pv 1) (pe_callB call_len_seq (by rfl) ml PySem.boot_len (pa_cons (pv 0) pa_nil))) pe_int)))), ?_⟩
    refine ⟨_, rfl, Nat.zero_le _, fun p np => ?_⟩
    have g1 : Gr T H (upd H p (.lst [])) := Gr.new ht _ np
    have hS1 : SqL K (upd H p (.lst [])) a (ns.map V.int) := g1.seqL ht hS
    refine ⟨.list (ns.map .int), .list [], .lst hS1 (dp_ints ns), .lst (SqL.of upd_same) .nil, plain_ints ns, rfl, ?_, _, rfl, ?_⟩
    · show min _ 1 ≤ 64
      omega
    · by_cases hz : ns = []
      · subst hz
        refine iteT ?_
        refine ⟨_, rfl, (k : Int), 7919, rfl, rfl, .inr ⟨by decide, by decide⟩, q _ _ g1⟩
      · have hne : PyData.eqv (.list (ns.map .int)) (.list []) = false := by
          cases ns with
          | nil => exact absurd rfl hz
          | cons x r => rfl
        rw [hne]
        refine iteF ?_
        have hpos : 0 < ns.length := List.length_pos_iff.mpr hz
        have hmod : k % ns.length < ns.length := Nat.mod_lt _ hpos
        have hc : (((ns.map V.int).length : Nat) : Int) = (ns.length : Int) := by rw [List.length_map]
        refine ⟨.ref a, rfl, _, rfl, .ref a, rfl, a, _, rfl, .inl hS1, (k : Int), ((ns.map V.int).length : Nat), rfl, rfl, by omega, a, _, _, .int ns[k % ns.length], rfl, rfl, hS1, ?_, ?_⟩
        · rw [hc, show ((k : Int) % (ns.length : Int)) = ((k % ns.length : Nat) : Int) from rfl]
          refine atI_nat ?_
          rw [List.getElem?_map, List.getElem?_eq_getElem hmod]
          rfl
        · refine ⟨_, rfl, .ref a, rfl, a, _, rfl, .inl hS1, (k : Int), ((ns.map V.int).length : Nat), rfl, rfl, ⟨by omega, by omega⟩, _, 104729, rfl, rfl, .inr ⟨by decide, by decide⟩, _, _, rfl, rfl, q _ _ g1⟩
/-! ### a great number -/
def spDrawn : Sp := fun vs H Q _ => ∃ (c k : Int), vs = [.int c, .int k] ∧ ∀ r : Int, 0 ≤ r → Q (.int r) H
theorem pow128 {x : Int} (h0 : 0 ≤ x) (h : x < 340282366920938463463374607431768211507) : x.natAbs < 2 ^ 129 := by
  have e : (2 : Nat) ^ 129 = 680564733841876926926749214863536422912 := by decide
  rw [e]; omega
theorem ok_drawn {f : Addr} {fd : FuncData} {k : Nat} (F : Fun K "_law_drawn" "_law_drawn" sDrawn f fd) : FnOk P w K mg base CX0 (k + 1) f fd ["_law_cell_here", "_law_k"] spDrawn := by
  refine F.ok scDrawn (fun vs H Q E h => ?_) (fun cdv A outer s H vs Q E hr h => ?_)
  · obtain ⟨c, k, rfl, _⟩ := h
    rfl
  · obtain ⟨c, k, rfl, q⟩ := h
    refine ⟨_, pss_cons (ps_set (i := 2) scDrawn.nd rfl (.inl rfl) (pe_op op_mod (pe_op op_add (pe_op op_mul (pv 0) pe_int) (pe_op op_mul (pe_op op_add (pv 1) pe_int) pe_int)) pe_int))
      (pss_cons (ps_set (i := 2) scDrawn.nd rfl (.inl rfl) (pe_op op_mod (pe_op op_mulW (pv 2) (pv 2)) pe_int))
      (pss_cons (ps_set (i := 2) scDrawn.nd rfl (.inl rfl) (pe_op op_mulW (pe_op op_mulW (pe_op op_add (pe_op op_mod (pv 2) pe_int) pe_int) (pe_op op_add (pe_op op_fdivW (pv 2) pe_int) pe_int)) (pv 2)))
      (pss_one (ps_ret (pe_op op_mod (pv 2) pe_int))))), ?_⟩
    refine ⟨_, rfl, c, 6364136223846793005, rfl, rfl, .inr ⟨by decide, by decide⟩, _, rfl, k, 1, rfl, rfl, k + 1, 1442695040888963407, rfl, rfl, .inr ⟨by decide, by decide⟩, _, _, rfl, rfl, _, _, rfl, rfl, (by show (0 : Int) < 340282366920938463463374607431768211507; decide), ?_⟩
    dsimp only
    generalize hx : (c * 6364136223846793005 + (k + 1) * 1442695040888963407) % 340282366920938463463374607431768211507 = x
    have x0 : 0 ≤ x := by rw [← hx]; exact Int.emod_nonneg _ (by decide)
    have x1 : x < 340282366920938463463374607431768211507 := by rw [← hx]; exact Int.emod_lt_of_pos _ (by decide)
    refine ⟨_, rfl, _, rfl, x, x, rfl, rfl, wide_mul (pow128 x0 x1) (pow128 x0 x1) (by decide) (by decide) (by decide), _, _, rfl, rfl, (by show (0 : Int) < 340282366920938463463374607431768211297; decide), ?_⟩
    dsimp only
    generalize hy : x * x % 340282366920938463463374607431768211297 = y
    have y0 : 0 ≤ y := by rw [← hy]; exact Int.emod_nonneg _ (by decide)
    have y1 : y < 340282366920938463463374607431768211507 := by
      have : y < 340282366920938463463374607431768211297 := by rw [← hy]; exact Int.emod_lt_of_pos _ (by decide)
      omega
    have d0 : 0 ≤ y / 18446744073709551557 := Int.ediv_nonneg y0 (by decide)
    have d1 : y / 18446744073709551557 < 340282366920938463463374607431768211500 := by
      have := Int.ediv_le_self 18446744073709551557 y0
      have : y / 18446744073709551557 < 20000000000000000000 := by omega
      omega
    have m0 : 0 ≤ y % 18446744073709551557 := Int.emod_nonneg _ (by decide)
    have m1 : y % 18446744073709551557 < 18446744073709551557 := Int.emod_lt_of_pos _ (by decide)
    have w1 : (y % 18446744073709551557 + 1).natAbs < 2 ^ 129 := pow128 (by omega) (by omega)
    have w2 : (y / 18446744073709551557 + 1).natAbs < 2 ^ 129 := pow128 (by omega) (by omega)
    refine ⟨_, rfl, y, 18446744073709551557, rfl, rfl, (by show (0 : Int) < 18446744073709551557; decide), _, 1, rfl, rfl, _, rfl, y, 18446744073709551557, rfl, rfl, wide_div (b := 65) (by decide) (by decide) (by decide) (by decide), _, 1, rfl, rfl, _, _, rfl, rfl, wide_mul w1 w2 (by decide) (by decide) (by decide), _, rfl, _, y, rfl, rfl, wide_mul (wide_lt w1 w2) (pow128 y0 y1) (by decide) (by decide) (by decide), ?_⟩
    refine ⟨_, rfl, _, 340282366920938463463374607431768211507, rfl, rfl, (by show (0 : Int) < 340282366920938463463374607431768211507; decide), q _ (Int.emod_nonneg _ (by decide))⟩
/-! ### a roll -/
def Die (H : Hp) (d : Addr) : Prop := ∃ x y : Int, H d = some (.lst [.int x, .int y])
def spRoll : Sp := fun vs H Q _ => ∃ (d : Addr) (many : Int), vs = [.ref d, .int many] ∧ Die H d ∧ 0 < many ∧ many < 1000000 ∧ ∀ x y r : Int, 0 ≤ r → r < many → Q (.int r) (upd H d (.lst [.int x, .int y]))
theorem ok_roll {f fD : Addr} {fd fdD : FuncData} {k : Nat} (F : Fun K "_law_roll" "_law_roll" sRoll f fd) (FD : Fun K "_law_drawn" "_law_drawn" sDrawn fD fdD) (bD : Binds K fdD ["_law_cell_here", "_law_k"] []) (gD : mg "_law_drawn" = some (.ref fD)) :
    FnOk P w K mg base CX0 (k + 2) f fd ["_law_dice", "_law_many"] spRoll := by
  have GD : FnOk P w K mg base CX0 (k + 1) fD fdD ["_law_cell_here", "_law_k"] spDrawn := ok_drawn FD
  refine F.ok scRoll (fun vs H Q E h => ?_) (fun cdv A outer s H vs Q E hr h => ?_)
  · obtain ⟨d, m, rfl, _⟩ := h
    rfl
  · obtain ⟨d, m, rfl, ⟨x, y, hD⟩, m0, m1, q⟩ := h
    refine ⟨_, pss_cons (ps_if (pt_cmpR op_ge (pe_ix ix_list (pv 0) pe_int (fun _ _ => rfl)) (pe_op op_pow pe_int pe_int) (nomark _))
        (pss_cons (ps_set (i := 2) scRoll.nd rfl (.inl rfl) (pe_op op_mod (pe_ix ix_list (pv 0) pe_int (fun _ _ => rfl)) (pv 1)))
        (pss_cons (ps_asg (pe_op op_fdiv (pe_ix ix_list (pv 0) pe_int (fun _ _ => rfl)) (pv 1)) (pg_sub (pv 0) pe_int set_list))
        (pss_one (ps_ret (pv 2))))) pss_nil)
      (pss_cons (ps_asg (pe_op op_add (pe_ix ix_list (pv 0) pe_int (fun _ _ => rfl)) pe_int) (pg_sub (pv 0) pe_int set_list))
      (pss_one (ps_ret (pe_op op_mod (pe_op op_fdiv (pe_call GD hr (by rfl) gD FD.kp bD .nil pass0 (pa_cons (pe_ix ix_list (pv 0) pe_int (fun _ _ => rfl)) (pa_cons (pe_ix ix_list (pv 0) pe_int (fun _ _ => rfl)) pa_nil))) pe_int) (pv 1))))), ?_⟩
    refine ⟨_, rfl, d, _, 0, .int x, rfl, rfl, SqL.of hD, rfl, 10, 18, rfl, rfl, ⟨by decide, by decide, by decide⟩, _, _, rfl, rfl, _, rfl, ?_⟩
    refine ite2 (fun c => ?_) (fun c => ?_)
    · refine ⟨_, rfl, d, _, 0, .int x, rfl, rfl, SqL.of hD, rfl, _, rfl, x, m, rfl, rfl, m0, ?_⟩
      refine ⟨_, rfl, d, _, 0, .int x, rfl, rfl, SqL.of hD, rfl, _, rfl, x, m, rfl, rfl, ⟨m0, by omega⟩, ?_⟩
      refine ⟨_, rfl, d, _, 0, 0, rfl, rfl, hD, rfl, ?_⟩
      exact ⟨_, rfl, q (x / m) y (x % m) (Int.emod_nonneg _ (by omega)) (Int.emod_lt_of_pos _ m0)⟩
    · refine ⟨_, rfl, d, _, 1, .int y, rfl, rfl, SqL.of hD, rfl, y, 1, rfl, rfl, ?_⟩
      refine ⟨_, rfl, d, _, 1, 1, rfl, rfl, hD, rfl, ?_⟩
      have hD2 : (upd H d (.lst ([V.int x, V.int y].set 1 (.int (y + 1))))) d = some (.lst [.int x, .int (y + 1)]) := upd_same
      refine ⟨_, rfl, d, _, 0, .int x, rfl, rfl, SqL.of hD2, rfl, _, rfl, d, _, 1, .int (y + 1), rfl, rfl, SqL.of hD2, rfl, x, y + 1, rfl, fun r r0 => ?_⟩
      refine ⟨r, 8, rfl, rfl, ⟨by decide, by decide⟩, _, rfl, _, m, rfl, rfl, m0, ?_⟩
      exact q x (y + 1) _ (Int.emod_nonneg _ (by omega)) (Int.emod_lt_of_pos _ m0)
end
end Lw
/-! the law's _law_term, of an exception of one of the program's fifteen classes -/
namespace Lw
open PySem PySem.Spec PyProof.Rows L2 Hx Xs
abbrev sTerm : Stmt := topS 71
abbrev nTerm : List Str := ["_law_e", "_law_flags_here", "_law_kinds", "_law_flag"]
theorem scTerm : FnScope nTerm ["_law_e"] (defScope sTerm) := ⟨rfl, rfl, rfl, by decide +kernel, rfl, by decide +kernel, by decide +kernel⟩
def Ext (H H' : Hp) : Prop := ∀ b o, H b = some o → H' b = some o
theorem Ext.refl (H : Hp) : Ext H H := fun _ _ e => e
theorem Ext.trans {H H1 H2 : Hp} (a : Ext H H1) (b : Ext H1 H2) : Ext H H2 := fun c o e => b c o (a c o e)
theorem Ext.new {H H1 : Hp} (a : Ext H H1) {p : Addr} {o : HO} (np : H1 p = none) : Ext H (upd H1 p o) := fun c u e => by rw [upd_ne (ne_of_none (a c u e) np)]; exact a c u e
theorem Ext.free {H H' : Hp} (a : Ext H H') {p : Addr} (h : H' p = none) : H p = none := by
  cases e : H p with
  | none => rfl
  | some o => rw [a p o e] at h; cases h
theorem Ext.own {H H1 : Hp} (a : Ext H H1) {p : Addr} {o : HO} (np : H p = none) : Ext H (upd H1 p o) := fun c u e => by rw [upd_ne (ne_of_none e np)]; exact a c u e
/-- the exception's object -/
def ZE (D : Addr) (d : Option Addr) (o : Obj) : Prop := L2N.Zn (.ref D) d o ∧ ∃ vs, o.data = .fields vs
def spTerm (i : Nat) (d : Option Addr) : Addr → Sp := fun a vs H Q _ => vs = [.ref a] ∧ (∀ dx, d = some dx → ∃ fs, H dx = some (.xd fs)) ∧ ∀ H' p, Ext H H' → H p = none → H' p = some (.tup [.str "refused", .str (nm i)]) → Q (.ref p) H'
def flags (i : Nat) : List V := (List.range 15).map fun j => V.bl (decide (i = j))
def flagI (i : Nat) : List Int := (List.range 15).map fun j => if decide (i = j) then (1 : Int) else 0
theorem one_flag : ∀ i, i < 15 → (flagI i).sum = 1 := by decide
theorem at_flag : ∀ i, i < 15 → (flags i)[i]? = some (.bl true) ∧ ∀ m, m < i → (flags i)[m]? = some (.bl false) := by
  intro i hi
  unfold flags
  refine ⟨?_, fun m hm => ?_⟩
  · rw [List.getElem?_map, List.getElem?_range hi]; simp
  · rw [List.getElem?_map, List.getElem?_range (by omega)]
    have : decide (i = m) = false := decide_eq_false (by omega)
    simp [this]
section
variable {K : PySem.W.Frag} {mg : Str → Option Value} {P : Program} {w : World} {base : Heap}
/-- isinstance's reading -/
theorem is_read {i j : Nat} {a : Addr} {d : Option Addr} {H : Hp} {Q : VK} (E : Errs K mg) (hi : i < 15) (hj : j < 15) (hd : ∀ dx, d = some dx → ∃ fs, H dx = some (.xd fs)) (q : Q (.bl (decide (i = j))) H) : rIsP K (ea K i) a d [.ref a, .ref (ea K j)] H Q :=
  ⟨_, .ref (ea K j), _, rfl, fun u r => r, E.kit i j hi hj, hd, q⟩
theorem ok_term {f : Addr} {fd : FuncData} {i : Nat} {d : Option Addr} (hi : i < 15) (F : Fun K "_law_term" "_law_term" sTerm f fd) (E : Errs K mg) (mI : mg "isinstance" = none) (mV : mg "ValueError" = none) (mS : mg "sum" = none) (mN : mg "int" = none) :
    FnZ P w K mg base 1 f fd ["_law_e"] (ZE (ea K i) d) (spTerm i d) := by
  refine fnZ_of (k := 0) F scTerm (fun a vs H Q E h => by rw [h.1]; rfl) (fun cd A outer s H vs Q Ex p hot hz hr ⟨ev, hd, q⟩ => ?_)
  subst ev
  obtain ⟨pa, po⟩ := p
  have hotc : L2H.HotC (L2H.cxH CX0 P w K mg base nTerm "_law_term" (defScope sTerm) f cd A outer s H Ex (pa, po)) := ⟨(pa, po), ⟨hot.1, hot.2⟩, List.mem_cons_self⟩
  have isp : CallR (L2H.cxH CX0 P w K mg base nTerm "_law_term" (defScope sTerm) f cd A outer s H Ex (pa, po)) (.builtin "isinstance") (rIsP K (ea K i) pa d) := call_isP (X := L2H.cxH CX0 P w K mg base nTerm "_law_term" (defScope sTerm) f cd A outer s H Ex (pa, po)) (E.exc i hi) List.mem_cons_self hz.1.zc hz.2
  refine' ⟨_, pss_cons ?s1 (pss_cons ?s2 (pss_cons ?s3 (pss_cons ?s4 (pss_cons ?s5 (pss_cons ?s6 (pss_cons ?s7 (pss_one ?s8))))))), ?fin⟩
  case s1 => exact ps_set (i := 1) scTerm.nd rfl (.inl rfl) (pe_lst (pa_cons (pe_callB isp (by rfl) mI boot_isinstance (pa_cons (pv 0) (pa_cons (pe_glob (v := .ref (ea K 0)) (by rfl) (E.g 0 (by decide)) rfl) pa_nil))) (pa_cons (pe_callB isp (by rfl) mI boot_isinstance (pa_cons (pv 0) (pa_cons (pe_glob (v := .ref (ea K 1)) (by rfl) (E.g 1 (by decide)) rfl) pa_nil))) (pa_cons (pe_callB isp (by rfl) mI boot_isinstance (pa_cons (pv 0) (pa_cons (pe_glob (v := .ref (ea K 2)) (by rfl) (E.g 2 (by decide)) rfl) pa_nil))) (pa_cons (pe_callB isp (by rfl) mI boot_isinstance (pa_cons (pv 0) (pa_cons (pe_glob (v := .ref (ea K 3)) (by rfl) (E.g 3 (by decide)) rfl) pa_nil))) pa_nil)))))
  case s2 => exact ps_set (i := 1) scTerm.nd rfl (.inl rfl) (pe_op op_cat (pv 1) (pe_lst (pa_cons (pe_callB isp (by rfl) mI boot_isinstance (pa_cons (pv 0) (pa_cons (pe_glob (v := .ref (ea K 4)) (by rfl) (E.g 4 (by decide)) rfl) pa_nil))) (pa_cons (pe_callB isp (by rfl) mI boot_isinstance (pa_cons (pv 0) (pa_cons (pe_glob (v := .ref (ea K 5)) (by rfl) (E.g 5 (by decide)) rfl) pa_nil))) (pa_cons (pe_callB isp (by rfl) mI boot_isinstance (pa_cons (pv 0) (pa_cons (pe_glob (v := .ref (ea K 6)) (by rfl) (E.g 6 (by decide)) rfl) pa_nil))) (pa_cons (pe_callB isp (by rfl) mI boot_isinstance (pa_cons (pv 0) (pa_cons (pe_glob (v := .ref (ea K 7)) (by rfl) (E.g 7 (by decide)) rfl) pa_nil))) pa_nil))))))
  case s3 => exact ps_set (i := 1) scTerm.nd rfl (.inl rfl) (pe_op op_cat (pv 1) (pe_lst (pa_cons (pe_callB isp (by rfl) mI boot_isinstance (pa_cons (pv 0) (pa_cons (pe_glob (v := .ref (ea K 8)) (by rfl) (E.g 8 (by decide)) rfl) pa_nil))) (pa_cons (pe_callB isp (by rfl) mI boot_isinstance (pa_cons (pv 0) (pa_cons (pe_glob (v := .ref (ea K 9)) (by rfl) (E.g 9 (by decide)) rfl) pa_nil))) (pa_cons (pe_callB isp (by rfl) mI boot_isinstance (pa_cons (pv 0) (pa_cons (pe_glob (v := .ref (ea K 10)) (by rfl) (E.g 10 (by decide)) rfl) pa_nil))) pa_nil)))))
  case s4 => exact ps_set (i := 1) scTerm.nd rfl (.inl rfl) (pe_op op_cat (pv 1) (pe_lst (pa_cons (pe_callB isp (by rfl) mI boot_isinstance (pa_cons (pv 0) (pa_cons (pe_glob (v := .ref (ea K 11)) (by rfl) (E.g 11 (by decide)) rfl) pa_nil))) (pa_cons (pe_callB isp (by rfl) mI boot_isinstance (pa_cons (pv 0) (pa_cons (pe_glob (v := .ref (ea K 12)) (by rfl) (E.g 12 (by decide)) rfl) pa_nil))) (pa_cons (pe_callB isp (by rfl) mI boot_isinstance (pa_cons (pv 0) (pa_cons (pe_glob (v := .ref (ea K 13)) (by rfl) (E.g 13 (by decide)) rfl) pa_nil))) (pa_cons (pe_callB isp (by rfl) mI boot_isinstance (pa_cons (pv 0) (pa_cons (pe_glob (v := .ref (ea K 14)) (by rfl) (E.g 14 (by decide)) rfl) pa_nil))) pa_nil))))))
  case s5 => exact ps_set (i := 2) scTerm.nd rfl (.inl rfl) (pe_lst (pa_cons pe_str (pa_cons pe_str (pa_cons pe_str (pa_cons pe_str (pa_cons pe_str (pa_cons pe_str (pa_cons pe_str (pa_cons pe_str (pa_cons pe_str pa_nil))))))))))
  case s6 => exact ps_set (i := 2) scTerm.nd rfl (.inl rfl) (pe_op op_cat (pv 2) (pe_lst (pa_cons pe_str (pa_cons pe_str (pa_cons pe_str (pa_cons pe_str (pa_cons pe_str (pa_cons pe_str pa_nil))))))))
  case s7 => exact ps_if (PW.pt (pw_or (pt_cmpR op_ne (pe_callB (hot_sum hotc) (by rfl) mS boot_sum (pa_cons (Ho.pe_lc (own := [("_law_flag", 3)]) (g := gName 3) (tt := tYes) hotc scTerm.nd (pv 1) (blkOk_by (N := nTerm) (sc := defScope sTerm) (by decide +kernel)) (fun _ _ _ _ _ => pg_name (i := 3) scTerm.nd rfl (Or.inl rfl)) (fun _ _ _ _ _ => pts_nil) (fun _ _ _ _ _ => pe_callTy call_int1 (by rfl) mN PyProof.Rows.boot_int (pa_cons (pv 3) pa_nil))) pa_nil)) pe_int (nomark _)) (pw_or1 (pt_not (pt_val (pe_callB isp (by rfl) mI boot_isinstance (pa_cons (pv 0) (pa_cons (pe_bltn (v := .ty "ValueError") (by rfl) mV (by decide +kernel) rfl) pa_nil)))))))) (pss_one (ps_ret (pe_tup (pa_cons pe_str (pa_cons pe_str pa_nil))))) pss_nil
  case s8 => exact ps_ret (pe_tup (pa_cons pe_str (pa_cons (pe_ix ix_list (pv 2) (pe_bm PySem.F.plainAttrs_list PySem.F.slot_list_index PySem.F.type_list_index mt_index (pv 1) (pa_cons pe_bl pa_nil)) (fun _ _ => rfl)) pa_nil)))
  case fin =>
    have more : ∀ {H'}, Ext H H' → ∀ dx, d = some dx → ∃ fs, H' dx = some (.xd fs) := fun e dx z => (hd dx z).elim fun fs y => ⟨fs, e _ _ y⟩
    refine ⟨_, rfl, _, .ref (ea K 0), _, rfl, fun u r => r, E.kit i 0 hi (by decide), hd, ⟨_, rfl, _, .ref (ea K 1), _, rfl, fun u r => r, E.kit i 1 hi (by decide), hd, ⟨_, rfl, _, .ref (ea K 2), _, rfl, fun u r => r, E.kit i 2 hi (by decide), hd, ⟨_, rfl, _, .ref (ea K 3), _, rfl, fun u r => r, E.kit i 3 hi (by decide), hd, ?_⟩⟩⟩⟩
    refine ⟨by show 4 ≤ sizeLine; decide, fun l1 n1 => ?_⟩
    have e1 : Ext H (upd H l1 (.lst [V.bl (decide (i = 0)), V.bl (decide (i = 1)), V.bl (decide (i = 2)), V.bl (decide (i = 3))])) := (Ext.refl H).new n1
    have h1 : (upd H l1 (.lst [V.bl (decide (i = 0)), V.bl (decide (i = 1)), V.bl (decide (i = 2)), V.bl (decide (i = 3))])) l1 = some (.lst [V.bl (decide (i = 0)), V.bl (decide (i = 1)), V.bl (decide (i = 2)), V.bl (decide (i = 3))]) := upd_same
    generalize upd H l1 (.lst [V.bl (decide (i = 0)), V.bl (decide (i = 1)), V.bl (decide (i = 2)), V.bl (decide (i = 3))]) = H1 at e1 h1 ⊢
    refine ⟨_, rfl, ⟨_, rfl, _, .ref (ea K 4), _, rfl, fun u r => r, E.kit i 4 hi (by decide), (more e1), ⟨_, rfl, _, .ref (ea K 5), _, rfl, fun u r => r, E.kit i 5 hi (by decide), (more e1), ⟨_, rfl, _, .ref (ea K 6), _, rfl, fun u r => r, E.kit i 6 hi (by decide), (more e1), ⟨_, rfl, _, .ref (ea K 7), _, rfl, fun u r => r, E.kit i 7 hi (by decide), (more e1), ?_⟩⟩⟩⟩⟩
    refine ⟨by show 4 ≤ sizeLine; decide, fun m2 n2 => ⟨l1, m2, _, _, rfl, rfl, by rw [upd_ne (ne_of_none h1 n2)]; exact h1, upd_same, by show 4 + 4 ≤ sizeLine; decide, fun l2 o2 => ?_⟩⟩
    have e2 : Ext H (upd (upd H1 m2 (.lst [V.bl (decide (i = 4)), V.bl (decide (i = 5)), V.bl (decide (i = 6)), V.bl (decide (i = 7))])) l2 (.lst ([V.bl (decide (i = 0)), V.bl (decide (i = 1)), V.bl (decide (i = 2)), V.bl (decide (i = 3))] ++ [V.bl (decide (i = 4)), V.bl (decide (i = 5)), V.bl (decide (i = 6)), V.bl (decide (i = 7))]))) := (e1.new n2).new o2
    have h2 : (upd (upd H1 m2 (.lst [V.bl (decide (i = 4)), V.bl (decide (i = 5)), V.bl (decide (i = 6)), V.bl (decide (i = 7))])) l2 (.lst ([V.bl (decide (i = 0)), V.bl (decide (i = 1)), V.bl (decide (i = 2)), V.bl (decide (i = 3))] ++ [V.bl (decide (i = 4)), V.bl (decide (i = 5)), V.bl (decide (i = 6)), V.bl (decide (i = 7))]))) l2 = some (.lst [V.bl (decide (i = 0)), V.bl (decide (i = 1)), V.bl (decide (i = 2)), V.bl (decide (i = 3)), V.bl (decide (i = 4)), V.bl (decide (i = 5)), V.bl (decide (i = 6)), V.bl (decide (i = 7))]) := upd_same
    generalize upd (upd H1 m2 (.lst [V.bl (decide (i = 4)), V.bl (decide (i = 5)), V.bl (decide (i = 6)), V.bl (decide (i = 7))])) l2 (.lst ([V.bl (decide (i = 0)), V.bl (decide (i = 1)), V.bl (decide (i = 2)), V.bl (decide (i = 3))] ++ [V.bl (decide (i = 4)), V.bl (decide (i = 5)), V.bl (decide (i = 6)), V.bl (decide (i = 7))])) = H2 at e2 h2 ⊢
    refine ⟨_, rfl, ⟨_, rfl, _, .ref (ea K 8), _, rfl, fun u r => r, E.kit i 8 hi (by decide), (more e2), ⟨_, rfl, _, .ref (ea K 9), _, rfl, fun u r => r, E.kit i 9 hi (by decide), (more e2), ⟨_, rfl, _, .ref (ea K 10), _, rfl, fun u r => r, E.kit i 10 hi (by decide), (more e2), ?_⟩⟩⟩⟩
    refine ⟨by show 3 ≤ sizeLine; decide, fun m3 n3 => ⟨l2, m3, _, _, rfl, rfl, by rw [upd_ne (ne_of_none h2 n3)]; exact h2, upd_same, by show 8 + 3 ≤ sizeLine; decide, fun l3 o3 => ?_⟩⟩
    have e3 : Ext H (upd (upd H2 m3 (.lst [V.bl (decide (i = 8)), V.bl (decide (i = 9)), V.bl (decide (i = 10))])) l3 (.lst ([V.bl (decide (i = 0)), V.bl (decide (i = 1)), V.bl (decide (i = 2)), V.bl (decide (i = 3)), V.bl (decide (i = 4)), V.bl (decide (i = 5)), V.bl (decide (i = 6)), V.bl (decide (i = 7))] ++ [V.bl (decide (i = 8)), V.bl (decide (i = 9)), V.bl (decide (i = 10))]))) := (e2.new n3).new o3
    have h3 : (upd (upd H2 m3 (.lst [V.bl (decide (i = 8)), V.bl (decide (i = 9)), V.bl (decide (i = 10))])) l3 (.lst ([V.bl (decide (i = 0)), V.bl (decide (i = 1)), V.bl (decide (i = 2)), V.bl (decide (i = 3)), V.bl (decide (i = 4)), V.bl (decide (i = 5)), V.bl (decide (i = 6)), V.bl (decide (i = 7))] ++ [V.bl (decide (i = 8)), V.bl (decide (i = 9)), V.bl (decide (i = 10))]))) l3 = some (.lst [V.bl (decide (i = 0)), V.bl (decide (i = 1)), V.bl (decide (i = 2)), V.bl (decide (i = 3)), V.bl (decide (i = 4)), V.bl (decide (i = 5)), V.bl (decide (i = 6)), V.bl (decide (i = 7)), V.bl (decide (i = 8)), V.bl (decide (i = 9)), V.bl (decide (i = 10))]) := upd_same
    generalize upd (upd H2 m3 (.lst [V.bl (decide (i = 8)), V.bl (decide (i = 9)), V.bl (decide (i = 10))])) l3 (.lst ([V.bl (decide (i = 0)), V.bl (decide (i = 1)), V.bl (decide (i = 2)), V.bl (decide (i = 3)), V.bl (decide (i = 4)), V.bl (decide (i = 5)), V.bl (decide (i = 6)), V.bl (decide (i = 7))] ++ [V.bl (decide (i = 8)), V.bl (decide (i = 9)), V.bl (decide (i = 10))])) = H3 at e3 h3 ⊢
    refine ⟨_, rfl, ⟨_, rfl, _, .ref (ea K 11), _, rfl, fun u r => r, E.kit i 11 hi (by decide), (more e3), ⟨_, rfl, _, .ref (ea K 12), _, rfl, fun u r => r, E.kit i 12 hi (by decide), (more e3), ⟨_, rfl, _, .ref (ea K 13), _, rfl, fun u r => r, E.kit i 13 hi (by decide), (more e3), ⟨_, rfl, _, .ref (ea K 14), _, rfl, fun u r => r, E.kit i 14 hi (by decide), (more e3), ?_⟩⟩⟩⟩⟩
    refine ⟨by show 4 ≤ sizeLine; decide, fun m4 n4 => ⟨l3, m4, _, _, rfl, rfl, by rw [upd_ne (ne_of_none h3 n4)]; exact h3, upd_same, by show 11 + 4 ≤ sizeLine; decide, fun l4 o4 => ?_⟩⟩
    have e4 : Ext H (upd (upd H3 m4 (.lst [V.bl (decide (i = 11)), V.bl (decide (i = 12)), V.bl (decide (i = 13)), V.bl (decide (i = 14))])) l4 (.lst ([V.bl (decide (i = 0)), V.bl (decide (i = 1)), V.bl (decide (i = 2)), V.bl (decide (i = 3)), V.bl (decide (i = 4)), V.bl (decide (i = 5)), V.bl (decide (i = 6)), V.bl (decide (i = 7)), V.bl (decide (i = 8)), V.bl (decide (i = 9)), V.bl (decide (i = 10))] ++ [V.bl (decide (i = 11)), V.bl (decide (i = 12)), V.bl (decide (i = 13)), V.bl (decide (i = 14))]))) := (e3.new n4).new o4
    have h4 : (upd (upd H3 m4 (.lst [V.bl (decide (i = 11)), V.bl (decide (i = 12)), V.bl (decide (i = 13)), V.bl (decide (i = 14))])) l4 (.lst ([V.bl (decide (i = 0)), V.bl (decide (i = 1)), V.bl (decide (i = 2)), V.bl (decide (i = 3)), V.bl (decide (i = 4)), V.bl (decide (i = 5)), V.bl (decide (i = 6)), V.bl (decide (i = 7)), V.bl (decide (i = 8)), V.bl (decide (i = 9)), V.bl (decide (i = 10))] ++ [V.bl (decide (i = 11)), V.bl (decide (i = 12)), V.bl (decide (i = 13)), V.bl (decide (i = 14))]))) l4 = some (.lst [V.bl (decide (i = 0)), V.bl (decide (i = 1)), V.bl (decide (i = 2)), V.bl (decide (i = 3)), V.bl (decide (i = 4)), V.bl (decide (i = 5)), V.bl (decide (i = 6)), V.bl (decide (i = 7)), V.bl (decide (i = 8)), V.bl (decide (i = 9)), V.bl (decide (i = 10)), V.bl (decide (i = 11)), V.bl (decide (i = 12)), V.bl (decide (i = 13)), V.bl (decide (i = 14))]) := upd_same
    generalize upd (upd H3 m4 (.lst [V.bl (decide (i = 11)), V.bl (decide (i = 12)), V.bl (decide (i = 13)), V.bl (decide (i = 14))])) l4 (.lst ([V.bl (decide (i = 0)), V.bl (decide (i = 1)), V.bl (decide (i = 2)), V.bl (decide (i = 3)), V.bl (decide (i = 4)), V.bl (decide (i = 5)), V.bl (decide (i = 6)), V.bl (decide (i = 7)), V.bl (decide (i = 8)), V.bl (decide (i = 9)), V.bl (decide (i = 10))] ++ [V.bl (decide (i = 11)), V.bl (decide (i = 12)), V.bl (decide (i = 13)), V.bl (decide (i = 14))])) = H4 at e4 h4 ⊢
    have hL : H4 l4 = some (.lst (flags i)) := h4
    clear h1 h2 h3 h4
    refine ⟨by show 9 ≤ sizeLine; decide, fun k1 q1 => ?_⟩
    refine ⟨_, rfl, by show 6 ≤ sizeLine; decide, fun k2 q2 => ⟨k1, k2, _, _, rfl, rfl, by rw [upd_ne (ne_of_none upd_same q2)]; exact upd_same, upd_same, by show 9 + 6 ≤ sizeLine; decide, fun kk q3 => ?_⟩⟩
    have kl : H4 l4 ≠ none := by rw [hL]; exact fun z => by cases z
    generalize hg : upd (upd (upd H4 k1 _) k2 _) kk _ = H5
    have e5 : Ext H4 H5 := hg ▸ (((Ext.refl H4).new q1).new q2).new q3
    have hK : H5 kk = some (.lst (nms.map V.str)) := by rw [← hg, upd_same]; rfl
    have hL5 : H5 l4 = some (.lst (flags i)) := e5 _ _ hL
    clear hg q1 q2 q3
    refine ⟨_, rfl, l4, rfl, ⟨_, SqL.of hL5⟩, fun D nD => ?_⟩
    refine lc_list (xs := flags i) (fun k Hc => Ext H5 Hc ∧ Hc D = some (.lst (((flagI i).take k).map V.int))) ⟨(Ext.refl H5).new nD, upd_same⟩ (fun k Hc hk ⟨e, _⟩ => SqL.of (e _ _ hL5)) (fun k x Hc hx ⟨e, hD⟩ => ?_) (fun Hc ⟨e, hD⟩ => ?_)
    · have hk : k < 15 := by
        have := (List.getElem?_eq_some_iff.mp hx).1
        simpa [flags] using this
      have ex : x = .bl (decide (i = k)) := by
        unfold flags at hx
        rw [List.getElem?_map, List.getElem?_range hk] at hx
        exact (Option.some.inj hx).symm
      subst ex
      refine ⟨rfl, tyes ?_⟩
      refine ⟨_, rfl, .inr ⟨_, rfl, _, hD, ?_, e.own nD, ?_⟩⟩
      · rw [List.length_map, List.length_take]
        exact Nat.lt_of_le_of_lt (Nat.min_le_left _ _) (Nat.lt_trans hk (by decide))
      · rw [upd_same]
        have : (flagI i)[k]? = some (if decide (i = k) then (1 : Int) else 0) := by
          unfold flagI
          rw [List.getElem?_map, List.getElem?_range hk]
          rfl
        rw [List.take_add_one, this, List.map_append]
        rfl
    · have hD' : Hc D = some (.lst ((flagI i).map V.int)) := by
        rw [hD, List.take_of_length_le (by simp [flagI, flags])]
      refine ⟨D, flagI i, rfl, SqL.of hD', rfl, _, rfl, if0 ?_ ?_⟩
      · rw [one_flag i hi]
        rfl
      refine ⟨_, rfl, _, .type "ValueError", _, rfl, fun u r => r, E.ve i hi, more (e4.trans (e5.trans e)), true, rfl, if0 rfl ?_⟩
      obtain ⟨f1, f2⟩ := at_flag i hi
      refine ⟨_, rfl, _, rfl, .inl ⟨rfl, _, SqL.of (e _ _ hL5)⟩, l4, flags i, .bl true, i, .bl true, rfl, rfl, SqL.of (e _ _ hL5), rfl, ?_, f1, rfl, fun m z hm hz => ?_, ?_⟩
      · exact List.all_eq_true.mpr fun v hv => by
          obtain ⟨j, _, rfl⟩ := List.mem_map.mp hv
          rfl
      · rw [f2 m hm] at hz
        cases hz
        rfl
      · have hn : (nms.map V.str)[i]? = some (.str (nm i)) := by
          rw [List.getElem?_map]
          unfold nm
          rw [List.getD_eq_getElem?_getD, List.getElem?_eq_getElem (show i < nms.length from hi)]
          rfl
        refine ⟨kk, _, (i : Int), .str (nm i), rfl, rfl, SqL.of (e _ _ hK), atI_nat hn, by show 2 ≤ sizeLine; decide, fun p np => ?_⟩
        have e6 := e4.trans (e5.trans e)
        exact q _ p (e6.new np) (e6.free np) upd_same
end
end Lw
/-! the law's _law_told -/
namespace Lw
open PySem PySem.Spec PyProof.Rows L2 Hx Xs
abbrev sTold : Stmt := topS 72
abbrev nTold : List Str := ["_law_deed", "_law_e"]
theorem scTold : FnScope nTold ["_law_deed"] (defScope sTold) := ⟨rfl, rfl, rfl, by decide +kernel, rfl, by decide +kernel, by decide +kernel⟩
/-- a block's reading for one of several -/
theorem pss_of {α : Type} {X : Cx} {b : List Stmt} {A : α → Prop} {t : α → TS} (h : ∀ i, A i → PSs X b (t i)) : PSs X b (fun D σ H => ∃ i, A i ∧ t i D σ H) := ⟨fun pins s σ H D I ⟨i, hi, z⟩ => (h i hi).run pins s σ H D I z⟩
/-- what a refusal of the i-th class makes of it -/
def refused (i : Nat) (d : Option Addr) (H : Hp) (Q : VK) : Prop :=
  (i < 3 ∧ ∃ dx v, d = some dx ∧ H dx = some (.xd [(fld i, v)]) ∧ ∀ H2 p, Ext H H2 → H p = none → H2 p = some (.tup [.str "refused", .str (nm i), v]) → Q (.ref p) H2) ∨
  (3 ≤ i ∧ d = none ∧ ∀ H2 p, Ext H H2 → H p = none → H2 p = some (.tup [.str "refused", .str (nm i)]) → Q (.ref p) H2)
/-- what is wished of an exception that the thunk raises -/
def EOld (K : PySem.W.Frag) (Q : VK) : XK := fun cls d H => ∃ i, i < 15 ∧ cls = .ref (ea K i) ∧ refused i d H Q
def TOld (K : PySem.W.Frag) : (XK → Hp → VK → Prop) → Hp → VK → Prop := fun tl H Q => tl (EOld K Q) H Q
theorem takesN0 {X : Cx} : L2N.Takes X (fun _ _ _ _ => False) := fun _ _ ⟨_, _, _, _, _, _, _, _, _, _, _, _, _, _, _, _, z⟩ => z.elim
section
variable {X : Cx}
/-- the exception of the class cls, at a, in its suite: _law_term of it -/
theorem pe_term {K : PySem.W.Frag} {f a : Addr} {fd : FuncData} {oe : Obj} {cls : Value} {d : Option Addr} {pn : List (Addr × Obj)} {i : Nat} {p pos q : Pos} (F : FnZ X.prog X.w X.K X.mg X.base 1 f fd ["_law_e"] (ZE (ea K i) d) (spTerm i d)) (hr : Room 1 X.A) (ec : cls = .ref (ea K i)) (hz : L2N.Zn cls d oe) (hf : ∃ vs, oe.data = .fields vs)
    (hg : Gl X "_law_term") (hm : X.mg "_law_term" = some (.ref f)) (hk : PySem.W.keepIn X.K (.ref f) = true) (hb : Binds X.K fd ["_law_e"] []) (hN : X.N[1]? = some ("_law_e" : Str)) (hv : Vis X.env.scope "_law_e") :
    PE (X.suite a ((a, oe) :: pn)) (.Call (.Name "_law_term" q) [.Name "_law_e" p] [] pos) (fun σ H Q => tVar 1 σ H fun v H1 => spTerm i d a [v] H1 Q E0) := by
  subst ec
  obtain ⟨vs, e⟩ := hf
  exact pe_callZ (X := X.suite a ((a, oe) :: pn)) F (L2H.roomH_mark hr _) ⟨rfl, vs, e, hz.2.2 vs e⟩ List.mem_cons_self ⟨hz, vs, e⟩ hg hm hk hb (pa_cons (pe_var (i := 1) hN hv) pa_nil)
end
section
variable {K : PySem.W.Frag} {mg : Str → Option Value} {P : Program} {w : World} {base : Heap}
/-- the reading of a suite with a field -/
def tFld (K : PySem.W.Frag) (j : Nat) (a : Addr) (cls : Value) (d : Option Addr) : TS := fun D σ H => cls = .ref (ea K j) ∧ ∃ dx v, d = some dx ∧ σ[1]? = some (some (.ref a)) ∧ H dx = some (.xd [(fld j, v)]) ∧ ∀ H2 p, Ext H H2 → H p = none → H2 p = some (.tup [.str "refused", .str (nm j), v]) → D.rt (.ref p) H2
def tBare (K : PySem.W.Frag) (a : Addr) (cls : Value) (d : Option Addr) : TS := fun D σ H => ∃ i, (i < 15 ∧ cls = .ref (ea K i) ∧ d = none) ∧ σ[1]? = some (some (.ref a)) ∧ ∀ H2 p, Ext H H2 → H p = none → H2 p = some (.tup [.str "refused", .str (nm i)]) → D.rt (.ref p) H2
theorem suite_fld {X : Cx} {f a : Addr} {fd : FuncData} {oe : Obj} {cls : Value} {d : Option Addr} {pn : List (Addr × Obj)} {j n : Nat} {p pos q p2 p3 p4 p5 p6 : Pos} (hK : X.K = K) (hj : j < 3) (E : Errs K mg) (T : ∀ i d, i < 15 → FnZ X.prog X.w X.K X.mg X.base 1 f fd ["_law_e"] (ZE (ea K i) d) (spTerm i d)) (hr : Room 1 X.A) (hz : L2N.Zn cls d oe) (hf : ∃ vs, oe.data = .fields vs)
    (hg : Gl X "_law_term") (hm : X.mg "_law_term" = some (.ref f)) (hk : PySem.W.keepIn X.K (.ref f) = true) (hb : Binds X.K fd ["_law_e"] []) (hN : X.N[1]? = some ("_law_e" : Str)) (hv : Vis X.env.scope "_law_e")
    (ha : attributeBase (.Name "_law_e" p2) (fld j) (X.suite a ((a, oe) :: pn)).env (eval (.Name "_law_e" p2) (X.suite a ((a, oe) :: pn)).env) = eval (.Name "_law_e" p2) (X.suite a ((a, oe) :: pn)).env) :
    PSs (X.suite a ((a, oe) :: pn)) [.Return (some (.BinOp (.Call (.Name "_law_term" q) [.Name "_law_e" p] [] pos) .Add (.Tuple [.Attribute (.Name "_law_e" p2) (fld j) p3] n p4) p5)) p6] (tFld K j a cls d) := ⟨fun pins s σ H D I ⟨ec, dx, v, ed, e1, ex, qq⟩ => by
  subst hK
  have term := pe_term (K := X.K) (pn := pn) (p := p) (pos := pos) (q := q) (T j d (by omega)) hr ec hz hf hg hm hk hb hN hv (a := a)
  have field := pe_xf (X := X) (a := a) (pn := pn) (pos := p3) (E.xf j hj) (E.nof j hj) hz.zc hf (pe_var (X := X.suite a ((a, oe) :: pn)) (pos := p2) (i := 1) hN hv) ha
  refine (pss_one (ps_ret (pos := p6) (pe_op op_catT term (pe_tup (pa_cons field pa_nil))))).run pins s σ H D I ?_
  refine ⟨.ref a, e1, rfl, fun dx' z => ?_, fun H1 p1 g1 n1 h1 => ?_⟩
  · rw [ed] at z
    cases z
    exact ⟨_, ex⟩
  · refine ⟨.ref a, e1, rfl, ec, dx, _, v, ed, g1 _ _ ex, ?_, by show 1 ≤ sizeLine; decide, fun p2 n2 => ?_⟩
    · simp [List.lookup]
    · have n12 : p1 ≠ p2 := ne_of_none h1 n2
      refine ⟨p1, p2, _, _, rfl, rfl, SqT.of (by rw [upd_ne n12]; exact h1), SqT.of upd_same, by simp, by show 2 + 1 ≤ sizeLine; decide, (fun z => by cases z), fun _ p3 n3 => ?_⟩
      have g2 := g1.new (o := .tup [v]) n2
      exact qq _ p3 (g2.new n3) (g2.free n3) upd_same⟩
theorem suite_bare {X : Cx} {f a : Addr} {fd : FuncData} {oe : Obj} {cls : Value} {d : Option Addr} {pn : List (Addr × Obj)} {p pos q p6 : Pos} (hK : X.K = K) (T : ∀ i d, i < 15 → FnZ X.prog X.w X.K X.mg X.base 1 f fd ["_law_e"] (ZE (ea K i) d) (spTerm i d)) (hr : Room 1 X.A) (hz : L2N.Zn cls d oe) (hf : ∃ vs, oe.data = .fields vs)
    (hg : Gl X "_law_term") (hm : X.mg "_law_term" = some (.ref f)) (hk : PySem.W.keepIn X.K (.ref f) = true) (hb : Binds X.K fd ["_law_e"] []) (hN : X.N[1]? = some ("_law_e" : Str)) (hv : Vis X.env.scope "_law_e") :
    PSs (X.suite a ((a, oe) :: pn)) [.Return (some (.Call (.Name "_law_term" q) [.Name "_law_e" p] [] pos)) p6] (tBare K a cls d) := ⟨fun pins s σ H D I ⟨i, ⟨hi, ec, ed⟩, e1, z⟩ => by
  subst hK
  have term := pe_term (K := X.K) (pn := pn) (p := p) (pos := pos) (q := q) (T i d hi) hr ec hz hf hg hm hk hb hN hv (a := a)
  refine (pss_one (ps_ret (pos := p6) term)).run pins s σ H D I ⟨.ref a, e1, rfl, fun dx' y => ?_, fun H1 p1 g1 n1 h1 => z H1 p1 g1 n1 h1⟩
  rw [ed] at y
  cases y⟩
/-- what _law_told makes of a thunk -/
theorem told_gives {X : Cx} {g f : Addr} {cd : Value} {fd : FuncData} {q : Str} (hK : X.K = K) (hmg : X.mg = mg) (E : Errs K mg) (T : ∀ i d, i < 15 → FnZ X.prog X.w X.K X.mg X.base 1 f fd ["_law_e"] (ZE (ea K i) d) (spTerm i d)) (hm : mg "_law_term" = some (.ref f)) (hk : PySem.W.keepIn K (.ref f) = true) (hb : Binds K fd ["_law_e"] [])
    (hr : Room 2 X.A) : Gives (L2N.CX X.prog X.w) X nTold "_law_told" (defScope sTold) g cd (defBody sTold) "_law_deed" q (TOld K) := by
  intro t c' s H Q tl act hc h
  subst hK hmg
  have room : Room 1 (X.A.deeper (envOfC "_law_told" (defScope sTold) s.heap.objs.size g cd)) := hr.deeper _
  have cl : ∀ j, j < 3 → Names (gotC X nTold "_law_told" (defScope sTold) g cd s H).nox (nm j) (.ref (ea X.K j)) := fun j hj => by
    have hj' : j = 0 ∨ j = 1 ∨ j = 2 := by omega
    rcases hj' with rfl | rfl | rfl
    · exact ⟨by rfl, by decide, .inl (E.g 0 (by decide))⟩
    · exact ⟨by rfl, by decide, .inl (E.g 1 (by decide))⟩
    · exact ⟨by rfl, by decide, .inl (E.g 2 (by decide))⟩
  refine ⟨_, pss_one (ps_tryAll (X := (gotC X nTold "_law_told" (defScope sTold) g cd s H).nox) (n := "_law_e") (i := 1) (Wout := fun _ _ _ _ => False)
    (tb := fun W D σ H => ∃ Ech : XK, (∀ cls d (σ' : L2.St) H', σ'.length = 2 → Ech cls d H' → W cls d σ' H') ∧ σ[0]? = some (some (.ref t)) ∧ H c' = some (LamX.CodeO c' q) ∧ tl Ech H D.rt)
    (l := [(.ref (ea X.K 0), tFld X.K 0), (.ref (ea X.K 1), tFld X.K 1), (.ref (ea X.K 2), tFld X.K 2), (.ref (He.ga X.K "CountError"), tBare X.K)])
    rfl rfl scTold.nd rfl rfl takesN0 (fun W pn xe tk _ => ?body) (.cons (cl 0 (by decide)) (fun a oe cls d pn hz hf => suite_fld (j := 0) rfl (by decide) E T room hz hf (by rfl) hm hk hb rfl (.inl rfl) (by rfl)) (.cons (cl 1 (by decide)) (fun a oe cls d pn hz hf => suite_fld (j := 1) rfl (by decide) E T room hz hf (by rfl) hm hk hb rfl (.inl rfl) (by rfl))
      (.cons (cl 2 (by decide)) (fun a oe cls d pn hz hf => suite_fld (j := 2) rfl (by decide) E T room hz hf (by rfl) hm hk hb rfl (.inl rfl) (by rfl)) (.cons ⟨by rfl, by decide, .inl E.gce⟩ (fun a oe cls d pn hz hf => suite_bare rfl T room hz hf (by rfl) hm hk hb rfl (.inl rfl)) .nil))))), ?fin⟩
  case body =>
    refine ⟨fun pins s' σ H' D I ⟨Ech, hW, h1, h2, h3⟩ => ?_⟩
    exact (pss_one (ps_ret (act pn xe Ech _ _ fun pins σ H s e s' I c => tk e s' (L2N.XE.of_call I (fun cls d H' z => hW cls d σ H' I.len z) c)))).run pins s' σ H' D I ⟨h1, h2, h3⟩
  case fin =>
    refine ⟨EOld X.K Q, fun cls d σ' H' hl ⟨i, hi, ec, rf⟩ => ?_, rfl, hc, h⟩
    subst ec
    have slot : ∀ a : Addr, (σ'.set 1 (some (.ref a)))[1]? = some (some (.ref a)) := fun a => by
      rw [List.getElem?_set_self (by omega)]
    have fld_ : ∀ j, j < 3 → decide (i = j) = true → ∀ a, tFld X.K j a (.ref (ea X.K i)) d { nx := fun σ' H' => (fun _ H' => Q .non H') (σ'.set 1 none) H', rt := Q, bk := fun _ _ => False, ct := fun _ _ => False } (σ'.set 1 (some (.ref a))) H' := fun j hj hb a => by
      have e := of_decide_eq_true hb
      subst e
      rcases rf with ⟨_, dx, v, ed, ex, z⟩ | ⟨z, _⟩
      · exact ⟨rfl, dx, v, ed, slot a, ex, z⟩
      · omega
    refine ⟨decide (i = 0), E.exm i 0 hi (by decide), fun hb a _ => fld_ 0 (by decide) hb a, fun b0 => ⟨decide (i = 1), E.exm i 1 hi (by decide), fun hb a _ => fld_ 1 (by decide) hb a, fun b1 => ⟨decide (i = 2), E.exm i 2 hi (by decide), fun hb a _ => fld_ 2 (by decide) hb a, fun b2 => ⟨true, E.ce i hi, fun _ a _ => ?_, fun z => by cases z⟩⟩⟩⟩
    have h0 := of_decide_eq_false b0
    have h1 := of_decide_eq_false b1
    have h2 := of_decide_eq_false b2
    rcases rf with ⟨z, _⟩ | ⟨_, ed, z⟩
    · omega
    · exact ⟨i, ⟨hi, rfl, ed⟩, slot a, z⟩
end
end Lw
/-! makings as data -/
namespace Hx
open L2 PySem PySem.Spec PyProof.Rows
inductive K0 | none | unit
deriving DecidableEq
inductive K1 | row | bag | set
deriving DecidableEq
inductive K2 | sum | pair
deriving DecidableEq
def K0.tag : K0 → Str
  | .none => "none"
  | .unit => "unit"
def K1.tag : K1 → Str
  | .row => "row"
  | .bag => "bag"
  | .set => "set"
def K2.tag : K2 → Str
  | .sum => "sum"
  | .pair => "pair"
inductive Mk
  | k0 (k : K0)
  | atom (c : Nat)
  | name (w : Str)
  | k1 (k : K1) (a : Mk)
  | k2 (k : K2) (a b : Mk)
deriving DecidableEq
/-- a letter, a word -/
def letter (c : Nat) : Prop := 97 ≤ c ∧ c ≤ 122
def word (w : Str) : Prop := 1 ≤ w.length ∧ w.length ≤ 8 ∧ ∀ c ∈ w.cps.toList, letter c
def Mk.good : Mk → Prop
  | .k0 _ => True
  | .atom c => letter c
  | .name w => word w
  | .k1 _ a => a.good
  | .k2 _ a b => a.good ∧ b.good
def Mk.depth : Mk → Nat
  | .k0 _ => 0
  | .atom _ => 0
  | .name _ => 0
  | .k1 _ a => a.depth + 1
  | .k2 _ a b => max a.depth b.depth + 1
def Mk.parts : Mk → List Mk
  | .k1 k a => .k1 k a :: a.parts
  | .k2 k a b => .k2 k a b :: (a.parts ++ b.parts)
  | m => [m]
def Mk.names : Mk → List Str
  | .k0 _ => []
  | .atom _ => []
  | .name w => [w]
  | .k1 _ a => a.names
  | .k2 _ a b => a.names ++ b.names
/-- a value is a making -/
inductive IsM (K : PySem.W.Frag) (H : Hp) : V → Mk → Prop
  | k0 {a : Addr} (k : K0) : SqT K H a [.str k.tag] → IsM K H (.ref a) (.k0 k)
  | atom {a : Addr} (c : Nat) : SqT K H a [.str "atom", .str ⟨#[c]⟩] → IsM K H (.ref a) (.atom c)
  | name {a : Addr} (w : Str) : SqT K H a [.str "name", .str w] → IsM K H (.ref a) (.name w)
  | k1 {a : Addr} (k : K1) {v : V} {m : Mk} : SqT K H a [.str k.tag, v] → IsM K H v m → IsM K H (.ref a) (.k1 k m)
  | k2 {a : Addr} (k : K2) {v u : V} {m n : Mk} : SqT K H a [.str k.tag, v, u] → IsM K H v m → IsM K H u n → IsM K H (.ref a) (.k2 k m n)
/-- any change that keeps tuples -/
def KT (H H' : Hp) : Prop := (∀ b xs, H b = some (.tup xs) → H' b = some (.tup xs)) ∧ ∀ b o u, H b = some (.frz o u) → H' b = some (.frz o u)
theorem KT.refl (H : Hp) : KT H H := ⟨fun _ _ e => e, fun _ _ _ e => e⟩
theorem KT.trans {H H1 H2 : Hp} (a : KT H H1) (b : KT H1 H2) : KT H H2 := ⟨fun c xs e => b.1 c xs (a.1 c xs e), fun c o u e => b.2 c o u (a.2 c o u e)⟩
theorem KT.seqT {K : PySem.W.Frag} {H H' : Hp} {a : Addr} {xs : List V} (g : KT H H') (h : SqT K H a xs) : SqT K H' a xs := by
  exact h.imp_left fun z => z.imp (fun y => g.1 _ _ y) fun ⟨o, y⟩ => ⟨o, g.2 _ _ _ y⟩
theorem Gr.kt {T : List Addr} {H H' : Hp} (g : Gr T H H') (t : TabsG T H) : KT H H' := ⟨fun _ _ e => g.at t e notbl_tup, fun _ _ _ e => g.at t e notbl_frz⟩
theorem KT.upd {H : Hp} {p : Addr} {o : HO} (h1 : ∀ xs, H p ≠ some (.tup xs)) (h2 : ∀ ob u, H p ≠ some (.frz ob u)) : KT H (upd H p o) :=
  ⟨fun b xs e => by rw [upd_ne (show b ≠ p from fun z => h1 xs (by rw [← z]; exact e))]; exact e, fun b ob u e => by rw [upd_ne (show b ≠ p from fun z => h2 ob u (by rw [← z]; exact e))]; exact e⟩
theorem KT.new {H : Hp} {p : Addr} {o : HO} (h : H p = none) : KT H (L2.upd H p o) := KT.upd (fun xs z => by rw [h] at z; cases z) (fun ob u z => by rw [h] at z; cases z)
theorem KT.lst {H : Hp} {p : Addr} {o : HO} {xs : List V} (h : H p = some (.lst xs)) : KT H (L2.upd H p o) := KT.upd (fun xs z => by rw [h] at z; cases z) (fun ob u z => by rw [h] at z; cases z)
theorem KT.dK {H : Hp} {p : Addr} {o : HO} {xs : List (Key × V)} (h : H p = some (.dK xs)) : KT H (L2.upd H p o) := KT.upd (fun xs z => by rw [h] at z; cases z) (fun ob u z => by rw [h] at z; cases z)
theorem IsM.kt {K : PySem.W.Frag} {H H' : Hp} (g : KT H H') : ∀ {v : V} {m : Mk}, IsM K H v m → IsM K H' v m
  | _, _, .k0 k h => .k0 k (g.seqT h)
  | _, _, .atom c h => .atom c (g.seqT h)
  | _, _, .name w h => .name w (g.seqT h)
  | _, _, .k1 k h a => .k1 k (g.seqT h) (a.kt g)
  | _, _, .k2 k h a b => .k2 k (g.seqT h) (a.kt g) (b.kt g)
theorem IsM.gr {T : List Addr} {K : PySem.W.Frag} {H H' : Hp} {v : V} {m : Mk} (h : IsM K H v m) (g : Gr T H H') (t : TabsG T H) : IsM K H' v m := h.kt (g.kt t)
/-- a list of makings -/
def AllM (K : PySem.W.Frag) (H : Hp) (vs : List V) (ms : List Mk) : Prop := Paired (fun v m => IsM K H v m) vs ms
theorem paired_mono {α β : Type} {R S : α → β → Prop} (h : ∀ a b, R a b → S a b) : ∀ {xs : List α} {ys : List β}, Paired R xs ys → Paired S xs ys
  | _, _, .nil => .nil
  | _, _, .cons r t => .cons (h _ _ r) (paired_mono h t)
theorem AllM.kt {K : PySem.W.Frag} {H H' : Hp} {vs : List V} {ms : List Mk} (h : AllM K H vs ms) (g : KT H H') : AllM K H' vs ms := paired_mono (fun _ _ r => r.kt g) h
theorem paired_append {α β : Type} {R : α → β → Prop} : ∀ {xs xs' : List α} {ys ys' : List β}, Paired R xs ys → Paired R xs' ys' → Paired R (xs ++ xs') (ys ++ ys')
  | _, _, _, _, .nil, h => h
  | _, _, _, _, .cons r t, h => .cons r (paired_append t h)
theorem paired_len {α β : Type} {R : α → β → Prop} : ∀ {xs : List α} {ys : List β}, Paired R xs ys → xs.length = ys.length
  | _, _, .nil => rfl
  | _, _, .cons _ t => congrArg (· + 1) (paired_len t)
/-- what is at the head of a making's tuple, and how it is typed -/
theorem IsM.ty {K : PySem.W.Frag} {H : Hp} {a : Addr} {xs : List V} (h : SqT K H a xs) : TyX K H (.ref a) (.type "tuple") := by
  refine h.elim (fun z => z.elim (fun y => .base (.tup y)) fun ⟨o, y⟩ => .fTuple y) fun h => ?_
  · obtain ⟨o, its, n, e, c, _⟩ := h
    exact .kTuple e c
end Hx
namespace Lw
open PySem PySem.Spec PyProof.Rows L2 Hx
section
variable {P : Program} {w : World} {K : PySem.W.Frag} {mg : Str → Option Value} {base : Heap} {T : List Addr}
theorem Die.new {H : Hp} {p : Addr} {x y : Int} : Die (upd H p (.lst [.int x, .int y])) p := ⟨x, y, upd_same⟩
theorem Die.other {H : Hp} {d p : Addr} {o : HO} (h : Die H d) (n : d ≠ p) : Die (upd H p o) d := by
  obtain ⟨x, y, e⟩ := h
  exact ⟨x, y, by rw [upd_ne n]; exact e⟩
theorem Die.gr {H H' : Hp} {d : Addr} (h : Die H d) (g : Gr T H H') (t : TabsG T H) : Die H' d := by
  obtain ⟨x, y, e⟩ := h
  exact ⟨x, y, g.at t e notbl_lst⟩
theorem Die.some {H : Hp} {d : Addr} (h : Die H d) : H d ≠ none := by
  obtain ⟨x, y, e⟩ := h
  rw [e]; exact fun z => by cases z
def spRounds (K : PySem.W.Frag) (T : List Addr) : Sp := fun vs H Q _ => ∃ (a : Addr) (ns : List Int) (high : Nat), vs = [.ref a, .int high] ∧ SqL K H a (ns.map V.int) ∧ ns.length ≤ 1000 ∧ high ≤ 5 ∧ TabsG T H ∧
  ∀ H' p (ds : List Addr), Gr T H H' → H p = none → H' p = some (.lst (ds.map V.ref)) → ds.length ≤ 5 → (∀ d ∈ ds, H d = none ∧ Die H' d) → Q (.ref p) H'
theorem small5 {n : Nat} (h : n ≤ 5) : n < sizeLine := Nat.lt_of_le_of_lt h (by decide)
theorem ok_rounds {f fC : Addr} {fd fdC : FuncData} {k : Nat} (F : Fun K "_law_rounds" "_law_rounds" sRounds f fd) (FC : Fun K "_law_cell" "_law_cell" sCell fC fdC) (bC : Binds K fdC ["_law_script", "_law_k"] []) (gC : mg "_law_cell" = some (.ref fC))
    (ml : mg "len" = none) (mR : mg "range" = none) (mMax : mg "max" = none) (mMin : mg "min" = none) :
    FnOk P w K mg base CX0 (k + 2) f fd ["_law_script", "_law_high"] (spRounds K T) := by
  have GC : FnOk P w K mg base CX0 (k + 1) fC fdC ["_law_script", "_law_k"] (spCell K T) := ok_cell FC ml
  refine F.ok scRounds (fun vs H Q E h => ?_) (fun cdv A outer s H vs Q E hr h => ?_)
  · obtain ⟨a, ns, hi, rfl, _⟩ := h
    rfl
  · obtain ⟨a, ns, hi, rfl, hS, hl, h5, ht, q⟩ := h
    refine ⟨_, pss_one (ps_ret (pe_lc (own := [("_law_k", 2)]) (g := gName 2) (tt := tYes) rfl scRounds.nd
      (pi_range1 rfl mR (pa_cons (pe_callB (call_max2 rfl) (by rfl) mMax boot_max (pa_cons pe_int (pa_cons (pe_callB (call_min2 rfl) (by rfl) mMin boot_min (pa_cons (pv 1) (pa_cons (pe_callB call_len_seq (by rfl) ml PySem.boot_len (pa_cons (pv 0) pa_nil)) pa_nil))) pa_nil))) pa_nil))
      (blkOk_by (N := ["_law_script", "_law_high", "_law_k"]) (sc := defScope sRounds) (by decide +kernel))
      (fun _ _ _ _ _ => pg_name (i := 2) scRounds.nd rfl (Or.inl rfl)) (fun _ _ _ _ _ => pts_nil)
      (fun _ _ _ _ _ => pe_lst (pa_cons (pe_call GC hr (by rfl) gC FC.kp bC .nil pass0 (pa_cons (pv 0) (pa_cons (pv 2) pa_nil))) (pa_cons pe_int pa_nil))))), ?_⟩
    refine ⟨_, rfl, .ref a, rfl, a, _, rfl, .inl hS, (hi : Int), ((ns.map V.int).length : Nat), rfl, 1, _, rfl, _, rfl, ?_, ?_, ?_⟩
    · split <;> split <;> omega
    · have : ((ns.map V.int).length : Nat) ≤ 1000 := by rw [List.length_map]; exact hl
      split <;> split <;> omega
    have hn : (if (if (((ns.map V.int).length : Nat) : Int) < (hi : Int) then (((ns.map V.int).length : Nat) : Int) else (hi : Int)) > 1 then (if (((ns.map V.int).length : Nat) : Int) < (hi : Int) then (((ns.map V.int).length : Nat) : Int) else (hi : Int)) else 1).toNat ≤ 5 := by
      split <;> split <;> omega
    generalize (if (if (((ns.map V.int).length : Nat) : Int) < (hi : Int) then (((ns.map V.int).length : Nat) : Int) else (hi : Int)) > 1 then (if (((ns.map V.int).length : Nat) : Int) < (hi : Int) then (((ns.map V.int).length : Nat) : Int) else (hi : Int)) else 1) = cnt at hn ⊢
    intro D nD
    have gD : Gr T H (upd H D (.lst [])) := Gr.new ht _ nD
    refine lc_range (fun i Hc => ∃ ds : List Addr, ds.length = i ∧ Gr T H Hc ∧ Hc D = some (.lst (ds.map V.ref)) ∧ ∀ d ∈ ds, H d = none ∧ Die Hc d) ⟨[], rfl, gD, upd_same, fun d hd => by cases hd⟩ (fun i Hc hi ⟨ds, hdl, g, hD, hds⟩ => ?_) (fun Hc ⟨ds, hdl, g, hD, hds⟩ => ?_)
    · refine ⟨rfl, ?_⟩
      refine tyes ?_
      refine ⟨_, rfl, _, rfl, a, ns, i, ?_, by omega, g.seqL ht hS, hl, g.tabs, fun H' r g' => ?_⟩
      · show [V.ref a, V.int (0 + (i : Int))] = _
        rw [Int.zero_add]
      · refine ⟨by show 2 ≤ sizeLine; decide, fun p' np' => ?_⟩
        have hD' : H' D = some (.lst (ds.map V.ref)) := g'.at g.tabs hD notbl_lst
        have nDp : D ≠ p' := ne_of_none hD' np'
        have g2 : Gr T H H' := g.trans g'
        have np : H p' = none := Gr.free ht g2 np'
        have ndD : ∀ d ∈ ds, d ≠ D := fun d hd z => by
          obtain ⟨x, y, e⟩ := (hds d hd).2
          rw [z, hD] at e
          have e2 : ds.map V.ref = [V.int x, V.int y] := by injection Option.some.inj e
          cases ds with
          | nil => cases e2
          | cons z r => cases e2
        refine ⟨ds.map V.ref, by rw [upd_ne nDp]; exact hD', by rw [List.length_map]; exact small5 (by omega), ds ++ [p'], by rw [List.length_append, hdl]; rfl, (g2.own ht _ np).own ht _ nD, ?_, fun d hd => ?_⟩
        · rw [upd_same, List.map_append]
          rfl
        · rcases List.mem_append.mp hd with z | z
          · have e := (hds d z).2
            have n1 : d ≠ p' := fun y => (e.gr g' g.tabs).some (by rw [y]; exact np')
            exact ⟨(hds d z).1, ((e.gr g' g.tabs).other n1).other (ndD d z)⟩
          · rw [List.mem_singleton.mp z]; exact ⟨np, Die.new.other (Ne.symm nDp)⟩
    · exact q Hc D ds g nD hD (by omega) hds
end
end Lw
namespace Lw
open PySem PySem.Spec PyProof.Rows L2 Hx
abbrev sLetter : Stmt := topS 22
abbrev sWord : Stmt := topS 23
abbrev sFormed : Stmt := topS 24
theorem scLetter : FnScope ["thing"] ["thing"] (defScope sLetter) := ⟨rfl, rfl, rfl, by decide +kernel, rfl, by decide +kernel, by decide +kernel⟩
theorem scWord : FnScope ["thing", "sign"] ["thing"] (defScope sWord) := ⟨rfl, rfl, rfl, by decide +kernel, rfl, by decide +kernel, by decide +kernel⟩
theorem lt1 (a b : Nat) : decide ([a] < [b]) = decide (a < b) := by
  rw [Bool.eq_iff_iff, decide_eq_true_iff, decide_eq_true_iff, List.cons_lt_cons_iff]
  simp
section
variable {P : Program} {w : World} {K : PySem.W.Frag} {mg : Str → Option Value} {base : Heap} {T : List Addr}
def spLetter : Sp := fun vs H Q _ => ∃ c : Nat, vs = [.str ⟨#[c]⟩] ∧ letter c ∧ Q (.bl true) H
theorem ok_letter {f : Addr} {fd : FuncData} {k : Nat} (F : Fun K "is_letter" "is_letter" sLetter f fd) (ml : mg "len" = none) (mI : mg "isinstance" = none) (mS : mg "str" = none) : FnOk P w K mg base CX0 (k + 1) f fd ["thing"] spLetter := by
  refine F.ok scLetter (fun vs H Q E h => ?_) (fun cdv A outer s H vs Q E hr h => ?_)
  · obtain ⟨c, rfl, _⟩ := h
    rfl
  · obtain ⟨c, rfl, ⟨h1, h2⟩, q⟩ := h
    refine ⟨_, pss_one (ps_ret (pe_and (pe_callB call_isi (by rfl) mI boot_isinstance (pa_cons (pv 0) (pa_cons (pe_bltn (v := .ty "str") (by rfl) mS (by decide +kernel) rfl) pa_nil)))
      (pe_and (pe_cmpR op_eq (pe_callB call_len_str (by rfl) ml PySem.boot_len (pa_cons (pv 0) pa_nil)) pe_int (nomark _)) (pe_one (pe_chain op_le_str op_le_str pe_str (pv 0) pe_str))))), ?_⟩
    refine ⟨_, rfl, _, _, _, _, true, rfl, .ty "str", .base (.str _), by rfl, true, rfl, iteT ?_⟩
    refine ⟨_, rfl, _, rfl, by show 1 ≤ sizeLine; decide, rfl, true, rfl, iteT ?_⟩
    refine ⟨_, rfl, _, _, rfl, rfl, ?_⟩
    have e1 : (!decide ((#[c] : Array Nat).toList < (Str.ofString "a").cps.toList)) = true := by
      rw [show (Str.ofString "a").cps.toList = [97] by decide +kernel, show (#[c] : Array Nat).toList = [c] from rfl, lt1, decide_eq_false (by omega)]
      rfl
    have e2 : (!decide ((Str.ofString "z").cps.toList < (#[c] : Array Nat).toList)) = true := by
      rw [show (Str.ofString "z").cps.toList = [122] by decide +kernel, show (#[c] : Array Nat).toList = [c] from rfl, lt1, decide_eq_false (by omega)]
      rfl
    refine ⟨true, by rw [← e1], iteT ⟨_, _, rfl, rfl, ?_⟩⟩
    rw [e2]
    exact q
def spWord (T : List Addr) : Sp := fun vs H Q _ => ∃ z : Str, vs = [.str z] ∧ word z ∧ TabsG T H ∧ ∀ H', Gr T H H' → Q (.bl true) H'
theorem ok_word {f c P1 fL : Addr} {fd fdL : FuncData} {k : Nat} (F : FunT K "is_word" "is_word" sWord f c fd) (FL : Fun K "is_letter" "is_letter" sLetter fL fdL) (bL : Binds K fdL ["thing"] []) (gL : mg "is_letter" = some (.ref fL)) (TB : GxR.TabB base mg c P1) (hP : P1 ∈ T)
    (ml : mg "len" = none) (mI : mg "isinstance" = none) (mS : mg "str" = none) (mA : mg "all" = none) {tk : Tok} (mM : mg "MOST_LETTERS" = some (.int 8 tk)) : FnOk P w K mg base CX0 (k + 3) f fd ["thing"] (spWord T) := by
  have GL : FnOk P w K mg base CX0 (k + 1) fL fdL ["thing"] spLetter := ok_letter FL ml mI mS
  refine F.ok scWord (fun vs H Q E h => ?_) (fun A outer s H vs Q E hr h => ?_)
  · obtain ⟨z, rfl, _⟩ := h
    rfl
  · obtain ⟨z, rfl, ⟨h1, h2, h3⟩, ht, q⟩ := h
    refine ⟨_, pss_cons (ps_if (PW.pt (pw_or (pt_not (pt_val (pe_callB call_isi (by rfl) mI boot_isinstance (pa_cons (pv 0) (pa_cons (pe_bltn (v := .ty "str") (by rfl) mS (by decide +kernel) rfl) pa_nil)))))
        (pw_or1 (pt_not (pt_chain op_le op_le pe_int (pe_callB call_len_str (by rfl) ml PySem.boot_len (pa_cons (pv 0) pa_nil)) (pe_glob (v := .int 8) (by rfl) mM ⟨_, rfl⟩)))))) (pss_one (ps_ret pe_bl)) pss_nil)
      (pss_one (ps_ret (Gx.pe_allG (own := [("sign", 1)]) (g := gName 1) (tt := tYes) (k := k + 1) hr scWord.nd (by rfl) mA TB rfl (pi_str (pv 0)) (blkOk_by (N := ["thing", "sign"]) (sc := defScope sWord) (by decide +kernel))
        (fun B s H C code fp rb => pg_name (i := 1) scWord.nd rfl (Or.inl rfl)) (fun B s H C code fp rb => pts_nil)
        (fun B s H C code fp rb => pe_call GL rb (by rfl) gL FL.kp bL .nil pass0 (pa_cons (pv 1) pa_nil))))), ?_⟩
    refine ⟨_, rfl, _, _, _, _, true, rfl, .ty "str", .base (.str _), by rfl, true, rfl, ?_⟩
    refine if0 rfl ?_
    have hlen : z.length ≤ sizeLine := Nat.le_trans h2 (by decide)
    refine ⟨_, rfl, z, rfl, hlen, 1, _, rfl, rfl, true, congrArg V.bl (decide_eq_true (show (1 : Int) ≤ (z.length : Int) by omega)), if1 rfl ⟨_, 8, rfl, rfl, _, rfl, ?_⟩⟩
    refine if0 (by show (!decide ((z.length : Int) ≤ 8)) = false; rw [decide_eq_true (by omega)]; rfl) ?_
    refine ⟨_, rfl, z, rfl, ht P1 hP, fun H2 hT => ?_⟩
    refine ⟨fun i m H' => m = z.cps.size - i ∧ i ≤ z.cps.size ∧ Gr T H H', ⟨_, rfl, Nat.zero_le _, Gr.tab ht hP hT⟩, fun i m H' ⟨em, hi, g⟩ => ?_⟩
    by_cases hlt : i < z.cps.size
    · refine .inr ⟨hlt, fun x H'' ⟨e, c, hc, ex⟩ => ?_⟩
      subst e ex
      refine ⟨rfl, tyes ?_⟩
      refine ⟨_, rfl, c, rfl, h3 c (List.mem_of_getElem? (by rw [Array.getElem?_toList]; exact hc)), true, rfl, ifne (by decide) ⟨z.cps.size - (i + 1), by omega, rfl, hlt, g⟩⟩
    · refine .inl ⟨by show z.cps.size ≤ i; omega, q _ g⟩
end
end Lw
namespace Lw
open PySem PySem.Spec PyProof.Rows L2 Hx
theorem scFormed : FnScope ["thing", "deep", "kind", "part"] ["thing", "deep"] (defScope sFormed) := ⟨rfl, rfl, rfl, by decide +kernel, rfl, by decide +kernel, by decide +kernel⟩
/-- the module's table INNER -/
structure InnerT (K : PySem.W.Frag) (w : World) (mg : Str → Option Value) (dI : Addr) : Prop where
  g : mg "INNER" = some (.ref dI)
  D : ∃ es n, KDict K w dI es n
  k0 : ∀ k : K0, ∃ u, PySem.W.nsIn K dI k.tag = some (some u) ∧ RelV (.int 0) u
  k1 : ∀ k : K1, ∃ u, PySem.W.nsIn K dI k.tag = some (some u) ∧ RelV (.int 1) u
  k2 : ∀ k : K2, ∃ u, PySem.W.nsIn K dI k.tag = some (some u) ∧ RelV (.int 2) u
theorem cut1 (x : V) (xs : List V) : cutV (x :: xs) (some 1) none = xs := by
  unfold cutV
  rw [show HT.sIx (x :: xs).length 0 (some 1) = min 1 (x :: xs).length from HT.sIx_nat (x :: xs).length 0 1, HT.sIx_none]
  rw [show min 1 (x :: xs).length = 1 by rw [List.length_cons]; omega]
  show (List.take ((x :: xs).length - 1) xs) = xs
  rw [List.length_cons, Nat.add_sub_cancel]
  exact List.take_length
theorem cut1_not {xs : List V} (h : xs ≠ []) : ¬ (HT.sIx xs.length 0 (some 1) = 0 ∧ HT.sIx xs.length xs.length none = xs.length) := fun ⟨z, _⟩ => by
  rw [show HT.sIx xs.length 0 (some 1) = min 1 xs.length from HT.sIx_nat xs.length 0 1] at z
  have : 0 < xs.length := List.length_pos_iff.mpr h
  omega
theorem len0 (x : V) (xs : List V) : decide (V.int (((x :: xs).length : Nat) : Int) = V.int 0) = false := decide_eq_false fun z => by
  have h := V.int.inj z
  rw [List.length_cons] at h
  omega
theorem tag0 (k : K0) : k.tag ≠ "atom" ∧ k.tag ≠ "name" := by cases k <;> exact ⟨by decide, by decide⟩
theorem tag1 (k : K1) : k.tag ≠ "atom" ∧ k.tag ≠ "name" := by cases k <;> exact ⟨by decide, by decide⟩
theorem tag2 (k : K2) : k.tag ≠ "atom" ∧ k.tag ≠ "name" := by cases k <;> exact ⟨by decide, by decide⟩
theorem strne {a b : Str} (h : a ≠ b) : decide (V.str a = V.str b) = false := decide_eq_false fun z => h (V.str.inj z)
section
variable {P : Program} {w : World} {K : PySem.W.Frag} {mg : Str → Option Value} {base : Heap} {T : List Addr}
def spFormed (K : PySem.W.Frag) (T : List Addr) (d : Nat) : Sp := fun vs H Q _ => ∃ (v : V) (m : Mk) (j : Int), vs = [v, .int j] ∧ IsM K H v m ∧ m.good ∧ m.depth < d ∧ 0 ≤ j ∧ j + (m.depth : Int) ≤ 6 ∧ TabsG T H ∧ ∀ H', Gr T H H' → Q (.bl true) H'
theorem ok_formedS {f c P1 fL fW dI : Addr} {fd fdL fdW : FuncData} {d L : Nat} (F : FunT K "is_formed" "is_formed" sFormed f c fd) (GL : FnOk P w K mg base CX0 (L + 1) fL fdL ["thing"] spLetter) (bL : Binds K fdL ["thing"] []) (gL : mg "is_letter" = some (.ref fL)) (kL : PySem.W.keepIn K (.ref fL) = true)
    (GW : FnOk P w K mg base CX0 (L + 1) fW fdW ["thing"] (spWord T)) (bW : Binds K fdW ["thing"] []) (gW : mg "is_word" = some (.ref fW)) (kW : PySem.W.keepIn K (.ref fW) = true)
    (GF : FnOk P w K mg base CX0 L f fd ["thing", "deep"] (spFormed K T d)) (bF : Binds K fd ["thing", "deep"] []) (gF : mg "is_formed" = some (.ref f))
    (TB : GxR.TabB base mg c P1) (hP : P1 ∈ T) (I : InnerT K w mg dI)
    (ml : mg "len" = none) (mI : mg "isinstance" = none) (mS : mg "str" = none) (mT : mg "tuple" = none) (mA : mg "all" = none) {tk : Tok} (mM : mg "MOST_DEEP" = some (.int 6 tk)) : FnOk P w K mg base CX0 (L + 2) f fd ["thing", "deep"] (spFormed K T (d + 1)) := by
  obtain ⟨es, en, D⟩ := I.D
  refine F.ok scFormed (fun vs H Q E h => ?_) (fun A outer s H vs Q E hr h => ?_)
  · obtain ⟨v, m, j, rfl, _⟩ := h
    rfl
  · obtain ⟨v, m, j, rfl, hM, hg, hd, j0, j6, ht, q⟩ := h
    refine' ⟨_, pss_cons ?s1 (pss_cons ?s2 (pss_cons ?s3 (pss_cons ?s4 (pss_cons ?s5 (pss_cons ?s6 (pss_one ?s7)))))), ?fin⟩
    case s1 => exact ps_if (PW.pt (pw_or (pt_cmpR op_gt (pv 1) (pe_glob (v := .int 6) (by rfl) mM ⟨_, rfl⟩) (nomark _))
        (pw_or (pt_not (pt_val (pe_callB call_isi (by rfl) mI boot_isinstance (pa_cons (pv 0) (pa_cons (pe_bltn (v := .ty "tuple") (by rfl) mT (by decide +kernel) rfl) pa_nil)))))
        (pw_or1 (pt_cmpR op_eq (pe_callB call_len_seq (by rfl) ml PySem.boot_len (pa_cons (pv 0) pa_nil)) pe_int (nomark _)))))) (pss_one (ps_ret pe_bl)) pss_nil
    case s2 => exact ps_set (i := 2) scFormed.nd rfl (.inl rfl) (pe_ix ix_tup (pv 0) pe_int (fun _ _ => rfl))
    case s3 => exact ps_if (pt_not (pt_val (pe_callB call_isi (by rfl) mI boot_isinstance (pa_cons (pv 2) (pa_cons (pe_bltn (v := .ty "str") (by rfl) mS (by decide +kernel) rfl) pa_nil))))) (pss_one (ps_ret pe_bl)) pss_nil
    case s4 => exact ps_if (pt_cmpR op_eq (pv 2) pe_str (nomark _)) (pss_one (ps_ret (pe_and (pe_cmpR op_eq (pe_callB call_len_seq (by rfl) ml PySem.boot_len (pa_cons (pv 0) pa_nil)) pe_int (nomark _)) (pe_one (pe_call GL hr (by rfl) gL kL bL .nil pass0 (pa_cons (pe_ix ix_tup (pv 0) pe_int (fun _ _ => rfl)) pa_nil)))))) pss_nil
    case s5 => exact ps_if (pt_cmpR op_eq (pv 2) pe_str (nomark _)) (pss_one (ps_ret (pe_and (pe_cmpR op_eq (pe_callB call_len_seq (by rfl) ml PySem.boot_len (pa_cons (pv 0) pa_nil)) pe_int (nomark _)) (pe_one (pe_call GW hr (by rfl) gW kW bW .nil pass0 (pa_cons (pe_ix ix_tup (pv 0) pe_int (fun _ _ => rfl)) pa_nil)))))) pss_nil
    case s6 => exact ps_if (PW.pt (pw_or (pt_cmpR (op_notIn_kd D) (pv 2) (pe_glob (v := .ref dI) (by rfl) I.g rfl) rfl) (pw_or1 (pt_cmpR op_ne (pe_callB call_len_seq (by rfl) ml PySem.boot_len (pa_cons (pv 0) pa_nil)) (pe_op op_add (pe_ix ix_kdict (pe_glob (v := .ref dI) (by rfl) I.g rfl) (pv 2) (fun _ _ => rfl)) pe_int) (nomark _))))) (pss_one (ps_ret pe_bl)) pss_nil
    case s7 => exact ps_ret (Gx.pe_allG (own := [("part", 3)]) (g := gName 3) (tt := tYes) (k := L) hr scFormed.nd (by rfl) mA TB rfl (pi_tup (pe_slice sl_tup (pv 0) (po_some pe_int) po_none)) (blkOk_by (N := ["thing", "deep", "kind", "part"]) (sc := defScope sFormed) (by decide +kernel))
        (fun B s H C code fp rb => pg_name (i := 3) scFormed.nd rfl (Or.inl rfl)) (fun B s H C code fp rb => pts_nil)
        (fun B s H C code fp rb => pe_call GF rb (by rfl) gF F.kp bF .nil pass0 (pa_cons (pv 3) (pa_cons (pe_op op_add (pv 1) pe_int) pa_nil))))
    have h6 : decide ((6 : Int) < j) = false := decide_eq_false (by omega)
    refine Classical.byContradiction fun hG => ?_
    have key : ∀ (a : Addr) (tag : Str) (rest : List V) (ms : List Mk) (n : Int), v = .ref a → SqT K H a (.str tag :: rest) → AllM K H rest ms → (∀ m' ∈ ms, m'.good ∧ m'.depth < d ∧ j + 1 + (m'.depth : Int) ≤ 6) → tag ≠ "atom" → tag ≠ "name" →
        (∃ u, PySem.W.nsIn K dI tag = some (some u) ∧ RelV (.int n) u) → (rest.length : Int) = n → False := by
      intro a tag rest ms n hv hT hA hms n1 n2 hu hn
      obtain ⟨u, hu, ru⟩ := hu
      subst hv
      refine hG ?_
      refine ⟨_, rfl, _, _, rfl, rfl, _, rfl, if0 h6 ?_⟩
      refine ⟨_, rfl, _, _, _, _, true, rfl, .ty "tuple", IsM.ty hT, by rfl, true, rfl, if0 rfl ?_⟩
      refine ⟨_, rfl, a, _, rfl, .inr hT, rfl, _, rfl, if0 (len0 _ _) ?_⟩
      refine ⟨_, rfl, a, _, 0, _, rfl, rfl, hT, atI_nat (j := 0) rfl, ?_⟩
      refine ⟨_, rfl, _, _, _, _, true, rfl, .ty "str", .base (.str _), by rfl, true, rfl, if0 rfl ?_⟩
      refine ⟨_, rfl, rfl, _, rfl, if0 (strne n1) ?_⟩
      refine ⟨_, rfl, rfl, _, rfl, if0 (strne n2) ?_⟩
      refine ⟨_, rfl, tag, some u, rfl, rfl, hu, _, rfl, if0 rfl ?_⟩
      refine ⟨_, rfl, a, _, rfl, .inr hT, _, rfl, dI, tag, .int n, rfl, rfl, ⟨es, en, u, D.at_, D.lit, hu, ru⟩, n, 1, rfl, rfl, rfl, _, rfl, if0 ?_ ?_⟩
      · rw [decide_eq_true (congrArg V.int (show (((V.str tag :: rest).length : Nat) : Int) = n + 1 by rw [List.length_cons]; omega))]
        rfl
      refine ⟨_, rfl, 1, rfl, a, _, rfl, hT, cut1_not (List.cons_ne_nil _ _), fun p np => ?_⟩
      rw [cut1]
      have g0 : Gr T H (upd H p (.tup rest)) := Gr.new ht _ np
      refine ⟨p, rfl, ⟨_, .inl (.inl upd_same)⟩, g0.tabs P1 hP, fun H2 hT2 => ?_⟩
      have g2 : Gr T (upd H p (.tup rest)) H2 := Gr.tab g0.tabs hP hT2
      refine ⟨fun i m H' => m = rest.length - i ∧ i ≤ rest.length ∧ Gr T H H' ∧ SqT K H' p rest, ⟨_, rfl, Nat.zero_le _, g0.trans g2, g2.seqT g0.tabs (.inl (.inl upd_same))⟩, fun i m H' ⟨em, hi, g, hq⟩ => ?_⟩
      by_cases hlt : i < rest.length
      · have e1 : rest[i]? = some rest[i] := List.getElem?_eq_getElem hlt
        refine .inr ⟨⟨rest, rest[i], hq, e1⟩, fun x H'' ⟨e, hx⟩ => ?_⟩
        subst e
        have ex : rest[i]? = some x := hx rest hq
        obtain ⟨m', hm', hI⟩ := L2.paired_get hA ex
        obtain ⟨q1, q2, q3⟩ := hms m' (List.mem_of_getElem? hm')
        refine ⟨rfl, tyes ?_⟩
        refine ⟨_, rfl, _, rfl, j, 1, rfl, rfl, x, m', j + 1, rfl, hI.gr g ht, q1, q2, by omega, q3, g.tabs, fun H3 g3 => ?_⟩
        exact ⟨true, rfl, ifne (by decide) ⟨rest.length - (i + 1), by omega, rfl, hlt, g.trans g3, g3.seqT g.tabs hq⟩⟩
      · exact .inl ⟨⟨rest, hq, by omega⟩, q _ g⟩
    cases hM with
    | @k0 a k hT => exact key a k.tag [] [] 0 rfl hT .nil (fun _ h => by cases h) (tag0 k).1 (tag0 k).2 (I.k0 k) rfl
    | @k1 a k v m1 hT h1 => exact key a k.tag [v] [m1] 1 rfl hT (.cons h1 .nil) (fun m' h => by rw [List.mem_singleton.mp h]; simp only [Hx.Mk.depth] at hd j6; exact ⟨hg, by omega, by omega⟩) (tag1 k).1 (tag1 k).2 (I.k1 k) rfl
    | @k2 a k v u m1 m2 hT h1 h2 =>
      refine key a k.tag [v, u] [m1, m2] 2 rfl hT (.cons h1 (.cons h2 .nil)) (fun m' h => ?_) (tag2 k).1 (tag2 k).2 (I.k2 k) rfl
      simp only [Hx.Mk.depth] at hd j6
      rcases List.mem_cons.mp h with h | h
      · rw [h]; exact ⟨hg.1, by omega, by omega⟩
      · rw [List.mem_singleton.mp h]; exact ⟨hg.2, by omega, by omega⟩
    | @atom a ch hT =>
      have hv : V.ref a = .ref a := rfl
      refine hG ?_
      refine ⟨_, rfl, _, _, rfl, rfl, _, rfl, if0 h6 ?_⟩
      refine ⟨_, rfl, _, _, _, _, true, rfl, .ty "tuple", IsM.ty hT, by rfl, true, rfl, if0 rfl ?_⟩
      refine ⟨_, rfl, a, _, rfl, .inr hT, rfl, _, rfl, if0 (len0 _ _) ?_⟩
      refine ⟨_, rfl, a, _, 0, _, rfl, rfl, hT, atI_nat (j := 0) rfl, ?_⟩
      refine ⟨_, rfl, _, _, _, _, true, rfl, .ty "str", .base (.str _), by rfl, true, rfl, if0 rfl ?_⟩
      refine ⟨_, rfl, rfl, _, rfl, if1 rfl ?_⟩
      refine ⟨_, rfl, a, _, rfl, .inr hT, rfl, true, rfl, if1 rfl ?_⟩
      exact ⟨_, rfl, a, _, 1, _, rfl, rfl, hT, rfl, ch, rfl, hg, q _ (Gr.refl ht)⟩
    | @name a z hT =>
      refine hG ?_
      refine ⟨_, rfl, _, _, rfl, rfl, _, rfl, if0 h6 ?_⟩
      refine ⟨_, rfl, _, _, _, _, true, rfl, .ty "tuple", IsM.ty hT, by rfl, true, rfl, if0 rfl ?_⟩
      refine ⟨_, rfl, a, _, rfl, .inr hT, rfl, _, rfl, if0 (len0 _ _) ?_⟩
      refine ⟨_, rfl, a, _, 0, _, rfl, rfl, hT, atI_nat (j := 0) rfl, ?_⟩
      refine ⟨_, rfl, _, _, _, _, true, rfl, .ty "str", .base (.str _), by rfl, true, rfl, if0 rfl ?_⟩
      refine ⟨_, rfl, rfl, _, rfl, if0 (strne (by decide)) ?_⟩
      refine ⟨_, rfl, rfl, _, rfl, if1 rfl ?_⟩
      refine ⟨_, rfl, a, _, rfl, .inr hT, rfl, true, rfl, if1 rfl ?_⟩
      exact ⟨_, rfl, a, _, 1, _, rfl, rfl, hT, rfl, z, rfl, hg, ht, q⟩
theorem formed_none {f : Addr} {fd : FuncData} : FnOk P w K mg base CX0 0 f fd ["thing", "deep"] (spFormed K T 0) := by
  have no : ∀ vs H Q E, ¬ spFormed K T 0 vs H Q E := fun vs H Q E h => by
    obtain ⟨v, m, j, _, _, _, h1, _⟩ := h
    omega
  exact ⟨fun vs H Q E h => absurd h (no vs H Q E), fun A outer s H args us vs Q E _ _ _ _ h => absurd h (no vs H Q E)⟩
end
end Lw
namespace Lw
open PySem PySem.Spec PyProof.Rows L2 Hx
abbrev sInner : Stmt := topS 25
abbrev sParts : Stmt := topS 26
abbrev sIsMaking : Stmt := topS 28
abbrev sNeedMaking : Stmt := topS 29
theorem scInner : FnScope ["making"] ["making"] (defScope sInner) := ⟨rfl, rfl, rfl, by decide +kernel, rfl, by decide +kernel, by decide +kernel⟩
theorem scParts : FnScope ["making", "parts", "part"] ["making"] (defScope sParts) := ⟨rfl, rfl, rfl, by decide +kernel, rfl, by decide +kernel, by decide +kernel⟩
theorem scIsMaking : FnScope ["thing"] ["thing"] (defScope sIsMaking) := ⟨rfl, rfl, rfl, by decide +kernel, rfl, by decide +kernel, by decide +kernel⟩
theorem scNeedMaking : FnScope ["thing"] ["thing"] (defScope sNeedMaking) := ⟨rfl, rfl, rfl, by decide +kernel, rfl, by decide +kernel, by decide +kernel⟩
def kids : Hx.Mk → List Hx.Mk
  | .k1 _ a => [a]
  | .k2 _ a b => [a, b]
  | _ => []
theorem parts_kids (m : Hx.Mk) : m.parts = m :: (kids m).flatMap Hx.Mk.parts := by
  cases m <;> simp [Hx.Mk.parts, kids]
theorem kids_depth {m a : Hx.Mk} (h : a ∈ kids m) : a.depth < m.depth := by
  cases m with
  | k1 k b => rw [List.mem_singleton.mp h]; simp only [Hx.Mk.depth]; omega
  | k2 k b c =>
    rcases List.mem_cons.mp h with h | h
    · rw [h]; simp only [Hx.Mk.depth]; omega
    · rw [List.mem_singleton.mp h]; simp only [Hx.Mk.depth]; omega
  | k0 k => cases h
  | atom c => cases h
  | name z => cases h
theorem take_flat_le (l : List Hx.Mk) (i : Nat) : ((l.take i).flatMap Hx.Mk.parts).length ≤ (l.flatMap Hx.Mk.parts).length := by
  conv => rhs; rw [← List.take_append_drop i l]
  rw [List.flatMap_append, List.length_append]
  omega
theorem flat_mem : ∀ {l : List Hx.Mk} {a : Hx.Mk}, a ∈ l → a.parts.length ≤ (l.flatMap Hx.Mk.parts).length
  | b :: r, a, h => by
    rw [List.flatMap_cons, List.length_append]
    rcases List.mem_cons.mp h with h | h
    · rw [h]; omega
    · have := flat_mem h; omega
theorem lt1000 {n : Nat} (h : n ≤ 1000) : n ≤ sizeLine := Nat.le_trans h (by decide)
section
variable {P : Program} {w : World} {K : PySem.W.Frag} {mg : Str → Option Value} {base : Heap} {T : List Addr}
def spInner (K : PySem.W.Frag) (T : List Addr) : Sp := fun vs H Q _ => ∃ (v : V) (m : Hx.Mk), vs = [v] ∧ IsM K H v m ∧ TabsG T H ∧ ∀ H' p us, Gr T H H' → H p = none → H' p = some (.lst us) → AllM K H' us (kids m) → Q (.ref p) H'
theorem ok_inner {f : Addr} {fd : FuncData} {k : Nat} (F : Fun K "inner" "inner" sInner f fd) (mL : mg "list" = none) : FnOk P w K mg base CX0 (k + 1) f fd ["making"] (spInner K T) := by
  refine F.ok scInner (fun vs H Q E h => ?_) (fun cdv A outer s H vs Q E hr h => ?_)
  · obtain ⟨v, m, rfl, _⟩ := h
    rfl
  · obtain ⟨v, m, rfl, hM, ht, q⟩ := h
    refine' ⟨_, pss_cons ?s1 (pss_one ?s2), ?fin⟩
    case s1 => exact ps_if (pt_cmpR op_in_seq (pe_ix ix_tup (pv 0) pe_int (fun _ _ => rfl)) (pe_tup (pa_cons pe_str (pa_cons pe_str pa_nil))) rfl) (pss_one (ps_ret (pe_lst pa_nil))) pss_nil
    case s2 => exact ps_ret (pe_callTy call_list_of (by rfl) mL (by decide +kernel) (pa_cons (pe_slice sl_tup (pv 0) (po_some pe_int) po_none) pa_nil))
    refine Classical.byContradiction fun hG => ?_
    have leaf : ∀ (a : Addr) (tag : Str) (rest : List V), v = .ref a → SqT K H a (.str tag :: rest) → (tag = "atom" ∨ tag = "name") → kids m = [] → False := by
      intro a tag rest hv hT h1 hk
      subst hv
      refine hG ?_
      refine ⟨_, rfl, a, _, 0, _, rfl, rfl, hT, atI_nat (j := 0) rfl, by show 2 ≤ sizeLine; decide, fun p np => ?_⟩
      have g1 : Gr T H (upd H p (.tup [.str "atom", .str "name"])) := Gr.new ht _ np
      refine ⟨p, _, rfl, .inr (.inl (.inl upd_same)), rfl, rfl, _, rfl, if1 ?_ ?_⟩
      · rcases h1 with h1 | h1 <;> subst h1 <;> decide
      refine ⟨Nat.zero_le _, fun p' np' => q _ p' [] (g1.trans (Gr.new g1.tabs _ np')) (Gr.free ht g1 np') upd_same ?_⟩
      rw [hk]
      exact .nil
    have node : ∀ (a : Addr) (tag : Str) (rest : List V), v = .ref a → SqT K H a (.str tag :: rest) → tag ≠ "atom" → tag ≠ "name" → AllM K H rest (kids m) → False := by
      intro a tag rest hv hT n1 n2 hA
      subst hv
      refine hG ?_
      refine ⟨_, rfl, a, _, 0, _, rfl, rfl, hT, atI_nat (j := 0) rfl, by show 2 ≤ sizeLine; decide, fun p np => ?_⟩
      have g1 : Gr T H (upd H p (.tup [.str "atom", .str "name"])) := Gr.new ht _ np
      refine ⟨p, _, rfl, .inr (.inl (.inl upd_same)), rfl, rfl, _, rfl, if0 ?_ ?_⟩
      · show inV (V.str tag) [.str "atom", .str "name"] = false
        simp [inV, eqV, Ne.symm n1, Ne.symm n2]
      refine ⟨_, rfl, 1, rfl, a, _, rfl, g1.seqT ht hT, cut1_not (List.cons_ne_nil _ _), fun p2 np2 => ?_⟩
      rw [cut1]
      have g2 := g1.trans (Gr.new g1.tabs (.tup rest) np2)
      refine ⟨p2, rest, rfl, .inr (.inl (.inl upd_same)), fun l nl => ?_⟩
      have g3 := g2.trans (Gr.new g2.tabs (.lst rest) nl)
      exact q _ l rest g3 (Gr.free ht g2 nl) upd_same (hA.kt (g3.kt ht))
    cases hM with
    | @k0 a k hT => exact node a k.tag [] rfl hT (tag0 k).1 (tag0 k).2 .nil
    | @k1 a k v m1 hT h1 => exact node a k.tag [v] rfl hT (tag1 k).1 (tag1 k).2 (.cons h1 .nil)
    | @k2 a k v u m1 m2 hT h1 h2 => exact node a k.tag [v, u] rfl hT (tag2 k).1 (tag2 k).2 (.cons h1 (.cons h2 .nil))
    | @atom a ch hT => exact leaf a _ _ rfl hT (.inl rfl) rfl
    | @name a z hT => exact leaf a _ _ rfl hT (.inr rfl) rfl
def spParts (K : PySem.W.Frag) (T : List Addr) (d : Nat) : Sp := fun vs H Q _ => ∃ (v : V) (m : Hx.Mk), vs = [v] ∧ IsM K H v m ∧ m.depth < d ∧ m.parts.length ≤ 1000 ∧ TabsG T H ∧ ∀ H' p us, Gr T H H' → H p = none → H' p = some (.lst us) → AllM K H' us m.parts → Q (.ref p) H'
theorem ok_partsS {f fI : Addr} {fd fdI : FuncData} {d L : Nat} (F : Fun K "parts_within" "parts_within" sParts f fd) (GI : FnOk P w K mg base CX0 (L + 1) fI fdI ["making"] (spInner K T)) (bI : Binds K fdI ["making"] []) (gI : mg "inner" = some (.ref fI)) (kI : PySem.W.keepIn K (.ref fI) = true)
    (GP : FnOk P w K mg base CX0 (L + 1) f fd ["making"] (spParts K T d)) (bP : Binds K fd ["making"] []) (gP : mg "parts_within" = some (.ref f)) :
    FnOk P w K mg base CX0 (L + 2) f fd ["making"] (spParts K T (d + 1)) := by
  refine F.ok scParts (fun vs H Q E h => ?_) (fun cdv A outer s H vs Q E hr h => ?_)
  · obtain ⟨v, m, rfl, _⟩ := h
    rfl
  · obtain ⟨v, m, rfl, hM, hd, hlen, ht, q⟩ := h
    refine' ⟨_, pss_cons ?s1 (pss_cons ?s2 (pss_one ?s3)), ?fin⟩
    case s1 => exact ps_set (i := 1) scParts.nd rfl (.inl rfl) (pe_lst (pa_cons (pv 0) pa_nil))
    case s2 =>
      refine' ps_for PassesOwn.never rfl ?i (pg_name (i := 2) scParts.nd rfl (.inl rfl)) (pss_one (ps_expr ?b))
      case i => exact pi_list (pe_call GI hr (by rfl) gI kI bI .nil pass0 (pa_cons (pv 0) pa_nil))
      case b => exact pe_bm PySem.F.plainAttrs_list PySem.F.slot_list_extend PySem.F.type_list_extend mt_extend (pv 1) (pa_cons (pe_call GP hr (by rfl) gP F.kp bP .nil pass0 (pa_cons (pv 2) pa_nil)) pa_nil)
    case s3 => exact ps_ret (pv 1)
    refine ⟨_, rfl, by show 1 ≤ sizeLine; decide, fun p np => ?_⟩
    have g1 : Gr T H (upd H p (.lst [v])) := Gr.new ht _ np
    refine ⟨_, rfl, v, m, rfl, hM.gr g1 ht, g1.tabs, fun H1 l us g2 nl hl hA => ?_⟩
    have g12 := g1.trans g2
    refine ⟨l, rfl, ⟨_, SqL.of hl⟩, ?_⟩
    have hp1 : H1 p = some (.lst [v]) := g2.at g1.tabs upd_same notbl_lst
    have nlp : l ≠ p := fun z => by rw [z, upd_same] at nl; cases nl
    have hul : us.length = (kids m).length := paired_len hA
    refine for_list (xs := us) (fun i σ Hc => ∃ y2 vs', σ = [some v, some (.ref p), y2] ∧ KT H1 Hc ∧ Gr T H Hc ∧ Hc l = some (.lst us) ∧ Hc p = some (.lst vs') ∧ AllM K Hc vs' (m :: ((kids m).take i).flatMap Hx.Mk.parts))
      ⟨none, [v], rfl, KT.refl _, g12, hl, hp1, ?_⟩ (fun i σ Hc _ ⟨_, _, _, _, _, e, _⟩ => SqL.of e) (fun i x σ Hc hx hPv => ?_) (fun σ Hc hPv => ?_)
    · rw [List.take_zero]
      exact .cons (hM.gr g12 ht) .nil
    · obtain ⟨y2, vs', rfl, gq, g, el, ep, hAll⟩ := hPv
      obtain ⟨a, ha, hIa⟩ := L2.paired_get hA hx
      have haK : a ∈ kids m := List.mem_of_getElem? ha
      have hplen : a.parts.length ≤ m.parts.length := by
        rw [parts_kids m, List.length_cons]
        have := flat_mem haK
        omega
      have etake : (kids m).take (i + 1) = (kids m).take i ++ [a] := by rw [List.take_add_one, ha]; rfl
      have hsum : (m :: ((kids m).take i).flatMap Hx.Mk.parts).length + a.parts.length ≤ m.parts.length := by
        have := take_flat_le (kids m) (i + 1)
        rw [etake, List.flatMap_append, List.length_append] at this
        rw [parts_kids m, List.length_cons, List.length_cons]
        simp only [List.flatMap_cons, List.flatMap_nil, List.append_nil] at this
        omega
      refine ⟨_, rfl, .inl ⟨rfl, _, SqL.of ep⟩, _, rfl, x, a, rfl, hIa.kt gq, by have := kids_depth haK; omega, by omega, g.tabs, fun H3 p3 us3 g3 n3 e3 hA3 => ?_⟩
      have ep3 : H3 p = some (.lst vs') := g3.at g.tabs ep notbl_lst
      have el3 : H3 l = some (.lst us) := g3.at g.tabs el notbl_lst
      have l1 := paired_len hAll
      have l2 := paired_len hA3
      refine ⟨p, p3, vs', us3, rfl, rfl, ep3, e3, lt1000 (by omega), some x, vs' ++ us3, rfl, (gq.trans (g3.kt g.tabs)).trans (KT.lst ep3), (g.trans g3).own ht _ np, by rw [upd_ne nlp]; exact el3, upd_same, ?_⟩
      rw [etake, List.flatMap_append]
      simp only [List.flatMap_cons, List.flatMap_nil, List.append_nil]
      rw [← List.cons_append]
      exact paired_append ((hAll.kt (g3.kt g.tabs)).kt (KT.lst ep3)) (hA3.kt (KT.lst ep3))
    · obtain ⟨y2, vs', rfl, gq, g, el, ep, hAll⟩ := hPv
      rw [hul, List.take_length, ← parts_kids] at hAll
      exact ⟨_, rfl, q Hc p vs' g np ep hAll⟩
end
end Lw
namespace Lw
open PySem PySem.Spec PyProof.Rows L2 Hx
/-! ### promises by name -/
/-- the built-in names are free -/
structure Bn (mg : Str → Option Value) : Prop where
  len : mg "len" = none
  isi : mg "isinstance" = none
  str : mg "str" = none
  tuple : mg "tuple" = none
  dict : mg "dict" = none
  int : mg "int" = none
  bool : mg "bool" = none
  all : mg "all" = none
  any : mg "any" = none
  list : mg "list" = none
  sorted : mg "sorted" = none
  set : mg "set" = none
  range : mg "range" = none
  max : mg "max" = none
  min : mg "min" = none
  sum : mg "sum" = none
  enumerate : mg "enumerate" = none
/-- the def x stands at f -/
def Has (K : PySem.W.Frag) (mg : Str → Option Value) (x : Str) (st : Stmt) (ps : List Str) : Prop := ∃ f fd, Fun K x x st f fd ∧ mg x = some (.ref f) ∧ Binds K fd ps []
def HasT (K : PySem.W.Frag) (mg : Str → Option Value) (base : Heap) (T : List Addr) (x : Str) (st : Stmt) (ps : List Str) : Prop := ∃ f c P1 fd, FunT K x x st f c fd ∧ mg x = some (.ref f) ∧ Binds K fd ps [] ∧ GxR.TabB base mg c P1 ∧ P1 ∈ T
/-- the def x keeps sp at the level k -/
structure PrAt (P : Program) (w : World) (K : PySem.W.Frag) (mg : Str → Option Value) (base : Heap) (x : Str) (ps : List Str) (sp : Sp) (k : Nat) (f : Addr) (fd : FuncData) : Prop where
  ok : FnOk P w K mg base CX0 k f fd ps sp
  g : mg x = some (.ref f)
  kp : (PySem.W.keepIn K (.ref f) = true)
  b : Binds K fd ps []
def Pr (P : Program) (w : World) (K : PySem.W.Frag) (mg : Str → Option Value) (base : Heap) (x : Str) (ps : List Str) (sp : Sp) (k : Nat) : Prop := ∃ f fd, PrAt P w K mg base x ps sp k f fd
theorem Pr.mono {P : Program} {w : World} {K : PySem.W.Frag} {mg : Str → Option Value} {base : Heap} {x : Str} {ps : List Str} {sp : Sp} {j k : Nat} (h : Pr P w K mg base x ps sp j) (hk : j ≤ k) : Pr P w K mg base x ps sp k := by
  obtain ⟨f, fd, a, b, c, d⟩ := h
  exact ⟨f, fd, a.mono hk, b, c, d⟩
theorem ps_no {X : Cx} {st : Stmt} : PS X st (fun _ _ _ => False) := ⟨fun _ _ _ _ _ _ h => h.elim⟩
theorem pss_no {X : Cx} {st : List Stmt} : PSs X st (fun _ _ _ => False) := ⟨fun _ _ _ _ _ _ h => h.elim⟩
theorem pe_no {X : Cx} {e : Expr} : PE X e (fun _ _ _ => False) := ⟨fun _ _ _ _ _ _ h => h.elim⟩
section
variable {P : Program} {w : World} {K : PySem.W.Frag} {mg : Str → Option Value} {base : Heap} {T : List Addr}
theorem pr_cell (h : Has K mg "_law_cell" sCell ["_law_script", "_law_k"]) (B : Bn mg) : Pr P w K mg base "_law_cell" ["_law_script", "_law_k"] (spCell K T) 1 := by
  obtain ⟨f, fd, F, g, b⟩ := h
  exact ⟨f, fd, ok_cell (k := 0) F B.len, g, F.kp, b⟩
theorem pr_roll (h : Has K mg "_law_roll" sRoll ["_law_dice", "_law_many"]) (h2 : Has K mg "_law_drawn" sDrawn ["_law_cell_here", "_law_k"]) : Pr P w K mg base "_law_roll" ["_law_dice", "_law_many"] spRoll 2 := by
  obtain ⟨f, fd, F, g, b⟩ := h
  obtain ⟨f2, fd2, F2, g2, b2⟩ := h2
  exact ⟨f, fd, ok_roll (k := 0) F F2 b2 g2, g, F.kp, b⟩
theorem pr_rounds (h : Has K mg "_law_rounds" sRounds ["_law_script", "_law_high"]) (h2 : Has K mg "_law_cell" sCell ["_law_script", "_law_k"]) (B : Bn mg) : Pr P w K mg base "_law_rounds" ["_law_script", "_law_high"] (spRounds K T) 2 := by
  obtain ⟨f, fd, F, g, b⟩ := h
  obtain ⟨f2, fd2, F2, g2, b2⟩ := h2
  exact ⟨f, fd, ok_rounds (k := 0) F F2 b2 g2 B.len B.range B.max B.min, g, F.kp, b⟩
theorem pr_letter (h : Has K mg "is_letter" sLetter ["thing"]) (B : Bn mg) : Pr P w K mg base "is_letter" ["thing"] spLetter 1 := by
  obtain ⟨f, fd, F, g, b⟩ := h
  exact ⟨f, fd, ok_letter (k := 0) F B.len B.isi B.str, g, F.kp, b⟩
theorem pr_word (h : HasT K mg base T "is_word" sWord ["thing"]) (h2 : Has K mg "is_letter" sLetter ["thing"]) (B : Bn mg) (mM : ∃ tk, mg "MOST_LETTERS" = some (.int 8 tk)) : Pr P w K mg base "is_word" ["thing"] (spWord T) 3 := by
  obtain ⟨f, c, P1, fd, F, g, b, TB, hP⟩ := h
  obtain ⟨f2, fd2, F2, g2, b2⟩ := h2
  obtain ⟨tk, mM⟩ := mM
  exact ⟨f, fd, ok_word (k := 0) F F2 b2 g2 TB hP B.len B.isi B.str B.all mM, g, F.kp, b⟩
theorem pr_formed {dI : Addr} (h : HasT K mg base T "is_formed" sFormed ["thing", "deep"]) (hL : Pr P w K mg base "is_letter" ["thing"] spLetter 1) (hW : Pr P w K mg base "is_word" ["thing"] (spWord T) 3) (I : InnerT K w mg dI) (B : Bn mg) (mM : ∃ tk, mg "MOST_DEEP" = some (.int 6 tk)) :
    Pr P w K mg base "is_formed" ["thing", "deep"] (spFormed K T 7) 16 := by
  obtain ⟨f, c, P1, fd, F, g, b, TB, hP⟩ := h
  obtain ⟨fL, fdL, GL, gL, kL, bL⟩ := hL
  obtain ⟨fW, fdW, GW, gW, kW, bW⟩ := hW
  obtain ⟨tk, mM⟩ := mM
  have all : ∀ d : Nat, FnOk P w K mg base CX0 (2 + 2 * d) f fd ["thing", "deep"] (spFormed K T d) := by
    intro d
    induction d with
    | zero => exact formed_none.mono (by omega)
    | succ d ih => exact ok_formedS (L := 2 + 2 * d) F (GL.mono (by omega)) bL gL kL (GW.mono (by omega)) bW gW kW ih b g TB hP I B.len B.isi B.str B.tuple B.all mM
  exact ⟨f, fd, all 7, g, F.kp, b⟩
theorem pr_inner (h : Has K mg "inner" sInner ["making"]) (B : Bn mg) : Pr P w K mg base "inner" ["making"] (spInner K T) 1 := by
  obtain ⟨f, fd, F, g, b⟩ := h
  exact ⟨f, fd, ok_inner (k := 0) F B.list, g, F.kp, b⟩
theorem parts_none {f : Addr} {fd : FuncData} : FnOk P w K mg base CX0 0 f fd ["making"] (spParts K T 0) := by
  have no : ∀ vs H Q E, ¬ spParts K T 0 vs H Q E := fun vs H Q E h => by
    obtain ⟨v, m, _, _, h1, _⟩ := h
    omega
  exact ⟨fun vs H Q E h => absurd h (no vs H Q E), fun A outer s H args us vs Q E _ _ _ _ h => absurd h (no vs H Q E)⟩
theorem pr_parts (h : Has K mg "parts_within" sParts ["making"]) (hI : Pr P w K mg base "inner" ["making"] (spInner K T) 1) : Pr P w K mg base "parts_within" ["making"] (spParts K T 7) 8 := by
  obtain ⟨f, fd, F, g, b⟩ := h
  obtain ⟨fI, fdI, GI, gI, kI, bI⟩ := hI
  have all : ∀ d : Nat, FnOk P w K mg base CX0 (1 + d) f fd ["making"] (spParts K T d) := by
    intro d
    induction d with
    | zero => exact parts_none.mono (by omega)
    | succ d ih =>
      have := ok_partsS (L := d) (d := d) F (GI.mono (by omega)) bI gI kI (ih.mono (by omega)) b g
      exact this.mono (by omega)
  exact ⟨f, fd, all 7, g, F.kp, b⟩
/-! ### is_making, need_making -/
def okM (m : Hx.Mk) : Prop := m.good ∧ m.depth ≤ 6 ∧ m.parts.length ≤ 40
def spMak (K : PySem.W.Frag) (T : List Addr) (r : V) : Sp := fun vs H Q _ => ∃ (v : V) (m : Hx.Mk), vs = [v] ∧ IsM K H v m ∧ okM m ∧ TabsG T H ∧ ∀ H', Gr T H H' → Q r H'
theorem pr_ismaking (h : Has K mg "is_making" sIsMaking ["thing"]) (hF : Pr P w K mg base "is_formed" ["thing", "deep"] (spFormed K T 7) 16) (hP : Pr P w K mg base "parts_within" ["making"] (spParts K T 7) 8) (B : Bn mg) (mM : ∃ tk, mg "MOST_PARTS" = some (.int 40 tk)) :
    Pr P w K mg base "is_making" ["thing"] (spMak K T (.bl true)) 17 := by
  obtain ⟨f, fd, F, g, b⟩ := h
  obtain ⟨fF, fdF, GF, gF, kF, bF⟩ := hF
  obtain ⟨fP, fdP, GP, gP, kP, bP⟩ := hP.mono (k := 16) (by decide)
  obtain ⟨tk, mM⟩ := mM
  refine ⟨f, fd, F.ok scIsMaking (fun vs H Q E h => ?_) (fun cdv A outer s H vs Q E hr h => ?_), g, F.kp, b⟩
  · obtain ⟨v, m, rfl, _⟩ := h
    rfl
  · obtain ⟨v, m, rfl, hM, ⟨h1, h2, h3⟩, ht, q⟩ := h
    refine ⟨_, pss_one (ps_ret (pe_and (pe_call GF hr (by rfl) gF kF bF .nil pass0 (pa_cons (pv 0) (pa_cons pe_int pa_nil)))
      (pe_one (pe_cmpR op_le (pe_callB call_len_seq (by rfl) B.len PySem.boot_len (pa_cons (pe_call GP hr (by rfl) gP kP bP .nil pass0 (pa_cons (pv 0) pa_nil)) pa_nil)) (pe_glob (v := .int 40) (by rfl) mM ⟨_, rfl⟩) (nomark _))))), ?_⟩
    refine ⟨_, rfl, v, m, 0, rfl, hM, h1, by omega, by omega, by omega, ht, fun H1 g1 => ⟨true, rfl, if1 rfl ?_⟩⟩
    refine ⟨_, rfl, v, m, rfl, hM.gr g1 ht, by omega, by omega, g1.tabs, fun H2 p us g2 np hp hA => ?_⟩
    have hl := paired_len hA
    refine ⟨p, us, rfl, .inl (SqL.of hp), _, 40, rfl, rfl, ?_⟩
    show Q (V.bl (decide (((us.length : Nat) : Int) ≤ 40))) H2
    rw [decide_eq_true (show ((us.length : Nat) : Int) ≤ 40 by omega)]
    exact q H2 (g1.trans g2)
theorem pr_needmaking (h : Has K mg "need_making" sNeedMaking ["thing"]) (hM : Pr P w K mg base "is_making" ["thing"] (spMak K T (.bl true)) 17) : Pr P w K mg base "need_making" ["thing"] (spMak K T .non) 18 := by
  obtain ⟨f, fd, F, g, b⟩ := h
  obtain ⟨fF, fdF, GF, gF, kF, bF⟩ := hM
  refine ⟨f, fd, F.ok scNeedMaking (fun vs H Q E h => ?_) (fun cdv A outer s H vs Q E hr h => ?_), g, F.kp, b⟩
  · obtain ⟨v, m, rfl, _⟩ := h
    rfl
  · obtain ⟨v, m, rfl, hM, h1, ht, q⟩ := h
    refine' ⟨_, pss_one (ps_if ?t pss_no pss_nil), ?fin⟩
    case t => exact pt_not (pt_val (pe_call GF hr (by rfl) gF kF bF .nil pass0 (pa_cons (pv 0) pa_nil)))
    exact ⟨_, rfl, v, m, rfl, hM, h1, ht, fun H1 g1 => ⟨true, rfl, if0 rfl (q H1 g1)⟩⟩
end
end Lw
/-! sets of texts: filled, walked, sorted -/
namespace Sx
open L2 PySem PySem.Spec PyProof.Rows
open PySem.Froz (SD TxOk addTx tailTx sObj)
/-- D holds the texts l, each once, and can be walked -/
structure Tx (P : Program) (w : World) (D : SD) (l : List Str) : Prop where
  ok : TxOk P w D l
  nd : l.Nodup
  ris : Ris D.2.2.place.toList
  led : w.params.followText "set-order" = true ∨ D.2.2.led = true
section
variable {P : Program} {w : World} {A : Around} {E : Value → Shared → Prop} {s : Shared} {a : Addr} {D : SD} {l : List Str} {k : Str} {u : Tok}
def bare (w : World) : SD := (#[], 0, .fresh 0 0 (!w.params.followText "set-order"))
theorem Tx.none : Tx P w (bare w) [] := ⟨TxOk.nil rfl, List.nodup_nil, .nil, by unfold bare; cases w.params.followText "set-order" <;> simp [SetTable.fresh]⟩
theorem off_plain (t : SetTable) : (if t.plain = true then { t with plain := false } else t).place = t.place ∧ (if t.plain = true then { t with plain := false } else t).led = t.led := by
  by_cases c : t.plain = true <;> simp [c]
theorem tail_walk {ep : Nat} {es : Array (Int × Value)} {t : SetTable} {b : Bool} (r : Ris t.place.toList) : Ris (tailTx ep es t b).2.2.place.toList ∧ (tailTx ep es t b).2.2.led = t.led := by
  unfold tailTx
  split
  · exact ⟨relayAll_ris _ _ _, relayAll_led _ _ _⟩
  · exact ⟨r, rfl⟩
theorem Tx.more (T : Tx P w D l) (u : Tok) (hk : k ∉ l) : Tx P w (addTx (hashStr w k) (.str k u) D) (k :: l) := by
  have r := layNew_ris D.2.2 D.1 (hashStr w k) (.str k u) T.ris
  have e := layNew_led D.2.2 D.1 (hashStr w k) (.str k u)
  obtain ⟨p1, p2⟩ := off_plain (layNew D.2.2 D.1 (hashStr w k) (.str k u)).2.1
  rw [← p1] at r
  have z := tail_walk (ep := D.2.1) (es := (layNew D.2.2 D.1 (hashStr w k) (.str k u)).1) (b := (layNew D.2.2 D.1 (hashStr w k) (.str k u)).2.2.1) r
  exact ⟨Froz.add_ok u T.ok, List.nodup_cons.mpr ⟨hk, T.nd⟩, z.1, T.led.imp_right fun y => z.2.trans (p2.trans (e.trans y))⟩
/-- a text that is there is added: nothing happens -/
theorem put_old {Q : Bool → Shared → Prop} (T : Tx P w D l) (ho : s.heap.get? a = some (sObj "set" D)) (hk : k ∈ l) (hb : l.length < scanBound) (h : Q false s) : wpAny (model P w) A (setAddHashed a (.str k u) (hashStr w k)) Q E s := by
  obtain ⟨j, hj⟩ : ∃ j, List.findIdx? (fun e => (strKind P w).is k e.2) D.1.toList = some j := by
    cases z : List.findIdx? (fun e => (strKind P w).is k e.2) D.1.toList with
    | some j => exact ⟨j, rfl⟩
    | none =>
      obtain ⟨e, he, y⟩ := (T.ok.mem k).mp hk
      have := List.findIdx?_eq_none_iff.mp z e he
      rw [y] at this
      cases this
  unfold setAddHashed
  unfold setAddHashedIn
  refine wpAny_holding (wpAny_bind (wpAny_setState_of ho rfl T.ok.fit ?_))
  dsimp only
  rw [byScan_of (knd := strKind P w) rfl (by rw [T.ok.sz]; exact hb) T.ok.el, if_pos rfl]
  unfold setAddByScan
  refine wpAny_bind (wpAny_bind (wpAny_rule (wpAny_bind (wpAny_setScan_of (knd := strKind P w) (k := k) (strKind_is _ _ _ _) ho rfl T.ok.fit T.ok.el ?_))))
  rw [hj]; exact wpAny_pure (wpAny_pure h)
/-- what an added text leaves -/
structure Put (P : Program) (w : World) (a : Addr) (h : Heap) (l : List Str) (k : Str) (h' : Heap) (D' : SD) (l' : List Str) : Prop where
  tx : Tx P w D' l'
  at_ : h'.get? a = some (sObj "set" D')
  mem : ∀ x, x ∈ l' ↔ x = k ∨ x ∈ l
  len : l'.length ≤ l.length + 1
  rest : ∀ b o, b ≠ a → h.get? b = some o → h'.get? b = some o
theorem put {Q : Bool → Shared → Prop} (T : Tx P w D l) (ho : s.heap.get? a = some (sObj "set" D)) (hb : l.length + 1 < scanBound)
    (h : ∀ b h' D' l', Put P w a s.heap l k h' D' l' → Q b { s with heap := h', toks := s.toks + 1 }) : wpAny (model P w) A (setAdd a (.str k u)) Q E s := by
  unfold setAdd
  refine wpAny_holding (wpAny_bind ((strKind P w).pyHash (k := k) (strKind_is _ _ _ _) ?_))
  by_cases hk : k ∈ l
  · exact put_old (s := { s with toks := s.toks + 1 }) T ho hk (Nat.lt_of_succ_lt hb) (h _ s.heap D l ⟨T, ho, fun x => ⟨.inr, fun z => z.elim (fun y => y ▸ hk) id⟩, Nat.le_succ _, fun _ _ _ e => e⟩)
  · exact Froz.add_x (s := { s with toks := s.toks + 1 }) ho T.ok hk hb (h _ _ _ _ ⟨T.more u hk, Froz.get_upd _ ho rfl, fun x => List.mem_cons, Nat.le_refl _, fun b o n e => (Heap.get?_update_other _ _ (Ne.symm n)).trans e⟩)
/-- the same by a call of add -/
theorem put_call {Q : Value → Shared → Prop} (T : Tx P w D l) (ho : s.heap.get? a = some (sObj "set" D)) (hb : l.length + 1 < scanBound)
    (h : ∀ h' D' l', Put P w a s.heap l k h' D' l' → Q .none { s with heap := h', toks := s.toks + 1 }) : wpAny (model P w) A (call (.builtin "set.add") [.ref a, .str k u]) Q E s := by
  refine wpAny_call_entry PySem.F.slot_set_add ⟨_, ho, rfl⟩ PySem.F.entry_set_add ?_ (PySem.F.args_set_add_2 _ _)
  unfold Builtin.«set.add» Builtin.Frozenset.oneOther Builtin.Frozenset.addrOf
  simp only [bind_assoc, List.isEmpty_nil]
  refine wpAny_bind (wpAny_pure (wpAny_bind (wpAny_pure (wpAny_bind (put T ho hb fun b h' D' l' p => ?_)))))
  exact wpAny_pure ⟨_, rfl, h h' D' l' p⟩
/-- the loop that fills a set with what a walk over the texts xs gives -/
theorem fill {I : Addr} {fp wr : List Addr} {G : Array GenState → Array GenState → Prop} {n : Nat} {Pv : Nat → Value → Prop} {St : Nat → Shared → Prop} {R : Result → Shared → Prop} {xs : List Str} {s0 : Shared}
    (W : WalksS P w A.in1 I fp wr G n Pv St) (off : a ∉ fp) (hn : n = xs.length) (few : xs.length + 1 < scanBound) (val : ∀ i v, Pv i v → ∃ k t, xs[i]? = some k ∧ v = .str k t)
    (last : ∀ s' D l, Moved (a :: wr) G s0 s' → s'.heap.get? a = some (sObj "set" D) → Tx P w D l → l.length ≤ n → (∀ x, x ∈ l ↔ x ∈ xs) → R (.ok (.ret .none)) s') :
    ∀ (k i : Nat) (s : Shared) (D : SD) (l : List Str), n - i = k → i ≤ n → St i s → Moved (a :: wr) G s0 s → s.heap.get? a = some (sObj "set" D) → Tx P w D l → l.length ≤ i → (∀ x, x ∈ l ↔ x ∈ xs.take i) →
      codeAny (model P w) A (.builtin "set.update.loop" ⟨[.ref a, .ref I], []⟩) R s := by
  have offw : a ∉ wr := fun z => off (W.sub _ z)
  have wide : ∀ b ∈ wr, b ∈ a :: wr := fun _ z => .tail _ z
  intro k
  induction k with
  | zero =>
    intro i s D l e1 e2 st mv at_ T len mem
    have e : i = n := by omega
    subst e
    refine codeAny_builtin PyProof.Rows.F.entry_set_update_loop (by
      rw [Around.under_plainId PyProof.Rows.F.plain_set_update_loop _]
      exact wpAny_bind (m := pyNext (.ref I)) (W.done s _ _ st fun s' m => wpAny_pure (last s' D l (mv.trans W.gtrans (m.mono wide)) (m.heap a _ offw at_) T len (fun x => by rw [mem x, hn, List.take_length]))))
  | succ k ih =>
    intro i s D l e1 e2 st mv at_ T len mem
    refine codeAny_builtin PyProof.Rows.F.entry_set_update_loop (by
      rw [Around.under_plainId PyProof.Rows.F.plain_set_update_loop _]
      refine wpAny_bind (m := pyNext (.ref I)) (W.item i s _ _ (by omega) st fun v s1 hv st1 m1 => ?_)
      obtain ⟨z, t, hz, rfl⟩ := val i v hv
      refine wpAny_bind (m := holding [Value.str z t] (setAdd a (.str z t))) (wpAny_holding (put T (m1.heap a _ offw at_) (by omega) fun b h' D' l' p => wpAny_pure ⟨plainId_quiet PyProof.Rows.F.plain_set_update_loop _, ?_⟩))
      refine ih (i + 1) _ D' l' (by omega) (by omega) (W.frame _ s1 _ _ st1 (Nat.le_succ _) fun b hb o e => p.rest b o (fun y => off (y ▸ hb)) e) (mv.trans W.gtrans ((m1.mono wide).then_heap (Nat.le_succ _) fun b o hb e => p.rest b o (fun y => hb (y ▸ List.mem_cons_self)) e)) p.at_ p.tx (by have := p.len; omega) fun x => ?_
      rw [p.mem x, mem x, List.take_add_one, hz, List.mem_append, or_comm]
      simp)
/-- set(l) of a list: the loop has the new set and the list's walker -/
theorem set_of_list {c : Addr} {its : Array Value} {Q : Value → Shared → Prop} (hl : s.heap.IsList c its)
    (h : ∀ A' : Around, A'.handled = A.handled → codeAny (model P w) A' (.builtin "set.update.loop" ⟨[.ref s.heap.objs.size, .ref (s.heap.objs.size + 1)], []⟩) (fun r s' => r = .ok (.ret .none) ∧ Q (.ref s.heap.objs.size) s')
      { s with heap := (s.heap.push (sObj "set" (bare w))).push { cls := .type "list_iterator", data := .fields #[.ref c, .int 0 0] } }) : wpAny (model P w) A (call (.type "set") [.ref c]) Q E s := by
  obtain ⟨⟨_, _, mro⟩, made, sub, nt, cc, tc⟩ := And.intro PySem.F.called_set.mro (And.intro PySem.F.called_set.made (And.intro PySem.F.called_set.sub (And.intro PySem.F.called_set.notType (And.intro PySem.F.called_set.canCreate (PySem.F.typeCall_set_1 (.ref c))))))
  refine wpAny_call (codeAny_of_tree (show wpAny _ _ (callAny (.type "set") _) _ _ _ from wpAny_pure ⟨Code.quiet_builtin _ (by decide +kernel), codeAny_builtin PySem.F.entry_type_call ?_⟩))
  rw [Around.under_plain (weight_type_call_type "set" [.ref c] []) rfl]
  repeat (any_goals (first | assumption | wp_step))
  refine codeAny_mono (L2.code_set_led1 (.ref c) (E := E) (Q₁ := fun v s1 => v = .ref s.heap.objs.size ∧ s1 = { s with heap := s.heap.push (sObj "set" (bare w)) }) ⟨rfl, rfl⟩) fun r s1 hr => ?_
  rcases r with _ | (_ | _ | _ | v)
  any_goals exact hr
  obtain ⟨rfl, rfl⟩ := hr
  have here : (s.heap.push (sObj "set" (bare w))).get? s.heap.objs.size = some (sObj "set" (bare w)) := Heap.get?_push_size _ rfl
  have ty : Shared.TypeIs { s with heap := s.heap.push (sObj "set" (bare w)) } (.ref s.heap.objs.size) "set" := ⟨_, here, rfl⟩
  obtain ⟨lk, bd⟩ := And.intro PySem.F.called_set.init.lookup (PySem.F.called_set.init.bind (.ref s.heap.objs.size))
  repeat (any_goals (first | assumption | wp_step))
  refine codeAny_mono (codeAny_call_builtin (R := wants (fun r s2 => r = .none ∧ Q (.ref s.heap.objs.size) s2) E) PySem.F.called_set.init.plain PySem.F.entry_set_init (check_set_init_1 ty ?_)) fun r s2 hr => ?_
  · obtain ⟨⟨_, dd, _, sl⟩, ho, hcl, nl, hda⟩ := hl
    cases hcl
    cases hda
    have ho' : (s.heap.push (sObj "set" (bare w))).get? c = some { cls := .type "list", dict := dd, data := .seq its nl, slots := sl } := Heap.get?_push_of_some _ ho
    obtain ⟨n1, n2, n3⟩ := And.intro PySem.F.sub_list_set (And.intro PySem.F.sub_list_frozenset (show (Value.type "list" == Value.type "dict") = false by decide))
    unfold Builtin.«set.__init__» noKeywords Builtin.Frozenset.updateFrom
    generalize hPI : pyIter = PI
    wp_walk
    subst hPI
    refine wpAny_pyIter_list (s := { s with heap := s.heap.push (sObj "set" (bare w)) }) ⟨_, ho', rfl, nl, rfl⟩ (wpAny_bind (wpAny_runValue ?_))
    have e : (s.heap.push (sObj "set" (bare w))).objs.size = s.heap.objs.size + 1 := Heap.size_push ..
    rw [e]
    refine codeAny_mono (h _ ?_) fun r s2 hr => ?_
    · simp
    · obtain ⟨rfl, q⟩ := hr
      exact wpAny_pure (wpAny_pure ⟨rfl, q⟩)
  · rcases r with _ | (_ | _ | _ | v)
    any_goals exact hr
    obtain ⟨rfl, q⟩ := hr
    repeat (any_goals (first | assumption | wp_step))
end
end Sx
namespace Sx
open L2 PySem PySem.Spec PyProof.Rows
open PySem.Froz (SD TxOk addTx tailTx sObj)
/-- the set of the texts l at a -/
def TxO (P : Program) (w : World) (a : Addr) (l : List Str) : HO := .ext fun h => ∃ D, h.get? a = some (sObj "set" D) ∧ Tx P w D l
theorem TxO.new {P : Program} {w : World} {H : Hp} {h : Heap} {a : Addr} {D : SD} {l : List Str} (at_ : h.get? a = some (sObj "set" D)) (T : Tx P w D l) : ObjOk P w H h a (TxO P w a l) :=
  ⟨⟨D, at_, T⟩, ⟨_, at_⟩, fun _ _ ⟨D', p, q⟩ k => ⟨D', k _ p, q⟩⟩
theorem perm_of {α : Type} [DecidableEq α] : ∀ {l m : List α}, l.Nodup → (∀ x ∈ l, x ∈ m) → m.length ≤ l.length → m.Perm l
  | [], m, _, _, h => by rw [List.length_eq_zero_iff.mp (Nat.le_zero.mp h)]
  | x :: r, m, nd, sub, h => by
    have hx : x ∈ m := sub x List.mem_cons_self
    obtain ⟨n1, n2⟩ := List.nodup_cons.mp nd
    refine (List.perm_cons_erase hx).trans (List.Perm.cons x (perm_of n2 (fun y hy => ?_) ?_))
    · exact (List.mem_erase_of_ne (show y ≠ x from fun z => n1 (z ▸ hy))).mpr (sub y (List.mem_cons_of_mem _ hy))
    · rw [List.length_erase_of_mem hx]
      simp only [List.length_cons] at h
      omega
def txt : Value → Str
  | .str k _ => k
  | _ => Str.empty
theorem strs_txt : ∀ {us : List Value}, (∀ v ∈ us, ∃ k t, v = Value.str k t) → StrsAre us (us.map txt)
  | [], _ => .nil
  | v :: us, h => by
    obtain ⟨k, t, rfl⟩ := h v List.mem_cons_self
    exact .cons k t (strs_txt fun y hy => h y (List.mem_cons_of_mem _ hy))
theorem Tx.texts {P : Program} {w : World} {D : SD} {l : List Str} (T : Tx P w D l) : (∀ e ∈ D.1.toList, ∃ k t, e.2 = Value.str k t) ∧ ((D.1.toList.map (·.2)).map txt).Perm l := by
  have one : ∀ e ∈ D.1.toList, ∃ k t, e.2 = Value.str k t := fun e he => by
    obtain ⟨k, hk, _⟩ := (T.ok.el e he).1
    obtain ⟨t, z⟩ := Value.isStrOf_shape (x := k) (v := e.2) hk
    exact ⟨k, t, z⟩
  refine ⟨one, perm_of T.nd (fun x hx => ?_) ?_⟩
  · obtain ⟨e, he, hk⟩ := (T.ok.mem x).mp hx
    obtain ⟨t, z⟩ := Value.isStrOf_shape (x := x) (v := e.2) hk
    exact List.mem_map.mpr ⟨e.2, List.mem_map.mpr ⟨e, he, rfl⟩, by rw [z]; rfl⟩
  · rw [List.length_map, List.length_map, Array.length_toList, T.ok.sz]
    exact Nat.le_refl _
section
variable {X : Cx}
/-- set(l), l a list of texts -/
def rSet (K : PySem.W.Frag) (P : Program) (w : World) : List V → Hp → VK → Prop := fun xs H Q => ∃ (c : Addr) (ks : List Str), xs = [.ref c] ∧ SqL K H c (ks.map V.str) ∧ ks.length < 64 ∧
  ∀ a l, H a = none → (∀ x, x ∈ l ↔ x ∈ ks) → l.Nodup → l.length ≤ ks.length → Q (.ref a) (upd H a (TxO P w a l))
theorem cr_set (calm : X.calm = true) : CallR X (.type "set") (rSet X.K X.prog X.w) := by
  rintro pins s σ H xs us Q I r ⟨c, ks, rfl, hl, few, q⟩
  obtain ⟨its, rv, pl, _⟩ := I.list hl
  have hS : StrsAre its ks := Vals.strs rv
  have il : s.heap.IsList c its.toArray := pl.isList
  have lt : c < s.heap.objs.size := by obtain ⟨o, ho, _⟩ := il; exact Heap.lt_size ho
  have hlen : its.toArray.size = ks.length := by rw [List.size_toArray]; exact StrsAre.len_eq hS
  rw [Vals.ref1 r]
  refine set_of_list il fun A' hA => ?_
  have il2 : ((s.heap.push (sObj "set" (bare X.w))).push { cls := .type "list_iterator", data := .fields #[.ref c, .int 0 0] }).IsList c its.toArray := (il.push _).push _
  have e1 : (s.heap.push (sObj "set" (bare X.w))).objs.size = s.heap.objs.size + 1 := Heap.size_push ..
  have it : ((s.heap.push (sObj "set" (bare X.w))).push { cls := .type "list_iterator", data := .fields #[.ref c, .int 0 0] }).get? (s.heap.objs.size + 1) = some { cls := .type "list_iterator", data := .fields #[.ref c, .int 0 0] } := by
    rw [← e1]
    exact Heap.get?_push_size _ rfl
  have at0 : ((s.heap.push (sObj "set" (bare X.w))).push { cls := .type "list_iterator", data := .fields #[.ref c, .int 0 0] }).get? s.heap.objs.size = some (sObj "set" (bare X.w)) := Heap.get?_push_of_some _ (Heap.get?_push_size _ rfl)
  have W := (Walks.list (prog := X.prog) (w := X.w) (A := A'.in1) (by show A'.handled = none; rw [hA]; exact I.ok.hd calm) (s.heap.objs.size + 1) c (Nat.ne_of_lt (Nat.lt_succ_of_lt lt)) its.toArray).toS
  refine fill (P := X.prog) (w := X.w) W (a := s.heap.objs.size) (by simp only [List.mem_cons, List.not_mem_nil, or_false, not_or]; exact ⟨Nat.ne_of_lt (Nat.lt_succ_self _), Nat.ne_of_gt lt⟩) hlen (Nat.lt_of_lt_of_le (Nat.succ_lt_succ few) (by unfold scanBound; decide)) (fun i v hv => ?_) ?_ its.toArray.size 0 _ (bare X.w) [] (by omega) (Nat.zero_le _) ⟨⟨_, it, rfl, rfl⟩, il2⟩ (Moved.refl W.grefl) at0 Tx.none (Nat.le_refl _) (fun x => by simp)
  · have hi : i < ks.length := by rw [← hlen]; exact (Array.getElem?_eq_some_iff.mp hv).1
    obtain ⟨t, e⟩ := SS.strs_at hS i v (by simpa using hv)
    exact ⟨ks[i], t, List.getElem?_eq_getElem hi, by rw [e, List.getD_eq_getElem?_getD, List.getElem?_eq_getElem hi]; rfl⟩
  · intro s' D l mv at_ T len mem
    obtain ⟨h', g', d', t', o'⟩ := s'
    obtain ⟨rfl, rfl, rfl⟩ := And.intro (show g' = s.gens from mv.gens) (And.intro (show d' = s.drawn from mv.drawn) (show o' = s.os from mv.os))
    have keep : ∀ b o, s.heap.get? b = some o → h'.get? b = some o := fun b o e => by
      have lb : b < s.heap.objs.size := Heap.lt_size e
      refine mv.heap b o ?_ (Heap.get?_push_of_some _ (Heap.get?_push_of_some _ e))
      simp only [List.mem_cons, List.not_mem_nil, or_false, not_or]
      exact ⟨Nat.ne_of_lt lb, Nat.ne_of_lt (Nat.lt_succ_of_lt lb)⟩
    exact ⟨rfl, .ref s.heap.objs.size, _, I.laid (t' := t') keep (Nat.le_refl _) (TxO.new at_ T), rfl, q _ l (I.hok.fresh (Nat.le_refl _)) mem T.nd (by rw [← hlen]; exact len)⟩
/-- sorted(a), a a set of fewer than 64 texts -/
def rSort (P : Program) (w : World) : List V → Hp → VK → Prop := fun vs H Q => ∃ (a : Addr) (l : List Str), vs = [.ref a] ∧ H a = some (TxO P w a l) ∧ l.length < 64 ∧
  ∀ ys p, ys.Perm l → sortedS ys = true → H p = none → Q (.ref p) (upd H p (.lst (ys.map V.str)))
theorem cr_sort (calm : X.calm = true) : CallR X (.builtin "sorted") (rSort X.prog X.w) := by
  rintro pins s σ H vs us Q I r ⟨a, l, rfl, ha, few, q⟩
  obtain ⟨D, at_, T⟩ := (I.hok a _ ha).1
  rw [Vals.ref1 r]
  have small : D.1.size < scanBound := by rw [T.ok.sz]; exact Nat.lt_trans few (by unfold scanBound; decide)
  refine Calls.call_function_entry kind_sorted plain_sorted entry_sorted (args_sorted1 _) (wpAny_bind (m := checkCount "sorted" 1 1 _) (wpAny_pure (wpAny_bind (collect_set (A := X.A.in1) (I.ok.hd calm) ⟨_, at_, rfl, rfl⟩ T.ok.fit small T.ris T.led fun s1 out k1 z1 g1 o1 pm => ?_))))
  obtain ⟨one, pt⟩ := T.texts
  have hS : StrsAre out (out.map txt) := strs_txt fun v hv => by
    obtain ⟨e, he, rfl⟩ := List.mem_map.mp (pm.mem_iff.mp hv)
    exact one e he
  have pl : (out.map txt).Perm l := (pm.map txt).trans pt
  have len : out.length < 64 := by rw [← List.length_map (f := txt), pl.length_eq]; exact few
  refine wpAny_bind (wpAny_newList ?_ (Nat.le_trans (Nat.le_of_lt len) (by decide)))
  have atL : (s1.heap.push (seqObj "list" out.toArray 0)).get? s1.heap.objs.size = some (seqObj "list" out.toArray 0) := Heap.get?_push_size _ rfl
  refine wpAny_bind (wpAny_holding (wpAny_call_entry slot_list_sort ⟨_, atL, rfl⟩ entry_list_sort (list_sort_treeK strKind_oneLt atL hS.keysOf (fun v1 v2 rest e => keyKind_strs (by rw [← e]; exact hS)) len fun st hp hs => ⟨_, rfl, ?_⟩) (args_list_sort _)))
  obtain ⟨ys, y1, y2, y3⟩ := sorted_out_str hS hp hs
  obtain ⟨c, atP⟩ := sortedHeap_at (vs := out) (out := (arrOf st).map (·.2)) atL
  have free : H s1.heap.objs.size = none := I.hok.fresh z1
  have keep : ∀ b o, s.heap.get? b = some o → (sortedHeap (s1.heap.push (seqObj "list" out.toArray 0)) s1.heap.objs.size out ((arrOf st).map (·.2))).get? b = some o := fun b o e => by
    have e1 := k1 b o e
    have lb : b < s1.heap.objs.size := Heap.lt_size e1
    rw [sortedHeap_old (Nat.ne_of_lt lb) (by rw [size_push']; exact Nat.lt_succ_of_lt lb)]
    exact Heap.get?_push_of_some _ e1
  have fit : (ys.map V.str).length ≤ sizeLine := by
    rw [List.length_map, y2.length_eq, pl.length_eq]
    exact Nat.le_trans (Nat.le_of_lt few) (by decide)
  obtain ⟨h1, g1', d1, t1, o1'⟩ := s1
  obtain ⟨rfl, rfl⟩ := And.intro (show g1' = s.gens from g1) (show o1' = s.os from o1)
  have J : Inv X pins σ (upd H h1.objs.size (.lst (ys.map V.str))) { s with heap := sortedHeap (h1.push (seqObj "list" out.toArray 0)) h1.objs.size out ((arrOf st).map (·.2)), gens := s.gens, drawn := d1, toks := t1 } :=
    I.call (ch := []) (Un.laid keep z1 free) (I.hok.laid keep z1 ⟨fit, ((arrOf st).map (·.2)).toList, c, vals_of_strs y1, by rw [Array.toArray_toList]; exact atP⟩) I.bare fun _ z => nomatch z
  exact wpAny_pure ⟨_, rfl, .ref h1.objs.size, upd H h1.objs.size (.lst (ys.map V.str)), J, rfl, q ys _ (y2.trans pl) y3 free⟩
end
end Sx
/-! set comprehensions of texts -/
namespace Sx
open L2 PySem PySem.Spec PyProof.Rows
open PySem.Froz (SD TxOk addTx tailTx sObj)
/-- what one turn asks; D the set -/
def TurnsS (P : Program) (w : World) (D : Addr) (J : It) (g : TG) (tt : TT) (te : TE) (vs : List Nat) (σw : L2.St) (W : Nat → Nat → Hp → Prop) (Qd : Hp → Prop) : Prop := ∀ i m H, W i m H →
  (J.stop i H ∧ Qd H) ∨ (J.go i H ∧ ∀ x H', J.yld i H x H' → g x σw H' fun σ2 H2 => wipe σ2 vs = σw ∧ tt σ2 H2 fun b H3 =>
    if b = true then te σ2 H3 fun y H4 => ∃ k l, y = .str k ∧ H4 D = some (TxO P w D l) ∧ l.length + 1 < scanBound ∧ ∀ l', l'.Nodup → (∀ x, x ∈ l' ↔ x = k ∨ x ∈ l) → l'.length ≤ l.length + 1 → ∃ m', m' < m ∧ W (i + 1) m' (upd H4 D (TxO P w D l'))
    else ∃ m', m' < m ∧ W (i + 1) m' H3)
section
variable {B : Cx}
theorem add_text {pins : List (Addr × Obj)} {σ : L2.St} {H : Hp} {s : Shared} {E : Value → Shared → Prop} {D : Addr} {l : List Str} {k : Str} {t : Tok} {Q : Value → Shared → Prop} (I : Inv B pins σ H s) (hD : H D = some (TxO B.prog B.w D l)) (few : l.length + 1 < scanBound)
    (h : ∀ s' l', l'.Nodup → (∀ x, x ∈ l' ↔ x = k ∨ x ∈ l) → l'.length ≤ l.length + 1 → Inv B pins σ (upd H D (TxO B.prog B.w D l')) s' → Q .none s') : wpAny (model B.prog B.w) B.A (call (.builtin "set.add") [.ref D, .str k t]) Q E s :=
  (I.hok D _ hD).1.elim fun _ ⟨at_, T⟩ => put_call T at_ few fun h' D' l' p => h _ l' p.tx.nd p.mem p.len (I.write (e := D) (t' := s.toks + 1) (by rw [hD]; trivial) (.inl rfl) (fun b u n e => p.rest b u n e) ⟨_, p.at_⟩ (TxO.new p.at_ p.tx))
theorem set_loop {tg elt iter : Expr} {ifs : List Expr} {scope : Scope} {pos : Pos} {J : It} {fp : List Addr} {it D : Addr} {tn : Nat → Heap → Prop} {g : TG} {tt : TT} {te : TE} {vs : List Nat} {σw : L2.St} {W : Nat → Nat → Hp → Prop} {Qd : Hp → Prop} {R : Result → Shared → Prop}
    (hxe : B.xe = fun _ _ => False) (calm : B.calm = true) (hpn : B.pn = []) (hex : B.ex = fp) (T : Turn B.prog B.w B.K tg J fp it tn) (pg : PG B tg g) (pt : PTs B ifs tt) (pe : PE B elt te) (turn : TurnsS B.prog B.w D J g tt te vs σw W Qd)
    (out : ∀ s' H', Inv B [] σw H' s' → Qd H' → R (.ok .next) s') {m i : Nat} {s : Shared} {H : Hp} (I : Inv B [] σw H s) (st : tn i s.heap) (nfp : ∀ b ∈ fp, H b = none) (w0 : W i m H) :
    codeAny (model B.prog B.w) B.A (.compLoop (.SetComp elt [⟨tg, iter, ifs, 0⟩] scope pos) 0 (.ref it) (.ref D) B.env) R s := by
  have may : ∀ {σ' H' s'}, Inv B [] σ' H' s' → (∀ b ∈ fp, H' b = none) → ∀ b ∈ fp, FpOk B [] H' b := fun J' hz b hb =>
    have hb' : b ∈ B.ex := hex ▸ hb
    ⟨hz b hb, (J'.ok.exf b hb').1, J'.ok.exfs b hb', .inl hb', (J'.ok.exf b hb').2, fun p hq _ => by rw [hpn] at hq; cases hq⟩
  refine PpSet.compLoopS_any (fun n s' => ∃ i H', Inv B [] σw H' s' ∧ tn i s'.heap ∧ (∀ b ∈ fp, H' b = none) ∧ W i n H') ?_ m ⟨i, H, I, st, nfp, w0⟩
  intro n s ⟨i, H, I, st, nfp, w⟩
  rcases turn i n H w with ⟨stop, qq⟩ | ⟨go, step⟩
  · refine thnF (T.done B rfl rfl rfl calm i [] s _ H (fun _ _ => False) I (may I nfp) st stop) fun r s1 h1 => ?_
    cases h1.1
    exact out s1 H h1.2 qq
  · refine thnF (T.item B rfl rfl rfl calm i [] s _ H (fun _ _ => False) I (may I nfp) st go) fun r s1 ⟨u, er, h1⟩ => ?_
    cases er
    refine thnF h1 fun _ s2 ⟨x, H2, I2, r2, y2, st2, n2⟩ => ?_
    have given := pg.run _ s2 _ H2 x u _ (I2.pinned (may I2 n2) (T.obj _ _ st2)) r2 (step x H2 y2)
    refine thnF (hxe ▸ given) fun _ s3 ⟨σ3, H3, I3, w3, q3⟩ => ?_
    have asked := pt.run _ s3 σ3 H3 _ I3 q3
    refine thnF (hxe ▸ asked) fun b s4 ⟨H4, I4, q4⟩ => ?_
    -- from a turn's end to the next one's start
    have on : ∀ {s' H'}, Inv B ([] ++ pinsAt fp s2.heap) σ3 H' s' → (∃ m', m' < n ∧ W (i + 1) m' H') → ∃ m, m < n ∧ ∃ i H', Inv B [] σw H' s' ∧ tn i s'.heap ∧ (∀ b ∈ fp, H' b = none) ∧ W i m H' := fun {s' H'} I' ⟨m', less, w'⟩ => by
      have still : ∀ b ∈ fp, ∀ o, s2.heap.get? b = some o → s'.heap.get? b = some o ∧ H' b = none := fun b hb o e =>
        (I'.pin (b, o) (List.mem_append_right B.pn (List.mem_append_right [] (mem_pinsAt hb e)))).imp id And.left
      refine ⟨m', less, i + 1, H', (I'.unpinned (pins := [])).weak (by rw [← w3, wipe_length]) fun j v e => (wipe_some (w3.symm ▸ e : (wipe σ3 vs)[j]? = _)).1, T.keep _ _ _ st2 fun b hb o e => (still b hb o e).1, fun b hb => ?_, w'⟩
      exact (T.obj _ _ st2 b hb).elim fun o e => (still b hb o e.1).2
    cases b with
    | false => exact on I4 ((if_neg Bool.false_ne_true).mp q4)
    | true =>
      have told := pe.run _ s4 σ3 H4 _ I4 ((if_pos rfl).mp q4)
      refine (if_pos rfl).mpr (thnF (hxe ▸ told) fun z s5 ⟨y, H5, I5, r5, k, l, ey, at5, few, nx⟩ => ?_)
      subst ey
      obtain ⟨t, rfl⟩ := r5
      exact add_text I5 at5 few fun s6 l' nd mem len I6 => on I6 (nx l' nd mem len)
end
section
variable {X : Cx}
/-- {elt for tg in iter if ..}, elt a text -/
def tScS (P : Program) (w : World) (wi : TI) (g : TG) (tt : TT) (te : TE) (vs : List Nat) : TE := fun σ H Q => wi σ H fun J H1 => ∀ D, H1 D = none → ∃ W : Nat → Nat → Hp → Prop, (∃ m, W 0 m (upd H1 D (TxO P w D []))) ∧ TurnsS P w D J g tt te vs (wipe σ vs) W (Q (.ref D))
theorem pe_scS {elt tg iter : Expr} {ifs : List Expr} {scope : Scope} {own : List (PySem.Str × Nat)} {pos : Pos} {wi : TI} {g : TG} {tt : TT} {te : TE} (calm : X.calm = true) (hN : X.N.Nodup) (hi : PI X tg iter wi) (blk : BlkOk X.N X.env.scope scope own)
    (hg : ∀ s H C cl fp, PG (X.blk s H scope (compEnvC scope cl C X.env) fp) tg g) (ht : ∀ s H C cl fp, PTs (X.blk s H scope (compEnvC scope cl C X.env) fp) ifs tt) (he : ∀ s H C cl fp, PE (X.blk s H scope (compEnvC scope cl C X.env) fp) elt te) (hs : ∀ x, foldedSetIterable iter X.env x = pure x := by intro _; rfl) :
    PE X (.SetComp elt [⟨tg, iter, ifs, 0⟩] scope pos) (tScS X.prog X.w wi g tt te (own.map (·.2))) := ⟨fun pins s σ H Q I h => by
  rw [PpSet.eval_SetComp]
  refine wpAny_comprehension_free (use := none) rfl hs (closure_ok fun y hy e => I.ok.has y.1 (blk.free y hy e)) blk.kind (fun y hy e => by rw [blk.uniq y hy, e]) (thn (hi.run pins s σ H _ I h) fun v s1 hv => thn hv fun itv s2 ⟨it, fp, tn, J, H2, e, I2, T, st, f2, q⟩ => PpSet.newSet_ok (newEnv_comp ?_))
  subst e
  obtain ⟨W, ⟨m0, w0⟩, turn⟩ := q s2.heap.objs.size (I2.hok.fresh (Nat.le_refl _))
  have I3 : Inv X pins σ (upd H2 s2.heap.objs.size (TxO X.prog X.w s2.heap.objs.size [])) { s2 with heap := s2.heap.push (sObj "set" (bare X.w)) } :=
    I2.laid (t' := s2.toks) (fun b o e => Heap.get?_push_of_some _ e) (Nat.le_refl _) (TxO.new (Heap.get?_push_size _ rfl) Tx.none)
  have low : ∀ b ∈ fp, b < s2.heap.objs.size := fun b hb => (T.obj _ _ st b hb).elim fun o e => Heap.lt_size e.1
  have f3 : ∀ b ∈ fp, FpOk X pins (upd H2 s2.heap.objs.size (TxO X.prog X.w s2.heap.objs.size [])) b ∧ b < (s2.heap.push (sObj "set" (bare X.w))).objs.size := fun b hb =>
    ⟨⟨by rw [upd_ne (Nat.ne_of_lt (low b hb))]; exact (f2 b hb).1, (f2 b hb).2⟩, by rw [Heap.size_push]; exact Nat.lt_succ_of_lt (low b hb)⟩
  have I4 := block_start I3 blk hN f3
  have st4 : tn 0 (pushCells ((s2.heap.push (sObj "set" (bare X.w))).push { cls := .type "dict", data := .dict #[] }) scope.names) := T.keep _ _ _ st fun b _ o e => pushCells_keeps _ _ _ _ (Heap.get?_push_of_some _ (Heap.get?_push_of_some _ e))
  generalize hce : compEnvC scope (cellsFrom ((s2.heap.push (sObj "set" (bare X.w))).objs.size + 1) scope.names (cloFrom X.env.cells scope.names [])) (s2.heap.push (sObj "set" (bare X.w))).objs.size X.env = ce at I4
  have loop := set_loop (B := X.blk { s2 with heap := s2.heap.push (sObj "set" (bare X.w)) } (upd H2 s2.heap.objs.size (TxO X.prog X.w s2.heap.objs.size [])) scope ce fp) (elt := elt) (iter := iter) (scope := scope) (pos := pos) (R := compPost (model X.prog X.w) X.A X.xe none (fun v s' => ∃ x H', Inv X pins σ H' s' ∧ RelV x v ∧ Q x H') (.ref s2.heap.objs.size) (s2.heap.push (sObj "set" (bare X.w))).objs.size) rfl calm rfl rfl T (hce ▸ hg _ _ _ _ fp) (hce ▸ ht _ _ _ _ fp) (hce ▸ he _ _ _ _ fp) turn ?_ I4 st4 (fun b hb => (f3 b hb).1.1) w0
  · subst hce
    exact PpSet.codeAny_compStart_set loop (T.self X.A 0 _ _ _ st4 loop)
  · intro s5 H5 I5 q5
    subst hce
    obtain ⟨mp, ns, _⟩ := I5.loc
    have I6 : Inv X pins σ H5 s5 := I3.call' (ch := fp) I5.os I5.base I5.hok I5.bare fun b hb => (f3 b hb).1.2.elim fun z1 z => ⟨z.2.1, z1, z.2.2.1, z.2.2.2⟩
    obtain ⟨z0, z1, _, z3, z4, z5⟩ := I3.fpOk (Nat.le_refl _) (show H5 (s2.heap.push (sObj "set" (bare X.w))).objs.size = none from I5.free)
    exact ⟨mp, ns, fun h2 same => ⟨.ref s2.heap.objs.size, H5, I6.turned (t' := s5.toks) (fun b o n e => (same.2 b n).trans e) z0 z1 z3 z4 z5, rfl, q5⟩⟩⟩
end
end Sx
namespace Lw
open PySem PySem.Spec PyProof.Rows L2 Hx
abbrev sWords : Stmt := topS 27
abbrev sIsBook : Stmt := topS 32
abbrev sLacking : Stmt := topS 33
abbrev sNeedBook : Stmt := topS 34
abbrev sNeedRules : Stmt := topS 35
theorem scWords : FnScope ["making", "part"] ["making"] (defScope sWords) := ⟨rfl, rfl, rfl, by decide +kernel, rfl, by decide +kernel, by decide +kernel⟩
theorem scLacking : FnScope ["book", "making", "word"] ["book", "making"] (defScope sLacking) := ⟨rfl, rfl, rfl, by decide +kernel, rfl, by decide +kernel, by decide +kernel⟩
theorem mem_parts_name : ∀ {m : Hx.Mk} {z : Str}, Hx.Mk.name z ∈ m.parts → z ∈ m.names
  | .k0 _, z, h => by simp [Hx.Mk.parts] at h
  | .atom _, z, h => by simp [Hx.Mk.parts] at h
  | .name _, z, h => by simpa [Hx.Mk.parts, Hx.Mk.names] using h
  | .k1 _ a, z, h => by
    simp only [Hx.Mk.parts, List.mem_cons, reduceCtorEq, false_or] at h
    show z ∈ a.names
    exact mem_parts_name h
  | .k2 _ a b, z, h => by
    simp only [Hx.Mk.parts, List.mem_cons, List.mem_append, reduceCtorEq, false_or] at h
    exact List.mem_append.mpr (h.imp mem_parts_name mem_parts_name)
section
variable {P : Program} {w : World} {K : PySem.W.Frag} {mg : Str → Option Value} {base : Heap} {T : List Addr}
/-- a new list of texts -/
def spWordsL (K : PySem.W.Frag) (T : List Addr) : Sp := fun vs H Q _ => ∃ (v : V) (m : Hx.Mk), vs = [v] ∧ IsM K H v m ∧ m.depth < 7 ∧ m.parts.length ≤ 40 ∧ TabsG T H ∧
  ∀ H' p (zs : List Str), Gr T H H' → H p = none → H' p = some (.lst (zs.map V.str)) → zs.length ≤ 40 → (∀ z ∈ zs, z ∈ m.names) → Q (.ref p) H'
theorem pr_words (h : Has K mg "words_within" sWords ["making"]) (hP : Pr P w K mg base "parts_within" ["making"] (spParts K T 7) 8) (B : Bn mg) : Pr P w K mg base "words_within" ["making"] (spWordsL K T) 9 := by
  obtain ⟨f, fd, F, g, b⟩ := h
  obtain ⟨fP, fdP, GP, gP, kP, bP⟩ := hP
  refine ⟨f, fd, F.ok scWords (fun vs H Q E h => ?_) (fun cdv A outer s H vs Q E hr h => ?_), g, F.kp, b⟩
  · obtain ⟨v, m, rfl, _⟩ := h
    rfl
  · obtain ⟨v, m, rfl, hM, hd, hl, ht, q⟩ := h
    refine' ⟨_, pss_one ?s1, ?fin⟩
    case s1 => exact ps_ret (pe_callB (Sx.cr_sort rfl) (by rfl) B.sorted boot_sorted (pa_cons (Sx.pe_scS (own := [("part", 1)]) (g := gName 1) (tt := tTest (tOp rEq (tOp (rIxT K) (tVar 1) (tC (.int 0))) (tC (.str "name")))) (te := tOp (rIxT K) (tVar 1) (tC (.int 1))) rfl scWords.nd (pi_list (pe_call GP hr (by rfl) gP kP bP .nil pass0 (pa_cons (pv 0) pa_nil))) (blkOk_by (N := ["making", "part"]) (sc := defScope sWords) (by decide +kernel))
      (fun _ _ _ _ _ => pg_name (i := 1) scWords.nd rfl (Or.inl rfl)) (fun _ _ _ _ _ => pts_one (pt_cmpR op_eq (pe_ix ix_tup (pv 1) pe_int (fun _ _ => rfl)) pe_str (nomark _))) (fun _ _ _ _ _ => pe_ix ix_tup (pv 1) pe_int (fun _ _ => rfl))) pa_nil))
    refine ⟨_, rfl, v, m, rfl, hM, hd, by omega, ht, fun H1 l us g1 nl hl1 hA => ?_⟩
    refine ⟨l, rfl, ⟨_, SqL.of hl1⟩, fun D nD => ?_⟩
    have e1 : us.length = m.parts.length := paired_len hA
    have nlD : l ≠ D := ne_of_none hl1 nD
    have gD : Gr T H (upd H1 D (Sx.TxO P w D [])) := g1.trans (Gr.new g1.tabs _ nD)
    refine ⟨fun i n H' => n = us.length - i ∧ i ≤ us.length ∧ ∃ zs : List Str, Gr T H H' ∧ H' l = some (.lst us) ∧ KT H1 H' ∧ H' D = some (Sx.TxO P w D zs) ∧ zs.length ≤ i ∧ ∀ z ∈ zs, z ∈ m.names,
      ⟨_, rfl, Nat.zero_le _, [], gD, by rw [upd_ne nlD]; exact hl1, KT.new nD, upd_same, Nat.le_refl _, fun z hz => by cases hz⟩, fun i n H' ⟨en, hi, zs, gr, hl', kt, hD, hz, hn⟩ => ?_⟩
    by_cases hlt : i < us.length
    · refine .inr ⟨⟨us, us[i], SqL.of hl', List.getElem?_eq_getElem hlt⟩, fun x H'' ⟨e, hx⟩ => ?_⟩
      subst e
      obtain ⟨a, ha, hIa⟩ := L2.paired_get hA (hx us (SqL.of hl'))
      have hIa := hIa.kt kt
      have haP : a ∈ m.parts := List.mem_of_getElem? ha
      refine ⟨rfl, ?_⟩
      refine Classical.byContradiction fun hG => ?_
      have other : ∀ (c : Addr) (tag : Str) (rest : List V), x = .ref c → SqT K H'' c (.str tag :: rest) → tag ≠ "name" → False := by
        intro c tag rest ex hT hne
        subst ex
        refine hG ⟨_, rfl, c, _, 0, _, rfl, rfl, hT, atI_nat (j := 0) rfl, rfl, _, rfl, if0 (strne hne) ?_⟩
        exact ⟨us.length - (i + 1), by omega, rfl, hlt, zs, gr, hl', kt, hD, by omega, hn⟩
      cases hIa with
      | @k0 c k hT => exact other c _ _ rfl hT (tag0 k).2
      | @k1 c k _ _ hT _ => exact other c _ _ rfl hT (tag1 k).2
      | @k2 c k _ _ _ _ hT _ _ => exact other c _ _ rfl hT (tag2 k).2
      | @atom c _ hT => exact other c _ _ rfl hT (by decide)
      | @name c z hT =>
        refine hG ⟨_, rfl, c, _, 0, _, rfl, rfl, hT, atI_nat (j := 0) rfl, rfl, _, rfl, if1 rfl ?_⟩
        refine ⟨_, rfl, c, _, 1, _, rfl, rfl, hT, atI_nat (j := 1) rfl, z, zs, rfl, hD, Nat.lt_of_le_of_lt (show zs.length + 1 ≤ 41 by omega) (by unfold scanBound; decide), fun zs' nd mem len => ?_⟩
        have nD0 : H D = none := Gr.free ht g1 nD
        refine ⟨us.length - (i + 1), by omega, rfl, hlt, zs', gr.own ht _ nD0, by rw [upd_ne nlD]; exact hl', kt.trans ?_, upd_same, by omega, fun y hy => ?_⟩
        · exact KT.upd (fun xs e => by rw [hD] at e; cases e) (fun ob u e => by rw [hD] at e; cases e)
        · rcases (mem y).mp hy with rfl | hy
          · exact mem_parts_name haP
          · exact hn y hy
    · refine .inl ⟨⟨us, SqL.of hl', by omega⟩, D, zs, rfl, hD, Nat.lt_of_le_of_lt hz (by omega), fun ys p pm _ np => ?_⟩
      exact q _ p ys (gr.trans (Gr.new gr.tabs _ np)) (Gr.free ht gr np) upd_same (by rw [pm.length_eq]; omega) fun z hy => hn z (pm.mem_iff.mp hy)
end
end Lw
namespace Hx
open L2 PySem PySem.Spec PyProof.Rows
/-! ### books as data -/
abbrev Bk := List (Str × Mk)
def rule (bk : Bk) (z : Str) : Option Mk := (bk.find? fun p => decide (p.1 = z)).map (·.2)
def IsB (K : PySem.W.Frag) (H : Hp) (a : Addr) (bk : Bk) : Prop := ∃ kvs, Rd H a (.dK kvs) ∧ Paired (fun (kv : Key × V) p => kv.1 = Sum.inr p.1 ∧ IsM K H kv.2 p.2) kvs bk
def Bk.keys (bk : Bk) : List Str := bk.map (·.1)
structure okB (bk : Bk) : Prop where
  some_ : 1 ≤ bk.length
  few : bk.length ≤ 8
  nd : bk.keys.Nodup
  good : ∀ p ∈ bk, word p.1 ∧ (p.2.good ∧ p.2.depth ≤ 6 ∧ p.2.parts.length ≤ 40)
  full : ∀ p ∈ bk, ∀ z ∈ p.2.names, z ∈ bk.keys
theorem rule_mem {bk : Bk} {z : Str} {m : Mk} (h : rule bk z = some m) : (z, m) ∈ bk := by
  unfold rule at h
  cases e : bk.find? (fun p => decide (p.1 = z)) with
  | none => rw [e] at h; cases h
  | some p =>
    rw [e] at h
    obtain ⟨z', m'⟩ := p
    have h1 := List.find?_some e
    simp at h1
    cases h
    subst h1
    exact List.mem_of_find?_eq_some e
theorem rule_of {bk : Bk} {z : Str} (h : z ∈ bk.keys) : ∃ m, rule bk z = some m := by
  obtain ⟨p, hp, e⟩ := List.mem_map.mp h
  cases f : bk.find? (fun p => decide (p.1 = z)) with
  | none => exact absurd (List.find?_eq_none.mp f p hp) (by simp [e])
  | some y => exact ⟨y.2, by unfold rule; rw [f]; rfl⟩
theorem rule_none {bk : Bk} {z : Str} (h : z ∉ bk.keys) : rule bk z = none := by
  cases e : rule bk z with
  | none => rfl
  | some m => exact absurd (List.mem_map.mpr ⟨_, rule_mem e, rfl⟩) h
theorem rule_nd : ∀ {bk : Bk} {z : Str} {m : Mk}, bk.keys.Nodup → (z, m) ∈ bk → rule bk z = some m
  | (z', m') :: r, z, m, nd, h => by
    obtain ⟨n1, n2⟩ := List.nodup_cons.mp (show (z' :: Bk.keys r).Nodup from nd)
    by_cases e : z' = z
    · subst e
      rcases List.mem_cons.mp h with h | h
      · cases h; simp [rule]
      · exact absurd (List.mem_map.mpr ⟨_, h, rfl⟩) n1
    · rcases List.mem_cons.mp h with h | h
      · cases h; exact absurd rfl e
      · have := rule_nd n2 h
        unfold rule at this ⊢
        rw [List.find?_cons_of_neg (by simpa using e)]
        exact this
theorem val_rule {K : PySem.W.Frag} {H : Hp} {z : Str} : ∀ {kvs : List (Key × V)} {bk : Bk}, Paired (fun (kv : Key × V) p => kv.1 = Sum.inr p.1 ∧ IsM K H kv.2 p.2) kvs bk →
    (rule bk z = none ∧ valV kvs (Sum.inr z) = none) ∨ ∃ m v, rule bk z = some m ∧ valV kvs (Sum.inr z) = some v ∧ IsM K H v m
  | _, _, .nil => .inl ⟨rfl, rfl⟩
  | (k, v) :: kvs, (z', m) :: bk, .cons r t => by
    obtain ⟨e, hm⟩ := r
    dsimp only at e hm
    subst e
    by_cases h : z' = z
    · subst h
      exact .inr ⟨m, v, by simp [rule], by simp [valV], hm⟩
    · have e1 : rule ((z', m) :: bk) z = rule bk z := by unfold rule; rw [List.find?_cons_of_neg (by simpa using h)]
      have e2 : valV ((Sum.inr z', v) :: kvs) (Sum.inr z : Key) = valV kvs (Sum.inr z) := by
        unfold valV
        rw [List.find?_cons_of_neg (by simpa using fun y : (Sum.inr z' : Key) = Sum.inr z => h (Sum.inr.inj y))]
      rw [e1, e2]
      exact val_rule t
theorem IsB.get {K : PySem.W.Frag} {H : Hp} {a : Addr} {bk : Bk} (h : IsB K H a bk) {z : Str} {m : Mk} (e : rule bk z = some m) : ∃ v, DGet H a (.str z) (some v) ∧ IsM K H v m := by
  obtain ⟨kvs, rd, pr⟩ := h
  rcases val_rule (z := z) pr with ⟨h1, _⟩ | ⟨m', v, h1, h2, h3⟩
  · rw [e] at h1; cases h1
  · rw [e] at h1; cases h1
    exact ⟨v, .inl ⟨kvs, .inr z, rd, rfl, h2.symm⟩, h3⟩
theorem IsB.none {K : PySem.W.Frag} {H : Hp} {a : Addr} {bk : Bk} (h : IsB K H a bk) {z : Str} (e : rule bk z = none) : DGet H a (.str z) none := by
  obtain ⟨kvs, rd, pr⟩ := h
  rcases val_rule (z := z) pr with ⟨_, h2⟩ | ⟨m', v, h1, h2, h3⟩
  · exact .inl ⟨kvs, .inr z, rd, rfl, h2.symm⟩
  · rw [e] at h1; cases h1
theorem rd_gr {T : List Addr} {H H' : Hp} {a : Addr} {kvs : List (Key × V)} (g : Gr T H H') (t : TabsG T H) (h : Rd H a (.dK kvs)) : Rd H' a (.dK kvs) := h.imp (fun e => g.at t e notbl_dK) fun ⟨o, e⟩ => ⟨o, g.at t e notbl_frz⟩
theorem IsB.gr {T : List Addr} {K : PySem.W.Frag} {H H' : Hp} {a : Addr} {bk : Bk} (h : IsB K H a bk) (g : Gr T H H') (t : TabsG T H) : IsB K H' a bk := by
  obtain ⟨kvs, rd, pr⟩ := h
  exact ⟨kvs, rd_gr g t rd, paired_mono (fun _ _ r => ⟨r.1, r.2.gr g t⟩) pr⟩
/-- a locked dict is unlocked again -/
theorem Gr.unlock {T : List Addr} {H H' : Hp} {d : Addr} {u : HO} {od : Obj} (g : Gr T (upd H d (.frz od u)) H') (t : TabsG T H) (e : H d = some u) (n : ∀ ps, u ≠ .tbl ps) : Gr T H (upd H' d u) := by
  have hd : d ∉ T := t.out e n
  refine ⟨fun b o h hb => ?_, g.tabs.upd _ hd⟩
  by_cases z : b = d
  · subst z; rw [e] at h; cases h; exact upd_same
  · rw [upd_ne z]; exact g.keep b o (by rw [upd_ne z]; exact h) hb
theorem TabsG.lock {T : List Addr} {H : Hp} {d : Addr} {u : HO} {od : Obj} (t : TabsG T H) (e : H d = some u) (n : ∀ ps, u ≠ .tbl ps) : TabsG T (L2.upd H d (.frz od u)) := t.upd _ (t.out e n)
theorem IsB.lock {K : PySem.W.Frag} {H : Hp} {d : Addr} {bk : Bk} {kvs : List (Key × V)} {od : Obj} (e : H d = some (.dK kvs)) (pr : Paired (fun (kv : Key × V) p => kv.1 = Sum.inr p.1 ∧ IsM K H kv.2 p.2) kvs bk) :
    upd H d (.frz od (.dK kvs)) d = some (.frz od (.dK kvs)) ∧ Paired (fun (kv : Key × V) p => kv.1 = Sum.inr p.1 ∧ IsM K (upd H d (.frz od (.dK kvs))) kv.2 p.2) kvs bk :=
  ⟨upd_same, paired_mono (fun _ _ r => ⟨r.1, r.2.kt (KT.dK e)⟩) pr⟩
end Hx
namespace Lw
open PySem PySem.Spec PyProof.Rows L2 Hx
theorem u1 {n : Nat} (h : n + 64 < cLine) : n + 1 < cLine := by omega
abbrev okM' (m : Hx.Mk) : Prop := m.depth < 7 ∧ m.parts.length ≤ 40
section
variable {P : Program} {w : World} {K : PySem.W.Frag} {mg : Str → Option Value} {base : Heap} {T : List Addr}
/-- nothing lacks -/
def spLacking (K : PySem.W.Frag) (T : List Addr) : Sp := fun vs H Q _ => ∃ (a : Addr) (v : V) (bk : Bk) (m : Hx.Mk), vs = [.ref a, v] ∧ IsB K H a bk ∧ IsM K H v m ∧ okM' m ∧ (∀ z ∈ m.names, z ∈ bk.keys) ∧ TabsG T H ∧
  ∀ H' p, Gr T H H' → H p = none → H' p = some (.lst []) → Q (.ref p) H'
theorem pr_lacking (h : Has K mg "lacking" sLacking ["book", "making"]) (hW : Pr P w K mg base "words_within" ["making"] (spWordsL K T) 9) : Pr P w K mg base "lacking" ["book", "making"] (spLacking K T) 10 := by
  obtain ⟨f, fd, F, g, b⟩ := h
  obtain ⟨fW, fdW, GW, gW, kW, bW⟩ := hW
  refine ⟨f, fd, F.ok scLacking (fun vs H Q E h => ?_) (fun cdv A outer s H vs Q E hr h => ?_), g, F.kp, b⟩
  · obtain ⟨a, v, bk, m, rfl, _⟩ := h
    rfl
  · obtain ⟨a, v, bk, m, rfl, hB, hM, hm, hz, ht, q⟩ := h
    refine' ⟨_, pss_one ?s1, ?fin⟩
    case s1 => exact ps_ret (pe_lc (own := [("word", 2)]) (g := gName 2) (te := tVar 2) (tt := tB (tDNotIn (tVar 2) (tVar 0))) rfl scLacking.nd (pi_list (pe_call GW hr (by rfl) gW kW bW .nil pass0 (pa_cons (pv 1) pa_nil))) (blkOk_by (N := ["book", "making", "word"]) (sc := defScope sLacking) (by decide +kernel))
      (fun _ _ _ _ _ => pg_name (i := 2) scLacking.nd rfl (Or.inl rfl)) (fun _ _ _ _ _ => pts_one (pt_cmp (pc_dnotin (u1 hr.units) (pv 2) (pv 0)))) (fun _ _ _ _ _ => pv 2))
    refine ⟨_, rfl, v, m, rfl, hM, hm.1, hm.2, ht, fun H1 l zs g1 nl hl hlen hzs => ?_⟩
    refine ⟨l, rfl, ⟨_, SqL.of hl⟩, fun D nD => ?_⟩
    have nlD : l ≠ D := ne_of_none hl nD
    have gD : Gr T H (upd H1 D (.lst [])) := g1.trans (Gr.new g1.tabs _ nD)
    refine lc_it (walk_list (K := K) (xs := zs.map V.str)) (fun i H' => Gr T H H' ∧ H' l = some (.lst (zs.map V.str)) ∧ H' D = some (.lst [])) ⟨gD, by rw [upd_ne nlD]; exact hl, upd_same⟩ (fun i H' _ p => SqL.of p.2.1) (fun i x H' H'' hi ⟨gr, hl', hD⟩ ⟨e, hx⟩ => ?_) (fun H' ⟨gr, hl', hD⟩ => ?_)
    · subst e
      rw [List.getElem?_map] at hx
      cases ez : zs[i]? with
      | none => rw [ez] at hx; cases hx
      | some z =>
        rw [ez] at hx
        cases hx
        obtain ⟨m', e'⟩ := rule_of (hz z (hzs z (List.mem_of_getElem? ez)))
        obtain ⟨v', dg, _⟩ := (hB.gr gr ht).get e'
        exact ⟨rfl, _, rfl, _, rfl, a, some v', rfl, dg, false, rfl, if0 rfl ⟨gr, hl', hD⟩⟩
    · exact q H' D gr (Gr.free ht g1 nD) hD
end
end Lw
namespace Lw
open PySem PySem.Spec PyProof.Rows L2 Hx
theorem scIsBook : FnScope ["thing", "word", "rule"] ["thing"] (defScope sIsBook) := ⟨rfl, rfl, rfl, by decide +kernel, rfl, by decide +kernel, by decide +kernel⟩
theorem scNeedBook : FnScope ["thing"] ["thing"] (defScope sNeedBook) := ⟨rfl, rfl, rfl, by decide +kernel, rfl, by decide +kernel, by decide +kernel⟩
theorem scNeedRules : FnScope ["book", "making", "lacks"] ["book", "making"] (defScope sNeedRules) := ⟨rfl, rfl, rfl, by decide +kernel, rfl, by decide +kernel, by decide +kernel⟩
/-! ### all, any over a walk -/
abbrev WP (n : Nat) (Pv : Nat → Hp → Prop) : Nat → Nat → Hp → Prop := fun i m H => m = n - i ∧ i ≤ n ∧ Pv i H
abbrev NX (n : Nat) (Pv : Nat → Hp → Prop) (i m : Nat) : Hp → Prop := fun H => ∃ m', m' < m ∧ WP n Pv (i + 1) m' H
theorem nx {n i m : Nat} {Pv : Nat → Hp → Prop} {H : Hp} (hi : i < n) (hm : m = n - i) (p : Pv (i + 1) H) : NX n Pv i m H := ⟨n - (i + 1), by omega, rfl, hi, p⟩
theorem aa_it {J : It} {n : Nat} {G : Hp → Prop} {Y : Nat → Hp → V → Hp → Prop} (wk : Walk J n G Y) {g : TG} {tt : TT} {te : TE} {vs : List Nat} {σw : L2.St} {H2 : Hp} {Q : VK} {stop : Bool} (Pv : Nat → Hp → Prop) (h0 : Pv 0 H2) (hG : ∀ i H, i ≤ n → Pv i H → G H)
    (hs : ∀ i m x H H', i < n → m = n - i → Pv i H → Y i H x H' → g x σw H' fun σ2 H3 => wipe σ2 vs = σw ∧ tt σ2 H3 fun b H4 =>
      if b = true then te σ2 H4 fun y H5 => ∃ c : Bool, y = .bl c ∧ if c = stop then Q (.bl stop) H5 else NX n Pv i m H5 else NX n Pv i m H4) (hd : ∀ H, Pv n H → Q (.bl (!stop)) H) :
    Gx.AA J g tt te vs σw stop Q H2 := by
  refine ⟨WP n Pv, ⟨n, rfl, Nat.zero_le _, h0⟩, fun i m H ⟨em, hi, p⟩ => ?_⟩
  by_cases hlt : i < n
  · exact .inr ⟨wk.goes i H hlt (hG i H hi p), fun x H' y => hs i m x H H' hlt em p (wk.yields i H x H' hlt (hG i H hi p) y)⟩
  · have e : i = n := by omega
    subst e
    exact .inl ⟨wk.stops H (hG _ H hi p), hd H p⟩
/-! ### walks over a book -/
abbrev PrB (K : PySem.W.Frag) (H : Hp) (kvs : List (Key × V)) (bk : Bk) : Prop := Paired (fun (kv : Key × V) p => kv.1 = Sum.inr p.1 ∧ IsM K H kv.2 p.2) kvs bk
theorem PrB.at {K : PySem.W.Frag} {H : Hp} {kvs : List (Key × V)} {bk : Bk} (pr : PrB K H kvs bk) {i : Nat} {k : Key} {v : V} (e : kvs[i]? = some (k, v)) : ∃ z m, k = Sum.inr z ∧ bk[i]? = some (z, m) ∧ IsM K H v m := by
  obtain ⟨⟨z, m⟩, h1, h2, h3⟩ := L2.paired_get pr e
  exact ⟨z, m, h2, h1, h3⟩
section
variable {K : PySem.W.Frag} {H0 : Hp} {d : Addr} {o : Obj} {kvs : List (Key × V)} {bk : Bk}
theorem walk_bitems (pr : PrB K H0 kvs bk) : Walk (Iti d o kvs) bk.length (fun H => H d = some (.frz o (.dK kvs))) (fun i H x H' => ∃ p z v m, bk[i]? = some (z, m) ∧ IsM K H0 v m ∧ x = .ref p ∧ H p = none ∧ H' = upd H p (.tup [.str z, v])) := by
  have e : bk.length = kvs.length := (paired_len pr).symm
  refine ⟨fun i H hi q => ⟨q, by omega⟩, fun H q => ⟨q, by omega⟩, fun i H x H' hi q ⟨p, k, v, e1, e2, e3, e4⟩ => ?_⟩
  obtain ⟨z, m, rfl, h1, h2⟩ := pr.at e1
  exact ⟨p, z, v, m, h1, h2, e2, e3, e4⟩
theorem walk_bkeys (pr : PrB K H0 kvs bk) : Walk (Itk d o kvs) bk.length (fun H => H d = some (.frz o (.dK kvs))) (fun i H x H' => H' = H ∧ ∃ z m, bk[i]? = some (z, m) ∧ x = .str z) := by
  have e : bk.length = kvs.length := (paired_len pr).symm
  refine ⟨fun i H hi q => ⟨q, by omega⟩, fun H q => ⟨q, by omega⟩, fun i H x H' hi q ⟨e0, k, v, e1, e2⟩ => ?_⟩
  obtain ⟨z, m, rfl, h1, h2⟩ := pr.at e1
  exact ⟨e0, z, m, h1, e2⟩
theorem walk_bvalues (pr : PrB K H0 kvs bk) : Walk (Itd d o kvs) bk.length (fun H => H d = some (.frz o (.dK kvs))) (fun i H x H' => H' = H ∧ ∃ z m, bk[i]? = some (z, m) ∧ IsM K H0 x m) := by
  have e : bk.length = kvs.length := (paired_len pr).symm
  refine ⟨fun i H hi q => ⟨q, by omega⟩, fun H q => ⟨q, by omega⟩, fun i H x H' hi q ⟨e0, k, e1⟩ => ?_⟩
  obtain ⟨z, m, _, h1, h2⟩ := pr.at e1
  exact ⟨e0, z, m, h1, h2⟩
end
section
variable {P : Program} {w : World} {K : PySem.W.Frag} {mg : Str → Option Value} {base : Heap} {T : List Addr}
def spNeedRules (K : PySem.W.Frag) (T : List Addr) : Sp := fun vs H Q _ => ∃ (a : Addr) (v : V) (bk : Bk) (m : Hx.Mk), vs = [.ref a, v] ∧ IsB K H a bk ∧ IsM K H v m ∧ okM' m ∧ (∀ z ∈ m.names, z ∈ bk.keys) ∧ TabsG T H ∧ ∀ H', Gr T H H' → Q .non H'
theorem pr_needrules (h : Has K mg "need_rules" sNeedRules ["book", "making"]) (hL : Pr P w K mg base "lacking" ["book", "making"] (spLacking K T) 10) : Pr P w K mg base "need_rules" ["book", "making"] (spNeedRules K T) 11 := by
  obtain ⟨f, fd, F, g, b⟩ := h
  obtain ⟨fL, fdL, GL, gL, kL, bL⟩ := hL
  refine ⟨f, fd, F.ok scNeedRules (fun vs H Q E h => ?_) (fun cdv A outer s H vs Q E hr h => ?_), g, F.kp, b⟩
  · obtain ⟨a, v, bk, m, rfl, _⟩ := h
    rfl
  · obtain ⟨a, v, bk, m, rfl, hB, hM, hm, hz, ht, q⟩ := h
    refine' ⟨_, pss_cons ?s1 (pss_one (ps_if ?t pss_no pss_nil)), ?fin⟩
    case s1 => exact ps_set (i := 2) scNeedRules.nd rfl (.inl rfl) (pe_call GL hr (by rfl) gL kL bL .nil pass0 (pa_cons (pv 0) (pa_cons (pv 1) pa_nil)))
    case t => exact pt_truth (pv 2) (fun _ => rfl)
    exact ⟨_, rfl, _, rfl, a, v, bk, m, rfl, hB, hM, hm, hz, ht, fun H' p gr np hp => ⟨_, rfl, false, .inl ⟨_, SqL.of hp, rfl⟩, if0 rfl (q H' gr)⟩⟩
/-- a book, as a dict that may be written -/
def IsD0 (K : PySem.W.Frag) (H : Hp) (a : Addr) (bk : Bk) : Prop := ∃ kvs, H a = some (.dK kvs) ∧ Paired (fun (kv : Key × V) p => kv.1 = Sum.inr p.1 ∧ IsM K H kv.2 p.2) kvs bk
theorem IsD0.b {H : Hp} {a : Addr} {bk : Bk} (h : IsD0 K H a bk) : IsB K H a bk := h.imp fun _ z => ⟨.inl z.1, z.2⟩
theorem IsD0.gr {H H' : Hp} {a : Addr} {bk : Bk} (h : IsD0 K H a bk) (g : Gr T H H') (t : TabsG T H) : IsD0 K H' a bk := h.imp fun _ z => ⟨g.at t z.1 notbl_dK, paired_mono (fun _ _ r => ⟨r.1, r.2.gr g t⟩) z.2⟩
def spBook (K : PySem.W.Frag) (T : List Addr) (r : V) : Sp := fun vs H Q _ => ∃ (a : Addr) (bk : Bk), vs = [.ref a] ∧ IsD0 K H a bk ∧ okB bk ∧ TabsG T H ∧ ∀ H', Gr T H H' → Q r H'
theorem pr_isbook (h : HasT K mg base T "is_book" sIsBook ["thing"]) (hW : Pr P w K mg base "is_word" ["thing"] (spWord T) 3) (hM : Pr P w K mg base "is_making" ["thing"] (spMak K T (.bl true)) 17) (hL : Pr P w K mg base "lacking" ["book", "making"] (spLacking K T) 10) (B : Bn mg) (mM : ∃ tk, mg "MOST_WORDS" = some (.int 8 tk)) :
    Pr P w K mg base "is_book" ["thing"] (spBook K T (.bl true)) 19 := by
  obtain ⟨f, c, P1, fd, F, g, b, TB, hP⟩ := h
  obtain ⟨fW, fdW, GW, gW, kW, bW⟩ := hW.mono (k := 17) (by decide)
  obtain ⟨fM, fdM, GM, gM, kM, bM⟩ := hM
  obtain ⟨fL, fdL, GL, gL, kL, bL⟩ := hL.mono (k := 17) (by decide)
  obtain ⟨tk, mM⟩ := mM
  refine ⟨f, fd, F.ok scIsBook (fun vs H Q E h => ?_) (fun A outer s H vs Q E hr h => ?_), g, F.kp, b⟩
  · obtain ⟨a, bk, rfl, _⟩ := h
    rfl
  · obtain ⟨a, bk, rfl, ⟨kvs, hk, pr⟩, ok, ht, q⟩ := h
    refine' ⟨_, pss_cons ?s1 (pss_cons ?s2 (pss_one ?s3)), ?fin⟩
    case s1 => exact ps_if (PW.pt (pw_or (pt_not (pt_val (pe_callB call_isi (by rfl) B.isi boot_isinstance (pa_cons (pv 0) (pa_cons (pe_bltn (v := .ty "dict") (by rfl) B.dict (by decide +kernel) rfl) pa_nil)))))
        (pw_or1 (pt_not (pt_chain op_le op_le pe_int (pe_callB call_lenD (by rfl) B.len PySem.boot_len (pa_cons (pv 0) pa_nil)) (pe_glob (v := .int 8) (by rfl) mM ⟨_, rfl⟩)))))) pss_no pss_nil
    case s2 => exact ps_if (pt_not (pt_val (pe_lock (Gx.pe_allG (own := [("word", 1), ("rule", 2)]) (g := gTup K 2 (gCons (gName 1) (gCons (gName 2) gNil))) (tt := tYes) (te := tAndV (tCall (spWord T) [] E (tCons (tVar 1) tNil)) (tCall (spMak K T (.bl true)) [] E (tCons (tVar 2) tNil))) (k := 17) hr scIsBook.nd (by rfl) B.all TB rfl (pi_items (pv 0)) (blkOk_by (N := ["thing", "word", "rule"]) (sc := defScope sIsBook) (by decide +kernel))
        (fun B s H C code fp rb => pg_tup rfl (pgs_cons (pg_name (i := 1) scIsBook.nd rfl (Or.inl rfl)) (pgs_cons (pg_name (i := 2) scIsBook.nd rfl (Or.inl rfl)) pgs_nil))) (fun B s H C code fp rb => pts_nil)
        (fun B s H C code fp rb => pe_and (pe_call GW rb (by rfl) gW kW bW .nil pass0 (pa_cons (pv 1) pa_nil)) (pe_one (pe_call GM rb (by rfl) gM kM bM .nil pass0 (pa_cons (pv 2) pa_nil)))))))) pss_no pss_nil
    case s3 => exact ps_ret (pe_lock (Gx.pe_allG (own := [("rule", 2)]) (g := gName 2) (tt := tYes) (te := tOp (rEqP K) (tCall (spLacking K T) [] E (tCons (tVar 0) (tCons (tVar 2) tNil))) (tLst tNil)) (k := 17) hr scIsBook.nd (by rfl) B.all TB rfl (pi_values (pv 0)) (blkOk_by (N := ["thing", "word", "rule"]) (sc := defScope sIsBook) (by decide +kernel))
        (fun B s H C code fp rb => pg_name (i := 2) scIsBook.nd rfl (Or.inl rfl)) (fun B s H C code fp rb => pts_nil)
        (fun B s H C code fp rb => pe_cmpR (op_eqP rb.units) (pe_call GL rb (by rfl) gL kL bL .nil pass0 (pa_cons (pv 0) (pa_cons (pv 2) pa_nil))) (pe_lst pa_nil) (nomark _))))
    have hlen : kvs.length = bk.length := paired_len pr
    have c1 : decide ((1 : Int) ≤ ((kvs.length : Nat) : Int)) = true := decide_eq_true (by have := ok.some_; omega)
    have c2 : decide (((kvs.length : Nat) : Int) ≤ 8) = true := decide_eq_true (by have := ok.few; omega)
    refine ⟨_, rfl, _, _, _, _, true, rfl, .ty "dict", .base (.dK hk), by rfl, true, rfl, if0 rfl ?_⟩
    refine ⟨_, rfl, a, kvs, rfl, hk, 1, _, rfl, rfl, true, congrArg V.bl c1, if1 rfl ⟨_, 8, rfl, rfl, _, rfl, if0 (by rw [c2]; rfl) ?_⟩⟩
    refine ⟨a, _, hk, trivial, fun od => ?_⟩
    have nt : ∀ ps, HO.dK kvs ≠ .tbl ps := notbl_dK
    have tL := ht.lock (od := od) hk nt
    refine ⟨_, rfl, a, od, kvs, rfl, upd_same, tL P1 hP, fun H2 hT => ?_⟩
    have g2 := Gr.tab tL hP hT
    refine aa_it (walk_bitems (d := a) (o := od) pr) (fun i H' => Gr T (upd H a (.frz od (.dK kvs))) H') g2 (fun i H' _ gr => gr.at tL upd_same notbl_frz) (fun i m x H' H'' hi em gr ⟨p, z, v', mm, e3, hM', e1, np, e2⟩ => ?_) (fun H' gr => ?_)
    · subst e1 e2
      have hmem := List.mem_of_getElem? e3
      have g3 := gr.trans (Gr.new gr.tabs (.tup [.str z, v']) np)
      obtain ⟨wd, om⟩ := ok.good _ hmem
      refine ⟨p, _, rfl, .inl (.inl upd_same), rfl, _, _, rfl, _, _, rfl, rfl, rfl, tyes ?_⟩
      refine ⟨_, rfl, z, rfl, wd, g3.tabs, fun H4 g4 => ⟨true, rfl, if1 rfl ?_⟩⟩
      have g5 := g3.trans g4
      refine ⟨_, rfl, v', mm, rfl, (hM'.kt (KT.dK hk)).gr g5 tL, om, g5.tabs, fun H5 g6 => ⟨true, rfl, ifne (by decide) (nx hi em (g5.trans g6))⟩⟩
    · refine ⟨gr.at tL upd_same notbl_frz, true, rfl, if0 rfl ?_⟩
      have g3 := gr.unlock ht hk nt
      generalize hH3 : upd H' a (HO.dK kvs) = H3 at g3 ⊢
      have hk3 : H3 a = some (.dK kvs) := by rw [← hH3]; exact upd_same
      have pr3 : PrB K H3 kvs bk := paired_mono (fun _ _ r => ⟨r.1, r.2.gr g3 ht⟩) pr
      refine ⟨a, _, hk3, trivial, fun od2 => ?_⟩
      have tL2 := g3.tabs.lock (od := od2) hk3 nt
      obtain ⟨l1, l2⟩ := IsB.lock (od := od2) hk3 pr3
      refine ⟨_, rfl, a, od2, kvs, rfl, upd_same, tL2 P1 hP, fun H4 hT4 => ?_⟩
      have g4 := Gr.tab tL2 hP hT4
      refine aa_it (walk_bvalues (d := a) (o := od2) l2) (fun i H' => Gr T (upd H3 a (.frz od2 (.dK kvs))) H') g4 (fun i H' _ gr => gr.at tL2 upd_same notbl_frz) (fun i m x H' H'' hi em gr ⟨e1, z, mm, e3, hM'⟩ => ?_) (fun H' gr => ?_)
      · subst e1
        have hmem := List.mem_of_getElem? e3
        obtain ⟨wd, om⟩ := ok.good _ hmem
        refine ⟨rfl, tyes ?_⟩
        refine ⟨_, rfl, _, rfl, a, x, bk, mm, rfl, IsB.gr ⟨kvs, .inr ⟨od2, upd_same⟩, l2⟩ gr tL2, hM'.gr gr tL2, ⟨Nat.lt_succ_of_le om.2.1, om.2.2⟩, ok.full _ hmem, gr.tabs, fun H5 p g5 np hp => ?_⟩
        refine ⟨Nat.zero_le _, fun p2 np2 => ?_⟩
        have g6 := g5.trans (Gr.new g5.tabs (.lst []) np2)
        refine ⟨.list [], .list [], .lst (SqL.of (by rw [upd_ne (ne_of_none hp np2)]; exact hp)) .nil, .lst (SqL.of upd_same) .nil, rfl, rfl, by decide, true, rfl, ifne (by decide) (nx hi em (gr.trans g6))⟩
      · exact ⟨gr.at tL2 upd_same notbl_frz, q _ (g3.trans (gr.unlock g3.tabs hk3 nt))⟩
theorem pr_needbook (h : Has K mg "need_book" sNeedBook ["thing"]) (hM : Pr P w K mg base "is_book" ["thing"] (spBook K T (.bl true)) 19) : Pr P w K mg base "need_book" ["thing"] (spBook K T .non) 20 := by
  obtain ⟨f, fd, F, g, b⟩ := h
  obtain ⟨fF, fdF, GF, gF, kF, bF⟩ := hM
  refine ⟨f, fd, F.ok scNeedBook (fun vs H Q E h => ?_) (fun cdv A outer s H vs Q E hr h => ?_), g, F.kp, b⟩
  · obtain ⟨a, bk, rfl, _⟩ := h
    rfl
  · obtain ⟨a, bk, rfl, hB, ok, ht, q⟩ := h
    refine' ⟨_, pss_one (ps_if ?t pss_no pss_nil), ?fin⟩
    case t => exact pt_not (pt_val (pe_call GF hr (by rfl) gF kF bF .nil pass0 (pa_cons (pv 0) pa_nil)))
    exact ⟨_, rfl, a, bk, rfl, hB, ok, ht, fun H1 g1 => ⟨true, rfl, if0 rfl (q H1 g1)⟩⟩
end
end Lw
/-! bare, loose, unfair: the mathematics -/
namespace Hx
open L2 PySem
def bareM (b : Str → Bool) : Mk → Bool
  | .k0 k => decide (k = .unit)
  | .atom _ => false
  | .name z => b z
  | .k1 _ _ => true
  | .k2 .sum x y => bareM b x || bareM b y
  | .k2 .pair x y => bareM b x && bareM b y
def standB (b : Str → Bool) : Mk → List Str
  | .k0 _ => []
  | .atom _ => []
  | .name z => [z]
  | .k1 _ x => standB b x
  | .k2 .sum x y => standB b x ++ standB b y
  | .k2 .pair x y => (if bareM b y = true then standB b x else []) ++ (if bareM b x = true then standB b y else [])
def looseP (b : Str → Bool) : Mk → Bool
  | .k1 _ x => bareM b x
  | _ => false
def looseM (b : Str → Bool) : Mk → Bool
  | .k0 _ => false
  | .atom _ => false
  | .name _ => false
  | .k1 _ x => bareM b x || looseM b x
  | .k2 _ x y => looseM b x || looseM b y
theorem loose_parts (b : Str → Bool) : ∀ m : Mk, m.parts.any (looseP b) = looseM b m
  | .k0 _ => rfl
  | .atom _ => rfl
  | .name _ => rfl
  | .k1 k x => by simp [Mk.parts, looseP, looseM, loose_parts b x]
  | .k2 k x y => by simp [Mk.parts, looseP, looseM, loose_parts b x, loose_parts b y]
theorem stand_len (b : Str → Bool) : ∀ m : Mk, (standB b m).length ≤ m.parts.length
  | .k0 _ => by simp [standB]
  | .atom _ => by simp [standB]
  | .name _ => by simp [standB, Mk.parts]
  | .k1 k x => by have := stand_len b x; simp [standB, Mk.parts]; omega
  | .k2 .sum x y => by have h1 := stand_len b x; have h2 := stand_len b y; simp [standB, Mk.parts]; omega
  | .k2 .pair x y => by
    have h1 := stand_len b x; have h2 := stand_len b y
    simp only [standB, Mk.parts, List.length_append, List.length_cons]
    split <;> split <;> (try simp only [List.length_nil]) <;> omega
theorem stand_names (b : Str → Bool) : ∀ {m : Mk} {z : Str}, z ∈ standB b m → z ∈ m.names
  | .k0 _, z, h => by cases h
  | .atom _, z, h => by cases h
  | .name _, z, h => h
  | .k1 k x, z, h => stand_names b (m := x) h
  | .k2 .sum x y, z, h => List.mem_append.mpr ((List.mem_append.mp h).imp (stand_names b) (stand_names b))
  | .k2 .pair x y, z, h => by
    have h := List.mem_append.mp h
    refine List.mem_append.mpr (h.imp (fun q => ?_) (fun q => ?_))
    · by_cases c : bareM b y = true
      · rw [if_pos c] at q; exact stand_names b q
      · rw [if_neg c] at q; cases q
    · by_cases c : bareM b x = true
      · rw [if_pos c] at q; exact stand_names b q
      · rw [if_neg c] at q; cases q
theorem bare_mono {b b' : Str → Bool} (h : ∀ z, b z = true → b' z = true) : ∀ {m : Mk}, bareM b m = true → bareM b' m = true
  | .k0 _, q => q
  | .atom _, q => q
  | .name z, q => h z q
  | .k1 _ _, _ => rfl
  | .k2 .sum x y, q => by
    simp only [bareM, Bool.or_eq_true] at q ⊢
    exact q.imp (bare_mono h) (bare_mono h)
  | .k2 .pair x y, q => by
    simp only [bareM, Bool.and_eq_true] at q ⊢
    exact ⟨bare_mono h q.1, bare_mono h q.2⟩
/-! the least set of words -/
def stepF (bk : Bk) (b : Str → Bool) : Str → Bool := fun z => match rule bk z with
  | some m => bareM b m
  | none => false
def itF (bk : Bk) : Nat → Str → Bool
  | 0 => fun _ => false
  | k + 1 => stepF bk (itF bk k)
def lf (bk : Bk) : Str → Bool := itF bk (bk.length + 1)
theorem step_mono {bk : Bk} {b b' : Str → Bool} (h : ∀ z, b z = true → b' z = true) (z : Str) (q : stepF bk b z = true) : stepF bk b' z = true := by
  unfold stepF at q ⊢
  cases e : rule bk z with
  | none => rw [e] at q; cases q
  | some m => rw [e] at q; exact bare_mono h q
theorem it_up (bk : Bk) : ∀ k z, itF bk k z = true → itF bk (k + 1) z = true
  | 0, z, h => by cases h
  | k + 1, z, h => step_mono (it_up bk k) z h
theorem count_lt {α : Type} {p q : α → Bool} : ∀ {l : List α}, (∀ x ∈ l, p x = true → q x = true) → (∃ x ∈ l, p x = false ∧ q x = true) → l.countP p < l.countP q
  | [], _, h => by obtain ⟨x, hx, _⟩ := h; cases hx
  | y :: r, h, ⟨x, hx, h1, h2⟩ => by
    have hr : ∀ x ∈ r, p x = true → q x = true := fun x hx => h x (List.mem_cons_of_mem _ hx)
    have le : r.countP p ≤ r.countP q := List.countP_mono_left hr
    rcases List.mem_cons.mp hx with e | hx
    · subst e
      rw [List.countP_cons_of_neg (by simp [h1]), List.countP_cons_of_pos h2]
      omega
    · have lt := count_lt hr ⟨x, hx, h1, h2⟩
      by_cases e : p y = true
      · rw [List.countP_cons_of_pos e, List.countP_cons_of_pos (h y List.mem_cons_self e)]; omega
      · rw [List.countP_cons_of_neg e]
        by_cases e2 : q y = true
        · rw [List.countP_cons_of_pos e2]; omega
        · rw [List.countP_cons_of_neg e2]; omega
theorem it_grow (bk : Bk) : ∀ k, itF bk (k + 1) = itF bk k ∨ k + 1 ≤ bk.keys.countP (itF bk (k + 1)) := by
  have strict : ∀ k, itF bk (k + 1) ≠ itF bk k → bk.keys.countP (itF bk k) < bk.keys.countP (itF bk (k + 1)) := fun k ne => by
    refine count_lt (fun x _ => it_up bk k x) (Classical.byContradiction fun no => ne (funext fun z => ?_))
    cases e1 : itF bk (k + 1) z with
    | false =>
      cases e2 : itF bk k z with
      | false => rfl
      | true => rw [it_up bk k z e2] at e1; cases e1
    | true =>
      cases e2 : itF bk k z with
      | true => rfl
      | false =>
        refine absurd ⟨z, Classical.byContradiction fun nz => ?_, e2, e1⟩ no
        have : stepF bk (itF bk k) z = false := by unfold stepF; rw [rule_none nz]
        rw [show itF bk (k + 1) z = stepF bk (itF bk k) z from rfl, this] at e1
        cases e1
  intro k
  induction k with
  | zero =>
    by_cases e : itF bk 1 = itF bk 0
    · exact .inl e
    · have := strict 0 e
      exact .inr (by omega)
  | succ k ih =>
    by_cases e : itF bk (k + 2) = itF bk (k + 1)
    · exact .inl e
    · have := strict (k + 1) e
      rcases ih with ih | ih
      · exact absurd (show stepF bk (itF bk (k + 1)) = stepF bk (itF bk k) by rw [ih]) e
      · exact .inr (by omega)
theorem lf_fix (bk : Bk) : stepF bk (lf bk) = lf bk := by
  rcases it_grow bk bk.length with h | h
  · show stepF bk (itF bk (bk.length + 1)) = stepF bk (itF bk bk.length)
    rw [h]
  · have : bk.keys.countP (itF bk (bk.length + 1)) ≤ bk.keys.length := List.countP_le_length
    rw [Bk.keys, List.length_map] at this
    exact absurd h (by unfold Bk.keys; omega)
theorem lf_least {bk : Bk} {b : Str → Bool} (h : ∀ z, stepF bk b z = true → b z = true) : ∀ z, lf bk z = true → b z = true := by
  have : ∀ k z, itF bk k z = true → b z = true := fun k => by
    induction k with
    | zero => exact fun z q => by cases q
    | succ k ih => exact fun z q => h z (step_mono ih z q)
  exact this _
theorem lf_eq {bk : Bk} {b : Str → Bool} (h : ∀ z, stepF bk b z = true → b z = true) (h2 : ∀ z, b z = true → lf bk z = true) : b = lf bk := funext fun z => Bool.eq_iff_iff.mpr ⟨h2 z, lf_least h z⟩
/-! rings -/
inductive Rch (e : Str → List Str) (x : Str) : Str → Prop
  | one {y : Str} : y ∈ e x → Rch e x y
  | more {y z : Str} : Rch e x y → z ∈ e y → Rch e x z
theorem rch_iff {e : Str → List Str} {x : Str} {S : List Str} (h1 : ∀ y ∈ e x, y ∈ S) (h2 : ∀ s ∈ S, ∀ y ∈ e s, y ∈ S) (h3 : ∀ s ∈ S, Rch e x s) (y : Str) : y ∈ S ↔ Rch e x y :=
  ⟨h3 y, fun h => by
    induction h with
    | one h => exact h1 _ h
    | more _ h ih => exact h2 _ ih _ h⟩
noncomputable def ringB (e : Str → List Str) (x : Str) : Bool := @decide (Rch e x x) (Classical.propDecidable _)
/-- the words that a rule's word leads to -/
def leadsB (bk : Bk) (z : Str) : List Str := match rule bk z with
  | some m => standB (lf bk) m
  | none => []
noncomputable def badB (bk : Bk) (z : Str) : Bool := (match rule bk z with
  | some m => looseM (lf bk) m
  | none => false) || ringB (leadsB bk) z
end Hx
namespace Lw
open PySem PySem.Spec PyProof.Rows L2 Hx
abbrev sBare : Stmt := topS 36
abbrev sBareWords : Stmt := topS 37
abbrev sStand : Stmt := topS 38
abbrev sHolds : Stmt := topS 39
abbrev sRing : Stmt := topS 40
abbrev sUnfairWords : Stmt := topS 41
theorem scBare : FnScope ["bare", "making", "kind"] ["bare", "making"] (defScope sBare) := ⟨rfl, rfl, rfl, by decide +kernel, rfl, by decide +kernel, by decide +kernel⟩
theorem scBareWords : FnScope ["book", "bare", "joined", "word", "rule"] ["book"] (defScope sBareWords) := ⟨rfl, rfl, rfl, by decide +kernel, rfl, by decide +kernel, by decide +kernel⟩
theorem scStand : FnScope ["bare", "making", "kind", "first", "second"] ["bare", "making"] (defScope sStand) := ⟨rfl, rfl, rfl, by decide +kernel, rfl, by decide +kernel, by decide +kernel⟩
theorem scHolds : FnScope ["bare", "making", "part"] ["bare", "making"] (defScope sHolds) := ⟨rfl, rfl, rfl, by decide +kernel, rfl, by decide +kernel, by decide +kernel⟩
/-- a dict of words to True -/
abbrev trues (ks : List Str) : List (Key × V) := ks.map fun z => (Sum.inr z, V.bl true)
abbrev inB (ks : List Str) : Str → Bool := fun z => decide (z ∈ ks)
theorem val_trues (ks : List Str) (z : Str) : (valV (trues ks) (Sum.inr z : Key)).isSome = inB ks z := by
  induction ks with
  | nil => simp [valV, trues, inB]
  | cons y r ih =>
    by_cases h : y = z
    · subst h; simp [valV, trues, inB]
    · have e : valV (trues (y :: r)) (Sum.inr z : Key) = valV (trues r) (Sum.inr z) := by
        unfold valV trues
        rw [List.map_cons, List.find?_cons_of_neg (by simpa using fun q : (Sum.inr y : Key) = Sum.inr z => h (Sum.inr.inj q))]
      rw [e, ih]
      simp [inB, Ne.symm h]
def BD (H : Hp) (d : Addr) (ks : List Str) : Prop := Rd H d (.dK (trues ks))
theorem BD.get {H : Hp} {d : Addr} {ks : List Str} (h : BD H d ks) (z : Str) : ∃ o, DGet H d (.str z) o ∧ o.isSome = inB ks z := ⟨_, .inl ⟨_, .inr z, h, rfl, rfl⟩, val_trues ks z⟩
theorem BD.gr {T : List Addr} {H H' : Hp} {d : Addr} {ks : List Str} (h : BD H d ks) (g : Gr T H H') (t : TabsG T H) : BD H' d ks := rd_gr g t h
section
variable {P : Program} {w : World} {K : PySem.W.Frag} {mg : Str → Option Value} {base : Heap} {T : List Addr}
def spBare (K : PySem.W.Frag) (T : List Addr) (n : Nat) : Sp := fun vs H Q _ => ∃ (d : Addr) (v : V) (ks : List Str) (m : Hx.Mk), vs = [.ref d, v] ∧ BD H d ks ∧ IsM K H v m ∧ m.depth < n ∧ TabsG T H ∧ ∀ H', Gr T H H' → Q (.bl (bareM (inB ks) m)) H'
theorem ok_bareS {f : Addr} {fd : FuncData} {d L : Nat} (F : Fun K "is_bare" "is_bare" sBare f fd) (G : FnOk P w K mg base CX0 L f fd ["bare", "making"] (spBare K T d)) (bF : Binds K fd ["bare", "making"] []) (gF : mg "is_bare" = some (.ref f)) :
    FnOk P w K mg base CX0 (L + 1) f fd ["bare", "making"] (spBare K T (d + 1)) := by
  refine F.ok scBare (fun vs H Q E h => ?_) (fun cdv A outer s H vs Q E hr h => ?_)
  · obtain ⟨d, v, ks, m, rfl, _⟩ := h
    rfl
  · obtain ⟨b, v, ks, m, rfl, hB, hM, hd, ht, q⟩ := h
    refine' ⟨_, pss_cons ?s1 (pss_cons ?s2 (pss_cons ?s3 (pss_cons ?s4 (pss_one ?s5)))), ?fin⟩
    case s1 => exact ps_set (i := 2) scBare.nd rfl (.inl rfl) (pe_ix ix_tup (pv 1) pe_int (fun _ _ => rfl))
    case s2 => exact ps_if (pt_cmpR op_eq (pv 2) pe_str (nomark _)) (pss_one (ps_ret (pe_cmp (pc_din (u1 hr.units) (pe_ix ix_tup (pv 1) pe_int (fun _ _ => rfl)) (pv 0))))) pss_nil
    case s3 => exact ps_if (pt_cmpR op_eq (pv 2) pe_str (nomark _)) (pss_one (ps_ret (pe_or (pe_call G hr (by rfl) gF F.kp bF .nil pass0 (pa_cons (pv 0) (pa_cons (pe_ix ix_tup (pv 1) pe_int (fun _ _ => rfl)) pa_nil))) (pe_one (pe_call G hr (by rfl) gF F.kp bF .nil pass0 (pa_cons (pv 0) (pa_cons (pe_ix ix_tup (pv 1) pe_int (fun _ _ => rfl)) pa_nil))))))) pss_nil
    case s4 => exact ps_if (pt_cmpR op_eq (pv 2) pe_str (nomark _)) (pss_one (ps_ret (pe_and (pe_call G hr (by rfl) gF F.kp bF .nil pass0 (pa_cons (pv 0) (pa_cons (pe_ix ix_tup (pv 1) pe_int (fun _ _ => rfl)) pa_nil))) (pe_one (pe_call G hr (by rfl) gF F.kp bF .nil pass0 (pa_cons (pv 0) (pa_cons (pe_ix ix_tup (pv 1) pe_int (fun _ _ => rfl)) pa_nil))))))) pss_nil
    case s5 => exact ps_ret (pe_cmpR op_in_seq (pv 2) (pe_tup (pa_cons pe_str (pa_cons pe_str (pa_cons pe_str (pa_cons pe_str pa_nil))))) rfl)
    refine Classical.byContradiction fun hG => ?_
    have last : ∀ (a : Addr) (tag : Str) (rest : List V), v = .ref a → SqT K H a (.str tag :: rest) → tag ≠ "name" → tag ≠ "sum" → tag ≠ "pair" → inV (V.str tag) [.str "unit", .str "row", .str "bag", .str "set"] = bareM (inB ks) m → False := by
      intro a tag rest ev hT n1 n2 n3 hin
      subst ev
      refine hG ⟨_, rfl, a, _, 0, _, rfl, rfl, hT, atI_nat (j := 0) rfl, ?_⟩
      refine ⟨_, rfl, rfl, _, rfl, if0 (strne n1) ⟨_, rfl, rfl, _, rfl, if0 (strne n2) ⟨_, rfl, rfl, _, rfl, if0 (strne n3) ⟨_, rfl, by show 4 ≤ sizeLine; decide, fun p np => ?_⟩⟩⟩⟩
      refine ⟨p, _, rfl, .inr (.inl (.inl upd_same)), rfl, rfl, ?_⟩
      show Q (V.bl (inV (V.str tag) [.str "unit", .str "row", .str "bag", .str "set"])) _
      rw [hin]
      exact q _ (Gr.new ht _ np)
    cases hM with
    | @k0 a k hT => cases k with
      | none => exact last a _ _ rfl hT (by decide) (by decide) (by decide) (Eq.trans (b := false) (by decide) rfl)
      | unit => exact last a _ _ rfl hT (by decide) (by decide) (by decide) (Eq.trans (b := true) (by decide) rfl)
    | @atom a c hT => exact last a _ _ rfl hT (by decide) (by decide) (by decide) (Eq.trans (b := false) (by decide) rfl)
    | @k1 a k _ _ hT _ => cases k with
      | row => exact last a _ _ rfl hT (by decide) (by decide) (by decide) (Eq.trans (b := true) (by decide) rfl)
      | bag => exact last a _ _ rfl hT (by decide) (by decide) (by decide) (Eq.trans (b := true) (by decide) rfl)
      | set => exact last a _ _ rfl hT (by decide) (by decide) (by decide) (Eq.trans (b := true) (by decide) rfl)
    | @name a z hT =>
      obtain ⟨o, dg, e⟩ := hB.get z
      refine hG ⟨_, rfl, a, _, 0, _, rfl, rfl, hT, atI_nat (j := 0) rfl, ?_⟩
      refine ⟨_, rfl, rfl, _, rfl, if1 rfl ⟨_, rfl, a, _, 1, _, rfl, rfl, hT, atI_nat (j := 1) rfl, _, rfl, b, o, rfl, dg, ?_⟩⟩
      rw [e]
      exact q _ (Gr.refl ht)
    | @k2 a k u1 u2 m1 m2 hT h1 h2 =>
      simp only [Hx.Mk.depth] at hd
      cases k with
      | sum =>
        refine hG ⟨_, rfl, a, _, 0, _, rfl, rfl, hT, atI_nat (j := 0) rfl, ?_⟩
        refine ⟨_, rfl, rfl, _, rfl, if0 (strne (by decide)) ⟨_, rfl, rfl, _, rfl, if1 rfl ?_⟩⟩
        refine ⟨_, rfl, _, rfl, a, _, 1, _, rfl, rfl, hT, atI_nat (j := 1) rfl, b, u1, ks, m1, rfl, hB, h1, by omega, ht, fun H1 g1 => ⟨_, rfl, ?_⟩⟩
        cases e1 : bareM (inB ks) m1 with
        | true => exact if1 rfl (by have z := q H1 g1; simp only [bareM, e1, Bool.true_or] at z; exact z)
        | false =>
          refine if0 rfl ⟨_, rfl, _, rfl, a, _, 2, _, rfl, rfl, g1.seqT ht hT, atI_nat (j := 2) rfl, b, u2, ks, m2, rfl, hB.gr g1 ht, h2.gr g1 ht, by omega, g1.tabs, fun H2 g2 => ?_⟩
          have z := q H2 (g1.trans g2); simp only [bareM, e1, Bool.false_or] at z; exact z
      | pair =>
        refine hG ⟨_, rfl, a, _, 0, _, rfl, rfl, hT, atI_nat (j := 0) rfl, ?_⟩
        refine ⟨_, rfl, rfl, _, rfl, if0 (strne (by decide)) ⟨_, rfl, rfl, _, rfl, if0 (strne (by decide)) ⟨_, rfl, rfl, _, rfl, if1 rfl ?_⟩⟩⟩
        refine ⟨_, rfl, _, rfl, a, _, 1, _, rfl, rfl, hT, atI_nat (j := 1) rfl, b, u1, ks, m1, rfl, hB, h1, by omega, ht, fun H1 g1 => ⟨_, rfl, ?_⟩⟩
        cases e1 : bareM (inB ks) m1 with
        | false => exact if0 rfl (by have z := q H1 g1; simp only [bareM, e1, Bool.false_and] at z; exact z)
        | true =>
          refine if1 rfl ⟨_, rfl, _, rfl, a, _, 2, _, rfl, rfl, g1.seqT ht hT, atI_nat (j := 2) rfl, b, u2, ks, m2, rfl, hB.gr g1 ht, h2.gr g1 ht, by omega, g1.tabs, fun H2 g2 => ?_⟩
          have z := q H2 (g1.trans g2); simp only [bareM, e1, Bool.true_and] at z; exact z
theorem bare_zero {f : Addr} {fd : FuncData} : FnOk P w K mg base CX0 0 f fd ["bare", "making"] (spBare K T 0) := by
  have no : ∀ vs H Q E, ¬ spBare K T 0 vs H Q E := fun vs H Q E ⟨_, _, _, _, _, _, _, h, _⟩ => by omega
  exact ⟨fun vs H Q E h => absurd h (no vs H Q E), fun A outer s H args us vs Q E _ _ _ _ h => absurd h (no vs H Q E)⟩
theorem pr_bare (h : Has K mg "is_bare" sBare ["bare", "making"]) : Pr P w K mg base "is_bare" ["bare", "making"] (spBare K T 7) 7 := by
  obtain ⟨f, fd, F, g, b⟩ := h
  have all : ∀ d : Nat, FnOk P w K mg base CX0 d f fd ["bare", "making"] (spBare K T d) := by
    intro d
    induction d with
    | zero => exact bare_zero
    | succ d ih => exact ok_bareS F ih b g
  exact ⟨f, fd, all 7, g, F.kp, b⟩
/-! ### standing_bare -/
def spStand (K : PySem.W.Frag) (T : List Addr) (n : Nat) : Sp := fun vs H Q _ => ∃ (d : Addr) (v : V) (ks : List Str) (m : Hx.Mk), vs = [.ref d, v] ∧ BD H d ks ∧ IsM K H v m ∧ m.depth < n ∧ m.depth < 7 ∧ m.parts.length ≤ 40 ∧ TabsG T H ∧
  ∀ H' p, Gr T H H' → H p = none → H' p = some (.lst ((standB (inB ks) m).map V.str)) → Q (.ref p) H'
theorem ok_standS {f fI : Addr} {fd fdI : FuncData} {d L : Nat} (F : Fun K "standing_bare" "standing_bare" sStand f fd) (GI : FnOk P w K mg base CX0 L fI fdI ["bare", "making"] (spBare K T 7)) (bI : Binds K fdI ["bare", "making"] []) (gI : mg "is_bare" = some (.ref fI)) (kI : PySem.W.keepIn K (.ref fI) = true)
    (G : FnOk P w K mg base CX0 L f fd ["bare", "making"] (spStand K T d)) (bF : Binds K fd ["bare", "making"] []) (gF : mg "standing_bare" = some (.ref f)) :
    FnOk P w K mg base CX0 (L + 1) f fd ["bare", "making"] (spStand K T (d + 1)) := by
  refine F.ok scStand (fun vs H Q E h => ?_) (fun cdv A outer s H vs Q E hr h => ?_)
  · obtain ⟨d, v, ks, m, rfl, _⟩ := h
    rfl
  · obtain ⟨b, v, ks, m, rfl, hB, hM, hd, h7, h40, ht, q⟩ := h
    refine' ⟨_, pss_cons ?s1 (pss_cons ?s2 (pss_cons ?s3 (pss_cons ?s4 (pss_cons ?s5 (pss_one ?s6))))), ?fin⟩
    case s1 => exact ps_set (i := 2) scStand.nd rfl (.inl rfl) (pe_ix ix_tup (pv 1) pe_int (fun _ _ => rfl))
    case s2 => exact ps_if (pt_cmpR op_eq (pv 2) pe_str (nomark _)) (pss_one (ps_ret (pe_lst (pa_cons (pe_ix ix_tup (pv 1) pe_int (fun _ _ => rfl)) pa_nil)))) pss_nil
    case s3 => exact ps_if (pt_cmpR op_eq (pv 2) pe_str (nomark _)) (pss_one (ps_ret (pe_op op_cat (pe_call G hr (by rfl) gF F.kp bF .nil pass0 (pa_cons (pv 0) (pa_cons (pe_ix ix_tup (pv 1) pe_int (fun _ _ => rfl)) pa_nil))) (pe_call G hr (by rfl) gF F.kp bF .nil pass0 (pa_cons (pv 0) (pa_cons (pe_ix ix_tup (pv 1) pe_int (fun _ _ => rfl)) pa_nil)))))) pss_nil
    case s4 =>
      refine' ps_if (pt_cmpR op_eq (pv 2) pe_str (nomark _)) (pss_cons ?a (pss_cons ?b (pss_one (ps_ret (pe_op op_cat (pv 3) (pv 4)))))) pss_nil
      case a => exact ps_set (i := 3) scStand.nd rfl (.inl rfl) (pe_ifExp (pt_val (pe_call GI hr (by rfl) gI kI bI .nil pass0 (pa_cons (pv 0) (pa_cons (pe_ix ix_tup (pv 1) pe_int (fun _ _ => rfl)) pa_nil)))) (pe_call G hr (by rfl) gF F.kp bF .nil pass0 (pa_cons (pv 0) (pa_cons (pe_ix ix_tup (pv 1) pe_int (fun _ _ => rfl)) pa_nil))) (pe_lst pa_nil))
      case b => exact ps_set (i := 4) scStand.nd rfl (.inl rfl) (pe_ifExp (pt_val (pe_call GI hr (by rfl) gI kI bI .nil pass0 (pa_cons (pv 0) (pa_cons (pe_ix ix_tup (pv 1) pe_int (fun _ _ => rfl)) pa_nil)))) (pe_call G hr (by rfl) gF F.kp bF .nil pass0 (pa_cons (pv 0) (pa_cons (pe_ix ix_tup (pv 1) pe_int (fun _ _ => rfl)) pa_nil))) (pe_lst pa_nil))
    case s5 => exact ps_if (pt_cmpR op_in_seq (pv 2) (pe_tup (pa_cons pe_str (pa_cons pe_str (pa_cons pe_str pa_nil)))) rfl) (pss_one (ps_ret (pe_call G hr (by rfl) gF F.kp bF .nil pass0 (pa_cons (pv 0) (pa_cons (pe_ix ix_tup (pv 1) pe_int (fun _ _ => rfl)) pa_nil))))) pss_nil
    case s6 => exact ps_ret (pe_lst pa_nil)
    have l40 : ∀ x : Hx.Mk, x.parts.length ≤ 40 → ((standB (inB ks) x).map V.str).length ≤ 40 := fun x hx => by
      rw [List.length_map]; exact Nat.le_trans (stand_len _ x) hx
    have two : ∀ {i j : Nat}, i ≤ 40 → j ≤ 40 → i + j ≤ sizeLine := fun h1 h2 => Nat.le_trans (Nat.add_le_add h1 h2) (by decide)
    refine Classical.byContradiction fun hG => ?_
    have other : ∀ (a : Addr) (tag : Str) (rest : List V), v = .ref a → SqT K H a (.str tag :: rest) → tag ≠ "name" → tag ≠ "sum" → tag ≠ "pair" → inV (V.str tag) [.str "row", .str "bag", .str "set"] = false → standB (inB ks) m = [] → False := by
      intro a tag rest ev hT n1 n2 n3 hin hst
      subst ev
      refine hG ⟨_, rfl, a, _, 0, _, rfl, rfl, hT, atI_nat (j := 0) rfl, ?_⟩
      refine ⟨_, rfl, rfl, _, rfl, if0 (strne n1) ⟨_, rfl, rfl, _, rfl, if0 (strne n2) ⟨_, rfl, rfl, _, rfl, if0 (strne n3) ⟨_, rfl, by show 3 ≤ sizeLine; decide, fun p np => ?_⟩⟩⟩⟩
      have g1 := Gr.new ht (.tup [.str "row", .str "bag", .str "set"]) np
      refine ⟨p, _, rfl, .inr (.inl (.inl upd_same)), rfl, rfl, _, rfl, if0 hin ⟨Nat.zero_le _, fun p2 np2 => ?_⟩⟩
      exact q _ p2 (g1.trans (Gr.new g1.tabs _ np2)) (Gr.free ht g1 np2) (by rw [hst]; exact upd_same)
    have one : ∀ (a : Addr) (k : K1) (u : V) (x : Hx.Mk), v = .ref a → m = .k1 k x → SqT K H a [.str k.tag, u] → IsM K H u x → False := by
      intro a k u x ev em hT hx
      subst ev em
      simp only [Hx.Mk.depth] at hd h7
      simp only [Hx.Mk.parts, List.length_cons] at h40
      have hin : inV (V.str k.tag) [.str "row", .str "bag", .str "set"] = true := by cases k <;> decide
      have nk : k.tag ≠ "name" ∧ k.tag ≠ "sum" ∧ k.tag ≠ "pair" := by cases k <;> exact ⟨by decide, by decide, by decide⟩
      refine hG ⟨_, rfl, a, _, 0, _, rfl, rfl, hT, atI_nat (j := 0) rfl, ?_⟩
      refine ⟨_, rfl, rfl, _, rfl, if0 (strne nk.1) ⟨_, rfl, rfl, _, rfl, if0 (strne nk.2.1) ⟨_, rfl, rfl, _, rfl, if0 (strne nk.2.2) ⟨_, rfl, by show 3 ≤ sizeLine; decide, fun p np => ?_⟩⟩⟩⟩
      have g1 := Gr.new ht (.tup [.str "row", .str "bag", .str "set"]) np
      refine ⟨p, _, rfl, .inr (.inl (.inl upd_same)), rfl, rfl, _, rfl, if1 hin ⟨_, rfl, _, rfl, a, _, 1, _, rfl, rfl, g1.seqT ht hT, atI_nat (j := 1) rfl, b, u, ks, x, rfl, hB.gr g1 ht, hx.gr g1 ht, by omega, by omega, by omega, g1.tabs, fun H2 p2 g2 np2 e2 => ?_⟩⟩
      exact q H2 p2 (g1.trans g2) (Gr.free ht g1 np2) e2
    cases hM with
    | @k0 a k hT => exact other a _ _ rfl hT (by cases k <;> decide) (by cases k <;> decide) (by cases k <;> decide) (by cases k <;> decide) rfl
    | @atom a c hT => exact other a _ _ rfl hT (by decide) (by decide) (by decide) (by decide) rfl
    | @k1 a k u x hT hx => exact one a k u x rfl rfl hT hx
    | @name a z hT =>
      refine hG ⟨_, rfl, a, _, 0, _, rfl, rfl, hT, atI_nat (j := 0) rfl, ?_⟩
      refine ⟨_, rfl, rfl, _, rfl, if1 rfl ⟨_, rfl, a, _, 1, _, rfl, rfl, hT, atI_nat (j := 1) rfl, by show 1 ≤ sizeLine; decide, fun p np => ?_⟩⟩
      exact q _ p (Gr.new ht _ np) np upd_same
    | @k2 a k x1 x2 m1 m2 hT h1 h2 =>
      simp only [Hx.Mk.depth] at hd h7
      simp only [Hx.Mk.parts, List.length_cons, List.length_append] at h40
      cases k with
      | sum =>
        refine hG ⟨_, rfl, a, _, 0, _, rfl, rfl, hT, atI_nat (j := 0) rfl, ?_⟩
        refine ⟨_, rfl, rfl, _, rfl, if0 (strne (by decide)) ⟨_, rfl, rfl, _, rfl, if1 rfl ?_⟩⟩
        refine ⟨_, rfl, _, rfl, a, _, 1, _, rfl, rfl, hT, atI_nat (j := 1) rfl, b, x1, ks, m1, rfl, hB, h1, by omega, by omega, by omega, ht, fun H1 p1 g1 np1 e1 => ?_⟩
        refine ⟨_, rfl, _, rfl, a, _, 2, _, rfl, rfl, g1.seqT ht hT, atI_nat (j := 2) rfl, b, x2, ks, m2, rfl, hB.gr g1 ht, h2.gr g1 ht, by omega, by omega, by omega, g1.tabs, fun H2 p2 g2 np2 e2 => ?_⟩
        refine ⟨p1, p2, _, _, rfl, rfl, g2.at g1.tabs e1 notbl_lst, e2, two (l40 m1 (by omega)) (l40 m2 (by omega)), fun p np => ?_⟩
        refine q _ p ((g1.trans g2).trans (Gr.new g2.tabs _ np)) (Gr.free ht (g1.trans g2) np) ?_
        rw [upd_same, ← List.map_append]; rfl
      | pair =>
        refine hG ⟨_, rfl, a, _, 0, _, rfl, rfl, hT, atI_nat (j := 0) rfl, ?_⟩
        refine ⟨_, rfl, rfl, _, rfl, if0 (strne (by decide)) ⟨_, rfl, rfl, _, rfl, if0 (strne (by decide)) ⟨_, rfl, rfl, _, rfl, if1 rfl ?_⟩⟩⟩
        refine ⟨_, rfl, _, rfl, a, _, 2, _, rfl, rfl, hT, atI_nat (j := 2) rfl, b, x2, ks, m2, rfl, hB, h2, by omega, ht, fun H1 g1 => ⟨_, rfl, ?_⟩⟩
        cases e2 : bareM (inB ks) m2 with
        | true =>
          refine if1 rfl ⟨_, rfl, _, rfl, a, _, 1, _, rfl, rfl, g1.seqT ht hT, atI_nat (j := 1) rfl, b, x1, ks, m1, rfl, hB.gr g1 ht, h1.gr g1 ht, by omega, by omega, by omega, g1.tabs, fun H2 p1 g2 np1 ee1 => ?_⟩
          have gg := g1.trans g2
          refine ⟨_, rfl, _, rfl, a, _, 1, _, rfl, rfl, gg.seqT ht hT, atI_nat (j := 1) rfl, b, x1, ks, m1, rfl, hB.gr gg ht, h1.gr gg ht, by omega, gg.tabs, fun H3 g3 => ⟨_, rfl, ?_⟩⟩
          have g4 := gg.trans g3
          cases e1 : bareM (inB ks) m1 with
          | true =>
            refine if1 rfl ⟨_, rfl, _, rfl, a, _, 2, _, rfl, rfl, g4.seqT ht hT, atI_nat (j := 2) rfl, b, x2, ks, m2, rfl, hB.gr g4 ht, h2.gr g4 ht, by omega, by omega, by omega, g4.tabs, fun H5 p2 g5 np2 ee2 => ?_⟩
            refine ⟨_, rfl, _, rfl, p1, p2, _, _, rfl, rfl, (g3.trans g5).at gg.tabs ee1 notbl_lst, ee2, two (l40 m1 (by omega)) (l40 m2 (by omega)), fun p np => ?_⟩
            refine q _ p ((g4.trans g5).trans (Gr.new g5.tabs _ np)) (Gr.free ht (g4.trans g5) np) ?_
            rw [upd_same]; simp [standB, e1, e2]
          | false =>
            refine if0 rfl ⟨Nat.zero_le _, fun p2 np2 => ?_⟩
            have g5 := Gr.new g4.tabs (.lst []) np2
            refine ⟨_, rfl, _, rfl, p1, p2, _, _, rfl, rfl, (g3.trans g5).at gg.tabs ee1 notbl_lst, upd_same, two (l40 m1 (by omega)) (Nat.zero_le _), fun p np => ?_⟩
            refine q _ p ((g4.trans g5).trans (Gr.new g5.tabs _ np)) (Gr.free ht (g4.trans g5) np) ?_
            rw [upd_same]; simp [standB, e1, e2]
        | false =>
          refine if0 rfl ⟨Nat.zero_le _, fun p1 np1 => ?_⟩
          have gg := g1.trans (Gr.new g1.tabs (.lst []) np1)
          refine ⟨_, rfl, _, rfl, a, _, 1, _, rfl, rfl, gg.seqT ht hT, atI_nat (j := 1) rfl, b, x1, ks, m1, rfl, hB.gr gg ht, h1.gr gg ht, by omega, gg.tabs, fun H3 g3 => ⟨_, rfl, ?_⟩⟩
          have g4 := gg.trans g3
          cases e1 : bareM (inB ks) m1 with
          | true =>
            refine if1 rfl ⟨_, rfl, _, rfl, a, _, 2, _, rfl, rfl, g4.seqT ht hT, atI_nat (j := 2) rfl, b, x2, ks, m2, rfl, hB.gr g4 ht, h2.gr g4 ht, by omega, by omega, by omega, g4.tabs, fun H5 p2 g5 np2 ee2 => ?_⟩
            refine ⟨_, rfl, _, rfl, p1, p2, _, _, rfl, rfl, (g3.trans g5).at gg.tabs upd_same notbl_lst, ee2, two (Nat.zero_le _) (l40 m2 (by omega)), fun p np => ?_⟩
            refine q _ p ((g4.trans g5).trans (Gr.new g5.tabs _ np)) (Gr.free ht (g4.trans g5) np) ?_
            rw [upd_same]; simp [standB, e1, e2]
          | false =>
            refine if0 rfl ⟨Nat.zero_le _, fun p2 np2 => ?_⟩
            have g5 := Gr.new g4.tabs (.lst []) np2
            refine ⟨_, rfl, _, rfl, p1, p2, _, _, rfl, rfl, (g3.trans g5).at gg.tabs upd_same notbl_lst, upd_same, two (Nat.zero_le _) (Nat.zero_le _), fun p np => ?_⟩
            refine q _ p ((g4.trans g5).trans (Gr.new g5.tabs _ np)) (Gr.free ht (g4.trans g5) np) ?_
            rw [upd_same]; simp [standB, e1, e2]
theorem stand_zero {f : Addr} {fd : FuncData} : FnOk P w K mg base CX0 0 f fd ["bare", "making"] (spStand K T 0) := by
  have no : ∀ vs H Q E, ¬ spStand K T 0 vs H Q E := fun vs H Q E ⟨_, _, _, _, _, _, _, h, _⟩ => by omega
  exact ⟨fun vs H Q E h => absurd h (no vs H Q E), fun A outer s H args us vs Q E _ _ _ _ h => absurd h (no vs H Q E)⟩
theorem pr_stand (h : Has K mg "standing_bare" sStand ["bare", "making"]) (hI : Pr P w K mg base "is_bare" ["bare", "making"] (spBare K T 7) 7) : Pr P w K mg base "standing_bare" ["bare", "making"] (spStand K T 7) 14 := by
  obtain ⟨f, fd, F, g, b⟩ := h
  obtain ⟨fI, fdI, GI, gI, kI, bI⟩ := hI
  have all : ∀ d : Nat, FnOk P w K mg base CX0 (7 + d) f fd ["bare", "making"] (spStand K T d) := by
    intro d
    induction d with
    | zero => exact stand_zero.mono (by omega)
    | succ d ih => exact ok_standS F (GI.mono (Nat.le_add_right _ _)) bI gI kI ih b g
  exact ⟨f, fd, all 7, g, F.kp, b⟩
end
end Lw
namespace Lw
open PySem PySem.Spec PyProof.Rows L2 Hx
section
variable {P : Program} {w : World} {K : PySem.W.Frag} {mg : Str → Option Value} {base : Heap} {T : List Addr}
def spHolds (K : PySem.W.Frag) (T : List Addr) : Sp := fun vs H Q _ => ∃ (d : Addr) (v : V) (ks : List Str) (m : Hx.Mk), vs = [.ref d, v] ∧ BD H d ks ∧ IsM K H v m ∧ okM' m ∧ TabsG T H ∧ ∀ H', Gr T H H' → Q (.bl (looseM (inB ks) m)) H'
theorem parts_depth : ∀ {m a : Hx.Mk}, a ∈ m.parts → a.depth ≤ m.depth
  | .k0 _, a, h => by rw [List.mem_singleton.mp h]; exact Nat.le_refl _
  | .atom _, a, h => by rw [List.mem_singleton.mp h]; exact Nat.le_refl _
  | .name _, a, h => by rw [List.mem_singleton.mp h]; exact Nat.le_refl _
  | .k1 k x, a, h => by
    rcases List.mem_cons.mp h with h | h
    · rw [h]; exact Nat.le_refl _
    · have := parts_depth (m := x) h; simp only [Hx.Mk.depth]; omega
  | .k2 k x y, a, h => by
    rcases List.mem_cons.mp h with h | h
    · rw [h]; exact Nat.le_refl _
    · rcases List.mem_append.mp h with h | h
      · have := parts_depth (m := x) h; simp only [Hx.Mk.depth]; omega
      · have := parts_depth (m := y) h; simp only [Hx.Mk.depth]; omega
theorem any_take {α : Type} {p : α → Bool} {l : List α} {i : Nat} {a : α} (h : (l.take i).any p = false) (e : l[i]? = some a) (ha : p a = false) : (l.take (i + 1)).any p = false := by
  rw [List.take_add_one, e, List.any_append, h]
  simp [ha]
theorem pr_holds (h : HasT K mg base T "holds_bare" sHolds ["bare", "making"]) (hP : Pr P w K mg base "parts_within" ["making"] (spParts K T 7) 8) (hI : Pr P w K mg base "is_bare" ["bare", "making"] (spBare K T 7) 7) (B : Bn mg) :
    Pr P w K mg base "holds_bare" ["bare", "making"] (spHolds K T) 10 := by
  obtain ⟨f, c, P1, fd, F, g, b, TB, hP1⟩ := h
  obtain ⟨fP, fdP, GP, gP, kP, bP⟩ := hP.mono (k := 9) (by decide)
  obtain ⟨fI, fdI, GI, gI, kI, bI⟩ := hI.mono (k := 8) (by decide)
  refine ⟨f, fd, F.ok scHolds (fun vs H Q E h => ?_) (fun A outer s H vs Q E hr h => ?_), g, F.kp, b⟩
  · obtain ⟨d, v, ks, m, rfl, _⟩ := h
    rfl
  · obtain ⟨bd, v, ks, m, rfl, hB, hM, hm, ht, q⟩ := h
    refine' ⟨_, pss_one ?s1, ?fin⟩
    case s1 => exact ps_ret (Gx.pe_anyG (own := [("part", 2)]) (g := gName 2) (tt := tYes) (te := tAndV (tOp (rIn K false) (tOp (rIxT K) (tVar 2) (tC (.int 0))) (tTup (tCons (tC (.str "row")) (tCons (tC (.str "bag")) (tCons (tC (.str "set")) tNil))))) (tCall (spBare K T 7) [] E (tCons (tVar 0) (tCons (tOp (rIxT K) (tVar 2) (tC (.int 1))) tNil)))) (k := 8) hr scHolds.nd (by rfl) B.any TB rfl (pi_list (pe_call GP hr (by rfl) gP kP bP .nil pass0 (pa_cons (pv 1) pa_nil))) (blkOk_by (N := ["bare", "making", "part"]) (sc := defScope sHolds) (by decide +kernel))
        (fun B s H C code fp rb => pg_name (i := 2) scHolds.nd rfl (Or.inl rfl)) (fun B s H C code fp rb => pts_nil)
        (fun B s H C code fp rb => pe_and (pe_cmpR op_in_seq (pe_ix ix_tup (pv 2) pe_int (fun _ _ => rfl)) (pe_tup (pa_cons pe_str (pa_cons pe_str (pa_cons pe_str pa_nil)))) rfl) (pe_one (pe_call GI rb (by rfl) gI kI bI .nil pass0 (pa_cons (pv 0) (pa_cons (pe_ix ix_tup (pv 2) pe_int (fun _ _ => rfl)) pa_nil))))))
    refine ⟨_, rfl, v, m, rfl, hM, hm.1, by have := hm.2; omega, ht, fun H1 l us g1 nl hl hA => ?_⟩
    refine ⟨l, rfl, ⟨_, SqL.of hl⟩, g1.tabs P1 hP1, fun H2 hT => ?_⟩
    have g2 := Gr.tab g1.tabs hP1 hT
    have e1 : us.length = m.parts.length := paired_len hA
    have hG : ∀ H', Gr T H1 H' → SqL K H' l us := fun H' gr => SqL.of (gr.at g1.tabs hl notbl_lst)
    refine aa_it (walk_list (K := K) (a := l) (xs := us)) (fun i H' => Gr T H1 H' ∧ (m.parts.take i).any (looseP (inB ks)) = false) ⟨g2, rfl⟩ (fun i H' _ p => hG H' p.1) (fun i n x H' H'' hi em ⟨gr, no⟩ ⟨e, hx⟩ => ?_) (fun H' ⟨gr, no⟩ => ?_)
    · subst e
      obtain ⟨a, ha, hIa⟩ := L2.paired_get hA hx
      have hIa := hIa.gr gr g1.tabs
      have gH := g1.trans gr
      have haP : a ∈ m.parts := List.mem_of_getElem? ha
      refine ⟨rfl, tyes ?_⟩
      refine Classical.byContradiction fun hN => ?_
      have other : ∀ (cc : Addr) (tag : Str) (rest : List V), x = .ref cc → SqT K H'' cc (.str tag :: rest) → inV (V.str tag) [.str "row", .str "bag", .str "set"] = false → looseP (inB ks) a = false → False := by
        intro cc tag rest ex hT hin hl
        subst ex
        refine hN ⟨_, rfl, cc, _, 0, _, rfl, rfl, hT, atI_nat (j := 0) rfl, by show 3 ≤ sizeLine; decide, fun p np => ?_⟩
        have g3 := gr.trans (Gr.new gr.tabs (.tup [.str "row", .str "bag", .str "set"]) np)
        exact ⟨p, _, rfl, .inr (.inl (.inl upd_same)), rfl, rfl, _, rfl, if0 hin ⟨false, rfl, ifne (by decide) (nx hi em ⟨g3, any_take no ha hl⟩)⟩⟩
      cases hIa with
      | @k0 cc k hT => exact other cc _ _ rfl hT (by cases k <;> decide) rfl
      | @atom cc _ hT => exact other cc _ _ rfl hT (by decide) rfl
      | @name cc _ hT => exact other cc _ _ rfl hT (by decide) rfl
      | @k2 cc k _ _ _ _ hT _ _ => exact other cc _ _ rfl hT (by cases k <;> decide) rfl
      | @k1 cc k u x1 hT hx1 =>
        have hin : inV (V.str k.tag) [.str "row", .str "bag", .str "set"] = true := by cases k <;> decide
        refine hN ⟨_, rfl, cc, _, 0, _, rfl, rfl, hT, atI_nat (j := 0) rfl, by show 3 ≤ sizeLine; decide, fun p np => ?_⟩
        have gp := Gr.new gr.tabs (.tup [.str "row", .str "bag", .str "set"]) np
        have g3 := gr.trans gp
        have hd : x1.depth < 7 := by have := parts_depth haP; simp only [Hx.Mk.depth] at this; have := hm.1; omega
        refine ⟨p, _, rfl, .inr (.inl (.inl upd_same)), rfl, rfl, _, rfl, if1 hin ⟨_, rfl, _, rfl, cc, _, 1, _, rfl, rfl, gp.seqT gr.tabs hT, atI_nat (j := 1) rfl, bd, u, ks, x1, rfl, (hB.gr gH ht).gr gp gr.tabs, hx1.gr gp gr.tabs, hd, g3.tabs, fun H5 g5 => ⟨_, rfl, ?_⟩⟩⟩
        cases e5 : bareM (inB ks) x1 with
        | true =>
          refine ifeq rfl ?_
          have : looseM (inB ks) m = true := by
            rw [← loose_parts]
            exact List.any_eq_true.mpr ⟨_, haP, e5⟩
          have z := q H5 (g1.trans (g3.trans g5))
          rw [this] at z
          exact z
        | false => exact ifne (by decide) (nx hi em ⟨g3.trans g5, any_take no ha e5⟩)
    · have z := q H' (g1.trans gr)
      rw [e1, List.take_length, loose_parts] at no
      rw [no] at z
      exact z
/-! ### bare_words -/
theorem put_trues {ks : List Str} {z : Str} (h : z ∉ ks) : putK (trues ks) (Sum.inr z : Key) (V.bl true) = trues (ks ++ [z]) := by
  have : ((trues ks).any fun kv => decide (kv.1 = (Sum.inr z : Key))) = false := by
    rw [List.any_eq_false]
    intro kv hkv
    obtain ⟨y, hy, e⟩ := List.mem_map.mp hkv
    subst e
    simp only [decide_eq_true_eq]
    intro q
    exact h (Sum.inr.inj q ▸ hy)
  unfold putK
  rw [this, if_neg Bool.false_ne_true]
  simp [trues]
theorem nodup_len {α : Type} [DecidableEq α] : ∀ {l m : List α}, l.Nodup → (∀ x ∈ l, x ∈ m) → l.length ≤ m.length
  | [], m, _, _ => Nat.zero_le _
  | x :: r, m, nd, sub => by
    have hx : x ∈ m := sub x List.mem_cons_self
    have h := nodup_len (l := r) (m := m.erase x) (List.nodup_cons.mp nd).2 fun y hy => (List.mem_erase_of_ne (show y ≠ x from fun z => (List.nodup_cons.mp nd).1 (z ▸ hy))).mpr (sub y (List.mem_cons_of_mem _ hy))
    rw [List.length_erase_of_mem hx] at h
    have : 0 < m.length := List.length_pos_of_mem hx
    simp only [List.length_cons]
    omega
/-- words that may be bare, all by rules -/
structure SomeW (bk : Bk) (ks : List Str) : Prop where
  nd : ks.Nodup
  sub : ∀ z ∈ ks, z ∈ bk.keys
  up : ∀ z ∈ ks, Hx.lf bk z = true
theorem SomeW.len {bk : Bk} {ks : List Str} (h : SomeW bk ks) : ks.length ≤ bk.length := by
  have := nodup_len h.nd h.sub
  rwa [Bk.keys, List.length_map] at this
theorem SomeW.add {bk : Bk} {ks : List Str} {z : Str} {m : Hx.Mk} (h : SomeW bk ks) (hz : z ∉ ks) (hr : rule bk z = some m) (hb : bareM (inB ks) m = true) : SomeW bk (ks ++ [z]) := by
  refine ⟨?_, fun y hy => ?_, fun y hy => ?_⟩
  · rw [List.nodup_append]
    exact ⟨h.nd, List.nodup_cons.mpr ⟨(fun q => by cases q), List.nodup_nil⟩, fun x hx y hy => by rw [List.mem_singleton.mp hy]; exact fun e => hz (e ▸ hx)⟩
  · rcases List.mem_append.mp hy with hy | hy
    · exact h.sub y hy
    · rw [List.mem_singleton.mp hy]; exact List.mem_map.mpr ⟨_, rule_mem hr, rfl⟩
  · rcases List.mem_append.mp hy with hy | hy
    · exact h.up y hy
    · rw [List.mem_singleton.mp hy, ← lf_fix]
      unfold stepF
      rw [hr]
      exact bare_mono (fun x hx => h.up x (of_decide_eq_true hx)) hb
theorem SomeW.done {bk : Bk} {ks : List Str} (h : SomeW bk ks) (hc : ∀ z m, (z, m) ∈ bk → z ∈ ks ∨ bareM (inB ks) m = false) : inB ks = lf bk := by
  refine lf_eq (fun z q => ?_) fun z q => h.up z (of_decide_eq_true q)
  unfold stepF at q
  cases e : rule bk z with
  | none => rw [e] at q; cases q
  | some m =>
    rw [e] at q
    rcases hc z m (rule_mem e) with k | k
    · exact decide_eq_true k
    · exact absurd (k.symm.trans q) Bool.false_ne_true
def spBareWords (K : PySem.W.Frag) (T : List Addr) : Sp := fun vs H Q _ => ∃ (a : Addr) (bk : Bk), vs = [.ref a] ∧ IsD0 K H a bk ∧ okB bk ∧ TabsG T H ∧
  ∀ H' p ks, Gr T H H' → H p = none → H' p = some (.dK (trues ks)) → inB ks = lf bk → ks.length ≤ 8 → Q (.ref p) H'
theorem pr_barewords (h : Has K mg "bare_words" sBareWords ["book"]) (hI : Pr P w K mg base "is_bare" ["bare", "making"] (spBare K T 7) 7) : Pr P w K mg base "bare_words" ["book"] (spBareWords K T) 8 := by
  obtain ⟨f, fd, F, g, b⟩ := h
  obtain ⟨fI, fdI, GI, gI, kI, bI⟩ := hI
  refine ⟨f, fd, F.ok scBareWords (fun vs H Q E h => ?_) (fun cdv A outer s H vs Q E hr h => ?_), g, F.kp, b⟩
  · obtain ⟨a, bk, rfl, _⟩ := h
    rfl
  · obtain ⟨a, bk, rfl, ⟨kvs, hk, pr⟩, ok, ht, q⟩ := h
    refine' ⟨_, pss_cons ?s1 (pss_cons ?s2 (pss_cons ?s3 (pss_one ?s4))), ?fin⟩
    case s1 => exact ps_set (i := 1) scBareWords.nd rfl (.inl rfl) pe_dnewK
    case s2 => exact ps_set (i := 2) scBareWords.nd rfl (.inl rfl) pe_bl
    case s3 =>
      refine' ps_while PassesOwn.never (pt_val (pv 2)) (pss_cons (ps_set (i := 2) scBareWords.nd rfl (.inl rfl) pe_bl) (pss_one (ps_lock ?lp)))
      case lp =>
        refine' ps_for PassesOwn.never rfl ?i ?g (pss_one (ps_if ?t (pss_cons ?u1 (pss_one ?u2)) pss_nil))
        case i => exact pi_items (pv 0)
        case g => exact pg_tup rfl (pgs_cons (pg_name (i := 3) scBareWords.nd rfl (Or.inl rfl)) (pgs_cons (pg_name (i := 4) scBareWords.nd rfl (Or.inl rfl)) pgs_nil))
        case t => exact PW.pt (pw_and (pt_cmp (pc_dnotin (u1 hr.units) (pv 3) (pv 1))) (pw_and1 (pt_val (pe_call GI hr (by rfl) gI kI bI .nil pass0 (pa_cons (pv 1) (pa_cons (pv 4) pa_nil))))))
        case u1 => exact ps_dput (u1 hr.units) (pv 1) (pv 3) pe_bl rfl
        case u2 => exact ps_set (i := 2) scBareWords.nd rfl (.inl rfl) pe_bl
    case s4 => exact ps_ret (pv 1)
    intro p np
    have g0 := Gr.new ht (.dK []) np
    have nap : a ≠ p := ne_of_none hk np
    refine ⟨fun m σ H' => ∃ ks j y z, σ = [some (.ref a), some (.ref p), some (.bl j), y, z] ∧ Gr T H H' ∧ H' p = some (.dK (trues ks)) ∧ SomeW bk ks ∧ (j = false → ∀ z m, (z, m) ∈ bk → z ∈ ks ∨ bareM (inB ks) m = false) ∧ m = (bk.length - ks.length) + (if j = true then 1 else 0),
      ⟨_, [], true, none, none, rfl, g0, upd_same, ⟨List.nodup_nil, fun _ h => (by cases h), fun _ h => (by cases h)⟩, fun z => (by cases z), rfl⟩, fun m σ H' ⟨ks, j, y, z, eσ, gr, hp, hs, hc, em⟩ => ?_⟩
    subst eσ
    refine ⟨_, rfl, j, rfl, ?_⟩
    cases j with
    | false => exact if0 rfl ⟨_, rfl, q H' p ks gr np hp (hs.done (hc rfl)) (by have := hs.len; have := ok.few; omega)⟩
    | true =>
      refine if1 rfl ⟨fun σ' H'' => ∃ m', m' < m ∧ ∃ ks j y z, σ' = [some (.ref a), some (.ref p), some (.bl j), y, z] ∧ Gr T H H'' ∧ H'' p = some (.dK (trues ks)) ∧ SomeW bk ks ∧ (j = false → ∀ z m, (z, m) ∈ bk → z ∈ ks ∨ bareM (inB ks) m = false) ∧ m' = (bk.length - ks.length) + (if j = true then 1 else 0), fun _ _ z => z, ?_⟩
      have hk' : H' a = some (.dK kvs) := gr.at ht hk notbl_dK
      refine ⟨a, _, hk', trivial, fun od => ?_⟩
      have pr' : PrB K H' kvs bk := paired_mono (fun _ _ r => ⟨r.1, r.2.gr gr ht⟩) pr
      have tL := gr.tabs.lock (od := od) hk' notbl_dK
      obtain ⟨l1, l2⟩ := IsB.lock (od := od) hk' pr'
      have hpL : upd H' a (.frz od (.dK kvs)) p = some (.dK (trues ks)) := by rw [upd_ne (Ne.symm nap)]; exact hp
      refine ⟨_, rfl, a, od, kvs, rfl, upd_same, ?_⟩
      generalize hHL : upd H' a (HO.frz od (.dK kvs)) = HL at tL l1 l2 hpL ⊢
      refine for_it (walk_bitems (d := a) (o := od) l2) (fun i σ' H'' => ∃ ks' j y z, σ' = [some (.ref a), some (.ref p), some (.bl j), y, z] ∧ (∀ b o, b ≠ p → HL b = some o → b ∉ T → H'' b = some o) ∧ TabsG T H'' ∧ H'' p = some (.dK (trues ks')) ∧ SomeW bk ks' ∧ (j = false → ks' = ks ∧ ∀ k z m, k < i → bk[k]? = some (z, m) → z ∈ ks ∨ bareM (inB ks) m = false) ∧ (j = true → ks.length < ks'.length))
        ⟨ks, false, y, z, rfl, fun _ _ _ e _ => e, tL, hpL, hs, fun _ => ⟨rfl, fun k z m hk => absurd hk (Nat.not_lt_zero _)⟩, fun z => by cases z⟩ ?_ ?_ ?_
      · intro i σ' H'' _ ⟨ks', j, y', z', _, keep, _⟩
        exact keep a _ nap l1 (tL.out l1 notbl_frz)
      · intro i x σ' H2 H3 hi ⟨ks', j, y', z', eσ, keep, tb, hp2, hs2, c0, c1⟩ ⟨t, wd, v', mm, eb, hM', ex, nt, eH⟩
        subst eσ ex eH
        have hmem := List.mem_of_getElem? eb
        have hrule : Hx.rule bk wd = some mm := rule_nd ok.nd hmem
        have ntp : p ≠ t := ne_of_none hp2 nt
        have keep3 : ∀ b o, b ≠ p → HL b = some o → b ∉ T → upd H2 t (.tup [.str wd, v']) b = some o := fun b o n e nb => by
          rw [upd_ne (ne_of_none (keep b o n e nb) nt)]; exact keep b o n e nb
        have g3 := Gr.new tb (.tup [.str wd, v']) nt
        have hp3 : upd H2 t (.tup [.str wd, v']) p = some (.dK (trues ks')) := by rw [upd_ne ntp]; exact hp2
        refine ⟨t, _, rfl, .inl (.inl upd_same), rfl, _, _, rfl, _, _, rfl, rfl, ?_⟩
        generalize hH3 : upd H2 t (HO.tup [.str wd, v']) = H3 at keep3 g3 hp3 ⊢
        have hM3 : IsM K H3 v' mm := hM'.kt ⟨fun b xs e => keep3 b _ (fun z => by rw [z, hpL] at e; cases e) e (tL.out e notbl_tup), fun b o u e => keep3 b _ (fun z => by rw [z, hpL] at e; cases e) e (tL.out e notbl_frz)⟩
        obtain ⟨o, dg, eo⟩ := BD.get (show BD H3 p ks' from .inl hp3) wd
        refine ⟨_, rfl, _, rfl, p, o, rfl, dg, _, rfl, ?_⟩
        rw [eo]
        have same : ∀ H4, Gr T H3 H4 → (wd ∈ ks' ∨ bareM (inB ks') mm = false) → ∃ ks2 j2 y z, [some (V.ref a), some (V.ref p), some (V.bl j), some (V.str wd), some v'] = [some (V.ref a), some (V.ref p), some (V.bl j2), y, z] ∧ (∀ b o, b ≠ p → HL b = some o → b ∉ T → H4 b = some o) ∧ TabsG T H4 ∧ H4 p = some (.dK (trues ks2)) ∧ SomeW bk ks2 ∧ (j2 = false → ks2 = ks ∧ ∀ k z m, k < i + 1 → bk[k]? = some (z, m) → z ∈ ks ∨ bareM (inB ks) m = false) ∧ (j2 = true → ks.length < ks2.length) := fun H4 g4 hno => by
          refine ⟨ks', j, _, _, rfl, fun b o n e nb => g4.keep b o (keep3 b o n e nb) nb, g4.tabs, g4.at g3.tabs hp3 notbl_dK, hs2, fun ej => ?_, c1⟩
          obtain ⟨e1, e2⟩ := c0 ej
          refine ⟨e1, fun k z m hk ek => ?_⟩
          rcases Nat.lt_or_ge k i with h | h
          · exact e2 k z m h ek
          · have : k = i := by omega
            subst this
            rw [eb] at ek
            cases ek
            rw [← e1]
            exact hno
        cases hin : inB ks' wd with
        | true =>
          obtain ⟨ks2, j2, y2, z2, e1, e2⟩ := same H3 (Gr.refl g3.tabs) (.inl (of_decide_eq_true hin))
          exact if0 rfl (if0 rfl ⟨ks2, j2, y2, z2, e1, e2⟩)
        | false =>
          have hnot : wd ∉ ks' := of_decide_eq_false hin
          refine if1 rfl ⟨_, rfl, _, rfl, p, v', ks', mm, rfl, .inl hp3, hM3, Nat.lt_succ_of_le (ok.good _ hmem).2.2.1, g3.tabs, fun H4 g4 => ⟨_, rfl, ?_⟩⟩
          cases hb : bareM (inB ks') mm with
          | false =>
            obtain ⟨ks2, j2, y2, z2, e1, e2⟩ := same H4 g4 (.inr hb)
            exact if0 rfl ⟨ks2, j2, y2, z2, e1, e2⟩
          | true =>
            have hp4 := g4.at g3.tabs hp3 notbl_dK
            have hadd := hs2.add hnot hrule hb
            have hz : (trues ks').length < sizeLine := by rw [List.length_map]; exact Nat.lt_of_le_of_lt (Nat.le_trans hs2.len ok.few) (by decide)
            refine if1 rfl ⟨_, rfl, _, rfl, p, _, rfl, .inl ⟨_, Sum.inr wd, hp4, rfl, hz, rfl⟩, ?_⟩
            rw [put_trues hnot]
            refine ⟨ks' ++ [wd], true, _, _, rfl, fun b o n e nb => ?_, ?_, upd_same, hadd, fun z => (by cases z), fun _ => ?_⟩
            · rw [upd_ne n]; exact g4.keep b o (keep3 b o n e nb) nb
            · exact g4.tabs.upd _ (g4.tabs.out hp4 notbl_dK)
            · rw [List.length_append]
              cases ej : j with
              | true => have := c1 ej; simp only [List.length_cons, List.length_nil]; omega
              | false => rw [(c0 ej).1]; simp
      · intro σ' H'' ⟨ks', j, y', z', eσ, keep, tb, hp2, hs2, c0, c1⟩
        have ha2 : H'' a = some (.frz od (.dK kvs)) := keep a _ nap l1 (tL.out l1 notbl_frz)
        refine ⟨ha2, _, ?_, ks', j, y', z', eσ, ?_, by rw [upd_ne (Ne.symm nap)]; exact hp2, hs2, fun ej z m hm => ?_, rfl⟩
        · have l1 := hs.len
          have l2 := hs2.len
          rw [em, if_pos rfl]
          cases ej : j with
          | true => have := c1 ej; rw [if_pos rfl]; omega
          | false => rw [(c0 ej).1, if_neg Bool.false_ne_true]; omega
        · refine ⟨fun b o e nb => ?_, tb.upd _ (tb.out ha2 notbl_frz)⟩
          by_cases z : b = a
          · subst z; rw [hk] at e; cases e; exact upd_same
          · rw [upd_ne z]
            have nbp : b ≠ p := ne_of_none e np
            refine keep b o nbp ?_ nb
            rw [← hHL, upd_ne z]
            exact gr.keep b o e nb
        · obtain ⟨e1, e2⟩ := c0 ej
          obtain ⟨k, hk2⟩ := List.getElem?_of_mem hm
          rw [e1]
          exact e2 k z m (List.getElem?_eq_some_iff.mp hk2).1 hk2
end
end Lw
/-! a search that comes back or not -/
namespace Hx
open L2 PySem
structure Srch (e : Str → List Str) (keys : List Str) (x : Str) (ks ws : List Str) : Prop where
  nd : ks.Nodup
  subk : ∀ z ∈ ks, z ∈ keys
  subw : ∀ z ∈ ws, z ∈ keys
  rk : ∀ z ∈ ks, Rch e x z
  rw : ∀ z ∈ ws, Rch e x z
  c1 : ∀ y ∈ e x, y ∈ ks ∨ y ∈ ws
  c2 : ∀ s ∈ ks, ∀ y ∈ e s, y ∈ ks ∨ y ∈ ws
def wt (e : Str → List Str) (keys ks : List Str) : Nat := (keys.map fun z => if z ∈ ks then 0 else (e z).length).sum
theorem sum_le {f g : Str → Nat} : ∀ {l : List Str}, (∀ z ∈ l, f z ≤ g z) → (l.map f).sum ≤ (l.map g).sum
  | [], _ => Nat.le_refl _
  | y :: r, h => by
    have h1 := h y List.mem_cons_self
    have h2 := sum_le (l := r) fun z hz => h z (List.mem_cons_of_mem _ hz)
    simp only [List.map_cons, List.sum_cons]
    omega
theorem sum_le_at {f g : Str → Nat} {y : Str} {c : Nat} : ∀ {l : List Str}, (∀ z ∈ l, f z ≤ g z) → y ∈ l → f y + c ≤ g y → (l.map f).sum + c ≤ (l.map g).sum
  | z :: r, h, hy, hc => by
    have hr : ∀ z ∈ r, f z ≤ g z := fun z hz => h z (List.mem_cons_of_mem _ hz)
    simp only [List.map_cons, List.sum_cons]
    rcases List.mem_cons.mp hy with q | q
    · subst q
      have := sum_le hr
      omega
    · have := sum_le_at hr q hc
      have := h z List.mem_cons_self
      omega
theorem wt_new {e : Str → List Str} {keys ks : List Str} {y : Str} (hy : y ∈ keys) (hn : y ∉ ks) : wt e keys (ks ++ [y]) + (e y).length ≤ wt e keys ks := by
  unfold wt
  refine sum_le_at (y := y) (fun z _ => ?_) hy ?_
  · by_cases h : z ∈ ks
    · rw [if_pos h, if_pos (List.mem_append_left _ h)]
      exact Nat.le_refl _
    · rw [if_neg h]; split <;> omega
  · rw [if_pos (List.mem_append_right _ List.mem_cons_self), if_neg hn]; omega
theorem wt_le {e : Str → List Str} {c : Nat} {ks : List Str} : ∀ {keys : List Str}, (∀ z ∈ keys, (e z).length ≤ c) → wt e keys ks ≤ c * keys.length
  | [], _ => by simp [wt]
  | y :: r, h => by
    have h1 := h y List.mem_cons_self
    have h2 := wt_le (ks := ks) (keys := r) fun z hz => h z (List.mem_cons_of_mem _ hz)
    unfold wt at h2 ⊢
    simp only [List.map_cons, List.sum_cons, List.length_cons, Nat.mul_add, Nat.mul_one]
    split <;> omega
theorem Srch.start {e : Str → List Str} {keys : List Str} {x : Str} (h : ∀ y ∈ e x, y ∈ keys) : Srch e keys x [] (e x) :=
  ⟨List.nodup_nil, fun _ z => (by cases z), h, fun _ z => (by cases z), fun _ z => .one z, fun _ z => .inr z, fun _ z => (by cases z)⟩
theorem Srch.old {e : Str → List Str} {keys : List Str} {x y : Str} {ks ws : List Str} (h : Srch e keys x ks (ws ++ [y])) (hy : y ∈ ks) : Srch e keys x ks ws := by
  have g : ∀ z, z ∈ ks ∨ z ∈ ws ++ [y] → z ∈ ks ∨ z ∈ ws := fun z q => q.elim .inl fun q => (List.mem_append.mp q).elim .inr fun q => .inl (by rw [List.mem_singleton.mp q]; exact hy)
  exact ⟨h.nd, h.subk, fun z q => h.subw z (List.mem_append_left _ q), h.rk, fun z q => h.rw z (List.mem_append_left _ q), fun z q => g z (h.c1 z q), fun s hs z q => g z (h.c2 s hs z q)⟩
theorem Srch.new {e : Str → List Str} {keys : List Str} {x y : Str} {ks ws : List Str} (h : Srch e keys x ks (ws ++ [y])) (hy : y ∉ ks) (he : ∀ z ∈ e y, z ∈ keys) : Srch e keys x (ks ++ [y]) (ws ++ e y) := by
  have hyw : y ∈ ws ++ [y] := List.mem_append_right _ List.mem_cons_self
  have g : ∀ z, z ∈ ks ∨ z ∈ ws ++ [y] → z ∈ ks ++ [y] ∨ z ∈ ws ++ e y := fun z q => q.elim (fun q => .inl (List.mem_append_left _ q)) fun q => (List.mem_append.mp q).elim (fun q => .inr (List.mem_append_left _ q)) fun q => .inl (List.mem_append_right _ q)
  have ry := h.rw y hyw
  refine ⟨?_, fun z q => ?_, fun z q => ?_, fun z q => ?_, fun z q => ?_, fun z q => g z (h.c1 z q), fun s hs z q => ?_⟩
  · rw [List.nodup_append]
    exact ⟨h.nd, List.nodup_cons.mpr ⟨(fun q => by cases q), List.nodup_nil⟩, fun a ha b hb => by rw [List.mem_singleton.mp hb]; exact fun q => hy (q ▸ ha)⟩
  · exact (List.mem_append.mp q).elim (h.subk z) fun q => h.subw z (List.mem_append_right _ q)
  · exact (List.mem_append.mp q).elim (fun q => h.subw z (List.mem_append_left _ q)) (he z)
  · exact (List.mem_append.mp q).elim (h.rk z) fun q => h.rw z (List.mem_append_right _ q)
  · exact (List.mem_append.mp q).elim (fun q => h.rw z (List.mem_append_left _ q)) fun q => .more ry q
  · rcases List.mem_append.mp hs with hs | hs
    · exact g z (h.c2 s hs z q)
    · rw [List.mem_singleton.mp hs] at q
      exact .inr (List.mem_append_right _ q)
theorem Srch.done {e : Str → List Str} {keys : List Str} {x : Str} {ks : List Str} (h : Srch e keys x ks []) : decide (x ∈ ks) = ringB e x := by
  have := rch_iff (fun y q => (h.c1 y q).resolve_right (fun z => by cases z)) (fun s hs y q => (h.c2 s hs y q).resolve_right (fun z => by cases z)) h.rk x
  unfold ringB
  rw [Bool.eq_iff_iff, decide_eq_true_iff, @decide_eq_true_iff _ (Classical.propDecidable _)]
  exact this
theorem last_split {α : Type} {l : List α} (h : l ≠ []) : ∃ y, l[l.length - 1]? = some y ∧ l = l.dropLast ++ [y] :=
  ⟨l.getLast h, by rw [List.getLast_eq_getElem]; exact List.getElem?_eq_getElem _, (List.dropLast_concat_getLast h).symm⟩
end Hx
namespace Lw
open PySem PySem.Spec PyProof.Rows L2 Hx
theorem scRing : FnScope ["leads", "word", "reached", "ahead", "found"] ["leads", "word"] (defScope sRing) := ⟨rfl, rfl, rfl, by decide +kernel, rfl, by decide +kernel, by decide +kernel⟩
/-- a dict of words to lists of words -/
def LD (H : Hp) (d : Addr) (e : Str → List Str) (keys : List Str) : Prop := ∃ kvs, Rd H d (.dK kvs) ∧ ∀ z ∈ keys, ∃ l, valV kvs (Sum.inr z : Key) = some (.ref l) ∧ H l = some (.lst ((e z).map V.str))
theorem LD.gr {T : List Addr} {H H' : Hp} {d : Addr} {e : Str → List Str} {keys : List Str} (h : LD H d e keys) (g : Gr T H H') (t : TabsG T H) : LD H' d e keys :=
  h.imp fun kvs z => ⟨rd_gr g t z.1, fun y hy => (z.2 y hy).imp fun l q => ⟨q.1, g.at t q.2 notbl_lst⟩⟩
section
variable {P : Program} {w : World} {K : PySem.W.Frag} {mg : Str → Option Value} {base : Heap} {T : List Addr}
def spRing (T : List Addr) : Sp := fun vs H Q _ => ∃ (d : Addr) (x : Str) (e : Str → List Str) (keys : List Str), vs = [.ref d, .str x] ∧ LD H d e keys ∧ x ∈ keys ∧ (∀ z ∈ keys, ∀ y ∈ e z, y ∈ keys) ∧ (∀ z ∈ keys, (e z).length ≤ 40) ∧ keys.length ≤ 8 ∧ TabsG T H ∧ ∀ H', Gr T H H' → Q (.bl (ringB e x)) H'
theorem pr_ring (h : Has K mg "is_in_ring" sRing ["leads", "word"]) (B : Bn mg) : Pr P w K mg base "is_in_ring" ["leads", "word"] (spRing T) 1 := by
  obtain ⟨f, fd, F, g, b⟩ := h
  refine ⟨f, fd, F.ok scRing (fun vs H Q E h => ?_) (fun cdv A outer s H vs Q E hr h => ?_), g, F.kp, b⟩
  · obtain ⟨d, x, e, keys, rfl, _⟩ := h
    rfl
  · obtain ⟨d, x, e, keys, rfl, hL, hx, hcl, h40, h8, ht, q⟩ := h
    refine' ⟨_, pss_cons ?s1 (pss_cons ?s2 (pss_cons ?s3 (pss_one ?s4))), ?fin⟩
    case s1 => exact ps_set (i := 2) scRing.nd rfl (.inl rfl) pe_dnewK
    case s2 => exact ps_set (i := 3) scRing.nd rfl (.inl rfl) (pe_callTy call_list_of (by rfl) B.list (by decide +kernel) (pa_cons (pe_dget (u1 hr.units) (pv 0) (pv 1) (fun _ _ => rfl)) pa_nil))
    case s3 =>
      refine' ps_while PassesOwn.never (pt_truth (pv 3) (fun _ => rfl)) (pss_cons ?a (pss_one (ps_if ?t (pss_cons ?c (pss_one (ps_expr ?d))) pss_nil)))
      case a => exact ps_set (i := 4) scRing.nd rfl (.inl rfl) (pe_bm0 PySem.F.plainAttrs_list PySem.F.slot_list_pop PySem.F.type_list_pop mt_pop (pv 3))
      case t => exact pt_cmp (pc_dnotin (u1 hr.units) (pv 4) (pv 2))
      case c => exact ps_dput (u1 hr.units) (pv 2) (pv 4) pe_bl rfl
      case d => exact pe_bm PySem.F.plainAttrs_list PySem.F.slot_list_extend PySem.F.type_list_extend mt_extend (pv 3) (pa_cons (pe_dget (u1 hr.units) (pv 0) (pv 4) (fun _ _ => rfl)) pa_nil)
    case s4 => exact ps_ret (pe_cmp (pc_din (u1 hr.units) (pv 1) (pv 2)))
    intro r nr
    have g1 := Gr.new ht (.dK []) nr
    obtain ⟨kvs, rd, look⟩ := hL.gr g1 ht
    obtain ⟨l0, v0, hl0⟩ := look x hx
    refine ⟨_, rfl, _, rfl, d, .ref l0, rfl, .inl ⟨kvs, .inr x, rd, rfl, v0.symm⟩, l0, _, rfl, .inl (SqL.of hl0), fun ah nah => ?_⟩
    have g2 := g1.trans (Gr.new g1.tabs (.lst ((e x).map V.str)) nah)
    have nrah : r ≠ ah := ne_of_none upd_same nah
    have nah0 : H ah = none := Gr.free ht g1 nah
    refine ⟨fun m σ H' => ∃ ks ws y, σ = [some (.ref d), some (.str x), some (.ref r), some (.ref ah), y] ∧ Gr T H H' ∧ H' r = some (.dK (trues ks)) ∧ H' ah = some (.lst (ws.map V.str)) ∧ Srch e keys x ks ws ∧ m = ws.length + wt e keys ks ∧ m ≤ 400,
      ⟨_, [], e x, none, rfl, g2, by rw [upd_ne nrah]; exact upd_same, upd_same, Srch.start (hcl x hx), rfl, ?_⟩, fun m σ H' ⟨ks, ws, y, eσ, gr, hr', ha', hs, em, hm⟩ => ?_⟩
    · have h1 := h40 x hx
      have h2 := wt_le (ks := []) h40
      have h3 : 40 * keys.length ≤ 40 * 8 := Nat.mul_le_mul_left _ h8
      omega
    subst eσ
    refine ⟨_, rfl, _, .inl ⟨_, SqL.of ha', rfl⟩, ?_⟩
    by_cases hw : ws = []
    · subst hw
      refine if0 rfl ⟨_, rfl, _, rfl, r, ?_⟩
      obtain ⟨o, dg, eo⟩ := BD.get (show BD H' r ks from .inl hr') x
      refine ⟨o, rfl, dg, ?_⟩
      rw [eo, show inB ks x = ringB e x from hs.done]
      exact q H' gr
    · obtain ⟨z, hz, esp⟩ := last_split hw
      generalize ws.dropLast = ws' at esp
      subst esp
      have hne : (!((ws' ++ [z]).map V.str).isEmpty) = true := by simp
      refine if1 hne ⟨fun σ' H'' => ∃ m', m' < m ∧ ∃ ks ws y, σ' = [some (.ref d), some (.str x), some (.ref r), some (.ref ah), y] ∧ Gr T H H'' ∧ H'' r = some (.dK (trues ks)) ∧ H'' ah = some (.lst (ws.map V.str)) ∧ Srch e keys x ks ws ∧ m' = ws.length + wt e keys ks ∧ m' ≤ 400, fun _ _ z => z, ?_⟩
      have hzk : z ∈ keys := hs.subw z (List.mem_append_right _ List.mem_cons_self)
      refine ⟨_, rfl, .inl ⟨rfl, _, SqL.of ha'⟩, ah, _, .str z, rfl, rfl, ha', ?_, ?_⟩
      · rw [List.length_map, List.length_append]; simp
      have ed : (((ws' ++ [z]).map V.str).dropLast) = ws'.map V.str := by rw [List.map_append]; exact List.dropLast_concat
      rw [ed]
      have g3 := gr.own ht (.lst (ws'.map V.str)) nah0
      have hr3 : upd H' ah (.lst (ws'.map V.str)) r = some (.dK (trues ks)) := by rw [upd_ne nrah]; exact hr'
      obtain ⟨o, dg, eo⟩ := BD.get (show BD (upd H' ah (.lst (ws'.map V.str))) r ks from .inl hr3) z
      refine ⟨_, rfl, _, rfl, r, o, rfl, dg, _, rfl, ?_⟩
      rw [eo]
      have el : (ws' ++ [z]).length = ws'.length + 1 := by simp
      cases hin : inB ks z with
      | true =>
        refine if0 rfl ⟨ws'.length + wt e keys ks, by omega, ks, ws', _, rfl, g3, hr3, upd_same, hs.old (of_decide_eq_true hin), rfl, by omega⟩
      | false =>
        have hnot : z ∉ ks := of_decide_eq_false hin
        have hkl : ks.length ≤ 8 := Nat.le_trans (nodup_len hs.nd hs.subk) h8
        refine if1 rfl ⟨_, rfl, _, rfl, r, _, rfl, .inl ⟨_, Sum.inr z, hr3, rfl, by rw [List.length_map]; exact Nat.lt_of_le_of_lt hkl (by decide), rfl⟩, ?_⟩
        rw [put_trues hnot]
        have g4 := g3.own ht (.dK (trues (ks ++ [z]))) nr
        have ha4 : upd (upd H' ah (.lst (ws'.map V.str))) r (.dK (trues (ks ++ [z]))) ah = some (.lst (ws'.map V.str)) := by rw [upd_ne (Ne.symm nrah)]; exact upd_same
        obtain ⟨kvs4, rd4, look4⟩ := hL.gr g4 ht
        obtain ⟨l4, v4, hl4⟩ := look4 z hzk
        refine ⟨_, rfl, .inl ⟨rfl, _, SqL.of ha4⟩, _, rfl, _, rfl, d, .ref l4, rfl, .inl ⟨kvs4, .inr z, rd4, rfl, v4.symm⟩, ah, l4, _, _, rfl, rfl, ha4, hl4, ?_, ?_⟩
        · have h1 := h40 z hzk
          rw [List.length_map, List.length_map]
          exact lt1000 (by omega)
        have hw2 := wt_new (e := e) hzk hnot
        refine ⟨(ws' ++ e z).length + wt e keys (ks ++ [z]), by rw [List.length_append]; omega, ks ++ [z], ws' ++ e z, _, rfl, g4.own ht _ nah0, by rw [upd_ne nrah]; exact upd_same, by rw [upd_same, List.map_append], hs.new hnot (hcl z hzk), rfl, by rw [List.length_append]; omega⟩
end
end Lw
namespace Lw
open PySem PySem.Spec PyProof.Rows L2 Hx
theorem scUnfairWords : FnScope ["book", "bare", "leads", "word", "rule"] ["book"] (defScope sUnfairWords) := ⟨rfl, rfl, rfl, by decide +kernel, rfl, by decide +kernel, by decide +kernel⟩
/-- one turn of a dict comprehension that fills the dict at D: x is given to it, N is to hold behind it -/
abbrev DcTurn (g : TG) (tt : TT) (tk tv : TE) (vs : List Nat) (σ : L2.St) (D : Addr) (N : Hp → Prop) (x : V) (H : Hp) : Prop := g x (wipe σ vs) H fun τ Ha => wipe τ vs = wipe σ vs ∧ tt τ Ha fun c Hb => if c = true then tk τ Hb fun y Hc => tv τ Hc fun z Hd => ∃ kvs k, y = kV k ∧ Hd D = some (.dK kvs) ∧ kvs.length < sizeLine ∧ N (upd Hd D (.dK (putK kvs k z))) else N Hb
/-- a dict comprehension over a walk -/
theorem dc_it {J : It} {n : Nat} {G : Hp → Prop} {Y : Nat → Hp → V → Hp → Prop} (wk : Walk J n G Y) {g : TG} {tt : TT} {tk tv : TE} {vs : List Nat} {σ : L2.St} {H1 : Hp} {D : Addr} {Qd : Hp → Prop} (Pv : Nat → Hp → Prop) (h0 : Pv 0 (upd H1 D (.dK []))) (hG : ∀ i H, i ≤ n → Pv i H → G H)
    (hs : ∀ i x H H', i < n → Pv i H → Y i H x H' → DcTurn g tt tk tv vs σ D (Pv (i + 1)) x H') (hd : ∀ H, Pv n H → Qd H) :
    ∃ W : Nat → Nat → Hp → Prop, (∃ m, W 0 m (upd H1 D (.dK []))) ∧ ∀ i m H, W i m H → (J.stop i H ∧ Qd H) ∨ (J.go i H ∧ ∃ Nx : Hp → Prop, (∀ H', Nx H' → ∃ m', m' < m ∧ W (i + 1) m' H') ∧ ∀ x H', J.yld i H x H' → DcTurn g tt tk tv vs σ D Nx x H') := by
  refine ⟨WP n Pv, ⟨n, rfl, Nat.zero_le _, h0⟩, fun i m H ⟨em, hi, p⟩ => ?_⟩
  by_cases hlt : i < n
  · exact .inr ⟨wk.goes i H hlt (hG i H hi p), Pv (i + 1), fun H' p' => nx hlt em p', fun x H' y => hs i x H H' hlt p (wk.yields i H x H' hlt (hG i H hi p) y)⟩
  · have e : i = n := by omega
    subst e
    exact .inl ⟨wk.stops H (hG _ H hi p), hd H p⟩
/-- a dict by the words of a book -/
abbrev PrS (S : V → Hx.Mk → Prop) (kvs : List (Key × V)) (bk : Bk) : Prop := Paired (fun (kv : Key × V) p => kv.1 = Sum.inr p.1 ∧ S kv.2 p.2) kvs bk
theorem val_S {S : V → Hx.Mk → Prop} {z : Str} : ∀ {kvs : List (Key × V)} {bk : Bk}, PrS S kvs bk → (rule bk z = none ∧ valV kvs (Sum.inr z) = none) ∨ ∃ m v, rule bk z = some m ∧ valV kvs (Sum.inr z) = some v ∧ S v m
  | _, _, .nil => .inl ⟨rfl, rfl⟩
  | (k, v) :: kvs, (z', m) :: bk, .cons ⟨e, hm⟩ t => by
    dsimp only at e hm
    subst e
    by_cases h : z' = z
    · subst h
      exact .inr ⟨m, v, by simp [Hx.rule], by simp [valV], hm⟩
    · have e1 : rule ((z', m) :: bk) z = rule bk z := by unfold Hx.rule; rw [List.find?_cons_of_neg (by simpa using h)]
      have e2 : valV ((Sum.inr z', v) :: kvs) (Sum.inr z : Key) = valV kvs (Sum.inr z) := by
        unfold valV
        rw [List.find?_cons_of_neg (by simpa using fun y : (Sum.inr z' : Key) = Sum.inr z => h (Sum.inr.inj y))]
      rw [e1, e2]
      exact val_S t
theorem keys_S {S : V → Hx.Mk → Prop} : ∀ {kvs : List (Key × V)} {bk : Bk}, PrS S kvs bk → kvs.map (·.1) = bk.keys.map Sum.inr
  | _, _, .nil => rfl
  | _ :: _, _ :: _, .cons r t => by
    rw [List.map_cons, r.1, keys_S t]
    rfl
theorem put_new {S : V → Hx.Mk → Prop} {kvs : List (Key × V)} {bk : Bk} {z : Str} {v : V} (h : PrS S kvs bk) (hz : z ∉ bk.keys) : putK kvs (Sum.inr z : Key) v = kvs ++ [(Sum.inr z, v)] := by
  have : (kvs.any fun kv => decide (kv.1 = (Sum.inr z : Key))) = false := by
    rw [List.any_eq_false]
    intro kv hkv
    obtain ⟨i, hi⟩ := List.getElem?_of_mem hkv
    obtain ⟨p, hp, e, _⟩ := L2.paired_get h hi
    simp only [decide_eq_true_eq]
    intro q
    rw [e] at q
    exact hz (List.mem_map.mpr ⟨p, List.mem_of_getElem? hp, Sum.inr.inj q⟩)
  unfold putK
  rw [this, if_neg Bool.false_ne_true]
theorem take_keys {bk : Bk} {i : Nat} {z : Str} {m : Hx.Mk} (nd : bk.keys.Nodup) (e : bk[i]? = some (z, m)) : z ∉ Bk.keys (bk.take i) := fun h => by
  obtain ⟨p, hp, ez⟩ := List.mem_map.mp h
  obtain ⟨j, hj⟩ := List.getElem?_of_mem hp
  have hji : j < i := by
    have := (List.getElem?_eq_some_iff.mp hj).1
    rw [List.length_take] at this
    omega
  rw [List.getElem?_take_of_lt hji] at hj
  have h1 : bk.keys[j]? = some z := by unfold Bk.keys; rw [List.getElem?_map, hj]; exact congrArg some ez
  have h2 : bk.keys[i]? = some z := by unfold Bk.keys; rw [List.getElem?_map, e]; rfl
  have := (List.getElem?_inj (List.getElem?_eq_some_iff.mp h1).1 nd).mp (h1.trans h2.symm)
  omega
section
variable {P : Program} {w : World} {K : PySem.W.Frag} {mg : Str → Option Value} {base : Heap} {T : List Addr}
def spUnfair (K : PySem.W.Frag) (T : List Addr) : Sp := fun vs H Q _ => ∃ (a : Addr) (bk : Bk), vs = [.ref a] ∧ IsD0 K H a bk ∧ okB bk ∧ TabsG T H ∧
  ∀ H' p ys, Gr T H H' → H p = none → ys.Perm bk.keys → sortedS ys = true → H' p = some (.lst ((ys.filter (badB bk)).map V.str)) → Q (.ref p) H'
theorem leads_sub {bk : Bk} (ok : okB bk) : (∀ z ∈ bk.keys, ∀ y ∈ leadsB bk z, y ∈ bk.keys) ∧ ∀ z ∈ bk.keys, (leadsB bk z).length ≤ 40 := by
  refine ⟨fun z hz y hy => ?_, fun z hz => ?_⟩
  · obtain ⟨m, e⟩ := rule_of hz
    unfold leadsB at hy
    rw [e] at hy
    exact ok.full _ (rule_mem e) y (stand_names _ hy)
  · obtain ⟨m, e⟩ := rule_of hz
    unfold leadsB
    rw [e]
    exact Nat.le_trans (stand_len _ m) (ok.good _ (rule_mem e)).2.2.2
theorem pr_unfairwords (h : Has K mg "unfair_words" sUnfairWords ["book"]) (hB : Pr P w K mg base "bare_words" ["book"] (spBareWords K T) 8) (hS : Pr P w K mg base "standing_bare" ["bare", "making"] (spStand K T 7) 14)
    (hH : Pr P w K mg base "holds_bare" ["bare", "making"] (spHolds K T) 10) (hR : Pr P w K mg base "is_in_ring" ["leads", "word"] (spRing T) 1) (B : Bn mg) : Pr P w K mg base "unfair_words" ["book"] (spUnfair K T) 15 := by
  obtain ⟨f, fd, F, g, b⟩ := h
  obtain ⟨fB, fdB, GB, gB, kB, bB⟩ := hB.mono (k := 14) (by decide)
  obtain ⟨fS, fdS, GS, gS, kS, bS⟩ := hS
  obtain ⟨fH, fdH, GH, gH, kH, bH⟩ := hH.mono (k := 14) (by decide)
  obtain ⟨fR, fdR, GR, gR, kR, bR⟩ := hR.mono (k := 14) (by decide)
  refine ⟨f, fd, F.ok scUnfairWords (fun vs H Q E h => ?_) (fun cdv A outer s H vs Q E hr h => ?_), g, F.kp, b⟩
  · obtain ⟨a, bk, rfl, _⟩ := h
    rfl
  · obtain ⟨a, bk, rfl, ⟨kvs, hk, pr⟩, ok, ht, q⟩ := h
    refine' ⟨_, pss_cons ?s1 (pss_cons ?s2 (pss_one ?s3)), ?fin⟩
    case s1 => exact ps_set (i := 1) scUnfairWords.nd rfl (.inr rfl) (pe_call GB hr (by rfl) gB kB bB .nil pass0 (pa_cons (pv 0) pa_nil))
    case s2 => exact ps_set (i := 2) scUnfairWords.nd rfl (.inr rfl) (pe_lock (pe_dc (own := [("word", 3), ("rule", 4)]) (g := gTup K 2 (gCons (gName 3) (gCons (gName 4) gNil))) (tt := tYes) (tk := tVar 3) (tv := tCall (spStand K T 7) [] E (tCons (tVar 1) (tCons (tVar 4) tNil))) rfl scUnfairWords.nd (pi_items (pv 0)) (blkOk_by (N := ["book", "bare", "leads", "word", "rule"]) (sc := defScope sUnfairWords) (by decide +kernel))
      (fun _ _ _ _ _ => pg_tup rfl (pgs_cons (pg_name (i := 3) scUnfairWords.nd rfl (Or.inl rfl)) (pgs_cons (pg_name (i := 4) scUnfairWords.nd rfl (Or.inl rfl)) pgs_nil))) (fun _ _ _ _ _ => pts_nil) (fun _ _ _ _ _ => pv 3) (fun _ _ _ _ _ => pe_call GS hr (by rfl) gS kS bS .nil pass0 (pa_cons (pv 1) (pa_cons (pv 4) pa_nil)))))
    case s3 => exact ps_ret (pe_lc (own := [("word", 3)]) (g := gName 3) (te := tVar 3) (tt := tOr (tB (tCall (spHolds K T) [] E (tCons (tVar 1) (tCons (tDGet (tVar 0) (tVar 3)) tNil)))) (tB (tCall (spRing T) [] E (tCons (tVar 2) (tCons (tVar 3) tNil))))) rfl scUnfairWords.nd (pi_list (pe_callB (call_sortedD rfl) (by rfl) B.sorted boot_sorted (pa_cons (pv 0) pa_nil))) (blkOk_by (N := ["book", "bare", "leads", "word", "rule"]) (sc := defScope sUnfairWords) (by decide +kernel))
      (fun _ _ _ _ _ => pg_name (i := 3) scUnfairWords.nd rfl (Or.inl rfl)) (fun _ _ _ _ _ => pts_one (PW.pt (pw_or (pt_val (pe_call GH hr (by rfl) gH kH bH .nil pass0 (pa_cons (pv 1) (pa_cons (pe_dget (u1 hr.units) (pv 0) (pv 3) (fun _ _ => rfl)) pa_nil)))) (pw_or1 (pt_val (pe_call GR hr (by rfl) gR kR bR .nil pass0 (pa_cons (pv 2) (pa_cons (pv 3) pa_nil)))))))) (fun _ _ _ _ _ => pv 3))
    refine ⟨_, rfl, a, bk, rfl, ⟨kvs, hk, pr⟩, ok, ht, fun H1 p ks g1 np hp hks hk8 => ?_⟩
    have hk1 : H1 a = some (.dK kvs) := g1.at ht hk notbl_dK
    have nap : a ≠ p := ne_of_none hk np
    have pr1 : PrB K H1 kvs bk := paired_mono (fun _ _ r => ⟨r.1, r.2.gr g1 ht⟩) pr
    refine ⟨a, _, hk1, trivial, fun od => ?_⟩
    have tL := g1.tabs.lock (od := od) hk1 notbl_dK
    obtain ⟨l1, l2⟩ := IsB.lock (od := od) hk1 pr1
    have hpL : upd H1 a (.frz od (.dK kvs)) p = some (.dK (trues ks)) := by rw [upd_ne (Ne.symm nap)]; exact hp
    refine ⟨_, rfl, a, od, kvs, rfl, upd_same, fun D nD => ?_⟩
    have nDL := nD
    generalize hHL : upd H1 a (HO.frz od (.dK kvs)) = HL at tL l1 l2 hpL nD ⊢
    refine dc_it (walk_bitems (d := a) (o := od) l2) (fun i H' => Gr T HL H' ∧ ∃ kv', H' D = some (.dK kv') ∧ PrS (fun v m => ∃ l, v = .ref l ∧ H' l = some (.lst ((standB (Hx.lf bk) m).map V.str))) kv' (bk.take i))
      ⟨Gr.new tL _ nD, [], upd_same, .nil⟩ (fun i H' _ z => z.1.at tL l1 notbl_frz) (fun i x H2 H3 hi ⟨gr, kv', hD, pD⟩ ⟨t, wd, v', mm, eb, hM', ex, nt, eH⟩ => ?_) (fun H' ⟨gr, kv', hD, pD⟩ => ?_)
    · subst ex eH
      have hmem := List.mem_of_getElem? eb
      have gt := Gr.new gr.tabs (.tup [.str wd, v']) nt
      have g3 := gr.trans gt
      have om := (ok.good _ hmem).2
      refine ⟨t, _, rfl, .inl (.inl upd_same), rfl, _, _, rfl, _, _, rfl, rfl, rfl, tyes ?_⟩
      refine ⟨_, rfl, _, rfl, _, rfl, p, v', ks, mm, rfl, .inl (g3.at tL hpL notbl_dK), hM'.gr g3 tL, Nat.lt_succ_of_le om.2.1, Nat.lt_succ_of_le om.2.1, om.2.2, g3.tabs, fun H5 l g5 nl hl => ?_⟩
      have g6 := gt.trans g5
      have hD5 : H5 D = some (.dK kv') := g6.at gr.tabs hD notbl_dK
      have nlD : l ≠ D := fun z => by rw [z, hD5] at hl; cases hl
      have len : kv'.length = (bk.take i).length := paired_len pD
      refine ⟨kv', Sum.inr wd, rfl, hD5, ?_, ?_, kv' ++ [(Sum.inr wd, .ref l)], ?_, ?_⟩
      · rw [len, List.length_take]
        exact Nat.lt_of_le_of_lt (show min i bk.length ≤ 8 by have := ok.few; omega) (by decide)
      · exact (gr.trans g6).own tL _ nD
      · rw [put_new pD (take_keys ok.nd eb)]; exact upd_same
      · rw [List.take_add_one, eb]
        refine paired_append (paired_mono (fun kv pp r => ⟨r.1, r.2.imp fun l0 z => ⟨z.1, ?_⟩⟩) pD) (.cons ⟨rfl, l, rfl, by rw [upd_ne nlD, hl, hks]⟩ .nil)
        have n0 : l0 ≠ D := fun y => by rw [y, hD] at z; cases z.2
        rw [upd_ne n0]
        exact g6.at gr.tabs z.2 notbl_lst
    · rw [List.take_length] at pD
      have haF : H' a = some (.frz od (.dK kvs)) := gr.at tL l1 notbl_frz
      have naD : a ≠ D := fun y => by rw [y, hD] at haF; cases haF
      have hpF : H' p = some (.dK (trues ks)) := gr.at tL hpL notbl_dK
      refine ⟨haF, ?_⟩
      have g2 : Gr T H1 (upd H' a (.dK kvs)) := Gr.unlock (od := od) (by rw [hHL]; exact gr) g1.tabs hk1 notbl_dK
      have gA := g1.trans g2
      have pD3 : PrS (fun v m => ∃ l, v = .ref l ∧ upd H' a (.dK kvs) l = some (.lst ((standB (Hx.lf bk) m).map V.str))) kv' bk :=
        paired_mono (fun kv pp r => ⟨r.1, r.2.imp fun l0 z => ⟨z.1, by rw [upd_ne (show l0 ≠ a from fun y => by rw [y, haF] at z; cases z.2)]; exact z.2⟩⟩) pD
      have hD3 : upd H' a (.dK kvs) D = some (.dK kv') := by rw [upd_ne (Ne.symm naD)]; exact hD
      have hp3 : upd H' a (.dK kvs) p = some (.dK (trues ks)) := by rw [upd_ne (Ne.symm nap)]; exact hpF
      have ha3 : upd H' a (.dK kvs) a = some (.dK kvs) := upd_same
      generalize upd H' a (.dK kvs) = H3 at g2 gA pD3 hD3 hp3 ha3 ⊢
      have hL3 : LD H3 D (leadsB bk) bk.keys := ⟨kv', .inl hD3, fun z hz => by
        obtain ⟨m, em⟩ := rule_of hz
        rcases val_S (z := z) pD3 with ⟨h1, _⟩ | ⟨m', v, h1, h2, l, h3, h4⟩
        · rw [em] at h1; cases h1
        · rw [em] at h1; cases h1
          subst h3
          exact ⟨l, h2, by rw [h4]; unfold leadsB; rw [em]⟩⟩
      have hkk : kvs.map (·.1) = bk.keys.map Sum.inr := keys_S pr
      have hk64 : bk.keys.length < 64 := by unfold Bk.keys; rw [List.length_map]; have := ok.few; omega
      refine ⟨_, rfl, a, kvs, bk.keys, rfl, .inl ha3, hkk, hk64, fun ys l pm srt nl => ?_⟩
      refine ⟨l, rfl, ⟨_, SqL.of upd_same⟩, fun D2 nD2 => ?_⟩
      have gl := Gr.new gA.tabs (.lst (ys.map V.str)) nl
      have nlD2 : l ≠ D2 := ne_of_none upd_same nD2
      have gD2 := gl.trans (Gr.new gl.tabs (.lst []) nD2)
      refine lc_it (walk_list (K := K) (a := l) (xs := ys.map V.str)) (fun i H' => Gr T H3 H' ∧ H' l = some (.lst (ys.map V.str)) ∧ H' D2 = some (.lst (((ys.take i).filter (badB bk)).map V.str)))
        ⟨gD2, by rw [upd_ne nlD2]; exact upd_same, upd_same⟩ (fun i H' _ z => SqL.of z.2.1) (fun i x H4 H5 hi ⟨gr4, hl4, hD4⟩ ⟨e5, hx⟩ => ?_) (fun H4 ⟨gr4, hl4, hD4⟩ => ?_)
      · subst e5
        rw [List.getElem?_map] at hx
        cases ez : ys[i]? with
        | none => rw [ez] at hx; cases hx
        | some z =>
          rw [ez] at hx
          cases hx
          have hzk : z ∈ bk.keys := pm.mem_iff.mp (List.mem_of_getElem? ez)
          obtain ⟨m, em⟩ := rule_of hzk
          have hB5 : IsB K H5 a bk := IsB.gr (IsB.gr ⟨kvs, .inl hk, pr⟩ gA ht) gr4 gA.tabs
          obtain ⟨vm, dg, hMz⟩ := hB5.get em
          have om := (ok.good _ (rule_mem em)).2
          have nD2H : H3 D2 = none := Gr.free gA.tabs gl nD2
          -- the word stays, or goes
          have keep : ∀ H6, Gr T H5 H6 → badB bk z = true → ∃ acc, H6 D2 = some (.lst acc) ∧ acc.length < sizeLine ∧ Gr T H3 (upd H6 D2 (.lst (acc ++ [.str z]))) ∧ upd H6 D2 (.lst (acc ++ [.str z])) l = some (.lst (ys.map V.str)) ∧ upd H6 D2 (.lst (acc ++ [.str z])) D2 = some (.lst (((ys.take (i + 1)).filter (badB bk)).map V.str)) := fun H6 g6 hb => by
            refine ⟨_, g6.at gr4.tabs hD4 notbl_lst, ?_, (gr4.trans g6).own gA.tabs _ nD2H, by rw [upd_ne nlD2]; exact g6.at gr4.tabs hl4 notbl_lst, ?_⟩
            · rw [List.length_map]
              refine Nat.lt_of_le_of_lt (Nat.le_trans (List.length_filter_le _ _) ?_) (show 64 < sizeLine by decide)
              rw [List.length_take]
              have := pm.length_eq
              omega
            · rw [upd_same, List.take_add_one, ez]
              simp [hb]
          have drop : ∀ H6, Gr T H5 H6 → badB bk z = false → Gr T H3 H6 ∧ H6 l = some (.lst (ys.map V.str)) ∧ H6 D2 = some (.lst (((ys.take (i + 1)).filter (badB bk)).map V.str)) := fun H6 g6 hb => by
            refine ⟨gr4.trans g6, g6.at gr4.tabs hl4 notbl_lst, ?_⟩
            rw [g6.at gr4.tabs hD4 notbl_lst, List.take_add_one, ez]
            simp [hb]
          have eB : badB bk z = (looseM (Hx.lf bk) m || ringB (leadsB bk) z) := by unfold badB; rw [em]
          have tb5 := gr4.tabs
          refine ⟨rfl, _, rfl, _, rfl, _, rfl, a, vm, rfl, dg, p, vm, ks, m, rfl, .inl (gr4.at gA.tabs hp3 notbl_dK), hMz, ⟨Nat.lt_succ_of_le om.2.1, om.2.2⟩, tb5, fun H6 g6 => ⟨_, rfl, ?_⟩⟩
          rw [hks]
          cases e1 : looseM (Hx.lf bk) m with
          | true => exact if1 rfl (if1 rfl ⟨_, rfl, keep H6 g6 (by rw [eB, e1]; rfl)⟩)
          | false =>
            have g36 := gr4.trans g6
            refine if0 rfl ⟨_, rfl, _, rfl, D, z, leadsB bk, bk.keys, rfl, hL3.gr g36 gA.tabs, hzk, (leads_sub ok).1, (leads_sub ok).2, ?_, g6.tabs, fun H7 g7 => ⟨_, rfl, ?_⟩⟩
            · unfold Bk.keys; rw [List.length_map]; exact ok.few
            cases e2 : ringB (leadsB bk) z with
            | true => exact if1 rfl ⟨_, rfl, keep H7 (g6.trans g7) (by rw [eB, e1, e2]; rfl)⟩
            | false => exact if0 rfl (drop H7 (g6.trans g7) (by rw [eB, e1, e2]; rfl))
      · rw [show (ys.map V.str).length = ys.length from List.length_map .., List.take_length] at hD4
        exact q H4 D2 ys (gA.trans gr4) (Gr.free ht (gA.trans gl) nD2) pm srt hD4
end
end Lw
namespace Lw
open PySem PySem.Spec PyProof.Rows L2 Hx
abbrev sMay : Stmt := topS 42
abbrev sBareNames : Stmt := topS 43
abbrev sUnfair : Stmt := topS 44
theorem scMay : FnScope ["book", "making"] ["book", "making"] (defScope sMay) := ⟨rfl, rfl, rfl, by decide +kernel, rfl, by decide +kernel, by decide +kernel⟩
theorem scBareNames : FnScope ["book", "making"] ["book", "making"] (defScope sBareNames) := ⟨rfl, rfl, rfl, by decide +kernel, rfl, by decide +kernel, by decide +kernel⟩
theorem scUnfair : FnScope ["book"] ["book"] (defScope sUnfair) := ⟨rfl, rfl, rfl, by decide +kernel, rfl, by decide +kernel, by decide +kernel⟩
/-- the words l, rising, each once -/
structure Rising (l ys : List Str) : Prop where
  mem : ∀ z, z ∈ ys ↔ z ∈ l
  nd : ys.Nodup
  srt : sortedS ys = true
section
variable {P : Program} {w : World} {K : PySem.W.Frag} {mg : Str → Option Value} {base : Heap} {T : List Addr}
theorem pr_unfair (h : Has K mg "unfair" sUnfair ["book"]) (hN : Pr P w K mg base "need_book" ["thing"] (spBook K T .non) 20) (hU : Pr P w K mg base "unfair_words" ["book"] (spUnfair K T) 15) : Pr P w K mg base "unfair" ["book"] (spUnfair K T) 21 := by
  obtain ⟨f, fd, F, g, b⟩ := h
  obtain ⟨fN, fdN, GN, gN, kN, bN⟩ := hN
  obtain ⟨fU, fdU, GU, gU, kU, bU⟩ := hU.mono (k := 20) (by decide)
  refine ⟨f, fd, F.ok scUnfair (fun vs H Q E h => ?_) (fun cdv A outer s H vs Q E hr h => ?_), g, F.kp, b⟩
  · obtain ⟨a, bk, rfl, _⟩ := h
    rfl
  · obtain ⟨a, bk, rfl, hD, ok, ht, q⟩ := h
    refine' ⟨_, pss_cons ?s1 (pss_one ?s2), ?fin⟩
    case s1 => exact ps_expr (pe_call GN hr (by rfl) gN kN bN .nil pass0 (pa_cons (pv 0) pa_nil))
    case s2 => exact ps_ret (pe_call GU hr (by rfl) gU kU bU .nil pass0 (pa_cons (pv 0) pa_nil))
    exact ⟨_, rfl, a, bk, rfl, hD, ok, ht, fun H1 g1 => ⟨_, rfl, a, bk, rfl, hD.gr g1 ht, ok, g1.tabs, fun H2 p ys g2 np pm srt e => q H2 p ys (g1.trans g2) (Gr.free ht g1 np) pm srt e⟩⟩
def spMay (K : PySem.W.Frag) (T : List Addr) : Sp := fun vs H Q _ => ∃ (a : Addr) (v : V) (bk : Bk) (m : Hx.Mk), vs = [.ref a, v] ∧ IsD0 K H a bk ∧ okB bk ∧ IsM K H v m ∧ okM m ∧ (∀ z ∈ m.names, z ∈ bk.keys) ∧ TabsG T H ∧ ∀ H', Gr T H H' → Q (.bl (bareM (Hx.lf bk) m)) H'
def spBareNames (K : PySem.W.Frag) (T : List Addr) : Sp := fun vs H Q _ => ∃ (a : Addr) (v : V) (bk : Bk) (m : Hx.Mk), vs = [.ref a, v] ∧ IsD0 K H a bk ∧ okB bk ∧ IsM K H v m ∧ okM m ∧ (∀ z ∈ m.names, z ∈ bk.keys) ∧ TabsG T H ∧
  ∀ H' p ys, Gr T H H' → H p = none → Rising (standB (Hx.lf bk) m) ys → H' p = some (.lst (ys.map V.str)) → Q (.ref p) H'
theorem pr_may (h : Has K mg "may_be_bare" sMay ["book", "making"]) (hN : Pr P w K mg base "need_book" ["thing"] (spBook K T .non) 20) (hM : Pr P w K mg base "need_making" ["thing"] (spMak K T .non) 18) (hR : Pr P w K mg base "need_rules" ["book", "making"] (spNeedRules K T) 11)
    (hI : Pr P w K mg base "is_bare" ["bare", "making"] (spBare K T 7) 7) (hB : Pr P w K mg base "bare_words" ["book"] (spBareWords K T) 8) : Pr P w K mg base "may_be_bare" ["book", "making"] (spMay K T) 21 := by
  obtain ⟨f, fd, F, g, b⟩ := h
  obtain ⟨fN, fdN, GN, gN, kN, bN⟩ := hN
  obtain ⟨fM, fdM, GM, gM, kM, bM⟩ := hM.mono (k := 20) (by decide)
  obtain ⟨fR, fdR, GR, gR, kR, bR⟩ := hR.mono (k := 20) (by decide)
  obtain ⟨fI, fdI, GI, gI, kI, bI⟩ := hI.mono (k := 20) (by decide)
  obtain ⟨fB, fdB, GB, gB, kB, bB⟩ := hB.mono (k := 20) (by decide)
  refine ⟨f, fd, F.ok scMay (fun vs H Q E h => ?_) (fun cdv A outer s H vs Q E hr h => ?_), g, F.kp, b⟩
  · obtain ⟨a, v, bk, m, rfl, _⟩ := h
    rfl
  · obtain ⟨a, v, bk, m, rfl, hD, ok, hm, om, hz, ht, q⟩ := h
    refine' ⟨_, pss_cons ?s1 (pss_cons ?s2 (pss_cons ?s3 (pss_one ?s4))), ?fin⟩
    case s1 => exact ps_expr (pe_call GN hr (by rfl) gN kN bN .nil pass0 (pa_cons (pv 0) pa_nil))
    case s2 => exact ps_expr (pe_call GM hr (by rfl) gM kM bM .nil pass0 (pa_cons (pv 1) pa_nil))
    case s3 => exact ps_expr (pe_call GR hr (by rfl) gR kR bR .nil pass0 (pa_cons (pv 0) (pa_cons (pv 1) pa_nil)))
    case s4 => exact ps_ret (pe_call GI hr (by rfl) gI kI bI .nil pass0 (pa_cons (pe_call GB hr (by rfl) gB kB bB .nil pass0 (pa_cons (pv 0) pa_nil)) (pa_cons (pv 1) pa_nil)))
    have om' : okM' m := ⟨Nat.lt_succ_of_le om.2.1, om.2.2⟩
    refine ⟨_, rfl, a, bk, rfl, hD, ok, ht, fun H1 g1 => ⟨_, rfl, v, m, rfl, hm.gr g1 ht, om, g1.tabs, fun H2 g2 => ?_⟩⟩
    have g12 := g1.trans g2
    refine ⟨_, rfl, _, rfl, a, v, bk, m, rfl, hD.b.gr g12 ht, hm.gr g12 ht, om', hz, g12.tabs, fun H3 g3 => ?_⟩
    have g13 := g12.trans g3
    refine ⟨_, rfl, a, bk, rfl, hD.gr g13 ht, ok, g13.tabs, fun H4 p ks g4 np hp hks _ => ?_⟩
    have g14 := g13.trans g4
    refine ⟨_, rfl, p, v, ks, m, rfl, .inl hp, hm.gr g14 ht, om'.1, g4.tabs, fun H5 g5 => ?_⟩
    rw [hks]
    exact q H5 (g14.trans g5)
theorem pr_barenames (h : Has K mg "bare_names" sBareNames ["book", "making"]) (hN : Pr P w K mg base "need_book" ["thing"] (spBook K T .non) 20) (hM : Pr P w K mg base "need_making" ["thing"] (spMak K T .non) 18) (hR : Pr P w K mg base "need_rules" ["book", "making"] (spNeedRules K T) 11)
    (hI : Pr P w K mg base "standing_bare" ["bare", "making"] (spStand K T 7) 14) (hB : Pr P w K mg base "bare_words" ["book"] (spBareWords K T) 8) (B : Bn mg) : Pr P w K mg base "bare_names" ["book", "making"] (spBareNames K T) 21 := by
  obtain ⟨f, fd, F, g, b⟩ := h
  obtain ⟨fN, fdN, GN, gN, kN, bN⟩ := hN
  obtain ⟨fM, fdM, GM, gM, kM, bM⟩ := hM.mono (k := 20) (by decide)
  obtain ⟨fR, fdR, GR, gR, kR, bR⟩ := hR.mono (k := 20) (by decide)
  obtain ⟨fI, fdI, GI, gI, kI, bI⟩ := hI.mono (k := 20) (by decide)
  obtain ⟨fB, fdB, GB, gB, kB, bB⟩ := hB.mono (k := 20) (by decide)
  refine ⟨f, fd, F.ok scBareNames (fun vs H Q E h => ?_) (fun cdv A outer s H vs Q E hr h => ?_), g, F.kp, b⟩
  · obtain ⟨a, v, bk, m, rfl, _⟩ := h
    rfl
  · obtain ⟨a, v, bk, m, rfl, hD, ok, hm, om, hz, ht, q⟩ := h
    refine' ⟨_, pss_cons ?s1 (pss_cons ?s2 (pss_cons ?s3 (pss_one ?s4))), ?fin⟩
    case s1 => exact ps_expr (pe_call GN hr (by rfl) gN kN bN .nil pass0 (pa_cons (pv 0) pa_nil))
    case s2 => exact ps_expr (pe_call GM hr (by rfl) gM kM bM .nil pass0 (pa_cons (pv 1) pa_nil))
    case s3 => exact ps_expr (pe_call GR hr (by rfl) gR kR bR .nil pass0 (pa_cons (pv 0) (pa_cons (pv 1) pa_nil)))
    case s4 => exact ps_ret (pe_callB (Sx.cr_sort rfl) (by rfl) B.sorted boot_sorted (pa_cons (pe_callTy (Sx.cr_set rfl) (by rfl) B.set (by decide +kernel) (pa_cons (pe_call GI hr (by rfl) gI kI bI .nil pass0 (pa_cons (pe_call GB hr (by rfl) gB kB bB .nil pass0 (pa_cons (pv 0) pa_nil)) (pa_cons (pv 1) pa_nil))) pa_nil)) pa_nil))
    have om' : okM' m := ⟨Nat.lt_succ_of_le om.2.1, om.2.2⟩
    refine ⟨_, rfl, a, bk, rfl, hD, ok, ht, fun H1 g1 => ⟨_, rfl, v, m, rfl, hm.gr g1 ht, om, g1.tabs, fun H2 g2 => ?_⟩⟩
    have g12 := g1.trans g2
    refine ⟨_, rfl, _, rfl, a, v, bk, m, rfl, hD.b.gr g12 ht, hm.gr g12 ht, om', hz, g12.tabs, fun H3 g3 => ?_⟩
    have g13 := g12.trans g3
    refine ⟨_, rfl, a, bk, rfl, hD.gr g13 ht, ok, g13.tabs, fun H4 p ks g4 np hp hks _ => ?_⟩
    have g14 := g13.trans g4
    refine ⟨_, rfl, p, v, ks, m, rfl, .inl hp, hm.gr g14 ht, om'.1, om'.1, om'.2, g4.tabs, fun H5 l g5 nl hl => ?_⟩
    rw [hks] at hl
    have g15 := g14.trans g5
    have hl40 : (standB (Hx.lf bk) m).length ≤ 40 := Nat.le_trans (stand_len _ m) om'.2
    refine ⟨l, standB (Hx.lf bk) m, rfl, SqL.of hl, by omega, fun sa sl nsa mem nd len => ?_⟩
    have g16 := g15.trans (Gr.new g15.tabs (Sx.TxO P w sa sl) nsa)
    refine ⟨sa, sl, rfl, upd_same, by omega, fun ys p2 pm srt np2 => ?_⟩
    exact q _ p2 ys (g16.trans (Gr.new g16.tabs _ np2)) (Gr.free ht g16 np2) ⟨fun z => (pm.mem_iff).trans (mem z), pm.nodup_iff.mpr nd, srt⟩ upd_same
end
end Lw
namespace Lw
open PySem PySem.Spec PyProof.Rows L2 Hx
abbrev sCan : Stmt := topS 73
abbrev sFlags : Stmt := topS 74
abbrev sOnes : Stmt := topS 78
abbrev sLoose : Stmt := topS 79
abbrev sWrong : Stmt := topS 80
theorem scCan : FnScope ["_law_rules", "_law_making", "_law_flags_here", "_law_act"] ["_law_rules", "_law_making", "_law_flags_here"] (defScope sCan) := ⟨rfl, rfl, rfl, by decide +kernel, rfl, by decide +kernel, by decide +kernel⟩
theorem scFlags : FnScope ["_law_rules", "_law_found", "_law_name", "_law_turn", "_law_more"] ["_law_rules"] (defScope sFlags) := ⟨rfl, rfl, rfl, by decide +kernel, rfl, by decide +kernel, by decide +kernel⟩
/-- a dict of words to truths -/
def FD (H : Hp) (d : Addr) (b : Str → Bool) (keys : List Str) : Prop := ∃ kvs, Rd H d (.dK kvs) ∧ ∀ z ∈ keys, valV kvs (Sum.inr z : Key) = some (.bl (b z))
theorem FD.gr {T : List Addr} {H H' : Hp} {d : Addr} {b : Str → Bool} {keys : List Str} (h : FD H d b keys) (g : Gr T H H') (t : TabsG T H) : FD H' d b keys := h.imp fun kvs z => ⟨rd_gr g t z.1, z.2⟩
section
variable {P : Program} {w : World} {K : PySem.W.Frag} {mg : Str → Option Value} {base : Heap} {T : List Addr}
def spCan (K : PySem.W.Frag) (T : List Addr) (n : Nat) : Sp := fun vs H Q _ => ∃ (r v : V) (d : Addr) (b : Str → Bool) (keys : List Str) (m : Hx.Mk), vs = [r, v, .ref d] ∧ FD H d b keys ∧ IsM K H v m ∧ (∀ z ∈ m.names, z ∈ keys) ∧ m.depth < n ∧ TabsG T H ∧ ∀ H', Gr T H H' → Q (.bl (bareM b m)) H'
theorem ok_canS {f : Addr} {fd : FuncData} {d L : Nat} (F : Fun K "_law_can_be_bare" "_law_can_be_bare" sCan f fd) (G : FnOk P w K mg base CX0 L f fd ["_law_rules", "_law_making", "_law_flags_here"] (spCan K T d)) (bF : Binds K fd ["_law_rules", "_law_making", "_law_flags_here"] []) (gF : mg "_law_can_be_bare" = some (.ref f)) :
    FnOk P w K mg base CX0 (L + 1) f fd ["_law_rules", "_law_making", "_law_flags_here"] (spCan K T (d + 1)) := by
  refine F.ok scCan (fun vs H Q E h => ?_) (fun cdv A outer s H vs Q E hr h => ?_)
  · obtain ⟨r, v, d, b, keys, m, rfl, _⟩ := h
    rfl
  · obtain ⟨r, v, dd, b, keys, m, rfl, hF, hM, hn, hd, ht, q⟩ := h
    have call : ∀ {i : Int} {p1 p2 p3 p4 p5 p6 p7 : Pos} {j : Nat}, PE (cxOf CX0 P w K mg base ["_law_rules", "_law_making", "_law_flags_here", "_law_act"] "_law_can_be_bare" (defScope sCan) f cdv A outer s H E).nox (.Call (.Name "_law_can_be_bare" p1) [.Name "_law_rules" p2, .Subscript (.Name "_law_making" p3) (.Constant (.int i) j p4) p5, .Name "_law_flags_here" p6] [] p7) (tCall (spCan K T d) [] E (tCons (tVar 0) (tCons (tOp (rIxT K) (tVar 1) (tC (.int i))) (tCons (tVar 2) tNil)))) := by
      intros
      exact pe_call G hr (by rfl) gF F.kp bF .nil pass0 (pa_cons (pv 0) (pa_cons (pe_ix ix_tup (pv 1) pe_int (fun _ _ => rfl)) (pa_cons (pv 2) pa_nil)))
    refine' ⟨_, pss_cons ?s1 (pss_cons ?s2 (pss_cons ?s3 (pss_cons ?s4 (pss_one ?s5)))), ?fin⟩
    case s1 => exact ps_set (i := 3) scCan.nd rfl (.inl rfl) (pe_ix ix_tup (pv 1) pe_int (fun _ _ => rfl))
    case s2 => exact ps_if (pt_cmpR op_in_seq (pv 3) (pe_tup (pa_cons pe_str (pa_cons pe_str (pa_cons pe_str (pa_cons pe_str pa_nil))))) rfl) (pss_one (ps_ret pe_bl)) pss_nil
    case s3 => exact ps_if (pt_cmpR op_eq (pv 3) pe_str (nomark _)) (pss_one (ps_ret (pe_dget (u1 hr.units) (pv 2) (pe_ix ix_tup (pv 1) pe_int (fun _ _ => rfl)) (fun _ _ => rfl)))) pss_nil
    case s4 => exact ps_if (pt_cmpR op_eq (pv 3) pe_str (nomark _)) (pss_one (ps_ret (pe_or call (pe_one call)))) pss_nil
    case s5 => exact ps_ret (pe_and (pe_cmpR op_eq (pv 3) pe_str (nomark _)) (pe_and call (pe_one call)))
    refine Classical.byContradiction fun hG => ?_
    have yes : ∀ (a : Addr) (tag : Str) (rest : List V), v = .ref a → SqT K H a (.str tag :: rest) → inV (V.str tag) [.str "unit", .str "row", .str "bag", .str "set"] = true → bareM b m = true → False := by
      intro a tag rest ev hT hin hb
      subst ev
      refine hG ⟨_, rfl, a, _, 0, _, rfl, rfl, hT, atI_nat (j := 0) rfl, ?_⟩
      refine ⟨_, rfl, by show 4 ≤ sizeLine; decide, fun p np => ⟨p, _, rfl, .inr (.inl (.inl upd_same)), rfl, rfl, _, rfl, if1 hin ?_⟩⟩
      have z := q _ (Gr.new ht (.tup [.str "unit", .str "row", .str "bag", .str "set"]) np)
      rw [hb] at z
      exact z
    have no : ∀ (a : Addr) (tag : Str) (rest : List V), v = .ref a → SqT K H a (.str tag :: rest) → inV (V.str tag) [.str "unit", .str "row", .str "bag", .str "set"] = false → tag ≠ "name" → tag ≠ "sum" → tag ≠ "pair" → bareM b m = false → False := by
      intro a tag rest ev hT hin n1 n2 n3 hb
      subst ev
      refine hG ⟨_, rfl, a, _, 0, _, rfl, rfl, hT, atI_nat (j := 0) rfl, ?_⟩
      refine ⟨_, rfl, by show 4 ≤ sizeLine; decide, fun p np => ⟨p, _, rfl, .inr (.inl (.inl upd_same)), rfl, rfl, _, rfl, if0 hin ?_⟩⟩
      refine ⟨_, rfl, rfl, _, rfl, if0 (strne n1) ⟨_, rfl, rfl, _, rfl, if0 (strne n2) ⟨_, rfl, rfl, false, congrArg V.bl (strne n3), if0 rfl ?_⟩⟩⟩
      have z := q _ (Gr.new ht (.tup [.str "unit", .str "row", .str "bag", .str "set"]) np)
      rw [hb] at z
      exact z
    cases hM with
    | @k0 a k hT => cases k with
      | none => exact no a _ _ rfl hT (by decide) (by decide) (by decide) (by decide) rfl
      | unit => exact yes a _ _ rfl hT (by decide) rfl
    | @atom a c hT => exact no a _ _ rfl hT (by decide) (by decide) (by decide) (by decide) rfl
    | @k1 a k _ _ hT _ => exact yes a _ _ rfl hT (by cases k <;> decide) rfl
    | @name a z hT =>
      refine hG ⟨_, rfl, a, _, 0, _, rfl, rfl, hT, atI_nat (j := 0) rfl, ?_⟩
      refine ⟨_, rfl, by show 4 ≤ sizeLine; decide, fun p np => ⟨p, _, rfl, .inr (.inl (.inl upd_same)), rfl, rfl, _, rfl, if0 (by decide) ?_⟩⟩
      have g1 := Gr.new ht (.tup [.str "unit", .str "row", .str "bag", .str "set"]) np
      obtain ⟨kvs, rd, look⟩ := hF.gr g1 ht
      exact ⟨_, rfl, rfl, _, rfl, if1 rfl ⟨_, rfl, _, rfl, a, _, 1, _, rfl, rfl, g1.seqT ht hT, atI_nat (j := 1) rfl, dd, .bl (b z), rfl, .inl ⟨kvs, .inr z, rd, rfl, (look z (hn z List.mem_cons_self)).symm⟩, q _ g1⟩⟩
    | @k2 a k u1 u2 m1 m2 hT h1 h2 =>
      simp only [Hx.Mk.depth] at hd
      have hn1 : ∀ z ∈ m1.names, z ∈ keys := fun z hz => hn z (List.mem_append_left _ hz)
      have hn2 : ∀ z ∈ m2.names, z ∈ keys := fun z hz => hn z (List.mem_append_right _ hz)
      cases k with
      | sum =>
        refine hG ⟨_, rfl, a, _, 0, _, rfl, rfl, hT, atI_nat (j := 0) rfl, ?_⟩
        refine ⟨_, rfl, by show 4 ≤ sizeLine; decide, fun p np => ⟨p, _, rfl, .inr (.inl (.inl upd_same)), rfl, rfl, _, rfl, if0 (by decide) ?_⟩⟩
        have g1 := Gr.new ht (.tup [.str "unit", .str "row", .str "bag", .str "set"]) np
        refine ⟨_, rfl, rfl, _, rfl, if0 (strne (by decide)) ⟨_, rfl, rfl, _, rfl, if1 rfl ?_⟩⟩
        refine ⟨_, rfl, _, rfl, a, _, 1, _, rfl, rfl, g1.seqT ht hT, atI_nat (j := 1) rfl, _, rfl, r, u1, dd, b, keys, m1, rfl, hF.gr g1 ht, h1.gr g1 ht, hn1, by omega, g1.tabs, fun H1 g2 => ⟨_, rfl, ?_⟩⟩
        have g12 := g1.trans g2
        cases e1 : bareM b m1 with
        | true => exact if1 rfl (by have z := q H1 g12; simp only [bareM, e1, Bool.true_or] at z; exact z)
        | false =>
          refine if0 rfl ⟨_, rfl, _, rfl, a, _, 2, _, rfl, rfl, g12.seqT ht hT, atI_nat (j := 2) rfl, _, rfl, r, u2, dd, b, keys, m2, rfl, hF.gr g12 ht, h2.gr g12 ht, hn2, by omega, g12.tabs, fun H2 g3 => ?_⟩
          have z := q H2 (g12.trans g3); simp only [bareM, e1, Bool.false_or] at z; exact z
      | pair =>
        refine hG ⟨_, rfl, a, _, 0, _, rfl, rfl, hT, atI_nat (j := 0) rfl, ?_⟩
        refine ⟨_, rfl, by show 4 ≤ sizeLine; decide, fun p np => ⟨p, _, rfl, .inr (.inl (.inl upd_same)), rfl, rfl, _, rfl, if0 (by decide) ?_⟩⟩
        have g1 := Gr.new ht (.tup [.str "unit", .str "row", .str "bag", .str "set"]) np
        refine ⟨_, rfl, rfl, _, rfl, if0 (strne (by decide)) ⟨_, rfl, rfl, _, rfl, if0 (strne (by decide)) ⟨_, rfl, rfl, true, rfl, if1 rfl ?_⟩⟩⟩
        refine ⟨_, rfl, _, rfl, a, _, 1, _, rfl, rfl, g1.seqT ht hT, atI_nat (j := 1) rfl, _, rfl, r, u1, dd, b, keys, m1, rfl, hF.gr g1 ht, h1.gr g1 ht, hn1, by omega, g1.tabs, fun H1 g2 => ⟨_, rfl, ?_⟩⟩
        have g12 := g1.trans g2
        cases e1 : bareM b m1 with
        | false => exact if0 rfl (by have z := q H1 g12; simp only [bareM, e1, Bool.false_and] at z; exact z)
        | true =>
          refine if1 rfl ⟨_, rfl, _, rfl, a, _, 2, _, rfl, rfl, g12.seqT ht hT, atI_nat (j := 2) rfl, _, rfl, r, u2, dd, b, keys, m2, rfl, hF.gr g12 ht, h2.gr g12 ht, hn2, by omega, g12.tabs, fun H2 g3 => ?_⟩
          have z := q H2 (g12.trans g3); simp only [bareM, e1, Bool.true_and] at z; exact z
theorem can_zero {f : Addr} {fd : FuncData} : FnOk P w K mg base CX0 0 f fd ["_law_rules", "_law_making", "_law_flags_here"] (spCan K T 0) := by
  have no : ∀ vs H Q E, ¬ spCan K T 0 vs H Q E := fun vs H Q E ⟨_, _, _, _, _, _, _, _, _, _, h, _⟩ => by omega
  exact ⟨fun vs H Q E h => absurd h (no vs H Q E), fun A outer s H args us vs Q E _ _ _ _ h => absurd h (no vs H Q E)⟩
theorem pr_can (h : Has K mg "_law_can_be_bare" sCan ["_law_rules", "_law_making", "_law_flags_here"]) : Pr P w K mg base "_law_can_be_bare" ["_law_rules", "_law_making", "_law_flags_here"] (spCan K T 7) 7 := by
  obtain ⟨f, fd, F, g, b⟩ := h
  have all : ∀ d : Nat, FnOk P w K mg base CX0 d f fd ["_law_rules", "_law_making", "_law_flags_here"] (spCan K T d) := by
    intro d
    induction d with
    | zero => exact can_zero
    | succ d ih => exact ok_canS F ih b g
  exact ⟨f, fd, all 7, g, F.kp, b⟩
end
end Lw
namespace Lw
open PySem PySem.Spec PyProof.Rows L2 Hx
def flagsD (bk : Bk) (f : Str → Bool) : List (Key × V) := bk.map fun p => (Sum.inr p.1, V.bl (f p.1))
theorem val_flags {f : Str → Bool} {z : Str} : ∀ {bk : Bk}, z ∈ bk.keys → valV (flagsD bk f) (Sum.inr z : Key) = some (.bl (f z))
  | (y, m) :: r, h => by
    by_cases e : y = z
    · subst e; simp [valV, flagsD]
    · have e2 : valV (flagsD ((y, m) :: r) f) (Sum.inr z : Key) = valV (flagsD r f) (Sum.inr z) := by
        unfold valV flagsD
        rw [List.map_cons, List.find?_cons_of_neg (by simpa using fun q : (Sum.inr y : Key) = Sum.inr z => e (Sum.inr.inj q))]
      rw [e2]
      rcases List.mem_cons.mp h with h | h
      · exact absurd h.symm e
      · exact val_flags h
theorem put_flags {f : Str → Bool} {bk : Bk} {i : Nat} {z : Str} {m : Hx.Mk} (nd : bk.keys.Nodup) (e : bk[i]? = some (z, m)) : putK (flagsD (bk.take i) f) (Sum.inr z : Key) (V.bl (f z)) = flagsD (bk.take (i + 1)) f := by
  have hz := take_keys nd e
  have : ((flagsD (bk.take i) f).any fun kv => decide (kv.1 = (Sum.inr z : Key))) = false := by
    rw [List.any_eq_false]
    intro kv hkv
    obtain ⟨p, hp, rfl⟩ := List.mem_map.mp hkv
    simp only [decide_eq_true_eq]
    exact fun q => hz (List.mem_map.mpr ⟨p, hp, Sum.inr.inj q⟩)
  unfold putK
  rw [this, if_neg Bool.false_ne_true, List.take_add_one, e]
  simp [flagsD]
theorem flags_congr {f g : Str → Bool} {bk : Bk} (h : ∀ z ∈ bk.keys, f z = g z) : flagsD bk f = flagsD bk g := List.map_congr_left fun p hp => by rw [h p.1 (List.mem_map.mpr ⟨p, hp, rfl⟩)]
section
variable {P : Program} {w : World} {K : PySem.W.Frag} {mg : Str → Option Value} {base : Heap} {T : List Addr}
def spFlags (K : PySem.W.Frag) (T : List Addr) : Sp := fun vs H Q _ => ∃ (a : Addr) (bk : Bk), vs = [.ref a] ∧ IsD0 K H a bk ∧ okB bk ∧ TabsG T H ∧ ∀ H' p, Gr T H H' → H p = none → H' p = some (.dK (flagsD bk (Hx.lf bk))) → Q (.ref p) H'
theorem pr_flags (h : Has K mg "_law_flags" sFlags ["_law_rules"]) (hC : Pr P w K mg base "_law_can_be_bare" ["_law_rules", "_law_making", "_law_flags_here"] (spCan K T 7) 7) (B : Bn mg) : Pr P w K mg base "_law_flags" ["_law_rules"] (spFlags K T) 8 := by
  obtain ⟨f, fd, F, g, b⟩ := h
  obtain ⟨fC, fdC, GC, gC, kC, bC⟩ := hC
  refine ⟨f, fd, F.ok scFlags (fun vs H Q E h => ?_) (fun cdv A outer s H vs Q E hr h => ?_), g, F.kp, b⟩
  · obtain ⟨a, bk, rfl, _⟩ := h
    rfl
  · obtain ⟨a, bk, rfl, ⟨kvs, hk, pr⟩, ok, ht, q⟩ := h
    refine' ⟨_, pss_cons ?s1 (pss_cons (ps_lock ?s2) (pss_cons ?s3 (pss_one ?s4))), ?fin⟩
    case s1 => exact ps_set (i := 1) scFlags.nd rfl (.inl rfl) pe_dnewK
    case s2 =>
      refine' ps_for PassesOwn.never rfl ?i ?g (pss_one ?b)
      case i => exact pi_keys (pv 0)
      case g => exact pg_name (i := 2) scFlags.nd rfl (Or.inl rfl)
      case b => exact ps_dput (u1 hr.units) (pv 1) (pv 2) pe_bl rfl
    case s3 =>
      refine' ps_for PassesOwn.never rfl ?i ?g (pss_cons ?b1 (pss_cons (ps_lock ?b2) (pss_one ?b3)))
      case i => exact pi_range1 rfl B.range (pa_cons (pe_op op_add (pe_callB call_lenD (by rfl) B.len PySem.boot_len (pa_cons (pv 0) pa_nil)) pe_int) pa_nil)
      case g => exact pg_name (i := 3) scFlags.nd rfl (Or.inl rfl)
      case b1 => exact ps_set (i := 4) scFlags.nd rfl (.inl rfl) pe_dnewK
      case b2 =>
        refine' ps_for PassesOwn.never rfl ?i ?g (pss_one ?b)
        case i => exact pi_keys (pv 0)
        case g => exact pg_name (i := 2) scFlags.nd rfl (Or.inl rfl)
        case b => exact ps_dput (u1 hr.units) (pv 4) (pv 2) (pe_call GC hr (by rfl) gC kC bC .nil pass0 (pa_cons (pv 0) (pa_cons (pe_dget (u1 hr.units) (pv 0) (pv 2) (fun _ _ => rfl)) (pa_cons (pv 1) pa_nil)))) rfl
      case b3 => exact ps_set (i := 1) scFlags.nd rfl (.inl rfl) (pv 4)
    case s4 => exact ps_ret (pv 1)
    have hlen : kvs.length = bk.length := paired_len pr
    have small : ∀ i, (flagsD (bk.take i) (fun _ => false)).length < sizeLine ∧ ∀ ff, (flagsD (bk.take i) ff).length < sizeLine := fun i => by
      have : ∀ ff, (flagsD (bk.take i) ff).length < sizeLine := fun ff => by
        unfold flagsD
        rw [List.length_map, List.length_take]
        exact Nat.lt_of_le_of_lt (show min i bk.length ≤ 8 by have := ok.few; omega) (by decide)
      exact ⟨this _, this⟩
    intro p np
    have g0 := Gr.new ht (.dK []) np
    have nap : a ≠ p := ne_of_none hk np
    have hk0 : upd H p (.dK []) a = some (.dK kvs) := by rw [upd_ne nap]; exact hk
    have pr0 : PrB K (upd H p (.dK [])) kvs bk := paired_mono (fun _ _ r => ⟨r.1, r.2.gr g0 ht⟩) pr
    refine ⟨a, _, hk0, trivial, fun od => ?_⟩
    have tL := g0.tabs.lock (od := od) hk0 notbl_dK
    obtain ⟨l1, l2⟩ := IsB.lock (od := od) hk0 pr0
    have hpL : upd (upd H p (.dK [])) a (.frz od (.dK kvs)) p = some (.dK []) := by rw [upd_ne (Ne.symm nap)]; exact upd_same
    refine ⟨_, rfl, a, od, rfl, .inl ⟨kvs, upd_same, ?_⟩⟩
    refine for_it (walk_bkeys (d := a) (o := od) l2) (fun i σ H' => ∃ y, σ = [some (.ref a), some (.ref p), y, none, none] ∧ H' = upd (upd (upd H p (.dK [])) a (.frz od (.dK kvs))) p (.dK (flagsD (bk.take i) fun _ => false)))
      ⟨none, rfl, ?_⟩ (fun i σ H' _ ⟨y, _, e⟩ => by rw [e, upd_ne nap]; exact upd_same) (fun i x σ H' H'' hi ⟨y, eσ, eH⟩ ⟨e1, z, m, eb, ex⟩ => ?_) (fun σ H' ⟨y, eσ, eH⟩ => ?_)
    · funext b
      by_cases e : b = p
      · subst e; rw [upd_same, hpL]; rfl
      · rw [upd_ne e]
    · subst eσ e1 ex eH
      refine ⟨_, rfl, _, rfl, p, _, rfl, .inl ⟨_, Sum.inr z, upd_same, rfl, (small i).1, rfl⟩, _, rfl, ?_⟩
      rw [put_flags (f := fun _ => false) ok.nd eb]
      funext b
      by_cases e : b = p
      · subst e; rw [upd_same, upd_same]
      · rw [upd_ne e, upd_ne e, upd_ne e]
    · subst eσ
      rw [List.take_length] at eH
      have hpF : H' p = some (.dK (flagsD bk fun _ => false)) := by rw [eH, upd_same]
      have hrest : ∀ b, b ≠ p → upd H' a (.dK kvs) b = H b := fun b n => by
        by_cases e : b = a
        · subst e; rw [upd_same, hk]
        · rw [upd_ne e, eH, upd_ne n, upd_ne e, upd_ne n]
      refine ⟨by rw [eH, upd_ne nap]; exact upd_same, ?_⟩
      have g1 : Gr T H (upd H' a (.dK kvs)) := by
        refine ⟨fun b o e nb => ?_, fun Pt hPt => ?_⟩
        · rw [hrest b (ne_of_none e np)]; exact e
        · obtain ⟨ps, e, tr⟩ := ht Pt hPt
          exact ⟨ps, by rw [hrest Pt (ne_of_none e np)]; exact e, tr⟩
      have hp1 : upd H' a (.dK kvs) p = some (.dK (flagsD bk fun _ => false)) := by rw [upd_ne (Ne.symm nap)]; exact hpF
      have ha1 : upd H' a (.dK kvs) a = some (.dK kvs) := upd_same
      generalize upd H' a (.dK kvs) = H1 at g1 hp1 ha1 ⊢
      refine ⟨_, rfl, a, kvs, rfl, ha1, _, 1, rfl, rfl, _, rfl, ?_⟩
      have hj : ((kvs.length : Nat) : Int) + 1 = ((bk.length + 1 : Nat) : Int) := by rw [hlen]; rfl
      rw [hj]
      refine ⟨by omega, by have := ok.few; omega, ?_⟩
      rw [Int.toNat_natCast]
      refine for_it (walk_range (lo := 0) (n := bk.length + 1)) (fun k σ H' => ∃ pf y t mo, σ = [some (.ref a), some (.ref pf), y, t, mo] ∧ Gr T H H' ∧ H pf = none ∧ H' pf = some (.dK (flagsD bk (itF bk k))))
        ⟨p, _, _, _, rfl, g1, np, hp1⟩ (fun _ _ _ _ _ => trivial) (fun k x σ H2 H2' hk' ⟨pf, y, t, mo, eσ, gr, npf, hpf⟩ ⟨e1, ex⟩ => ?_) (fun σ H2 ⟨pf, y, t, mo, eσ, gr, npf, hpf⟩ => ?_)
      · subst eσ e1
        intro r nr
        have g2 := gr.trans (Gr.new gr.tabs (.dK []) nr)
        have nr0 : H r = none := Gr.free ht gr nr
        have nar : a ≠ r := ne_of_none hk nr0
        have npr : pf ≠ r := ne_of_none hpf nr
        have hk2 : upd H2' r (.dK []) a = some (.dK kvs) := g2.at ht hk notbl_dK
        have pr2 : PrB K (upd H2' r (.dK [])) kvs bk := paired_mono (fun _ _ z => ⟨z.1, z.2.gr g2 ht⟩) pr
        refine ⟨a, _, hk2, trivial, fun od2 => ?_⟩
        have tL2 := g2.tabs.lock (od := od2) hk2 notbl_dK
        obtain ⟨m1, m2⟩ := IsB.lock (od := od2) hk2 pr2
        have hrL : upd (upd H2' r (.dK [])) a (.frz od2 (.dK kvs)) r = some (.dK []) := by rw [upd_ne (Ne.symm nar)]; exact upd_same
        have napf : a ≠ pf := ne_of_none hk npf
        have hpL2 : upd (upd H2' r (.dK [])) a (.frz od2 (.dK kvs)) pf = some (.dK (flagsD bk (itF bk k))) := by rw [upd_ne (Ne.symm napf), upd_ne npr]; exact hpf
        refine ⟨_, rfl, a, od2, rfl, .inl ⟨kvs, upd_same, ?_⟩⟩
        generalize hHL : upd (upd H2' r (.dK [])) a (HO.frz od2 (.dK kvs)) = HL at tL2 m1 m2 hrL hpL2 ⊢
        refine for_it (walk_bkeys (d := a) (o := od2) m2) (fun i σ H' => ∃ y, σ = [some (.ref a), some (.ref pf), y, some x, some (.ref r)] ∧ (∀ b o, b ≠ r → HL b = some o → b ∉ T → H' b = some o) ∧ TabsG T H' ∧ H' r = some (.dK (flagsD (bk.take i) (itF bk (k + 1)))))
          ⟨_, rfl, fun _ _ _ e _ => e, tL2, hrL⟩ (fun i σ H' _ ⟨y, _, kp, _⟩ => kp a _ nar m1 (tL2.out m1 notbl_frz)) (fun i x2 σ H3 H3' hi ⟨y2, eσ, kp, tb, hr3⟩ ⟨e1, z, m, eb, ex2⟩ => ?_) (fun σ H3 ⟨y2, eσ, kp, tb, hr3⟩ => ?_)
        · subst eσ e1 ex2
          have hmem := List.mem_of_getElem? eb
          have hrule := rule_nd ok.nd hmem
          have kt : KT HL H3' := ⟨fun b xs e => kp b _ (fun y => by rw [y, hrL] at e; cases e) e (tL2.out e notbl_tup), fun b o u e => kp b _ (fun y => by rw [y, hrL] at e; cases e) e (tL2.out e notbl_frz)⟩
          have hB3 : IsB K H3' a bk := ⟨kvs, .inr ⟨od2, kp a _ nar m1 (tL2.out m1 notbl_frz)⟩, paired_mono (fun _ _ z => ⟨z.1, z.2.kt kt⟩) m2⟩
          obtain ⟨vm, dg, hM⟩ := hB3.get hrule
          have hF3 : FD H3' pf (itF bk k) bk.keys := ⟨_, .inl (kp pf _ npr hpL2 (tL2.out hpL2 notbl_dK)), fun y hy => val_flags hy⟩
          refine ⟨_, rfl, _, rfl, _, rfl, a, vm, rfl, dg, _, rfl, .ref a, vm, pf, itF bk k, bk.keys, m, rfl, hF3, hM, ok.full _ hmem, Nat.lt_succ_of_le (ok.good _ hmem).2.2.1, tb, fun H4 g4 => ?_⟩
          have hr4 := g4.at tb hr3 notbl_dK
          have ev : bareM (itF bk k) m = itF bk (k + 1) z := by
            show _ = stepF bk (itF bk k) z
            unfold stepF
            rw [hrule]
          rw [ev]
          refine ⟨_, rfl, _, rfl, r, _, rfl, .inl ⟨_, Sum.inr z, hr4, rfl, (small i).2 _, rfl⟩, _, rfl, fun b o n e nb => ?_, ?_, ?_⟩
          · rw [upd_ne n]; exact g4.keep b o (kp b o n e nb) nb
          · exact g4.tabs.upd _ (g4.tabs.out hr4 notbl_dK)
          · rw [put_flags ok.nd eb]; exact upd_same
        · subst eσ
          rw [List.take_length] at hr3
          have ha3 : H3 a = some (.frz od2 (.dK kvs)) := kp a _ nar m1 (tL2.out m1 notbl_frz)
          refine ⟨ha3, _, rfl, r, _, _, _, rfl, ⟨fun b o e nb => ?_, tb.upd _ (tb.out ha3 notbl_frz)⟩, nr0, by rw [upd_ne (Ne.symm nar)]; exact hr3⟩
          by_cases e1 : b = a
          · subst e1; rw [hk] at e; cases e; exact upd_same
          · rw [upd_ne e1]
            have nbr : b ≠ r := ne_of_none e nr0
            refine kp b o nbr ?_ nb
            rw [← hHL, upd_ne e1, upd_ne nbr]
            exact gr.keep b o e nb
      · subst eσ
        exact ⟨_, rfl, q H2 pf gr npf hpf⟩
end
end Lw
namespace Lw
open PySem PySem.Spec PyProof.Rows L2 Hx
theorem scOnes : FnScope ["_law_rules", "_law_making", "_law_flags_here", "_law_act", "_law_one", "_law_other", "_law_found"] ["_law_rules", "_law_making", "_law_flags_here"] (defScope sOnes) := ⟨rfl, rfl, rfl, by decide +kernel, rfl, by decide +kernel, by decide +kernel⟩
abbrev N3 : List Str := ["_law_rules", "_law_making", "_law_flags_here"]
section
variable {P : Program} {w : World} {K : PySem.W.Frag} {mg : Str → Option Value} {base : Heap} {T : List Addr}
def spOnes (K : PySem.W.Frag) (T : List Addr) (n : Nat) : Sp := fun vs H Q _ => ∃ (r v : V) (d : Addr) (b : Str → Bool) (keys : List Str) (m : Hx.Mk), vs = [r, v, .ref d] ∧ FD H d b keys ∧ IsM K H v m ∧ (∀ z ∈ m.names, z ∈ keys) ∧ m.depth < n ∧ m.depth < 7 ∧ m.parts.length ≤ 40 ∧ TabsG T H ∧
  ∀ H' p, Gr T H H' → H p = none → H' p = some (.lst ((standB b m).map V.str)) → Q (.ref p) H'
theorem ok_onesS {f fC : Addr} {fd fdC : FuncData} {d L : Nat} (F : Fun K "_law_bare_ones" "_law_bare_ones" sOnes f fd) (GC : FnOk P w K mg base CX0 L fC fdC N3 (spCan K T 7)) (bC : Binds K fdC N3 []) (gC : mg "_law_can_be_bare" = some (.ref fC)) (kC : PySem.W.keepIn K (.ref fC) = true)
    (G : FnOk P w K mg base CX0 L f fd N3 (spOnes K T d)) (bF : Binds K fd N3 []) (gF : mg "_law_bare_ones" = some (.ref f)) :
    FnOk P w K mg base CX0 (L + 1) f fd N3 (spOnes K T (d + 1)) := by
  refine F.ok scOnes (fun vs H Q E h => ?_) (fun cdv A outer s H vs Q E hr h => ?_)
  · obtain ⟨r, v, d, b, keys, m, rfl, _⟩ := h
    rfl
  · obtain ⟨r, v, dd, b, keys, m, rfl, hF, hM, hn, hd, h7, h40, ht, q⟩ := h
    have call : ∀ {i : Int} {p1 p2 p3 p4 p5 p6 p7 : Pos} {j : Nat}, PE (cxOf CX0 P w K mg base ["_law_rules", "_law_making", "_law_flags_here", "_law_act", "_law_one", "_law_other", "_law_found"] "_law_bare_ones" (defScope sOnes) f cdv A outer s H E).nox (.Call (.Name "_law_bare_ones" p1) [.Name "_law_rules" p2, .Subscript (.Name "_law_making" p3) (.Constant (.int i) j p4) p5, .Name "_law_flags_here" p6] [] p7) (tCall (spOnes K T d) [] E (tCons (tVar 0) (tCons (tOp (rIxT K) (tVar 1) (tC (.int i))) (tCons (tVar 2) tNil)))) := by
      intros
      exact pe_call G hr (by rfl) gF F.kp bF .nil pass0 (pa_cons (pv 0) (pa_cons (pe_ix ix_tup (pv 1) pe_int (fun _ _ => rfl)) (pa_cons (pv 2) pa_nil)))
    have can : ∀ {i : Int} {p1 p2 p3 p4 p5 p6 p7 : Pos} {j : Nat}, PE (cxOf CX0 P w K mg base ["_law_rules", "_law_making", "_law_flags_here", "_law_act", "_law_one", "_law_other", "_law_found"] "_law_bare_ones" (defScope sOnes) f cdv A outer s H E).nox (.Call (.Name "_law_can_be_bare" p1) [.Name "_law_rules" p2, .Subscript (.Name "_law_making" p3) (.Constant (.int i) j p4) p5, .Name "_law_flags_here" p6] [] p7) (tCall (spCan K T 7) [] E (tCons (tVar 0) (tCons (tOp (rIxT K) (tVar 1) (tC (.int i))) (tCons (tVar 2) tNil)))) := by
      intros
      exact pe_call GC hr (by rfl) gC kC bC .nil pass0 (pa_cons (pv 0) (pa_cons (pe_ix ix_tup (pv 1) pe_int (fun _ _ => rfl)) (pa_cons (pv 2) pa_nil)))
    refine' ⟨_, pss_cons ?s1 (pss_cons ?s2 (pss_cons ?s3 (pss_cons ?s4 (pss_cons ?s5 (pss_cons ?s6 (pss_cons ?s7 (pss_one ?s8))))))), ?fin⟩
    case s1 => exact ps_set (i := 3) scOnes.nd rfl (.inl rfl) (pe_ix ix_tup (pv 1) pe_int (fun _ _ => rfl))
    case s2 => exact ps_if (pt_cmpR op_eq (pv 3) pe_str (nomark _)) (pss_one (ps_ret (pe_lst (pa_cons (pe_ix ix_tup (pv 1) pe_int (fun _ _ => rfl)) pa_nil)))) pss_nil
    case s3 => exact ps_if (pt_cmpR op_in_seq (pv 3) (pe_tup (pa_cons pe_str (pa_cons pe_str (pa_cons pe_str pa_nil)))) rfl) (pss_one (ps_ret call)) pss_nil
    case s4 => exact ps_if (pt_cmpR op_notIn_seq (pv 3) (pe_tup (pa_cons pe_str (pa_cons pe_str pa_nil))) rfl) (pss_one (ps_ret (pe_lst pa_nil))) pss_nil
    case s5 => exact ps_par (i := 4) (j := 5) rfl scOnes.nd rfl rfl (by decide) rfl rfl (pa_cons call (pa_cons call pa_nil)) (by rfl)
    case s6 => exact ps_if (pt_cmpR op_eq (pv 3) pe_str (nomark _)) (pss_one (ps_ret (pe_op op_cat (pv 4) (pv 5)))) pss_nil
    case s7 => exact ps_set (i := 6) scOnes.nd rfl (.inl rfl) (pe_ifExp (pt_val can) (pv 4) (pe_lst pa_nil))
    case s8 => exact ps_ret (pe_op op_cat (pv 6) (pe_ifExp (pt_val can) (pv 5) (pe_lst pa_nil)))
    have l40 : ∀ x : Hx.Mk, x.parts.length ≤ 40 → ((standB b x).map V.str).length ≤ 40 := fun x hx => by
      rw [List.length_map]; exact Nat.le_trans (stand_len _ x) hx
    have two : ∀ {i j : Nat}, i ≤ 40 → j ≤ 40 → i + j ≤ sizeLine := fun h1 h2 => Nat.le_trans (Nat.add_le_add h1 h2) (by decide)
    refine Classical.byContradiction fun hG => ?_
    have none_ : ∀ (a : Addr) (tag : Str) (rest : List V), v = .ref a → SqT K H a (.str tag :: rest) → tag ≠ "name" → inV (V.str tag) [.str "row", .str "bag", .str "set"] = false → inV (V.str tag) [.str "sum", .str "pair"] = false → standB b m = [] → False := by
      intro a tag rest ev hT n1 hin hin2 hst
      subst ev
      refine hG ⟨_, rfl, a, _, 0, _, rfl, rfl, hT, atI_nat (j := 0) rfl, ?_⟩
      refine ⟨_, rfl, rfl, _, rfl, if0 (strne n1) ⟨_, rfl, by show 3 ≤ sizeLine; decide, fun p np => ?_⟩⟩
      have g1 := Gr.new ht (.tup [.str "row", .str "bag", .str "set"]) np
      refine ⟨p, _, rfl, .inr (.inl (.inl upd_same)), rfl, rfl, _, rfl, if0 hin ⟨_, rfl, by show 2 ≤ sizeLine; decide, fun p2 np2 => ?_⟩⟩
      have g2 := g1.trans (Gr.new g1.tabs (.tup [.str "sum", .str "pair"]) np2)
      refine ⟨p2, _, rfl, .inr (.inl (.inl upd_same)), rfl, rfl, true, ?_, if1 rfl ⟨Nat.zero_le _, fun p3 np3 => ?_⟩⟩
      · rw [if_pos rfl, hin2]; rfl
      · exact q _ p3 (g2.trans (Gr.new g2.tabs _ np3)) (Gr.free ht g2 np3) (by rw [hst]; exact upd_same)
    cases hM with
    | @k0 a k hT => exact none_ a _ _ rfl hT (by cases k <;> decide) (by cases k <;> decide) (by cases k <;> decide) rfl
    | @atom a c hT => exact none_ a _ _ rfl hT (by decide) (by decide) (by decide) rfl
    | @name a z hT =>
      refine hG ⟨_, rfl, a, _, 0, _, rfl, rfl, hT, atI_nat (j := 0) rfl, ?_⟩
      refine ⟨_, rfl, rfl, _, rfl, if1 rfl ⟨_, rfl, a, _, 1, _, rfl, rfl, hT, atI_nat (j := 1) rfl, by show 1 ≤ sizeLine; decide, fun p np => ?_⟩⟩
      exact q _ p (Gr.new ht _ np) np upd_same
    | @k1 a k u x hT hx =>
      simp only [Hx.Mk.depth] at hd h7
      simp only [Hx.Mk.parts, List.length_cons] at h40
      refine hG ⟨_, rfl, a, _, 0, _, rfl, rfl, hT, atI_nat (j := 0) rfl, ?_⟩
      refine ⟨_, rfl, rfl, _, rfl, if0 (strne (tag1 k).2) ⟨_, rfl, by show 3 ≤ sizeLine; decide, fun p np => ?_⟩⟩
      have g1 := Gr.new ht (.tup [.str "row", .str "bag", .str "set"]) np
      refine ⟨p, _, rfl, .inr (.inl (.inl upd_same)), rfl, rfl, _, rfl, if1 (by cases k <;> decide) ?_⟩
      refine ⟨_, rfl, _, rfl, a, _, 1, _, rfl, rfl, g1.seqT ht hT, atI_nat (j := 1) rfl, _, rfl, r, u, dd, b, keys, x, rfl, hF.gr g1 ht, hx.gr g1 ht, hn, by omega, by omega, by omega, g1.tabs, fun H2 p2 g2 np2 e2 => ?_⟩
      exact q H2 p2 (g1.trans g2) (Gr.free ht g1 np2) e2
    | @k2 a k x1 x2 m1 m2 hT h1 h2 =>
      simp only [Hx.Mk.depth] at hd h7
      simp only [Hx.Mk.parts, List.length_cons, List.length_append] at h40
      have hn1 : ∀ z ∈ m1.names, z ∈ keys := fun z hz => hn z (List.mem_append_left _ hz)
      have hn2 : ∀ z ∈ m2.names, z ∈ keys := fun z hz => hn z (List.mem_append_right _ hz)
      refine hG ⟨_, rfl, a, _, 0, _, rfl, rfl, hT, atI_nat (j := 0) rfl, ?_⟩
      refine ⟨_, rfl, rfl, _, rfl, if0 (strne (tag2 k).2) ⟨_, rfl, by show 3 ≤ sizeLine; decide, fun p np => ?_⟩⟩
      have g1 := Gr.new ht (.tup [.str "row", .str "bag", .str "set"]) np
      refine ⟨p, _, rfl, .inr (.inl (.inl upd_same)), rfl, rfl, _, rfl, if0 (by cases k <;> decide) ⟨_, rfl, by show 2 ≤ sizeLine; decide, fun p2 np2 => ?_⟩⟩
      have g2 := g1.trans (Gr.new g1.tabs (.tup [.str "sum", .str "pair"]) np2)
      refine ⟨p2, _, rfl, .inr (.inl (.inl upd_same)), rfl, rfl, false, by cases k <;> rfl, if0 rfl ?_⟩
      refine ⟨_, rfl, _, rfl, a, _, 1, _, rfl, rfl, g2.seqT ht hT, atI_nat (j := 1) rfl, _, rfl, r, x1, dd, b, keys, m1, rfl, hF.gr g2 ht, h1.gr g2 ht, hn1, by omega, by omega, by omega, g2.tabs, fun H3 l1 g3 nl1 e1 => ?_⟩
      have g23 := g2.trans g3
      refine ⟨_, rfl, _, rfl, a, _, 2, _, rfl, rfl, g23.seqT ht hT, atI_nat (j := 2) rfl, _, rfl, r, x2, dd, b, keys, m2, rfl, hF.gr g23 ht, h2.gr g23 ht, hn2, by omega, by omega, by omega, g23.tabs, fun H4 l2 g4 nl2 e2 => ?_⟩
      have g24 := g23.trans g4
      have e1' := g4.at g3.tabs e1 notbl_lst
      refine ⟨_, _, rfl, ?_⟩
      cases k with
      | sum =>
        refine ⟨_, rfl, rfl, _, rfl, if1 rfl ⟨_, rfl, _, rfl, l1, l2, _, _, rfl, rfl, e1', e2, two (l40 m1 (by omega)) (l40 m2 (by omega)), fun pp npp => ?_⟩⟩
        refine q _ pp (g24.trans (Gr.new g24.tabs _ npp)) (Gr.free ht g24 npp) ?_
        rw [upd_same, ← List.map_append]; rfl
      | pair =>
        refine ⟨_, rfl, rfl, _, rfl, if0 (strne (by decide)) ?_⟩
        refine ⟨_, rfl, _, rfl, a, _, 2, _, rfl, rfl, g24.seqT ht hT, atI_nat (j := 2) rfl, _, rfl, r, x2, dd, b, keys, m2, rfl, hF.gr g24 ht, h2.gr g24 ht, hn2, by omega, g24.tabs, fun H5 g5 => ⟨_, rfl, ?_⟩⟩
        have g25 := g24.trans g5
        cases c2 : bareM b m2 with
        | true =>
          refine if1 rfl ⟨_, rfl, ?_⟩
          have gr2 := g5
          have gf := g25
          refine ⟨_, rfl, _, rfl, _, rfl, a, _, 1, _, rfl, rfl, gf.seqT ht hT, atI_nat (j := 1) rfl, _, rfl, r, x1, dd, b, keys, m1, rfl, hF.gr gf ht, h1.gr gf ht, hn1, by omega, gf.tabs, fun H7 g7 => ⟨_, rfl, ?_⟩⟩
          have g8 := gf.trans g7
          cases c1 : bareM b m1 with
          | true =>
            refine if1 rfl ⟨_, rfl, l1, l2, _, _, rfl, rfl, (g5.trans g7).at g4.tabs e1' notbl_lst, (gr2.trans g7).at g4.tabs e2 notbl_lst, two (l40 m1 (by omega)) (l40 m2 (by omega)), fun pp npp => ?_⟩
            refine q _ pp (g8.trans (Gr.new g8.tabs _ npp)) (Gr.free ht g8 npp) ?_
            rw [upd_same]; simp [standB, c1, c2]
          | false =>
            refine if0 rfl ⟨Nat.zero_le _, fun p9 np9 => ?_⟩
            have g9 := g8.trans (Gr.new g8.tabs (.lst []) np9)
            refine ⟨l1, p9, _, _, rfl, rfl, by rw [upd_ne (ne_of_none ((g5.trans g7).at g4.tabs e1' notbl_lst) np9)]; exact (g5.trans g7).at g4.tabs e1' notbl_lst, upd_same, two (l40 m1 (by omega)) (Nat.zero_le _), fun pp npp => ?_⟩
            refine q _ pp (g9.trans (Gr.new g9.tabs _ npp)) (Gr.free ht g9 npp) ?_
            rw [upd_same]; simp [standB, c1, c2]
        | false =>
          refine if0 rfl ⟨Nat.zero_le _, fun p6 np6 => ?_⟩
          have gr2 := g5.trans (Gr.new g5.tabs (.lst []) np6)
          have gf := g24.trans gr2
          refine ⟨_, rfl, _, rfl, _, rfl, a, _, 1, _, rfl, rfl, gf.seqT ht hT, atI_nat (j := 1) rfl, _, rfl, r, x1, dd, b, keys, m1, rfl, hF.gr gf ht, h1.gr gf ht, hn1, by omega, gf.tabs, fun H7 g7 => ⟨_, rfl, ?_⟩⟩
          have g8 := gf.trans g7
          cases c1 : bareM b m1 with
          | true =>
            refine if1 rfl ⟨_, rfl, p6, l2, _, _, rfl, rfl, g7.at gr2.tabs upd_same notbl_lst, (gr2.trans g7).at g4.tabs e2 notbl_lst, two (Nat.zero_le _) (l40 m2 (by omega)), fun pp npp => ?_⟩
            refine q _ pp (g8.trans (Gr.new g8.tabs _ npp)) (Gr.free ht g8 npp) ?_
            rw [upd_same]; simp [standB, c1, c2]
          | false =>
            refine if0 rfl ⟨Nat.zero_le _, fun p9 np9 => ?_⟩
            have g9 := g8.trans (Gr.new g8.tabs (.lst []) np9)
            refine ⟨p6, p9, _, _, rfl, rfl, by rw [upd_ne (ne_of_none (g7.at gr2.tabs upd_same notbl_lst) np9)]; exact g7.at gr2.tabs upd_same notbl_lst, upd_same, two (Nat.zero_le _) (Nat.zero_le _), fun pp npp => ?_⟩
            refine q _ pp (g9.trans (Gr.new g9.tabs _ npp)) (Gr.free ht g9 npp) ?_
            rw [upd_same]; simp [standB, c1, c2]
theorem ones_zero {f : Addr} {fd : FuncData} : FnOk P w K mg base CX0 0 f fd N3 (spOnes K T 0) := by
  have no : ∀ vs H Q E, ¬ spOnes K T 0 vs H Q E := fun vs H Q E ⟨_, _, _, _, _, _, _, _, _, _, h, _⟩ => by omega
  exact ⟨fun vs H Q E h => absurd h (no vs H Q E), fun A outer s H args us vs Q E _ _ _ _ h => absurd h (no vs H Q E)⟩
theorem pr_ones (h : Has K mg "_law_bare_ones" sOnes N3) (hC : Pr P w K mg base "_law_can_be_bare" N3 (spCan K T 7) 7) : Pr P w K mg base "_law_bare_ones" N3 (spOnes K T 7) 14 := by
  obtain ⟨f, fd, F, g, b⟩ := h
  obtain ⟨fC, fdC, GC, gC, kC, bC⟩ := hC
  have all : ∀ d : Nat, FnOk P w K mg base CX0 (7 + d) f fd N3 (spOnes K T d) := by
    intro d
    induction d with
    | zero => exact ones_zero.mono (by omega)
    | succ d ih => exact ok_onesS F (GC.mono (Nat.le_add_right _ _)) bC gC kC ih b g
  exact ⟨f, fd, all 7, g, F.kp, b⟩
end
end Lw
namespace Lw
open PySem PySem.Spec PyProof.Rows L2 Hx
theorem scLoose : FnScope ["_law_rules", "_law_making", "_law_flags_here", "_law_some", "_law_part"] ["_law_rules", "_law_making", "_law_flags_here"] (defScope sLoose) := ⟨rfl, rfl, rfl, by decide +kernel, rfl, by decide +kernel, by decide +kernel⟩
/-- a making as plain data -/
def mkD : Hx.Mk → PyData
  | .k0 k => .tuple [.str k.tag]
  | .atom c => .tuple [.str "atom", .str ⟨#[c]⟩]
  | .name z => .tuple [.str "name", .str z]
  | .k1 k x => .tuple [.str k.tag, mkD x]
  | .k2 k x y => .tuple [.str k.tag, mkD x, mkD y]
theorem dp_mk {K : PySem.W.Frag} {H : Hp} : ∀ {v : V} {m : Hx.Mk}, IsM K H v m → Dp K H v (mkD m)
  | _, _, .k0 k h => .tup h (.cons (.str _) .nil)
  | _, _, .atom c h => .tup h (.cons (.str _) (.cons (.str _) .nil))
  | _, _, .name z h => .tup h (.cons (.str _) (.cons (.str _) .nil))
  | _, _, .k1 k h a => .tup h (.cons (.str _) (.cons (dp_mk a) .nil))
  | _, _, .k2 k h a b => .tup h (.cons (.str _) (.cons (dp_mk a) (.cons (dp_mk b) .nil)))
theorem plain_mk : ∀ m : Hx.Mk, (mkD m).plain = true
  | .k0 k => rfl
  | .atom c => rfl
  | .name z => rfl
  | .k1 k x => by simp [mkD, PyData.plain, PyData.plainAll, plain_mk x]
  | .k2 k x y => by simp [mkD, PyData.plain, PyData.plainAll, plain_mk x, plain_mk y]
theorem dp_mks {K : PySem.W.Frag} {H : Hp} : ∀ {vs : List V} {ms : List Hx.Mk}, AllM K H vs ms → DpAll K H vs (ms.map mkD)
  | _, _, .nil => .nil
  | _, _, .cons r t => .cons (dp_mk r) (dp_mks t)
theorem plain_mks : ∀ ms : List Hx.Mk, PyData.plainAll (ms.map mkD) = true
  | [] => rfl
  | m :: r => by simp [PyData.plainAll, plain_mk m, plain_mks r]
section
variable {P : Program} {w : World} {K : PySem.W.Frag} {mg : Str → Option Value} {base : Heap} {T : List Addr}
def spLoose (K : PySem.W.Frag) (T : List Addr) (n : Nat) : Sp := fun vs H Q _ => ∃ (r v : V) (d : Addr) (b : Str → Bool) (keys : List Str) (m : Hx.Mk), vs = [r, v, .ref d] ∧ FD H d b keys ∧ IsM K H v m ∧ (∀ z ∈ m.names, z ∈ keys) ∧ m.depth < n ∧ m.depth < 7 ∧ TabsG T H ∧ ∀ H', Gr T H H' → Q (.bl (looseM b m)) H'
theorem ok_looseS {f fC : Addr} {fd fdC : FuncData} {d L : Nat} (F : Fun K "_law_is_loose" "_law_is_loose" sLoose f fd) (GC : FnOk P w K mg base CX0 L fC fdC N3 (spCan K T 7)) (bC : Binds K fdC N3 []) (gC : mg "_law_can_be_bare" = some (.ref fC)) (kC : PySem.W.keepIn K (.ref fC) = true)
    (G : FnOk P w K mg base CX0 L f fd N3 (spLoose K T d)) (bF : Binds K fd N3 []) (gF : mg "_law_is_loose" = some (.ref f)) :
    FnOk P w K mg base CX0 (L + 1) f fd N3 (spLoose K T (d + 1)) := by
  refine F.ok scLoose (fun vs H Q E h => ?_) (fun cdv A outer s H vs Q E hr h => ?_)
  · obtain ⟨r, v, d, b, keys, m, rfl, _⟩ := h
    rfl
  · obtain ⟨r, v, dd, b, keys, m, rfl, hF, hM, hn, hd, h7, ht, q⟩ := h
    refine' ⟨_, pss_cons ?s1 (pss_cons ?s2 (pss_one ?s3)), ?fin⟩
    case s1 => exact ps_if (PW.pt (pw_and (pt_cmpR op_in_seq (pe_ix ix_tup (pv 1) pe_int (fun _ _ => rfl)) (pe_tup (pa_cons pe_str (pa_cons pe_str (pa_cons pe_str pa_nil)))) rfl) (pw_and1 (pt_val (pe_call GC hr (by rfl) gC kC bC .nil pass0 (pa_cons (pv 0) (pa_cons (pe_ix ix_tup (pv 1) pe_int (fun _ _ => rfl)) (pa_cons (pv 2) pa_nil)))))))) (pss_one (ps_ret pe_bl)) pss_nil
    case s2 => exact ps_set (i := 3) scLoose.nd rfl (.inl rfl) (pe_ifExp (pt_cmpR op_in_seq (pe_ix ix_tup (pv 1) pe_int (fun _ _ => rfl)) (pe_tup (pa_cons pe_str (pa_cons pe_str (pa_cons pe_str (pa_cons pe_str (pa_cons pe_str pa_nil)))))) rfl) (pe_slice sl_tup (pv 1) (po_some pe_int) po_none) (pe_tup pa_nil))
    case s3 => exact ps_ret (pe_cmpR (op_neP hr.units) (pe_lc (own := [("_law_part", 4)]) (g := gName 4) (te := tVar 4) (tt := tB (tCall (spLoose K T d) [] E (tCons (tVar 0) (tCons (tVar 4) (tCons (tVar 2) tNil))))) rfl scLoose.nd (pi_tup (pv 3)) (blkOk_by (N := ["_law_rules", "_law_making", "_law_flags_here", "_law_some", "_law_part"]) (sc := defScope sLoose) (by decide +kernel))
      (fun _ _ _ _ _ => pg_name (i := 4) scLoose.nd rfl (Or.inl rfl)) (fun _ _ _ _ _ => pts_one (pt_val (pe_call G hr (by rfl) gF F.kp bF .nil pass0 (pa_cons (pv 0) (pa_cons (pv 4) (pa_cons (pv 2) pa_nil)))))) (fun _ _ _ _ _ => pv 4)) (pe_lst pa_nil) (nomark _))
    -- the list of loose parts, compared with []
    have rest_ : ∀ (H2 : Hp) (sp : Addr) (us : List V) (ms : List Hx.Mk), Gr T H H2 → SqT K H2 sp us → AllM K H2 us ms → (∀ x ∈ ms, x.depth < d ∧ x.depth < 7 ∧ ∀ z ∈ x.names, z ∈ keys) → us.length ≤ 2 → looseM b m = ms.any (looseM b) →
        (tRet (tOp (rNeP K) (tLc (iTup K (tVar 3)) (gName 4) (tB (tCall (spLoose K T d) [] E (tCons (tVar 0) (tCons (tVar 4) (tCons (tVar 2) tNil))))) (tVar 4) [4]) (tLst tNil))) { nx := fun _ H' => Q .non H', rt := Q } [some r, some v, some (.ref dd), some (.ref sp), none] H2 := by
      intro H2 sp us ms g2 hS hA hms hl2 hlo
      refine ⟨_, rfl, sp, rfl, ⟨us, hS⟩, fun D nD => ?_⟩
      have gD := Gr.new g2.tabs (.lst []) nD
      refine lc_it (walk_tup (K := K) (a := sp) (xs := us)) (fun i H' => Gr T H2 H' ∧ ∃ acc ls, H' D = some (.lst acc) ∧ AllM K H' acc ls ∧ acc.length ≤ i ∧ (acc.isEmpty = !(ms.take i).any (looseM b)))
        ⟨gD, [], [], upd_same, .nil, Nat.le_refl _, rfl⟩ (fun i H' _ z => z.1.seqT g2.tabs hS) (fun i x H3 H3' hi ⟨g3, acc, ls, hD, hAc, hle, hem⟩ ⟨e, hx⟩ => ?_) (fun H3 ⟨g3, acc, ls, hD, hAc, hle, hem⟩ => ?_)
      · subst e
        obtain ⟨mm, hmm, hI⟩ := L2.paired_get hA hx
        obtain ⟨d1, d2, d3⟩ := hms mm (List.mem_of_getElem? hmm)
        have nD2 : H2 D = none := nD
        refine ⟨rfl, _, rfl, _, rfl, _, rfl, r, x, dd, b, keys, mm, rfl, (hF.gr g2 ht).gr g3 g2.tabs, hI.gr g3 g2.tabs, d3, d1, d2, g3.tabs, fun H4 g4 => ⟨_, rfl, ?_⟩⟩
        have tk : ms.take (i + 1) = ms.take i ++ [mm] := by rw [List.take_add_one, hmm]; rfl
        have hD4 := g4.at g3.tabs hD notbl_lst
        cases el : looseM b mm with
        | true =>
          refine if1 rfl ⟨_, rfl, acc, hD4, Nat.lt_of_le_of_lt hle (Nat.lt_of_lt_of_le hi (Nat.le_trans hl2 (by decide))), (g3.trans g4).own g2.tabs _ nD2, acc ++ [x], ls ++ [mm], upd_same, ?_, by simp; omega, by rw [tk]; simp [el]⟩
          exact paired_append ((hAc.kt (g4.kt g3.tabs)).kt (KT.lst hD4)) (.cons ((hI.gr (g3.trans g4) g2.tabs).kt (KT.lst hD4)) .nil)
        | false =>
          refine if0 rfl ⟨g3.trans g4, acc, ls, hD4, hAc.kt (g4.kt g3.tabs), by omega, by rw [tk]; simp [el, hem]⟩
      · refine ⟨Nat.zero_le _, fun p np => ?_⟩
        have el : us.length = ms.length := paired_len hA
        rw [el, List.take_length, ← hlo] at hem
        have hDp : upd H3 p (.lst []) D = some (.lst acc) := by rw [upd_ne (ne_of_none hD np)]; exact hD
        refine ⟨.list (ls.map mkD), .list [], .lst (SqL.of hDp) (dp_mks (hAc.kt (KT.new np))), .lst (SqL.of upd_same) .nil, plain_mks ls, rfl, ?_, ?_⟩
        · show min _ 1 ≤ 64
          omega
        · have z := q _ (g2.trans (g3.trans (Gr.new g3.tabs (.lst []) np)))
          have e : (!PyData.eqv (.list (ls.map mkD)) (.list [])) = looseM b m := by
            cases hls : ls with
            | nil =>
              have : acc = [] := by
                have := paired_len hAc
                rw [hls] at this
                exact List.length_eq_zero_iff.mp this
              rw [this] at hem
              cases hl : looseM b m with
              | false => rfl
              | true => rw [hl] at hem; cases hem
            | cons y r =>
              have : acc.isEmpty = false := by
                have := paired_len hAc
                rw [hls] at this
                cases acc with
                | nil => cases this
                | cons _ _ => rfl
              rw [this] at hem
              cases hl : looseM b m with
              | true => rfl
              | false => rw [hl] at hem; cases hem
          rw [e]
          exact z
    refine Classical.byContradiction fun hG => ?_
    let t3 : List V := [.str "row", .str "bag", .str "set"]
    let t5 : List V := [.str "sum", .str "pair", .str "row", .str "bag", .str "set"]
    -- behind the first question, whatever it answered
    have leaf : ∀ (a : Addr) (tag : Str) (us : List V), v = .ref a → SqT K H a (.str tag :: us) → inV (V.str tag) t3 = false → inV (V.str tag) t5 = false → looseM b m = false → False := by
      intro a tag us ev hT i3 i5 hl
      subst ev
      refine hG ⟨_, rfl, a, _, 0, _, rfl, rfl, hT, atI_nat (j := 0) rfl, by show 3 ≤ sizeLine; decide, fun p np => ⟨p, _, rfl, .inr (.inl (.inl upd_same)), rfl, rfl, _, rfl, if0 i3 (if0 rfl ?_)⟩⟩
      have g1 := Gr.new ht (.tup t3) np
      refine ⟨_, rfl, a, _, 0, _, rfl, rfl, g1.seqT ht hT, atI_nat (j := 0) rfl, by show 5 ≤ sizeLine; decide, fun p2 np2 => ⟨p2, _, rfl, .inr (.inl (.inl upd_same)), rfl, rfl, _, rfl, if0 i5 ?_⟩⟩
      have g2 := g1.trans (Gr.new g1.tabs (.tup t5) np2)
      refine ⟨Nat.zero_le _, fun p3 np3 => ?_⟩
      have g3 := g2.trans (Gr.new g2.tabs (.tup []) np3)
      exact rest_ _ p3 [] [] g3 (.inl (.inl upd_same)) .nil (fun x hx => by cases hx) (by decide) hl
    have node : ∀ (a : Addr) (tag : Str) (us : List V) (ms : List Hx.Mk), v = .ref a → SqT K H a (.str tag :: us) → AllM K H us ms → inV (V.str tag) t3 = false → inV (V.str tag) t5 = true → (∀ x ∈ ms, x.depth < d ∧ x.depth < 7 ∧ ∀ z ∈ x.names, z ∈ keys) → us.length ≤ 2 → looseM b m = ms.any (looseM b) → False := by
      intro a tag us ms ev hT hA i3 i5 hms hl2 hlo
      subst ev
      refine hG ⟨_, rfl, a, _, 0, _, rfl, rfl, hT, atI_nat (j := 0) rfl, by show 3 ≤ sizeLine; decide, fun p np => ⟨p, _, rfl, .inr (.inl (.inl upd_same)), rfl, rfl, _, rfl, if0 i3 (if0 rfl ?_)⟩⟩
      have g1 := Gr.new ht (.tup t3) np
      refine ⟨_, rfl, a, _, 0, _, rfl, rfl, g1.seqT ht hT, atI_nat (j := 0) rfl, by show 5 ≤ sizeLine; decide, fun p2 np2 => ⟨p2, _, rfl, .inr (.inl (.inl upd_same)), rfl, rfl, _, rfl, if1 i5 ?_⟩⟩
      have g2 := g1.trans (Gr.new g1.tabs (.tup t5) np2)
      refine ⟨_, rfl, 1, rfl, a, _, rfl, g2.seqT ht hT, cut1_not (List.cons_ne_nil _ _), fun p3 np3 => ?_⟩
      rw [cut1]
      have g3 := g2.trans (Gr.new g2.tabs (.tup us) np3)
      exact rest_ _ p3 us ms g3 (.inl (.inl upd_same)) (hA.kt (g3.kt ht)) hms hl2 hlo
    cases hM with
    | @k0 a k hT => exact leaf a _ _ rfl hT (by cases k <;> decide) (by cases k <;> decide) rfl
    | @atom a c hT => exact leaf a _ _ rfl hT (by decide) (by decide) rfl
    | @name a z hT => exact leaf a _ _ rfl hT (by decide) (by decide) rfl
    | @k2 a k x1 x2 m1 m2 hT h1 h2 =>
      simp only [Hx.Mk.depth] at hd h7
      refine node a _ [x1, x2] [m1, m2] rfl hT (.cons h1 (.cons h2 .nil)) (by cases k <;> decide) (by cases k <;> decide) (fun x hx => ?_) (Nat.le_refl 2) (by simp [looseM])
      rcases List.mem_cons.mp hx with hx | hx
      · rw [hx]; exact ⟨by omega, by omega, fun z hz => hn z (List.mem_append_left _ hz)⟩
      · rw [List.mem_singleton.mp hx]; exact ⟨by omega, by omega, fun z hz => hn z (List.mem_append_right _ hz)⟩
    | @k1 a k u x hT hx =>
      simp only [Hx.Mk.depth] at hd h7
      have i3 : inV (V.str k.tag) t3 = true := by cases k <;> decide
      have i5 : inV (V.str k.tag) t5 = true := by cases k <;> decide
      refine hG ⟨_, rfl, a, _, 0, _, rfl, rfl, hT, atI_nat (j := 0) rfl, by show 3 ≤ sizeLine; decide, fun p np => ⟨p, _, rfl, .inr (.inl (.inl upd_same)), rfl, rfl, _, rfl, if1 i3 ?_⟩⟩
      have g1 := Gr.new ht (.tup t3) np
      refine ⟨_, rfl, _, rfl, a, _, 1, _, rfl, rfl, g1.seqT ht hT, atI_nat (j := 1) rfl, _, rfl, r, u, dd, b, keys, x, rfl, hF.gr g1 ht, hx.gr g1 ht, hn, by omega, g1.tabs, fun H2 g2 => ⟨_, rfl, ?_⟩⟩
      have g12 := g1.trans g2
      cases e1 : bareM b x with
      | true => exact if1 rfl (by have z := q H2 g12; simp only [looseM, e1, Bool.true_or] at z; exact z)
      | false =>
        refine if0 rfl ⟨_, rfl, a, _, 0, _, rfl, rfl, g12.seqT ht hT, atI_nat (j := 0) rfl, by show 5 ≤ sizeLine; decide, fun p2 np2 => ⟨p2, _, rfl, .inr (.inl (.inl upd_same)), rfl, rfl, _, rfl, if1 i5 ?_⟩⟩
        have g3 := g12.trans (Gr.new g12.tabs (.tup t5) np2)
        refine ⟨_, rfl, 1, rfl, a, _, rfl, g3.seqT ht hT, cut1_not (List.cons_ne_nil _ _), fun p3 np3 => ?_⟩
        rw [cut1]
        have g4 := g3.trans (Gr.new g3.tabs (.tup [u]) np3)
        refine rest_ _ p3 [u] [x] g4 (.inl (.inl upd_same)) (.cons (hx.gr g4 ht) .nil) (fun y hy => ?_) (Nat.le_succ 1) (by simp [looseM, e1])
        rw [List.mem_singleton.mp hy]
        exact ⟨by omega, by omega, hn⟩
theorem loose_zero {f : Addr} {fd : FuncData} : FnOk P w K mg base CX0 0 f fd N3 (spLoose K T 0) := by
  have no : ∀ vs H Q E, ¬ spLoose K T 0 vs H Q E := fun vs H Q E ⟨_, _, _, _, _, _, _, _, _, _, h, _⟩ => by omega
  exact ⟨fun vs H Q E h => absurd h (no vs H Q E), fun A outer s H args us vs Q E _ _ _ _ h => absurd h (no vs H Q E)⟩
theorem pr_loose (h : Has K mg "_law_is_loose" sLoose N3) (hC : Pr P w K mg base "_law_can_be_bare" N3 (spCan K T 7) 7) : Pr P w K mg base "_law_is_loose" N3 (spLoose K T 7) 14 := by
  obtain ⟨f, fd, F, g, b⟩ := h
  obtain ⟨fC, fdC, GC, gC, kC, bC⟩ := hC
  have all : ∀ d : Nat, FnOk P w K mg base CX0 (7 + d) f fd N3 (spLoose K T d) := by
    intro d
    induction d with
    | zero => exact loose_zero.mono (by omega)
    | succ d ih => exact ok_looseS F (GC.mono (Nat.le_add_right _ _)) bC gC kC ih b g
  exact ⟨f, fd, all 7, g, F.kp, b⟩
end
end Lw
namespace Lw
open PySem PySem.Spec PyProof.Rows L2 Hx
abbrev N7 : List Str := ["_law_rules", "_law_flags_here", "_law_found", "_law_name", "_law_seen", "_law_work", "_law_here"]
theorem scWrong : FnScope N7 ["_law_rules"] (defScope sWrong) := ⟨rfl, rfl, rfl, by decide +kernel, rfl, by decide +kernel, by decide +kernel⟩
/-- all is kept but what stands at x -/
structure KX (x : Addr) (T : List Addr) (H H' : Hp) : Prop where
  keep : ∀ b o, b ≠ x → H b = some o → b ∉ T → H' b = some o
  tabs : TabsG T H'
theorem KX.of {x : Addr} {T : List Addr} {H H' : Hp} (g : Gr T H H') : KX x T H H' := ⟨fun b o _ e n => g.keep b o e n, g.tabs⟩
theorem KX.gr {x : Addr} {T : List Addr} {H H1 H2 : Hp} (k : KX x T H H1) (g : Gr T H1 H2) : KX x T H H2 := ⟨fun b o n e nb => g.keep b o (k.keep b o n e nb) nb, g.tabs⟩
theorem KX.own {x : Addr} {T : List Addr} {H H1 : Hp} {o : HO} (k : KX x T H H1) (hx : x ∉ T) : KX x T H (upd H1 x o) := ⟨fun b o n e nb => by rw [upd_ne n]; exact k.keep b o n e nb, k.tabs.upd _ hx⟩
theorem KX.at {x b : Addr} {T : List Addr} {H H1 : Hp} {o : HO} (k : KX x T H H1) (t : TabsG T H) (n : b ≠ x) (e : H b = some o) (nt : ∀ ps, o ≠ .tbl ps) : H1 b = some o := k.keep b o n e (t.out e nt)
theorem KX.back {x : Addr} {T : List Addr} {H H1 H2 : Hp} (g : Gr T H H1) (hx : H x = none) (k : KX x T H1 H2) : Gr T H H2 := ⟨fun b o e nb => k.keep b o (ne_of_none e hx) (g.keep b o e nb) nb, k.tabs⟩
theorem inV_strs (z : Str) (ks : List Str) : inV (V.str z) (ks.map V.str) = decide (z ∈ ks) := by
  unfold inV
  rw [List.any_map, Bool.eq_iff_iff, List.any_eq_true, decide_eq_true_iff]
  constructor
  · rintro ⟨y, hy, e⟩
    simp [eqV] at e
    exact e ▸ hy
  · exact fun h => ⟨z, h, by simp [eqV]⟩
theorem ne_nil (ws : List Str) : (!PyData.eqv (.list (ws.map PyData.str)) (.list [])) = !decide (ws = []) := by
  cases ws <;> rfl
section
variable {P : Program} {w : World} {K : PySem.W.Frag} {mg : Str → Option Value} {base : Heap} {T : List Addr}
theorem pr_wrong (h : Has K mg "_law_wrong_ones" sWrong ["_law_rules"]) (hF : Pr P w K mg base "_law_flags" ["_law_rules"] (spFlags K T) 8) (hO : Pr P w K mg base "_law_bare_ones" N3 (spOnes K T 7) 14) (hL : Pr P w K mg base "_law_is_loose" N3 (spLoose K T 7) 14) (B : Bn mg) :
    Pr P w K mg base "_law_wrong_ones" ["_law_rules"] (spUnfair K T) 15 := by
  obtain ⟨f, fd, F, g, b⟩ := h
  obtain ⟨fF, fdF, GF, gF, kF, bF⟩ := hF.mono (k := 14) (by decide)
  obtain ⟨fO, fdO, GO, gO, kO, bO⟩ := hO
  obtain ⟨fL, fdL, GL, gL, kL, bL⟩ := hL
  refine ⟨f, fd, F.ok scWrong (fun vs H Q E h => ?_) (fun cdv A outer s H vs Q E hr h => ?_), g, F.kp, b⟩
  · obtain ⟨a, bk, rfl, _⟩ := h
    rfl
  · obtain ⟨a, bk, rfl, hD0, ok, ht, q⟩ := h
    obtain ⟨kvs, hk, pr⟩ := id hD0
    have ones : ∀ {i : Nat} {x : Str} {p1 p2 p3 p4 p5 p6 p7 : Pos}, PE (cxOf CX0 P w K mg base N7 "_law_wrong_ones" (defScope sWrong) f cdv A outer s H E).nox (.Name x p4) (tVar i) → PE (cxOf CX0 P w K mg base N7 "_law_wrong_ones" (defScope sWrong) f cdv A outer s H E).nox (.Call (.Name "_law_bare_ones" p1) [.Name "_law_rules" p2, .Subscript (.Name "_law_rules" p3) (.Name x p4) p5, .Name "_law_flags_here" p6] [] p7) (tCall (spOnes K T 7) [] E (tCons (tVar 0) (tCons (tDGet (tVar 0) (tVar i)) (tCons (tVar 1) tNil)))) := by
      intro i x p1 p2 p3 p4 p5 p6 p7 hx
      exact pe_call GO hr (by rfl) gO kO bO .nil pass0 (pa_cons (pv 0) (pa_cons (pe_dget (u1 hr.units) (pv 0) hx (fun _ _ => rfl)) (pa_cons (pv 1) pa_nil)))
    refine' ⟨_, pss_cons ?s1 (pss_cons ?s2 (pss_one ?s3)), ?fin⟩
    case s1 => exact ps_par (i := 1) (j := 2) rfl scWrong.nd rfl rfl (by decide) rfl rfl (pa_cons (pe_call GF hr (by rfl) gF kF bF .nil pass0 (pa_cons (pv 0) pa_nil)) (pa_cons (pe_lst pa_nil) pa_nil)) (by rfl)
    case s2 =>
      refine' ps_for PassesOwn.never rfl ?i ?g (pss_cons ?b1 (pss_cons ?b2 (pss_one ?b3)))
      case i => exact pi_list (pe_callB (call_sortedD rfl) (by rfl) B.sorted boot_sorted (pa_cons (pv 0) pa_nil))
      case g => exact pg_name (i := 3) scWrong.nd rfl (Or.inl rfl)
      case b1 => exact ps_par (i := 4) (j := 5) rfl scWrong.nd rfl rfl (by decide) rfl rfl (pa_cons (pe_lst pa_nil) (pa_cons (ones (pv 3)) pa_nil)) (by rfl)
      case b2 =>
        refine' ps_while PassesOwn.never (pt_cmpR (op_neP hr.units) (pv 5) (pe_lst pa_nil) (nomark _)) (pss_cons ?a (pss_one (ps_if ?t (pss_cons ?c (pss_one ?d)) pss_nil)))
        case a => exact ps_set (i := 6) scWrong.nd rfl (.inl rfl) (pe_bm0 PySem.F.plainAttrs_list PySem.F.slot_list_pop PySem.F.type_list_pop mt_pop (pv 5))
        case t => exact pt_cmpR op_notIn_seq (pv 6) (pv 4) rfl
        case c => exact ps_expr (pe_bm PySem.F.plainAttrs_list PySem.F.slot_list_append PySem.F.type_list_append mt_append (pv 4) (pa_cons (pv 6) pa_nil))
        case d => exact ps_set (i := 5) scWrong.nd rfl (.inl rfl) (pe_op op_cat (pv 5) (ones (pv 6)))
      case b3 => exact ps_if (PW.pt (pw_or (pt_cmpR op_in_seq (pv 3) (pv 4) rfl) (pw_or1 (pt_val (pe_call GL hr (by rfl) gL kL bL .nil pass0 (pa_cons (pv 0) (pa_cons (pe_dget (u1 hr.units) (pv 0) (pv 3) (fun _ _ => rfl)) (pa_cons (pv 1) pa_nil)))))))) (pss_one (ps_expr (pe_bm PySem.F.plainAttrs_list PySem.F.slot_list_append PySem.F.type_list_append mt_append (pv 2) (pa_cons (pv 3) pa_nil)))) pss_nil
    case s3 => exact ps_ret (pv 2)
    refine ⟨_, rfl, a, bk, rfl, hD0, ok, ht, fun H1 fl g1 nfl hfl => ⟨Nat.zero_le _, fun fo nfo => ⟨_, _, rfl, ?_⟩⟩⟩
    have g2 := g1.trans (Gr.new g1.tabs (.lst []) nfo)
    have nfo0 : H fo = none := Gr.free ht g1 nfo
    have nflo : fl ≠ fo := ne_of_none hfl nfo
    have hkk : kvs.map (·.1) = bk.keys.map Sum.inr := keys_S pr
    have hk64 : bk.keys.length < 64 := by unfold Bk.keys; rw [List.length_map]; have := ok.few; omega
    refine ⟨_, rfl, a, kvs, bk.keys, rfl, .inl (g2.at ht hk notbl_dK), hkk, hk64, fun ys l pm srt nl => ?_⟩
    have g3 := g2.trans (Gr.new g2.tabs (.lst (ys.map V.str)) nl)
    have nfol : fo ≠ l := ne_of_none upd_same nl
    have hfo3 : upd (upd H1 fo (.lst [])) l (.lst (ys.map V.str)) fo = some (.lst []) := by rw [upd_ne nfol]; exact upd_same
    have hfl3 : upd (upd H1 fo (.lst [])) l (.lst (ys.map V.str)) fl = some (.dK (flagsD bk (Hx.lf bk))) := by
      rw [upd_ne (show fl ≠ l from fun z => by rw [← z, upd_ne nflo, hfl] at nl; cases nl), upd_ne nflo]; exact hfl
    have hl3 : upd (upd H1 fo (.lst [])) l (.lst (ys.map V.str)) l = some (.lst (ys.map V.str)) := upd_same
    refine ⟨l, rfl, ⟨_, SqL.of upd_same⟩, ?_⟩
    generalize upd (upd H1 fo (.lst [])) l (HO.lst (ys.map V.str)) = H3 at g3 hfo3 hfl3 hl3 ⊢
    have foT : fo ∉ T := ht.none nfo0
    have naf : a ≠ fo := ne_of_none hk nfo0
    refine for_it (walk_list (K := K) (a := l) (xs := ys.map V.str)) (fun i σ H' => ∃ y3 y4 y5 y6, σ = [some (.ref a), some (.ref fl), some (.ref fo), y3, y4, y5, y6] ∧ KX fo T H3 H' ∧ H' fo = some (.lst (((ys.take i).filter (badB bk)).map V.str)))
      ⟨none, none, none, none, rfl, KX.of (Gr.refl g3.tabs), hfo3⟩ (fun i σ H' _ ⟨_, _, _, _, _, k, _⟩ => SqL.of (k.at g3.tabs (Ne.symm nfol) hl3 notbl_lst)) (fun i x σ H4 H4' hi ⟨y3, y4, y5, y6, eσ, kx, hfo4⟩ ⟨e, hx⟩ => ?_) (fun σ H4 ⟨y3, y4, y5, y6, eσ, kx, hfo4⟩ => ?_)
    · subst eσ e
      rw [List.getElem?_map] at hx
      cases ez : ys[i]? with
      | none => rw [ez] at hx; cases hx
      | some z =>
        rw [ez] at hx
        cases hx
        have hzk : z ∈ bk.keys := pm.mem_iff.mp (List.mem_of_getElem? ez)
        have gB : Gr T H H4' := KX.back g3 nfo0 kx
        have hB4 : IsB K H4' a bk := hD0.b.gr gB ht
        have hFD4 : FD H4' fl (Hx.lf bk) bk.keys := ⟨_, .inl (kx.at g3.tabs nflo hfl3 notbl_dK), fun y hy => val_flags hy⟩
        have leads : ∀ {y : Str} {m : Hx.Mk}, Hx.rule bk y = some m → leadsB bk y = standB (Hx.lf bk) m := fun e => by unfold leadsB; rw [e]
        have okm : ∀ {y : Str} {m : Hx.Mk}, Hx.rule bk y = some m → m.depth < 7 ∧ m.parts.length ≤ 40 ∧ ∀ z ∈ m.names, z ∈ bk.keys := fun e => ⟨Nat.lt_succ_of_le (ok.good _ (rule_mem e)).2.2.1, (ok.good _ (rule_mem e)).2.2.2, ok.full _ (rule_mem e)⟩
        obtain ⟨m, em⟩ := rule_of hzk
        refine ⟨Nat.zero_le _, fun sn nsn => ?_⟩
        have g5 := Gr.new kx.tabs (.lst []) nsn
        obtain ⟨vm, dg, hMz⟩ := (hB4.gr g5 kx.tabs).get em
        obtain ⟨o1, o2, o3⟩ := okm em
        refine ⟨_, rfl, _, rfl, _, rfl, a, vm, rfl, dg, _, rfl, .ref a, vm, fl, Hx.lf bk, bk.keys, m, rfl, hFD4.gr g5 kx.tabs, hMz, o3, o1, o1, o2, g5.tabs, fun H6 wk g6 nwk hwk => ⟨_, _, rfl, ?_⟩⟩
        have g56 := g5.trans g6
        have nwk4 : H4' wk = none := Gr.free kx.tabs g5 nwk
        have nsw : sn ≠ wk := ne_of_none upd_same nwk
        have hsn6 : H6 sn = some (.lst []) := g6.at g5.tabs upd_same notbl_lst
        obtain ⟨lc, l40⟩ := leads_sub ok
        refine ⟨fun mm σ H' => ∃ ks ws wk y, σ = [some (.ref a), some (.ref fl), some (.ref fo), some (.str z), some (.ref sn), some (.ref wk), y] ∧ Gr T H4' H' ∧ H4' wk = none ∧ sn ≠ wk ∧ H' sn = some (.lst (ks.map V.str)) ∧ H' wk = some (.lst (ws.map V.str)) ∧ Srch (leadsB bk) bk.keys z ks ws ∧ mm = ws.length + wt (leadsB bk) bk.keys ks ∧ mm ≤ 400,
          ⟨_, [], leadsB bk z, wk, _, rfl, g56, nwk4, nsw, hsn6, by rw [leads em]; exact hwk, Srch.start (lc z hzk), rfl, ?_⟩, fun mm σ H7 ⟨ks, ws, wk, y, eσ, g7, nwk7, nsw7, hsn, hwk7, hs, emm, hmm⟩ => ?_⟩
        · have h1 := l40 z hzk
          have h2 := wt_le (ks := []) l40
          have h3 : bk.keys.length ≤ 8 := by unfold Bk.keys; rw [List.length_map]; exact ok.few
          have h4 : 40 * bk.keys.length ≤ 40 * 8 := Nat.mul_le_mul_left _ h3
          omega
        subst eσ
        refine ⟨_, rfl, Nat.zero_le _, fun p8 np8 => ?_⟩
        have g8 := g7.trans (Gr.new g7.tabs (.lst []) np8)
        have hwk8 : upd H7 p8 (.lst []) wk = some (.lst (ws.map V.str)) := by rw [upd_ne (ne_of_none hwk7 np8)]; exact hwk7
        have hsn8 : upd H7 p8 (.lst []) sn = some (.lst (ks.map V.str)) := by rw [upd_ne (ne_of_none hsn np8)]; exact hsn
        refine ⟨.list (ws.map .str), .list [], .lst (SqL.of hwk8) (dp_strs ws), .lst (SqL.of upd_same) .nil, plain_strs ws, rfl, ?_, _, rfl, ?_⟩
        · show min _ 1 ≤ 64
          omega
        rw [ne_nil]
        generalize upd H7 p8 (HO.lst []) = H8 at g8 hwk8 hsn8 ⊢
        by_cases hw : ws = []
        · subst hw
          refine if0 rfl ?_
          have eR : inV (V.str z) (ks.map V.str) = ringB (leadsB bk) z := (inV_strs z ks).trans hs.done
          have eB : badB bk z = (looseM (Hx.lf bk) m || ringB (leadsB bk) z) := by unfold badB; rw [em]
          have foz : ((ys.take i).filter (badB bk)).length < sizeLine := by
            refine Nat.lt_of_le_of_lt (Nat.le_trans (List.length_filter_le _ _) ?_) (show 64 < sizeLine by decide)
            rw [List.length_take]
            have := pm.length_eq
            omega
          have yes : ∀ (H9 : Hp) (s4 s5 s6 : Option V), Gr T H8 H9 → badB bk z = true → (∃ y3 y4 y5 y6, ([some (V.ref a), some (V.ref fl), some (V.ref fo), some (V.str z), s4, s5, s6] : L2.St) = [some (V.ref a), some (V.ref fl), some (V.ref fo), y3, y4, y5, y6] ∧ KX fo T H3 (upd H9 fo (.lst (((ys.take i).filter (badB bk)).map V.str ++ [.str z]))) ∧ upd H9 fo (.lst (((ys.take i).filter (badB bk)).map V.str ++ [.str z])) fo = some (.lst (((ys.take (i + 1)).filter (badB bk)).map V.str))) := fun H9 s4 s5 s6 g9 hb =>
            ⟨_, _, _, _, rfl, ((kx.gr g8).gr g9).own foT, by rw [upd_same, List.take_add_one, ez]; simp [hb]⟩
          have fo9 : ∀ H9, Gr T H8 H9 → H9 fo = some (.lst (((ys.take i).filter (badB bk)).map V.str)) := fun H9 g9 => (g8.trans g9).at kx.tabs hfo4 notbl_lst
          refine ⟨_, rfl, _, rfl, sn, _, rfl, .inl (SqL.of hsn8), rfl, flat_strs ks, _, rfl, ?_⟩
          rw [if_neg Bool.false_ne_true, eR]
          cases e1 : ringB (leadsB bk) z with
          | true =>
            refine if1 rfl (if1 rfl ⟨_, rfl, .inl ⟨rfl, _, SqL.of (fo9 H8 (Gr.refl g8.tabs))⟩, _, rfl, fo, _, _, rfl, rfl, fo9 H8 (Gr.refl g8.tabs), by rw [List.length_map]; exact foz, ?_⟩)
            exact yes H8 _ _ _ (Gr.refl g8.tabs) (by rw [eB, e1, Bool.or_true])
          | false =>
            obtain ⟨vm8, dg8, hM8⟩ := (hB4.gr g8 kx.tabs).get em
            refine if0 rfl ⟨_, rfl, _, rfl, _, rfl, a, vm8, rfl, dg8, _, rfl, .ref a, vm8, fl, Hx.lf bk, bk.keys, m, rfl, hFD4.gr g8 kx.tabs, hM8, o3, o1, o1, g8.tabs, fun H9 g9 => ⟨_, rfl, ?_⟩⟩
            cases e2 : looseM (Hx.lf bk) m with
            | true =>
              refine if1 rfl ⟨_, rfl, .inl ⟨rfl, _, SqL.of (fo9 H9 g9)⟩, _, rfl, fo, _, _, rfl, rfl, fo9 H9 g9, by rw [List.length_map]; exact foz, ?_⟩
              exact yes H9 _ _ _ g9 (by rw [eB, e2, Bool.true_or])
            | false =>
              refine if0 rfl ⟨_, _, _, _, rfl, (kx.gr g8).gr g9, ?_⟩
              rw [fo9 H9 g9, List.take_add_one, ez]
              simp [eB, e1, e2]
        · obtain ⟨y', hy', esp⟩ := last_split hw
          generalize ws.dropLast = ws' at esp
          subst esp
          refine if1 (by simp) ⟨fun σ' H'' => ∃ m', m' < mm ∧ ∃ ks ws wk y, σ' = [some (.ref a), some (.ref fl), some (.ref fo), some (.str z), some (.ref sn), some (.ref wk), y] ∧ Gr T H4' H'' ∧ H4' wk = none ∧ sn ≠ wk ∧ H'' sn = some (.lst (ks.map V.str)) ∧ H'' wk = some (.lst (ws.map V.str)) ∧ Srch (leadsB bk) bk.keys z ks ws ∧ m' = ws.length + wt (leadsB bk) bk.keys ks ∧ m' ≤ 400, fun _ _ q => q, ?_⟩
          have hyk : y' ∈ bk.keys := hs.subw y' (List.mem_append_right _ List.mem_cons_self)
          refine ⟨_, rfl, .inl ⟨rfl, _, SqL.of hwk8⟩, wk, _, .str y', rfl, rfl, hwk8, ?_, ?_⟩
          · rw [List.length_map, List.length_append]; simp
          have ed : (((ws' ++ [y']).map V.str).dropLast) = ws'.map V.str := by rw [List.map_append]; exact List.dropLast_concat
          rw [ed]
          have g9 := g8.own kx.tabs (.lst (ws'.map V.str)) nwk7
          have hsn9 : upd H8 wk (.lst (ws'.map V.str)) sn = some (.lst (ks.map V.str)) := by rw [upd_ne nsw7]; exact hsn8
          have el : (ws' ++ [y']).length = ws'.length + 1 := by simp
          refine ⟨_, rfl, _, rfl, sn, _, rfl, .inl (SqL.of hsn9), rfl, flat_strs ks, _, rfl, ?_⟩
          rw [if_pos rfl, inV_strs]
          cases hin : decide (y' ∈ ks) with
          | true =>
            refine if0 rfl ⟨ws'.length + wt (leadsB bk) bk.keys ks, by omega, ks, ws', wk, _, rfl, g9, nwk7, nsw7, hsn9, upd_same, hs.old (of_decide_eq_true hin), rfl, by omega⟩
          | false =>
            have hnot : y' ∉ ks := of_decide_eq_false hin
            have hkl : ks.length ≤ 8 := Nat.le_trans (nodup_len hs.nd hs.subk) (by unfold Bk.keys; rw [List.length_map]; exact ok.few)
            refine if1 rfl ⟨_, rfl, .inl ⟨rfl, _, SqL.of hsn9⟩, _, rfl, sn, _, _, rfl, rfl, hsn9, by rw [List.length_map]; exact Nat.lt_of_le_of_lt hkl (by decide), ?_⟩
            have g10 := g9.own kx.tabs (.lst (ks.map V.str ++ [.str y'])) nsn
            have hwk10 : upd (upd H8 wk (.lst (ws'.map V.str))) sn (.lst (ks.map V.str ++ [.str y'])) wk = some (.lst (ws'.map V.str)) := by rw [upd_ne (Ne.symm nsw7)]; exact upd_same
            have hsn10 : upd (upd H8 wk (.lst (ws'.map V.str))) sn (.lst (ks.map V.str ++ [.str y'])) sn = some (.lst (ks.map V.str ++ [.str y'])) := upd_same
            generalize upd (upd H8 wk (HO.lst (ws'.map V.str))) sn (HO.lst (ks.map V.str ++ [.str y'])) = H10 at g10 hwk10 hsn10 ⊢
            obtain ⟨m', em'⟩ := rule_of hyk
            obtain ⟨vm', dg', hM'⟩ := (hB4.gr g10 kx.tabs).get em'
            obtain ⟨p1, p2, p3⟩ := okm em'
            refine ⟨_, rfl, _, rfl, _, rfl, _, rfl, a, vm', rfl, dg', _, rfl, .ref a, vm', fl, Hx.lf bk, bk.keys, m', rfl, hFD4.gr g10 kx.tabs, hM', p3, p1, p1, p2, g10.tabs, fun H11 l11 g11 nl11 hl11 => ?_⟩
            rw [← leads em'] at hl11
            have hw2 := wt_new (e := leadsB bk) hyk hnot
            have hy40 := l40 y' hyk
            have hwk11 := g11.at g10.tabs hwk10 notbl_lst
            refine ⟨wk, l11, _, _, rfl, rfl, hwk11, hl11, by rw [List.length_map, List.length_map]; exact lt1000 (by omega), fun p12 np12 => ?_⟩
            have g12 := g10.trans g11
            have hsn11 := g11.at g10.tabs hsn10 notbl_lst
            refine ⟨(ws' ++ leadsB bk y').length + wt (leadsB bk) bk.keys (ks ++ [y']), by rw [List.length_append]; omega, ks ++ [y'], ws' ++ leadsB bk y', p12, _, rfl, g12.trans (Gr.new g12.tabs _ np12), Gr.free kx.tabs g12 np12, ne_of_none hsn11 np12, ?_, ?_, hs.new hnot (lc y' hyk), rfl, by rw [List.length_append]; omega⟩
            · rw [upd_ne (ne_of_none hsn11 np12), hsn11, List.map_append]; rfl
            · rw [upd_same, List.map_append]
    · subst eσ
      rw [show (ys.map V.str).length = ys.length from List.length_map .., List.take_length] at hfo4
      exact ⟨_, rfl, q H4 fo ys (KX.back g3 nfo0 kx) nfo0 pm srt hfo4⟩
end
end Lw
/-! need_fair, need_of, counts, count where the book is unfair: BadBook with the list -/
namespace Lw
open PySem PySem.Spec PyProof.Rows L2 Hx Xs
/-- the class named x, made with one thing that becomes its field -/
structure Makes (P : Program) (w : World) (K : PySem.W.Frag) (mg : Str → Option Value) (base : Heap) (x fl : Str) (C : Addr) : Prop where
  T : OexC K C
  g : mg x = some (.ref C)
  ini : ∃ f1 fd a1, PySem.W.findIn K (.ref C) "__init__" = some (some (.ref f1)) ∧ PySem.W.typeIn K (.ref f1) = some (.type "function") ∧ FnOk P w K mg base CX0 1 f1 fd ["self", a1] (spIni K C fl) ∧ Binds K fd ["self", a1] []
section
variable {P : Program} {w : World} {K : PySem.W.Frag} {mg : Str → Option Value} {base : Heap} {T : List Addr}
theorem funN {x : Str} {st : Stmt} {f : Addr} {fd : FuncData} {N ps : List Str} {k : Nat} {sp : Sp} (F : Fun K x x st f fd) (S : FnScope N ps (defScope st)) (len : ∀ vs H Q E, sp vs H Q E → vs.length = ps.length)
    (body : ∀ (cd : Value) (A : Around) (outer : List Env) (s : Shared) (H : Hp) (vs : List V) (Q : VK) (E : XK), Room k (A.deeper (envOfC x (defScope st) s.heap.objs.size f cd)) → sp vs H Q E →
      ∃ t, PSs (cxOf (L2N.CX P w) P w K mg base N x (defScope st) f cd A outer s H E) (defBody st) t ∧ t { nx := fun _ H' => Q .non H', rt := Q } (start N vs) H) : FnOk P w K mg base (L2N.CX P w) (k + 1) f fd ps sp := by
  obtain ⟨oc, od, kV, doc, pm, an, cd, ct, osl, rfl, lk, hcd⟩ := F.ex
  exact fn_of lk hcd S len fun A outer s H vs Q E hr z => body cd A outer s H vs Q E hr z
/-- a def that may raise, by name -/
def PrN (P : Program) (w : World) (K : PySem.W.Frag) (mg : Str → Option Value) (base : Heap) (x : Str) (ps : List Str) (sp : Sp) (k : Nat) : Prop := ∃ f fd, FnOk P w K mg base (L2N.CX P w) k f fd ps sp ∧ mg x = some (.ref f) ∧ PySem.W.keepIn K (.ref f) = true ∧ Binds K fd ps []
theorem passN {X : Cx} {W : WX} {E : XK} (tk : L2N.Takes X W) (h : ∀ cls d σ H, E cls d H → W cls d σ H) : Passes (L2N.CX X.prog X.w) X E := L2N.passes_call tk h
/-- nothing is let out -/
theorem passN0 {X : Cx} : Passes (L2N.CX X.prog X.w) X E0 := fun _ _ _ _ _ _ _ ⟨_, _, _, _, _, _, _, _, _, _, _, _, z⟩ => z.elim
/-- words in a text -/
theorem fmt_words {l : List Str} (h : ∀ z ∈ l, word z) (n : l.length ≤ 64) : (∀ y ∈ l, ∀ c ∈ y.cps.toList, c < 16 ^ 8) ∧ fmtCost l ≤ 100000 := by
  refine ⟨fun y hy c hc => Nat.lt_of_le_of_lt ((h y hy).2.2 c hc).2 (by decide), ?_⟩
  have key : ∀ l : List Str, (∀ z ∈ l, word z) → fmtCost l ≤ 84 * l.length := fun l => by
    induction l with
    | nil => intro _; exact Nat.zero_le _
    | cons y l ih =>
      intro hw
      have h1 := (hw y List.mem_cons_self).2.1
      have h2 := ih fun z hz => hw z (List.mem_cons_of_mem _ hz)
      rw [fmtCost_cons, List.length_cons]
      omega
  have := key l h
  omega
abbrev sNeedFair : Stmt := topS 45
theorem scNeedFair : FnScope ["book", "wrong"] ["book"] (defScope sNeedFair) := ⟨rfl, rfl, rfl, by decide +kernel, rfl, by decide +kernel, by decide +kernel⟩
/-- raised: BadBook with the list of the unfair words -/
def isBad (K : PySem.W.Frag) (T : List Addr) (C : Addr) (bk : Bk) (H : Hp) (E : XK) : Prop := ∀ H' p ys d, Gr T H H' → H p = none → ys.Perm bk.keys → sortedS ys = true → ys.filter (badB bk) ≠ [] → H' p = some (.lst ((ys.filter (badB bk)).map V.str)) → H d = none → H' d = some (.xd [("wrong", .ref p)]) → E (.ref C) (some d) H'
def spNeedFair (K : PySem.W.Frag) (T : List Addr) (C : Addr) : Sp := fun vs H Q E => ∃ (a : Addr) (bk : Bk), vs = [.ref a] ∧ IsD0 K H a bk ∧ okB bk ∧ TabsG T H ∧ (∀ H', Gr T H H' → (∀ z ∈ bk.keys, badB bk z = false) → Q .non H') ∧ isBad K T C bk H E
theorem pr_needfair {C : Addr} (h : Has K mg "need_fair" sNeedFair ["book"]) (hU : Pr P w K mg base "unfair" ["book"] (spUnfair K T) 21) (M : Makes P w K mg base "BadBook" "wrong" C) : PrN P w K mg base "need_fair" ["book"] (spNeedFair K T C) 22 := by
  obtain ⟨f, fd, F, g, b⟩ := h
  obtain ⟨fU, fdU, GU, gU, kU, bU⟩ := hU
  obtain ⟨f1, fd1, a1, iC, tI, G1, b1⟩ := M.ini
  refine ⟨f, fd, funN F scNeedFair (fun vs H Q E h => ?_) (fun cd A outer s H vs Q E hr h => ?_), g, F.kp, b⟩
  · obtain ⟨a, bk, rfl, _⟩ := h
    rfl
  · obtain ⟨a, bk, rfl, hD, ok, ht, q1, q2⟩ := h
    refine' ⟨_, pss_cons ?s1 (pss_one (ps_if ?t (pss_one ?r) pss_nil)), ?fin⟩
    case s1 => exact ps_set (i := 1) scNeedFair.nd rfl (.inl rfl) (pe_call GU hr (by rfl) gU kU bU .nil pass0 (pa_cons (pv 0) pa_nil))
    case t => exact pt_truth (pv 1) (fun _ => rfl)
    case r => exact L2N.ps_raise rfl (L2N.takes_of rfl rfl rfl rfl) (mkN M.T iC tI G1 b1 (hr.mono (by decide)) (by rfl) M.g (pv 1))
    refine ⟨_, rfl, a, bk, rfl, hD, ok, ht, fun H1 p ys g1 np pm srt e => ?_⟩
    refine ⟨_, rfl, _, .inl ⟨_, SqL.of e, rfl⟩, ?_⟩
    cases ef : ys.filter (badB bk) with
    | nil =>
      refine if0 rfl (q1 H1 g1 fun z hz => ?_)
      have := List.filter_eq_nil_iff.mp ef z (pm.mem_iff.mpr hz)
      simpa using this
    | cons z r =>
      refine if1 rfl ⟨_, rfl, .inr (.inr (.inr ⟨p, ys.filter (badB bk), rfl, SqL.of e, ?_⟩)), fun d nd => ?_⟩
      · refine fmt_words (fun z hz => ?_) ?_
        · have hk : z ∈ bk.keys := pm.mem_iff.mp (List.mem_filter.mp hz).1
          obtain ⟨pr, hp, rfl⟩ := List.mem_map.mp hk
          exact (ok.good _ hp).1
        · have := pm.length_eq
          have h2 : bk.keys.length ≤ 8 := by unfold Bk.keys; rw [List.length_map]; exact ok.few
          exact Nat.le_trans (List.length_filter_le _ _) (by omega)
      · refine q2 _ p ys d (g1.trans (Gr.new g1.tabs _ nd)) np pm srt (by rw [ef]; simp) ?_ (Gr.free ht g1 nd) upd_same
        rw [upd_ne (ne_of_none e nd)]
        exact e
end
end Lw
namespace Lw
open PySem PySem.Spec PyProof.Rows L2 Hx Xs
abbrev sNeedOf : Stmt := topS 46
abbrev sCounts : Stmt := topS 64
abbrev sCount : Stmt := topS 65
theorem scNeedOf : FnScope ["book", "making"] ["book", "making"] (defScope sNeedOf) := ⟨rfl, rfl, rfl, by decide +kernel, rfl, by decide +kernel, by decide +kernel⟩
theorem scCounts : FnScope ["book", "making", "most"] ["book", "making", "most"] (defScope sCounts) := ⟨rfl, rfl, rfl, by decide +kernel, rfl, by decide +kernel, by decide +kernel⟩
theorem scCount : FnScope ["book", "making", "size"] ["book", "making", "size"] (defScope sCount) := ⟨rfl, rfl, rfl, by decide +kernel, rfl, by decide +kernel, by decide +kernel⟩
section
variable {P : Program} {w : World} {K : PySem.W.Frag} {mg : Str → Option Value} {base : Heap} {T : List Addr}
/-- of an unfair book, whatever else is handed in -/
def spBad (K : PySem.W.Frag) (T : List Addr) (C : Addr) (n : Nat) : Sp := fun vs H _ E => ∃ (a : Addr) (us : List V) (bk : Bk), vs = .ref a :: us ∧ us.length = n ∧ IsD0 K H a bk ∧ okB bk ∧ TabsG T H ∧ (∃ z ∈ bk.keys, badB bk z = true) ∧ isBad K T C bk H E
theorem need_bad {C : Addr} {H : Hp} {a : Addr} {bk : Bk} {Q : VK} {E : XK} (hD : IsD0 K H a bk) (ok : okB bk) (ht : TabsG T H) (bad : ∃ z ∈ bk.keys, badB bk z = true) (q : isBad K T C bk H E) : spNeedFair K T C [.ref a] H Q E :=
  ⟨a, bk, rfl, hD, ok, ht, (fun H' _ no => by obtain ⟨z, hz, hb⟩ := bad; rw [no z hz] at hb; cases hb), q⟩
theorem pr_needof {C : Addr} (h : Has K mg "need_of" sNeedOf ["book", "making"]) (hU : PrN P w K mg base "need_fair" ["book"] (spNeedFair K T C) 22) : PrN P w K mg base "need_of" ["book", "making"] (spBad K T C 1) 23 := by
  obtain ⟨f, fd, F, g, b⟩ := h
  obtain ⟨fU, fdU, GU, gU, kU, bU⟩ := hU
  refine ⟨f, fd, funN F scNeedOf (fun vs H Q E h => ?_) (fun cd A outer s H vs Q E hr h => ?_), g, F.kp, b⟩
  · obtain ⟨a, us, bk, rfl, e, _⟩ := h
    show us.length + 1 = 2
    omega
  · obtain ⟨a, us, bk, rfl, e, hD, ok, ht, bad, q⟩ := h
    obtain ⟨u, rfl⟩ : ∃ u, us = [u] := List.length_eq_one_iff.mp e
    exact ⟨_, pss_cons (ps_expr (pe_call GU hr (by rfl) gU kU bU .nil (passN (L2N.takes_of rfl rfl rfl rfl) fun _ _ _ _ z => z) (pa_cons (pv 0) pa_nil))) pss_no, _, rfl, a, bk, rfl, hD, ok, ht, (fun H' _ no => by obtain ⟨z, hz, hb⟩ := bad; rw [no z hz] at hb; cases hb), q⟩
theorem pr_countsBad {C : Addr} (h : Has K mg "counts" sCounts ["book", "making", "most"]) (hU : PrN P w K mg base "need_of" ["book", "making"] (spBad K T C 1) 23) : PrN P w K mg base "counts" ["book", "making", "most"] (spBad K T C 2) 24 := by
  obtain ⟨f, fd, F, g, b⟩ := h
  obtain ⟨fU, fdU, GU, gU, kU, bU⟩ := hU
  refine ⟨f, fd, funN F scCounts (fun vs H Q E h => ?_) (fun cd A outer s H vs Q E hr h => ?_), g, F.kp, b⟩
  · obtain ⟨a, us, bk, rfl, e, _⟩ := h
    show us.length + 1 = 3
    omega
  · obtain ⟨a, us, bk, rfl, e, hD, ok, ht, bad, q⟩ := h
    obtain ⟨u, v, rfl⟩ : ∃ u v, us = [u, v] := match us, e with | [u, v], _ => ⟨u, v, rfl⟩
    exact ⟨_, pss_cons (ps_expr (pe_call GU hr (by rfl) gU kU bU .nil (passN (L2N.takes_of rfl rfl rfl rfl) fun _ _ _ _ z => z) (pa_cons (pv 0) (pa_cons (pv 1) pa_nil)))) pss_no, _, rfl, _, rfl, a, [u], bk, rfl, rfl, hD, ok, ht, bad, q⟩
theorem pr_countBad {C : Addr} (h : Has K mg "count" sCount ["book", "making", "size"]) (hU : PrN P w K mg base "counts" ["book", "making", "most"] (spBad K T C 2) 24) : PrN P w K mg base "count" ["book", "making", "size"] (spBad K T C 2) 25 := by
  obtain ⟨f, fd, F, g, b⟩ := h
  obtain ⟨fU, fdU, GU, gU, kU, bU⟩ := hU
  refine ⟨f, fd, funN F scCount (fun vs H Q E h => ?_) (fun cd A outer s H vs Q E hr h => ?_), g, F.kp, b⟩
  · obtain ⟨a, us, bk, rfl, e, _⟩ := h
    show us.length + 1 = 3
    omega
  · obtain ⟨a, us, bk, rfl, e, hD, ok, ht, bad, q⟩ := h
    obtain ⟨u, v, rfl⟩ : ∃ u v, us = [u, v] := match us, e with | [u, v], _ => ⟨u, v, rfl⟩
    exact ⟨_, pss_one (ps_ret (pe_ix ix_list (pe_call GU hr (by rfl) gU kU bU .nil (passN (L2N.takes_of rfl rfl rfl rfl) fun _ _ _ _ z => z) (pa_cons (pv 0) (pa_cons (pv 1) (pa_cons (pv 2) pa_nil)))) (pv 2) (fun _ _ => rfl))), _, rfl, _, rfl, _, rfl, a, [u, v], bk, rfl, rfl, hD, ok, ht, bad, q⟩
end
end Lw
/-! sorted words; what the law draws -/
namespace Hx
open L2 PySem PySem.Spec PyProof.Rows
theorem rising_pw : ∀ (l : List Str) (p : Str), risingS p l = true → (p :: l).Pairwise (fun a b => a.cps.toList ≤ b.cps.toList)
  | [], p, _ => List.pairwise_singleton _ _
  | x :: r, p, h => by
    have h1 : (!ltCps x.cps.toList p.cps.toList) = true ∧ risingS x r = true := Bool.and_eq_true_iff.mp h
    have hx : p.cps.toList ≤ x.cps.toList := by
      have := h1.1
      rw [ltCps_eq] at this
      simpa using this
    have ih := rising_pw r x h1.2
    refine List.pairwise_cons.mpr ⟨fun y hy => ?_, ih⟩
    rcases List.mem_cons.mp hy with e | hy
    · rw [e]; exact hx
    · exact List.le_trans hx ((List.pairwise_cons.mp ih).1 y hy)
theorem sorted_pw (l : List Str) (h : sortedS l = true) : l.Pairwise (fun a b => a.cps.toList ≤ b.cps.toList) := by
  cases l with
  | nil => exact List.Pairwise.nil
  | cons x r => exact rising_pw r x h
theorem sorted_eq {xs ys : List Str} (p : xs.Perm ys) (hx : sortedS xs = true) (hy : sortedS ys = true) : xs = ys :=
  List.Perm.eq_of_pairwise (fun a b _ _ h1 h2 => by
    have e : a.cps.toList = b.cps.toList := List.le_antisymm h1 h2
    cases a; cases b
    simpa using e) (sorted_pw xs hx) (sorted_pw ys hy) p
/-! ### drawn makings -/
structure Drawn (dp : Nat) (ns ls : List Str) (m : Mk) : Prop where
  good : m.good
  dep : m.depth ≤ dp
  par : m.parts.length + 1 ≤ 2 ^ (dp + 1)
  nam : ∀ z ∈ m.names, z ∈ ns ∨ z ∈ ls
def FirmD (dp : Nat) (ns ls : List Str) (m : Mk) : Prop := Drawn dp ns ls m ∧ ∀ b, bareM b m = false ∧ standB b m = [] ∧ looseM b m = false
def FreeD (dp : Nat) (ns ls : List Str) (m : Mk) : Prop := Drawn dp ns ls m ∧ ∀ b, (∀ z ∈ standB b m, z ∈ ns) ∧ looseM b m = false
theorem pow2 (dp : Nat) : 2 ≤ 2 ^ (dp + 1) := by
  have : 1 ≤ 2 ^ dp := Nat.one_le_two_pow
  rw [Nat.pow_succ]
  omega
theorem one_part {dp : Nat} {m : Mk} (h : m.parts.length = 1) : m.parts.length + 1 ≤ 2 ^ (dp + 1) := by rw [h]; exact pow2 dp
theorem two_parts {dp a b : Nat} (ha : a + 1 ≤ 2 ^ (dp + 1)) (hb : b + 1 ≤ 2 ^ (dp + 1)) : a + b + 1 + 1 ≤ 2 ^ (dp + 1 + 1) := by
  rw [Nat.pow_succ]
  omega
theorem FirmD.atom {dp : Nat} {ns ls : List Str} {c : Nat} (h : letter c) : FirmD dp ns ls (.atom c) := ⟨⟨h, Nat.zero_le _, one_part rfl, fun z hz => by cases hz⟩, fun b => ⟨rfl, rfl, rfl⟩⟩
theorem FirmD.sum {dp : Nat} {ns ls : List Str} {x y : Mk} (hx : FirmD dp ns ls x) (hy : FirmD dp ns ls y) : FirmD (dp + 1) ns ls (.k2 .sum x y) := by
  refine ⟨⟨⟨hx.1.good, hy.1.good⟩, ?_, ?_, fun z hz => (List.mem_append.mp hz).elim (hx.1.nam z) (hy.1.nam z)⟩, fun b => ⟨?_, ?_, ?_⟩⟩
  · have := hx.1.dep; have := hy.1.dep; simp only [Mk.depth]; omega
  · simp only [Mk.parts, List.length_cons, List.length_append]; exact two_parts hx.1.par hy.1.par
  · simp [bareM, (hx.2 b).1, (hy.2 b).1]
  · simp [standB, (hx.2 b).2.1, (hy.2 b).2.1]
  · simp [looseM, (hx.2 b).2.2, (hy.2 b).2.2]
theorem FirmD.name {dp : Nat} {ns ls : List Str} {c : Nat} {z : Str} (h : letter c) (hw : word z) (hz : z ∈ ns ∨ z ∈ ls) : FirmD (dp + 1) ns ls (.k2 .pair (.atom c) (.name z)) := by
  refine ⟨⟨⟨h, hw⟩, by simp only [Mk.depth]; omega, ?_, fun y hy => ?_⟩, fun b => ⟨rfl, ?_, rfl⟩⟩
  · simp only [Mk.parts, List.length_cons, List.length_append, List.length_nil]; have := pow2 dp; rw [Nat.pow_succ]; omega
  · have : y = z := by simpa [Mk.names] using hy
    rw [this]; exact hz
  · cases e : b z <;> simp [standB, bareM, e]
theorem FirmD.left {dp : Nat} {ns ls : List Str} {c : Nat} {x : Mk} (h : letter c) (hx : FreeD dp ns ls x) : FirmD (dp + 1) ns ls (.k2 .pair (.atom c) x) := by
  refine ⟨⟨⟨h, hx.1.good⟩, ?_, ?_, fun y hy => hx.1.nam y (by simpa [Mk.names] using hy)⟩, fun b => ⟨rfl, ?_, ?_⟩⟩
  · have := hx.1.dep; simp only [Mk.depth]; omega
  · simp only [Mk.parts, List.length_cons, List.length_append, List.length_nil]
    have := hx.1.par; have := pow2 dp; rw [Nat.pow_succ]; omega
  · simp [standB, bareM]
  · simp [looseM, (hx.2 b).2]
theorem FirmD.right {dp : Nat} {ns ls : List Str} {c : Nat} {x : Mk} (h : letter c) (hx : FreeD dp ns ls x) : FirmD (dp + 1) ns ls (.k2 .pair x (.atom c)) := by
  refine ⟨⟨⟨hx.1.good, h⟩, ?_, ?_, fun y hy => hx.1.nam y (by simpa [Mk.names] using hy)⟩, fun b => ⟨?_, ?_, ?_⟩⟩
  · have := hx.1.dep; simp only [Mk.depth]; omega
  · simp only [Mk.parts, List.length_cons, List.length_append, List.length_nil]
    have := hx.1.par; have := pow2 dp; rw [Nat.pow_succ]; omega
  · simp [bareM]
  · simp [standB, bareM]
  · simp [looseM, (hx.2 b).2]
theorem FreeD.zero {dp : Nat} {ns ls : List Str} (k : K0) : FreeD dp ns ls (.k0 k) := ⟨⟨trivial, Nat.zero_le _, one_part rfl, fun z hz => by cases hz⟩, fun b => ⟨(fun z hz => by cases hz), rfl⟩⟩
theorem FreeD.atom {dp : Nat} {ns ls : List Str} {c : Nat} (h : letter c) : FreeD dp ns ls (.atom c) := ⟨⟨h, Nat.zero_le _, one_part rfl, fun z hz => by cases hz⟩, fun b => ⟨(fun z hz => by cases hz), rfl⟩⟩
theorem FreeD.name {dp : Nat} {ns ls : List Str} {z : Str} (hw : word z) (hz : z ∈ ns) : FreeD dp ns ls (.name z) :=
  ⟨⟨hw, Nat.zero_le _, one_part rfl, fun y hy => by rw [List.mem_singleton.mp hy]; exact .inl hz⟩, fun b => ⟨fun y hy => by rw [List.mem_singleton.mp hy]; exact hz, rfl⟩⟩
theorem FreeD.two {dp : Nat} {ns ls : List Str} {k : K2} {x y : Mk} (hx : FreeD dp ns ls x) (hy : FreeD dp ns ls y) : FreeD (dp + 1) ns ls (.k2 k x y) := by
  refine ⟨⟨⟨hx.1.good, hy.1.good⟩, ?_, ?_, fun z hz => (List.mem_append.mp hz).elim (hx.1.nam z) (hy.1.nam z)⟩, fun b => ⟨fun z hz => ?_, ?_⟩⟩
  · have := hx.1.dep; have := hy.1.dep; simp only [Mk.depth]; omega
  · simp only [Mk.parts, List.length_cons, List.length_append]; exact two_parts hx.1.par hy.1.par
  · cases k with
    | sum => exact (List.mem_append.mp hz).elim ((hx.2 b).1 z) ((hy.2 b).1 z)
    | pair =>
      rcases List.mem_append.mp hz with q | q
      · by_cases c : bareM b y = true
        · rw [if_pos c] at q; exact (hx.2 b).1 z q
        · rw [if_neg c] at q; cases q
      · by_cases c : bareM b x = true
        · rw [if_pos c] at q; exact (hy.2 b).1 z q
        · rw [if_neg c] at q; cases q
  · simp [looseM, (hx.2 b).2, (hy.2 b).2]
theorem FreeD.one {dp : Nat} {ns ls : List Str} {k : K1} {x : Mk} (hx : FirmD dp ns ls x) : FreeD (dp + 1) ns ls (.k1 k x) := by
  refine ⟨⟨hx.1.good, ?_, ?_, fun z hz => hx.1.nam z hz⟩, fun b => ⟨fun z hz => ?_, ?_⟩⟩
  · have := hx.1.dep; simp only [Mk.depth]; omega
  · simp only [Mk.parts, List.length_cons]
    have := hx.1.par; have := pow2 dp; rw [Nat.pow_succ]; omega
  · have : standB b (.k1 k x) = [] := (hx.2 b).2.1
    rw [this] at hz; cases hz
  · simp [looseM, (hx.2 b).1, (hx.2 b).2.2]
end Hx
namespace Lw
open PySem PySem.Spec PyProof.Rows L2 Hx
abbrev sFirm : Stmt := topS 75
abbrev sFree : Stmt := topS 76
abbrev sBookOf : Stmt := topS 77
abbrev D4 : List Str := ["_law_dice", "_law_deep", "_law_names", "_law_later"]
abbrev NFi : List Str := ["_law_dice", "_law_deep", "_law_names", "_law_later", "_law_letter", "_law_act", "_law_some", "_law_rest"]
abbrev NFr : List Str := ["_law_dice", "_law_deep", "_law_names", "_law_later", "_law_act", "_law_one", "_law_other"]
theorem scFirm : FnScope NFi D4 (defScope sFirm) := ⟨rfl, rfl, rfl, by decide +kernel, rfl, by decide +kernel, by decide +kernel⟩
theorem scFree : FnScope NFr D4 (defScope sFree) := ⟨rfl, rfl, rfl, by decide +kernel, rfl, by decide +kernel, by decide +kernel⟩
/-- the die has been rolled, things have been made -/
structure DR (d : Addr) (T : List Addr) (H H' : Hp) : Prop where
  kx : KX d T H H'
  die : Die H' d
section
variable {d : Addr} {T : List Addr} {H H1 H2 : Hp}
theorem DR.trans (a : DR d T H H1) (b : DR d T H1 H2) : DR d T H H2 := ⟨⟨fun c o n e nb => b.kx.keep c o n (a.kx.keep c o n e nb) nb, b.kx.tabs⟩, b.die⟩
theorem DR.of (g : Gr T H H1) (t : TabsG T H) (h : Die H d) : DR d T H H1 := ⟨KX.of g, h.gr g t⟩
theorem DR.roll (t : TabsG T H) (h : Die H d) (x y : Int) : DR d T H (upd H d (.lst [.int x, .int y])) := by
  obtain ⟨x0, y0, e⟩ := h
  exact ⟨⟨fun c o n e nb => by rw [upd_ne n]; exact e, t.upd _ (t.out e notbl_lst)⟩, x, y, upd_same⟩
theorem DR.kt (g : DR d T H H1) (t : TabsG T H) (h : Die H d) : KT H H1 := by
  obtain ⟨x0, y0, e⟩ := h
  exact ⟨fun b xs eb => g.kx.keep b _ (fun z => by rw [z, e] at eb; cases eb) eb (t.out eb notbl_tup), fun b o u eb => g.kx.keep b _ (fun z => by rw [z, e] at eb; cases eb) eb (t.out eb notbl_frz)⟩
theorem die_ne {a : Addr} {ns : List Str} (h : Die H d) (e : H a = some (.lst (ns.map V.str))) : a ≠ d := fun z => by
  obtain ⟨x, y, e2⟩ := h
  rw [z, e2] at e
  have : [V.int x, V.int y] = ns.map V.str := by injection Option.some.inj e
  cases ns with
  | nil => cases this
  | cons _ _ => cases this
theorem DR.words (g : DR d T H H1) (t : TabsG T H) (h : Die H d) {a : Addr} {ns : List Str} (e : H a = some (.lst (ns.map V.str))) : H1 a = some (.lst (ns.map V.str)) := g.kx.at t (die_ne h e) e notbl_lst
end
theorem ab_at {r : Int} (h0 : 0 ≤ r) (h1 : r < 2) : ∃ c, atI (Str.ofString "ab").cps.toList r = some c ∧ letter c := by
  have e : (Str.ofString "ab").cps.toList = [97, 98] := by decide +kernel
  rw [e]
  rcases (by omega : r = 0 ∨ r = 1) with rfl | rfl
  · exact ⟨97, rfl, by unfold letter; omega⟩
  · exact ⟨98, rfl, by unfold letter; omega⟩
section
variable {P : Program} {w : World} {K : PySem.W.Frag} {mg : Str → Option Value} {base : Heap} {T : List Addr}
/-- what both draw from -/
structure DI (d na la : Addr) (ns ls : List Str) (T : List Addr) (H : Hp) : Prop where
  die : Die H d
  hn : H na = some (.lst (ns.map V.str))
  hl : H la = some (.lst (ls.map V.str))
  wn : ∀ z ∈ ns, word z
  wl : ∀ z ∈ ls, word z
  ln : ns.length ≤ 8
  ll : ls.length ≤ 8
  t : TabsG T H
theorem DI.dr {d na la : Addr} {ns ls : List Str} {H H1 : Hp} (i : DI d na la ns ls T H) (g : DR d T H H1) : DI d na la ns ls T H1 := ⟨g.die, g.words i.t i.die i.hn, g.words i.t i.die i.hl, i.wn, i.wl, i.ln, i.ll, g.kx.tabs⟩
def spDraw (K : PySem.W.Frag) (T : List Addr) (R : Nat → List Str → List Str → Hx.Mk → Prop) (n : Nat) : Sp := fun vs H Q _ => ∃ (d na la : Addr) (dp : Nat) (ns ls : List Str), vs = [.ref d, .int dp, .ref na, .ref la] ∧ dp < n ∧ dp ≤ 6 ∧ DI d na la ns ls T H ∧
  ∀ H' v m, DR d T H H' → IsM K H' v m → R dp ns ls m → Q v H'
theorem ok_firmS {f fR fF : Addr} {fd fdR fdF : FuncData} {n L : Nat} (F : Fun K "_law_firm" "_law_firm" sFirm f fd) (GR : FnOk P w K mg base CX0 L fR fdR ["_law_dice", "_law_many"] spRoll) (bR : Binds K fdR ["_law_dice", "_law_many"] []) (gR : mg "_law_roll" = some (.ref fR)) (kR : PySem.W.keepIn K (.ref fR) = true)
    (GI : FnOk P w K mg base CX0 L f fd D4 (spDraw K T FirmD n)) (bI : Binds K fd D4 []) (gI : mg "_law_firm" = some (.ref f))
    (GF : FnOk P w K mg base CX0 L fF fdF D4 (spDraw K T FreeD n)) (bF : Binds K fdF D4 []) (gF : mg "_law_free" = some (.ref fF)) (kF : PySem.W.keepIn K (.ref fF) = true) (B : Bn mg) :
    FnOk P w K mg base CX0 (L + 1) f fd D4 (spDraw K T FirmD (n + 1)) := by
  refine F.ok scFirm (fun vs H Q E h => ?_) (fun cdv A outer s H vs Q E hr h => ?_)
  · obtain ⟨d, na, la, dp, ns, ls, rfl, _⟩ := h
    rfl
  · obtain ⟨d, na, la, dp, ns, ls, rfl, hdp, hdp6, I, q⟩ := h
    have firm : ∀ {p1 p2 p3 p4 p5 p6 p7 p8 : Pos} {j : Nat}, PE (cxOf CX0 P w K mg base NFi "_law_firm" (defScope sFirm) f cdv A outer s H E).nox (.Call (.Name "_law_firm" p1) [.Name "_law_dice" p2, .BinOp (.Name "_law_deep" p3) .Sub (.Constant (.int 1) j p4) p5, .Name "_law_names" p6, .Name "_law_later" p7] [] p8) (tCall (spDraw K T FirmD n) [] E (tCons (tVar 0) (tCons (tOp (rI0 fun i j => .int (i - j)) (tVar 1) (tC (.int 1))) (tCons (tVar 2) (tCons (tVar 3) tNil))))) := by
      intros
      exact pe_call GI hr (by rfl) gI F.kp bI .nil pass0 (pa_cons (pv 0) (pa_cons (pe_op op_sub (pv 1) pe_int) (pa_cons (pv 2) (pa_cons (pv 3) pa_nil))))
    refine' ⟨_, pss_cons ?s1 (pss_cons ?s2 (pss_cons ?s3 (pss_cons ?s4 (pss_cons ?s5 (pss_cons ?s6 (pss_cons ?s7 (pss_one ?s8))))))), ?fin⟩
    case s1 => exact ps_set (i := 4) scFirm.nd rfl (.inl rfl) (pe_tup (pa_cons pe_str (pa_cons (pe_ix ix_str pe_str (pe_call GR hr (by rfl) gR kR bR .nil pass0 (pa_cons (pv 0) (pa_cons pe_int pa_nil))) (fun _ _ => rfl)) pa_nil)))
    case s2 => exact ps_set (i := 5) scFirm.nd rfl (.inl rfl) (pe_ifExp (pt_cmpR op_gt (pv 1) pe_int (nomark _)) (pe_call GR hr (by rfl) gR kR bR .nil pass0 (pa_cons (pv 0) (pa_cons pe_int pa_nil))) pe_int)
    case s3 => exact ps_if (pt_cmpR op_lt (pv 5) pe_int (nomark _)) (pss_one (ps_ret (pv 4))) pss_nil
    case s4 => exact ps_if (pt_cmpR op_eq (pv 5) pe_int (nomark _)) (pss_one (ps_ret (pe_tup (pa_cons pe_str (pa_cons firm (pa_cons firm pa_nil)))))) pss_nil
    case s5 => exact ps_set (i := 6) scFirm.nd rfl (.inl rfl) (pe_op op_cat (pv 2) (pv 3))
    case s6 => exact ps_if (PW.pt (pw_and (pt_cmpR op_eq (pv 5) pe_int (nomark _)) (pw_and1 (pt_cmpR (op_neP hr.units) (pv 6) (pe_lst pa_nil) (nomark _))))) (pss_one (ps_ret (pe_tup (pa_cons pe_str (pa_cons (pv 4) (pa_cons (pe_tup (pa_cons pe_str (pa_cons (pe_ix ix_list (pv 6) (pe_call GR hr (by rfl) gR kR bR .nil pass0 (pa_cons (pv 0) (pa_cons (pe_callB call_len_seq (by rfl) B.len PySem.boot_len (pa_cons (pv 6) pa_nil)) pa_nil))) (fun _ _ => rfl)) pa_nil))) pa_nil)))))) pss_nil
    case s7 => exact ps_set (i := 7) scFirm.nd rfl (.inl rfl) (pe_call GF hr (by rfl) gF kF bF .nil pass0 (pa_cons (pv 0) (pa_cons (pe_op op_sub (pv 1) pe_int) (pa_cons (pv 2) (pa_cons (pv 3) pa_nil)))))
    case s8 => exact ps_ret (pe_ifExp (pt_cmpR op_eq (pv 5) pe_int (nomark _)) (pe_tup (pa_cons pe_str (pa_cons (pv 4) (pa_cons (pv 7) pa_nil)))) (pe_tup (pa_cons pe_str (pa_cons (pv 7) (pa_cons (pv 4) pa_nil)))))
    refine ⟨_, rfl, d, 2, rfl, I.die, by decide, by decide, fun x y r r0 r2 => ?_⟩
    have g1 := DR.roll I.t I.die x y
    generalize upd H d (HO.lst [.int x, .int y]) = H1 at g1 ⊢
    obtain ⟨c, hc, hlc⟩ := ab_at r0 r2
    refine ⟨_, r, c, rfl, rfl, by show 2 ≤ sizeLine; decide, hc, by show 2 ≤ sizeLine; decide, fun lp nlp => ?_⟩
    have g2 := g1.trans (DR.of (Gr.new g1.kx.tabs (.tup [.str "atom", .str ⟨#[c]⟩]) nlp) g1.kx.tabs g1.die)
    have hlp : upd H1 lp (.tup [.str "atom", .str ⟨#[c]⟩]) lp = some (.tup [.str "atom", .str ⟨#[c]⟩]) := upd_same
    generalize upd H1 lp (HO.tup [.str "atom", .str ⟨#[c]⟩]) = H2 at g2 hlp ⊢
    have lit : ∀ {H' : Hp}, DR d T H2 H' → IsM K H' (.ref lp) (.atom c) := fun g => .atom c ((g.kt g2.kx.tabs g2.die).seqT (.inl (.inl hlp)))
    cases dp with
    | zero =>
      refine ⟨_, rfl, _, _, rfl, rfl, _, rfl, if0 (by decide) ?_⟩
      refine ⟨_, rfl, _, _, rfl, rfl, _, rfl, if1 (by decide) ⟨_, rfl, q H2 _ _ g2 (lit (DR.of (Gr.refl g2.kx.tabs) g2.kx.tabs g2.die)) (FirmD.atom hlc)⟩⟩
    | succ k =>
      have e1 : ((k + 1 : Nat) : Int) - 1 = (k : Int) := by omega
      have ev : [V.ref d, V.int (((k + 1 : Nat) : Int) - 1), V.ref na, V.ref la] = [V.ref d, V.int (k : Int), V.ref na, V.ref la] := by rw [e1]
      refine ⟨_, rfl, _, _, rfl, rfl, _, rfl, if1 (decide_eq_true (by omega)) ?_⟩
      refine ⟨_, rfl, d, 6, rfl, g2.die, by decide, by decide, fun x y act a0 a6 => ?_⟩
      have g3 := g2.trans (DR.roll g2.kx.tabs g2.die x y)
      have lit3 := lit (DR.roll g2.kx.tabs g2.die x y)
      have hlp3 := (DR.roll g2.kx.tabs g2.die x y).kx.at g2.kx.tabs (fun z => by obtain ⟨x0, y0, e⟩ := g2.die; rw [z, e] at hlp; cases hlp) hlp notbl_tup
      generalize upd H2 d (HO.lst [.int x, .int y]) = H3 at g3 lit3 hlp3 ⊢
      have I3 := I.dr g3
      have lit' : ∀ {H' : Hp}, DR d T H3 H' → IsM K H' (.ref lp) (.atom c) := fun g => .atom c ((g.kt I3.t I3.die).seqT (.inl (.inl hlp3)))
      by_cases c2 : act < 2
      · exact ⟨_, rfl, _, _, rfl, rfl, _, rfl, if1 (decide_eq_true c2) ⟨_, rfl, q H3 _ _ g3 lit3 (FirmD.atom hlc)⟩⟩
      refine ⟨_, rfl, _, _, rfl, rfl, _, rfl, if0 (decide_eq_false c2) ?_⟩
      by_cases c3 : act = 2
      · subst c3
        refine ⟨_, rfl, rfl, _, rfl, if1 rfl ?_⟩
        refine ⟨_, rfl, _, rfl, _, 1, rfl, rfl, _, rfl, _, rfl, d, na, la, k, ns, ls, ev, by omega, by omega, I3, fun H4 v1 m1 g4 hM1 f1 => ?_⟩
        have I4 := I3.dr g4
        refine ⟨_, rfl, _, rfl, _, 1, rfl, rfl, _, rfl, _, rfl, d, na, la, k, ns, ls, ev, by omega, by omega, I4, fun H5 v2 m2 g5 hM2 f2 => ?_⟩
        refine ⟨by show 3 ≤ sizeLine; decide, fun p np => ?_⟩
        have g6 := Gr.new g5.kx.tabs (.tup [.str "sum", v1, v2]) np
        have d6 := (g4.trans g5).trans (DR.of g6 g5.kx.tabs g5.die)
        exact q _ _ _ (g3.trans d6) (.k2 .sum (.inl (.inl upd_same)) ((hM1.kt (g5.kt I4.t I4.die)).gr g6 g5.kx.tabs) (hM2.gr g6 g5.kx.tabs)) (f1.sum f2)
      refine ⟨_, rfl, rfl, _, rfl, if0 (decide_eq_false fun z => c3 (V.int.inj z)) ?_⟩
      refine ⟨_, rfl, _, rfl, na, la, _, _, rfl, rfl, I3.hn, I3.hl, by rw [List.length_map, List.length_map]; exact Nat.le_trans (Nat.add_le_add I.ln I.ll) (by decide), fun so nso => ?_⟩
      have gso := Gr.new I3.t (.lst (ns.map V.str ++ ls.map V.str)) nso
      have g4 := DR.of gso I3.t I3.die
      have hso : upd H3 so (.lst (ns.map V.str ++ ls.map V.str)) so = some (.lst ((ns ++ ls).map V.str)) := by rw [upd_same, List.map_append]
      generalize upd H3 so (HO.lst (ns.map V.str ++ ls.map V.str)) = H4 at gso g4 hso ⊢
      -- the last two rows
      have tail : ∀ (H5 : Hp), DR d T H3 H5 → (tSeq (tAsg (tCall (spDraw K T FreeD n) [] E (tCons (tVar 0) (tCons (tOp (rI0 fun i j => .int (i - j)) (tVar 1) (tC (.int 1))) (tCons (tVar 2) (tCons (tVar 3) tNil))))) (gName 7))
          (tRet (tIf (tTest (tOp rEq (tVar 5) (tC (.int 4)))) (tTup (tCons (tC (.str "pair")) (tCons (tVar 4) (tCons (tVar 7) tNil)))) (tTup (tCons (tC (.str "pair")) (tCons (tVar 7) (tCons (tVar 4) tNil))))))) { nx := fun _ H' => Q .non H', rt := Q } [some (.ref d), some (.int ((k + 1 : Nat) : Int)), some (.ref na), some (.ref la), some (.ref lp), some (.int act), some (.ref so), none] H5 := by
        intro H5 g5
        have I5 := I3.dr g5
        refine ⟨_, rfl, _, rfl, _, 1, rfl, rfl, _, rfl, _, rfl, d, na, la, k, ns, ls, ev, by omega, by omega, I5, fun H6 v1 m1 g6 hM1 f1 => ?_⟩
        have g56 := g5.trans g6
        have hl6 := lit' g56
        by_cases c4 : act = 4
        · refine ⟨_, rfl, rfl, _, rfl, if1 (decide_eq_true (congrArg V.int c4)) ⟨_, rfl, _, rfl, by show 3 ≤ sizeLine; decide, fun p np => ?_⟩⟩
          have g7 := Gr.new g6.kx.tabs (.tup [.str "pair", .ref lp, v1]) np
          exact q _ _ _ (g3.trans (g56.trans (DR.of g7 g6.kx.tabs g6.die))) (.k2 .pair (.inl (.inl upd_same)) (hl6.gr g7 g6.kx.tabs) (hM1.gr g7 g6.kx.tabs)) (FirmD.left hlc f1)
        · refine ⟨_, rfl, rfl, _, rfl, if0 (decide_eq_false fun z => c4 (V.int.inj z)) ⟨_, rfl, _, rfl, by show 3 ≤ sizeLine; decide, fun p np => ?_⟩⟩
          have g7 := Gr.new g6.kx.tabs (.tup [.str "pair", v1, .ref lp]) np
          exact q _ _ _ (g3.trans (g56.trans (DR.of g7 g6.kx.tabs g6.die))) (.k2 .pair (.inl (.inl upd_same)) (hM1.gr g7 g6.kx.tabs) (hl6.gr g7 g6.kx.tabs)) (FirmD.right hlc f1)
      by_cases c5 : act = 3
      · subst c5
        refine ⟨_, rfl, rfl, _, rfl, if1 rfl ⟨_, rfl, Nat.zero_le _, fun p9 np9 => ?_⟩⟩
        have g9 := Gr.new g4.kx.tabs (.lst []) np9
        have hso9 : upd H4 p9 (.lst []) so = some (.lst ((ns ++ ls).map V.str)) := by rw [upd_ne (ne_of_none hso np9)]; exact hso
        refine ⟨.list ((ns ++ ls).map .str), .list [], .lst (SqL.of hso9) (dp_strs _), .lst (SqL.of upd_same) .nil, plain_strs _, rfl, ?_, _, rfl, ?_⟩
        · show min _ 1 ≤ 64
          omega
        rw [ne_nil]
        have d9 := g4.trans (DR.of g9 g4.kx.tabs g4.die)
        generalize upd H4 p9 (HO.lst []) = H9 at g9 hso9 d9 ⊢
        by_cases hnil : ns ++ ls = []
        · exact if0 (by rw [hnil]; rfl) (tail H9 d9)
        · have hpos : 0 < (ns ++ ls).length := List.length_pos_iff.mpr hnil
          have hle : (ns ++ ls).length ≤ 16 := by rw [List.length_append]; have := I.ln; have := I.ll; omega
          refine if1 (by simp [hnil]) ⟨_, rfl, _, rfl, _, rfl, _, rfl, so, _, rfl, .inl (SqL.of hso9), d, _, rfl, d9.die, by rw [List.length_map]; omega, by rw [List.length_map]; omega, fun x y r r0 r1 => ?_⟩
          rw [List.length_map] at r1
          have d10 := d9.trans (DR.roll d9.kx.tabs d9.die x y)
          have hso10 := (DR.roll d9.kx.tabs d9.die x y).words d9.kx.tabs d9.die hso9
          generalize upd H9 d (HO.lst [.int x, .int y]) = H10 at d10 hso10 ⊢
          have hj : r.toNat < (ns ++ ls).length := by omega
          have ez : (ns ++ ls)[r.toNat]? = some (ns ++ ls)[r.toNat] := List.getElem?_eq_getElem hj
          have hmem : (ns ++ ls)[r.toNat] ∈ ns ++ ls := List.getElem_mem hj
          generalize (ns ++ ls)[r.toNat] = z at ez hmem
          refine ⟨so, _, r, .str z, rfl, rfl, SqL.of hso10, ?_, by show 2 ≤ sizeLine; decide, fun p1 np1 => ?_⟩
          · rw [show r = ((r.toNat : Nat) : Int) by omega]
            refine atI_nat ?_
            rw [List.getElem?_map, ez]
            rfl
          have g11 := Gr.new d10.kx.tabs (.tup [.str "name", .str z]) np1
          have d11 := d10.trans (DR.of g11 d10.kx.tabs d10.die)
          have hp1 : upd H10 p1 (.tup [.str "name", .str z]) p1 = some (.tup [.str "name", .str z]) := upd_same
          generalize upd H10 p1 (HO.tup [.str "name", .str z]) = H11 at g11 d11 hp1 ⊢
          refine ⟨by show 3 ≤ sizeLine; decide, fun p2 np2 => ?_⟩
          have g12 := Gr.new d11.kx.tabs (.tup [.str "pair", .ref lp, .ref p1]) np2
          have hw : word z := (List.mem_append.mp hmem).elim (I.wn z) (I.wl z)
          exact q _ _ _ (g3.trans (d11.trans (DR.of g12 d11.kx.tabs d11.die))) (.k2 .pair (.inl (.inl upd_same)) ((lit' d11).gr g12 d11.kx.tabs) (IsM.gr (.name z (.inl (.inl hp1))) g12 d11.kx.tabs)) (FirmD.name hlc hw (List.mem_append.mp hmem))
      · exact ⟨_, rfl, rfl, _, rfl, if0 (decide_eq_false fun z => c5 (V.int.inj z)) (if0 rfl (tail H4 g4))⟩
end
end Lw
namespace Lw
open PySem PySem.Spec PyProof.Rows L2 Hx
section
variable {P : Program} {w : World} {K : PySem.W.Frag} {mg : Str → Option Value} {base : Heap} {T : List Addr}
theorem ok_freeS {f fR fI : Addr} {fd fdR fdI : FuncData} {n L : Nat} (F : Fun K "_law_free" "_law_free" sFree f fd) (GR : FnOk P w K mg base CX0 L fR fdR ["_law_dice", "_law_many"] spRoll) (bR : Binds K fdR ["_law_dice", "_law_many"] []) (gR : mg "_law_roll" = some (.ref fR)) (kR : PySem.W.keepIn K (.ref fR) = true)
    (GF : FnOk P w K mg base CX0 L f fd D4 (spDraw K T FreeD n)) (bF : Binds K fd D4 []) (gF : mg "_law_free" = some (.ref f))
    (GI : FnOk P w K mg base CX0 L fI fdI D4 (spDraw K T FirmD n)) (bI : Binds K fdI D4 []) (gI : mg "_law_firm" = some (.ref fI)) (kI : PySem.W.keepIn K (.ref fI) = true) (B : Bn mg) :
    FnOk P w K mg base CX0 (L + 1) f fd D4 (spDraw K T FreeD (n + 1)) := by
  refine F.ok scFree (fun vs H Q E h => ?_) (fun cdv A outer s H vs Q E hr h => ?_)
  · obtain ⟨d, na, la, dp, ns, ls, rfl, _⟩ := h
    rfl
  · obtain ⟨d, na, la, dp, ns, ls, rfl, hdp, hdp6, I, q⟩ := h
    have free : ∀ {p1 p2 p3 p4 p5 p6 p7 p8 : Pos} {j : Nat}, PE (cxOf CX0 P w K mg base NFr "_law_free" (defScope sFree) f cdv A outer s H E).nox (.Call (.Name "_law_free" p1) [.Name "_law_dice" p2, .BinOp (.Name "_law_deep" p3) .Sub (.Constant (.int 1) j p4) p5, .Name "_law_names" p6, .Name "_law_later" p7] [] p8) (tCall (spDraw K T FreeD n) [] E (tCons (tVar 0) (tCons (tOp (rI0 fun i j => .int (i - j)) (tVar 1) (tC (.int 1))) (tCons (tVar 2) (tCons (tVar 3) tNil))))) := by
      intros
      exact pe_call GF hr (by rfl) gF F.kp bF .nil pass0 (pa_cons (pv 0) (pa_cons (pe_op op_sub (pv 1) pe_int) (pa_cons (pv 2) (pa_cons (pv 3) pa_nil))))
    refine' ⟨_, pss_cons ?s1 (pss_cons ?s2 (pss_cons ?s3 (pss_cons ?s4 (pss_one ?s5)))), ?fin⟩
    case s1 => exact ps_set (i := 4) scFree.nd rfl (.inl rfl) (pe_ifExp (pt_cmpR op_gt (pv 1) pe_int (nomark _)) (pe_call GR hr (by rfl) gR kR bR .nil pass0 (pa_cons (pv 0) (pa_cons pe_int pa_nil))) (pe_call GR hr (by rfl) gR kR bR .nil pass0 (pa_cons (pv 0) (pa_cons pe_int pa_nil))))
    case s2 => exact ps_if (pt_cmpR op_lt (pv 4) pe_int (nomark _)) (pss_one (ps_ret (pe_ix ix_list (pe_lst (pa_cons (pe_tup (pa_cons pe_str pa_nil)) (pa_cons (pe_tup (pa_cons pe_str pa_nil)) (pa_cons (pe_tup (pa_cons pe_str (pa_cons pe_str pa_nil))) pa_nil)))) (pv 4) (fun _ _ => rfl)))) pss_nil
    case s3 => exact ps_if (pt_cmpR op_eq (pv 4) pe_int (nomark _)) (pss_one (ps_ret (pe_ifExp (pt_cmpR (op_neP hr.units) (pv 2) (pe_lst pa_nil) (nomark _)) (pe_tup (pa_cons pe_str (pa_cons (pe_ix ix_list (pv 2) (pe_call GR hr (by rfl) gR kR bR .nil pass0 (pa_cons (pv 0) (pa_cons (pe_callB call_len_seq (by rfl) B.len PySem.boot_len (pa_cons (pv 2) pa_nil)) pa_nil))) (fun _ _ => rfl)) pa_nil))) (pe_tup (pa_cons pe_str (pa_cons pe_str pa_nil)))))) pss_nil
    case s4 =>
      refine' ps_if (pt_cmpR op_lt (pv 4) pe_int (nomark _)) (pss_cons ?a (pss_one ?b)) pss_nil
      case a => exact ps_par (i := 5) (j := 6) rfl scFree.nd rfl rfl (by decide) rfl rfl (pa_cons free (pa_cons free pa_nil)) (by rfl)
      case b => exact ps_ret (pe_tup (pa_cons (pe_ix ix_list (pe_lst (pa_cons pe_str (pa_cons pe_str (pa_cons pe_str pa_nil)))) (pe_op op_sub (pv 4) pe_int) (fun _ _ => rfl)) (pa_cons (pv 5) (pa_cons (pv 6) pa_nil))))
    case s5 => exact ps_ret (pe_tup (pa_cons (pe_ix ix_list (pe_lst (pa_cons pe_str (pa_cons pe_str (pa_cons pe_str pa_nil)))) (pe_op op_sub (pv 4) pe_int) (fun _ _ => rfl)) (pa_cons (pe_call GI hr (by rfl) gI kI bI .nil pass0 (pa_cons (pv 0) (pa_cons (pe_op op_sub (pv 1) pe_int) (pa_cons (pv 2) (pa_cons (pv 3) pa_nil))))) pa_nil)))
    refine' (fun (rest : ∀ (act : Int) (H1 : Hp), 0 ≤ act → act < 10 → (dp = 0 → act < 4) → DR d T H H1 → (?R : Int → Hp → Prop) act H1) => ?top) ?rest
    case top =>
      by_cases h0 : dp = 0
      · refine ⟨_, rfl, _, _, rfl, rfl, _, rfl, if0 (decide_eq_false (by omega)) ⟨_, rfl, d, 4, rfl, I.die, by decide, by decide, fun x y r r0 r4 => ?_⟩⟩
        have g1 := DR.roll I.t I.die x y
        generalize upd H d (HO.lst [.int x, .int y]) = H1 at g1 ⊢
        exact rest r H1 r0 (by omega) (fun _ => r4) g1
      · refine ⟨_, rfl, _, _, rfl, rfl, _, rfl, if1 (decide_eq_true (by omega)) ⟨_, rfl, d, 10, rfl, I.die, by decide, by decide, fun x y r r0 r4 => ?_⟩⟩
        have g1 := DR.roll I.t I.die x y
        generalize upd H d (HO.lst [.int x, .int y]) = H1 at g1 ⊢
        exact rest r H1 r0 r4 (fun z => absurd z h0) g1
    case rest =>
      intro act H1 a0 a10 a4 g1
      have I1 := I.dr g1
      by_cases c3 : act < 3
      · refine ⟨_, rfl, _, _, rfl, rfl, _, rfl, if1 (decide_eq_true c3) ?_⟩
        refine ⟨by show 1 ≤ sizeLine; decide, fun p1 n1 => ⟨by show 1 ≤ sizeLine; decide, fun p2 n2 => ⟨by show 2 ≤ sizeLine; decide, fun p3 n3 => ⟨by show 3 ≤ sizeLine; decide, fun l nl => ?_⟩⟩⟩⟩
        have e1 := Gr.new I1.t (.tup [.str "unit"]) n1
        have e2 := e1.trans (Gr.new e1.tabs (.tup [.str "none"]) n2)
        have e3 := e2.trans (Gr.new e2.tabs (.tup [.str "atom", .str "a"]) n3)
        have e4 := e3.trans (Gr.new e3.tabs (.lst [.ref p1, .ref p2, .ref p3]) nl)
        have h1 : upd (upd (upd (upd H1 p1 (.tup [.str "unit"])) p2 (.tup [.str "none"])) p3 (.tup [.str "atom", .str "a"])) l (.lst [.ref p1, .ref p2, .ref p3]) p1 = some (.tup [.str "unit"]) := (((Gr.new e1.tabs (.tup [.str "none"]) n2).trans (Gr.new e2.tabs (.tup [.str "atom", .str "a"]) n3)).trans (Gr.new e3.tabs (.lst [.ref p1, .ref p2, .ref p3]) nl)).at e1.tabs upd_same notbl_tup
        have h2 : upd (upd (upd (upd H1 p1 (.tup [.str "unit"])) p2 (.tup [.str "none"])) p3 (.tup [.str "atom", .str "a"])) l (.lst [.ref p1, .ref p2, .ref p3]) p2 = some (.tup [.str "none"]) := ((Gr.new e2.tabs (.tup [.str "atom", .str "a"]) n3).trans (Gr.new e3.tabs (.lst [.ref p1, .ref p2, .ref p3]) nl)).at e2.tabs upd_same notbl_tup
        have h3 : upd (upd (upd (upd H1 p1 (.tup [.str "unit"])) p2 (.tup [.str "none"])) p3 (.tup [.str "atom", .str "a"])) l (.lst [.ref p1, .ref p2, .ref p3]) p3 = some (.tup [.str "atom", .str "a"]) := (Gr.new e3.tabs (.lst [.ref p1, .ref p2, .ref p3]) nl).at e3.tabs upd_same notbl_tup
        have hl : upd (upd (upd (upd H1 p1 (.tup [.str "unit"])) p2 (.tup [.str "none"])) p3 (.tup [.str "atom", .str "a"])) l (.lst [.ref p1, .ref p2, .ref p3]) l = some (.lst [.ref p1, .ref p2, .ref p3]) := upd_same
        generalize upd (upd (upd (upd H1 p1 (HO.tup [.str "unit"])) p2 (HO.tup [.str "none"])) p3 (HO.tup [.str "atom", .str "a"])) l (HO.lst [.ref p1, .ref p2, .ref p3]) = H5 at e4 h1 h2 h3 hl ⊢
        have g5 := g1.trans (DR.of e4 I1.t I1.die)
        have la : letter 97 := by unfold letter; omega
        have ea : (Str.ofString "a") = ⟨#[97]⟩ := by decide +kernel
        rcases (by omega : act = 0 ∨ act = 1 ∨ act = 2) with rfl | rfl | rfl
        · exact ⟨_, rfl, l, _, 0, _, rfl, rfl, SqL.of hl, rfl, q _ _ _ g5 (.k0 .unit (.inl (.inl h1))) (FreeD.zero _)⟩
        · exact ⟨_, rfl, l, _, 1, _, rfl, rfl, SqL.of hl, rfl, q _ _ _ g5 (.k0 .none (.inl (.inl h2))) (FreeD.zero _)⟩
        · exact ⟨_, rfl, l, _, 2, _, rfl, rfl, SqL.of hl, rfl, q _ _ _ g5 (.atom 97 (.inl (.inl (by rw [h3, ea])))) (FreeD.atom la)⟩
      refine ⟨_, rfl, _, _, rfl, rfl, _, rfl, if0 (decide_eq_false c3) ?_⟩
      by_cases c4 : act = 3
      · subst c4
        refine ⟨_, rfl, rfl, _, rfl, if1 rfl ⟨_, rfl, Nat.zero_le _, fun p9 np9 => ?_⟩⟩
        have e9 := Gr.new I1.t (.lst []) np9
        have hn9 : upd H1 p9 (.lst []) na = some (.lst (ns.map V.str)) := by rw [upd_ne (ne_of_none I1.hn np9)]; exact I1.hn
        refine ⟨.list (ns.map .str), .list [], .lst (SqL.of hn9) (dp_strs _), .lst (SqL.of upd_same) .nil, plain_strs _, rfl, ?_, _, rfl, ?_⟩
        · show min _ 1 ≤ 64
          omega
        rw [ne_nil]
        have d9 := DR.of e9 I1.t I1.die
        generalize upd H1 p9 (HO.lst []) = H9 at e9 hn9 d9 ⊢
        by_cases hnil : ns = []
        · refine if0 (by rw [hnil]; rfl) ⟨by show 2 ≤ sizeLine; decide, fun p np => ?_⟩
          have e10 := Gr.new d9.kx.tabs (.tup [.str "atom", .str "b"]) np
          have lb : letter 98 := by unfold letter; omega
          have eb : (Str.ofString "b") = ⟨#[98]⟩ := by decide +kernel
          exact q _ _ _ (g1.trans (d9.trans (DR.of e10 d9.kx.tabs d9.die))) (.atom 98 (.inl (.inl (by rw [upd_same, eb])))) (FreeD.atom lb)
        · have hpos : 0 < ns.length := List.length_pos_iff.mpr hnil
          have hle := I.ln
          refine if1 (by simp [hnil]) ⟨_, rfl, _, rfl, _, rfl, na, _, rfl, .inl (SqL.of hn9), d, _, rfl, d9.die, by rw [List.length_map]; omega, by rw [List.length_map]; omega, fun x y r r0 r1 => ?_⟩
          rw [List.length_map] at r1
          have d10 := d9.trans (DR.roll d9.kx.tabs d9.die x y)
          have hn10 := (DR.roll d9.kx.tabs d9.die x y).words d9.kx.tabs d9.die hn9
          generalize upd H9 d (HO.lst [.int x, .int y]) = H10 at d10 hn10 ⊢
          have hj : r.toNat < ns.length := by omega
          have ez : ns[r.toNat]? = some ns[r.toNat] := List.getElem?_eq_getElem hj
          have hmem : ns[r.toNat] ∈ ns := List.getElem_mem hj
          generalize ns[r.toNat] = z at ez hmem
          refine ⟨na, _, r, .str z, rfl, rfl, SqL.of hn10, ?_, by show 2 ≤ sizeLine; decide, fun p1 np1 => ?_⟩
          · rw [show r = ((r.toNat : Nat) : Int) by omega]
            refine atI_nat ?_
            rw [List.getElem?_map, ez]
            rfl
          have g11 := Gr.new d10.kx.tabs (.tup [.str "name", .str z]) np1
          exact q _ _ _ (g1.trans (d10.trans (DR.of g11 d10.kx.tabs d10.die))) (.name z (.inl (.inl upd_same))) (FreeD.name (I.wn z hmem) hmem)
      refine ⟨_, rfl, rfl, _, rfl, if0 (decide_eq_false fun z => c4 (V.int.inj z)) ?_⟩
      obtain ⟨k, rfl⟩ : ∃ k, dp = k + 1 := ⟨dp - 1, by
        have : dp ≠ 0 := fun z => by have := a4 z; omega
        omega⟩
      have e1 : ((k + 1 : Nat) : Int) - 1 = (k : Int) := by omega
      have ev : [V.ref d, V.int (((k + 1 : Nat) : Int) - 1), V.ref na, V.ref la] = [V.ref d, V.int (k : Int), V.ref na, V.ref la] := by rw [e1]
      by_cases c7 : act < 7
      · refine ⟨_, rfl, _, _, rfl, rfl, _, rfl, if1 (decide_eq_true c7) ?_⟩
        refine ⟨_, rfl, _, rfl, _, 1, rfl, rfl, _, rfl, _, rfl, d, na, la, k, ns, ls, ev, by omega, by omega, I1, fun H4 v1 m1 g4 hM1 f1 => ?_⟩
        have I4 := I1.dr g4
        refine ⟨_, rfl, _, rfl, _, 1, rfl, rfl, _, rfl, _, rfl, d, na, la, k, ns, ls, ev, by omega, by omega, I4, fun H5 v2 m2 g5 hM2 f2 => ?_⟩
        have I5 := I4.dr g5
        refine ⟨_, _, rfl, by show 3 ≤ sizeLine; decide, fun l nl => ?_⟩
        have e6 := Gr.new I5.t (.lst [.str "sum", .str "pair", .str "sum"]) nl
        have hl : upd H5 l (.lst [.str "sum", .str "pair", .str "sum"]) l = some (.lst [.str "sum", .str "pair", .str "sum"]) := upd_same
        have m1' := (hM1.kt (g5.kt I4.t I4.die)).gr e6 I5.t
        have m2' := hM2.gr e6 I5.t
        have d6 := (g4.trans g5).trans (DR.of e6 I5.t I5.die)
        generalize upd H5 l (HO.lst [.str "sum", .str "pair", .str "sum"]) = H6 at e6 hl m1' m2' d6 ⊢
        have fin : ∀ (kk : K2) p, H6 p = none → Q (.ref p) (upd H6 p (.tup [.str kk.tag, v1, v2])) := fun kk p np => by
          have e7 := Gr.new d6.kx.tabs (.tup [.str kk.tag, v1, v2]) np
          exact q _ _ _ (g1.trans (d6.trans (DR.of e7 d6.kx.tabs d6.die))) (.k2 kk (.inl (.inl upd_same)) (m1'.gr e7 d6.kx.tabs) (m2'.gr e7 d6.kx.tabs)) (f1.two f2)
        rcases (by omega : act = 4 ∨ act = 5 ∨ act = 6) with rfl | rfl | rfl
        · exact ⟨_, rfl, _, 4, rfl, rfl, l, _, 0, _, rfl, rfl, SqL.of hl, rfl, _, rfl, _, rfl, by show 3 ≤ sizeLine; decide, fun p np => fin .sum p np⟩
        · exact ⟨_, rfl, _, 4, rfl, rfl, l, _, 1, _, rfl, rfl, SqL.of hl, rfl, _, rfl, _, rfl, by show 3 ≤ sizeLine; decide, fun p np => fin .pair p np⟩
        · exact ⟨_, rfl, _, 4, rfl, rfl, l, _, 2, _, rfl, rfl, SqL.of hl, rfl, _, rfl, _, rfl, by show 3 ≤ sizeLine; decide, fun p np => fin .sum p np⟩
      · refine ⟨_, rfl, _, _, rfl, rfl, _, rfl, if0 (decide_eq_false c7) ?_⟩
        refine ⟨by show 3 ≤ sizeLine; decide, fun l nl => ?_⟩
        have e6 := Gr.new I1.t (.lst [.str "row", .str "bag", .str "set"]) nl
        have hl : upd H1 l (.lst [.str "row", .str "bag", .str "set"]) l = some (.lst [.str "row", .str "bag", .str "set"]) := upd_same
        have d6 := DR.of e6 I1.t I1.die
        generalize upd H1 l (HO.lst [.str "row", .str "bag", .str "set"]) = H6 at e6 hl d6 ⊢
        have I6 := I1.dr d6
        have fin : ∀ (kk : K1) H7 v1 m1, DR d T H6 H7 → IsM K H7 v1 m1 → FirmD k ns ls m1 → (2 : Nat) ≤ sizeLine ∧ ∀ p, H7 p = none → Q (.ref p) (upd H7 p (.tup [.str kk.tag, v1])) := fun kk H7 v1 m1 g7 hM f => ⟨by decide, fun p np => by
          have e8 := Gr.new g7.kx.tabs (.tup [.str kk.tag, v1]) np
          exact q _ _ _ (g1.trans (d6.trans (g7.trans (DR.of e8 g7.kx.tabs g7.die)))) (.k1 kk (.inl (.inl upd_same)) (hM.gr e8 g7.kx.tabs)) (FreeD.one f)⟩
        rcases (by omega : act = 7 ∨ act = 8 ∨ act = 9) with rfl | rfl | rfl
        · exact ⟨_, rfl, _, 7, rfl, rfl, l, _, 0, _, rfl, rfl, SqL.of hl, rfl, _, rfl, _, rfl, _, 1, rfl, rfl, _, rfl, _, rfl, d, na, la, k, ns, ls, ev, by omega, by omega, I6, fun H7 v1 m1 g7 hM f => fin .row H7 v1 m1 g7 hM f⟩
        · exact ⟨_, rfl, _, 7, rfl, rfl, l, _, 1, _, rfl, rfl, SqL.of hl, rfl, _, rfl, _, rfl, _, 1, rfl, rfl, _, rfl, _, rfl, d, na, la, k, ns, ls, ev, by omega, by omega, I6, fun H7 v1 m1 g7 hM f => fin .bag H7 v1 m1 g7 hM f⟩
        · exact ⟨_, rfl, _, 7, rfl, rfl, l, _, 2, _, rfl, rfl, SqL.of hl, rfl, _, rfl, _, rfl, _, 1, rfl, rfl, _, rfl, _, rfl, d, na, la, k, ns, ls, ev, by omega, by omega, I6, fun H7 v1 m1 g7 hM f => fin .set H7 v1 m1 g7 hM f⟩
end
end Lw
/-! books drawn word by word are fair -/
namespace Hx
open L2 PySem PySem.Spec PyProof.Rows
structure BI (ws : List Str) (i : Nat) (bk : Bk) (fs : List Str) : Prop where
  keys : bk.keys = ws.take i
  drw : ∀ z m, (z, m) ∈ bk → Drawn 3 ws ws m
  sub : ∀ z ∈ fs, z ∈ bk.keys
  len : fs.length ≤ i
  firm : ∀ z m, (z, m) ∈ bk → z ∈ fs → ∀ b, standB b m = []
  free : ∀ z m, (z, m) ∈ bk → ∀ b, looseM b m = false ∧ ∀ y ∈ standB b m, y ∈ fs ∧ y ≠ z
theorem BI.zero {ws : List Str} : BI ws 0 [] [] := ⟨rfl, fun _ _ h => (by cases h), fun _ h => (by cases h), Nat.le_refl _, fun _ _ h => (by cases h), fun _ _ h => (by cases h)⟩
theorem Drawn.wide {dp : Nat} {fs ws : List Str} {m : Mk} (h : Drawn dp fs ws m) (hs : ∀ z ∈ fs, z ∈ ws) : Drawn dp ws ws m := ⟨h.good, h.dep, h.par, fun z hz => (h.nam z hz).imp (hs z) id⟩
section
variable {ws : List Str} {i : Nat} {bk : Bk} {fs : List Str} {z : Str} {m : Mk}
theorem BI.new_key (h : BI ws i bk fs) (nd : ws.Nodup) (ez : ws[i]? = some z) : z ∉ bk.keys ∧ Bk.keys (bk ++ [(z, m)]) = ws.take (i + 1) := by
  constructor
  · rw [h.keys]
    intro hz
    obtain ⟨j, hj⟩ := List.getElem?_of_mem hz
    have hji : j < i := by
      have := (List.getElem?_eq_some_iff.mp hj).1
      rw [List.length_take] at this
      omega
    rw [List.getElem?_take_of_lt hji] at hj
    have := (List.getElem?_inj (List.getElem?_eq_some_iff.mp hj).1 nd).mp (hj.trans ez.symm)
    omega
  · have := h.keys
    unfold Bk.keys at this ⊢
    rw [List.map_append, this, List.take_add_one, ez]
    rfl
theorem BI.in_ws (h : BI ws i bk fs) : ∀ y ∈ fs, y ∈ ws := fun y hy => List.mem_of_mem_take (by rw [← h.keys]; exact h.sub y hy)
theorem BI.addFirm (h : BI ws i bk fs) (nd : ws.Nodup) (ez : ws[i]? = some z) (hm : FirmD 3 fs ws m) : BI ws (i + 1) (bk ++ [(z, m)]) (fs ++ [z]) := by
  obtain ⟨nk, ek⟩ := h.new_key (m := m) nd ez
  have old : ∀ z' m', (z', m') ∈ bk → z' ≠ z := fun z' m' hm' e => nk (List.mem_map.mpr ⟨_, hm', e⟩)
  refine ⟨ek, fun z' m' hm' => ?_, fun y hy => ?_, by rw [List.length_append]; have := h.len; simp only [List.length_cons, List.length_nil]; omega, fun z' m' hm' hy b => ?_, fun z' m' hm' b => ?_⟩
  · rcases List.mem_append.mp hm' with q | q
    · exact h.drw z' m' q
    · cases List.mem_singleton.mp q; exact hm.1.wide h.in_ws
  · unfold Bk.keys; rw [List.map_append]
    rcases List.mem_append.mp hy with q | q
    · exact List.mem_append_left _ (h.sub y q)
    · rw [List.mem_singleton.mp q]; exact List.mem_append_right _ List.mem_cons_self
  · rcases List.mem_append.mp hm' with q | q
    · rcases List.mem_append.mp hy with r | r
      · exact h.firm z' m' q r b
      · exact absurd (List.mem_singleton.mp r) (old z' m' q)
    · cases List.mem_singleton.mp q; exact (hm.2 b).2.1
  · rcases List.mem_append.mp hm' with q | q
    · exact ⟨(h.free z' m' q b).1, fun y hy => ⟨List.mem_append_left _ ((h.free z' m' q b).2 y hy).1, ((h.free z' m' q b).2 y hy).2⟩⟩
    · cases List.mem_singleton.mp q; exact ⟨(hm.2 b).2.2, fun y hy => by rw [(hm.2 b).2.1] at hy; cases hy⟩
theorem BI.addFree (h : BI ws i bk fs) (nd : ws.Nodup) (ez : ws[i]? = some z) (hm : FreeD 3 fs ws m) : BI ws (i + 1) (bk ++ [(z, m)]) fs := by
  obtain ⟨nk, ek⟩ := h.new_key (m := m) nd ez
  refine ⟨ek, fun z' m' hm' => ?_, fun y hy => ?_, by have := h.len; omega, fun z' m' hm' hy b => ?_, fun z' m' hm' b => ?_⟩
  · rcases List.mem_append.mp hm' with q | q
    · exact h.drw z' m' q
    · cases List.mem_singleton.mp q; exact hm.1.wide h.in_ws
  · unfold Bk.keys; rw [List.map_append]
    exact List.mem_append_left _ (h.sub y hy)
  · rcases List.mem_append.mp hm' with q | q
    · exact h.firm z' m' q hy b
    · cases List.mem_singleton.mp q; exact absurd (h.sub _ hy) nk
  · rcases List.mem_append.mp hm' with q | q
    · exact h.free z' m' q b
    · cases List.mem_singleton.mp q
      exact ⟨(hm.2 b).2, fun y hy => ⟨(hm.2 b).1 y hy, fun e => nk (e ▸ h.sub y ((hm.2 b).1 y hy))⟩⟩
end
theorem parts40 {ws : List Str} {m : Mk} (h : Drawn 3 ws ws m) : m.good ∧ m.depth ≤ 6 ∧ m.parts.length ≤ 40 := by
  have e : (2 : Nat) ^ (3 + 1) = 16 := by decide
  have := h.par
  rw [e] at this
  exact ⟨h.good, Nat.le_trans h.dep (by decide), by omega⟩
theorem BI.ok {ws : List Str} {bk : Bk} {fs : List Str} (h : BI ws ws.length bk fs) (nd : ws.Nodup) (hw : ∀ z ∈ ws, word z) (h1 : 1 ≤ ws.length) (h8 : ws.length ≤ 8) : okB bk := by
  have ek : bk.keys = ws := by rw [h.keys, List.take_length]
  have el : bk.length = ws.length := by rw [← ek]; unfold Bk.keys; rw [List.length_map]
  refine ⟨by omega, by omega, by rw [ek]; exact nd, fun p hp => ⟨hw _ (by rw [← ek]; exact List.mem_map.mpr ⟨p, hp, rfl⟩), parts40 (h.drw p.1 p.2 hp)⟩, fun p hp z hz => ?_⟩
  rw [ek]
  exact (h.drw p.1 p.2 hp).nam z hz |>.elim id id
theorem BI.fair {ws : List Str} {bk : Bk} {fs : List Str} (h : BI ws ws.length bk fs) (z : Str) : badB bk z = false := by
  have step : ∀ x y, y ∈ leadsB bk x → y ∈ fs ∧ y ≠ x := fun x y hy => by
    unfold leadsB at hy
    cases e : rule bk x with
    | none => rw [e] at hy; cases hy
    | some m => rw [e] at hy; exact (h.free x m (rule_mem e) _).2 y hy
  have stop : ∀ x ∈ fs, leadsB bk x = [] := fun x hx => by
    unfold leadsB
    cases e : rule bk x with
    | none => rfl
    | some m => exact h.firm x m (rule_mem e) hx _
  have one : ∀ y, Rch (leadsB bk) z y → y ∈ leadsB bk z := fun y hy => by
    induction hy with
    | one q => exact q
    | more _ q ih => rw [stop _ (step z _ ih).1] at q; cases q
  have nor : ringB (leadsB bk) z = false := by
    unfold ringB
    rw [@decide_eq_false_iff_not _ (Classical.propDecidable _)]
    exact fun hr => (step z z (one z hr)).2 rfl
  cases e : rule bk z with
  | none =>
    unfold badB
    rw [e, nor]
    rfl
  | some m =>
    unfold badB
    rw [e, nor]
    show (looseM (lf bk) m || false) = false
    rw [(h.free z m (rule_mem e) _).1]
    rfl
end Hx
namespace Lw
open PySem PySem.Spec PyProof.Rows L2 Hx
abbrev NBo : List Str := ["_law_dice", "_law_deep", "_law_names", "_law_found", "_law_firm_here", "_law_at", "_law_name"]
theorem scBookOf : FnScope NBo ["_law_dice", "_law_deep"] (defScope sBookOf) := ⟨rfl, rfl, rfl, by decide +kernel, rfl, by decide +kernel, by decide +kernel⟩
section
variable {P : Program} {w : World} {K : PySem.W.Frag} {mg : Str → Option Value} {base : Heap} {T : List Addr}
theorem draw_zero {R : Nat → List Str → List Str → Hx.Mk → Prop} {f : Addr} {fd : FuncData} : FnOk P w K mg base CX0 0 f fd D4 (spDraw K T R 0) := by
  have no : ∀ vs H Q E, ¬ spDraw K T R 0 vs H Q E := fun vs H Q E ⟨_, _, _, _, _, _, _, h, _⟩ => by omega
  exact ⟨fun vs H Q E h => absurd h (no vs H Q E), fun A outer s H args us vs Q E _ _ _ _ h => absurd h (no vs H Q E)⟩
theorem pr_draw (hI : Has K mg "_law_firm" sFirm D4) (hF : Has K mg "_law_free" sFree D4) (hR : Pr P w K mg base "_law_roll" ["_law_dice", "_law_many"] spRoll 2) (B : Bn mg) :
    Pr P w K mg base "_law_firm" D4 (spDraw K T FirmD 7) 9 ∧ Pr P w K mg base "_law_free" D4 (spDraw K T FreeD 7) 9 := by
  obtain ⟨fI, fdI, FI, gI, bI⟩ := hI
  obtain ⟨fF, fdF, FF, gF, bF⟩ := hF
  obtain ⟨fR, fdR, GR, gR, kR, bR⟩ := hR
  have all : ∀ n : Nat, FnOk P w K mg base CX0 (2 + n) fI fdI D4 (spDraw K T FirmD n) ∧ FnOk P w K mg base CX0 (2 + n) fF fdF D4 (spDraw K T FreeD n) := by
    intro n
    induction n with
    | zero => exact ⟨draw_zero.mono (by omega), draw_zero.mono (by omega)⟩
    | succ n ih => exact ⟨ok_firmS FI (GR.mono (Nat.le_add_right _ _)) bR gR kR ih.1 bI gI ih.2 bF gF FF.kp B, ok_freeS FF (GR.mono (Nat.le_add_right _ _)) bR gR kR ih.2 bF gF ih.1 bI gI FI.kp B⟩
  exact ⟨⟨fI, fdI, (all 7).1, gI, FI.kp, bI⟩, ⟨fF, fdF, (all 7).2, gF, FF.kp, bF⟩⟩
theorem DR.own {d p : Addr} {H H1 : Hp} {o : HO} (g : DR d T H H1) (h : Die H d) (t : TabsG T H) (np : H p = none) : DR d T H (upd H1 p o) := by
  have n : d ≠ p := fun z => h.some (by rw [z]; exact np)
  exact ⟨⟨fun b x nb e nt => by rw [upd_ne (ne_of_none e np)]; exact g.kx.keep b x nb e nt, g.kx.tabs.upd _ (t.none np)⟩, g.die.other n⟩
theorem DR.free {d p : Addr} {H H1 : Hp} (g : DR d T H H1) (t : TabsG T H) (h : H1 p = none) : H p = none := by
  cases q : H p with
  | none => rfl
  | some o =>
    by_cases hb : p ∈ T
    · exact absurd hb (g.kx.tabs.none h)
    · by_cases hd : p = d
      · exact absurd (hd ▸ h) g.die.some
      · rw [g.kx.keep p o hd q hb] at h; cases h
/-- the words of a drawn book -/
def wxy : List Str := ["w", "x", "y"]
theorem wxy_word : ∀ z ∈ wxy, word z := by
  intro z hz
  have e : ∀ c : Nat, letter c → word ⟨#[c]⟩ := fun c hc => ⟨by show 1 ≤ 1; decide, by show 1 ≤ 8; decide, fun x hx => by rw [List.mem_singleton.mp hx]; exact hc⟩
  have l : letter 119 ∧ letter 120 ∧ letter 121 := by unfold letter; omega
  have e1 : Str.ofString "w" = ⟨#[119]⟩ := by decide +kernel
  have e2 : Str.ofString "x" = ⟨#[120]⟩ := by decide +kernel
  have e3 : Str.ofString "y" = ⟨#[121]⟩ := by decide +kernel
  rcases List.mem_cons.mp hz with h | h
  · rw [h, e1]; exact e _ l.1
  · rcases List.mem_cons.mp h with h | h
    · rw [h, e2]; exact e _ l.2.1
    · rw [List.mem_singleton.mp h, e3]; exact e _ l.2.2
theorem wxy_nd : wxy.Nodup := by decide +kernel
theorem cut_wxy {r : Int} (h0 : 0 ≤ r) (h1 : r < 3) : ∃ n : Nat, 1 ≤ n ∧ n ≤ 3 ∧ cutV (wxy.map V.str) none (some (1 + r)) = (wxy.take n).map V.str := by
  rcases (by omega : r = 0 ∨ r = 1 ∨ r = 2) with rfl | rfl | rfl
  · exact ⟨1, by decide, by decide, rfl⟩
  · exact ⟨2, by decide, by decide, rfl⟩
  · exact ⟨3, by decide, by decide, rfl⟩
def spBookOf (K : PySem.W.Frag) (T : List Addr) : Sp := fun vs H Q _ => ∃ (d : Addr), vs = [.ref d, .int 3] ∧ Die H d ∧ TabsG T H ∧
  ∀ H' p kvs bk ws fs, DR d T H H' → H p = none → H' p = some (.dK kvs) → PrB K H' kvs bk → BI ws ws.length bk fs → (∃ n, 1 ≤ n ∧ n ≤ 3 ∧ ws = wxy.take n) → Q (.ref p) H'
theorem pr_bookof (h : Has K mg "_law_book_of" sBookOf ["_law_dice", "_law_deep"]) (hR : Pr P w K mg base "_law_roll" ["_law_dice", "_law_many"] spRoll 2) (hI : Pr P w K mg base "_law_firm" D4 (spDraw K T FirmD 7) 9) (hF : Pr P w K mg base "_law_free" D4 (spDraw K T FreeD 7) 9) (B : Bn mg) :
    Pr P w K mg base "_law_book_of" ["_law_dice", "_law_deep"] (spBookOf K T) 10 := by
  obtain ⟨f, fd, F, g, b⟩ := h
  obtain ⟨fR, fdR, GR, gR, kR, bR⟩ := hR.mono (k := 9) (by decide)
  obtain ⟨fI, fdI, GI, gI, kI, bI⟩ := hI
  obtain ⟨fF, fdF, GF, gF, kF, bF⟩ := hF
  refine ⟨f, fd, F.ok scBookOf (fun vs H Q E h => ?_) (fun cdv A outer s H vs Q E hr h => ?_), g, F.kp, b⟩
  · obtain ⟨d, rfl, _⟩ := h
    rfl
  · obtain ⟨d, rfl, hdie, ht, q⟩ := h
    refine' ⟨_, pss_cons ?s1 (pss_cons ?s2 (pss_one ?s3)), ?fin⟩
    case s1 => exact ps_par3 (i := 2) (j := 3) (l := 4) rfl scBookOf.nd rfl rfl rfl (by decide) (by decide) (by decide) rfl rfl rfl (pa_cons (pe_slice sl_list (pe_lst (pa_cons pe_str (pa_cons pe_str (pa_cons pe_str pa_nil)))) po_none (po_some (pe_op op_add pe_int (pe_call GR hr (by rfl) gR kR bR .nil pass0 (pa_cons (pv 0) (pa_cons pe_int pa_nil)))))) (pa_cons pe_dnewK (pa_cons (pe_lst pa_nil) pa_nil))) (by rfl)
    case s2 =>
      refine' ps_for PassesOwn.never rfl ?i ?g (pss_one (ps_if ?t (pss_cons ?a (pss_one ?b)) (pss_one ?c)))
      case i => exact pi_enum (by rfl) B.enumerate (pa_cons (pv 2) pa_nil)
      case g => exact pg_tup rfl (pgs_cons (pg_name (i := 5) scBookOf.nd rfl (Or.inl rfl)) (pgs_cons (pg_name (i := 6) scBookOf.nd rfl (Or.inl rfl)) pgs_nil))
      case t => exact pt_cmpR op_eq (pe_call GR hr (by rfl) gR kR bR .nil pass0 (pa_cons (pv 0) (pa_cons pe_int pa_nil))) pe_int (nomark _)
      case a => exact ps_dput (u1 hr.units) (pv 3) (pv 6) (pe_call GI hr (by rfl) gI kI bI .nil pass0 (pa_cons (pv 0) (pa_cons (pv 1) (pa_cons (pv 4) (pa_cons (pv 2) pa_nil))))) rfl
      case b => exact ps_set (i := 4) scBookOf.nd rfl (.inl rfl) (pe_op op_cat (pv 4) (pe_lst (pa_cons (pv 6) pa_nil)))
      case c => exact ps_dput (u1 hr.units) (pv 3) (pv 6) (pe_call GF hr (by rfl) gF kF bF .nil pass0 (pa_cons (pv 0) (pa_cons (pv 1) (pa_cons (pv 4) (pa_cons (pv 2) pa_nil))))) rfl
    case s3 => exact ps_ret (pv 3)
    refine ⟨by show 3 ≤ sizeLine; decide, fun p0 np0 => ⟨_, rfl, d, 3, rfl, hdie.gr (Gr.new ht (.lst [.str "w", .str "x", .str "y"]) np0) ht, by decide, by decide, fun x y r r0 r3 => ?_⟩⟩
    have g0 := Gr.new ht (.lst [.str "w", .str "x", .str "y"]) np0
    have die0 := hdie.gr g0 ht
    have g1 := (DR.of g0 ht hdie).trans (DR.roll g0.tabs die0 x y)
    have h0 : upd (upd H p0 (.lst [.str "w", .str "x", .str "y"])) d (.lst [.int x, .int y]) p0 = some (.lst [.str "w", .str "x", .str "y"]) := (DR.roll g0.tabs die0 x y).words (ns := wxy) g0.tabs die0 upd_same
    obtain ⟨n, n1, n3, ecut⟩ := cut_wxy r0 r3
    refine ⟨1, r, rfl, rfl, _, rfl, p0, _, rfl, SqL.of h0, fun nl nnl => ?_⟩
    rw [show cutV [V.str "w", .str "x", .str "y"] none (some (1 + r)) = _ from ecut]
    generalize hws : wxy.take n = ws
    have wsub : ∀ z ∈ ws, z ∈ wxy := fun z hz => by rw [← hws] at hz; exact List.mem_of_mem_take hz
    have wnd : ws.Nodup := by rw [← hws]; exact wxy_nd.sublist (List.take_sublist _ _)
    have wlen : ws.length ≤ 3 := by rw [← hws, List.length_take]; exact Nat.min_le_right _ _
    generalize upd (upd H p0 (HO.lst [.str "w", .str "x", .str "y"])) d (HO.lst [.int x, .int y]) = H1 at g1 h0 nnl ⊢
    have g2 := g1.trans (DR.of (Gr.new g1.kx.tabs (.lst (ws.map V.str)) nnl) g1.kx.tabs g1.die)
    intro p np
    have g3 := g2.trans (DR.of (Gr.new g2.kx.tabs (.dK []) np) g2.kx.tabs g2.die)
    refine ⟨Nat.zero_le _, fun fl nfl => ⟨_, _, _, rfl, ?_⟩⟩
    have eA := (Gr.new g2.kx.tabs (.dK []) np).trans (Gr.new g3.kx.tabs (.lst []) nfl)
    have g4 := g2.trans (DR.of eA g2.kx.tabs g2.die)
    have hnl : upd (upd (upd H1 nl (.lst (ws.map V.str))) p (.dK [])) fl (.lst []) nl = some (.lst (ws.map V.str)) := eA.at g2.kx.tabs upd_same notbl_lst
    have hp : upd (upd (upd H1 nl (.lst (ws.map V.str))) p (.dK [])) fl (.lst []) p = some (.dK []) := (Gr.new g3.kx.tabs (.lst []) nfl).at g3.kx.tabs upd_same notbl_dK
    have hfl : upd (upd (upd H1 nl (.lst (ws.map V.str))) p (.dK [])) fl (.lst []) fl = some (.lst []) := upd_same
    have np0' : H p = none := g2.free ht np
    generalize upd (upd (upd H1 nl (HO.lst (ws.map V.str))) p (HO.dK [])) fl (HO.lst []) = H4 at g4 hnl hp hfl ⊢
    refine ⟨_, rfl, nl, _, rfl, SqL.of hnl, ?_⟩
    refine for_it (walk_enum (K := K) (a := nl) (xs := ws.map V.str)) (fun i σ H' => ∃ y5 y6 fl kvs bk fs, σ = [some (.ref d), some (.int 3), some (.ref nl), some (.ref p), some (.ref fl), y5, y6] ∧ DR d T H H' ∧ H' nl = some (.lst (ws.map V.str)) ∧ H' p = some (.dK kvs) ∧ PrB K H' kvs bk ∧ H' fl = some (.lst (fs.map V.str)) ∧ BI ws i bk fs)
      ⟨none, none, fl, [], [], [], rfl, g4, hnl, hp, .nil, hfl, BI.zero⟩ (fun i σ H' _ ⟨_, _, _, _, _, _, _, _, e, _⟩ => SqL.of e) (fun i x σ H5 H6 hi ⟨y5, y6, fl, kvs, bk, fs, eσ, g5, hnl5, hp5, pr5, hfl5, bi⟩ ⟨t, x1, z1, ex, nt, eH, ei, ez⟩ => ?_) (fun σ H5 ⟨y5, y6, fl, kvs, bk, fs, eσ, g5, hnl5, hp5, pr5, hfl5, bi⟩ => ?_)
    · dsimp only at ei ez
      rw [List.getElem?_map] at ez
      cases ewz : ws[i]? with
      | none => rw [ewz] at ez; cases ez
      | some z =>
        rw [ewz] at ez
        cases ez
        cases ei
        subst eσ ex eH
        have et := Gr.new g5.kx.tabs (.tup [.int ((i : Nat) : Int), .str z]) nt
        have d6 := DR.of et g5.kx.tabs g5.die
        refine ⟨t, _, rfl, .inl (.inl upd_same), rfl, _, _, rfl, _, _, rfl, rfl, ?_⟩
        refine ⟨_, rfl, d, 2, rfl, d6.die, by decide, by decide, fun x y r r0 r2 => ?_⟩
        have d7 := d6.trans (DR.roll d6.kx.tabs d6.die x y)
        generalize upd (upd H5 t (HO.tup [.int ((i : Nat) : Int), .str z])) d (HO.lst [.int x, .int y]) = H7 at d7 ⊢
        have dp : p ≠ d := fun e => by obtain ⟨x0, y0, e0⟩ := g5.die; rw [e, e0] at hp5; cases hp5
        have hnl7 := d7.words g5.kx.tabs g5.die hnl5
        have hfl7 := d7.words g5.kx.tabs g5.die hfl5
        have hp7 : H7 p = some (.dK kvs) := d7.kx.at g5.kx.tabs dp hp5 notbl_dK
        have pr7 : PrB K H7 kvs bk := paired_mono (fun _ _ r => ⟨r.1, r.2.kt (d7.kt g5.kx.tabs g5.die)⟩) pr5
        have DI7 : DI d fl nl fs ws T H7 := ⟨d7.die, hfl7, hnl7, fun y hy => wxy_word y (wsub y (bi.in_ws y hy)), fun y hy => wxy_word y (wsub y hy), by have := bi.len; rw [List.length_map] at hi; omega, by omega, d7.kx.tabs⟩
        have nk := (bi.new_key (m := .k0 .unit) wnd ewz).1
        have klen : kvs.length < sizeLine := by
          rw [paired_len pr5]
          have : bk.length = (ws.take i).length := by rw [← bi.keys]; unfold Bk.keys; rw [List.length_map]
          rw [this, List.length_take]
          exact Nat.lt_of_le_of_lt (Nat.le_trans (Nat.min_le_right _ _) wlen) (by decide)
        -- a new rule at z
        have put : ∀ {H8 : Hp} {v : V} {m : Hx.Mk}, DR d T H7 H8 → IsM K H8 v m → H8 p = some (.dK kvs) ∧ DR d T H (upd H8 p (.dK (putK kvs (Sum.inr z : Key) v))) ∧ upd H8 p (.dK (putK kvs (Sum.inr z : Key) v)) nl = some (.lst (ws.map V.str)) ∧ upd H8 p (.dK (putK kvs (Sum.inr z : Key) v)) p = some (.dK (kvs ++ [(Sum.inr z, v)])) ∧ PrB K (upd H8 p (.dK (putK kvs (Sum.inr z : Key) v))) (kvs ++ [(Sum.inr z, v)]) (bk ++ [(z, m)]) ∧ upd H8 p (.dK (putK kvs (Sum.inr z : Key) v)) fl = some (.lst (fs.map V.str)) := fun {H8 v m} g8 hM => by
          have hp8 : H8 p = some (.dK kvs) := g8.kx.at d7.kx.tabs dp hp7 notbl_dK
          have hnl8 := g8.words d7.kx.tabs d7.die hnl7
          have hfl8 := g8.words d7.kx.tabs d7.die hfl7
          have nn : nl ≠ p := fun e => by rw [e, hp8] at hnl8; cases hnl8
          have nf : fl ≠ p := fun e => by rw [e, hp8] at hfl8; cases hfl8
          refine ⟨hp8, ((g5.trans d7).trans g8).own hdie ht np0', by rw [upd_ne nn]; exact hnl8, by rw [upd_same, put_new pr7 nk], paired_append (paired_mono (fun _ _ r => ⟨r.1, (r.2.kt (g8.kt d7.kx.tabs d7.die)).kt (KT.dK hp8)⟩) pr7) (.cons ⟨rfl, hM.kt (KT.dK hp8)⟩ .nil), by rw [upd_ne nf]; exact hfl8⟩
        by_cases c0 : r = 0
        · subst c0
          refine ⟨rfl, _, rfl, if1 rfl ?_⟩
          refine ⟨_, rfl, _, rfl, _, rfl, _, rfl, d, fl, nl, 3, fs, ws, rfl, by decide, by decide, DI7, fun H8 v m g8 hM hf => ?_⟩
          obtain ⟨k1, k2, k3, k4, k5, k6⟩ := put g8 hM
          refine ⟨_, rfl, _, rfl, p, _, rfl, .inl ⟨kvs, Sum.inr z, k1, rfl, klen, rfl⟩, ?_⟩
          generalize upd H8 p (HO.dK (putK kvs (Sum.inr z : Key) v)) = H9 at k2 k3 k4 k5 k6 ⊢
          refine ⟨_, rfl, _, rfl, by show 1 ≤ sizeLine; decide, fun l1 nl1 => ?_⟩
          have e10 := Gr.new k2.kx.tabs (.lst [.str z]) nl1
          refine ⟨fl, l1, _, _, rfl, rfl, e10.at k2.kx.tabs k6 notbl_lst, upd_same, ?_, fun l2 nl2 => ?_⟩
          · rw [List.length_map]
            exact Nat.le_trans (show fs.length + 1 ≤ 9 by have := bi.len; rw [List.length_map] at hi; omega) (by decide)
          have e11 := e10.trans (Gr.new e10.tabs (.lst (fs.map V.str ++ [.str z])) nl2)
          refine ⟨_, _, l2, _, _, fs ++ [z], rfl, k2.trans (DR.of e11 k2.kx.tabs k2.die), e11.at k2.kx.tabs k3 notbl_lst, e11.at k2.kx.tabs k4 notbl_dK, paired_mono (fun _ _ r => ⟨r.1, r.2.gr e11 k2.kx.tabs⟩) k5, by rw [upd_same, List.map_append]; rfl, bi.addFirm wnd ewz hf⟩
        · refine ⟨rfl, _, rfl, if0 (decide_eq_false fun e => c0 (V.int.inj e)) ?_⟩
          refine ⟨_, rfl, _, rfl, _, rfl, _, rfl, d, fl, nl, 3, fs, ws, rfl, by decide, by decide, DI7, fun H8 v m g8 hM hf => ?_⟩
          obtain ⟨k1, k2, k3, k4, k5, k6⟩ := put g8 hM
          refine ⟨_, rfl, _, rfl, p, _, rfl, .inl ⟨kvs, Sum.inr z, k1, rfl, klen, rfl⟩, ?_⟩
          exact ⟨_, _, fl, _, _, fs, rfl, k2, k3, k4, k5, k6, bi.addFree wnd ewz hf⟩
    · subst eσ
      rw [show (ws.map V.str).length = ws.length from List.length_map ..] at bi
      exact ⟨_, rfl, q H5 p kvs bk ws fs g5 np0' hp5 pr5 bi ⟨n, n1, n3, hws.symm⟩⟩
end
end Lw
/-! what stays through a turn of the law; a dict and its copy -/
namespace Lw
open PySem PySem.Spec PyProof.Rows L2 Hx Xs
section
variable {X : Cx}
/-- two dicts with the very same objects as values are not unlike -/
def rSameD : R2 := fun x y H Q => ∃ a b ks, x = .ref a ∧ y = .ref b ∧ H a = some (.dK ks) ∧ H b = some (.dK ks) ∧ (ks.map (·.1)).Nodup ∧ (∀ p ∈ ks, ∃ c, p.2 = .ref c) ∧ Q (.bl false) H
theorem hits_refs {A : Around} {s : Shared} {kvs : List (Key × V)} {vb : List (Key × Value)} (rb : KV kvs vb) : ∀ {ks : List (Key × V)} {va : List (Key × Value)}, KV ks va → (∀ p ∈ ks, valV kvs p.1 = some p.2 ∧ ∃ c, p.2 = .ref c) → PySem.W.KeqHits A s vb va true
  | _, _, .nil, _ => .nil
  | p :: _, (k, v) :: _, .cons ⟨ek, rv⟩ t, h => by
    obtain ⟨e, c, ec⟩ := h p List.mem_cons_self
    obtain ⟨y, hy, ry⟩ := RelO.some_of (show RelO (some p.2) (valueAt vb p.1) by rw [← e]; exact rb.val p.1)
    rw [ec] at rv ry
    cases (show v = Value.ref c from rv)
    cases (show y = Value.ref c from ry)
    exact .hit (e := true) (b := true) (by rw [← (show p.1 = k from ek)]; exact hy) (SeqAt.EqAt.same _) (hits_refs rb t fun q hq => h q (List.mem_cons_of_mem _ hq))
theorem op_neSame (hu : X.A.units < cLine) : OpR X (compareOp .NotEq) rSameD := fun pins s σ H x y v u Q I rx ry ⟨a, b, ks, ex, ey, ea, eb, nd, hr, q⟩ => by
  subst ex ey
  obtain ⟨rfl, rfl⟩ : v = Value.ref a ∧ u = Value.ref b := ⟨rx, ry⟩
  have one : ObjOk X.prog X.w H s.heap a (.dK ks) := I.hok a _ ea
  obtain ⟨_, ya, va, ra, da⟩ := one
  obtain ⟨_, yb, vb, rb, db⟩ := (show ObjOk X.prog X.w H s.heap b (.dK ks) from I.hok b _ eb)
  exact PySem.W.keq_ne (knd := mixKind X.prog X.w) (r := true) ya yb da db hu (fun _ => hits_refs rb ra fun p hp => ⟨val_nodup nd p hp, hr p hp⟩) (fin_bl I q (by rw [← ra.length, ← rb.length]; simp))
end
/-! ### a turn -/
structure Go (d PL : Addr) (T : List Addr) (q : Str) (H H' : Hp) : Prop where
  keep : ∀ b o, H b = some o → b ≠ d → b ≠ PL → b ∉ T → H' b = some o
  die : Die H' d
  tabs : TabsG T H'
  lam : LamX.TabS H' PL q
section
variable {d PL : Addr} {T : List Addr} {q : Str} {H H1 H2 : Hp}
theorem lam_of {K1 K2 : Hp} (h : LamX.TabS K1 PL q) (hp : ∀ o, K1 PL = some o → K2 PL = some o) (hc : ∀ c, K1 c = some (LamX.CodeO c q) → K2 c = some (LamX.CodeO c q)) : LamX.TabS K2 PL q := by
  obtain ⟨ps, a, b, c⟩ := h
  exact ⟨ps, hp _ a, b, fun pos cv z => (c pos cv z).elim fun c0 y => ⟨c0, y.1, hc _ y.2⟩⟩
theorem Go.refl (h : Die H d) (t : TabsG T H) (l : LamX.TabS H PL q) : Go d PL T q H H := ⟨fun _ _ e _ _ _ => e, h, t, l⟩
theorem Go.trans (a : Go d PL T q H H1) (b : Go d PL T q H1 H2) : Go d PL T q H H2 := ⟨fun c o e n1 n2 n3 => b.keep c o (a.keep c o e n1 n2 n3) n1 n2 n3, b.die, b.tabs, b.lam⟩
theorem code_tbl {c : Addr} : ∀ ps, LamX.CodeO c q ≠ .tbl ps := fun ps => LamX.codeO_ne ps
theorem Go.gr (a : Go d PL T q H H1) (nP : PL ∉ T) (g : Gr T H1 H2) : Go d PL T q H H2 :=
  ⟨fun c o e n1 n2 n3 => g.keep c o (a.keep c o e n1 n2 n3) n3, a.die.gr g a.tabs, g.tabs, lam_of a.lam (fun o e => g.keep _ o e nP) fun c e => g.at a.tabs e code_tbl⟩
theorem Go.dr (a : Go d PL T q H H1) (nP : PL ∉ T) (nd : PL ≠ d) (g : DR d T H1 H2) : Go d PL T q H H2 :=
  ⟨fun c o e n1 n2 n3 => g.kx.keep c o n1 (a.keep c o e n1 n2 n3) n3, g.die, g.kx.tabs, lam_of a.lam (fun o e => g.kx.keep _ o nd e nP) fun c e => g.kx.at a.tabs (fun z => by
    obtain ⟨x, y, hd⟩ := a.die
    rw [z, hd] at e
    have w := Option.some.inj e
    unfold LamX.CodeO at w
    cases w) e code_tbl⟩
theorem tabs_but {T : List Addr} {K1 K2 : Hp} (t : TabsG T K1) (nP : PL ∉ T) (b : But PL K1 K2) : TabsG T K2 := fun P' hP => by
  obtain ⟨ps, e, r⟩ := t P' hP
  exact ⟨ps, b P' _ (fun z => nP (z ▸ hP)) e, r⟩
theorem Go.but (a : Go d PL T q H H1) (nP : PL ∉ T) (nd : PL ≠ d) (b : But PL H1 H2) (l : LamX.TabS H2 PL q) : Go d PL T q H H2 :=
  ⟨fun c o e n1 n2 n3 => b c o n2 (a.keep c o e n1 n2 n3), by
    obtain ⟨x, y, e⟩ := a.die
    exact ⟨x, y, b _ _ (Ne.symm nd) e⟩, tabs_but a.tabs nP b, l⟩
/-- an own object written -/
theorem Go.own (a : Go d PL T q H H1) {p : Addr} {o : HO} (np : H p = none) (nd : p ≠ d) (nP : p ≠ PL) (nT : p ∉ T) (nc : ∀ c, H1 p ≠ some (LamX.CodeO c q)) : Go d PL T q H (upd H1 p o) :=
  ⟨fun c u e n1 n2 n3 => by rw [upd_ne (ne_of_none e np)]; exact a.keep c u e n1 n2 n3, a.die.other (Ne.symm nd), a.tabs.upd _ nT, lam_of a.lam (fun u e => by rw [upd_ne (Ne.symm nP)]; exact e) fun c e => by rw [upd_ne (show c ≠ p from fun z => nc c (by rw [← z]; exact e))]; exact e⟩
theorem Go.at (a : Go d PL T q H H1) (t : TabsG T H) (l : LamX.TabS H PL q) {b : Addr} {o : HO} (e : H b = some o) (nd : b ≠ d) (n : ∀ ps, o ≠ .tbl ps) : H1 b = some o := by
  refine a.keep b o e nd (fun z => ?_) (t.out e n)
  obtain ⟨ps, h, _⟩ := l
  rw [z, h] at e
  exact n ps (Option.some.inj e).symm
theorem Go.kt (a : Go d PL T q H H1) (h : Die H d) (t : TabsG T H) (l : LamX.TabS H PL q) : KT H H1 := by
  obtain ⟨x, y, hd⟩ := h
  exact ⟨fun b xs e => a.at t l e (fun z => by rw [z, hd] at e; cases e) notbl_tup, fun b o u e => a.at t l e (fun z => by rw [z, hd] at e; cases e) notbl_frz⟩
theorem Go.free (a : Go d PL T q H H1) (h : Die H d) (t : TabsG T H) (l : LamX.TabS H PL q) {p : Addr} (e : H1 p = none) : H p = none := by
  cases z : H p with
  | none => rfl
  | some o =>
    by_cases h1 : p = d
    · rw [h1] at e; exact absurd e a.die.some
    · by_cases h2 : p = PL
      · obtain ⟨ps, y, _⟩ := a.lam
        rw [h2, y] at e; cases e
      · by_cases h3 : p ∈ T
        · exact absurd h3 (a.tabs.none e)
        · rw [a.keep p o z h1 h2 h3] at e; cases e
end
end Lw
/-! a book with one rule made another; lists compared -/
namespace Lw
open PySem PySem.Spec PyProof.Rows L2 Hx Xs
def setB (bk : Bk) (z : Str) (m : Hx.Mk) : Bk := bk.map fun p => if p.1 = z then (p.1, m) else p
theorem setB_keys (bk : Bk) (z : Str) (m : Hx.Mk) : Bk.keys (setB bk z m) = bk.keys := by
  unfold setB Bk.keys
  rw [List.map_map]
  refine List.map_congr_left fun p _ => ?_
  show (if p.1 = z then (p.1, m) else p).1 = p.1
  split <;> rfl
theorem put_old {S : V → Hx.Mk → Prop} {kvs : List (Key × V)} {bk : Bk} {z : Str} {v : V} {m : Hx.Mk} (h : PrS S kvs bk) (hz : z ∈ bk.keys) (hv : S v m) : PrS S (putK kvs (Sum.inr z : Key) v) (setB bk z m) := by
  have any : (kvs.any fun kv => decide (kv.1 = (Sum.inr z : Key))) = true := by
    have k := keys_S h
    have : (Sum.inr z : Key) ∈ kvs.map (·.1) := by rw [k]; exact List.mem_map.mpr ⟨z, hz, rfl⟩
    obtain ⟨kv, hk, e⟩ := List.mem_map.mp this
    exact List.any_eq_true.mpr ⟨kv, hk, decide_eq_true e⟩
  unfold putK
  rw [any, if_pos rfl]
  have go : ∀ {kvs : List (Key × V)} {bk : Bk}, PrS S kvs bk → PrS S (kvs.map fun kv => if kv.1 = (Sum.inr z : Key) then (kv.1, v) else kv) (setB bk z m) := fun {kvs bk} q => by
    induction q with
    | nil => exact .nil
    | @cons kv p _ _ r _ ih =>
      refine .cons ?_ ih
      obtain ⟨e, s⟩ := r
      by_cases hp : p.1 = z
      · have : kv.1 = (Sum.inr z : Key) := by rw [e, hp]
        dsimp only
        rw [if_pos this, if_pos hp]
        exact ⟨e, hv⟩
      · have : ¬ kv.1 = (Sum.inr z : Key) := fun y => hp (Sum.inr.inj (e.symm.trans y))
        dsimp only
        rw [if_neg this, if_neg hp]
        exact ⟨e, s⟩
  exact go h
theorem setB_ok {bk : Bk} {z : Str} {m : Hx.Mk} (ok : okB bk) (hm : Drawn 3 bk.keys bk.keys m) : okB (setB bk z m) := by
  have good : ∀ p ∈ setB bk z m, p ∈ bk ∨ ∃ p0 ∈ bk, p = (p0.1, m) := fun p hp => by
    obtain ⟨p0, h0, e⟩ := List.mem_map.mp hp
    by_cases hz : p0.1 = z
    · rw [if_pos hz] at e; exact .inr ⟨p0, h0, e.symm⟩
    · rw [if_neg hz] at e; exact .inl (e ▸ h0)
  have len : (setB bk z m).length = bk.length := List.length_map ..
  refine ⟨by rw [len]; exact ok.some_, by rw [len]; exact ok.few, by rw [setB_keys]; exact ok.nd, fun p hp => ?_, fun p hp y hy => ?_⟩
  · rcases good p hp with h | ⟨p0, h, e⟩
    · exact ok.good p h
    · rw [e]; exact ⟨(ok.good p0 h).1, parts40 hm⟩
  · rw [setB_keys]
    rcases good p hp with h | ⟨p0, h, e⟩
    · exact ok.full p h y hy
    · rw [e] at hy; exact (hm.nam y hy).elim id id
section
variable {K : PySem.W.Frag} {H : Hp}
/-- two lists of the same texts -/
theorem ne_strs {x y : Addr} {l : List Str} {Q : VK} (hx : H x = some (.lst (l.map V.str))) (hy : H y = some (.lst (l.map V.str))) (q : Q (.bl false) H) : rNeP K (.ref x) (.ref y) H Q := by
  have e : PyData.eqv (.list (l.map PyData.str)) (.list (l.map PyData.str)) = true := by
    show PyData.eqvAll (l.map PyData.str) (l.map PyData.str) = true
    rw [eqv_strs]
    exact decide_eq_true rfl
  refine ⟨.list (l.map .str), .list (l.map .str), .lst (SqL.of hx) (dp_strs l), .lst (SqL.of hy) (dp_strs l), plain_strs l, plain_strs l, ?_, ?_⟩
  · simp only [PyData.depth, depth_strs]
    omega
  · rw [e]; exact q
/-- a list of texts and an empty one -/
theorem ne_empty {x y : Addr} {l : List Str} {Q : VK} (hx : H x = some (.lst (l.map V.str))) (hy : H y = some (.lst [])) (q : Q (.bl (!decide (l = []))) H) : rNeP K (.ref x) (.ref y) H Q := by
  refine ⟨.list (l.map .str), .list [], .lst (SqL.of hx) (dp_strs l), .lst (SqL.of hy) .nil, plain_strs l, rfl, ?_, ?_⟩
  · simp only [PyData.depth, depth_strs]
    omega
  · rw [ne_nil]; exact q
theorem eq_empty {x y : Addr} {l : List Str} {Q : VK} (hx : H x = some (.lst (l.map V.str))) (hy : H y = some (.lst [])) (q : Q (.bl (decide (l = []))) H) : rEqP K (.ref x) (.ref y) H Q := by
  refine ⟨.list (l.map .str), .list [], .lst (SqL.of hx) (dp_strs l), .lst (SqL.of hy) .nil, plain_strs l, rfl, ?_, ?_⟩
  · simp only [PyData.depth, depth_strs]
    omega
  · have := ne_nil l
    have e : PyData.eqv (.list (l.map PyData.str)) (.list []) = decide (l = []) := by cases l <;> rfl
    rw [e]; exact q
/-- ('refused', 'BadBook', l) twice -/
theorem ne_told {x y u v : Addr} {l : List Str} {Q : VK} (hx : H x = some (.tup [.str "refused", .str "BadBook", .ref u])) (hu : H u = some (.lst (l.map V.str))) (hy : H y = some (.tup [.str "refused", .str "BadBook", .ref v])) (hv : H v = some (.lst (l.map V.str))) (q : Q (.bl false) H) : rNeP K (.ref x) (.ref y) H Q := by
  have e : PyData.eqv (.tuple [.str "refused", .str "BadBook", .list (l.map PyData.str)]) (.tuple [.str "refused", .str "BadBook", .list (l.map PyData.str)]) = true := by
    have z := eqv_strs l l
    simp only [PyData.eqv, PyData.eqvAll, z]
    simp
  have pl : PyData.plain (.tuple [.str "refused", .str "BadBook", .list (l.map PyData.str)]) = true := by
    simp only [PyData.plain, PyData.plainAll, plain_strs]
    rfl
  refine ⟨.tuple [.str "refused", .str "BadBook", .list (l.map .str)], .tuple [.str "refused", .str "BadBook", .list (l.map .str)], .tup (SqT.of hx) (.cons (.str _) (.cons (.str _) (.cons (.lst (SqL.of hu) (dp_strs l)) .nil))), .tup (SqT.of hy) (.cons (.str _) (.cons (.str _) (.cons (.lst (SqL.of hv) (dp_strs l)) .nil))), pl, pl, ?_, ?_⟩
  · simp only [PyData.depth, PyData.depthAll, depth_strs]
    omega
  · rw [e]; exact q
theorem ne_none {Q : VK} (q : Q (.bl false) H) : rNeP K .non .non H Q := ⟨.none, .none, .non, .non, rfl, rfl, by decide, q⟩
end
end Lw
/-! the middle of a turn -/
namespace Lw
open PySem PySem.Spec PyProof.Rows L2 Hx Xs
abbrev qLam : Str := "law.<locals>.<lambda>"
/-- a rule with a weaker reading -/
theorem ps_imp {X : Cx} {st : Stmt} {t t' : TS} (h : PS X st t) (i : ∀ D σ H, t' D σ H → t D σ H) : PS X st t' := ⟨fun pins s σ H D I z => h.run pins s σ H D I (i D σ H z)⟩
/-- where things stand -/
structure Pl where
  (a d PL rb nl kp fl wl : Addr)
  (kvs : List (Key × V))
  (bk : Bk)
  W : List Str
structure S8 (K : PySem.W.Frag) (T : List Addr) (H0 : Hp) (p : Pl) (H : Hp) : Prop where
  go : Go p.d p.PL T qLam H0 H
  hrb : H p.rb = some (.dK p.kvs)
  hnl : H p.nl = some (.lst (p.bk.keys.map V.str))
  hkp : H p.kp = some (.dK p.kvs)
  hfl : H p.fl = some (.dK (flagsD p.bk (Hx.lf p.bk)))
  hwl : H p.wl = some (.lst (p.W.map V.str))
  pr : PrB K H p.kvs p.bk
/-- what does not change -/
structure C8 (T : List Addr) (p : Pl) : Prop where
  ok : okB p.bk
  wr : ∃ ys, ys.Perm p.bk.keys ∧ sortedS ys = true ∧ p.W = ys.filter (badB p.bk)
  nd : p.PL ≠ p.d
  nP : p.PL ∉ T
section
variable {K : PySem.W.Frag} {T : List Addr} {H0 H H' : Hp} {p : Pl}
theorem C8.same (c : C8 T p) {ys : List Str} (pm : ys.Perm p.bk.keys) (srt : sortedS ys = true) : ys.filter (badB p.bk) = p.W := by
  obtain ⟨zs, h1, h2, h3⟩ := c.wr
  rw [h3, sorted_eq (pm.trans h1.symm) srt h2]
theorem C8.none (c : C8 T p) : p.W = [] ↔ ∀ z ∈ p.bk.keys, badB p.bk z = false := by
  obtain ⟨zs, h1, h2, h3⟩ := c.wr
  rw [h3, List.filter_eq_nil_iff]
  constructor
  · exact fun h z hz => by simpa using h z (h1.mem_iff.mpr hz)
  · exact fun h z hz => by rw [h z (h1.mem_iff.mp hz)]; exact Bool.false_ne_true
theorem S8.D (s : S8 K T H0 p H) : IsD0 K H p.rb p.bk := ⟨_, s.hrb, s.pr⟩
theorem S8.move (s : S8 K T H0 p H) (go : Go p.d p.PL T qLam H0 H') (k : ∀ b o, H b = some o → b ≠ p.d → (∀ ps, o ≠ .tbl ps) → H' b = some o) : S8 K T H0 p H' := by
  obtain ⟨x, y, hd⟩ := s.go.die
  have dk : ∀ {b kv}, H b = some (.dK kv) → b ≠ p.d := fun e z => by rw [z, hd] at e; cases e
  have kt : KT H H' := ⟨fun b xs e => k b _ e (fun z => by rw [z, hd] at e; cases e) notbl_tup, fun b o u e => k b _ e (fun z => by rw [z, hd] at e; cases e) notbl_frz⟩
  exact ⟨go, k _ _ s.hrb (dk s.hrb) notbl_dK, k _ _ s.hnl (die_ne s.go.die s.hnl) notbl_lst, k _ _ s.hkp (dk s.hkp) notbl_dK, k _ _ s.hfl (dk s.hfl) notbl_dK, k _ _ s.hwl (die_ne s.go.die s.hwl) notbl_lst, paired_mono (fun _ _ r => ⟨r.1, r.2.kt kt⟩) s.pr⟩
theorem S8.gr (s : S8 K T H0 p H) (c : C8 T p) (g : Gr T H H') : S8 K T H0 p H' := s.move (s.go.gr c.nP g) fun b o e _ n => g.at s.go.tabs e n
theorem S8.dr (s : S8 K T H0 p H) (c : C8 T p) (g : DR p.d T H H') : S8 K T H0 p H' := s.move (s.go.dr c.nP c.nd g) fun b o e nd n => g.kx.at s.go.tabs nd e n
theorem S8.but (s : S8 K T H0 p H) (c : C8 T p) (b : But p.PL H H') (l : LamX.TabS H' p.PL qLam) : S8 K T H0 p H' := s.move (s.go.but c.nP c.nd b l) fun a o e _ n => b a o (fun z => by
  obtain ⟨ps, y, _⟩ := s.go.lam
  rw [z, y] at e
  exact n ps (Option.some.inj e).symm) e
theorem S8.ext (s : S8 K T H0 p H) (c : C8 T p) (e : Ext H H') : S8 K T H0 p H' := s.gr c ⟨fun b o z _ => e b o z, fun P hP => by
  obtain ⟨ps, y, r⟩ := s.go.tabs P hP
  exact ⟨ps, e _ _ y, r⟩⟩
theorem S8.new (s : S8 K T H0 p H) (c : C8 T p) {q : Addr} {o : HO} (nq : H q = none) : S8 K T H0 p (upd H q o) := s.gr c (Gr.new s.go.tabs o nq)
/-- the slots -/
def sl (p : Pl) (x6 x8 : Option V) : L2.St := [some (.ref p.a), some (.ref p.d), some (.ref p.nl), some (.ref p.kp), some (.ref p.fl), some (.ref p.wl), x6, some (.ref p.rb), x8]
/-- a statement that leaves all as it is -/
def tInv (K : PySem.W.Frag) (T : List Addr) (PL : Addr) : TS := fun D σ H => ∃ (H0 : Hp) (p : Pl) (x6 x8 : Option V), p.PL = PL ∧ C8 T p ∧ S8 K T H0 p H ∧ σ = sl p x6 x8 ∧ ∀ y6 y8 H', S8 K T H0 p H' → D.nx (sl p y6 y8) H'
end
end Lw
/-! books that the law writes down -/
namespace Lw
open PySem PySem.Spec PyProof.Rows L2 Hx Xs
theorem Ext.kt {H H' : Hp} (g : Ext H H') : KT H H' := ⟨fun b xs e => g b _ e, fun b o u e => g b _ e⟩
theorem Ext.tr {H H1 H2 : Hp} (a : Ext H H1) (b : Ext H1 H2) : Ext H H2 := fun c o e => b c o (a c o e)
theorem Ext.up {H : Hp} {p : Addr} {o : HO} (n : H p = none) : Ext H (upd H p o) := fun b u e => by rw [upd_ne (ne_of_none e n)]; exact e
/-- an expression's reading that makes the making m -/
def Wr (K : PySem.W.Frag) (m : Hx.Mk) (t : TE) : Prop := ∀ σ H Q, (∀ H' v, Ext H H' → IsM K H' v m → Q v H') → t σ H Q
section
variable {K : PySem.W.Frag}
theorem wr_unit : Wr K (.k0 .unit) (tTup (tCons (tC (.str "unit")) tNil)) := fun σ H Q q => ⟨by show 1 ≤ sizeLine; decide, fun p np => q _ _ (Ext.up np) (.k0 .unit (SqT.of upd_same))⟩
theorem wr_atom (c : Nat) : Wr K (.atom c) (tTup (tCons (tC (.str "atom")) (tCons (tC (.str ⟨#[c]⟩)) tNil))) := fun σ H Q q => ⟨by show 2 ≤ sizeLine; decide, fun p np => q _ _ (Ext.up np) (.atom c (SqT.of upd_same))⟩
theorem wr_a : Wr K (.atom 97) (tTup (tCons (tC (.str "atom")) (tCons (tC (.str "a")) tNil))) := by
  have : ("a" : Str) = ⟨#[97]⟩ := by decide +kernel
  rw [this]
  exact wr_atom 97
theorem wr_name (z : Str) : Wr K (.name z) (tTup (tCons (tC (.str "name")) (tCons (tC (.str z)) tNil))) := fun σ H Q q => ⟨by show 2 ≤ sizeLine; decide, fun p np => q _ _ (Ext.up np) (.name z (SqT.of upd_same))⟩
theorem wr_k1 (k : K1) {m : Hx.Mk} {t : TE} (h : Wr K m t) : Wr K (.k1 k m) (tTup (tCons (tC (.str k.tag)) (tCons t tNil))) := fun σ H Q q => h σ H _ fun H1 v g hm => ⟨by show 2 ≤ sizeLine; decide, fun p np => q _ _ (g.tr (Ext.up np)) (.k1 k (SqT.of upd_same) (hm.kt (Ext.up np).kt))⟩
theorem wr_k2 (k : K2) {m n : Hx.Mk} {t u : TE} (h : Wr K m t) (h2 : Wr K n u) : Wr K (.k2 k m n) (tTup (tCons (tC (.str k.tag)) (tCons t (tCons u tNil)))) := fun σ H Q q => h σ H _ fun H1 v g hm => h2 σ H1 _ fun H2 v2 g2 hn => ⟨by show 3 ≤ sizeLine; decide, fun p np => q _ _ ((g.tr g2).tr (Ext.up np)) (.k2 k (SqT.of upd_same) (hm.kt (g2.tr (Ext.up np)).kt) (hn.kt (Ext.up np).kt))⟩
theorem wr_row {m : Hx.Mk} {t : TE} (h : Wr K m t) : Wr K (.k1 .row m) (tTup (tCons (tC (.str "row")) (tCons t tNil))) := wr_k1 .row h
theorem wr_set {m : Hx.Mk} {t : TE} (h : Wr K m t) : Wr K (.k1 .set m) (tTup (tCons (tC (.str "set")) (tCons t tNil))) := wr_k1 .set h
theorem wr_pair {m n : Hx.Mk} {t u : TE} (h : Wr K m t) (h2 : Wr K n u) : Wr K (.k2 .pair m n) (tTup (tCons (tC (.str "pair")) (tCons t (tCons u tNil)))) := wr_k2 .pair h h2
inductive WrP (K : PySem.W.Frag) : Bk → List (TE × TE) → Prop
  | nil : WrP K [] []
  | cons {x : Str} {m : Hx.Mk} {t : TE} {bk : Bk} {trs : List (TE × TE)} : Wr K m t → WrP K bk trs → WrP K ((x, m) :: bk) ((tC (.str x), t) :: trs)
theorem WrP.run : ∀ {bk : Bk} {trs : List (TE × TE)}, WrP K bk trs → ∀ (σ : L2.St) (H : Hp) (Q : List (V × V) → Hp → Prop), (∀ H' kvs, Ext H H' → PrB K H' kvs bk → Q (kvs.map fun kv => (L2.kV kv.1, kv.2)) H') → tPairs trs σ H Q
  | _, _, .nil, σ, H, Q, q => q H [] (fun _ _ e => e) .nil
  | _, _, .cons (x := x) h r, σ, H, Q, q => h σ H _ fun H1 v g hm => r.run σ H1 _ fun H2 kvs g2 pr => q H2 ((Sum.inr x, v) :: kvs) (g.tr g2) (.cons ⟨rfl, hm.kt g2.kt⟩ pr)
theorem merge_nd : ∀ (kvs acc : List (Key × V)), ((acc ++ kvs).map (·.1)).Nodup → mergeK acc kvs = acc ++ kvs
  | [], acc, _ => by show acc = _; simp
  | kv :: r, acc, h => by
    have e : putK acc kv.1 kv.2 = acc ++ [kv] := by
      unfold putK
      rw [if_neg]
      intro z
      obtain ⟨a, ha, e⟩ := List.any_eq_true.mp z
      have e := of_decide_eq_true e
      rw [List.map_append, List.nodup_append] at h
      exact h.2.2 a.1 (List.mem_map.mpr ⟨a, ha, rfl⟩) kv.1 (List.mem_map.mpr ⟨kv, List.mem_cons_self, rfl⟩) e
    show mergeK (putK acc kv.1 kv.2) r = _
    rw [e, merge_nd r (acc ++ [kv]) (by rw [List.append_assoc]; exact h), List.append_assoc]
    rfl
theorem wr_disp {bk : Bk} {trs : List (TE × TE)} (h : WrP K bk trs) (nd : bk.keys.Nodup) (l : bk.length ≤ 15) {σ : L2.St} {H : Hp} {Q : VK} (q : ∀ D H', H D = none → Ext H H' → IsD0 K H' D bk → Q (.ref D) H') : tDisp trs σ H Q := fun D nD => h.run σ _ _ fun H2 kvs g pr => by
  have hD : H2 D = some (.dK []) := g _ _ upd_same
  refine ⟨hD, kvs, rfl, by rw [paired_len pr]; exact l, q D _ nD (fun b o e => ?_) ⟨kvs, ?_, paired_mono (fun _ _ r => ⟨r.1, r.2.kt (KT.upd (fun xs z => by rw [hD] at z; cases z) fun o u z => by rw [hD] at z; cases z)⟩) pr⟩⟩
  · have ne := ne_of_none e nD
    rw [upd_ne ne]
    exact g b o (by rw [upd_ne ne]; exact e)
  · rw [merge_nd kvs [] ?_, List.nil_append]
    · exact upd_same
    · rw [List.nil_append, keys_S pr]
      exact nd.map _ fun a b hne e => hne (Sum.inr.inj e)
end
theorem no_ring {e : Str → List Str} {x : Str} (S : List Str) (h1 : ∀ y ∈ e x, y ∈ S) (h2 : ∀ s ∈ S, ∀ y ∈ e s, y ∈ S) (h : x ∉ S) : ringB e x = false := by
  have : ∀ y, Rch e x y → y ∈ S := fun y z => by
    induction z with
    | one h => exact h1 _ h
    | more _ h ih => exact h2 _ ih _ h
  unfold ringB
  exact @decide_eq_false _ (Classical.propDecidable _) fun z => h (this _ z)
theorem a_ring {e : Str → List Str} {x : Str} (h : Rch e x x) : ringB e x = true := by
  unfold ringB
  exact @decide_eq_true _ (Classical.propDecidable _) h
def looseB (bk : Bk) (z : Str) : Bool := match rule bk z with
  | some m => looseM (Hx.lf bk) m
  | none => false
theorem bad_loose {bk : Bk} {z : Str} (h : looseB bk z = true) : badB bk z = true := by
  show (looseB bk z || ringB (leadsB bk) z) = true
  rw [h]; rfl
theorem bad_ring {bk : Bk} {z : Str} (h : Rch (leadsB bk) z z) : badB bk z = true := by
  show (looseB bk z || ringB (leadsB bk) z) = true
  rw [a_ring h, Bool.or_true]
theorem bad_not {bk : Bk} {z : Str} (S : List Str) (h : looseB bk z = false) (h1 : ∀ y ∈ leadsB bk z, y ∈ S) (h2 : ∀ s ∈ S, ∀ y ∈ leadsB bk s, y ∈ S) (h3 : z ∉ S) : badB bk z = false := by
  show (looseB bk z || ringB (leadsB bk) z) = false
  rw [h, no_ring S h1 h2 h3]; rfl
instance (c : Nat) : Decidable (letter c) := inferInstanceAs (Decidable (97 ≤ c ∧ c ≤ 122))
instance (w : Str) : Decidable (word w) := inferInstanceAs (Decidable (1 ≤ w.length ∧ w.length ≤ 8 ∧ ∀ c ∈ w.cps.toList, letter c))
def goodD : (m : Hx.Mk) → Decidable m.good
  | .k0 _ => isTrue trivial
  | .atom c => inferInstanceAs (Decidable (letter c))
  | .name w => inferInstanceAs (Decidable (word w))
  | .k1 _ a => goodD a
  | .k2 _ a b => @instDecidableAnd _ _ (goodD a) (goodD b)
instance (m : Hx.Mk) : Decidable m.good := goodD m
/-- the six books -/
abbrev bkA : Bk := [("x", .k1 .row (.k1 .row (.atom 97)))]
abbrev bkB : Bk := [("x", .name "x")]
abbrev bkC : Bk := [("x", .name "y"), ("y", .k1 .row (.name "x"))]
abbrev bkD : Bk := [("x", .k1 .row (.name "y")), ("y", .name "z"), ("z", .k0 .unit)]
abbrev bkE : Bk := [("x", .k2 .pair (.name "x") (.atom 97))]
abbrev bkF : Bk := [("x", .k1 .set (.name "x"))]
theorem okA : okB bkA := ⟨by decide, by decide, by decide +kernel, by decide +kernel, by decide +kernel⟩
theorem okB_ : okB bkB := ⟨by decide, by decide, by decide +kernel, by decide +kernel, by decide +kernel⟩
theorem okC : okB bkC := ⟨by decide, by decide, by decide +kernel, by decide +kernel, by decide +kernel⟩
theorem okD : okB bkD := ⟨by decide, by decide, by decide +kernel, by decide +kernel, by decide +kernel⟩
theorem okE : okB bkE := ⟨by decide, by decide, by decide +kernel, by decide +kernel, by decide +kernel⟩
theorem okF : okB bkF := ⟨by decide, by decide, by decide +kernel, by decide +kernel, by decide +kernel⟩
def WrongIs (bk : Bk) (l : List Str) : Prop := ∀ ys : List Str, ys.Perm bk.keys → sortedS ys = true → ys.filter (badB bk) = l
theorem wrong_is {bk : Bk} {l : List Str} (hs : sortedS bk.keys = true) (h : bk.keys.filter (badB bk) = l) : WrongIs bk l := fun ys pm srt => by rw [sorted_eq pm srt hs]; exact h
theorem wA : WrongIs bkA ["x"] := wrong_is (by decide +kernel) (by
  show List.filter _ (["x"] : List Str) = _
  rw [List.filter_cons_of_pos (bad_loose (by decide +kernel))]; rfl)
theorem wB : WrongIs bkB ["x"] := wrong_is (by decide +kernel) (by
  show List.filter _ (["x"] : List Str) = _
  rw [List.filter_cons_of_pos (bad_ring (.one (by decide +kernel)))]; rfl)
theorem wC : WrongIs bkC ["x", "y"] := wrong_is (by decide +kernel) (by
  show List.filter _ (["x", "y"] : List Str) = _
  rw [List.filter_cons_of_pos (bad_ring (.more (y := "y") (.one (by decide +kernel)) (by decide +kernel))), List.filter_cons_of_pos (bad_loose (by decide +kernel))]; rfl)
theorem wD : WrongIs bkD ["x"] := wrong_is (by decide +kernel) (by
  show List.filter _ (["x", "y", "z"] : List Str) = _
  rw [List.filter_cons_of_pos (bad_loose (by decide +kernel)), List.filter_cons_of_neg (by rw [bad_not ["z"] (by decide +kernel) (by decide +kernel) (by decide +kernel) (by decide +kernel)]; decide), List.filter_cons_of_neg (by rw [bad_not [] (by decide +kernel) (by decide +kernel) (by decide +kernel) (by decide +kernel)]; decide)]; rfl)
theorem wE : WrongIs bkE [] := wrong_is (by decide +kernel) (by
  show List.filter _ (["x"] : List Str) = _
  rw [List.filter_cons_of_neg (by rw [bad_not [] (by decide +kernel) (by decide +kernel) (by decide +kernel) (by decide +kernel)]; decide)]; rfl)
theorem wF : WrongIs bkF ["x"] := wrong_is (by decide +kernel) (by
  show List.filter _ (["x"] : List Str) = _
  rw [List.filter_cons_of_pos (bad_loose (by decide +kernel))]; rfl)
section
variable {K : PySem.W.Frag} {T : List Addr} {H0 H : Hp} {p : Pl}
theorem isM_ref {v : V} {m : Hx.Mk} (h : IsM K H v m) : ∃ c, v = .ref c := by
  cases h <;> exact ⟨_, rfl⟩
/-- unfair of a written book -/
theorem wrote {bk : Bk} {l : List Str} {trs : List (TE × TE)} (h : WrP K bk trs) (ok : okB bk) (hl : WrongIs bk l) (s : S8 K T H0 p H) (c : C8 T p) {σ : L2.St} {E : XK} {Q : VK} (q : ∀ H' u, S8 K T H0 p H' → H' u = some (.lst (l.map V.str)) → Q (.ref u) H') : tDisp trs σ H fun v H1 => spUnfair K T [v] H1 Q E :=
  wr_disp h ok.nd (Nat.le_trans ok.few (by decide)) fun D H' nD g hD => by
    have s1 := s.ext c g
    exact ⟨D, bk, rfl, hD, ok, s1.go.tabs, fun H2 u ys g2 nu pm srt hu => q H2 u (s1.gr c g2) (by rw [← hl ys pm srt]; exact hu)⟩
theorem wrote_t {bk : Bk} {l : List Str} {trs : List (TE × TE)} {tl : TA} {σ : L2.St} {Q : Bool → Hp → Prop} (s : S8 K T H0 p H) (c : C8 T p) (h : WrP K bk trs) (ok : okB bk) (hl : WrongIs bk l) (ht : ∀ σ H Q, Q (l.map V.str) H → tl σ H Q) (len : l.length ≤ sizeLine) (q : ∀ H', S8 K T H0 p H' → Q false H') : tTest (tOp (rNeP K) (tCall (spUnfair K T) [] E0 (tCons (tDisp trs) tNil)) (tLst tl)) σ H Q := by
  show tDisp trs σ H fun v H1 => spUnfair K T [v] H1 (fun x H2 => tLst tl σ H2 fun y H3 => rNeP K x y H3 fun r H' => ∃ k, r = .bl k ∧ Q k H') E0
  refine wrote h ok hl s c fun H1 u s1 hu => ht _ _ _ ⟨by rw [List.length_map]; exact len, fun e ne => ?_⟩
  have s2 := s1.new c (o := .lst (l.map V.str)) ne
  exact ne_strs (Ext.up ne _ _ hu) upd_same ⟨_, rfl, q _ s2⟩
theorem bad_told {C : Addr} {Q : VK} (s : S8 K T H0 p H) (c : C8 T p) (eC : C = ea K 0) (q : ∀ H2 t u, S8 K T H0 p H2 → H2 t = some (.tup [.str "refused", .str "BadBook", .ref u]) → H2 u = some (.lst (p.W.map V.str)) → p.W ≠ [] → Q (.ref t) H2) : isBad K T C p.bk H (EOld K Q) := fun H' u ys d g nu pm srt ne hu nd hd => by
  rw [c.same pm srt] at ne hu
  refine ⟨0, by decide, by rw [eC], .inl ⟨by decide, d, .ref u, rfl, hd, fun H2 t e nt ht => ?_⟩⟩
  exact q H2 t u ((s.gr c g).ext c e) ht (e _ _ hu) ne
theorem some_bad (c : C8 T p) (h : p.W ≠ []) : ∃ z ∈ p.bk.keys, badB p.bk z = true := Classical.byContradiction fun no => h (c.none.mpr fun z hz => by
  cases e : badB p.bk z with
  | false => rfl
  | true => exact absurd ⟨z, hz, e⟩ no)
theorem S8.refs (s : S8 K T H0 p H) : ∀ q ∈ p.kvs, ∃ c, q.2 = .ref c := by
  have go : ∀ {kvs : List (Key × V)} {bk : Bk}, PrB K H kvs bk → ∀ q ∈ kvs, ∃ c, q.2 = V.ref c := fun {kvs bk} h => by
    induction h with
    | nil => exact fun q hq => by cases hq
    | cons r _ ih =>
      intro q hq
      rcases List.mem_cons.mp hq with e | hq
      · rw [e]
        exact isM_ref r.2
      · exact ih q hq
  exact go s.pr
theorem S8.nd (s : S8 K T H0 p H) (c : C8 T p) : (p.kvs.map (·.1)).Nodup := by
  rw [keys_S s.pr]
  exact c.ok.nd.map _ fun a b hne e => hne (Sum.inr.inj e)
end
end Lw
/-! the law itself -/
namespace Lw
open PySem PySem.Spec PyProof.Rows L2 Hx Xs
abbrev sLaw : Stmt := topS 81
abbrev nLaw : List Str := ["_law_script", "_law_dice", "_law_names", "_law_kept", "_law_flags_here", "_law_wrong", "_law_making", "_law_rules", "_law_name"]
theorem scLaw : FnScope nLaw ["_law_script"] (defScope sLaw) := ⟨rfl, rfl, rfl, by decide +kernel, rfl, by decide +kernel, by decide +kernel⟩
section
variable {P : Program} {w : World} {K : PySem.W.Frag} {mg : Str → Option Value} {base : Heap} {T : List Addr}
/-- all that the law calls -/
structure Calls (P : Program) (w : World) (K : PySem.W.Frag) (mg : Str → Option Value) (base : Heap) (T : List Addr) (C : Addr) : Prop where
  B : Bn mg
  E : Errs K mg
  eC : C = ea K 0
  ve : mg "ValueError" = none
  rounds : Pr P w K mg base "_law_rounds" ["_law_script", "_law_high"] (spRounds K T) 2
  bookof : Pr P w K mg base "_law_book_of" ["_law_dice", "_law_deep"] (spBookOf K T) 10
  unfair : Pr P w K mg base "unfair" ["book"] (spUnfair K T) 21
  needfair : PrN P w K mg base "need_fair" ["book"] (spNeedFair K T C) 22
  isbook : Pr P w K mg base "is_book" ["thing"] (spBook K T (.bl true)) 19
  roll : Pr P w K mg base "_law_roll" ["_law_dice", "_law_many"] spRoll 2
  free : Pr P w K mg base "_law_free" D4 (spDraw K T FreeD 7) 9
  flags : Pr P w K mg base "_law_flags" ["_law_rules"] (spFlags K T) 8
  wrong : Pr P w K mg base "_law_wrong_ones" ["_law_rules"] (spUnfair K T) 15
  may : Pr P w K mg base "may_be_bare" ["book", "making"] (spMay K T) 21
  names : Pr P w K mg base "bare_names" ["book", "making"] (spBareNames K T) 21
  can : Pr P w K mg base "_law_can_be_bare" N3 (spCan K T 7) 7
  ones : Pr P w K mg base "_law_bare_ones" N3 (spOnes K T 7) 14
  count : PrN P w K mg base "count" ["book", "making", "size"] (spBad K T C 2) 25
  term : Has K mg "_law_term" sTerm ["_law_e"]
  told : Has K mg "_law_told" sTold ["_law_deed"]
def spLaw (K : PySem.W.Frag) (T : List Addr) (PL : Addr) : Sp := fun vs H Q _ => ∃ (a : Addr) (ns : List Int), vs = [.ref a] ∧ SqL K H a (ns.map V.int) ∧ ns.length ≤ 63 ∧ TabsG T H ∧ H PL = some (.tbl #[]) ∧ ∀ H', Q (.bl true) H'
theorem ok_law {C f c PL : Addr} {fd : FuncData} (Z : Calls P w K mg base T C) (F : FunT K "law" "law" sLaw f c fd) (TB : LamX.TabB base mg c PL) (nP : PL ∉ T) : FnOk P w K mg base CX0 31 f fd ["_law_script"] (spLaw K T PL) := by
  obtain ⟨f1, fd1, G1, g1, k1, b1⟩ := Z.rounds.mono (k := 30) (by decide)
  obtain ⟨f2, fd2, G2, g2, k2, b2⟩ := Z.bookof.mono (k := 30) (by decide)
  obtain ⟨f3, fd3, G3, g3, k3, b3⟩ := Z.unfair.mono (k := 30) (by decide)
  obtain ⟨f4, fd4, G4, g4, k4, b4⟩ := Z.needfair
  obtain ⟨f5, fd5, G5, g5, k5, b5⟩ := Z.isbook.mono (k := 30) (by decide)
  obtain ⟨f6, fd6, G6, g6, k6, b6⟩ := Z.roll.mono (k := 30) (by decide)
  obtain ⟨f7, fd7, G7, g7, k7, b7⟩ := Z.free.mono (k := 30) (by decide)
  obtain ⟨f8, fd8, G8, g8, k8, b8⟩ := Z.flags.mono (k := 30) (by decide)
  obtain ⟨f9, fd9, G9, g9, k9, b9⟩ := Z.wrong.mono (k := 30) (by decide)
  obtain ⟨f10, fd10, G10, g10, k10, b10⟩ := Z.may.mono (k := 30) (by decide)
  obtain ⟨f11, fd11, G11, g11, k11, b11⟩ := Z.names.mono (k := 30) (by decide)
  obtain ⟨f12, fd12, G12, g12, k12, b12⟩ := Z.can.mono (k := 30) (by decide)
  obtain ⟨f13, fd13, G13, g13, k13, b13⟩ := Z.ones.mono (k := 30) (by decide)
  obtain ⟨f14, fd14, G14, g14, k14, b14⟩ := Z.count
  obtain ⟨f15, fd15, F15, g15, b15⟩ := Z.term
  obtain ⟨f16, fd16, F16, g16, b16⟩ := Z.told
  obtain ⟨oc, od, kV, doc, pm, an, cdT, ct, osl, efd, lkT, hcT⟩ := F16.ex
  subst efd
  have B := Z.B
  have term : ∀ i d, i < 15 → FnZ P w K mg base 1 f15 fd15 ["_law_e"] (ZE (ea K i) d) (spTerm i d) := fun i d hi => ok_term hi F15 Z.E B.isi Z.ve B.sum B.int
  refine F.ok scLaw (fun vs H Q E h => ?_) (fun A outer s H vs Q E hr h => ?_)
  · obtain ⟨a, ns, rfl, _⟩ := h
    rfl
  · obtain ⟨a, ns, rfl, hS, hl, ht, hPL, q⟩ := h
    have hu := hr.units
    have gives := told_gives (X := (cxOf CX0 P w K mg base nLaw "law" (defScope sLaw) f (.ref c) A outer s H E).nox) (g := f16) (cd := cdT) (q := qLam) rfl rfl Z.E term g15 F15.kp b15 (hr.mono (by decide))
    refine' ⟨_, pss_cons (ps_for PassesOwn.never rfl ?i ?g (pss_cons ?b1 (pss_cons ?b2 (pss_cons ?b3 (pss_cons ?b4 (pss_cons ?b5 (pss_cons ?b6 (pss_cons ?b7 (pss_cons ?b8 (pss_cons ?b9 (pss_cons ?b10 (pss_cons ?b11 (pss_cons ?b12 (pss_cons ?b13 (pss_cons ?b14 (pss_one ?b15)))))))))))))))) (pss_one (ps_ret pe_bl)), ?fin⟩
    case i => exact pi_list (pe_call G1 hr (by rfl) g1 k1 b1 .nil pass0 (pa_cons (pv 0) (pa_cons pe_int pa_nil)))
    case g => exact pg_name (i := 1) scLaw.nd rfl (Or.inl rfl)
    case b1 => exact ps_set (i := 7) scLaw.nd rfl (.inr rfl) (pe_call G2 hr (by rfl) g2 k2 b2 .nil pass0 (pa_cons (pv 1) (pa_cons pe_int pa_nil)))
    case b2 => exact ps_if (PW.pt (pw_or (pt_cmpR (op_neP hu) (pe_call G3 hr (by rfl) g3 k3 b3 .nil pass0 (pa_cons (pv 7) pa_nil)) (pe_lst pa_nil) (nomark _)) (pw_or (pt_cmpR op_notN (pe_call G4 (hr.mono (by decide)) (by rfl) g4 k4 b4 .nil passN0 (pa_cons (pv 7) pa_nil)) pe_non (nomark _)) (pw_or1 (pt_cmpR op_isnot_bl (pe_call G5 hr (by rfl) g5 k5 b5 .nil pass0 (pa_cons (pv 7) pa_nil)) pe_bl (nomark _)))))) (pss_one (ps_ret pe_bl)) pss_nil
    case b3 => exact ps_set (i := 2) scLaw.nd rfl (.inl rfl) (pe_callTy (call_listD rfl) (by rfl) B.list (by decide +kernel) (pa_cons (pv 7) pa_nil))
    case b4 => exact ps_dput (u1 hu) (pv 7) (pe_ix ix_list (pv 2) (pe_call G6 hr (by rfl) g6 k6 b6 .nil pass0 (pa_cons (pv 1) (pa_cons (pe_callB call_len_seq (by rfl) B.len PySem.boot_len (pa_cons (pv 2) pa_nil)) pa_nil))) (fun _ _ => rfl)) (pe_call G7 hr (by rfl) g7 k7 b7 .nil pass0 (pa_cons (pv 1) (pa_cons pe_int (pa_cons (pv 2) (pa_cons (pv 2) pa_nil))))) rfl
    case b5 => exact ps_par3 (i := 3) (j := 4) (l := 5) rfl scLaw.nd rfl rfl rfl (by decide) (by decide) (by decide) rfl rfl rfl (pa_cons (pe_callTy call_dictD (by rfl) B.dict (by decide +kernel) (pa_cons (pv 7) pa_nil)) (pa_cons (pe_call G8 hr (by rfl) g8 k8 b8 .nil pass0 (pa_cons (pv 7) pa_nil)) (pa_cons (pe_call G9 hr (by rfl) g9 k9 b9 .nil pass0 (pa_cons (pv 7) pa_nil)) pa_nil))) (by rfl)
    case b6 =>
      refine ps_imp (t' := tInv K T PL) (ps_if (pt_cmpR (op_neP hu) (pe_call G3 hr (by rfl) g3 k3 b3 .nil pass0 (pa_cons (pv 7) pa_nil)) (pv 5) (nomark _)) (pss_one (ps_ret pe_bl)) pss_nil) fun D σ H ⟨H0, p, x6, x8, ePL, c8, s8, eσ, k⟩ => ?_
      subst eσ
      refine ⟨_, rfl, p.rb, p.bk, rfl, s8.D, c8.ok, s8.go.tabs, fun H1 u1 ys g1 nu1 pm srt hu1 => ?_⟩
      rw [c8.same pm srt] at hu1
      have s9 := s8.gr c8 g1
      exact ⟨_, rfl, ne_strs hu1 s9.hwl ⟨_, rfl, if0 rfl (k _ _ _ s9)⟩⟩
    case b7 =>
      refine ps_imp (t' := tInv K T PL) (ps_if (pt_cmpR (op_neP hu) (pe_thunk (k := 22) (by rfl) g16 F16.kp lkT hcT b16 scTold rfl (.inl rfl) gives TB rfl (hr.mono (by decide)) (LamX.lamS_by (sc := defScope sLaw) (by decide +kernel)) (by rfl) (fun _ _ _ _ _ => rfl) (fun A outer s H E f c' hr => pe_call G4 hr (by rfl) g4 k4 b4 .nil (passN (L2N.takes_of rfl rfl rfl rfl) fun _ _ _ _ z => z) (pa_cons (pv 7) pa_nil))) (pe_ifExp (pt_cmpR (op_eqP hu) (pv 5) (pe_lst pa_nil) (nomark _)) pe_non (pe_tup (pa_cons pe_str (pa_cons pe_str (pa_cons (pv 5) pa_nil))))) (nomark _)) (pss_one (ps_ret pe_bl)) pss_nil) fun D σ H ⟨H0, p, x6, x8, ePL, c8, s8, eσ, k⟩ => ?_
      subst eσ
      have hl := s8.go.lam
      rw [ePL] at hl
      refine ⟨hl, fun H1 but tab => ?_⟩
      have s9 := s8.but c8 (by rw [ePL]; exact but) (by rw [ePL]; exact tab)
      refine ⟨_, rfl, p.rb, p.bk, rfl, s9.D, c8.ok, s9.go.tabs, fun H2 g2 fair => ?_, bad_told s9 c8 Z.eC fun H2 t u s10 ht hu nW => ?_⟩
      · have s10 := s9.gr c8 g2
        have W0 : p.W = [] := c8.none.mpr fair
        refine ⟨_, rfl, Nat.zero_le _, fun e1 ne1 => ?_⟩
        have s11 := s10.new c8 (o := .lst []) ne1
        refine eq_empty s11.hwl upd_same ⟨_, rfl, if1 (decide_eq_true W0) ?_⟩
        dsimp only [tC]
        exact ne_none ⟨_, rfl, if0 rfl (k _ _ _ s11)⟩
      · refine ⟨_, rfl, Nat.zero_le _, fun e1 ne1 => ?_⟩
        have s11 := s10.new c8 (o := .lst []) ne1
        refine eq_empty s11.hwl upd_same ⟨_, rfl, if0 (decide_eq_false nW) ⟨_, rfl, by show 3 ≤ sizeLine; decide, fun e2 ne2 => ?_⟩⟩
        have s12 := s11.new c8 (o := .tup [.str "refused", .str "BadBook", .ref p.wl]) ne2
        have x2 := (Ext.up (o := HO.lst []) ne1).tr (Ext.up (o := .tup [.str "refused", .str "BadBook", .ref p.wl]) ne2)
        exact ne_told (x2 _ _ ht) (x2 _ _ hu) upd_same s12.hwl ⟨_, rfl, if0 rfl (k _ _ _ s12)⟩
    case b8 =>
      refine ps_imp (t' := tInv K T PL) (ps_for PassesOwn.never rfl (pi_list (pe_op op_cat (pe_lock (pe_lc (own := [("_law_name", 8)]) (g := gName 8) (tt := tYes) (te := tDGet (tVar 7) (tVar 8)) rfl scLaw.nd (pi_keys (pv 7)) (blkOk_by (N := nLaw) (sc := defScope sLaw) (by decide +kernel)) (fun _ _ _ _ _ => pg_name (i := 8) scLaw.nd rfl (Or.inl rfl)) (fun _ _ _ _ _ => pts_nil) (fun _ _ _ _ _ => pe_dget (u1 hu) (pv 7) (pv 8) (fun _ _ => rfl)))) (pe_lst (pa_cons (pe_call G7 hr (by rfl) g7 k7 b7 .nil pass0 (pa_cons (pv 1) (pa_cons pe_int (pa_cons (pv 2) (pa_cons (pv 2) pa_nil))))) pa_nil)))) (pg_name (i := 6) scLaw.nd rfl (Or.inl rfl)) (pss_cons (ps_if (pt_cmpR op_ne (pe_call G10 hr (by rfl) g10 k10 b10 .nil pass0 (pa_cons (pv 7) (pa_cons (pv 6) pa_nil))) (pe_call G12 hr (by rfl) g12 k12 b12 .nil pass0 (pa_cons (pv 7) (pa_cons (pv 6) (pa_cons (pv 4) pa_nil)))) (nomark _)) (pss_one (ps_ret pe_bl)) pss_nil) (pss_one (ps_if (pt_cmpR (op_neP hu) (pe_call G11 hr (by rfl) g11 k11 b11 .nil pass0 (pa_cons (pv 7) (pa_cons (pv 6) pa_nil))) (pe_callB (Sx.cr_sort rfl) (by rfl) B.sorted boot_sorted (pa_cons (pe_callTy (Sx.cr_set rfl) (by rfl) B.set (by decide +kernel) (pa_cons (pe_call G13 hr (by rfl) g13 k13 b13 .nil pass0 (pa_cons (pv 7) (pa_cons (pv 6) (pa_cons (pv 4) pa_nil)))) pa_nil)) pa_nil)) (nomark _)) (pss_one (ps_ret pe_bl)) pss_nil)))) fun D σ H ⟨H0, p, x6, x8, ePL, c8, s8, eσ, k⟩ => ?_
      subst eσ
      have nd := s8.nd c8
      have l8 : p.kvs.length ≤ 8 := by rw [paired_len s8.pr]; exact c8.ok.few
      refine ⟨p.rb, _, s8.hrb, trivial, fun od => ?_⟩
      refine ⟨_, rfl, p.rb, od, rfl, .inl ⟨p.kvs, upd_same, fun Dl nD => ?_⟩⟩
      have nDr : Dl ≠ p.rb := fun z => by rw [z, upd_same] at nD; cases nD
      have nD0 : H Dl = none := by rw [upd_ne nDr] at nD; exact nD
      refine lc_it (walk_keys (d := p.rb) (o := od) (kvs := p.kvs)) (fun i H' => H' = upd (upd H p.rb (.frz od (.dK p.kvs))) Dl (.lst ((p.kvs.take i).map (·.2)))) rfl (fun i H' _ e => by rw [e, upd_ne (Ne.symm nDr)]; exact upd_same) (fun i x H1 H2 hi e1 ⟨e2, kk, v, ek, ex⟩ => ?_) (fun H1 e1 => ?_)
      · subst e2 ex e1
        have hv := val_nodup nd _ (List.mem_of_getElem? ek)
        refine ⟨rfl, tyes ⟨_, rfl, _, rfl, p.rb, v, rfl, .inl ⟨p.kvs, kk, .inr ⟨od, by rw [upd_ne (Ne.symm nDr)]; exact upd_same⟩, rfl, hv.symm⟩, _, upd_same, ?_, ?_⟩⟩
        · rw [List.length_map, List.length_take]
          exact Nat.lt_of_le_of_lt (show min i p.kvs.length ≤ 8 by omega) (by decide)
        · rw [List.take_add_one, ek, List.map_append]
          funext b
          by_cases e : b = Dl
          · rw [e, upd_same, upd_same]; rfl
          · rw [upd_ne e, upd_ne e, upd_ne e]
      rw [List.take_length] at e1
      refine ⟨by rw [e1, upd_ne (Ne.symm nDr)]; exact upd_same, ?_⟩
      have eH : upd H1 p.rb (.dK p.kvs) = upd H Dl (.lst (p.kvs.map (·.2))) := by
        funext b
        by_cases e : b = p.rb
        · rw [e, upd_same, upd_ne (Ne.symm nDr), s8.hrb]
        · by_cases e' : b = Dl
          · rw [upd_ne e, e1, e', upd_same, upd_same]
          · rw [upd_ne e, e1, upd_ne e', upd_ne e, upd_ne e']
      rw [eH]
      clear e1 eH
      have s9 := s8.new c8 (o := .lst (p.kvs.map (·.2))) nD0
      have hDl : upd H Dl (.lst (p.kvs.map (·.2))) Dl = some (.lst (p.kvs.map (·.2))) := upd_same
      generalize upd H Dl (.lst (p.kvs.map (·.2))) = H3 at s9 hDl ⊢
      have wk : ∀ z ∈ p.bk.keys, word z := fun z hz => by
        obtain ⟨p0, hp0, rfl⟩ := List.mem_map.mp hz
        exact (c8.ok.good p0 hp0).1
      have k8 : p.bk.keys.length ≤ 8 := by unfold Bk.keys; rw [List.length_map]; exact c8.ok.few
      refine ⟨_, rfl, _, rfl, _, rfl, p.d, p.nl, p.nl, 2, p.bk.keys, p.bk.keys, rfl, by decide, by decide, ⟨s9.go.die, s9.hnl, s9.hnl, wk, wk, k8, k8, s9.go.tabs⟩, fun H4 v m dr hm fr => ?_⟩
      have s10 := s9.dr c8 dr
      have dDl : Dl ≠ p.d := fun z => by rw [z] at nD0; exact s8.go.die.some nD0
      have hDl4 : H4 Dl = some (.lst (p.kvs.map (·.2))) := dr.kx.at s9.go.tabs dDl hDl notbl_lst
      refine ⟨by show 1 ≤ sizeLine; decide, fun l1 nl1 => ?_⟩
      have s11 := s10.new c8 (o := .lst [v]) nl1
      have hDl5 : upd H4 l1 (.lst [v]) Dl = some (.lst (p.kvs.map (·.2))) := Ext.up nl1 _ _ hDl4
      have hl5 : upd H4 l1 (.lst [v]) l1 = some (.lst [v]) := upd_same
      have hm5 : IsM K (upd H4 l1 (.lst [v])) v m := hm.kt (Ext.up nl1).kt
      generalize upd H4 l1 (.lst [v]) = H5 at s11 hDl5 hl5 hm5 ⊢
      refine ⟨Dl, l1, _, _, rfl, rfl, hDl5, hl5, ?_, fun L nL => ?_⟩
      · rw [List.length_map]
        exact Nat.le_trans (Nat.add_le_add_right l8 1) (by decide)
      have s12 := s11.new c8 (o := .lst (p.kvs.map (·.2) ++ [v])) nL
      have hL : upd H5 L (.lst (p.kvs.map (·.2) ++ [v])) L = some (.lst (p.kvs.map (·.2) ++ [v])) := upd_same
      have hm6 : IsM K (upd H5 L (.lst (p.kvs.map (·.2) ++ [v]))) v m := hm5.kt (Ext.up nL).kt
      generalize upd H5 L (.lst (p.kvs.map (·.2) ++ [v])) = H6 at s12 hL hm6 ⊢
      have all : ∀ x ∈ p.kvs.map (·.2) ++ [v], ∃ m, IsM K H6 x m ∧ okM m ∧ ∀ z ∈ m.names, z ∈ p.bk.keys := fun x hx => by
        rcases List.mem_append.mp hx with h | h
        · obtain ⟨kv, hkv, rfl⟩ := List.mem_map.mp h
          obtain ⟨i, hi⟩ := List.getElem?_of_mem hkv
          obtain ⟨q, hq, e, hM⟩ := L2.paired_get s12.pr hi
          have hq := List.mem_of_getElem? hq
          exact ⟨q.2, hM, (c8.ok.good q hq).2, c8.ok.full q hq⟩
        · cases List.mem_singleton.mp h
          have e : (2 : Nat) ^ (2 + 1) = 8 := by decide
          have pr := fr.1.par
          rw [e] at pr
          exact ⟨m, hm6, ⟨fr.1.good, Nat.le_trans fr.1.dep (by decide), by omega⟩, fun z hz => (fr.1.nam z hz).elim id id⟩
      refine ⟨L, rfl, ⟨_, SqL.of hL⟩, ?_⟩
      refine for_it (walk_list (K := K) (a := L) (xs := p.kvs.map (·.2) ++ [v])) (fun i σ H' => (∃ y6, σ = sl p y6 x8) ∧ S8 K T H0 p H' ∧ H' L = some (.lst (p.kvs.map (·.2) ++ [v])) ∧ ∀ x ∈ p.kvs.map (·.2) ++ [v], ∃ m, IsM K H' x m ∧ okM m ∧ ∀ z ∈ m.names, z ∈ p.bk.keys)
        ⟨⟨_, rfl⟩, s12, hL, all⟩ (fun i σ H' _ z => SqL.of z.2.2.1) (fun i x σ H' H7 hi ⟨⟨y6, eσ⟩, s13, hL7, all7⟩ ⟨e7, hx⟩ => ?_) (fun σ H' ⟨⟨y6, eσ⟩, s13, _⟩ => by rw [eσ]; exact k _ _ _ s13)
      subst eσ e7
      clear all hL hm6 s12 s11 hDl5 hl5 hm5 s10 hDl4
      obtain ⟨mm, hM, om, hnm⟩ := all7 x (List.mem_of_getElem? hx)
      have next : ∀ {H8 : Hp}, Gr T H7 H8 → S8 K T H0 p H8 ∧ H8 L = some (.lst (p.kvs.map (·.2) ++ [v])) ∧ ∀ x ∈ p.kvs.map (·.2) ++ [v], ∃ m, IsM K H8 x m ∧ okM m ∧ ∀ z ∈ m.names, z ∈ p.bk.keys := fun g =>
        ⟨s13.gr c8 g, g.at s13.go.tabs hL7 notbl_lst, fun x hx => (all7 x hx).imp fun m z => ⟨z.1.gr g s13.go.tabs, z.2⟩⟩
      have fd : ∀ {H8 : Hp}, Gr T H7 H8 → FD H8 p.fl (Hx.lf p.bk) p.bk.keys := fun g => ⟨_, .inl (s13.gr c8 g).hfl, fun z hz => val_flags hz⟩
      refine ⟨_, rfl, _, rfl, p.rb, x, p.bk, mm, rfl, s13.D, c8.ok, hM, om, hnm, s13.go.tabs, fun H8 g8 => ?_⟩
      refine ⟨_, rfl, _, rfl, _, rfl, .ref p.rb, x, p.fl, Hx.lf p.bk, p.bk.keys, mm, rfl, fd g8, hM.gr g8 s13.go.tabs, hnm, Nat.lt_succ_of_le om.2.1, g8.tabs, fun H9 g9 => ?_⟩
      refine ⟨rfl, _, rfl, if0 (by simp) ?_⟩
      have gA := g8.trans g9
      have tA := gA.tabs
      refine ⟨_, rfl, _, rfl, p.rb, x, p.bk, mm, rfl, (s13.gr c8 gA).D, c8.ok, hM.gr gA s13.go.tabs, om, hnm, gA.tabs, fun H10 b1 ys g10 nb1 ri hb1 => ?_⟩
      have gB := gA.trans g10
      have l40 : (standB (Hx.lf p.bk) mm).length ≤ 40 := Nat.le_trans (stand_len _ mm) om.2.2
      refine ⟨_, rfl, _, rfl, _, rfl, .ref p.rb, x, p.fl, Hx.lf p.bk, p.bk.keys, mm, rfl, fd gB, hM.gr gB s13.go.tabs, hnm, Nat.lt_of_le_of_lt om.2.1 (by decide), Nat.lt_succ_of_le om.2.1, om.2.2, gB.tabs, fun H11 l g11 nl hl => ?_⟩
      have gC := gB.trans g11
      refine ⟨l, standB (Hx.lf p.bk) mm, rfl, SqL.of hl, by omega, fun sa sl nsa mem nd len => ?_⟩
      have gD := gC.trans (Gr.new gC.tabs (Sx.TxO P w sa sl) nsa)
      refine ⟨sa, sl, rfl, upd_same, by omega, fun zs p2 pm srt np2 => ?_⟩
      have ey : zs = ys := sorted_eq ((List.perm_ext_iff_of_nodup (pm.nodup_iff.mpr nd) ri.2).mpr fun z => ((pm.mem_iff).trans (mem z)).trans (ri.1 z).symm) srt ri.3
      subst ey
      have gE := gD.trans (Gr.new gD.tabs (.lst (zs.map V.str)) np2)
      have hb2 := (Gr.new gD.tabs (.lst (zs.map V.str)) np2).at gD.tabs ((Gr.new gC.tabs (Sx.TxO P w sa sl) nsa).at gC.tabs (g11.at gB.tabs hb1 notbl_lst) notbl_lst) notbl_lst
      exact ne_strs hb2 upd_same ⟨_, rfl, if0 rfl ⟨⟨_, rfl⟩, next gE⟩⟩
    case b9 =>
      refine ps_imp (t' := tInv K T PL) (ps_if (PW.pt (pw_and (pt_cmpR (op_neP hu) (pv 5) (pe_lst pa_nil) (nomark _)) (pw_and1 (pt_cmpR (op_neP hu) (pe_thunk (k := 25) (by rfl) g16 F16.kp lkT hcT b16 scTold rfl (.inl rfl) gives TB rfl (hr.mono (by decide)) (LamX.lamS_by (sc := defScope sLaw) (by decide +kernel)) (by rfl) (fun _ _ _ _ _ => rfl) (fun A outer s H E f c' hr => pe_call G14 hr (by rfl) g14 k14 b14 .nil (passN (L2N.takes_of rfl rfl rfl rfl) fun _ _ _ _ z => z) (pa_cons (pv 7) (pa_cons (pe_tup (pa_cons pe_str pa_nil)) (pa_cons pe_int pa_nil))))) (pe_tup (pa_cons pe_str (pa_cons pe_str (pa_cons (pv 5) pa_nil)))) (nomark _))))) (pss_one (ps_ret pe_bl)) pss_nil) fun D σ H ⟨H0, p, x6, x8, ePL, c8, s8, eσ, k⟩ => ?_
      subst eσ
      refine ⟨_, rfl, Nat.zero_le _, fun e1 ne1 => ?_⟩
      have s9 := s8.new c8 (o := .lst []) ne1
      refine ne_empty s9.hwl upd_same ⟨_, rfl, ?_⟩
      by_cases hW : p.W = []
      · exact if0 (by simp [hW]) (if0 rfl (k _ _ _ s9))
      refine if1 (by simp [hW]) ?_
      have hl := s9.go.lam
      rw [ePL] at hl
      refine ⟨hl, fun H1 but tab => ?_⟩
      have s10 := s9.but c8 (by rw [ePL]; exact but) (by rw [ePL]; exact tab)
      refine ⟨_, rfl, by show 1 ≤ sizeLine; decide, fun e2 ne2 => ?_⟩
      have s11 := s10.new c8 (o := .tup [.str "unit"]) ne2
      refine ⟨p.rb, _, p.bk, rfl, rfl, s11.D, c8.ok, s11.go.tabs, some_bad c8 hW, bad_told s11 c8 Z.eC fun H2 t u s12 ht hu nW => ?_⟩
      refine ⟨_, rfl, by show 3 ≤ sizeLine; decide, fun e3 ne3 => ?_⟩
      have s13 := s12.new c8 (o := .tup [.str "refused", .str "BadBook", .ref p.wl]) ne3
      have x2 := Ext.up (o := HO.tup [.str "refused", .str "BadBook", .ref p.wl]) ne3
      exact ne_told (x2 _ _ ht) (x2 _ _ hu) upd_same s13.hwl ⟨_, rfl, if0 rfl (k _ _ _ s13)⟩
    case b10 =>
      refine ps_imp (t' := tInv K T PL) (ps_if (PW.pt (pw_or (pt_cmpR (op_neSame (Nat.lt_of_le_of_lt (Nat.le_add_right _ 64) hu)) (pv 7) (pv 3) (nomark _)) (pw_or1 (pt_cmpR (op_neP hu) (pe_call G3 hr (by rfl) g3 k3 b3 .nil pass0 (pa_cons (pe_disp (pps_cons pe_str (pe_tup (pa_cons pe_str (pa_cons (pe_tup (pa_cons pe_str (pa_cons (pe_tup (pa_cons pe_str (pa_cons pe_str pa_nil))) pa_nil))) pa_nil))) pps_nil) (by rfl) (by rfl) (fun z => by cases z) (by decide)) pa_nil)) (pe_lst (pa_cons pe_str pa_nil)) (nomark _))))) (pss_one (ps_ret pe_bl)) pss_nil) fun D σ H ⟨H0, p, x6, x8, ePL, c8, s8, eσ, k⟩ => ?_
      subst eσ
      refine ⟨_, rfl, _, rfl, p.rb, p.kp, p.kvs, rfl, rfl, s8.hrb, s8.hkp, s8.nd c8, s8.refs, _, rfl, if0 rfl ?_⟩
      exact wrote_t s8 c8 (.cons (wr_row (wr_row wr_a)) .nil) okA wA (fun _ _ _ q => q) (by decide) fun H' s => if0 rfl (k _ _ _ s)
    case b11 =>
      refine ps_imp (t' := tInv K T PL) (ps_if (pt_cmpR (op_neP hu) (pe_call G3 hr (by rfl) g3 k3 b3 .nil pass0 (pa_cons (pe_disp (pps_cons pe_str (pe_tup (pa_cons pe_str (pa_cons pe_str pa_nil))) pps_nil) (by rfl) (by rfl) (fun z => by cases z) (by decide)) pa_nil)) (pe_lst (pa_cons pe_str pa_nil)) (nomark _)) (pss_one (ps_ret pe_bl)) pss_nil) fun D σ H ⟨H0, p, x6, x8, ePL, c8, s8, eσ, k⟩ => ?_
      subst eσ
      exact wrote_t s8 c8 (.cons (wr_name _) .nil) okB_ wB (fun _ _ _ q => q) (by decide) fun H' s => if0 rfl (k _ _ _ s)
    case b12 =>
      refine ps_imp (t' := tInv K T PL) (ps_if (pt_cmpR (op_neP hu) (pe_call G3 hr (by rfl) g3 k3 b3 .nil pass0 (pa_cons (pe_disp (pps_cons pe_str (pe_tup (pa_cons pe_str (pa_cons pe_str pa_nil))) (pps_cons pe_str (pe_tup (pa_cons pe_str (pa_cons (pe_tup (pa_cons pe_str (pa_cons pe_str pa_nil))) pa_nil))) pps_nil)) (by rfl) (by rfl) (fun z => by cases z) (by decide)) pa_nil)) (pe_lst (pa_cons pe_str (pa_cons pe_str pa_nil))) (nomark _)) (pss_one (ps_ret pe_bl)) pss_nil) fun D σ H ⟨H0, p, x6, x8, ePL, c8, s8, eσ, k⟩ => ?_
      subst eσ
      exact wrote_t s8 c8 (.cons (wr_name _) (.cons (wr_row (wr_name _)) .nil)) okC wC (fun _ _ _ q => q) (by decide) fun H' s => if0 rfl (k _ _ _ s)
    case b13 =>
      refine ps_imp (t' := tInv K T PL) (ps_if (pt_cmpR (op_neP hu) (pe_call G3 hr (by rfl) g3 k3 b3 .nil pass0 (pa_cons (pe_disp (pps_cons pe_str (pe_tup (pa_cons pe_str (pa_cons (pe_tup (pa_cons pe_str (pa_cons pe_str pa_nil))) pa_nil))) (pps_cons pe_str (pe_tup (pa_cons pe_str (pa_cons pe_str pa_nil))) (pps_cons pe_str (pe_tup (pa_cons pe_str pa_nil)) pps_nil))) (by rfl) (by rfl) (fun z => by cases z) (by decide)) pa_nil)) (pe_lst (pa_cons pe_str pa_nil)) (nomark _)) (pss_one (ps_ret pe_bl)) pss_nil) fun D σ H ⟨H0, p, x6, x8, ePL, c8, s8, eσ, k⟩ => ?_
      subst eσ
      exact wrote_t s8 c8 (.cons (wr_row (wr_name _)) (.cons (wr_name _) (.cons wr_unit .nil))) okD wD (fun _ _ _ q => q) (by decide) fun H' s => if0 rfl (k _ _ _ s)
    case b14 =>
      refine ps_imp (t' := tInv K T PL) (ps_if (pt_cmpR (op_neP hu) (pe_call G3 hr (by rfl) g3 k3 b3 .nil pass0 (pa_cons (pe_disp (pps_cons pe_str (pe_tup (pa_cons pe_str (pa_cons (pe_tup (pa_cons pe_str (pa_cons pe_str pa_nil))) (pa_cons (pe_tup (pa_cons pe_str (pa_cons pe_str pa_nil))) pa_nil)))) pps_nil) (by rfl) (by rfl) (fun z => by cases z) (by decide)) pa_nil)) (pe_lst pa_nil) (nomark _)) (pss_one (ps_ret pe_bl)) pss_nil) fun D σ H ⟨H0, p, x6, x8, ePL, c8, s8, eσ, k⟩ => ?_
      subst eσ
      exact wrote_t s8 c8 (.cons (wr_pair (wr_name _) wr_a) .nil) okE wE (fun _ _ _ q => q) (by decide) fun H' s => if0 rfl (k _ _ _ s)
    case b15 =>
      refine ps_imp (t' := tInv K T PL) (ps_if (pt_cmpR (op_neP hu) (pe_call G3 hr (by rfl) g3 k3 b3 .nil pass0 (pa_cons (pe_disp (pps_cons pe_str (pe_tup (pa_cons pe_str (pa_cons (pe_tup (pa_cons pe_str (pa_cons pe_str pa_nil))) pa_nil))) pps_nil) (by rfl) (by rfl) (fun z => by cases z) (by decide)) pa_nil)) (pe_lst (pa_cons pe_str pa_nil)) (nomark _)) (pss_one (ps_ret pe_bl)) pss_nil) fun D σ H ⟨H0, p, x6, x8, ePL, c8, s8, eσ, k⟩ => ?_
      subst eσ
      exact wrote_t s8 c8 (.cons (wr_set (wr_name _)) .nil) okF wF (fun _ _ _ q => q) (by decide) fun H' s => if0 rfl (k _ _ _ s)
    case fin =>
      refine ⟨_, rfl, a, ns, 4, rfl, hS, Nat.le_trans hl (by decide), by decide, ht, fun Ha p ds gr np hp hlen hds => ⟨p, rfl, ⟨_, SqL.of hp⟩, ?_⟩⟩
      have hPa : Ha PL = some (.tbl #[]) := gr.keep PL _ hPL nP
      have ndP : ∀ d ∈ ds, d ≠ PL ∧ d ≠ p := fun d hd => by
        obtain ⟨x, y, e⟩ := (hds d hd).2
        refine ⟨(fun z => by rw [z, hPa] at e; cases e), fun z => ?_⟩
        rw [z, hp] at e
        cases ds with
        | nil => cases hd
        | cons u r => cases e
      refine for_it (walk_list (K := K) (a := p) (xs := ds.map V.ref)) (fun i σ H' => (∃ y1 y2 y3 y4 y5 y6 y7 y8, σ = [some (.ref a), y1, y2, y3, y4, y5, y6, y7, y8]) ∧ H' p = some (.lst (ds.map V.ref)) ∧ (∀ d ∈ ds, Die H' d) ∧ TabsG T H' ∧ LamX.TabS H' PL qLam)
        ⟨⟨_, _, _, _, _, _, _, _, rfl⟩, hp, fun d hd => (hds d hd).2, gr.tabs, LamX.TabS.nil hPa⟩ (fun i σ H' _ z => SqL.of z.2.1) (fun i x σ H0 H0' hi ⟨⟨y1, y2, y3, y4, y5, y6, y7, y8, eσ⟩, hp0, die0, t0, l0⟩ ⟨e0, hx⟩ => ?_) (fun σ H' _ => q H')
      subst eσ e0
      rw [List.getElem?_map] at hx
      cases ed : ds[i]? with
      | none => rw [ed] at hx; cases hx
      | some d =>
        rw [ed] at hx
        cases hx
        have hd := List.mem_of_getElem? ed
        obtain ⟨dP, dp⟩ := ndP d hd
        have die := die0 d hd
        have back : ∀ {σ' : L2.St} {H'}, (∃ y1 y2 y3 y4 y5 y6 y7 y8, σ' = [some (.ref a), y1, y2, y3, y4, y5, y6, y7, y8]) → Go d PL T qLam H0' H' → (∃ y1 y2 y3 y4 y5 y6 y7 y8, σ' = [some (.ref a), y1, y2, y3, y4, y5, y6, y7, y8]) ∧ H' p = some (.lst (ds.map V.ref)) ∧ (∀ d ∈ ds, Die H' d) ∧ TabsG T H' ∧ LamX.TabS H' PL qLam := fun es go =>
          ⟨es, go.at t0 l0 hp0 (Ne.symm dp) notbl_lst, fun d' hd' => by
            by_cases z : d' = d
            · rw [z]; exact go.die
            · obtain ⟨u, v, e⟩ := die0 d' hd'
              exact ⟨u, v, go.at t0 l0 e z notbl_lst⟩, go.tabs, go.lam⟩
        have G0 : Go d PL T qLam H0' H0' := Go.refl die t0 l0
        refine ⟨_, rfl, d, rfl, die, t0, fun H1 rb kvs bk ws fs dr nrb hrb pr bi hws => ?_⟩
        have GA : Go d PL T qLam H0' H1 := G0.dr nP (Ne.symm dP) dr
        obtain ⟨n, n1, n3, ews⟩ := hws
        have wsl : ws.length = n := by rw [ews, List.length_take]; show min n 3 = n; omega
        have okb : okB bk := bi.ok (by rw [ews]; exact wxy_nd.sublist (List.take_sublist _ _)) (fun z hz => wxy_word z (by rw [ews] at hz; exact List.mem_of_mem_take hz)) (by omega) (by omega)
        have fair := bi.fair
        have hD1 : IsD0 K H1 rb bk := ⟨kvs, hrb, pr⟩
        refine ⟨_, rfl, rb, bk, rfl, hD1, okb, GA.tabs, fun H2 u1 ys gr2 nu1 pm srt hu1 => ?_⟩
        have fe : ∀ ys : List Str, ys.filter (badB bk) = [] := fun ys => List.filter_eq_nil_iff.mpr fun z _ => by rw [fair z]; exact Bool.false_ne_true
        rw [fe] at hu1
        refine ⟨Nat.zero_le _, fun e1 ne1 => ?_⟩
        refine ⟨.list [], .list [], .lst (SqL.of (by rw [upd_ne (ne_of_none hu1 ne1)]; exact hu1)) .nil, .lst (SqL.of upd_same) .nil, rfl, rfl, by decide, _, rfl, if0 rfl ?_⟩
        have gr3 := gr2.trans (Gr.new gr2.tabs (.lst []) ne1)
        generalize upd H2 e1 (.lst []) = H3 at gr3 ⊢
        refine ⟨_, rfl, rb, bk, rfl, hD1.gr gr3 GA.tabs, okb, gr3.tabs, (fun H4 gr4 _ => ?_), fun _ _ ys _ _ _ _ _ ne => absurd (fe ys) ne⟩
        refine ⟨rfl, _, rfl, if0 (by simp) ?_⟩
        have gr14 := gr3.trans gr4
        refine ⟨_, rfl, rb, bk, rfl, hD1.gr gr14 GA.tabs, okb, gr14.tabs, fun H5 gr5 => ⟨_, _, rfl, rfl, _, rfl, if0 (by rfl) ?_⟩⟩
        have gB := gr14.trans gr5
        have GB := GA.gr nP gB
        have hrb5 : H5 rb = some (.dK kvs) := gB.at GA.tabs hrb notbl_dK
        have pr5 : PrB K H5 kvs bk := paired_mono (fun _ _ r => ⟨r.1, r.2.gr gB GA.tabs⟩) pr
        clear gr2 gr3 gr4 gr5 gr14 hu1 nu1 ne1 hrb pr hD1 pm srt
        have ek : kvs.map (fun kv => L2.kV kv.1) = bk.keys.map V.str := by
          have := congrArg (List.map L2.kV) (keys_S pr5)
          rw [List.map_map, List.map_map] at this
          exact this
        refine ⟨_, rfl, rb, kvs, rfl, .inl hrb5, fun nl nnl => ?_⟩
        rw [ek]
        have gC : Gr T H5 (upd H5 nl (.lst (bk.keys.map V.str))) := Gr.new GB.tabs _ nnl
        have hnl6 : (upd H5 nl (.lst (bk.keys.map V.str))) nl = some (.lst (bk.keys.map V.str)) := upd_same
        have nrl : rb ≠ nl := ne_of_none hrb5 nnl
        have hrb6 : (upd H5 nl (.lst (bk.keys.map V.str))) rb = some (.dK kvs) := by rw [upd_ne nrl]; exact hrb5
        generalize upd H5 nl (.lst (bk.keys.map V.str)) = H6 at gC hnl6 hrb6 ⊢
        have GC := GB.gr nP gC
        have pr6 : PrB K H6 kvs bk := paired_mono (fun _ _ r => ⟨r.1, r.2.gr gC GB.tabs⟩) pr5
        have nl0 : H0' nl = none := GB.free die t0 l0 nnl
        have wk : ∀ z ∈ bk.keys, word z := fun z hz => by
          obtain ⟨p0, hp0, rfl⟩ := List.mem_map.mp hz
          exact (okb.good p0 hp0).1
        have k8 : bk.keys.length ≤ 8 := by unfold Bk.keys; rw [List.length_map]; exact okb.few
        have k1 : 1 ≤ bk.keys.length := by unfold Bk.keys; rw [List.length_map]; exact okb.some_
        refine ⟨_, rfl, _, rfl, _, rfl, d, nl, nl, 3, bk.keys, bk.keys, rfl, by decide, by decide, ⟨GC.die, hnl6, hnl6, wk, wk, k8, k8, GC.tabs⟩, fun H7 v m dr7 hm7 fr7 => ?_⟩
        have GD := GC.dr nP (Ne.symm dP) dr7
        have dnl : nl ≠ d := fun z => by rw [z] at nl0; exact die.some nl0
        have dr_ : rb ≠ d := fun z => by rw [z] at nrb; exact die.some nrb
        have hnl7 : H7 nl = some (.lst (bk.keys.map V.str)) := dr7.words GC.tabs GC.die hnl6
        have hrb7 : H7 rb = some (.dK kvs) := dr7.kx.at GC.tabs dr_ hrb6 notbl_dK
        have kt7 := dr7.kt GC.tabs GC.die
        have pr7 : PrB K H7 kvs bk := paired_mono (fun _ _ r => ⟨r.1, r.2.kt kt7⟩) pr6
        refine ⟨_, rfl, _, rfl, _, rfl, _, rfl, nl, _, rfl, .inl (SqL.of hnl7), d, _, rfl, GD.die, ?_, ?_, fun x y r r0 r1 => ?_⟩
        · rw [List.length_map]; omega
        · rw [List.length_map]; omega
        rw [List.length_map] at r1
        obtain ⟨j, rfl⟩ : ∃ j : Nat, r = (j : Int) := ⟨r.toNat, by omega⟩
        have hj : j < bk.keys.length := by omega
        have hz : bk.keys[j] ∈ bk.keys := List.getElem_mem hj
        have hat : (bk.keys.map V.str)[j]? = some (.str bk.keys[j]) := by rw [List.getElem?_map, List.getElem?_eq_getElem hj]; rfl
        have GE := GD.dr nP (Ne.symm dP) (DR.roll GD.tabs GD.die x y)
        have kt8 := (DR.roll GD.tabs GD.die x y).kt GD.tabs GD.die
        have hnl8 : (upd H7 d (.lst [.int x, .int y])) nl = some (.lst (bk.keys.map V.str)) := by rw [upd_ne dnl]; exact hnl7
        have hrb8 : (upd H7 d (.lst [.int x, .int y])) rb = some (.dK kvs) := by rw [upd_ne dr_]; exact hrb7
        refine ⟨nl, _, (j : Int), .str bk.keys[j], rfl, rfl, SqL.of hnl8, atI_nat hat, rb, _, rfl, DPut.k (k := Sum.inr bk.keys[j]) hrb8 ?_, ?_⟩
        · have := paired_len pr7
          have h2 := okb.few
          exact Nat.lt_of_le_of_lt (show kvs.length ≤ 8 by omega) (by decide)
        generalize bk.keys[j] = z at hz hat ⊢
        have pr8 : PrB K (upd H7 d (.lst [.int x, .int y])) (putK kvs (Sum.inr z) v) (setB bk z m) := put_old (paired_mono (fun _ _ r => ⟨r.1, r.2.kt kt8⟩) pr7) hz (hm7.kt kt8)
        generalize upd H7 d (.lst [.int x, .int y]) = H8 at GE hnl8 hrb8 pr8 ⊢
        have ok2 := setB_ok (z := z) okb fr7.1
        have rP : rb ≠ PL := fun y => by
          obtain ⟨ps, e, _⟩ := l0
          rw [y, e] at nrb
          cases nrb
        have GF : Go d PL T qLam H0' (upd H8 rb (.dK (putK kvs (Sum.inr z) v))) := GE.own nrb dr_ rP (t0.none nrb) fun c e => by
          rw [hrb8] at e
          have w := Option.some.inj e
          unfold LamX.CodeO at w
          cases w
        have pr9 : PrB K (upd H8 rb (.dK (putK kvs (Sum.inr z) v))) (putK kvs (Sum.inr z) v) (setB bk z m) := paired_mono (fun _ _ r => ⟨r.1, r.2.kt (KT.dK hrb8)⟩) pr8
        have hrb9 : upd H8 rb (.dK (putK kvs (Sum.inr z) v)) rb = some (.dK (putK kvs (Sum.inr z) v)) := upd_same
        have hnl9 : upd H8 rb (.dK (putK kvs (Sum.inr z) v)) nl = some (.lst (bk.keys.map V.str)) := by rw [upd_ne (Ne.symm nrl)]; exact hnl8
        rw [← setB_keys bk z m] at hnl9
        generalize putK kvs (Sum.inr z) v = kv2 at GF pr9 hrb9 hnl9 ⊢
        generalize setB bk z m = b2 at ok2 pr9 hnl9
        generalize upd H8 rb (.dK kv2) = H9 at GF pr9 hrb9 hnl9 ⊢
        refine ⟨_, rfl, rb, kv2, rfl, .inl hrb9, fun kp nkp => ?_⟩
        have g10 := Gr.new GF.tabs (.dK kv2) nkp
        have hkp : upd H9 kp (.dK kv2) kp = some (.dK kv2) := upd_same
        generalize upd H9 kp (.dK kv2) = H10 at g10 hkp ⊢
        have hD9 : IsD0 K H9 rb b2 := ⟨kv2, hrb9, pr9⟩
        refine ⟨_, rfl, rb, b2, rfl, hD9.gr g10 GF.tabs, ok2, g10.tabs, fun H11 fl g11 nfl hfl => ?_⟩
        have gA := g10.trans g11
        refine ⟨_, rfl, rb, b2, rfl, hD9.gr gA GF.tabs, ok2, gA.tabs, fun H12 wl ysw g12 nwl pmw srtw hwl => ?_⟩
        have gB := gA.trans g12
        refine ⟨_, _, _, rfl, ?_⟩
        have c8 : C8 T ⟨a, d, PL, rb, nl, kp, fl, wl, kv2, b2, ysw.filter (badB b2)⟩ := ⟨ok2, ⟨ysw, pmw, srtw, rfl⟩, Ne.symm dP, nP⟩
        have s8 : S8 K T H0' ⟨a, d, PL, rb, nl, kp, fl, wl, kv2, b2, ysw.filter (badB b2)⟩ H12 := ⟨GF.gr nP gB, gB.at GF.tabs hrb9 notbl_dK, gB.at GF.tabs hnl9 notbl_lst, (g11.trans g12).at g10.tabs hkp notbl_dK, g12.at gA.tabs hfl notbl_dK, hwl, paired_mono (fun _ _ r => ⟨r.1, r.2.gr gB GF.tabs⟩) pr9⟩
        refine ⟨H0', _, _, _, rfl, c8, s8, rfl, fun y6 y8 H13 s9 => ?_⟩
        refine ⟨H0', _, _, _, rfl, c8, s9, rfl, fun y6 y8 H14 s10 => ?_⟩
        refine ⟨H0', _, _, _, rfl, c8, s10, rfl, fun y6 y8 H15 s11 => ?_⟩
        refine ⟨H0', _, _, _, rfl, c8, s11, rfl, fun y6 y8 H16 s12 => ?_⟩
        refine ⟨H0', _, _, _, rfl, c8, s12, rfl, fun y6 y8 H17 s13 => ?_⟩
        refine ⟨H0', _, _, _, rfl, c8, s13, rfl, fun y6 y8 H18 s14 => ?_⟩
        refine ⟨H0', _, _, _, rfl, c8, s14, rfl, fun y6 y8 H19 s15 => ?_⟩
        refine ⟨H0', _, _, _, rfl, c8, s15, rfl, fun y6 y8 H20 s16 => ?_⟩
        refine ⟨H0', _, _, _, rfl, c8, s16, rfl, fun y6 y8 H21 s17 => ?_⟩
        refine ⟨H0', _, _, _, rfl, c8, s17, rfl, fun y6 y8 H22 s18 => ?_⟩
        exact back ⟨_, _, _, _, _, _, _, _, rfl⟩ s18.go
end
end Lw
/-! from the head's facts to promises by name -/
namespace Lw
open PySem PySem.Spec PyProof.Rows L2 Hx
section
variable {K : PySem.W.Frag} {h : Heap} {mg : Str → Option Value} {fa : List He.Fa} {fn : List He.DefD} {x : Str} {st : Stmt} {ps : List Str}
theorem plain_of {f : Addr} {fd : FuncData} (F : FunD K x x (defArgs st) (defBody st) (defScope st) [] [] f fd) : Fun K x x st f fd := by
  obtain ⟨oc, od, dV, kV, doc, pm, an, cdv, ct, osl, e, lk, hc, hd, _⟩ := F.ex
  rcases hd with ⟨_, rfl⟩ | ⟨z, _⟩
  · exact ⟨⟨oc, od, kV, doc, pm, an, cdv, ct, osl, e, lk, hc⟩, F.kp⟩
  · exact absurd rfl z
theorem has_of (c : He.SaysD fa fn K) (X : K.In h) (G : h.Ns mainGlobals mg) (hd : dd x st ∈ fn) (hg : He.Fa.glo x ∈ fa)
    (hb : ∀ {f fd}, FunD K x x (defArgs st) (defBody st) (defScope st) [] [] f fd → Binds K fd ps []) : Has K mg x st ps := by
  obtain ⟨fd, F⟩ := c.defs hd
  exact ⟨_, fd, plain_of F, He.glo_ok X G (c.facts hg), hb F⟩
theorem hasT_of {base : Heap} {T : List Addr} (c : He.SaysD fa fn K) (X : K.In h) (G : h.Ns mainGlobals mg) (hd : dd x st ∈ fn) (hg : He.Fa.glo x ∈ fa)
    (hb : ∀ {f fd}, FunD K x x (defArgs st) (defBody st) (defScope st) [] [] f fd → Binds K fd ps []) (tb : LamX.TabB base mg (He.cT K (x, none)).1 (He.cT K (x, none)).2) (hT : (He.cT K (x, none)).2 ∈ T) : HasT K mg base T x st ps := by
  obtain ⟨fd, F⟩ := c.defs hd
  obtain ⟨oc, od, dV, kV, doc, pm, an, cdv, ct, osl, e, lk, hc, hdf, _⟩ := F.ex
  have e1 : dV = .none := by
    rcases hdf with ⟨_, z⟩ | ⟨z, _⟩
    · exact z
    · exact absurd rfl z
  obtain ⟨cc, rfl⟩ := He.codeIn_ref hc
  have e2 : (He.cT K (x, none)).1 = cc := He.codeOf_eq lk (by rw [e])
  refine ⟨He.fAd K (x, none), cc, (He.cT K (x, none)).2, fd, ⟨⟨oc, od, kV, doc, pm, an, ct, osl, by rw [e, e1]; rfl, lk, hc⟩, F.kp⟩, He.glo_ok X G (c.facts hg), hb F, ?_, hT⟩
  rw [← e2]
  exact ⟨tb.code, tb.bm, tb.gP⟩
end
end Lw
/-! BadBook made; all that the law calls -/
namespace Lw
open PySem PySem.Spec PyProof.Rows L2 Hx Xs
theorem scIni : NdefX.NScope ["self", "wrong", "__class__"] ["self", "wrong"] ["__class__"] (defScope sIni) := ⟨rfl, rfl, rfl, by decide +kernel, rfl, by decide +kernel, by decide +kernel, by decide +kernel, by decide +kernel⟩
section
variable {P : Program} {w : World} {K : PySem.W.Frag} {mg : Str → Option Value} {base : Heap} {T : List Addr}
theorem makes_bad (c : badBk (P.main.file : Str) K = true) (e : iniObs K = iniVal) (E : Errs K mg) (ms : mg "super" = none) (top : (P.main.scope.names.lookup ("super" : Str)).isSome = false) : Makes P w K mg base "BadBook" "wrong" (ea K 0) := by
  obtain ⟨c1, c⟩ := He.ba c
  obtain ⟨c2, c⟩ := He.ba c
  obtain ⟨c3, c⟩ := He.ba c
  obtain ⟨c4, c⟩ := He.ba c
  obtain ⟨c5, c⟩ := He.ba c
  obtain ⟨c6, c⟩ := He.ba c
  obtain ⟨c7, c8⟩ := He.ba c
  obtain ⟨cc, cd, oc, od, osl, doc, pm, ctv, lk, hcode, hfile, hcell⟩ := ini_of e c2
  have oex : OexC K (ea K 0) := oex_of c1
  have D : IniC P K mg (ea K 0) cc (nfIni cc cd) := ⟨oex, rfl, hcode, file_of hfile, hcell, of_decide_eq_true c5, He.eqO_ok c6, of_decide_eq_true c7, He.eqO_ok c8, ms, top⟩
  refine ⟨oex, E.g 0 (by decide), fIni K, _, "wrong", He.eqO_ok c3, of_decide_eq_true c4, ok_ini (x := "wrong") D lk scIni rfl rfl rfl rfl (E.nof 0 (by decide)) (by decide +kernel) (by decide) (by decide), fun s us X hl => ?_⟩
  match us, hl with
  | [a, b], _ => exact BindsTo.of_eq rfl
end
end Lw
/-! what the head tells, by names; the law's callees -/
namespace Lw
open PySem PySem.Spec PyProof.Rows L2 Hx Xs
/-- what the row's head tells, by names -/
structure E02 (w : World) (K : PySem.W.Frag) (mg : Str → Option Value) (base : Heap) (T : List Addr) : Prop where
  B : Bn mg
  inner : ∃ dI, InnerT K w mg dI
  ml : ∃ tk, mg "MOST_LETTERS" = some (.int 8 tk)
  md : ∃ tk, mg "MOST_DEEP" = some (.int 6 tk)
  mp : ∃ tk, mg "MOST_PARTS" = some (.int 40 tk)
  mw : ∃ tk, mg "MOST_WORDS" = some (.int 8 tk)
  def_ : ∀ (i : Nat) {x : Str} {st : Stmt} {ps : List Str}, fn02[i]? = some (dd x st) → fa02[i]? = some (.glo x) → (∀ {f fd}, FunD K x x (defArgs st) (defBody st) (defScope st) [] [] f fd → Binds K fd ps []) → Has K mg x st ps
  defT : ∀ (i j : Nat) {x : Str} {st : Stmt} {ps : List Str}, fn02[i]? = some (dd x st) → fa02[i]? = some (.glo x) → tfA[j]? = some (x, none) → (∀ {f fd}, FunD K x x (defArgs st) (defBody st) (defScope st) [] [] f fd → Binds K fd ps []) → HasT K mg base T x st ps
/-- the tables of code objects -/
def csA (K : PySem.W.Frag) : List (Addr × Addr) := tfA.map (He.cT K)
def cs02 (K : PySem.W.Frag) : List (Addr × Addr) := tf02.map (He.cT K)
abbrev TA (K : PySem.W.Frag) : List Addr := (csA K).map (·.2)
theorem inner_of {w : World} {K : PySem.W.Frag} {h : Heap} {mg : Str → Option Value} (X : K.In h) (G : h.Ns mainGlobals mg) (c : SaysN fa02 fn02 ts02 tf02 ex02 w h K) : InnerT K w mg (He.ga K "INNER") := by
  have v : ∀ {z : Str} {i : Int}, ((z, He.Dv.int i) : Str × He.Dv) ∈ ([("none", .int 0), ("unit", .int 0), ("sum", .int 2), ("pair", .int 2), ("row", .int 1), ("bag", .int 1), ("set", .int 1)] : List (Str × He.Dv)) → ∃ u, PySem.W.nsIn K (He.ga K "INNER") z = some (some u) ∧ RelV (.int i) u := fun hz => He.valsB_ok (He.ba (He.ba c.x.more).1).1 hz
  refine ⟨He.glo_ok X G (c.x.t.d.fact 57 rfl), c.x.t.tab 0, fun k => ?_, fun k => ?_, fun k => ?_⟩
  · cases k <;> exact v (by simp [K0.tag])
  · cases k <;> exact v (by simp [K1.tag])
  · cases k <;> exact v (by simp [K2.tag])
theorem e02_of {w : World} {K : PySem.W.Frag} {h base : Heap} {mg : Str → Option Value} (X : K.In h) (G : h.Ns mainGlobals mg) (c : SaysN fa02 fn02 ts02 tf02 ex02 w h K) (tb : ∀ p ∈ cs02 K, LamX.TabB base mg p.1 p.2) : E02 w K mg base (TA K) where
  B := ⟨He.free_ok X G (c.x.t.d.fact 40 rfl), He.free_ok X G (c.x.t.d.fact 41 rfl), He.free_ok X G (c.x.t.d.fact 42 rfl), He.free_ok X G (c.x.t.d.fact 43 rfl), He.free_ok X G (c.x.t.d.fact 44 rfl), He.free_ok X G (c.x.t.d.fact 45 rfl), He.free_ok X G (c.x.t.d.fact 46 rfl), He.free_ok X G (c.x.t.d.fact 47 rfl), He.free_ok X G (c.x.t.d.fact 48 rfl), He.free_ok X G (c.x.t.d.fact 49 rfl), He.free_ok X G (c.x.t.d.fact 50 rfl), He.free_ok X G (c.x.t.d.fact 51 rfl), He.free_ok X G (c.x.t.d.fact 52 rfl), He.free_ok X G (c.x.t.d.fact 53 rfl), He.free_ok X G (c.x.t.d.fact 54 rfl), He.free_ok X G (c.x.t.d.fact 55 rfl), He.free_ok X G (c.x.t.d.fact 56 rfl)⟩
  inner := ⟨_, inner_of X G c⟩
  ml := He.int_ok X G (c.x.t.d.fact 58 rfl)
  md := He.int_ok X G (c.x.t.d.fact 59 rfl)
  mp := He.int_ok X G (c.x.t.d.fact 60 rfl)
  mw := He.int_ok X G (c.x.t.d.fact 61 rfl)
  def_ := fun i {x st ps} hd hg hb => has_of c.x.t.d X G (List.mem_of_getElem? hd) (List.mem_of_getElem? hg) hb
  defT := fun i j {x st ps} hd hg ht hb => hasT_of c.x.t.d X G (List.mem_of_getElem? hd) (List.mem_of_getElem? hg) hb (tb _ (List.mem_map.mpr ⟨_, List.mem_cons_of_mem _ (List.mem_of_getElem? ht), rfl⟩)) (List.mem_map.mpr ⟨_, List.mem_map.mpr ⟨_, List.mem_of_getElem? ht, rfl⟩, rfl⟩)
theorem bnd {K : PySem.W.Frag} {x : Str} {st : Stmt} {ps : List Str} (h : ∀ (kV doc pm : Value) (an : Option Addr) (cdv ct : Value) (us : List Value), us.length = ps.length → bindArgs (PySem.W.fnOf x x (defArgs st) (defBody st) (defScope st) .none kV doc pm an cdv ct) { pos := us } = pure (ps.zip us)) :
    ∀ {f fd}, FunD K x x (defArgs st) (defBody st) (defScope st) [] [] f fd → Binds K fd ps [] := fun F s us X hl => by
  rw [List.append_nil] at hl ⊢
  exact FunD.bindsA F h s us hl
theorem calls_of {P : Program} {w : World} {K : PySem.W.Frag} {mg : Str → Option Value} {base : Heap} {T : List Addr} (Z : E02 w K mg base T) (E : Errs K mg) (ve : mg "ValueError" = none) (M : Makes P w K mg base "BadBook" "wrong" (ea K 0)) : Calls P w K mg base T (ea K 0) := by
  have B := Z.B
  obtain ⟨dI, I⟩ := Z.inner
  have letter := pr_letter (P := P) (w := w) (base := base) (Z.def_ 0 rfl rfl (bnd fun _ _ _ _ _ _ us hl => match us, hl with | [_], _ => rfl)) B
  have word := pr_word (P := P) (w := w) (Z.defT 1 0 rfl rfl rfl (bnd fun _ _ _ _ _ _ us hl => match us, hl with | [_], _ => rfl)) (Z.def_ 0 rfl rfl (bnd fun _ _ _ _ _ _ us hl => match us, hl with | [_], _ => rfl)) B Z.ml
  have formed := pr_formed (Z.defT 2 1 rfl rfl rfl (bnd fun _ _ _ _ _ _ us hl => match us, hl with | [_, _], _ => rfl)) letter word I B Z.md
  have inner := pr_inner (P := P) (w := w) (base := base) (T := T) (Z.def_ 3 rfl rfl (bnd fun _ _ _ _ _ _ us hl => match us, hl with | [_], _ => rfl)) B
  have parts := pr_parts (Z.def_ 4 rfl rfl (bnd fun _ _ _ _ _ _ us hl => match us, hl with | [_], _ => rfl)) inner
  have making := pr_ismaking (Z.def_ 6 rfl rfl (bnd fun _ _ _ _ _ _ us hl => match us, hl with | [_], _ => rfl)) formed parts B Z.mp
  have needm := pr_needmaking (Z.def_ 7 rfl rfl (bnd fun _ _ _ _ _ _ us hl => match us, hl with | [_], _ => rfl)) making
  have words := pr_words (Z.def_ 5 rfl rfl (bnd fun _ _ _ _ _ _ us hl => match us, hl with | [_], _ => rfl)) parts B
  have lacking := pr_lacking (Z.def_ 9 rfl rfl (bnd fun _ _ _ _ _ _ us hl => match us, hl with | [_, _], _ => rfl)) words
  have needr := pr_needrules (Z.def_ 11 rfl rfl (bnd fun _ _ _ _ _ _ us hl => match us, hl with | [_, _], _ => rfl)) lacking
  have isbook := pr_isbook (Z.defT 8 2 rfl rfl rfl (bnd fun _ _ _ _ _ _ us hl => match us, hl with | [_], _ => rfl)) word making lacking B Z.mw
  have needb := pr_needbook (Z.def_ 10 rfl rfl (bnd fun _ _ _ _ _ _ us hl => match us, hl with | [_], _ => rfl)) isbook
  have bare := pr_bare (P := P) (w := w) (base := base) (T := T) (Z.def_ 12 rfl rfl (bnd fun _ _ _ _ _ _ us hl => match us, hl with | [_, _], _ => rfl))
  have stand := pr_stand (Z.def_ 14 rfl rfl (bnd fun _ _ _ _ _ _ us hl => match us, hl with | [_, _], _ => rfl)) bare
  have holds := pr_holds (Z.defT 15 3 rfl rfl rfl (bnd fun _ _ _ _ _ _ us hl => match us, hl with | [_, _], _ => rfl)) parts bare B
  have bwords := pr_barewords (Z.def_ 13 rfl rfl (bnd fun _ _ _ _ _ _ us hl => match us, hl with | [_], _ => rfl)) bare
  have ring := pr_ring (P := P) (w := w) (base := base) (T := T) (Z.def_ 16 rfl rfl (bnd fun _ _ _ _ _ _ us hl => match us, hl with | [_, _], _ => rfl)) B
  have uwords := pr_unfairwords (Z.def_ 17 rfl rfl (bnd fun _ _ _ _ _ _ us hl => match us, hl with | [_], _ => rfl)) bwords stand holds ring B
  have unfair := pr_unfair (Z.def_ 20 rfl rfl (bnd fun _ _ _ _ _ _ us hl => match us, hl with | [_], _ => rfl)) needb uwords
  have may := pr_may (Z.def_ 18 rfl rfl (bnd fun _ _ _ _ _ _ us hl => match us, hl with | [_, _], _ => rfl)) needb needm needr bare bwords
  have names := pr_barenames (Z.def_ 19 rfl rfl (bnd fun _ _ _ _ _ _ us hl => match us, hl with | [_, _], _ => rfl)) needb needm needr stand bwords B
  have needf := pr_needfair (Z.def_ 21 rfl rfl (bnd fun _ _ _ _ _ _ us hl => match us, hl with | [_], _ => rfl)) unfair M
  have needo := pr_needof (Z.def_ 22 rfl rfl (bnd fun _ _ _ _ _ _ us hl => match us, hl with | [_, _], _ => rfl)) needf
  have counts := pr_countsBad (Z.def_ 23 rfl rfl (bnd fun _ _ _ _ _ _ us hl => match us, hl with | [_, _, _], _ => rfl)) needo
  have count := pr_countBad (Z.def_ 24 rfl rfl (bnd fun _ _ _ _ _ _ us hl => match us, hl with | [_, _, _], _ => rfl)) counts
  have roll := pr_roll (P := P) (w := w) (base := base) (Z.def_ 27 rfl rfl (bnd fun _ _ _ _ _ _ us hl => match us, hl with | [_, _], _ => rfl)) (Z.def_ 26 rfl rfl (bnd fun _ _ _ _ _ _ us hl => match us, hl with | [_, _], _ => rfl))
  have rounds := pr_rounds (P := P) (w := w) (base := base) (T := T) (Z.def_ 28 rfl rfl (bnd fun _ _ _ _ _ _ us hl => match us, hl with | [_, _], _ => rfl)) (Z.def_ 25 rfl rfl (bnd fun _ _ _ _ _ _ us hl => match us, hl with | [_, _], _ => rfl)) B
  have can := pr_can (P := P) (w := w) (base := base) (T := T) (Z.def_ 31 rfl rfl (bnd fun _ _ _ _ _ _ us hl => match us, hl with | [_, _, _], _ => rfl))
  have flags := pr_flags (Z.def_ 32 rfl rfl (bnd fun _ _ _ _ _ _ us hl => match us, hl with | [_], _ => rfl)) can B
  have ones := pr_ones (Z.def_ 36 rfl rfl (bnd fun _ _ _ _ _ _ us hl => match us, hl with | [_, _, _], _ => rfl)) can
  have loose := pr_loose (Z.def_ 37 rfl rfl (bnd fun _ _ _ _ _ _ us hl => match us, hl with | [_, _, _], _ => rfl)) can
  have wrong := pr_wrong (Z.def_ 38 rfl rfl (bnd fun _ _ _ _ _ _ us hl => match us, hl with | [_], _ => rfl)) flags ones loose B
  have draw := pr_draw (T := T) (Z.def_ 33 rfl rfl (bnd fun _ _ _ _ _ _ us hl => match us, hl with | [_, _, _, _], _ => rfl)) (Z.def_ 34 rfl rfl (bnd fun _ _ _ _ _ _ us hl => match us, hl with | [_, _, _, _], _ => rfl)) roll B
  have bookof := pr_bookof (Z.def_ 35 rfl rfl (bnd fun _ _ _ _ _ _ us hl => match us, hl with | [_, _], _ => rfl)) roll draw.1 draw.2 B
  exact ⟨B, E, rfl, ve, rounds, bookof, unfair, needf, isbook, roll, draw.2, flags, wrong, may, names, can, ones, count, (Z.def_ 29 rfl rfl (bnd fun _ _ _ _ _ _ us hl => match us, hl with | [_], _ => rfl)), (Z.def_ 30 rfl rfl (bnd fun _ _ _ _ _ _ us hl => match us, hl with | [_], _ => rfl))⟩
end Lw
namespace Lw
open PySem PySem.Spec PyProof.Rows L2 Hx Xs
theorem room31 : Room 31 callerA := ⟨by decide, by decide, by decide⟩
theorem law_holds : PySem.Challenge.rw_countworks_k02_whole_fair_books.Holds := by
  w_on; o_law
  refine HandSHeadRun.head_any (r := PySem.W.OpenLaw.row PySem.Challenge.rw_countworks_k02_whole_fair_books) (q := PySem.W.view R02.prog [81]) (H := hk02) (ob := ob02) (M := 8000) (loose := names02) (d := HandSHeadRun.topDef R02.prog 81) (kwd := []) ob02_eq
    (by kernel_rfl) (fun s => by kernel_rfl) run02 (by kernel_rfl) (by kernel_rfl) (by kernel_rfl) (by rfl) (by first | assumption | decide +kernel) (by decide +kernel) ⟨rfl, rfl, rfl, rfl, rfl, by decide +kernel⟩ ?hw ?hc
  case hw => w_witness2
  case hc =>
    refine LamX.walk_ofTsE (l := PySem.Challenge.rw_countworks_k02_whole_fair_books) (n := 63) (k := 31) (x := "_law_script") (CX := fun _ => L2.CX0) rfl (by decide) (by kernel_rfl) room31 ?F (fun _ _ _ _ _ z => z)
    intro w mg fa h Y G hmg0
    obtain ⟨K, KX, c⟩ := Y
    have hmg : mg ("law" : PySem.Str) = some (.ref fa) := by
      have e : (HandSHeadRun.topDef R02.prog 81).name = ("law" : PySem.Str) := by kernel_rfl
      rw [← e]
      exact hmg0
    refine ⟨K, KX, ?_⟩
    obtain ⟨fd, F⟩ := c.x.t.d.def_ 39 (d := dd "law" (topS 81)) rfl
    have e := hmg.symm.trans (He.glo_ok KX G (c.x.t.d.fact 39 (f := .glo "law") rfl))
    cases e
    have b := FunD.bindsA (ps := ["_law_script"]) F fun _ _ _ _ _ _ us hl => match us, hl with | [_], _ => rfl
    refine ⟨fd, cs02 K, spLaw K (TA K) (He.cT K ("law", none)).2, fun p hp => ?_, fun p hp => ?_, fun p hp => ?_, fun s v => b s [v] rfl, fun H a ns hl _ hT hS => ⟨a, ns, rfl, hS, hl, fun p hp => ?_, hT _ (List.mem_map.mpr ⟨_, List.mem_cons_self, rfl⟩), fun _ => rfl⟩, fun base hb hn tb => ?_⟩
    · obtain ⟨q, hq, rfl⟩ := List.mem_map.mp hp
      exact c.x.empty q hq
    · obtain ⟨q, hq, rfl⟩ := List.mem_map.mp hp
      exact c.x.out q hq
    · obtain ⟨q, hq, rfl⟩ := List.mem_map.mp hp
      exact PySem.W.codeHd_of_K KX (c.x.hd q hq)
    · obtain ⟨q, hq, rfl⟩ := List.mem_map.mp hp
      obtain ⟨q2, hq2, rfl⟩ := List.mem_map.mp hq
      exact ⟨#[], hT _ (List.mem_map.mpr ⟨q2, List.mem_cons_of_mem _ hq2, rfl⟩), True.intro⟩
    · obtain ⟨oc, od, dV, kV, doc, pm, an, cdv, ct, osl, e, lk, hc, hdf, _⟩ := F.ex
      have e1 : dV = .none := by
        rcases hdf with ⟨_, z⟩ | ⟨z, _⟩
        · exact z
        · exact absurd rfl z
      obtain ⟨cc, rfl⟩ := He.codeIn_ref hc
      have e2 : (He.cT K ("law", none)).1 = cc := He.codeOf_eq lk (by rw [e])
      have tl := tb _ (List.mem_map.mpr ⟨("law", none), List.mem_cons_self, rfl⟩)
      rw [e2] at tl
      have more := He.ba c.x.more
      have er := errs_of KX G (He.ba more.2).1
      have mk : Makes PySem.Challenge.rw_countworks_k02_whole_fair_books.prog w K mg base "BadBook" "wrong" (ea K 0) := makes_bad (He.ba more.2).2 c.ini er (He.free_ok KX G (c.x.t.d.fact 65 rfl)) (by decide +kernel)
      have Z := calls_of (e02_of KX G c tb) er (He.free_ok KX G (c.x.t.d.fact 64 rfl)) mk
      exact ok_law Z ⟨⟨oc, od, kV, doc, pm, an, ct, osl, by rw [e, e1]; rfl, lk, hc⟩, F.kp⟩ tl (of_decide_eq_true (He.ba more.1).2)
end Lw
theorem PySem.Challenge.cw_countworks_k02_whole_fair_books_holds : PySem.Challenge.rw_countworks_k02_whole_fair_books.Holds := by
  exact Lw.law_holds
