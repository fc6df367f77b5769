import PyProof.Rows.All
import Wide.All
import OpenK.AllK
import Wide.FinOn
import HandS.ForMost
import HandS.AnyAll
import HandS.GenList
import KE.DataEq
import HandS.Wide
import HandS.DictComp
import HandS.IsInst
import HandS.Flow
import HandS.Style
import HandS.ExcCtx
import HandS.Lambda
import HandS.Walk
import HandS.TupAny
import HandS.Rev
import HandS.Defaults
import HandS.Zip
import KE.GoesEnum
import HandS.TupMul
import HandS.Flt
import HandS.HeadEnd
import HandS.HeadHook4
import HandS.HeadWalk
import HandS.Head2
import HandS.MakeKwOnly
import HandS.Conv
import HandS.ExcInit
import HandS.Nested
import HandS.FStr
import KE.KExcSuper
import HandS.FStrTup
import PyProof.ReprLen
import HandS.ExcIs
import HandS.HotCalls
import KE.KExcIs
import HandS.Comp
import HandS.ExcField
import HandS.HeadHook1
import PyProof.ExcBaseAll.ValueError
import HandS.Text
import HandS.Dict
import HandS.Iter
import HandS.More
import HandS.StrMore
import HandS.Replace
import KE.KDictWalk
import PyProof.SumAny
import HandS.Small
import HandS.SetTxt0
import HandS.SetBool
import HandS.Set
import HandS.SetFor
import HandS.List
import HandS.Strs
import KE.DatumOrd
import HandS.SortKw
import HandS.SortInts
import KE.KTupSum
import HandS.HeadHook3
import HandS.RevRange
import KE.KDictList
import HandS.DictEq
import KE.KDictPairs
import HandS.ExcInitHot
import PySem.Challenge.RW_countworks_k26_whole_falls
set_option Elab.async false
set_option linter.all false
set_option maxRecDepth 100000
set_option maxHeartbeats 0
/-! all, any of a generator expression over anything that PI serves, its element any expression of the layer (calls too). The frame's start is read off the library's block_start. -/
namespace Gx
open PySem PySem.Spec L2 GenW PyProof.Rows
/-- the context of a generator expression's own frame -/
abbrev gxC (X : Cx) (B : Around) (s : Shared) (H : Hp) (cenv : Env) (fp : List Addr) : Cx :=
  { X with A := B, s_0 := s, H_0 := H, env := cenv, outer := X.stack, stack := cenv :: X.stack, ex := fp, fn := fun _ => false, calm := true, pn := [], xe := fun _ _ => False }
/-- a generator expression's environment, made at C -/
abbrev gxE (X : Cx) (scope : Scope) (C : Addr) (code : Value) : Env := genEnv scope (cloFrom X.env.cells scope.names []) C code builtinsNs X.env
theorem loop_over {A : Around} {elt : Expr} {gens : List Comprehension} {scope : Scope} {pos : Pos} {it acc : Value} {cenv : Env} : A.over (.compLoop (.GeneratorExp elt gens scope pos) 0 it acc cenv) [] = A.deeper cenv := by
  cases A with
  | mk hd d fr gs u => cases fr <;> cases gs <;> rfl
theorem cells_plain : ∀ (names : List (Str × NameKind)) (n : Nat) (acc : List (Str × Addr)), (∀ y ∈ names, y.2 ≠ .cell) → cellsFrom n names acc = acc
  | [], _, _, _ => rfl
  | (x, k) :: r, n, acc, h => by
    have hk : (k == NameKind.cell) = false := by
      have := h (x, k) (.head _)
      cases k <;> first | rfl | exact absurd rfl this
    unfold cellsFrom
    rw [hk]
    exact cells_plain r n acc fun y hy => h y (.tail _ hy)
section
variable {X : Cx} {pins : List (Addr × Obj)} {σ : L2.St} {H : Hp} {s : Shared} {scope : Scope} {own : List (Str × Nat)}
/-- a captured name is a cell of the def -/
theorem held (I : Inv X pins σ H s) (ok : BlkOk X.N X.env.scope scope own) {y : Str} (h : (y, NameKind.free) ∈ scope.names) : ∃ c, X.env.cells.lookup y = some c :=
  I.ok.has y (ok.free (y, .free) h rfl)
theorem clo_to (I : Inv X pins σ H s) (ok : BlkOk X.N X.env.scope scope own) {y : Str} {c : Addr} (e : (cloFrom X.env.cells scope.names []).lookup y = some c) : X.env.cells.lookup y = some c := by
  cases cloFrom_mem (PySem.mem_of_lookup e) with
  | inl z => cases z
  | inr z =>
    obtain ⟨d, hd⟩ := held I ok z.1
    have q : c = d := by rw [z.2, hd]; rfl
    rw [q]; exact hd
theorem clo_from (I : Inv X pins σ H s) (ok : BlkOk X.N X.env.scope scope own) {y : Str} (h : scope.names.lookup y = some .free) : ∃ c, (cloFrom X.env.cells scope.names []).lookup y = some c ∧ X.env.cells.lookup y = some c :=
  (mem_lookup (cloFrom_has (acc := []) (PySem.mem_of_lookup h))).elim fun c e => ⟨c, e, clo_to I ok e⟩
/-- a slot that the block does not forget is a captured name's -/
theorem only_free (ok : BlkOk X.N X.env.scope scope own) (hN : X.N.Nodup) {i : Nat} {y : Str} {v : V} (e1 : X.N[i]? = some y) (e2 : (wipe σ (own.map (·.2)))[i]? = some (some v)) (e3 : Vis scope y) : scope.names.lookup y = some .free := by
  have mine : ∀ k, scope.names.lookup y = some k → k = .local ∨ k = .cell → False := fun k e hk =>
    (ok.own (y, k) (PySem.mem_of_lookup e) hk).elim
      (fun z => let ⟨p, hp, hy⟩ := List.mem_map.mp z; (wipe_some e2).2 (List.mem_map.mpr ⟨p, hp, nodup_ix hN ((ok.ix p hp).trans (congrArg some hy)) e1⟩))
      (fun z => z (List.mem_of_getElem? e1))
  exact e3.elim (fun e => (mine _ e (.inl rfl)).elim) fun z => z.elim (fun e => (mine _ e (.inr rfl)).elim) id
/-- the frame has been made: behind the generator's making -/
theorem gx_start {fp : List Addr} {code : Value} {A0 : Around} {s5 : Shared} {m : Str → Option Value} (I : Inv X pins σ H s) (ok : BlkOk X.N X.env.scope scope own) (hN : X.N.Nodup)
    (hcell : ∀ y ∈ scope.names, y.2 ≠ .cell) (hfp : ∀ b ∈ fp, FpOk X pins H b ∧ b < s.heap.objs.size) (hfr : A0.frames = some X.stack) (hhd : A0.handled = none)
    (hos : s5.os = s.os) (hbare : AllBare s5.gens) (kp : ∀ b o, s.heap.get? b = some o → s5.heap.get? b = some o) (hns : s5.heap.Ns s.heap.objs.size m) :
    Inv (gxC X (A0.deeper (gxE X scope s.heap.objs.size code)) s H (gxE X scope s.heap.objs.size code) fp) [] (wipe σ (own.map (·.2))) H s5 := by
  have blk := (block_start I ok hN hfp).ok
  rw [cells_plain scope.names _ _ hcell] at blk
  have good : (gxC X (A0.deeper (gxE X scope s.heap.objs.size code)) s H (gxE X scope s.heap.objs.size code) fp).Ok :=
    { mod := blk.mod, kind := ok.kind, glob := I.ok.glob, blt := rfl, above := Nat.le_refl _, inj := blk.inj, cab := (fun _ _ z _ => by cases z), hd := fun _ => hhd, frames := Around.frames_deeper hfr, stk := .inr ⟨rfl, rfl⟩
      has := fun y hy => hy.elim (fun e => absurd rfl (hcell (y, .cell) (PySem.mem_of_lookup e))) fun e => (clo_from I ok e).elim fun c q => ⟨c, q.1⟩
      exf := blk.exf, bs := blk.bs, bsz := blk.bsz, noex := blk.noex, exfs := blk.exfs, funs := blk.funs, frf := blk.frf }
  exact
    { ok := good, os := hos, bare := hbare, base := Un.kept kp, hok := I.hok.kept kp, len := (wipe_length _ _).trans I.len, pin := (fun _ z => by cases z), free := I.hok.fresh (Nat.le_refl _)
      freeC := fun y c e => I.freeC y c (clo_to I ok e)
      cell := fun y c e => (I.cell y c (clo_to I ok e)).elim fun v z => ⟨v, z.keeps kp⟩
      loc := ⟨m, hns, fun i y v e1 e2 e3 => by
        have fr := only_free ok hN e1 e2 e3
        obtain ⟨c, k1, k2⟩ := clo_from I ok fr
        have kind := ok.free (y, .free) (PySem.mem_of_lookup fr) rfl
        obtain ⟨mX, _, look⟩ := I.loc
        obtain ⟨u, rel, at_⟩ := look i y v e1 (wipe_some e2).1 (.inr kind)
        refine ⟨u, rel, .inr ⟨.inr fr, c, k1, ?_⟩⟩
        refine at_.elim (fun z => ?_) (fun ⟨_, d, hd, cd⟩ => by rw [k2] at hd; cases hd; exact cd.keeps kp)
        have z1 : X.env.scope.names.lookup y = some .local := z.1
        exact (kind.elim (fun q => by rw [z1] at q; cases q) (fun q => by rw [z1] at q; cases q) : False).elim⟩ }
/-- the state behind: gens and tokens others, all objects kept -/
theorem Inv.woke {s' : Shared} (I : Inv X pins σ H s) (ho : s'.os = s.os) (hk : ∀ b o, s.heap.get? b = some o → s'.heap.get? b = some o) (hg : AllBare s'.gens) : Inv X pins σ H s' :=
  I.call' (ch := []) ho (Un.kept hk) (I.hok.kept hk) hg fun b z => absurd z (by simp)
end
/-! ### the generator's run: W what holds ahead of a turn, Z of what is handed out, Qe at the end; Pn: what the consumer keeps beside it -/
section
variable {α : Type} {G : Cx} {Pn : α → List (Addr × Obj) → Prop} {W : α → Nat → Nat → Hp → Prop} {Z : α → Nat → Nat → V → Hp → Prop} {Qe : α → Hp → Prop}
def GXP (G : Cx) (Pn : α → List (Addr × Obj) → Prop) (Qe : α → Hp → Prop) : Nat → Shared → Shared → Prop := fun _ _ s₁ => ∃ acc pins ip σ' H, Pn acc pins ∧ Inv G (pins ++ ip) σ' H s₁ ∧ Qe acc H
abbrev GXR (G : Cx) (Pn : α → List (Addr × Obj) → Prop) (Qe : α → Hp → Prop) : GenEnd := fun n s₀ r s₁ => r = .ok .next ∧ GXP G Pn Qe n s₀ s₁
def GXY (G : Cx) (Pn : α → List (Addr × Obj) → Prop) (W : α → Nat → Nat → Hp → Prop) (Z : α → Nat → Nat → V → Hp → Prop) : Protocol := fun _ _ v s kap =>
  ∃ acc i m pins ip σ' H y, Pn acc pins ∧ Inv G (pins ++ ip) σ' H s ∧ RelV y v ∧ Z acc i m y H ∧
    ∀ acc' m' pins' s'', m' < m → W acc' (i + 1) m' H → Pn acc' pins' → Inv G (pins' ++ ip) σ' H s'' → kap (.send .none) s''
/-- what one turn asks -/
def Turns (J : It) (g : TG) (tt : TT) (te : TE) (vs : List Nat) (σw : L2.St) (W : α → Nat → Nat → Hp → Prop) (Z : α → Nat → Nat → V → Hp → Prop) (Qe : α → Hp → Prop) : Prop := ∀ acc i m H, W acc i m H →
  (J.stop i H ∧ Qe acc H) ∨ (J.go i H ∧ ∀ x H', J.yld i H x H' → g x σw H' fun σ2 H2 => wipe σ2 vs = σw ∧ tt σ2 H2 fun b H3 => if b = true then te σ2 H3 fun y H4 => Z acc i m y H4 else ∃ m', m' < m ∧ W acc (i + 1) m' H3)
/-- a step of the frame's code: by the layer's judgement in G, whose exceptions are none -/
theorem seg_in {A0 : Around} {R : GenEnd} {Y : Protocol} {n : Nat} {s₀ s : Shared} {elt : Expr} {gens : List Comprehension} {scope : Scope} {pos : Pos} {it : Value} {β γ : Type} {t : Sem β} {K : β → Sem γ} {K' : γ → Sem PySem.Fin} {H' : Value → Sem PySem.Fin} {gd : Bool → Bool} {lv : List Value → List Value} {Q : β → Shared → Prop}
    (hA : G.A = A0.deeper G.env) (h : wpAny (model G.prog G.w) G.A t Q (fun _ _ => False) s)
    (k : ∀ b s', Q b s' → Seg (model G.prog G.w) A0 R Y n s₀ (.compLoop (.GeneratorExp elt gens scope pos) 0 it .none G.env) ((K b).wrap K' H' gd lv) [] s') :
    Seg (model G.prog G.w) A0 R Y n s₀ (.compLoop (.GeneratorExp elt gens scope pos) 0 it .none G.env) ((t >>= K).wrap K' H' gd lv) [] s :=
  seg_bind_wrap (by rw [loop_over, ← hA]; exact thnF h k)
theorem seg_gx {A0 : Around} {tg elt iter : Expr} {ifs : List Expr} {scope : Scope} {pos : Pos} {J : It} {fp : List Addr} {it : Addr} {tn : Nat → Heap → Prop} {g : TG} {tt : TT} {te : TE} {vs : List Nat} {σw : L2.St}
    (hA : G.A = A0.deeper G.env) (hxe : G.xe = fun _ _ => False) (hcalm : G.calm = true) (hpn : G.pn = []) (hex : G.ex = fp) (hco : G.env.scope.isCoroutine = false)
    (T : Turn G.prog G.w G.K tg J fp it tn) (pg : PG G tg g) (pt : PTs G ifs tt) (pe : PE G elt te) (hPn : ∀ acc pins, Pn acc pins → ∀ p ∈ pins, p.1 ∉ fp) (turn : Turns J g tt te vs σw W Z Qe)
    : ∀ (m n : Nat) (acc : α) (i : Nat) (pins : List (Addr × Obj)) (s₀ s : Shared) (H : Hp), m + 1 ≤ n → W acc i m H → Pn acc pins → Inv G pins σw H s → tn i s.heap → (∀ b ∈ fp, H b = none) →
      Seg (model G.prog G.w) A0 (GXR G Pn Qe) (GXY G Pn W Z) n s₀ (.compLoop (.GeneratorExp elt [⟨tg, iter, ifs, 0⟩] scope pos) 0 (.ref it) .none G.env)
        ((model G.prog G.w).den (.compLoop (.GeneratorExp elt [⟨tg, iter, ifs, 0⟩] scope pos) 0 (.ref it) .none G.env)) [] s := by
  intro m
  refine Nat.strongRecOn m fun m ih n acc i pins s₀ s H hn w hP I st nfp => ?_
  have may : ∀ {σ' H' s'}, Inv G pins σ' H' s' → (∀ b ∈ fp, H' b = none) → ∀ b ∈ fp, FpOk G pins H' b := fun J' hz b hb =>
    have hb' : b ∈ G.ex := hex ▸ hb
    ⟨hz b hb, (J'.ok.exf b hb').1, J'.ok.exfs b hb', .inl hb', (J'.ok.exf b hb').2, fun p hq z => hPn acc pins hP p (by rw [hpn] at hq; exact hq) (z ▸ hb)⟩
  show Seg _ A0 _ _ _ s₀ _ ((compTurn (.GeneratorExp elt [⟨tg, iter, ifs, 0⟩] scope pos) 0 (.ref it) .none G.env).onRaise (leaving G.env)) [] s
  rw [Sem.onRaise_eq_wrap, compTurn_gen]
  refine seg_in hA (Q := fun _ s' => s' = s) (wpAny_standAt rfl) fun _ _ e => ?_
  subst e
  rcases turn acc i m H w with ⟨stop, qq⟩ | ⟨go, step⟩
  · refine seg_in hA (T.done G rfl rfl rfl hcalm i pins _ _ H (fun _ _ => False) I (may I nfp) st stop) fun r s1 h1 => ?_
    cases h1.1
    exact seg_end (.ok .next) ⟨rfl, acc, pins, [], _, H, hP, (List.append_nil pins).symm ▸ h1.2, qq⟩
  · refine seg_in hA (T.item G rfl rfl rfl hcalm i pins _ _ H (fun _ _ => False) I (may I nfp) st go) fun r s1 h1 => ?_
    obtain ⟨u, er, h1⟩ := h1
    cases er
    refine seg_in hA h1 fun _ s2 ⟨x, H2, I2, r2, y2, st2, n2⟩ => ?_
    have given := pg.run _ s2 _ H2 x u _ (I2.pinned (may I2 n2) (T.obj _ _ st2)) r2 (step x H2 y2)
    refine seg_in hA (hxe ▸ given) fun _ s3 ⟨σ3, H3, I3, w3, q3⟩ => ?_
    have asked := pt.run _ s3 σ3 H3 _ I3 q3
    refine seg_in hA (hxe ▸ asked) fun b s4 ⟨H4, I4, q4⟩ => ?_
    -- from the turn's end to the next turn's start
    have on : ∀ {pins' acc' s' H'}, Pn acc' pins' → Inv G (pins' ++ pinsAt fp s2.heap) σ3 H' s' → Inv G pins' σw H' s' ∧ tn (i + 1) s'.heap ∧ ∀ b ∈ fp, H' b = none := fun {pins' acc' s' H'} _ I' => by
      have still : ∀ b ∈ fp, ∀ o, s2.heap.get? b = some o → s'.heap.get? b = some o ∧ H' b = none := fun b hb o e =>
        (I'.pin (b, o) (List.mem_append_right G.pn (List.mem_append_right pins' (mem_pinsAt hb e)))).imp id And.left
      refine ⟨(I'.unpinned (pins := pins')).weak (by rw [← w3, wipe_length]) fun j v e => (wipe_some (w3.symm ▸ e : (wipe σ3 vs)[j]? = _)).1, T.keep _ _ _ st2 fun b hb o e => (still b hb o e).1, fun b hb => ?_⟩
      exact (T.obj _ _ st2 b hb).elim fun o e => (still b hb o e.1).2
    cases b with
    | false =>
      obtain ⟨m', hm, w'⟩ := (if_neg Bool.false_ne_true).mp q4
      obtain ⟨a1, a2, a3⟩ := on hP I4
      exact seg_again rfl (ih m' hm n acc (i + 1) pins s₀ s4 H4 (by omega) w' hP a1 a2 a3)
    | true =>
      have q5 := (if_pos rfl).mp q4
      obtain ⟨k, rfl⟩ : ∃ k, n = k + 1 := ⟨n - 1, by omega⟩
      have out : ∀ v, yieldOut G.env v = yieldValue v := fun v => by unfold yieldOut; rw [hco]; rfl
      have told := pe.run _ s4 σ3 H4 _ I4 q5
      simp only [if_true, out]
      rw [Sem.bind_eq_wrap', Sem.wrap_wrap, Sem.bind_eq_wrap', Sem.wrap_wrap]
      refine seg_wrap ?_
      rw [loop_over, ← hA]
      refine thnF (hxe ▸ told) fun z s5 ⟨yv, H5, I5, r5, hZ⟩ => ?_
      refine seg_at (seg_yield rfl rfl rfl ⟨acc, i, m, pins, _, σ3, H5, yv, hP, I5, r5, hZ, fun acc' m' pins' s'' hm hw hP' I'' => ?_⟩)
      obtain ⟨a1, a2, a3⟩ := on hP' I''
      exact seg_again rfl (ih m' hm k acc' (i + 1) pins' s'' s'' H5 (by omega) hw hP' a1 a2 a3)
end
end Gx
namespace Gx
open PySem PySem.Spec L2 GenW PyProof.Rows
/-! ### all, any: both draw truths until one is `stop` -/
/-- behind the drawing, in the generator's context -/
def After (G : Cx) (Q : Hp → Prop) (s' : Shared) : Prop := ∃ pl σ' H s1, Inv G pl σ' H s1 ∧ s'.os = s1.os ∧ AllBare s'.gens ∧ (∀ b o, s1.heap.get? b = some o → s'.heap.get? b = some o) ∧ Q H
abbrev alone (a : Addr) (go : Obj) : Unit → List (Addr × Obj) → Prop := fun _ p => p = [(a, go)]
/-- of a truth that is handed out: the end, or a further turn -/
def zAA (W : Unit → Nat → Nat → Hp → Prop) (Qf : Hp → Prop) (stop : Bool) : Unit → Nat → Nat → V → Hp → Prop := fun _ i m y H => ∃ b : Bool, y = .bl b ∧ if b = stop then Qf H else ∃ m', m' < m ∧ W () (i + 1) m' H
section
variable {G : Cx} {A : Around} {a : Addr} {g : Nat} {go : Obj} {W : Unit → Nat → Nat → Hp → Prop} {Qe Qf : Hp → Prop} {stop : Bool}
/-- the generator may be woken n times from s -/
def Ready (G : Cx) (A : Around) (a : Addr) (g : Nat) (go : Obj) (W : Unit → Nat → Nat → Hp → Prop) (Qe Qf : Hp → Prop) (stop : Bool) (n : Nat) (s : Shared) : Prop :=
  s.heap.IsGen a g ∧ s.heap.NoLimit ∧ ∃ gs, s.gens[g]? = some gs ∧ gs.Goes (model G.prog G.w) A (GXR G (alone a go) fun _ => Qe) (GXY G (alone a go) W (zAA W Qf stop)) n (.send .none) (s.setGen g .running)
/-- one drawing -/
theorem drawn {n : Nat} {s : Shared} {E : Value → Shared → Prop} {Q : Option Value → Shared → Prop} (hgen : ∀ h : Heap, h.get? a = some go → h.IsGen a g) (hh : A.handled = none) (hd : A.depth < recursionLimit) (r : Ready G A.in1 a g go W Qe Qf stop n s)
    (none_ : ∀ s', After G Qe s' → Q none s') (stop_ : ∀ s', After G Qf s' → Q (some (.bool stop)) s') (go_ : ∀ k s', n = k + 1 → Ready G A.in1 a g go W Qe Qf stop k s' → Q (some (.bool (!stop))) s') :
    wpAny (model G.prog G.w) A (pyNext (.ref a)) Q E s := by
  obtain ⟨isg, lim, gs, at_, goes⟩ := r
  have room : g + 1 ≤ s.gens.size := (Array.getElem?_eq_some_iff.mp at_).1
  refine wpAny_gsz room (wpAny_pyNext_genexpQ (P := GXP G (alone a go) fun _ => Qe) hh lim hd isg at_ goes (fun v s1 gs1 bare1 told many => ?_) (fun s1 ended h1 kept _ => ?_))
  · obtain ⟨acc, i, m, pl, ip, σ1, H1, y, own, I1, rel, ⟨b, ey, next⟩, wake⟩ := told
    subst ey
    cases (show v = Value.bool b from rel)
    by_cases e : b = stop
    · subst e
      exact stop_ _ ⟨_, _, H1, s1, I1, rfl, allBare_setGen I1.bare bare1, fun _ _ q => q, (if_pos rfl).mp next⟩
    · obtain ⟨m', less, w'⟩ := (if_neg e).mp next
      have eb : b = !stop := by cases b <;> cases stop <;> first | rfl | exact absurd rfl e
      subst eb
      have still : s1.heap.get? a = some go := (I1.pin (a, go) (List.mem_append_right _ (List.mem_append_left ip (own ▸ .head _)))).1
      cases n with
      | zero => exact (wake () m' pl s1 less w' own I1).elim
      | succ k =>
        refine go_ k _ rfl ⟨hgen _ still, I1.nolimit, gs1, setGen_at ?_, wake () m' pl _ less w' own (Inv.woke I1 rfl (fun _ _ q => q) (allBare_setGen (allBare_setGen I1.bare bare1) rfl))⟩
        exact (setGen_size s1 g gs1) ▸ many
  · obtain ⟨acc, pl, ip, σ1, H1, _, I1, q⟩ := ended
    exact none_ _ ⟨_, _, H1, s1, I1, rfl, allBare_setGen I1.bare rfl, kept, q⟩
variable {RR : Result → Shared → Prop}
theorem all_draws (hgen : ∀ h : Heap, h.get? a = some go → h.IsGen a g) (hh : A.handled = none) (hd : A.depth < recursionLimit) (yes : ∀ s', After G Qe s' → RR (.ok (.ret (.bool true))) s') (no : ∀ s', After G Qf s' → RR (.ok (.ret (.bool false))) s') :
    ∀ (n : Nat) (s : Shared), Ready G A.in1.in1 a g go W Qe Qf false n s → codeAny (model G.prog G.w) A (.builtin "all.loop" ⟨[.ref a], []⟩) RR s
  | n, s, r => by
    refine codeAny_builtin F.entry_all_loop (Around.under_plainId F.plain_all_loop _ ▸ ?_)
    show wpAny _ _ (pyNext _ >>= _) _ _ s
    refine wpAny_bind (drawn (A := A.in1) hgen hh hd r (fun s' q => wpAny_bind (wpAny_rule (wpAny_pure (yes s' q)))) (fun s' q => ?_) fun k s' e r' => ?_)
    · exact wpAny_bind (wpAny_holding (wpAny_truthy_bool (wpAny_bind (wpAny_letGo (wpAny_bind (wpAny_rule (wpAny_pure (no s' q))))))))
    · exact wpAny_bind (wpAny_holding (wpAny_truthy_bool (wpAny_bind (wpAny_letGo (wpAny_pure ⟨plainId_quiet F.plain_all_loop _, all_draws hgen hh hd yes no k s' r'⟩)))))
  termination_by n => n
  decreasing_by omega
theorem any_draws (hgen : ∀ h : Heap, h.get? a = some go → h.IsGen a g) (hh : A.handled = none) (hd : A.depth < recursionLimit) (no : ∀ s', After G Qe s' → RR (.ok (.ret (.bool false))) s') (yes : ∀ s', After G Qf s' → RR (.ok (.ret (.bool true))) s') :
    ∀ (n : Nat) (s : Shared), Ready G A.in1.in1 a g go W Qe Qf true n s → codeAny (model G.prog G.w) A (.builtin "any.loop" ⟨[.ref a], []⟩) RR s
  | n, s, r => by
    refine codeAny_builtin F.entry_any_loop (Around.under_plainId F.plain_any_loop _ ▸ ?_)
    show wpAny _ _ (pyNext _ >>= _) _ _ s
    refine wpAny_bind (drawn (A := A.in1) hgen hh hd r (fun s' q => wpAny_bind (wpAny_rule (wpAny_pure (no s' q)))) (fun s' q => ?_) fun k s' e r' => ?_)
    · exact wpAny_bind (wpAny_holding (wpAny_truthy_bool (wpAny_bind (wpAny_letGo (wpAny_bind (wpAny_rule (wpAny_pure (yes s' q))))))))
    · exact wpAny_bind (wpAny_holding (wpAny_truthy_bool (wpAny_bind (wpAny_letGo (wpAny_pure ⟨plainId_quiet F.plain_any_loop _, any_draws hgen hh hd no yes k s' r'⟩)))))
  termination_by n => n
  decreasing_by omega
end
end Gx
namespace Gx
open PySem PySem.Spec L2 GenW PyProof.Rows
section
variable {X : Cx}
/-- the table at P, of the code object at c, is asked for an expression's code: it may grow -/
theorem coded {c P : Addr} {gpos : Pos} {q : Str} {scope : Scope} {pins : List (Addr × Obj)} {σ : L2.St} {H : Hp} {s : Shared} {E : Value → Shared → Prop} {Q : Value → Shared → Prop} (TB : GxR.TabB X.base X.mg c P) (hc : X.env.code = .ref c) (I : Inv X pins σ H s) (t : GxR.TabG H P)
    (h : ∀ code s' H', Inv X pins σ H' s' → GxR.Tabbed P H H' → s'.gens = s.gens → (∀ b o, b ≠ P → s.heap.get? b = some o → s'.heap.get? b = some o) → Q code s') : wpAny (model X.prog X.w) X.A (genexprCode X.env gpos q scope) Q E s := by
  obtain ⟨ps, hP, tri⟩ := t
  have here : s.heap.get? P = some { cls := .none, data := .fields ps } := I.hok P _ hP
  have head : PySem.W.CodeHd s.heap c P := TB.code.keeps I.bk
  have grown : ∀ (code : Value) (h' : Heap) (tk : Nat) (more : Array Value), Heap.ExtBut P s.heap h' → h'.get? P = some { cls := .none, data := .fields (ps ++ more) } → TriplesOk (ps ++ more).toList → Q code { s with heap := h', toks := tk } := fun code h' tk more ext at_ tri' =>
    h code _ _ (GxR.inv_tab (g' := s.gens) (d' := s.drawn) (t' := tk) I hP ext at_ I.bare) ⟨⟨ps ++ more, upd_same, tri'⟩, fun b hb => upd_ne hb⟩ rfl ext
  cases among : codeAmong gpos ps.toList with
  | some cv => exact wpAny_genexprCode_hit hc (head.code here tri) among (grown cv s.heap s.toks #[] (Heap.ExtBut.refl _ _) (by simpa using here) (by simpa using tri))
  | none =>
    refine wpAny_genexprCodeX hc (head.code here tri) (head.tab here) among fun c' h' tk ext _ _ isCode _ tab _ => grown _ h' tk _ ext tab.2 ?_
    obtain ⟨_, _, _, _, _, _, _, _, _, _, _, _, _, _, _, _, _, _, _, ok, _⟩ := isCode
    exact ok
/-- the generator at a stands in s5, not begun; its frame is to be at s4's end -/
structure Made (X : Cx) (pins : List (Addr × Obj)) (σ : L2.St) (H2 : Hp) (tg elt iter : Expr) (ifs : List Expr) (scope : Scope) (gpos : Pos) (J : It) (a : Addr) (s5 : Shared) (g : Nat) (go : Obj) (fp : List Addr) (it : Addr) (tn : Nat → Heap → Prop) (s4 : Shared) (code : Value) (m : Str → Option Value) : Prop where
  gen : ∀ h : Heap, h.get? a = some go → h.IsGen a g
  at_ : s5.heap.get? a = some go
  nocell : ∀ v, go.data ≠ .cell v
  young : s4.heap.objs.size < a
  inv : Inv X pins σ H2 s4
  turn : Turn X.prog X.w X.K tg J fp it tn
  st : tn 0 s4.heap
  own : ∀ b ∈ fp, FpOk X pins H2 b ∧ b < s4.heap.objs.size
  os : s5.os = s4.os
  bare : AllBare s5.gens
  keep : ∀ b o, s4.heap.get? b = some o → s5.heap.get? b = some o
  ns : s5.heap.Ns s4.heap.objs.size m
  fresh : s5.gens[g]? = some (.fresh (.compStart (.GeneratorExp elt [⟨tg, iter, ifs, 0⟩] scope gpos) 0 (.ref it) .none (gxE X scope s4.heap.objs.size code)))
/-- the expression's own scope -/
structure GxS (X : Cx) (scope : Scope) (own : List (Str × Nat)) : Prop where
  blk : BlkOk X.N X.env.scope scope own
  cell : (∀ y ∈ scope.names, y.2 ≠ .cell)
  co : (scope.isCoroutine = false)
  dot : (scope.names.lookup (".0" : Str) = some NameKind.local)
theorem making {c P : Addr} {tg elt iter : Expr} {ifs : List Expr} {gpos : Pos} {scope : Scope} {own : List (Str × Nat)} {wi : TI} {k : Nat} {pins : List (Addr × Obj)} {σ : L2.St} {H : Hp} {s : Shared} {Q : Value → Shared → Prop} {R : It → Hp → Prop}
    (hr : Room k X.A) (TB : GxR.TabB X.base X.mg c P) (hc : X.env.code = .ref c) (S : GxS X scope own) (hi : PI X tg iter wi) (hs : ∀ v, genFold iter X.env v = pure v) (I : Inv X pins σ H s) (h : wi σ H fun J H1 => GxR.TabG H1 P ∧ ∀ H2, GxR.Tabbed P H1 H2 → R J H2)
    (hQ : ∀ J H2 a s5 g go fp it tn s4 code m, R J H2 → Made X pins σ H2 tg elt iter ifs scope gpos J a s5 g go fp it tn s4 code m → Q (.ref a) s5) : wpAny (model X.prog X.w) X.A (eval (.GeneratorExp elt [⟨tg, iter, ifs, 0⟩] scope gpos) X.env) Q X.xe s := by
  refine wpAny_GeneratorExp_make S.co (closure_ok fun y hy e => held I S.blk (e ▸ hy)) S.cell S.dot S.blk.kind hr.depth (thn (hi.run pins s σ H _ I h) fun v s1 p => thn p fun itv s2 q => ?_) hs
  obtain ⟨it, fp, tn, J, H1, rfl, I1, T, st, f1, tab, more⟩ := q
  have off : ∀ b ∈ fp, b ≠ P := fun b hb z => by
    obtain ⟨ps, e, _⟩ := tab
    have n := (f1 b hb).1
    rw [z, e] at n
    exact nomatch n
  refine ⟨I1.nolimit, coded TB hc I1 tab fun code s3 H3 I3 t3 g3 k3 => ?_⟩
  obtain ⟨bm, ob, b1, b2, _, _, b5, b6, b7, b8⟩ := TB.bm
  refine wpAny_builtinsFor (m := X.mg) (by rw [I3.ok.glob]; exact I3.mod.glob.keeps I3.bk) b1 b2 (I3.bk _ _ b5) b6 b7 b8 fun h' ns' same => ?_
  have size : h'.objs.size = s3.heap.objs.size + 1 := same.1.trans (Heap.size_push _ _)
  have stays : ∀ b o, s3.heap.get? b = some o → h'.get? b = some o := fun b o e => same.extBut b o (Nat.ne_of_lt (Heap.lt_size e)) (Heap.get?_push_of_some _ e)
  exact hQ J H3 _ _ _ _ fp it tn s3 code _ (more H3 t3)
    { gen := fun _ e => ⟨_, _, _, e, rfl, rfl, rfl⟩, at_ := Heap.get?_push_size _ rfl, nocell := fun _ z => by cases z
      young := by rw [size]; exact Nat.lt_succ_self _
      inv := I3, turn := T, st := T.keep _ _ _ st fun b hb o e => k3 b o (off b hb) e
      own := fun b hb => ⟨⟨by rw [t3.2 b (off b hb)]; exact (f1 b hb).1, (f1 b hb).2⟩, (T.obj _ _ st b hb).elim fun o e => Heap.lt_size (k3 b o (off b hb) e.1)⟩
      os := rfl, bare := I3.bare.push rfl, keep := fun b o e => Heap.get?_push_of_some _ (stays b o e), ns := ns'.push _, fresh := Array.getElem?_push_size .. }
/-- judged in every frame that such an expression may have -/
abbrev Within (X : Cx) (scope : Scope) (k : Nat) (p : Cx → Prop) : Prop := ∀ (B : Around) (s : Shared) (H : Hp) (C : Addr) (code : Value) (fp : List Addr), Room k B → p (gxC X B s H (gxE X scope C code) fp)
variable {c P : Addr} {tg elt iter : Expr} {ifs : List Expr} {p pos gpos : Pos} {scope : Scope} {own : List (Str × Nat)} {wi : TI} {g : TG} {tt : TT} {te : TE} {k : Nat}
/-- the turns of all (stop = false), any (stop = true) -/
def AA (J : It) (g : TG) (tt : TT) (te : TE) (vs : List Nat) (σw : L2.St) (stop : Bool) (Q : VK) (H2 : Hp) : Prop := ∃ W : Nat → Nat → Hp → Prop, (∃ m, W 0 m H2) ∧ ∀ i m H, W i m H →
  (J.stop i H ∧ Q (.bl (!stop)) H) ∨ (J.go i H ∧ ∀ x H', J.yld i H x H' → g x σw H' fun σ2 H3 => wipe σ2 vs = σw ∧ tt σ2 H3 fun b H4 =>
    if b = true then te σ2 H4 fun y H5 => ∃ c : Bool, y = .bl c ∧ if c = stop then Q (.bl stop) H5 else ∃ m', m' < m ∧ W (i + 1) m' H5 else ∃ m', m' < m ∧ W (i + 1) m' H4)
def tAA (P : Addr) (stop : Bool) (wi : TI) (g : TG) (tt : TT) (te : TE) (vs : List Nat) : TE := fun σ H Q => wi σ H fun J H1 => GxR.TabG H1 P ∧ ∀ H2, GxR.Tabbed P H1 H2 → AA J g tt te vs (wipe σ vs) stop Q H2
/-- what a made generator gives to all or any -/
theorem ready {pins : List (Addr × Obj)} {σ : L2.St} {H2 : Hp} {J : It} {a : Addr} {s5 s4 : Shared} {gn : Nat} {go : Obj} {fp : List Addr} {it : Addr} {tn : Nat → Heap → Prop} {code : Value} {m : Str → Option Value} {W : Nat → Nat → Hp → Prop} {m0 : Nat} {Qe Qf : Hp → Prop} {stop : Bool}
    (M : Made X pins σ H2 tg elt iter ifs scope gpos J a s5 gn go fp it tn s4 code m) (hr : Room (k + 1) X.A) (hN : X.N.Nodup) (S : GxS X scope own) (hg : Within X scope k fun G => PG G tg g) (ht : Within X scope k fun G => PTs G ifs tt) (he : Within X scope k fun G => PE G elt te)
    (w0 : W 0 m0 H2) (turn : Turns J g tt te (own.map (·.2)) (wipe σ (own.map (·.2))) (fun _ : Unit => W) (zAA (fun _ => W) Qf stop) fun _ => Qe) :
    Ready (gxC X (X.A.in1.in1.deeper (gxE X scope s4.heap.objs.size code)) s4 H2 (gxE X scope s4.heap.objs.size code) fp) X.A.in1.in1 a gn go (fun _ => W) Qe Qf stop (m0 + 1) s5 := by
  have room : Room k (X.A.in1.in1.deeper (gxE X scope s4.heap.objs.size code)) := ⟨hr.hd, by have := hr.dp; show X.A.depth + 1 + 3 * k + 5 < _; omega, by have := hr.un; show X.A.units + 1 + 1 + 3 + 16 * k + 200 < _; omega⟩
  have begun := gx_start (code := code) (A0 := X.A.in1.in1) (s5 := s5.setGen gn .running) M.inv S.blk hN S.cell M.own M.inv.ok.frames hr.hd M.os (allBare_setGen M.bare rfl) M.keep M.ns
  have old : s4.heap.objs.size ≤ a := Nat.le_of_lt M.young
  have pinned : Inv (gxC X (X.A.in1.in1.deeper (gxE X scope s4.heap.objs.size code)) s4 H2 (gxE X scope s4.heap.objs.size code) fp) [(a, go)] (wipe σ (own.map (·.2))) H2 (s5.setGen gn .running) := begun.pins_of fun p hp => by
    cases List.mem_singleton.mp hp
    exact ⟨M.at_, M.inv.hok.fresh old, Nat.ne_of_gt M.young, fun z => (List.mem_cons.mp (M.inv.stkSub a z)).elim (fun e => Nat.lt_irrefl _ (Nat.lt_of_lt_of_le M.inv.lt (e ▸ old))) (M.inv.nofs old), M.nocell⟩
  have st5 : tn 0 s5.heap := M.turn.keep _ _ _ M.st fun b _ o e => M.keep b o e
  have apart : ∀ acc pl, alone a go acc pl → ∀ p ∈ pl, p.1 ∉ fp := fun _ pl e p hp z => by
    cases e
    cases List.mem_singleton.mp hp
    exact Nat.lt_irrefl _ (Nat.lt_trans M.young (M.own a z).2)
  refine ⟨M.gen _ M.at_, M.inv.nolimit.keeps M.keep, _, M.fresh, rfl, ?_⟩
  have run := seg_gx (iter := iter) (scope := scope) (pos := gpos) rfl rfl rfl rfl rfl S.co M.turn (hg _ s4 H2 _ code fp room) (ht _ s4 H2 _ code fp room) (he _ s4 H2 _ code fp room) apart turn m0 (m0 + 1) () 0 _ (s5.setGen gn .running) _ H2 (Nat.le_refl _) w0 rfl pinned st5 fun b hb => (M.own b hb).1.1
  show Seg _ _ _ _ _ _ _ ((compStart _ 0 (.ref it) .none _).onRaise (leaving _)) [] _
  rw [Sem.onRaise_eq_wrap]
  unfold compStart
  refine seg_bind_wrap (m := ask) (wpAny_askSetting ?_)
  split
  · exact seg_again rfl run
  · refine seg_bind_wrap (wpAny_rule ?_)
    show Seg _ _ _ _ _ _ _ ((standAt _ >>= _).wrap _ _ _ _) _ _
    exact seg_bind_wrap (wpAny_standAt (seg_bind_wrap (M.turn.self _ 0 _ _ _ st5 (seg_again rfl run))))
/-- back in the def's own context -/
theorem back {pins : List (Addr × Obj)} {σ : L2.St} {H2 : Hp} {s4 s' : Shared} {fp : List Addr} {B : Around} {cenv : Env} {Q : Hp → Prop} (I : Inv X pins σ H2 s4) (f : ∀ b ∈ fp, FpOk X pins H2 b ∧ b < s4.heap.objs.size) (h : After (gxC X B s4 H2 cenv fp) Q s') : ∃ H', Inv X pins σ H' s' ∧ Q H' := by
  obtain ⟨pl, σ1, H1, s1, I1, ho, hb, hk, q⟩ := h
  refine ⟨H1, I.call' (ch := fp) (ho.trans I1.os) (I1.base.trans (Un.kept hk)) (I1.hok.kept hk) hb fun b z => ?_, q⟩
  obtain ⟨⟨_, f1, _, f3, f4, f5⟩, _⟩ := f b z
  exact ⟨f3, f1, f4, f5⟩
theorem pe_allG (hr : Room (k + 1) X.A) (hN : X.N.Nodup) (hgl : Gl X "all") (hm : X.mg "all" = none) (TB : GxR.TabB X.base X.mg c P) (hc : X.env.code = .ref c) (hi : PI X tg iter wi) (blk : BlkOk X.N X.env.scope scope own)
    (hg : Within X scope k fun G => PG G tg g) (ht : Within X scope k fun G => PTs G ifs tt) (he : Within X scope k fun G => PE G elt te)
    (cell : ∀ y ∈ scope.names, y.2 ≠ .cell := by decide +kernel) (co : scope.isCoroutine = false := by rfl) (dot : scope.names.lookup (".0" : Str) = some NameKind.local := by rfl) (hs : ∀ v, genFold iter X.env v = pure v := by intro _; rfl)
    (hst : starEach [.GeneratorExp elt [⟨tg, iter, ifs, 0⟩] scope gpos] X.env = (false, eval (.GeneratorExp elt [⟨tg, iter, ifs, 0⟩] scope gpos) X.env) :: starEach [] X.env := by rfl) :
    PE X (.Call (.Name "all" p) [.GeneratorExp elt [⟨tg, iter, ifs, 0⟩] scope gpos] [] pos) (tAA P false wi g tt te (own.map (·.2))) := ⟨fun pins s σ H Q I h => by
  refine wpAny_Call_Name_kw (ld_blt I hgl hm boot_all (PyProof.Rows.callWith_builtin1 ?_ hst (by rfl)))
  rw [hst]
  show wpAny _ _ (spliced ((false, _) :: backTo pos _)) _ _ s
  refine Calls.spliced_cons (making hr TB hc ⟨blk, cell, co, dot⟩ hi hs I h fun J H2 a s5 gn go fp it tn s4 code m ⟨W, ⟨m0, w0⟩, turn⟩ M => Calls.spliced_nil ?_)
  refine call_function_tree F.kind_all F.plain_all F.entry_all (F.args_all1 (.ref a)) (wpAny_bind (m := oneArg "all" _) (wpAny_pure (wpAny_bind (wpAny_pyIter_gen (M.gen _ M.at_) (wpAny_pure ⟨plainId_quiet F.plain_all_loop _, ?_⟩)))))
  refine all_draws (G := gxC X (X.A.in1.in1.deeper (gxE X scope s4.heap.objs.size code)) s4 H2 (gxE X scope s4.heap.objs.size code) fp) (Qe := Q (.bl true)) (Qf := Q (.bl false)) M.gen hr.hd hr.depth (fun s' q => ?_) (fun s' q => ?_) (m0 + 1) s5 (ready M hr hN ⟨blk, cell, co, dot⟩ hg ht he w0 fun _ => turn)
  · exact (back M.inv M.own q).elim fun H' z => ⟨.bl true, H', z.1, rfl, z.2⟩
  · exact (back M.inv M.own q).elim fun H' z => ⟨.bl false, H', z.1, rfl, z.2⟩⟩
theorem pe_anyG (hr : Room (k + 1) X.A) (hN : X.N.Nodup) (hgl : Gl X "any") (hm : X.mg "any" = none) (TB : GxR.TabB X.base X.mg c P) (hc : X.env.code = .ref c) (hi : PI X tg iter wi) (blk : BlkOk X.N X.env.scope scope own)
    (hg : Within X scope k fun G => PG G tg g) (ht : Within X scope k fun G => PTs G ifs tt) (he : Within X scope k fun G => PE G elt te)
    (cell : ∀ y ∈ scope.names, y.2 ≠ .cell := by decide +kernel) (co : scope.isCoroutine = false := by rfl) (dot : scope.names.lookup (".0" : Str) = some NameKind.local := by rfl) (hs : ∀ v, genFold iter X.env v = pure v := by intro _; rfl)
    (hst : starEach [.GeneratorExp elt [⟨tg, iter, ifs, 0⟩] scope gpos] X.env = (false, eval (.GeneratorExp elt [⟨tg, iter, ifs, 0⟩] scope gpos) X.env) :: starEach [] X.env := by rfl) :
    PE X (.Call (.Name "any" p) [.GeneratorExp elt [⟨tg, iter, ifs, 0⟩] scope gpos] [] pos) (tAA P true wi g tt te (own.map (·.2))) := ⟨fun pins s σ H Q I h => by
  refine wpAny_Call_Name_kw (ld_blt I hgl hm boot_any (PyProof.Rows.callWith_builtin1 ?_ hst (by rfl)))
  rw [hst]
  show wpAny _ _ (spliced ((false, _) :: backTo pos _)) _ _ s
  refine Calls.spliced_cons (making hr TB hc ⟨blk, cell, co, dot⟩ hi hs I h fun J H2 a s5 gn go fp it tn s4 code m ⟨W, ⟨m0, w0⟩, turn⟩ M => Calls.spliced_nil ?_)
  refine call_function_tree F.kind_any F.plain_any F.entry_any (F.args_any1 (.ref a)) (wpAny_bind (m := oneArg "any" _) (wpAny_pure (wpAny_bind (wpAny_pyIter_gen (M.gen _ M.at_) (wpAny_pure ⟨plainId_quiet F.plain_any_loop _, ?_⟩)))))
  refine any_draws (G := gxC X (X.A.in1.in1.deeper (gxE X scope s4.heap.objs.size code)) s4 H2 (gxE X scope s4.heap.objs.size code) fp) (Qe := Q (.bl false)) (Qf := Q (.bl true)) M.gen hr.hd hr.depth (fun s' q => ?_) (fun s' q => ?_) (m0 + 1) s5 (ready M hr hN ⟨blk, cell, co, dot⟩ hg ht he w0 fun _ => turn)
  · exact (back M.inv M.own q).elim fun H' z => ⟨.bl false, H', z.1, rfl, z.2⟩
  · exact (back M.inv M.own q).elim fun H' z => ⟨.bl true, H', z.1, rfl, z.2⟩⟩
end
end Gx
/-! sum of a generator expression of ints, over anything that PI serves. The running total lies in a list at S; what the generator is woken with tells the total. -/
namespace Gx
open PySem PySem.Spec L2 GenW PyProof.Rows
/-- the list of the running total -/
abbrev tot (n : Int) (t : Tok) (c : Nat) : Obj := { cls := .type "list", dict := none, data := .seq #[.int n t] c, slots := #[] }
abbrev two (a : Addr) (go : Obj) (S : Addr) (n : Int) (t : Tok) (c : Nat) : List (Addr × Obj) := [(a, go), (S, tot n t c)]
def Tells (S : Addr) (n : Int) (s : Shared) : Prop := ∃ t c, s.heap.get? S = some (tot n t c)
theorem Tells.inj {S : Addr} {n k : Int} {s : Shared} {t : Tok} {c : Nat} (h : Tells S n s) (e : s.heap.get? S = some (tot k t c)) : n = k := by
  obtain ⟨t1, c1, q⟩ := h
  rw [q] at e
  injection e with e
  injection e with _ _ e3 _
  injection e3 with e4 _
  injection e4 with e5
  injection e5 with e6 _
  injection e6
abbrev WS := Int → Nat → Nat → Hp → Prop
section
variable {G : Cx} {a S : Addr} {go : Obj} {W : WS} {Qe : Int → Hp → Prop}
def SumP (G : Cx) (a : Addr) (go : Obj) (S : Addr) (Qe : Int → Hp → Prop) : Nat → Shared → Shared → Prop := fun _ s₀ s₁ => ∃ n t c ip σ' H, Tells S n s₀ ∧ Inv G (two a go S n t c ++ ip) σ' H s₁ ∧ Qe n H
abbrev SumR (G : Cx) (a : Addr) (go : Obj) (S : Addr) (Qe : Int → Hp → Prop) : GenEnd := fun k s₀ r s₁ => r = .ok .next ∧ SumP G a go S Qe k s₀ s₁
def SumY (G : Cx) (a : Addr) (go : Obj) (S : Addr) (W : WS) : Protocol := fun _ s₀ v s kap =>
  ∃ n i m t c ip σ' H x, Tells S n s₀ ∧ (∀ p ∈ ip, p.1 ∈ G.ex) ∧ Inv G (two a go S n t c ++ ip) σ' H s ∧ (∃ u, v = .int x u) ∧ (∃ m', m' < m ∧ W (n + x) (i + 1) m' H) ∧
    ∀ n' m' t' c' s'', m' < m → W n' (i + 1) m' H → Tells S n' s'' → Inv G (two a go S n' t' c' ++ ip) σ' H s'' → kap (.send .none) s''
/-- what one turn asks -/
def SumTurns (J : It) (g : TG) (tt : TT) (te : TE) (vs : List Nat) (σw : L2.St) (W : WS) (Qe : Int → Hp → Prop) : Prop := ∀ n i m H, W n i m H →
  (J.stop i H ∧ Qe n H) ∨ (J.go i H ∧ ∀ x H', J.yld i H x H' → g x σw H' fun σ2 H2 => wipe σ2 vs = σw ∧ tt σ2 H2 fun b H3 =>
    if b = true then te σ2 H3 fun y H4 => ∃ x : Int, y = .int x ∧ ∃ m', m' < m ∧ W (n + x) (i + 1) m' H4 else ∃ m', m' < m ∧ W n (i + 1) m' H3)
theorem seg_sum {A0 : Around} {tg elt iter : Expr} {ifs : List Expr} {scope : Scope} {pos : Pos} {J : It} {fp : List Addr} {it : Addr} {tn : Nat → Heap → Prop} {g : TG} {tt : TT} {te : TE} {vs : List Nat} {σw : L2.St}
    (hA : G.A = A0.deeper G.env) (hxe : G.xe = fun _ _ => False) (hcalm : G.calm = true) (hpn : G.pn = []) (hex : G.ex = fp) (hco : G.env.scope.isCoroutine = false)
    (T : Turn G.prog G.w G.K tg J fp it tn) (pg : PG G tg g) (pt : PTs G ifs tt) (pe : PE G elt te) (ha : a ∉ fp) (hS : S ∉ fp) (turn : SumTurns J g tt te vs σw W Qe)
    : ∀ (m k : Nat) (n : Int) (i : Nat) (t : Tok) (c : Nat) (s₀ s : Shared) (H : Hp), m + 1 ≤ k → W n i m H → Tells S n s₀ → Inv G (two a go S n t c) σw H s → tn i s.heap → (∀ b ∈ fp, H b = none) →
      Seg (model G.prog G.w) A0 (SumR G a go S Qe) (SumY G a go S W) k s₀ (.compLoop (.GeneratorExp elt [⟨tg, iter, ifs, 0⟩] scope pos) 0 (.ref it) .none G.env)
        ((model G.prog G.w).den (.compLoop (.GeneratorExp elt [⟨tg, iter, ifs, 0⟩] scope pos) 0 (.ref it) .none G.env)) [] s := by
  intro m
  refine Nat.strongRecOn m fun m ih k n i t c s₀ s H hk w hP I st nfp => ?_
  have off : ∀ {n' t' c'}, ∀ p ∈ two a go S n' t' c', p.1 ∉ fp := fun p hp => by
    rcases List.mem_cons.mp hp with e | e
    · rw [e]; exact ha
    · rw [List.mem_singleton.mp e]; exact hS
  have may : ∀ {σ' H' s' n' t' c'}, Inv G (two a go S n' t' c') σ' H' s' → (∀ b ∈ fp, H' b = none) → ∀ b ∈ fp, FpOk G (two a go S n' t' c') H' b := fun J' hz b hb =>
    have hb' : b ∈ G.ex := hex ▸ hb
    ⟨hz b hb, (J'.ok.exf b hb').1, J'.ok.exfs b hb', .inl hb', (J'.ok.exf b hb').2, fun p hq z => off p (by rw [hpn] at hq; exact hq) (z ▸ hb)⟩
  show Seg _ A0 _ _ _ s₀ _ ((compTurn (.GeneratorExp elt [⟨tg, iter, ifs, 0⟩] scope pos) 0 (.ref it) .none G.env).onRaise (leaving G.env)) [] s
  rw [Sem.onRaise_eq_wrap, compTurn_gen]
  refine seg_in hA (Q := fun _ s' => s' = s) (wpAny_standAt rfl) fun _ _ e => ?_
  subst e
  rcases turn n i m H w with ⟨stop, qq⟩ | ⟨go_, step⟩
  · refine seg_in hA (T.done G rfl rfl rfl hcalm i _ _ _ H (fun _ _ => False) I (may I nfp) st stop) fun r s1 h1 => ?_
    cases h1.1
    exact seg_end (.ok .next) ⟨rfl, n, t, c, [], _, H, hP, h1.2, qq⟩
  · refine seg_in hA (T.item G rfl rfl rfl hcalm i _ _ _ H (fun _ _ => False) I (may I nfp) st go_) fun r s1 h1 => ?_
    obtain ⟨u, er, h1⟩ := h1
    cases er
    refine seg_in hA h1 fun _ s2 ⟨x, H2, I2, r2, y2, st2, n2⟩ => ?_
    have given := pg.run _ s2 _ H2 x u _ (I2.pinned (may I2 n2) (T.obj _ _ st2)) r2 (step x H2 y2)
    refine seg_in hA (hxe ▸ given) fun _ s3 ⟨σ3, H3, I3, w3, q3⟩ => ?_
    have asked := pt.run _ s3 σ3 H3 _ I3 q3
    refine seg_in hA (hxe ▸ asked) fun b s4 ⟨H4, I4, q4⟩ => ?_
    have on : ∀ {n' t' c' s' H'}, Inv G (two a go S n' t' c' ++ pinsAt fp s2.heap) σ3 H' s' → Inv G (two a go S n' t' c') σw H' s' ∧ tn (i + 1) s'.heap ∧ ∀ b ∈ fp, H' b = none := fun {n' t' c' s' H'} I' => by
      have still : ∀ b ∈ fp, ∀ o, s2.heap.get? b = some o → s'.heap.get? b = some o ∧ H' b = none := fun b hb o e =>
        (I'.pin (b, o) (List.mem_append_right G.pn (List.mem_append_right _ (mem_pinsAt hb e)))).imp id And.left
      refine ⟨I'.unpinned.weak (by rw [← w3, wipe_length]) fun j v e => (wipe_some (w3.symm ▸ e : (wipe σ3 vs)[j]? = _)).1, T.keep _ _ _ st2 fun b hb o e => (still b hb o e).1, fun b hb => ?_⟩
      exact (T.obj _ _ st2 b hb).elim fun o e => (still b hb o e.1).2
    cases b with
    | false =>
      obtain ⟨m', hm, w'⟩ := (if_neg Bool.false_ne_true).mp q4
      obtain ⟨a1, a2, a3⟩ := on I4
      exact seg_again rfl (ih m' hm k n (i + 1) t c s₀ s4 H4 (by omega) w' hP a1 a2 a3)
    | true =>
      have q5 := (if_pos rfl).mp q4
      obtain ⟨j, rfl⟩ : ∃ j, k = j + 1 := ⟨k - 1, by omega⟩
      have out : ∀ v, yieldOut G.env v = yieldValue v := fun v => by unfold yieldOut; rw [hco]; rfl
      have told := pe.run _ s4 σ3 H4 _ I4 q5
      simp only [if_true, out]
      rw [Sem.bind_eq_wrap', Sem.wrap_wrap, Sem.bind_eq_wrap', Sem.wrap_wrap]
      refine seg_wrap ?_
      rw [loop_over, ← hA]
      refine thnF (hxe ▸ told) fun z s5 ⟨yv, H5, I5, r5, v5, ey, more⟩ => ?_
      subst ey
      refine seg_at (seg_yield rfl rfl rfl ⟨n, i, m, t, c, _, σ3, H5, v5, hP, fun p hp => ?_, I5, r5, more, fun n' m' t' c' s'' hm hw hP' I'' => ?_⟩)
      · rw [hex]; exact (of_pinsAt hp).1
      · obtain ⟨a1, a2, a3⟩ := on I''
        exact seg_again rfl (ih m' hm j n' (i + 1) t' c' s'' s'' H5 (by omega) hw hP' a1 a2 a3)
/-- the total has been changed: in the list alone -/
theorem Inv.total {n n' : Int} {t t' : Tok} {c c' : Nat} {ip : List (Addr × Obj)} {σ : L2.St} {H : Hp} {s s' : Shared} (I : Inv G (two a go S n t c ++ ip) σ H s) (hip : ∀ p ∈ ip, p.1 ∈ G.ex) (young : G.s_0.heap.objs.size ≤ S) (hx : S ∉ G.ex) (hSa : S ≠ a) (hpn : G.pn = [])
    (ho : s'.os = s.os) (hg : AllBare s'.gens) (at_ : s'.heap.get? S = some (tot n' t' c')) (keep : ∀ b o, b ≠ S → s.heap.get? b = some o → s'.heap.get? b = some o) : Inv G (two a go S n' t' c' ++ ip) σ H s' := by
  obtain ⟨p1, p2, p3, p4, p5⟩ := I.pin (S, tot n t c) (List.mem_append_right _ (List.mem_append_left _ (.tail _ (.head _))))
  have less : Inv G ((a, go) :: ip) σ H s := I.pins_of fun p hp => I.pin p (List.mem_append_right _ (by
    rcases List.mem_cons.mp hp with e | e
    · rw [e]; exact List.mem_append_left _ (.head _)
    · exact List.mem_append_right _ e))
  have fp : ∀ b ∈ [S], FpOk G ((a, go) :: ip) H b := fun b hb => by
    cases List.mem_singleton.mp hb
    refine ⟨p2, p3, p4, .inr young, fun x cc e z => ?_, fun p hp z => ?_⟩
    · obtain ⟨v, o, q1, q2⟩ := I.cell x cc e
      rw [z, p1] at q1
      cases q1
      cases q2
    · rw [hpn] at hp
      rcases List.mem_cons.mp hp with e | e
      · rw [e] at z; exact hSa z.symm
      · exact hx (z ▸ hip p e)
  have k2 : ∀ b o, b ∉ [S] → s.heap.get? b = some o → s'.heap.get? b = some o := fun b o hb e => keep b o (fun z => hb (by rw [z]; exact .head _)) e
  have J := less.turnedL (h' := s'.heap) (t' := s'.toks) k2 fp
  have J2 : Inv G ((a, go) :: ip) σ H s' := Inv.woke J ho (fun _ _ q => q) hg
  refine J2.pins_of fun p hp => ?_
  rcases List.mem_append.mp hp with e | e
  · rcases List.mem_cons.mp e with e | e
    · rw [e]; exact J2.pin (a, go) (List.mem_append_right _ (.head _))
    · rw [List.mem_singleton.mp e]
      exact ⟨at_, p2, p3, p4, fun v z => by cases z⟩
  · exact J2.pin p (List.mem_append_right _ (.tail _ e))
end
end Gx
namespace Gx
open PySem PySem.Spec L2 GenW PyProof.Rows
section
variable {G : Cx} {A : Around} {a S : Addr} {g : Nat} {go : Obj} {W : WS} {Qe : Int → Hp → Prop}
/-- the total n lies at S; the generator may be woken k times -/
def SumReady (G : Cx) (A : Around) (a : Addr) (g : Nat) (go : Obj) (S : Addr) (W : WS) (Qe : Int → Hp → Prop) (n : Int) (k : Nat) (s : Shared) : Prop :=
  s.heap.IsGen a g ∧ s.heap.NoLimit ∧ Tells S n s ∧ ∃ gs, s.gens[g]? = some gs ∧ gs.Goes (model G.prog G.w) A (SumR G a go S Qe) (SumY G a go S W) k (.send .none) (s.setGen g .running)
/-- it waits until the total at S is n -/
def SumWaits (G : Cx) (A : Around) (a : Addr) (g : Nat) (go : Obj) (S : Addr) (W : WS) (Qe : Int → Hp → Prop) (n : Int) (k : Nat) (s : Shared) : Prop :=
  (∃ n0, Tells S n0 s) ∧ ∀ s', s'.os = s.os → s'.gens = s.gens → Tells S n s' → (∀ b o, b ≠ S → s.heap.get? b = some o → s'.heap.get? b = some o) → SumReady G A a g go S W Qe n k s'
/-- where S and the generator stand -/
structure SumAt (G : Cx) (a S : Addr) (g : Nat) (go : Obj) : Prop where
  gen : ∀ h : Heap, h.get? a = some go → h.IsGen a g
  young : G.s_0.heap.objs.size ≤ S
  hx : S ∉ G.ex
  hSa : S ≠ a
  hpn : G.pn = []
/-- behind the sum -/
def SumAfter (G : Cx) (Q : Int → Hp → Prop) (n : Int) (s' : Shared) : Prop := After G (Q n) s'
theorem sum_drawn {n : Int} {k : Nat} {s : Shared} {E : Value → Shared → Prop} {Q : Option Value → Shared → Prop} (P : SumAt G a S g go) (hh : A.handled = none) (hd : A.depth < recursionLimit) (r : SumReady G A.in1 a g go S W Qe n k s)
    (ends : ∀ s', SumAfter G Qe n s' → Q none s') (goes : ∀ x u j s', k = j + 1 → SumWaits G A.in1 a g go S W Qe (n + x) j s' → Q (some (.int x u)) s') : wpAny (model G.prog G.w) A (pyNext (.ref a)) Q E s := by
  obtain ⟨isg, lim, ⟨t0, c0, hS⟩, gs, at_, goes_⟩ := r
  have room : g + 1 ≤ s.gens.size := (Array.getElem?_eq_some_iff.mp at_).1
  refine wpAny_gsz room (wpAny_pyNext_genexpQ (P := SumP G a go S Qe) hh lim hd isg at_ goes_ (fun v s1 gs1 bare1 told many => ?_) (fun s1 ended h1 kept _ => ?_))
  · obtain ⟨n1, i, m, t, c, ip, σ1, H1, x, tl, hip, I1, ⟨u, rfl⟩, ⟨m', less, w'⟩, wake⟩ := told
    cases tl.inj (s := s.setGen g .running) hS
    cases k with
    | zero =>
      obtain ⟨t2, c2, e2⟩ : Tells S n s1 := ⟨t, c, (I1.pin (S, tot n t c) (List.mem_append_right _ (List.mem_append_left _ (.tail _ (.head _))))).1⟩
      refine (wake (n + x) m' t c { s1 with heap := s1.heap.update S (fun _ => tot (n + x) t c) } less w' ⟨t, c, ?_⟩ (Inv.total I1 hip P.young P.hx P.hSa P.hpn rfl I1.bare ?_ fun b o hb e => ?_)).elim
      · exact Heap.get?_update_self _ e2 rfl
      · exact Heap.get?_update_self _ e2 rfl
      · exact (Heap.get?_update_other _ _ (Ne.symm hb)).trans e
    | succ j =>
      have there : s1.heap.get? a = some go := (I1.pin (a, go) (List.mem_append_right _ (List.mem_append_left _ (.head _)))).1
      have tl1 : Tells S n (s1.setGen g gs1) := ⟨t, c, (I1.pin (S, tot n t c) (List.mem_append_right _ (List.mem_append_left _ (.tail _ (.head _))))).1⟩
      refine goes x u j _ rfl ⟨⟨n, tl1⟩, fun s' ho hg ⟨t', c', e'⟩ keep => ?_⟩
      have bare' : AllBare s'.gens := hg ▸ allBare_setGen I1.bare bare1
      have I2 : Inv G (two a go S (n + x) t' c' ++ ip) σ1 H1 s' := Inv.total I1 hip P.young P.hx P.hSa P.hpn ho bare' e' keep
      have I3 : Inv G (two a go S (n + x) t' c' ++ ip) σ1 H1 (s'.setGen g .running) := Inv.woke I2 rfl (fun _ _ q => q) (allBare_setGen bare' rfl)
      refine ⟨P.gen _ (keep a go (Ne.symm P.hSa) there), I2.nolimit, ⟨t', c', e'⟩, gs1, ?_, wake (n + x) m' t' c' _ less w' ⟨t', c', e'⟩ I3⟩
      rw [hg]
      exact setGen_at ((setGen_size s1 g gs1) ▸ many)
  · obtain ⟨n1, t, c, ip, σ1, H1, tl, I1, q⟩ := ended
    cases tl.inj (s := s.setGen g .running) hS
    exact ends _ ⟨_, _, H1, s1, I1, rfl, allBare_setGen I1.bare rfl, kept, q⟩
variable {RR : Result → Shared → Prop}
/-- the total is written twice where it is wide -/
theorem SumWaits.on {n : Int} {k : Nat} {s s' : Shared} (w : SumWaits G A a g go S W Qe n k s) (ho : s'.os = s.os) (hg : s'.gens = s.gens) (tl : Tells S n s') (keep : ∀ b o, b ≠ S → s.heap.get? b = some o → s'.heap.get? b = some o) : SumReady G A a g go S W Qe n k s' := w.2 s' ho hg tl keep
theorem sum_draws (P : SumAt G a S g go) (hh : A.handled = none) (hd : A.depth < recursionLimit) (q : ∀ n t s', SumAfter G Qe n s' → RR (.ok (.ret (.int n t))) s') :
    ∀ (k : Nat) (n : Int) (st : Int) (s : Shared), (st = 0 ∨ st = 2) → SumReady G A.in1.in1 a g go S W Qe n k s → codeAny (model G.prog G.w) A (.builtin "sum.loop" ⟨[.ref a, .ref S, rawInt st, rawInt 0], []⟩) RR s
  | k, n, st, s, hst, r => by
    obtain ⟨t0, c0, hS⟩ := r.2.2.1
    refine codeAny_builtin F.entry_sum_loop (Around.under_plainId F.plain_sum_loop _ ▸ ?_)
    show wpAny _ _ (seqItems? _ >>= _) _ _ s
    refine wpAny_bind (wpAny_seqItems hS rfl ?_)
    show wpAny _ _ (tryCatch _ _ >>= _) _ _ s
    refine wpAny_bind (wpAny_tryCatch (sum_drawn (A := A.in1) P hh hd r (fun s' z => wpAny_pure (q n t0 s' z)) fun x u j s' e wt => ?_))
    obtain ⟨⟨n0, t1, c1, h1⟩, _⟩ := id wt
    have put : ∀ (h : Heap) (tk : Nat) (v : Tok) (n0 : Int) (t1 : Tok) (c1 : Nat), h.get? S = some (tot n0 t1 c1) → (∀ b o, b ≠ S → s'.heap.get? b = some o → h.get? b = some o) →
        (∃ t c, (h.update S (Obj.mapSeq fun _ => #[.int (n + x) v])).get? S = some (tot (n + x) t c)) ∧ ∀ b o, b ≠ S → s'.heap.get? b = some o → (h.update S (Obj.mapSeq fun _ => #[.int (n + x) v])).get? b = some o :=
      fun h tk v n0 t1 c1 e k => ⟨⟨_, _, Heap.get?_update_self _ e rfl⟩, fun b o nb q => (Heap.get?_update_other _ _ (Ne.symm nb)).trans (k b o nb q)⟩
    have k0 : ∀ b o, b ≠ S → s'.heap.get? b = some o → s'.heap.get? b = some o := fun _ _ _ z => z
    obtain ⟨⟨t2, c2, e2⟩, k2⟩ := put s'.heap 0 s'.toks n0 t1 c1 h1 k0
    obtain ⟨⟨t3, c3, e3⟩, k3⟩ := put _ 0 s'.toks _ _ _ e2 k2
    have on1 := sum_draws P hh hd q j (n + x) 0 { s' with heap := s'.heap.update S (Obj.mapSeq fun _ => #[.int (n + x) s'.toks]), toks := s'.toks + 1 } (.inl rfl) (wt.on rfl rfl ⟨t2, c2, e2⟩ k2)
    have on2 := sum_draws P hh hd q j (n + x) 2 { s' with heap := (s'.heap.update S (Obj.mapSeq fun _ => #[.int (n + x) s'.toks])).update S (Obj.mapSeq fun _ => #[.int (n + x) s'.toks]), toks := s'.toks + 1 } (.inr rfl) (wt.on rfl rfl ⟨t3, c3, e3⟩ k3)
    rcases hst with rfl | rfl
    · show wpAny _ _ (if _ then (mkInt _ >>= _) else _) _ _ _
      split
      · exact wpAny_bind (wpAny_mkInt (wpAny_bind (wpAny_updateSeq h1 rfl (wpAny_pure ⟨plainId_quiet F.plain_sum_loop _, on1⟩))))
      · exact wpAny_bind (wpAny_rule (wpAny_bind (wpAny_attempt (wpAny_holding (wpAny_add_int (wpAny_bind (wpAny_updateSeq h1 rfl (wpAny_bind (wpAny_letGo (wpAny_bind (wpAny_updateSeq e2 rfl (wpAny_pure ⟨plainId_quiet F.plain_sum_loop _, on2⟩))))))))))))
    · exact wpAny_bind (wpAny_attempt (wpAny_holding (wpAny_add_int (wpAny_bind (wpAny_updateSeq h1 rfl (wpAny_bind (wpAny_letGo (wpAny_bind (wpAny_updateSeq e2 rfl (wpAny_pure ⟨plainId_quiet F.plain_sum_loop _, on2⟩))))))))))
  termination_by k => k
  decreasing_by all_goals omega
end
end Gx
namespace Gx
open PySem PySem.Spec L2 GenW PyProof.Rows
section
variable {X : Cx} {c P : Addr} {tg elt iter : Expr} {ifs : List Expr} {p pos gpos : Pos} {scope : Scope} {own : List (Str × Nat)} {wi : TI} {g : TG} {tt : TT} {te : TE} {k : Nat}
def tSum (P : Addr) (wi : TI) (g : TG) (tt : TT) (te : TE) (vs : List Nat) : TE := fun σ H Q => wi σ H fun J H1 => GxR.TabG H1 P ∧ ∀ H2, GxR.Tabbed P H1 H2 → ∃ W : WS, (∃ m, W 0 0 m H2) ∧ SumTurns J g tt te vs (wipe σ vs) W fun n H => Q (.int n) H
/-- the list for the total has been made behind the generator -/
abbrev laidTot (s5 : Shared) : Shared := { s5 with heap := s5.heap.push (tot 0 s5.toks 0), toks := s5.toks + 1 }
theorem sum_ready {pins : List (Addr × Obj)} {σ : L2.St} {H2 : Hp} {J : It} {a : Addr} {s5 s4 : Shared} {gn : Nat} {go : Obj} {fp : List Addr} {it : Addr} {tn : Nat → Heap → Prop} {code : Value} {m : Str → Option Value} {W : WS} {m0 : Nat} {Qe : Int → Hp → Prop}
    (M : Made X pins σ H2 tg elt iter ifs scope gpos J a s5 gn go fp it tn s4 code m) (hr : Room (k + 1) X.A) (hN : X.N.Nodup) (Sc : GxS X scope own) (hg : Within X scope k fun G => PG G tg g) (ht : Within X scope k fun G => PTs G ifs tt) (he : Within X scope k fun G => PE G elt te)
    (w0 : W 0 0 m0 H2) (turn : SumTurns J g tt te (own.map (·.2)) (wipe σ (own.map (·.2))) W Qe) :
    SumAt (gxC X (X.A.in1.in1.deeper (gxE X scope s4.heap.objs.size code)) s4 H2 (gxE X scope s4.heap.objs.size code) fp) a s5.heap.objs.size gn go ∧
    SumReady (gxC X (X.A.in1.in1.deeper (gxE X scope s4.heap.objs.size code)) s4 H2 (gxE X scope s4.heap.objs.size code) fp) X.A.in1.in1 a gn go s5.heap.objs.size W Qe 0 (m0 + 1) (laidTot s5) := by
  have keep5 : ∀ b o, s5.heap.get? b = some o → (laidTot s5).heap.get? b = some o := fun b o e => Heap.get?_push_of_some _ e
  have keep4 : ∀ b o, s4.heap.get? b = some o → (laidTot s5).heap.get? b = some o := fun b o e => keep5 b o (M.keep b o e)
  have aS : a < s5.heap.objs.size := Heap.lt_size M.at_
  have room : Room k (X.A.in1.in1.deeper (gxE X scope s4.heap.objs.size code)) := ⟨hr.hd, by have := hr.dp; show X.A.depth + 1 + 3 * k + 5 < _; omega, by have := hr.un; show X.A.units + 1 + 1 + 3 + 16 * k + 200 < _; omega⟩
  have begun := gx_start (code := code) (A0 := X.A.in1.in1) (s5 := (laidTot s5).setGen gn .running) M.inv Sc.blk hN Sc.cell M.own M.inv.ok.frames hr.hd M.os (allBare_setGen (s := laidTot s5) M.bare rfl) keep4 (M.ns.push _)
  have free : ∀ b, s4.heap.objs.size < b → H2 b = none ∧ b ≠ s4.heap.objs.size ∧ b ∉ frs X.stack := fun b hb => ⟨M.inv.hok.fresh (Nat.le_of_lt hb), Nat.ne_of_gt hb, fun z => (List.mem_cons.mp (M.inv.stkSub b z)).elim (fun e => Nat.lt_irrefl _ (Nat.lt_of_lt_of_le M.inv.lt (e ▸ Nat.le_of_lt hb))) (M.inv.nofs (Nat.le_of_lt hb))⟩
  have atS : (laidTot s5).heap.get? s5.heap.objs.size = some (tot 0 s5.toks 0) := Heap.get?_push_size _ rfl
  have pinned : Inv (gxC X (X.A.in1.in1.deeper (gxE X scope s4.heap.objs.size code)) s4 H2 (gxE X scope s4.heap.objs.size code) fp) (two a go s5.heap.objs.size 0 s5.toks 0) (wipe σ (own.map (·.2))) H2 ((laidTot s5).setGen gn .running) := begun.pins_of fun p hp => by
    rcases List.mem_cons.mp hp with e | e
    · subst e
      obtain ⟨f1, f2, f3⟩ := free a M.young
      exact ⟨keep5 _ _ M.at_, f1, f2, f3, M.nocell⟩
    · cases List.mem_singleton.mp e
      obtain ⟨f1, f2, f3⟩ := free s5.heap.objs.size (Nat.lt_trans M.young aS)
      exact ⟨atS, f1, f2, f3, fun v z => by cases z⟩
  have st5 : tn 0 (laidTot s5).heap := M.turn.keep _ _ _ M.st fun b _ o e => keep4 b o e
  have out : ∀ b, s4.heap.objs.size < b → b ∉ fp := fun b hb z => Nat.lt_irrefl _ (Nat.lt_trans hb (M.own b z).2)
  have outS := out s5.heap.objs.size (Nat.lt_trans M.young aS)
  refine ⟨⟨M.gen, Nat.le_of_lt (Nat.lt_trans M.young aS), outS, Nat.ne_of_gt aS, rfl⟩, M.gen _ (keep5 _ _ M.at_), M.inv.nolimit.keeps keep4, ⟨_, _, atS⟩, _, M.fresh, rfl, ?_⟩
  have run := seg_sum (iter := iter) (scope := scope) (pos := gpos) rfl rfl rfl rfl rfl Sc.co M.turn (hg _ s4 H2 _ code fp room) (ht _ s4 H2 _ code fp room) (he _ s4 H2 _ code fp room) (out a M.young) outS turn m0 (m0 + 1) 0 0 s5.toks 0 ((laidTot s5).setGen gn .running) _ H2 (Nat.le_refl _) w0 ⟨_, _, atS⟩ pinned st5 fun b hb => (M.own b hb).1.1
  show Seg _ _ _ _ _ _ _ ((compStart _ 0 (.ref it) .none _).onRaise (leaving _)) [] _
  rw [Sem.onRaise_eq_wrap]
  unfold compStart
  refine seg_bind_wrap (m := ask) (wpAny_askSetting ?_)
  split
  · exact seg_again rfl run
  · refine seg_bind_wrap (wpAny_rule ?_)
    show Seg _ _ _ _ _ _ _ ((standAt _ >>= _).wrap _ _ _ _) _ _
    exact seg_bind_wrap (wpAny_standAt (seg_bind_wrap (M.turn.self _ 0 _ _ _ st5 (seg_again rfl run))))
/-- sum, with no second argument, comes to its loop -/
theorem sum_begins {prog : Program} {w : World} {A : Around} {a : Addr} {gn : Nat} {s5 : Shared} {Q : Value → Shared → Prop} {E : Value → Shared → Prop} (isg : s5.heap.IsGen a gn)
    (h : codeAny (model prog w) A (.builtin "sum.loop" ⟨[.ref a, .ref s5.heap.objs.size, rawInt 0, rawInt 0], []⟩) (fun r s' => match r with | .ok (.ret v) => Q v s' | .ok _ => False | .error e => E e s') (laidTot s5)) :
    wpAny (model prog w) A (call (.builtin "sum") [.ref a]) Q E s5 := by
  refine call_function_tree F.kind_sum F.plain_sum F.entry_sum (F.args_sum1 (.ref a)) ?_
  unfold Builtin.«sum»
  rw [if_neg (show ¬ ([Value.ref a].length + ([] : List (Str × Value)).length > 2) from Nat.not_lt.mpr (Nat.le_succ 1))]
  refine wpAny_bind (wpAny_of_eq (a := [none]) rfl (wpAny_bind (wpAny_pyIter_gen isg (wpAny_bind (wpAny_mkInt (wpAny_bind (wpAny_pure ?_)))))))
  have int0 : ∀ (U : String) (s : Shared), isSubtype (.type "int") (.type U) = pure false → ∀ (Z : Bool → Shared → Prop) (E' : Value → Shared → Prop), Z false s → wpAny (model prog w) A.in1 (isInstance (.int 0 s5.toks) (.type U)) Z E' s := fun U s e Z E' z => wpAny_isInstance (typeIs_int s 0 s5.toks) e z
  simp only [List.forIn_cons, List.forIn_nil]
  refine wpAny_bind (wpAny_bind (wpAny_bind (int0 "str" _ PySem.sub_int_str _ _ ?_)))
  refine wpAny_pure (wpAny_bind (wpAny_bind (int0 "bytes" _ PySem.sub_int_bytes _ _ ?_)))
  refine wpAny_pure (wpAny_bind (wpAny_bind (int0 "bytearray" _ PySem.sub_int_bytearray _ _ ?_)))
  exact wpAny_pure (wpAny_pure (wpAny_bind (wpAny_newObj_type (wpAny_pure ⟨plainId_quiet F.plain_sum_loop _, h⟩))))
theorem pe_sumG (hr : Room (k + 1) X.A) (hN : X.N.Nodup) (hgl : Gl X "sum") (hm : X.mg "sum" = none) (TB : GxR.TabB X.base X.mg c P) (hc : X.env.code = .ref c) (hi : PI X tg iter wi) (blk : BlkOk X.N X.env.scope scope own)
    (hg : Within X scope k fun G => PG G tg g) (ht : Within X scope k fun G => PTs G ifs tt) (he : Within X scope k fun G => PE G elt te)
    (cell : ∀ y ∈ scope.names, y.2 ≠ .cell := by decide +kernel) (co : scope.isCoroutine = false := by rfl) (dot : scope.names.lookup (".0" : Str) = some NameKind.local := by rfl) (hs : ∀ v, genFold iter X.env v = pure v := by intro _; rfl)
    (hst : starEach [.GeneratorExp elt [⟨tg, iter, ifs, 0⟩] scope gpos] X.env = (false, eval (.GeneratorExp elt [⟨tg, iter, ifs, 0⟩] scope gpos) X.env) :: starEach [] X.env := by rfl) :
    PE X (.Call (.Name "sum" p) [.GeneratorExp elt [⟨tg, iter, ifs, 0⟩] scope gpos] [] pos) (tSum P wi g tt te (own.map (·.2))) := ⟨fun pins s σ H Q I h => by
  refine wpAny_Call_Name_kw (ld_blt I hgl hm boot_sum (PyProof.Rows.callWith_builtin1 ?_ hst (by rfl)))
  rw [hst]
  show wpAny _ _ (spliced ((false, _) :: backTo pos _)) _ _ s
  refine Calls.spliced_cons (making hr TB hc ⟨blk, cell, co, dot⟩ hi hs I h fun J H2 a s5 gn go fp it tn s4 code m ⟨W, ⟨m0, w0⟩, turn⟩ M => Calls.spliced_nil ?_)
  obtain ⟨at_, rd⟩ := sum_ready M hr hN ⟨blk, cell, co, dot⟩ hg ht he w0 turn
  refine sum_begins (M.gen _ M.at_) (sum_draws at_ hr.hd hr.depth (fun n t s' q => ?_) (m0 + 1) 0 0 _ (.inl rfl) rd)
  exact (back M.inv M.own q).elim fun H' z => ⟨.int n, H', z.1, ⟨_, rfl⟩, z.2⟩⟩
end
end Gx
/-! helpers over the hand layer, whatever the row -/
namespace Hx
open L2 PySem PySem.Spec PyProof.Rows
/-! ### heaps that grow, tables aside -/
def TabsG (T : List Addr) (H : Hp) : Prop := ∀ P ∈ T, GxR.TabG H P
structure Gr (T : List Addr) (H H' : Hp) : Prop where
  keep : ∀ b o, H b = some o → b ∉ T → H' b = some o
  tabs : TabsG T H'
theorem TabsG.out {T : List Addr} {H : Hp} (t : TabsG T H) {b : Addr} {o : HO} (e : H b = some o) (n : ∀ ps, o ≠ .tbl ps) : b ∉ T := fun hb => by
  obtain ⟨ps, q, _⟩ := t b hb
  rw [q] at e
  exact n ps (Option.some.inj e).symm
theorem TabsG.none {T : List Addr} {H : Hp} (t : TabsG T H) {b : Addr} (e : H b = none) : b ∉ T := fun hb => by
  obtain ⟨ps, q, _⟩ := t b hb
  rw [q] at e
  cases e
theorem Gr.refl {T : List Addr} {H : Hp} (t : TabsG T H) : Gr T H H := ⟨fun _ _ e _ => e, t⟩
theorem Gr.trans {T : List Addr} {H H1 H2 : Hp} (a : Gr T H H1) (b : Gr T H1 H2) : Gr T H H2 := ⟨fun c o e n => b.keep c o (a.keep c o e n) n, b.tabs⟩
theorem Gr.free {T : List Addr} {H H' : Hp} (t : TabsG T H) (g : Gr T H H') {p : Addr} (h : H' p = none) : H p = none := by
  cases q : H p with
  | none => rfl
  | some o =>
    by_cases hb : p ∈ T
    · exact absurd hb (g.tabs.none h)
    · rw [g.keep p o q hb] at h
      cases h
theorem Gr.at {T : List Addr} {H H' : Hp} (g : Gr T H H') (t : TabsG T H) {b : Addr} {o : HO} (e : H b = some o) (n : ∀ ps, o ≠ .tbl ps) : H' b = some o := g.keep b o e (t.out e n)
/-- a new object -/
theorem Gr.new {T : List Addr} {H : Hp} (t : TabsG T H) {p : Addr} (o : HO) (h : H p = none) : Gr T H (upd H p o) := by
  have hp : p ∉ T := t.none h
  refine ⟨fun b x e _ => by rw [upd_ne (ne_of_none e h)]; exact e, fun P hP => ?_⟩
  obtain ⟨ps, q, r⟩ := t P hP
  exact ⟨ps, by rw [upd_ne (show P ≠ p from fun z => hp (by rw [← z]; exact hP))]; exact q, r⟩
/-- an object that is ours (made since H) is written -/
theorem Gr.own {T : List Addr} {H H1 : Hp} (g : Gr T H H1) (t : TabsG T H) {p : Addr} (o : HO) (h : H p = none) : Gr T H (upd H1 p o) := by
  have hp : p ∉ T := t.none h
  refine ⟨fun b x e n => by rw [upd_ne (ne_of_none e h)]; exact g.keep b x e n, fun P hP => ?_⟩
  obtain ⟨ps, q, r⟩ := g.tabs P hP
  exact ⟨ps, by rw [upd_ne (show P ≠ p from fun z => hp (by rw [← z]; exact hP))]; exact q, r⟩
theorem TabsG.upd {T : List Addr} {H : Hp} (t : TabsG T H) {p : Addr} (o : HO) (hp : p ∉ T) : TabsG T (upd H p o) := fun P hP => by
  obtain ⟨ps, q, r⟩ := t P hP
  exact ⟨ps, by rw [upd_ne (show P ≠ p from fun z => hp (by rw [← z]; exact hP))]; exact q, r⟩
/-- a table has grown -/
theorem Gr.tab {T : List Addr} {H H' : Hp} {P : Addr} (t : TabsG T H) (hP : P ∈ T) (h : GxR.Tabbed P H H') : Gr T H H' := by
  refine ⟨fun b o e n => by rw [h.2 b (fun z => n (z ▸ hP))]; exact e, fun P' hP' => ?_⟩
  by_cases z : P' = P
  · rw [z]; exact h.1
  · obtain ⟨ps, q, r⟩ := t P' hP'
    exact ⟨ps, by rw [h.2 _ z]; exact q, r⟩
theorem notbl_lst {xs : List V} : ∀ ps, HO.lst xs ≠ .tbl ps := fun _ z => by cases z
theorem notbl_tup {xs : List V} : ∀ ps, HO.tup xs ≠ .tbl ps := fun _ z => by cases z
theorem notbl_dK {xs : List (Key × V)} : ∀ ps, HO.dK xs ≠ .tbl ps := fun _ z => by cases z
theorem notbl_frz {o : Obj} {u : HO} : ∀ ps, HO.frz o u ≠ .tbl ps := fun _ z => by cases z
theorem Gr.seqL {T : List Addr} {K : PySem.W.Frag} {H H' : Hp} {a : Addr} {xs : List V} (g : Gr T H H') (t : TabsG T H) (h : SqL K H a xs) : SqL K H' a xs := by
  exact h.imp_left fun z => z.imp (fun y => g.at t y notbl_lst) fun ⟨o, y⟩ => ⟨o, g.at t y notbl_frz⟩
theorem Gr.seqT {T : List Addr} {K : PySem.W.Frag} {H H' : Hp} {a : Addr} {xs : List V} (g : Gr T H H') (t : TabsG T H) (h : SqT K H a xs) : SqT K H' a xs := by
  exact h.imp_left fun z => z.imp (fun y => g.at t y notbl_tup) fun ⟨o, y⟩ => ⟨o, g.at t y notbl_frz⟩
/-! ### a def whose code object is known -/
structure FunT (K : PySem.W.Frag) (x qual : Str) (st : Stmt) (f c : Addr) (fd : FuncData) : Prop where
  ex : ∃ (oc : Value) (od : Option Addr) (kV doc pm : Value) (an : Option Addr) (ct : Value) (osl : Array (Option Value)),
    fd = PySem.W.fnOf x qual (defArgs st) (defBody st) (defScope st) .none kV doc pm an (.ref c) ct ∧ K.lookup f = some ⟨oc, od, .func fd, osl⟩ ∧ PySem.W.codeIn K (.ref c) qual = true
  kp : (PySem.W.keepIn K (.ref f) = true)
section
variable {K : PySem.W.Frag} {P : Program} {w : World} {base : Heap} {mg : Str → Option Value}
theorem FunT.fun {x qual : Str} {st : Stmt} {f c : Addr} {fd : FuncData} (F : FunT K x qual st f c fd) : Fun K x qual st f fd := by
  obtain ⟨oc, od, kV, doc, pm, an, ct, osl, e, lk, hcd⟩ := F.ex
  exact ⟨⟨oc, od, kV, doc, pm, an, .ref c, ct, osl, e, lk, hcd⟩, F.kp⟩
theorem FunT.ok {x qual : Str} {st : Stmt} {f c : Addr} {fd : FuncData} {N ps : List Str} {k : Nat} {sp : Sp} (F : FunT K x qual st f c fd) (S : FnScope N ps (defScope st)) (len : ∀ vs H Q E, sp vs H Q E → vs.length = ps.length)
    (hbody : ∀ (A : Around) (outer : List Env) (s : Shared) (H : Hp) (vs : List V) (Q : VK) (E : XK), Room k (A.deeper (envOfC qual (defScope st) s.heap.objs.size f (.ref c))) → sp vs H Q E →
      ∃ t, PSs (cxOf CX0 P w K mg base N qual (defScope st) f (.ref c) A outer s H E).nox (defBody st) t ∧ t { nx := fun _ H' => Q .non H', rt := Q } (start N vs) H) : FnOk P w K mg base CX0 (k + 1) f fd ps sp := by
  obtain ⟨oc, od, kV, doc, pm, an, ct, osl, rfl, lk, hcd⟩ := F.ex
  exact fn_of lk hcd S len fun A outer s H vs Q E room asked => (hbody A outer s H vs Q E room asked).elim fun t z => ⟨t, z.1.nox, z.2⟩
end
/-! ### == of plain data -/
section
variable {X : Cx}
def rEqP (K : PySem.W.Frag) : R2 := fun x y H Q => ∃ d e, Dp K H x d ∧ Dp K H y e ∧ d.plain = true ∧ e.plain = true ∧ min d.depth e.depth ≤ 64 ∧ Q (.bl (PyData.eqv d e)) H
def rNeP (K : PySem.W.Frag) : R2 := fun x y H Q => ∃ d e, Dp K H x d ∧ Dp K H y e ∧ d.plain = true ∧ e.plain = true ∧ min d.depth e.depth ≤ 64 ∧ Q (.bl (!PyData.eqv d e)) H
theorem op_eqP (hu : X.A.units + 64 < cLine) : OpR X (compareOp .Eq) (rEqP X.K) := fun pins s σ H x y v u Q I rx ry ⟨d, e, hd, he, sd, se, hm, q⟩ =>
  (Dp.reads I d x v hd rx).elim fun as r1 => (Dp.reads I e y u he ry).elim fun bs r2 => SeqAt.eq_plain r1 r2 sd se (by omega) ⟨.bl _, H, I, rfl, q⟩
theorem op_neP (hu : X.A.units + 64 < cLine) : OpR X (compareOp .NotEq) (rNeP X.K) := fun pins s σ H x y v u Q I rx ry ⟨d, e, hd, he, sd, se, hm, q⟩ =>
  (Dp.reads I d x v hd rx).elim fun as r1 => (Dp.reads I e y u he ry).elim fun bs r2 => SeqAt.ne_plain r1 r2 sd se (by omega) ⟨.bl _, H, I, rfl, q⟩
end
theorem dp_ints {K : PySem.W.Frag} {H : Hp} : ∀ ns : List Int, DpAll K H (ns.map V.int) (ns.map PyData.int)
  | [] => .nil
  | n :: r => .cons (.int n) (dp_ints r)
theorem plain_ints : ∀ ns : List Int, PyData.plainAll (ns.map PyData.int) = true
  | [] => rfl
  | _ :: r => by simp only [List.map_cons, PyData.plainAll, PyData.plain, plain_ints r, Bool.and_self]
theorem dp_strs {K : PySem.W.Frag} {H : Hp} : ∀ ns : List Str, DpAll K H (ns.map V.str) (ns.map PyData.str)
  | [] => .nil
  | n :: r => .cons (.str n) (dp_strs r)
theorem plain_strs : ∀ ns : List Str, PyData.plainAll (ns.map PyData.str) = true
  | [] => rfl
  | _ :: r => by simp only [List.map_cons, PyData.plainAll, PyData.plain, plain_strs r, Bool.and_self]
theorem depth_strs : ∀ ns : List Str, PyData.depthAll (ns.map PyData.str) = 0
  | [] => rfl
  | _ :: r => by simp only [List.map_cons, PyData.depthAll, PyData.depth, depth_strs r, Nat.max_self]
theorem eqv_strs : ∀ xs ys : List Str, PyData.eqvAll (xs.map PyData.str) (ys.map PyData.str) = decide (xs = ys)
  | [], [] => rfl
  | [], _ :: _ => rfl
  | _ :: _, [] => rfl
  | x :: xs, y :: ys => by
    simp only [List.map_cons, PyData.eqvAll, PyData.eqv, eqv_strs xs ys]
    by_cases h : x = y
    · subst h
      by_cases h2 : xs = ys
      · subst h2; simp
      · simp [h2]
    · simp [h]
theorem if0 {c : Bool} {A B : Prop} (hc : c = false) (h : B) : if c = true then A else B := by
  rw [hc, if_neg Bool.false_ne_true]
  exact h
theorem if1 {c : Bool} {A B : Prop} (hc : c = true) (h : A) : if c = true then A else B := by
  rw [if_pos hc]
  exact h
theorem ifne {c d : Bool} {A B : Prop} (hc : c ≠ d) (h : B) : if c = d then A else B := by
  rw [if_neg hc]
  exact h
theorem ifeq {c d : Bool} {A B : Prop} (hc : c = d) (h : A) : if c = d then A else B := by
  rw [if_pos hc]
  exact h
theorem tyes {σ : L2.St} {H : Hp} {A B : Hp → Prop} (h : A H) : tYes σ H (fun b H3 => if b = true then A H3 else B H3) := @iteT (A H) (B H) h
end Hx
/-! A layer of data over the hand layer: what slots hold is told as plain data (Dt), an expression's reading as what is wanted of its data. Below it stand the heap, its frozen part F (objects that nothing changes any more) and its volatile part J (objects that may change, each by its own invariant). -/
namespace Dl
open PySem PySem.Spec PyProof.Rows L2
/-- data -/
inductive Dt where
  | non | bl (b : Bool) | int (i : Int) | str (x : Str) | lst (xs : List Dt) | tup (xs : List Dt) | dic (kvs : List (Key × Dt)) | die | scr (xs : List Dt) | opq (v : V)
/-- what is known of an object that may change; it may lean on where code objects stand -/
structure Vol where
  p : (Addr → Str → Prop) → HO → Prop
  mono : ∀ {C C' : Addr → Str → Prop} {o : HO}, (∀ c q, C c q → C' c q) → p C o → p C' o
  nc : ∀ {C : Addr → Str → Prop} {c : Addr} {q : Str}, ¬ p C (LamX.CodeO c q)
/-- the world: volatile objects, frozen ones, all that is tracked -/
structure Wd where
  J : Addr → Option Vol
  F : Hp
  H : Hp
/-- the code objects of lambdas -/
def cod (s : Wd) (c : Addr) (q : Str) : Prop := s.J c = none ∧ s.H c = some (LamX.CodeO c q)
structure Ok (s : Wd) : Prop where
  sub : ∀ a o, s.F a = some o → s.H a = some o
  vol : ∀ a P, s.J a = some P → ∃ o, s.H a = some o ∧ P.p (cod s) o
  ft : ∀ a P, s.J a = some P → s.F a = none
/-- what an expression may do to the world -/
structure Up (s s' : Wd) : Prop where
  ok : Ok s'
  keep : ∀ b o, s.H b = some o → s.J b = none → s'.H b = some o
  fr : ∀ a o, s.F a = some o → s'.F a = some o
  jr : ∀ a P, s.J a = some P → s'.J a = some P
  nw : ∀ a o, s'.F a = some o → s.F a = none → s.H a = none
  jn : ∀ a P, s'.J a = some P → s.J a = none → s.H a = none
theorem Up.refl {s : Wd} (h : Ok s) : Up s s := ⟨h, fun _ _ e _ => e, fun _ _ e => e, fun _ _ e => e, (fun _ _ e z => by rw [z] at e; cases e), (fun _ _ e z => by rw [z] at e; cases e)⟩
theorem Up.free {s s' : Wd} (u : Up s s') {p : Addr} (h : s'.H p = none) : s.H p = none := by
  cases q : s.H p with
  | none => rfl
  | some o =>
    cases j : s.J p with
    | none =>
      rw [u.keep p o q j] at h
      cases h
    | some P =>
      obtain ⟨o', e, _⟩ := u.ok.vol p P (u.jr p P j)
      rw [e] at h
      cases h
theorem Up.trans {s s1 s2 : Wd} (a : Up s s1) (b : Up s1 s2) : Up s s2 where
  ok := b.ok
  keep := fun c o e j => by
    have e1 := a.keep c o e j
    cases q : s1.J c with
    | none => exact b.keep c o e1 q
    | some P =>
      have := a.jn c P q j
      rw [this] at e
      cases e
  fr := fun c o e => b.fr c o (a.fr c o e)
  jr := fun c P e => b.jr c P (a.jr c P e)
  nw := fun c o e n => by
    cases q : s1.F c with
    | none => exact a.free (b.nw c o e q)
    | some o' => exact a.nw c o' q n
  jn := fun c P e n => by
    cases q : s1.J c with
    | none => exact a.free (b.jn c P e q)
    | some P' => exact a.jn c P' q n
theorem Ok.nof {s : Wd} (h : Ok s) {p : Addr} (n : s.H p = none) : s.F p = none := by
  cases q : s.F p with
  | none => rfl
  | some o => rw [h.sub p o q] at n; cases n
theorem Ok.noj {s : Wd} (h : Ok s) {p : Addr} (n : s.H p = none) : s.J p = none := by
  cases q : s.J p with
  | none => rfl
  | some P =>
    obtain ⟨o, e, _⟩ := h.vol p P q
    rw [e] at n; cases n
/-- a new object, never changed from now on -/
def Wd.lay (s : Wd) (p : Addr) (o : HO) : Wd := ⟨s.J, upd s.F p o, upd s.H p o⟩
/-- a new object that may be changed -/
def Wd.put (s : Wd) (p : Addr) (o : HO) : Wd := ⟨s.J, s.F, upd s.H p o⟩
theorem Up.put {s : Wd} (h : Ok s) {p : Addr} (o : HO) (n : s.H p = none) : Up s (s.put p o) where
  ok := ⟨fun a u e => by show upd s.H p o a = _; rw [upd_ne (ne_of_none (h.sub a u e) n)]; exact h.sub a u e, fun a P e => by
    obtain ⟨u, e1, e2⟩ := h.vol a P e
    exact ⟨u, by show upd s.H p o a = _; rw [upd_ne (ne_of_none e1 n)]; exact e1, P.mono (fun c q z => ⟨z.1, by show upd s.H p o c = _; rw [upd_ne (ne_of_none z.2 n)]; exact z.2⟩) e2⟩, h.ft⟩
  keep := fun b u e _ => by show upd s.H p o b = _; rw [upd_ne (ne_of_none e n)]; exact e
  fr := fun _ _ e => e
  jr := fun _ _ e => e
  nw := fun a u e z => nomatch (z.symm.trans e)
  jn := fun a u e z => nomatch (z.symm.trans e)
theorem Up.lay {s : Wd} (h : Ok s) {p : Addr} (o : HO) (n : s.H p = none) : Up s (s.lay p o) where
  ok := ⟨fun a u e => by
    show upd s.H p o a = _
    by_cases z : a = p
    · subst z
      have e' : upd s.F a o a = some u := e
      rw [upd_same] at e' ⊢; exact e'
    · have e' : upd s.F p o a = some u := e
      rw [upd_ne z] at e' ⊢; exact h.sub a u e', fun a P e => by
    obtain ⟨u, e1, e2⟩ := h.vol a P e
    exact ⟨u, by show upd s.H p o a = _; rw [upd_ne (ne_of_none e1 n)]; exact e1, P.mono (fun c q z => ⟨z.1, by show upd s.H p o c = _; rw [upd_ne (ne_of_none z.2 n)]; exact z.2⟩) e2⟩, fun a P e => by
    obtain ⟨u, e1, e2⟩ := h.vol a P e
    show upd s.F p o a = none
    rw [upd_ne (ne_of_none e1 n)]; exact h.ft a P e⟩
  keep := fun b u e _ => by show upd s.H p o b = _; rw [upd_ne (ne_of_none e n)]; exact e
  fr := fun a u e => by show upd s.F p o a = _; rw [upd_ne (ne_of_none (h.sub a u e) n)]; exact e
  jr := fun _ _ e => e
  nw := fun a u e z => by
    by_cases y : a = p
    · subst y; exact n
    · have e' : upd s.F p o a = some u := e
      rw [upd_ne y, z] at e'; cases e'
  jn := fun a u e z => nomatch (z.symm.trans e)
theorem cod_turn {s : Wd} {p : Addr} {P : Vol} {H' : Hp} (j : s.J p = some P) (off : ∀ b, b ≠ p → H' b = s.H b) : ∀ c q, cod s c q → cod ⟨s.J, s.F, H'⟩ c q := fun c q z => by
  have : c ≠ p := fun y => by rw [y] at z; rw [z.1] at j; cases j
  refine ⟨z.1, ?_⟩
  show H' c = _
  rw [off c this]; exact z.2
/-- a volatile object has changed -/
theorem Up.turn {s : Wd} (h : Ok s) {p : Addr} {P : Vol} {H' : Hp} (j : s.J p = some P) (at_ : ∃ o, H' p = some o ∧ P.p (cod s) o) (off : ∀ b, b ≠ p → H' b = s.H b) : Up s ⟨s.J, s.F, H'⟩ where
  ok := ⟨fun a u e => by
    have : a ≠ p := fun z => by rw [z, h.ft p P j] at e; cases e
    show H' a = _
    rw [off a this]; exact h.sub a u e, fun a Q e => by
    by_cases z : a = p
    · subst z
      rw [show s.J a = _ from j] at e
      cases e
      obtain ⟨o, e1, e2⟩ := at_
      exact ⟨o, e1, P.mono (cod_turn j off) e2⟩
    · obtain ⟨u, e1, e2⟩ := h.vol a Q e
      exact ⟨u, by show H' a = _; rw [off a z]; exact e1, Q.mono (cod_turn j off) e2⟩, h.ft⟩
  keep := fun b u e n => by
    have : b ≠ p := fun z => by rw [z, j] at n; cases n
    show H' b = _
    rw [off b this]; exact e
  fr := fun _ _ e => e
  jr := fun _ _ e => e
  nw := fun a u e z => nomatch (z.symm.trans e)
  jn := fun a u e z => nomatch (z.symm.trans e)
/-- a die: two whole numbers that change -/
def Die : Vol := ⟨fun _ o => ∃ x y : Int, o = .lst [.int x, .int y], fun _ h => h, fun ⟨_, _, z⟩ => nomatch z⟩
/-- a code object's table -/
def Tb : Vol := ⟨fun _ o => ∃ ps, o = .tbl ps ∧ TriplesOk ps.toList, fun _ h => h, fun ⟨_, z, _⟩ => nomatch z⟩
/-- .. of the lambdas named q -/
def Lt (q : Str) : Vol := ⟨fun C o => ∃ ps, o = .tbl ps ∧ TriplesOk ps.toList ∧ ∀ (pos : Pos) (cv : Value), codeAmong pos ps.toList = some cv → ∃ c, cv = .ref c ∧ C c q, fun m ⟨ps, e, t, k⟩ => ⟨ps, e, t, fun pos cv z => let ⟨c, e1, e2⟩ := k pos cv z; ⟨c, e1, m c _ e2⟩⟩, fun ⟨_, z, _⟩ => nomatch z⟩
mutual
/-- a value stands for data -/
inductive Rv (J : Addr → Option Vol) (F : Hp) : V → Dt → Prop
  | non : Rv J F .non .non
  | bl (b : Bool) : Rv J F (.bl b) (.bl b)
  | int (i : Int) : Rv J F (.int i) (.int i)
  | str (x : Str) : Rv J F (.str x) (.str x)
  | lst {a : Addr} {xs : List V} {ds : List Dt} : F a = some (.lst xs) → Rvs J F xs ds → Rv J F (.ref a) (.lst ds)
  | tup {a : Addr} {xs : List V} {ds : List Dt} : F a = some (.tup xs) → Rvs J F xs ds → Rv J F (.ref a) (.tup ds)
  | dic {a : Addr} {o : Obj} {kvs : List (Key × V)} {ds : List (Key × Dt)} : F a = some (.frz o (.dK kvs)) → Rks J F kvs ds → Rv J F (.ref a) (.dic ds)
  | die {a : Addr} : J a = some Die → Rv J F (.ref a) .die
  /-- a list that is known to the object: the script -/
  | scr {a : Addr} {xs : List V} {ds : List Dt} : Rd F a (.lst xs) → Rvs J F xs ds → Rv J F (.ref a) (.scr ds)
  | opq (v : V) : Rv J F v (.opq v)
inductive Rvs (J : Addr → Option Vol) (F : Hp) : List V → List Dt → Prop
  | nil : Rvs J F [] []
  | cons {v : V} {vs : List V} {d : Dt} {ds : List Dt} : Rv J F v d → Rvs J F vs ds → Rvs J F (v :: vs) (d :: ds)
inductive Rks (J : Addr → Option Vol) (F : Hp) : List (Key × V) → List (Key × Dt) → Prop
  | nil : Rks J F [] []
  | cons {k : Key} {v : V} {vs : List (Key × V)} {d : Dt} {ds : List (Key × Dt)} : Rv J F v d → Rks J F vs ds → Rks J F ((k, v) :: vs) ((k, d) :: ds)
end
section
variable {J J' : Addr → Option Vol} {F F' : Hp}
theorem rd_fw (hF : ∀ a o, F a = some o → F' a = some o) {a : Addr} {u : HO} (h : Rd F a u) : Rd F' a u := h.imp (hF a u) fun ⟨o, e⟩ => ⟨o, hF a _ e⟩
mutual
theorem Rv.fw (hF : ∀ a o, F a = some o → F' a = some o) (hJ : ∀ a P, J a = some P → J' a = some P) : ∀ {v : V} {d : Dt}, Rv J F v d → Rv J' F' v d
  | _, _, .non => .non
  | _, _, .bl b => .bl b
  | _, _, .int i => .int i
  | _, _, .str x => .str x
  | _, _, .lst h r => .lst (hF _ _ h) (Rvs.fw hF hJ r)
  | _, _, .tup h r => .tup (hF _ _ h) (Rvs.fw hF hJ r)
  | _, _, .dic h r => .dic (hF _ _ h) (Rks.fw hF hJ r)
  | _, _, .die h => .die (hJ _ _ h)
  | _, _, .scr h r => .scr (rd_fw hF h) (Rvs.fw hF hJ r)
  | _, _, .opq v => .opq v
theorem Rvs.fw (hF : ∀ a o, F a = some o → F' a = some o) (hJ : ∀ a P, J a = some P → J' a = some P) : ∀ {v : List V} {d : List Dt}, Rvs J F v d → Rvs J' F' v d
  | _, _, .nil => .nil
  | _, _, .cons h r => .cons (Rv.fw hF hJ h) (Rvs.fw hF hJ r)
theorem Rks.fw (hF : ∀ a o, F a = some o → F' a = some o) (hJ : ∀ a P, J a = some P → J' a = some P) : ∀ {v : List (Key × V)} {d : List (Key × Dt)}, Rks J F v d → Rks J' F' v d
  | _, _, .nil => .nil
  | _, _, .cons h r => .cons (Rv.fw hF hJ h) (Rks.fw hF hJ r)
end
theorem Rvs.length : ∀ {vs : List V} {ds : List Dt}, Rvs J F vs ds → vs.length = ds.length
  | _, _, .nil => rfl
  | _, _, .cons _ r => by rw [List.length_cons, List.length_cons, r.length]
theorem Rvs.at : ∀ {vs : List V} {ds : List Dt} {i : Nat} {d : Dt}, Rvs J F vs ds → ds[i]? = some d → ∃ v, vs[i]? = some v ∧ Rv J F v d
  | _, _, _, _, .nil, no => by cases no
  | _, _, 0, _, .cons h _, e => by simp at e; subst e; exact ⟨_, rfl, h⟩
  | _, _, i + 1, d, .cons _ r, e => by
    obtain ⟨v, h1, h2⟩ := r.at (i := i) (d := d) (by simpa using e)
    exact ⟨v, by simpa using h1, h2⟩
theorem Rvs.at' : ∀ {vs : List V} {ds : List Dt} {i : Nat} {v : V}, Rvs J F vs ds → vs[i]? = some v → ∃ d, ds[i]? = some d ∧ Rv J F v d
  | _, _, _, _, .nil, no => by cases no
  | _, _, 0, _, .cons h _, e => by simp at e; subst e; exact ⟨_, rfl, h⟩
  | _, _, i + 1, d, .cons _ r, e => by
    obtain ⟨v, h1, h2⟩ := r.at' (i := i) (v := d) (by simpa using e)
    exact ⟨v, by simpa using h1, h2⟩
theorem Rvs.append : ∀ {vs ws : List V} {ds es : List Dt}, Rvs J F vs ds → Rvs J F ws es → Rvs J F (vs ++ ws) (ds ++ es)
  | _, _, _, _, .nil, q => q
  | _, _, _, _, .cons h r, q => .cons h (r.append q)
theorem Rvs.set {v : V} {d : Dt} (q : Rv J F v d) : ∀ {vs : List V} {ds : List Dt} (i : Nat), Rvs J F vs ds → Rvs J F (vs.set i v) (ds.set i d)
  | _, _, _, .nil => .nil
  | _, _, 0, .cons _ r => .cons q r
  | _, _, i + 1, .cons h r => .cons h (Rvs.set q i r)
theorem Rvs.take : ∀ {vs : List V} {ds : List Dt} (n : Nat), Rvs J F vs ds → Rvs J F (vs.take n) (ds.take n)
  | _, _, 0, _ => .nil
  | _, _, _ + 1, .nil => .nil
  | _, _, n + 1, .cons h r => .cons h (Rvs.take n r)
theorem Rvs.drop : ∀ {vs : List V} {ds : List Dt} (n : Nat), Rvs J F vs ds → Rvs J F (vs.drop n) (ds.drop n)
  | _, _, 0, r => r
  | _, _, _ + 1, .nil => .nil
  | _, _, n + 1, .cons _ r => Rvs.drop n r
theorem Rvs.reverse : ∀ {vs : List V} {ds : List Dt}, Rvs J F vs ds → Rvs J F vs.reverse ds.reverse
  | _, _, .nil => .nil
  | _, _, .cons h r => by
    simp only [List.reverse_cons]
    exact r.reverse.append (.cons h .nil)
theorem Rvs.rep {vs : List V} {ds : List Dt} (h : Rvs J F vs ds) : ∀ n : Nat, Rvs J F (List.replicate n vs).flatten (List.replicate n ds).flatten
  | 0 => .nil
  | n + 1 => by
    simp only [List.replicate_succ, List.flatten_cons]
    exact h.append (Rvs.rep h n)
end
/-! ### slots -/
/-- an object of our own -/
inductive Ob where
  | l (ds : List Dt) | d (kvs : List (Key × Dt))
inductive RvO (J : Addr → Option Vol) (F : Hp) : HO → Ob → Prop
  | l {vs : List V} {ds : List Dt} : Rvs J F vs ds → RvO J F (.lst vs) (.l ds)
  | d {ws : List (Key × V)} {kvs : List (Key × Dt)} : Rks J F ws kvs → RvO J F (.dK ws) (.d kvs)
theorem RvO.fw {J J' : Addr → Option Vol} {F F' : Hp} (hF : ∀ a o, F a = some o → F' a = some o) (hJ : ∀ a P, J a = some P → J' a = some P) {h : HO} {o : Ob} (r : RvO J F h o) : RvO J' F' h o := by
  cases r with
  | l r => exact .l (r.fw hF hJ)
  | d r => exact .d (r.fw hF hJ)
theorem RvO.nc {J : Addr → Option Vol} {F : Hp} {h : HO} {o : Ob} (r : RvO J F h o) {c : Addr} {q : Str} : h ≠ LamX.CodeO c q := by
  intro z
  cases r <;> cases z
theorem RvO.lst {J : Addr → Option Vol} {F : Hp} {h : HO} {ds : List Dt} (r : RvO J F h (.l ds)) : ∃ vs, h = .lst vs ∧ Rvs J F vs ds := by
  cases r with
  | l r => exact ⟨_, rfl, r⟩
theorem RvO.dic {J : Addr → Option Vol} {F : Hp} {h : HO} {ds : List (Key × Dt)} (r : RvO J F h (.d ds)) : ∃ vs, h = .dK vs ∧ Rks J F vs ds := by
  cases r with
  | d r => exact ⟨_, rfl, r⟩
inductive Sl where
  | no | va (d : Dt) | ow (o : Ob)
abbrev Env := List Sl
noncomputable def eg (ρ : Env) (i : Nat) : Sl := List.rec (motive := fun _ => Nat → Sl) (fun _ => .no) (fun x _ ih i => Nat.rec x (fun j _ => ih j) i) ρ i
noncomputable def ep (ρ : Env) (i : Nat) (y : Sl) : Env := List.rec (motive := fun _ => Nat → Env) (fun _ => []) (fun x r ih i => Nat.rec (y :: r) (fun j _ => x :: ih j) i) ρ i
theorem ep_len : ∀ (ρ : Env) (i : Nat) (y : Sl), (ep ρ i y).length = ρ.length
  | [], _, _ => rfl
  | _ :: _, 0, _ => rfl
  | _ :: r, i + 1, y => by show (_ :: ep r i y).length = _; rw [List.length_cons, List.length_cons, ep_len r i y]
theorem eg_ne : ∀ (ρ : Env) (i j : Nat) (y : Sl), j ≠ i → eg (ep ρ i y) j = eg ρ j
  | [], _, _, _, _ => rfl
  | _ :: _, 0, 0, _, h => absurd rfl h
  | _ :: _, 0, _ + 1, _, _ => rfl
  | _ :: _, _ + 1, 0, _, _ => rfl
  | _ :: r, i + 1, j + 1, y, h => eg_ne r i j y (fun z => h (by rw [z]))
theorem eg_ep : ∀ (ρ : Env) (i : Nat) (y : Sl), i < ρ.length → eg (ep ρ i y) i = y
  | [], _, _, no => nomatch (Nat.not_lt_zero _ no)
  | _ :: _, 0, _, _ => rfl
  | _ :: r, i + 1, y, h => eg_ep r i y (Nat.lt_of_succ_lt_succ h)
theorem eg_lt : ∀ {ρ : Env} {i : Nat}, eg ρ i ≠ .no → i < ρ.length
  | [], _, h => absurd rfl h
  | _ :: _, 0, _ => Nat.succ_pos _
  | _ :: r, i + 1, h => Nat.succ_lt_succ (eg_lt (ρ := r) h)
/-- the slots' values stand for the env's data, in the world s that came of s0 -/
structure Rp (s0 s : Wd) (ρ : Env) (σ : L2.St) : Prop where
  up : Up s0 s
  len : σ.length = ρ.length
  va : ∀ i d, eg ρ i = .va d → ∃ v, σ[i]? = some (some v) ∧ Rv s.J s.F v d
  ow : ∀ i ob, eg ρ i = .ow ob → ∃ a ho, σ[i]? = some (some (.ref a)) ∧ s.H a = some ho ∧ s.F a = none ∧ s.J a = none ∧ s0.H a = none ∧ RvO s.J s.F ho ob
  ap : ∀ i j ds es a, eg ρ i = .ow ds → eg ρ j = .ow es → σ[i]? = some (some (.ref a)) → σ[j]? = some (some (.ref a)) → i = j
section
variable {s0 s s' : Wd} {ρ : Env} {σ : L2.St}
theorem Rp.ok (h : Rp s0 s ρ σ) : Ok s := h.up.ok
theorem Rv.up {v : V} {d : Dt} (h : Rv s.J s.F v d) (u : Up s s') : Rv s'.J s'.F v d := h.fw u.fr u.jr
theorem Rvs.up {v : List V} {d : List Dt} (h : Rvs s.J s.F v d) (u : Up s s') : Rvs s'.J s'.F v d := h.fw u.fr u.jr
theorem RvO.up {v : HO} {d : Ob} (h : RvO s.J s.F v d) (u : Up s s') : RvO s'.J s'.F v d := h.fw u.fr u.jr
theorem Rp.up' (h : Rp s0 s ρ σ) (u : Up s s') : Rp s0 s' ρ σ where
  up := h.up.trans u
  len := h.len
  va := fun i d e => let ⟨v, e1, e2⟩ := h.va i d e; ⟨v, e1, e2.up u⟩
  ow := fun i ds e => by
    obtain ⟨a, vs, e1, e2, e3, e4, e5, e6⟩ := h.ow i ds e
    refine ⟨a, vs, e1, u.keep a _ e2 e4, ?_, ?_, e5, e6.up u⟩
    · cases q : s'.F a with
      | none => rfl
      | some o => rw [u.nw a o q e3] at e2; cases e2
    · cases q : s'.J a with
      | none => rfl
      | some o => rw [u.jn a o q e4] at e2; cases e2
  ap := h.ap
theorem set_other {σ : L2.St} {i j : Nat} {x : Option V} (h : j ≠ i) : (σ.set i x)[j]? = σ[j]? := List.getElem?_set_ne (Ne.symm h)
/-- a slot gets data -/
theorem Rp.set (h : Rp s0 s ρ σ) (i : Nat) {v : V} {d : Dt} (r : Rv s.J s.F v d) : Rp s0 s (ep ρ i (.va d)) (σ.set i (some v)) where
  up := h.up
  len := by rw [List.length_set, ep_len]; exact h.len
  va := fun j e q => by
    by_cases z : j = i
    · subst z
      have hl : j < ρ.length := by rw [← ep_len ρ j (.va d)]; exact eg_lt (by rw [q]; exact fun z => nomatch z)
      rw [eg_ep _ _ _ hl] at q
      cases q
      exact ⟨v, List.getElem?_set_self (by rw [h.len]; exact hl), r⟩
    · rw [eg_ne _ _ _ _ z] at q
      rw [set_other z]
      exact h.va j e q
  ow := fun j ds q => by
    by_cases z : j = i
    · subst z
      have hl : j < ρ.length := by rw [← ep_len ρ j (.va d)]; exact eg_lt (by rw [q]; exact fun z => nomatch z)
      rw [eg_ep _ _ _ hl] at q
      cases q
    · rw [eg_ne _ _ _ _ z] at q
      rw [set_other z]
      exact h.ow j ds q
  ap := fun j k ds es a q1 q2 e1 e2 => by
    have out : ∀ {j : Nat} {ds : Ob}, eg (ep ρ i (.va d)) j = .ow ds → j ≠ i := fun {j ds} q z => by
      subst z
      have hl : j < ρ.length := by rw [← ep_len ρ j (.va d)]; exact eg_lt (by rw [q]; exact fun z => nomatch z)
      rw [eg_ep _ _ _ hl] at q
      cases q
    have z1 := out q1
    have z2 := out q2
    rw [eg_ne _ _ _ _ z1] at q1
    rw [eg_ne _ _ _ _ z2] at q2
    rw [set_other z1] at e1
    rw [set_other z2] at e2
    exact h.ap j k ds es a q1 q2 e1 e2
/-- a slot is forgotten -/
theorem Rp.forget (h : Rp s0 s ρ σ) (i : Nat) (x : Option V) : Rp s0 s (ep ρ i .no) (σ.set i x) where
  up := h.up
  len := by rw [List.length_set, ep_len]; exact h.len
  va := fun j e q => by
    by_cases z : j = i
    · subst z
      have hl : j < ρ.length := by rw [← ep_len ρ j .no]; exact eg_lt (by rw [q]; exact fun z => nomatch z)
      rw [eg_ep _ _ _ hl] at q
      cases q
    · rw [eg_ne _ _ _ _ z] at q
      rw [set_other z]
      exact h.va j e q
  ow := fun j ds q => by
    by_cases z : j = i
    · subst z
      have hl : j < ρ.length := by rw [← ep_len ρ j .no]; exact eg_lt (by rw [q]; exact fun z => nomatch z)
      rw [eg_ep _ _ _ hl] at q
      cases q
    · rw [eg_ne _ _ _ _ z] at q
      rw [set_other z]
      exact h.ow j ds q
  ap := fun j k ds es a q1 q2 e1 e2 => by
    have out : ∀ {j : Nat} {ds : Ob}, eg (ep ρ i .no) j = .ow ds → j ≠ i := fun {j ds} q z => by
      subst z
      have hl : j < ρ.length := by rw [← ep_len ρ j .no]; exact eg_lt (by rw [q]; exact fun z => nomatch z)
      rw [eg_ep _ _ _ hl] at q
      cases q
    have z1 := out q1
    have z2 := out q2
    rw [eg_ne _ _ _ _ z1] at q1
    rw [eg_ne _ _ _ _ z2] at q2
    rw [set_other z1] at e1
    rw [set_other z2] at e2
    exact h.ap j k ds es a q1 q2 e1 e2
/-- a slot gets a list of its own -/
theorem Rp.setOw (h : Rp s0 s ρ σ) (i : Nat) {a : Addr} {vs : HO} {ds : Ob} (e2 : s.H a = some vs) (e3 : s.F a = none) (e4 : s.J a = none) (e5 : s0.H a = none) (e6 : RvO s.J s.F vs ds) (alone : ∀ j es, j ≠ i → eg ρ j = .ow es → σ[j]? ≠ some (some (.ref a))) :
    Rp s0 s (ep ρ i (.ow ds)) (σ.set i (some (.ref a))) where
  up := h.up
  len := by rw [List.length_set, ep_len]; exact h.len
  va := fun j e q => by
    by_cases z : j = i
    · subst z
      have hl : j < ρ.length := by rw [← ep_len ρ j (.ow ds)]; exact eg_lt (by rw [q]; exact fun z => nomatch z)
      rw [eg_ep _ _ _ hl] at q
      cases q
    · rw [eg_ne _ _ _ _ z] at q
      rw [set_other z]
      exact h.va j e q
  ow := fun j es q => by
    by_cases z : j = i
    · subst z
      have hl : j < ρ.length := by rw [← ep_len ρ j (.ow ds)]; exact eg_lt (by rw [q]; exact fun z => nomatch z)
      rw [eg_ep _ _ _ hl] at q
      cases q
      exact ⟨a, vs, List.getElem?_set_self (by rw [h.len]; exact hl), e2, e3, e4, e5, e6⟩
    · rw [eg_ne _ _ _ _ z] at q
      rw [set_other z]
      exact h.ow j es q
  ap := fun j k es fs b q1 q2 f1 f2 => by
    by_cases z1 : j = i
    · by_cases z2 : k = i
      · rw [z1, z2]
      · subst z1
        have hl : j < ρ.length := by rw [← ep_len ρ j (.ow ds)]; exact eg_lt (by rw [q1]; exact fun z => nomatch z)
        rw [List.getElem?_set_self (by rw [h.len]; exact hl)] at f1
        cases f1
        rw [eg_ne _ _ _ _ z2] at q2
        rw [set_other z2] at f2
        exact absurd f2 (alone k fs z2 q2)
    · by_cases z2 : k = i
      · subst z2
        have hl : k < ρ.length := by rw [← ep_len ρ k (.ow ds)]; exact eg_lt (by rw [q2]; exact fun z => nomatch z)
        rw [List.getElem?_set_self (by rw [h.len]; exact hl)] at f2
        cases f2
        rw [eg_ne _ _ _ _ z1] at q1
        rw [set_other z1] at f1
        exact absurd f1 (alone j es z1 q1)
      · rw [eg_ne _ _ _ _ z1] at q1
        rw [eg_ne _ _ _ _ z2] at q2
        rw [set_other z1] at f1
        rw [set_other z2] at f2
        exact h.ap j k es fs b q1 q2 f1 f2
/-- an own list is written -/
theorem Rp.write (h : Rp s0 s ρ σ) {i : Nat} {ds ds' : Ob} {a : Addr} {vs' : HO} (hi : eg ρ i = .ow ds) (hs : σ[i]? = some (some (.ref a))) (r : RvO s.J s.F vs' ds') : Rp s0 (s.put a vs') (ep ρ i (.ow ds')) σ := by
  obtain ⟨a', vs, e1, e2, e3, e4, e5, e6⟩ := h.ow i ds hi
  rw [hs] at e1
  cases e1
  have hl : i < ρ.length := eg_lt (by rw [hi]; exact fun z => nomatch z)
  have up : Up s0 (s.put a vs') :=
    { ok := ⟨fun b u e => by
        show upd s.H a vs' b = _
        have : b ≠ a := fun z => by rw [z] at e; rw [show s.F a = _ from e] at e3; cases e3
        rw [upd_ne this]; exact h.ok.sub b u e, fun b P e => by
        have : b ≠ a := fun z => by rw [z] at e; rw [show s.J a = _ from e] at e4; cases e4
        obtain ⟨u, q1, q2⟩ := h.ok.vol b P e
        exact ⟨u, by show upd s.H a vs' b = _; rw [upd_ne this]; exact q1, P.mono (fun c q z => ⟨z.1, by
          show upd s.H a vs' c = _
          have : c ≠ a := fun y => by rw [y] at z; exact e6.nc (Option.some.inj (e2.symm.trans z.2))
          rw [upd_ne this]; exact z.2⟩) q2⟩, h.ok.ft⟩
      keep := fun b o e j => by
        show upd s.H a vs' b = _
        rw [upd_ne (ne_of_none e e5)]; exact h.up.keep b o e j
      fr := h.up.fr, jr := h.up.jr, nw := h.up.nw, jn := h.up.jn }
  refine ⟨up, by rw [ep_len]; exact h.len, fun j d q => ?_, fun j es q => ?_, fun j k es fs b q1 q2 f1 f2 => ?_⟩
  · by_cases z : j = i
    · subst z
      rw [eg_ep _ _ _ hl] at q
      cases q
    · rw [eg_ne _ _ _ _ z] at q
      exact h.va j d q
  · by_cases z : j = i
    · subst z
      rw [eg_ep _ _ _ hl] at q
      cases q
      exact ⟨a, vs', hs, upd_same, e3, e4, e5, r⟩
    · rw [eg_ne _ _ _ _ z] at q
      obtain ⟨b, ws, q1, q2, q3, q4, q5, q6⟩ := h.ow j es q
      refine ⟨b, ws, q1, ?_, q3, q4, q5, q6⟩
      show upd s.H a vs' b = _
      have : b ≠ a := fun y => by
        subst y
        exact z (h.ap j i es ds b q hi q1 hs)
      rw [upd_ne this]; exact q2
  · have back : ∀ {j : Nat} {es : Ob}, eg (ep ρ i (.ow ds')) j = .ow es → ∃ es', eg ρ j = .ow es' := fun {j es} q => by
      by_cases z : j = i
      · subst z; exact ⟨_, hi⟩
      · rw [eg_ne _ _ _ _ z] at q; exact ⟨_, q⟩
    obtain ⟨_, b1⟩ := back q1
    obtain ⟨_, b2⟩ := back q2
    exact h.ap j k _ _ b b1 b2 f1 f2
/-- an own list is frozen -/
def Wd.ice (s : Wd) (a : Addr) (o : HO) : Wd := ⟨s.J, upd s.F a o, s.H⟩
theorem Rp.freeze (h : Rp s0 s ρ σ) {i : Nat} {ds : List Dt} (hi : eg ρ i = .ow (.l ds)) : ∃ s', s'.H = s.H ∧ Rp s0 s' (ep ρ i (.va (.lst ds))) σ ∧ (∀ a o, s.F a = some o → s'.F a = some o) ∧ s'.J = s.J := by
  obtain ⟨a, ho, e1, e2, e3, e4, e5, e0⟩ := h.ow i _ hi
  obtain ⟨vs, rfl, e6⟩ := e0.lst
  have hl : i < ρ.length := eg_lt (by rw [hi]; exact fun z => nomatch z)
  have fr : ∀ b o, s.F b = some o → upd s.F a (.lst vs) b = some o := fun b o e => by
    have : b ≠ a := fun z => by rw [z, e3] at e; cases e
    rw [upd_ne this]; exact e
  have up : Up s0 (s.ice a (.lst vs)) :=
    { ok := ⟨fun b u e => by
        by_cases z : b = a
        · subst z
          have e' : upd s.F b (.lst vs) b = some u := e
          rw [upd_same] at e'
          cases e'; exact e2
        · have e' : upd s.F a (.lst vs) b = some u := e
          rw [upd_ne z] at e'
          exact h.ok.sub b u e', h.ok.vol, fun b P e => by
        have : b ≠ a := fun z => by rw [z] at e; rw [show s.J a = _ from e] at e4; cases e4
        show upd s.F a (.lst vs) b = none
        rw [upd_ne this]; exact h.ok.ft b P e⟩
      keep := h.up.keep
      fr := fun b o e => fr b o (h.up.fr b o e)
      jr := h.up.jr
      nw := fun b o e n => by
        by_cases z : b = a
        · subst z; exact e5
        · have e' : upd s.F a (.lst vs) b = some o := e
          rw [upd_ne z] at e'
          exact h.up.nw b o e' n
      jn := h.up.jn }
  refine ⟨s.ice a (.lst vs), rfl, ⟨up, by rw [ep_len]; exact h.len, fun j d q => ?_, fun j es q => ?_, fun j k es fs b q1 q2 f1 f2 => ?_⟩, fr, rfl⟩
  · by_cases z : j = i
    · subst z
      rw [eg_ep _ _ _ hl] at q
      cases q
      exact ⟨.ref a, e1, .lst upd_same (e6.fw fr fun _ _ e => e)⟩
    · rw [eg_ne _ _ _ _ z] at q
      obtain ⟨v, q1, q2⟩ := h.va j d q
      exact ⟨v, q1, q2.fw fr fun _ _ e => e⟩
  · by_cases z : j = i
    · subst z
      rw [eg_ep _ _ _ hl] at q
      cases q
    · rw [eg_ne _ _ _ _ z] at q
      obtain ⟨b, ws, q1, q2, q3, q4, q5, q6⟩ := h.ow j es q
      refine ⟨b, ws, q1, q2, ?_, q4, q5, q6.fw fr fun _ _ e => e⟩
      show upd s.F a (.lst vs) b = none
      have : b ≠ a := fun y => by
        subst y
        exact z (h.ap j i es _ b q hi q1 e1)
      rw [upd_ne this]; exact q3
  · have back : ∀ {j : Nat} {es : Ob}, eg (ep ρ i (.va (.lst ds))) j = .ow es → eg ρ j = .ow es := fun {j es} q => by
      by_cases z : j = i
      · subst z
        rw [eg_ep _ _ _ hl] at q
        cases q
      · rw [eg_ne _ _ _ _ z] at q; exact q
    exact h.ap j k _ _ b (back q1) (back q2) f1 f2
/-- an own dict is frozen; od is what stands in the heap -/
theorem Rp.iceD (h : Rp s0 s ρ σ) {i : Nat} {ds : List (Key × Dt)} (hi : eg ρ i = .ow (.d ds)) : ∃ a ws, s.H a = some (.dK ws) ∧ s.F a = none ∧ σ[i]? = some (some (.ref a)) ∧ ∀ od, Rp s0 ⟨s.J, upd s.F a (.frz od (.dK ws)), upd s.H a (.frz od (.dK ws))⟩ (ep ρ i (.va (.dic ds))) σ := by
  obtain ⟨a, ho, e1, e2, e3, e4, e5, e0⟩ := h.ow i _ hi
  obtain ⟨vs, rfl, e6⟩ := e0.dic
  refine ⟨a, vs, e2, e3, e1, fun od => ?_⟩
  have hl : i < ρ.length := eg_lt (by rw [hi]; exact fun z => nomatch z)
  have fr : ∀ b o, s.F b = some o → upd s.F a (.frz od (.dK vs)) b = some o := fun b o e => by
    have : b ≠ a := fun z => by rw [z, e3] at e; cases e
    rw [upd_ne this]; exact e
  have up : Up s0 ⟨s.J, upd s.F a (.frz od (.dK vs)), upd s.H a (.frz od (.dK vs))⟩ :=
    { ok := ⟨fun b u e => by
        by_cases z : b = a
        · subst z
          have e' : upd s.F b (.frz od (.dK vs)) b = some u := e
          show upd s.H b (.frz od (.dK vs)) b = some u
          rw [upd_same] at e' ⊢
          exact e'
        · have e' : upd s.F a (.frz od (.dK vs)) b = some u := e
          show upd s.H a (.frz od (.dK vs)) b = some u
          rw [upd_ne z] at e' ⊢
          exact h.ok.sub b u e', fun b P e => by
        have : b ≠ a := fun z => by rw [z] at e; rw [show s.J a = _ from e] at e4; cases e4
        obtain ⟨u, q1, q2⟩ := h.ok.vol b P e
        exact ⟨u, by show upd s.H a _ b = _; rw [upd_ne this]; exact q1, P.mono (fun c q z => ⟨z.1, by
          show upd s.H a _ c = _
          have : c ≠ a := fun y => by rw [y] at z; exact e0.nc (Option.some.inj (e2.symm.trans z.2))
          rw [upd_ne this]; exact z.2⟩) q2⟩, fun b P e => by
        have : b ≠ a := fun z => by rw [z] at e; rw [show s.J a = _ from e] at e4; cases e4
        show upd s.F a _ b = none
        rw [upd_ne this]; exact h.ok.ft b P e⟩
      keep := fun b o e j => by
        show upd s.H a _ b = _
        rw [upd_ne (ne_of_none e e5)]; exact h.up.keep b o e j
      fr := fun b o e => fr b o (h.up.fr b o e)
      jr := h.up.jr
      nw := fun b o e n => by
        by_cases z : b = a
        · subst z; exact e5
        · have e' : upd s.F a (.frz od (.dK vs)) b = some o := e
          rw [upd_ne z] at e'
          exact h.up.nw b o e' n
      jn := h.up.jn }
  refine ⟨up, by rw [ep_len]; exact h.len, fun j d q => ?_, fun j es q => ?_, fun j k es fs b q1 q2 f1 f2 => ?_⟩
  · by_cases z : j = i
    · subst z
      rw [eg_ep _ _ _ hl] at q
      cases q
      exact ⟨.ref a, e1, .dic upd_same (e6.fw fr fun _ _ e => e)⟩
    · rw [eg_ne _ _ _ _ z] at q
      obtain ⟨v, q1, q2⟩ := h.va j d q
      exact ⟨v, q1, q2.fw fr fun _ _ e => e⟩
  · by_cases z : j = i
    · subst z
      rw [eg_ep _ _ _ hl] at q
      cases q
    · rw [eg_ne _ _ _ _ z] at q
      obtain ⟨b, ws, q1, q2, q3, q4, q5, q6⟩ := h.ow j es q
      have nb : b ≠ a := fun y => by
        subst y
        exact z (h.ap j i es _ b q hi q1 e1)
      exact ⟨b, ws, q1, by show upd s.H a _ b = _; rw [upd_ne nb]; exact q2, by show upd s.F a _ b = none; rw [upd_ne nb]; exact q3, q4, q5, q6.fw fr fun _ _ e => e⟩
  · have back : ∀ {j : Nat} {es : Ob}, eg (ep ρ i (.va (.dic ds))) j = .ow es → eg ρ j = .ow es := fun {j es} q => by
      by_cases z : j = i
      · subst z
        rw [eg_ep _ _ _ hl] at q
        cases q
      · rw [eg_ne _ _ _ _ z] at q; exact q
    exact h.ap j k _ _ b (back q1) (back q2) f1 f2
end
end Dl
/-! readings over data, and how they stand under the hand layer's own -/
namespace Dl
open PySem PySem.Spec PyProof.Rows L2
abbrev DE := Env → (Dt → Prop) → Prop
abbrev DT := Env → (Bool → Prop) → Prop
abbrev DA := Env → (List Dt → Prop) → Prop
abbrev DG := Dt → Env → (Env → Prop) → Prop
structure EndsD where
  nx : Env → Prop
  rt : Dt → Prop
  bk : Env → Prop := fun _ => False
  ct : Env → Prop := fun _ => False
abbrev DS := EndsD → Env → Prop
/-- what stays through statements -/
structure Fw (s s' : Wd) : Prop where
  ok : Ok s'
  fr : ∀ a o, s.F a = some o → s'.F a = some o
  jr : ∀ a P, s.J a = some P → s'.J a = some P
theorem Fw.refl {s : Wd} (h : Ok s) : Fw s s := ⟨h, fun _ _ e => e, fun _ _ e => e⟩
theorem Fw.trans {s s1 s2 : Wd} (a : Fw s s1) (b : Fw s1 s2) : Fw s s2 := ⟨b.ok, fun c o e => b.fr c o (a.fr c o e), fun c o e => b.jr c o (a.jr c o e)⟩
theorem Up.fw {s s' : Wd} (u : Up s s') : Fw s s' := ⟨u.ok, u.fr, u.jr⟩
theorem Rv.fws {s s' : Wd} {v : V} {d : Dt} (h : Rv s.J s.F v d) (u : Fw s s') : Rv s'.J s'.F v d := h.fw u.fr u.jr
/-! ### the canonical readings -/
noncomputable def cE (s0 : Wd) (t : DE) : TE := fun σ H Q => ∃ s ρ q, s.H = H ∧ Rp s0 s ρ σ ∧ t ρ q ∧ ∀ d v s', q d → Up s s' → Rv s'.J s'.F v d → Q v s'.H
noncomputable def cT (s0 : Wd) (t : DT) : TT := fun σ H Q => ∃ s ρ q, s.H = H ∧ Rp s0 s ρ σ ∧ t ρ q ∧ ∀ b s', q b → Up s s' → Q b s'.H
noncomputable def cA (s0 : Wd) (n : Nat) (t : DA) : TA := fun σ H Q => ∃ s ρ q, s.H = H ∧ Rp s0 s ρ σ ∧ t ρ q ∧ ∀ ds vs s', ds.length = n → q ds → Up s s' → Rvs s'.J s'.F vs ds → Q vs s'.H
/-- a new list of our own -/
noncomputable def cO (s0 : Wd) (t : DA) : TE := fun σ H Q => ∃ s ρ q, s.H = H ∧ Rp s0 s ρ σ ∧ t ρ q ∧ ∀ ds vs a s', q ds → Up s s' → s.H a = none → s'.H a = some (.lst vs) → s'.F a = none → s'.J a = none → Rvs s'.J s'.F vs ds → Q (.ref a) s'.H
/-- all that may be read now -/
noncomputable def bor (s : Wd) : Hp := fun a => match s.J a with | none => s.H a | some _ => none
theorem bor_of {s : Wd} (h : Ok s) : ∀ a o, s.F a = some o → bor s a = some o := fun a o e => by
  unfold bor
  cases j : s.J a with
  | none => exact h.sub a o e
  | some P => rw [h.ft a P j] at e; cases e
theorem bor_sub {s : Wd} : ∀ a o, bor s a = some o → s.H a = some o := fun a o e => by
  unfold bor at e
  cases j : s.J a with
  | none => rw [j] at e; exact e
  | some P => rw [j] at e; cases e
/-- read for now: it may be a list that is changed later -/
noncomputable def cB (s0 : Wd) (t : DE) : TE := fun σ H Q => ∃ s ρ q, s.H = H ∧ Rp s0 s ρ σ ∧ t ρ q ∧ ∀ d v s', q d → Up s s' → Rv s'.J (bor s') v d → Q v s'.H
noncomputable def cBA (s0 : Wd) (n : Nat) (t : DA) : TA := fun σ H Q => ∃ s ρ q, s.H = H ∧ Rp s0 s ρ σ ∧ t ρ q ∧ ∀ ds vs s', ds.length = n → q ds → Up s s' → Rvs s'.J (bor s') vs ds → Q vs s'.H
structure Lk (s0 s : Wd) (D : EndsD) (B : Ends) : Prop where
  nx : ∀ s2 ρ σ, D.nx ρ → Rp s0 s2 ρ σ → Fw s s2 → B.nx σ s2.H
  rt : ∀ d v s2, D.rt d → Up s0 s2 → Rv s2.J s2.F v d → B.rt v s2.H
  bk : ∀ s2 ρ σ, D.bk ρ → Rp s0 s2 ρ σ → Fw s s2 → B.bk σ s2.H
  ct : ∀ s2 ρ σ, D.ct ρ → Rp s0 s2 ρ σ → Fw s s2 → B.ct σ s2.H
theorem Lk.fw {s0 s s' : Wd} {D : EndsD} {B : Ends} (l : Lk s0 s D B) (u : Fw s s') : Lk s0 s' D B :=
  ⟨fun s2 ρ σ h r f => l.nx s2 ρ σ h r (u.trans f), l.rt, fun s2 ρ σ h r f => l.bk s2 ρ σ h r (u.trans f), fun s2 ρ σ h r f => l.ct s2 ρ σ h r (u.trans f)⟩
noncomputable def cS (s0 : Wd) (t : DS) : TS := fun B σ H => ∃ s ρ D, s.H = H ∧ Rp s0 s ρ σ ∧ t D ρ ∧ Lk s0 s D B
/-- a target: writes the slots ws -/
noncomputable def cG (s0 : Wd) (ws : List Nat) (t : DG) : TG := fun v σ H Q => ∃ s ρ d q, s.H = H ∧ Rp s0 s ρ σ ∧ Rv s.J s.F v d ∧ t d ρ q ∧ ∀ ρ' σ' s', q ρ' → Rp s0 s' ρ' σ' → Up s s' → wipe σ' ws = wipe σ ws → Q σ' s'.H
/-- what is walked -/
structure WalkD (s1 : Wd) (J : It) (ds : List Dt) : Prop where
  ex : ∃ G Y, Walk J ds.length G Y ∧ (∀ s, Fw s1 s → G s.H) ∧ ∀ i s x H', i < ds.length → Fw s1 s → Y i s.H x H' → ∃ s' d, s'.H = H' ∧ Up s s' ∧ ds[i]? = some d ∧ Rv s'.J s'.F x d
noncomputable def cI (s0 : Wd) (t : DA) : TI := fun σ H R => ∃ s ρ q, s.H = H ∧ Rp s0 s ρ σ ∧ t ρ q ∧ ∀ ds J s', q ds → Up s s' → WalkD s' J ds → R J s'.H
section
variable {X : Cx}
theorem peI {e : Expr} {t t' : TE} (h : PE X e t) (f : ∀ σ H Q, t' σ H Q → t σ H Q) : PE X e t' := ⟨fun pins s σ H Q I z => h.run pins s σ H Q I (f σ H Q z)⟩
theorem ptI {e : Expr} {t t' : TT} (h : PT X e t) (f : ∀ σ H Q, t' σ H Q → t σ H Q) : PT X e t' := ⟨fun pins s σ H Q I z => h.run pins s σ H Q I (f σ H Q z)⟩
theorem pwI {e : Expr} {t t' : TT} (h : PW X e t) (f : ∀ σ H Q, t' σ H Q → t σ H Q) : PW X e t' := ⟨fun w pins s σ H Q I z => h.run w pins s σ H Q I (f σ H Q z)⟩
theorem ptsI {e : List Expr} {t t' : TT} (h : PTs X e t) (f : ∀ σ H Q, t' σ H Q → t σ H Q) : PTs X e t' := ⟨fun pins s σ H Q I z => h.run pins s σ H Q I (f σ H Q z)⟩
theorem paI {e : List Expr} {t t' : TA} (h : PA X e t) (f : ∀ σ H Q, t' σ H Q → t σ H Q) : PA X e t' := ⟨fun pos pins s σ H Q I z => h.run pos pins s σ H Q I (f σ H Q z)⟩
theorem psI {e : Stmt} {t t' : TS} (h : PS X e t) (f : ∀ D σ H, t' D σ H → t D σ H) : PS X e t' := ⟨fun pins s σ H D I z => h.run pins s σ H D I (f D σ H z)⟩
theorem pssI {e : List Stmt} {t t' : TS} (h : PSs X e t) (f : ∀ D σ H, t' D σ H → t D σ H) : PSs X e t' := ⟨fun pins s σ H D I z => h.run pins s σ H D I (f D σ H z)⟩
theorem pgI {e : Expr} {t t' : TG} (h : PG X e t) (f : ∀ v σ H Q, t' v σ H Q → t v σ H Q) : PG X e t' := ⟨fun pins s σ H v u Q I r z => h.run pins s σ H v u Q I r (f v σ H Q z)⟩
theorem piI {tg e : Expr} {t t' : TI} (h : PI X tg e t) (f : ∀ σ H Q, t' σ H Q → t σ H Q) : PI X tg e t' := ⟨fun pins s σ H Q I z => h.run pins s σ H Q I (f σ H Q z)⟩
variable {s0 : Wd} {e a b : Expr} {es : List Expr} {ta tb te : DE} {t : DA} {pos : Pos} {n : Nat}
/-! ### a name, a constant, by its data -/
noncomputable def dVar (i : Nat) : DE := fun ρ q => match eg ρ i with | .va d => q d | _ => False
theorem pd (i : Nat) {x : Str} {pos : Pos} (hN : X.N[i]? = some x := by rfl) (hv : Vis X.env.scope x := by first | exact Or.inl rfl | exact Or.inr (Or.inl rfl) | exact Or.inr (Or.inr rfl)) (hd : (x == ("__debug__" : Str)) = false := by decide)
    (hcd : (x == ("__classdict__" : Str)) = false := by decide) : PE X (.Name x pos) (cE s0 (dVar i)) := peI (pe_var hN hv hd hcd) fun σ H Q ⟨s, ρ, q, e, R, t, k⟩ => by
  subst e
  unfold dVar at t
  cases z : eg ρ i with
  | va d =>
    rw [z] at t
    obtain ⟨v, e1, e2⟩ := R.va i d z
    exact ⟨v, e1, k d v s t (Up.refl R.ok) e2⟩
  | no => rw [z] at t; exact t.elim
  | ow ds => rw [z] at t; exact t.elim
/-- a name that may hold a list of our own, read for now -/
noncomputable def dBor (i : Nat) : DE := fun ρ q => match eg ρ i with | .va d => q d | .ow (.l ds) => q (.lst ds) | _ => False
theorem pb (i : Nat) {x : Str} {pos : Pos} (hN : X.N[i]? = some x := by rfl) (hv : Vis X.env.scope x := by first | exact Or.inl rfl | exact Or.inr (Or.inl rfl) | exact Or.inr (Or.inr rfl)) (hd : (x == ("__debug__" : Str)) = false := by decide)
    (hcd : (x == ("__classdict__" : Str)) = false := by decide) : PE X (.Name x pos) (cB s0 (dBor i)) := peI (pe_var hN hv hd hcd) fun σ H Q ⟨s, ρ, q, e, R, t, k⟩ => by
  subst e
  unfold dBor at t
  cases z : eg ρ i with
  | va d =>
    rw [z] at t
    obtain ⟨v, e1, e2⟩ := R.va i d z
    exact ⟨v, e1, k d v s t (Up.refl R.ok) (e2.fw (bor_of R.ok) fun _ _ e => e)⟩
  | no => rw [z] at t; exact t.elim
  | ow ob =>
    cases ob with
    | d _ => rw [z] at t; exact t.elim
    | l ds =>
    rw [z] at t
    obtain ⟨a, ho, e1, e2, e3, e4, e5, e0⟩ := R.ow i _ z
    obtain ⟨vs, rfl, e6⟩ := e0.lst
    refine ⟨.ref a, e1, k _ _ s t (Up.refl R.ok) (.lst (xs := vs) ?_ (e6.fw (bor_of R.ok) fun _ _ e => e))⟩
    unfold bor
    rw [e4]
    exact e2
theorem pb_of (h : PE X e (cE s0 te)) : PE X e (cB s0 te) := peI h fun σ H Q ⟨s, ρ, q, e, R, t, k⟩ => ⟨s, ρ, q, e, R, t, fun d v s' hq u r => k d v s' hq u (r.fw (bor_of u.ok) fun _ _ e => e)⟩
noncomputable def dC (d : Dt) : DE := fun _ q => q d
theorem pd_c {v : V} {d : Dt} (h : PE X e (tC v)) (r : ∀ J F, Rv J F v d) : PE X e (cE s0 (dC d)) := peI h fun σ H Q ⟨s, ρ, q, e, R, t, k⟩ => by
  subst e
  exact k d v s t (Up.refl R.ok) (r _ _)
theorem pd_int {i : Int} {j : Nat} {pos : Pos} : PE X (.Constant (.int i) j pos) (cE s0 (dC (.int i))) := pd_c pe_int fun _ _ => .int i
theorem pd_bl {b : Bool} {j : Nat} {pos : Pos} : PE X (.Constant (.bool b) j pos) (cE s0 (dC (.bl b))) := pd_c pe_bl fun _ _ => .bl b
theorem pd_non {j : Nat} {pos : Pos} : PE X (.Constant .none j pos) (cE s0 (dC .non)) := pd_c pe_non fun _ _ => .non
theorem pd_str {z : Str} {j : Nat} {pos : Pos} : PE X (.Constant (.str z) j pos) (cE s0 (dC (.str z))) := pd_c pe_str fun _ _ => .str z
theorem pd_gint {x : Str} {i : Int} {pos : Pos} (hg : Gl X x) (hm : ∃ tk, X.mg x = some (.int i tk)) (hd : (x == ("__debug__" : Str)) = false := by decide) : PE X (.Name x pos) (cE s0 (dC (.int i))) :=
  let ⟨tk, h⟩ := hm; pd_c (pe_glob (v := .int i) hg h ⟨tk, rfl⟩ hd) fun _ _ => .int i
/-! ### two expressions -/
noncomputable def dOp (r : Dt → Dt → (Dt → Prop) → Prop) (ta tb : DE) : DE := fun ρ q => ta ρ fun x => tb ρ fun y => r x y q
/-- an operator whose answer is flat -/
noncomputable def OpF (r : R2) (rd : Dt → Dt → (Dt → Prop) → Prop) : Prop := ∀ (J : Addr → Option Vol) (F H : Hp) (x y : V) (dx dy : Dt) (q : Dt → Prop) (Q : VK), (∀ a o, F a = some o → H a = some o) → Rv J F x dx → Rv J F y dy → rd dx dy q → (∀ d v, q d → (∀ J' F', Rv J' F' v d) → Q v H) → r x y H Q
/-- an operator that may make new objects -/
noncomputable def OpN (r : R2) (rd : Dt → Dt → (Dt → Prop) → Prop) : Prop := ∀ (s : Wd) (x y : V) (dx dy : Dt) (q : Dt → Prop) (Q : VK), Ok s → Rv s.J s.F x dx → Rv s.J s.F y dy → rd dx dy q → (∀ d v s', q d → Up s s' → Rv s'.J s'.F v d → Q v s'.H) → r x y s.H Q
variable {r : R2} {rd : Dt → Dt → (Dt → Prop) → Prop}
theorem tOp_F (h : OpF r rd) {σ : L2.St} {H : Hp} {Q : VK} (z : cE s0 (dOp rd ta tb) σ H Q) : tOp r (cB s0 ta) (cB s0 tb) σ H Q := by
  obtain ⟨s, ρ, q, e, R, t, k⟩ := z
  refine ⟨s, ρ, _, e, R, t, fun d v s' t1 u r1 => ⟨s', ρ, _, rfl, R.up' u, t1, fun d2 v2 s2 t2 u2 r2 => ?_⟩⟩
  have r1' : Rv s2.J (bor s2) v d := r1.fw (fun a o e => by
    have hh := bor_sub a o e
    have hj : s'.J a = none := by
      unfold bor at e
      cases j : s'.J a with
      | none => rfl
      | some P => rw [j] at e; cases e
    have := u2.keep a o hh hj
    unfold bor
    cases j : s2.J a with
    | none => exact this
    | some P => rw [u2.jn a P j hj] at hh; cases hh) u2.jr
  exact h s2.J (bor s2) s2.H v v2 d d2 q Q bor_sub r1' r2 t2 fun d3 v3 hq rf => k d3 v3 s2 hq (u.trans u2) (rf _ _)
theorem pd_opF {op : Operator} (ho : OpR X (binaryOp op) r) (h : OpF r rd) (ha : PE X a (cB s0 ta)) (hb : PE X b (cB s0 tb)) : PE X (.BinOp a op b pos) (cE s0 (dOp rd ta tb)) := peI (pe_op ho ha hb) fun _ _ _ z => tOp_F h z
theorem pd_op {op : Operator} (ho : OpR X (binaryOp op) r) (h : OpF r rd) (ha : PE X a (cE s0 ta)) (hb : PE X b (cE s0 tb)) : PE X (.BinOp a op b pos) (cE s0 (dOp rd ta tb)) := pd_opF ho h (pb_of ha) (pb_of hb)
theorem pd_cmpB {op : CmpOp} (ho : OpR X (compareOp op) r) (h : OpF r rd) (ha : PE X a (cB s0 ta)) (hb : PE X b (cB s0 tb)) (hm : behindInMarks op b = false) : PE X (.Compare a [op] [b] pos) (cE s0 (dOp rd ta tb)) := peI (pe_cmpR ho ha hb hm) fun _ _ _ z => tOp_F h z
theorem pd_cmp {op : CmpOp} (ho : OpR X (compareOp op) r) (h : OpF r rd) (ha : PE X a (cE s0 ta)) (hb : PE X b (cE s0 tb)) (hm : behindInMarks op b = false) : PE X (.Compare a [op] [b] pos) (cE s0 (dOp rd ta tb)) := pd_cmpB ho h (pb_of ha) (pb_of hb) hm
theorem pd_opN {op : Operator} (ho : OpR X (binaryOp op) r) (h : OpN r rd) (ha : PE X a (cE s0 ta)) (hb : PE X b (cE s0 tb)) : PE X (.BinOp a op b pos) (cE s0 (dOp rd ta tb)) := peI (pe_op ho ha hb) fun σ H Q ⟨s, ρ, q, e, R, t, k⟩ =>
  ⟨s, ρ, _, e, R, t, fun d v s' t1 u r1 => ⟨s', ρ, _, rfl, R.up' u, t1, fun d2 v2 s2 t2 u2 r2 => h s2 v v2 d d2 q Q u2.ok (r1.up u2) r2 t2 fun d3 v3 s3 hq u3 r3 => k d3 v3 s3 hq (u.trans (u2.trans u3)) r3⟩⟩
/-- an expression as a test -/
noncomputable def dB (t : DE) : DT := fun ρ q => t ρ fun d => match d with | .bl b => q b | _ => False
theorem cE_tB {σ : L2.St} {H : Hp} {Q : Bool → Hp → Prop} (z : cT s0 (dB te) σ H Q) : cE s0 te σ H fun x H1 => ∃ c, x = .bl c ∧ Q c H1 := by
  obtain ⟨s, ρ, q, e, R, t, k⟩ := z
  refine ⟨s, ρ, _, e, R, t, fun d v s' t1 u r1 => ?_⟩
  cases r1 with
  | bl b => exact ⟨b, rfl, k b s' t1 u⟩
  | _ => exact t1.elim
theorem pdt_val (h : PE X e (cE s0 te)) (he : ∀ whole, isTrue e X.env whole = (do let v ← whole; standAt e.pos; holding [v] (truthy v)) := by intro _; rfl) : PT X e (cT s0 (dB te)) := ptI (pt_val h he) fun _ _ _ z => cE_tB z
theorem pdt_cmpB {op : CmpOp} (ho : OpR X (compareOp op) r) (h : OpF r rd) (ha : PE X a (cB s0 ta)) (hb : PE X b (cB s0 tb)) (hm : behindInMarks op b = false) : PT X (.Compare a [op] [b] pos) (cT s0 (dB (dOp rd ta tb))) := ptI (pt_cmpR ho ha hb hm) fun σ H Q z => tOp_F h (by
  obtain ⟨s, ρ, q, e, R, t, k⟩ := z
  refine ⟨s, ρ, _, e, R, t, fun d v s' t1 u r1 => ?_⟩
  cases r1 with
  | bl b => exact ⟨b, rfl, k b s' t1 u⟩
  | _ => exact t1.elim)
theorem pdt_cmp {op : CmpOp} (ho : OpR X (compareOp op) r) (h : OpF r rd) (ha : PE X a (cE s0 ta)) (hb : PE X b (cE s0 tb)) (hm : behindInMarks op b = false) : PT X (.Compare a [op] [b] pos) (cT s0 (dB (dOp rd ta tb))) := pdt_cmpB ho h (pb_of ha) (pb_of hb) hm
/-! ### and, or, not -/
variable {tA tB' : DT} {rest : List Expr}
noncomputable def dAnd (t u : DT) : DT := fun ρ q => t ρ fun c => if c = true then u ρ q else q false
noncomputable def dOr (t u : DT) : DT := fun ρ q => t ρ fun c => if c = true then q true else u ρ q
noncomputable def dNot (t : DT) : DT := fun ρ q => t ρ fun c => q (!c)
theorem pdw_and1 (ha : PT X a (cT s0 tA)) : PW X (.BoolOp .And [a] pos) (cT s0 tA) := pw_and1 ha
theorem pdw_or1 (ha : PT X a (cT s0 tA)) : PW X (.BoolOp .Or [a] pos) (cT s0 tA) := pw_or1 ha
theorem pdw_and (ha : PT X a (cT s0 tA)) (hb : PW X (.BoolOp .And (b :: rest) pos) (cT s0 tB')) : PW X (.BoolOp .And (a :: b :: rest) pos) (cT s0 (dAnd tA tB')) := pwI (pw_and ha hb) fun σ H Q ⟨s, ρ, q, e, R, t, k⟩ =>
  ⟨s, ρ, _, e, R, t, fun c s' t1 u => by
    cases c with
    | true => exact ⟨s', ρ, q, rfl, R.up' u, t1, fun b s2 hq u2 => k b s2 hq (u.trans u2)⟩
    | false => exact k false s' t1 u⟩
theorem pdw_or (ha : PT X a (cT s0 tA)) (hb : PW X (.BoolOp .Or (b :: rest) pos) (cT s0 tB')) : PW X (.BoolOp .Or (a :: b :: rest) pos) (cT s0 (dOr tA tB')) := pwI (pw_or ha hb) fun σ H Q ⟨s, ρ, q, e, R, t, k⟩ =>
  ⟨s, ρ, _, e, R, t, fun c s' t1 u => by
    cases c with
    | false => exact ⟨s', ρ, q, rfl, R.up' u, t1, fun b s2 hq u2 => k b s2 hq (u.trans u2)⟩
    | true => exact k true s' t1 u⟩
theorem pdt_not (ha : PT X a (cT s0 tA)) : PT X (.UnaryOp .Not a pos) (cT s0 (dNot tA)) := ptI (pt_not ha) fun σ H Q ⟨s, ρ, q, e, R, t, k⟩ => ⟨s, ρ, _, e, R, t, fun c s' t1 u => k (!c) s' t1 u⟩
/-- .. as values -/
noncomputable def dAndV (t u : DE) : DE := fun ρ q => t ρ fun d => match d with | .bl c => if c = true then u ρ q else q (.bl false) | _ => False
noncomputable def dOrV (t u : DE) : DE := fun ρ q => t ρ fun d => match d with | .bl c => if c = true then q (.bl true) else u ρ q | _ => False
noncomputable def dNotV (t : DE) : DE := fun ρ q => t ρ fun d => match d with | .bl c => q (.bl (!c)) | _ => False
theorem pd_one {op : BoolOp} (h : PE X a (cE s0 ta)) : PE X (.BoolOp op [a] pos) (cE s0 ta) := pe_one h
theorem pd_and (ha : PE X a (cE s0 ta)) (hb : PE X (.BoolOp .And (b :: rest) pos) (cE s0 tb)) : PE X (.BoolOp .And (a :: b :: rest) pos) (cE s0 (dAndV ta tb)) := peI (pe_and ha hb) fun σ H Q ⟨s, ρ, q, e, R, t, k⟩ =>
  ⟨s, ρ, _, e, R, t, fun d v s' t1 u r1 => by
    cases r1 with
    | bl c =>
      refine ⟨c, rfl, ?_⟩
      cases c with
      | true => exact ⟨s', ρ, q, rfl, R.up' u, t1, fun d2 v2 s2 hq u2 r2 => k d2 v2 s2 hq (u.trans u2) r2⟩
      | false => exact k _ _ s' t1 u (.bl false)
    | _ => exact t1.elim⟩
theorem pd_or (ha : PE X a (cE s0 ta)) (hb : PE X (.BoolOp .Or (b :: rest) pos) (cE s0 tb)) : PE X (.BoolOp .Or (a :: b :: rest) pos) (cE s0 (dOrV ta tb)) := peI (pe_or ha hb) fun σ H Q ⟨s, ρ, q, e, R, t, k⟩ =>
  ⟨s, ρ, _, e, R, t, fun d v s' t1 u r1 => by
    cases r1 with
    | bl c =>
      refine ⟨c, rfl, ?_⟩
      cases c with
      | false => exact ⟨s', ρ, q, rfl, R.up' u, t1, fun d2 v2 s2 hq u2 r2 => k d2 v2 s2 hq (u.trans u2) r2⟩
      | true => exact k _ _ s' t1 u (.bl true)
    | _ => exact t1.elim⟩
theorem pd_not (ha : PE X a (cE s0 ta)) : PE X (.UnaryOp .Not a pos) (cE s0 (dNotV ta)) := peI (pe_not ha) fun σ H Q ⟨s, ρ, q, e, R, t, k⟩ =>
  ⟨s, ρ, _, e, R, t, fun d v s' t1 u r1 => by
    cases r1 with
    | bl c => exact ⟨c, rfl, k _ _ s' t1 u (.bl _)⟩
    | _ => exact t1.elim⟩
noncomputable def dIfE (t : DT) (ta tb : DE) : DE := fun ρ q => t ρ fun c => if c = true then ta ρ q else tb ρ q
theorem pd_ifExp {c : Expr} (hc : PT X c (cT s0 tA)) (ha : PE X a (cE s0 ta)) (hb : PE X b (cE s0 tb)) : PE X (.IfExp c a b pos) (cE s0 (dIfE tA ta tb)) := peI (pe_ifExp hc ha hb) fun σ H Q ⟨s, ρ, q, e, R, t, k⟩ =>
  ⟨s, ρ, _, e, R, t, fun c s' t1 u => by
    cases c with
    | true => exact ⟨s', ρ, q, rfl, R.up' u, t1, fun d2 v2 s2 hq u2 r2 => k d2 v2 s2 hq (u.trans u2) r2⟩
    | false => exact ⟨s', ρ, q, rfl, R.up' u, t1, fun d2 v2 s2 hq u2 r2 => k d2 v2 s2 hq (u.trans u2) r2⟩⟩
/-! ### arguments, displays -/
noncomputable def dNil : DA := fun _ q => q []
noncomputable def dCons (te : DE) (t : DA) : DA := fun ρ q => te ρ fun d => t ρ fun ds => q (d :: ds)
theorem pda_nil : PA X [] (cA s0 0 dNil) := paI pa_nil fun σ H Q ⟨s, ρ, q, e, R, t, k⟩ => by
  subst e
  exact k [] [] s rfl t (Up.refl R.ok) .nil
theorem pda_cons (ha : PE X e (cE s0 te)) (hr : PA X es (cA s0 n t)) (hs : starEach (e :: es) X.env = (false, eval e X.env) :: starEach es X.env := by rfl) : PA X (e :: es) (cA s0 (n + 1) (dCons te t)) := paI (pa_cons ha hr hs) fun σ H Q ⟨s, ρ, q, e, R, t, k⟩ =>
  ⟨s, ρ, _, e, R, t, fun d v s' t1 u r1 => ⟨s', ρ, _, rfl, R.up' u, t1, fun ds vs s2 hl hq u2 r2 => k (d :: ds) (v :: vs) s2 (by rw [List.length_cons, hl]) hq (u.trans u2) (.cons (r1.up u2) r2)⟩⟩
theorem Rv.borUp {s s' : Wd} {v : V} {d : Dt} (u : Up s s') (r : Rv s.J (bor s) v d) : Rv s'.J (bor s') v d := r.fw (fun a o e => by
    have hh := bor_sub a o e
    have hj : s.J a = none := by
      unfold bor at e
      cases j : s.J a with
      | none => rfl
      | some P => rw [j] at e; cases e
    have := u.keep a o hh hj
    unfold bor
    cases j : s'.J a with
    | none => exact this
    | some P => rw [u.jn a P j hj] at hh; cases hh) u.jr
theorem pba_nil : PA X [] (cBA s0 0 dNil) := paI pa_nil fun σ H Q ⟨s, ρ, q, e, R, t, k⟩ => by
  subst e
  exact k [] [] s rfl t (Up.refl R.ok) .nil
theorem pba_cons (ha : PE X e (cB s0 te)) (hr : PA X es (cBA s0 n t)) (hs : starEach (e :: es) X.env = (false, eval e X.env) :: starEach es X.env := by rfl) : PA X (e :: es) (cBA s0 (n + 1) (dCons te t)) := paI (pa_cons ha hr hs) fun σ H Q ⟨s, ρ, q, e, R, t, k⟩ =>
  ⟨s, ρ, _, e, R, t, fun d v s' t1 u r1 => ⟨s', ρ, _, rfl, R.up' u, t1, fun ds vs s2 hl hq u2 r2 => k (d :: ds) (v :: vs) s2 (by rw [List.length_cons, hl]) hq (u.trans u2) (.cons (r1.borUp u2) r2)⟩⟩
noncomputable def dTup (t : DA) : DE := fun ρ q => t ρ fun ds => q (.tup ds)
theorem pd_tup {x1 : Nat} (h : PA X es (cA s0 n t)) (hl : n ≤ sizeLine := by decide) : PE X (.Tuple es x1 pos) (cE s0 (dTup t)) := peI (pe_tup h) fun σ H Q ⟨s, ρ, q, e, R, t, k⟩ =>
  ⟨s, ρ, _, e, R, t, fun ds vs s' hn t1 u r1 => ⟨by rw [r1.length, hn]; exact hl, fun p np => k _ _ (s'.lay p (.tup vs)) t1 (u.trans (Up.lay u.ok _ np)) (.tup upd_same (r1.up (Up.lay u.ok _ np)))⟩⟩
/-- a display, as a list of our own -/
theorem po_lst (h : PA X es (cA s0 n t)) (hl : n ≤ sizeLine := by decide) : PE X (.List es pos) (cO s0 t) := peI (pe_lst h) fun σ H Q ⟨s, ρ, q, e, R, t, k⟩ =>
  ⟨s, ρ, _, e, R, t, fun ds vs s' hn t1 u r1 => ⟨by rw [r1.length, hn]; exact hl, fun p np => k ds vs p (s'.put p (.lst vs)) t1 (u.trans (Up.put u.ok _ np)) (u.free np) upd_same (u.ok.nof np) (u.ok.noj np) (r1.up (Up.put u.ok _ np))⟩⟩
noncomputable def dL (t : DA) : DE := fun ρ q => t ρ fun ds => q (.lst ds)
theorem Up.ice {s s' : Wd} (u : Up s s') {a : Addr} {o : HO} (n : s.H a = none) (e : s'.H a = some o) (f : s'.F a = none) (j : s'.J a = none) : Up s (s'.ice a o) where
  ok := ⟨fun b w e' => by
      by_cases z : b = a
      · subst z
        have e2 : upd s'.F b o b = some w := e'
        rw [upd_same] at e2
        cases e2; exact e
      · have e2 : upd s'.F a o b = some w := e'
        rw [upd_ne z] at e2
        exact u.ok.sub b w e2, u.ok.vol, fun b P e' => by
      have : b ≠ a := fun z => by rw [z] at e'; rw [show s'.J a = _ from e'] at j; cases j
      show upd s'.F a o b = none
      rw [upd_ne this]; exact u.ok.ft b P e'⟩
  keep := u.keep
  fr := fun b w e' => by
    have e2 := u.fr b w e'
    have : b ≠ a := fun z => by rw [z, f] at e2; cases e2
    show upd s'.F a o b = _
    rw [upd_ne this]; exact e2
  jr := u.jr
  nw := fun b w e' m => by
    by_cases z : b = a
    · subst z; exact n
    · have e2 : upd s'.F a o b = some w := e'
      rw [upd_ne z] at e2
      exact u.nw b w e2 m
  jn := u.jn
/-- a new list of our own is not changed any more -/
theorem pd_ice (h : PE X e (cO s0 t)) : PE X e (cE s0 (dL t)) := peI h fun σ H Q ⟨s, ρ, q, e, R, t, k⟩ =>
  ⟨s, ρ, _, e, R, t, fun ds vs a s' t1 u n e1 f j r1 => by
    have u' := u.ice n e1 f j
    refine k _ _ (s'.ice a (.lst vs)) t1 u' (.lst upd_same (r1.fw (fun b o e => ?_) fun _ _ e => e))
    show upd s'.F a (.lst vs) b = _
    have : b ≠ a := fun z => by rw [z, f] at e; cases e
    rw [upd_ne this]; exact e⟩
end
end Dl
/-! operators, built-ins, items, slices over data -/
namespace Dl
open PySem PySem.Spec PyProof.Rows L2
/-! ### whole numbers -/
noncomputable def dI (gd : Int → Int → Dt) : Dt → Dt → (Dt → Prop) → Prop := fun x y q => match x, y with | .int i, .int j => q (gd i j) | _, _ => False
noncomputable def dIC (C : Int → Int → Prop) (gd : Int → Int → Dt) : Dt → Dt → (Dt → Prop) → Prop := fun x y q => match x, y with | .int i, .int j => C i j ∧ q (gd i j) | _, _ => False
theorem of_I0 {gv : Int → Int → V} {gd : Int → Int → Dt} (h : ∀ i j J F, Rv J F (gv i j) (gd i j)) : OpF (rI0 gv) (dI gd) := fun J F H x y dx dy q Q _ rx ry t k => by
  cases rx with
  | int i =>
    cases ry with
    | int j => exact ⟨i, j, rfl, rfl, k _ _ t fun J F => h i j J F⟩
    | _ => exact False.elim t
  | _ => exact False.elim t
theorem of_I {C : Int → Int → Prop} {gv : Int → Int → V} {gd : Int → Int → Dt} (h : ∀ i j J F, Rv J F (gv i j) (gd i j)) : OpF (rI C gv) (dIC C gd) := fun J F H x y dx dy q Q _ rx ry t k => by
  cases rx with
  | int i =>
    cases ry with
    | int j => exact ⟨i, j, rfl, rfl, t.1, k _ _ t.2 fun J F => h i j J F⟩
    | _ => exact False.elim t
  | _ => exact False.elim t
theorem of_add : OpF (rI0 fun i j => .int (i + j)) (dI fun i j => .int (i + j)) := of_I0 fun _ _ _ _ => .int _
theorem of_sub : OpF (rI0 fun i j => .int (i - j)) (dI fun i j => .int (i - j)) := of_I0 fun _ _ _ _ => .int _
theorem of_mul : OpF (rI CMul fun i j => .int (i * j)) (dIC CMul fun i j => .int (i * j)) := of_I fun _ _ _ _ => .int _
theorem of_mulW : OpF (rI CMulW fun i j => .int (i * j)) (dIC CMulW fun i j => .int (i * j)) := of_I fun _ _ _ _ => .int _
theorem of_fdiv : OpF (rI CDiv fun i j => .int (i / j)) (dIC CDiv fun i j => .int (i / j)) := of_I fun _ _ _ _ => .int _
theorem of_fdivW : OpF (rI CDivW fun i j => .int (i / j)) (dIC CDivW fun i j => .int (i / j)) := of_I fun _ _ _ _ => .int _
theorem of_mod : OpF (rI (fun _ j => 0 < j) fun i j => .int (i % j)) (dIC (fun _ j => 0 < j) fun i j => .int (i % j)) := of_I fun _ _ _ _ => .int _
theorem of_lt : OpF (rI0 fun i j => .bl (decide (i < j))) (dI fun i j => .bl (decide (i < j))) := of_I0 fun _ _ _ _ => .bl _
theorem of_le : OpF (rI0 fun i j => .bl (decide (i ≤ j))) (dI fun i j => .bl (decide (i ≤ j))) := of_I0 fun _ _ _ _ => .bl _
theorem of_gt : OpF (rI0 fun i j => .bl (decide (j < i))) (dI fun i j => .bl (decide (j < i))) := of_I0 fun _ _ _ _ => .bl _
theorem of_ge : OpF (rI0 fun i j => .bl (decide (j ≤ i))) (dI fun i j => .bl (decide (j ≤ i))) := of_I0 fun _ _ _ _ => .bl _
/-- == of whole numbers, of texts, of truths -/
noncomputable def dEqS (n : Bool) : Dt → Dt → (Dt → Prop) → Prop := fun x y q => match x, y with | .int i, .int j => q (.bl (n != decide (i = j))) | .str i, .str j => q (.bl (n != decide (i = j))) | .bl i, .bl j => q (.bl (n != decide (i = j))) | _, _ => False
theorem dec_inj {α β : Type} [DecidableEq α] [DecidableEq β] {f : α → β} (hf : ∀ a b, f a = f b → a = b) (a b : α) : decide (f a = f b) = decide (a = b) := by
  by_cases h : a = b
  · subst h; simp
  · rw [decide_eq_false h, decide_eq_false fun z => h (hf a b z)]
theorem of_eq : OpF rEq (dEqS false) := fun J F H x y dx dy q Q _ rx ry t k => by
  cases rx with
  | int i =>
    cases ry with
    | int j =>
      refine ⟨rfl, ?_⟩
      rw [dec_inj (f := V.int) fun a b z => by cases z; rfl]
      exact k _ _ t fun J F => by rw [Bool.false_bne]; exact .bl _
    | _ => exact False.elim t
  | str i =>
    cases ry with
    | str j =>
      refine ⟨rfl, ?_⟩
      rw [dec_inj (f := V.str) fun a b z => by cases z; rfl]
      exact k _ _ t fun J F => by rw [Bool.false_bne]; exact .bl _
    | _ => exact False.elim t
  | bl i =>
    cases ry with
    | bl j =>
      refine ⟨rfl, ?_⟩
      rw [dec_inj (f := V.bl) fun a b z => by cases z; rfl]
      exact k _ _ t fun J F => by rw [Bool.false_bne]; exact .bl _
    | _ => exact False.elim t
  | _ => exact False.elim t
theorem of_ne : OpF rNe (dEqS true) := fun J F H x y dx dy q Q _ rx ry t k => by
  cases rx with
  | int i =>
    cases ry with
    | int j =>
      refine ⟨rfl, ?_⟩
      rw [dec_inj (f := V.int) fun a b z => by cases z; rfl]
      exact k _ _ t fun J F => by rw [Bool.true_bne]; exact .bl _
    | _ => exact False.elim t
  | str i =>
    cases ry with
    | str j =>
      refine ⟨rfl, ?_⟩
      rw [dec_inj (f := V.str) fun a b z => by cases z; rfl]
      exact k _ _ t fun J F => by rw [Bool.true_bne]; exact .bl _
    | _ => exact False.elim t
  | bl i =>
    cases ry with
    | bl j =>
      refine ⟨rfl, ?_⟩
      rw [dec_inj (f := V.bl) fun a b z => by cases z; rfl]
      exact k _ _ t fun J F => by rw [Bool.true_bne]; exact .bl _
    | _ => exact False.elim t
  | _ => exact False.elim t
/-! ### == of data -/
mutual
noncomputable def py : Dt → PyData
  | .non => .none | .bl b => .bool b | .int i => .int i | .str x => .str x | .lst xs => .list (pys xs) | .tup xs => .tuple (pys xs) | .dic _ => .none | .die => .none | .scr _ => .none | .opq _ => .none
noncomputable def pys : List Dt → List PyData
  | [] => []
  | d :: r => py d :: pys r
end
mutual
/-- none, truths, whole numbers, texts, lists and tuples of such -/
noncomputable def pl : Dt → Bool
  | .non => true | .bl _ => true | .int _ => true | .str _ => true | .lst xs => pls xs | .tup xs => pls xs | _ => false
noncomputable def pls : List Dt → Bool
  | [] => true
  | d :: r => pl d && pls r
end
mutual
theorem Rv.dp {K : PySem.W.Frag} {J : Addr → Option Vol} {F H : Hp} (sub : ∀ a o, F a = some o → H a = some o) : ∀ {v : V} {d : Dt}, Rv J F v d → pl d = true → Dp K H v (py d)
  | _, _, .non, _ => .non
  | _, _, .bl b, _ => .bl b
  | _, _, .int i, _ => .int i
  | _, _, .str x, _ => .str x
  | _, _, .lst h r, z => .lst (SqL.of (sub _ _ h)) (Rvs.dp sub r z)
  | _, _, .tup h r, z => .tup (SqT.of (sub _ _ h)) (Rvs.dp sub r z)
  | _, _, .dic _ _, z => nomatch z
  | _, _, .die _, z => nomatch z
  | _, _, .scr _ _, z => nomatch z
  | _, _, .opq _, z => nomatch z
theorem Rvs.dp {K : PySem.W.Frag} {J : Addr → Option Vol} {F H : Hp} (sub : ∀ a o, F a = some o → H a = some o) : ∀ {v : List V} {d : List Dt}, Rvs J F v d → pls d = true → DpAll K H v (pys d)
  | _, _, .nil, _ => .nil
  | _, _, .cons (d := d) (ds := ds) h r, z => by
    have z' : pl d = true ∧ pls ds = true := by simpa [pls] using z
    exact .cons (Rv.dp sub h z'.1) (Rvs.dp sub r z'.2)
end
mutual
theorem py_plain : ∀ d : Dt, pl d = true → (py d).plain = true
  | .non, _ => rfl
  | .bl _, _ => rfl
  | .int _, _ => rfl
  | .str _, _ => rfl
  | .lst xs, h => pys_plain xs h
  | .tup xs, h => pys_plain xs h
  | .dic _, h => nomatch h
  | .die, h => nomatch h
  | .scr _, h => nomatch h
  | .opq _, h => nomatch h
theorem pys_plain : ∀ d : List Dt, pls d = true → PyData.plainAll (pys d) = true
  | [], _ => rfl
  | d :: r, h => by
    have h' : pl d = true ∧ pls r = true := by simpa [pls] using h
    simp only [pys, PyData.plainAll, py_plain d h'.1, pys_plain r h'.2, Bool.and_self]
end
noncomputable def deq (x y : Dt) : Bool := PyData.eqv (py x) (py y)
noncomputable def dep (x : Dt) : Nat := (py x).depth
theorem deq_refl {d : Dt} (h : pl d = true) : deq d d = true := SeqAt.eqv_refl_plain _ (py_plain d h)
noncomputable def dEqP (n : Bool) : Dt → Dt → (Dt → Prop) → Prop := fun x y q => pl x = true ∧ pl y = true ∧ min (dep x) (dep y) ≤ 64 ∧ q (.bl (n != deq x y))
theorem of_eqP {K : PySem.W.Frag} : OpF (Hx.rEqP K) (dEqP false) := fun J F H x y dx dy q Q sub rx ry ⟨p1, p2, p3, t⟩ k =>
  ⟨py dx, py dy, rx.dp sub p1, ry.dp sub p2, py_plain _ p1, py_plain _ p2, p3, k _ _ t fun J F => by rw [Bool.false_bne]; exact .bl _⟩
theorem of_neP {K : PySem.W.Frag} : OpF (Hx.rNeP K) (dEqP true) := fun J F H x y dx dy q Q sub rx ry ⟨p1, p2, p3, t⟩ k =>
  ⟨py dx, py dy, rx.dp sub p1, ry.dp sub p2, py_plain _ p1, py_plain _ p2, p3, k _ _ t fun J F => by rw [Bool.true_bne]; exact .bl _⟩
/-- is, is not, of truths -/
noncomputable def dIsB (n : Bool) : Dt → Dt → (Dt → Prop) → Prop := fun x y q => match x, y with | .bl i, .bl j => q (.bl (n != decide (i = j))) | _, _ => False
theorem of_isB : OpF rIsB (dIsB false) := fun J F H x y dx dy q Q _ rx ry t k => by
  cases rx with
  | bl i =>
    cases ry with
    | bl j => exact ⟨i, j, rfl, rfl, k _ _ t fun J F => by rw [Bool.false_bne]; exact .bl _⟩
    | _ => exact False.elim t
  | _ => exact False.elim t
theorem of_notB : OpF rNotB (dIsB true) := fun J F H x y dx dy q Q _ rx ry t k => by
  cases rx with
  | bl i =>
    cases ry with
    | bl j => exact ⟨i, j, rfl, rfl, k _ _ t fun J F => by rw [Bool.true_bne]; exact .bl _⟩
    | _ => exact False.elim t
  | _ => exact False.elim t
/-! ### items -/
section
variable {J : Addr → Option Vol} {F H : Hp}
theorem Rvs.atI {vs : List V} {ds : List Dt} {k : Int} {d : Dt} (r : Rvs J F vs ds) (e : L2.atI ds k = some d) : ∃ v, L2.atI vs k = some v ∧ Rv J F v d := by
  unfold L2.atI at e ⊢
  rw [r.length]
  cases z : ixN ds.length k with
  | none => rw [z] at e; cases e
  | some j =>
    rw [z] at e
    exact r.at e
end
noncomputable def dIx : Dt → Dt → (Dt → Prop) → Prop := fun x y q => match x, y with
  | .lst ds, .int k => ∃ d, L2.atI ds k = some d ∧ q d
  | .tup ds, .int k => ∃ d, L2.atI ds k = some d ∧ q d
  | .str z, .int k => z.length ≤ sizeLine ∧ ∃ c, L2.atI z.cps.toList k = some c ∧ q (.str ⟨#[c]⟩)
  | _, _ => False
theorem on_ix {K : PySem.W.Frag} : OpN (rIx K) dIx := fun s x y dx dy q Q ok rx ry t k => by
  cases rx with
  | lst h r =>
    cases ry with
    | int i =>
      obtain ⟨d, e, t⟩ := t
      obtain ⟨v, e1, e2⟩ := r.atI e
      exact .inl ⟨_, _, i, v, rfl, rfl, SqL.of (ok.sub _ _ h), e1, k d v s t (Up.refl ok) e2⟩
    | _ => exact False.elim t
  | tup h r =>
    cases ry with
    | int i =>
      obtain ⟨d, e, t⟩ := t
      obtain ⟨v, e1, e2⟩ := r.atI e
      exact .inr (.inl ⟨_, _, i, v, rfl, rfl, SqT.of (ok.sub _ _ h), e1, k d v s t (Up.refl ok) e2⟩)
    | _ => exact False.elim t
  | str z =>
    cases ry with
    | int i =>
      obtain ⟨hz, c, e, t⟩ := t
      exact .inr (.inr ⟨z, i, c, rfl, rfl, hz, e, k _ _ s t (Up.refl ok) (.str _)⟩)
    | _ => exact False.elim t
  | _ => exact False.elim t
section
variable {X : Cx} {s0 : Wd} {e a b : Expr} {es : List Expr} {ta tb te : DE} {t : DA} {pos : Pos} {n : Nat}
theorem tOp_N {r : R2} {rd : Dt → Dt → (Dt → Prop) → Prop} (h : OpN r rd) {σ : L2.St} {H : Hp} {Q : VK} (z : cE s0 (dOp rd ta tb) σ H Q) : tOp r (cE s0 ta) (cE s0 tb) σ H Q := by
  obtain ⟨s, ρ, q, e, R, t, k⟩ := z
  exact ⟨s, ρ, _, e, R, t, fun d v s' t1 u r1 => ⟨s', ρ, _, rfl, R.up' u, t1, fun d2 v2 s2 t2 u2 r2 => h s2 v v2 d d2 q Q u2.ok (r1.up u2) r2 t2 fun d3 v3 s3 hq u3 r3 => k d3 v3 s3 hq (u.trans (u2.trans u3)) r3⟩⟩
theorem pd_ix (ha : PE X a (cE s0 ta)) (hb : PE X b (cE s0 tb)) (hs : PlainIx b := by exact fun _ _ => rfl) : PE X (.Subscript a b pos) (cE s0 (dOp dIx ta tb)) := peI (pe_ix ix_seq ha hb hs) fun _ _ _ z => tOp_N on_ix z
/-- an item of a list of our own -/
noncomputable def dIxO (i : Nat) (tb : DE) : DE := fun ρ q => match eg ρ i with | .ow (.l ds) => tb ρ fun y => (match y with | .int k => ∃ d, L2.atI ds k = some d ∧ q d | _ => False) | _ => False
theorem pd_ixO (i : Nat) {x : Str} {p : Pos} (hb : PE X b (cE s0 tb)) (hN : X.N[i]? = some x := by rfl) (hv : Vis X.env.scope x := by first | exact Or.inl rfl | exact Or.inr (Or.inl rfl) | exact Or.inr (Or.inr rfl)) (hd : (x == ("__debug__" : Str)) = false := by decide)
    (hcd : (x == ("__classdict__" : Str)) = false := by decide) (hs : PlainIx b := by exact fun _ _ => rfl) : PE X (.Subscript (.Name x p) b pos) (cE s0 (dIxO i tb)) := peI (pe_ix ix_list (pe_var hN hv hd hcd) hb hs) fun σ H Q ⟨s, ρ, q, e, R, t, k⟩ => by
  subst e
  unfold dIxO at t
  cases z : eg ρ i with
  | ow ob =>
    cases ob with
    | d _ => rw [z] at t; exact t.elim
    | l ds =>
    rw [z] at t
    obtain ⟨l, ho, e1, e2, e3, e4, e5, e0⟩ := R.ow i _ z
    obtain ⟨vs, rfl, e6⟩ := e0.lst
    refine ⟨_, e1, s, ρ, _, rfl, R, t, fun d v s' t1 u r1 => ?_⟩
    cases r1 with
    | int j =>
      obtain ⟨d, f1, f2⟩ := t1
      obtain ⟨w, g1, g2⟩ := e6.atI f1
      exact ⟨l, vs, j, w, rfl, rfl, SqL.of (u.keep l _ e2 e4), g1, k d w s' f2 u (g2.up u)⟩
    | _ => exact False.elim t1
  | no => rw [z] at t; exact t.elim
  | va d => rw [z] at t; exact t.elim
/-! ### built-ins -/
/-- a built-in whose answer is flat -/
noncomputable def CallF (r : List V → Hp → VK → Prop) (rd : List Dt → (Dt → Prop) → Prop) : Prop := ∀ (J : Addr → Option Vol) (F H : Hp) (xs : List V) (ds : List Dt) (q : Dt → Prop) (Q : VK), (∀ a o, F a = some o → H a = some o) → Rvs J F xs ds → rd ds q → (∀ d v, q d → (∀ J' F', Rv J' F' v d) → Q v H) → r xs H Q
noncomputable def CallN (r : List V → Hp → VK → Prop) (rd : List Dt → (Dt → Prop) → Prop) : Prop := ∀ (s : Wd) (xs : List V) (ds : List Dt) (q : Dt → Prop) (Q : VK), Ok s → Rvs s.J s.F xs ds → rd ds q → (∀ d v s', q d → Up s s' → Rv s'.J s'.F v d → Q v s'.H) → r xs s.H Q
/-- .. whose answer is a new list -/
noncomputable def CallO (r : List V → Hp → VK → Prop) (rd : List Dt → (List Dt → Prop) → Prop) : Prop := ∀ (s : Wd) (xs : List V) (ds : List Dt) (q : List Dt → Prop) (Q : VK), Ok s → Rvs s.J s.F xs ds → rd ds q →
  (∀ es vs a s', q es → Up s s' → s.H a = none → s'.H a = some (.lst vs) → s'.F a = none → s'.J a = none → Rvs s'.J s'.F vs es → Q (.ref a) s'.H) → r xs s.H Q
noncomputable def dCB (rd : List Dt → (Dt → Prop) → Prop) (t : DA) : DE := fun ρ q => t ρ fun ds => rd ds q
noncomputable def dCO (rd : List Dt → (List Dt → Prop) → Prop) (t : DA) : DA := fun ρ q => t ρ fun ds => rd ds q
variable {x : Str} {p : Pos} {r : List V → Hp → VK → Prop} {rd : List Dt → (Dt → Prop) → Prop} {ro : List Dt → (List Dt → Prop) → Prop} {id T : String}
theorem tCB_F (h : CallF r rd) {σ : L2.St} {H : Hp} {Q : VK} (z : cE s0 (dCB rd t) σ H Q) : tCB r (cBA s0 n t) σ H Q := by
  obtain ⟨s, ρ, q, e, R, t, k⟩ := z
  exact ⟨s, ρ, _, e, R, t, fun ds vs s' _ t1 u r1 => h s'.J (bor s') s'.H vs ds q Q bor_sub r1 t1 fun d v hq rf => k d v s' hq u (rf _ _)⟩
theorem tCB_N (h : CallN r rd) {σ : L2.St} {H : Hp} {Q : VK} (z : cE s0 (dCB rd t) σ H Q) : tCB r (cA s0 n t) σ H Q := by
  obtain ⟨s, ρ, q, e, R, t, k⟩ := z
  exact ⟨s, ρ, _, e, R, t, fun ds vs s' _ t1 u r1 => h s' vs ds q Q u.ok r1 t1 fun d v s2 hq u2 rf => k d v s2 hq (u.trans u2) rf⟩
theorem tCB_O (h : CallO r ro) {σ : L2.St} {H : Hp} {Q : VK} (z : cO s0 (dCO ro t) σ H Q) : tCB r (cA s0 n t) σ H Q := by
  obtain ⟨s, ρ, q, e, R, t, k⟩ := z
  exact ⟨s, ρ, _, e, R, t, fun ds vs s' _ t1 u r1 => h s' vs ds q Q u.ok r1 t1 fun es ws a s2 hq u2 e1 e2 e3 e4 e5 => k es ws a s2 hq (u.trans u2) (u.free e1) e2 e3 e4 e5⟩
theorem pd_callB (hc : CallR X (.builtin id) r) (h : CallF r rd) (hg : Gl X x) (hm : X.mg x = none) (hv : bootBuiltins x = some (.builtin id)) (ha : PA X (e :: es) (cBA s0 n t)) (hn : x ≠ "__name__" := by decide) (hdb : (x == ("__debug__" : Str)) = false := by decide)
    (he : starEach (e :: es) X.env = (false, eval e X.env) :: starEach es X.env := by rfl) (hpl : (backTo pos (starEach es X.env)).any (·.1) = false := by rfl) : PE X (.Call (.Name x p) (e :: es) [] pos) (cE s0 (dCB rd t)) := peI (pe_callB hc hg hm hv ha hn hdb he hpl) fun _ _ _ z => tCB_F h z
theorem pd_callBN (hc : CallR X (.builtin id) r) (h : CallN r rd) (hg : Gl X x) (hm : X.mg x = none) (hv : bootBuiltins x = some (.builtin id)) (ha : PA X (e :: es) (cA s0 n t)) (hn : x ≠ "__name__" := by decide) (hdb : (x == ("__debug__" : Str)) = false := by decide)
    (he : starEach (e :: es) X.env = (false, eval e X.env) :: starEach es X.env := by rfl) (hpl : (backTo pos (starEach es X.env)).any (·.1) = false := by rfl) : PE X (.Call (.Name x p) (e :: es) [] pos) (cE s0 (dCB rd t)) := peI (pe_callB hc hg hm hv ha hn hdb he hpl) fun _ _ _ z => tCB_N h z
theorem po_callB (hc : CallR X (.builtin id) r) (h : CallO r ro) (hg : Gl X x) (hm : X.mg x = none) (hv : bootBuiltins x = some (.builtin id)) (ha : PA X (e :: es) (cA s0 n t)) (hn : x ≠ "__name__" := by decide) (hdb : (x == ("__debug__" : Str)) = false := by decide)
    (he : starEach (e :: es) X.env = (false, eval e X.env) :: starEach es X.env := by rfl) (hpl : (backTo pos (starEach es X.env)).any (·.1) = false := by rfl) : PE X (.Call (.Name x p) (e :: es) [] pos) (cO s0 (dCO ro t)) := peI (pe_callB hc hg hm hv ha hn hdb he hpl) fun _ _ _ z => tCB_O h z
theorem pd_callTy (hc : CallR X (.type T) r) (h : CallF r rd) (hg : Gl X x) (hm : X.mg x = none) (hv : bootBuiltins x = some (.type T)) (ha : PA X (e :: es) (cBA s0 n t)) (hn : x ≠ "__name__" := by decide) (hdb : (x == ("__debug__" : Str)) = false := by decide)
    (he : starEach (e :: es) X.env = (false, eval e X.env) :: starEach es X.env := by rfl) (hpl : (backTo pos (starEach es X.env)).any (·.1) = false := by rfl) : PE X (.Call (.Name x p) (e :: es) [] pos) (cE s0 (dCB rd t)) := peI (pe_callTy hc hg hm hv ha hn hdb he hpl) fun _ _ _ z => tCB_F h z
theorem pd_callTyN (hc : CallR X (.type T) r) (h : CallN r rd) (hg : Gl X x) (hm : X.mg x = none) (hv : bootBuiltins x = some (.type T)) (ha : PA X (e :: es) (cA s0 n t)) (hn : x ≠ "__name__" := by decide) (hdb : (x == ("__debug__" : Str)) = false := by decide)
    (he : starEach (e :: es) X.env = (false, eval e X.env) :: starEach es X.env := by rfl) (hpl : (backTo pos (starEach es X.env)).any (·.1) = false := by rfl) : PE X (.Call (.Name x p) (e :: es) [] pos) (cE s0 (dCB rd t)) := peI (pe_callTy hc hg hm hv ha hn hdb he hpl) fun _ _ _ z => tCB_N h z
theorem po_callTy (hc : CallR X (.type T) r) (h : CallO r ro) (hg : Gl X x) (hm : X.mg x = none) (hv : bootBuiltins x = some (.type T)) (ha : PA X (e :: es) (cA s0 n t)) (hn : x ≠ "__name__" := by decide) (hdb : (x == ("__debug__" : Str)) = false := by decide)
    (he : starEach (e :: es) X.env = (false, eval e X.env) :: starEach es X.env := by rfl) (hpl : (backTo pos (starEach es X.env)).any (·.1) = false := by rfl) : PE X (.Call (.Name x p) (e :: es) [] pos) (cO s0 (dCO ro t)) := peI (pe_callTy hc hg hm hv ha hn hdb he hpl) fun _ _ _ z => tCB_O h z
/-! ### a list of our own that becomes a tuple, a new list, a slice -/
noncomputable def dOwn (i : Nat) : DA := fun ρ q => match eg ρ i with | .ow (.l ds) => q ds | _ => False
/-- tuple(x), x a list of our own -/
theorem pd_tupO (i : Nat) {y : Str} {py : Pos} (hg : Gl X "tuple") (hm : X.mg "tuple" = none) (hN : X.N[i]? = some y := by rfl) (hv : Vis X.env.scope y := by first | exact Or.inl rfl | exact Or.inr (Or.inl rfl) | exact Or.inr (Or.inr rfl)) (hd : (y == ("__debug__" : Str)) = false := by decide)
    (hcd : (y == ("__classdict__" : Str)) = false := by decide) (he : starEach [.Name y py] X.env = (false, eval (.Name y py) X.env) :: starEach [] X.env := by rfl) : PE X (.Call (.Name "tuple" p) [.Name y py] [] pos) (cE s0 (dTup (dOwn i))) :=
  peI (pe_callTy call_tuple_of hg hm (by decide +kernel) (pa_cons (pe_var hN hv hd hcd) pa_nil) (by decide) (by decide) he rfl) fun σ H Q ⟨s, ρ, q, e, R, t, k⟩ => by
  subst e
  unfold dTup dOwn at t
  cases z : eg ρ i with
  | ow ob =>
    cases ob with
    | d _ => rw [z] at t; exact t.elim
    | l ds =>
    rw [z] at t
    obtain ⟨l, ho, e1, e2, e3, e4, e5, e0⟩ := R.ow i _ z
    obtain ⟨vs, rfl, e6⟩ := e0.lst
    exact ⟨_, e1, l, vs, rfl, .inl ⟨SqL.of e2, fun m nm => k _ _ (s.lay m (.tup vs)) t (Up.lay R.ok _ nm) (.tup upd_same (e6.up (Up.lay R.ok _ nm)))⟩⟩
  | no => rw [z] at t; exact t.elim
  | va d => rw [z] at t; exact t.elim
end
/-! ### len, min, max, abs, tuple, list -/
noncomputable def dLen : List Dt → (Dt → Prop) → Prop := fun ds q => match ds with | [.lst xs] => q (.int xs.length) | [.tup xs] => q (.int xs.length) | _ => False
theorem cf_len {K : PySem.W.Frag} : CallF (fun xs H Q => ∃ p ys, xs = [.ref p] ∧ (SqL K H p ys ∨ SqT K H p ys) ∧ Q (.int ys.length) H) dLen := fun J F H xs ds q Q sub r t k => by
  cases r with
  | cons h r =>
    cases r with
    | nil =>
      cases h with
      | lst h r => exact ⟨_, _, rfl, .inl (SqL.of (sub _ _ h)), k _ _ t fun J F => by rw [r.length]; exact .int _⟩
      | tup h r => exact ⟨_, _, rfl, .inr (SqT.of (sub _ _ h)), k _ _ t fun J F => by rw [r.length]; exact .int _⟩
      | _ => exact False.elim t
    | cons _ _ => cases h <;> exact False.elim t
  | nil => exact False.elim t
noncomputable def dII (f : Int → Int → Int) : List Dt → (Dt → Prop) → Prop := fun ds q => match ds with | [.int i, .int j] => q (.int (f i j)) | _ => False
theorem cf_II {f : Int → Int → Int} : CallF (fun xs H Q => ∃ i j, xs = [.int i, .int j] ∧ Q (.int (f i j)) H) (dII f) := fun J F H xs ds q Q sub r t k => by
  cases r with
  | nil => exact False.elim t
  | cons h r =>
    cases r with
    | nil => cases h <;> exact False.elim t
    | cons h2 r =>
      cases h with
      | int i =>
        cases h2 with
        | int j =>
          cases r with
          | nil => exact ⟨i, j, rfl, k _ _ t fun J F => .int _⟩
          | cons _ _ => exact False.elim t
        | _ => exact False.elim t
      | _ => exact False.elim t
abbrev fMin (i j : Int) : Int := if j < i then j else i
abbrev fMax (i j : Int) : Int := if j > i then j else i
noncomputable def dAbs : List Dt → (Dt → Prop) → Prop := fun ds q => match ds with | [.int i] => q (.int (if i < 0 then -i else i)) | _ => False
theorem cf_abs : CallF (fun xs H Q => ∃ i, xs = [.int i] ∧ Q (.int (if i < 0 then -i else i)) H) dAbs := fun J F H xs ds q Q sub r t k => by
  cases r with
  | nil => exact False.elim t
  | cons h r =>
    cases r with
    | nil =>
      cases h with
      | int i => exact ⟨i, rfl, k _ _ t fun J F => .int _⟩
      | _ => exact False.elim t
    | cons h2 r => cases h <;> exact False.elim t
noncomputable def dTupOf : List Dt → (Dt → Prop) → Prop := fun ds q => match ds with | [.lst xs] => q (.tup xs) | [.tup xs] => q (.tup xs) | _ => False
theorem cn_tup {K : PySem.W.Frag} : CallN (fun xs H Q => ∃ p ys, xs = [.ref p] ∧ ((SqL K H p ys ∧ ∀ l, H l = none → Q (.ref l) (upd H l (.tup ys))) ∨ (SqT K H p ys ∧ Q (.ref p) H))) dTupOf := fun s xs ds q Q ok r t k => by
  cases r with
  | nil => exact False.elim t
  | cons h r =>
    cases r with
    | cons h2 r => cases h <;> exact False.elim t
    | nil =>
      cases h with
      | lst h r => exact ⟨_, _, rfl, .inl ⟨SqL.of (ok.sub _ _ h), fun l nl => k _ _ (s.lay l _) t (Up.lay ok _ nl) (.tup upd_same (r.up (Up.lay ok _ nl)))⟩⟩
      | tup h r => exact ⟨_, _, rfl, .inr ⟨SqT.of (ok.sub _ _ h), k _ _ s t (Up.refl ok) (.tup h r)⟩⟩
      | _ => exact False.elim t
noncomputable def dListOf : List Dt → (List Dt → Prop) → Prop := fun ds q => match ds with | [.lst xs] => q xs | [.tup xs] => q xs | _ => False
theorem co_list {K : PySem.W.Frag} : CallO (fun xs H Q => ∃ p ys, xs = [.ref p] ∧ (SqL K H p ys ∨ SqT K H p ys) ∧ ∀ l, H l = none → Q (.ref l) (upd H l (.lst ys))) dListOf := fun s xs ds q Q ok r t k => by
  cases r with
  | nil => exact False.elim t
  | cons h r =>
    cases r with
    | cons h2 r => cases h <;> exact False.elim t
    | nil =>
      cases h with
      | lst h r => exact ⟨_, _, rfl, .inl (SqL.of (ok.sub _ _ h)), fun l nl => k _ _ l (s.put l _) t (Up.put ok _ nl) nl upd_same (ok.nof nl) (ok.noj nl) (r.up (Up.put ok _ nl))⟩
      | tup h r => exact ⟨_, _, rfl, .inr (SqT.of (ok.sub _ _ h)), fun l nl => k _ _ l (s.put l _) t (Up.put ok _ nl) nl upd_same (ok.nof nl) (ok.noj nl) (r.up (Up.put ok _ nl))⟩
      | _ => exact False.elim t
/-! ### + and * of lists and tuples -/
section
variable {X : Cx} {s0 : Wd} {e a b : Expr} {es : List Expr} {ta tb te : DE} {t : DA} {pos : Pos} {n : Nat}
/-- an operator whose answer is a new list -/
noncomputable def OpO (r : R2) (rd : Dt → Dt → (List Dt → Prop) → Prop) : Prop := ∀ (s : Wd) (x y : V) (dx dy : Dt) (q : List Dt → Prop) (Q : VK), Ok s → Rv s.J s.F x dx → Rv s.J s.F y dy → rd dx dy q →
  (∀ es vs a s', q es → Up s s' → s.H a = none → s'.H a = some (.lst vs) → s'.F a = none → s'.J a = none → Rvs s'.J s'.F vs es → Q (.ref a) s'.H) → r x y s.H Q
noncomputable def dOpO (r : Dt → Dt → (List Dt → Prop) → Prop) (ta tb : DE) : DA := fun ρ q => ta ρ fun x => tb ρ fun y => r x y q
theorem po_op {r : R2} {rd : Dt → Dt → (List Dt → Prop) → Prop} {op : Operator} (ho : OpR X (binaryOp op) r) (h : OpO r rd) (ha : PE X a (cE s0 ta)) (hb : PE X b (cE s0 tb)) : PE X (.BinOp a op b pos) (cO s0 (dOpO rd ta tb)) := peI (pe_op ho ha hb) fun σ H Q ⟨s, ρ, q, e, R, t, k⟩ =>
  ⟨s, ρ, _, e, R, t, fun d v s' t1 u r1 => ⟨s', ρ, _, rfl, R.up' u, t1, fun d2 v2 s2 t2 u2 r2 => h s2 v v2 d d2 q Q u2.ok (r1.up u2) r2 t2 fun es ws a s3 hq u3 e1 e2 e3 e4 e5 => k es ws a s3 hq (u.trans (u2.trans u3)) (u.free (u2.free e1)) e2 e3 e4 e5⟩⟩
end
noncomputable def dCat : Dt → Dt → (List Dt → Prop) → Prop := fun x y q => match x, y with | .lst xs, .lst ys => xs.length + ys.length ≤ sizeLine ∧ q (xs ++ ys) | _, _ => False
theorem oo_cat : OpO rCat dCat := fun s x y dx dy q Q ok rx ry t k => by
  cases rx with
  | lst h r =>
    cases ry with
    | lst h2 r2 => exact ⟨_, _, _, _, rfl, rfl, ok.sub _ _ h, ok.sub _ _ h2, by rw [r.length, r2.length]; exact t.1, fun p np => k _ _ p (s.put p _) t.2 (Up.put ok _ np) np upd_same (ok.nof np) (ok.noj np) ((r.append r2).up (Up.put ok _ np))⟩
    | _ => exact False.elim t
  | _ => exact False.elim t
noncomputable def dRep : Dt → Dt → (List Dt → Prop) → Prop := fun x y q => match x, y with | .lst xs, .int k => -(2 ^ 63) ≤ k ∧ k < 2 ^ 63 ∧ xs.length * k.toNat ≤ sizeLine ∧ q (List.replicate k.toNat xs).flatten | _, _ => False
theorem oo_rep : OpO rRep dRep := fun s x y dx dy q Q ok rx ry t k => by
  cases rx with
  | lst h r =>
    cases ry with
    | int i => exact ⟨_, i, _, rfl, rfl, ok.sub _ _ h, t.1, t.2.1, by rw [r.length]; exact t.2.2.1, fun p np => k _ _ p (s.put p _) t.2.2.2 (Up.put ok _ np) np upd_same (ok.nof np) (ok.noj np) ((r.rep _).up (Up.put ok _ np))⟩
    | _ => exact False.elim t
  | _ => exact False.elim t
noncomputable def dCatT : Dt → Dt → (Dt → Prop) → Prop := fun x y q => match x, y with | .tup xs, .tup ys => xs.length + ys.length ≤ sizeLine ∧ q (.tup (xs ++ ys)) | _, _ => False
theorem on_catT {K : PySem.W.Frag} : OpN (rCatA K) dCatT := fun s x y dx dy q Q ok rx ry t k => by
  cases rx with
  | @tup a xs ds h r =>
    cases ry with
    | @tup b ys es h2 r2 =>
      refine ⟨_, _, _, _, rfl, rfl, SqT.of (ok.sub _ _ h), SqT.of (ok.sub _ _ h2), by rw [r.length, r2.length]; exact t.1, fun z => ?_, fun _ z => ?_, fun _ _ p np => k _ _ (s.lay p _) t.2 (Up.lay ok _ np) (.tup upd_same ((r.append r2).up (Up.lay ok _ np)))⟩
      · subst z
        cases r
        exact k _ _ s t.2 (Up.refl ok) (.tup h2 r2)
      · subst z
        cases r2
        have q2 := t.2
        rw [List.append_nil] at q2
        exact k _ _ s q2 (Up.refl ok) (.tup h r)
    | _ => exact False.elim t
  | _ => exact False.elim t
/-! ### slices -/
noncomputable def cutG {α : Type} (xs : List α) (lo hi : Option Int) : List α := (xs.drop (HT.sIx xs.length 0 lo)).take (HT.sIx xs.length xs.length hi - HT.sIx xs.length 0 lo)
theorem cutV_cutG (xs : List V) (lo hi : Option Int) : cutV xs lo hi = cutG xs lo hi := rfl
theorem Rvs.cut {J : Addr → Option Vol} {F : Hp} {vs : List V} {ds : List Dt} (r : Rvs J F vs ds) (lo hi : Option Int) : Rvs J F (cutV vs lo hi) (cutG ds lo hi) := by
  rw [cutV_cutG]
  unfold cutG
  rw [r.length]
  exact (r.drop _).take _
theorem cut_whole {α : Type} {xs : List α} {lo hi : Option Int} (h : HT.sIx xs.length 0 lo = 0 ∧ HT.sIx xs.length xs.length hi = xs.length) : cutG xs lo hi = xs := by
  unfold cutG
  rw [h.1, h.2, List.drop_zero, Nat.sub_zero, List.take_length]
abbrev DP := Env → (Option Int → Prop) → Prop
noncomputable def cP (s0 : Wd) (t : DP) : TO := fun σ H Q => ∃ s ρ q, s.H = H ∧ Rp s0 s ρ σ ∧ t ρ q ∧ ∀ o s', q o → Up s s' → Q o s'.H
noncomputable def dNoP : DP := fun _ q => q none
noncomputable def dP (t : DE) : DP := fun ρ q => t ρ fun d => match d with | .int i => q (some i) | _ => False
section
variable {X : Cx} {s0 : Wd} {e a b : Expr} {es : List Expr} {ta tb te : DE} {t : DA} {pos p2 : Pos} {n : Nat} {lo hi : Option Expr} {tl th : DP}
theorem poI {e : Option Expr} {t t' : TO} (h : PO X e t) (f : ∀ σ H Q, t' σ H Q → t σ H Q) : PO X e t' := ⟨fun pins s σ H Q I z => h.run pins s σ H Q I (f σ H Q z)⟩
theorem pdp_none : PO X none (cP s0 dNoP) := poI po_none fun σ H Q ⟨s, ρ, q, e, R, t, k⟩ => by subst e; exact k none s t (Up.refl R.ok)
theorem pdp_some (h : PE X e (cE s0 te)) : PO X (some e) (cP s0 (dP te)) := poI (po_some h) fun σ H Q ⟨s, ρ, q, e, R, t, k⟩ => ⟨s, ρ, _, e, R, t, fun d v s' t1 u r1 => by
  cases r1 with
  | int i => exact ⟨i, rfl, k _ s' t1 u⟩
  | _ => exact False.elim t1⟩
noncomputable def dSlT (te : DE) (tl th : DP) : DE := fun ρ q => te ρ fun x => tl ρ fun l => th ρ fun u => match x with | .tup xs => q (.tup (cutG xs l u)) | _ => False
theorem pd_slT (he : PE X e (cE s0 te)) (hl : PO X lo (cP s0 tl)) (hu : PO X hi (cP s0 th)) : PE X (.Subscript e (.Slice lo hi none p2) pos) (cE s0 (dSlT te tl th)) := peI (pe_slice sl_tupA he hl hu) fun σ H Q ⟨s, ρ, q, e, R, t, k⟩ =>
  ⟨s, ρ, _, e, R, t, fun d v s1 t1 u1 r1 => ⟨s1, ρ, _, rfl, R.up' u1, t1, fun l s2 t2 u2 => ⟨s2, ρ, _, rfl, (R.up' u1).up' u2, t2, fun u s3 t3 u3 => by
    have r3 := (r1.up u2).up u3
    have U := u1.trans (u2.trans u3)
    cases r3 with
    | @tup a xs ds h r =>
      refine ⟨_, _, rfl, SqT.of (u3.ok.sub _ _ h), fun w => ?_, fun _ p np => k _ _ (s3.lay p _) t3 (U.trans (Up.lay u3.ok _ np)) (.tup upd_same ((r.cut l u).up (Up.lay u3.ok _ np)))⟩
      have w' : cutG ds l u = ds := cut_whole (by rw [← r.length]; exact w)
      have t4 : q (.tup (cutG ds l u)) := t3
      rw [w'] at t4
      exact k _ _ s3 t4 U (.tup h r)
    | _ => exact False.elim t3⟩⟩⟩
noncomputable def dSlL (te : DE) (tl th : DP) : DA := fun ρ q => te ρ fun x => tl ρ fun l => th ρ fun u => match x with | .lst xs => q (cutG xs l u) | _ => False
theorem po_slL (he : PE X e (cE s0 te)) (hl : PO X lo (cP s0 tl)) (hu : PO X hi (cP s0 th)) : PE X (.Subscript e (.Slice lo hi none p2) pos) (cO s0 (dSlL te tl th)) := peI (pe_slice sl_list he hl hu) fun σ H Q ⟨s, ρ, q, e, R, t, k⟩ =>
  ⟨s, ρ, _, e, R, t, fun d v s1 t1 u1 r1 => ⟨s1, ρ, _, rfl, R.up' u1, t1, fun l s2 t2 u2 => ⟨s2, ρ, _, rfl, (R.up' u1).up' u2, t2, fun u s3 t3 u3 => by
    have r3 := (r1.up u2).up u3
    have U := u1.trans (u2.trans u3)
    cases r3 with
    | @lst a xs ds h r => exact ⟨_, _, rfl, SqL.of (u3.ok.sub _ _ h), fun p np => k _ _ p (s3.put p _) t3 (U.trans (Up.put u3.ok _ np)) (U.free np) upd_same (u3.ok.nof np) (u3.ok.noj np) ((r.cut l u).up (Up.put u3.ok _ np))⟩
    | _ => exact False.elim t3⟩⟩⟩
/-- xs[::-1] -/
noncomputable def dRevL (te : DE) : DA := fun ρ q => te ρ fun x => match x with | .lst xs => q xs.reverse | _ => False
theorem po_revL {k : Nat} {p1 p3 : Pos} (he : PE X e (cE s0 te)) : PE X (.Subscript e (.Slice none none (some (.UnaryOp .USub (.Constant (.int 1) k p1) p2)) p3) pos) (cO s0 (dRevL te)) := peI (pe_revL he) fun σ H Q ⟨s, ρ, q, e, R, t, k⟩ =>
  ⟨s, ρ, _, e, R, t, fun d v s1 t1 u1 r1 => by
    cases r1 with
    | @lst a xs ds h r => exact ⟨_, _, rfl, SqL.of (u1.ok.sub _ _ h), fun p np => k _ _ p (s1.put p _) t1 (u1.trans (Up.put u1.ok _ np)) (u1.free np) upd_same (u1.ok.nof np) (u1.ok.noj np) (r.reverse.up (Up.put u1.ok _ np))⟩
    | _ => exact False.elim t1⟩
/-! ### -x -/
noncomputable def dNeg (te : DE) : DE := fun ρ q => te ρ fun x => match x with | .int i => q (.int (-i)) | _ => False
theorem pd_neg (he : PE X e (cE s0 te)) : PE X (.UnaryOp .USub e pos) (cE s0 (dNeg te)) := peI (pe_un un_neg he) fun σ H Q ⟨s, ρ, q, e, R, t, k⟩ =>
  ⟨s, ρ, _, e, R, t, fun d v s1 t1 u1 r1 => by
    cases r1 with
    | int i => exact ⟨i, rfl, k _ _ s1 t1 u1 (.int _)⟩
    | _ => exact False.elim t1⟩
/-! ### a < b < c -/
noncomputable def dChain (r r' : Dt → Dt → (Dt → Prop) → Prop) (ta tb tc : DE) : DE := fun ρ q => ta ρ fun x => tb ρ fun y => r x y fun z => match z with | .bl k => if k = true then tc ρ fun w => r' y w q else q (.bl false) | _ => False
theorem chain_F {r r' : R2} {rd rd' : Dt → Dt → (Dt → Prop) → Prop} {tc : DE} (h : OpF r rd) (h' : OpF r' rd') {σ : L2.St} {H : Hp} {Q : VK} (z : cE s0 (dChain rd rd' ta tb tc) σ H Q) : tChain r r' (cE s0 ta) (cE s0 tb) (cE s0 tc) σ H Q := by
  obtain ⟨s, ρ, q, e, R, t, k⟩ := z
  refine ⟨s, ρ, _, e, R, t, fun d v s1 t1 u1 r1 => ⟨s1, ρ, _, rfl, R.up' u1, t1, fun d2 v2 s2 t2 u2 r2 => ?_⟩⟩
  refine h s2.J s2.F s2.H v v2 d d2 _ _ u2.ok.sub (r1.up u2) r2 t2 fun d3 v3 t3 r3 => ?_
  have r3' := r3 s2.J s2.F
  cases r3' with
  | bl c =>
    refine ⟨c, rfl, ?_⟩
    cases c with
    | true =>
      refine ⟨s2, ρ, _, rfl, (R.up' u1).up' u2, t3, fun d4 v4 s4 t4 u4 r4 => ?_⟩
      exact h' s4.J s4.F s4.H v2 v4 d2 d4 _ _ u4.ok.sub (r2.up u4) r4 t4 fun d5 v5 t5 r5 => k d5 v5 s4 t5 (u1.trans (u2.trans u4)) (r5 _ _)
    | false => exact k _ _ s2 t3 (u1.trans u2) (.bl false)
  | _ => exact False.elim t3
theorem pdt_chain {c : Expr} {tc : DE} {op op' : CmpOp} {r r' : R2} {rd rd' : Dt → Dt → (Dt → Prop) → Prop} (ho : OpR X (compareOp op) r) (ho' : OpR X (compareOp op') r') (h : OpF r rd) (h' : OpF r' rd') (ha : PE X a (cE s0 ta)) (hb : PE X b (cE s0 tb)) (hc : PE X c (cE s0 tc))
    (hm : lastMarks [op, op'] [b, c] = false := by with_unfolding_all rfl) : PT X (.Compare a [op, op'] [b, c] pos) (cT s0 (dB (dChain rd rd' ta tb tc))) := ptI (pt_chain ho ho' ha hb hc hm) fun σ H Q z => chain_F h h' (by
  obtain ⟨s, ρ, q, e, R, t, k⟩ := z
  refine ⟨s, ρ, _, e, R, t, fun d v s' t1 u r1 => ?_⟩
  cases r1 with
  | bl b => exact ⟨b, rfl, k b s' t1 u⟩
  | _ => exact t1.elim)
end
end Dl
/-! what is walked, comprehensions, statements over data -/
namespace Dl
open PySem PySem.Spec PyProof.Rows L2 RT
theorem Up.noF {s s' : Wd} (u : Up s s') {a : Addr} {o : HO} (e : s.H a = some o) (f : s.F a = none) : s'.F a = none := by
  cases z : s'.F a with
  | none => rfl
  | some w => rw [u.nw a w z f] at e; cases e
theorem Up.noJ {s s' : Wd} (u : Up s s') {a : Addr} {o : HO} (e : s.H a = some o) (f : s.J a = none) : s'.J a = none := by
  cases z : s'.J a with
  | none => rfl
  | some w => rw [u.jn a w z f] at e; cases e
/-! ### walks -/
theorem walkD_list {K : PySem.W.Frag} {s1 : Wd} {a : Addr} {vs : List V} {ds : List Dt} (h : s1.F a = some (.lst vs)) (r : Rvs s1.J s1.F vs ds) : WalkD s1 (Itl K a) ds := ⟨_, _, (by rw [← r.length]; exact walk_list (xs := vs)), fun s f => SqL.of (f.ok.sub _ _ (f.fr _ _ h)), fun i s x H' hi f y => by
  obtain ⟨e, hx⟩ := y
  obtain ⟨d, e1, e2⟩ := r.at' hx
  exact ⟨s, d, e.symm, Up.refl f.ok, e1, e2.fw f.fr f.jr⟩⟩
theorem walkD_tup {K : PySem.W.Frag} {s1 : Wd} {a : Addr} {vs : List V} {ds : List Dt} (h : s1.F a = some (.tup vs)) (r : Rvs s1.J s1.F vs ds) : WalkD s1 (Itt K a) ds := ⟨_, _, (by rw [← r.length]; exact walk_tup (xs := vs)), fun s f => SqT.of (f.ok.sub _ _ (f.fr _ _ h)), fun i s x H' hi f y => by
  obtain ⟨e, hx⟩ := y
  obtain ⟨d, e1, e2⟩ := r.at' hx
  exact ⟨s, d, e.symm, Up.refl f.ok, e1, e2.fw f.fr f.jr⟩⟩
/-- lo, lo + c, .. -/
noncomputable def rg (lo c : Int) (n : Nat) : List Dt := (List.range n).map fun i => .int (lo + (i : Nat) * c)
theorem rg_len (lo c : Int) (n : Nat) : (rg lo c n).length = n := by unfold rg; rw [List.length_map, List.length_range]
theorem rg_at {lo c : Int} {n i : Nat} (h : i < n) : (rg lo c n)[i]? = some (.int (lo + (i : Nat) * c)) := by
  unfold rg
  rw [List.getElem?_map, List.getElem?_range h]
  rfl
theorem walkD_range {s1 : Wd} {lo : Int} {n : Nat} : WalkD s1 (Itr lo n) (rg lo 1 n) := ⟨_, _, (by rw [rg_len]; exact walk_range), fun s f => True.intro, fun i s x H' hi f y => by
  obtain ⟨e, rfl⟩ := y
  rw [rg_len] at hi
  exact ⟨s, _, e.symm, Up.refl f.ok, rg_at hi, by rw [Int.mul_one]; exact .int _⟩⟩
theorem walkD_rangeC {s1 : Wd} {lo c : Int} {n : Nat} : WalkD s1 (Itc lo c n) (rg lo c n) := ⟨_, _, (by rw [rg_len]; exact walk_rangeC), fun s f => True.intro, fun i s x H' hi f y => by
  obtain ⟨e, rfl⟩ := y
  rw [rg_len] at hi
  exact ⟨s, _, e.symm, Up.refl f.ok, rg_at hi, .int _⟩⟩
theorem walkD_rev {K : PySem.W.Frag} {s1 : Wd} {a : Addr} {vs : List V} {ds : List Dt} (h : s1.F a = some (.lst vs)) (r : Rvs s1.J s1.F vs ds) : WalkD s1 (Itv K a vs.length) ds.reverse := ⟨_, _, (by rw [List.length_reverse, ← r.length]; exact walk_rev (xs := vs)), fun s f => SqL.of (f.ok.sub _ _ (f.fr _ _ h)), fun i s x H' hi f y => by
  obtain ⟨e, hx⟩ := y
  obtain ⟨d, e1, e2⟩ := r.at' hx
  rw [List.length_reverse] at hi
  refine ⟨s, d, e.symm, Up.refl f.ok, ?_, e2.fw f.fr f.jr⟩
  rw [List.getElem?_reverse hi, ← r.length]
  exact e1⟩
theorem walk_revT {K : PySem.W.Frag} {a : Addr} {xs : List V} : Walk (ItvT K a xs.length) xs.length (fun H => SqT K H a xs) (fun i H x H' => H' = H ∧ xs[xs.length - 1 - i]? = some x) where
  stops _ _ := Nat.le_refl _
  goes i _ lt here := by
    have inside : xs.length - 1 - i < xs.length := by omega
    exact ⟨lt, xs, _, here, List.getElem?_eq_getElem inside⟩
  yields _ _ _ _ _ here y := y.imp_right fun z => z xs here
theorem walkD_revT {K : PySem.W.Frag} {s1 : Wd} {a : Addr} {vs : List V} {ds : List Dt} (h : s1.F a = some (.tup vs)) (r : Rvs s1.J s1.F vs ds) : WalkD s1 (ItvT K a vs.length) ds.reverse := ⟨_, _, (by rw [List.length_reverse, ← r.length]; exact walk_revT (xs := vs)), fun s f => SqT.of (f.ok.sub _ _ (f.fr _ _ h)), fun i s x H' hi f y => by
  obtain ⟨e, hx⟩ := y
  obtain ⟨d, e1, e2⟩ := r.at' hx
  rw [List.length_reverse] at hi
  refine ⟨s, d, e.symm, Up.refl f.ok, ?_, e2.fw f.fr f.jr⟩
  rw [List.getElem?_reverse hi, ← r.length]
  exact e1⟩
theorem walkD_str {s1 : Wd} {z : Str} : WalkD s1 (Its z) (z.cps.toList.map fun c => .str ⟨#[c]⟩) := ⟨_, _, (by rw [List.length_map, Array.length_toList]; exact walk_str), fun s f => True.intro, fun i s x H' hi f y => by
  obtain ⟨e, c, hc, rfl⟩ := y
  refine ⟨s, .str ⟨#[c]⟩, e.symm, Up.refl f.ok, ?_, .str _⟩
  rw [List.getElem?_map, Array.getElem?_toList, hc]
  rfl⟩
section
variable {X : Cx} {s0 : Wd} {e a b tg : Expr} {es : List Expr} {ta tb te : DE} {t : DA} {pos p : Pos} {n : Nat}
noncomputable def dSeqI (te : DE) : DA := fun ρ q => te ρ fun d => match d with | .lst ds => q ds | _ => False
noncomputable def dSeqT (te : DE) : DA := fun ρ q => te ρ fun d => match d with | .tup ds => q ds | _ => False
theorem pdi_list (h : PE X e (cE s0 te)) : PI X tg e (cI s0 (dSeqI te)) := piI (pi_list h) fun σ H R ⟨s, ρ, q, e, Rr, t, k⟩ => ⟨s, ρ, _, e, Rr, t, fun d v s' t1 u r1 => by
  cases r1 with
  | lst h r => exact ⟨_, rfl, ⟨_, SqL.of (u.ok.sub _ _ h)⟩, k _ _ s' t1 u (walkD_list h r)⟩
  | _ => exact False.elim t1⟩
theorem pdi_tup (h : PE X e (cE s0 te)) : PI X tg e (cI s0 (dSeqT te)) := piI (pi_tup h) fun σ H R ⟨s, ρ, q, e, Rr, t, k⟩ => ⟨s, ρ, _, e, Rr, t, fun d v s' t1 u r1 => by
  cases r1 with
  | tup h r => exact ⟨_, rfl, ⟨_, SqT.of (u.ok.sub _ _ h)⟩, k _ _ s' t1 u (walkD_tup h r)⟩
  | _ => exact False.elim t1⟩
noncomputable def dSeqS (te : DE) : DA := fun ρ q => te ρ fun d => match d with | .str z => q (z.cps.toList.map fun c => .str ⟨#[c]⟩) | _ => False
theorem pdi_str (h : PE X e (cE s0 te)) : PI X tg e (cI s0 (dSeqS te)) := piI (pi_str h) fun σ H R ⟨s, ρ, q, e, Rr, t, k⟩ => ⟨s, ρ, _, e, Rr, t, fun d v s' t1 u r1 => by
  cases r1 with
  | str z => exact ⟨_, rfl, k _ _ s' t1 u walkD_str⟩
  | _ => exact False.elim t1⟩
noncomputable def InR (i : Int) : Prop := -(2 ^ 62) ≤ i ∧ i < 2 ^ 62
noncomputable def dR1 (te : DE) : DA := fun ρ q => te ρ fun d => match d with | .int j => InR j ∧ q (rg 0 1 j.toNat) | _ => False
theorem pdi_range1 {pp : Pos} (hg : Gl X "range") (hm : X.mg "range" = none) (ha : PE X a (cE s0 ta)) (hs : starEach [a] X.env = [(false, eval a X.env)] := by rfl) : PI X tg (.Call (.Name "range" pp) [a] [] pos) (cI s0 (dR1 ta)) := piI (pi_range1 hg hm (pa_cons ha pa_nil hs) hs) fun σ H R ⟨s, ρ, q, e, Rr, t, k⟩ =>
  ⟨s, ρ, _, e, Rr, t, fun d v s' t1 u r1 => by
    cases r1 with
    | int j => exact ⟨j, rfl, t1.1.1, t1.1.2, k _ _ s' t1.2 u walkD_range⟩
    | _ => exact False.elim t1⟩
noncomputable def dR2 (ta tb : DE) : DA := fun ρ q => ta ρ fun x => tb ρ fun y => match x, y with | .int i, .int j => InR i ∧ InR j ∧ q (rg i 1 (j - i).toNat) | _, _ => False
theorem pdi_range2 {pp : Pos} (hg : Gl X "range") (hm : X.mg "range" = none) (ha : PE X a (cE s0 ta)) (hb : PE X b (cE s0 tb)) (hs : starEach [a, b] X.env = [(false, eval a X.env), (false, eval b X.env)] := by rfl) (hs2 : starEach [b] X.env = [(false, eval b X.env)] := by rfl) :
    PI X tg (.Call (.Name "range" pp) [a, b] [] pos) (cI s0 (dR2 ta tb)) := piI (pi_range2 hg hm (pa_cons ha (pa_cons hb pa_nil hs2) (by rw [hs, hs2])) hs hs2) fun σ H R ⟨s, ρ, q, e, Rr, t, k⟩ =>
  ⟨s, ρ, _, e, Rr, t, fun d v s' t1 u r1 => ⟨s', ρ, _, rfl, Rr.up' u, t1, fun d2 v2 s2 t2 u2 r2 => by
    cases r1 with
    | int i =>
      cases r2 with
      | int j => exact ⟨i, j, rfl, ⟨t2.1.1, t2.1.2, t2.2.1.1, t2.2.1.2⟩, k _ _ s2 t2.2.2 (u.trans u2) walkD_range⟩
      | _ => exact False.elim t2
    | _ => cases r2 <;> exact False.elim t2⟩⟩
/-- range(a, b, -1) -/
noncomputable def dR3 (ta tb tc : DE) : DA := fun ρ q => ta ρ fun x => tb ρ fun y => tc ρ fun z => match x, y, z with | .int i, .int j, .int (-1) => InR i ∧ InR j ∧ q (rg i (-1) (i - j).toNat) | _, _, _ => False
theorem pdi_range3 {c : Expr} {tc : DE} {pp : Pos} (hg : Gl X "range") (hm : X.mg "range" = none) (ha : PE X a (cE s0 ta)) (hb : PE X b (cE s0 tb)) (hc : PE X c (cE s0 tc)) (hs : starEach [a, b, c] X.env = (false, eval a X.env) :: starEach [b, c] X.env := by rfl) (hs1 : starEach [b, c] X.env = (false, eval b X.env) :: starEach [c] X.env := by rfl) (hs2 : starEach [c] X.env = (false, eval c X.env) :: starEach [] X.env := by rfl) (hpl : (backTo pos (starEach [b, c] X.env)).any (·.1) = false := by rfl) :
    PI X tg (.Call (.Name "range" pp) [a, b, c] [] pos) (cI s0 (dR3 ta tb tc)) := piI (pi_range3 hg hm (pa_cons ha (pa_cons hb (pa_cons hc pa_nil hs2) hs1) hs) hs hpl) fun σ H R ⟨s, ρ, q, e, Rr, t, k⟩ =>
  ⟨s, ρ, _, e, Rr, t, fun d v s' t1 u r1 => ⟨s', ρ, _, rfl, Rr.up' u, t1, fun d2 v2 s2 t2 u2 r2 => ⟨s2, ρ, _, rfl, (Rr.up' u).up' u2, t2, fun d3 v3 s3 t3 u3 r3 => by
    have U := u.trans (u2.trans u3)
    cases r1 with
    | int i =>
      cases r2 with
      | int j =>
        cases r3 with
        | int c =>
          by_cases hc : c = -1
          · subst hc
            exact ⟨i, j, -1, _, rfl, RgC.neg t3.1.1 t3.1.2 t3.2.1.1 t3.2.1.2, k _ _ s3 t3.2.2 U walkD_rangeC⟩
          · refine False.elim ?_
            revert t3
            show (match (Dt.int i), (Dt.int j), (Dt.int c) with | .int i, .int j, .int (-1) => _ | _, _, _ => False) → False
            split
            · rename_i e1 e2 e3
              cases e3
              exact absurd rfl hc
            · exact id
        | _ => exact False.elim t3
      | _ => cases r3 <;> exact False.elim t3
    | _ => cases r2 <;> cases r3 <;> exact False.elim t3⟩⟩⟩
noncomputable def dRev (te : DE) : DA := fun ρ q => te ρ fun d => match d with | .lst ds => q ds.reverse | .tup ds => q ds.reverse | _ => False
theorem pdi_rev {pp : Pos} (hg : Gl X "reversed") (hm : X.mg "reversed" = none) (h : PE X e (cE s0 te)) (hs : starEach [e] X.env = (false, eval e X.env) :: starEach [] X.env := by rfl) : PI X tg (.Call (.Name "reversed" pp) [e] [] pos) (cI s0 (dRev te)) := piI (pi_revA hg hm h hs) fun σ H R ⟨s, ρ, q, e, Rr, t, k⟩ => ⟨s, ρ, _, e, Rr, t, fun d v s' t1 u r1 => by
  cases r1 with
  | lst h r => exact ⟨_, _, rfl, .inl ⟨SqL.of (u.ok.sub _ _ h), k _ _ s' t1 u (walkD_rev h r)⟩⟩
  | tup h r => exact ⟨_, _, rfl, .inr ⟨SqT.of (u.ok.sub _ _ h), k _ _ s' t1 u (walkD_revT h r)⟩⟩
  | _ => exact False.elim t1⟩
/-! ### targets -/
noncomputable def dName (i : Nat) : DG := fun d ρ q => q (ep ρ i (.va d))
theorem wipe_set {σ : L2.St} {i : Nat} {x : Option V} {vs : List Nat} (h : i ∈ vs) : wipe (σ.set i x) vs = wipe σ vs := by
  induction vs with
  | nil => cases h
  | cons j r ih =>
    unfold wipe
    by_cases e : i = j
    · subst e
      clear ih h
      induction r with
      | nil => show (σ.set i x).set i none = σ.set i none; rw [List.set_set]
      | cons k r ih2 =>
        by_cases z : k = i
        · subst z; unfold wipe; rw [List.set_set, List.set_set]; exact ih2
        · unfold wipe
          rw [List.set_comm _ _ z, List.set_comm _ _ z, ih2]
    · rw [ih ((List.mem_cons.mp h).resolve_left e)]
theorem pdg_name {i : Nat} {x : Str} (hN : X.N.Nodup) (hi : X.N[i]? = some x) (hx : Loc X.env.scope x) (hf : X.fn x = true ∨ X.env.scope.names.lookup x = some .local := by first | exact .inl rfl | exact .inr rfl | assumption) : PG X (.Name x pos) (cG s0 [i] (dName i)) :=
  pgI (pg_name hN hi hx hf) fun v σ H Q ⟨s, ρ, d, q, e, R, r, t, k⟩ => by
    subst e
    exact k _ _ s t (R.set i r) (Up.refl R.ok) (wipe_set (List.mem_singleton.mpr rfl))
/-- a, b = a pair -/
noncomputable def dName2 (i j : Nat) : DG := fun d ρ q => match d with | .tup [x, y] => q (ep (ep ρ i (.va x)) j (.va y)) | _ => False
theorem pdg_name2 {i j : Nat} {x y : Str} {px py : Pos} {kk : Nat} (hc : X.calm = true) (hN : X.N.Nodup) (hi : X.N[i]? = some x) (hj : X.N[j]? = some y) (hx : Loc X.env.scope x) (hy : Loc X.env.scope y)
    (hf : X.fn x = true ∨ X.env.scope.names.lookup x = some .local := by first | exact .inl rfl | exact .inr rfl | assumption) (hf2 : X.fn y = true ∨ X.env.scope.names.lookup y = some .local := by first | exact .inl rfl | exact .inr rfl | assumption)
    (h1 : (assignEach [.Name x px, .Name y py] X.env).map (·.2) = assign (.Name x px) X.env :: (assignEach [.Name y py] X.env).map (·.2) := by rfl) (h2 : (assignEach [.Name y py] X.env).map (·.2) = assign (.Name y py) X.env :: (assignEach [] X.env).map (·.2) := by rfl)
    (hn : (assignEach [.Name x px, .Name y py] X.env).length = 2 := by rfl) (hst : (assignEach [.Name x px, .Name y py] X.env).findIdx? (·.1) = none := by rfl) : PG X (.Tuple [.Name x px, .Name y py] kk pos) (cG s0 [i, j] (dName2 i j)) :=
  pgI (pg_tup hc (pgs_cons (pg_name hN hi hx hf) (pgs_cons (pg_name hN hj hy hf2) pgs_nil h2) h1) hn hst) fun v σ H Q ⟨s, ρ, d, q, e, R, r, t, k⟩ => by
    subst e
    cases r with
    | @tup a xs ds h r =>
      cases r with
      | nil => exact False.elim t
      | cons r1 r =>
        cases r with
        | nil => exact False.elim t
        | cons r2 r =>
          cases r with
          | cons _ _ => exact False.elim t
          | nil =>
            refine ⟨_, _, rfl, SqT.of (R.ok.sub _ _ h), rfl, _, _, rfl, _, _, rfl, rfl, k _ _ s t ((R.set i r1).set j r2) (Up.refl R.ok) ?_⟩
            rw [wipe_set (by simp), wipe_set (by simp)]
    | _ => exact False.elim t
/-! ### comprehensions -/
noncomputable def wipeE (ρ : Env) : List Nat → Env
  | [] => ρ
  | v :: vs => ep (wipeE ρ vs) v .no
theorem Rp.wipe {s0 s : Wd} {ρ : Env} {σ : L2.St} (R : Rp s0 s ρ σ) : ∀ vs : List Nat, Rp s0 s (wipeE ρ vs) (L2.wipe σ vs)
  | [] => R
  | v :: vs => (Rp.wipe R vs).forget v none
theorem wipe_wipe (σ : L2.St) (vs : List Nat) : wipe (wipe σ vs) vs = wipe σ vs := by
  have : ∀ ws : List Nat, (∀ w ∈ ws, w ∈ vs) → wipe (wipe σ ws) vs = wipe σ vs := fun ws => by
    induction ws with
    | nil => intro _; rfl
    | cons w ws ih =>
      intro h
      show wipe ((wipe σ ws).set w none) vs = _
      rw [wipe_set (h w List.mem_cons_self)]
      exact ih fun x hx => h x (List.mem_cons_of_mem _ hx)
  exact this vs fun _ h => h
noncomputable def lcR (ρ : Env) (tg : DG) (tt : DT) (te : DE) : List Dt → List Dt → (List Dt → Prop) → Prop
  | [], acc, q => q acc
  | d :: r, acc, q => tg d ρ fun ρ2 => tt ρ2 fun b => if b = true then te ρ2 fun y => acc.length < sizeLine ∧ lcR ρ tg tt te r (acc ++ [y]) q else lcR ρ tg tt te r acc q
noncomputable def dLc (ti : DA) (ws : List Nat) (tg : DG) (tt : DT) (te : DE) : DA := fun ρ q => ti ρ fun ds => lcR (wipeE ρ ws) tg tt te ds [] q
noncomputable def dYes : DT := fun _ q => q true
theorem pdts_nil : PTs X [] (cT s0 dYes) := ptsI pts_nil fun σ H Q ⟨s, ρ, q, e, R, t, k⟩ => by subst e; exact k true s t (Up.refl R.ok)
theorem pdts_one {c : Expr} {tt : DT} (h : PT X c (cT s0 tt)) : PTs X [c] (cT s0 tt) := pts_one h
/-- an object that is ours is written -/
theorem Up.mine {s1 s : Wd} (u : Up s1 s) {a : Addr} (o : HO) (n : s1.H a = none) (f : s.F a = none) (j : s.J a = none) {xs : HO} (l : s.H a = some xs) (nc : ∀ c q, xs ≠ LamX.CodeO c q) : Up s1 (s.put a o) where
  ok := ⟨fun b w e => by
      have : b ≠ a := fun z => by rw [z] at e; rw [show s.F a = _ from e] at f; cases f
      show upd s.H a o b = _
      rw [upd_ne this]; exact u.ok.sub b w e, fun b P e => by
      have : b ≠ a := fun z => by rw [z] at e; rw [show s.J a = _ from e] at j; cases j
      obtain ⟨w, q1, q2⟩ := u.ok.vol b P e
      exact ⟨w, by show upd s.H a o b = _; rw [upd_ne this]; exact q1, P.mono (fun c q z => ⟨z.1, by
        show upd s.H a o c = _
        have : c ≠ a := fun y => by rw [y] at z; exact nc _ _ (Option.some.inj (l.symm.trans z.2))
        rw [upd_ne this]; exact z.2⟩) q2⟩, u.ok.ft⟩
  keep := fun b w e z => by
    show upd s.H a o b = _
    rw [upd_ne (ne_of_none e n)]; exact u.keep b w e z
  fr := u.fr
  jr := u.jr
  nw := u.nw
  jn := u.jn
theorem lc_data {K : PySem.W.Frag} {ti : DA} {ws : List Nat} {tgd : DG} {tt : DT} {σ : L2.St} {H : Hp} {Q : VK} (z : cO s0 (dLc ti ws tgd tt te) σ H Q) : tLc (cI s0 ti) (cG s0 ws tgd) (cT s0 tt) (cE s0 te) ws σ H Q := by
  obtain ⟨s, ρ, q, e, R, t, k⟩ := z
  refine ⟨s, ρ, _, e, R, t, fun ds J s1 t1 u wk D nD => ?_⟩
  obtain ⟨G, Y, W, hG, hY⟩ := wk.ex
  have R1 := (R.up' u).wipe ws
  refine lc_it W (Pv := fun i H' => ∃ s2 vs acc, s2.H = H' ∧ Up s1 s2 ∧ s2.H D = some (.lst vs) ∧ s2.F D = none ∧ s2.J D = none ∧ Rvs s2.J s2.F vs acc ∧ lcR (wipeE ρ ws) tgd tt te (ds.drop i) acc q) ?_ ?_ ?_ ?_
  · exact ⟨s1.put D (.lst []), [], [], rfl, Up.put u.ok _ nD, upd_same, u.ok.nof nD, u.ok.noj nD, .nil, t1⟩
  · rintro i H' hi ⟨s2, vs, acc, rfl, u2, _⟩
    exact hG s2 u2.fw
  · rintro i x H' H'' hi ⟨s2, vs, acc, rfl, u2, e1, e2, e3, e4, t2⟩ y
    obtain ⟨s3, d, rfl, u3, ed, rd⟩ := hY i s2 x H'' hi u2.fw y
    rw [List.drop_eq_getElem_cons hi] at t2
    have ed' : ds[i] = d := by rw [List.getElem?_eq_getElem hi] at ed; exact Option.some.inj ed
    rw [ed'] at t2
    have stay : ∀ {s' : Wd}, Up s2 s' → s'.H D = some (.lst vs) ∧ s'.F D = none ∧ s'.J D = none := fun {s'} v => ⟨v.keep D _ e1 e3, v.noF e1 e2, v.noJ e1 e3⟩
    refine ⟨s3, wipeE ρ ws, d, _, rfl, (R1.up' u2).up' u3, rd, t2, fun ρ2 σ2 s4 t3 R2 u4 hw => ⟨by rw [hw, wipe_wipe], s4, ρ2, _, rfl, R2, t3, fun b s5 t4 u5 => ?_⟩⟩
    have U5 := u3.trans (u4.trans u5)
    cases b with
    | true =>
      refine ⟨s5, ρ2, _, rfl, R2.up' u5, t4, fun dy y s6 t5 u6 ry => ?_⟩
      have U6 := U5.trans u6
      obtain ⟨f1, f2, f3⟩ := stay U6
      have U := u2.trans U6
      refine ⟨vs, f1, by rw [e4.length]; exact t5.1, s6.put D (.lst (vs ++ [y])), vs ++ [y], acc ++ [dy], rfl, U.mine _ nD f2 f3 f1 (fun _ _ z => nomatch z), upd_same, f2, f3, (e4.up U6).append (.cons ry .nil), t5.2⟩
    | false =>
      obtain ⟨f1, f2, f3⟩ := stay U5
      exact ⟨s5, vs, acc, rfl, u2.trans U5, f1, f2, f3, e4.up U5, t4⟩
  · rintro H' ⟨s2, vs, acc, rfl, u2, e1, e2, e3, e4, t2⟩
    rw [List.drop_length] at t2
    exact k acc vs D s2 t2 (u.trans u2) (u.free nD) e1 e2 e3 e4
theorem po_lc {elt iter : Expr} {ifs : List Expr} {scope : Scope} {own : List (Str × Nat)} {ti : DA} {tgd : DG} {tt : DT} (hc : X.calm = true) (hN : X.N.Nodup) (hi : PI X tg iter (cI s0 ti)) (ok : BlkOk X.N X.env.scope scope own)
    (hg : ∀ (s : Shared) (H : Hp) (C : Addr) (cl : List (Str × Addr)) (fp : List Addr), PG (X.blk s H scope (compEnvC scope cl C X.env) fp) tg (cG s0 (own.map (·.2)) tgd)) (ht : ∀ (s : Shared) (H : Hp) (C : Addr) (cl : List (Str × Addr)) (fp : List Addr), PTs (X.blk s H scope (compEnvC scope cl C X.env) fp) ifs (cT s0 tt))
    (he : ∀ (s : Shared) (H : Hp) (C : Addr) (cl : List (Str × Addr)) (fp : List Addr), PE (X.blk s H scope (compEnvC scope cl C X.env) fp) elt (cE s0 te)) (hs : ∀ x, foldedSetIterable iter X.env x = pure x := by intro _; rfl) :
    PE X (.ListComp elt [⟨tg, iter, ifs, 0⟩] scope pos) (cO s0 (dLc ti (own.map (·.2)) tgd tt te)) := peI (pe_lc hc hN hi ok hg ht he hs) fun _ _ _ z => lc_data (K := X.K) z
end
end Dl
/-! statements over data -/
namespace Dl
open PySem PySem.Spec PyProof.Rows L2
section
variable {X : Cx} {s0 : Wd} {e a b tg : Expr} {es : List Expr} {ta tb te : DE} {t : DA} {pos : Pos} {n : Nat} {st : Stmt} {rest : List Stmt} {tz uz : DS}
noncomputable def dNext : DS := fun D ρ => D.nx ρ
noncomputable def dSeq (t u : DS) : DS := fun D ρ => t { D with nx := u D } ρ
theorem pz_nil : PSs X [] (cS s0 dNext) := pssI pss_nil fun B σ H ⟨s, ρ, D, e, R, t, l⟩ => by
  subst e
  exact l.nx s ρ σ t R (Fw.refl R.ok)
theorem pz_cons (h1 : PS X st (cS s0 tz)) (h2 : PSs X rest (cS s0 uz)) : PSs X (st :: rest) (cS s0 (dSeq tz uz)) := pssI (pss_cons h1 h2) fun B σ H ⟨s, ρ, D, e, R, t, l⟩ =>
  ⟨s, ρ, _, e, R, t, ⟨fun s2 ρ2 σ2 h R2 f => ⟨s2, ρ2, D, rfl, R2, h, l.fw f⟩, l.rt, l.bk, l.ct⟩⟩
theorem pz_one (h1 : PS X st (cS s0 tz)) : PSs X [st] (cS s0 tz) := pss_one h1
theorem pz_pass : PS X (.Pass pos) (cS s0 dNext) := psI ps_pass fun B σ H ⟨s, ρ, D, e, R, t, l⟩ => by
  subst e
  exact l.nx s ρ σ t R (Fw.refl R.ok)
noncomputable def dBrk : DS := fun D ρ => D.bk ρ
theorem pz_break : PS X (.Break pos) (cS s0 dBrk) := psI ps_break fun B σ H ⟨s, ρ, D, e, R, t, l⟩ => by
  subst e
  exact l.bk s ρ σ t R (Fw.refl R.ok)
noncomputable def dCnt : DS := fun D ρ => D.ct ρ
theorem pz_cont : PS X (.Continue pos) (cS s0 dCnt) := psI ps_continue fun B σ H ⟨s, ρ, D, e, R, t, l⟩ => by
  subst e
  exact l.ct s ρ σ t R (Fw.refl R.ok)
noncomputable def dNever : DS := fun _ _ => False
theorem pz_never : PS X st (cS s0 dNever) := psI ps_never fun B σ H ⟨s, ρ, D, e, R, t, l⟩ => t
theorem pzs_never {sts : List Stmt} : PSs X sts (cS s0 dNever) := pssI pss_never fun B σ H ⟨s, ρ, D, e, R, t, l⟩ => t
noncomputable def dDrop (te : DE) : DS := fun D ρ => te ρ fun _ => D.nx ρ
theorem pz_expr (he : PE X e (cE s0 te)) (hs : swapsWith e none pos.line X.env = pure false := by rfl) : PS X (.Expr e pos) (cS s0 (dDrop te)) := psI (ps_expr he hs) fun B σ H ⟨s, ρ, D, e, R, t, l⟩ =>
  ⟨s, ρ, _, e, R, t, fun d v s' t1 u _ => l.nx s' ρ σ t1 (R.up' u) u.fw⟩
noncomputable def dRet (te : DE) : DS := fun D ρ => te ρ D.rt
theorem pz_ret (he : PE X e (cE s0 te)) : PS X (.Return (some e) pos) (cS s0 (dRet te)) := psI (ps_ret he) fun B σ H ⟨s, ρ, D, e, R, t, l⟩ =>
  ⟨s, ρ, _, e, R, t, fun d v s' t1 u r => l.rt d v s' t1 (R.up.trans u) r⟩
noncomputable def dRetN : DS := fun D _ => D.rt .non
theorem pz_retN : PS X (.Return none pos) (cS s0 dRetN) := psI ps_retN fun B σ H ⟨s, ρ, D, e, R, t, l⟩ => by
  subst e
  exact l.rt _ _ s t R.up .non
/-- a list of our own is not changed any more -/
noncomputable def dFrz (i : Nat) (t : DS) : DS := fun D ρ => match eg ρ i with | .ow (.l ds) => t D (ep ρ i (.va (.lst ds))) | _ => False
theorem frz_data {i : Nat} {B : Ends} {σ : L2.St} {H : Hp} (z : cS s0 (dFrz i tz) B σ H) : cS s0 tz B σ H := by
  obtain ⟨s, ρ, D, e, R, t, l⟩ := z
  unfold dFrz at t
  cases z : eg ρ i with
  | ow ob =>
    cases ob with
    | d _ => rw [z] at t; exact t.elim
    | l ds =>
    rw [z] at t
    obtain ⟨s', e', R', f, j⟩ := R.freeze z
    exact ⟨s', _, D, e'.trans e, R', t, l.fw ⟨R'.ok, f, by rw [j]; exact fun _ _ e => e⟩⟩
  | no => rw [z] at t; exact t.elim
  | va d => rw [z] at t; exact t.elim
theorem pz_frz (i : Nat) (h : PS X st (cS s0 tz)) : PS X st (cS s0 (dFrz i tz)) := psI h fun _ _ _ z => frz_data z
theorem pzs_frz (i : Nat) (h : PSs X rest (cS s0 tz)) : PSs X rest (cS s0 (dFrz i tz)) := pssI h fun _ _ _ z => frz_data z
noncomputable def dIfS (t : DT) (a b : DS) : DS := fun D ρ => t ρ fun c => if c = true then a D ρ else b D ρ
theorem pz_if {c : Expr} {xs ys : List Stmt} {tc : DT} (hc : PT X c (cT s0 tc)) (ha : PSs X xs (cS s0 tz)) (hb : PSs X ys (cS s0 uz)) : PS X (.If c xs ys pos) (cS s0 (dIfS tc tz uz)) := psI (ps_if hc ha hb) fun B σ H ⟨s, ρ, D, e, R, t, l⟩ =>
  ⟨s, ρ, _, e, R, t, fun c s' t1 u => by
    cases c with
    | true => exact ⟨s', ρ, D, rfl, R.up' u, t1, l.fw u.fw⟩
    | false => exact ⟨s', ρ, D, rfl, R.up' u, t1, l.fw u.fw⟩⟩
/-! ### stores -/
noncomputable def dSet (i : Nat) (te : DE) : DS := fun D ρ => te ρ fun d => D.nx (ep ρ i (.va d))
theorem asg_data {i : Nat} {B : Ends} {σ : L2.St} {H : Hp} (z : cS s0 (dSet i te) B σ H) : tAsg (cE s0 te) (gName i) B σ H := by
  obtain ⟨s, ρ, D, e, R, t, l⟩ := z
  exact ⟨s, ρ, _, e, R, t, fun d v s' t1 u r => l.nx s' _ _ t1 ((R.up' u).set i r) u.fw⟩
theorem pz_set {i : Nat} {x : Str} {pos' : Pos} (hN : X.N.Nodup) (hi : X.N[i]? = some x) (hx : Loc X.env.scope x) (he : PE X e (cE s0 te)) (hs : swapsWith e (some (.Name x pos')) pos.line X.env = pure false := by rfl) (hf : X.fn x = true ∨ X.env.scope.names.lookup x = some .local := by first | exact .inl rfl | exact .inr rfl | assumption) :
    PS X (.Assign [.Name x pos'] e pos) (cS s0 (dSet i te)) := psI (ps_set hN hi hx he hs hf) fun _ _ _ z => asg_data z
noncomputable def dSetO (i : Nat) (t : DA) : DS := fun D ρ => t ρ fun ds => D.nx (ep ρ i (.ow (.l ds)))
theorem asg_own {i : Nat} {B : Ends} {σ : L2.St} {H : Hp} (z : cS s0 (dSetO i t) B σ H) : tAsg (cO s0 t) (gName i) B σ H := by
  obtain ⟨s, ρ, D, e, R, t, l⟩ := z
  refine ⟨s, ρ, _, e, R, t, fun ds vs a s' t1 u n e1 e2 e3 r => ?_⟩
  refine l.nx s' _ _ t1 ((R.up' u).setOw i e1 e2 e3 (R.up.free n) (.l r) fun j es _ hj hs => ?_) u.fw
  obtain ⟨a', vs', f1, f2, _⟩ := R.ow j es hj
  rw [hs] at f1
  cases f1
  rw [n] at f2
  cases f2
theorem pz_setO {i : Nat} {x : Str} {pos' : Pos} (hN : X.N.Nodup) (hi : X.N[i]? = some x) (hx : Loc X.env.scope x) (he : PE X e (cO s0 t)) (hs : swapsWith e (some (.Name x pos')) pos.line X.env = pure false := by rfl) (hf : X.fn x = true ∨ X.env.scope.names.lookup x = some .local := by first | exact .inl rfl | exact .inr rfl | assumption) :
    PS X (.Assign [.Name x pos'] e pos) (cS s0 (dSetO i t)) := psI (ps_set hN hi hx he hs hf) fun _ _ _ z => asg_own z
/-- name = [comprehension], as a list of our own -/
theorem pz_setLcO {i : Nat} {y : Str} {py : Pos} {elt iter : Expr} {ifs : List Expr} {scope : Scope} {own : List (Str × Nat)} {spos : Pos} {ti : DA} {tgd : DG} {tt : DT} (hc : X.calm = true) (hN : X.N.Nodup) (hy : X.N[i]? = some y) (hyl : X.env.scope.names.lookup y = some .local)
    (hsw : swapsWith (.ListComp elt [⟨tg, iter, ifs, 0⟩] scope pos) (some (.Name y py)) spos.line X.env = pure true) (hi : PI X tg iter (cI s0 ti)) (ok : BlkOk X.N X.env.scope scope own)
    (hg : ∀ (s : Shared) (H : Hp) (C : Addr) (cl : List (Str × Addr)) (fp : List Addr), PG (X.blk s H scope (compEnvC scope cl C X.env) fp) tg (cG s0 (own.map (·.2)) tgd)) (ht : ∀ (s : Shared) (H : Hp) (C : Addr) (cl : List (Str × Addr)) (fp : List Addr), PTs (X.blk s H scope (compEnvC scope cl C X.env) fp) ifs (cT s0 tt))
    (he : ∀ (s : Shared) (H : Hp) (C : Addr) (cl : List (Str × Addr)) (fp : List Addr), PE (X.blk s H scope (compEnvC scope cl C X.env) fp) elt (cE s0 te)) (hs : ∀ x, foldedSetIterable iter X.env x = pure x := by intro _; rfl) :
    PS X (.Assign [.Name y py] (.ListComp elt [⟨tg, iter, ifs, 0⟩] scope pos) spos) (cS s0 (dSetO i (dLc ti (own.map (·.2)) tgd tt te))) := psI (ps_setLc hc hN hy hyl hsw hi ok hg ht he hs) fun B σ H z => lc_data (K := X.K) (asg_own z)
theorem ice_data {σ : L2.St} {H : Hp} {Q : VK} (z : cE s0 (dL t) σ H Q) : cO s0 t σ H Q := by
  obtain ⟨s, ρ, q, e, R, t, k⟩ := z
  refine ⟨s, ρ, _, e, R, t, fun ds vs a s' t1 u n e1 f j r1 => ?_⟩
  have u' := u.ice n e1 f j
  refine k _ _ (s'.ice a (.lst vs)) t1 u' (.lst upd_same (r1.fw (fun b o e => ?_) fun _ _ e => e))
  show upd s'.F a (.lst vs) b = _
  have : b ≠ a := fun z => by rw [z, f] at e; cases e
  rw [upd_ne this]; exact e
theorem pz_setLc {i : Nat} {y : Str} {py : Pos} {elt iter : Expr} {ifs : List Expr} {scope : Scope} {own : List (Str × Nat)} {spos : Pos} {ti : DA} {tgd : DG} {tt : DT} (hc : X.calm = true) (hN : X.N.Nodup) (hy : X.N[i]? = some y) (hyl : X.env.scope.names.lookup y = some .local)
    (hsw : swapsWith (.ListComp elt [⟨tg, iter, ifs, 0⟩] scope pos) (some (.Name y py)) spos.line X.env = pure true) (hi : PI X tg iter (cI s0 ti)) (ok : BlkOk X.N X.env.scope scope own)
    (hg : ∀ (s : Shared) (H : Hp) (C : Addr) (cl : List (Str × Addr)) (fp : List Addr), PG (X.blk s H scope (compEnvC scope cl C X.env) fp) tg (cG s0 (own.map (·.2)) tgd)) (ht : ∀ (s : Shared) (H : Hp) (C : Addr) (cl : List (Str × Addr)) (fp : List Addr), PTs (X.blk s H scope (compEnvC scope cl C X.env) fp) ifs (cT s0 tt))
    (he : ∀ (s : Shared) (H : Hp) (C : Addr) (cl : List (Str × Addr)) (fp : List Addr), PE (X.blk s H scope (compEnvC scope cl C X.env) fp) elt (cE s0 te)) (hs : ∀ x, foldedSetIterable iter X.env x = pure x := by intro _; rfl) :
    PS X (.Assign [.Name y py] (.ListComp elt [⟨tg, iter, ifs, 0⟩] scope pos) spos) (cS s0 (dSet i (dL (dLc ti (own.map (·.2)) tgd tt te)))) := psI (ps_setLc hc hN hy hyl hsw hi ok hg ht he hs) fun B σ H z => lc_data (K := X.K) (ice_data (by
  obtain ⟨s, ρ, D, e, R, t, l⟩ := z
  exact ⟨s, ρ, _, e, R, t, fun d v s' t1 u r => l.nx s' _ _ t1 ((R.up' u).set i r) u.fw⟩))
/-- x.append(e), x a list of our own -/
noncomputable def dApp (i : Nat) (te : DE) : DS := fun D ρ => match eg ρ i with | .ow (.l ds) => te ρ fun d => ds.length < sizeLine ∧ D.nx (ep ρ i (.ow (.l (ds ++ [d])))) | _ => False
theorem pz_app (i : Nat) {x : Str} {p1 apos cpos pos : Pos} (he : PE X e (cE s0 te)) (hN : X.N[i]? = some x := by rfl) (hv : Vis X.env.scope x := by first | exact Or.inl rfl | exact Or.inr (Or.inl rfl) | exact Or.inr (Or.inr rfl)) (hd : (x == ("__debug__" : Str)) = false := by decide)
    (hcd : (x == ("__classdict__" : Str)) = false := by decide) (hst : starEach [e] X.env = (false, eval e X.env) :: starEach [] X.env := by rfl) (hbase : attributeBase (.Name x p1) "append" X.env (eval (.Name x p1) X.env) = eval (.Name x p1) X.env := by rfl)
    (hfew : ((backTo cpos (starEach [e] X.env)).all (fun x => !x.1) && (backToKw cpos (keywordEach [] X.env)).all (fun x => x.1.isSome) && decide ([e].length + ([] : List Keyword).length + (if ([] : List Keyword).isEmpty then 0 else 1) < 30)) = true := by rfl) (hline : (apos.endLine == cpos.line) = true := by rfl)
    (hs : swapsWith (.Call (.Attribute (.Name x p1) "append" apos) [e] [] cpos) none pos.line X.env = pure false := by rfl) :
    PS X (.Expr (.Call (.Attribute (.Name x p1) "append" apos) [e] [] cpos) pos) (cS s0 (dApp i te)) := psI (ps_expr (pe_bm PySem.F.plainAttrs_list PySem.F.slot_list_append PySem.F.type_list_append mt_append (pe_var hN hv hd hcd) (pa_cons he pa_nil hst) hbase hfew hline hst rfl) hs) fun B σ H ⟨s, ρ, D, e, R, t, l⟩ => by
  subst e
  unfold dApp at t
  cases z : eg ρ i with
  | ow ob =>
    cases ob with
    | d _ => rw [z] at t; exact t.elim
    | l ds =>
    rw [z] at t
    obtain ⟨a, ho, e1, e2, e3, e4, e5, e0⟩ := R.ow i _ z
    obtain ⟨vs, rfl, e6⟩ := e0.lst
    refine ⟨_, e1, .inl ⟨rfl, _, SqL.of e2⟩, s, ρ, _, rfl, R, t, fun d v s' t1 u r => ⟨a, vs, v, rfl, rfl, u.keep a _ e2 e4, by rw [e6.length]; exact t1.1, ?_⟩⟩
    have R' := (R.up' u).write z e1 (.l ((e6.up u).append (.cons r .nil)))
    exact l.nx _ _ _ t1.2 R' ⟨R'.ok, u.fr, u.jr⟩
  | no => rw [z] at t; exact t.elim
  | va d => rw [z] at t; exact t.elim
/-- x[k] = e, x a list of our own -/
noncomputable def dPut (i : Nat) (tk te : DE) : DS := fun D ρ => match eg ρ i with
  | .ow (.l ds) => te ρ fun d => tk ρ fun y => (match y with | .int k => ∃ j, ixN ds.length k = some j ∧ D.nx (ep ρ i (.ow (.l (ds.set j d)))) | _ => False)
  | _ => False
theorem pz_put (i : Nat) {x : Str} {p1 pos : Pos} {spos : Pos} (hk : PE X b (cE s0 tb)) (he : PE X e (cE s0 te)) (hN : X.N[i]? = some x := by rfl) (hv : Vis X.env.scope x := by first | exact Or.inl rfl | exact Or.inr (Or.inl rfl) | exact Or.inr (Or.inr rfl)) (hd : (x == ("__debug__" : Str)) = false := by decide)
    (hcd : (x == ("__classdict__" : Str)) = false := by decide) (ha : ∀ v, assign (.Subscript (.Name x p1) b spos) X.env v = (do
      let ov ← holding [v] (eval (.Name x p1) X.env)
      let iv ← holding [v, ov] (eval b X.env)
      standAt spos
      holding [v, ov, iv] (setItem ov iv v); release [v, ov, iv] []) := by intro _; rfl)
    (hs : swapsWithSole [.Subscript (.Name x p1) b spos] e pos.line X.env = pure false := by rfl) (hw : swappedStores [.Subscript (.Name x p1) b spos] e X.env = pure none := by rfl) (h1 : (assignEach [.Subscript (.Name x p1) b spos] X.env).map (·.2) = [assign (.Subscript (.Name x p1) b spos) X.env] := by rfl) :
    PS X (.Assign [.Subscript (.Name x p1) b spos] e pos) (cS s0 (dPut i tb te)) := psI (ps_asg he (pg_sub (pe_var hN hv hd hcd) hk set_list ha) hs hw h1) fun B σ H ⟨s, ρ, D, e, R, t, l⟩ => by
  subst e
  unfold dPut at t
  cases z : eg ρ i with
  | ow ob =>
    cases ob with
    | d _ => rw [z] at t; exact t.elim
    | l ds =>
    rw [z] at t
    obtain ⟨a, ho, e1, e2, e3, e4, e5, e0⟩ := R.ow i _ z
    obtain ⟨vs, rfl, e6⟩ := e0.lst
    refine ⟨s, ρ, _, rfl, R, t, fun d v s' t1 u r => ⟨_, e1, s', ρ, _, rfl, R.up' u, t1, fun d2 v2 s2 t2 u2 r2 => ?_⟩⟩
    cases r2 with
    | int k =>
      obtain ⟨j, hj, t3⟩ := t2
      have U := u.trans u2
      have R' := (R.up' U).write z e1 (.l ((e6.up U).set (r.up u2) j))
      exact ⟨a, vs, k, j, rfl, rfl, U.keep a _ e2 e4, by rw [e6.length]; exact hj, l.nx _ _ _ t3 R' ⟨R'.ok, U.fr, U.jr⟩⟩
    | _ => exact False.elim t2
  | no => rw [z] at t; exact t.elim
  | va d => rw [z] at t; exact t.elim
/-- the item at a place counted from 0 -/
noncomputable def rAt (K : PySem.W.Frag) : V → V → Hp → VK → Prop := fun o i H Q => ∃ (a : Addr) (vs : List V) (n : Nat) (v : V), o = .ref a ∧ i = .int (n : Nat) ∧ SqL K H a vs ∧ vs[n]? = some v ∧ Q v H
theorem get_at : PGet X (rAt X.K) := fun pins s σ H o i ov iv Q I ro ri ⟨a, vs, n, v, eo, ei, sq, at_, q⟩ => by
  subst eo ei
  obtain ⟨us, rel, plain, few⟩ := I.list sq
  obtain ⟨u, eu, ru⟩ := rel.get at_
  have same := rel.length
  have line := line63
  have short : n < us.length := (List.getElem?_eq_some_iff.mp eu).1
  cases ro
  obtain ⟨tk, rfl⟩ := ri
  exact wpAny_getItem_list plain.isList (Int.natCast_nonneg n) (by omega) (by simpa using eu) ⟨v, H, I, ru, q⟩
/-- x[k] += e, x a list of our own that has whole numbers there -/
noncomputable def dAugO (i : Nat) (f : Int → Int → Int) (tk te : DE) : DS := fun D ρ => match eg ρ i with
  | .ow (.l ds) => tk ρ fun y => (match y with
    | .int k => ∃ (n : Nat) (m : Int), k = (n : Nat) ∧ ds[n]? = some (.int m) ∧ te ρ fun d => (match d with | .int v => D.nx (ep ρ i (.ow (.l (ds.set n (.int (f m v)))))) | _ => False)
    | _ => False)
  | _ => False
theorem pz_augO (i : Nat) {x : Str} {p1 pos : Pos} {spos : Pos} {op : Operator} {f : Int → Int → Int} (ho : PIp X op (ipI f)) (hk : PE X b (cE s0 tb)) (he : PE X e (cE s0 te)) (hN : X.N[i]? = some x := by rfl) (hv : Vis X.env.scope x := by first | exact Or.inl rfl | exact Or.inr (Or.inl rfl) | exact Or.inr (Or.inr rfl)) (hd : (x == ("__debug__" : Str)) = false := by decide)
    (hcd : (x == ("__classdict__" : Str)) = false := by decide) (ha : ∀ ov iv new, augStore b ov iv new = (do holding [new, ov, iv] (setItem ov iv new); release [new, ov, iv] []; pure .next) := by intros; rfl) :
    PS X (.AugAssign (.Subscript (.Name x p1) b spos) op e pos) (cS s0 (dAugO i f tb te)) := psI (ps_augS (pe_var hN hv hd hcd) hk get_at he ho set_list ha) fun B σ H ⟨s, ρ, D, e, R, t, l⟩ => by
  subst e
  unfold dAugO at t
  cases z : eg ρ i with
  | ow ob =>
    cases ob with
    | d _ => rw [z] at t; exact t.elim
    | l ds =>
    rw [z] at t
    obtain ⟨a, ho, e1, e2, e3, e4, e5, e0⟩ := R.ow i _ z
    obtain ⟨vs, rfl, e6⟩ := e0.lst
    refine ⟨_, e1, s, ρ, _, rfl, R, t, fun d v s' t1 u r => ?_⟩
    cases r with
    | int k =>
      obtain ⟨n, m, rfl, hm, t2⟩ := t1
      obtain ⟨w, g1, g2⟩ := e6.at hm
      cases g2
      have hn : n < ds.length := (List.getElem?_eq_some_iff.mp hm).1
      refine ⟨a, vs, n, _, rfl, rfl, SqL.of (u.keep a _ e2 e4), g1, s', ρ, _, rfl, R.up' u, t2, fun d2 v2 s2 t3 u2 r2 => ?_⟩
      cases r2 with
      | int y =>
        have U := u.trans u2
        have R' := (R.up' U).write z e1 (.l ((e6.up U).set (.int (f m y)) n))
        refine ⟨m, y, rfl, rfl, a, vs, n, n, rfl, rfl, U.keep a _ e2 e4, ?_, l.nx _ _ _ t3 R' ⟨R'.ok, U.fr, U.jr⟩⟩
        unfold ixN
        rw [e6.length, if_pos (Int.natCast_nonneg n), if_pos (by omega), Int.toNat_natCast]
      | _ => exact False.elim t3
    | _ => exact False.elim t1
  | no => rw [z] at t; exact t.elim
  | va d => rw [z] at t; exact t.elim
/-- x += e, whole numbers -/
noncomputable def dAug (i : Nat) (f : Int → Int → Int) (te : DE) : DS := fun D ρ => match eg ρ i with | .va (.int m) => te ρ fun d => (match d with | .int v => D.nx (ep ρ i (.va (.int (f m v)))) | _ => False) | _ => False
theorem pz_aug {i : Nat} {x : Str} {op : Operator} {f : Int → Int → Int} {pos' : Pos} (hN : X.N.Nodup) (hi : X.N[i]? = some x) (hx : Loc X.env.scope x) (he : PE X e (cE s0 te)) (ho : PIp X op (ipI f)) (hf : X.fn x = true ∨ X.env.scope.names.lookup x = some .local := by first | exact .inl rfl | exact .inr rfl | assumption) :
    PS X (.AugAssign (.Name x pos') op e pos) (cS s0 (dAug i f te)) := psI (ps_aug hN hi hx he ho hf) fun B σ H ⟨s, ρ, D, e, R, t, l⟩ => by
  subst e
  unfold dAug at t
  cases z : eg ρ i with
  | va d =>
    rw [z] at t
    obtain ⟨v, e1, e2⟩ := R.va i d z
    cases e2 with
    | int m =>
      refine ⟨_, e1, s, ρ, _, rfl, R, t, fun d2 v2 s2 t3 u2 r2 => ?_⟩
      cases r2 with
      | int n => exact ⟨m, n, rfl, rfl, l.nx s2 _ _ t3 ((R.up' u2).set i (.int _)) u2.fw⟩
      | _ => exact False.elim t3
    | _ => exact False.elim t
  | no => rw [z] at t; exact t.elim
  | ow ds => rw [z] at t; exact t.elim
/-- a, b = e, f -/
noncomputable def dPar (i j : Nat) (ta tb : DE) : DS := fun D ρ => ta ρ fun x => tb ρ fun y => D.nx (ep (ep ρ i (.va x)) j (.va y))
theorem pz_par {i j : Nat} {x y : Str} {px py pt : Pos} {kt k2 pt2} (hc : X.calm = true) (hN : X.N.Nodup) (hi : X.N[i]? = some x) (hj : X.N[j]? = some y) (hij : i ≠ j)
    (hx : X.env.scope.names.lookup x = some .local) (hy : X.env.scope.names.lookup y = some .local) (ha : PE X a (cE s0 ta)) (hb : PE X b (cE s0 tb))
    (hw : swappedStores [.Tuple [.Name x px, .Name y py] kt pt] (.Tuple [a, b] k2 pt2) X.env = pure (some [x, y]) := by rfl)
    (hs : swapsWithSole [.Tuple [.Name x px, .Name y py] kt pt] (.Tuple [a, b] k2 pt2) pos.line X.env = pure false := by rfl) (hs1 : starEach [a, b] X.env = (false, eval a X.env) :: starEach [b] X.env := by rfl) (hs2 : starEach [b] X.env = (false, eval b X.env) :: starEach [] X.env := by rfl) :
    PS X (.Assign [.Tuple [.Name x px, .Name y py] kt pt] (.Tuple [a, b] k2 pt2) pos) (cS s0 (dPar i j ta tb)) := psI (ps_par hc hN hi hj hij hx hy (pa_cons ha (pa_cons hb pa_nil hs2) hs1) hw hs) fun B σ H ⟨s, ρ, D, e, R, t, l⟩ =>
  ⟨s, ρ, _, e, R, t, fun d v s' t1 u r => ⟨s', ρ, _, rfl, R.up' u, t1, fun d2 v2 s2 t2 u2 r2 => ⟨v, v2, rfl, l.nx s2 _ _ t2 ((((R.up' u).up' u2).set i (r.up u2)).set j r2) (u.trans u2).fw⟩⟩⟩
/-- a target in an assignment -/
noncomputable def dAsg (te : DE) (tg : DG) : DS := fun D ρ => te ρ fun d => tg d ρ D.nx
theorem pz_asg {ws : List Nat} {tgd : DG} (he : PE X e (cE s0 te)) (hg : PG X tg (cG s0 ws tgd)) (hs : swapsWithSole [tg] e pos.line X.env = pure false := by rfl) (hw : swappedStores [tg] e X.env = pure none := by rfl) (h1 : (assignEach [tg] X.env).map (·.2) = [assign tg X.env] := by rfl) :
    PS X (.Assign [tg] e pos) (cS s0 (dAsg te tgd)) := psI (ps_asg he hg hs hw h1) fun B σ H ⟨s, ρ, D, e, R, t, l⟩ =>
  ⟨s, ρ, _, e, R, t, fun d v s' t1 u r => ⟨s', ρ, d, _, rfl, R.up' u, r, t1, fun ρ2 σ2 s2 t2 R2 u2 _ => l.nx s2 ρ2 σ2 t2 R2 (u.trans u2).fw⟩⟩
/-! ### loops -/
noncomputable def forR (tg : DG) (tb : DS) (D : EndsD) : List Dt → Env → Prop
  | [], ρ => D.nx ρ
  | d :: r, ρ => tg d ρ fun ρ2 => tb { D with nx := forR tg tb D r, ct := forR tg tb D r, bk := D.nx } ρ2
noncomputable def dFor (ti : DA) (tg : DG) (tb : DS) : DS := fun D ρ => ti ρ fun ds => forR tg tb D ds ρ
theorem pz_for {iter : Expr} {body : List Stmt} {ti : DA} {ws : List Nat} {tgd : DG} (hp : PassesOwn (model X.prog X.w) X.A X.env X.xe) (hc : X.calm = true) (hi : PI X tg iter (cI s0 ti)) (hg : PG X tg (cG s0 ws tgd)) (hb : PSs X body (cS s0 tz))
    (hs : ∀ x, foldedSetIterable iter X.env x = pure x := by intro _; rfl) : PS X (.For tg iter body [] pos) (cS s0 (dFor ti tgd tz)) := psI (ps_for hp hc hi hg hb hs) fun B σ H ⟨s, ρ, D, e, R, t, l⟩ => by
  refine ⟨s, ρ, _, e, R, t, fun ds J s1 t1 u wk => ?_⟩
  obtain ⟨G, Y, W, hG, hY⟩ := wk.ex
  refine for_it W (Pv := fun i σ2 H2 => ∃ s2 ρ2, s2.H = H2 ∧ Rp s0 s2 ρ2 σ2 ∧ Fw s1 s2 ∧ forR tgd tz D (ds.drop i) ρ2) ?_ ?_ ?_ ?_
  · exact ⟨s1, ρ, rfl, R.up' u, Fw.refl u.ok, t1⟩
  · rintro i σ2 H2 hi ⟨s2, ρ2, rfl, _, f, _⟩
    exact hG s2 f
  · rintro i x σ2 H2 H3 hi ⟨s2, ρ2, rfl, R2, f, t2⟩ y
    obtain ⟨s3, d, rfl, u3, ed, rd⟩ := hY i s2 x H3 hi f y
    rw [List.drop_eq_getElem_cons hi] at t2
    have ed' : ds[i] = d := by rw [List.getElem?_eq_getElem hi] at ed; exact Option.some.inj ed
    rw [ed'] at t2
    refine ⟨s3, ρ2, d, _, rfl, R2.up' u3, rd, t2, fun ρ4 σ4 s4 t4 R4 u4 _ => ⟨s4, ρ4, _, rfl, R4, t4, ?_⟩⟩
    have F4 := f.trans (u3.trans u4).fw
    have F0 := u.fw.trans F4
    exact ⟨fun s5 ρ5 σ5 h R5 f5 => ⟨s5, ρ5, rfl, R5, F4.trans f5, h⟩, l.rt, fun s5 ρ5 σ5 h R5 f5 => l.nx s5 ρ5 σ5 h R5 (F0.trans f5), fun s5 ρ5 σ5 h R5 f5 => ⟨s5, ρ5, rfl, R5, F4.trans f5, h⟩⟩
  · rintro σ2 H2 ⟨s2, ρ2, rfl, R2, f, t2⟩
    rw [List.drop_length] at t2
    exact l.nx s2 ρ2 σ2 t2 R2 (u.fw.trans f)
noncomputable def dWhile (tc : DT) (tb : DS) : DS := fun D ρ => ∃ W : Nat → Env → Prop, (∃ m, W m ρ) ∧ ∀ m ρ, W m ρ → tc ρ fun b => if b = true then tb { D with nx := fun ρ' => ∃ m', m' < m ∧ W m' ρ', ct := fun ρ' => ∃ m', m' < m ∧ W m' ρ', bk := D.nx } ρ else D.nx ρ
theorem pz_while {c : Expr} {body : List Stmt} {tc : DT} (hp : PassesOwn (model X.prog X.w) X.A X.env X.xe) (hc : PT X c (cT s0 tc)) (hb : PSs X body (cS s0 tz)) : PS X (.While c body [] pos) (cS s0 (dWhile tc tz)) := psI (ps_while hp hc hb) fun B σ H ⟨s, ρ, D, e, R, t, l⟩ => by
  subst e
  obtain ⟨W, ⟨m0, w0⟩, turn⟩ := t
  refine ⟨fun m σ2 H2 => ∃ s2 ρ2, s2.H = H2 ∧ Rp s0 s2 ρ2 σ2 ∧ Fw s s2 ∧ W m ρ2, ⟨m0, s, ρ, rfl, R, Fw.refl R.ok, w0⟩, ?_⟩
  rintro m σ2 H2 ⟨s2, ρ2, rfl, R2, f, w⟩
  refine ⟨s2, ρ2, _, rfl, R2, turn m ρ2 w, fun b s3 t3 u3 => ?_⟩
  have f3 := f.trans u3.fw
  cases b with
  | true =>
    refine ⟨fun σ4 H4 => ∃ s4 ρ4, s4.H = H4 ∧ Rp s0 s4 ρ4 σ4 ∧ Fw s s4 ∧ ∃ m', m' < m ∧ W m' ρ4, ?_, s3, ρ2, _, rfl, R2.up' u3, t3, ?_⟩
    · rintro σ4 H4 ⟨s4, ρ4, rfl, R4, f4, m', hm, w4⟩
      exact ⟨m', hm, s4, ρ4, rfl, R4, f4, w4⟩
    · exact ⟨fun s5 ρ5 σ5 h R5 f5 => ⟨s5, ρ5, rfl, R5, f3.trans f5, h⟩, l.rt, fun s5 ρ5 σ5 h R5 f5 => l.nx s5 ρ5 σ5 h R5 (f3.trans f5), fun s5 ρ5 σ5 h R5 f5 => ⟨s5, ρ5, rfl, R5, f3.trans f5, h⟩⟩
  | false => exact l.nx s3 ρ2 σ2 t3 (R2.up' u3) f3
end
end Dl
/-! sum, all, any of generator expressions; defs and their calls, over data -/
namespace Dl
open PySem PySem.Spec PyProof.Rows L2
section
variable {X : Cx} {s0 : Wd} {e a b tg : Expr} {es : List Expr} {ta tb te : DE} {t : DA} {pos : Pos} {n : Nat} {tgd : DG} {tt : DT} {ti : DA} {ws : List Nat} {P : Addr}
noncomputable def sumR (ρ : Env) (tg : DG) (tt : DT) (te : DE) : List Dt → Int → (Dt → Prop) → Prop
  | [], n, q => q (.int n)
  | d :: r, n, q => tg d ρ fun ρ2 => tt ρ2 fun b => if b = true then te ρ2 fun y => (match y with | .int x => sumR ρ tg tt te r (n + x) q | _ => False) else sumR ρ tg tt te r n q
noncomputable def dSum (ti : DA) (ws : List Nat) (tg : DG) (tt : DT) (te : DE) : DE := fun ρ q => ti ρ fun ds => sumR (wipeE ρ ws) tg tt te ds 0 q
theorem tab_of {s : Wd} (ok : Ok s) (j : s.J P = some Tb) : GxR.TabG s.H P := by
  obtain ⟨o, e, ps, rfl, h⟩ := ok.vol P Tb j
  exact ⟨ps, e, h⟩
theorem tab_up {s : Wd} (ok : Ok s) (j : s.J P = some Tb) {H2 : Hp} (h : GxR.Tabbed P s.H H2) : Up s ⟨s.J, s.F, H2⟩ := by
  obtain ⟨⟨ps, e, h1⟩, h2⟩ := h
  exact Up.turn ok j ⟨_, e, ps, rfl, h1⟩ h2
theorem sum_data (j0 : s0.J P = some Tb) {σ : L2.St} {H : Hp} {Q : VK} (z : cE s0 (dSum ti ws tgd tt te) σ H Q) : Gx.tSum P (cI s0 ti) (cG s0 ws tgd) (cT s0 tt) (cE s0 te) ws σ H Q := by
  obtain ⟨s, ρ, q, e, R, t, k⟩ := z
  refine ⟨s, ρ, _, e, R, t, fun ds J s1 t1 u wk => ?_⟩
  have j1 : s1.J P = some Tb := u.jr _ _ (R.up.jr _ _ j0)
  refine ⟨tab_of u.ok j1, fun H2 hT => ?_⟩
  have u2 := tab_up u.ok j1 hT
  obtain ⟨G, Y, W, hG, hY⟩ := wk.ex
  have R1 := ((R.up' u).up' u2).wipe ws
  refine ⟨fun n i m H' => ∃ s2, s2.H = H' ∧ Up ⟨s1.J, s1.F, H2⟩ s2 ∧ m = ds.length - i ∧ i ≤ ds.length ∧ sumR (wipeE ρ ws) tgd tt te (ds.drop i) n q, ⟨_, _, rfl, Up.refl u2.ok, rfl, Nat.zero_le _, t1⟩, ?_⟩
  rintro n i m H' ⟨s2, rfl, v2, rfl, hi, t2⟩
  have U2 := u2.trans v2
  by_cases hlt : i < ds.length
  · refine .inr ⟨W.goes i _ hlt (hG s2 U2.fw), fun x H3 y => ?_⟩
    obtain ⟨s3, d, rfl, u3, ed, rd⟩ := hY i s2 x H3 hlt U2.fw (W.yields i _ x H3 hlt (hG s2 U2.fw) y)
    rw [List.drop_eq_getElem_cons hlt] at t2
    have ed' : ds[i] = d := by rw [List.getElem?_eq_getElem hlt] at ed; exact Option.some.inj ed
    rw [ed'] at t2
    refine ⟨s3, wipeE ρ ws, d, _, rfl, (R1.up' v2).up' u3, rd, t2, fun ρ2 σ2 s4 t3 R2 u4 hw => ⟨by rw [hw, wipe_wipe], s4, ρ2, _, rfl, R2, t3, fun b s5 t4 u5 => ?_⟩⟩
    have V5 := v2.trans (u3.trans (u4.trans u5))
    cases b with
    | true =>
      refine ⟨s5, ρ2, _, rfl, R2.up' u5, t4, fun dy y s6 t5 u6 ry => ?_⟩
      cases ry with
      | int x => exact ⟨x, rfl, _, by omega, s6, rfl, V5.trans u6, rfl, hlt, t5⟩
      | _ => exact False.elim t5
    | false => exact ⟨_, by omega, s5, rfl, V5, rfl, hlt, t4⟩
  · have ei : i = ds.length := by omega
    subst ei
    rw [List.drop_length] at t2
    exact .inl ⟨W.stops _ (hG s2 U2.fw), k _ _ s2 t2 (u.trans U2) (.int n)⟩
theorem pd_sum {elt iter : Expr} {ifs : List Expr} {scope : Scope} {own : List (Str × Nat)} {c : Addr} {p gpos : Pos} {k : Nat} (j0 : s0.J P = some Tb) (hr : Room (k + 1) X.A) (hN : X.N.Nodup) (hgl : Gl X "sum") (hm : X.mg "sum" = none) (TB : GxR.TabB X.base X.mg c P) (hc : X.env.code = .ref c) (hi : PI X tg iter (cI s0 ti)) (blk : BlkOk X.N X.env.scope scope own)
    (hg : Gx.Within X scope k fun G => PG G tg (cG s0 (own.map (·.2)) tgd)) (ht : Gx.Within X scope k fun G => PTs G ifs (cT s0 tt)) (he : Gx.Within X scope k fun G => PE G elt (cE s0 te))
    (cell : ∀ y ∈ scope.names, y.2 ≠ .cell := by decide +kernel) (co : scope.isCoroutine = false := by rfl) (dot : scope.names.lookup (".0" : Str) = some NameKind.local := by rfl) (hs : ∀ v, genFold iter X.env v = pure v := by intro _; rfl)
    (hst : starEach [.GeneratorExp elt [⟨tg, iter, ifs, 0⟩] scope gpos] X.env = (false, eval (.GeneratorExp elt [⟨tg, iter, ifs, 0⟩] scope gpos) X.env) :: starEach [] X.env := by rfl) :
    PE X (.Call (.Name "sum" p) [.GeneratorExp elt [⟨tg, iter, ifs, 0⟩] scope gpos] [] pos) (cE s0 (dSum ti (own.map (·.2)) tgd tt te)) := peI (Gx.pe_sumG hr hN hgl hm TB hc hi blk hg ht he cell co dot hs hst) fun _ _ _ z => sum_data j0 z
noncomputable def aaR (stop : Bool) (ρ : Env) (tg : DG) (tt : DT) (te : DE) : List Dt → (Dt → Prop) → Prop
  | [], q => q (.bl (!stop))
  | d :: r, q => tg d ρ fun ρ2 => tt ρ2 fun b => if b = true then te ρ2 fun y => (match y with | .bl c => if c = stop then q (.bl stop) else aaR stop ρ tg tt te r q | _ => False) else aaR stop ρ tg tt te r q
noncomputable def dAA (stop : Bool) (ti : DA) (ws : List Nat) (tg : DG) (tt : DT) (te : DE) : DE := fun ρ q => ti ρ fun ds => aaR stop (wipeE ρ ws) tg tt te ds q
theorem aa_data {stop : Bool} (j0 : s0.J P = some Tb) {σ : L2.St} {H : Hp} {Q : VK} (z : cE s0 (dAA stop ti ws tgd tt te) σ H Q) : Gx.tAA P stop (cI s0 ti) (cG s0 ws tgd) (cT s0 tt) (cE s0 te) ws σ H Q := by
  obtain ⟨s, ρ, q, e, R, t, k⟩ := z
  refine ⟨s, ρ, _, e, R, t, fun ds J s1 t1 u wk => ?_⟩
  have j1 : s1.J P = some Tb := u.jr _ _ (R.up.jr _ _ j0)
  refine ⟨tab_of u.ok j1, fun H2 hT => ?_⟩
  have u2 := tab_up u.ok j1 hT
  obtain ⟨G, Y, W, hG, hY⟩ := wk.ex
  have R1 := ((R.up' u).up' u2).wipe ws
  refine ⟨fun i m H' => ∃ s2, s2.H = H' ∧ Up ⟨s1.J, s1.F, H2⟩ s2 ∧ m = ds.length - i ∧ i ≤ ds.length ∧ aaR stop (wipeE ρ ws) tgd tt te (ds.drop i) q, ⟨_, _, rfl, Up.refl u2.ok, rfl, Nat.zero_le _, t1⟩, ?_⟩
  rintro i m H' ⟨s2, rfl, v2, rfl, hi, t2⟩
  have U2 := u2.trans v2
  by_cases hlt : i < ds.length
  · refine .inr ⟨W.goes i _ hlt (hG s2 U2.fw), fun x H3 y => ?_⟩
    obtain ⟨s3, d, rfl, u3, ed, rd⟩ := hY i s2 x H3 hlt U2.fw (W.yields i _ x H3 hlt (hG s2 U2.fw) y)
    rw [List.drop_eq_getElem_cons hlt] at t2
    have ed' : ds[i] = d := by rw [List.getElem?_eq_getElem hlt] at ed; exact Option.some.inj ed
    rw [ed'] at t2
    refine ⟨s3, wipeE ρ ws, d, _, rfl, (R1.up' v2).up' u3, rd, t2, fun ρ2 σ2 s4 t3 R2 u4 hw => ⟨by rw [hw, wipe_wipe], s4, ρ2, _, rfl, R2, t3, fun b s5 t4 u5 => ?_⟩⟩
    have V5 := v2.trans (u3.trans (u4.trans u5))
    cases b with
    | true =>
      refine ⟨s5, ρ2, _, rfl, R2.up' u5, t4, fun dy y s6 t5 u6 ry => ?_⟩
      cases ry with
      | bl c =>
        refine ⟨c, rfl, ?_⟩
        by_cases hc : c = stop
        · have t6 : if c = stop then q (.bl stop) else aaR stop (wipeE ρ ws) tgd tt te (ds.drop (i + 1)) q := t5
          rw [if_pos hc] at t6 ⊢
          exact k _ _ s6 t6 (u.trans (u2.trans (V5.trans u6))) (.bl stop)
        · have t6 : if c = stop then q (.bl stop) else aaR stop (wipeE ρ ws) tgd tt te (ds.drop (i + 1)) q := t5
          rw [if_neg hc] at t6 ⊢
          exact ⟨_, by omega, s6, rfl, V5.trans u6, rfl, hlt, t6⟩
      | _ => exact False.elim t5
    | false => exact ⟨_, by omega, s5, rfl, V5, rfl, hlt, t4⟩
  · have ei : i = ds.length := by omega
    subst ei
    rw [List.drop_length] at t2
    exact .inl ⟨W.stops _ (hG s2 U2.fw), k _ _ s2 t2 (u.trans U2) (.bl _)⟩
theorem pd_all {elt iter : Expr} {ifs : List Expr} {scope : Scope} {own : List (Str × Nat)} {c : Addr} {p gpos : Pos} {k : Nat} (j0 : s0.J P = some Tb) (hr : Room (k + 1) X.A) (hN : X.N.Nodup) (hgl : Gl X "all") (hm : X.mg "all" = none) (TB : GxR.TabB X.base X.mg c P) (hc : X.env.code = .ref c) (hi : PI X tg iter (cI s0 ti)) (blk : BlkOk X.N X.env.scope scope own)
    (hg : Gx.Within X scope k fun G => PG G tg (cG s0 (own.map (·.2)) tgd)) (ht : Gx.Within X scope k fun G => PTs G ifs (cT s0 tt)) (he : Gx.Within X scope k fun G => PE G elt (cE s0 te))
    (cell : ∀ y ∈ scope.names, y.2 ≠ .cell := by decide +kernel) (co : scope.isCoroutine = false := by rfl) (dot : scope.names.lookup (".0" : Str) = some NameKind.local := by rfl) (hs : ∀ v, genFold iter X.env v = pure v := by intro _; rfl)
    (hst : starEach [.GeneratorExp elt [⟨tg, iter, ifs, 0⟩] scope gpos] X.env = (false, eval (.GeneratorExp elt [⟨tg, iter, ifs, 0⟩] scope gpos) X.env) :: starEach [] X.env := by rfl) :
    PE X (.Call (.Name "all" p) [.GeneratorExp elt [⟨tg, iter, ifs, 0⟩] scope gpos] [] pos) (cE s0 (dAA false ti (own.map (·.2)) tgd tt te)) := peI (Gx.pe_allG hr hN hgl hm TB hc hi blk hg ht he cell co dot hs hst) fun _ _ _ z => aa_data j0 z
theorem pd_any {elt iter : Expr} {ifs : List Expr} {scope : Scope} {own : List (Str × Nat)} {c : Addr} {p gpos : Pos} {k : Nat} (j0 : s0.J P = some Tb) (hr : Room (k + 1) X.A) (hN : X.N.Nodup) (hgl : Gl X "any") (hm : X.mg "any" = none) (TB : GxR.TabB X.base X.mg c P) (hc : X.env.code = .ref c) (hi : PI X tg iter (cI s0 ti)) (blk : BlkOk X.N X.env.scope scope own)
    (hg : Gx.Within X scope k fun G => PG G tg (cG s0 (own.map (·.2)) tgd)) (ht : Gx.Within X scope k fun G => PTs G ifs (cT s0 tt)) (he : Gx.Within X scope k fun G => PE G elt (cE s0 te))
    (cell : ∀ y ∈ scope.names, y.2 ≠ .cell := by decide +kernel) (co : scope.isCoroutine = false := by rfl) (dot : scope.names.lookup (".0" : Str) = some NameKind.local := by rfl) (hs : ∀ v, genFold iter X.env v = pure v := by intro _; rfl)
    (hst : starEach [.GeneratorExp elt [⟨tg, iter, ifs, 0⟩] scope gpos] X.env = (false, eval (.GeneratorExp elt [⟨tg, iter, ifs, 0⟩] scope gpos) X.env) :: starEach [] X.env := by rfl) :
    PE X (.Call (.Name "any" p) [.GeneratorExp elt [⟨tg, iter, ifs, 0⟩] scope gpos] [] pos) (cE s0 (dAA true ti (own.map (·.2)) tgd tt te)) := peI (Gx.pe_anyG hr hN hgl hm TB hc hi blk hg ht he cell co dot hs hst) fun _ _ _ z => aa_data j0 z
end
theorem Ok.jF {s : Wd} (h : Ok s) {a : Addr} {o : HO} (e : s.F a = some o) : s.J a = none := by
  cases j : s.J a with
  | none => rfl
  | some P => rw [h.ft a P j] at e; cases e
/-! ### defs -/
/-- a refusal: its class, its field -/
structure Xd where
  cls : Addr
  fld : Option (Str × Dt)
noncomputable def XRep (s : Wd) (cls : Value) (dx : Option Addr) (x : Xd) : Prop := cls = .ref x.cls ∧ match x.fld with | none => dx = none | some (f, d) => ∃ a v, dx = some a ∧ s.H a = some (.xd [(f, v)]) ∧ Rv s.J s.F v d
abbrev Spd := List Dt → (Dt → Prop) → (Xd → Prop) → Prop
noncomputable def Lx (s0 : Wd) (xd : Xd → Prop) (E : XK) : Prop := ∀ xc s' cls dx, xd xc → Up s0 s' → XRep s' cls dx xc → E cls dx s'.H
noncomputable def lift (T : List (Addr × Vol)) (sp : Spd) : Sp := fun vs H Q E => ∃ s ds q xd, s.H = H ∧ Ok s ∧ (∀ P ∈ T, s.J P.1 = some P.2) ∧ Rvs s.J s.F vs ds ∧ sp ds q xd ∧ (∀ d v s', q d → Up s s' → Rv s'.J s'.F v d → Q v s'.H) ∧ Lx s xd E
noncomputable def startE (N : List Str) (ds : List Dt) : Env := ds.map .va ++ List.replicate (N.length - ds.length) .no
theorem eg_app_l : ∀ (ds : List Dt) (r : Env) (i : Nat) (y : Sl), eg (ds.map .va ++ r) i = y → i < ds.length → ∃ d, ds[i]? = some d ∧ y = .va d
  | [], _, _, _, _, h => absurd h (Nat.not_lt_zero _)
  | d :: _, _, 0, _, e, _ => ⟨d, rfl, e.symm⟩
  | _ :: ds, r, i + 1, y, e, h => eg_app_l ds r i y e (Nat.lt_of_succ_lt_succ h)
theorem eg_no : ∀ (n i : Nat), eg (List.replicate n .no) i = .no
  | 0, _ => rfl
  | _ + 1, 0 => rfl
  | n + 1, i + 1 => eg_no n i
theorem eg_app_r : ∀ (ds : List Dt) (n : Nat) (i : Nat), ds.length ≤ i → eg (ds.map .va ++ List.replicate n .no) i = .no
  | [], n, i, _ => eg_no n i
  | _ :: ds, n, 0, h => absurd h (by simp)
  | _ :: ds, n, i + 1, h => eg_app_r ds n i (Nat.le_of_succ_le_succ h)
theorem rp_start {s : Wd} (ok : Ok s) {N : List Str} {vs : List V} {ds : List Dt} (r : Rvs s.J s.F vs ds) : Rp s s (startE N ds) (L2.start N vs) := by
  have hl := r.length
  have at_ : ∀ i d, eg (startE N ds) i = .va d → ds[i]? = some d := fun i d e => by
    by_cases h : i < ds.length
    · obtain ⟨d', e1, e2⟩ := eg_app_l ds _ i _ e h
      cases e2
      exact e1
    · unfold startE at e
      rw [eg_app_r ds _ i (by omega)] at e
      cases e
  have no : ∀ i es, eg (startE N ds) i ≠ .ow es := fun i es e => by
    by_cases h : i < ds.length
    · obtain ⟨d', e1, e2⟩ := eg_app_l ds _ i _ e h
      cases e2
    · unfold startE at e
      rw [eg_app_r ds _ i (by omega)] at e
      cases e
  refine ⟨Up.refl ok, ?_, fun i d e => ?_, fun i es e => absurd e (no i es), fun i j es fs a e => absurd e (no i es)⟩
  · unfold L2.start startE
    rw [List.length_append, List.length_append, List.length_map, List.length_map, List.length_replicate, List.length_replicate, hl]
  · obtain ⟨v, e1, e2⟩ := r.at (at_ i d e)
    refine ⟨v, ?_, e2⟩
    unfold L2.start
    have hi : i < vs.length := (List.getElem?_eq_some_iff.mp e1).1
    rw [List.getElem?_append_left (by rw [List.length_map]; exact hi), List.getElem?_map, e1]
    rfl
/-- a def stands under its name -/
noncomputable def Has (K : PySem.W.Frag) (mg : Str → Option Value) (x : Str) (st : Stmt) (ps : List Str) : Prop := ∃ f fd, Fun K x x st f fd ∧ mg x = some (.ref f) ∧ Binds K fd ps []
/-- .. with the table of its code object -/
noncomputable def HasT (K : PySem.W.Frag) (mg : Str → Option Value) (base : Heap) (T : List (Addr × Vol)) (x : Str) (st : Stmt) (ps : List Str) (V : Vol := Tb) : Prop := ∃ f c P fd, Hx.FunT K x x st f c fd ∧ mg x = some (.ref f) ∧ Binds K fd ps [] ∧ GxR.TabB base mg c P ∧ (P, V) ∈ T
/-- what it promises, over data -/
noncomputable def Pd (P : Program) (w : World) (K : PySem.W.Frag) (mg : Str → Option Value) (base : Heap) (T : List (Addr × Vol)) (x : Str) (ps : List Str) (sp : Spd) (k : Nat) : Prop := ∃ f fd, FnOk P w K mg base (L2N.CX P w) k f fd ps (lift T sp) ∧ mg x = some (.ref f) ∧ PySem.W.keepIn K (.ref f) = true ∧ Binds K fd ps []
noncomputable def rtE (q : Dt → Prop) : EndsD := { nx := fun _ => q .non, rt := q }
section
variable {P : Program} {w : World} {K : PySem.W.Frag} {mg : Str → Option Value} {base : Heap} {T : List (Addr × Vol)} {x : Str} {st : Stmt} {ps N : List Str} {sp : Spd} {k : Nat}
/-- the context of a def's body -/
abbrev bodyX (P : Program) (w : World) (K : PySem.W.Frag) (mg : Str → Option Value) (base : Heap) (N : List Str) (x : Str) (st : Stmt) (f : Addr) (cd : Value) (A : Around) (outer : List PySem.Env) (s : Shared) (H : Hp) (E : XK) : Cx := cxOf (L2N.CX P w) P w K mg base N x (defScope st) f cd A outer s H E
theorem Pd.mono {j : Nat} (h : Pd P w K mg base T x ps sp j) (hj : j ≤ k) : Pd P w K mg base T x ps sp k := let ⟨f, fd, F, r⟩ := h; ⟨f, fd, F.mono hj, r⟩
theorem lift_len (len : ∀ ds q xd, sp ds q xd → ds.length = ps.length) : ∀ vs H Q E, lift T sp vs H Q E → vs.length = ps.length := fun vs H Q E ⟨s, ds, q, xd, _, _, _, r, h, _⟩ => by rw [r.length]; exact len ds q xd h
theorem pd_defA {f : Addr} {fd : FuncData} (F : Fun K x x st f fd) (S : FnScope N ps (defScope st)) (len : ∀ ds q xd, sp ds q xd → ds.length = ps.length)
    (body : ∀ (f : Addr) (cd : Value) (A : Around) (outer : List PySem.Env) (s : Shared) (s0 : Wd) (E : XK) (xd : Xd → Prop), Room k (A.deeper (envOfC x (defScope st) s.heap.objs.size f cd)) → (∀ P ∈ T, s0.J P.1 = some P.2) → Lx s0 xd E → ∀ ds q, sp ds q xd →
      ∃ t, PSs (bodyX P w K mg base N x st f cd A outer s s0.H E) (defBody st) (cS s0 t) ∧ t (rtE q) (startE N ds)) : FnOk P w K mg base (L2N.CX P w) (k + 1) f fd ps (lift T sp) := by
  obtain ⟨oc, od, kV, doc, pm, an, cd, ct, osl, rfl, lk, hcd⟩ := F.ex
  refine fn_of lk hcd S (lift_len len) fun A outer s H vs Q E hr z => ?_
  obtain ⟨s0, ds, q, xd, rfl, ok, tj, r, hsp, kq, lx⟩ := z
  obtain ⟨t, h1, h2⟩ := body f cd A outer s s0 E xd hr tj lx ds q hsp
  refine ⟨_, h1, s0, _, _, rfl, rp_start ok r, h2, ⟨fun s2 ρ σ h R f => kq _ _ s2 h R.up .non, fun d v s2 h u r => kq d v s2 h u r, fun _ _ _ h => h.elim, fun _ _ _ h => h.elim⟩⟩
theorem pd_def (h : Has K mg x st ps) (S : FnScope N ps (defScope st)) (len : ∀ ds q xd, sp ds q xd → ds.length = ps.length)
    (body : ∀ (f : Addr) (cd : Value) (A : Around) (outer : List PySem.Env) (s : Shared) (s0 : Wd) (E : XK) (xd : Xd → Prop), Room k (A.deeper (envOfC x (defScope st) s.heap.objs.size f cd)) → (∀ P ∈ T, s0.J P.1 = some P.2) → Lx s0 xd E → ∀ ds q, sp ds q xd →
      ∃ t, PSs (bodyX P w K mg base N x st f cd A outer s s0.H E) (defBody st) (cS s0 t) ∧ t (rtE q) (startE N ds)) : Pd P w K mg base T x ps sp (k + 1) :=
  let ⟨f, fd, F, g, b⟩ := h
  ⟨f, fd, pd_defA F S len body, g, F.kp, b⟩
theorem pd_defTA {f c P1 : Addr} {fd : FuncData} {V : Vol} (F : Hx.FunT K x x st f c fd) (TB : GxR.TabB base mg c P1) (hP : (P1, V) ∈ T) (S : FnScope N ps (defScope st)) (len : ∀ ds q xd, sp ds q xd → ds.length = ps.length)
    (body : ∀ (f c P1 : Addr) (A : Around) (outer : List PySem.Env) (s : Shared) (s0 : Wd) (E : XK) (xd : Xd → Prop), GxR.TabB base mg c P1 → s0.J P1 = some V → Room k (A.deeper (envOfC x (defScope st) s.heap.objs.size f (.ref c))) → (∀ P ∈ T, s0.J P.1 = some P.2) → Lx s0 xd E → ∀ ds q, sp ds q xd →
      ∃ t, PSs (bodyX P w K mg base N x st f (.ref c) A outer s s0.H E) (defBody st) (cS s0 t) ∧ t (rtE q) (startE N ds)) : FnOk P w K mg base (L2N.CX P w) (k + 1) f fd ps (lift T sp) := by
  obtain ⟨oc, od, kV, doc, pm, an, ct, osl, rfl, lk, hcd⟩ := F.ex
  refine fn_of lk hcd S (lift_len len) fun A outer s H vs Q E hr z => ?_
  obtain ⟨s0, ds, q, xd, rfl, ok, tj, r, hsp, kq, lx⟩ := z
  obtain ⟨t, h1, h2⟩ := body f c P1 A outer s s0 E xd TB (tj (P1, V) hP) hr tj lx ds q hsp
  refine ⟨_, h1, s0, _, _, rfl, rp_start ok r, h2, ⟨fun s2 ρ σ h R f => kq _ _ s2 h R.up .non, fun d v s2 h u r => kq d v s2 h u r, fun _ _ _ h => h.elim, fun _ _ _ h => h.elim⟩⟩
theorem pd_defT {V : Vol} (h : HasT K mg base T x st ps V) (S : FnScope N ps (defScope st)) (len : ∀ ds q xd, sp ds q xd → ds.length = ps.length)
    (body : ∀ (f c P1 : Addr) (A : Around) (outer : List PySem.Env) (s : Shared) (s0 : Wd) (E : XK) (xd : Xd → Prop), GxR.TabB base mg c P1 → s0.J P1 = some V → Room k (A.deeper (envOfC x (defScope st) s.heap.objs.size f (.ref c))) → (∀ P ∈ T, s0.J P.1 = some P.2) → Lx s0 xd E → ∀ ds q, sp ds q xd →
      ∃ t, PSs (bodyX P w K mg base N x st f (.ref c) A outer s s0.H E) (defBody st) (cS s0 t) ∧ t (rtE q) (startE N ds)) : Pd P w K mg base T x ps sp (k + 1) :=
  let ⟨f, c, P1, fd, F, g, b, TB, hP⟩ := h
  ⟨f, fd, pd_defTA F TB hP S len body, g, F.kp, b⟩
end
section
variable {X : Cx} {s0 : Wd} {T : List (Addr × Vol)} {x : Str} {ps : List Str} {sp : Spd} {k n : Nat} {e : Expr} {es : List Expr} {t : DA} {p pos : Pos} {xd : Xd → Prop} {E : XK}
noncomputable def dCall (sp : Spd) (xd : Xd → Prop) (t : DA) : DE := fun ρ q => t ρ fun ds => sp ds q xd
/-- f(e, ..) -/
theorem pd_call (C : Pd X.prog X.w X.K X.mg X.base T x ps sp k) (hr : Room k X.A) (hx : Passes (L2N.CX X.prog X.w) X E) (tj : ∀ P ∈ T, s0.J P.1 = some P.2) (lx : Lx s0 xd E) (hg : Gl X x) (ha : PA X (e :: es) (cA s0 n t))
    (hpl : (backTo pos (starEach es X.env)).any (·.1) = false := by rfl) (he : starEach (e :: es) X.env = (false, eval e X.env) :: starEach es X.env := by rfl) (hdb : (x == ("__debug__" : Str)) = false := by decide) :
    PE X (.Call (.Name x p) (e :: es) [] pos) (cE s0 (dCall sp xd t)) := by
  obtain ⟨f, fd, F, g, kp, b⟩ := C
  refine peI (pe_call F hr hg g kp b .nil hx ha hdb he hpl) fun σ H Q ⟨s, ρ, q, e, R, t, kk⟩ => ?_
  refine ⟨s, ρ, _, e, R, t, fun ds vs s' hn t1 u r => ?_⟩
  show lift T sp (vs ++ []) s'.H Q E
  rw [List.append_nil]
  exact ⟨s', ds, q, xd, rfl, u.ok, fun P hP => u.jr _ _ (R.up.jr _ _ (tj P hP)), r, t1, fun d v s2 hq u2 rv => kk d v s2 hq (u.trans u2) rv, fun xc s2 cls dx h u2 xr => lx xc s2 cls dx h (R.up.trans (u.trans u2)) xr⟩
/-- .. whose answer is flat, with arguments that may be lists of our own -/
noncomputable def flat : Dt → Prop
  | .non => True | .bl _ => True | .int _ => True | .str _ => True | _ => False
noncomputable def flatX (x : Xd) : Prop := match x.fld with | none => True | some (_, d) => flat d
theorem Rv.flat {J J' : Addr → Option Vol} {F F' : Hp} {v : V} {d : Dt} (h : Rv J F v d) (f : flat d) : Rv J' F' v d := by
  cases h with
  | non => exact .non
  | bl b => exact .bl b
  | int i => exact .int i
  | str x => exact .str x
  | _ => exact f.elim
noncomputable def dCallF (sp : Spd) (xd : Xd → Prop) (t : DA) : DE := fun ρ q => t ρ fun ds => sp ds (fun d => flat d ∧ q d) (fun x => flatX x ∧ xd x)
theorem pd_callF (C : Pd X.prog X.w X.K X.mg X.base T x ps sp k) (hr : Room k X.A) (hx : Passes (L2N.CX X.prog X.w) X E) (tj : ∀ P ∈ T, s0.J P.1 = some P.2) (lx : Lx s0 xd E) (hg : Gl X x) (ha : PA X (e :: es) (cBA s0 n t))
    (hpl : (backTo pos (starEach es X.env)).any (·.1) = false := by rfl) (he : starEach (e :: es) X.env = (false, eval e X.env) :: starEach es X.env := by rfl) (hdb : (x == ("__debug__" : Str)) = false := by decide) :
    PE X (.Call (.Name x p) (e :: es) [] pos) (cE s0 (dCallF sp xd t)) := by
  obtain ⟨f, fd, F, g, kp, b⟩ := C
  refine peI (pe_call F hr hg g kp b .nil hx ha hdb he hpl) fun σ H Q ⟨s, ρ, q, e, R, t, kk⟩ => ?_
  refine ⟨s, ρ, _, e, R, t, fun ds vs s' hn t1 u r => ?_⟩
  show lift T sp (vs ++ []) s'.H Q E
  rw [List.append_nil]
  have okB : Ok ⟨s'.J, bor s', s'.H⟩ := ⟨bor_sub, u.ok.vol, fun a P j => by
    show (match s'.J a with | none => s'.H a | some _ => none) = none
    rw [show s'.J a = some P from j]⟩
  have back : ∀ {s2 : Wd}, Up ⟨s'.J, bor s', s'.H⟩ s2 → Up s' ⟨s'.J, s'.F, s2.H⟩ := fun {s2} v =>
    ⟨⟨fun a o e => v.keep a o (u.ok.sub a o e) (u.ok.jF e), fun a P j => let ⟨o, e1, e2⟩ := v.ok.vol a P (v.jr a P j); ⟨o, e1, P.mono (fun c q z => ⟨by
      cases y : s'.J c with
      | none => rfl
      | some Q => exact (nomatch ((v.jr c Q y).symm.trans z.1)), z.2⟩) e2⟩, u.ok.ft⟩, v.keep, fun _ _ e => e, fun _ _ e => e, (fun a o e z => nomatch (z.symm.trans e)), (fun a o e z => nomatch (z.symm.trans e))⟩
  refine ⟨⟨s'.J, bor s', s'.H⟩, ds, _, _, rfl, okB, fun P hP => u.jr _ _ (R.up.jr _ _ (tj P hP)), r, t1, fun d v s2 hq u2 rv => ?_, fun xc s2 cls dx h u2 xr => ?_⟩
  · exact kk d v ⟨s'.J, s'.F, s2.H⟩ hq.2 (u.trans (back u2)) (rv.flat hq.1)
  · refine lx xc ⟨s'.J, s'.F, s2.H⟩ cls dx h.2 (R.up.trans (u.trans (back u2))) ⟨xr.1, ?_⟩
    have x2 := xr.2
    have f2 : flatX xc := h.1
    unfold flatX at f2
    cases z : xc.fld with
    | none => rw [z] at x2; exact x2
    | some pr =>
      rw [z] at x2 f2
      obtain ⟨a, v, e1, e2, e3⟩ := x2
      exact ⟨a, v, e1, e2, e3.flat f2⟩
/-- nothing is let out -/
theorem lx0 : Lx s0 (fun _ => False) E0 := fun _ _ _ _ h => h.elim
theorem pass00 : Passes (L2N.CX X.prog X.w) X E0 := fun _ _ _ _ _ _ _ ⟨_, _, _, _, _, _, _, _, _, _, _, _, z⟩ => z.elim
end
end Dl
/-! zip of a list and a tuple -/
namespace Zp
open L2 PySem PySem.Spec PyProof.Rows
/-- the pairs of what lies in the list a and the tuple b -/
def ItLT (K : PySem.W.Frag) (a b : Addr) : It where
  go := fun i H => ∃ us vs : List V, SqL K H a us ∧ SqT K H b vs ∧ i < us.length ∧ i < vs.length
  yld := fun i H v H' => ∃ T x y, v = .ref T ∧ H T = none ∧ H' = upd H T (.tup [x, y]) ∧ (∀ us, SqL K H a us → us[i]? = some x) ∧ ∀ vs, SqT K H b vs → vs[i]? = some y
  stop := fun i H => ∃ us vs : List V, SqL K H a us ∧ SqT K H b vs ∧ i = min us.length vs.length
structure Cells (z TI TO i1 i2 a b : Addr) (i : Nat) (h : Heap) : Prop where
  zip : IsZip h z TI TO .none
  inn : IsTupOf2 h TI (.ref i1) (.ref i2)
  out : ∃ u v, IsTupOf2 h TO u v
  l : h.IsListIter i1 a i
  r : h.IsTupleIter i2 b i
section
variable {P : Program} {w : World} {K : PySem.W.Frag} {elts : List Expr} {kk : Nat} {tpos : Pos} {a b z TI TO i1 i2 : Addr} {i : Nat} {h h' : Heap}
theorem any5 {p : Addr → Prop} (h1 : p z) (h2 : p TI) (h3 : p TO) (h4 : p i1) (h5 : p i2) : ∀ c ∈ [z, TI, TO, i1, i2], p c := by
  simp only [List.forall_mem_cons, List.not_mem_nil, false_implies, implies_true, and_true]
  exact ⟨h1, h2, h3, h4, h5⟩
theorem Cells.there (st : Cells z TI TO i1 i2 a b i h) : ∀ c ∈ [z, TI, TO, i1, i2], ∃ o, h.get? c = some o ∧ ∀ v, o.data ≠ .cell v := by
  refine any5 ⟨_, st.zip, fun _ => nofun⟩ ⟨_, st.inn, fun _ => nofun⟩ ?_ ?_ ?_
  · exact st.out.elim fun _ q => q.elim fun _ q => ⟨_, q, fun _ => nofun⟩
  · exact st.l.elim fun o q => ⟨o, q.1, fun v e => by cases q.2.2.symm.trans e⟩
  · exact st.r.elim fun o q => ⟨o, q.1, fun v e => by cases q.2.2.symm.trans e⟩
theorem Cells.stay (st : Cells z TI TO i1 i2 a b i h) (k : ∀ c ∈ [z, TI, TO, i1, i2], ∀ o, h.get? c = some o → h'.get? c = some o) : Cells z TI TO i1 i2 a b i h' where
  zip := k z (by simp) _ st.zip
  inn := k TI (by simp) _ st.inn
  out := st.out.imp fun _ q => q.imp fun _ q => k TO (by simp) _ q
  l := st.l.at (k i1 (by simp))
  r := st.r.at (k i2 (by simp))
theorem fewer {c : Addr} (hb : c ∉ [z, TI, TO, i1, i2]) : c ∉ [z, TO, i1, i2] := fun m => hb (by simp only [List.mem_cons] at m ⊢; exact m.imp_right .inr)
/-- what lies there now, walked by the library's zip -/
theorem now {X : Cx} {pins : List (Addr × Obj)} {s : Shared} {σ : L2.St} {H : Hp} {us vs : List V} (S : ZipSep2 z TI TO i1 i2 [i1, a] [i2, b]) (na : a ≠ i1) (nb : b ≠ i2) (hc : X.calm = true) (I : Inv X pins σ H s) (qa : SqL X.K H a us) (qb : SqT X.K H b vs) :
    ∃ xs ys : List Value, Vals us xs ∧ Vals vs ys ∧ s.heap.IsList a xs.toArray ∧ s.heap.IsTuple b ys.toArray ∧ ∃ M, WalksT X.prog X.w X.A z (z :: TI :: TO :: ([i1, a] ++ [i2, b])) [z, TO, i1, i2] (min us.length vs.length)
      (fun i m => ∃ x1 x2, xs[i]? = some x1 ∧ ys[i]? = some x2 ∧ m = #[x1, x2]) (fun i h => Cells z TI TO i1 i2 a b i h ∧ h.IsList a xs.toArray ∧ h.IsTuple b ys.toArray) M := by
  obtain ⟨xs, ra, pa, _⟩ := I.list qa
  obtain ⟨ys, rb, pb, _⟩ := I.tuple qb
  have hh : X.A.in1.handled = none := I.ok.hd hc
  have W := WalksT.zipD2 (prog := X.prog) (w := X.w) (A := X.A) S (Draws.list hh i1 a na xs.toArray) (Draws.tuple hh i2 b nb ys.toArray)
  have en : min xs.toArray.size ys.toArray.size = min us.length vs.length := by rw [List.size_toArray, List.size_toArray, ra.length, rb.length]
  rw [en] at W
  refine ⟨xs, ys, ra, rb, pa.isList, pb, _, { sub := W.sub, frame := fun i h h' st k => ?_, item := fun i s Q E hi st f => ?_, go := fun elts k pos i T s Q E m f => ?_, apart := W.apart, done := fun s Q E st f => ?_, self := fun i s Q E st f => wpAny_pyIter_zip st.1.zip f }⟩
  · obtain ⟨c1, c2, c3, c4, c5⟩ := W.frame i h h' ⟨st.1.zip, st.1.inn, st.1.out, ⟨st.1.l, st.2.1⟩, ⟨st.1.r, st.2.2⟩⟩ k
    exact ⟨⟨c1, c2, c3, c4.1, c5.1⟩, c4.2, c5.2⟩
  · refine W.item i s Q E hi ⟨st.1.zip, st.1.inn, st.1.out, ⟨st.1.l, st.2.1⟩, ⟨st.1.r, st.2.2⟩⟩ fun T m h' tk hp => f T m h' tk ?_
    obtain ⟨x1, x2, e1, e2, e3⟩ := hp
    exact ⟨x1, x2, by simpa using e1, by simpa using e2, e3⟩
  · refine W.go elts k pos i T s Q E m fun h' c => f h' ?_
    obtain ⟨c1, c2, c3, c4, c5⟩ := c
    exact ⟨⟨c1, c2, c3, c4.1, c5.1⟩, c4.2, c5.2⟩
  · exact W.done s Q E ⟨st.1.zip, st.1.inn, st.1.out, ⟨st.1.l, st.2.1⟩, ⟨st.1.r, st.2.2⟩⟩ f
theorem turn (S : ZipSep2 z TI TO i1 i2 [i1, a] [i2, b]) (na : a ≠ i1) (nb : b ≠ i2) : Turn P w K (.Tuple elts kk tpos) (ItLT K a b) [z, TI, TO, i1, i2] z (Cells z TI TO i1 i2 a b) := by
  refine { mem := List.mem_cons_self .., obj := fun _ _ st => st.there, keep := fun _ _ _ st k => st.stay k, item := ?_, done := ?_, self := fun _ _ _ _ _ st f => wpAny_pyIter_zip st.zip f }
  · rintro X rfl rfl rfl hc i pins s σ H E I hf st ⟨us, vs, qa, qb, la, lb⟩
    obtain ⟨xs, ys, ra, rb, pa, pb, M, W⟩ := now S na nb hc I qa qb
    refine W.item i s _ E (by omega) ⟨st, pa, pb⟩ fun T m h1 tk hp hT hTup mid k1 => ⟨.ref T, rfl, W.go elts kk tpos i T _ _ _ mid fun h2 st2 k2 => ?_⟩
    obtain ⟨x1, x2, g1, g2, rfl⟩ := hp
    obtain ⟨y1, f1, r1⟩ := ra.get (List.getElem?_eq_getElem la)
    obtain ⟨y2, f2, r2⟩ := rb.get (List.getElem?_eq_getElem lb)
    cases f1.symm.trans g1
    cases f2.symm.trans g2
    have new : ObjOk X.prog X.w (upd H T (.tup [us[i], vs[i]])) h2 T (.tup [us[i], vs[i]]) := ⟨by show 2 ≤ sizeLine; decide, [x1, x2], .cons r1 (.cons r2 .nil), hTup.at fun o q => k2 T o (W.apart _ _ _ mid) q⟩
    refine ⟨.ref T, _, I.turnedNew (t' := tk) (fun c o hb q => k2 c o (fewer hb) (k1 c o (fewer hb) q)) hf hT new, rfl, ⟨T, _, _, rfl, I.hok.fresh hT, rfl, fun l hl => ?_, fun l hl => ?_⟩, st2.1, fun c hcm => ?_⟩
    · cases I.list_inj hl qa
      exact List.getElem?_eq_getElem la
    · cases I.tuple_inj hl qb
      exact List.getElem?_eq_getElem lb
    · obtain ⟨o, ho, _⟩ := st.there c hcm
      exact (upd_ne (Nat.ne_of_lt (Nat.lt_of_lt_of_le (Heap.lt_size ho) hT))).trans (hf c hcm).1
  · rintro X rfl rfl rfl hc i pins s σ H E I hf st ⟨us, vs, qa, qb, rfl⟩
    obtain ⟨xs, ys, ra, rb, pa, pb, M, W⟩ := now S na nb hc I qa qb
    exact W.done s _ E ⟨st, pa, pb⟩ fun h' tk k => ⟨rfl, I.turnedL (t' := tk) (fun c o hb q => k c o (fewer hb) q) hf⟩
end
def iZipLT (K : PySem.W.Frag) (ta : TA) : TI := fun σ H R => ta σ H fun m H1 => ∃ a b us vs, m = [.ref a, .ref b] ∧ SqL K H1 a us ∧ SqT K H1 b vs ∧ R (ItLT K a b) H1
theorem pi_zipLT {X : Cx} {e e2 : Expr} {ta : TA} {p pos tpos : Pos} {elts : List Expr} {kk : Nat} (hg : Gl X "zip") (hm : X.mg "zip" = none) (ha : PA X [e, e2] ta)
    (hs : starEach [e, e2] X.env = (false, eval e X.env) :: starEach [e2] X.env := by rfl) (hpl : (backTo pos (starEach [e2] X.env)).any (·.1) = false := by rfl) : PI X (.Tuple elts kk tpos) (.Call (.Name "zip" p) [e, e2] [] pos) (iZipLT X.K ta) := by
  refine ⟨fun pins s σ H R I h => Call_ (ld_blt I hg hm PyProof.Rows.boot_zip (PyProof.Rows.callWith_type1 (thn (ha.run pos pins s σ H _ I h) fun us s1 ⟨m, H1, I1, r1, q1⟩ => ?_) hs hpl))⟩
  obtain ⟨a, b, us, vs, rfl, qa, qb, q⟩ := q1
  obtain ⟨u1, u2, rfl, rfl, rfl⟩ := vals2 r1
  obtain ⟨xs, ra, pa, _⟩ := I1.list qa
  obtain ⟨ys, rb, pb, _⟩ := I1.tuple qb
  have la : a < s1.heap.objs.size := pa.lt
  have lb : b < s1.heap.objs.size := pb.elim fun _ z => Heap.lt_size z.1
  refine zip_begins2 (begins_list a xs.toArray) (begins_tuple b ys.toArray) pa.isList pb fun h' hz hTI hTO h1 h2 hsz hk => wpAny_pyIter_zip hz ?_
  have hle : ∀ c ∈ [s1.heap.objs.size + 4, s1.heap.objs.size + 2, s1.heap.objs.size + 3, s1.heap.objs.size, s1.heap.objs.size + 1], s1.heap.objs.size ≤ c := any5 (Nat.le_add_right _ _) (Nat.le_add_right _ _) (Nat.le_add_right _ _) (Nat.le_refl _) (Nat.le_add_right _ _)
  exact ⟨_, _, _, _, H1, rfl, I1.kept (t' := s1.toks) hk, turn (zip_sep2 (fun c hc => by cases List.mem_singleton.mp hc; exact la) (fun c hc => by cases List.mem_singleton.mp hc; exact lb)) (Nat.ne_of_lt la) (Nat.ne_of_lt (Nat.lt_of_lt_of_le lb (Nat.le_add_right _ 1))),
    { zip := hz, inn := hTI, out := ⟨_, _, hTO⟩, l := ⟨_, h1, rfl, rfl⟩, r := ⟨_, h2, rfl, rfl⟩ }, fun c hcm => I1.fpOk (hle c hcm) (I1.hok.fresh (hle c hcm)), q⟩
end Zp
/-! zip of two tuples -/
namespace Zq
open L2 PySem PySem.Spec PyProof.Rows
/-- the pairs of what lies in the tuples a and b -/
def ItTT (K : PySem.W.Frag) (a b : Addr) : It where
  go := fun i H => ∃ us vs : List V, SqT K H a us ∧ SqT K H b vs ∧ i < us.length ∧ i < vs.length
  yld := fun i H v H' => ∃ T x y, v = .ref T ∧ H T = none ∧ H' = upd H T (.tup [x, y]) ∧ (∀ us, SqT K H a us → us[i]? = some x) ∧ ∀ vs, SqT K H b vs → vs[i]? = some y
  stop := fun i H => ∃ us vs : List V, SqT K H a us ∧ SqT K H b vs ∧ i = min us.length vs.length
structure Cells (z TI TO i1 i2 a b : Addr) (i : Nat) (h : Heap) : Prop where
  zip : IsZip h z TI TO .none
  inn : IsTupOf2 h TI (.ref i1) (.ref i2)
  out : ∃ u v, IsTupOf2 h TO u v
  l : h.IsTupleIter i1 a i
  r : h.IsTupleIter i2 b i
section
variable {P : Program} {w : World} {K : PySem.W.Frag} {elts : List Expr} {kk : Nat} {tpos : Pos} {a b z TI TO i1 i2 : Addr} {i : Nat} {h h' : Heap}
theorem any5 {p : Addr → Prop} (h1 : p z) (h2 : p TI) (h3 : p TO) (h4 : p i1) (h5 : p i2) : ∀ c ∈ [z, TI, TO, i1, i2], p c := by
  simp only [List.forall_mem_cons, List.not_mem_nil, false_implies, implies_true, and_true]
  exact ⟨h1, h2, h3, h4, h5⟩
theorem Cells.there (st : Cells z TI TO i1 i2 a b i h) : ∀ c ∈ [z, TI, TO, i1, i2], ∃ o, h.get? c = some o ∧ ∀ v, o.data ≠ .cell v := by
  refine any5 ⟨_, st.zip, fun _ => nofun⟩ ⟨_, st.inn, fun _ => nofun⟩ ?_ ?_ ?_
  · exact st.out.elim fun _ q => q.elim fun _ q => ⟨_, q, fun _ => nofun⟩
  · exact st.l.elim fun o q => ⟨o, q.1, fun v e => by cases q.2.2.symm.trans e⟩
  · exact st.r.elim fun o q => ⟨o, q.1, fun v e => by cases q.2.2.symm.trans e⟩
theorem Cells.stay (st : Cells z TI TO i1 i2 a b i h) (k : ∀ c ∈ [z, TI, TO, i1, i2], ∀ o, h.get? c = some o → h'.get? c = some o) : Cells z TI TO i1 i2 a b i h' where
  zip := k z (by simp) _ st.zip
  inn := k TI (by simp) _ st.inn
  out := st.out.imp fun _ q => q.imp fun _ q => k TO (by simp) _ q
  l := st.l.at (k i1 (by simp))
  r := st.r.at (k i2 (by simp))
theorem fewer {c : Addr} (hb : c ∉ [z, TI, TO, i1, i2]) : c ∉ [z, TO, i1, i2] := fun m => hb (by simp only [List.mem_cons] at m ⊢; exact m.imp_right .inr)
/-- what lies there now, walked by the library's zip -/
theorem now {X : Cx} {pins : List (Addr × Obj)} {s : Shared} {σ : L2.St} {H : Hp} {us vs : List V} (S : ZipSep2 z TI TO i1 i2 [i1, a] [i2, b]) (na : a ≠ i1) (nb : b ≠ i2) (hc : X.calm = true) (I : Inv X pins σ H s) (qa : SqT X.K H a us) (qb : SqT X.K H b vs) :
    ∃ xs ys : List Value, Vals us xs ∧ Vals vs ys ∧ s.heap.IsTuple a xs.toArray ∧ s.heap.IsTuple b ys.toArray ∧ ∃ M, WalksT X.prog X.w X.A z (z :: TI :: TO :: ([i1, a] ++ [i2, b])) [z, TO, i1, i2] (min us.length vs.length)
      (fun i m => ∃ x1 x2, xs[i]? = some x1 ∧ ys[i]? = some x2 ∧ m = #[x1, x2]) (fun i h => Cells z TI TO i1 i2 a b i h ∧ h.IsTuple a xs.toArray ∧ h.IsTuple b ys.toArray) M := by
  obtain ⟨xs, ra, pa, _⟩ := I.tuple qa
  obtain ⟨ys, rb, pb, _⟩ := I.tuple qb
  have hh : X.A.in1.handled = none := I.ok.hd hc
  have W := WalksT.zipD2 (prog := X.prog) (w := X.w) (A := X.A) S (Draws.tuple hh i1 a na xs.toArray) (Draws.tuple hh i2 b nb ys.toArray)
  have en : min xs.toArray.size ys.toArray.size = min us.length vs.length := by rw [List.size_toArray, List.size_toArray, ra.length, rb.length]
  rw [en] at W
  refine ⟨xs, ys, ra, rb, pa, pb, _, { sub := W.sub, frame := fun i h h' st k => ?_, item := fun i s Q E hi st f => ?_, go := fun elts k pos i T s Q E m f => ?_, apart := W.apart, done := fun s Q E st f => ?_, self := fun i s Q E st f => wpAny_pyIter_zip st.1.zip f }⟩
  · obtain ⟨c1, c2, c3, c4, c5⟩ := W.frame i h h' ⟨st.1.zip, st.1.inn, st.1.out, ⟨st.1.l, st.2.1⟩, ⟨st.1.r, st.2.2⟩⟩ k
    exact ⟨⟨c1, c2, c3, c4.1, c5.1⟩, c4.2, c5.2⟩
  · refine W.item i s Q E hi ⟨st.1.zip, st.1.inn, st.1.out, ⟨st.1.l, st.2.1⟩, ⟨st.1.r, st.2.2⟩⟩ fun T m h' tk hp => f T m h' tk ?_
    obtain ⟨x1, x2, e1, e2, e3⟩ := hp
    exact ⟨x1, x2, by simpa using e1, by simpa using e2, e3⟩
  · refine W.go elts k pos i T s Q E m fun h' c => f h' ?_
    obtain ⟨c1, c2, c3, c4, c5⟩ := c
    exact ⟨⟨c1, c2, c3, c4.1, c5.1⟩, c4.2, c5.2⟩
  · exact W.done s Q E ⟨st.1.zip, st.1.inn, st.1.out, ⟨st.1.l, st.2.1⟩, ⟨st.1.r, st.2.2⟩⟩ f
theorem turn (S : ZipSep2 z TI TO i1 i2 [i1, a] [i2, b]) (na : a ≠ i1) (nb : b ≠ i2) : Turn P w K (.Tuple elts kk tpos) (ItTT K a b) [z, TI, TO, i1, i2] z (Cells z TI TO i1 i2 a b) := by
  refine { mem := List.mem_cons_self .., obj := fun _ _ st => st.there, keep := fun _ _ _ st k => st.stay k, item := ?_, done := ?_, self := fun _ _ _ _ _ st f => wpAny_pyIter_zip st.zip f }
  · rintro X rfl rfl rfl hc i pins s σ H E I hf st ⟨us, vs, qa, qb, la, lb⟩
    obtain ⟨xs, ys, ra, rb, pa, pb, M, W⟩ := now S na nb hc I qa qb
    refine W.item i s _ E (by omega) ⟨st, pa, pb⟩ fun T m h1 tk hp hT hTup mid k1 => ⟨.ref T, rfl, W.go elts kk tpos i T _ _ _ mid fun h2 st2 k2 => ?_⟩
    obtain ⟨x1, x2, g1, g2, rfl⟩ := hp
    obtain ⟨y1, f1, r1⟩ := ra.get (List.getElem?_eq_getElem la)
    obtain ⟨y2, f2, r2⟩ := rb.get (List.getElem?_eq_getElem lb)
    cases f1.symm.trans g1
    cases f2.symm.trans g2
    have new : ObjOk X.prog X.w (upd H T (.tup [us[i], vs[i]])) h2 T (.tup [us[i], vs[i]]) := ⟨by show 2 ≤ sizeLine; decide, [x1, x2], .cons r1 (.cons r2 .nil), hTup.at fun o q => k2 T o (W.apart _ _ _ mid) q⟩
    refine ⟨.ref T, _, I.turnedNew (t' := tk) (fun c o hb q => k2 c o (fewer hb) (k1 c o (fewer hb) q)) hf hT new, rfl, ⟨T, _, _, rfl, I.hok.fresh hT, rfl, fun l hl => ?_, fun l hl => ?_⟩, st2.1, fun c hcm => ?_⟩
    · cases I.tuple_inj hl qa
      exact List.getElem?_eq_getElem la
    · cases I.tuple_inj hl qb
      exact List.getElem?_eq_getElem lb
    · obtain ⟨o, ho, _⟩ := st.there c hcm
      exact (upd_ne (Nat.ne_of_lt (Nat.lt_of_lt_of_le (Heap.lt_size ho) hT))).trans (hf c hcm).1
  · rintro X rfl rfl rfl hc i pins s σ H E I hf st ⟨us, vs, qa, qb, rfl⟩
    obtain ⟨xs, ys, ra, rb, pa, pb, M, W⟩ := now S na nb hc I qa qb
    exact W.done s _ E ⟨st, pa, pb⟩ fun h' tk k => ⟨rfl, I.turnedL (t' := tk) (fun c o hb q => k c o (fewer hb) q) hf⟩
end
def iZipTT (K : PySem.W.Frag) (ta : TA) : TI := fun σ H R => ta σ H fun m H1 => ∃ a b us vs, m = [.ref a, .ref b] ∧ SqT K H1 a us ∧ SqT K H1 b vs ∧ R (ItTT K a b) H1
theorem pi_zipTT {X : Cx} {e e2 : Expr} {ta : TA} {p pos tpos : Pos} {elts : List Expr} {kk : Nat} (hg : Gl X "zip") (hm : X.mg "zip" = none) (ha : PA X [e, e2] ta)
    (hs : starEach [e, e2] X.env = (false, eval e X.env) :: starEach [e2] X.env := by rfl) (hpl : (backTo pos (starEach [e2] X.env)).any (·.1) = false := by rfl) : PI X (.Tuple elts kk tpos) (.Call (.Name "zip" p) [e, e2] [] pos) (iZipTT X.K ta) := by
  refine ⟨fun pins s σ H R I h => Call_ (ld_blt I hg hm PyProof.Rows.boot_zip (PyProof.Rows.callWith_type1 (thn (ha.run pos pins s σ H _ I h) fun us s1 ⟨m, H1, I1, r1, q1⟩ => ?_) hs hpl))⟩
  obtain ⟨a, b, us, vs, rfl, qa, qb, q⟩ := q1
  obtain ⟨u1, u2, rfl, rfl, rfl⟩ := vals2 r1
  obtain ⟨xs, ra, pa, _⟩ := I1.tuple qa
  obtain ⟨ys, rb, pb, _⟩ := I1.tuple qb
  have la : a < s1.heap.objs.size := pa.elim fun _ z => Heap.lt_size z.1
  have lb : b < s1.heap.objs.size := pb.elim fun _ z => Heap.lt_size z.1
  refine zip_begins2 (begins_tuple a xs.toArray) (begins_tuple b ys.toArray) pa pb fun h' hz hTI hTO h1 h2 hsz hk => wpAny_pyIter_zip hz ?_
  have hle : ∀ c ∈ [s1.heap.objs.size + 4, s1.heap.objs.size + 2, s1.heap.objs.size + 3, s1.heap.objs.size, s1.heap.objs.size + 1], s1.heap.objs.size ≤ c := any5 (Nat.le_add_right _ _) (Nat.le_add_right _ _) (Nat.le_add_right _ _) (Nat.le_refl _) (Nat.le_add_right _ _)
  exact ⟨_, _, _, _, H1, rfl, I1.kept (t' := s1.toks) hk, turn (zip_sep2 (fun c hc => by cases List.mem_singleton.mp hc; exact la) (fun c hc => by cases List.mem_singleton.mp hc; exact lb)) (Nat.ne_of_lt la) (Nat.ne_of_lt (Nat.lt_of_lt_of_le lb (Nat.le_add_right _ 1))),
    { zip := hz, inn := hTI, out := ⟨_, _, hTO⟩, l := ⟨_, h1, rfl, rfl⟩, r := ⟨_, h2, rfl, rfl⟩ }, fun c hcm => I1.fpOk (hle c hcm) (I1.hok.fresh (hle c hcm)), q⟩
end Zq
/-! a tuple times 0 or 1 -/
namespace Tm
open L2 PyProof.Rows PySem PySem.Spec
open MeetsSeq3 MeetsSeq2 SeqRoads2 MeetsSeq
/-- the tuple's object -/
abbrev tupO (items : Array Value) (n : Nat) (dd : Option Addr) (sl : Array (Option Value)) : Obj := { cls := .type "tuple", dict := dd, data := .seq items n, slots := sl }
theorem times1 (l : Addr) (items : Array Value) (n : Nat) (dd : Option Addr) (sl : Array (Option Value)) (u : Tok) :
    Meets (Builtin.«tuple.__mul__» ⟨[.ref l, .int 1 u], []⟩) (fun _ R s => s.heap.get? l = some (tupO items n dd sl) ∧ R (.ok (.ret (.ref l))) s) :=
  .of_wp fun _ _ _ _ st both => by
    rcases st with ⟨heap, gens, drawn, toks, sys⟩
    rcases both with ⟨here, fin⟩
    have ix := AutoSeq1.idx_int
    wp_walk using AutoSeq1.wpAny_loadPart' here
    exact ⟨_, rfl, fin⟩
theorem times0 (l : Addr) (items : Array Value) (n : Nat) (dd : Option Addr) (sl : Array (Option Value)) (u : Tok) (some_ : items.isEmpty = false) :
    Meets (Builtin.«tuple.__mul__» ⟨[.ref l, .int 0 u], []⟩) (fun _ R s => s.heap.get? l = some (tupO items n dd sl) ∧ R (.ok (.ret (.ref s.heap.objs.size))) { s with heap := s.heap.push { cls := .type "tuple", data := .seq #[] } }) :=
  .of_wp fun _ _ _ _ st both => by
    rcases st with ⟨heap, gens, drawn, toks, sys⟩
    rcases both with ⟨here, fin⟩
    have ix := AutoSeq1.idx_int
    have c1 := some_
    wp_walk using AutoSeq1.wpAny_loadPart' here
    exact ⟨_, rfl, fin⟩
section
variable {X : Cx}
/-- t * k, t not empty, k from 0 on -/
def rRep (K : PySem.W.Frag) : R2 := fun x y H Q => ∃ (l : Addr) (k : Nat) (xs : List V), x = .ref l ∧ y = .int (k : Nat) ∧ SqT K H l xs ∧ xs ≠ [] ∧ k ≤ 1000 ∧ xs.length ≤ 1000 ∧ (k = 1 → Q (.ref l) H) ∧ (k ≠ 1 → ∀ p, H p = none → Q (.ref p) (upd H p (.tup (List.replicate k xs).flatten)))
theorem op_rep : OpR X (binaryOp .Mult) (rRep X.K) := by
  rintro pins s σ H x y v u Q I rx ry ⟨l, k, xs, rfl, rfl, hT, hne, h2, hz, q1, q2⟩
  by_cases k2 : 2 ≤ k
  · exact op_repT pins s σ H _ _ v u Q I rx ry ⟨l, k, xs, rfl, rfl, hT, hne, by omega, by omega, hz, by rw [Int.toNat_natCast]; exact q2 (by omega)⟩
  cases rx
  obtain ⟨t, rfl⟩ := ry
  obtain ⟨its, r, ⟨⟨cls, dd, data, sl⟩, ho, hc, n, hd⟩, _⟩ := I.tuple hT
  cases hc
  cases hd
  have filled : its.toArray.isEmpty = false := by
    have := r.length
    cases its with
    | nil => exact absurd (List.length_eq_zero_iff.mp this) hne
    | cons _ _ => rfl
  refine wpAny_binaryOp_repeat_ref (T := "tuple") (U := "int") (by decide) ⟨_, ho, rfl⟩ (fun s' => typeIs_int s' _ t) noFill_tuple_mul F.fills_int_mul F.slot_int_rmul repeat_tuple F.slot_int_index.lookup
    (call_meets F.slot_int_rmul (typeIs_int s _ t) F.entry_int_rmul (F.args_int_rmul_2 _ _) (int_rmul_tuple _ t l its.toArray n dd sl) ⟨ho, rfl, ⟨_, ho, rfl⟩, ?_⟩)
  rcases (by omega : k = 0 ∨ k = 1) with rfl | rfl
  · refine call_meets F.slot_tuple_mul ⟨_, ho, rfl⟩ F.entry_tuple_mul (F.args_tuple_mul_2 _ _) (times0 l its.toArray n dd sl t filled) ⟨ho, ?_⟩
    exact ⟨.ref s.heap.objs.size, _, I.laid (t' := s.toks) (o := .tup (List.replicate 0 xs).flatten) (fun b ob q => Heap.get?_push_of_some _ q) (Nat.le_refl _) ⟨Nat.zero_le _, [], .nil, IsTup.new _ _⟩, rfl, q2 (by decide) _ (I.hok.fresh (Nat.le_refl _))⟩
  · exact call_meets F.slot_tuple_mul ⟨_, ho, rfl⟩ F.entry_tuple_mul (F.args_tuple_mul_2 _ _) (times1 l its.toArray n dd sl t) ⟨ho, .ref l, H, I, rfl, q1 rfl⟩
end
end Tm
/-! isinstance, zip, a tuple's multiples, min of three; dice -/
namespace Dl
open PySem PySem.Spec PyProof.Rows L2
/-! ### isinstance -/
noncomputable def tyN : Dt → Option String
  | .non => some "NoneType" | .bl _ => some "bool" | .int _ => some "int" | .str _ => some "str" | .lst _ => some "list" | .tup _ => some "tuple" | _ => none
noncomputable def isTy (T t : String) : Bool := t == T || (t == "bool" && T == "int")
abbrev KitT (T : String) : Prop := ∀ (K : PySem.W.Frag) (t : String), t ∈ ["NoneType", "bool", "int", "str", "list", "tuple"] → PySem.W.kitOne K (.type t) (.type T) = some (isTy T t)
theorem kit_int : KitT "int" := fun K t h => by simp at h; rcases h with rfl | rfl | rfl | rfl | rfl | rfl <;> rfl
theorem kit_bool : KitT "bool" := fun K t h => by simp at h; rcases h with rfl | rfl | rfl | rfl | rfl | rfl <;> rfl
theorem kit_str : KitT "str" := fun K t h => by simp at h; rcases h with rfl | rfl | rfl | rfl | rfl | rfl <;> rfl
theorem kit_list : KitT "list" := fun K t h => by simp at h; rcases h with rfl | rfl | rfl | rfl | rfl | rfl <;> rfl
theorem kit_tuple : KitT "tuple" := fun K t h => by simp at h; rcases h with rfl | rfl | rfl | rfl | rfl | rfl <;> rfl
theorem kit_dict : KitT "dict" := fun K t h => by simp at h; rcases h with rfl | rfl | rfl | rfl | rfl | rfl <;> rfl
section
variable {X : Cx} {s0 : Wd} {e a b tg : Expr} {es : List Expr} {ta tb te : DE} {t : DA} {pos p p2 : Pos} {n : Nat}
noncomputable def dIsi (T : String) (te : DE) : DE := fun ρ q => te ρ fun d => match tyN d with | some t => q (.bl (isTy T t)) | none => False
theorem pd_isi {T : String} {y : Str} (kt : KitT T) (hg : Gl X "isinstance") (hm : X.mg "isinstance" = none) (hgT : Gl X y) (hmT : X.mg y = none) (hv : bootBuiltins y = some (.type T)) (he : PE X e (cB s0 te)) (hn : y ≠ "__name__" := by decide) (hd : (y == ("__debug__" : Str)) = false := by decide)
    (hs : starEach [e, .Name y p2] X.env = (false, eval e X.env) :: starEach [.Name y p2] X.env := by rfl) (hs2 : starEach [.Name y p2] X.env = (false, eval (.Name y p2) X.env) :: starEach [] X.env := by rfl) (hpl : (backTo pos (starEach [.Name y p2] X.env)).any (·.1) = false := by rfl) :
    PE X (.Call (.Name "isinstance" p) [e, .Name y p2] [] pos) (cE s0 (dIsi T te)) := peI (pe_callB call_isi hg hm boot_isinstance (pa_cons he (pa_cons (pe_bltn (v := .ty T) hgT hmT hv rfl hn hd) pa_nil hs2) hs) (by decide) (by decide) hs hpl) fun σ H Q ⟨s, ρ, q, e, R, t, k⟩ => by
  refine ⟨s, ρ, _, e, R, t, fun d v s' t1 u r1 => ?_⟩
  have out : ∀ {tn : String}, tn ∈ ["NoneType", "bool", "int", "str", "list", "tuple"] → TyX X.K s'.H v (.type tn) → q (.bl (isTy T tn)) → rIsi X.K [v, .ty T] s'.H Q := fun hm ty hq => ⟨v, .ty T, _, _, _, rfl, .ty T, ty, kt _ _ hm, k _ _ s' hq u (.bl _)⟩
  cases r1 with
  | non => exact out (tn := "NoneType") (by simp) (.base .non) t1
  | bl b => exact out (tn := "bool") (by simp) (.base (.bl b)) t1
  | int i => exact out (tn := "int") (by simp) (.base (.int i)) t1
  | str z => exact out (tn := "str") (by simp) (.base (.str z)) t1
  | lst h _ => exact out (tn := "list") (by simp) (.base (.lst (bor_sub _ _ h))) t1
  | tup h _ => exact out (tn := "tuple") (by simp) (.base (.tup (bor_sub _ _ h))) t1
  | _ => exact False.elim t1
/-! ### zip -/
noncomputable def zipD : List Dt → List Dt → List Dt
  | x :: xs, y :: ys => .tup [x, y] :: zipD xs ys
  | _, _ => []
theorem zipD_len : ∀ xs ys : List Dt, (zipD xs ys).length = min xs.length ys.length
  | [], _ => by simp [zipD]
  | _ :: _, [] => by simp [zipD]
  | x :: xs, y :: ys => by simp only [zipD, List.length_cons, zipD_len xs ys]; omega
theorem zipD_at : ∀ {xs ys : List Dt} {i : Nat} {x y : Dt}, xs[i]? = some x → ys[i]? = some y → (zipD xs ys)[i]? = some (.tup [x, y])
  | _ :: _, _ :: _, 0, _, _, h1, h2 => by simp at h1 h2; subst h1 h2; rfl
  | _ :: xs, _ :: ys, i + 1, x, y, h1, h2 => zipD_at (xs := xs) (ys := ys) (i := i) (by simpa using h1) (by simpa using h2)
  | [], _, _, _, _, h1, _ => by simp at h1
  | _ :: _, [], _, _, _, _, h2 => by simp at h2
theorem walkZ {K : PySem.W.Frag} {a b : Addr} {xs ys : List V} : Walk (Zq.ItTT K a b) (min xs.length ys.length) (fun H => SqT K H a xs ∧ SqT K H b ys) (YPair (fun i => xs[i]?) (fun i => ys[i]?)) := by
  refine ⟨fun i _ hi q => ⟨xs, ys, q.1, q.2, by omega, by omega⟩, fun _ q => ⟨xs, ys, q.1, q.2, rfl⟩, fun i H v H' _ q y => ?_⟩
  obtain ⟨T, x, z, isT, new, laid, left, right⟩ := y
  exact ⟨T, x, z, isT, new, laid, left xs q.1, right ys q.2⟩
theorem walkZL {K : PySem.W.Frag} {a b : Addr} {xs ys : List V} : Walk (Zp.ItLT K a b) (min xs.length ys.length) (fun H => SqL K H a xs ∧ SqT K H b ys) (YPair (fun i => xs[i]?) (fun i => ys[i]?)) := by
  refine ⟨fun i _ hi q => ⟨xs, ys, q.1, q.2, by omega, by omega⟩, fun _ q => ⟨xs, ys, q.1, q.2, rfl⟩, fun i H v H' _ q y => ?_⟩
  obtain ⟨T, x, z, isT, new, laid, left, right⟩ := y
  exact ⟨T, x, z, isT, new, laid, left xs q.1, right ys q.2⟩
theorem zip_yield {s1 s : Wd} {xs ys : List V} {ds es : List Dt} (r : Rvs s1.J s1.F xs ds) (r2 : Rvs s1.J s1.F ys es) (f : Fw s1 s) {i : Nat} {v : V} {H' : Hp} (y : YPair (fun i => xs[i]?) (fun i => ys[i]?) i s.H v H') :
    ∃ s' d, s'.H = H' ∧ Up s s' ∧ (zipD ds es)[i]? = some d ∧ Rv s'.J s'.F v d := by
  obtain ⟨T, x, z, rfl, nT, rfl, e1, e2⟩ := y
  obtain ⟨d1, g1, g2⟩ := r.at' e1
  obtain ⟨d2, g3, g4⟩ := r2.at' e2
  have u := Up.lay f.ok (.tup [x, z]) nT
  exact ⟨s.lay T (.tup [x, z]), _, rfl, u, zipD_at g1 g3, .tup upd_same (.cons ((g2.fws f).up u) (.cons ((g4.fws f).up u) .nil))⟩
theorem walkD_zipTT {K : PySem.W.Frag} {s1 : Wd} {a b : Addr} {vs us : List V} {ds es : List Dt} (h : s1.F a = some (.tup vs)) (r : Rvs s1.J s1.F vs ds) (h2 : s1.F b = some (.tup us)) (r2 : Rvs s1.J s1.F us es) : WalkD s1 (Zq.ItTT K a b) (zipD ds es) :=
  ⟨fun H => SqT K H a vs ∧ SqT K H b us, _, (by rw [zipD_len, ← r.length, ← r2.length]; exact walkZ (xs := vs) (ys := us)), fun s f => ⟨SqT.of (f.ok.sub _ _ (f.fr _ _ h)), SqT.of (f.ok.sub _ _ (f.fr _ _ h2))⟩, fun i s x H' hi f y => zip_yield r r2 f y⟩
theorem walkD_zipLT {K : PySem.W.Frag} {s1 : Wd} {a b : Addr} {vs us : List V} {ds es : List Dt} (h : s1.F a = some (.lst vs)) (r : Rvs s1.J s1.F vs ds) (h2 : s1.F b = some (.tup us)) (r2 : Rvs s1.J s1.F us es) : WalkD s1 (Zp.ItLT K a b) (zipD ds es) :=
  ⟨fun H => SqL K H a vs ∧ SqT K H b us, _, (by rw [zipD_len, ← r.length, ← r2.length]; exact walkZL (xs := vs) (ys := us)), fun s f => ⟨SqL.of (f.ok.sub _ _ (f.fr _ _ h)), SqT.of (f.ok.sub _ _ (f.fr _ _ h2))⟩, fun i s x H' hi f y => zip_yield r r2 f y⟩
theorem pdi_zipTT {tpos : Pos} {elts : List Expr} {kk : Nat} (hg : Gl X "zip") (hm : X.mg "zip" = none) (ha : PE X a (cE s0 ta)) (hb : PE X b (cE s0 tb)) (hs : starEach [a, b] X.env = (false, eval a X.env) :: starEach [b] X.env := by rfl) (hs2 : starEach [b] X.env = (false, eval b X.env) :: starEach [] X.env := by rfl) (hpl : (backTo pos (starEach [b] X.env)).any (·.1) = false := by rfl) :
    PI X (.Tuple elts kk tpos) (.Call (.Name "zip" p) [a, b] [] pos) (cI s0 (fun ρ q => ta ρ fun x => tb ρ fun y => match x, y with | .tup xs, .tup ys => q (zipD xs ys) | _, _ => False)) := piI (Zq.pi_zipTT hg hm (pa_cons ha (pa_cons hb pa_nil hs2) hs) hs hpl) fun σ H R ⟨s, ρ, q, e, Rr, t, k⟩ =>
  ⟨s, ρ, _, e, Rr, t, fun d v s' t1 u r1 => ⟨s', ρ, _, rfl, Rr.up' u, t1, fun d2 v2 s2 t2 u2 r2 => by
    have r1' := r1.up u2
    cases r1' with
    | tup h r =>
      cases r2 with
      | tup h2 r2 =>
        exact ⟨_, _, _, _, rfl, SqT.of (u2.ok.sub _ _ h), SqT.of (u2.ok.sub _ _ h2), k _ _ s2 t2 (u.trans u2) (walkD_zipTT h r h2 r2)⟩
      | _ => exact False.elim t2
    | _ => cases r2 <;> exact False.elim t2⟩⟩
theorem pdi_zipLT {tpos : Pos} {elts : List Expr} {kk : Nat} (hg : Gl X "zip") (hm : X.mg "zip" = none) (ha : PE X a (cE s0 ta)) (hb : PE X b (cE s0 tb)) (hs : starEach [a, b] X.env = (false, eval a X.env) :: starEach [b] X.env := by rfl) (hs2 : starEach [b] X.env = (false, eval b X.env) :: starEach [] X.env := by rfl) (hpl : (backTo pos (starEach [b] X.env)).any (·.1) = false := by rfl) :
    PI X (.Tuple elts kk tpos) (.Call (.Name "zip" p) [a, b] [] pos) (cI s0 (fun ρ q => ta ρ fun x => tb ρ fun y => match x, y with | .lst xs, .tup ys => q (zipD xs ys) | _, _ => False)) := piI (Zp.pi_zipLT hg hm (pa_cons ha (pa_cons hb pa_nil hs2) hs) hs hpl) fun σ H R ⟨s, ρ, q, e, Rr, t, k⟩ =>
  ⟨s, ρ, _, e, Rr, t, fun d v s' t1 u r1 => ⟨s', ρ, _, rfl, Rr.up' u, t1, fun d2 v2 s2 t2 u2 r2 => by
    have r1' := r1.up u2
    cases r1' with
    | lst h r =>
      cases r2 with
      | tup h2 r2 =>
        exact ⟨_, _, _, _, rfl, SqL.of (u2.ok.sub _ _ h), SqT.of (u2.ok.sub _ _ h2), k _ _ s2 t2 (u.trans u2) (walkD_zipLT h r h2 r2)⟩
      | _ => exact False.elim t2
    | _ => cases r2 <;> exact False.elim t2⟩⟩
end
/-! ### a tuple's multiples -/
noncomputable def dRepT : Dt → Dt → (Dt → Prop) → Prop := fun x y q => match x, y with | .tup xs, .int i => xs ≠ [] ∧ 0 ≤ i ∧ i ≤ 1000 ∧ xs.length ≤ 1000 ∧ q (.tup (List.replicate i.toNat xs).flatten) | _, _ => False
theorem on_repT {K : PySem.W.Frag} : OpN (Tm.rRep K) dRepT := fun s x y dx dy q Q ok rx ry t k => by
  cases rx with
  | @tup a xs ds h r =>
    cases ry with
    | int i =>
      obtain ⟨t0, t1, t2, t3, t4⟩ := t
      have ei : ((i.toNat : Nat) : Int) = i := Int.toNat_of_nonneg t1
      refine ⟨a, i.toNat, xs, rfl, by rw [ei], SqT.of (ok.sub _ _ h), fun z => t0 ?_, by omega, by rw [r.length]; exact t3, fun z => ?_, fun _ p np => k _ _ (s.lay p _) t4 (Up.lay ok _ np) (.tup upd_same ((r.rep _).up (Up.lay ok _ np)))⟩
      · subst z
        cases r
        rfl
      · rw [z] at t4
        have e1 : (List.replicate 1 ds).flatten = ds := by simp
        rw [e1] at t4
        exact k _ _ s t4 (Up.refl ok) (.tup h r)
    | _ => exact False.elim t
  | _ => exact False.elim t
/-! ### min of three -/
noncomputable def dMin3 : List Dt → (Dt → Prop) → Prop := fun ds q => match ds with | [.int i, .int j, .int k] => q (.int (fMin (fMin i j) k)) | _ => False
theorem min2_int (i j : Int) : nuMin2 (.int i) (.int j) = some (.int (fMin i j)) := by
  have e : nuMin2 (.int i) (.int j) = some (if decide (j < i) = true then V.int j else V.int i) := rfl
  rw [e]
  by_cases h : j < i
  · rw [decide_eq_true h, if_pos rfl]; unfold fMin; rw [if_pos h]
  · rw [decide_eq_false h, if_neg Bool.false_ne_true]; unfold fMin; rw [if_neg h]
theorem cf_min3 : CallF (rNuC3 nuMin3) dMin3 := fun J F H xs ds q Q sub r t k => by
  cases r with
  | nil => exact False.elim t
  | cons h r =>
    cases r with
    | nil => cases h <;> exact False.elim t
    | cons h2 r =>
      cases r with
      | nil => cases h <;> cases h2 <;> exact False.elim t
      | cons h3 r =>
        cases h with
        | int i =>
          cases h2 with
          | int j =>
            cases h3 with
            | int l =>
              cases r with
              | nil =>
                refine ⟨_, _, _, _, rfl, ?_, k _ _ t fun J F => .int _⟩
                unfold nuMin3
                rw [min2_int]
                exact min2_int _ _
              | cons _ _ => exact False.elim t
            | _ => exact False.elim t
          | _ => exact False.elim t
        | _ => exact False.elim t
/-! ### dice: the law's own rolls, as the hand layer has them -/
/-- a def that lets nothing out -/
theorem fn_any {P : Program} {w : World} {K : PySem.W.Frag} {mg : Str → Option Value} {base : Heap} {CX : CXT} {k : Nat} {f : Addr} {fd : FuncData} {ps : List Str} {sp : Sp} (h : FnOk P w K mg base CX0 k f fd ps sp) : FnOk P w K mg base CX k f fd ps sp :=
  ⟨h.len, fun A outer s H args us vs Q E hr e0 hb hv hsp => codeAny_mono (h.run A outer s H args us vs Q E hr e0 hb hv hsp) fun r s' z => by
    match r, z with
    | .error e, z => exact z.elim
    | .ok (.ret _), z => exact z
    | .ok .next, z => exact z.elim
    | .ok .brk, z => exact z.elim
    | .ok .cont, z => exact z.elim⟩
noncomputable def DieAt (H : Hp) (d : Addr) : Prop := ∃ x y : Int, H d = some (.lst [.int x, .int y])
noncomputable def spRollV : Sp := fun vs H Q _ => ∃ (d : Addr) (many : Int), vs = [.ref d, .int many] ∧ DieAt H d ∧ 0 < many ∧ many < 1000000 ∧ ∀ x y r : Int, 0 ≤ r → r < many → Q (.int r) (upd H d (.lst [.int x, .int y]))
noncomputable def spRoll : Spd := fun ds q _ => match ds with | [.die, .int many] => 0 < many ∧ many < 1000000 ∧ ∀ r : Int, 0 ≤ r → r < many → q (.int r) | _ => False
theorem spRoll_len : ∀ ds q xd, spRoll ds q xd → ds.length = 2 := fun ds q xd h => by
  match ds, h with
  | [.die, .int _], _ => rfl
theorem roll_lift {T : List (Addr × Vol)} : ∀ vs H Q E, lift T spRoll vs H Q E → spRollV vs H Q E := fun vs H Q E ⟨s, ds, q, xd, e, ok, tj, r, h, k, _⟩ => by
  subst e
  match ds, h with
  | [.die, .int many], h =>
    obtain ⟨h0, h1, h2⟩ := h
    cases r with
    | cons r1 r =>
      cases r with
      | cons r2 r =>
        cases r
        cases r1 with
        | @die d hd =>
          cases r2 with
          | int m =>
            obtain ⟨o, e1, x, y, rfl⟩ := ok.vol d Die hd
            refine ⟨d, many, rfl, ⟨x, y, e1⟩, h0, h1, fun x' y' r hr0 hr1 => ?_⟩
            have u := Up.turn ok hd (H' := upd s.H d (.lst [.int x', .int y'])) ⟨_, upd_same, x', y', rfl⟩ fun b hb => upd_ne hb
            exact k _ _ _ (h2 r hr0 hr1) u (.int r)
noncomputable def spRoundsV (K : PySem.W.Frag) : Sp := fun vs H Q _ => ∃ (a : Addr) (ns : List Int) (high : Nat), vs = [.ref a, .int high] ∧ SqL K H a (ns.map V.int) ∧ ns.length ≤ 1000 ∧ high ≤ 5 ∧
  ∀ H' p (ds : List Addr), (∀ b o, H b = some o → H' b = some o) → H p = none → H' p = some (.lst (ds.map V.ref)) → ds.length ≤ 5 → (∀ d ∈ ds, H d = none ∧ DieAt H' d) → Q (.ref p) H'
/-- d is the script: a list that is tracked, or one of the written part -/
noncomputable def IsScr (K : PySem.W.Frag) (d : Dt) (ns : List Int) : Prop := d = .scr (ns.map .int) ∨ ∃ a, d = .opq (.ref a) ∧ ∀ H, SqL K H a (ns.map V.int)
noncomputable def spRounds (K : PySem.W.Frag) : Spd := fun ds q _ => ∃ (d : Dt) (ns : List Int) (high : Int), ds = [d, .int high] ∧ IsScr K d ns ∧ ns.length ≤ 1000 ∧ 0 ≤ high ∧ high ≤ 5 ∧ ∀ k : Nat, k ≤ 5 → q (.lst (List.replicate k .die))
theorem spRounds_len {K : PySem.W.Frag} : ∀ ds q xd, spRounds K ds q xd → ds.length = 2 := fun ds q xd ⟨_, _, _, e, _⟩ => by rw [e]; rfl
theorem rvs_ints {J : Addr → Option Vol} {F : Hp} : ∀ {xs : List V} {ns : List Int}, Rvs J F xs (ns.map .int) → xs = ns.map V.int
  | _, [], h => by cases h; rfl
  | _, n :: ns, h => by
    cases h with
    | cons h r =>
      cases h
      rw [rvs_ints r]
      rfl
theorem ints_rvs {J : Addr → Option Vol} {F : Hp} : ∀ ns : List Int, Rvs J F (ns.map V.int) (ns.map .int)
  | [] => .nil
  | n :: ns => .cons (.int n) (ints_rvs ns)
theorem rounds_lift {K : PySem.W.Frag} {T : List (Addr × Vol)} : ∀ vs H Q E, lift T (spRounds K) vs H Q E → spRoundsV K vs H Q E := fun vs H Q E ⟨s, ds, q, xd, e, ok, tj, r, ⟨d0, ns, high, e0, hS, h0, h1, h2, h3⟩, k, _⟩ => by
  subst e e0
  cases r with
  | cons r1 r =>
    cases r with
    | cons r2 r =>
      cases r
      cases r2 with
      | int m =>
        have fin : ∀ a, SqL K s.H a (ns.map V.int) → spRoundsV K [.ref a, .int high] s.H Q E := fun a hs => by
            refine ⟨a, ns, high.toNat, by rw [Int.toNat_of_nonneg h1], hs, h0, by omega, fun H' p ds keep np hp hl hd => ?_⟩
            have nd : ∀ d ∈ ds, d ≠ p := fun d hm z => by
              obtain ⟨x, y, e⟩ := (hd d hm).2
              rw [z, hp] at e
              have e2 : ds.map V.ref = [V.int x, V.int y] := by injection Option.some.inj e
              cases ds with
              | nil => cases e2
              | cons _ _ => cases e2
            let s' : Wd := ⟨fun a => if a ∈ ds then some Die else s.J a, upd s.F p (.lst (ds.map V.ref)), H'⟩
            have jn : ∀ d, d ∈ ds → s'.J d = some Die := fun d hm => if_pos hm
            have jo : ∀ d, d ∉ ds → s'.J d = s.J d := fun d hm => if_neg hm
            have fr : ∀ a o, s.F a = some o → s'.F a = some o := fun b w e => by
              show upd s.F p _ b = _
              rw [upd_ne (ne_of_none (ok.sub b w e) np)]; exact e
            have up : Up s s' :=
              { ok := ⟨fun b w e => by
                  by_cases z : b = p
                  · subst z
                    have e' : upd s.F b (.lst (ds.map V.ref)) b = some w := e
                    rw [upd_same] at e'
                    cases e'; exact hp
                  · have e' : upd s.F p (.lst (ds.map V.ref)) b = some w := e
                    rw [upd_ne z] at e'
                    exact keep b w (ok.sub b w e'), fun b P e => by
                  by_cases z : b ∈ ds
                  · rw [jn b z] at e
                    cases e
                    obtain ⟨x, y, e⟩ := (hd b z).2
                    exact ⟨_, e, x, y, rfl⟩
                  · rw [jo b z] at e
                    obtain ⟨w, e1, e2⟩ := ok.vol b P e
                    exact ⟨w, keep b w e1, P.mono (fun c q y => ⟨by
                      have : c ∉ ds := fun z => nomatch ((hd c z).1.symm.trans y.2)
                      show s'.J c = none
                      rw [jo c this]; exact y.1, keep c _ y.2⟩) e2⟩, fun b P e => by
                  by_cases z : b ∈ ds
                  · show upd s.F p _ b = none
                    rw [upd_ne (nd b z)]; exact ok.nof (hd b z).1
                  · rw [jo b z] at e
                    obtain ⟨w, e1, e2⟩ := ok.vol b P e
                    show upd s.F p _ b = none
                    rw [upd_ne (ne_of_none e1 np)]; exact ok.ft b P e⟩
                keep := fun b w e _ => keep b w e
                fr := fr
                jr := fun b P e => by
                  have z : b ∉ ds := fun z => by
                    obtain ⟨w, e1, _⟩ := ok.vol b P e
                    rw [(hd b z).1] at e1; cases e1
                  rw [jo b z]; exact e
                nw := fun b w e n => by
                  by_cases z : b = p
                  · subst z; exact np
                  · have e' : upd s.F p (.lst (ds.map V.ref)) b = some w := e
                    rw [upd_ne z, n] at e'; cases e'
                jn := fun b P e n => by
                  by_cases z : b ∈ ds
                  · exact (hd b z).1
                  · rw [jo b z, n] at e; cases e }
            have rr : ∀ es : List Addr, (∀ d ∈ es, d ∈ ds) → Rvs s'.J s'.F (es.map V.ref) (List.replicate es.length .die) := fun es => by
              induction es with
              | nil => intro _; exact .nil
              | cons d es ih => intro hm; exact .cons (.die (jn d (hm d List.mem_cons_self))) (ih fun x hx => hm x (List.mem_cons_of_mem _ hx))
            exact k _ _ s' (h3 ds.length hl) up (.lst upd_same (rr ds fun _ h => h))
        rcases hS with e | ⟨a, e, hK⟩
        · subst e
          cases r1 with
          | @scr a xs _ hF hr =>
            have ex := rvs_ints hr
            subst ex
            exact fin a (.inl (rd_fw ok.sub hF))
        · subst e
          cases r1
          exact fin a (hK s.H)
end Dl
/-! lemmas for readings over data: loops, comprehensions, sums; lists of whole numbers -/
namespace Dl
open PySem PySem.Spec PyProof.Rows L2
/-- the built-ins' names are nobody else's -/
structure Bn (mg : Str → Option Value) : Prop where
  len : mg "len" = none
  isi : mg "isinstance" = none
  str : mg "str" = none
  tuple : mg "tuple" = none
  dict : mg "dict" = none
  int : mg "int" = none
  bool : mg "bool" = none
  all : mg "all" = none
  any : mg "any" = none
  list : mg "list" = none
  sorted : mg "sorted" = none
  set : mg "set" = none
  range : mg "range" = none
  max : mg "max" = none
  min : mg "min" = none
  sum : mg "sum" = none
  enumerate : mg "enumerate" = none
  zip : mg "zip" = none
  reversed : mg "reversed" = none
  abs : mg "abs" = none
theorem sz {n : Nat} (h : n ≤ 100000) : n ≤ sizeLine := Nat.le_trans h (by decide)
theorem szl {n : Nat} (h : n ≤ 100000) : n < sizeLine := Nat.lt_of_le_of_lt h (by decide)
theorem forR_inv {tg : DG} {tb : DS} {D : EndsD} (Inv : Nat → Env → Prop) {ds : List Dt} {ρ : Env} (h0 : Inv 0 ρ)
    (hs : ∀ i d ρ (D' : EndsD), ds[i]? = some d → Inv i ρ → (∀ ρ', Inv (i + 1) ρ' → D'.nx ρ') → (∀ ρ', Inv (i + 1) ρ' → D'.ct ρ') → D'.rt = D.rt → D'.bk = D.nx → tg d ρ fun ρ2 => tb D' ρ2) (hd : ∀ ρ, Inv ds.length ρ → D.nx ρ) : forR tg tb D ds ρ := by
  have key : ∀ (r : List Dt) (i : Nat) (ρ : Env), ds.drop i = r → i ≤ ds.length → Inv i ρ → forR tg tb D r ρ := fun r => by
    induction r with
    | nil =>
      intro i ρ e hi h
      have : i = ds.length := by
        have := congrArg List.length e
        rw [List.length_drop, List.length_nil] at this
        omega
      subst this
      exact hd ρ h
    | cons d r ih =>
      intro i ρ e hi h
      have hlt : i < ds.length := by
        have := congrArg List.length e
        rw [List.length_drop, List.length_cons] at this
        omega
      rw [List.drop_eq_getElem_cons hlt] at e
      injection e with e1 e2
      have step : ∀ ρ', Inv (i + 1) ρ' → forR tg tb D r ρ' := fun ρ' h' => ih (i + 1) ρ' e2 hlt h'
      exact hs i d ρ _ (by rw [List.getElem?_eq_getElem hlt, e1]) h step step rfl rfl
  exact key ds 0 ρ rfl (Nat.zero_le _) h0
theorem lcR_map {ρ : Env} {te : DE} {i : Nat} {gd : Dt → Dt} {q : List Dt → Prop} : ∀ {ds acc : List Dt}, (∀ d ∈ ds, ∀ q : Dt → Prop, q (gd d) → te (ep ρ i (.va d)) q) → acc.length + ds.length ≤ sizeLine → q (acc ++ ds.map gd) → lcR ρ (dName i) dYes te ds acc q
  | [], acc, _, _, h => by rw [List.map_nil, List.append_nil] at h; exact h
  | d :: ds, acc, ht, hl, h => by
    rw [List.length_cons] at hl
    refine ht d List.mem_cons_self _ ⟨by omega, lcR_map (fun x hx => ht x (List.mem_cons_of_mem _ hx)) (by rw [List.length_append, List.length_singleton]; omega) ?_⟩
    rw [List.append_assoc]
    exact h
/-- .. by the place -/
theorem lcR_ix {ρ : Env} {tg : DG} {te : DE} {gd : Nat → Dt} {q : List Dt → Prop} : ∀ {ds acc : List Dt}, (∀ k d, ds[k]? = some d → ∀ q : Dt → Prop, q (gd (acc.length + k)) → tg d ρ fun ρ2 => te ρ2 q) → acc.length + ds.length ≤ sizeLine → q (acc ++ (List.range ds.length).map fun k => gd (acc.length + k)) → lcR ρ tg dYes te ds acc q
  | [], acc, _, _, h => by
    have h' : q (acc ++ []) := h
    rw [List.append_nil] at h'
    exact h'
  | d :: ds, acc, ht, hl, h => by
    rw [List.length_cons] at hl
    refine ht 0 d rfl _ ⟨by omega, ?_⟩
    refine lcR_ix (gd := gd) (fun k x hx q hq => ht (k + 1) x (by simpa using hx) q (by rw [List.length_append, List.length_singleton] at hq; rw [show acc.length + (k + 1) = acc.length + 1 + k by omega]; exact hq)) (by rw [List.length_append, List.length_singleton]; omega) ?_
    rw [List.length_cons, List.range_succ_eq_map, List.map_cons, List.map_map] at h
    rw [List.append_assoc]
    have e : (List.range ds.length).map (fun k => gd ((acc ++ [gd (acc.length + 0)]).length + k)) = (List.range ds.length).map ((fun k => gd (acc.length + k)) ∘ Nat.succ) := List.map_congr_left fun k _ => by
      show gd _ = gd _
      rw [List.length_append, List.length_singleton, show acc.length + 1 + k = acc.length + Nat.succ k by omega]
    rw [e]
    exact h
theorem sumR_ix {ρ : Env} {tg : DG} {te : DE} {f : Nat → Int} {q : Dt → Prop} : ∀ {ds : List Dt} {c : Int} {j : Nat}, (∀ k d, ds[k]? = some d → ∀ q : Dt → Prop, q (.int (f (j + k))) → tg d ρ fun ρ2 => te ρ2 q) → q (.int (c + ((List.range ds.length).map fun k => f (j + k)).sum)) → sumR ρ tg dYes te ds c q
  | [], c, j, _, h => by
    have h' : q (.int (c + 0)) := h
    rw [Int.add_zero] at h'
    exact h'
  | d :: ds, c, j, ht, h => by
    refine ht 0 d rfl _ ?_
    refine sumR_ix (f := f) (j := j + 1) (fun k x hx q hq => ht (k + 1) x (by simpa using hx) q (by rw [show j + (k + 1) = j + 1 + k by omega]; exact hq)) ?_
    rw [List.length_cons, List.range_succ_eq_map, List.map_cons, List.map_map, List.sum_cons] at h
    have e : (List.range ds.length).map (fun k => f (j + 1 + k)) = (List.range ds.length).map ((fun k => f (j + k)) ∘ Nat.succ) := List.map_congr_left fun k _ => by
      show f _ = f _
      rw [show j + 1 + k = j + Nat.succ k by omega]
    rw [e, Int.add_assoc]
    exact h
/-- all(..), where all are True -/
theorem aaR_all {ρ : Env} {tg : DG} {te : DE} {q : Dt → Prop} : ∀ {ds : List Dt}, (∀ d ∈ ds, ∀ q : Dt → Prop, q (.bl true) → tg d ρ fun ρ2 => te ρ2 q) → q (.bl true) → aaR false ρ tg dYes te ds q
  | [], _, h => h
  | d :: ds, ht, h => ht d List.mem_cons_self _ (aaR_all (fun x hx => ht x (List.mem_cons_of_mem _ hx)) h)
/-! ### whole numbers -/
noncomputable def I (l : List Int) : List Dt := l.map .int
theorem I_len (l : List Int) : (I l).length = l.length := List.length_map ..
theorem I_at {l : List Int} {k : Nat} {x : Int} (h : l[k]? = some x) : L2.atI (I l) (k : Nat) = some (.int x) := atI_nat (by unfold I; rw [List.getElem?_map, h]; rfl)
theorem I_app (a b : List Int) : I (a ++ b) = I a ++ I b := List.map_append
theorem I_set (a : List Int) (k : Nat) (x : Int) : (I a).set k (.int x) = I (a.set k x) := List.map_set.symm
theorem pls_I : ∀ l : List Int, pls (I l) = true
  | [] => rfl
  | _ :: r => by show (true && pls (I r)) = true; rw [pls_I r]; rfl
theorem pys_I : ∀ l : List Int, pys (I l) = l.map PyData.int
  | [] => rfl
  | x :: r => by show PyData.int x :: pys (I r) = _; rw [pys_I r]; rfl
theorem depthAll_ints : ∀ l : List Int, PyData.depthAll (l.map PyData.int) = 0
  | [] => rfl
  | x :: r => by rw [List.map_cons, PyData.depthAll, depthAll_ints r]; rfl
theorem dep_I (l : List Int) : dep (.tup (I l)) ≤ 64 := by
  unfold dep py
  rw [pys_I]
  unfold PyData.depth
  rw [depthAll_ints]
  decide
/-- two tuples of whole numbers that are the same are not told unlike -/
theorem ne_I {a b : List Int} {q : Dt → Prop} (e : a = b) (h : q (.bl false)) : dEqP true (.tup (I a)) (.tup (I b)) q := by
  subst e
  refine ⟨pls_I a, pls_I a, Nat.le_trans (Nat.min_le_left _ _) (dep_I a), ?_⟩
  rw [deq_refl (show pl (.tup (I a)) = true from pls_I a)]
  exact h
theorem ixN_ok {n k : Nat} (h : k < n) : ixN n (k : Nat) = some k := by
  unfold ixN
  rw [if_pos (Int.natCast_nonneg _), if_pos (by omega), Int.toNat_natCast]
theorem rg_get {lo : Int} {n i : Nat} {d : Dt} (h : (rg lo 1 n)[i]? = some d) : i < n ∧ d = .int (lo + i) := by
  have hi : i < n := by
    have := (List.getElem?_eq_some_iff.mp h).1
    rw [rg_len] at this
    exact this
  rw [rg_at hi, Int.mul_one] at h
  exact ⟨hi, (Option.some.inj h).symm⟩
end Dl
/-! from the head's facts to promises by name; the end -/
namespace Dl
open PySem PySem.Spec PyProof.Rows L2
noncomputable def dd (x : Str) (st : Stmt) : He.DefD := ⟨(x, none), x, x, defArgs st, defBody st, defScope st, [], []⟩
section
variable {K : PySem.W.Frag} {h : Heap} {mg : Str → Option Value} {fa : List He.Fa} {fn : List He.DefD} {x : Str} {st : Stmt} {ps : List Str}
theorem plain_of {f : Addr} {fd : FuncData} (F : FunD K x x (defArgs st) (defBody st) (defScope st) [] [] f fd) : Fun K x x st f fd := by
  obtain ⟨oc, od, dV, kV, doc, pm, an, cdv, ct, osl, e, lk, hc, hd, _⟩ := F.ex
  rcases hd with ⟨_, rfl⟩ | ⟨z, _⟩
  · exact ⟨⟨oc, od, kV, doc, pm, an, cdv, ct, osl, e, lk, hc⟩, F.kp⟩
  · exact absurd rfl z
theorem bnd (h : ∀ (kV doc pm : Value) (an : Option Addr) (cdv ct : Value) (us : List Value), us.length = ps.length → bindArgs (PySem.W.fnOf x x (defArgs st) (defBody st) (defScope st) .none kV doc pm an cdv ct) { pos := us } = pure (ps.zip us)) :
    ∀ {f fd}, FunD K x x (defArgs st) (defBody st) (defScope st) [] [] f fd → Binds K fd ps [] := fun F s us X hl => by
  rw [List.append_nil] at hl ⊢
  exact FunD.bindsA F h s us hl
theorem has_of (c : He.SaysD fa fn K) (X : K.In h) (G : h.Ns mainGlobals mg) (i : Nat) (hd : fn[i]? = some (dd x st)) (hg : fa[i]? = some (.glo x))
    (hb : ∀ {f fd}, FunD K x x (defArgs st) (defBody st) (defScope st) [] [] f fd → Binds K fd ps []) : Has K mg x st ps := by
  obtain ⟨fd, F⟩ := c.defs (List.mem_of_getElem? hd)
  exact ⟨_, fd, plain_of F, He.glo_ok X G (c.facts (List.mem_of_getElem? hg)), hb F⟩
theorem code_of {f : Addr} {fd : FuncData} (F : FunD K x x (defArgs st) (defBody st) (defScope st) [] [] f fd) (hf : f = He.fAd K (x, none)) : Hx.FunT K x x st f (He.cT K (x, none)).1 fd := by
  obtain ⟨oc, od, dV, kV, doc, pm, an, cdv, ct, osl, e, lk, hc, hdf, _⟩ := F.ex
  have e1 : dV = .none := by
    rcases hdf with ⟨_, z⟩ | ⟨z, _⟩
    · exact z
    · exact absurd rfl z
  obtain ⟨cc, rfl⟩ := He.codeIn_ref hc
  subst hf
  have e2 : (He.cT K (x, none)).1 = cc := He.codeOf_eq lk (by rw [e])
  rw [e2]
  exact ⟨⟨oc, od, kV, doc, pm, an, ct, osl, by rw [e, e1], lk, hc⟩, F.kp⟩
theorem hasT_of {base : Heap} {T : List (Addr × Vol)} (c : He.SaysD fa fn K) (X : K.In h) (G : h.Ns mainGlobals mg) (i : Nat) (hd : fn[i]? = some (dd x st)) (hg : fa[i]? = some (.glo x))
    (hb : ∀ {f fd}, FunD K x x (defArgs st) (defBody st) (defScope st) [] [] f fd → Binds K fd ps []) (tb : LamX.TabB base mg (He.cT K (x, none)).1 (He.cT K (x, none)).2) {V : Vol} (hT : ((He.cT K (x, none)).2, V) ∈ T) : HasT K mg base T x st ps V := by
  obtain ⟨fd, F⟩ := c.defs (List.mem_of_getElem? hd)
  exact ⟨He.fAd K (x, none), (He.cT K (x, none)).1, (He.cT K (x, none)).2, fd, code_of F rfl, He.glo_ok X G (c.facts (List.mem_of_getElem? hg)), hb F, ⟨tb.code, tb.bm, tb.gP⟩, hT⟩
end
/-- the tables of the defs named in tf, each with what is known of it -/
noncomputable def tabsOf (K : PySem.W.Frag) (tf : List (He.Defn × Vol)) : List (Addr × Vol) := tf.map fun p => ((He.cT K p.1).2, p.2)
noncomputable def spLaw (K : PySem.W.Frag) : Spd := fun ds q _ => ∃ (z : Dt) (ns : List Int), ds = [z] ∧ IsScr K z ns ∧ ns.length ≤ 1000 ∧ q (.bl true)
theorem vo_tb : ∀ C, Tb.p C (.tbl #[]) := fun _ => ⟨#[], rfl, True.intro⟩
theorem vo_lt {q : Str} : ∀ C, (Lt q).p C (.tbl #[]) := fun _ => ⟨#[], rfl, True.intro, fun _ _ y => nomatch y⟩
theorem look_in : ∀ {T : List (Addr × Vol)} {b : Addr} {v : Vol}, T.lookup b = some v → (b, v) ∈ T
  | (a, w) :: T, b, v, h => by
    by_cases e : b = a
    · subst e
      rw [List.lookup_cons_self] at h
      cases h
      exact List.mem_cons_self
    · have e' : (b == a) = false := by simpa using e
      rw [List.lookup_cons, e'] at h
      exact List.mem_cons_of_mem _ (look_in h)
theorem look_of : ∀ {T : List (Addr × Vol)} {b : Addr} {v : Vol}, (T.map (·.1)).Nodup → (b, v) ∈ T → T.lookup b = some v
  | (a, w) :: T, b, v, nd, h => by
    rw [List.map_cons, List.nodup_cons] at nd
    rcases List.mem_cons.mp h with e | h
    · cases e
      exact List.lookup_cons_self
    · have e : b ≠ a := fun z => nd.1 (z ▸ List.mem_map.mpr ⟨_, h, rfl⟩)
      have e' : (b == a) = false := by simpa using e
      rw [List.lookup_cons, e']
      exact look_of nd.2 h
/-- at its entry the law has what it asks: all tables stand empty -/
theorem law_enters {K : PySem.W.Frag} {T : List (Addr × Vol)} {H : Hp} {a : Addr} {ns : List Int} (hl : ns.length ≤ 1000) (nd : (T.map (·.1)).Nodup) (vo : ∀ P ∈ T, ∀ C, P.2.p C (.tbl #[])) (tabs : ∀ P ∈ T, H P.1 = some (.tbl #[])) (hS : SqL K H a (ns.map V.int)) : lift T (spLaw K) [.ref a] H (fun v _ => v = .bl true) fun _ _ _ => False := by
  let s : Wd := ⟨fun b => T.lookup b, fun b => if b ∈ T.map (·.1) then none else if b = a then H b else none, H⟩
  have jT : ∀ P ∈ T, s.J P.1 = some P.2 := fun P hP => look_of nd hP
  have ok : Ok s := by
    refine ⟨fun b o e => ?_, fun b P e => ?_, fun b P e => ?_⟩
    · have e' : (if b ∈ T.map (·.1) then none else if b = a then H b else none) = some o := e
      split at e'
      · cases e'
      · split at e'
        · exact e'
        · cases e'
    · have hb := look_in (show T.lookup b = some P from e)
      exact ⟨_, tabs _ hb, vo _ hb _⟩
    · exact if_pos (List.mem_map.mpr ⟨_, look_in (show T.lookup b = some P from e), rfl⟩)
  have go : ∀ z, IsScr K z ns → Rv s.J s.F (.ref a) z → lift T (spLaw K) [.ref a] H (fun v _ => v = .bl true) fun _ _ _ => False := fun z hz r =>
    ⟨s, [z], fun d => d = .bl true, fun _ => False, rfl, ok, jT, .cons r .nil, ⟨z, ns, rfl, hz, hl, rfl⟩, (fun d v s' e _ r => by subst e; cases r; rfl), fun _ _ _ _ h => h.elim⟩
  rcases hS with hR | hK
  · refine go (.scr (ns.map .int)) (.inl rfl) (.scr ?_ (ints_rvs ns))
    have out : a ∉ T.map (·.1) := fun hb => by
      obtain ⟨P, hP, e1⟩ := List.mem_map.mp hb
      have e := tabs P hP
      rw [e1] at e
      rcases hR with q | ⟨o, q⟩
      · rw [q] at e; cases e
      · rw [q] at e; cases e
    have eF : s.F a = H a := by
      show (if a ∈ T.map (·.1) then none else if a = a then H a else none) = H a
      rw [if_neg out, if_pos rfl]
    exact hR.imp (fun q => eF.trans q) fun ⟨o, q⟩ => ⟨o, eF.trans q⟩
  · exact go (.opq (.ref a)) (.inr ⟨a, rfl, fun _ => .inr hK⟩) (.opq _)
/-- the end, from the head's facts -/
theorem law_at {l : PySem.W.OpenLaw} {w : World} {K : PySem.W.Frag} {mg : Str → Option Value} {fad : Addr} {h : Heap} {fa : List He.Fa} {fn : List He.DefD} {ts : List He.Tab} {tf : List (He.Defn × Vol)} {ex : PySem.W.Frag → Bool} {k : Nat} {st : Stmt} (KX : K.In h) (c : He.SaysX fa fn ts (tf.map (·.1)) ex w h K) (G : h.Ns mainGlobals mg) (hmg : mg "law" = some (.ref fad)) (nd : ((tf.map (·.1)).map fun d => (He.cT K d).2).Nodup) (vo : ∀ p ∈ tf, ∀ C, p.2.p C (.tbl #[])) (i : Nat) (hd : fn[i]? = some (dd "law" st)) (hg : fa[i]? = some (.glo "law"))
    (hb : ∀ (kV doc pm : Value) (an : Option Addr) (cdv ct : Value) (us : List Value), us.length = 1 → bindArgs (PySem.W.fnOf "law" "law" (defArgs st) (defBody st) (defScope st) .none kV doc pm an cdv ct) { pos := us } = pure ((["_law_script"] : List Str).zip us))
    (H : ∀ (f : Addr) (fd : FuncData), Fun K "law" "law" st f fd → Hx.FunT K "law" "law" st f (He.cT K ("law", none)).1 fd → ∀ base : Heap, K.In base → base.Ns mainGlobals mg → (∀ p ∈ (tf.map (·.1)).map (He.cT K), LamX.TabB base mg p.1 p.2) → FnOk l.prog w K mg base (L2N.CX l.prog w) k f fd ["_law_script"] (lift (tabsOf K tf) (spLaw K))) :
    LamX.LawAtS l w K (L2N.CX l.prog w) k 63 "_law_script" mg fad h := by
  obtain ⟨fd, F⟩ := c.t.d.defs (List.mem_of_getElem? hd)
  have e := hmg.symm.trans (He.glo_ok KX G (c.t.d.facts (List.mem_of_getElem? hg)))
  cases e
  have b := FunD.bindsA (ps := ["_law_script"]) F hb
  have nd' : ((tabsOf K tf).map (·.1)).Nodup := by
    unfold tabsOf
    rw [List.map_map] at nd ⊢
    exact nd
  refine ⟨fd, (tf.map (·.1)).map (He.cT K), lift (tabsOf K tf) (spLaw K), fun p hp => ?_, fun p hp => ?_, fun p hp => ?_, fun s v => b s [v] rfl, fun H' a ns hl _ hT hS => law_enters (Nat.le_trans hl (by decide)) nd' (fun P hP => ?_) (fun P hP => ?_) hS, fun base hb hn tb => H _ fd (plain_of F) (code_of F rfl) base hb hn tb⟩
  · obtain ⟨q, hq, rfl⟩ := List.mem_map.mp hp
    exact c.empty q hq
  · obtain ⟨q, hq, rfl⟩ := List.mem_map.mp hp
    exact c.out q hq
  · obtain ⟨q, hq, rfl⟩ := List.mem_map.mp hp
    exact PySem.W.codeHd_of_K KX (c.hd q hq)
  · obtain ⟨q, hq, rfl⟩ := List.mem_map.mp hP
    exact vo q hq
  · obtain ⟨q, hq, rfl⟩ := List.mem_map.mp hP
    exact hT _ (List.mem_map.mpr ⟨q.1, List.mem_map.mpr ⟨q, hq, rfl⟩, rfl⟩)
theorem cx_never {P : Program} {w : World} {H : Hp} {s s' : Shared} {e : Value} (h : L2N.CX P w [] H s (fun _ _ _ => False) e s') : False := by
  rcases h with ⟨_, _, _, _, _, _, _, _, _, _, _, _, no⟩
  exact no
end Dl
/-! defs with keyword-only parameters, over data; defs that call themselves -/
namespace Dl
open PySem PySem.Spec PyProof.Rows L2
noncomputable def pick {α : Type} (l : List α) : List Nat → List α
  | [] => []
  | i :: is => (match l[i]? with | some x => [x] | none => []) ++ pick l is
theorem vals_at : ∀ {vs : List V} {us : List Value} (i : Nat), Vals vs us → (vs[i]? = none ∧ us[i]? = none) ∨ ∃ v u, vs[i]? = some v ∧ us[i]? = some u ∧ RelV v u
  | _, _, _, .nil => .inl ⟨rfl, rfl⟩
  | _, _, 0, .cons r _ => .inr ⟨_, _, rfl, rfl, r⟩
  | _, _, i + 1, .cons _ rs => vals_at i rs
theorem pick_vals {vs : List V} {us : List Value} (r : Vals vs us) : ∀ is : List Nat, Vals (pick vs is) (pick us is)
  | [] => .nil
  | i :: is => by
    unfold pick
    rcases vals_at i r with ⟨e1, e2⟩ | ⟨v, u, e1, e2, e3⟩
    · rw [e1, e2]; exact pick_vals r is
    · rw [e1, e2]; exact .cons e3 (pick_vals r is)
theorem pick_rvs {J : Addr → Option Vol} {F : Hp} {vs : List V} {ds : List Dt} (r : Rvs J F vs ds) : ∀ is : List Nat, Rvs J F (pick vs is) (pick ds is)
  | [] => .nil
  | i :: is => by
    unfold pick
    cases e : ds[i]? with
    | none =>
      have : vs[i]? = none := by
        cases z : vs[i]? with
        | none => rfl
        | some v =>
          obtain ⟨d, e1, _⟩ := r.at' z
          rw [e] at e1; cases e1
      rw [this]; exact pick_rvs r is
    | some d =>
      obtain ⟨v, e1, e2⟩ := r.at e
      rw [e1]
      exact .cons e2 (pick_rvs r is)
/-- a def with keyword-only parameters stands under its name -/
noncomputable def HasK (K : PySem.W.Frag) (mg : Str → Option Value) (x : Str) (st : Stmt) (kws : List (Str × V)) : Prop := ∃ f fd, FunD K x x (defArgs st) (defBody st) (defScope st) [] kws f fd ∧ mg x = some (.ref f)
/-- what it promises -/
noncomputable def PdK (P : Program) (w : World) (K : PySem.W.Frag) (mg : Str → Option Value) (base : Heap) (T : List (Addr × Vol)) (x : Str) (st : Stmt) (kws : List (Str × V)) (ps : List Str) (sp : Spd) (k : Nat) : Prop := ∃ f fd, FnOk P w K mg base (L2N.CX P w) k f fd ps (lift T sp) ∧ mg x = some (.ref f) ∧ PySem.W.keepIn K (.ref f) = true ∧ FunD K x x (defArgs st) (defBody st) (defScope st) [] kws f fd
section
variable {P : Program} {w : World} {K : PySem.W.Frag} {mg : Str → Option Value} {base : Heap} {T : List (Addr × Vol)} {x : Str} {st : Stmt} {kws : List (Str × V)} {ps N : List Str} {sp : Spd} {k : Nat}
theorem PdK.mono {j : Nat} (h : PdK P w K mg base T x st kws ps sp j) (hj : j ≤ k) : PdK P w K mg base T x st kws ps sp k := let ⟨f, fd, F, r⟩ := h; ⟨f, fd, F.mono hj, r⟩
theorem pd_defK (h : HasK K mg x st kws) (S : FnScope N ps (defScope st)) (len : ∀ ds q xd, sp ds q xd → ds.length = ps.length)
    (body : ∀ (f : Addr) (cd : Value) (A : Around) (outer : List PySem.Env) (s : Shared) (s0 : Wd) (E : XK) (xd : Xd → Prop), Room k (A.deeper (envOfC x (defScope st) s.heap.objs.size f cd)) → (∀ P ∈ T, s0.J P.1 = some P.2) → Lx s0 xd E → ∀ ds q, sp ds q xd →
      ∃ t, PSs (bodyX P w K mg base N x st f cd A outer s s0.H E) (defBody st) (cS s0 t) ∧ t (rtE q) (startE N ds)) : PdK P w K mg base T x st kws ps sp (k + 1) := by
  obtain ⟨f, fd, F, g⟩ := h
  refine ⟨f, fd, ?_, g, F.kp, F⟩
  refine F.ok S (lift_len len) fun cd A outer s H vs Q E hr z => ?_
  obtain ⟨s0, ds, q, xd, rfl, ok, tj, r, hsp, kq, lx⟩ := z
  obtain ⟨t, h1, h2⟩ := body f cd A outer s s0 E xd hr tj lx ds q hsp
  refine ⟨_, h1, s0, _, _, rfl, rp_start ok r, h2, ⟨fun s2 ρ σ h R f => kq _ _ s2 h R.up .non, fun d v s2 h u r => kq d v s2 h u r, fun _ _ _ h => h.elim, fun _ _ _ h => h.elim⟩⟩
/-- a promise of nothing -/
theorem pd_none (h : Has K mg x st ps) (S : FnScope N ps (defScope st)) (no : ∀ ds q xd, ¬ sp ds q xd) : Pd P w K mg base T x ps sp (k + 1) :=
  pd_def h S (fun ds q xd z => (no ds q xd z).elim) fun _ _ _ _ _ _ _ _ _ _ _ ds q z => (no ds q _ z).elim
end
section
variable {X : Cx} {s0 : Wd} {T : List (Addr × Vol)} {x : Str} {st : Stmt} {kws : List (Str × V)} {ps ks : List Str} {sp : Spd} {k n m : Nat} {e : Expr} {es : List Expr} {kwz : List Keyword} {te : DE} {t tk : DA} {p pos kpos : Pos} {xd : Xd → Prop} {E : XK} {nm : Option Str}
theorem pdk_nil : PK X [] (cA s0 0 dNil) := ⟨fun pos pins s σ H Q I ⟨s1, ρ, q, e, R, t, k⟩ => pk_nil.run pos pins s σ H Q I (by
  subst e
  exact k [] [] s1 rfl t (Up.refl R.ok) .nil)⟩
theorem pdk_cons (ha : PE X e (cE s0 te)) (hr : PK X kwz (cA s0 n t)) : PK X (⟨nm, e, kpos⟩ :: kwz) (cA s0 (n + 1) (dCons te t)) := ⟨fun pos pins s σ H Q I ⟨s1, ρ, q, e, R, t, k⟩ => (pk_cons ha hr).run pos pins s σ H Q I
  ⟨s1, ρ, _, e, R, t, fun d v s' t1 u r1 => ⟨s', ρ, _, rfl, R.up' u, t1, fun ds vs s2 hl hq u2 r2 => k (d :: ds) (v :: vs) s2 (by rw [List.length_cons, hl]) hq (u.trans u2) (.cons (r1.up u2) r2)⟩⟩⟩
noncomputable def dCallN (sp : Spd) (xd : Xd → Prop) (dm : List Dt) (is : List Nat) (t tk : DA) : DE := fun ρ q => t ρ fun ds => tk ρ fun zs => sp (pick (ds ++ (dm ++ zs)) is) q xd
/-- f(e, .., k = v, ..): ms the keyword-only parameters that lack, dm their data, is the places of the parameters in arguments, defaults, keywords -/
theorem pd_callN (ms : List (Str × V)) (dm : List Dt) (is : List Nat) (ks : List Str) (C : PdK X.prog X.w X.K X.mg X.base T x st kws ps sp k) (hr : Room k X.A) (hx : Passes (L2N.CX X.prog X.w) X E) (tj : ∀ P ∈ T, s0.J P.1 = some P.2) (lx : Lx s0 xd E) (hg : Gl X x)
    (ha : PA X (e :: es) (cA s0 n t)) (hkw : PK X kwz (cA s0 m tk))
    (puts : ∀ (tb : Addr) (u1 u2 : Value) (o1 : Option Addr) (u3 u4 : Value) (us mv ws : List Value), us.length = n → mv.length = ms.length → ws.length = ks.length → KwChain tb ((ms.map (·.1)).zip mv) (bindArgs (PySem.W.fnOf x x (defArgs st) (defBody st) (defScope st) .none (.ref tb) u1 u2 o1 u3 u4) ⟨us, ks.zip ws⟩) (ps.zip (pick (us ++ (mv ++ ws)) is)))
    (fl : ∀ J F, Rvs J F (ms.map (·.2)) dm) (hms : ∀ q ∈ ms, q ∈ kws) (hk : kws ≠ []) (hm : ks.length = m := by rfl)
    (hall : (backToKw pos (keywordEach kwz X.env)).all (·.1.isSome) = true := by rfl) (hks : (backToKw pos (keywordEach kwz X.env)).filterMap (·.1) = ks := by rfl)
    (he : starEach (e :: es) X.env = (false, eval e X.env) :: starEach es X.env := by rfl) (hdb : (x == ("__debug__" : Str)) = false := by decide) (hpl : ((backTo pos (starEach (e :: es) X.env)).any (·.1) || (backToKw pos (keywordEach kwz X.env)).any (·.1.isNone)) = false := by rfl) :
    PE X (.Call (.Name x p) (e :: es) kwz pos) (cE s0 (dCallN sp xd dm is t tk)) := by
  obtain ⟨f, fd, F, g, kp, b⟩ := C
  obtain ⟨mv, hb⟩ := b.kbinds0 (ps := ps) n ks ms (fun us mv ws => pick (us ++ (mv ++ ws)) is) hk hms (fun r1 r2 r3 => pick_vals (r1.append (r2.append r3)) is) puts
  refine peI (pe_callN F hr hg g kp hb hx ha hkw hall hks hdb he hpl) fun σ H Q ⟨s, ρ, q, e, R, t, kk⟩ => ?_
  refine ⟨s, ρ, _, e, R, t, fun ds vs s1 hn t1 u r => ⟨s1, ρ, _, rfl, R.up' u, t1, fun zs ws s2 hz t2 u2 r2 => ⟨by rw [r.length]; exact hn, by rw [r2.length, hz]; exact hm.symm, ?_⟩⟩⟩
  have u3 := u.trans u2
  exact ⟨s2, _, q, xd, rfl, u2.ok, fun P hP => u3.jr _ _ (R.up.jr _ _ (tj P hP)), pick_rvs ((r.up u2).append ((fl _ _).append r2)) is, t2, fun d v s3 hq u4 rv => kk d v s3 hq (u3.trans u4) rv, fun xc s3 cls dx h u4 xr => lx xc s3 cls dx h (R.up.trans (u3.trans u4)) xr⟩
end
/-! ### list(range(a, b)) -/
noncomputable def dLR (ta tb : DE) : DA := fun ρ q => ta ρ fun x => tb ρ fun y => match x, y with | .int i, .int j => RgOk i j ∧ q (rg i 1 (j - i).toNat) | _, _ => False
theorem rvs_map {J : Addr → Option Vol} {F : Hp} {f : Nat → V} {g : Nat → Dt} (h : ∀ i, Rv J F (f i) (g i)) : ∀ l : List Nat, Rvs J F (l.map f) (l.map g)
  | [] => .nil
  | i :: l => .cons (h i) (rvs_map h l)
theorem rvs_rg {J : Addr → Option Vol} {F : Hp} (a b : Int) : Rvs J F (rgV a b) (rg a 1 (b - a).toNat) := by
  unfold rgV rg
  exact rvs_map (fun i => by rw [Int.mul_one]; exact .int _) _
section
variable {X : Cx} {s0 : Wd} {a b : Expr} {ta tb : DE} {p pos pp pos2 : Pos}
theorem po_listR2 (hl : Gl X "list") (hlm : X.mg "list" = none) (hg : Gl X "range") (hm : X.mg "range" = none) (ha : PE X a (cE s0 ta)) (hb : PE X b (cE s0 tb)) (hc : X.calm = true := by rfl)
    (na : starEach [a, b] X.env = (false, eval a X.env) :: starEach [b] X.env := by rfl) (nb : starEach [b] X.env = (false, eval b X.env) :: starEach [] X.env := by rfl) (hp : (backTo pp (starEach [b] X.env)).any (·.1) = false := by rfl)
    (nr : starEach [.Call (.Name "range" p) [a, b] [] pp] X.env = (false, eval (.Call (.Name "range" p) [a, b] [] pp) X.env) :: starEach [] X.env := by rfl) :
    PE X (.Call (.Name "list" pos2) [.Call (.Name "range" p) [a, b] [] pp] [] pos) (cO s0 (dLR ta tb)) :=
  peI (pe_listRg hc hl hlm (prg_2 hg hm ha hb na nb hp) nr) fun σ H Q ⟨s, ρ, q, e, R, t, k⟩ =>
  ⟨s, ρ, _, e, R, t, fun d v s1 t1 u1 r1 => ⟨s1, ρ, _, rfl, R.up' u1, t1, fun d2 v2 s2 t2 u2 r2 => by
    cases r1 with
    | int i =>
      cases r2 with
      | int j =>
        have u := u1.trans u2
        exact ⟨i, j, rfl, rfl, t2.1, fun l nl => k _ _ l (s2.put l _) t2.2 (u.trans (Up.put u2.ok _ nl)) (u.free nl) upd_same (u2.ok.nof nl) (u2.ok.noj nl) (rvs_rg i j)⟩
      | _ => exact False.elim t2
    | _ => cases r2 <;> exact False.elim t2⟩⟩
end
noncomputable def ddK (x : Str) (st : Stmt) (kw : List (Str × He.Dv)) : He.DefD := ⟨(x, none), x, x, defArgs st, defBody st, defScope st, [], kw⟩
theorem hasK_of {K : PySem.W.Frag} {h : Heap} {mg : Str → Option Value} {fa : List He.Fa} {fn : List He.DefD} {x : Str} {st : Stmt} {kw : List (Str × He.Dv)} {kws : List (Str × V)} (c : He.SaysD fa fn K) (X : K.In h) (G : h.Ns mainGlobals mg) (i : Nat) (hd : fn[i]? = some (ddK x st kw)) (hg : fa[i]? = some (.glo x)) (hk : (kw.map fun q => (q.1, q.2.v K)) = kws) : HasK K mg x st kws := by
  obtain ⟨fd, F⟩ := c.defs (List.mem_of_getElem? hd)
  subst hk
  exact ⟨_, fd, F, He.glo_ok X G (c.facts (List.mem_of_getElem? hg))⟩
end Dl
/-! an own exception whose __init__(self, x) says super().__init__(text), then one statement -/
namespace Xs
open L2 PySem PySem.Spec PyProof.Rows NdefX
/-- what the written part says of such a class -/
structure IniC (P : Program) (K : PySem.W.Frag) (mg : Str → Option Value) (C cc : Addr) (F : NF) : Prop where
  T : OexC K C
  cl : F.cl = [(("__class__" : Str), cc)]
  code : PySem.W.codeIn K (.ref F.c) F.qual = true
  file : ∃ (ccl : Value) (cdd : Option Addr) (vs : Array Value) (ccs : Array (Option Value)) (file : Str) (tf : Tok), K.lookup F.c = some ⟨ccl, cdd, .fields vs, ccs⟩ ∧ vs[2]? = some (.str file tf) ∧ ((P.main.file : Str) == file) = true
  cell : ∃ (cl : Value) (cld : Option Addr) (csl : Array (Option Value)), K.lookup cc = some ⟨cl, cld, .cell (some (.ref C)), csl⟩
  self : PySem.W.mroIn K C (.ref C) = some true
  up : PySem.W.ks_superIn K C C "__init__" = some (some (.builtin "ValueError.__init__"))
  sub : PySem.W.subIn K (.ref C) (.type "ValueError") = some true
  st : PySem.W.nsIn K cStatics "thirdparty.any" = some none
  ms : mg "super" = none
  top : (P.main.scope.names.lookup ("super" : Str)).isSome = false
section
variable {X : Cx} {pins : List (Addr × Obj)} {σ : L2.St} {H : Hp} {s : Shared} {a C u : Addr} {us : List Value} {A : Around} {E : Value → Shared → Prop}
/-- the bound __init__ is called: of the exception nothing is told anew -/
theorem bound_ok {Q : Value → Shared → Prop} (T : OexC X.K C) (I : Inv X pins σ H s) (e : H a = some (exo a C none)) (hu : s.heap.get? u = some (PySem.W.kxs_mw "ValueError.__init__" a)) (hl : us.length ≤ sizeLine) (h : ∀ s', Inv X pins σ H s' → Q .none s') :
    wpAny (model X.prog X.w) A (call (.ref u) us) Q E s := by
  obtain ⟨nm, q, N, bs, bm, sn, sub, ab, col, dd, k0, k1, k2, k3, k5, hC, _⟩ := T.cls
  have ⟨t1, ho⟩ := exo_at I.hok e
  have same : upd H a (exo a C none) = H := funext fun b => by
    by_cases hb : b = a
    · rw [hb, upd_same, e]
    · rw [upd_ne hb]
  have out : ∀ h' t2 (t' : Nat), (∀ b o, b ≠ a → s.heap.get? b = some o → h'.get? b = some o) → h'.get? a = some ({ cls := .ref C, dict := none, data := .fields #[.ref t2, .none, .none, .none, .bool false, .none] } : Obj) → Q .none { s with heap := h', toks := t' } := fun h' t2 t' k hx =>
    h _ (same ▸ I.write (t' := t') (x := a) (e := a) (o := exo a C none) (by rw [e]; exact True.intro) (.inl rfl) k ⟨_, hx⟩ (exo_ok hx))
  have FB := PySem.F.excBase_ValueError
  have kC := I.kIn _ _ hC
  obtain ⟨hp, g, d, t, os⟩ := s
  refine wpAny_call (codeAny_of_tree (show wpAny _ _ (callAny (.ref u) ⟨us, []⟩) _ _ _ from ?_))
  unfold callAny
  refine wpAny_bind (wpAny_load hu (PySem.W.KFB.if_so (by rfl) (PySem.W.KFB.if_so (by rfl) (wpAny_bind ?_))))
  refine PySem.W.check_bound_init FB.toExcCallFacts kC ho rfl ?_
  exact wpAny_pure ⟨plainId_quiet FB.init.plain _, codeAny_builtin FB.initEntry (PySem.W.exc_init_tree (cls := .ref C) (t0 := t1) (dv := none) (c2 := .none) (c3 := .none) (b4 := .bool false) ho hl fun h' k hx _ => out h' _ t k hx)⟩
end
section
variable {P : Program} {w : World} {K : PySem.W.Frag} {mg : Str → Option Value} {base : Heap} {C cc f1 : Addr} {F : NF} {N : List Str} {x : Str} {k : Nat}
theorem cells_at {A : Around} {outer : List Env} {s : Shared} {H : Hp} (D : IniC P K mg C cc F) (e0 : Env0 P w K mg base A outer s H) : CellsAt F.cl ["__class__"] [none] s.heap H := by
  obtain ⟨cl, cld, csl, hcell⟩ := D.cell
  have q := e0.bs cc _ (e0.mod.kin _ _ hcell)
  have one : ∀ y c, F.cl.lookup y = some c → y = "__class__" ∧ c = cc := fun y c z => by
    rw [D.cl] at z
    have m := PySem.mem_of_lookup z
    have m2 := List.mem_singleton.mp m
    injection m2 with m3 m4
    exact ⟨m3, m4⟩
  refine ⟨rfl, fun y c z => ?_, fun y z c h1 h2 => (one y c h1).1.trans (one z c h2).1.symm, fun i y z => ?_⟩
  · rw [(one y c z).2]
    exact ⟨q.2, _, _, q.1, rfl⟩
  · refine ⟨cc, ?_, fun v hv => ?_⟩
    · rw [List.mem_singleton.mp (List.mem_of_getElem? z), D.cl]
      rfl
    · cases i with
      | zero => cases hv
      | succ j => cases hv
/-- the def by its parts -/
theorem ini_ok {oc : Value} {od : Option Addr} {osl : Array (Option Value)} {doc pm ctv : Value} {e : Expr} {st : Stmt} {p0 p1 p2 p3 p4 : Pos} {ar : Arg} {sp : Sp} (D : IniC P K mg C cc F) (lk : K.lookup f1 = some ⟨oc, od, .func (F.fd doc pm ctv), osl⟩)
    (S : NScope N ["self", x] ["__class__"] F.scope) (hks : F.scope.names.lookup ("super" : Str) = some .globalImplicit)
    (hbd : F.body = [.Expr (.Call (.Attribute (.Call (.Name "super" p0) [] [] p1) "__init__" p2) [e] [] p3) p4, st])
    (har : (F.params.posonlyargs ++ F.params.args).head? = some ar) (ha : ar.arg = "self") (len : ∀ vs H Q E, sp vs H Q E → vs.length = 2)
    (hb : ∀ (A : Around) (outer : List Env) (s : Shared) (H : Hp) (vs : List V) (Q : VK) (E : XK), Room k (A.deeper (envF F f1 s.heap.objs.size)) → sp vs H Q E → ∃ (a : Addr) (te : TE) (ts : TS), vs[0]? = some (.ref a) ∧ H a = some (exo a C none) ∧
      PE (ncx CX0 P w K mg base N F f1 A outer s H E) e te ∧ PS (ncx CX0 P w K mg base N F f1 A outer s H E) st ts ∧
      te (startF N vs [none]) H fun v H1 => H1 a = some (exo a C none) ∧ ts { nx := fun _ H' => Q .non H', rt := Q } (startF N vs [none]) H1)
    (hst : ∀ env : Env, starEach [e] env = (false, eval e env) :: starEach [] env := by intro _; rfl) (hin : ∀ L : Addr, interactive (envF F f1 L) = false := by intro _; rfl)
    (hsw : ∀ L : Addr, swapsWith (.Call (.Attribute (.Call (.Name "super" p0) [] [] p1) "__init__" p2) [e] [] p3) none p4.line (envF F f1 L) = pure false := by intro _; rfl)
    (hev : ∀ L : Addr, ∃ pl : Sem Bool, eval (.Call (.Attribute (.Call (.Name "super" p0) [] [] p1) "__init__" p2) [e] [] p3) (envF F f1 L) = (do
      let ov ← attributeBase (.Call (.Name "super" p0) [] [] p1) "__init__" (envF F f1 L) (eval (.Call (.Name "super" p0) [] [] p1) (envF F f1 L))
      standAt p2.atName
      let (fn, first) ← holding [ov] (getMethod ov "__init__" pl)
      callWith p3 fn first (backTo p3 (starEach [e] (envF F f1 L))) []) := by intro _; exact ⟨_, rfl⟩) :
    FnOk P w K mg base CX0 (k + 1) f1 (F.fd doc pm ctv) ["self", x] sp := by
  refine ⟨len, fun A outer s H args us vs Q E hr e0 hbi r hsp => ?_⟩
  have kept : ∀ b o, base.get? b = some o → s.heap.get? b = some o := fun b o z => (e0.bs b o z).1
  have KX : K.In s.heap := e0.mod.kin.keeps kept
  refine ks_codeAny_call_defAt (fd := F.fd doc pm ctv) (body := F.body) (binds := List.zip (α := Str) ["self", x] us) hr.depth (KX _ _ lk) rfl (e0.mod.nolimit.keeps kept) (PySem.W.codeRec_of KX D.code) rfl hbi S.nocell (fun y hy => S.par y.1 (List.of_mem_zip hy).1) (fun h₁ hns kp => ?_) S.co S.gen S.kind
  obtain ⟨a, te, ts, hv, ea, pe, ps, q⟩ := hb A outer s H vs Q E (hr.deeper _) hsp
  have I : Inv (ncx CX0 P w K mg base N F f1 A outer s H E) [] (startF N vs [none]) H { s with heap := h₁, toks := s.toks + (List.zip (α := Str) ["self", x] us).length } := inv_startN S hr.hd e0 (len _ _ _ _ hsp) r (cells_at D e0) hns kp
  show PySem.wpAt (model P w) (A.deeper (envF F f1 s.heap.objs.size)) (.func F.body (envF F f1 s.heap.objs.size)) (execs F.body (envF F f1 s.heap.objs.size)) _ _ _
  generalize hs2 : ({ s with heap := h₁, toks := s.toks + (List.zip (α := Str) ["self", x] us).length } : Shared) = s2 at I ⊢
  generalize hcode : Code.func F.body (envF F f1 s.heap.objs.size) = code
  rw [hbd]
  obtain ⟨pl, hev⟩ := hev s.heap.objs.size
  refine ks_wpAt_execs_cons (ks_wpAt_Expr_any (ks_wpAt_MethodCall ?_ hev) (hin _) (hsw _))
  subst hcode
  obtain ⟨ccl, cdd, cvs, ccs, file, tf, hcd, hfl, hfe⟩ := D.file
  obtain ⟨cl, cld, csl, hcell⟩ := D.cell
  obtain ⟨nm, qn, NS, bs, bm, sn, sub, ab, col, dd, k0, k1, k2, k3, k5, hC, _⟩ := D.T.cls
  obtain ⟨mb, b1, b2⟩ := I.mod.blt
  obtain ⟨m, hm, look⟩ := I.loc
  have N0 : N[0]? = some ("self" : Str) := by
    have z := congrArg (fun l : List Str => l[0]?) S.pre
    rw [List.getElem?_take_of_lt (by show 0 < 3; decide)] at z
    exact z
  have selfL : F.scope.names.lookup ("self" : Str) = some .local := S.par _ List.mem_cons_self
  have hself : m "self" = some (.ref a) := by
    have s0 : (startF N vs [none])[0]? = some (some (.ref a)) := by
      unfold startF
      cases vs with
      | nil => cases hv
      | cons v r => cases hv; rfl
    obtain ⟨u, ru, lk2⟩ := look 0 "self" (.ref a) N0 s0 (.inl selfL)
    cases ru
    refine lk2.elim And.right fun z => ?_
    have z1 : F.scope.names.lookup ("self" : Str) = some .cell ∨ F.scope.names.lookup ("self" : Str) = some .free := z.1
    rw [selfL] at z1
    exact z1.elim (fun y => by cases y) fun y => by cases y
  have frk : F.scope.names.lookup ("__class__" : Str) = some .free := S.frk _ List.mem_cons_self
  have hcells : F.cl.lookup ("__class__" : Str) = some cc := by rw [D.cl]; rfl
  obtain ⟨t1, ho⟩ := exo_at I.hok ea
  have kC := I.kIn _ _ hC
  refine ks_wpAt_super_base (body := F.body) (env := envF F f1 s.heap.objs.size) hks frk (by decide) rfl (I.kIn _ _ lk) rfl har rfl (I.kIn _ _ hcd) rfl hfl hfe D.top ?_
  rw [ha]
  refine PySem.W.ks_loadName_global S.kind hks (Calls.loadGlobal_builtin (env := envF F f1 s.heap.objs.size) (I.mod.glob.keeps I.bk) D.ms (b1.keeps I.bk) ((b2 _ (by decide)).trans (by decide +kernel)) ⟨rfl, ?_⟩)
  refine wpAny_loadName_free S.kind frk hcells ⟨_, I.kIn _ _ hcell, rfl⟩ (wpAny_loadName_local S.kind selfL hm hself (ks_wpAny_isType_cls kC rfl ⟨rfl, ?_⟩))
  obtain ⟨hp, g, d, t, os⟩ := s2
  refine ks_wpAny_call_super kC rfl ho rfl (fun c z => by cases z) (PySem.W.looks_mroIn I.kIn D.self) (fun h2 hso k2 => ?_)
  have I2 : Inv (ncx CX0 P w K mg base N F f1 A outer s H E) [] (startF N vs [none]) H ⟨h2, g, d, t, os⟩ := I.kept (t' := t) k2
  have hup := D.up
  unfold PySem.W.ks_superIn at hup
  have inst : PySem.W.InstAt h2 a { cls := .ref C, data := .fields #[.ref t1, .none, .none, .none, .bool false, .none] } C none := ⟨k2 _ _ ho, rfl, rfl, trivial⟩
  cases hcls : PySem.W.clsIn K C with
  | none => rw [hcls] at hup; cases hup
  | some cd =>
    rw [hcls] at hup
    refine PySem.W.kxs_getMethod PySem.W.kxs_ValueError hso (PySem.W.looks_opaque I2.kIn D.st) (l₀ := cd.mro) ((PySem.W.looks_clsIn I2.kIn hcls).andThen .now) rfl I2.kIn hup (inst.type.andThen (PySem.W.looks_subIn I2.kIn D.sub)) (PySem.W.ks_ne I2.kIn inst hcls) (by decide) ?_
    have I3 : Inv (ncx CX0 P w K mg base N F f1 A outer s H E) [] (startF N vs [none]) H ⟨h2.push (PySem.W.kxs_mw "ValueError.__init__" a), g, d, t + 1, os⟩ := I2.kept (t' := t + 1) fun b o z => Heap.get?_push_of_some _ z
    have fresh := I2.fpOk (Nat.le_refl _) (I2.hok.fresh (Nat.le_refl _))
    have I4 : Inv (ncx CX0 P w K mg base N F f1 A outer s H E) [(h2.objs.size, PySem.W.kxs_mw "ValueError.__init__" a)] (startF N vs [none]) H ⟨h2.push (PySem.W.kxs_mw "ValueError.__init__" a), g, d, t + 1, os⟩ := I3.pins_of fun p hp => by
      rw [List.mem_singleton.mp hp]
      exact ⟨Heap.get?_push_size _ rfl, fresh.1, fresh.2.1, fresh.2.2.1, fun v z => by cases z⟩
    rw [hst]
    refine PySem.W.kxs_callWith (i := "ValueError.__init__") (x := a) rfl (Calls.evalArgs_plain ?_)
    refine Calls.spliced_cons (thn (pe.run _ _ _ _ _ I4 q) fun v s5 ⟨y, H5, I5, ry, e5, q5⟩ => Calls.spliced_nil ?_)
    have hu5 := (I5.pin (h2.objs.size, PySem.W.kxs_mw "ValueError.__init__" a) (List.mem_append_right _ List.mem_cons_self)).1
    refine ⟨hu5, bound_ok D.T I5 e5 hu5 (by show 1 ≤ sizeLine; decide) fun s6 I6 => ?_⟩
    have I7 : Inv (ncx CX0 P w K mg base N F f1 A outer s H E) [] (startF N vs [none]) H5 s6 := I6.pins_of fun p hp => by cases hp
    refine wpAt_of_wpAny (wpAny_mono ((pss_one ps).run [] _ _ _ _ I7 q5) (fun fl s8 hs => ?_) fun _ _ z => z)
    have fin : ∀ {σ' : L2.St} {H' : Hp} {v : V} {u : Value}, Inv (ncx CX0 P w K mg base N F f1 A outer s H E) [] σ' H' s8 → RelV v u → Q v H' → CE outer P w H s Q u s8 := fun J rv qq => ⟨_, _, J.os, J.bare, J.base, J.hok, rv, qq⟩
    cases fl with
    | ret u => exact hs.elim fun v z => z.elim fun σ' z => z.elim fun H' z => fin z.1 z.2.1 z.2.2
    | next => exact hs.elim fun σ' z => z.elim fun H' z => fin (v := V.non) (u := Value.none) z.1 rfl z.2
    | brk => exact hs.elim fun _ z => z.elim fun _ z => z.2.elim
    | cont => exact hs.elim fun _ z => z.elim fun _ z => z.2.elim
end
end Xs
/-! {x} in an f-string: None, a text, an int, a list of texts (some text of bounded length) -/
namespace Xs
open L2 PySem PySem.Spec PyProof.Rows
section
variable {s : Shared} {A : Around} {prog : Program} {w : World} {E : Value → Shared → Prop}
/-- a list's repr, be it under way or not -/
theorem list_text {a : Addr} {o : Obj} {items : Array Value} {n : Nat} {ts : List Str} {Q : Value → Shared → Prop} (ha : s.heap.get? a = some o) (hc : o.cls = .type "list") (hd : o.data = .seq items n) (hT : ReprAll prog w items.toList ts) (hsz : (listText ts).length ≤ sizeLine)
    (h : ∀ (m : Str) (h' : Heap) (u tk : Tok), (∀ b o, s.heap.get? b = some o → h'.get? b = some o) → m.length ≤ (listText ts).length + 5 → Q (.str m u) { s with heap := h', toks := tk }) : wpAny (model prog w) A (call (.builtin "list.__repr__") [.ref a]) Q E s := by
  have hty : s.TypeIs (.ref a) "list" := ⟨o, ha, hc⟩
  obtain ⟨its⟩ := items
  cases its with
  | nil => exact call_list_repr_empty hty ha hd (h _ _ _ _ (fun _ _ e => e) (Nat.le_trans (show ("[]" : Str).length ≤ 5 by decide) (Nat.le_add_left _ _)))
  | cons x r =>
    refine wpAny_call (codeAny_call_builtin PySem.F.slot_list_repr.plain PySem.F.entry_list_repr (PySem.F.slot_list_repr.check _ _ _ _ _ _ _ _ hty (PySem.F.args_list_repr_1 _) ?_))
    show wpAny _ _ (Builtin.listReprAt 0 ⟨[.ref a], []⟩) _ _ s
    unfold Builtin.listReprAt
    refine wpAny_bind (wpAny_of_eq (a := ((Value.ref a : Value), ([] : List Value))) (by rfl) ?_)
    refine wpAny_bind (m := Builtin.List.listItems (.ref a)) (wpAny_bind (m := seqItems? (.ref a)) (wpAny_seqItems ha hd (wpAny_pure ?_)))
    refine PySem.W.KFB.if_not rfl ?_
    refine wpAny_bind (wpAny_stack_any fun st => ?_)
    generalize (st.tail.any _) = run
    cases run with
    | true => exact PySem.W.KFB.if_so rfl (wpAny_bind (wpAny_rule (wpAny_bind (wpAny_mkStr (wpAny_pure (h _ _ _ _ (fun _ _ e => e) (Nat.le_trans (show ("[...]" : Str).length ≤ 5 by decide) (Nat.le_add_left _ _)))) (by decide)))))
    | false =>
      refine PySem.W.KFB.if_not rfl (wpAny_bind (m := newList []) (wpAny_newObj_type (wpAny_pure ⟨PySem.F.quiet_list_repr_loop _, ?_⟩)))
      refine codeAny_list_repr_start (P := s.heap.objs.size) (items := ⟨x :: r⟩) (Nat.ne_of_lt (Heap.lt_size ha)) (by simpa using hT.length_eq) (fun i y hy => ?_) (Heap.get?_push_of_some _ ha) hd (Heap.get?_push_size _ rfl) (fun h' u tk hk => h _ h' u tk (fun b o e => hk b o (Nat.ne_of_lt (Heap.lt_size e)) (Heap.get?_push_of_some _ e)) (Nat.le_add_right _ _)) (by omega)
      have get : ∀ {l : List Value} {ts : List Str}, ReprAll prog w l ts → ∀ (i : Nat) (y : Value), l[i]? = some y → ∃ t, ts[i]? = some t ∧ ReprIs prog w y t := fun {l ts} q => by
        induction q with
        | nil => intro i y e; cases e
        | cons r1 _ ih =>
          intro i y e
          cases i with
          | zero => cases e; exact ⟨_, rfl, r1⟩
          | succ i => exact ih i y e
      exact get hT i y (by simpa using hy)
end
section
variable {X : Cx}
theorem texts_len : ∀ l : List Str, (∀ y ∈ l, ∀ c ∈ y.cps.toList, c < 16 ^ 8) → ((l.map reprText).map (·.length)).sum + 2 * (l.map reprText).length ≤ fmtCost l
  | [], _ => Nat.zero_le _
  | y :: l, h => by
    have one := StrLaws.reprText_len y (h y List.mem_cons_self)
    have h2 := texts_len l fun z hz => h z (List.mem_cons_of_mem _ hz)
    rw [fmtCost_cons]
    simp only [List.map_cons, List.sum_cons, List.length_cons] at h2 ⊢
    omega
/-- {x} -/
def tFmtV (K : PySem.W.Frag) (te : TE) : TE := fun σ H Q => te σ H fun x H1 => (x = .non ∧ Q (.str "None") H1) ∨ (∃ y : Str, x = .str y ∧ y.length ≤ sizeLine ∧ Q (.str y) H1) ∨ (∃ i : Int, x = .int i ∧ i.natAbs.log2 < 1920 ∧ Q (.str (toString i)) H1) ∨
  ∃ (a : Addr) (l : List Str), x = .ref a ∧ SqL K H1 a (l.map V.str) ∧ (∀ y ∈ l, ∀ c ∈ y.cps.toList, c < 16 ^ 8) ∧ fmtCost l + 8 ≤ sizeLine ∧ ∀ m : Str, m.length ≤ fmtCost l + 8 → Q (.str m) H1
theorem pe_fmtV {e : Expr} {te : TE} {pos : Pos} {k : Nat} (hr : Room k X.A) (he : PE X e te) : PE X (.FormattedValue e (-1) none pos) (tFmtV X.K te) := by
  refine ⟨fun pins s σ H Q I h => wpAny_FormattedValue_plain (thn (he.run pins s σ H _ I h) fun v s1 ⟨x, H1, I1, r1, q⟩ => ?_)⟩
  rcases q with ⟨rfl, q⟩ | ⟨y, rfl, hz, q⟩ | ⟨i, rfl, hz, q⟩ | ⟨a, l, rfl, hl, hc, hz, q⟩
  · cases r1
    exact wpAny_formatField_none ⟨.str "None", H1, I1.tok _, ⟨_, rfl⟩, q⟩
  · obtain ⟨t, rfl⟩ := r1
    refine wpAny_formatField_str ⟨V.str y, H1, I1, ⟨t, rfl⟩, ?_⟩ ⟨V.str y, H1, I1.tok _, ⟨_, rfl⟩, ?_⟩ hz <;> exact q
  · obtain ⟨t, rfl⟩ := r1
    refine wpAny_formatField_int hz ⟨V.str (toString i), H1, I1.tok _, ⟨_, rfl⟩, ?_⟩
    exact q
  · cases r1
    obtain ⟨its, rv, pl, _⟩ := I1.list hl
    obtain ⟨o, ho, hcl, n, hd⟩ := pl.isList
    have hp := texts_len l hc
    have ht := listText_len_le (l.map reprText)
    have hu := hr.units
    refine wpAny_formatField_slot (fun _ _ => nofun) (by omega) ⟨o, ho, hcl⟩ PySem.F.slot_list_format PySem.F.slot_list_str PySem.F.slot_list_repr.toG (list_text (ts := l.map reprText) ho hcl hd (repr_all (by simpa using rv) fun y hy => ?_) (by omega) fun m h' u tk k hm => ⟨m, u, rfl, .str m, H1, I1.kept k, ⟨u, rfl⟩, q m (by omega)⟩)
    have one := StrLaws.reprText_len y (hc y hy)
    have h2 := fmtCost_mem hy
    omega
end
end Xs
/-! such an exception made with one thing, where nothing is handled: its context is None -/
namespace Xs
open L2 PySem PySem.Spec PyProof.Rows NdefX
/-- what may stand in the text -/
def Fmt (K : PySem.W.Frag) (H : Hp) (v : V) : Prop := v = .non ∨ (∃ y : Str, v = .str y ∧ y.length ≤ 1000) ∨ (∃ i : Int, v = .int i ∧ i.natAbs.log2 < 1920) ∨ ∃ (a : Addr) (l : List Str), v = .ref a ∧ SqL K H a (l.map V.str) ∧ (∀ y ∈ l, ∀ c ∈ y.cps.toList, c < 16 ^ 8) ∧ fmtCost l ≤ 100000
theorem Fmt.new {K : PySem.W.Frag} {H : Hp} {v : V} {p : Addr} {o : HO} (h : Fmt K H v) (np : H p = none) : Fmt K (upd H p o) v := by
  refine h.imp_right (Or.imp_right (Or.imp_right fun ⟨a, l, e, q, z⟩ => ⟨a, l, e, q.imp_left fun y => y.imp (fun y => ?_) fun ⟨o', y⟩ => ⟨o', ?_⟩, z⟩))
  · rw [upd_ne (ne_of_none y np)]; exact y
  · rw [upd_ne (ne_of_none y np)]; exact y
/-- __init__'s promise -/
def spIni (K : PySem.W.Frag) (C : Addr) (fld : Str) : Sp := fun vs H Q _ => ∃ (a : Addr) (v : V), vs = [.ref a, v] ∧ H a = some (exo a C none) ∧ Fmt K H v ∧ ∀ dx, H dx = none → dx ≠ a → Q .non (upd (upd H dx (exd dx [(fld, v)])) a (exo a C (some dx)))
section
variable {P : Program} {w : World} {K : PySem.W.Frag} {mg : Str → Option Value} {base : Heap} {C cc f1 : Addr} {F : NF} {x : Str}
theorem text_small {txt y : Str} (h1 : txt.length ≤ 1000) (h2 : y.length ≤ 1000000) : (Str.empty ++ txt ++ y).length ≤ sizeLine := by
  have e : (Str.empty ++ txt ++ y).length = 0 + txt.length + y.length := by
    rw [strLen_append, strLen_append]
    rfl
  have z : 2000000 ≤ sizeLine := by decide
  omega
theorem text_head {txt : Str} (h1 : txt.length ≤ 1000) : (Str.empty ++ txt).length ≤ sizeLine := by
  have e : (Str.empty ++ txt).length = 0 + txt.length := by
    rw [strLen_append]
    rfl
  have z : 2000000 ≤ sizeLine := by decide
  omega
/-- __init__(self, x): super().__init__(f"txt{x}"); self.fld = x -/
theorem ok_ini {oc : Value} {od : Option Addr} {osl : Array (Option Value)} {doc pm ctv : Value} {p0 p1 p2 p3 p4 q1 q2 q3 q4 q5 q6 q7 q8 : Pos} {j : Nat} {ar : Arg} {txt fld : Str} (D : IniC P K mg C cc F) (lk : K.lookup f1 = some ⟨oc, od, .func (F.fd doc pm ctv), osl⟩)
    (S : NScope ["self", x, "__class__"] ["self", x] ["__class__"] F.scope) (hks : F.scope.names.lookup ("super" : Str) = some .globalImplicit)
    (hbd : F.body = [.Expr (.Call (.Attribute (.Call (.Name "super" p0) [] [] p1) "__init__" p2) [.JoinedStr [.Constant (.str txt) j q1, .FormattedValue (.Name x q2) (-1) none q3] q4] [] p3) p4, .Assign [.Attribute (.Name "self" q5) fld q6] (.Name x q7) q8])
    (har : (F.params.posonlyargs ++ F.params.args).head? = some ar) (ha : ar.arg = "self") (hfld : PySem.W.findIn K (.ref C) fld = some none) (htx : txt.length ≤ 1000) (hdx : (x == ("__debug__" : Str)) = false) (hdc : (x == ("__classdict__" : Str)) = false)
    (hin : ∀ L : Addr, interactive (envF F f1 L) = false := by intro _; rfl)
    (hsw : ∀ L : Addr, swapsWith (.Call (.Attribute (.Call (.Name "super" p0) [] [] p1) "__init__" p2) [.JoinedStr [.Constant (.str txt) j q1, .FormattedValue (.Name x q2) (-1) none q3] q4] [] p3) none p4.line (envF F f1 L) = pure false := by intro _; rfl)
    (hs2 : ∀ L : Addr, swapsWith (.Name x q7) (some (.Attribute (.Name "self" q5) fld q6)) q8.line (envF F f1 L) = pure false := by intro _; rfl)
    (hev : ∀ L : Addr, ∃ pl : Sem Bool, eval (.Call (.Attribute (.Call (.Name "super" p0) [] [] p1) "__init__" p2) [.JoinedStr [.Constant (.str txt) j q1, .FormattedValue (.Name x q2) (-1) none q3] q4] [] p3) (envF F f1 L) = (do
      let ov ← attributeBase (.Call (.Name "super" p0) [] [] p1) "__init__" (envF F f1 L) (eval (.Call (.Name "super" p0) [] [] p1) (envF F f1 L))
      standAt p2.atName
      let (fn, first) ← holding [ov] (getMethod ov "__init__" pl)
      callWith p3 fn first (backTo p3 (starEach [.JoinedStr [.Constant (.str txt) j q1, .FormattedValue (.Name x q2) (-1) none q3] q4] (envF F f1 L))) []) := by intro _; exact ⟨_, rfl⟩) :
    FnOk P w K mg base CX0 1 f1 (F.fd doc pm ctv) ["self", x] (spIni K C fld) := by
  have l1 : F.scope.names.lookup ("self" : Str) = some .local := S.par _ List.mem_cons_self
  have l2 : F.scope.names.lookup x = some .local := S.par _ (List.mem_cons_of_mem _ List.mem_cons_self)
  refine ini_ok D lk S hks hbd har ha (fun vs H Q E ⟨a, v, e, _⟩ => by rw [e]; rfl) (fun A outer s H vs Q E hr hsp => ?_) (fun _ => rfl) hin hsw hev
  obtain ⟨a, v, rfl, ea, fm, q⟩ := hsp
  refine ⟨a, _, _, rfl, ea, pe_joined (PJ.cons pe_str (PJ.cons (pe_fmtV hr (pe_var (i := 1) rfl (.inl l2) hdx hdc)) PJ.nil)), ps_ost (pe_var (i := 0) rfl (.inl l1)) (pe_var (i := 1) rfl (.inl l2) hdx hdc) (hs2 _), ?_⟩
  have rest : ∀ m : Str, m.length ≤ 1000000 → ∃ y : Str, V.str m = .str y ∧ (Str.empty ++ txt ++ y).length ≤ sizeLine ∧ H a = some (exo a C none) ∧ tOst K fld (tVar 0) (tVar 1) { nx := fun _ H' => Q .non H', rt := Q } (startF ["self", x, "__class__"] [.ref a, v] [none]) H := fun m hm =>
    ⟨m, rfl, text_small htx hm, ea, v, rfl, .ref a, rfl, a, C, rfl, D.T, hfld, .inl ⟨ea, fun dx hn hne => q dx hn hne⟩⟩
  refine ⟨txt, rfl, text_head htx, v, rfl, ?_⟩
  rcases fm with e | ⟨y, e, hy⟩ | ⟨i, e, hi⟩ | ⟨b, l, e, hb, hc, hl⟩
  · exact .inl ⟨e, rest _ (by decide)⟩
  · exact .inr (.inl ⟨y, e, Nat.le_trans hy (by decide), rest _ (Nat.le_trans hy (by decide))⟩)
  · exact .inr (.inr (.inl ⟨i, e, hi, rest _ (Nat.le_trans (PyProof.Rows.int_text_len_1921 hi) (by decide))⟩))
  · exact .inr (.inr (.inr ⟨b, l, e, hb, hc, Nat.le_trans (Nat.add_le_add_right hl 8) (by decide), fun m hm => rest m (by omega)⟩))
end
section
variable {X : Cx} {C f1 : Addr} {fd : FuncData} {x fld a1 : Str} {e : Expr} {te : TE} {p pos : Pos}
/-- C(e) -/
theorem mkN (T : OexC X.K C) (iC : PySem.W.findIn X.K (.ref C) "__init__" = some (some (.ref f1))) (tI : PySem.W.typeIn X.K (.ref f1) = some (.type "function")) (G : FnOk X.prog X.w X.K X.mg X.base CX0 1 f1 fd ["self", a1] (spIni X.K C fld)) (bG : Binds X.K fd ["self", a1] [])
    (hr : Room 2 X.A) (hg : Gl X x) (hm : X.mg x = some (.ref C)) (he : PE X e te) (hdb : (x == ("__debug__" : Str)) = false := by decide) (hst : starEach [e] X.env = (false, eval e X.env) :: starEach [] X.env := by rfl) :
    L2N.PMk X (.Call (.Name x p) [e] [] pos) (fun σ H Q => te σ H fun v H1 => Fmt X.K H1 v ∧ ∀ d, H1 d = none → Q (.ref C) (some d) (upd H1 d (.xd [(fld, v)]))) := fun pins s σ H Q I h => by
  have ⟨_, _, _, _, bm, _, _, _, _, _, _, _, _, _, _, hC, hbm⟩ := T.cls
  refine wpAny_Call_Name_kw (ld_glob I hg hm (PySem.W.callWith_K (h₀ := X.base) I.ok.mod.kin T.kC ?_ hst (by rfl)) hdb)
  rw [hst]
  refine Calls.spliced_cons (thn (he.run pins s σ H _ I h) fun u s1 ⟨v, H1, I1, rv, fm, q1⟩ => Calls.spliced_nil ⟨I1.kIn, ?_⟩)
  rcases s1 with ⟨hp, g, dr, tk, os⟩
  have young : hp.objs.size ≤ hp.objs.size + 1 := Nat.le_succ _
  generalize hnew : (hp.push (PySem.W.kdv_tup [u])).push (PySem.HandSPX.excO C hp.objs.size) = hn
  have keep : ∀ b o, hp.get? b = some o → hn.get? b = some o := fun b o z => hnew ▸ Heap.get?_push_of_some _ (Heap.get?_push_of_some _ z)
  have there : hn.get? (hp.objs.size + 1) = some (PySem.HandSPX.excO C hp.objs.size) := by rw [← hnew]; heap_get
  have free := I1.hok.fresh young
  have I2 : Inv X pins σ (upd H1 (hp.objs.size + 1) (exo (hp.objs.size + 1) C none)) ⟨hn, g, dr, tk, os⟩ := I1.laid (t' := tk) keep young (exo_ok there)
  have vals : Vals [V.ref (hp.objs.size + 1), v] [Value.ref (hp.objs.size + 1), u] := .cons rfl (.cons rv .nil)
  have bind := bG ⟨hn, g, dr, tk, os⟩ [Value.ref (hp.objs.size + 1), u] I2.kIn rfl
  have run := G.run _ X.stack ⟨hn, g, dr, tk, os⟩ _ ⟨[Value.ref (hp.objs.size + 1), u], []⟩ [Value.ref (hp.objs.size + 1), u] _ (fun r H2 => r = .non ∧ ∃ d, H1 d = none ∧ d ≠ hp.objs.size + 1 ∧ H2 = upd (upd (upd H1 (hp.objs.size + 1) (exo (hp.objs.size + 1) C none)) d (exd d [(fld, v)])) (hp.objs.size + 1) (exo (hp.objs.size + 1) C (some d))) (fun _ _ _ => False)
    (hr.make C [u] []) (I2.env0.make C [u] []) bind vals ⟨_, v, rfl, upd_same, fm.new free, fun d nd ne => ⟨rfl, d, by rw [upd_ne ne] at nd; exact nd, ne, rfl⟩⟩
  change wpAny _ _ (call (.ref C) [u]) _ _ _
  refine wpAny_call (PySem.HandSPX.call_own PySem.F.excBase_ValueError (fun Y => PySem.HandSPX.refsVE_contains Y bm hbm) (I1.kIn _ _ hC) (PySem.W.looks_findIn I1.kIn iC) (fun self => PySem.W.bind_fn I1.kIn self tI) (by show 1 ≤ sizeLine; decide) ?_)
  rw [hnew]
  refine codeAny_mono run fun r s' end_ => ?_
  cases r with
  | error er => exact end_.elim
  | ok fl =>
    cases fl with
    | ret u2 =>
      obtain ⟨v2, H2, os2, bare2, un2, hok2, rv2, ev, d, nd, ne, eH⟩ := end_
      subst ev
      rcases s' with ⟨h2, g2, d2, t2, os'⟩
      have ea : H2 (hp.objs.size + 1) = some (exo (hp.objs.size + 1) C (some d)) := by rw [eH, upd_same]
      have ed : H2 d = some (exd d [(fld, v)]) := by rw [eH, upd_ne ne, upd_same]
      obtain ⟨t0, G2, J, kG, ge, hoe, na⟩ := mk_end0 (d2 := d2) (t2 := t2) I1 young keep un2 hok2 os2 bare2 ea ed nd
      have eq : upd (del H2 (hp.objs.size + 1)) d (.xd [(fld, v)]) = upd H1 d (.xd [(fld, v)]) := funext fun b => by
        by_cases hb : b = d
        · rw [hb, upd_same, upd_same]
        · rw [upd_ne hb, upd_ne hb]
          by_cases hc : b = hp.objs.size + 1
          · rw [hc, del_same, free]
          · rw [del_ne hc, eH, upd_ne hc, upd_ne hb, upd_ne hc]
      rw [eq] at J na
      exact ⟨rv2, _, _, _, ⟨G2, g2, d2, t2, os'⟩, _, .ref C, some d, rfl, J, kG, ge, hoe, ⟨rfl, rfl, fun vs z => by cases z; rfl⟩, rfl, rfl, na, rfl, bare2, raises_own T.exC T.tyC, q1 d nd⟩
    | next => exact end_.elim
    | brk => exact end_.elim
    | cont => exact end_.elim
end
end Xs
/-! try with several clauses `except x as n`, all of one name n -/
namespace Xs
open L2 PySem PySem.Spec PyProof.Rows
/-- what the clauses wish, one behind the other -/
def wAll (K : PySem.W.Frag) (i : Nat) (Wout : WX) (D : Ends) : List (Value × (Addr → Value → Option Addr → TS)) → WX
  | [] => Wout
  | p :: r => wAs K p.1 i p.2 (wAll K i Wout D r) D
/-- the clauses by their suites -/
inductive Clauses (X : Cx) (n : Str) : List ExceptHandler → List (Value × (Addr → Value → Option Addr → TS)) → Prop
  | nil : Clauses X n [] []
  | cons {x : Str} {c : Value} {ts : Addr → Value → Option Addr → TS} {st : Stmt} {more : List Stmt} {np pos : Pos} {hs : List ExceptHandler} {l : List (Value × (Addr → Value → Option Addr → TS))} (hc : Names X x c)
      (suite : ∀ (a : Addr) (oe : Obj) (cls : Value) (d : Option Addr) (pn : List (Addr × Obj)), L2N.Zn cls d oe → (∃ vs, oe.data = .fields vs) → PSs (X.suite a ((a, oe) :: pn)) (st :: more) (ts a cls d)) (rest : Clauses X n hs l) :
      Clauses X n (.ExceptHandler (some (.Name x np)) (some n) (st :: more) pos :: hs) ((c, ts) :: l)
section
variable {X : Cx} {pins : List (Addr × Obj)} {σ : L2.St} {H : Hp} {a : Addr} {cls : Value} {d : Option Addr} {s : Shared}
/-- the exception at a lies on the ground, its frame noted -/
structure Down (X : Cx) (pins : List (Addr × Obj)) (σ : L2.St) (H : Hp) (a : Addr) (cls : Value) (d : Option Addr) (B : Heap) (sI s : Shared) : Prop where
  inv : Inv X pins σ H sI
  ground : ∀ b o, sI.heap.get? b = some o → b ∉ frs X.stack → B.get? b = some o
  up : sI.heap.UpToSlots s.heap
  fly : HandSPX.FlyingZ B (X.env :: X.outer) a (L2N.Zn cls d) s.heap
  free : H a = none
  os : s.os = sI.os
  bare : AllBare s.gens
variable {B : Heap} {sI : Shared}
theorem Down.here (q : Down X pins σ H a cls d B sI s) : Inv X pins σ H s := q.inv.landed q.ground q.fly.1 q.up q.os q.bare
/-- .. as the suite sees it -/
theorem Down.seen (q : Down X pins σ H a cls d B sI s) (hf : X.env.frame = some X.env.locals) : ∃ oe vs, s.heap.get? a = some oe ∧ L2N.Zn cls d oe ∧ oe.data = .fields vs ∧ Inv (X.suite a ((a, oe) :: (X.pn ++ pins))) [] σ H s := by
  obtain ⟨oe, vs, he, hz, hd⟩ := q.fly.there
  have nfr : a ∉ frs (X.env :: X.outer) := fun hm => by
    obtain ⟨_, o, e, no⟩ := q.fly.2.2.1.mem hm
    rw [he] at e
    cases e
    exact no _ hd
  refine ⟨oe, vs, he, hz, hd, q.here.suite he hd q.free (fun z => nfr ?_) fun hm => nfr ?_⟩
  · exact List.mem_filterMap.mpr ⟨X.env, List.mem_cons_self, by rw [hf, z]⟩
  · obtain ⟨e, he, z⟩ := List.mem_filterMap.mp hm
    exact List.mem_filterMap.mpr ⟨e, List.mem_cons_of_mem _ he, z⟩
/-- no clause has taken it: it goes on -/
theorem Down.on {Wout : WX} {D : Ends} (q : Down X pins σ H a cls d B sI s) (hs : X.stack = X.env :: X.outer) (hf : X.env.frame = some X.env.locals) (tk : L2N.Takes X Wout) (w : Wout cls d σ H) : wpAny (model X.prog X.w) X.A (handleBy (.ref a) X.env []) (SP X pins D) X.xe s := by
  obtain ⟨_, _, _, oe, vs, T, _, _, he, _, hd, h1, _⟩ := id q.fly
  have go : wpAny (model X.prog X.w) X.A (setFlight (.ref a) X.env.frame) (fun _ s4 => wpAny (model X.prog X.w) X.A (throw (.ref a) : Sem Flow) (SP X pins D) X.xe s4) X.xe s := by
    rw [hf]
    exact HandSPX.setFlight_upZ q.fly fun h4 held up4 => wpAny_throw (tk _ _ ⟨a, B, sI, pins, σ, H, cls, d, rfl, q.inv, q.ground, q.up.trans up4, .inr (.inr (hs ▸ held)), q.free, q.os, q.bare, w⟩)
  refine wpAny_handleBy_nil ?_
  unfold PySem.passOn
  refine wpAny_bind (wpAny_field he hd h1 (PySem.W.KFB.if_not (by simp) ?_))
  first
    | exact wpAny_bind go
    | exact wpAny_bind (wpAny_pure (wpAny_bind go))
variable {n : Str} {i : Nat}
/-- the clauses in their order -/
theorem Down.all {Wout : WX} {D : Ends} (hs : X.stack = X.env :: X.outer) (hf : X.env.frame = some X.env.locals) (hN : X.N.Nodup) (hi : X.N[i]? = some n) (hn : X.env.kindOf n = some .local) (tk : L2N.Takes X Wout) {hds : List ExceptHandler} {l : List (Value × (Addr → Value → Option Addr → TS))} (cs : Clauses X n hds l) :
    Down X pins σ H a cls d B sI s → wAll X.K i Wout D l cls d σ H → wpAny (model X.prog X.w) X.A (handleBy (.ref a) X.env hds) (SP X pins D) X.xe s := by
  induction cs with
  | nil => exact fun q w => q.on hs hf tk w
  | @cons x c ts st more np pos hds l hc suite rest ih =>
    intro q ⟨b, hb, yes, no⟩
    obtain ⟨oe, vs, he, hz, hd, S⟩ := q.seen hf
    have typ : PySem.W.Looks (model X.prog X.w) s.heap (typeOf (.ref a)) cls := fun A Q E s k z => wpAny_typeOf_ref (k _ _ he) (by rw [hz.1]; exact z)
    have named : ∀ {Q : Value → Shared → Prop} {E : Value → Shared → Prop}, Q c s → wpAny (model X.prog X.w) (X.A.mark (some (.ref a))) (eval (.Name x np) X.env) Q E s := fun {Q E} z => by
      obtain ⟨hg, hdb, hm | ⟨hm, hv, hnn⟩⟩ := hc
      · exact ld_glob (X := X.suite a ((a, oe) :: (X.pn ++ pins))) S hg hm z hdb
      · exact ld_blt (X := X.suite a ((a, oe) :: (X.pn ++ pins))) S hg hm hv z hnn hdb
    refine wpAny_handleBy_cons (codeAny_handlers_test (named ((PySem.W.exm_one (M := model X.prog X.w) q.here.kIn typ hb).here ?_))) (fun z => by cases z)
    cases b with
    | false => exact ih q (no rfl)
    | true =>
      refine codeAny_handlers_suite_as (HandSPX.lands_againZ q.fly fun h4 fly4 up4 => ?_)
      have q4 : Down X pins σ H a cls d B sI { s with heap := h4 } := ⟨q.inv, q.ground, q.up.trans up4, fly4, q.free, q.os, q.bare⟩
      obtain ⟨oe4, vs4, he4, hz4, hd4, S4⟩ := q4.seen hf
      refine store_ok (X := X.suite a ((a, oe4) :: (X.pn ++ pins))) (v := .ref a) S4 hN hi (.inl hn) rfl (fun s5 S5 => ?_) (.inr hn)
      refine wpAny_mono ((suite a oe4 cls d (X.pn ++ pins) hz4 ⟨_, hd4⟩).run [] s5 _ H _ S5 (yes rfl a q.free)) (fun f s6 end_ => ?_) fun _ _ z => z.elim
      have gone : ∀ {σ6 : L2.St} {H6 : Hp} {Q : Shared → Prop}, Inv (X.suite a ((a, oe4) :: (X.pn ++ pins))) [] σ6 H6 s6 → (∀ s7, Inv X pins (σ6.set i none) H6 s7 → Q s7) → wpAny (model X.prog X.w) X.A (do bindName X.env n .none; unbindBehindTheSuite X.env n pos) (fun _ s7 => Q s7) X.xe s6 := fun S6 z =>
        gone_ok (S6.unsuite q.inv.ok) hN hi hn z
      cases f with
      | ret u => exact end_.elim fun v z => z.elim fun σ6 z => z.elim fun H6 z => gone z.1 fun s7 J => ⟨v, _, H6, J, z.2.1, z.2.2⟩
      | next => exact end_.elim fun σ6 z => z.elim fun H6 z => gone z.1 fun s7 J => ⟨_, H6, J, z.2⟩
      | brk => exact end_.elim fun σ6 z => z.elim fun H6 z => gone z.1 fun s7 J => ⟨_, H6, J, z.2⟩
      | cont => exact end_.elim fun σ6 z => z.elim fun H6 z => gone z.1 fun s7 J => ⟨_, H6, J, z.2⟩
end
/-- the statement -/
theorem ps_tryAll {X : Cx} {n : Str} {i : Nat} {body : List Stmt} {h0 : ExceptHandler} {hds : List ExceptHandler} {l : List (Value × (Addr → Value → Option Addr → TS))} {pos : Pos} {tb : WX → TS} {Wout : WX} (hs : X.stack = X.env :: X.outer) (hf : X.env.frame = some X.env.locals) (hN : X.N.Nodup)
    (hi : X.N[i]? = some n) (hn : X.env.kindOf n = some .local) (tk : L2N.Takes X Wout) (hb : ∀ (W : WX) (pn : List (Addr × Obj)) (xe : Value → Shared → Prop), L2N.Takes (X.tr pn xe) W → PassesOwn (model X.prog X.w) X.A X.env xe → PSs (X.tr pn xe) body (tb W))
    (cs : Clauses X n (h0 :: hds) l) : PS X (.Try body (h0 :: hds) [] [] pos) (fun D σ H => tb (wAll X.K i Wout D l) D σ H) := ⟨fun pins s σ H D I h => by
  have back : ∀ f s', SP (X.tr (X.pn ++ pins) (fun e s₁ => wpAny (model X.prog X.w) X.A (noteFrame e X.env) (fun _ s₂ => wpAny (model X.prog X.w) X.A (setFlight e none) (fun _ s₃ => wpAny (model X.prog X.w) X.A (handleBy e X.env (h0 :: hds)) (SP X pins D) X.xe s₃) X.xe s₂) X.xe s₁)) [] D f s' → SP X pins D f s' := fun f s' z => by
    cases f with
    | ret u => exact z.elim fun v z => z.elim fun σ' z => z.elim fun H' z => ⟨v, σ', H', z.1.ofTry I.ok, z.2⟩
    | next => exact z.elim fun σ' z => z.elim fun H' z => ⟨σ', H', z.1.ofTry I.ok, z.2⟩
    | brk => exact z.elim fun σ' z => z.elim fun H' z => ⟨σ', H', z.1.ofTry I.ok, z.2⟩
    | cont => exact z.elim fun σ' z => z.elim fun H' z => ⟨σ', H', z.1.ofTry I.ok, z.2⟩
  refine wpAny_Try_except (wpAny_mono ((hb (wAll X.K i Wout D l) (X.pn ++ pins) _ (fun u s' caught => ?_) PassesOwn.looking).run [] s σ H D (I.toTry _) h) (fun f s1 z => ?_) fun _ _ z => z)
  · obtain ⟨a, B, sI, _, σ', H', cls, d, rfl, J', ground, up, sky, na, os, bare, w⟩ := caught
    have hfr := I.ok.frames
    rw [hs] at hfr
    exact L2N.Sky.land L2N.Zn.steady hfr hf (hs ▸ sky) fun h3 fly up3 => Down.all hs hf hN hi hn tk cs ⟨J'.ofTry I.ok, ground, up.trans up3, fly, na, os, bare⟩ w
  · cases f with
    | next => exact wpAny_execs_nil (back _ _ z)
    | ret u => exact back _ _ z
    | brk => exact back _ _ z
    | cont => exact back _ _ z⟩
end Xs
/-! g(lambda: body), g calls what it got; whatever the exceptions' form (CXl) -/
namespace Xs
open L2 PySem PySem.Spec PyProof.Rows LamX
/-- the name of the lambdas of X's def -/
abbrev lamQ (X : Cx) : Str := X.env.qual ++ "<lambda>"
/-- a lambda that takes nothing -/
def NoArgs (params : Arguments) (body : Expr) (scope : Scope) : Prop := ∀ (q : Str) (clo : List (Str × Addr)) (m code tup : Value), bindArgs (PySem.W.kla_fn "<lambda>" q params body scope clo m code tup) ⟨[], []⟩ = pure []
/-- at s, with H tracked, X's def has made a lambda: it stands at f, its code object at c' -/
structure Made (X : Cx) (params : Arguments) (body : Expr) (scope : Scope) (s : Shared) (H : Hp) (f c' : Addr) : Prop where
  obj : ∃ m tup : Value, s.heap.get? f = some (PySem.W.kla_obj "<lambda>" (lamQ X) params body scope (cloFrom X.env.cells scope.names []) m c' tup)
  hid : H f = none
  off : f ∉ frs X.stack
  code : H c' = some (CodeO c' (lamQ X))
section
variable {X : Cx} {params : Arguments} {body : Expr} {scope : Scope} {f c' : Addr}
/-- the body's context: the library's, but with the wish that belongs to CXl -/
def bodyC (CXl : CXT) (X : Cx) (A : Around) (outer : List Env) (s : Shared) (H : Hp) (E : XK) (scope : Scope) (f c' : Addr) : Cx :=
  (lamCx X A outer s H E scope f c').wish fun e r =>
    let env := lamEnv X scope s.heap.objs.size f c'
    wpAny (model X.prog X.w) (A.deeper env) (leaving env e) (fun _ => CXl outer H s E e) (fun e' => CXl outer H s E e') r
/-- what the body promises, at any place where it runs with room k -/
def BodyOk (CXl : CXT) (X : Cx) (k : Nat) (body : Expr) (scope : Scope) (f c' : Addr) (E : XK) (tb : TE) : Prop :=
  ∀ A outer s H, Room k (A.deeper (lamEnv X scope s.heap.objs.size f c')) → PE (bodyC CXl X A outer s H E scope f c') body tb
/-- the lambda called later, at s1, from the frames of A1: its body's promise, with the slots as they were when it was made -/
theorem Made.runs {CXl : CXT} {pins : List (Addr × Obj)} {σ : L2.St} {H HZ : Hp} {s s1 : Shared} {A1 : Around} {outer : List Env} {k : Nat} {E : XK} {tb : TE} {Q : VK} (M : Made X params body scope s H f c') (I : Inv X pins σ H s) (L : LamS X.env.scope scope) (nb : NoArgs params body scope)
    (e0 : Env0 X.prog X.w X.K X.mg X.base A1 outer s1 HZ) (un : Un (frs X.stack) [] H HZ s.heap s1.heap) (hr : Room (k + 1) A1) (hc : HZ c' = some (CodeO c' (lamQ X))) (bd : BodyOk CXl X k body scope f c' E tb) (ht : tb σ HZ Q) :
    codeAny (model X.prog X.w) A1 (.call (.ref f) ⟨[], []⟩) (CR CXl outer X.prog X.w HZ s1 Q E) s1 := by
  obtain ⟨m, tup, ob⟩ := M.obj
  have there := un.keep f _ ob M.hid M.off fun z => nomatch z
  obtain ⟨⟨oc, vs, t, g1, g2, g3⟩, _⟩ := e0.hok c' _ hc
  have free := (e0.mod.nolimit.keeps fun b o z => (e0.bs b o z).1)
  refine PySem.W.kla_callFunE hr.depth there rfl L.co L.gen rfl ⟨c', oc, vs, t, rfl, g1, g2, g3⟩ ?_
  rw [nb]
  refine wpAny_pure (wpAny_newFunctionEnv (fun y hy => (L.own y hy).2) (fun y hy => nomatch hy) (fun h1 hns hsb => ⟨free.fresh _ hsb, PySem.W.kla_codeExpr ?_⟩) L.kind)
  have begin_ := lam_start2 (E := E) (f := f) (c' := c') (tk := s1.toks + ([] : List (Str × Value)).length) I L e0 hr.hd un hns fun b o z => hsb.extBut b o (Nat.ne_of_lt (Heap.lt_size z)) (Heap.get?_push_of_some _ z)
  exact wpAny_mono ((bd _ _ s1 HZ (hr.deeper _)).run [] _ _ HZ Q (begin_.wish _) ht) (fun v r ⟨u, H', J, z⟩ => ⟨u, H', J.os, J.bare, J.base, J.hok, z⟩) fun _ _ z => z
/-- the context of the def that got it, entered at s from X's frames -/
abbrev gotC (X : Cx) (N : List Str) (x : Str) (sg : Scope) (g : Addr) (cd : Value) (s : Shared) (H : Hp) : Cx := cxOf CX0 X.prog X.w X.K X.mg X.base N x sg g cd X.A X.stack s H E0
/-- a(), in that def, a its parameter -/
theorem Made.pe {CXl : CXT} {pins : List (Addr × Obj)} {σ : L2.St} {H : Hp} {s : Shared} {N : List Str} {x a : Str} {sg : Scope} {g : Addr} {cd : Value} {k : Nat} {pn : List (Addr × Obj)} {xe : Value → Shared → Prop} {E : XK} {tb : TE} {p1 p2 : Pos} (M : Made X params body scope s H f c') (I : Inv X pins σ H s) (L : LamS X.env.scope scope) (nb : NoArgs params body scope)
    (pass : Passes CXl ((gotC X N x sg g cd s H).tr pn xe) E) (hr : Room (k + 1) (X.A.deeper (envOfC x sg s.heap.objs.size g cd))) (bd : BodyOk CXl X k body scope f c' E tb) (hN : N[0]? = some a) (hv : Vis sg a) (na : (a == ("__debug__" : Str)) = false ∧ (a == ("__classdict__" : Str)) = false) :
    PE ((gotC X N x sg g cd s H).tr pn xe) (.Call (.Name a p1) [] [] p2) (fun σZ HZ Q => σZ[0]? = some (some (.ref f)) ∧ HZ c' = some (CodeO c' (lamQ X)) ∧ tb σ HZ Q) := by
  refine ⟨fun pinsZ sZ σZ HZ Q IZ ⟨hs, hc, ht⟩ => wpAny_Call_Name_kw (thn ((pe_var (pos := p1) hN hv na.1 na.2).run pinsZ sZ σZ HZ (fun v H1 => v = .ref f ∧ H1 = HZ) IZ ⟨_, hs, rfl, rfl⟩) ?_)⟩
  rintro u s1 ⟨v, H1, I1, r1, rfl, rfl⟩
  cases r1
  obtain ⟨m, tup, ob⟩ := M.obj
  have un : Un (frs X.stack) [] H H1 s.heap s1.heap := I1.base
  refine PySem.W.callWith_F0 ⟨_, _, _, _, un.keep f _ ob M.hid M.off fun z => nomatch z⟩ (wpAny_call (codeAny_mono (M.runs I L nb I1.env0 un hr hc bd ht) fun r s' z => ?_))
  match r, z with
  | .error e, z => exact pass pinsZ σZ H1 s1 e s' I1 z
  | .ok (.ret _), z => exact I1.after z
  | .ok .next, z => exact z.elim
  | .ok .brk, z => exact z.elim
  | .ok .cont, z => exact z.elim
end
/-- what the def makes of a thunk's reading tl -/
def Gives (CXl : CXT) (X : Cx) (N : List Str) (x : Str) (sg : Scope) (g : Addr) (cd : Value) (bg : List Stmt) (a q : Str) (TT : (XK → Hp → VK → Prop) → Hp → VK → Prop) : Prop := ∀ (f c' : Addr) (s : Shared) (H : Hp) (Q : VK) (tl : XK → Hp → VK → Prop),
  (∀ (pn : List (Addr × Obj)) (xe : Value → Shared → Prop) (E : XK) (p1 p2 : Pos), Passes CXl ((gotC X N x sg g cd s H).tr pn xe) E → PE ((gotC X N x sg g cd s H).tr pn xe) (.Call (.Name a p1) [] [] p2) fun σZ HZ Q => σZ[0]? = some (some (.ref f)) ∧ HZ c' = some (CodeO c' q) ∧ tl E HZ Q) →
  H c' = some (CodeO c' q) → TT tl H Q → ∃ t, PSs (gotC X N x sg g cd s H).nox bg t ∧ t { nx := fun _ H' => Q .non H', rt := Q } (L2.start N [.ref f]) H
/-- all but what stands at P stays -/
def But (P : Addr) (H H' : Hp) : Prop := ∀ b o, b ≠ P → H b = some o → H' b = some o
section
variable {X : Cx} {pins : List (Addr × Obj)} {σ : L2.St} {s : Shared} {H : Hp}
/-- a lambda made: only its maker's table changes -/
theorem thunk_made {c P : Addr} {params : Arguments} {body : Expr} {scope : Scope} {pos : Pos} {E : Value → Shared → Prop} {Q : Value → Shared → Prop} (I : Inv X pins σ H s) (TB : TabB X.base X.mg c P) (mine : X.env.code = .ref c) (hT : TabS H P (lamQ X)) (plain : defaultsOf params X.env = ([], [])) (L : LamS X.env.scope scope)
    (h : ∀ (f c' : Addr) (H1 : Hp) (s' : Shared), Inv X pins σ H1 s' → But P H H1 → TabS H1 P (lamQ X) → Made X params body scope s' H1 f c' → Q (.ref f) s') : wpAny (model X.prog X.w) X.A (eval (.Lambda params body scope pos) X.env) Q E s := by
  obtain ⟨ps, hP, ht, known⟩ := hT
  have tab0 := (show s.heap.get? P = some { cls := .none, data := .fields ps } from I.hok P _ hP)
  have young : ∀ f, s.heap.objs.size ≤ f → f ∉ frs X.stack := fun f hf z => by
    rcases List.mem_cons.mp (I.stkSub _ z) with y | y
    · rw [y] at hf
      exact Nat.not_le_of_lt I.lt hf
    · exact I.nofs hf y
  have globs := I.mod.glob.keeps I.bk
  refine PySem.W.kla_eval plain (match among : codeAmong pos ps.toList with | some cv => ?old | none => ?new)
  case old =>
    obtain ⟨c', e, code⟩ := known pos cv among
    subst e
    refine PySem.W.kla_makeFunctionHit (mg := X.mg) (c := c) (closure_ok (L.has I.ok)) I.ok.glob globs mine (TB.code.keeps I.bk) tab0 ht among (TB.bm.keeps I.bk) fun tup h' tk k hsz => ?_
    exact h _ c' H _ (I.kept fun b o z => Heap.get?_push_of_some _ (k b o z)) (fun _ _ _ z => z) ⟨ps, hP, ht, known⟩ ⟨⟨_, tup, Heap.get?_push_size _ rfl⟩, I.hok.fresh hsz, young _ hsz, code⟩
  case new =>
    refine PySem.W.kla_makeFunction (mg := X.mg) (c := c) (closure_ok (L.has I.ok)) I.ok.glob globs mine (TB.code.keeps I.bk) tab0 ht among TB.gP (TB.bm.keeps I.bk) fun c' tup h' tk k old lt rec_ tab => ?_
    obtain ⟨c2, oc, vs, t, e, g1, g2, g3⟩ := rec_
    cases e
    have fresh := I.hok.fresh old
    have big : s.heap.objs.size ≤ h'.objs.size := Nat.le_trans old (Nat.le_of_lt lt)
    let more : Array Value := #[rawInt pos.line, rawInt pos.col, .ref c']
    have J := inv_table (t' := tk) (more := more) (h' := h'.push (PySem.W.kla_obj "<lambda>" (lamQ X) params body scope (cloFrom X.env.cells scope.names []) ((X.mg "__name__").getD .none) c' tup)) I hP (fun b o n z => Heap.get?_push_of_some _ (k b o n z)) (Heap.get?_push_of_some _ tab) old ⟨oc, vs, t, Heap.get?_push_of_some _ g1, g2, g3⟩
    have nPc : P ≠ c' := ne_of_none hP fresh
    have stay : But P H (upd (upd H P (.tbl (ps ++ more))) c' (CodeO c' (lamQ X))) := fun b o n z => by rw [upd_ne (ne_of_none z fresh), upd_ne n]; exact z
    have row : (ps ++ more).toList = ps.toList ++ more.toList := Array.toList_append
    refine h _ c' _ _ J stay ⟨_, by rw [upd_ne nPc, upd_same], ?_, fun p' cv z => ?_⟩ ⟨⟨_, tup, Heap.get?_push_size _ rfl⟩, ?_, young _ big, upd_same⟩
    · rw [row]
      exact PySem.TriplesOk_snoc _ _ _ _ ht
    · rw [row] at z
      rcases among_app _ ht z with y | y
      · obtain ⟨c0, e1, e2⟩ := known p' cv y
        refine ⟨c0, e1, stay _ _ (fun w => ?_) e2⟩
        rw [w, hP] at e2
        exact codeO_ne ps (Option.some.inj e2).symm
      · exact ⟨c', y, upd_same⟩
    · have nP := Nat.ne_of_gt (Nat.lt_of_lt_of_le (Heap.lt_size tab0) big)
      rw [upd_ne (Nat.ne_of_gt lt), upd_ne nP]
      exact I.hok.fresh big
end
section
variable {X : Cx}
/-- g(lambda: body) -/
theorem pe_thunk {CXl : CXT} {TT : (XK → Hp → VK → Prop) → Hp → VK → Prop} {x a : Str} {g c P : Addr} {k : Nat} {pg params : Arguments} {bg : List Stmt} {sg scope : Scope} {dV kV doc pm cd ct oc : Value} {an od : Option Addr} {osl : Array (Option Value)} {N : List Str} {body : Expr} {t : XK → TE} {p lpos pos : Pos}
    (hg : Gl X x) (hm : X.mg x = some (.ref g)) (hk : PySem.W.keepIn X.K (.ref g) = true) (lk : X.K.lookup g = some ⟨oc, od, .func (PySem.W.fnOf x x pg bg sg dV kV doc pm an cd ct), osl⟩) (hcg : PySem.W.codeIn X.K cd x = true)
    (hb : L2.Binds X.K (PySem.W.fnOf x x pg bg sg dV kV doc pm an cd ct) [a] []) (Sg : FnScope N [a] sg) (hN : N[0]? = some a) (hva : Vis sg a) (hG : Gives CXl X N x sg g cd bg a (lamQ X) TT)
    (TB : TabB X.base X.mg c P) (mine : X.env.code = .ref c) (hr : Room (k + 2) X.A) (L : LamS X.env.scope scope) (plain : defaultsOf params X.env = ([], [])) (nb : NoArgs params body scope)
    (hbody : ∀ A outer s H E f c', Room k (A.deeper (lamEnv X scope s.heap.objs.size f c')) → PE (bodyC CXl X A outer s H E scope f c') body (t E))
    (nx : (x == ("__debug__" : Str)) = false := by decide) (na : (a == ("__debug__" : Str)) = false ∧ (a == ("__classdict__" : Str)) = false := by decide) :
    PE X (.Call (.Name x p) [.Lambda params body scope lpos] [] pos) (fun σ H Q => TabS H P (lamQ X) ∧ ∀ H1, But P H H1 → TabS H1 P (lamQ X) → TT (fun E H' Q' => t E σ H' Q') H1 Q) := by
  refine ⟨fun pins s σ H Q I ⟨hT, h⟩ => wpAny_Call_Name_kw (ld_glob I hg hm (PySem.W.callWith_K (h₀ := X.base) I.ok.mod.kin hk ?_ (by rfl) (by rfl)) nx)⟩
  refine Calls.spliced_cons (x := eval (.Lambda params body scope lpos) X.env) (rest := backTo pos (starEach [] X.env)) (thunk_made I TB mine hT plain L fun f c' H1 s' I1 eN T1 M => Calls.spliced_nil ⟨I1.kIn, wpAny_call ?_⟩)
  have run := run_ofS (CX := CX0) (N := N) (ps := [a]) (args := ⟨[.ref f], []⟩) (us := [.ref f]) (vs := [V.ref f]) (Q := Q) (E := E0) lk hcg Sg hr I1.env0 (hb s' [.ref f] I1.kIn rfl) (.cons rfl .nil) rfl fun room => by
    obtain ⟨t', ht', hq'⟩ := hG f c' s' H1 Q (fun E H' Q' => t E σ H' Q') (fun pn xe E p1 p2 pass => M.pe I1 L nb pass room (fun A outer s H r => hbody A outer s H E f c' r) hN hva na) M.code (h H1 eN T1)
    exact ⟨t', ht'.nox, hq'⟩
  refine codeAny_mono run fun r s2 z => ?_
  match r, z with
  | .error e, z => exact z.elim
  | .ok (.ret _), z => exact I1.after z
  | .ok .next, z => exact z.elim
  | .ok .brk, z => exact z.elim
  | .ok .cont, z => exact z.elim
end
end Xs
/-! isinstance of an exception that is handled, with fields or without, wherever it is pinned -/
namespace Xs
open L2 PySem PySem.Spec PyProof.Rows
theorem cls_ob {K : PySem.W.Frag} {D : Addr} (C : ExcC K D) : (PySem.W.clsIn K D).isSome = true := by
  obtain ⟨cd, hc, _⟩ := PySem.W.any_some C.hd
  rw [hc]
  rfl
section
variable {X : Cx}
/-- isinstance(e, c), the exception at a pinned with the object oe, of the class D, its dict (if any) tracked -/
def rIsP (K : PySem.W.Frag) (D a : Addr) (d : Option Addr) : List V → Hp → VK → Prop := fun xs H Q => ∃ (c : V) (cv : Value) (b : Bool), xs = [.ref a, c] ∧ (∀ u, RelV c u → u = cv) ∧ PySem.W.kitOne K (.ref D) cv = some b ∧ (∀ dx, d = some dx → ∃ fs, H dx = some (.xd fs)) ∧ Q (.bl b) H
theorem call_isP {a D : Addr} {d : Option Addr} {oe : Obj} (C : ExcC X.K D) (hp : (a, oe) ∈ X.pn) (hz : Zc (.ref D) d oe) (hf : ∃ vs, oe.data = .fields vs) : CallR X (.builtin "isinstance") (rIsP X.K D a d) := by
  intro pins s σ H xs us Q I r ⟨c, cv, b, ex, hcv, e, hd, q⟩
  subst ex
  cases r with
  | cons rx rr =>
    cases rr with
    | cons rt rr =>
      cases rr
      cases rx
      cases hcv _ rt
      have get := (I.pin (a, oe) (List.mem_append_left _ hp)).1
      obtain ⟨vs, hv⟩ := hf
      have nc : PySem.W.notCls oe = true := by unfold PySem.W.notCls; rw [hv]
      have J : ∃ od, PySem.W.InstAt s.heap a oe D od := by
        cases d with
        | none => exact ⟨none, get, hz.1, nc, by rw [hz.2]; trivial⟩
        | some dx =>
          obtain ⟨fs, ed⟩ := hd dx rfl
          have ok : ObjOk X.prog X.w H s.heap dx (.xd fs) := I.hok dx _ ed
          obtain ⟨mA, hns, _⟩ := ok
          obtain ⟨od, ho, _⟩ := lookIn_ns hns
          exact ⟨some od, get, hz.1, nc, by rw [hz.2]; exact ho⟩
      obtain ⟨od, J⟩ := J
      exact PySem.W.kia_one (PySem.W.kitx_exc (od := od) (cls_ob C) C.hg C.hk C.hs C.ha C.hn C.ht C.hm) I.kIn J e (fun z => nomatch z) fun tk => ⟨.bl b, H, I.tok tk, rfl, q⟩
end
end Xs
/-! where an exception is handled: a list walked to its end, list comprehensions -/
namespace Ho
open L2 PySem PySem.Spec PyProof.Rows HotX
section
variable {s : Shared} {A : Around} {P : Program} {w : World} {E : Value → Shared → Prop}
theorem list_end {it l x1 : Addr} {i : Nat} {its : Array Value} {Q : Option Value → Shared → Prop} (hot : HotAt A x1 s.heap) (ne : x1 ≠ it) (hit : s.heap.IsListIter it l i) (hl : s.heap.IsList l its) (hx : its[i]? = none)
    (h : ∀ h', (∀ b o, b ≠ it → s.heap.get? b = some o → h'.get? b = some o) → Q none { s with heap := h' }) : wpAny (model P w) A (pyNext (.ref it)) Q E s := by
  have ⟨o, ho, _, hd⟩ := hit
  have ⟨ol, hol, _, nl, hdl⟩ := hl
  obtain ⟨hh, o1, v1, h1, d1, c1⟩ := hot
  unfold pyNext
  refine wpAny_bind (wpAny_attempt (wpAny_callSpecial?_slot (name := Str.ofString "__next__") hit.typeIs slot_listiter_next (wpAny_call_entry slot_listiter_next hit.typeIs entry_listiter_next ?_ (args_listiter_next _))))
  refine wpAny_bind (m := field (.ref it) 0) (wpAny_field ho hd (x := .ref l) rfl ?_)
  have some_ : ¬ ((Value.ref l == Value.none) = true) := Bool.false_ne_true
  rw [if_neg some_]
  refine wpAny_bind (m := field (.ref it) 1) (wpAny_field ho hd (x := .int i 0) rfl (wpAny_bind (m := seqItems? (.ref l)) (wpAny_seqItems hol hdl ?_)))
  simp only [hx, Int.toNat_natCast]
  refine wpAny_bind (wpAny_rule (wpAny_bind (wpAny_setField ho hd (by simp) (wpAny_bind (m := newExc (.type "StopIteration") []) ?_))))
  simp only [newExc, newTuple]
  refine wpAny_bind (wpAny_newObj_type (wpAny_bind (m := firstArgMember _ _) (wpAny_of_eq (a := Value.none) (by first | rfl | (simp only [firstArgMember]; rfl)) (wpAny_newObj_type ?_ (by size_fits)))) (by size_fits))
  have keep : ∀ b u, b ≠ it → s.heap.get? b = some u → (s.heap.update it (Obj.mapFields (·.setIfInBounds 0 Value.none))).get? b = some u := fun b u n e => (Heap.get?_update_other _ _ (Ne.symm n)).trans e
  refine raiseNew_hot ⟨hh, o1, v1, Heap.get?_push_of_some _ (Heap.get?_push_of_some _ (keep x1 o1 ne h1)), d1, c1⟩ (Nat.ne_of_lt (Heap.lt_size (Heap.get?_push_of_some _ (keep x1 o1 ne h1)))) (Heap.get?_push_size _ rfl) rfl (by first | (simp; done) | (simp; omega) | (simp only [Array.size_append]; simp; omega)) ?_
  refine wpAny_bind (wpAny_isInstance (T := "StopIteration") (b := true) ⟨_, Heap.get?_update_self _ (Heap.get?_push_size _ rfl) rfl, rfl⟩ isSubtype_stop (wpAny_pure (h _ fun b u n e => ?_)))
  rw [Heap.get?_update_other _ _ (Nat.ne_of_gt (Heap.lt_size (Heap.get?_push_of_some _ (keep b u n e))))]
  exact Heap.get?_push_of_some _ (Heap.get?_push_of_some _ (keep b u n e))
end
section
variable {B : Cx}
theorem list_loop {tg elt l : Expr} {ifs : List Expr} {scope : Scope} {pos : Pos} {it D a : Addr} {p : Addr × Obj} {g : TG} {tt : TT} {te : TE} {vs : List Nat} {σw : L2.St} {W : Nat → Nat → Hp → Prop} {Qd : Hp → Prop} {R : Result → Shared → Prop}
    (hxe : B.xe = fun _ _ => False) (hpn : B.pn = []) (hex : B.ex = [it]) (hot : L2H.Hot1 B.A p) (pne : p.1 ≠ it) (pg : PG B tg g) (pt : PTs B ifs tt) (pe : PE B elt te)
    (turn : ∀ i m H, W i m H → ((Itl B.K a).stop i H ∧ Qd H) ∨ ((Itl B.K a).go i H ∧ ∃ Nx : Hp → Prop, (∀ H', Nx H' → ∃ m', m' < m ∧ W (i + 1) m' H') ∧ ∀ x H', (Itl B.K a).yld i H x H' → g x σw H' fun σ2 H2 => wipe σ2 vs = σw ∧ tt σ2 H2 fun b H3 =>
      if b = true then te σ2 H3 fun y H4 => ∃ acc, H4 D = some (.lst acc) ∧ acc.length < sizeLine ∧ Nx (upd H4 D (.lst (acc ++ [y]))) else Nx H3))
    (out : ∀ s' H', Inv B [p] σw H' s' → Qd H' → R (.ok .next) s') {m i : Nat} {s : Shared} {H : Hp} (I : Inv B [p] σw H s) (st : s.heap.IsListIter it a i) (nit : H it = none) (w0 : W i m H) :
    codeAny (model B.prog B.w) B.A (.compLoop (.ListComp elt [⟨tg, l, ifs, 0⟩] scope pos) 0 (.ref it) (.ref D) B.env) R s := by
  have may : ∀ {σ' H' s'}, Inv B [p] σ' H' s' → H' it = none → FpOk B [p] H' it := fun J' hz =>
    have hb' : it ∈ B.ex := hex ▸ List.mem_cons_self
    ⟨hz, (J'.ok.exf it hb').1, J'.ok.exfs it hb', .inl hb', (J'.ok.exf it hb').2, fun q hq z => by
      rw [hpn] at hq
      rw [List.mem_singleton.mp hq] at z
      exact pne z⟩
  refine compLoop_any (fun n s' => ∃ i H', Inv B [p] σw H' s' ∧ s'.heap.IsListIter it a i ∧ H' it = none ∧ W i n H') ?_ m ⟨i, H, I, st, nit, w0⟩
  intro n s ⟨i, H, I, st, nit, w⟩
  obtain ⟨f0, f1, f2, f3, f4, f5⟩ := may I nit
  rcases turn i n H w with ⟨⟨xs, hq, hx⟩, qq⟩ | ⟨⟨xs, x0, hq, hx⟩, Nx, hNx, step⟩
  · obtain ⟨its, rv, pl, _⟩ := I.list hq
    obtain ⟨hh, v1, e1, c1⟩ := hot
    refine list_end ⟨hh, p.2, v1, (I.pin p (List.mem_append_right _ List.mem_cons_self)).1, e1, c1⟩ pne st pl.isList (by have := rv.length; simp; omega) fun h' k => ?_
    exact out _ H (I.turned (t' := s.toks) (fun b o n e => k b o n e) f0 f1 f3 f4 f5) qq
  · obtain ⟨its, rv, pl, _⟩ := I.list hq
    have ⟨u, hu, ru⟩ := rv.get hx
    refine wpAny_pyNext_list_item st pl.isList (x := u) (by simpa using hu) fun h' st' sb => ?_
    have I2 : Inv B [p] σw H { s with heap := h' } := I.turned (t' := s.toks) (fun b o hb e => (sb.2 b hb).trans e) f0 f1 f3 f4 f5
    obtain ⟨o, oe, oc, od⟩ := id st'
    refine go_of (s := { s with heap := h' }) oe oc od (by decide) ?_
    have fp1 : ∀ b ∈ [it], FpOk B [p] H b := fun b hb => by rw [List.mem_singleton.mp hb]; exact may I2 nit
    have given := pg.run _ _ _ H x0 u _ (I2.pinned fp1 (fun b hb => by rw [List.mem_singleton.mp hb]; exact ⟨o, oe, fun v z => by rw [od] at z; cases z⟩)) ru (step x0 H ⟨rfl, fun ys hy => by rw [I.list_inj hy hq]; exact hx⟩)
    refine thnF (hxe ▸ given) fun _ s3 ⟨σ3, H3, I3, w3, q3⟩ => ?_
    have asked := pt.run _ s3 σ3 H3 _ I3 q3
    refine thnF (hxe ▸ asked) fun b s4 ⟨H4, I4, q4⟩ => ?_
    have on : ∀ {s' H'}, Inv B ([p] ++ pinsAt [it] h') σ3 H' s' → Nx H' → ∃ m, m < n ∧ ∃ i H', Inv B [p] σw H' s' ∧ s'.heap.IsListIter it a i ∧ H' it = none ∧ W i m H' := fun {s' H'} I' nx => by
      obtain ⟨m', less, w'⟩ := hNx H' nx
      have still := I'.pin (it, o) (List.mem_append_right B.pn (List.mem_append_right [p] (mem_pinsAt List.mem_cons_self oe)))
      exact ⟨m', less, i + 1, H', (I'.unpinned (pins := [p])).weak (by rw [← w3, wipe_length]) fun j v e => (wipe_some (w3.symm ▸ e : (wipe σ3 vs)[j]? = _)).1, ⟨o, still.1, oc, od⟩, still.2.1, w'⟩
    cases b with
    | false => exact on I4 ((if_neg Bool.false_ne_true).mp q4)
    | true =>
      have told := pe.run _ s4 σ3 H4 _ I4 ((if_pos rfl).mp q4)
      exact (if_pos rfl).mpr (thnF (hxe ▸ told) fun z s5 ⟨y, H5, I5, r5, acc, at5, few, nx⟩ => app_ok I5 at5 few r5 fun s6 I6 => on I6 nx)
end
section
variable {X : Cx}
/-- a list comprehension over a list where an exception is handled -/
theorem pe_lc {elt tg l : Expr} {ifs : List Expr} {scope : Scope} {own : List (PySem.Str × Nat)} {pos : Pos} {tl : TE} {g : TG} {tt : TT} {te : TE} (hot : L2H.HotC X) (hN : X.N.Nodup) (hl : PE X l tl) (blk : BlkOk X.N X.env.scope scope own)
    (hg : ∀ s H C cl fp, PG (X.blk s H scope (compEnvC scope cl C X.env) fp) tg g) (ht : ∀ s H C cl fp, PTs (X.blk s H scope (compEnvC scope cl C X.env) fp) ifs tt) (he : ∀ s H C cl fp, PE (X.blk s H scope (compEnvC scope cl C X.env) fp) elt te) (hs : ∀ x, foldedSetIterable l X.env x = pure x := by intro _; rfl) :
    PE X (.ListComp elt [⟨tg, l, ifs, 0⟩] scope pos) (tLc (iList X.K tl) g tt te (own.map (·.2))) := ⟨fun pins s σ H Q I h => by
  obtain ⟨p, ⟨hh, v1, e1, c1⟩, hp⟩ := hot
  rw [eval_ListComp]
  refine wpAny_comprehension_free (use := none) rfl hs (closure_ok fun y hy e => I.ok.has y.1 (blk.free y hy e)) blk.kind (fun y hy e => by rw [blk.uniq y hy, e]) (thn (hl.run pins s σ H _ I h) fun v s1 ⟨x, H1, I1, r1, a, ex, ⟨xs, hq⟩, q⟩ => ?_)
  subst ex
  cases r1
  obtain ⟨its, rv, pl, hz⟩ := I1.list hq
  refine wpAny_pyIter_list pl.isList ?_
  have I2 : Inv X pins σ H1 { s1 with heap := s1.heap.push { cls := .type "list_iterator", data := .fields #[.ref a, .int 0 0] } } := I1.kept (t' := s1.toks) fun b o e => Heap.get?_push_of_some _ e
  have it0 : (s1.heap.push { cls := .type "list_iterator", data := .fields #[.ref a, .int 0 0] }).IsListIter s1.heap.objs.size a 0 := ⟨_, Heap.get?_push_size _ rfl, rfl, rfl⟩
  have fit : FpOk X pins H1 s1.heap.objs.size := I1.fpOk (Nat.le_refl _) (I1.hok.fresh (Nat.le_refl _))
  have plt : p.1 < s1.heap.objs.size := Heap.lt_size (I1.pin p (List.mem_append_left _ hp)).1
  have itlt : s1.heap.objs.size < (s1.heap.push { cls := .type "list_iterator", data := .fields #[.ref a, .int 0 0] }).objs.size := by rw [Heap.size_push]; exact Nat.lt_succ_self _
  generalize s1.heap.objs.size = it at it0 fit plt itlt ⊢
  generalize hs2 : ({ s1 with heap := s1.heap.push { cls := .type "list_iterator", data := .fields #[.ref a, .int 0 0] } } : Shared) = s2 at I2 ⊢
  have e2 : s2.heap = s1.heap.push { cls := .type "list_iterator", data := .fields #[.ref a, .int 0 0] } := by rw [← hs2]
  rw [← e2] at it0 itlt
  refine wpAny_newObj_type (newEnv_comp ?_) (show 0 ≤ sizeLine from Nat.zero_le _)
  obtain ⟨W, ⟨m0, w0⟩, turn⟩ := q s2.heap.objs.size (I2.hok.fresh (Nat.le_refl _))
  have I3 : Inv X pins σ (upd H1 s2.heap.objs.size (.lst [])) { s2 with heap := s2.heap.push { cls := .type "list", data := .seq ([] : List Value).toArray } } :=
    I2.laid (t' := s2.toks) (fun b o e => Heap.get?_push_of_some _ e) (Nat.le_refl _) ⟨Nat.zero_le _, [], 0, .nil, Heap.get?_push_size _ rfl⟩
  have f3 : ∀ b ∈ [it], FpOk X pins (upd H1 s2.heap.objs.size (.lst [])) b ∧ b < (s2.heap.push { cls := .type "list", data := .seq ([] : List Value).toArray }).objs.size := fun b hb => by
    rw [List.mem_singleton.mp hb]
    exact ⟨⟨by rw [upd_ne (Nat.ne_of_lt itlt)]; exact fit.1, fit.2⟩, by rw [Heap.size_push]; exact Nat.lt_succ_of_lt itlt⟩
  have I4 := block_start I3 blk hN f3
  have pg := hg { s2 with heap := s2.heap.push { cls := .type "list", data := .seq ([] : List Value).toArray } } (upd H1 s2.heap.objs.size (.lst [])) (s2.heap.push { cls := .type "list", data := .seq ([] : List Value).toArray }).objs.size (cellsFrom ((s2.heap.push { cls := .type "list", data := .seq ([] : List Value).toArray }).objs.size + 1) scope.names (cloFrom X.env.cells scope.names [])) [it]
  have pt := ht { s2 with heap := s2.heap.push { cls := .type "list", data := .seq ([] : List Value).toArray } } (upd H1 s2.heap.objs.size (.lst [])) (s2.heap.push { cls := .type "list", data := .seq ([] : List Value).toArray }).objs.size (cellsFrom ((s2.heap.push { cls := .type "list", data := .seq ([] : List Value).toArray }).objs.size + 1) scope.names (cloFrom X.env.cells scope.names [])) [it]
  have pe := he { s2 with heap := s2.heap.push { cls := .type "list", data := .seq ([] : List Value).toArray } } (upd H1 s2.heap.objs.size (.lst [])) (s2.heap.push { cls := .type "list", data := .seq ([] : List Value).toArray }).objs.size (cellsFrom ((s2.heap.push { cls := .type "list", data := .seq ([] : List Value).toArray }).objs.size + 1) scope.names (cloFrom X.env.cells scope.names [])) [it]
  have st4 : (pushCells ((s2.heap.push { cls := .type "list", data := .seq ([] : List Value).toArray }).push { cls := .type "dict", data := .dict #[] }) scope.names).IsListIter it a 0 := it0.at fun o e => pushCells_keeps _ _ _ _ (Heap.get?_push_of_some _ (Heap.get?_push_of_some _ e))
  have p3 := I3.pin p (List.mem_append_left _ hp)
  have pne : p.1 ≠ it := Nat.ne_of_lt plt
  have I5 := I4.pins_of (pins' := [p]) fun q hq => by
    rw [List.mem_singleton.mp hq]
    refine ⟨pushCells_keeps _ _ _ _ (Heap.get?_push_of_some _ p3.1), p3.2.1, ?_, fun z => ?_, p3.2.2.2.2⟩
    · exact Nat.ne_of_lt (Heap.lt_size p3.1)
    · exact (List.mem_cons.mp (I3.stkSub p.1 z)).elim p3.2.2.1 p3.2.2.2.1
  have loop := list_loop (B := X.blk { s2 with heap := s2.heap.push { cls := .type "list", data := .seq ([] : List Value).toArray } } (upd H1 s2.heap.objs.size (.lst [])) scope (compEnvC scope (cellsFrom ((s2.heap.push { cls := .type "list", data := .seq ([] : List Value).toArray }).objs.size + 1) scope.names (cloFrom X.env.cells scope.names [])) (s2.heap.push { cls := .type "list", data := .seq ([] : List Value).toArray }).objs.size X.env) [it]) (elt := elt) (l := l) (scope := scope) (pos := pos) (D := s2.heap.objs.size) (R := compPost (model X.prog X.w) X.A X.xe none (fun v s' => ∃ x H', Inv X pins σ H' s' ∧ RelV x v ∧ Q x H') (.ref s2.heap.objs.size) (s2.heap.push { cls := .type "list", data := .seq ([] : List Value).toArray }).objs.size) rfl rfl rfl ⟨hh, v1, e1, c1⟩ pne pg pt pe turn ?_ I5 st4 (f3 it List.mem_cons_self).1.1 w0
  · exact codeAny_compStart_list loop (wpAny_pyIter_listiter st4 loop)
  · intro s5 H5 I5 q5
    obtain ⟨mp, ns, _⟩ := I5.loc
    have I6 : Inv X pins σ H5 s5 := I3.call' (ch := [it]) I5.os I5.base I5.hok I5.bare fun b hb => (f3 b hb).1.2.elim fun z1 z => ⟨z.2.1, z1, z.2.2.1, z.2.2.2⟩
    obtain ⟨z0, z1, _, z3, z4, z5⟩ := I3.fpOk (Nat.le_refl _) (show H5 (s2.heap.push { cls := .type "list", data := .seq ([] : List Value).toArray }).objs.size = none from I5.free)
    exact ⟨mp, ns, fun h2 same => ⟨.ref s2.heap.objs.size, H5, I6.turned (t' := s5.toks) (fun b o n e => (same.2 b n).trans e) z0 z1 z3 z4 z5, rfl, q5⟩⟩⟩
end
end Ho
/-! where an exception is handled: sum of a list; defs that know the handled exception -/
namespace Xs
open L2 PySem PySem.Spec PyProof.Rows HotX
section
variable {A : Around} {prog : Program} {w : World}
/-- a list walked to its end, the handled exception at x1 standing by -/
theorem hot_walk {it l x1 : Addr} {o1 : Obj} {its : Array Value} (hh : A.handled = some (.ref x1)) (ctx : ∃ vs : Array Value, o1.data = .fields vs ∧ vs[2]? = some .none) (n1 : x1 ≠ it) (n2 : l ≠ it) :
    Walks prog w A it [it, l, x1] [it] its.size (fun i v => its[i]? = some v) (fun i h => h.IsListIter it l i ∧ h.IsList l its ∧ h.get? x1 = some o1) where
  sub := fun b hb => by rw [List.mem_singleton.mp hb]; exact List.mem_cons_self
  frame := fun i h h' ⟨a, b, c⟩ k => by
    obtain ⟨ol, e, r⟩ := b
    exact ⟨a.at fun o e => k it List.mem_cons_self o e, ⟨ol, k l (by simp) ol e, r⟩, k x1 (by simp) o1 c⟩
  item := fun i s Q E hi ⟨a, b, c⟩ q => by
    refine wpAny_pyNext_list_item a b (x := its[i]) (Array.getElem?_eq_getElem hi) fun h' a' same => ?_
    obtain ⟨ol, e, r⟩ := b
    exact q _ h' s.toks (Array.getElem?_eq_getElem hi) ⟨a', ⟨ol, (same.2 l n2).trans e, r⟩, (same.2 x1 n1).trans c⟩ fun b o nb e => (same.2 b fun z => nb (List.mem_singleton.mpr z)).trans e
  done := fun s Q E ⟨a, b, c⟩ q => by
    obtain ⟨vs, hd, hv⟩ := ctx
    exact Ho.list_end ⟨hh, o1, vs, c, hd, hv⟩ n1 a b (by simp) fun h' k => q h' s.toks fun b o nb e => k b o (fun z => nb (List.mem_singleton.mpr z)) e
  self := fun i s Q E ⟨a, _⟩ q => wpAny_pyIter_listiter a q
end
section
variable {X : Cx}
theorem preSum_list : ∀ (ns : List Int) (f : Nat → Int), (∀ i, i < ns.length → ns[i]? = some (f i)) → preSum f ns.length = ns.sum
  | [], _, _ => rfl
  | n :: r, f, h => by
    have e : ∀ k, preSum f (k + 1) = f 0 + preSum (fun i => f (i + 1)) k := fun k => by
      induction k with
      | zero => simp [preSum]
      | succ k ih =>
        have a : preSum f (k + 1 + 1) = preSum f (k + 1) + f (k + 1) := rfl
        have b : preSum (fun i => f (i + 1)) (k + 1) = preSum (fun i => f (i + 1)) k + f (k + 1) := rfl
        rw [a, ih, b]
        omega
    rw [List.length_cons, e, List.sum_cons, preSum_list r (fun i => f (i + 1)) fun i hi => by
      have := h (i + 1) (by rw [List.length_cons]; omega)
      simpa using this]
    have h0 := h 0 (by simp)
    simp at h0
    rw [h0]
/-- sum(xs) of ints -/
theorem hot_sum (hot : L2H.HotC X) : CallR X (.builtin "sum") (rSum X.K) := by
  intro pins s σ H vs us Q I r ⟨a, ns, ev, hs, q⟩
  subst ev
  obtain ⟨p, ⟨hh, cv, e1, c1⟩, hp⟩ := hot
  have ⟨its, rv, hl, _⟩ := I.list hs
  rw [Vals.ref1 r]
  have pin := (I.pin p (List.mem_append_left _ hp)).1
  have alt : a < s.heap.objs.size := hl.isList.elim fun _ e => Heap.lt_size e.1
  have len : its.length = ns.length := by rw [← rv.length, List.length_map]
  refine call_sum_walkG (wpAny_pyIter_list hl.isList ⟨s.heap.objs.size, _, _, _, _, _, fun i => ns.getD i 0, rfl, hot_walk (its := its.toArray) (o1 := p.2) hh ⟨cv, e1, c1⟩ (Nat.ne_of_lt (Heap.lt_size pin)) (Nat.ne_of_lt alt), ⟨⟨_, Heap.get?_push_size _ rfl, rfl, rfl⟩, hl.isList.push _, Heap.get?_push_of_some _ pin⟩, fun b hb => ?_, fun i v hv => ?_, fun h' tk t' k => ?_⟩)
  · show b < (s.heap.push _).objs.size
    rw [Heap.size_push]
    rcases List.mem_cons.mp hb with z | hb
    · rw [z]; exact Nat.lt_succ_self _
    · rcases List.mem_cons.mp hb with z | hb
      · rw [z]; exact Nat.lt_succ_of_lt alt
      · rw [List.mem_singleton.mp hb]; exact Nat.lt_succ_of_lt (Heap.lt_size pin)
  · have hi : i < its.length := by
      have := (Array.getElem?_eq_some_iff.mp hv).1
      simpa using this
    have hn : ns[i]? = some (ns.getD i 0) := by
      rw [List.getD_eq_getElem?_getD, List.getElem?_eq_getElem (by omega)]; rfl
    have hm : (ns.map V.int)[i]? = some (.int (ns.getD i 0)) := by rw [List.getElem?_map, hn]; rfl
    obtain ⟨u, hu, ru⟩ := rv.get hm
    have : its[i]? = some v := by simpa using hv
    rw [hu] at this
    cases this
    obtain ⟨t, rfl⟩ := ru
    exact ⟨t, rfl⟩
  · have e : preSum (fun i => ns.getD i 0) its.toArray.size = ns.sum := by
      rw [List.size_toArray, len]
      exact preSum_list ns _ fun i hi => by rw [List.getD_eq_getElem?_getD, List.getElem?_eq_getElem hi]; rfl
    rw [e]
    refine ⟨.int ns.sum, H, I.kept (t' := tk) fun b o eb => k b o (fun z => ?_) (Heap.get?_push_of_some _ eb), ⟨_, rfl⟩, q⟩
    rw [List.mem_singleton.mp z] at eb
    exact Nat.lt_irrefl _ (Heap.lt_size eb)
end
/-! ### a def called there, that knows of what class the exception is -/
/-- its promise: Z of the exception's object, sp with its address -/
structure FnZ (P : Program) (w : World) (K : PySem.W.Frag) (mg : Str → Option Value) (base : Heap) (k : Nat) (f : Addr) (fd : FuncData) (ps : List Str) (Z : Obj → Prop) (sp : Addr → Sp) : Prop where
  len : ∀ a vs H Q E, sp a vs H Q E → vs.length = ps.length
  run : ∀ (A : Around) (outer : List Env) (s : Shared) (H : Hp) (args : Args) (us : List Value) (vs : List V) (Q : VK) (E : XK) (p : Addr × Obj), L2H.RoomH k A → L2H.Hot1 A p → Z p.2 → L2H.PinOk outer H s p → Env0 P w K mg base A outer s H → BindsTo s fd args (ps.zip us) → Vals vs us → sp p.1 vs H Q E →
    codeAny (model P w) A (.call (.ref f) args) (CR CX0 outer P w H s Q E) s
theorem fnZ_of {P : Program} {w : World} {K : PySem.W.Frag} {mg : Str → Option Value} {base : Heap} {k : Nat} {f : Addr} {x : Str} {st : Stmt} {fd : FuncData} {N ps : List Str} {Z : Obj → Prop} {sp : Addr → Sp} (F : Fun K x x st f fd) (S : FnScope N ps (defScope st)) (len : ∀ a vs H Q E, sp a vs H Q E → vs.length = ps.length)
    (body : ∀ (cd : Value) (A : Around) (outer : List Env) (s : Shared) (H : Hp) (vs : List V) (Q : VK) (E : XK) (p : Addr × Obj), L2H.Hot1 A p → Z p.2 → L2H.RoomH k (A.deeper (envOfC x (defScope st) s.heap.objs.size f cd)) → sp p.1 vs H Q E →
      ∃ t, PSs (L2H.cxH CX0 P w K mg base N x (defScope st) f cd A outer s H E p) (defBody st) t ∧ t { nx := fun _ H' => Q .non H', rt := Q } (L2.start N vs) H) : FnZ P w K mg base (k + 1) f fd ps Z sp := by
  obtain ⟨oc, od, kV, doc, pm, an, cd, ct, osl, rfl, lk, hcd⟩ := F.ex
  refine ⟨len, fun A outer s H args us vs Q E p hr hot hz pin e0 hb r hsp => ?_⟩
  have kept : ∀ b o, base.get? b = some o → s.heap.get? b = some o := fun b o z => (e0.bs b o z).1
  have KX : K.In s.heap := e0.mod.kin.keeps kept
  refine codeAny_call_function hr.depth (KX _ _ lk) rfl S.co S.gen rfl (PySem.W.codeRec_of KX hcd) (hb _ _ _ _ (wpAny_newFunctionEnv_cells S.kind (fun y hy => ?_) fun env he s1 x1 => ?_))
  · exact (S.par y.1 (List.of_mem_zip hy).1).imp id fun z => ⟨z, PySem.W.cellsFrom_some _ _ _ (.inl z)⟩
  · subst he
    obtain ⟨t, pt, q⟩ := body cd A outer s H vs Q E p hot hz (hr.deeper _) hsp
    have I := L2H.inv_startH (CX := CX0) (E := E) S pin e0 (len _ _ _ _ _ hsp) r x1
    refine ⟨(e0.mod.nolimit.keeps kept).keeps x1.toInCall.keep, codeAny_func (wpAny_mono (pt.run [] s1 _ H _ I q) (fun fl s' z => ?_) fun _ _ z => z)⟩
    cases fl with
    | ret u => exact z.elim fun v z => z.elim fun _ z => z.elim fun H' z => ⟨v, H', z.1.os, z.1.bare, z.1.base, z.1.hok, z.2⟩
    | next => exact z.elim fun _ z => z.elim fun H' z => ⟨.non, H', z.1.os, z.1.bare, z.1.base, z.1.hok, rfl, z.2⟩
    | brk => exact z.elim fun _ z => z.elim fun _ z => z.2.elim
    | cont => exact z.elim fun _ z => z.elim fun _ z => z.2.elim
section
variable {X : Cx} {k : Nat} {f a : Addr} {oe : Obj} {fd : FuncData} {ps : List Str} {Z : Obj → Prop} {sp : Addr → Sp} {x : Str} {q pos : Pos} {e : Expr} {es : List Expr} {t : TA}
/-- f(e, ..) in the suite -/
theorem pe_callZ (F : FnZ X.prog X.w X.K X.mg X.base k f fd ps Z sp) (hr : L2H.RoomH k X.A) (hot : L2H.Hot1 X.A (a, oe)) (hp : (a, oe) ∈ X.pn) (hz : Z oe) (hg : Gl X x) (hm : X.mg x = some (.ref f)) (hk : PySem.W.keepIn X.K (.ref f) = true) (hb : Binds X.K fd ps []) (ha : PA X (e :: es) t)
    (name : (x == ("__debug__" : Str)) = false := by decide) (bare1 : starEach (e :: es) X.env = (false, eval e X.env) :: starEach es X.env := by rfl) (bare2 : (backTo pos (starEach es X.env)).any (·.1) = false := by rfl) :
    PE X (.Call (.Name x q) (e :: es) [] pos) (fun σ H Q => t σ H fun vs H1 => sp a vs H1 Q E0) := ⟨fun pins s σ H Q I h => by
  refine wpAny_Call_Name_kw (ld_glob I hg hm (PySem.W.callWith_K (h₀ := X.base) I.ok.mod.kin hk (thn (ha.run pos pins s σ H _ I h) fun us s1 ⟨vs, H1, I1, r, z⟩ => ⟨I1.kIn, ?_⟩) bare1 bare2) name)
  have b := hb s1 us I1.kIn (by rw [List.append_nil, ← r.length]; exact F.len _ _ _ _ _ z)
  rw [List.append_nil] at b
  obtain ⟨g1, g2, g3, g4, g5⟩ := I1.pin (a, oe) (List.mem_append_left _ hp)
  refine wpAny_call (codeAny_mono (F.run X.A X.stack s1 H1 ⟨us, []⟩ us vs Q E0 (a, oe) hr hot hz ⟨g1, g2, fun m => (List.mem_cons.mp (I1.stkSub a m)).elim g3 g4, g5⟩ I1.env0 b r z) fun r s' y => ?_)
  cases r with
  | error _ => exact y.elim
  | ok fl =>
    cases fl with
    | ret u => exact I1.after y
    | next => exact y.elim
    | brk => exact y.elim
    | cont => exact y.elim⟩
end
end Xs
/-! the program's exceptions, as the head tells of them; a row's own text is not needed -/
namespace Ea
open L2 PySem PySem.Spec PyProof.Rows Dl
/-- the classes' names, in the law's order -/
noncomputable def nms : List Str := ["BadBook", "NoStep", "NoRule", "BadMaking", "BadNumber", "BadThing", "BadTape", "Ended", "BadSeries", "NotPlain", "BadWord", "BadParts", "Full", "Nothing", "BadText"]
noncomputable def nm (j : Nat) : Str := nms.getD j ""
noncomputable def ea (K : PySem.W.Frag) (j : Nat) : Addr := He.ga K (nm j)
/-- the fields of the first three -/
noncomputable def fld (j : Nat) : Str := (["wrong", "spot", "lacks"] : List Str).getD j ""
/-- what the written part says of them -/
structure Errs (K : PySem.W.Frag) (mg : Str → Option Value) : Prop where
  g : ∀ j, j < 15 → mg (nm j) = some (.ref (ea K j))
  kit : ∀ i j, i < 15 → j < 15 → PySem.W.kitOne K (.ref (ea K i)) (.ref (ea K j)) = some (decide (i = j))
  ve : ∀ i, i < 15 → PySem.W.kitOne K (.ref (ea K i)) (.type "ValueError") = some true
  exc : ∀ i, i < 15 → ExcC K (ea K i)
  exm : ∀ i j, i < 15 → j < 3 → PySem.W.exmOne K (.ref (ea K i)) (.ref (ea K j)) = some (decide (i = j))
  ce : ∀ i, i < 15 → PySem.W.exmOne K (.ref (ea K i)) (.ref (He.ga K "CountError")) = some true
  gce : mg "CountError" = some (.ref (He.ga K "CountError"))
  xf : ∀ j, j < 3 → XfC K (ea K j)
  nof : ∀ j, j < 3 → PySem.W.findIn K (.ref (ea K j)) (fld j) = some none
noncomputable def rng (n : Nat) (p : Nat → Bool) : Bool := (List.range n).all p
theorem rng_ok {n : Nat} {p : Nat → Bool} (h : rng n p = true) : ∀ i, i < n → p i = true := fun i hi => List.all_eq_true.mp h i (List.mem_range.mpr hi)
noncomputable def excB (K : PySem.W.Frag) (D : Addr) : Bool := He.eqO (PySem.W.findIn K (.ref D) "__getattribute__") (some (some (.builtin "BaseException.__getattribute__"))) && (He.eqO (PySem.W.findIn K (.ref D) "__getattr__") (some none) && (decide (PySem.W.subIn K (.ref D) (.type "BaseException") = some true) && (PySem.W.hasDictIn K D &&
  (He.eqO (PySem.W.findIn K (.ref D) "__class__") (some (some (.builtin "object.__class__"))) && (He.eqO (PySem.W.specialIn K (.builtin "object.__class__") "__get__") (some (some (.builtin "getset_descriptor.__get__"))) && (decide (PySem.W.takesIn K (.builtin "object.__class__") = some true) && decide (PySem.W.mroIn K D (.type "object") = some true)))))))
theorem exc_of {K : PySem.W.Frag} {D : Addr} (h : excB K D = true) : ExcC K D := by
  obtain ⟨h1, h⟩ := He.ba h
  obtain ⟨h2, h⟩ := He.ba h
  obtain ⟨h3, h⟩ := He.ba h
  obtain ⟨h4, h⟩ := He.ba h
  obtain ⟨h5, h⟩ := He.ba h
  obtain ⟨h6, h⟩ := He.ba h
  obtain ⟨h7, h8⟩ := He.ba h
  exact ⟨He.eqO_ok h1, He.eqO_ok h2, of_decide_eq_true h3, h4, He.eqO_ok h5, He.eqO_ok h6, of_decide_eq_true h7, of_decide_eq_true h8⟩
noncomputable def errB1 (K : PySem.W.Frag) (i : Nat) : Bool := (He.Fa.glo (nm i)).ok K && (rng 15 (fun j => decide (PySem.W.kitOne K (.ref (ea K i)) (.ref (ea K j)) = some (decide (i = j)))) && (decide (PySem.W.kitOne K (.ref (ea K i)) (.type "ValueError") = some true) && (excB K (ea K i) &&
  (rng 3 (fun j => decide (PySem.W.exmOne K (.ref (ea K i)) (.ref (ea K j)) = some (decide (i = j)))) && decide (PySem.W.exmOne K (.ref (ea K i)) (.ref (He.ga K "CountError")) = some true)))))
noncomputable def errB3 (K : PySem.W.Frag) (j : Nat) : Bool := xfB K (ea K j) && He.eqO (PySem.W.findIn K (.ref (ea K j)) (fld j)) (some none)
noncomputable def errB (K : PySem.W.Frag) : Bool := rng 15 (errB1 K) && (rng 3 (errB3 K) && (He.Fa.glo "CountError").ok K)
theorem errs_of {K : PySem.W.Frag} {h : Heap} {mg : Str → Option Value} (X : K.In h) (G : h.Ns mainGlobals mg) (c : errB K = true) : Errs K mg := by
  obtain ⟨c1, c⟩ := He.ba c
  obtain ⟨c2, c3⟩ := He.ba c
  have one := fun i hi => He.ba (rng_ok c1 i hi)
  have two := fun i hi => He.ba (one i hi).2
  have thr := fun i hi => He.ba (two i hi).2
  have fou := fun i hi => He.ba (thr i hi).2
  have fiv := fun i hi => He.ba (fou i hi).2
  exact ⟨fun j hj => He.glo_ok X G (one j hj).1, fun i j hi hj => of_decide_eq_true (rng_ok (two i hi).1 j hj), fun i hi => of_decide_eq_true (thr i hi).1, fun i hi => exc_of (fou i hi).1, fun i j hi hj => of_decide_eq_true (rng_ok (fiv i hi).1 j hj), fun i hi => of_decide_eq_true (fiv i hi).2, He.glo_ok X G c3, fun j hj => xfB_ok (He.ba (rng_ok c2 j hj)).1, fun j hj => He.eqO_ok (He.ba (rng_ok c2 j hj)).2⟩
/-- those without __init__ of their own, as they are made -/
structure PlainX (K : PySem.W.Frag) (C : Addr) : Prop where
  q : PySem.W.excIn K C [.type "ValueError", .type "Exception", .type "BaseException", .type "object"] "ValueError.__new__" = true
  k : PySem.W.keepIn K (.ref C) = true
  b : PySem.W.subIn K (.ref C) (.type "BaseException") = some true
  t : PySem.W.typeIn K (.ref C) = some (.type "type")
noncomputable def plB (K : PySem.W.Frag) (C : Addr) : Bool := PySem.W.excIn K C [.type "ValueError", .type "Exception", .type "BaseException", .type "object"] "ValueError.__new__" && (PySem.W.keepIn K (.ref C) && (decide (PySem.W.subIn K (.ref C) (.type "BaseException") = some true) && decide (PySem.W.typeIn K (.ref C) = some (.type "type"))))
theorem plB_ok {K : PySem.W.Frag} {C : Addr} (h : plB K C = true) : PlainX K C := by
  obtain ⟨h1, h⟩ := He.ba h
  obtain ⟨h2, h⟩ := He.ba h
  obtain ⟨h3, h4⟩ := He.ba h
  exact ⟨h1, h2, of_decide_eq_true h3, of_decide_eq_true h4⟩
section
variable {X : Cx} {s0 : Wd} {xd : Xd → Prop} {E : XK} {x m : Str} {C : Addr} {j : Nat} {p p2 pos pos2 : Pos}
/-- raise C('m') -/
noncomputable def dRaise (xd : Xd → Prop) (C : Addr) : DS := fun _ _ => xd ⟨C, none⟩
theorem pz_raise (T : PlainX X.K C) (g : X.mg x = some (.ref C)) (hg : Gl X x) (tk : L2N.Takes X (fun cls d _ H => E cls d H)) (lx : Lx s0 xd E) (hc : X.calm = true := by rfl) (hdb : (x == ("__debug__" : Str)) = false := by decide) :
    PS X (.Raise (some (.Call (.Name x p) [.Constant (.str m) j p2] [] pos)) none pos2) (cS s0 (dRaise xd C)) :=
  psI (L2N.ps_raise hc tk (L2N.pmk_own PySem.F.excBase_ValueError T.q g T.k (raises_own T.b T.t) hg hdb)) fun B σ H ⟨s, ρ, D, e, R, t, l⟩ => by
    subst e
    exact lx ⟨C, none⟩ s _ _ t R.up ⟨rfl, rfl⟩
end
end Ea
/-! _law_told(lambda: ..), over data -/
namespace Dl
open L2 PySem PySem.Spec PyProof.Rows
/-- the reading of an expression that may raise: its data, or an exception -/
abbrev DX := (Xd → Prop) → DE
noncomputable def cL (T : List (Addr × Vol)) (E : XK) (t : DX) : TE := fun σ H Q => ∃ s ρ q xd, s.H = H ∧ Rp s s ρ σ ∧ (∀ P ∈ T, s.J P.1 = some P.2) ∧ t xd ρ q ∧ (∀ d v s', q d → Up s s' → Rv s'.J s'.F v d → Q v s'.H) ∧ Lx s xd E
theorem pl_of {X : Cx} {T : List (Addr × Vol)} {E : XK} {e : Expr} {t : DX} (h : ∀ (s0 : Wd) (xd : Xd → Prop), Lx s0 xd E → (∀ P ∈ T, s0.J P.1 = some P.2) → PE X e (cE s0 (t xd))) : PE X e (cL T E t) :=
  ⟨fun pins s σ H Q I ⟨s1, ρ, q, xd, e, R, tj, t, k, lx⟩ => (h s1 xd lx tj).run pins s σ H Q I ⟨s1, ρ, q, e, R, t, k⟩⟩
/-- the law's table, while lambdas are made -/
theorem lam_tab {s : Wd} {P : Addr} {q : Str} (ok : Ok s) (j : s.J P = some (Lt q)) : LamX.TabS s.H P q := by
  obtain ⟨o, e, ps, rfl, h1, h2⟩ := ok.vol P (Lt q) j
  exact ⟨ps, e, h1, fun pos cv z => let ⟨c, e1, e2⟩ := h2 pos cv z; ⟨c, e1, e2.2⟩⟩
theorem lam_up {s : Wd} {P : Addr} {q : Str} (ok : Ok s) (j : s.J P = some (Lt q)) {H1 : Hp} (b : Xs.But P s.H H1) (t : LamX.TabS H1 P q) : Up s ⟨s.J, s.F, H1⟩ := by
  have np : ∀ {a : Addr} {o : HO}, s.H a = some o → a ≠ P → H1 a = some o := fun {a o} e n => b a o n e
  have co : ∀ c q, cod s c q → cod ⟨s.J, s.F, H1⟩ c q := fun c q' z => ⟨z.1, np z.2 fun y => by rw [y] at z; exact (nomatch (z.1.symm.trans j))⟩
  refine ⟨⟨fun a o e => ?_, fun a Q e => ?_, ok.ft⟩, fun a o e n => np e fun y => by rw [y] at n; exact (nomatch (n.symm.trans j)), fun _ _ e => e, fun _ _ e => e, (fun a o e z => nomatch (z.symm.trans e)), (fun a o e z => nomatch (z.symm.trans e))⟩
  · exact np (ok.sub a o e) fun y => by rw [y] at e; exact (nomatch ((ok.ft P _ j).symm.trans e))
  · by_cases y : a = P
    · subst y
      have e' := (show s.J a = some Q from e).symm.trans j
      cases e'
      obtain ⟨ps, e1, t1, t2⟩ := t
      refine ⟨_, e1, ps, rfl, t1, fun pos cv z => ?_⟩
      obtain ⟨c, e2, e3⟩ := t2 pos cv z
      refine ⟨c, e2, ?_, e3⟩
      show s.J c = none
      cases w : s.J c with
      | none => rfl
      | some Q =>
        exfalso
        obtain ⟨o, f1, f2⟩ := ok.vol c Q w
        by_cases v : c = a
        · subst v
          rw [e1] at e3
          exact nomatch e3
        · rw [np f1 v] at e3
          cases e3
          exact Q.nc f2
    · obtain ⟨o, e1, e2⟩ := ok.vol a Q e
      exact ⟨o, np e1 y, Q.mono co e2⟩
end Dl
namespace Ea
open L2 PySem PySem.Spec PyProof.Rows Dl
noncomputable def Ext (H H' : Hp) : Prop := ∀ b o, H b = some o → H' b = some o
theorem Ext.refl (H : Hp) : Ext H H := fun _ _ e => e
theorem Ext.trans {H H1 H2 : Hp} (a : Ext H H1) (b : Ext H1 H2) : Ext H H2 := fun c o e => b c o (a c o e)
theorem Ext.new {H H1 : Hp} (a : Ext H H1) {p : Addr} {o : HO} (np : H1 p = none) : Ext H (upd H1 p o) := fun c u e => by rw [upd_ne (ne_of_none (a c u e) np)]; exact a c u e
theorem Ext.free {H H' : Hp} (a : Ext H H') {p : Addr} (h : H' p = none) : H p = none := by
  cases e : H p with
  | none => rfl
  | some o => rw [a p o e] at h; cases h
theorem Ext.own {H H1 : Hp} (a : Ext H H1) {p : Addr} {o : HO} (np : H p = none) : Ext H (upd H1 p o) := fun c u e => by rw [upd_ne (ne_of_none e np)]; exact a c u e
/-- what a refusal of the i-th class makes of it -/
noncomputable def refused (i : Nat) (d : Option Addr) (H : Hp) (Q : VK) : Prop :=
  (i < 3 ∧ ∃ dx v, d = some dx ∧ H dx = some (.xd [(fld i, v)]) ∧ ∀ H2 p, Ext H H2 → H p = none → H2 p = some (.tup [.str "refused", .str (nm i), v]) → Q (.ref p) H2) ∨
  (3 ≤ i ∧ d = none ∧ ∀ H2 p, Ext H H2 → H p = none → H2 p = some (.tup [.str "refused", .str (nm i)]) → Q (.ref p) H2)
/-- what is wished of an exception that the thunk raises -/
noncomputable def EOld (K : PySem.W.Frag) (Q : VK) : XK := fun cls d H => ∃ i, i < 15 ∧ cls = .ref (ea K i) ∧ refused i d H Q
noncomputable def TOld (K : PySem.W.Frag) : (XK → Hp → VK → Prop) → Hp → VK → Prop := fun tl H Q => tl (EOld K Q) H Q
theorem up_ext {s : Wd} (ok : Ok s) {H2 : Hp} {p : Addr} {o : HO} (x : Ext s.H H2) (n : s.H p = none) (e : H2 p = some o) : Up s ⟨s.J, upd s.F p o, H2⟩ where
  ok := ⟨fun a u f => by
      by_cases z : a = p
      · subst z
        have f' : upd s.F a o a = some u := f
        rw [upd_same] at f'
        cases f'; exact e
      · have f' : upd s.F p o a = some u := f
        rw [upd_ne z] at f'
        exact x _ _ (ok.sub a u f'), fun a P j => by
      obtain ⟨u, e1, e2⟩ := ok.vol a P j
      exact ⟨u, x _ _ e1, P.mono (fun c q z => ⟨z.1, x _ _ z.2⟩) e2⟩, fun a P j => by
      obtain ⟨u, e1, _⟩ := ok.vol a P j
      show upd s.F p o a = none
      rw [upd_ne (ne_of_none e1 n)]; exact ok.ft a P j⟩
  keep := fun b u f _ => x b u f
  fr := fun a u f => by show upd s.F p o a = _; rw [upd_ne (ne_of_none (ok.sub a u f) n)]; exact f
  jr := fun _ _ f => f
  nw := fun a u f z => by
    by_cases y : a = p
    · subst y; exact n
    · have f' : upd s.F p o a = some u := f
      rw [upd_ne y, z] at f'; cases f'
  jn := fun a u f z => nomatch (z.symm.trans f)
/-- the slots without the lists that are ours -/
noncomputable def calmS : Sl → Sl
  | .ow _ => .no
  | x => x
noncomputable def calmE (ρ : Dl.Env) : Dl.Env := ρ.map calmS
theorem eg_calm : ∀ (ρ : Dl.Env) (i : Nat), eg (calmE ρ) i = calmS (eg ρ i)
  | [], _ => rfl
  | _ :: _, 0 => rfl
  | _ :: r, i + 1 => eg_calm r i
theorem Rp_calm {s0 s : Wd} {ρ : Dl.Env} {σ : L2.St} (R : Rp s0 s ρ σ) : Rp s s (calmE ρ) σ := by
  have no : ∀ i ds, eg (calmE ρ) i ≠ .ow ds := fun i ds z => by
    rw [eg_calm] at z
    cases w : eg ρ i <;> rw [w] at z <;> cases z
  refine ⟨Up.refl R.ok, by rw [calmE, List.length_map]; exact R.len, fun i d e => R.va i d ?_, fun i ds e => absurd e (no i ds), fun i j ds es a e => absurd e (no i ds)⟩
  rw [eg_calm] at e
  cases w : eg ρ i with
  | ow ds => rw [w] at e; cases e
  | no => rw [w] at e; cases e
  | va d' => rw [w] at e; exact e
/-- what _law_told tells of an exception -/
noncomputable def toldX (K : PySem.W.Frag) (q : Dt → Prop) : Xd → Prop := fun x => ∃ i, i < 15 ∧ x.cls = ea K i ∧ ((3 ≤ i ∧ x.fld = none ∧ q (.tup [.str "refused", .str (nm i)])) ∨ (i < 3 ∧ ∃ d, x.fld = some (fld i, d) ∧ q (.tup [.str "refused", .str (nm i), d])))
noncomputable def dTold (K : PySem.W.Frag) (t : DX) : DE := fun ρ q => t (toldX K q) (calmE ρ) q
theorem told_lx {K : PySem.W.Frag} {s1 : Wd} {q : Dt → Prop} {Q : VK} (k : ∀ d v s', q d → Up s1 s' → Rv s'.J s'.F v d → Q v s'.H) : Lx s1 (toldX K q) (EOld K Q) := fun xc s' cls dx ⟨i, hi, ec, h⟩ u xr => by
  obtain ⟨x1, x2⟩ := xr
  refine ⟨i, hi, by rw [x1, ec], ?_⟩
  rcases h with ⟨h3, f, hq⟩ | ⟨h3, d, f, hq⟩
  · rw [f] at x2
    refine .inr ⟨h3, x2, fun H2 p x n e => ?_⟩
    have u2 := up_ext u.ok x n e
    exact k _ _ ⟨_, _, H2⟩ hq (u.trans u2) (.tup upd_same (.cons (.str _) (.cons (.str _) .nil)))
  · rw [f] at x2
    obtain ⟨a, v, e1, e2, e3⟩ := x2
    refine .inl ⟨h3, a, v, e1, e2, fun H2 p x n e => ?_⟩
    have u2 := up_ext u.ok x n e
    exact k _ _ ⟨_, _, H2⟩ hq (u.trans u2) (.tup upd_same (.cons (.str _) (.cons (.str _) (.cons (e3.up u2) .nil))))
/-- _law_told stands, and does so -/
noncomputable def Tells (X : Cx) : Prop := ∃ (g : Addr) (N : List Str) (pg : Arguments) (bg : List Stmt) (sg : Scope) (dV kV doc pm cd ct oc : Value) (an od : Option Addr) (osl : Array (Option Value)), X.mg "_law_told" = some (.ref g) ∧ PySem.W.keepIn X.K (.ref g) = true ∧
  X.K.lookup g = some ⟨oc, od, .func (PySem.W.fnOf "_law_told" "_law_told" pg bg sg dV kV doc pm an cd ct), osl⟩ ∧ PySem.W.codeIn X.K cd "_law_told" = true ∧ L2.Binds X.K (PySem.W.fnOf "_law_told" "_law_told" pg bg sg dV kV doc pm an cd ct) ["_law_deed"] [] ∧ FnScope N ["_law_deed"] sg ∧ N[0]? = some ("_law_deed" : Str) ∧ Vis sg "_law_deed" ∧
  Xs.Gives (L2N.CX X.prog X.w) X N "_law_told" sg g cd bg "_law_deed" (Xs.lamQ X) (TOld X.K)
theorem pd_told {X : Cx} {s0 : Wd} {T : List (Addr × Vol)} {tX : DX} {c P : Addr} {k : Nat} {params : Arguments} {body : Expr} {scope : Scope} {p lpos pos : Pos} (W : Tells X) (hg : Gl X "_law_told") (TB : LamX.TabB X.base X.mg c P) (mine : X.env.code = .ref c) (hr : Room (k + 2) X.A) (L : LamX.LamS X.env.scope scope) (plain : defaultsOf params X.env = ([], [])) (nb : Xs.NoArgs params body scope)
    (jP : s0.J P = some (Lt (Xs.lamQ X))) (tj : ∀ P ∈ T, s0.J P.1 = some P.2)
    (hbody : ∀ A outer s H E f c', Room k (A.deeper (LamX.lamEnv X scope s.heap.objs.size f c')) → PE (Xs.bodyC (L2N.CX X.prog X.w) X A outer s H E scope f c') body (cL T E tX)) :
    PE X (.Call (.Name "_law_told" p) [.Lambda params body scope lpos] [] pos) (cE s0 (dTold X.K tX)) := by
  obtain ⟨g, N, pg, bg, sg, dV, kV, doc, pm, cd, ct, oc, an, od, osl, hm, hk, lk, hc, hb, S, hN, hv, G⟩ := W
  refine peI (Xs.pe_thunk hg hm hk lk hc hb S hN hv G TB mine hr L plain nb hbody) fun σ H Q ⟨s, ρ, q, e, R, t, kk⟩ => ?_
  subst e
  have j1 : s.J P = some (Lt (Xs.lamQ X)) := R.up.jr _ _ jP
  refine ⟨lam_tab R.ok j1, fun H1 b1 t1 => ?_⟩
  have u := lam_up R.ok j1 b1 t1
  have kq : ∀ d v s', q d → Up ⟨s.J, s.F, H1⟩ s' → Rv s'.J s'.F v d → Q v s'.H := fun d v s' hq u' rv => kk d v s' hq (u.trans u') rv
  exact ⟨⟨s.J, s.F, H1⟩, calmE ρ, q, toldX X.K q, rfl, Rp_calm (R.up' u), fun P hP => R.up.jr _ _ (tj P hP), t, kq, told_lx kq⟩
abbrev qLam : Str := "law.<locals>.<lambda>"
end Ea
/-! texts, over data -/
namespace Dl
open PySem PySem.Spec PyProof.Rows L2
/-- two texts, something flat of them, if C -/
noncomputable def dSS (C : Str → Str → Prop) (gd : Str → Str → Dt) : Dt → Dt → (Dt → Prop) → Prop := fun x y q => match x, y with | .str i, .str j => C i j ∧ q (gd i j) | _, _ => False
noncomputable def dS0 (gd : Str → Str → Dt) : Dt → Dt → (Dt → Prop) → Prop := fun x y q => match x, y with | .str i, .str j => q (gd i j) | _, _ => False
theorem of_S {r : R2} {C : Str → Str → Prop} {gv : Str → Str → V} {gd : Str → Str → Dt} (hr : ∀ i j H Q, C i j → Q (gv i j) H → r (.str i) (.str j) H Q) (h : ∀ i j J F, Rv J F (gv i j) (gd i j)) : OpF r (dSS C gd) := fun J F H x y dx dy q Q _ rx ry t k => by
  cases rx with
  | str i =>
    cases ry with
    | str j => exact hr i j H Q t.1 (k _ _ t.2 fun J F => h i j J F)
    | _ => exact False.elim t
  | _ => cases ry <;> exact False.elim t
theorem of_S0 {r : R2} {gv : Str → Str → V} {gd : Str → Str → Dt} (hr : ∀ i j H Q, Q (gv i j) H → r (.str i) (.str j) H Q) (h : ∀ i j J F, Rv J F (gv i j) (gd i j)) : OpF r (dS0 gd) := fun J F H x y dx dy q Q _ rx ry t k => by
  cases rx with
  | str i =>
    cases ry with
    | str j => exact hr i j H Q (k _ _ t fun J F => h i j J F)
    | _ => exact False.elim t
  | _ => cases ry <;> exact False.elim t
abbrev ltS (i j : Str) : Bool := decide (i.cps.toList < j.cps.toList)
theorem of_addS : OpF (fun x y H Q => ∃ i j, x = .str i ∧ y = .str j ∧ i.length + j.length ≤ sizeLine ∧ Q (.str (i ++ j)) H) (dSS (fun i j => i.length + j.length ≤ sizeLine) fun i j => .str (i ++ j)) := of_S (fun i j H Q c q => ⟨i, j, rfl, rfl, c, q⟩) fun _ _ _ _ => .str _
theorem of_ltS : OpF (fun x y H Q => ∃ i j, x = .str i ∧ y = .str j ∧ Q (.bl (ltS i j)) H) (dS0 fun i j => .bl (ltS i j)) := of_S0 (fun i j H Q q => ⟨i, j, rfl, rfl, q⟩) fun _ _ _ _ => .bl _
theorem of_gtS : OpF (fun x y H Q => ∃ i j, x = .str i ∧ y = .str j ∧ Q (.bl (ltS j i)) H) (dS0 fun i j => .bl (ltS j i)) := of_S0 (fun i j H Q q => ⟨i, j, rfl, rfl, q⟩) fun _ _ _ _ => .bl _
theorem of_leS : OpF (fun x y H Q => ∃ i j, x = .str i ∧ y = .str j ∧ Q (.bl (!ltS j i)) H) (dS0 fun i j => .bl (!ltS j i)) := of_S0 (fun i j H Q q => ⟨i, j, rfl, rfl, q⟩) fun _ _ _ _ => .bl _
theorem of_geS : OpF (fun x y H Q => ∃ i j, x = .str i ∧ y = .str j ∧ Q (.bl (!ltS i j)) H) (dS0 fun i j => .bl (!ltS i j)) := of_S0 (fun i j H Q q => ⟨i, j, rfl, rfl, q⟩) fun _ _ _ _ => .bl _
/-- a sign in a text -/
noncomputable def dInS (n : Bool) : Dt → Dt → (Dt → Prop) → Prop := fun x y q => match x, y with | .str i, .str z => ∃ c, i = ⟨#[c]⟩ ∧ q (.bl (n != decide (c ∈ z.cps.toList))) | _, _ => False
theorem of_inS : OpF (fun x y H Q => ∃ (c : Nat) (z : Str), x = .str ⟨#[c]⟩ ∧ y = .str z ∧ Q (.bl (decide (c ∈ z.cps.toList))) H) (dInS false) := fun J F H x y dx dy q Q _ rx ry t k => by
  cases rx with
  | str i =>
    cases ry with
    | str j =>
      obtain ⟨c, rfl, t⟩ := t
      exact ⟨c, j, rfl, rfl, k _ _ t fun J F => by rw [Bool.false_bne]; exact .bl _⟩
    | _ => exact False.elim t
  | _ => cases ry <;> exact False.elim t
theorem of_notInS : OpF (fun x y H Q => ∃ (c : Nat) (z : Str), x = .str ⟨#[c]⟩ ∧ y = .str z ∧ Q (.bl (!decide (c ∈ z.cps.toList))) H) (dInS true) := fun J F H x y dx dy q Q _ rx ry t k => by
  cases rx with
  | str i =>
    cases ry with
    | str j =>
      obtain ⟨c, rfl, t⟩ := t
      exact ⟨c, j, rfl, rfl, k _ _ t fun J F => by rw [Bool.true_bne]; exact .bl _⟩
    | _ => exact False.elim t
  | _ => cases ry <;> exact False.elim t
/-- len(x) of a text -/
noncomputable def dLenS : List Dt → (Dt → Prop) → Prop := fun ds q => match ds with | [.str z] => z.length ≤ sizeLine ∧ q (.int z.length) | _ => False
theorem cf_lenS : CallF (fun xs H Q => ∃ z, xs = [.str z] ∧ z.length ≤ sizeLine ∧ Q (.int z.length) H) dLenS := fun J F H xs ds q Q sub r t k => by
  cases r with
  | nil => exact False.elim t
  | cons h r =>
    cases r with
    | cons h2 r => cases h <;> exact False.elim t
    | nil =>
      cases h with
      | str z => exact ⟨z, rfl, t.1, k _ _ t.2 fun J F => .int _⟩
      | _ => exact False.elim t
section
variable {X : Cx} {s0 : Wd} {e : Expr} {lo hi : Option Expr} {te : DE} {tl th : DP} {pos p2 : Pos}
/-- x[lo:hi] of a text -/
noncomputable def dSlS (te : DE) (tl th : DP) : DE := fun ρ q => te ρ fun x => tl ρ fun l => th ρ fun u => match x with | .str z => z.length ≤ sizeLine ∧ q (.str (cutS z l u)) | _ => False
theorem pd_slS (he : PE X e (cE s0 te)) (hl : PO X lo (cP s0 tl)) (hu : PO X hi (cP s0 th)) : PE X (.Subscript e (.Slice lo hi none p2) pos) (cE s0 (dSlS te tl th)) := peI (pe_slice sl_str he hl hu) fun σ H Q ⟨s, ρ, q, e, R, t, k⟩ =>
  ⟨s, ρ, _, e, R, t, fun d v s1 t1 u1 r1 => ⟨s1, ρ, _, rfl, R.up' u1, t1, fun l s2 t2 u2 => ⟨s2, ρ, _, rfl, (R.up' u1).up' u2, t2, fun u s3 t3 u3 => by
    cases r1 with
    | str z => exact ⟨z, rfl, t3.1, k _ _ s3 t3.2 (u1.trans (u2.trans u3)) (.str _)⟩
    | _ => exact False.elim t3⟩⟩⟩
end
end Dl
/-! Code over data: what a def tells is a tree of what it draws, refuses or answers; the kernel can run it. -/
namespace Xe
open PySem hiding Env
open PySem.Spec PyProof.Rows L2 Dl
/-- a refusal: the place of its class, its field -/
structure Xi where
  i : Nat
  f : Option Dt
noncomputable def xdOf (K : PySem.W.Frag) (x : Xi) : Xd := ⟨Ea.ea K x.i, x.f.map fun d => (Ea.fld x.i, d)⟩
/-- an answer, a refusal, nothing known, or a draw -/
inductive M (α : Type) where
  | ret (a : α) | exc (x : Xi) | no | roll (m : Int) (k : Int → M α)
section
variable {α β γ : Type}
noncomputable def bd (m : M α) (f : α → M β) : M β := M.rec (motive := fun _ => M β) f (fun x => .exc x) .no (fun m _ ih => .roll m ih) m
noncomputable def sat (m : M α) (q : α → Prop) (e : Xi → Prop) : Prop := M.rec (motive := fun _ => Prop) q e False (fun m _ ih => 0 < m ∧ m < 1000000 ∧ ∀ r, 0 ≤ r → r < m → ih r) m
abbrev N0 : Xi → Prop := fun _ => False
abbrev xeOf (K : PySem.W.Frag) (xd : Xd → Prop) : Xi → Prop := fun x => xd (xdOf K x)
theorem bd_ret (a : α) (f : α → M β) : bd (.ret a) f = f a := rfl
theorem bd_exc (x : Xi) (f : α → M β) : bd (.exc x) f = .exc x := rfl
theorem bd_no (f : α → M β) : bd .no f = .no := rfl
theorem bd_roll (m : Int) (k : Int → M α) (f : α → M β) : bd (.roll m k) f = .roll m fun r => bd (k r) f := rfl
theorem bd_bd (m : M α) (f : α → M β) (g : β → M γ) : bd (bd m f) g = bd m fun a => bd (f a) g := by
  induction m with
  | ret a => rfl
  | exc x => rfl
  | no => rfl
  | roll m k ih =>
    simp only [bd_roll]
    congr 1
    funext r
    exact ih r
theorem bd_pure (m : M α) : bd m .ret = m := by
  induction m with
  | ret a => rfl
  | exc x => rfl
  | no => rfl
  | roll m k ih =>
    simp only [bd_roll]
    congr 1
    funext r
    exact ih r
theorem sat_bd {m : M α} {f : α → M β} {q : β → Prop} {e : Xi → Prop} : sat (bd m f) q e ↔ sat m (fun a => sat (f a) q e) e := by
  induction m with
  | ret a => exact Iff.rfl
  | exc x => exact Iff.rfl
  | no => exact Iff.rfl
  | roll m k ih => exact and_congr Iff.rfl (and_congr Iff.rfl (forall_congr' fun r => forall_congr' fun _ => forall_congr' fun _ => ih r))
theorem sat.mono {m : M α} {q q' : α → Prop} {e e' : Xi → Prop} (h : sat m q e) (hq : ∀ a, q a → q' a) (he : ∀ x, e x → e' x) : sat m q' e' := by
  induction m with
  | ret a => exact hq a h
  | exc x => exact he x h
  | no => exact h
  | roll m k ih => exact ⟨h.1, h.2.1, fun r h1 h2 => ih r (h.2.2 r h1 h2)⟩
theorem sat.imp {m : M α} {q q' : α → Prop} {e : Xi → Prop} (h : sat m q e) (hq : ∀ a, q a → q' a) : sat m q' e := h.mono hq fun _ h => h
/-- nothing is refused -/
noncomputable def noX (m : M α) : M α := M.rec (motive := fun _ => M α) .ret (fun _ => .no) .no (fun m _ ih => .roll m ih) m
theorem sat_noX {m : M α} {q : α → Prop} {e e' : Xi → Prop} (h : sat (noX m) q e) : sat m q e' := by
  induction m with
  | ret a => exact h
  | exc x => exact h.elim
  | no => exact h
  | roll m k ih => exact ⟨h.1, h.2.1, fun r h1 h2 => ih r (h.2.2 r h1 h2)⟩
/-- what is refused is handled -/
noncomputable def catchX (m : M α) (g : Xi → M α) : M α := M.rec (motive := fun _ => M α) .ret g .no (fun m _ ih => .roll m ih) m
theorem sat_catch {m : M α} {g : Xi → M α} {q : α → Prop} {e : Xi → Prop} (h : sat (catchX m g) q e) : sat m q (fun x => sat (g x) q e) := by
  induction m with
  | ret a => exact h
  | exc x => exact h
  | no => exact h
  | roll m k ih => exact ⟨h.1, h.2.1, fun r h1 h2 => ih r (h.2.2 r h1 h2)⟩
/-- all branches, told by the kernel -/
noncomputable def satB (m : M α) (g : α → Bool) : Bool := M.rec (motive := fun _ => Bool) g (fun _ => false) false (fun m _ ih => (decide (0 < m) && decide (m < 1000000)) && (List.range m.toNat).all fun r => ih (Int.ofNat r)) m
theorem satB_ok {m : M α} {g : α → Bool} (h : satB m g = true) : sat m (fun a => g a = true) N0 := by
  induction m with
  | ret a => exact h
  | exc x => exact nomatch (show false = true from h)
  | no => exact nomatch (show false = true from h)
  | roll m k ih =>
    have h : ((decide (0 < m) && decide (m < 1000000)) && (List.range m.toNat).all fun r => satB (k (Int.ofNat r)) g) = true := h
    rw [Bool.and_eq_true, Bool.and_eq_true] at h
    refine ⟨of_decide_eq_true h.1.1, of_decide_eq_true h.1.2, fun r h1 h2 => ih r ?_⟩
    have := List.all_eq_true.mp h.2 r.toNat (List.mem_range.mpr (by omega))
    rwa [show Int.ofNat r.toNat = r from Int.toNat_of_nonneg h1] at this
/-- an Option told -/
noncomputable def ofO : Option α → M α
  | some a => .ret a
  | none => .no
/-- if it is so -/
noncomputable def gd (b : Bool) (m : M α) : M α := match b with | true => m | false => .no
theorem sat_gd {b : Bool} {m : M α} {q : α → Prop} {e : Xi → Prop} (h : sat (gd b m) q e) : b = true ∧ sat m q e := by
  cases b with
  | true => exact ⟨rfl, h⟩
  | false => exact h.elim
theorem gd_true {b : Bool} {m : M α} (h : b = true) : gd b m = m := by rw [h]; rfl
/-- readings of code -/
noncomputable def Rg (xe : Xi → Prop) (c : Env → M α) : Env → (α → Prop) → Prop := fun ρ q => sat (c ρ) q xe
end
/-! ### lists by their recursor, for the kernel's sake -/
noncomputable section
noncomputable def lenL {α : Type} (l : List α) : Nat := List.rec 0 (fun _ _ ih => Nat.succ ih) l
theorem lenL_eq {α : Type} : ∀ l : List α, lenL l = l.length
  | [] => rfl
  | _ :: l => congrArg Nat.succ (lenL_eq l)
noncomputable def apL {α : Type} (l r : List α) : List α := List.rec r (fun a _ ih => a :: ih) l
theorem apL_eq {α : Type} (r : List α) : ∀ l : List α, apL l r = l ++ r
  | [] => rfl
  | a :: l => congrArg (List.cons a) (apL_eq r l)
noncomputable def raL {α : Type} (l : List α) : List α → List α := List.rec (motive := fun _ => List α → List α) (fun r => r) (fun a _ ih r => ih (a :: r)) l
noncomputable def rvL {α : Type} (l : List α) : List α := raL l []
theorem raL_eq {α : Type} : ∀ l r : List α, raL l r = l.reverse ++ r
  | [], _ => rfl
  | a :: l, r => by
    show raL l (a :: r) = _
    rw [raL_eq l, List.reverse_cons, List.append_assoc]
    rfl
theorem rvL_eq {α : Type} (l : List α) : rvL l = l.reverse := by unfold rvL; rw [raL_eq, List.append_nil]
noncomputable def drL {α : Type} (n : Nat) : List α → List α := Nat.rec (motive := fun _ => List α → List α) (fun l => l) (fun _ ih l => match l with | [] => [] | _ :: r => ih r) n
theorem drL_eq {α : Type} : ∀ (n : Nat) (l : List α), drL n l = l.drop n
  | 0, _ => rfl
  | _ + 1, [] => rfl
  | n + 1, _ :: r => drL_eq n r
noncomputable def tkL {α : Type} (n : Nat) : List α → List α := Nat.rec (motive := fun _ => List α → List α) (fun _ => []) (fun _ ih l => match l with | [] => [] | a :: r => a :: ih r) n
theorem tkL_eq {α : Type} : ∀ (n : Nat) (l : List α), tkL n l = l.take n
  | 0, _ => by rw [List.take_zero]; rfl
  | _ + 1, [] => rfl
  | n + 1, a :: r => congrArg (List.cons a) (tkL_eq n r)
noncomputable def mpL {α β : Type} (f : α → β) (l : List α) : List β := List.rec [] (fun a _ ih => f a :: ih) l
theorem mpL_eq {α β : Type} (f : α → β) : ∀ l : List α, mpL f l = l.map f
  | [] => rfl
  | a :: l => congrArg (List.cons (f a)) (mpL_eq f l)
noncomputable def ixL {α : Type} (n : Nat) : List α → Option α := Nat.rec (motive := fun _ => List α → Option α) (fun l => match l with | [] => none | a :: _ => some a) (fun _ ih l => match l with | [] => none | _ :: r => ih r) n
theorem ixL_eq {α : Type} : ∀ (n : Nat) (l : List α), ixL n l = l[n]?
  | 0, [] => rfl
  | 0, _ :: _ => rfl
  | _ + 1, [] => rfl
  | n + 1, _ :: r => ixL_eq n r
noncomputable def atL {α : Type} (xs : List α) (i : Int) : Option α := match i with
  | .ofNat n => ixL n xs
  | .negSucc n => (match Nat.ble (Nat.succ n) (lenL xs) with | true => ixL (lenL xs - Nat.succ n) xs | false => none)
theorem atL_eq {α : Type} (xs : List α) (i : Int) : atL xs i = L2.atI xs i := by
  unfold L2.atI L2.ixN
  cases i with
  | ofNat n =>
    show ixL n xs = _
    rw [ixL_eq, if_pos (show (0 : Int) ≤ Int.ofNat n from Int.natCast_nonneg n)]
    by_cases h : (Int.ofNat n) < xs.length
    · rw [if_pos h]; rfl
    · rw [if_neg h]
      have : xs.length ≤ n := by have : (Int.ofNat n) = (n : Int) := rfl; omega
      rw [List.getElem?_eq_none this]
      rfl
  | negSucc n =>
    show (match Nat.ble (Nat.succ n) (lenL xs) with | true => ixL (lenL xs - Nat.succ n) xs | false => none) = _
    have e : Int.negSucc n = -((n : Int) + 1) := Int.negSucc_eq n
    rw [if_neg (by omega), lenL_eq]
    cases h : Nat.ble (Nat.succ n) xs.length with
    | true =>
      have h := Nat.le_of_ble_eq_true h
      show ixL _ xs = _
      rw [ixL_eq, if_pos (by omega)]
      show _ = xs[_]?
      congr 1
      omega
    | false =>
      have : ¬ Nat.succ n ≤ xs.length := fun z => by rw [Nat.ble_eq_true_of_le z] at h; exact nomatch h
      rw [if_neg (by omega)]
      rfl
end
/-! ### forcing, for the kernel's sake -/
noncomputable def fzI {α : Type} (i : Int) (k : Int → α) : α := match i with
  | .ofNat n => (match n with | 0 => k (.ofNat 0) | m + 1 => k (.ofNat (m + 1)))
  | .negSucc n => (match n with | 0 => k (.negSucc 0) | m + 1 => k (.negSucc (m + 1)))
theorem fzI_eq {α : Type} (i : Int) (k : Int → α) : fzI i k = k i := by
  unfold fzI
  cases i with
  | ofNat n => cases n <;> rfl
  | negSucc n => cases n <;> rfl
noncomputable def fzL {α : Type} (l : List Nat) (k : List Nat → α) : α := List.rec (motive := fun _ => (List Nat → α) → α) (fun k => k []) (fun n _ ih k => ih fun r => k (n :: r)) l k
theorem fzL_eq {α : Type} : ∀ (l : List Nat) (k : List Nat → α), fzL l k = k l
  | [], _ => rfl
  | n :: l, k => fzL_eq l fun r => k (n :: r)
noncomputable def fz {α : Type} (d : Dt) (k : Dt → α) : α := match d with
  | .int i => fzI i fun i => k (.int i)
  | .bl b => (match b with | true => k (.bl true) | false => k (.bl false))
  | .str z => fzL z.cps.toList fun l => k (.str ⟨⟨l⟩⟩)
  | d => k d
theorem fz_eq {α : Type} (d : Dt) (k : Dt → α) : fz d k = k d := by
  cases d with
  | int i => exact fzI_eq i (fun i => k (.int i))
  | bl b => cases b <;> rfl
  | str z => exact fzL_eq z.cps.toList fun l => k (.str ⟨⟨l⟩⟩)
  | _ => rfl
section
variable {X : Cx} {s0 : Wd} {xe : Xi → Prop} {e a b : Expr} {es : List Expr} {c ca cb cc : Env → M Dt} {cA' cAA : Env → M (List Dt)} {t ta tb : DE} {pos : Pos} {n : Nat}
theorem peR (h : PE X e (cE s0 t)) (f : ∀ ρ q, sat (c ρ) q xe → t ρ q) : PE X e (cE s0 (Rg xe c)) := peI h fun σ H Q ⟨s, ρ, q, e, R, t, k⟩ => ⟨s, ρ, q, e, R, f ρ q t, k⟩
theorem pbR (h : PE X e (cB s0 t)) (f : ∀ ρ q, sat (c ρ) q xe → t ρ q) : PE X e (cB s0 (Rg xe c)) := peI h fun σ H Q ⟨s, ρ, q, e, R, t, k⟩ => ⟨s, ρ, q, e, R, f ρ q t, k⟩
theorem poR {t : DA} (h : PE X e (cO s0 t)) (f : ∀ ρ q, sat (cA' ρ) q xe → t ρ q) : PE X e (cO s0 (Rg xe cA')) := peI h fun σ H Q ⟨s, ρ, q, e, R, t, k⟩ => ⟨s, ρ, q, e, R, f ρ q t, k⟩
theorem ptR {t : DT} {c : Env → M Bool} (h : PT X e (cT s0 t)) (f : ∀ ρ q, sat (c ρ) q xe → t ρ q) : PT X e (cT s0 (Rg xe c)) := ptI h fun σ H Q ⟨s, ρ, q, e, R, t, k⟩ => ⟨s, ρ, q, e, R, f ρ q t, k⟩
theorem pwR {t : DT} {c : Env → M Bool} (h : PW X e (cT s0 t)) (f : ∀ ρ q, sat (c ρ) q xe → t ρ q) : PW X e (cT s0 (Rg xe c)) := pwI h fun σ H Q ⟨s, ρ, q, e, R, t, k⟩ => ⟨s, ρ, q, e, R, f ρ q t, k⟩
theorem ptsR {t : DT} {c : Env → M Bool} (h : PTs X es (cT s0 t)) (f : ∀ ρ q, sat (c ρ) q xe → t ρ q) : PTs X es (cT s0 (Rg xe c)) := ptsI h fun σ H Q ⟨s, ρ, q, e, R, t, k⟩ => ⟨s, ρ, q, e, R, f ρ q t, k⟩
theorem paR {t : DA} (h : PA X es (cA s0 n t)) (f : ∀ ρ q, sat (cA' ρ) q xe → t ρ q) : PA X es (cA s0 n (Rg xe cA')) := paI h fun σ H Q ⟨s, ρ, q, e, R, t, k⟩ => ⟨s, ρ, q, e, R, f ρ q t, k⟩
theorem pbaR {t : DA} (h : PA X es (cBA s0 n t)) (f : ∀ ρ q, sat (cA' ρ) q xe → t ρ q) : PA X es (cBA s0 n (Rg xe cA')) := paI h fun σ H Q ⟨s, ρ, q, e, R, t, k⟩ => ⟨s, ρ, q, e, R, f ρ q t, k⟩
theorem piR {t : DA} {tg : Expr} (h : PI X tg e (cI s0 t)) (f : ∀ ρ q, sat (cA' ρ) q xe → t ρ q) : PI X tg e (cI s0 (Rg xe cA')) := piI h fun σ H Q ⟨s, ρ, q, e, R, t, k⟩ => ⟨s, ρ, q, e, R, f ρ q t, k⟩
theorem ppR {t : DP} {o : Option Expr} {c : Env → M (Option Int)} (h : PO X o (cP s0 t)) (f : ∀ ρ q, sat (c ρ) q xe → t ρ q) : PO X o (cP s0 (Rg xe c)) := poI h fun σ H Q ⟨s, ρ, q, e, R, t, k⟩ => ⟨s, ρ, q, e, R, f ρ q t, k⟩
/-! ### names, constants -/
noncomputable def xVar (i : Nat) : Env → M Dt := fun ρ => match eg ρ i with | .va d => .ret d | _ => .no
theorem px (i : Nat) {x : Str} {pos : Pos} (hN : X.N[i]? = some x := by rfl) (hv : Vis X.env.scope x := by first | exact Or.inl rfl | exact Or.inr (Or.inl rfl) | exact Or.inr (Or.inr rfl)) (hd : (x == ("__debug__" : Str)) = false := by decide)
    (hcd : (x == ("__classdict__" : Str)) = false := by decide) : PE X (.Name x pos) (cE s0 (Rg xe (xVar i))) := peR (pd i hN hv hd hcd) fun ρ q z => by
  unfold xVar at z
  unfold dVar
  cases w : eg ρ i with
  | va d => rw [w] at z; exact z
  | _ => rw [w] at z; exact z
noncomputable def xBor (i : Nat) : Env → M Dt := fun ρ => match eg ρ i with | .va d => .ret d | .ow (.l ds) => .ret (.lst ds) | _ => .no
theorem pxb (i : Nat) {x : Str} {pos : Pos} (hN : X.N[i]? = some x := by rfl) (hv : Vis X.env.scope x := by first | exact Or.inl rfl | exact Or.inr (Or.inl rfl) | exact Or.inr (Or.inr rfl)) (hd : (x == ("__debug__" : Str)) = false := by decide)
    (hcd : (x == ("__classdict__" : Str)) = false := by decide) : PE X (.Name x pos) (cB s0 (Rg xe (xBor i))) := pbR (pb i hN hv hd hcd) fun ρ q z => by
  unfold xBor at z
  unfold dBor
  cases w : eg ρ i with
  | va d => rw [w] at z; exact z
  | ow o => cases o <;> (rw [w] at z; exact z)
  | no => rw [w] at z; exact z
theorem pxb_of (h : PE X e (cE s0 (Rg xe c))) : PE X e (cB s0 (Rg xe c)) := pb_of h
noncomputable def xC (d : Dt) : Env → M Dt := fun _ => .ret d
theorem px_int {i : Int} {j : Nat} {pos : Pos} : PE X (.Constant (.int i) j pos) (cE s0 (Rg xe (xC (.int i)))) := peR pd_int fun ρ q z => z
theorem px_bl {b : Bool} {j : Nat} {pos : Pos} : PE X (.Constant (.bool b) j pos) (cE s0 (Rg xe (xC (.bl b)))) := peR pd_bl fun ρ q z => z
theorem px_non {j : Nat} {pos : Pos} : PE X (.Constant .none j pos) (cE s0 (Rg xe (xC .non))) := peR pd_non fun ρ q z => z
theorem px_str {z y : Str} {j : Nat} {pos : Pos} (h : z = y := by decide +kernel) : PE X (.Constant (.str z) j pos) (cE s0 (Rg xe (xC (.str y)))) := by subst h; exact peR pd_str fun ρ q z => z
theorem px_gint {x : Str} {i : Int} {pos : Pos} (hg : Gl X x) (hm : ∃ tk, X.mg x = some (.int i tk)) (hd : (x == ("__debug__" : Str)) = false := by decide) : PE X (.Name x pos) (cE s0 (Rg xe (xC (.int i)))) := peR (pd_gint hg hm hd) fun ρ q z => z
/-! ### two expressions -/
noncomputable def xOp (f : Dt → Dt → M Dt) (ca cb : Env → M Dt) : Env → M Dt := fun ρ => bd (ca ρ) fun x => bd (cb ρ) fun y => f x y
/-- code does what the reading asks -/
noncomputable def Sm (f : Dt → Dt → M Dt) (rd : Dt → Dt → (Dt → Prop) → Prop) : Prop := ∀ x y q (e : Xi → Prop), sat (f x y) q e → rd x y q
variable {f : Dt → Dt → M Dt} {r : R2} {rd : Dt → Dt → (Dt → Prop) → Prop}
theorem op_go (hf : Sm f rd) {ρ : Env} {q : Dt → Prop} (z : sat (xOp f ca cb ρ) q xe) : dOp rd (Rg xe ca) (Rg xe cb) ρ q :=
  (sat_bd.mp z).imp fun x z => (sat_bd.mp z).imp fun y z => hf x y q xe z
theorem px_op {op : Operator} (ho : OpR X (binaryOp op) r) (h : OpF r rd) (hf : Sm f rd) (ha : PE X a (cB s0 (Rg xe ca))) (hb : PE X b (cB s0 (Rg xe cb))) : PE X (.BinOp a op b pos) (cE s0 (Rg xe (xOp f ca cb))) := peR (pd_opF ho h ha hb) fun ρ q z => op_go hf z
theorem px_opN {op : Operator} (ho : OpR X (binaryOp op) r) (h : OpN r rd) (hf : Sm f rd) (ha : PE X a (cE s0 (Rg xe ca))) (hb : PE X b (cE s0 (Rg xe cb))) : PE X (.BinOp a op b pos) (cE s0 (Rg xe (xOp f ca cb))) := peR (pd_opN ho h ha hb) fun ρ q z => op_go hf z
theorem px_cmp {op : CmpOp} (ho : OpR X (compareOp op) r) (h : OpF r rd) (hf : Sm f rd) (ha : PE X a (cB s0 (Rg xe ca))) (hb : PE X b (cB s0 (Rg xe cb))) (hm : behindInMarks op b = false) : PE X (.Compare a [op] [b] pos) (cE s0 (Rg xe (xOp f ca cb))) := peR (pd_cmpB ho h ha hb hm) fun ρ q z => op_go hf z
/-- as a test -/
noncomputable def xB (c : Env → M Dt) : Env → M Bool := fun ρ => bd (c ρ) fun d => match d with | .bl b => .ret b | _ => .no
theorem b_go {ρ : Env} {q : Bool → Prop} (z : sat (xB c ρ) q xe) : dB (Rg xe c) ρ q := (sat_bd.mp z).imp fun d z => by
  cases d <;> exact z
theorem pxt_val (h : PE X e (cE s0 (Rg xe c))) (he : ∀ whole, isTrue e X.env whole = (do let v ← whole; standAt e.pos; holding [v] (truthy v)) := by intro _; rfl) : PT X e (cT s0 (Rg xe (xB c))) := ptR (pdt_val h he) fun ρ q z => b_go z
theorem pxt_cmp {op : CmpOp} (ho : OpR X (compareOp op) r) (h : OpF r rd) (hf : Sm f rd) (ha : PE X a (cB s0 (Rg xe ca))) (hb : PE X b (cB s0 (Rg xe cb))) (hm : behindInMarks op b = false) : PT X (.Compare a [op] [b] pos) (cT s0 (Rg xe (xB (xOp f ca cb)))) := ptR (pdt_cmpB ho h ha hb hm) fun ρ q z =>
  op_go hf ((sat_bd.mp z).imp fun d z => by cases d <;> exact z)
/-! ### and, or, not, if -/
variable {cs ct : Env → M Bool} {rest : List Expr}
noncomputable def xAnd (a b : Env → M Bool) : Env → M Bool := fun ρ => bd (a ρ) fun k => match k with | true => b ρ | false => .ret false
noncomputable def xOr (a b : Env → M Bool) : Env → M Bool := fun ρ => bd (a ρ) fun k => match k with | true => .ret true | false => b ρ
noncomputable def xNot (a : Env → M Bool) : Env → M Bool := fun ρ => bd (a ρ) fun k => .ret (!k)
theorem pxw_and1 (ha : PT X a (cT s0 (Rg xe cs))) : PW X (.BoolOp .And [a] pos) (cT s0 (Rg xe cs)) := pdw_and1 ha
theorem pxw_or1 (ha : PT X a (cT s0 (Rg xe cs))) : PW X (.BoolOp .Or [a] pos) (cT s0 (Rg xe cs)) := pdw_or1 ha
theorem pxw_and (ha : PT X a (cT s0 (Rg xe cs))) (hb : PW X (.BoolOp .And (b :: rest) pos) (cT s0 (Rg xe ct))) : PW X (.BoolOp .And (a :: b :: rest) pos) (cT s0 (Rg xe (xAnd cs ct))) := pwR (pdw_and ha hb) fun ρ q z => (sat_bd.mp z).imp fun k z => by
  cases k with
  | true => rw [if_pos rfl]; exact z
  | false => rw [if_neg Bool.false_ne_true]; exact z
theorem pxw_or (ha : PT X a (cT s0 (Rg xe cs))) (hb : PW X (.BoolOp .Or (b :: rest) pos) (cT s0 (Rg xe ct))) : PW X (.BoolOp .Or (a :: b :: rest) pos) (cT s0 (Rg xe (xOr cs ct))) := pwR (pdw_or ha hb) fun ρ q z => (sat_bd.mp z).imp fun k z => by
  cases k with
  | true => rw [if_pos rfl]; exact z
  | false => rw [if_neg Bool.false_ne_true]; exact z
theorem pxt_not (ha : PT X a (cT s0 (Rg xe cs))) : PT X (.UnaryOp .Not a pos) (cT s0 (Rg xe (xNot cs))) := ptR (pdt_not ha) fun ρ q z => (sat_bd.mp z).imp fun k z => z
noncomputable def xAndV (a b : Env → M Dt) : Env → M Dt := fun ρ => bd (a ρ) fun k => match k with | .bl true => b ρ | .bl false => .ret (.bl false) | _ => .no
noncomputable def xOrV (a b : Env → M Dt) : Env → M Dt := fun ρ => bd (a ρ) fun k => match k with | .bl true => .ret (.bl true) | .bl false => b ρ | _ => .no
noncomputable def xNotV (a : Env → M Dt) : Env → M Dt := fun ρ => bd (a ρ) fun k => match k with | .bl b => .ret (.bl (!b)) | _ => .no
theorem px_one {op : BoolOp} (h : PE X a (cE s0 (Rg xe ca))) : PE X (.BoolOp op [a] pos) (cE s0 (Rg xe ca)) := pd_one h
theorem px_and (ha : PE X a (cE s0 (Rg xe ca))) (hb : PE X (.BoolOp .And (b :: rest) pos) (cE s0 (Rg xe cb))) : PE X (.BoolOp .And (a :: b :: rest) pos) (cE s0 (Rg xe (xAndV ca cb))) := peR (pd_and ha hb) fun ρ q z => (sat_bd.mp z).imp fun k z => by
  cases k with
  | bl k =>
    cases k with
    | true => exact z
    | false => exact z
  | _ => exact z
theorem px_or (ha : PE X a (cE s0 (Rg xe ca))) (hb : PE X (.BoolOp .Or (b :: rest) pos) (cE s0 (Rg xe cb))) : PE X (.BoolOp .Or (a :: b :: rest) pos) (cE s0 (Rg xe (xOrV ca cb))) := peR (pd_or ha hb) fun ρ q z => (sat_bd.mp z).imp fun k z => by
  cases k with
  | bl k =>
    cases k with
    | true => exact z
    | false => exact z
  | _ => exact z
theorem px_not (ha : PE X a (cE s0 (Rg xe ca))) : PE X (.UnaryOp .Not a pos) (cE s0 (Rg xe (xNotV ca))) := peR (pd_not ha) fun ρ q z => (sat_bd.mp z).imp fun k z => by
  cases k <;> exact z
noncomputable def xIfE (t : Env → M Bool) (a b : Env → M Dt) : Env → M Dt := fun ρ => bd (t ρ) fun k => match k with | true => a ρ | false => b ρ
theorem px_ifExp {c : Expr} (hc : PT X c (cT s0 (Rg xe ct))) (ha : PE X a (cE s0 (Rg xe ca))) (hb : PE X b (cE s0 (Rg xe cb))) : PE X (.IfExp c a b pos) (cE s0 (Rg xe (xIfE ct ca cb))) := peR (pd_ifExp hc ha hb) fun ρ q z => (sat_bd.mp z).imp fun k z => by
  cases k with
  | true => rw [if_pos rfl]; exact z
  | false => rw [if_neg Bool.false_ne_true]; exact z
/-! ### arguments, displays -/
noncomputable def xNil : Env → M (List Dt) := fun _ => .ret []
noncomputable def xCons (c : Env → M Dt) (r : Env → M (List Dt)) : Env → M (List Dt) := fun ρ => bd (c ρ) fun d => bd (r ρ) fun ds => .ret (d :: ds)
theorem pxa_nil : PA X [] (cA s0 0 (Rg xe xNil)) := paR pda_nil fun ρ q z => z
theorem pxa_cons (ha : PE X e (cE s0 (Rg xe c))) (hr : PA X es (cA s0 n (Rg xe cAA))) (hs : starEach (e :: es) X.env = (false, eval e X.env) :: starEach es X.env := by rfl) : PA X (e :: es) (cA s0 (n + 1) (Rg xe (xCons c cAA))) := paR (pda_cons ha hr hs) fun ρ q z => (sat_bd.mp z).imp fun d z => (sat_bd.mp z).imp fun ds z => z
theorem pxba_nil : PA X [] (cBA s0 0 (Rg xe xNil)) := pbaR pba_nil fun ρ q z => z
theorem pxba_cons (ha : PE X e (cB s0 (Rg xe c))) (hr : PA X es (cBA s0 n (Rg xe cAA))) (hs : starEach (e :: es) X.env = (false, eval e X.env) :: starEach es X.env := by rfl) : PA X (e :: es) (cBA s0 (n + 1) (Rg xe (xCons c cAA))) := pbaR (pba_cons ha hr hs) fun ρ q z => (sat_bd.mp z).imp fun d z => (sat_bd.mp z).imp fun ds z => z
noncomputable def xTup (c : Env → M (List Dt)) : Env → M Dt := fun ρ => bd (c ρ) fun ds => .ret (.tup ds)
noncomputable def xL (c : Env → M (List Dt)) : Env → M Dt := fun ρ => bd (c ρ) fun ds => .ret (.lst ds)
theorem px_tup {x1 : Nat} (h : PA X es (cA s0 n (Rg xe cAA))) (hl : n ≤ sizeLine := by decide) : PE X (.Tuple es x1 pos) (cE s0 (Rg xe (xTup cAA))) := peR (pd_tup h hl) fun ρ q z => (sat_bd.mp z).imp fun d z => z
theorem pxo_lst (h : PA X es (cA s0 n (Rg xe cAA))) (hl : n ≤ sizeLine := by decide) : PE X (.List es pos) (cO s0 (Rg xe cAA)) := po_lst h hl
theorem px_ice (h : PE X e (cO s0 (Rg xe cAA))) : PE X e (cE s0 (Rg xe (xL cAA))) := peR (pd_ice h) fun ρ q z => (sat_bd.mp z).imp fun d z => z
/-! ### built-ins -/
variable {x : Str} {p : Pos} {rr : List V → Hp → VK → Prop} {rdd : List Dt → (Dt → Prop) → Prop} {ro : List Dt → (List Dt → Prop) → Prop} {id T : String} {g : List Dt → M Dt} {go : List Dt → M (List Dt)}
noncomputable def Sc (g : List Dt → M Dt) (rd : List Dt → (Dt → Prop) → Prop) : Prop := ∀ ds q (e : Xi → Prop), sat (g ds) q e → rd ds q
noncomputable def So (g : List Dt → M (List Dt)) (rd : List Dt → (List Dt → Prop) → Prop) : Prop := ∀ ds q (e : Xi → Prop), sat (g ds) q e → rd ds q
noncomputable def xCB {α : Type} (g : List Dt → M α) (c : Env → M (List Dt)) : Env → M α := fun ρ => bd (c ρ) g
theorem px_callB (hc : CallR X (.builtin id) rr) (h : CallF rr rdd) (hf : Sc g rdd) (hg : Gl X x) (hm : X.mg x = none) (hv : bootBuiltins x = some (.builtin id)) (ha : PA X (e :: es) (cBA s0 n (Rg xe cAA))) (hn : x ≠ "__name__" := by decide) (hdb : (x == ("__debug__" : Str)) = false := by decide)
    (he : starEach (e :: es) X.env = (false, eval e X.env) :: starEach es X.env := by rfl) (hpl : (backTo pos (starEach es X.env)).any (·.1) = false := by rfl) : PE X (.Call (.Name x p) (e :: es) [] pos) (cE s0 (Rg xe (xCB g cAA))) := peR (pd_callB hc h hg hm hv ha hn hdb he hpl) fun ρ q z => (sat_bd.mp z).imp fun ds z => hf ds q xe z
theorem px_callBN (hc : CallR X (.builtin id) rr) (h : CallN rr rdd) (hf : Sc g rdd) (hg : Gl X x) (hm : X.mg x = none) (hv : bootBuiltins x = some (.builtin id)) (ha : PA X (e :: es) (cA s0 n (Rg xe cAA))) (hn : x ≠ "__name__" := by decide) (hdb : (x == ("__debug__" : Str)) = false := by decide)
    (he : starEach (e :: es) X.env = (false, eval e X.env) :: starEach es X.env := by rfl) (hpl : (backTo pos (starEach es X.env)).any (·.1) = false := by rfl) : PE X (.Call (.Name x p) (e :: es) [] pos) (cE s0 (Rg xe (xCB g cAA))) := peR (pd_callBN hc h hg hm hv ha hn hdb he hpl) fun ρ q z => (sat_bd.mp z).imp fun ds z => hf ds q xe z
theorem pxo_callB (hc : CallR X (.builtin id) rr) (h : CallO rr ro) (hf : So go ro) (hg : Gl X x) (hm : X.mg x = none) (hv : bootBuiltins x = some (.builtin id)) (ha : PA X (e :: es) (cA s0 n (Rg xe cAA))) (hn : x ≠ "__name__" := by decide) (hdb : (x == ("__debug__" : Str)) = false := by decide)
    (he : starEach (e :: es) X.env = (false, eval e X.env) :: starEach es X.env := by rfl) (hpl : (backTo pos (starEach es X.env)).any (·.1) = false := by rfl) : PE X (.Call (.Name x p) (e :: es) [] pos) (cO s0 (Rg xe (xCB go cAA))) := poR (po_callB hc h hg hm hv ha hn hdb he hpl) fun ρ q z => (sat_bd.mp z).imp fun ds z => hf ds q xe z
theorem px_callTy (hc : CallR X (.type T) rr) (h : CallF rr rdd) (hf : Sc g rdd) (hg : Gl X x) (hm : X.mg x = none) (hv : bootBuiltins x = some (.type T)) (ha : PA X (e :: es) (cBA s0 n (Rg xe cAA))) (hn : x ≠ "__name__" := by decide) (hdb : (x == ("__debug__" : Str)) = false := by decide)
    (he : starEach (e :: es) X.env = (false, eval e X.env) :: starEach es X.env := by rfl) (hpl : (backTo pos (starEach es X.env)).any (·.1) = false := by rfl) : PE X (.Call (.Name x p) (e :: es) [] pos) (cE s0 (Rg xe (xCB g cAA))) := peR (pd_callTy hc h hg hm hv ha hn hdb he hpl) fun ρ q z => (sat_bd.mp z).imp fun ds z => hf ds q xe z
theorem px_callTyN (hc : CallR X (.type T) rr) (h : CallN rr rdd) (hf : Sc g rdd) (hg : Gl X x) (hm : X.mg x = none) (hv : bootBuiltins x = some (.type T)) (ha : PA X (e :: es) (cA s0 n (Rg xe cAA))) (hn : x ≠ "__name__" := by decide) (hdb : (x == ("__debug__" : Str)) = false := by decide)
    (he : starEach (e :: es) X.env = (false, eval e X.env) :: starEach es X.env := by rfl) (hpl : (backTo pos (starEach es X.env)).any (·.1) = false := by rfl) : PE X (.Call (.Name x p) (e :: es) [] pos) (cE s0 (Rg xe (xCB g cAA))) := peR (pd_callTyN hc h hg hm hv ha hn hdb he hpl) fun ρ q z => (sat_bd.mp z).imp fun ds z => hf ds q xe z
theorem pxo_callTy (hc : CallR X (.type T) rr) (h : CallO rr ro) (hf : So go ro) (hg : Gl X x) (hm : X.mg x = none) (hv : bootBuiltins x = some (.type T)) (ha : PA X (e :: es) (cA s0 n (Rg xe cAA))) (hn : x ≠ "__name__" := by decide) (hdb : (x == ("__debug__" : Str)) = false := by decide)
    (he : starEach (e :: es) X.env = (false, eval e X.env) :: starEach es X.env := by rfl) (hpl : (backTo pos (starEach es X.env)).any (·.1) = false := by rfl) : PE X (.Call (.Name x p) (e :: es) [] pos) (cO s0 (Rg xe (xCB go cAA))) := poR (po_callTy hc h hg hm hv ha hn hdb he hpl) fun ρ q z => (sat_bd.mp z).imp fun ds z => hf ds q xe z
/-! ### slices, -x, chains -/
noncomputable def xNoP : Env → M (Option Int) := fun _ => .ret none
noncomputable def xP (c : Env → M Dt) : Env → M (Option Int) := fun ρ => bd (c ρ) fun d => match d with | .int i => .ret (some i) | _ => .no
variable {cl cu : Env → M (Option Int)} {lo hi : Option Expr} {p2 : Pos}
theorem pxp_none : PO X none (cP s0 (Rg xe xNoP)) := ppR pdp_none fun ρ q z => z
theorem pxp_some (h : PE X e (cE s0 (Rg xe c))) : PO X (some e) (cP s0 (Rg xe (xP c))) := ppR (pdp_some h) fun ρ q z => (sat_bd.mp z).imp fun d z => by cases d <;> exact z
noncomputable def xSl (g : Dt → Option Int → Option Int → M Dt) (c : Env → M Dt) (cl cu : Env → M (Option Int)) : Env → M Dt := fun ρ => bd (c ρ) fun x => bd (cl ρ) fun l => bd (cu ρ) fun u => g x l u
noncomputable def gSlT (x : Dt) (l u : Option Int) : M Dt := match x with | .tup xs => .ret (.tup (cutG xs l u)) | _ => .no
theorem px_slT (he : PE X e (cE s0 (Rg xe c))) (hl : PO X lo (cP s0 (Rg xe cl))) (hu : PO X hi (cP s0 (Rg xe cu))) : PE X (.Subscript e (.Slice lo hi none p2) pos) (cE s0 (Rg xe (xSl gSlT c cl cu))) := peR (pd_slT he hl hu) fun ρ q z => (sat_bd.mp z).imp fun x z => (sat_bd.mp z).imp fun l z => (sat_bd.mp z).imp fun u z => by cases x <;> exact z
noncomputable def szB (n : Nat) : Bool := Nat.ble n 16777216
theorem szB_ok {n : Nat} (h : szB n = true) : n ≤ sizeLine := by
  have := Nat.le_of_ble_eq_true h
  rw [sizeLine_eq]; exact this
noncomputable def szS (z : Str) : Bool := Nat.ble (lenL z.cps.toList) 16777216
theorem szS_ok {z : Str} (h : szS z = true) : z.length ≤ sizeLine := by
  unfold szS at h
  rw [lenL_eq, Array.length_toList] at h
  exact szB_ok h
noncomputable def cutL (l : List Nat) (n : Nat) (lo hi : Option Int) : List Nat := tkL (HT.sIx n n hi - HT.sIx n 0 lo) (drL (HT.sIx n 0 lo) l)
noncomputable def cutF (z : Str) (lo hi : Option Int) : Str := ⟨⟨cutL z.cps.toList (lenL z.cps.toList) lo hi⟩⟩
theorem cutF_eq (z : Str) (lo hi : Option Int) : cutF z lo hi = cutS z lo hi := by
  unfold cutF cutS cutL
  rw [lenL_eq, tkL_eq, drL_eq, Array.length_toList]
  rfl
noncomputable def gSlS (x : Dt) (l u : Option Int) : M Dt := match x with | .str z => gd (szS z) (.ret (.str (cutF z l u))) | _ => .no
theorem px_slS (he : PE X e (cE s0 (Rg xe c))) (hl : PO X lo (cP s0 (Rg xe cl))) (hu : PO X hi (cP s0 (Rg xe cu))) : PE X (.Subscript e (.Slice lo hi none p2) pos) (cE s0 (Rg xe (xSl gSlS c cl cu))) := peR (pd_slS he hl hu) fun ρ q z => (sat_bd.mp z).imp fun x z => (sat_bd.mp z).imp fun l z => (sat_bd.mp z).imp fun u z => by
  cases x with
  | str x => have := sat_gd z; rw [cutF_eq] at this; exact ⟨szS_ok this.1, this.2⟩
  | _ => exact z
noncomputable def xSlL (c : Env → M Dt) (cl cu : Env → M (Option Int)) : Env → M (List Dt) := fun ρ => bd (c ρ) fun x => bd (cl ρ) fun l => bd (cu ρ) fun u => match x with | .lst xs => .ret (cutG xs l u) | _ => .no
theorem pxo_slL (he : PE X e (cE s0 (Rg xe c))) (hl : PO X lo (cP s0 (Rg xe cl))) (hu : PO X hi (cP s0 (Rg xe cu))) : PE X (.Subscript e (.Slice lo hi none p2) pos) (cO s0 (Rg xe (xSlL c cl cu))) := poR (po_slL he hl hu) fun ρ q z => (sat_bd.mp z).imp fun x z => (sat_bd.mp z).imp fun l z => (sat_bd.mp z).imp fun u z => by cases x <;> exact z
noncomputable def xRevL (c : Env → M Dt) : Env → M (List Dt) := fun ρ => bd (c ρ) fun x => match x with | .lst xs => .ret xs.reverse | _ => .no
theorem pxo_revL {k : Nat} {p1 p3 : Pos} (he : PE X e (cE s0 (Rg xe c))) : PE X (.Subscript e (.Slice none none (some (.UnaryOp .USub (.Constant (.int 1) k p1) p2)) p3) pos) (cO s0 (Rg xe (xRevL c))) := poR (po_revL he) fun ρ q z => (sat_bd.mp z).imp fun x z => by cases x <;> exact z
noncomputable def xNeg (c : Env → M Dt) : Env → M Dt := fun ρ => bd (c ρ) fun x => match x with | .int i => .ret (.int (-i)) | _ => .no
theorem px_neg (he : PE X e (cE s0 (Rg xe c))) : PE X (.UnaryOp .USub e pos) (cE s0 (Rg xe (xNeg c))) := peR (pd_neg he) fun ρ q z => (sat_bd.mp z).imp fun x z => by cases x <;> exact z
noncomputable def xChain (f f' : Dt → Dt → M Dt) (ca cb cc : Env → M Dt) : Env → M Bool := fun ρ => bd (ca ρ) fun x => bd (cb ρ) fun y => bd (noX (f x y)) fun z => match z with | .bl true => bd (cc ρ) fun w => bd (noX (f' y w)) fun v => (match v with | .bl b => .ret b | _ => .no) | .bl false => .ret false | _ => .no
theorem pxt_chain {c : Expr} {f' : Dt → Dt → M Dt} {op op' : CmpOp} {r' : R2} {rd' : Dt → Dt → (Dt → Prop) → Prop} (ho : OpR X (compareOp op) r) (ho' : OpR X (compareOp op') r') (h : OpF r rd) (h' : OpF r' rd') (hf : Sm f rd) (hf' : Sm f' rd') (ha : PE X a (cE s0 (Rg xe ca))) (hb : PE X b (cE s0 (Rg xe cb))) (hc : PE X c (cE s0 (Rg xe cc)))
    (hm : lastMarks [op, op'] [b, c] = false := by with_unfolding_all rfl) : PT X (.Compare a [op, op'] [b, c] pos) (cT s0 (Rg xe (xChain f f' ca cb cc))) := ptR (pdt_chain ho ho' h h' ha hb hc hm) fun ρ q z => (sat_bd.mp z).imp fun x z => (sat_bd.mp z).imp fun y z => hf x y _ xe (sat_noX ((sat_bd.mp z).imp fun k z => by
    cases k with
    | bl k =>
      cases k with
      | true =>
        exact (if_pos rfl).mpr ((sat_bd.mp z).imp fun w z => hf' y w _ xe (sat_noX ((sat_bd.mp z).imp fun v z => by cases v <;> exact z)))
      | false => exact z
    | _ => exact z))
end
end Xe
/-! code over data: operators, built-ins, walks, comprehensions, statements, defs -/
namespace Xe
open PySem hiding Env
open PySem.Spec PyProof.Rows L2 Dl
/-! ### operators -/
noncomputable def fI (g : Int → Int → Dt) : Dt → Dt → M Dt := fun x y => match x, y with | .int i, .int j => .ret (g i j) | _, _ => .no
theorem sm_I {g : Int → Int → Dt} : Sm (fI g) (dI g) := fun x y q e z => by cases x <;> cases y <;> exact z
noncomputable def fIC (C : Int → Int → Bool) (g : Int → Int → Dt) : Dt → Dt → M Dt := fun x y => match x, y with | .int i, .int j => gd (C i j) (.ret (g i j)) | _, _ => .no
theorem sm_IC {C : Int → Int → Bool} {P : Int → Int → Prop} {g : Int → Int → Dt} (h : ∀ i j, C i j = true → P i j) : Sm (fIC C g) (dIC P g) := fun x y q e z => by
  cases x with
  | int i =>
    cases y with
    | int j => have := sat_gd z; exact ⟨h i j this.1, this.2⟩
    | _ => exact z
  | _ => cases y <;> exact z
noncomputable abbrev gAdd : Int → Int → Dt := fun i j => .int (i + j)
noncomputable abbrev gSub : Int → Int → Dt := fun i j => .int (i - j)
noncomputable abbrev gMul : Int → Int → Dt := fun i j => .int (i * j)
noncomputable abbrev gDiv : Int → Int → Dt := fun i j => .int (i / j)
noncomputable abbrev gMod : Int → Int → Dt := fun i j => .int (i % j)
noncomputable abbrev gLt : Int → Int → Dt := fun i j => .bl (decide (i < j))
noncomputable abbrev gLe : Int → Int → Dt := fun i j => .bl (decide (i ≤ j))
noncomputable abbrev gGt : Int → Int → Dt := fun i j => .bl (decide (j < i))
noncomputable abbrev gGe : Int → Int → Dt := fun i j => .bl (decide (j ≤ i))
noncomputable def cMul (i j : Int) : Bool := Nat.blt i.natAbs 18446744073709551616 || Nat.blt j.natAbs 18446744073709551616
theorem cMul_ok (i j : Int) (h : cMul i j = true) : CMul i j := by
  unfold cMul at h
  rw [Bool.or_eq_true] at h
  rcases h with h | h
  · have : i.natAbs < 18446744073709551616 := Nat.le_of_ble_eq_true h
    exact .inl ⟨by omega, by omega⟩
  · have : j.natAbs < 18446744073709551616 := Nat.le_of_ble_eq_true h
    exact .inr ⟨by omega, by omega⟩
noncomputable def cDiv (i j : Int) : Bool := decide (0 < j) && decide (j < 1073741824)
theorem cDiv_ok (i j : Int) (h : cDiv i j = true) : CDiv i j := by
  unfold cDiv at h
  rw [Bool.and_eq_true] at h
  exact ⟨of_decide_eq_true h.1, of_decide_eq_true h.2⟩
noncomputable def cMod (_ j : Int) : Bool := decide (0 < j)
theorem cMod_ok (i j : Int) (h : cMod i j = true) : 0 < j := of_decide_eq_true h
theorem sm_mul : Sm (fIC cMul gMul) (dIC CMul gMul) := sm_IC cMul_ok
theorem sm_fdiv : Sm (fIC cDiv gDiv) (dIC CDiv gDiv) := sm_IC cDiv_ok
theorem sm_mod : Sm (fIC cMod gMod) (dIC (fun _ j => 0 < j) gMod) := sm_IC cMod_ok
/-- two texts are the same -/
noncomputable def eqL (a b : List Nat) : Bool := List.rec (motive := fun _ => List Nat → Bool) (fun b => match b with | [] => true | _ :: _ => false) (fun x _ ih b => match b with | [] => false | y :: s => (match Nat.beq x y with | true => ih s | false => false)) a b
theorem eqL_cons (a b : Nat) (r s : List Nat) : eqL (a :: r) (b :: s) = (Nat.beq a b && eqL r s) := by
  show (match Nat.beq a b with | true => eqL r s | false => false) = _
  cases Nat.beq a b <;> rfl
theorem eqL_eq : ∀ a b : List Nat, eqL a b = decide (a = b)
  | [], [] => rfl
  | [], _ :: _ => by show false = _; simp
  | _ :: _, [] => by show false = _; simp
  | a :: r, b :: s => by
    rw [eqL_cons, eqL_eq r s]
    by_cases h : a = b
    · subst h
      rw [Nat.beq_refl, Bool.true_and]
      exact (dec_inj (f := fun r => a :: r) (fun _ _ z => by injection z) r s).symm
    · have : Nat.beq a b = false := by
        cases z : Nat.beq a b with
        | false => rfl
        | true => exact absurd (Nat.eq_of_beq_eq_true z) h
      rw [this, Bool.false_and, decide_eq_false]
      intro z
      injection z with z1
      exact h z1
noncomputable def eqs (a b : Str) : Bool := eqL a.cps.toList b.cps.toList
theorem str_inj {a b : Str} (h : a.cps.toList = b.cps.toList) : a = b := by
  cases a with
  | mk a =>
    cases b with
    | mk b =>
      cases a; cases b
      have h : _ = _ := h
      subst h
      rfl
theorem eqs_eq (a b : Str) : eqs a b = decide (a = b) := by
  unfold eqs
  rw [eqL_eq]
  by_cases h : a = b
  · subst h; simp
  · rw [decide_eq_false h, decide_eq_false]
    exact fun z => h (str_inj z)
noncomputable def fEqS (n : Bool) : Dt → Dt → M Dt := fun x y => match x, y with | .int i, .int j => .ret (.bl (n != decide (i = j))) | .str i, .str j => .ret (.bl (n != eqs i j)) | .bl i, .bl j => .ret (.bl (n != decide (i = j))) | _, _ => .no
theorem sm_eqS {n : Bool} : Sm (fEqS n) (dEqS n) := fun x y q e z => by
  cases x with
  | str i =>
    cases y with
    | str j =>
      have z : q (.bl (n != eqs i j)) := z
      rw [eqs_eq] at z
      exact z
    | _ => exact z
  | _ => cases y <;> exact z
mutual
noncomputable def eqd : Dt → Dt → Bool
  | .non, y => (match y with | .non => true | _ => false)
  | .bl a, y => (match y with | .bl b => a == b | .int j => decide ((if a then 1 else 0) = j) | _ => false)
  | .int i, y => (match y with | .bl b => decide (i = (if b then 1 else 0)) | .int j => decide (i = j) | _ => false)
  | .str a, y => (match y with | .str b => eqs a b | _ => false)
  | .lst xs, y => (match y with | .lst ys => eqds xs ys | _ => false)
  | .tup xs, y => (match y with | .tup ys => eqds xs ys | _ => false)
  | _, _ => false
noncomputable def eqds : List Dt → List Dt → Bool
  | [], y => (match y with | [] => true | _ :: _ => false)
  | d :: r, y => (match y with | [] => false | b :: s => eqd d b && eqds r s)
end
theorem beq_dec {α : Type} [DecidableEq α] (a b : α) : (a == b) = decide (a = b) := rfl
mutual
theorem eqd_eq : ∀ x y : Dt, pl x = true → pl y = true → eqd x y = deq x y
  | .non, y, _, hy => by unfold deq; cases y <;> first | rfl | cases hy
  | .bl a, y, _, hy => by
    unfold deq
    cases y with
    | bl b => rfl
    | int j => simp only [eqd, py, PyData.eqv]; rfl
    | _ => first | rfl | cases hy
  | .int i, y, _, hy => by
    unfold deq
    cases y with
    | bl b => simp only [eqd, py, PyData.eqv]; rfl
    | int j => simp only [eqd, py, PyData.eqv]; rfl
    | _ => first | rfl | cases hy
  | .str i, y, _, hy => by
    unfold deq
    cases y with
    | str j =>
      show eqs i j = (i == j)
      rw [eqs_eq]
      exact (beq_dec i j).symm
    | _ => first | rfl | cases hy
  | .lst xs, y, hx, hy => by
    unfold deq
    cases y with
    | lst ys => exact eqds_eq xs ys hx hy
    | _ => first | rfl | cases hy
  | .tup xs, y, hx, hy => by
    unfold deq
    cases y with
    | tup ys => exact eqds_eq xs ys hx hy
    | _ => first | rfl | cases hy
  | .dic _, _, hx, _ => nomatch hx
  | .die, _, hx, _ => nomatch hx
  | .scr _, _, hx, _ => nomatch hx
  | .opq _, _, hx, _ => nomatch hx
theorem eqds_eq : ∀ x y : List Dt, pls x = true → pls y = true → eqds x y = PyData.eqvAll (pys x) (pys y)
  | [], [], _, _ => rfl
  | [], _ :: _, _, _ => rfl
  | _ :: _, [], _, _ => rfl
  | d :: r, b :: s, hx, hy => by
    have h1 : pl d = true ∧ pls r = true := by simpa [pls] using hx
    have h2 : pl b = true ∧ pls s = true := by simpa [pls] using hy
    show (eqd d b && eqds r s) = _
    rw [eqd_eq d b h1.1 h2.1, eqds_eq r s h1.2 h2.2]
    rfl
end
/-- plain data, so deep at most -/
noncomputable def pld : Nat → Dt → Bool
  | n, d => Nat.rec (motive := fun _ => Dt → Bool) (fun d => match d with | .non => true | .bl _ => true | .int _ => true | .str _ => true | _ => false)
    (fun _ ih d => match d with | .non => true | .bl _ => true | .int _ => true | .str _ => true | .lst xs => xs.all ih | .tup xs => xs.all ih | _ => false) n d
theorem depthAll_le {n : Nat} : ∀ {xs : List Dt}, (∀ x ∈ xs, dep x ≤ n) → PyData.depthAll (pys xs) ≤ n
  | [], _ => Nat.zero_le _
  | d :: r, h => by
    show PyData.depthAll (py d :: pys r) ≤ n
    unfold PyData.depthAll
    exact Nat.max_le.mpr ⟨h d List.mem_cons_self, depthAll_le fun x hx => h x (List.mem_cons_of_mem _ hx)⟩
theorem pls_of : ∀ {xs : List Dt}, (∀ x ∈ xs, pl x = true) → pls xs = true
  | [], _ => rfl
  | d :: r, h => by
    show (pl d && pls r) = true
    rw [h d List.mem_cons_self, pls_of fun x hx => h x (List.mem_cons_of_mem _ hx)]
    rfl
theorem pld_ok : ∀ (n : Nat) (d : Dt), pld n d = true → pl d = true ∧ dep d ≤ n
  | 0, d, h => by
    cases d <;> first | exact ⟨rfl, Nat.zero_le _⟩ | exact nomatch h
  | n + 1, d, h => by
    have key : ∀ xs : List Dt, xs.all (pld n) = true → pls xs = true ∧ PyData.depthAll (pys xs) ≤ n := fun xs h => by
      have h := List.all_eq_true.mp h
      exact ⟨pls_of fun x hx => (pld_ok n x (h x hx)).1, depthAll_le fun x hx => (pld_ok n x (h x hx)).2⟩
    cases d with
    | lst xs =>
      obtain ⟨h1, h2⟩ := key xs h
      refine ⟨h1, ?_⟩
      show PyData.depth (.list (pys xs)) ≤ n + 1
      unfold PyData.depth
      omega
    | tup xs =>
      obtain ⟨h1, h2⟩ := key xs h
      refine ⟨h1, ?_⟩
      show PyData.depth (.tuple (pys xs)) ≤ n + 1
      unfold PyData.depth
      omega
    | _ => first | exact ⟨rfl, Nat.zero_le _⟩ | exact nomatch h
noncomputable def fEqP (n : Bool) : Dt → Dt → M Dt := fun x y => gd (pld 12 x && pld 12 y) (.ret (.bl (n != eqd x y)))
theorem sm_eqP {n : Bool} : Sm (fEqP n) (dEqP n) := fun x y q e z => by
  obtain ⟨h, z⟩ := sat_gd z
  rw [Bool.and_eq_true] at h
  obtain ⟨h1, d1⟩ := pld_ok _ _ h.1
  obtain ⟨h2, d2⟩ := pld_ok _ _ h.2
  have z : q (.bl (n != eqd x y)) := z
  rw [eqd_eq x y h1 h2] at z
  exact ⟨h1, h2, by omega, z⟩
noncomputable def fIsB (n : Bool) : Dt → Dt → M Dt := fun x y => match x, y with | .bl i, .bl j => .ret (.bl (n != decide (i = j))) | _, _ => .no
theorem sm_isB {n : Bool} : Sm (fIsB n) (dIsB n) := fun x y q e z => by cases x <;> cases y <;> exact z
/-- an item -/
noncomputable def fIx : Dt → Dt → M Dt := fun x y => match x, y with
  | .lst ds, .int k => ofO (atL ds k)
  | .tup ds, .int k => ofO (atL ds k)
  | .str z, .int k => gd (szS z) (match atL z.cps.toList k with | some c => .ret (.str ⟨#[c]⟩) | none => .no)
  | _, _ => .no
theorem sat_ofO {α : Type} {o : Option α} {q : α → Prop} {e : Xi → Prop} (h : sat (ofO o) q e) : ∃ d, o = some d ∧ q d := by
  cases o with
  | none => exact h.elim
  | some d => exact ⟨d, rfl, h⟩
theorem sm_ix : Sm fIx dIx := fun x y q e z => by
  cases x with
  | lst ds =>
    cases y with
    | int k => have z : sat (ofO (atL ds k)) q e := z; rw [atL_eq] at z; exact sat_ofO z
    | _ => exact z
  | tup ds =>
    cases y with
    | int k => have z : sat (ofO (atL ds k)) q e := z; rw [atL_eq] at z; exact sat_ofO z
    | _ => exact z
  | str s =>
    cases y with
    | int k =>
      obtain ⟨h, z⟩ := sat_gd z
      refine ⟨szS_ok h, ?_⟩
      rw [atL_eq] at z
      cases w : L2.atI s.cps.toList k with
      | none => rw [w] at z; exact z.elim
      | some c => rw [w] at z; exact ⟨c, rfl, z⟩
    | _ => exact z
  | _ => cases y <;> exact z
/-- texts -/
noncomputable def apS (i j : Str) : Str := ⟨⟨apL i.cps.toList j.cps.toList⟩⟩
theorem apS_eq (i j : Str) : apS i j = i ++ j := str_inj (by
  show apL i.cps.toList j.cps.toList = (i.cps ++ j.cps).toList
  rw [apL_eq, Array.toList_append])
noncomputable def fAddS : Dt → Dt → M Dt := fun x y => match x, y with | .str i, .str j => gd (szB (lenL i.cps.toList + lenL j.cps.toList)) (.ret (.str (apS i j))) | _, _ => .no
theorem sm_addS : Sm fAddS (dSS (fun i j => i.length + j.length ≤ sizeLine) fun i j => .str (i ++ j)) := fun x y q e z => by
  cases x with
  | str i =>
    cases y with
    | str j =>
      obtain ⟨h, z⟩ := sat_gd z
      rw [lenL_eq, lenL_eq, Array.length_toList, Array.length_toList] at h
      have z : q (.str (apS i j)) := z
      rw [apS_eq] at z
      exact ⟨szB_ok h, z⟩
    | _ => exact z
  | _ => cases y <;> exact z
noncomputable def ltL (a b : List Nat) : Bool := List.rec (motive := fun _ => List Nat → Bool) (fun b => match b with | [] => false | _ :: _ => true) (fun x _ ih b => match b with | [] => false | y :: s => (match Nat.blt x y with | true => true | false => (match Nat.beq x y with | true => ih s | false => false))) a b
theorem ltL_cons (a b : Nat) (r s : List Nat) : ltL (a :: r) (b :: s) = (Nat.blt a b || (Nat.beq a b && ltL r s)) := by
  show (match Nat.blt a b with | true => true | false => (match Nat.beq a b with | true => ltL r s | false => false)) = _
  cases Nat.blt a b <;> cases Nat.beq a b <;> rfl
theorem ltL_eq : ∀ a b : List Nat, ltL a b = decide (a < b)
  | [], [] => rfl
  | [], _ :: _ => by show true = _; simp
  | _ :: _, [] => by show false = _; simp
  | a :: r, b :: s => by
    rw [ltL_cons, ltL_eq r s]
    have h1 : Nat.blt a b = decide (a < b) := by
      by_cases h : a < b
      · rw [decide_eq_true h]; exact Nat.ble_eq_true_of_le h
      · rw [decide_eq_false h]
        cases z : Nat.blt a b with
        | false => rfl
        | true => exact absurd (Nat.le_of_ble_eq_true z) h
    have h2 : Nat.beq a b = decide (a = b) := by
      by_cases h : a = b
      · subst h; simp
      · rw [decide_eq_false h]
        cases z : Nat.beq a b with
        | false => rfl
        | true => exact absurd (Nat.eq_of_beq_eq_true z) h
    rw [h1, h2]
    simp only [List.cons_lt_cons_iff, Bool.decide_or, Bool.decide_and]
noncomputable def ltT (i j : Str) : Bool := ltL i.cps.toList j.cps.toList
theorem ltT_eq (i j : Str) : ltT i j = ltS i j := ltL_eq _ _
noncomputable def fS0 (g : Str → Str → Bool) : Dt → Dt → M Dt := fun x y => match x, y with | .str i, .str j => .ret (.bl (g i j)) | _, _ => .no
theorem sm_S0 {g h : Str → Str → Bool} (e : ∀ i j, g i j = h i j) : Sm (fS0 g) (dS0 fun i j => .bl (h i j)) := fun x y q _ z => by
  cases x with
  | str i =>
    cases y with
    | str j =>
      have z : q (.bl (g i j)) := z
      rw [e] at z
      exact z
    | _ => exact z
  | _ => cases y <;> exact z
noncomputable abbrev tLt : Str → Str → Bool := fun i j => ltT i j
noncomputable abbrev tGt : Str → Str → Bool := fun i j => ltT j i
noncomputable abbrev tLe : Str → Str → Bool := fun i j => !ltT j i
noncomputable abbrev tGe : Str → Str → Bool := fun i j => !ltT i j
theorem sm_ltS : Sm (fS0 tLt) (dS0 fun i j => .bl (ltS i j)) := sm_S0 fun i j => ltT_eq i j
theorem sm_gtS : Sm (fS0 tGt) (dS0 fun i j => .bl (ltS j i)) := sm_S0 (h := fun i j => ltS j i) fun i j => ltT_eq j i
theorem sm_leS : Sm (fS0 tLe) (dS0 fun i j => .bl (!ltS j i)) := sm_S0 (h := fun i j => !ltS j i) fun i j => by rw [← ltT_eq]
theorem sm_geS : Sm (fS0 tGe) (dS0 fun i j => .bl (!ltS i j)) := sm_S0 (h := fun i j => !ltS i j) fun i j => by rw [← ltT_eq]
noncomputable def memN (c : Nat) : List Nat → Bool
  | [] => false
  | a :: r => Nat.beq c a || memN c r
theorem memN_eq (c : Nat) : ∀ l : List Nat, memN c l = decide (c ∈ l)
  | [] => rfl
  | a :: r => by
    rw [memN, memN_eq c r]
    have h2 : Nat.beq c a = decide (c = a) := by
      by_cases h : c = a
      · subst h; simp
      · rw [decide_eq_false h]
        cases z : Nat.beq c a with
        | false => rfl
        | true => exact absurd (Nat.eq_of_beq_eq_true z) h
    rw [h2]
    simp only [List.mem_cons, Bool.decide_or]
noncomputable def fInS (n : Bool) : Dt → Dt → M Dt := fun x y => match x, y with | .str i, .str z => (match i.cps.toList with | [c] => .ret (.bl (n != memN c z.cps.toList)) | _ => .no) | _, _ => .no
theorem sm_inS {n : Bool} : Sm (fInS n) (dInS n) := fun x y q e z => by
  cases x with
  | str i =>
    cases y with
    | str j =>
      have z : sat (match i.cps.toList with | [c] => M.ret (.bl (n != memN c j.cps.toList)) | _ => M.no) q e := z
      cases w : i.cps.toList with
      | nil => rw [w] at z; exact z.elim
      | cons c r =>
        cases r with
        | cons _ _ => rw [w] at z; exact z.elim
        | nil =>
          rw [w] at z
          have z : q (.bl (n != memN c j.cps.toList)) := z
          rw [memN_eq] at z
          exact ⟨c, str_inj w, z⟩
    | _ => exact z
  | _ => cases y <;> exact z
/-- tuples, lists -/
noncomputable def fCatT : Dt → Dt → M Dt := fun x y => match x, y with | .tup xs, .tup ys => gd (szB (xs.length + ys.length)) (.ret (.tup (xs ++ ys))) | _, _ => .no
theorem sm_catT : Sm fCatT dCatT := fun x y q e z => by
  cases x with
  | tup i =>
    cases y with
    | tup j => have := sat_gd z; exact ⟨szB_ok this.1, this.2⟩
    | _ => exact z
  | _ => cases y <;> exact z
noncomputable def rpL (n : Nat) (xs : List Dt) : List Dt := Nat.rec (motive := fun _ => List Dt) [] (fun _ ih => xs ++ ih) n
theorem rpL_eq (xs : List Dt) : ∀ n, rpL n xs = (List.replicate n xs).flatten
  | 0 => rfl
  | n + 1 => by
    show xs ++ rpL n xs = _
    rw [rpL_eq xs n]
    rfl
noncomputable def fRepT : Dt → Dt → M Dt := fun x y => match x, y with | .tup xs, .int i => gd (!xs.isEmpty && (decide (0 ≤ i) && (decide (i ≤ 1000) && Nat.ble xs.length 1000))) (.ret (.tup (rpL i.toNat xs))) | _, _ => .no
theorem sm_repT : Sm fRepT dRepT := fun x y q e z => by
  cases x with
  | tup xs =>
    cases y with
    | int j =>
      obtain ⟨h, z⟩ := sat_gd z
      rw [Bool.and_eq_true, Bool.and_eq_true, Bool.and_eq_true] at h
      have z : q (.tup (rpL j.toNat xs)) := z
      rw [rpL_eq] at z
      exact ⟨fun w => by rw [w] at h; exact absurd h.1 (by decide), of_decide_eq_true h.2.1, of_decide_eq_true h.2.2.1, Nat.le_of_ble_eq_true h.2.2.2, z⟩
    | _ => exact z
  | _ => cases y <;> exact z
noncomputable def SmO (f : Dt → Dt → M (List Dt)) (rd : Dt → Dt → (List Dt → Prop) → Prop) : Prop := ∀ x y q (e : Xi → Prop), sat (f x y) q e → rd x y q
noncomputable def xOpO (f : Dt → Dt → M (List Dt)) (ca cb : Env → M Dt) : Env → M (List Dt) := fun ρ => bd (ca ρ) fun x => bd (cb ρ) fun y => f x y
noncomputable def fCat : Dt → Dt → M (List Dt) := fun x y => match x, y with | .lst xs, .lst ys => gd (szB (xs.length + ys.length)) (.ret (xs ++ ys)) | _, _ => .no
theorem sm_cat : SmO fCat dCat := fun x y q e z => by
  cases x with
  | lst i =>
    cases y with
    | lst j => have := sat_gd z; exact ⟨szB_ok this.1, this.2⟩
    | _ => exact z
  | _ => cases y <;> exact z
noncomputable def fRep : Dt → Dt → M (List Dt) := fun x y => match x, y with | .lst xs, .int i => gd (decide (-9223372036854775808 ≤ i) && (decide (i < 9223372036854775808) && szB (xs.length * i.toNat))) (.ret (rpL i.toNat xs)) | _, _ => .no
theorem sm_rep : SmO fRep dRep := fun x y q e z => by
  cases x with
  | lst xs =>
    cases y with
    | int j =>
      obtain ⟨h, z⟩ := sat_gd z
      rw [Bool.and_eq_true, Bool.and_eq_true] at h
      have z : q (rpL j.toNat xs) := z
      rw [rpL_eq] at z
      have h1 := of_decide_eq_true h.1
      have h2 := of_decide_eq_true h.2.1
      exact ⟨by omega, by omega, szB_ok h.2.2, z⟩
    | _ => exact z
  | _ => cases y <;> exact z
/-! ### built-ins -/
noncomputable def gLen : List Dt → M Dt := fun ds => match ds with | [.lst xs] => .ret (.int (lenL xs)) | [.tup xs] => .ret (.int (lenL xs)) | _ => .no
theorem sc_len : Sc gLen dLen := fun ds q e z => by
  match ds with
  | [] => exact z
  | [d] =>
    cases d with
    | lst xs => have z : q (.int (lenL xs)) := z; rw [lenL_eq] at z; exact z
    | tup xs => have z : q (.int (lenL xs)) := z; rw [lenL_eq] at z; exact z
    | _ => exact z
  | d :: _ :: _ => cases d <;> exact z
noncomputable def gLenS : List Dt → M Dt := fun ds => match ds with | [.str s] => gd (szS s) (.ret (.int (lenL s.cps.toList))) | _ => .no
theorem sc_lenS : Sc gLenS dLenS := fun ds q e z => by
  match ds with
  | [] => exact z
  | [d] =>
    cases d with
    | str s => have := sat_gd z; rw [lenL_eq, Array.length_toList] at this; exact ⟨szS_ok this.1, this.2⟩
    | _ => exact z
  | d :: _ :: _ => cases d <;> exact z
noncomputable def gII (f : Int → Int → Int) : List Dt → M Dt := fun ds => match ds with | [.int i, .int j] => .ret (.int (f i j)) | _ => .no
theorem sc_II {f : Int → Int → Int} : Sc (gII f) (dII f) := fun ds q e z => by
  match ds with
  | [] => exact z
  | [d] => cases d <;> exact z
  | [d, d2] => cases d <;> cases d2 <;> exact z
  | d :: d2 :: _ :: _ => cases d <;> cases d2 <;> exact z
noncomputable def gAbs : List Dt → M Dt := fun ds => match ds with | [.int i] => .ret (.int (if i < 0 then -i else i)) | _ => .no
theorem sc_abs : Sc gAbs dAbs := fun ds q e z => by
  match ds with
  | [] => exact z
  | [d] => cases d <;> exact z
  | d :: _ :: _ => cases d <;> exact z
noncomputable def gTupOf : List Dt → M Dt := fun ds => match ds with | [.lst xs] => .ret (.tup xs) | [.tup xs] => .ret (.tup xs) | _ => .no
theorem sc_tupOf : Sc gTupOf dTupOf := fun ds q e z => by
  match ds with
  | [] => exact z
  | [d] => cases d <;> exact z
  | d :: _ :: _ => cases d <;> exact z
noncomputable def gListOf : List Dt → M (List Dt) := fun ds => match ds with | [.lst xs] => .ret xs | [.tup xs] => .ret xs | _ => .no
theorem so_listOf : So gListOf dListOf := fun ds q e z => by
  match ds with
  | [] => exact z
  | [d] => cases d <;> exact z
  | d :: _ :: _ => cases d <;> exact z
section
variable {X : Cx} {s0 : Wd} {xe : Xi → Prop} {e a b tg : Expr} {es : List Expr} {c ca cb cc : Env → M Dt} {cA' cAA cBB : Env → M (List Dt)} {pos p p2 pp : Pos} {n : Nat}
theorem px_ix (ha : PE X a (cE s0 (Rg xe ca))) (hb : PE X b (cE s0 (Rg xe cb))) (hs : PlainIx b := by exact fun _ _ => rfl) : PE X (.Subscript a b pos) (cE s0 (Rg xe (xOp fIx ca cb))) := peR (pd_ix ha hb hs) fun ρ q z => op_go sm_ix z
noncomputable def xIxO (i : Nat) (cb : Env → M Dt) : Env → M Dt := fun ρ => match eg ρ i with | .ow (.l ds) => bd (cb ρ) fun y => (match y with | .int k => ofO (L2.atI ds k) | _ => .no) | _ => .no
theorem px_ixO (i : Nat) {x : Str} {p : Pos} (hb : PE X b (cE s0 (Rg xe cb))) (hN : X.N[i]? = some x := by rfl) (hv : Vis X.env.scope x := by first | exact Or.inl rfl | exact Or.inr (Or.inl rfl) | exact Or.inr (Or.inr rfl)) (hd : (x == ("__debug__" : Str)) = false := by decide)
    (hcd : (x == ("__classdict__" : Str)) = false := by decide) (hs : PlainIx b := by exact fun _ _ => rfl) : PE X (.Subscript (.Name x p) b pos) (cE s0 (Rg xe (xIxO i cb))) := peR (pd_ixO i hb hN hv hd hcd hs) fun ρ q z => by
  unfold xIxO at z
  unfold dIxO
  cases w : eg ρ i with
  | ow o =>
    cases o with
    | l ds =>
      rw [w] at z
      exact (sat_bd.mp z).imp fun y z => by
        cases y with
        | int k => exact sat_ofO z
        | _ => exact z
    | d kvs => rw [w] at z; exact z
  | _ => rw [w] at z; exact z
noncomputable def xOwn (i : Nat) : Env → M (List Dt) := fun ρ => match eg ρ i with | .ow (.l ds) => .ret ds | _ => .no
theorem px_tupO (i : Nat) {y : Str} {py : Pos} (hg : Gl X "tuple") (hm : X.mg "tuple" = none) (hN : X.N[i]? = some y := by rfl) (hv : Vis X.env.scope y := by first | exact Or.inl rfl | exact Or.inr (Or.inl rfl) | exact Or.inr (Or.inr rfl)) (hd : (y == ("__debug__" : Str)) = false := by decide)
    (hcd : (y == ("__classdict__" : Str)) = false := by decide) (he : starEach [.Name y py] X.env = (false, eval (.Name y py) X.env) :: starEach [] X.env := by rfl) : PE X (.Call (.Name "tuple" p) [.Name y py] [] pos) (cE s0 (Rg xe (xTup (xOwn i)))) := peR (pd_tupO i hg hm hN hv hd hcd he) fun ρ q z => by
  have z := sat_bd.mp z
  unfold xOwn at z
  unfold dTup dOwn
  cases w : eg ρ i with
  | ow o => cases o <;> (rw [w] at z; exact z)
  | _ => rw [w] at z; exact z
theorem pxo_op {f : Dt → Dt → M (List Dt)} {r : R2} {rd : Dt → Dt → (List Dt → Prop) → Prop} {op : Operator} (ho : OpR X (binaryOp op) r) (h : OpO r rd) (hf : SmO f rd) (ha : PE X a (cE s0 (Rg xe ca))) (hb : PE X b (cE s0 (Rg xe cb))) : PE X (.BinOp a op b pos) (cO s0 (Rg xe (xOpO f ca cb))) := poR (po_op ho h ha hb) fun ρ q z =>
  (sat_bd.mp z).imp fun x z => (sat_bd.mp z).imp fun y z => hf x y q xe z
/-- isinstance -/
noncomputable def xIsi (T : String) (g : Dt → Option Bool) (c : Env → M Dt) : Env → M Dt := fun ρ => bd (c ρ) fun d => match g d with | some b => .ret (.bl b) | none => .no
noncomputable def iInt : Dt → Option Bool
  | .non => some false | .bl _ => some true | .int _ => some true | .str _ => some false | .lst _ => some false | .tup _ => some false | _ => none
noncomputable def iBool : Dt → Option Bool
  | .non => some false | .bl _ => some true | .int _ => some false | .str _ => some false | .lst _ => some false | .tup _ => some false | _ => none
noncomputable def iStr : Dt → Option Bool
  | .non => some false | .bl _ => some false | .int _ => some false | .str _ => some true | .lst _ => some false | .tup _ => some false | _ => none
noncomputable def iList : Dt → Option Bool
  | .non => some false | .bl _ => some false | .int _ => some false | .str _ => some false | .lst _ => some true | .tup _ => some false | _ => none
noncomputable def iTuple : Dt → Option Bool
  | .non => some false | .bl _ => some false | .int _ => some false | .str _ => some false | .lst _ => some false | .tup _ => some true | _ => none
noncomputable def IsiOk (T : String) (g : Dt → Option Bool) : Prop := ∀ d, g d = (tyN d).map (isTy T)
theorem isi_int : IsiOk "int" iInt := fun d => by cases d <;> rfl
theorem isi_bool : IsiOk "bool" iBool := fun d => by cases d <;> rfl
theorem isi_str : IsiOk "str" iStr := fun d => by cases d <;> rfl
theorem isi_list : IsiOk "list" iList := fun d => by cases d <;> rfl
theorem isi_tuple : IsiOk "tuple" iTuple := fun d => by cases d <;> rfl
theorem px_isi {T : String} {g : Dt → Option Bool} {y : Str} (ok : IsiOk T g) (kt : KitT T) (hg : Gl X "isinstance") (hm : X.mg "isinstance" = none) (hgT : Gl X y) (hmT : X.mg y = none) (hv : bootBuiltins y = some (.type T)) (he : PE X e (cB s0 (Rg xe c))) (hn : y ≠ "__name__" := by decide) (hd : (y == ("__debug__" : Str)) = false := by decide)
    (hs : starEach [e, .Name y p2] X.env = (false, eval e X.env) :: starEach [.Name y p2] X.env := by rfl) (hs2 : starEach [.Name y p2] X.env = (false, eval (.Name y p2) X.env) :: starEach [] X.env := by rfl) (hpl : (backTo pos (starEach [.Name y p2] X.env)).any (·.1) = false := by rfl) :
    PE X (.Call (.Name "isinstance" p) [e, .Name y p2] [] pos) (cE s0 (Rg xe (xIsi T g c))) := peR (pd_isi kt hg hm hgT hmT hv he hn hd hs hs2 hpl) fun ρ q z => (sat_bd.mp z).imp fun d z => by
  rw [ok d] at z
  cases w : tyN d with
  | none => rw [w] at z; exact z
  | some t => rw [w] at z; exact z
/-! ### walks -/
noncomputable def xSeqL (c : Env → M Dt) : Env → M (List Dt) := fun ρ => bd (c ρ) fun d => match d with | .lst ds => .ret ds | _ => .no
noncomputable def xSeqT (c : Env → M Dt) : Env → M (List Dt) := fun ρ => bd (c ρ) fun d => match d with | .tup ds => .ret ds | _ => .no
noncomputable def signs (z : Str) : List Dt := mpL (fun c => .str ⟨#[c]⟩) z.cps.toList
theorem signs_eq (z : Str) : signs z = z.cps.toList.map fun c => .str ⟨#[c]⟩ := mpL_eq _ _
noncomputable def xSeqS (c : Env → M Dt) : Env → M (List Dt) := fun ρ => bd (c ρ) fun d => match d with | .str z => .ret (signs z) | _ => .no
theorem pxi_list (h : PE X e (cE s0 (Rg xe c))) : PI X tg e (cI s0 (Rg xe (xSeqL c))) := piR (pdi_list h) fun ρ q z => (sat_bd.mp z).imp fun d z => by cases d <;> exact z
theorem pxi_tup (h : PE X e (cE s0 (Rg xe c))) : PI X tg e (cI s0 (Rg xe (xSeqT c))) := piR (pdi_tup h) fun ρ q z => (sat_bd.mp z).imp fun d z => by cases d <;> exact z
theorem pxi_str (h : PE X e (cE s0 (Rg xe c))) : PI X tg e (cI s0 (Rg xe (xSeqS c))) := piR (pdi_str h) fun ρ q z => (sat_bd.mp z).imp fun d z => by
  cases d with
  | str y => have z : q (signs y) := z; rw [signs_eq] at z; exact z
  | _ => exact z
noncomputable def inR (i : Int) : Bool := Nat.ble i.natAbs 4000000000000000000
theorem inR_ok {i : Int} (h : inR i = true) : InR i := by
  have : i.natAbs ≤ 4000000000000000000 := Nat.le_of_ble_eq_true h
  exact ⟨by omega, by omega⟩
/-- lo, lo + c, .. -/
noncomputable def rgX (lo c : Int) (n : Nat) : List Dt := Nat.rec (motive := fun _ => Int → List Dt) (fun _ => []) (fun _ ih lo => .int lo :: fzI (lo + c) ih) n lo
theorem rgX_eq (c : Int) : ∀ (n : Nat) (lo : Int), rgX lo c n = rg lo c n
  | 0, lo => rfl
  | n + 1, lo => by
    show Dt.int lo :: fzI (lo + c) (fun lo => rgX lo c n) = rg lo c (n + 1)
    rw [fzI_eq, rgX_eq c n]
    unfold rg
    rw [List.range_succ_eq_map, List.map_cons, List.map_map]
    congr 1
    · simp
    · refine List.map_congr_left fun i _ => ?_
      show Dt.int (lo + c + (i : Nat) * c) = Dt.int (lo + ((i + 1 : Nat) : Int) * c)
      rw [show ((i + 1 : Nat) : Int) = (i : Int) + 1 from rfl, Int.add_mul, Int.one_mul]
      congr 1
      omega
noncomputable def xR1 (c : Env → M Dt) : Env → M (List Dt) := fun ρ => bd (c ρ) fun d => match d with | .int j => gd (inR j) (.ret (rgX 0 1 j.toNat)) | _ => .no
theorem pxi_range1 (hg : Gl X "range") (hm : X.mg "range" = none) (ha : PE X a (cE s0 (Rg xe ca))) (hs : starEach [a] X.env = [(false, eval a X.env)] := by rfl) : PI X tg (.Call (.Name "range" pp) [a] [] pos) (cI s0 (Rg xe (xR1 ca))) := piR (pdi_range1 hg hm ha hs) fun ρ q z => (sat_bd.mp z).imp fun d z => by
  cases d with
  | int j =>
    obtain ⟨h, z⟩ := sat_gd z
    have z : q (rgX 0 1 j.toNat) := z
    rw [rgX_eq] at z
    exact ⟨inR_ok h, z⟩
  | _ => exact z
noncomputable def xR2 (ca cb : Env → M Dt) : Env → M (List Dt) := fun ρ => bd (ca ρ) fun x => bd (cb ρ) fun y => match x, y with | .int i, .int j => gd (inR i && inR j) (.ret (rgX i 1 (j - i).toNat)) | _, _ => .no
theorem pxi_range2 (hg : Gl X "range") (hm : X.mg "range" = none) (ha : PE X a (cE s0 (Rg xe ca))) (hb : PE X b (cE s0 (Rg xe cb))) (hs : starEach [a, b] X.env = [(false, eval a X.env), (false, eval b X.env)] := by rfl) (hs2 : starEach [b] X.env = [(false, eval b X.env)] := by rfl) :
    PI X tg (.Call (.Name "range" pp) [a, b] [] pos) (cI s0 (Rg xe (xR2 ca cb))) := piR (pdi_range2 hg hm ha hb hs hs2) fun ρ q z => (sat_bd.mp z).imp fun x z => (sat_bd.mp z).imp fun y z => by
  cases x with
  | int i =>
    cases y with
    | int j =>
      obtain ⟨h, z⟩ := sat_gd z
      rw [Bool.and_eq_true] at h
      have z : q (rgX i 1 (j - i).toNat) := z
      rw [rgX_eq] at z
      exact ⟨inR_ok h.1, inR_ok h.2, z⟩
    | _ => exact z
  | _ => cases y <;> exact z
noncomputable def xR3 (ca cb cc : Env → M Dt) : Env → M (List Dt) := fun ρ => bd (ca ρ) fun x => bd (cb ρ) fun y => bd (cc ρ) fun w => match x, y, w with | .int i, .int j, .int k => gd (inR i && (inR j && decide (k = -1))) (.ret (rgX i (-1) (i - j).toNat)) | _, _, _ => .no
theorem pxi_range3 {c3 : Expr} (hg : Gl X "range") (hm : X.mg "range" = none) (ha : PE X a (cE s0 (Rg xe ca))) (hb : PE X b (cE s0 (Rg xe cb))) (hc : PE X c3 (cE s0 (Rg xe cc))) (hs : starEach [a, b, c3] X.env = (false, eval a X.env) :: starEach [b, c3] X.env := by rfl) (hs1 : starEach [b, c3] X.env = (false, eval b X.env) :: starEach [c3] X.env := by rfl) (hs2 : starEach [c3] X.env = (false, eval c3 X.env) :: starEach [] X.env := by rfl) (hpl : (backTo pos (starEach [b, c3] X.env)).any (·.1) = false := by rfl) :
    PI X tg (.Call (.Name "range" pp) [a, b, c3] [] pos) (cI s0 (Rg xe (xR3 ca cb cc))) := piR (pdi_range3 hg hm ha hb hc hs hs1 hs2 hpl) fun ρ q z => (sat_bd.mp z).imp fun x z => (sat_bd.mp z).imp fun y z => (sat_bd.mp z).imp fun w z => by
  cases x with
  | int i =>
    cases y with
    | int j =>
      cases w with
      | int k =>
        obtain ⟨h, z2⟩ := sat_gd z
        rw [Bool.and_eq_true, Bool.and_eq_true] at h
        have hk := of_decide_eq_true h.2.2
        have z3 : q (rgX i (-1) (i - j).toNat) := z2
        rw [rgX_eq] at z3
        subst hk
        exact ⟨inR_ok h.1, inR_ok h.2.1, z3⟩
      | _ => exact z
    | _ => cases w <;> exact z
  | _ => cases y <;> cases w <;> exact z
noncomputable def xRev (c : Env → M Dt) : Env → M (List Dt) := fun ρ => bd (c ρ) fun d => match d with | .lst ds => .ret ds.reverse | .tup ds => .ret ds.reverse | _ => .no
theorem pxi_rev (hg : Gl X "reversed") (hm : X.mg "reversed" = none) (h : PE X e (cE s0 (Rg xe c))) (hs : starEach [e] X.env = (false, eval e X.env) :: starEach [] X.env := by rfl) : PI X tg (.Call (.Name "reversed" pp) [e] [] pos) (cI s0 (Rg xe (xRev c))) := piR (pdi_rev hg hm h hs) fun ρ q z => (sat_bd.mp z).imp fun d z => by cases d <;> exact z
noncomputable def xZipTT (ca cb : Env → M Dt) : Env → M (List Dt) := fun ρ => bd (ca ρ) fun x => bd (cb ρ) fun y => match x, y with | .tup xs, .tup ys => .ret (zipD xs ys) | _, _ => .no
noncomputable def xZipLT (ca cb : Env → M Dt) : Env → M (List Dt) := fun ρ => bd (ca ρ) fun x => bd (cb ρ) fun y => match x, y with | .lst xs, .tup ys => .ret (zipD xs ys) | _, _ => .no
theorem pxi_zipTT {tpos : Pos} {elts : List Expr} {kk : Nat} (hg : Gl X "zip") (hm : X.mg "zip" = none) (ha : PE X a (cE s0 (Rg xe ca))) (hb : PE X b (cE s0 (Rg xe cb))) (hs : starEach [a, b] X.env = (false, eval a X.env) :: starEach [b] X.env := by rfl) (hs2 : starEach [b] X.env = (false, eval b X.env) :: starEach [] X.env := by rfl) (hpl : (backTo pos (starEach [b] X.env)).any (·.1) = false := by rfl) :
    PI X (.Tuple elts kk tpos) (.Call (.Name "zip" p) [a, b] [] pos) (cI s0 (Rg xe (xZipTT ca cb))) := piR (pdi_zipTT hg hm ha hb hs hs2 hpl) fun ρ q z => (sat_bd.mp z).imp fun x z => (sat_bd.mp z).imp fun y z => by cases x <;> cases y <;> exact z
theorem pxi_zipLT {tpos : Pos} {elts : List Expr} {kk : Nat} (hg : Gl X "zip") (hm : X.mg "zip" = none) (ha : PE X a (cE s0 (Rg xe ca))) (hb : PE X b (cE s0 (Rg xe cb))) (hs : starEach [a, b] X.env = (false, eval a X.env) :: starEach [b] X.env := by rfl) (hs2 : starEach [b] X.env = (false, eval b X.env) :: starEach [] X.env := by rfl) (hpl : (backTo pos (starEach [b] X.env)).any (·.1) = false := by rfl) :
    PI X (.Tuple elts kk tpos) (.Call (.Name "zip" p) [a, b] [] pos) (cI s0 (Rg xe (xZipLT ca cb))) := piR (pdi_zipLT hg hm ha hb hs hs2 hpl) fun ρ q z => (sat_bd.mp z).imp fun x z => (sat_bd.mp z).imp fun y z => by cases x <;> cases y <;> exact z
end
end Xe
/-! code over data: targets, comprehensions, statements, defs, calls, refusals told -/
namespace Xe
open PySem hiding Env
open PySem.Spec PyProof.Rows L2 Dl
noncomputable section
/-- a list laid out, for the kernel's sake -/
noncomputable def rb {α β : Type} (l : List α) (k : List α → β) : β := List.rec (motive := fun _ => (List α → β) → β) (fun k => k []) (fun s _ ih k => ih fun r => k (s :: r)) l k
theorem rb_eq {α β : Type} : ∀ (l : List α) (k : List α → β), rb l k = k l
  | [], _ => rfl
  | s :: l, k => by
    show rb l (fun r => k (s :: r)) = _
    rw [rb_eq l]
section
variable {X : Cx} {s0 : Wd} {xe : Xi → Prop} {e a b tg : Expr} {es : List Expr} {c ca cb cc : Env → M Dt} {cA' cAA cBB ci : Env → M (List Dt)} {cs ct : Env → M Bool} {pos p p2 pp : Pos} {n : Nat}
/-! ### targets -/
noncomputable def RG (xe : Xi → Prop) (g : Dt → Env → M Env) : DG := fun d ρ q => sat (g d ρ) q xe
theorem pgR {g : Dt → Env → M Env} {t : DG} {ws : List Nat} (h : PG X tg (cG s0 ws t)) (f : ∀ d ρ q, sat (g d ρ) q xe → t d ρ q) : PG X tg (cG s0 ws (RG xe g)) := pgI h fun v σ H Q ⟨s, ρ, d, q, e, R, r, t, k⟩ => ⟨s, ρ, d, q, e, R, r, f d ρ q t, k⟩
noncomputable def xName (i : Nat) : Dt → Env → M Env := fun d ρ => fz d fun d => rb (ep ρ i (.va d)) .ret
theorem xName_eq (i : Nat) (d : Dt) (ρ : Env) : xName i d ρ = .ret (ep ρ i (.va d)) := by unfold xName; rw [fz_eq, rb_eq]
theorem pxg_name {i : Nat} {x : Str} (hN : X.N.Nodup) (hi : X.N[i]? = some x) (hx : Loc X.env.scope x) (hf : X.fn x = true ∨ X.env.scope.names.lookup x = some .local := by first | exact .inl rfl | exact .inr rfl | assumption) : PG X (.Name x pos) (cG s0 [i] (RG xe (xName i))) := pgR (pdg_name hN hi hx hf) fun d ρ q z => by
  rw [xName_eq] at z
  exact z
noncomputable def xName2 (i j : Nat) : Dt → Env → M Env := fun d ρ => match d with | .tup [x, y] => fz x fun x => fz y fun y => rb (ep (ep ρ i (.va x)) j (.va y)) .ret | _ => .no
theorem pxg_name2 {i j : Nat} {x y : Str} {px py : Pos} {kk : Nat} (hc : X.calm = true) (hN : X.N.Nodup) (hi : X.N[i]? = some x) (hj : X.N[j]? = some y) (hx : Loc X.env.scope x) (hy : Loc X.env.scope y)
    (hf : X.fn x = true ∨ X.env.scope.names.lookup x = some .local := by first | exact .inl rfl | exact .inr rfl | assumption) (hf2 : X.fn y = true ∨ X.env.scope.names.lookup y = some .local := by first | exact .inl rfl | exact .inr rfl | assumption)
    (h1 : (assignEach [.Name x px, .Name y py] X.env).map (·.2) = assign (.Name x px) X.env :: (assignEach [.Name y py] X.env).map (·.2) := by rfl) (h2 : (assignEach [.Name y py] X.env).map (·.2) = assign (.Name y py) X.env :: (assignEach [] X.env).map (·.2) := by rfl)
    (hn : (assignEach [.Name x px, .Name y py] X.env).length = 2 := by rfl) (hst : (assignEach [.Name x px, .Name y py] X.env).findIdx? (·.1) = none := by rfl) : PG X (.Tuple [.Name x px, .Name y py] kk pos) (cG s0 [i, j] (RG xe (xName2 i j))) :=
  pgR (pdg_name2 hc hN hi hj hx hy hf hf2 h1 h2 hn hst) fun d ρ q z => by
    unfold xName2 at z
    unfold dName2
    cases d with
    | tup ds =>
      match ds with
      | [] => exact z
      | [_] => exact z
      | [x, y] => simp only [fz_eq, rb_eq] at z; exact z
      | _ :: _ :: _ :: _ => exact z
    | _ => exact z
/-! ### comprehensions -/
noncomputable def lcX (ρ : Env) (tg : Dt → Env → M Env) (tt : Env → M Bool) (te : Env → M Dt) (ds : List Dt) : List Dt → M (List Dt) := List.rec (motive := fun _ => List Dt → M (List Dt)) (fun acc => .ret (rvL acc))
  (fun d _ ih acc => bd (noX (tg d ρ)) fun ρ2 => bd (noX (tt ρ2)) fun b => match b with | true => bd (noX (te ρ2)) fun y => fz y fun y => ih (y :: acc) | false => ih acc) ds
theorem lc_go {ρ : Env} {tg : Dt → Env → M Env} {tt : Env → M Bool} {te : Env → M Dt} {q : List Dt → Prop} : ∀ {ds acc : List Dt}, sat (lcX ρ tg tt te ds acc) q xe → acc.length + ds.length ≤ sizeLine → lcR ρ (RG N0 tg) (Rg N0 tt) (Rg N0 te) ds acc.reverse q
  | [], acc, z, _ => by have z : q (rvL acc) := z; rw [rvL_eq] at z; exact z
  | d :: r, acc, z, hl => by
    rw [List.length_cons] at hl
    refine sat_noX (e := xe) ((sat_bd.mp z).imp fun ρ2 z => sat_noX (e := xe) ((sat_bd.mp z).imp fun b z => ?_))
    cases b with
    | true =>
      refine (if_pos rfl).mpr (sat_noX (e := xe) ((sat_bd.mp z).imp fun y z => ⟨by rw [List.length_reverse]; omega, ?_⟩))
      rw [fz_eq] at z
      rw [← List.reverse_cons]
      exact lc_go (ds := r) (acc := y :: acc) z (by rw [List.length_cons]; omega)
    | false => exact (if_neg Bool.false_ne_true).mpr (lc_go (ds := r) (acc := acc) z (by omega))
noncomputable def xLc (ci : Env → M (List Dt)) (ws : List Nat) (tg : Dt → Env → M Env) (tt : Env → M Bool) (te : Env → M Dt) : Env → M (List Dt) := fun ρ => bd (ci ρ) fun ds => gd (szB (lenL ds)) (rb (wipeE ρ ws) fun ρ => lcX ρ tg tt te ds [])
noncomputable def xYes : Env → M Bool := fun _ => .ret true
theorem pxts_nil : PTs X [] (cT s0 (Rg xe xYes)) := ptsR pdts_nil fun ρ q z => z
theorem pxts_one {c : Expr} (h : PT X c (cT s0 (Rg xe cs))) : PTs X [c] (cT s0 (Rg xe cs)) := pdts_one h
theorem lc_all {ws : List Nat} {tgd : Dt → Env → M Env} {tt : Env → M Bool} {te : Env → M Dt} {ρ : Env} {q : List Dt → Prop} (z : sat (xLc ci ws tgd tt te ρ) q xe) : dLc (Rg xe ci) ws (RG N0 tgd) (Rg N0 tt) (Rg N0 te) ρ q := (sat_bd.mp z).imp fun ds z => by
  obtain ⟨h, z⟩ := sat_gd z
  rw [rb_eq] at z
  rw [lenL_eq] at h
  exact lc_go (acc := []) z (by have := szB_ok h; simpa using this)
theorem pxo_lc {elt iter : Expr} {ifs : List Expr} {scope : Scope} {own : List (Str × Nat)} {tgd : Dt → Env → M Env} {tt : Env → M Bool} {te : Env → M Dt} (hc : X.calm = true) (hN : X.N.Nodup) (hi : PI X tg iter (cI s0 (Rg xe ci))) (ok : BlkOk X.N X.env.scope scope own)
    (hg : ∀ (s : Shared) (H : Hp) (C : Addr) (cl : List (Str × Addr)) (fp : List Addr), PG (X.blk s H scope (compEnvC scope cl C X.env) fp) tg (cG s0 (own.map (·.2)) (RG N0 tgd))) (ht : ∀ (s : Shared) (H : Hp) (C : Addr) (cl : List (Str × Addr)) (fp : List Addr), PTs (X.blk s H scope (compEnvC scope cl C X.env) fp) ifs (cT s0 (Rg N0 tt)))
    (he : ∀ (s : Shared) (H : Hp) (C : Addr) (cl : List (Str × Addr)) (fp : List Addr), PE (X.blk s H scope (compEnvC scope cl C X.env) fp) elt (cE s0 (Rg N0 te))) (hs : ∀ x, foldedSetIterable iter X.env x = pure x := by intro _; rfl) :
    PE X (.ListComp elt [⟨tg, iter, ifs, 0⟩] scope pos) (cO s0 (Rg xe (xLc ci (own.map (·.2)) tgd tt te))) := poR (po_lc hc hN hi ok hg ht he hs) fun ρ q z => lc_all z
noncomputable def sumX (ρ : Env) (tg : Dt → Env → M Env) (tt : Env → M Bool) (te : Env → M Dt) (ds : List Dt) : Int → M Dt := List.rec (motive := fun _ => Int → M Dt) (fun n => .ret (.int n))
  (fun d _ ih n => bd (noX (tg d ρ)) fun ρ2 => bd (noX (tt ρ2)) fun b => match b with | true => bd (noX (te ρ2)) fun y => (match y with | .int x => fzI (n + x) ih | _ => .no) | false => ih n) ds
theorem sum_go {ρ : Env} {tg : Dt → Env → M Env} {tt : Env → M Bool} {te : Env → M Dt} {q : Dt → Prop} : ∀ {ds : List Dt} {n : Int}, sat (sumX ρ tg tt te ds n) q xe → sumR ρ (RG N0 tg) (Rg N0 tt) (Rg N0 te) ds n q
  | [], n, z => z
  | d :: r, n, z => by
    refine sat_noX (e := xe) ((sat_bd.mp z).imp fun ρ2 z => sat_noX (e := xe) ((sat_bd.mp z).imp fun b z => ?_))
    cases b with
    | true =>
      refine (if_pos rfl).mpr (sat_noX (e := xe) ((sat_bd.mp z).imp fun y z => ?_))
      cases y with
      | int x =>
        have z : sat (fzI (n + x) (sumX ρ tg tt te r)) q xe := z
        rw [fzI_eq] at z
        exact sum_go (ds := r) z
      | _ => exact z
    | false => exact (if_neg Bool.false_ne_true).mpr (sum_go (ds := r) z)
noncomputable def xSum (ci : Env → M (List Dt)) (ws : List Nat) (tg : Dt → Env → M Env) (tt : Env → M Bool) (te : Env → M Dt) : Env → M Dt := fun ρ => bd (ci ρ) fun ds => rb (wipeE ρ ws) fun ρ => sumX ρ tg tt te ds 0
theorem sum_all {ws : List Nat} {tgd : Dt → Env → M Env} {tt : Env → M Bool} {te : Env → M Dt} {ρ : Env} {q : Dt → Prop} (z : sat (xSum ci ws tgd tt te ρ) q xe) : dSum (Rg xe ci) ws (RG N0 tgd) (Rg N0 tt) (Rg N0 te) ρ q := (sat_bd.mp z).imp fun ds z => by
  rw [rb_eq] at z
  exact sum_go z
noncomputable def aaX (stop : Bool) (ρ : Env) (tg : Dt → Env → M Env) (tt : Env → M Bool) (te : Env → M Dt) (ds : List Dt) : M Dt := List.rec (motive := fun _ => M Dt) (.ret (.bl (!stop)))
  (fun d _ ih => bd (noX (tg d ρ)) fun ρ2 => bd (noX (tt ρ2)) fun b => match b with | true => bd (noX (te ρ2)) fun y => (match y with | .bl k => (match stop, k with | true, true => .ret (.bl true) | false, false => .ret (.bl false) | _, _ => ih) | _ => .no) | false => ih) ds
theorem aa_go {stop : Bool} {ρ : Env} {tg : Dt → Env → M Env} {tt : Env → M Bool} {te : Env → M Dt} {q : Dt → Prop} : ∀ {ds : List Dt}, sat (aaX stop ρ tg tt te ds) q xe → aaR stop ρ (RG N0 tg) (Rg N0 tt) (Rg N0 te) ds q
  | [], z => z
  | d :: r, z => by
    refine sat_noX (e := xe) ((sat_bd.mp z).imp fun ρ2 z => sat_noX (e := xe) ((sat_bd.mp z).imp fun b z => ?_))
    cases b with
    | true =>
      refine (if_pos rfl).mpr (sat_noX (e := xe) ((sat_bd.mp z).imp fun y z => ?_))
      cases y with
      | bl k =>
        cases stop <;> cases k
        · exact (if_pos rfl).mpr z
        · exact (if_neg (by decide)).mpr (aa_go (ds := r) z)
        · exact (if_neg (by decide)).mpr (aa_go (ds := r) z)
        · exact (if_pos rfl).mpr z
      | _ => exact z
    | false => exact (if_neg Bool.false_ne_true).mpr (aa_go (ds := r) z)
noncomputable def xAA (stop : Bool) (ci : Env → M (List Dt)) (ws : List Nat) (tg : Dt → Env → M Env) (tt : Env → M Bool) (te : Env → M Dt) : Env → M Dt := fun ρ => bd (ci ρ) fun ds => rb (wipeE ρ ws) fun ρ => aaX stop ρ tg tt te ds
theorem aa_all {stop : Bool} {ws : List Nat} {tgd : Dt → Env → M Env} {tt : Env → M Bool} {te : Env → M Dt} {ρ : Env} {q : Dt → Prop} (z : sat (xAA stop ci ws tgd tt te ρ) q xe) : dAA stop (Rg xe ci) ws (RG N0 tgd) (Rg N0 tt) (Rg N0 te) ρ q := (sat_bd.mp z).imp fun ds z => by
  rw [rb_eq] at z
  exact aa_go z
variable {P : Addr}
theorem px_sum {elt iter : Expr} {ifs : List Expr} {scope : Scope} {own : List (Str × Nat)} {tgd : Dt → Env → M Env} {tt : Env → M Bool} {te : Env → M Dt} {c : Addr} {p gpos : Pos} {k : Nat} (j0 : s0.J P = some Tb) (hr : Room (k + 1) X.A) (hN : X.N.Nodup) (hgl : Gl X "sum") (hm : X.mg "sum" = none) (TB : GxR.TabB X.base X.mg c P) (hc : X.env.code = .ref c) (hi : PI X tg iter (cI s0 (Rg xe ci))) (blk : BlkOk X.N X.env.scope scope own)
    (hg : Gx.Within X scope k fun G => PG G tg (cG s0 (own.map (·.2)) (RG N0 tgd))) (ht : Gx.Within X scope k fun G => PTs G ifs (cT s0 (Rg N0 tt))) (he : Gx.Within X scope k fun G => PE G elt (cE s0 (Rg N0 te)))
    (cell : ∀ y ∈ scope.names, y.2 ≠ .cell := by decide +kernel) (co : scope.isCoroutine = false := by rfl) (dot : scope.names.lookup (".0" : Str) = some NameKind.local := by rfl) (hs : ∀ v, genFold iter X.env v = pure v := by intro _; rfl)
    (hst : starEach [.GeneratorExp elt [⟨tg, iter, ifs, 0⟩] scope gpos] X.env = (false, eval (.GeneratorExp elt [⟨tg, iter, ifs, 0⟩] scope gpos) X.env) :: starEach [] X.env := by rfl) :
    PE X (.Call (.Name "sum" p) [.GeneratorExp elt [⟨tg, iter, ifs, 0⟩] scope gpos] [] pos) (cE s0 (Rg xe (xSum ci (own.map (·.2)) tgd tt te))) := peR (pd_sum j0 hr hN hgl hm TB hc hi blk hg ht he cell co dot hs hst) fun ρ q z => sum_all z
theorem px_all {elt iter : Expr} {ifs : List Expr} {scope : Scope} {own : List (Str × Nat)} {tgd : Dt → Env → M Env} {tt : Env → M Bool} {te : Env → M Dt} {c : Addr} {p gpos : Pos} {k : Nat} (j0 : s0.J P = some Tb) (hr : Room (k + 1) X.A) (hN : X.N.Nodup) (hgl : Gl X "all") (hm : X.mg "all" = none) (TB : GxR.TabB X.base X.mg c P) (hc : X.env.code = .ref c) (hi : PI X tg iter (cI s0 (Rg xe ci))) (blk : BlkOk X.N X.env.scope scope own)
    (hg : Gx.Within X scope k fun G => PG G tg (cG s0 (own.map (·.2)) (RG N0 tgd))) (ht : Gx.Within X scope k fun G => PTs G ifs (cT s0 (Rg N0 tt))) (he : Gx.Within X scope k fun G => PE G elt (cE s0 (Rg N0 te)))
    (cell : ∀ y ∈ scope.names, y.2 ≠ .cell := by decide +kernel) (co : scope.isCoroutine = false := by rfl) (dot : scope.names.lookup (".0" : Str) = some NameKind.local := by rfl) (hs : ∀ v, genFold iter X.env v = pure v := by intro _; rfl)
    (hst : starEach [.GeneratorExp elt [⟨tg, iter, ifs, 0⟩] scope gpos] X.env = (false, eval (.GeneratorExp elt [⟨tg, iter, ifs, 0⟩] scope gpos) X.env) :: starEach [] X.env := by rfl) :
    PE X (.Call (.Name "all" p) [.GeneratorExp elt [⟨tg, iter, ifs, 0⟩] scope gpos] [] pos) (cE s0 (Rg xe (xAA false ci (own.map (·.2)) tgd tt te))) := peR (pd_all j0 hr hN hgl hm TB hc hi blk hg ht he cell co dot hs hst) fun ρ q z => aa_all z
theorem px_any {elt iter : Expr} {ifs : List Expr} {scope : Scope} {own : List (Str × Nat)} {tgd : Dt → Env → M Env} {tt : Env → M Bool} {te : Env → M Dt} {c : Addr} {p gpos : Pos} {k : Nat} (j0 : s0.J P = some Tb) (hr : Room (k + 1) X.A) (hN : X.N.Nodup) (hgl : Gl X "any") (hm : X.mg "any" = none) (TB : GxR.TabB X.base X.mg c P) (hc : X.env.code = .ref c) (hi : PI X tg iter (cI s0 (Rg xe ci))) (blk : BlkOk X.N X.env.scope scope own)
    (hg : Gx.Within X scope k fun G => PG G tg (cG s0 (own.map (·.2)) (RG N0 tgd))) (ht : Gx.Within X scope k fun G => PTs G ifs (cT s0 (Rg N0 tt))) (he : Gx.Within X scope k fun G => PE G elt (cE s0 (Rg N0 te)))
    (cell : ∀ y ∈ scope.names, y.2 ≠ .cell := by decide +kernel) (co : scope.isCoroutine = false := by rfl) (dot : scope.names.lookup (".0" : Str) = some NameKind.local := by rfl) (hs : ∀ v, genFold iter X.env v = pure v := by intro _; rfl)
    (hst : starEach [.GeneratorExp elt [⟨tg, iter, ifs, 0⟩] scope gpos] X.env = (false, eval (.GeneratorExp elt [⟨tg, iter, ifs, 0⟩] scope gpos) X.env) :: starEach [] X.env := by rfl) :
    PE X (.Call (.Name "any" p) [.GeneratorExp elt [⟨tg, iter, ifs, 0⟩] scope gpos] [] pos) (cE s0 (Rg xe (xAA true ci (own.map (·.2)) tgd tt te))) := peR (pd_any j0 hr hN hgl hm TB hc hi blk hg ht he cell co dot hs hst) fun ρ q z => aa_all z
/-! ### statements -/
inductive Out where
  | nx (ρ : Env) | rt (d : Dt) | bk (ρ : Env) | ct (ρ : Env)
noncomputable def outP (D : EndsD) : Out → Prop
  | .nx ρ => D.nx ρ
  | .rt d => D.rt d
  | .bk ρ => D.bk ρ
  | .ct ρ => D.ct ρ
noncomputable def RS (xe : Xi → Prop) (c : Env → M Out) : DS := fun D ρ => sat (c ρ) (outP D) xe
variable {st : Stmt} {rest : List Stmt} {z1 z2 : Env → M Out}
theorem psR {t : DS} (h : PS X st (cS s0 t)) (f : ∀ D ρ, sat (z1 ρ) (outP D) xe → t D ρ) : PS X st (cS s0 (RS xe z1)) := psI h fun B σ H ⟨s, ρ, D, e, R, t, l⟩ => ⟨s, ρ, D, e, R, f D ρ t, l⟩
theorem pssR {t : DS} (h : PSs X rest (cS s0 t)) (f : ∀ D ρ, sat (z1 ρ) (outP D) xe → t D ρ) : PSs X rest (cS s0 (RS xe z1)) := pssI h fun B σ H ⟨s, ρ, D, e, R, t, l⟩ => ⟨s, ρ, D, e, R, f D ρ t, l⟩
noncomputable def xNext : Env → M Out := fun ρ => .ret (.nx ρ)
noncomputable def xSeq (a b : Env → M Out) : Env → M Out := fun ρ => bd (a ρ) fun o => match o with | .nx ρ => b ρ | .rt d => .ret (.rt d) | .bk ρ => .ret (.bk ρ) | .ct ρ => .ret (.ct ρ)
theorem sx_nil : PSs X [] (cS s0 (RS xe xNext)) := pssR pz_nil fun D ρ z => z
theorem sx_cons (h1 : PS X st (cS s0 (RS xe z1))) (h2 : PSs X rest (cS s0 (RS xe z2))) : PSs X (st :: rest) (cS s0 (RS xe (xSeq z1 z2))) := pssR (pz_cons h1 h2) fun D ρ z => (sat_bd.mp z).imp fun o z => by cases o <;> exact z
theorem sx_one (h1 : PS X st (cS s0 (RS xe z1))) : PSs X [st] (cS s0 (RS xe z1)) := pz_one h1
theorem sx_pass : PS X (.Pass pos) (cS s0 (RS xe xNext)) := psR pz_pass fun D ρ z => z
noncomputable def xBrk : Env → M Out := fun ρ => .ret (.bk ρ)
theorem sx_break : PS X (.Break pos) (cS s0 (RS xe xBrk)) := psR pz_break fun D ρ z => z
noncomputable def xCnt : Env → M Out := fun ρ => .ret (.ct ρ)
theorem sx_cont : PS X (.Continue pos) (cS s0 (RS xe xCnt)) := psR pz_cont fun D ρ z => z
noncomputable def xNever : Env → M Out := fun _ => .no
theorem sx_never : PS X st (cS s0 (RS xe xNever)) := psR pz_never fun D ρ z => z
theorem sxs_never {sts : List Stmt} : PSs X sts (cS s0 (RS xe xNever)) := pssR pzs_never fun D ρ z => z
noncomputable def xDrop (c : Env → M Dt) : Env → M Out := fun ρ => bd (c ρ) fun _ => .ret (.nx ρ)
theorem sx_expr (he : PE X e (cE s0 (Rg xe c))) (hs : swapsWith e none pos.line X.env = pure false := by rfl) : PS X (.Expr e pos) (cS s0 (RS xe (xDrop c))) := psR (pz_expr he hs) fun D ρ z => (sat_bd.mp z).imp fun o z => z
noncomputable def xRet (c : Env → M Dt) : Env → M Out := fun ρ => bd (c ρ) fun d => fz d fun d => .ret (.rt d)
theorem sx_ret (he : PE X e (cE s0 (Rg xe c))) : PS X (.Return (some e) pos) (cS s0 (RS xe (xRet c))) := psR (pz_ret he) fun D ρ z => (sat_bd.mp z).imp fun o z => by rw [fz_eq] at z; exact z
noncomputable def xRetN : Env → M Out := fun _ => .ret (.rt .non)
theorem sx_retN : PS X (.Return none pos) (cS s0 (RS xe xRetN)) := psR pz_retN fun D ρ z => z
noncomputable def xFrz (i : Nat) (z : Env → M Out) : Env → M Out := fun ρ => match eg ρ i with | .ow (.l ds) => rb (ep ρ i (.va (.lst ds))) z | _ => .no
theorem sx_frz (i : Nat) (h : PS X st (cS s0 (RS xe z1))) : PS X st (cS s0 (RS xe (xFrz i z1))) := psR (pz_frz i h) fun D ρ z => by
  unfold xFrz at z
  unfold dFrz
  cases w : eg ρ i with
  | ow o => cases o <;> (rw [w] at z; first | (simp only [rb_eq] at z; exact z) | exact z)
  | _ => rw [w] at z; exact z
theorem sxs_frz (i : Nat) (h : PSs X rest (cS s0 (RS xe z1))) : PSs X rest (cS s0 (RS xe (xFrz i z1))) := pssR (pzs_frz i h) fun D ρ z => by
  unfold xFrz at z
  unfold dFrz
  cases w : eg ρ i with
  | ow o => cases o <;> (rw [w] at z; first | (simp only [rb_eq] at z; exact z) | exact z)
  | _ => rw [w] at z; exact z
noncomputable def xIf (t : Env → M Bool) (a b : Env → M Out) : Env → M Out := fun ρ => bd (t ρ) fun k => match k with | true => a ρ | false => b ρ
theorem sx_if {c : Expr} {xs ys : List Stmt} (hc : PT X c (cT s0 (Rg xe cs))) (ha : PSs X xs (cS s0 (RS xe z1))) (hb : PSs X ys (cS s0 (RS xe z2))) : PS X (.If c xs ys pos) (cS s0 (RS xe (xIf cs z1 z2))) := psR (pz_if hc ha hb) fun D ρ z => (sat_bd.mp z).imp fun k z => by
  cases k with
  | true => exact (if_pos rfl).mpr z
  | false => exact (if_neg Bool.false_ne_true).mpr z
noncomputable def xSet (i : Nat) (c : Env → M Dt) : Env → M Out := fun ρ => bd (c ρ) fun d => fz d fun d => rb (ep ρ i (.va d)) fun ρ => .ret (.nx ρ)
theorem set_go {i : Nat} {D : EndsD} {ρ : Env} (z : sat (xSet i c ρ) (outP D) xe) : dSet i (Rg xe c) D ρ := (sat_bd.mp z).imp fun d z => by
  rw [fz_eq, rb_eq] at z
  exact z
theorem sx_set {i : Nat} {x : Str} {pos' : Pos} (hN : X.N.Nodup) (hi : X.N[i]? = some x) (hx : Loc X.env.scope x) (he : PE X e (cE s0 (Rg xe c))) (hs : swapsWith e (some (.Name x pos')) pos.line X.env = pure false := by rfl) (hf : X.fn x = true ∨ X.env.scope.names.lookup x = some .local := by first | exact .inl rfl | exact .inr rfl | assumption) :
    PS X (.Assign [.Name x pos'] e pos) (cS s0 (RS xe (xSet i c))) := psR (pz_set hN hi hx he hs hf) fun D ρ z => set_go z
noncomputable def xSetO (i : Nat) (c : Env → M (List Dt)) : Env → M Out := fun ρ => bd (c ρ) fun ds => rb (ep ρ i (.ow (.l ds))) fun ρ => .ret (.nx ρ)
theorem setO_go {i : Nat} {D : EndsD} {ρ : Env} (z : sat (xSetO i cAA ρ) (outP D) xe) : dSetO i (Rg xe cAA) D ρ := (sat_bd.mp z).imp fun d z => by
  rw [rb_eq] at z
  exact z
theorem sx_setO {i : Nat} {x : Str} {pos' : Pos} (hN : X.N.Nodup) (hi : X.N[i]? = some x) (hx : Loc X.env.scope x) (he : PE X e (cO s0 (Rg xe cAA))) (hs : swapsWith e (some (.Name x pos')) pos.line X.env = pure false := by rfl) (hf : X.fn x = true ∨ X.env.scope.names.lookup x = some .local := by first | exact .inl rfl | exact .inr rfl | assumption) :
    PS X (.Assign [.Name x pos'] e pos) (cS s0 (RS xe (xSetO i cAA))) := psR (pz_setO hN hi hx he hs hf) fun D ρ z => setO_go z
theorem sx_setLcO {i : Nat} {y : Str} {py : Pos} {elt iter : Expr} {ifs : List Expr} {scope : Scope} {own : List (Str × Nat)} {spos : Pos} {tgd : Dt → Env → M Env} {tt : Env → M Bool} {te : Env → M Dt} (hc : X.calm = true) (hN : X.N.Nodup) (hy : X.N[i]? = some y) (hyl : X.env.scope.names.lookup y = some .local)
    (hsw : swapsWith (.ListComp elt [⟨tg, iter, ifs, 0⟩] scope pos) (some (.Name y py)) spos.line X.env = pure true) (hi : PI X tg iter (cI s0 (Rg xe ci))) (ok : BlkOk X.N X.env.scope scope own)
    (hg : ∀ (s : Shared) (H : Hp) (C : Addr) (cl : List (Str × Addr)) (fp : List Addr), PG (X.blk s H scope (compEnvC scope cl C X.env) fp) tg (cG s0 (own.map (·.2)) (RG N0 tgd))) (ht : ∀ (s : Shared) (H : Hp) (C : Addr) (cl : List (Str × Addr)) (fp : List Addr), PTs (X.blk s H scope (compEnvC scope cl C X.env) fp) ifs (cT s0 (Rg N0 tt)))
    (he : ∀ (s : Shared) (H : Hp) (C : Addr) (cl : List (Str × Addr)) (fp : List Addr), PE (X.blk s H scope (compEnvC scope cl C X.env) fp) elt (cE s0 (Rg N0 te))) (hs : ∀ x, foldedSetIterable iter X.env x = pure x := by intro _; rfl) :
    PS X (.Assign [.Name y py] (.ListComp elt [⟨tg, iter, ifs, 0⟩] scope pos) spos) (cS s0 (RS xe (xSetO i (xLc ci (own.map (·.2)) tgd tt te)))) := psR (pz_setLcO hc hN hy hyl hsw hi ok hg ht he hs) fun D ρ z => (lc_all ((sat_bd.mp z).imp fun ds z => by
      rw [rb_eq] at z
      exact z))
theorem sx_setLc {i : Nat} {y : Str} {py : Pos} {elt iter : Expr} {ifs : List Expr} {scope : Scope} {own : List (Str × Nat)} {spos : Pos} {tgd : Dt → Env → M Env} {tt : Env → M Bool} {te : Env → M Dt} (hc : X.calm = true) (hN : X.N.Nodup) (hy : X.N[i]? = some y) (hyl : X.env.scope.names.lookup y = some .local)
    (hsw : swapsWith (.ListComp elt [⟨tg, iter, ifs, 0⟩] scope pos) (some (.Name y py)) spos.line X.env = pure true) (hi : PI X tg iter (cI s0 (Rg xe ci))) (ok : BlkOk X.N X.env.scope scope own)
    (hg : ∀ (s : Shared) (H : Hp) (C : Addr) (cl : List (Str × Addr)) (fp : List Addr), PG (X.blk s H scope (compEnvC scope cl C X.env) fp) tg (cG s0 (own.map (·.2)) (RG N0 tgd))) (ht : ∀ (s : Shared) (H : Hp) (C : Addr) (cl : List (Str × Addr)) (fp : List Addr), PTs (X.blk s H scope (compEnvC scope cl C X.env) fp) ifs (cT s0 (Rg N0 tt)))
    (he : ∀ (s : Shared) (H : Hp) (C : Addr) (cl : List (Str × Addr)) (fp : List Addr), PE (X.blk s H scope (compEnvC scope cl C X.env) fp) elt (cE s0 (Rg N0 te))) (hs : ∀ x, foldedSetIterable iter X.env x = pure x := by intro _; rfl) :
    PS X (.Assign [.Name y py] (.ListComp elt [⟨tg, iter, ifs, 0⟩] scope pos) spos) (cS s0 (RS xe (xSet i (xL (xLc ci (own.map (·.2)) tgd tt te))))) := psR (pz_setLc hc hN hy hyl hsw hi ok hg ht he hs) fun D ρ z => (lc_all ((sat_bd.mp (sat_bd.mp z)).imp fun ds z => by
      have z : sat (fz (.lst ds) fun d => rb (ep ρ i (.va d)) fun ρ => M.ret (.nx ρ)) (outP D) xe := z
      rw [fz_eq, rb_eq] at z
      exact z))
noncomputable def xApp (i : Nat) (c : Env → M Dt) : Env → M Out := fun ρ => match eg ρ i with | .ow (.l ds) => bd (c ρ) fun d => fz d fun d => gd (Nat.blt (lenL ds) 16777216) (rb (apL ds [d]) fun ds => rb (ep ρ i (.ow (.l ds))) fun ρ => .ret (.nx ρ)) | _ => .no
/-- what is asked of a slot that holds a list of our own -/
theorem ow_go {α : Type} {i : Nat} {ρ : Env} {q : α → Prop} {k : List Dt → M α} {t : List Dt → Prop} (z : sat (match eg ρ i with | .ow (.l ds) => k ds | _ => .no) q xe) (f : ∀ ds, sat (k ds) q xe → t ds) : match eg ρ i with | .ow (.l ds) => t ds | _ => False := by
  cases w : eg ρ i with
  | ow o =>
    cases o with
    | l ds => rw [w] at z; exact f ds z
    | d kvs => rw [w] at z; exact z.elim
  | _ => rw [w] at z; exact z.elim
theorem sx_app (i : Nat) {x : Str} {p1 apos cpos pos : Pos} (he : PE X e (cE s0 (Rg xe c))) (hN : X.N[i]? = some x := by rfl) (hv : Vis X.env.scope x := by first | exact Or.inl rfl | exact Or.inr (Or.inl rfl) | exact Or.inr (Or.inr rfl)) (hd : (x == ("__debug__" : Str)) = false := by decide)
    (hcd : (x == ("__classdict__" : Str)) = false := by decide) (hst : starEach [e] X.env = (false, eval e X.env) :: starEach [] X.env := by rfl) (hbase : attributeBase (.Name x p1) "append" X.env (eval (.Name x p1) X.env) = eval (.Name x p1) X.env := by rfl)
    (hfew : ((backTo cpos (starEach [e] X.env)).all (fun x => !x.1) && (backToKw cpos (keywordEach [] X.env)).all (fun x => x.1.isSome) && decide ([e].length + ([] : List Keyword).length + (if ([] : List Keyword).isEmpty then 0 else 1) < 30)) = true := by rfl) (hline : (apos.endLine == cpos.line) = true := by rfl)
    (hs : swapsWith (.Call (.Attribute (.Name x p1) "append" apos) [e] [] cpos) none pos.line X.env = pure false := by rfl) :
    PS X (.Expr (.Call (.Attribute (.Name x p1) "append" apos) [e] [] cpos) pos) (cS s0 (RS xe (xApp i c))) := psR (pz_app i he hN hv hd hcd hst hbase hfew hline hs) fun D ρ z => by
  unfold xApp at z
  unfold dApp
  refine ow_go z fun ds z => (sat_bd.mp z).imp fun d z => ?_
  rw [fz_eq] at z
  obtain ⟨h, z⟩ := sat_gd z
  simp only [rb_eq, apL_eq] at z
  rw [lenL_eq] at h
  have h : ds.length < 16777216 := Nat.le_of_ble_eq_true h
  exact ⟨by rw [sizeLine_eq]; exact h, z⟩
noncomputable def xPut (i : Nat) (ck c : Env → M Dt) : Env → M Out := fun ρ => match eg ρ i with
  | .ow (.l ds) => bd (c ρ) fun d => bd (ck ρ) fun y => (match y with | .int k => (match ixN ds.length k with | some j => fz d fun d => rb (ds.set j d) fun ds => rb (ep ρ i (.ow (.l ds))) fun ρ => .ret (.nx ρ) | none => .no) | _ => .no)
  | _ => .no
theorem sx_put (i : Nat) {x : Str} {p1 pos : Pos} {spos : Pos} (hk : PE X b (cE s0 (Rg xe cb))) (he : PE X e (cE s0 (Rg xe c))) (hN : X.N[i]? = some x := by rfl) (hv : Vis X.env.scope x := by first | exact Or.inl rfl | exact Or.inr (Or.inl rfl) | exact Or.inr (Or.inr rfl)) (hd : (x == ("__debug__" : Str)) = false := by decide)
    (hcd : (x == ("__classdict__" : Str)) = false := by decide) (ha : ∀ v, assign (.Subscript (.Name x p1) b spos) X.env v = (do
      let ov ← holding [v] (eval (.Name x p1) X.env)
      let iv ← holding [v, ov] (eval b X.env)
      standAt spos
      holding [v, ov, iv] (setItem ov iv v); release [v, ov, iv] []) := by intro _; rfl)
    (hs : swapsWithSole [.Subscript (.Name x p1) b spos] e pos.line X.env = pure false := by rfl) (hw : swappedStores [.Subscript (.Name x p1) b spos] e X.env = pure none := by rfl) (h1 : (assignEach [.Subscript (.Name x p1) b spos] X.env).map (·.2) = [assign (.Subscript (.Name x p1) b spos) X.env] := by rfl) :
    PS X (.Assign [.Subscript (.Name x p1) b spos] e pos) (cS s0 (RS xe (xPut i cb c))) := psR (pz_put i hk he hN hv hd hcd ha hs hw h1) fun D ρ z => by
  unfold xPut at z
  unfold dPut
  refine ow_go z fun ds z => (sat_bd.mp z).imp fun d z => (sat_bd.mp z).imp fun y z => ?_
  cases y with
  | int k =>
    dsimp only at z
    cases w : ixN ds.length k with
    | none => rw [w] at z; exact z.elim
    | some j =>
      rw [w] at z
      simp only [fz_eq, rb_eq] at z
      exact ⟨j, w, z⟩
  | _ => exact z
noncomputable def xAugO (i : Nat) (f : Int → Int → Int) (ck c : Env → M Dt) : Env → M Out := fun ρ => match eg ρ i with
  | .ow (.l ds) => bd (ck ρ) fun y => (match y with
    | .int k => gd (decide (0 ≤ k)) (match ds[k.toNat]? with | some (.int m) => bd (c ρ) fun d => (match d with | .int v => fzI (f m v) fun w => rb (ds.set k.toNat (.int w)) fun ds => rb (ep ρ i (.ow (.l ds))) fun ρ => .ret (.nx ρ) | _ => .no) | _ => .no)
    | _ => .no)
  | _ => .no
theorem sx_augO (i : Nat) {x : Str} {p1 pos : Pos} {spos : Pos} {op : Operator} {f : Int → Int → Int} (ho : PIp X op (ipI f)) (hk : PE X b (cE s0 (Rg xe cb))) (he : PE X e (cE s0 (Rg xe c))) (hN : X.N[i]? = some x := by rfl) (hv : Vis X.env.scope x := by first | exact Or.inl rfl | exact Or.inr (Or.inl rfl) | exact Or.inr (Or.inr rfl)) (hd : (x == ("__debug__" : Str)) = false := by decide)
    (hcd : (x == ("__classdict__" : Str)) = false := by decide) (ha : ∀ ov iv new, augStore b ov iv new = (do holding [new, ov, iv] (setItem ov iv new); release [new, ov, iv] []; pure .next) := by intros; rfl) :
    PS X (.AugAssign (.Subscript (.Name x p1) b spos) op e pos) (cS s0 (RS xe (xAugO i f cb c))) := psR (pz_augO i ho hk he hN hv hd hcd ha) fun D ρ z => by
  unfold xAugO at z
  unfold dAugO
  refine ow_go z fun ds z => (sat_bd.mp z).imp fun y z => ?_
  cases y with
  | int k =>
    obtain ⟨h, z⟩ := sat_gd z
    have h := of_decide_eq_true h
    cases w : ds[k.toNat]? with
    | none => rw [w] at z; exact z.elim
    | some m =>
      rw [w] at z
      cases m with
      | int m =>
        refine ⟨k.toNat, m, (Int.toNat_of_nonneg h).symm, w, (sat_bd.mp z).imp fun d z => ?_⟩
        cases d with
        | int v => simp only [fzI_eq, rb_eq] at z; exact z
        | _ => exact z
      | _ => exact z.elim
  | _ => exact z
noncomputable def xAug (i : Nat) (f : Int → Int → Int) (c : Env → M Dt) : Env → M Out := fun ρ => match eg ρ i with | .va (.int m) => bd (c ρ) fun d => (match d with | .int v => fzI (f m v) fun w => rb (ep ρ i (.va (.int w))) fun ρ => .ret (.nx ρ) | _ => .no) | _ => .no
theorem sx_aug {i : Nat} {x : Str} {op : Operator} {f : Int → Int → Int} {pos' : Pos} (hN : X.N.Nodup) (hi : X.N[i]? = some x) (hx : Loc X.env.scope x) (he : PE X e (cE s0 (Rg xe c))) (ho : PIp X op (ipI f)) (hf : X.fn x = true ∨ X.env.scope.names.lookup x = some .local := by first | exact .inl rfl | exact .inr rfl | assumption) :
    PS X (.AugAssign (.Name x pos') op e pos) (cS s0 (RS xe (xAug i f c))) := psR (pz_aug hN hi hx he ho hf) fun D ρ z => by
  unfold xAug at z
  unfold dAug
  cases w : eg ρ i with
  | va d =>
    rw [w] at z
    cases d with
    | int m =>
      refine (sat_bd.mp z).imp fun d z => ?_
      cases d with
      | int v => simp only [fzI_eq, rb_eq] at z; exact z
      | _ => exact z
    | _ => exact z
  | _ => rw [w] at z; exact z
noncomputable def xPar (i j : Nat) (ca cb : Env → M Dt) : Env → M Out := fun ρ => bd (ca ρ) fun x => bd (cb ρ) fun y => fz x fun x => fz y fun y => rb (ep (ep ρ i (.va x)) j (.va y)) fun ρ => .ret (.nx ρ)
theorem sx_par {i j : Nat} {x y : Str} {px py pt : Pos} {kt k2 pt2} (hc : X.calm = true) (hN : X.N.Nodup) (hi : X.N[i]? = some x) (hj : X.N[j]? = some y) (hij : i ≠ j)
    (hx : X.env.scope.names.lookup x = some .local) (hy : X.env.scope.names.lookup y = some .local) (ha : PE X a (cE s0 (Rg xe ca))) (hb : PE X b (cE s0 (Rg xe cb)))
    (hw : swappedStores [.Tuple [.Name x px, .Name y py] kt pt] (.Tuple [a, b] k2 pt2) X.env = pure (some [x, y]) := by rfl)
    (hs : swapsWithSole [.Tuple [.Name x px, .Name y py] kt pt] (.Tuple [a, b] k2 pt2) pos.line X.env = pure false := by rfl) (hs1 : starEach [a, b] X.env = (false, eval a X.env) :: starEach [b] X.env := by rfl) (hs2 : starEach [b] X.env = (false, eval b X.env) :: starEach [] X.env := by rfl) :
    PS X (.Assign [.Tuple [.Name x px, .Name y py] kt pt] (.Tuple [a, b] k2 pt2) pos) (cS s0 (RS xe (xPar i j ca cb))) := psR (pz_par hc hN hi hj hij hx hy ha hb hw hs hs1 hs2) fun D ρ z => (sat_bd.mp z).imp fun x z => (sat_bd.mp z).imp fun y z => by
  simp only [fz_eq, rb_eq] at z
  exact z
noncomputable def xAsg (c : Env → M Dt) (g : Dt → Env → M Env) : Env → M Out := fun ρ => bd (c ρ) fun d => bd (g d ρ) fun ρ => .ret (.nx ρ)
theorem sx_asg {ws : List Nat} {g : Dt → Env → M Env} (he : PE X e (cE s0 (Rg xe c))) (hg : PG X tg (cG s0 ws (RG xe g))) (hs : swapsWithSole [tg] e pos.line X.env = pure false := by rfl) (hw : swappedStores [tg] e X.env = pure none := by rfl) (h1 : (assignEach [tg] X.env).map (·.2) = [assign tg X.env] := by rfl) :
    PS X (.Assign [tg] e pos) (cS s0 (RS xe (xAsg c g))) := psR (pz_asg he hg hs hw h1) fun D ρ z => (sat_bd.mp z).imp fun d z => (sat_bd.mp z).imp fun ρ z => z
/-! ### loops -/
noncomputable def forX (tg : Dt → Env → M Env) (body : Env → M Out) (ds : List Dt) : Env → M Out := List.rec (motive := fun _ => Env → M Out) (fun ρ => .ret (.nx ρ))
  (fun d _ ih ρ => bd (tg d ρ) fun ρ2 => bd (body ρ2) fun o => match o with | .nx ρ => ih ρ | .ct ρ => ih ρ | .bk ρ => .ret (.nx ρ) | .rt d => .ret (.rt d)) ds
theorem for_go {tg : Dt → Env → M Env} {body : Env → M Out} {D : EndsD} : ∀ {ds : List Dt} {ρ : Env}, sat (forX tg body ds ρ) (outP D) xe → forR (RG xe tg) (RS xe body) D ds ρ
  | [], ρ, z => z
  | d :: r, ρ, z => (sat_bd.mp z).imp fun ρ2 z => (sat_bd.mp z).imp fun o z => by
    cases o with
    | nx ρ => exact for_go (ds := r) z
    | ct ρ => exact for_go (ds := r) z
    | bk ρ => exact z
    | rt d => exact z
noncomputable def xFor (ci : Env → M (List Dt)) (tg : Dt → Env → M Env) (body : Env → M Out) : Env → M Out := fun ρ => bd (ci ρ) fun ds => forX tg body ds ρ
theorem sx_for {iter : Expr} {body : List Stmt} {ws : List Nat} {g : Dt → Env → M Env} (hp : PassesOwn (model X.prog X.w) X.A X.env X.xe) (hc : X.calm = true) (hi : PI X tg iter (cI s0 (Rg xe ci))) (hg : PG X tg (cG s0 ws (RG xe g))) (hb : PSs X body (cS s0 (RS xe z1)))
    (hs : ∀ x, foldedSetIterable iter X.env x = pure x := by intro _; rfl) : PS X (.For tg iter body [] pos) (cS s0 (RS xe (xFor ci g z1))) := psR (pz_for hp hc hi hg hb hs) fun D ρ z => (sat_bd.mp z).imp fun ds z => for_go z
noncomputable def whX (c : Env → M Bool) (body : Env → M Out) (n : Nat) : Env → M Out := Nat.rec (motive := fun _ => Env → M Out) (fun _ => .no)
  (fun _ ih ρ => bd (c ρ) fun b => match b with | true => bd (body ρ) fun o => (match o with | .nx ρ => ih ρ | .ct ρ => ih ρ | .bk ρ => .ret (.nx ρ) | .rt d => .ret (.rt d)) | false => .ret (.nx ρ)) n
theorem sx_while {c : Expr} {body : List Stmt} (n : Nat) (hp : PassesOwn (model X.prog X.w) X.A X.env X.xe) (hc : PT X c (cT s0 (Rg xe cs))) (hb : PSs X body (cS s0 (RS xe z1))) : PS X (.While c body [] pos) (cS s0 (RS xe (whX cs z1 n))) := psR (pz_while hp hc hb) fun D ρ z => by
  refine ⟨fun m ρ => sat (whX cs z1 m ρ) (outP D) xe, ⟨n, z⟩, fun m ρ z => ?_⟩
  cases m with
  | zero => exact z.elim
  | succ m =>
    refine (sat_bd.mp z).imp fun b z => ?_
    cases b with
    | true =>
      refine (if_pos rfl).mpr ((sat_bd.mp z).imp fun o z => ?_)
      cases o with
      | nx ρ => exact ⟨m, Nat.lt_succ_self m, z⟩
      | ct ρ => exact ⟨m, Nat.lt_succ_self m, z⟩
      | bk ρ => exact z
      | rt d => exact z
    | false => exact (if_neg Bool.false_ne_true).mpr z
/-- raise, of a class without a field -/
noncomputable def xRaise (i : Nat) : Env → M Out := fun _ => .exc ⟨i, none⟩
theorem sx_raise {xd : Xd → Prop} {E : XK} {x m : Str} {i j : Nat} {p p2 pos pos2 : Pos} (T : Ea.PlainX X.K (Ea.ea X.K i)) (g : X.mg x = some (.ref (Ea.ea X.K i))) (hg : Gl X x) (tk : L2N.Takes X (fun cls d _ H => E cls d H)) (lx : Lx s0 xd E) (hc : X.calm = true := by rfl) (hdb : (x == ("__debug__" : Str)) = false := by decide) :
    PS X (.Raise (some (.Call (.Name x p) [.Constant (.str m) j p2] [] pos)) none pos2) (cS s0 (RS (xeOf X.K xd) (xRaise i))) := psR (Ea.pz_raise T g hg tk lx hc hdb) fun D ρ z => z
/-! ### defs -/
noncomputable def spX (K : PySem.W.Frag) (xf : List Dt → M Dt) : Spd := fun ds q xd => sat (xf ds) q (xeOf K xd)
/-- a def's code -/
noncomputable def repL {α : Type} (n : Nat) (x : α) : List α := Nat.rec [] (fun _ ih => x :: ih) n
theorem repL_eq {α : Type} (x : α) : ∀ n, repL n x = List.replicate n x
  | 0 => rfl
  | n + 1 => by show x :: repL n x = _; rw [repL_eq x n]; rfl
noncomputable def startF (N : List Str) (ds : List Dt) : Env := apL (mpL .va ds) (repL (lenL N - lenL ds) .no)
theorem startF_eq (N : List Str) (ds : List Dt) : startF N ds = startE N ds := by
  unfold startF startE
  rw [apL_eq, mpL_eq, repL_eq, lenL_eq, lenL_eq]
noncomputable def fnX (n : Nat) (N : List Str) (body : Env → M Out) : List Dt → M Dt := fun ds => gd (Nat.beq (lenL ds) n) (rb (startF N ds) fun ρ => bd (body ρ) fun o => match o with | .nx _ => .ret .non | .rt d => .ret d | .bk _ => .no | .ct _ => .no)
theorem fn_len {n : Nat} {N : List Str} {body : Env → M Out} {K : PySem.W.Frag} : ∀ ds q xd, spX K (fnX n N body) ds q xd → ds.length = n := fun ds q xd z => by have := Nat.eq_of_beq_eq_true (sat_gd z).1; rwa [lenL_eq] at this
theorem fn_go {n : Nat} {N : List Str} {body : Env → M Out} {K : PySem.W.Frag} {ds : List Dt} {q : Dt → Prop} {xd : Xd → Prop} (z : spX K (fnX n N body) ds q xd) : RS (xeOf K xd) body (rtE q) (startE N ds) := by
  have z := (sat_gd z).2
  rw [rb_eq, startF_eq] at z
  exact (sat_bd.mp z).imp fun o z => by cases o <;> exact z
end
section
variable {P : Program} {w : World} {K : PySem.W.Frag} {mg : Str → Option Value} {base : Heap} {T : List (Addr × Vol)} {x : Str} {st : Stmt} {ps N : List Str} {k n : Nat} {body : Env → M Out}
theorem px_def (h : Has K mg x st ps) (S : FnScope N ps (defScope st)) (hn : n = ps.length)
    (b : ∀ (f : Addr) (cd : Value) (A : Around) (outer : List PySem.Env) (s : Shared) (s0 : Wd) (E : XK) (xd : Xd → Prop), Room k (A.deeper (envOfC x (defScope st) s.heap.objs.size f cd)) → (∀ P ∈ T, s0.J P.1 = some P.2) → Lx s0 xd E →
      PSs (bodyX P w K mg base N x st f cd A outer s s0.H E) (defBody st) (cS s0 (RS (xeOf K xd) body))) : Pd P w K mg base T x ps (spX K (fnX n N body)) (k + 1) :=
  pd_def h S (fun ds q xd z => by rw [fn_len ds q xd z, hn]) fun f cd A outer s s0 E xd hr tj lx ds q z => ⟨_, b f cd A outer s s0 E xd hr tj lx, fn_go z⟩
theorem px_defT {V : Vol} (h : HasT K mg base T x st ps V) (S : FnScope N ps (defScope st)) (hn : n = ps.length)
    (b : ∀ (f c P1 : Addr) (A : Around) (outer : List PySem.Env) (s : Shared) (s0 : Wd) (E : XK) (xd : Xd → Prop), GxR.TabB base mg c P1 → s0.J P1 = some V → Room k (A.deeper (envOfC x (defScope st) s.heap.objs.size f (.ref c))) → (∀ P ∈ T, s0.J P.1 = some P.2) → Lx s0 xd E →
      PSs (bodyX P w K mg base N x st f (.ref c) A outer s s0.H E) (defBody st) (cS s0 (RS (xeOf K xd) body))) : Pd P w K mg base T x ps (spX K (fnX n N body)) (k + 1) :=
  pd_defT h S (fun ds q xd z => by rw [fn_len ds q xd z, hn]) fun f c P1 A outer s s0 E xd TB j1 hr tj lx ds q z => ⟨_, b f c P1 A outer s s0 E xd TB j1 hr tj lx, fn_go z⟩
theorem px_defK {kws : List (Str × V)} (h : HasK K mg x st kws) (S : FnScope N ps (defScope st)) (hn : n = ps.length)
    (b : ∀ (f : Addr) (cd : Value) (A : Around) (outer : List PySem.Env) (s : Shared) (s0 : Wd) (E : XK) (xd : Xd → Prop), Room k (A.deeper (envOfC x (defScope st) s.heap.objs.size f cd)) → (∀ P ∈ T, s0.J P.1 = some P.2) → Lx s0 xd E →
      PSs (bodyX P w K mg base N x st f cd A outer s s0.H E) (defBody st) (cS s0 (RS (xeOf K xd) body))) : PdK P w K mg base T x st kws ps (spX K (fnX n N body)) (k + 1) :=
  pd_defK h S (fun ds q xd z => by rw [fn_len ds q xd z, hn]) fun f cd A outer s s0 E xd hr tj lx ds q z => ⟨_, b f cd A outer s s0 E xd hr tj lx, fn_go z⟩
/-- a promise by other words -/
theorem Pd.imp {sp sp' : Spd} (h : Pd P w K mg base T x ps sp k) (f : ∀ ds q xd, sp' ds q xd → sp ds q xd) : Pd P w K mg base T x ps sp' k :=
  let ⟨fa, fd, F, r⟩ := h
  ⟨fa, fd, F.imp fun vs H Q E ⟨s, ds, q, xd, e, ok, tj, rv, z, kq, lx⟩ => ⟨s, ds, q, xd, e, ok, tj, rv, f ds q xd z, kq, lx⟩, r⟩
/-- nothing is promised -/
noncomputable def x0 : List Dt → M Dt := fun _ => .no
theorem px_none (h : Has K mg x st ps) (S : FnScope N ps (defScope st)) : Pd P w K mg base T x ps (spX K x0) (k + 1) := pd_none h S fun ds q xd z => z
end
section
variable {X : Cx} {s0 : Wd} {xe : Xi → Prop} {T : List (Addr × Vol)} {x : Str} {st : Stmt} {kws : List (Str × V)} {ps ks : List Str} {xf : List Dt → M Dt} {k n m : Nat} {e : Expr} {es : List Expr} {kwz : List Keyword} {c : Env → M Dt} {ca ck : Env → M (List Dt)} {p pos kpos : Pos} {xd : Xd → Prop} {E : XK} {nm : Option Str}
/-- f(e, ..) -/
theorem px_call (C : Pd X.prog X.w X.K X.mg X.base T x ps (spX X.K xf) k) (hr : Room k X.A) (hx : Passes (L2N.CX X.prog X.w) X E) (tj : ∀ P ∈ T, s0.J P.1 = some P.2) (lx : Lx s0 xd E) (hg : Gl X x) (ha : PA X (e :: es) (cA s0 n (Rg (xeOf X.K xd) ca)))
    (hpl : (backTo pos (starEach es X.env)).any (·.1) = false := by rfl) (he : starEach (e :: es) X.env = (false, eval e X.env) :: starEach es X.env := by rfl) (hdb : (x == ("__debug__" : Str)) = false := by decide) :
    PE X (.Call (.Name x p) (e :: es) [] pos) (cE s0 (Rg (xeOf X.K xd) (xCB xf ca))) := peR (pd_call C hr hx tj lx hg ha hpl he hdb) fun ρ q z => (sat_bd.mp z).imp fun ds z => z
theorem px_call0 (C : Pd X.prog X.w X.K X.mg X.base T x ps (spX X.K xf) k) (hr : Room k X.A) (tj : ∀ P ∈ T, s0.J P.1 = some P.2) (hg : Gl X x) (ha : PA X (e :: es) (cA s0 n (Rg N0 ca)))
    (hpl : (backTo pos (starEach es X.env)).any (·.1) = false := by rfl) (he : starEach (e :: es) X.env = (false, eval e X.env) :: starEach es X.env := by rfl) (hdb : (x == ("__debug__" : Str)) = false := by decide) :
    PE X (.Call (.Name x p) (e :: es) [] pos) (cE s0 (Rg N0 (xCB xf ca))) := px_call (xd := fun _ => False) C hr pass00 tj lx0 hg ha hpl he hdb
noncomputable def flB : Dt → Bool
  | .non => true | .bl _ => true | .int _ => true | .str _ => true | _ => false
theorem flB_ok {d : Dt} (h : flB d = true) : flat d := by cases d <;> first | exact trivial | exact nomatch h
noncomputable def flM (m : M Dt) : M Dt := M.rec (motive := fun _ => M Dt) (fun d => gd (flB d) (.ret d)) (fun x => match x.f with | none => .exc x | some d => gd (flB d) (.exc x)) .no (fun m _ ih => .roll m ih) m
theorem sat_flM {K : PySem.W.Frag} {m : M Dt} {q : Dt → Prop} (h : sat (flM m) q (xeOf K xd)) : sat m (fun d => flat d ∧ q d) (xeOf K fun x => flatX x ∧ xd x) := by
  induction m with
  | ret a => obtain ⟨h, z⟩ := sat_gd h; exact ⟨flB_ok h, z⟩
  | exc x =>
    obtain ⟨i, f⟩ := x
    cases f with
    | none => exact ⟨trivial, h⟩
    | some d => obtain ⟨h, z⟩ := sat_gd h; exact ⟨flB_ok h, z⟩
  | no => exact h
  | roll m k ih => exact ⟨h.1, h.2.1, fun r h1 h2 => ih r (h.2.2 r h1 h2)⟩
noncomputable def xCBF (xf : List Dt → M Dt) (c : Env → M (List Dt)) : Env → M Dt := fun ρ => bd (c ρ) fun ds => flM (xf ds)
theorem px_callF (C : Pd X.prog X.w X.K X.mg X.base T x ps (spX X.K xf) k) (hr : Room k X.A) (hx : Passes (L2N.CX X.prog X.w) X E) (tj : ∀ P ∈ T, s0.J P.1 = some P.2) (lx : Lx s0 xd E) (hg : Gl X x) (ha : PA X (e :: es) (cBA s0 n (Rg (xeOf X.K xd) ca)))
    (hpl : (backTo pos (starEach es X.env)).any (·.1) = false := by rfl) (he : starEach (e :: es) X.env = (false, eval e X.env) :: starEach es X.env := by rfl) (hdb : (x == ("__debug__" : Str)) = false := by decide) :
    PE X (.Call (.Name x p) (e :: es) [] pos) (cE s0 (Rg (xeOf X.K xd) (xCBF xf ca))) := peR (pd_callF C hr hx tj lx hg ha hpl he hdb) fun ρ q z => (sat_bd.mp z).imp fun ds z => sat_flM z
theorem px_callF0 (C : Pd X.prog X.w X.K X.mg X.base T x ps (spX X.K xf) k) (hr : Room k X.A) (tj : ∀ P ∈ T, s0.J P.1 = some P.2) (hg : Gl X x) (ha : PA X (e :: es) (cBA s0 n (Rg N0 ca)))
    (hpl : (backTo pos (starEach es X.env)).any (·.1) = false := by rfl) (he : starEach (e :: es) X.env = (false, eval e X.env) :: starEach es X.env := by rfl) (hdb : (x == ("__debug__" : Str)) = false := by decide) :
    PE X (.Call (.Name x p) (e :: es) [] pos) (cE s0 (Rg N0 (xCBF xf ca))) := px_callF (xd := fun _ => False) C hr pass00 tj lx0 hg ha hpl he hdb
theorem pxk_nil : PK X [] (cA s0 0 (Rg xe xNil)) := ⟨fun pos pins s σ H Q I ⟨s1, ρ, q, e, R, t, k⟩ => pdk_nil.run pos pins s σ H Q I ⟨s1, ρ, q, e, R, t, k⟩⟩
theorem pxk_cons (ha : PE X e (cE s0 (Rg xe c))) (hr : PK X kwz (cA s0 n (Rg xe ca))) : PK X (⟨nm, e, kpos⟩ :: kwz) (cA s0 (n + 1) (Rg xe (xCons c ca))) := ⟨fun pos pins s σ H Q I ⟨s1, ρ, q, e, R, t, k⟩ => (pdk_cons ha hr).run pos pins s σ H Q I
  ⟨s1, ρ, q, e, R, (sat_bd.mp t).imp fun d z => (sat_bd.mp z).imp fun ds z => z, k⟩⟩
noncomputable def xCN (xf : List Dt → M Dt) (dm : List Dt) (is : List Nat) (ca ck : Env → M (List Dt)) : Env → M Dt := fun ρ => bd (ca ρ) fun ds => bd (ck ρ) fun zs => xf (pick (ds ++ (dm ++ zs)) is)
theorem px_callN (ms : List (Str × V)) (dm : List Dt) (is : List Nat) (ks : List Str) (C : PdK X.prog X.w X.K X.mg X.base T x st kws ps (spX X.K xf) k) (hr : Room k X.A) (hx : Passes (L2N.CX X.prog X.w) X E) (tj : ∀ P ∈ T, s0.J P.1 = some P.2) (lx : Lx s0 xd E) (hg : Gl X x)
    (ha : PA X (e :: es) (cA s0 n (Rg (xeOf X.K xd) ca))) (hkw : PK X kwz (cA s0 m (Rg (xeOf X.K xd) ck)))
    (puts : ∀ (tb : Addr) (u1 u2 : Value) (o1 : Option Addr) (u3 u4 : Value) (us mv ws : List Value), us.length = n → mv.length = ms.length → ws.length = ks.length → KwChain tb ((ms.map (·.1)).zip mv) (bindArgs (PySem.W.fnOf x x (defArgs st) (defBody st) (defScope st) .none (.ref tb) u1 u2 o1 u3 u4) ⟨us, ks.zip ws⟩) (ps.zip (pick (us ++ (mv ++ ws)) is)))
    (fl : ∀ J F, Rvs J F (ms.map (·.2)) dm) (hms : ∀ q ∈ ms, q ∈ kws) (hk : kws ≠ []) (hm : ks.length = m := by rfl)
    (hall : (backToKw pos (keywordEach kwz X.env)).all (·.1.isSome) = true := by rfl) (hks : (backToKw pos (keywordEach kwz X.env)).filterMap (·.1) = ks := by rfl)
    (he : starEach (e :: es) X.env = (false, eval e X.env) :: starEach es X.env := by rfl) (hdb : (x == ("__debug__" : Str)) = false := by decide) (hpl : ((backTo pos (starEach (e :: es) X.env)).any (·.1) || (backToKw pos (keywordEach kwz X.env)).any (·.1.isNone)) = false := by rfl) :
    PE X (.Call (.Name x p) (e :: es) kwz pos) (cE s0 (Rg (xeOf X.K xd) (xCN xf dm is ca ck))) := peR (pd_callN ms dm is ks C hr hx tj lx hg ha hkw puts fl hms hk hm hall hks he hdb hpl) fun ρ q z => (sat_bd.mp z).imp fun ds z => (sat_bd.mp z).imp fun zs z => z
/-! ### refusals told -/
noncomputable def sRefused : Str := ⟨#[114, 101, 102, 117, 115, 101, 100]⟩
theorem sRefused_eq : sRefused = ("refused" : Str) := by decide +kernel
noncomputable def sNms : List Str := [⟨#[66, 97, 100, 66, 111, 111, 107]⟩, ⟨#[78, 111, 83, 116, 101, 112]⟩, ⟨#[78, 111, 82, 117, 108, 101]⟩, ⟨#[66, 97, 100, 77, 97, 107, 105, 110, 103]⟩, ⟨#[66, 97, 100, 78, 117, 109, 98, 101, 114]⟩, ⟨#[66, 97, 100, 84, 104, 105, 110, 103]⟩, ⟨#[66, 97, 100, 84, 97, 112, 101]⟩, ⟨#[69, 110, 100, 101, 100]⟩, ⟨#[66, 97, 100, 83, 101, 114, 105, 101, 115]⟩, ⟨#[78, 111, 116, 80, 108, 97, 105, 110]⟩, ⟨#[66, 97, 100, 87, 111, 114, 100]⟩, ⟨#[66, 97, 100, 80, 97, 114, 116, 115]⟩, ⟨#[70, 117, 108, 108]⟩, ⟨#[78, 111, 116, 104, 105, 110, 103]⟩, ⟨#[66, 97, 100, 84, 101, 120, 116]⟩]
theorem sNms_eq : sNms = Ea.nms := by decide +kernel
noncomputable def sNm (i : Nat) : Str := sNms.getD i ⟨#[]⟩
theorem sNm_eq {i : Nat} (h : i < 15) : sNm i = Ea.nm i := by
  unfold sNm Ea.nm
  rw [sNms_eq]
  have : i < Ea.nms.length := h
  rw [List.getD_eq_getElem?_getD, List.getD_eq_getElem?_getD, List.getElem?_eq_getElem this]
  rfl
noncomputable def tellX (x : Xi) : M Dt := gd (Nat.blt x.i 15) (match x.f with
  | none => gd (Nat.ble 3 x.i) (.ret (.tup [.str sRefused, .str (sNm x.i)]))
  | some d => gd (Nat.blt x.i 3) (.ret (.tup [.str sRefused, .str (sNm x.i), d])))
noncomputable def xTold (c : Env → M Dt) : Env → M Dt := fun ρ => rb (Ea.calmE ρ) fun ρ => catchX (c ρ) tellX
theorem tell_go {K : PySem.W.Frag} {q : Dt → Prop} {x : Xi} (z : sat (tellX x) q xe) : Ea.toldX K q (xdOf K x) := by
  obtain ⟨i, f⟩ := x
  obtain ⟨h, z⟩ := sat_gd z
  have hi : i < 15 := Nat.le_of_ble_eq_true h
  refine ⟨i, hi, rfl, ?_⟩
  cases f with
  | none =>
    obtain ⟨h3, z⟩ := sat_gd z
    have z : q (.tup [.str sRefused, .str (sNm i)]) := z
    rw [sRefused_eq, sNm_eq hi] at z
    exact .inl ⟨Nat.le_of_ble_eq_true h3, rfl, z⟩
  | some d =>
    obtain ⟨h3, z⟩ := sat_gd z
    have z : q (.tup [.str sRefused, .str (sNm i), d]) := z
    rw [sRefused_eq, sNm_eq hi] at z
    exact .inr ⟨Nat.le_of_ble_eq_true h3, d, rfl, z⟩
theorem px_told {c0 P : Addr} {params : Arguments} {body : Expr} {scope : Scope} {lpos : Pos} (W : Ea.Tells X) (hg : Gl X "_law_told") (TB : LamX.TabB X.base X.mg c0 P) (mine : X.env.code = .ref c0) (hr : Room (k + 2) X.A) (L : LamX.LamS X.env.scope scope) (plain : defaultsOf params X.env = ([], [])) (nb : Xs.NoArgs params body scope)
    (jP : s0.J P = some (Lt (Xs.lamQ X))) (tj : ∀ P ∈ T, s0.J P.1 = some P.2)
    (hbody : ∀ A outer s H E f c', Room k (A.deeper (LamX.lamEnv X scope s.heap.objs.size f c')) → ∀ (s1 : Wd) (xd1 : Xd → Prop), Lx s1 xd1 E → (∀ P ∈ T, s1.J P.1 = some P.2) → PE (Xs.bodyC (L2N.CX X.prog X.w) X A outer s H E scope f c') body (cE s1 (Rg (xeOf X.K xd1) c))) :
    PE X (.Call (.Name "_law_told" p) [.Lambda params body scope lpos] [] pos) (cE s0 (Rg xe (xTold c))) :=
  peR (Ea.pd_told (tX := fun xd => Rg (xeOf X.K xd) c) W hg TB mine hr L plain nb jP tj fun A outer s H E f c' hr => pl_of fun s1 xd1 lx1 tj1 => hbody A outer s H E f c' hr s1 xd1 lx1 tj1) fun ρ q z => by
    unfold xTold at z
    rw [rb_eq] at z
    exact (sat_catch z).mono (fun _ h => h) fun x h => tell_go h
end
/-! ### dice -/
noncomputable def x__law_roll : List Dt → M Dt := fun ds => match ds with | [.die, .int m] => .roll m fun r => .ret (.int r) | _ => .no
theorem roll_go {K : PySem.W.Frag} : ∀ ds q xd, spX K x__law_roll ds q xd → spRoll ds q xd := fun ds q xd z => by
  match ds with
  | [] => exact z.elim
  | [d] => cases d <;> exact z.elim
  | [d, m] =>
    cases d with
    | die =>
      cases m with
      | int m => exact z
      | _ => exact z.elim
    | _ => cases m <;> exact z.elim
  | d :: m :: _ :: _ => cases d <;> cases m <;> exact z.elim
end
end Xe
/-! code over data: dicts -/
namespace L2
open PySem PySem.Spec
theorem Room.units1 {k : Nat} {A : Around} (r : Room k A) : A.units + 1 < cLine := by have := r.un; omega
end L2
namespace Xe
open PySem hiding Env
open PySem.Spec PyProof.Rows L2 Dl
noncomputable section
/-! ### keys -/
noncomputable def keq (a b : Key) : Bool := match a, b with | .inl i, .inl j => decide (i = j) | .inr x, .inr y => eqs x y | _, _ => false
theorem keq_eq (a b : Key) : keq a b = decide (a = b) := by
  cases a with
  | inl i =>
    cases b with
    | inl j => exact (dec_inj (f := Sum.inl) (fun _ _ z => by injection z) i j).symm
    | inr y => exact (decide_eq_false (fun z => nomatch z)).symm
  | inr x =>
    cases b with
    | inl j => exact (decide_eq_false (fun z => nomatch z)).symm
    | inr y =>
      show eqs x y = _
      rw [eqs_eq]
      exact (dec_inj (f := Sum.inr) (fun _ _ z => by injection z) x y).symm
noncomputable def keyOf : Dt → Option Key
  | .int i => some (.inl i)
  | .str x => some (.inr x)
  | _ => none
theorem keyOf_rv {J : Addr → Option Vol} {F : Hp} {v : V} {d : Dt} {k : Key} (r : Rv J F v d) (h : keyOf d = some k) : v = kV k := by
  cases r with
  | int i => cases h; rfl
  | str x => cases h; rfl
  | _ => cases h
noncomputable def keyD : Key → Dt
  | .inl i => .int i
  | .inr x => .str x
theorem keyD_rv {J : Addr → Option Vol} {F : Hp} (k : Key) : Rv J F (kV k) (keyD k) := by
  cases k with
  | inl i => exact .int i
  | inr x => exact .str x
noncomputable def valD (ks : List (Key × Dt)) (k : Key) : Option Dt := match ks with | [] => none | (j, d) :: r => match keq j k with | true => some d | false => valD r k
noncomputable def putD (ks : List (Key × Dt)) (k : Key) (d : Dt) : List (Key × Dt) := match ks.any (fun kv => keq kv.1 k) with | true => ks.map (fun kv => match keq kv.1 k with | true => (kv.1, d) | false => kv) | false => ks ++ [(k, d)]
section
variable {J : Addr → Option Vol} {F : Hp}
theorem Rks_length : ∀ {ws : List (Key × V)} {ks : List (Key × Dt)}, Rks J F ws ks → ws.length = ks.length
  | _, _, .nil => rfl
  | _, _, .cons _ r => by rw [List.length_cons, List.length_cons, Rks_length r]
theorem Rks_val {k : Key} {d : Dt} : ∀ {ws : List (Key × V)} {ks : List (Key × Dt)}, Rks J F ws ks → valD ks k = some d → ∃ v, valV ws k = some v ∧ Rv J F v d
  | _, _, .nil, h => nomatch h
  | _, _, .cons (k := j) (v := v) h r, e => by
    unfold valD at e
    rw [keq_eq] at e
    by_cases z : j = k
    · rw [decide_eq_true z] at e
      cases e
      exact ⟨v, valV_pos z, h⟩
    · rw [decide_eq_false z] at e
      obtain ⟨v', e1, e2⟩ := Rks_val r e
      exact ⟨v', by rw [valV_neg z]; exact e1, e2⟩
theorem Rks_none {k : Key} : ∀ {ws : List (Key × V)} {ks : List (Key × Dt)}, Rks J F ws ks → valD ks k = none → valV ws k = none
  | _, _, .nil, _ => rfl
  | _, _, .cons (k := j) (v := v) h r, e => by
    unfold valD at e
    rw [keq_eq] at e
    by_cases z : j = k
    · rw [decide_eq_true z] at e; cases e
    · rw [decide_eq_false z] at e
      rw [valV_neg z]
      exact Rks_none r e
theorem Rks_some {k : Key} {ws : List (Key × V)} {ks : List (Key × Dt)} (r : Rks J F ws ks) : (valV ws k).isSome = (valD ks k).isSome := by
  cases e : valD ks k with
  | none => rw [Rks_none r e]; rfl
  | some d => obtain ⟨v, e1, _⟩ := Rks_val r e; rw [e1]; rfl
theorem Rks_any {k : Key} : ∀ {ws : List (Key × V)} {ks : List (Key × Dt)}, Rks J F ws ks → (ws.any fun kv => decide (kv.1 = k)) = ks.any fun kv => keq kv.1 k
  | _, _, .nil => rfl
  | _, _, .cons (k := j) h r => by rw [List.any_cons, List.any_cons, Rks_any r, keq_eq]
theorem Rks_map {k : Key} {v : V} {d : Dt} (h : Rv J F v d) : ∀ {ws : List (Key × V)} {ks : List (Key × Dt)}, Rks J F ws ks → Rks J F (ws.map fun kv => if kv.1 = k then (kv.1, v) else kv) (ks.map fun kv => match keq kv.1 k with | true => (kv.1, d) | false => kv)
  | _, _, .nil => .nil
  | _, _, .cons (k := j) q r => by
    rw [List.map_cons, List.map_cons]
    have ih := Rks_map (k := k) h r
    by_cases z : j = k
    · have e : keq j k = true := by rw [keq_eq, decide_eq_true z]
      simp only [e, if_pos z]
      exact .cons h ih
    · have e : keq j k = false := by rw [keq_eq, decide_eq_false z]
      simp only [e, if_neg z]
      exact .cons q ih
theorem Rks_append : ∀ {ws vs : List (Key × V)} {ks ls : List (Key × Dt)}, Rks J F ws ks → Rks J F vs ls → Rks J F (ws ++ vs) (ks ++ ls)
  | _, _, _, _, .nil, q => q
  | _, _, _, _, .cons h r, q => .cons h (Rks_append r q)
theorem Rks_put {ws : List (Key × V)} {ks : List (Key × Dt)} (k : Key) {v : V} {d : Dt} (r : Rks J F ws ks) (h : Rv J F v d) : Rks J F (putK ws k v) (putD ks k d) := by
  unfold putK putD
  rw [Rks_any r]
  cases e : ks.any fun kv => keq kv.1 k with
  | true => rw [if_pos rfl]; exact Rks_map h r
  | false => rw [if_neg Bool.false_ne_true]; exact Rks_append r (.cons h .nil)
theorem Rks_at : ∀ {ws : List (Key × V)} {ks : List (Key × Dt)} {i : Nat} {k : Key} {v : V}, Rks J F ws ks → ws[i]? = some (k, v) → ∃ d, ks[i]? = some (k, d) ∧ Rv J F v d
  | _, _, _, _, _, .nil, no => by cases no
  | _, _, 0, _, _, .cons h _, e => by simp at e; obtain ⟨rfl, rfl⟩ := e; exact ⟨_, rfl, h⟩
  | _, _, i + 1, k, v, .cons _ r, e => by
    obtain ⟨d, h1, h2⟩ := Rks_at (i := i) (k := k) (v := v) r (by simpa using e)
    exact ⟨d, by simpa using h1, h2⟩
end
theorem Rks.upw {s s' : Wd} {v : List (Key × V)} {d : List (Key × Dt)} (h : Rks s.J s.F v d) (u : Up s s') : Rks s'.J s'.F v d := h.fw u.fr u.jr
section
variable {X : Cx} {s0 : Wd} {xe : Xi → Prop} {e a b tg : Expr} {es : List Expr} {c ca cb cc : Env → M Dt} {cA' cAA cBB ci : Env → M (List Dt)} {cs ct : Env → M Bool} {cd : Env → M (List (Key × Dt))} {z1 : Env → M Out} {pos p p2 pp : Pos} {n : Nat} {st : Stmt} {rest : List Stmt}
/-! ### values of tests, chains -/
noncomputable def xV (c : Env → M Bool) : Env → M Dt := fun ρ => bd (c ρ) fun b => .ret (.bl b)
theorem px_chain {c : Expr} {f f' : Dt → Dt → M Dt} {op op' : CmpOp} {r r' : R2} {rd rd' : Dt → Dt → (Dt → Prop) → Prop} (ho : OpR X (compareOp op) r) (ho' : OpR X (compareOp op') r') (h : OpF r rd) (h' : OpF r' rd') (hf : Sm f rd) (hf' : Sm f' rd') (ha : PE X a (cE s0 (Rg xe ca))) (hb : PE X b (cE s0 (Rg xe cb))) (hc : PE X c (cE s0 (Rg xe cc)))
    (hm : lastMarks [op, op'] [b, c] = false := by with_unfolding_all rfl) : PE X (.Compare a [op, op'] [b, c] pos) (cE s0 (Rg xe (xV (xChain f f' ca cb cc)))) := peI (pe_chain ho ho' ha hb hc hm) fun σ H Q ⟨s, ρ, q, e, R, t, k⟩ => chain_F (rd := rd) (rd' := rd') h h' ⟨s, ρ, q, e, R, (by
  refine (sat_bd.mp (sat_bd.mp t)).imp fun x z => (sat_bd.mp z).imp fun y z => hf x y _ xe (sat_noX ((sat_bd.mp z).imp fun k z => ?_))
  cases k with
  | bl k =>
    cases k with
    | true => exact (if_pos rfl).mpr ((sat_bd.mp z).imp fun w z => hf' y w _ xe (sat_noX ((sat_bd.mp z).imp fun v z => by cases v <;> first | exact z | exact z.elim)))
    | false => exact z
  | _ => exact z), k⟩
/-! ### new dicts -/
noncomputable def cOD (s0 : Wd) (t : Env → (List (Key × Dt) → Prop) → Prop) : TE := fun σ H Q => ∃ s ρ q, s.H = H ∧ Rp s0 s ρ σ ∧ t ρ q ∧ ∀ ks ws a s', q ks → Up s s' → s.H a = none → s'.H a = some (.dK ws) → s'.F a = none → s'.J a = none → Rks s'.J s'.F ws ks → Q (.ref a) s'.H
noncomputable def xD0 : Env → M (List (Key × Dt)) := fun _ => .ret []
theorem pxd_new : PE X (.Dict [] [] pos) (cOD s0 (Rg xe xD0)) := peI pe_dnewK fun σ H Q ⟨s, ρ, q, e, R, t, k⟩ => by
  subst e
  exact fun p np => k [] [] p (s.put p (.dK [])) t (Up.put R.ok _ np) np upd_same (R.ok.nof np) (R.ok.noj np) .nil
noncomputable def xSetD (i : Nat) (c : Env → M (List (Key × Dt))) : Env → M Out := fun ρ => bd (c ρ) fun ks => rb (ep ρ i (.ow (.d ks))) fun ρ => .ret (.nx ρ)
theorem sx_setD {i : Nat} {x : Str} {pos' : Pos} (hN : X.N.Nodup) (hi : X.N[i]? = some x) (hx : Loc X.env.scope x) (he : PE X e (cOD s0 (Rg xe cd))) (hs : swapsWith e (some (.Name x pos')) pos.line X.env = pure false := by rfl) (hf : X.fn x = true ∨ X.env.scope.names.lookup x = some .local := by first | exact .inl rfl | exact .inr rfl | assumption) :
    PS X (.Assign [.Name x pos'] e pos) (cS s0 (RS xe (xSetD i cd))) := psI (ps_set hN hi hx he hs hf) fun B σ H ⟨s, ρ, D, e, R, t, l⟩ => by
  refine ⟨s, ρ, _, e, R, sat_bd.mp t, fun ks ws a s' t1 u n e1 e2 e3 r => ?_⟩
  rw [rb_eq] at t1
  refine l.nx s' _ _ t1 ((R.up' u).setOw i e1 e2 e3 (R.up.free n) (.d r) fun j es _ hj hs => ?_) u.fw
  obtain ⟨a', vs', f1, f2, _⟩ := R.ow j es hj
  rw [hs] at f1
  cases f1
  rw [n] at f2
  cases f2
/-- what is asked of a slot that holds a dict of our own -/
theorem od_go {α : Type} {i : Nat} {ρ : Env} {q : α → Prop} {k : List (Key × Dt) → M α} (z : sat (match eg ρ i with | .ow (.d ks) => k ks | _ => .no) q xe) : ∃ ks, eg ρ i = .ow (.d ks) ∧ sat (k ks) q xe := by
  cases w : eg ρ i with
  | ow o =>
    cases o with
    | l ds => rw [w] at z; exact z.elim
    | d kvs => rw [w] at z; exact ⟨kvs, rfl, z⟩
  | _ => rw [w] at z; exact z.elim
noncomputable def xPutD (j : Nat) (ck c : Env → M Dt) : Env → M Out := fun ρ => match eg ρ j with
  | .ow (.d ks) => bd (c ρ) fun d => bd (ck ρ) fun y => (match keyOf y with | some k => gd (Nat.blt ks.length 16777216) (fz d fun d => rb (putD ks k d) fun ks => rb (ep ρ j (.ow (.d ks))) fun ρ => .ret (.nx ρ)) | none => .no)
  | _ => .no
theorem sx_putD (j : Nat) {x : Str} {p1 spos : Pos} (hu : X.A.units + 1 < cLine) (hk : PE X b (cE s0 (Rg xe cb))) (he : PE X e (cE s0 (Rg xe c))) (hN : X.N[j]? = some x := by rfl) (hv : Vis X.env.scope x := by first | exact Or.inl rfl | exact Or.inr (Or.inl rfl) | exact Or.inr (Or.inr rfl)) (hd : (x == ("__debug__" : Str)) = false := by decide)
    (hcd : (x == ("__classdict__" : Str)) = false := by decide) (hs : swapsWith e (some (.Subscript (.Name x p1) b spos)) pos.line X.env = pure false := by rfl) :
    PS X (.Assign [.Subscript (.Name x p1) b spos] e pos) (cS s0 (RS xe (xPutD j cb c))) := psI (ps_dput hu (pe_var hN hv hd hcd) hk he hs) fun B σ H ⟨s, ρ, D, e, R, t, l⟩ => by
  subst e
  obtain ⟨ks, w, t⟩ := od_go t
  obtain ⟨a, ho, e1, e2, e3, e4, e5, e0⟩ := R.ow j _ w
  obtain ⟨ws, rfl, e6⟩ := e0.dic
  refine ⟨s, ρ, _, rfl, R, sat_bd.mp t, fun d v s1 t1 u1 r1 => ⟨_, e1, s1, ρ, _, rfl, R.up' u1, sat_bd.mp t1, fun y vy s2 t2 u2 r2 => ?_⟩⟩
  cases hk : keyOf y with
  | none => rw [hk] at t2; exact t2.elim
  | some k =>
    rw [hk] at t2
    obtain ⟨h, t3⟩ := sat_gd t2
    simp only [fz_eq, rb_eq] at t3
    have h : ks.length < 16777216 := Nat.le_of_ble_eq_true h
    have U := u1.trans u2
    have R' := (R.up' U).write w e1 (.d (Rks_put k (Rks.upw e6 U) (r1.up u2)))
    have eH : s2.H a = some (.dK ws) := U.keep a _ e2 e4
    rw [keyOf_rv r2 hk]
    exact ⟨a, _, rfl, DPut.k eH (by rw [Rks_length e6, sizeLine_eq]; exact h), l.nx _ _ _ t3 R' ⟨R'.ok, U.fr, U.jr⟩⟩
noncomputable def xGetO (i : Nat) (cb : Env → M Dt) : Env → M Dt := fun ρ => match eg ρ i with | .ow (.d ks) => bd (cb ρ) fun y => (match keyOf y with | some k => ofO (valD ks k) | none => .no) | _ => .no
theorem px_getO (i : Nat) {x : Str} {p : Pos} (hu : X.A.units + 1 < cLine) (hb : PE X b (cE s0 (Rg xe cb))) (hN : X.N[i]? = some x := by rfl) (hv : Vis X.env.scope x := by first | exact Or.inl rfl | exact Or.inr (Or.inl rfl) | exact Or.inr (Or.inr rfl)) (hd : (x == ("__debug__" : Str)) = false := by decide)
    (hcd : (x == ("__classdict__" : Str)) = false := by decide) (hs : NoSl b := by exact fun _ _ => rfl) : PE X (.Subscript (.Name x p) b pos) (cE s0 (Rg xe (xGetO i cb))) := peI (pe_dget hu (pe_var hN hv hd hcd) hb hs) fun σ H Q ⟨s, ρ, q, e, R, t, k⟩ => by
  subst e
  obtain ⟨ks, w, t⟩ := od_go t
  obtain ⟨a, ho, e1, e2, e3, e4, e5, e0⟩ := R.ow i _ w
  obtain ⟨ws, rfl, e6⟩ := e0.dic
  refine ⟨_, e1, s, ρ, _, rfl, R, sat_bd.mp t, fun y vy s1 t1 u1 r1 => ?_⟩
  cases hk : keyOf y with
  | none => rw [hk] at t1; exact t1.elim
  | some kk =>
    rw [hk] at t1
    obtain ⟨d, hd, hq⟩ := sat_ofO t1
    obtain ⟨v, hv, rv⟩ := Rks_val e6 hd
    rw [keyOf_rv r1 hk]
    exact ⟨a, v, rfl, by rw [← hv]; exact DGet.k (u1.keep a _ e2 e4), k d v s1 hq u1 (rv.up u1)⟩
/-- k in d, of our own -/
noncomputable def xInO (n : Bool) (i : Nat) (cb : Env → M Dt) : Env → M Dt := fun ρ => match eg ρ i with | .ow (.d ks) => bd (cb ρ) fun y => (match keyOf y with | some k => .ret (.bl (n != (valD ks k).isSome)) | none => .no) | _ => .no
theorem inO_go {i : Nat} {n : Bool} {x : Str} {ρ : Env} {q : Dt → Prop} (t : sat (xInO n i cb ρ) q xe) : ∃ ks, eg ρ i = .ow (.d ks) ∧ sat (cb ρ) (fun y => ∃ k, keyOf y = some k ∧ q (.bl (n != (valD ks k).isSome))) xe := by
  obtain ⟨ks, w, t⟩ := od_go t
  refine ⟨ks, w, (sat_bd.mp t).imp fun y z => ?_⟩
  cases hk : keyOf y with
  | none => rw [hk] at z; exact z.elim
  | some k => rw [hk] at z; exact ⟨k, rfl, z⟩
theorem pc_inO (i : Nat) {x : Str} {p : Pos} (hu : X.A.units + 1 < cLine) (hb : PE X b (cE s0 (Rg xe cb))) (hN : X.N[i]? = some x) (hv : Vis X.env.scope x) (hd : (x == ("__debug__" : Str)) = false) (hcd : (x == ("__classdict__" : Str)) = false) : PC X .In b (.Name x p) (cE s0 (Rg xe (xInO false i cb))) :=
  ⟨fun pins sh σ H Q I ⟨s, ρ, q, e, R, t, k⟩ => (pc_din hu hb (pe_var hN hv hd hcd)).run pins sh σ H Q I (by
    subst e
    obtain ⟨ks, w, t⟩ := inO_go (x := x) t
    obtain ⟨a, ho, e1, e2, e3, e4, e5, e0⟩ := R.ow i _ w
    obtain ⟨ws, rfl, e6⟩ := e0.dic
    refine ⟨s, ρ, _, rfl, R, t, fun y vy s1 ⟨kk, hk, t1⟩ u1 r1 => ⟨_, e1, a, valV ws kk, rfl, by rw [keyOf_rv r1 hk]; exact DGet.k (u1.keep a _ e2 e4), ?_⟩⟩
    rw [Rks_some e6]
    rw [Bool.false_bne] at t1
    exact k _ _ s1 t1 u1 (.bl _))⟩
theorem pc_inONot (i : Nat) {x : Str} {p : Pos} (hu : X.A.units + 1 < cLine) (hb : PE X b (cE s0 (Rg xe cb))) (hN : X.N[i]? = some x) (hv : Vis X.env.scope x) (hd : (x == ("__debug__" : Str)) = false) (hcd : (x == ("__classdict__" : Str)) = false) : PC X .NotIn b (.Name x p) (cE s0 (Rg xe (xInO true i cb))) :=
  ⟨fun pins sh σ H Q I ⟨s, ρ, q, e, R, t, k⟩ => (pc_dnotin hu hb (pe_var hN hv hd hcd)).run pins sh σ H Q I (by
    subst e
    obtain ⟨ks, w, t⟩ := inO_go (x := x) t
    obtain ⟨a, ho, e1, e2, e3, e4, e5, e0⟩ := R.ow i _ w
    obtain ⟨ws, rfl, e6⟩ := e0.dic
    refine ⟨s, ρ, _, rfl, R, t, fun y vy s1 ⟨kk, hk, t1⟩ u1 r1 => ⟨_, e1, a, valV ws kk, rfl, by rw [keyOf_rv r1 hk]; exact DGet.k (u1.keep a _ e2 e4), ?_⟩⟩
    rw [Rks_some e6]
    rw [Bool.true_bne] at t1
    exact k _ _ s1 t1 u1 (.bl _))⟩
theorem pc_test {op : CmpOp} (h : PC X op a b (cE s0 (Rg xe c))) (h1 : behindInMarks op b = false) : PT X (.Compare a [op] [b] pos) (cT s0 (Rg xe (xB c))) := ptI (pt_cmp h h1) fun σ H Q z => by
  obtain ⟨s, ρ, q, e, R, t, k⟩ := z
  refine ⟨s, ρ, _, e, R, sat_bd.mp t, fun d v s' t1 u r1 => ?_⟩
  cases r1 with
  | bl b => exact ⟨b, rfl, k b s' t1 u⟩
  | _ => exact t1.elim
theorem px_inO (i : Nat) {x : Str} {p : Pos} (hu : X.A.units + 1 < cLine) (hb : PE X b (cE s0 (Rg xe cb))) (hN : X.N[i]? = some x := by rfl) (hv : Vis X.env.scope x := by first | exact Or.inl rfl | exact Or.inr (Or.inl rfl) | exact Or.inr (Or.inr rfl)) (hd : (x == ("__debug__" : Str)) = false := by decide)
    (hcd : (x == ("__classdict__" : Str)) = false := by decide) : PE X (.Compare b [.In] [.Name x p] pos) (cE s0 (Rg xe (xInO false i cb))) := pe_cmp (pc_inO i hu hb hN hv hd hcd) rfl
theorem px_inONot (i : Nat) {x : Str} {p : Pos} (hu : X.A.units + 1 < cLine) (hb : PE X b (cE s0 (Rg xe cb))) (hN : X.N[i]? = some x := by rfl) (hv : Vis X.env.scope x := by first | exact Or.inl rfl | exact Or.inr (Or.inl rfl) | exact Or.inr (Or.inr rfl)) (hd : (x == ("__debug__" : Str)) = false := by decide)
    (hcd : (x == ("__classdict__" : Str)) = false := by decide) : PE X (.Compare b [.NotIn] [.Name x p] pos) (cE s0 (Rg xe (xInO true i cb))) := pe_cmp (pc_inONot i hu hb hN hv hd hcd) rfl
theorem pxt_inO (i : Nat) {x : Str} {p : Pos} (hu : X.A.units + 1 < cLine) (hb : PE X b (cE s0 (Rg xe cb))) (hN : X.N[i]? = some x := by rfl) (hv : Vis X.env.scope x := by first | exact Or.inl rfl | exact Or.inr (Or.inl rfl) | exact Or.inr (Or.inr rfl)) (hd : (x == ("__debug__" : Str)) = false := by decide)
    (hcd : (x == ("__classdict__" : Str)) = false := by decide) : PT X (.Compare b [.In] [.Name x p] pos) (cT s0 (Rg xe (xB (xInO false i cb)))) := pc_test (pc_inO i hu hb hN hv hd hcd) rfl
theorem pxt_inONot (i : Nat) {x : Str} {p : Pos} (hu : X.A.units + 1 < cLine) (hb : PE X b (cE s0 (Rg xe cb))) (hN : X.N[i]? = some x := by rfl) (hv : Vis X.env.scope x := by first | exact Or.inl rfl | exact Or.inr (Or.inl rfl) | exact Or.inr (Or.inr rfl)) (hd : (x == ("__debug__" : Str)) = false := by decide)
    (hcd : (x == ("__classdict__" : Str)) = false := by decide) : PT X (.Compare b [.NotIn] [.Name x p] pos) (cT s0 (Rg xe (xB (xInO true i cb)))) := pc_test (pc_inONot i hu hb hN hv hd hcd) rfl
/-! ### frozen dicts -/
noncomputable def fGet : Dt → Dt → M Dt := fun x y => match x with | .dic ks => (match keyOf y with | some k => ofO (valD ks k) | none => .no) | _ => .no
theorem px_get (hu : X.A.units + 1 < cLine) (ha : PE X a (cE s0 (Rg xe ca))) (hb : PE X b (cE s0 (Rg xe cb))) (hs : NoSl b := by exact fun _ _ => rfl) : PE X (.Subscript a b pos) (cE s0 (Rg xe (xOp fGet ca cb))) := peI (pe_dget hu ha hb hs) fun σ H Q ⟨s, ρ, q, e, R, t, k⟩ =>
  ⟨s, ρ, _, e, R, sat_bd.mp t, fun d v s1 t1 u1 r1 => ⟨s1, ρ, _, rfl, R.up' u1, sat_bd.mp t1, fun y vy s2 t2 u2 r2 => by
    have r1' := r1.up u2
    cases r1' with
    | @dic ad o ws ks hF hr =>
      have t2 : sat (match keyOf y with | some k => ofO (valD ks k) | none => .no) q xe := t2
      cases hk : keyOf y with
      | none => rw [hk] at t2; exact t2.elim
      | some kk =>
        rw [hk] at t2
        obtain ⟨d, hd, hq⟩ := sat_ofO t2
        obtain ⟨v, hv, rv⟩ := Rks_val hr hd
        rw [keyOf_rv r2 hk]
        exact ⟨ad, v, rfl, .inl ⟨ws, kk, .inr ⟨o, u2.ok.sub _ _ hF⟩, rfl, hv.symm⟩, k d v s2 hq (u1.trans u2) rv⟩
    | _ => exact t2.elim⟩⟩
noncomputable def fIn (n : Bool) : Dt → Dt → M Dt := fun y x => match x with | .dic ks => (match keyOf y with | some k => .ret (.bl (n != (valD ks k).isSome)) | none => .no) | _ => .no
theorem in_go {n : Bool} {σ : L2.St} {H : Hp} {Q : VK} (z : cE s0 (Rg xe (xOp (fIn n) ca cb)) σ H Q) : cE s0 (Rg xe ca) σ H fun y H1 => cE s0 (Rg xe cb) σ H1 fun x H2 => ∃ ad o, x = .ref ad ∧ DGet H2 ad y o ∧ Q (.bl (n != o.isSome)) H2 := by
  obtain ⟨s, ρ, q, e, R, t, k⟩ := z
  refine ⟨s, ρ, _, e, R, sat_bd.mp t, fun y vy s1 t1 u1 r1 => ⟨s1, ρ, _, rfl, R.up' u1, sat_bd.mp t1, fun d v s2 t2 u2 r2 => ?_⟩⟩
  cases r2 with
  | @dic ad o ws ks hF hr =>
    have t2 : sat (match keyOf y with | some k => M.ret (.bl (n != (valD ks k).isSome)) | none => .no) q xe := t2
    cases hk : keyOf y with
    | none => rw [hk] at t2; exact t2.elim
    | some kk =>
      rw [hk] at t2
      rw [keyOf_rv r1 hk]
      refine ⟨ad, _, rfl, .inl ⟨ws, kk, .inr ⟨o, u2.ok.sub _ _ hF⟩, rfl, rfl⟩, ?_⟩
      rw [Rks_some hr]
      exact k _ _ s2 t2 (u1.trans u2) (.bl _)
  | _ => exact t2.elim
theorem pc_in (hu : X.A.units + 1 < cLine) (ha : PE X a (cE s0 (Rg xe ca))) (hb : PE X b (cE s0 (Rg xe cb))) : PC X .In a b (cE s0 (Rg xe (xOp (fIn false) ca cb))) :=
  ⟨fun pins sh σ H Q I z => (pc_din hu ha hb).run pins sh σ H Q I (by have := in_go z; simp only [Bool.false_bne] at this; exact this)⟩
theorem pc_inNot (hu : X.A.units + 1 < cLine) (ha : PE X a (cE s0 (Rg xe ca))) (hb : PE X b (cE s0 (Rg xe cb))) : PC X .NotIn a b (cE s0 (Rg xe (xOp (fIn true) ca cb))) :=
  ⟨fun pins sh σ H Q I z => (pc_dnotin hu ha hb).run pins sh σ H Q I (by have := in_go z; simp only [Bool.true_bne] at this; exact this)⟩
theorem px_in (hu : X.A.units + 1 < cLine) (ha : PE X a (cE s0 (Rg xe ca))) (hb : PE X b (cE s0 (Rg xe cb))) (h1 : behindInMarks .In b = false := by rfl) : PE X (.Compare a [.In] [b] pos) (cE s0 (Rg xe (xOp (fIn false) ca cb))) := pe_cmp (pc_in hu ha hb) h1
theorem px_inNot (hu : X.A.units + 1 < cLine) (ha : PE X a (cE s0 (Rg xe ca))) (hb : PE X b (cE s0 (Rg xe cb))) (h1 : behindInMarks .NotIn b = false := by rfl) : PE X (.Compare a [.NotIn] [b] pos) (cE s0 (Rg xe (xOp (fIn true) ca cb))) := pe_cmp (pc_inNot hu ha hb) h1
theorem pxt_in (hu : X.A.units + 1 < cLine) (ha : PE X a (cE s0 (Rg xe ca))) (hb : PE X b (cE s0 (Rg xe cb))) (h1 : behindInMarks .In b = false := by rfl) : PT X (.Compare a [.In] [b] pos) (cT s0 (Rg xe (xB (xOp (fIn false) ca cb)))) := pc_test (pc_in hu ha hb) h1
theorem pxt_inNot (hu : X.A.units + 1 < cLine) (ha : PE X a (cE s0 (Rg xe ca))) (hb : PE X b (cE s0 (Rg xe cb))) (h1 : behindInMarks .NotIn b = false := by rfl) : PT X (.Compare a [.NotIn] [b] pos) (cT s0 (Rg xe (xB (xOp (fIn true) ca cb)))) := pc_test (pc_inNot hu ha hb) h1
/-! ### freezing -/
theorem ps_ghost {t : TS} (h : PS X st t) : PS X st (fun D σ H => ∃ d u, H d = some u ∧ Mut (some u) ∧ ∀ od, t D σ (upd H d (.frz od u))) := ⟨fun pins s σ H D I ⟨d, u, hd, mu, hw⟩ => by
  obtain ⟨od, I1⟩ := I.lock hd mu
  exact h.run pins s σ _ D I1 (hw od)⟩
theorem pss_ghost {t : TS} (h : PSs X rest t) : PSs X rest (fun D σ H => ∃ d u, H d = some u ∧ Mut (some u) ∧ ∀ od, t D σ (upd H d (.frz od u))) := ⟨fun pins s σ H D I ⟨d, u, hd, mu, hw⟩ => by
  obtain ⟨od, I1⟩ := I.lock hd mu
  exact h.run pins s σ _ D I1 (hw od)⟩
theorem pe_ghost {t : TE} (h : PE X e t) : PE X e (fun σ H Q => t σ H fun v H' => ∃ d u, H' d = some u ∧ Mut (some u) ∧ ∀ od, Q v (upd H' d (.frz od u))) := ⟨fun pins s σ H Q I hw => thn (h.run pins s σ H _ I hw) fun v s1 ⟨x, H1, I1, r, d, u, hd, mu, q⟩ => by
  obtain ⟨od, I2⟩ := I1.lock hd mu
  exact ⟨x, _, I2, r, q od⟩⟩
noncomputable def xFrzD (i : Nat) (z : Env → M Out) : Env → M Out := fun ρ => match eg ρ i with | .ow (.d ks) => rb (ep ρ i (.va (.dic ks))) z | _ => .no
theorem frzD_go {i : Nat} {B : Ends} {σ : L2.St} {H : Hp} (z : cS s0 (RS xe (xFrzD i z1)) B σ H) : ∃ d u, H d = some u ∧ Mut (some u) ∧ ∀ od, cS s0 (RS xe z1) B σ (upd H d (.frz od u)) := by
  obtain ⟨s, ρ, D, e, R, t, l⟩ := z
  subst e
  obtain ⟨ks, w, t⟩ := od_go t
  rw [rb_eq] at t
  obtain ⟨a, ws, e2, eF, _, ice⟩ := R.iceD w
  refine ⟨a, _, e2, trivial, fun od => ⟨_, _, D, rfl, ice od, t, l.fw ⟨(ice od).ok, fun b o e => ?_, fun _ _ e => e⟩⟩⟩
  show upd s.F a _ b = _
  have : b ≠ a := fun z => by rw [z, eF] at e; cases e
  rw [upd_ne this]; exact e
theorem sx_frzD (i : Nat) (h : PS X st (cS s0 (RS xe z1))) : PS X st (cS s0 (RS xe (xFrzD i z1))) := psI (ps_ghost h) fun _ _ _ z => frzD_go z
theorem sxs_frzD (i : Nat) (h : PSs X rest (cS s0 (RS xe z1))) : PSs X rest (cS s0 (RS xe (xFrzD i z1))) := pssI (pss_ghost h) fun _ _ _ z => frzD_go z
noncomputable def xD (c : Env → M (List (Key × Dt))) : Env → M Dt := fun ρ => bd (c ρ) fun ks => .ret (.dic ks)
theorem Up.iceD {s s' : Wd} (u : Up s s') {a : Addr} {ws : List (Key × V)} {od : Obj} (n : s.H a = none) (e : s'.H a = some (.dK ws)) (f : s'.F a = none) (j : s'.J a = none) : Up s ⟨s'.J, upd s'.F a (.frz od (.dK ws)), upd s'.H a (.frz od (.dK ws))⟩ where
  ok := ⟨fun b w e' => by
      by_cases z : b = a
      · subst z
        have e2 : upd s'.F b (.frz od (.dK ws)) b = some w := e'
        show upd s'.H b _ b = _
        rw [upd_same] at e2 ⊢
        exact e2
      · have e2 : upd s'.F a (.frz od (.dK ws)) b = some w := e'
        show upd s'.H a _ b = _
        rw [upd_ne z] at e2 ⊢
        exact u.ok.sub b w e2, fun b P e' => by
      have : b ≠ a := fun z => by rw [z] at e'; rw [show s'.J a = _ from e'] at j; cases j
      obtain ⟨w, q1, q2⟩ := u.ok.vol b P e'
      exact ⟨w, by show upd s'.H a _ b = _; rw [upd_ne this]; exact q1, P.mono (fun c q z => ⟨z.1, by
        show upd s'.H a _ c = _
        have : c ≠ a := fun y => by rw [y] at z; exact (nomatch (Option.some.inj (e.symm.trans z.2)))
        rw [upd_ne this]; exact z.2⟩) q2⟩, fun b P e' => by
      have : b ≠ a := fun z => by rw [z] at e'; rw [show s'.J a = _ from e'] at j; cases j
      show upd s'.F a _ b = none
      rw [upd_ne this]; exact u.ok.ft b P e'⟩
  keep := fun b o e' j' => by
    show upd s'.H a _ b = _
    rw [upd_ne (ne_of_none e' n)]; exact u.keep b o e' j'
  fr := fun b w e' => by
    have e2 := u.fr b w e'
    have : b ≠ a := fun z => by rw [z, f] at e2; cases e2
    show upd s'.F a _ b = _
    rw [upd_ne this]; exact e2
  jr := u.jr
  nw := fun b w e' m => by
    by_cases z : b = a
    · subst z; exact n
    · have e2 : upd s'.F a (.frz od (.dK ws)) b = some w := e'
      rw [upd_ne z] at e2
      exact u.nw b w e2 m
  jn := u.jn
theorem px_iceD (h : PE X e (cOD s0 (Rg xe cd))) : PE X e (cE s0 (Rg xe (xD cd))) := peI (pe_ghost h) fun σ H Q ⟨s, ρ, q, e, R, t, k⟩ =>
  ⟨s, ρ, _, e, R, sat_bd.mp t, fun ks ws a s' t1 u n e1 f j r => ⟨a, _, e1, trivial, fun od => k (.dic ks) (.ref a) ⟨s'.J, _, _⟩ t1 (Up.iceD u n e1 f j) (.dic upd_same (r.fw (fun b o e => by
    have : b ≠ a := fun z => by rw [z, f] at e; cases e
    show upd s'.F a _ b = _
    rw [upd_ne this]; exact e) fun _ _ e => e))⟩⟩
/-! ### an own dict read for now -/
noncomputable def flV (m : M Dt) : M Dt := M.rec (motive := fun _ => M Dt) (fun d => gd (flB d) (.ret d)) (fun x => .exc x) .no (fun m _ ih => .roll m ih) m
theorem sat_flV {m : M Dt} {q : Dt → Prop} (h : sat (flV m) q xe) : sat m (fun d => flat d ∧ q d) xe := by
  induction m with
  | ret a => obtain ⟨h, z⟩ := sat_gd h; exact ⟨flB_ok h, z⟩
  | exc x => exact h
  | no => exact h
  | roll m k ih => exact ⟨h.1, h.2.1, fun r h1 h2 => ih r (h.2.2 r h1 h2)⟩
noncomputable def xLock (i : Nat) (c : Env → M Dt) : Env → M Dt := fun ρ => match eg ρ i with | .ow (.d ks) => flV (rb (ep ρ i (.va (.dic ks))) c) | _ => .no
theorem px_lock (i : Nat) (h : PE X e (cE s0 (Rg xe c))) : PE X e (cE s0 (Rg xe (xLock i c))) := peI (pe_lock h) fun σ H Q ⟨s, ρ, q, e, R, t, k⟩ => by
  subst e
  obtain ⟨ks, w, t⟩ := od_go t
  have t := sat_flV t
  rw [rb_eq] at t
  obtain ⟨a, ho, e1, e2, e3, e4, e5, e0⟩ := R.ow i _ w
  obtain ⟨ws, rfl, e6⟩ := e0.dic
  obtain ⟨a', ws', e2', eF, e1', ice⟩ := R.iceD w
  have ea : a' = a ∧ ws' = ws := by
    rw [e1] at e1'
    cases e1'
    rw [e2] at e2'
    cases e2'
    exact ⟨rfl, rfl⟩
  obtain ⟨rfl, rfl⟩ := ea
  refine ⟨a', _, e2, trivial, fun od => ⟨⟨s.J, upd s.F a' (.frz od (.dK ws')), upd s.H a' (.frz od (.dK ws'))⟩, _, _, rfl, ice od, t, fun d v s2 hq u2 rv => ?_⟩⟩
  have at2 : s2.H a' = some (.frz od (.dK ws')) := u2.ok.sub _ _ (u2.fr a' _ upd_same)
  refine ⟨at2, ?_⟩
  have back : Up s ⟨s2.J, fun b => if b = a' then none else s2.F b, upd s2.H a' (.dK ws')⟩ :=
    { ok := ⟨fun b o eb => by
        by_cases z : b = a'
        · subst z
          have eb' : (if b = b then none else s2.F b) = some o := eb
          rw [if_pos rfl] at eb'
          cases eb'
        · have eb' : (if b = a' then none else s2.F b) = some o := eb
          rw [if_neg z] at eb'
          show upd s2.H a' _ b = _
          rw [upd_ne z]
          exact u2.ok.sub b o eb', fun b P eb => by
        have nb : b ≠ a' := fun z => by
          have := u2.ok.ft b P eb
          rw [z, u2.fr a' _ upd_same] at this
          cases this
        obtain ⟨o, q1, q2⟩ := u2.ok.vol b P eb
        exact ⟨o, by show upd s2.H a' _ b = _; rw [upd_ne nb]; exact q1, P.mono (fun c q z => ⟨z.1, by
          show upd s2.H a' _ c = _
          have : c ≠ a' := fun y => by rw [y] at z; exact (nomatch (Option.some.inj (at2.symm.trans z.2)))
          rw [upd_ne this]; exact z.2⟩) q2⟩, fun b P eb => by
        show (if b = a' then none else s2.F b) = none
        split
        · rfl
        · exact u2.ok.ft b P eb⟩
      keep := fun b o eb jb => by
        show upd s2.H a' _ b = _
        by_cases z : b = a'
        · subst z
          rw [upd_same]
          rw [e2] at eb
          exact eb
        · rw [upd_ne z]
          exact u2.keep b o (by show upd s.H a' _ b = _; rw [upd_ne z]; exact eb) jb
      fr := fun b o eb => by
        have z : b ≠ a' := fun z => by rw [z, e3] at eb; cases eb
        show (if b = a' then none else s2.F b) = some o
        rw [if_neg z]
        exact u2.fr b o (by show upd s.F a' _ b = _; rw [upd_ne z]; exact eb)
      jr := u2.jr
      nw := fun b o eb nb => by
        by_cases z : b = a'
        · have eb' : (if b = a' then none else s2.F b) = some o := eb
          rw [if_pos z] at eb'
          cases eb'
        · have eb' : (if b = a' then none else s2.F b) = some o := eb
          rw [if_neg z] at eb'
          have := u2.nw b o eb' (by show upd s.F a' _ b = none; rw [upd_ne z]; exact nb)
          have this' : upd s.H a' _ b = none := this
          rw [upd_ne z] at this'
          exact this'
      jn := fun b P eb nb => by
        have := u2.jn b P eb nb
        have this' : upd s.H a' _ b = none := this
        by_cases z : b = a'
        · subst z; rw [upd_same] at this'; cases this'
        · rw [upd_ne z] at this'; exact this' }
  exact k d v _ hq.2 back (rv.flat hq.1)
/-! ### walks of a dict -/
noncomputable def keysD (ks : List (Key × Dt)) : List Dt := ks.map fun p => keyD p.1
noncomputable def xKeys (c : Env → M Dt) : Env → M (List Dt) := fun ρ => bd (c ρ) fun d => match d with | .dic ks => .ret (keysD ks) | _ => .no
theorem walkD_keys {s1 : Wd} {a : Addr} {o : Obj} {ws : List (Key × V)} {ks : List (Key × Dt)} (h : s1.F a = some (.frz o (.dK ws))) (r : Rks s1.J s1.F ws ks) : WalkD s1 (Itk a o ws) (keysD ks) := ⟨_, _, (by unfold keysD; rw [List.length_map, ← Rks_length r]; exact walk_keys (kvs := ws)), fun s f => f.ok.sub _ _ (f.fr _ _ h), fun i s x H' hi f y => by
  obtain ⟨e, k, v, hx, rfl⟩ := y
  obtain ⟨d, e1, _⟩ := Rks_at r hx
  exact ⟨s, keyD k, e.symm, Up.refl f.ok, by unfold keysD; rw [List.getElem?_map, e1]; rfl, keyD_rv k⟩⟩
theorem pxi_keys (h : PE X e (cE s0 (Rg xe c))) : PI X tg e (cI s0 (Rg xe (xKeys c))) := piI (pi_keys h) fun σ H R ⟨s, ρ, q, e, Rr, t, k⟩ => ⟨s, ρ, _, e, Rr, sat_bd.mp t, fun d v s' t1 u r1 => by
  cases r1 with
  | dic h r => exact ⟨_, _, rfl, .inl ⟨_, u.ok.sub _ _ h, k _ _ s' t1 u (walkD_keys h r)⟩⟩
  | _ => exact False.elim t1⟩
noncomputable def valsD (ks : List (Key × Dt)) : List Dt := ks.map fun p => p.2
noncomputable def xValues (c : Env → M Dt) : Env → M (List Dt) := fun ρ => bd (c ρ) fun d => match d with | .dic ks => .ret (valsD ks) | _ => .no
theorem walkD_vals {s1 : Wd} {a : Addr} {o : Obj} {ws : List (Key × V)} {ks : List (Key × Dt)} (h : s1.F a = some (.frz o (.dK ws))) (r : Rks s1.J s1.F ws ks) : WalkD s1 (Itd a o ws) (valsD ks) := ⟨_, _, (by unfold valsD; rw [List.length_map, ← Rks_length r]; exact walk_values (kvs := ws)), fun s f => f.ok.sub _ _ (f.fr _ _ h), fun i s x H' hi f y => by
  obtain ⟨e, k, hx⟩ := y
  obtain ⟨d, e1, e2⟩ := Rks_at r hx
  exact ⟨s, d, e.symm, Up.refl f.ok, by unfold valsD; rw [List.getElem?_map, e1]; rfl, e2.fw f.fr f.jr⟩⟩
theorem pxi_values {apos cpos : Pos} (h : PE X e (cE s0 (Rg xe c))) (hbase : attributeBase e "values" X.env (eval e X.env) = eval e X.env := by rfl) (hline : (apos.endLine == cpos.line) = true := by rfl) : PI X tg (.Call (.Attribute e "values" apos) [] [] cpos) (cI s0 (Rg xe (xValues c))) := piI (pi_values h hbase hline) fun σ H R ⟨s, ρ, q, e, Rr, t, k⟩ => ⟨s, ρ, _, e, Rr, sat_bd.mp t, fun d v s' t1 u r1 => by
  cases r1 with
  | dic h r => exact ⟨_, _, _, rfl, u.ok.sub _ _ h, k _ _ s' t1 u (walkD_vals h r)⟩
  | _ => exact False.elim t1⟩
noncomputable def itemsD (ks : List (Key × Dt)) : List Dt := ks.map fun p => .tup [keyD p.1, p.2]
noncomputable def xItems (c : Env → M Dt) : Env → M (List Dt) := fun ρ => bd (c ρ) fun d => match d with | .dic ks => .ret (itemsD ks) | _ => .no
theorem walkD_items {s1 : Wd} {a : Addr} {o : Obj} {ws : List (Key × V)} {ks : List (Key × Dt)} (h : s1.F a = some (.frz o (.dK ws))) (r : Rks s1.J s1.F ws ks) : WalkD s1 (Iti a o ws) (itemsD ks) := ⟨_, _, (by unfold itemsD; rw [List.length_map, ← Rks_length r]; exact walk_items (kvs := ws)), fun s f => f.ok.sub _ _ (f.fr _ _ h), fun i s x H' hi f y => by
  obtain ⟨T, v1, v2, rfl, nT, rfl, h1, h2⟩ := y
  have hi' : i < ws.length := by unfold itemsD at hi; rw [List.length_map, ← Rks_length r] at hi; exact hi
  have hw : ws[i]? = some (ws[i].1, ws[i].2) := List.getElem?_eq_getElem hi'
  have g1 : v1 = kV ws[i].1 := by have h1 : (ws[i]?.map fun kv => kV kv.1) = some v1 := h1; rw [hw] at h1; exact (Option.some.inj h1).symm
  have g2 : v2 = ws[i].2 := by have h2 : (ws[i]?.map Prod.snd) = some v2 := h2; rw [hw] at h2; exact (Option.some.inj h2).symm
  obtain ⟨d, e1, e2⟩ := Rks_at r hw
  have u := Up.lay f.ok (.tup [v1, v2]) nT
  have e3 : Rv s1.J s1.F v2 d := by rw [g2]; exact e2
  refine ⟨s.lay T (.tup [v1, v2]), .tup [keyD ws[i].1, d], rfl, u, by unfold itemsD; rw [List.getElem?_map, e1]; rfl, .tup upd_same (.cons (by rw [g1]; exact keyD_rv _) (.cons ((e3.fw f.fr f.jr).up u) .nil))⟩⟩
theorem pxi_items {apos cpos tpos : Pos} {elts : List Expr} {kk : Nat} (h : PE X e (cE s0 (Rg xe c))) (hbase : attributeBase e "items" X.env (eval e X.env) = eval e X.env := by rfl) (hline : (apos.endLine == cpos.line) = true := by rfl) : PI X (.Tuple elts kk tpos) (.Call (.Attribute e "items" apos) [] [] cpos) (cI s0 (Rg xe (xItems c))) := piI (pi_items h hbase hline) fun σ H R ⟨s, ρ, q, e, Rr, t, k⟩ => ⟨s, ρ, _, e, Rr, sat_bd.mp t, fun d v s' t1 u r1 => by
  cases r1 with
  | dic h r => exact ⟨_, _, _, rfl, u.ok.sub _ _ h, k _ _ s' t1 u (walkD_items h r)⟩
  | _ => exact False.elim t1⟩
end
end
end Xe
/-! zip of two texts -/
namespace Zs
open L2 PySem PySem.Spec PyProof.Rows
/-- the pairs of the signs of x and y -/
def ItSS (x y : Str) : It where
  go := fun i _ => i < x.cps.size ∧ i < y.cps.size
  yld := fun i H v H' => ∃ T c d, v = .ref T ∧ H T = none ∧ H' = upd H T (.tup [.str ⟨#[c]⟩, .str ⟨#[d]⟩]) ∧ x.cps[i]? = some c ∧ y.cps[i]? = some d
  stop := fun i _ => i = min x.cps.size y.cps.size
structure Cells (z TI TO i1 i2 : Addr) (x y : Str) (t u : Tok) (i : Nat) (h : Heap) : Prop where
  zip : IsZip h z TI TO .none
  inn : IsTupOf2 h TI (.ref i1) (.ref i2)
  out : ∃ u v, IsTupOf2 h TO u v
  l : h.IsStrIter i1 (strIterType x) x t i
  r : h.IsStrIter i2 (strIterType y) y u i
section
variable {P : Program} {w : World} {K : PySem.W.Frag} {elts : List Expr} {kk : Nat} {tpos : Pos} {z TI TO i1 i2 : Addr} {x y : Str} {t u : Tok} {i : Nat} {h h' : Heap}
theorem any5 {p : Addr → Prop} (h1 : p z) (h2 : p TI) (h3 : p TO) (h4 : p i1) (h5 : p i2) : ∀ c ∈ [z, TI, TO, i1, i2], p c := by
  simp only [List.forall_mem_cons, List.not_mem_nil, false_implies, implies_true, and_true]
  exact ⟨h1, h2, h3, h4, h5⟩
theorem Cells.there (st : Cells z TI TO i1 i2 x y t u i h) : ∀ c ∈ [z, TI, TO, i1, i2], ∃ o, h.get? c = some o ∧ ∀ v, o.data ≠ .cell v := by
  refine any5 ⟨_, st.zip, fun _ => nofun⟩ ⟨_, st.inn, fun _ => nofun⟩ ?_ ?_ ?_
  · exact st.out.elim fun _ q => q.elim fun _ q => ⟨_, q, fun _ => nofun⟩
  · exact st.l.elim fun o q => ⟨o, q.1, fun v e => by cases q.2.2.symm.trans e⟩
  · exact st.r.elim fun o q => ⟨o, q.1, fun v e => by cases q.2.2.symm.trans e⟩
theorem Cells.stay (st : Cells z TI TO i1 i2 x y t u i h) (k : ∀ c ∈ [z, TI, TO, i1, i2], ∀ o, h.get? c = some o → h'.get? c = some o) : Cells z TI TO i1 i2 x y t u i h' where
  zip := k z (by simp) _ st.zip
  inn := k TI (by simp) _ st.inn
  out := st.out.imp fun _ q => q.imp fun _ q => k TO (by simp) _ q
  l := st.l.imp fun o q => ⟨k i1 (by simp) o q.1, q.2⟩
  r := st.r.imp fun o q => ⟨k i2 (by simp) o q.1, q.2⟩
theorem fewer {c : Addr} (hb : c ∉ [z, TI, TO, i1, i2]) : c ∉ [z, TO, i1, i2] := fun m => hb (by simp only [List.mem_cons] at m ⊢; exact m.imp_right .inr)
theorem turn (S : ZipSep2 z TI TO i1 i2 [i1] [i2]) : Turn P w K (.Tuple elts kk tpos) (ItSS x y) [z, TI, TO, i1, i2] z (Cells z TI TO i1 i2 x y t u) := by
  refine { mem := List.mem_cons_self .., obj := fun _ _ st => st.there, keep := fun _ _ _ st k => st.stay k, item := ?_, done := ?_, self := fun _ _ _ _ _ st f => wpAny_pyIter_zip st.zip f }
  · rintro X rfl rfl rfl hc i pins s σ H E I hf st ⟨la, lb⟩
    have hh : X.A.in1.handled = none := I.ok.hd hc
    have W := WalksT.zipD2 (prog := X.prog) (w := X.w) (A := X.A) S (Draws.text hh i1 x t) (Draws.text hh i2 y u)
    refine W.item i s _ E (by omega) ⟨st.zip, st.inn, st.out, st.l, st.r⟩ fun T m h1 tk hp hT hTup mid k1 => ⟨.ref T, rfl, W.go elts kk tpos i T _ _ _ mid fun h2 st2 k2 => ?_⟩
    obtain ⟨x1, x2, ⟨c, t1, g1, rfl⟩, ⟨d, t2, g2, rfl⟩, rfl⟩ := hp
    obtain ⟨c1, c2, c3, c4, c5⟩ := st2
    have new : ObjOk X.prog X.w (upd H T (.tup [.str ⟨#[c]⟩, .str ⟨#[d]⟩])) h2 T (.tup [.str ⟨#[c]⟩, .str ⟨#[d]⟩]) := ⟨by show 2 ≤ sizeLine; decide, [.str ⟨#[c]⟩ t1, .str ⟨#[d]⟩ t2], .cons ⟨_, rfl⟩ (.cons ⟨_, rfl⟩ .nil), hTup.at fun o q => k2 T o (W.apart _ _ _ mid) q⟩
    refine ⟨.ref T, _, I.turnedNew (t' := tk) (fun c o hb q => k2 c o (fewer hb) (k1 c o (fewer hb) q)) hf hT new, rfl, ⟨T, _, _, rfl, I.hok.fresh hT, rfl, g1, g2⟩, ⟨c1, c2, c3, c4, c5⟩, fun c hcm => ?_⟩
    obtain ⟨o, ho, _⟩ := st.there c hcm
    exact (upd_ne (Nat.ne_of_lt (Nat.lt_of_lt_of_le (Heap.lt_size ho) hT))).trans (hf c hcm).1
  · rintro X rfl rfl rfl hc i pins s σ H E I hf st rfl
    have hh : X.A.in1.handled = none := I.ok.hd hc
    have W := WalksT.zipD2 (prog := X.prog) (w := X.w) (A := X.A) S (Draws.text hh i1 x t) (Draws.text hh i2 y u)
    exact W.done s _ E ⟨st.zip, st.inn, st.out, st.l, st.r⟩ fun h' tk k => ⟨rfl, I.turnedL (t' := tk) (fun c o hb q => k c o (fewer hb) q) hf⟩
end
def iZipSS (ta : TA) : TI := fun σ H R => ta σ H fun m H1 => ∃ x y, m = [.str x, .str y] ∧ R (ItSS x y) H1
theorem pi_zipSS {X : Cx} {e e2 : Expr} {ta : TA} {p pos tpos : Pos} {elts : List Expr} {kk : Nat} (hg : Gl X "zip") (hm : X.mg "zip" = none) (ha : PA X [e, e2] ta)
    (hs : starEach [e, e2] X.env = (false, eval e X.env) :: starEach [e2] X.env := by rfl) (hpl : (backTo pos (starEach [e2] X.env)).any (·.1) = false := by rfl) : PI X (.Tuple elts kk tpos) (.Call (.Name "zip" p) [e, e2] [] pos) (iZipSS ta) := by
  refine ⟨fun pins s σ H R I h => Call_ (ld_blt I hg hm PyProof.Rows.boot_zip (PyProof.Rows.callWith_type1 (thn (ha.run pos pins s σ H _ I h) fun us s1 ⟨m, H1, I1, r1, q1⟩ => ?_) hs hpl))⟩
  obtain ⟨x, y, rfl, q⟩ := q1
  obtain ⟨u1, u2, rfl, ⟨t, rfl⟩, ⟨u, rfl⟩⟩ := vals2 r1
  refine zip_begins2 (begins_text x t) (begins_text y u) trivial trivial fun h' hz hTI hTO h1 h2 hsz hk => wpAny_pyIter_zip hz ?_
  have hle : ∀ c ∈ [s1.heap.objs.size + 4, s1.heap.objs.size + 2, s1.heap.objs.size + 3, s1.heap.objs.size, s1.heap.objs.size + 1], s1.heap.objs.size ≤ c := any5 (Nat.le_add_right _ _) (Nat.le_add_right _ _) (Nat.le_add_right _ _) (Nat.le_refl _) (Nat.le_add_right _ _)
  exact ⟨_, _, _, _, H1, rfl, I1.kept (t' := s1.toks) hk, turn (zip_sep2 (fun c hc => nomatch hc) (fun c hc => nomatch hc)),
    { zip := hz, inn := hTI, out := ⟨_, _, hTO⟩, l := ⟨_, h1, rfl, rfl⟩, r := ⟨_, h2, rfl, rfl⟩ }, fun c hcm => I1.fpOk (hle c hcm) (I1.hok.fresh (hle c hcm)), q⟩
end Zs
/-! code over data: texts, their methods; sums -/
namespace Xe
open PySem hiding Env
open PySem.Spec PyProof.Rows L2 Dl
noncomputable section
section
variable {X : Cx} {s0 : Wd} {xe : Xi → Prop} {e a b o tg : Expr} {es : List Expr} {c ca cb cc co : Env → M Dt} {cA' cAA cBB ci : Env → M (List Dt)} {pos p p2 pp apos cpos : Pos} {n : Nat}
/-! ### zip of texts -/
noncomputable def zipS (x y : Str) : List Dt := zipD (signs x) (signs y)
noncomputable def xZipSS (ca cb : Env → M Dt) : Env → M (List Dt) := fun ρ => bd (ca ρ) fun x => bd (cb ρ) fun y => match x, y with | .str x, .str y => .ret (zipS x y) | _, _ => .no
theorem signs_at {x : Str} {i : Nat} {k : Nat} (h : x.cps[i]? = some k) : (signs x)[i]? = some (.str ⟨#[k]⟩) := by
  rw [signs_eq, List.getElem?_map, Array.getElem?_toList, h]
  rfl
theorem signs_len (x : Str) : (signs x).length = x.cps.size := by rw [signs_eq, List.length_map, Array.length_toList]
theorem walkD_zipSS {s1 : Wd} {x y : Str} : WalkD s1 (Zs.ItSS x y) (zipS x y) := by
  refine ⟨fun _ => True, (Zs.ItSS x y).yld, ⟨fun i H hi _ => ?_, fun H _ => ?_, fun _ _ _ _ _ _ y => y⟩, fun s f => trivial, fun i s v H' hi f y => ?_⟩
  · unfold zipS at hi
    rw [zipD_len, signs_len, signs_len] at hi
    exact ⟨by omega, by omega⟩
  · show (zipS x y).length = _
    unfold zipS
    rw [zipD_len, signs_len, signs_len]
  · obtain ⟨T, k, l, rfl, nT, rfl, g1, g2⟩ := y
    have u := Up.lay f.ok (.tup [.str ⟨#[k]⟩, .str ⟨#[l]⟩]) nT
    exact ⟨s.lay T _, _, rfl, u, zipD_at (signs_at g1) (signs_at g2), .tup upd_same (.cons (.str _) (.cons (.str _) .nil))⟩
theorem pxi_zipSS {tpos : Pos} {elts : List Expr} {kk : Nat} (hg : Gl X "zip") (hm : X.mg "zip" = none) (ha : PE X a (cE s0 (Rg xe ca))) (hb : PE X b (cE s0 (Rg xe cb))) (hs : starEach [a, b] X.env = (false, eval a X.env) :: starEach [b] X.env := by rfl) (hs2 : starEach [b] X.env = (false, eval b X.env) :: starEach [] X.env := by rfl) (hpl : (backTo pos (starEach [b] X.env)).any (·.1) = false := by rfl) :
    PI X (.Tuple elts kk tpos) (.Call (.Name "zip" p) [a, b] [] pos) (cI s0 (Rg xe (xZipSS ca cb))) := piI (Zs.pi_zipSS hg hm (pa_cons ha (pa_cons hb pa_nil hs2) hs) hs hpl) fun σ H R ⟨s, ρ, q, e, Rr, t, k⟩ =>
  ⟨s, ρ, _, e, Rr, sat_bd.mp t, fun d v s' t1 u r1 => ⟨s', ρ, _, rfl, Rr.up' u, sat_bd.mp t1, fun d2 v2 s2 t2 u2 r2 => by
    cases r1 with
    | str x =>
      cases r2 with
      | str y => exact ⟨_, _, rfl, k _ _ s2 t2 (u.trans u2) walkD_zipSS⟩
      | _ => exact False.elim t2
    | _ => cases r2 <;> exact False.elim t2⟩⟩
/-! ### a text times a number -/
noncomputable def mulB (x : Str) (i : Int) : Bool := (decide (-1000000 < i) && decide (i < 1000000)) && Nat.ble (lenL x.cps.toList * i.toNat) 1000000
theorem mulB_ok {x : Str} {i : Int} (h : mulB x i = true) : MulOk x i := by
  unfold mulB at h
  rw [lenL_eq, Array.length_toList] at h
  rw [Bool.and_eq_true, Bool.and_eq_true] at h
  have h1 := of_decide_eq_true h.1.1
  have h2 := of_decide_eq_true h.1.2
  have h3 : x.cps.size * i.toNat ≤ 1000000 := Nat.le_of_ble_eq_true h.2
  have h3 : x.length * i.toNat ≤ 1000000 := h3
  refine ⟨by rw [decide_eq_false (by omega), decide_eq_false (by omega)]; rfl, fun n1 _ => ?_, fun n1 _ => ?_⟩
  · have hi : (0 : Int) < i := by omega
    have : (x.length : Int) ≤ 1000000 := by
      have e : 1 ≤ i.toNat := by omega
      have := Nat.mul_le_mul_left x.length e
      omega
    have : (1000000 : Int) ≤ (2 ^ 63 - 1) / i := by
      refine (Int.le_ediv_iff_mul_le hi).mpr ?_
      omega
    omega
  · unfold Builtin.Str.tooLong
    rw [decide_eq_false]
    rw [sizeLine_eq]
    omega
noncomputable def mulL (l : List Nat) (n : Nat) : List Nat := Nat.rec [] (fun _ r => apL l r) n
theorem mulL_eq (l : List Nat) : ∀ n, mulL l n = (List.replicate n l).flatten
  | 0 => rfl
  | n + 1 => by
    show apL l (mulL l n) = _
    rw [apL_eq, mulL_eq l n, List.replicate_succ, List.flatten_cons]
theorem foldl_app (l : List (Array Nat)) : ∀ acc : Array Nat, (l.foldl (· ++ ·) acc).toList = acc.toList ++ (l.map Array.toList).flatten := by
  induction l with
  | nil => intro acc; simp
  | cons a l ih => intro acc; rw [List.foldl_cons, ih, Array.toList_append, List.map_cons, List.flatten_cons, List.append_assoc]
noncomputable def mulS (x : Str) (i : Int) : Str := ⟨⟨mulL x.cps.toList i.toNat⟩⟩
theorem mulS_eq (x : Str) (i : Int) : mulS x i = Txt.mul x i := by
  refine str_inj ?_
  show mulL x.cps.toList i.toNat = _
  unfold Txt.mul
  rw [mulL_eq]
  by_cases h : i < 1
  · rw [if_pos h, show i.toNat = 0 by omega]
    rfl
  · rw [if_neg h]
    by_cases h2 : (i == 1 || x.length == 0) = true
    · rw [if_pos h2]
      rw [Bool.or_eq_true, beq_iff_eq, beq_iff_eq] at h2
      cases h2 with
      | inl h2 => subst h2; show (List.replicate 1 _).flatten = _; simp
      | inr h2 =>
        have h2 : x.cps.size = 0 := h2
        have : x.cps.toList = [] := List.eq_nil_of_length_eq_zero (by rw [Array.length_toList]; exact h2)
        rw [this]
        simp
    · rw [if_neg h2]
      show _ = ((List.replicate i.toNat x.cps).foldl (· ++ ·) #[]).toList
      rw [foldl_app, List.map_replicate]
      rfl
noncomputable def fMulS : Dt → Dt → M Dt := fun x y => match x, y with | .str x, .int i => gd (mulB x i) (.ret (.str (mulS x i))) | _, _ => .no
noncomputable def dMulS : Dt → Dt → (Dt → Prop) → Prop := fun x y q => match x, y with | .str x, .int i => MulOk x i ∧ q (.str (Txt.mul x i)) | _, _ => False
theorem sm_mulS : Sm fMulS dMulS := fun x y q e z => by
  cases x with
  | str x =>
    cases y with
    | int i => have := sat_gd z; rw [mulS_eq] at this; exact ⟨mulB_ok this.1, this.2⟩
    | _ => exact z
  | _ => cases y <;> exact z
noncomputable def rMulS : R2 := fun x y H Q => ∃ z i, x = .str z ∧ y = .int i ∧ MulOk z i ∧ Q (.str (Txt.mul z i)) H
theorem op_mulS : OpR X (binaryOp .Mult) rMulS := by
  intro pins s σ H x y v u Q I rx ry h
  obtain ⟨z, i, rfl, rfl, hc, q⟩ := h
  obtain ⟨t, rfl⟩ := rx
  obtain ⟨t', rfl⟩ := ry
  exact SB.mul hc fun t' k => ⟨.str _, H, I.tok k, ⟨_, rfl⟩, q⟩
theorem of_mulS : OpF rMulS dMulS := fun J F H x y dx dy q Q _ rx ry t k => by
  cases rx with
  | str i =>
    cases ry with
    | int j => exact ⟨i, j, rfl, rfl, t.1, k _ _ t.2 fun J F => .str _⟩
    | _ => exact False.elim t
  | _ => cases ry <;> exact False.elim t
/-! ### methods -/
noncomputable def xMt (ty : Dt → Bool) (g : Dt → List Dt → M Dt) (co : Env → M Dt) (ca : Env → M (List Dt)) : Env → M Dt := fun ρ => bd (co ρ) fun d => gd (ty d) (bd (ca ρ) fun ds => g d ds)
noncomputable def TyOk (K : PySem.W.Frag) (T : String) (ty : Dt → Bool) : Prop := ∀ (J : Addr → Option Vol) (F H : Hp) (x : V) (d : Dt), (∀ a o, F a = some o → H a = some o) → Rv J F x d → ty d = true → tyV K T x H
noncomputable def MtF (r : V → List V → Hp → VK → Prop) (g : Dt → List Dt → M Dt) : Prop := ∀ (J : Addr → Option Vol) (F H : Hp) (x : V) (xs : List V) (d : Dt) (ds : List Dt) (q : Dt → Prop) (e : Xi → Prop) (Q : VK), (∀ a o, F a = some o → H a = some o) → Rv J F x d → Rvs J F xs ds → sat (g d ds) q e → (∀ d v, q d → (∀ J' F', Rv J' F' v d) → Q v H) → r x xs H Q
theorem px_mt {T id : String} {name : Str} {r : V → List V → Hp → VK → Prop} {ty : Dt → Bool} {g : Dt → List Dt → M Dt} (tyok : TyOk X.K T ty) (pa : PlainAttrs T) (slot : Slot T name id) (hty : typeOf (.builtin id) = pure (.type "method_descriptor")) (hm : MtR X id r) (mf : MtF r g) (ho : PE X o (cB s0 (Rg xe co))) (ha : PA X (e :: es) (cBA s0 n (Rg xe cAA)))
    (hbase : attributeBase o name X.env (eval o X.env) = eval o X.env := by rfl) (hfew : ((backTo cpos (starEach (e :: es) X.env)).all (fun x => !x.1) && (backToKw cpos (keywordEach [] X.env)).all (fun x => x.1.isSome) && decide ((e :: es).length + ([] : List Keyword).length + (if ([] : List Keyword).isEmpty then 0 else 1) < 30)) = true := by rfl)
    (hline : true = (apos.endLine == cpos.line) := by rfl) (hs : starEach (e :: es) X.env = (false, eval e X.env) :: starEach es X.env := by rfl) (hplain : (backTo cpos (starEach es X.env)).any (·.1) = false := by rfl) :
    PE X (.Call (.Attribute o name apos) (e :: es) [] cpos) (cE s0 (Rg xe (xMt ty g co cAA))) := peI (pe_bm pa slot hty hm ho ha hbase hfew hline.symm hs hplain) fun σ H Q ⟨s, ρ, q, e, R, t, k⟩ =>
  ⟨s, ρ, _, e, R, sat_bd.mp t, fun d v s1 t1 u1 r1 => by
    obtain ⟨h1, t1⟩ := sat_gd t1
    exact ⟨tyok s1.J (bor s1) s1.H v d bor_sub r1 h1, s1, ρ, _, rfl, R.up' u1, sat_bd.mp t1, fun ds vs s2 hn t2 u2 r2 => mf s2.J (bor s2) s2.H v vs d ds q xe Q bor_sub (r1.borUp u2) r2 t2 fun d3 v3 hq rf => k d3 v3 s2 hq (u1.trans u2) (rf _ _)⟩⟩
noncomputable def tyS : Dt → Bool
  | .str _ => true | _ => false
theorem tyS_ok {K : PySem.W.Frag} : TyOk K "str" tyS := fun J F H x d _ r h => by
  cases r with
  | str z => exact rfl
  | _ => exact nomatch h
noncomputable def tyL : Dt → Bool
  | .lst _ => true | _ => false
theorem tyL_ok {K : PySem.W.Frag} : TyOk K "list" tyL := fun J F H x d sub r h => by
  cases r with
  | lst hF _ => exact .inl ⟨rfl, _, SqL.of (sub _ _ hF)⟩
  | _ => exact nomatch h
/-- of two texts -/
noncomputable def g2S (C : Str → Str → Bool) (f : Str → Str → Dt) : Dt → List Dt → M Dt := fun d ds => match d, ds with | .str a, [.str b] => gd (C a b) (.ret (f a b)) | _, _ => .no
theorem mf_2S {r : V → List V → Hp → VK → Prop} {C : Str → Str → Bool} {f : Str → Str → Dt} {fv : Str → Str → V} (h : ∀ a b H Q, C a b = true → Q (fv a b) H → r (.str a) [.str b] H Q) (hv : ∀ a b J F, Rv J F (fv a b) (f a b)) : MtF r (g2S C f) := fun J F H x xs d ds q e Q sub rx rs t k => by
  cases rx with
  | str a =>
    cases rs with
    | nil => exact False.elim t
    | cons r1 rs =>
      cases rs with
      | cons _ _ => cases r1 <;> exact False.elim t
      | nil =>
        cases r1 with
        | str b => have := sat_gd t; exact h a b H Q this.1 (k _ _ this.2 fun J F => hv a b J F)
        | _ => exact False.elim t
  | _ => exact False.elim t
noncomputable abbrev yesB : Str → Str → Bool := fun _ _ => true
noncomputable abbrev g_startswith : Dt → List Dt → M Dt := g2S yesB fun a b => .bl (Txt.startswith a b)
noncomputable abbrev g_endswith : Dt → List Dt → M Dt := g2S yesB fun a b => .bl (Txt.endswith a b)
theorem mt_startswithX : MtR X "str.startswith" (fun x xs H Q => ∃ a b, x = .str a ∧ xs = [.str b] ∧ Q (.bl (Txt.startswith a b)) H) := mt_startswith
theorem mt_endswithX : MtR X "str.endswith" (fun x xs H Q => ∃ a b, x = .str a ∧ xs = [.str b] ∧ Q (.bl (Txt.endswith a b)) H) := mt_endswith
theorem mf_startswith : MtF (fun x xs H Q => ∃ a b, x = .str a ∧ xs = [.str b] ∧ Q (.bl (Txt.startswith a b)) H) g_startswith := mf_2S (fun a b H Q _ q => ⟨a, b, rfl, rfl, q⟩) fun _ _ _ _ => .bl _
theorem mf_endswith : MtF (fun x xs H Q => ∃ a b, x = .str a ∧ xs = [.str b] ∧ Q (.bl (Txt.endswith a b)) H) g_endswith := mf_2S (fun a b H Q _ q => ⟨a, b, rfl, rfl, q⟩) fun _ _ _ _ => .bl _
noncomputable def memL (a : Nat) (l : List Nat) : Bool := List.rec false (fun b _ ih => match Nat.beq a b with | true => true | false => ih) l
theorem memL_eq (a : Nat) : ∀ l : List Nat, memL a l = l.contains a
  | [] => rfl
  | b :: l => by
    show (match Nat.beq a b with | true => true | false => memL a l) = _
    rw [memL_eq a l, List.contains_cons]
    have e : (a == b) = Nat.beq a b := by
      rw [Bool.eq_iff_iff, beq_iff_eq, Nat.beq_eq]
    rw [e]
    cases Nat.beq a b <;> rfl
noncomputable def dropE (b : List Nat) (l : List Nat) : List Nat := List.rec [] (fun a r ih => match memL a b with | true => ih | false => a :: r) l
theorem dropE_eq (b : List Nat) : ∀ l, dropE b l = l.dropWhile (fun a => b.contains a)
  | [] => rfl
  | a :: l => by
    show (match memL a b with | true => dropE b l | false => a :: l) = _
    rw [memL_eq, dropE_eq b l]
    cases h : b.contains a with
    | true => exact (List.dropWhile_cons_of_pos h).symm
    | false => exact (List.dropWhile_cons_of_neg (by rw [h]; exact Bool.false_ne_true)).symm
noncomputable def rstripS (a b : Str) : Str := ⟨⟨rvL (dropE b.cps.toList (rvL a.cps.toList))⟩⟩
theorem rstripS_eq (a b : Str) : rstripS a b = Txt.rstripChars a b := by
  refine str_inj ?_
  show rvL (dropE b.cps.toList (rvL a.cps.toList)) = _
  rw [rvL_eq, rvL_eq]
  have key : (dropE b.cps.toList a.cps.toList.reverse).reverse = a.cps.toList.take (a.length - (a.cps.toList.reverse.takeWhile b.cps.contains).length) := by
    rw [dropE_eq]
    have hc : (fun x => b.cps.toList.contains x) = b.cps.contains := by funext x; simp
    rw [hc]
    have e := List.takeWhile_append_dropWhile (p := b.cps.contains) (l := a.cps.toList.reverse)
    have e2 := congrArg List.reverse e
    rw [List.reverse_append, List.reverse_reverse] at e2
    have hl : a.length = (List.dropWhile b.cps.contains a.cps.toList.reverse).length + (List.takeWhile b.cps.contains a.cps.toList.reverse).length := by
      have := congrArg List.length e2
      rw [List.length_append, List.length_reverse, List.length_reverse, Array.length_toList] at this
      exact this.symm
    rw [hl, Nat.add_sub_cancel]
    have h5 : ∀ (u v w : List Nat) (n : Nat), u.reverse ++ v.reverse = w → u.length = n → u.reverse = w.take n := fun u v w n h1 h2 => by
      rw [← h1, List.take_left' (by rw [List.length_reverse, h2])]
    exact h5 _ _ _ _ e2 rfl
  rw [key]
  unfold Txt.rstripChars Txt.stripBy
  by_cases h : stripSame b.cps.contains false true a = true
  · rw [if_pos h]
    have h2 : a.length - (a.cps.toList.reverse.takeWhile b.cps.contains).length = a.length := by
      unfold stripSame at h
      rw [Bool.and_eq_true, beq_iff_eq, beq_iff_eq] at h
      exact h.2
    rw [h2]
    exact List.take_of_length_le (by rw [Array.length_toList]; exact Nat.le_refl _)
  · rw [if_neg h]
    show _ = (a.cps.extract 0 (a.length - (a.cps.toList.reverse.takeWhile b.cps.contains).length)).toList
    rw [Array.toList_extract]
    simp
noncomputable abbrev g_rstrip : Dt → List Dt → M Dt := g2S (fun a _ => szS a) fun a b => .str (rstripS a b)
theorem mt_rstripX : MtR X "str.rstrip" (fun x xs H Q => ∃ a b, x = .str a ∧ xs = [.str b] ∧ a.length ≤ sizeLine ∧ Q (.str (Txt.rstripChars a b)) H) := mt_rstripChars
theorem mf_rstrip : MtF (fun x xs H Q => ∃ a b, x = .str a ∧ xs = [.str b] ∧ a.length ≤ sizeLine ∧ Q (.str (Txt.rstripChars a b)) H) g_rstrip := mf_2S (fun a b H Q c q => ⟨a, b, rfl, rfl, szS_ok c, rstripS_eq a b ▸ q⟩) fun _ _ _ _ => .str _
/-- where it stands first -/
noncomputable def ixS (a b : Str) : Nat := (Txt.index0 a b).getD 0
noncomputable abbrev g_index : Dt → List Dt → M Dt := g2S (fun a b => (Txt.index0 a b).isSome) fun a b => .int (ixS a b)
theorem mt_indexX : MtR X "str.index" (fun x xs H Q => ∃ a b i rest, x = .str a ∧ xs = [.str b] ∧ Builtin.Str.occurrences a b 0 a.length 1 = i :: rest ∧ Q (.int (i : Nat)) H) := mt_sindex
theorem mf_index : MtF (fun x xs H Q => ∃ a b i rest, x = .str a ∧ xs = [.str b] ∧ Builtin.Str.occurrences a b 0 a.length 1 = i :: rest ∧ Q (.int (i : Nat)) H) g_index := mf_2S (fv := fun a b => .int (ixS a b)) (fun a b H Q c q => by
  cases h : Builtin.Str.occurrences a b 0 a.length 1 with
  | nil =>
    have c : ((Builtin.Str.occurrences a b 0 a.length 1).head?).isSome = true := c
    rw [h] at c
    exact nomatch c
  | cons i rest =>
    have q : Q (.int (((Builtin.Str.occurrences a b 0 a.length 1).head?).getD 0 : Nat)) H := q
    rw [h] at q
    exact ⟨a, b, i, rest, rfl, rfl, h, q⟩) fun _ _ _ _ => .int _
/-- join -/
noncomputable def strsOf (ds : List Dt) : Option (List Str) := List.rec (some []) (fun d _ ih => match d with | .str x => (match ih with | some l => some (x :: l) | none => none) | _ => none) ds
theorem strsOf_rvs {J : Addr → Option Vol} {F : Hp} : ∀ {ds : List Dt} {ys : List Str} {vs : List V}, strsOf ds = some ys → Rvs J F vs ds → vs = ys.map V.str
  | [], _, _, h, r => by cases h; cases r; rfl
  | .str x :: ds, ys, _, h, r => by
    replace h : (match strsOf ds with | some l => some (x :: l) | none => none) = some ys := h
    cases e : strsOf ds with
    | none => rw [e] at h; cases h
    | some l =>
      rw [e] at h
      cases h
      cases r with
      | cons r1 r =>
        cases r1
        rw [strsOf_rvs e r]
        rfl
  | .non :: _, _, _, h, _ => nomatch h
  | .bl _ :: _, _, _, h, _ => nomatch h
  | .int _ :: _, _, _, h, _ => nomatch h
  | .lst _ :: _, _, _, h, _ => nomatch h
  | .tup _ :: _, _, _, h, _ => nomatch h
  | .dic _ :: _, _, _, h, _ => nomatch h
  | .die :: _, _, _, h, _ => nomatch h
  | .scr _ :: _, _, _, h, _ => nomatch h
  | .opq _ :: _, _, _, h, _ => nomatch h
noncomputable def joinM (a : Str) (ds : List Dt) : M Dt := match strsOf ds with | some ys => gd (Nat.ble ((ys.map (·.length)).sum + ys.length * a.length) 16777216) (.ret (.str (Txt.join a ys))) | none => .no
noncomputable def g_join : Dt → List Dt → M Dt := fun d ds => match d, ds with | .str a, [.lst ds] => joinM a ds | .str a, [.tup ds] => joinM a ds | _, _ => .no
theorem mf_join {K : PySem.W.Frag} : MtF (fun x xs H Q => ∃ a p, ∃ ys : List Str, x = .str a ∧ xs = [.ref p] ∧ (SqL K H p (ys.map V.str) ∨ SqT K H p (ys.map V.str)) ∧ (ys.map (·.length)).sum + ys.length * a.length ≤ 16777216 ∧ Q (.str (Txt.join a ys)) H) g_join := fun J F H x xs d ds q e Q sub rx rs t k => by
  have go : ∀ (a : Str) (l : List Dt) (p : Addr) (vs : List V), Rvs J F vs l → (SqL K H p vs ∨ SqT K H p vs) → sat (joinM a l) q e → ∃ a' p', ∃ ys : List Str, (V.str a) = .str a' ∧ [V.ref p] = [.ref p'] ∧ (SqL K H p' (ys.map V.str) ∨ SqT K H p' (ys.map V.str)) ∧ (ys.map (·.length)).sum + ys.length * a'.length ≤ 16777216 ∧ Q (.str (Txt.join a' ys)) H := fun a l p vs r hs t => by
    unfold joinM at t
    cases w : strsOf l with
    | none => rw [w] at t; exact t.elim
    | some ys =>
      rw [w] at t
      obtain ⟨h, t⟩ := sat_gd t
      have ev := strsOf_rvs w r
      subst ev
      exact ⟨a, p, ys, rfl, rfl, hs, Nat.le_of_ble_eq_true h, k _ _ t fun J F => .str _⟩
  cases rx with
  | str a =>
    cases rs with
    | nil => exact False.elim t
    | cons r1 rs =>
      cases rs with
      | cons _ _ => cases r1 <;> exact False.elim t
      | nil =>
        cases r1 with
        | lst hF r => exact go a _ _ _ r (.inl (SqL.of (sub _ _ hF))) t
        | tup hF r => exact go a _ _ _ r (.inr (SqT.of (sub _ _ hF))) t
        | _ => exact False.elim t
  | _ => exact False.elim t
/-! ### sum(d.values()) -/
noncomputable def intsOf : List Dt → Option (List Int)
  | [] => some []
  | .int x :: r => (match intsOf r with | some l => some (x :: l) | none => none)
  | _ :: _ => none
theorem intsOf_eq : ∀ {ds : List Dt} {ns : List Int}, intsOf ds = some ns → ds = ns.map .int
  | [], _, h => by cases h; rfl
  | .int x :: ds, ns, h => by
    unfold intsOf at h
    cases e : intsOf ds with
    | none => rw [e] at h; cases h
    | some l =>
      rw [e] at h
      cases h
      rw [intsOf_eq e]
      rfl
  | .non :: _, _, h => nomatch h
  | .bl _ :: _, _, h => nomatch h
  | .str _ :: _, _, h => nomatch h
  | .lst _ :: _, _, h => nomatch h
  | .tup _ :: _, _, h => nomatch h
  | .dic _ :: _, _, h => nomatch h
  | .die :: _, _, h => nomatch h
  | .scr _ :: _, _, h => nomatch h
  | .opq _ :: _, _, h => nomatch h
noncomputable def addL (l : List Int) : Int → Int := List.rec (motive := fun _ => Int → Int) (fun n => n) (fun x _ ih n => fzI (n + x) ih) l
theorem addL_eq : ∀ (l : List Int) (n : Int), addL l n = n + l.sum
  | [], n => by show n = n + 0; omega
  | x :: l, n => by
    show fzI (n + x) (addL l) = _
    rw [fzI_eq, addL_eq l, List.sum_cons]
    omega
noncomputable def xSumV (c : Env → M Dt) : Env → M Dt := fun ρ => bd (c ρ) fun d => match d with | .dic ks => (match intsOf (valsD ks) with | some ns => .ret (.int (addL ns 0)) | none => .no) | _ => .no
noncomputable def tSumV (td : TE) : TE := fun σ H Q => td σ H fun x H1 => ∃ d o kvs, ∃ ns : List Int, x = .ref d ∧ H1 d = some (.frz o (.dK kvs)) ∧ kvs.map (·.2) = ns.map V.int ∧ Q (.int ns.sum) H1
theorem pairedAt {α β : Type} {R : α → β → Prop} : ∀ {l : List α} {m : List β} {i : Nat} {x : α}, Paired R l m → l[i]? = some x → ∃ y, m[i]? = some y ∧ R x y
  | _, _, _, _, .nil, h => by simp at h
  | _, _, 0, _, .cons r _, h => by simp at h; subst h; exact ⟨_, rfl, r⟩
  | _, _, i + 1, x, .cons _ t, h => by
    obtain ⟨y, e1, e2⟩ := pairedAt (i := i) (x := x) t (by simpa using h)
    exact ⟨y, by simpa using e1, e2⟩
theorem preSum_ints (val : Nat → Int) : ∀ (ns : List Int), (∀ i, i < ns.length → ns[i]? = some (val i)) → ∀ n, n ≤ ns.length → preSum val n = (ns.take n).sum
  | ns, h, 0, _ => rfl
  | ns, h, n + 1, hn => by
    show preSum val n + val n = _
    rw [preSum_ints val ns h n (by omega), List.take_add_one, h n (by omega), List.sum_append]
    simp
theorem pe_sumV {td : TE} {e : Expr} (hc : X.calm = true) (hgs : Gl X "sum") (hms : X.mg "sum" = none) (he : PE X e td) (hbase : attributeBase e "values" X.env (eval e X.env) = eval e X.env := by rfl) (hline : (apos.endLine == cpos.line) = true := by rfl)
    (hs1 : starEach [.Call (.Attribute e "values" apos) [] [] cpos] X.env = (false, eval (.Call (.Attribute e "values" apos) [] [] cpos) X.env) :: starEach [] X.env := by rfl) (hp1 : (backTo pos (starEach [] X.env)).any (·.1) = false := by rfl) :
    PE X (.Call (.Name "sum" p) [.Call (.Attribute e "values" apos) [] [] cpos] [] pos) (tSumV td) := by
  refine ⟨fun pins s σ H Q I h => wpAny_Call_Name_kw (ld_blt I hgs hms boot_sum (PyProof.Rows.callWith_builtin1 ?_ hs1 hp1))⟩
  rw [hs1]
  show wpAny _ _ (spliced ((false, eval (.Call (.Attribute e "values" apos) [] [] cpos) X.env) :: backTo pos (starEach [] X.env))) _ _ s
  refine Calls.spliced_cons ?_
  refine wpAny_Call_method (T := "dict") (id := "dict.values") hbase rfl hline F.plainAttrs_dict F.slot_dict_values F.type_dict_values (thn (he.run pins s σ H _ I h) fun u s1 ⟨x, H1, I1, rx, d, o, kvs, ns, ex, hd, hns, q⟩ => ?_)
  subst ex
  obtain rfl : Value.ref d = u := Eq.symm rx
  obtain ⟨hs, hgd, _, _, _, vs, _, _, kv, hm⟩ := I1.frzK hd
  refine And.intro hm.dictOf.typeIs ⟨hm.dictOf.mapOf.noDict, ?_⟩
  obtain ⟨es', ep', raw, hsz', vals⟩ := hm.dictOf.raw
  have hl : d < s1.heap.objs.size := Heap.lt_size hgd
  have lkv : kvs.length = vs.length := Paired.length kv
  have lns : ns.length = kvs.length := by have := congrArg List.length hns; simpa using this.symm
  have worth : ∀ i (hi : i < es'.size), ∃ t, es'[i].val = .int (ns.getD i 0) t := fun i hi => by
    have hi2 : i < kvs.length := by omega
    have hk : kvs[i]? = some kvs[i] := List.getElem?_eq_getElem hi2
    have hv : kvs[i].2 = .int (ns.getD i 0) := by
      have e : (kvs.map (·.2))[i]? = (ns.map V.int)[i]? := by rw [hns]
      rw [List.getElem?_map, List.getElem?_map, hk, List.getElem?_eq_getElem (by omega)] at e
      have e := Option.some.inj e
      rw [List.getD_eq_getElem?_getD, List.getElem?_eq_getElem (by omega)]
      exact e
    obtain ⟨pv, hp, e1, e2⟩ := pairedAt kv hk
    have := (vals i hi pv.1 pv.2 hp).2
    rw [hv] at e2
    obtain ⟨t, e3⟩ := e2
    exact ⟨t, by rw [this, e3]⟩
  have fin : wpAny (model X.prog X.w) X.A (call (.builtin "sum") [.ref s1.heap.objs.size]) (EP X pins σ Q) X.xe { s1 with heap := s1.heap.push { cls := .type "dict_values", data := .fields #[.ref d] } } := by
    have view : (s1.heap.push { cls := .type "dict_values", data := .fields #[.ref d] }).IsValuesView s1.heap.objs.size d := ⟨_, Heap.get?_push_size _ rfl, rfl, rfl⟩
    have raw2 : (s1.heap.push { cls := .type "dict_values", data := .fields #[.ref d] }).DictRaw d es' ep' := raw.at fun o e => Heap.get?_push_of_some _ e
    refine call_sum_walkAnyS (wpAny_pyIter_values_raw view raw2 ?_)
    have sz : (s1.heap.push { cls := .type "dict_values", data := .fields #[.ref d] }).objs.size = s1.heap.objs.size + 1 := Heap.size_push ..
    have W := (Walks.rawValues (prog := X.prog) (w := X.w) (A := X.A.in1) (I1.ok.hd hc) (s1.heap.push { cls := .type "dict_values", data := .fields #[.ref d] }).objs.size d (by rw [sz]; exact Nat.ne_of_lt (Nat.lt_succ_of_lt hl)) es' ep').toS
    refine ⟨_, _, _, _, _, _, _, fun i => ns.getD i 0, rfl, W, ⟨⟨_, Heap.get?_push_size _ rfl, rfl, rfl⟩, raw2.at fun o e => Heap.get?_push_of_some _ e⟩, fun b hb => ?_, fun i v ⟨hi, ev⟩ => ?_, fun s' t' hm' => ?_⟩
    · have sz2 : ∀ ob : Obj, ((s1.heap.push { cls := .type "dict_values", data := .fields #[.ref d] }).push ob).objs.size = s1.heap.objs.size + 1 + 1 := fun ob => by rw [Heap.size_push, sz]
      show b < ((s1.heap.push { cls := .type "dict_values", data := .fields #[.ref d] }).push _).objs.size
      rw [sz2]
      rcases List.mem_cons.mp hb with rfl | hb
      · rw [sz]; exact Nat.lt_succ_self _
      · rw [List.mem_singleton.mp hb]; exact Nat.lt_succ_of_lt (Nat.lt_succ_of_lt hl)
    · obtain ⟨t, e⟩ := worth i hi
      exact ⟨t, by rw [ev, e]⟩
    · rw [Moved.eq_with hm']
      rw [preSum_ints (fun i => ns.getD i 0) ns (fun i hi => by rw [List.getD_eq_getElem?_getD, List.getElem?_eq_getElem hi]; rfl) es'.size (by omega), List.take_of_length_le (by omega)]
      exact ⟨.int _, H1, I1.kept fun b ob e => hm'.heap b ob (fun z => by rw [List.mem_singleton.mp z] at e; exact absurd (Heap.lt_size e) (by rw [sz]; exact Nat.not_lt.mpr (Nat.le_succ _))) (Heap.get?_push_of_some _ (Heap.get?_push_of_some _ e)), ⟨_, rfl⟩, q⟩
  exact method_meetsIn F.slot_dict_values F.entry_dict_values rfl (PySem.evalArgs_none ⟨rfl, hm.dictOf.typeIs, F.args_dict_values_1 _, _, meets_dict_values (mixKind X.prog X.w) d hs, ⟨vs, hm.dictOf⟩, Calls.spliced_nil fin⟩)
theorem px_sumV (hgs : Gl X "sum") (hms : X.mg "sum" = none) (he : PE X e (cE s0 (Rg xe c))) (hc : X.calm = true := by rfl) (hbase : attributeBase e "values" X.env (eval e X.env) = eval e X.env := by rfl) (hline : (apos.endLine == cpos.line) = true := by rfl)
    (hs1 : starEach [.Call (.Attribute e "values" apos) [] [] cpos] X.env = (false, eval (.Call (.Attribute e "values" apos) [] [] cpos) X.env) :: starEach [] X.env := by rfl) (hp1 : (backTo pos (starEach [] X.env)).any (·.1) = false := by rfl) :
    PE X (.Call (.Name "sum" p) [.Call (.Attribute e "values" apos) [] [] cpos] [] pos) (cE s0 (Rg xe (xSumV c))) := peI (pe_sumV hc hgs hms he hbase hline hs1 hp1) fun σ H Q ⟨s, ρ, q, e, R, t, k⟩ => ⟨s, ρ, _, e, R, sat_bd.mp t, fun d v s1 t1 u r => by
  cases r with
  | @dic ad o ws ks hF hr =>
    have t1 : sat (match intsOf (valsD ks) with | some ns => M.ret (.int (addL ns 0)) | none => .no) q xe := t1
    cases w : intsOf (valsD ks) with
    | none => rw [w] at t1; exact t1.elim
    | some ns =>
      rw [w] at t1
      have t1 : q (.int (addL ns 0)) := t1
      rw [addL_eq, Int.zero_add] at t1
      refine ⟨ad, o, ws, ns, rfl, u.ok.sub _ _ hF, ?_, k _ _ s1 t1 u (.int _)⟩
      have e := intsOf_eq w
      have go : ∀ {ws : List (Key × V)} {ks : List (Key × Dt)} {ns : List Int}, Rks s1.J s1.F ws ks → valsD ks = ns.map .int → ws.map (·.2) = ns.map V.int := fun {ws} => by
        induction ws with
        | nil =>
          intro ks ns r e
          cases r
          cases ns with
          | nil => rfl
          | cons _ _ => cases e
        | cons p ws ih =>
          intro ks ns r e
          cases r with
          | cons h r =>
            cases ns with
            | nil => cases e
            | cons n ns =>
              have e1 : _ :: _ = _ :: _ := e
              injection e1 with e2 e3
              subst e2
              cases h
              rw [List.map_cons, List.map_cons, ih r e3]
      exact go hr e
  | _ => exact t1.elim⟩
end
end
end Xe
/-! code over data: two fors, dict comprehensions, pop, extend, more built-ins -/
namespace Xe
open PySem hiding Env
open PySem.Spec PyProof.Rows L2 Dl
noncomputable section
section
variable {X : Cx} {s0 : Wd} {xe : Xi → Prop} {e a b o tg : Expr} {es : List Expr} {c ca cb cc co : Env → M Dt} {cA' cAA cBB ci ci1 : Env → M (List Dt)} {cs ct : Env → M Bool} {pos p p2 pp apos cpos : Pos} {n : Nat}
/-! ### x *= e, x //= e -/
noncomputable def ipC (C : Int → Int → Prop) (f : Int → Int → Int) : TIp := fun x y H Q => ∃ i j, x = .int i ∧ y = .int j ∧ C i j ∧ Q (.int (f i j)) H
theorem ip_mulC : PIp X .Mult (ipC (fun i j => cMul i j = true) fun i j => i * j) := by
  intro pins s σ H x y v u Q I r1 r2 h
  obtain ⟨i, j, rfl, rfl, c, q⟩ := h
  obtain ⟨t, rfl⟩ := r1
  obtain ⟨t', rfl⟩ := r2
  exact PyProof.Rows.imul_int ⟨.int _, H, I.tok _, ⟨_, rfl⟩, q⟩ (cMul_ok i j c).ok
theorem ip_fdivC : PIp X .FloorDiv (ipC (fun i j => cDiv i j = true) fun i j => i / j) := by
  intro pins s σ H x y v u Q I r1 r2 h
  obtain ⟨i, j, rfl, rfl, c, q⟩ := h
  obtain ⟨t, rfl⟩ := r1
  obtain ⟨t', rfl⟩ := r2
  have c := cDiv_ok i j c
  have c1 := c.1
  have c2 := c.2
  refine PyProof.Rows.ifloordiv_int (by omega) ?_ (.inl (PyProof.noPylong_small (by omega)))
  rw [Int.fdiv_eq_ediv_of_nonneg i (by omega)]
  exact ⟨.int _, H, I.tok _, ⟨_, rfl⟩, q⟩
noncomputable def xAugC (i : Nat) (C : Int → Int → Bool) (f : Int → Int → Int) (c : Env → M Dt) : Env → M Out := fun ρ => match eg ρ i with | .va (.int m) => bd (c ρ) fun d => (match d with | .int v => gd (C m v) (fzI (f m v) fun w => rb (ep ρ i (.va (.int w))) fun ρ => .ret (.nx ρ)) | _ => .no) | _ => .no
theorem sx_augC {i : Nat} {x : Str} {op : Operator} {C : Int → Int → Bool} {f : Int → Int → Int} {pos' : Pos} (hN : X.N.Nodup) (hi : X.N[i]? = some x) (hx : Loc X.env.scope x) (he : PE X e (cE s0 (Rg xe c))) (ho : PIp X op (ipC (fun i j => C i j = true) f)) (hf : X.fn x = true ∨ X.env.scope.names.lookup x = some .local := by first | exact .inl rfl | exact .inr rfl | assumption) :
    PS X (.AugAssign (.Name x pos') op e pos) (cS s0 (RS xe (xAugC i C f c))) := psI (ps_aug hN hi hx he ho hf) fun B σ H ⟨s, ρ, D, e, R, t, l⟩ => by
  subst e
  unfold RS xAugC at t
  cases w : eg ρ i with
  | va d =>
    rw [w] at t
    obtain ⟨v, e1, e2⟩ := R.va i d w
    cases e2 with
    | int m =>
      refine ⟨_, e1, s, ρ, _, rfl, R, sat_bd.mp t, fun d2 v2 s2 t3 u2 r2 => ?_⟩
      cases r2 with
      | int n =>
        obtain ⟨hc, t3⟩ := sat_gd t3
        simp only [fzI_eq, rb_eq] at t3
        exact ⟨m, n, rfl, rfl, hc, l.nx s2 _ _ t3 ((R.up' u2).set i (.int _)) u2.fw⟩
      | _ => exact False.elim t3
    | _ => exact False.elim t
  | no => rw [w] at t; exact t.elim
  | ow ds => rw [w] at t; exact t.elim
/-! ### len of a dict -/
noncomputable def gLenD : List Dt → M Dt := fun ds => match ds with | [.dic ks] => .ret (.int ks.length) | _ => .no
noncomputable def dLenD : List Dt → (Dt → Prop) → Prop := fun ds q => match ds with | [.dic ks] => q (.int ks.length) | _ => False
theorem sc_lenD : Sc gLenD dLenD := fun ds q e z => by
  match ds with
  | [] => exact z
  | [d] => cases d <;> exact z
  | d :: _ :: _ => cases d <;> exact z
noncomputable def rLenD : List V → Hp → VK → Prop := fun xs H Q => ∃ a kvs, xs = [V.ref a] ∧ Rd H a (.dK kvs) ∧ Q (.int kvs.length) H
theorem call_lenDR : CallR X (.builtin "len") rLenD := by
  intro pins s σ H xs us Q I r h
  obtain ⟨a, kvs, rfl, ha, q⟩ := h
  obtain ⟨u, rfl, ru⟩ := vals1 r
  cases ru
  exact d_len I ha fun t s' I' => ⟨.int kvs.length, H, I', ⟨t, rfl⟩, q⟩
theorem cf_lenD : CallF rLenD dLenD := fun J F H xs ds q Q sub r t k => by
  cases r with
  | nil => exact False.elim t
  | cons h r =>
    cases r with
    | cons h2 r => cases h <;> exact False.elim t
    | nil =>
      cases h with
      | dic h r => exact ⟨_, _, rfl, .inr ⟨_, sub _ _ h⟩, k _ _ t fun J F => by rw [Rks_length r]; exact .int _⟩
      | _ => exact False.elim t
/-! ### two fors -/
theorem calm_no (ρ : Env) (i : Nat) (ob : Ob) : eg (Ea.calmE ρ) i ≠ .ow ob := fun z => by
  rw [Ea.eg_calm] at z
  cases w : eg ρ i <;> rw [w] at z <;> cases z
theorem Rp_calm0 {s : Wd} {ρ : Env} {σ : L2.St} (R : Rp s0 s ρ σ) : Rp s0 s (Ea.calmE ρ) σ := by
  refine ⟨R.up, by rw [Ea.calmE, List.length_map]; exact R.len, fun i d e => R.va i d ?_, fun i ds e => absurd e (calm_no ρ i ds), fun i j ds es a e => absurd e (calm_no ρ i ds)⟩
  rw [Ea.eg_calm] at e
  cases w : eg ρ i with
  | ow ds => rw [w] at e; cases e
  | no => rw [w] at e; cases e
  | va d' => rw [w] at e; exact e
theorem Rp_to {s s' : Wd} {ρ : Env} {σ : L2.St} (R : Rp s0 s ρ σ) (no : ∀ i ob, eg ρ i ≠ .ow ob) (U : Up s0 s') (f : Fw s s') : Rp s0 s' ρ σ :=
  ⟨U, R.len, fun i d e => let ⟨v, e1, e2⟩ := R.va i d e; ⟨v, e1, e2.fws f⟩, fun i ds e => absurd e (no i ds), fun i j ds es a e => absurd e (no i ds)⟩
noncomputable def in2X (ρ : Env) (tg : Dt → Env → M Env) (tt : Env → M Bool) (te : Env → M Dt) (ds : List Dt) : List Dt → M (List Dt) := List.rec (motive := fun _ => List Dt → M (List Dt)) (fun acc => .ret acc)
  (fun d _ ih acc => bd (noX (tg d ρ)) fun ρ2 => bd (noX (tt ρ2)) fun b => match b with | true => bd (noX (te ρ2)) fun y => fz y fun y => ih (y :: acc) | false => ih acc) ds
noncomputable def lc2X (ρ : Env) (tg : Dt → Env → M Env) (tt : Env → M Bool) (ci1 : Env → M (List Dt)) (ws1 : List Nat) (tg1 : Dt → Env → M Env) (tt1 : Env → M Bool) (te : Env → M Dt) (ds : List Dt) : List Dt → M (List Dt) := List.rec (motive := fun _ => List Dt → M (List Dt)) (fun acc => .ret acc.reverse)
  (fun d _ ih acc => bd (noX (tg d ρ)) fun ρ2 => bd (noX (tt ρ2)) fun b => match b with | true => rb (Ea.calmE ρ2) fun ρ2 => bd (noX (ci1 ρ2)) fun es => gd (szB (acc.length + es.length)) (bd (rb (wipeE ρ2 ws1) fun ρ3 => in2X ρ3 tg1 tt1 te es acc) ih) | false => ih acc) ds
noncomputable def xLc2 (ci : Env → M (List Dt)) (ws ws1 : List Nat) (tg : Dt → Env → M Env) (tt : Env → M Bool) (ci1 : Env → M (List Dt)) (tg1 : Dt → Env → M Env) (tt1 : Env → M Bool) (te : Env → M Dt) : Env → M (List Dt) := fun ρ => bd (ci ρ) fun ds => rb (wipeE ρ ws) fun ρ => lc2X ρ tg tt ci1 ws1 tg1 tt1 te ds []
theorem wipe_sub {σ : L2.St} {vs : List Nat} : ∀ ws : List Nat, (∀ w ∈ ws, w ∈ vs) → wipe (wipe σ ws) vs = wipe σ vs
  | [], _ => rfl
  | w :: ws, h => by
    show wipe ((wipe σ ws).set w none) vs = _
    rw [wipe_set (h w List.mem_cons_self)]
    exact wipe_sub ws fun x hx => h x (List.mem_cons_of_mem _ hx)
theorem lc2_go {ws ws0 ws1 : List Nat} (hsub : ∀ w ∈ ws0, w ∈ ws) {tg1d tgd : Dt → Env → M Env} {tt tt1 : Env → M Bool} {te : Env → M Dt} {σ : L2.St} {H : Hp} {Q : VK} (z : cO s0 (Rg xe (xLc2 ci ws ws1 tgd tt ci1 tg1d tt1 te)) σ H Q) :
    tLc2 (cI s0 (Rg xe ci)) (cG s0 ws0 (RG N0 tgd)) (cT s0 (Rg N0 tt)) (cI s0 (Rg N0 ci1)) (cG s0 ws1 (RG N0 tg1d)) (cT s0 (Rg N0 tt1)) (cE s0 (Rg N0 te)) ws ws1 σ H Q := by
  obtain ⟨s, ρ, q, e, R, t, k⟩ := z
  refine ⟨s, ρ, _, e, R, sat_bd.mp t, fun ds J s1 t1 u wk D nD => ?_⟩
  rw [rb_eq] at t1
  obtain ⟨G, Y, W, hG, hY⟩ := wk.ex
  have R1 := (R.up' u).wipe ws
  have U1 := R.up.trans u
  -- what holds of the new list
  let Hold : Wd → List Dt → Prop := fun s2 acc => Up s1 s2 ∧ ∃ vs, s2.H D = some (.lst vs) ∧ s2.F D = none ∧ s2.J D = none ∧ Rvs s2.J s2.F vs acc.reverse
  have step : ∀ {s2 s3 : Wd} {acc : List Dt}, Hold s2 acc → Up s2 s3 → Hold s3 acc := fun {s2 s3 acc} ⟨h, vs, e1, e2, e3, e4⟩ v => ⟨h.trans v, vs, v.keep D _ e1 e3, v.noF e1 e2, v.noJ e1 e3, e4.up v⟩
  refine ⟨fun i m H' => ∃ s2 acc, s2.H = H' ∧ Hold s2 acc ∧ m = ds.length - i ∧ i ≤ ds.length ∧ sat (lc2X (wipeE ρ ws) tgd tt ci1 ws1 tg1d tt1 te (ds.drop i) acc) q xe, ⟨_, s1.put D (.lst []), [], rfl, ⟨Up.put u.ok _ nD, [], upd_same, u.ok.nof nD, u.ok.noj nD, .nil⟩, rfl, Nat.zero_le _, t1⟩, ?_⟩
  rintro i m H' ⟨s2, acc, rfl, hold, rfl, hi, t2⟩
  by_cases hlt : i < ds.length
  · refine .inr ⟨W.goes i _ hlt (hG s2 hold.1.fw), fun H' => ∃ s2 acc, s2.H = H' ∧ Hold s2 acc ∧ sat (lc2X (wipeE ρ ws) tgd tt ci1 ws1 tg1d tt1 te (ds.drop (i + 1)) acc) q xe, fun H' ⟨s2, acc, e, h, t⟩ => ⟨_, by omega, s2, acc, e, h, rfl, hlt, t⟩, fun x H3 y => ?_⟩
    obtain ⟨s3, d, rfl, u3, ed, rd⟩ := hY i s2 x H3 hlt hold.1.fw (W.yields i _ x H3 hlt (hG s2 hold.1.fw) y)
    rw [List.drop_eq_getElem_cons hlt] at t2
    have ed' : ds[i] = d := by rw [List.getElem?_eq_getElem hlt] at ed; exact Option.some.inj ed
    rw [ed'] at t2
    refine ⟨s3, wipeE ρ ws, d, _, rfl, (R1.up' hold.1).up' u3, rd, sat_noX (sat_bd.mp t2), fun ρ2 σ2 s4 t3 R2 u4 hw => ⟨by rw [← wipe_sub (σ := σ2) ws0 hsub, hw, wipe_sub ws0 hsub, wipe_wipe], s4, ρ2, _, rfl, R2, sat_noX (sat_bd.mp t3), fun bb s5 t4 u5 => ?_⟩⟩
    have h5 := step hold (u3.trans (u4.trans u5))
    cases bb with
    | false => exact (if_neg Bool.false_ne_true).mpr ⟨s5, acc, rfl, h5, t4⟩
    | true =>
      have t4 : sat (rb (Ea.calmE ρ2) fun ρ2 => bd (noX (ci1 ρ2)) fun es => gd (szB (acc.length + es.length)) (bd (rb (wipeE ρ2 ws1) fun ρ3 => in2X ρ3 tg1d tt1 te es acc) (lc2X (wipeE ρ ws) tgd tt ci1 ws1 tg1d tt1 te (ds.drop (i + 1))))) q xe := t4
      rw [rb_eq] at t4
      have Rc := Rp_calm0 (R2.up' u5)
      refine (if_pos rfl).mpr ⟨s5, Ea.calmE ρ2, _, rfl, Rc, sat_noX (sat_bd.mp t4), fun es J1 s6 t5 u6 wk1 => ?_⟩
      obtain ⟨hz, t5⟩ := sat_gd t5
      have hz := szB_ok hz
      have t5 := sat_bd.mp t5
      rw [rb_eq] at t5
      obtain ⟨G1, Y1, W1, hG1, hY1⟩ := wk1.ex
      have h6 := step h5 u6
      refine ⟨fun j k H' => ∃ s7 acc7, s7.H = H' ∧ Hold s7 acc7 ∧ Fw s6 s7 ∧ k = es.length - j ∧ j ≤ es.length ∧ acc7.length + (es.length - j) ≤ sizeLine ∧ sat (in2X (wipeE (Ea.calmE ρ2) ws1) tg1d tt1 te (es.drop j) acc7) (fun acc => sat (lc2X (wipeE ρ ws) tgd tt ci1 ws1 tg1d tt1 te (ds.drop (i + 1)) acc) q xe) xe, ⟨_, s6, acc, rfl, h6, Fw.refl u6.ok, rfl, Nat.zero_le _, by omega, t5⟩, ?_⟩
      rintro j k' H' ⟨s7, acc7, rfl, h7, u7, rfl, hj, hl, t7⟩
      by_cases hjl : j < es.length
      · refine .inr ⟨W1.goes j _ hjl (hG1 s7 u7), fun H' => ∃ s8 acc8, s8.H = H' ∧ Hold s8 acc8 ∧ Fw s6 s8 ∧ acc8.length + (es.length - (j + 1)) ≤ sizeLine ∧ sat (in2X (wipeE (Ea.calmE ρ2) ws1) tg1d tt1 te (es.drop (j + 1)) acc8) (fun acc => sat (lc2X (wipeE ρ ws) tgd tt ci1 ws1 tg1d tt1 te (ds.drop (i + 1)) acc) q xe) xe, fun H' ⟨s8, acc8, e8, h8, u8, l8, t8⟩ => ⟨_, by omega, s8, acc8, e8, h8, u8, rfl, hjl, l8, t8⟩, fun x1 H8 y1 => ?_⟩
        obtain ⟨s8, d1, rfl, u8, ed1, rd1⟩ := hY1 j s7 x1 H8 hjl u7 (W1.yields j _ x1 H8 hjl (hG1 s7 u7) y1)
        rw [List.drop_eq_getElem_cons hjl] at t7
        have ed1' : es[j] = d1 := by rw [List.getElem?_eq_getElem hjl] at ed1; exact Option.some.inj ed1
        rw [ed1'] at t7
        have R7 := Rp_to (Rc.up' u6) (calm_no ρ2) (U1.trans h7.1) u7
        have R8 := (R7.up' u8).wipe ws1
        refine ⟨s8, wipeE (Ea.calmE ρ2) ws1, d1, _, rfl, R8, rd1, sat_noX (sat_bd.mp t7), fun ρ9 σ9 s9 t9 R9 u9 hw9 => ⟨by rw [hw9, wipe_wipe], s9, ρ9, _, rfl, R9, sat_noX (sat_bd.mp t9), fun b1 s10 t10 u10 => ?_⟩⟩
        have U10 := u8.trans (u9.trans u10)
        have h10 := step h7 U10
        cases b1 with
        | false => exact (if_neg Bool.false_ne_true).mpr ⟨s10, acc7, rfl, h10, u7.trans U10.fw, by omega, t10⟩
        | true =>
          refine (if_pos rfl).mpr ⟨s10, ρ9, _, rfl, R9.up' u10, sat_noX (sat_bd.mp t10), fun dy yv s11 t11 u11 ry => ?_⟩
          obtain ⟨h11, vs, f1, f2, f3, f4⟩ := step h10 u11
          rw [fz_eq] at t11
          have U11 := u7.trans (U10.trans u11).fw
          have mine := h11.mine (.lst (vs ++ [yv])) nD f2 f3 f1 (fun _ _ z => nomatch z)
          exact ⟨vs, f1, by rw [f4.length, List.length_reverse]; omega, s11.put D (.lst (vs ++ [yv])), dy :: acc7, rfl, ⟨mine, vs ++ [yv], upd_same, f2, f3, by rw [List.reverse_cons]; exact f4.append (.cons ry .nil)⟩, ⟨mine.ok, U11.fr, U11.jr⟩, by rw [List.length_cons]; omega, t11⟩
      · have ej : j = es.length := by omega
        subst ej
        rw [List.drop_length] at t7
        exact .inl ⟨W1.stops _ (hG1 s7 u7), s7, acc7, rfl, h7, t7⟩
  · have ei : i = ds.length := by omega
    subst ei
    rw [List.drop_length] at t2
    obtain ⟨h2, vs, e1, e2, e3, e4⟩ := hold
    exact .inl ⟨W.stops _ (hG s2 h2.fw), k _ vs D s2 t2 (u.trans h2) (u.free nD) e1 e2 e3 e4⟩
section
variable {elt iter iter1 tg1 : Expr} {ifs ifs1 : List Expr} {scope : Scope} {own : List (Str × Nat)} {vs1 ws0 : List Nat} {tgd tg1d : Dt → Env → M Env} {tt tt1 : Env → M Bool} {te : Env → M Dt}
theorem pxo_lc2 (hc : X.calm = true) (hN : X.N.Nodup) (hi : PI X tg iter (cI s0 (Rg xe ci))) (ok : BlkOk X.N X.env.scope scope own) (hv : ∀ i ∈ vs1, i ∈ own.map (·.2)) (hv0 : ∀ i ∈ ws0, i ∈ own.map (·.2))
    (hg : ∀ (s : Shared) (H : Hp) (C : Addr) (cl : List (Str × Addr)) (fp : List Addr), PG (X.blk s H scope (compEnvC scope cl C X.env) fp) tg (cG s0 ws0 (RG N0 tgd))) (ht : ∀ (s : Shared) (H : Hp) (C : Addr) (cl : List (Str × Addr)) (fp : List Addr), PTs (X.blk s H scope (compEnvC scope cl C X.env) fp) ifs (cT s0 (Rg N0 tt)))
    (hi1 : ∀ (s : Shared) (H : Hp) (C : Addr) (cl : List (Str × Addr)) (fp : List Addr), PI (X.blk s H scope (compEnvC scope cl C X.env) fp) tg1 iter1 (cI s0 (Rg N0 ci1)))
    (hg1 : ∀ (s : Shared) (H : Hp) (C : Addr) (cl : List (Str × Addr)) (fp : List Addr), PG (X.blk s H scope (compEnvC scope cl C X.env) fp) tg1 (cG s0 vs1 (RG N0 tg1d))) (ht1 : ∀ (s : Shared) (H : Hp) (C : Addr) (cl : List (Str × Addr)) (fp : List Addr), PTs (X.blk s H scope (compEnvC scope cl C X.env) fp) ifs1 (cT s0 (Rg N0 tt1)))
    (he : ∀ (s : Shared) (H : Hp) (C : Addr) (cl : List (Str × Addr)) (fp : List Addr), PE (X.blk s H scope (compEnvC scope cl C X.env) fp) elt (cE s0 (Rg N0 te))) (hs : ∀ x, foldedSetIterable iter X.env x = pure x := by intro _; rfl) (hs1 : ∀ env x, foldedSetIterable iter1 env x = pure x := by intro _ _; rfl) :
    PE X (.ListComp elt [⟨tg, iter, ifs, 0⟩, ⟨tg1, iter1, ifs1, 0⟩] scope pos) (cO s0 (Rg xe (xLc2 ci (own.map (·.2)) vs1 tgd tt ci1 tg1d tt1 te))) := peI (pe_lc2 hc hN hi ok hv hg ht hi1 hg1 ht1 he hs hs1) fun _ _ _ z => lc2_go hv0 z
theorem sx_setLc2O {i : Nat} {y : Str} {py spos : Pos} (hc : X.calm = true) (hN : X.N.Nodup) (hy : X.N[i]? = some y) (hyl : X.env.scope.names.lookup y = some .local) (hsw : swapsWith (.ListComp elt [⟨tg, iter, ifs, 0⟩, ⟨tg1, iter1, ifs1, 0⟩] scope pos) (some (.Name y py)) spos.line X.env = pure true) (hi : PI X tg iter (cI s0 (Rg xe ci))) (ok : BlkOk X.N X.env.scope scope own) (hv : ∀ i ∈ vs1, i ∈ own.map (·.2)) (hv0 : ∀ i ∈ ws0, i ∈ own.map (·.2))
    (hg : ∀ (s : Shared) (H : Hp) (C : Addr) (cl : List (Str × Addr)) (fp : List Addr), PG (X.blk s H scope (compEnvC scope cl C X.env) fp) tg (cG s0 ws0 (RG N0 tgd))) (ht : ∀ (s : Shared) (H : Hp) (C : Addr) (cl : List (Str × Addr)) (fp : List Addr), PTs (X.blk s H scope (compEnvC scope cl C X.env) fp) ifs (cT s0 (Rg N0 tt)))
    (hi1 : ∀ (s : Shared) (H : Hp) (C : Addr) (cl : List (Str × Addr)) (fp : List Addr), PI (X.blk s H scope (compEnvC scope cl C X.env) fp) tg1 iter1 (cI s0 (Rg N0 ci1)))
    (hg1 : ∀ (s : Shared) (H : Hp) (C : Addr) (cl : List (Str × Addr)) (fp : List Addr), PG (X.blk s H scope (compEnvC scope cl C X.env) fp) tg1 (cG s0 vs1 (RG N0 tg1d))) (ht1 : ∀ (s : Shared) (H : Hp) (C : Addr) (cl : List (Str × Addr)) (fp : List Addr), PTs (X.blk s H scope (compEnvC scope cl C X.env) fp) ifs1 (cT s0 (Rg N0 tt1)))
    (he : ∀ (s : Shared) (H : Hp) (C : Addr) (cl : List (Str × Addr)) (fp : List Addr), PE (X.blk s H scope (compEnvC scope cl C X.env) fp) elt (cE s0 (Rg N0 te))) (hs : ∀ x, foldedSetIterable iter X.env x = pure x := by intro _; rfl) (hs1 : ∀ env x, foldedSetIterable iter1 env x = pure x := by intro _ _; rfl) :
    PS X (.Assign [.Name y py] (.ListComp elt [⟨tg, iter, ifs, 0⟩, ⟨tg1, iter1, ifs1, 0⟩] scope pos) spos) (cS s0 (RS xe (xSetO i (xLc2 ci (own.map (·.2)) vs1 tgd tt ci1 tg1d tt1 te)))) := psI (ps_setLc2 hc hN hy hyl hsw hi ok hv hg ht hi1 hg1 ht1 he hs hs1) fun B σ H ⟨s, ρ, D, e, R, t, l⟩ => lc2_go hv0 (asg_own ⟨s, ρ, D, e, R, setO_go t, l⟩)
theorem sx_setLc2 {i : Nat} {y : Str} {py spos : Pos} (hc : X.calm = true) (hN : X.N.Nodup) (hy : X.N[i]? = some y) (hyl : X.env.scope.names.lookup y = some .local) (hsw : swapsWith (.ListComp elt [⟨tg, iter, ifs, 0⟩, ⟨tg1, iter1, ifs1, 0⟩] scope pos) (some (.Name y py)) spos.line X.env = pure true) (hi : PI X tg iter (cI s0 (Rg xe ci))) (ok : BlkOk X.N X.env.scope scope own) (hv : ∀ i ∈ vs1, i ∈ own.map (·.2)) (hv0 : ∀ i ∈ ws0, i ∈ own.map (·.2))
    (hg : ∀ (s : Shared) (H : Hp) (C : Addr) (cl : List (Str × Addr)) (fp : List Addr), PG (X.blk s H scope (compEnvC scope cl C X.env) fp) tg (cG s0 ws0 (RG N0 tgd))) (ht : ∀ (s : Shared) (H : Hp) (C : Addr) (cl : List (Str × Addr)) (fp : List Addr), PTs (X.blk s H scope (compEnvC scope cl C X.env) fp) ifs (cT s0 (Rg N0 tt)))
    (hi1 : ∀ (s : Shared) (H : Hp) (C : Addr) (cl : List (Str × Addr)) (fp : List Addr), PI (X.blk s H scope (compEnvC scope cl C X.env) fp) tg1 iter1 (cI s0 (Rg N0 ci1)))
    (hg1 : ∀ (s : Shared) (H : Hp) (C : Addr) (cl : List (Str × Addr)) (fp : List Addr), PG (X.blk s H scope (compEnvC scope cl C X.env) fp) tg1 (cG s0 vs1 (RG N0 tg1d))) (ht1 : ∀ (s : Shared) (H : Hp) (C : Addr) (cl : List (Str × Addr)) (fp : List Addr), PTs (X.blk s H scope (compEnvC scope cl C X.env) fp) ifs1 (cT s0 (Rg N0 tt1)))
    (he : ∀ (s : Shared) (H : Hp) (C : Addr) (cl : List (Str × Addr)) (fp : List Addr), PE (X.blk s H scope (compEnvC scope cl C X.env) fp) elt (cE s0 (Rg N0 te))) (hs : ∀ x, foldedSetIterable iter X.env x = pure x := by intro _; rfl) (hs1 : ∀ env x, foldedSetIterable iter1 env x = pure x := by intro _ _; rfl) :
    PS X (.Assign [.Name y py] (.ListComp elt [⟨tg, iter, ifs, 0⟩, ⟨tg1, iter1, ifs1, 0⟩] scope pos) spos) (cS s0 (RS xe (xSet i (xL (xLc2 ci (own.map (·.2)) vs1 tgd tt ci1 tg1d tt1 te))))) := psI (ps_setLc2 hc hN hy hyl hsw hi ok hv hg ht hi1 hg1 ht1 he hs hs1) fun B σ H ⟨s, ρ, D, e, R, t, l⟩ => by
  have t2 := sat_bd.mp (sat_bd.mp t)
  refine lc2_go hv0 (ice_data ⟨s, ρ, fun d => sat (fz d fun d => rb (ep ρ i (.va d)) fun ρ => M.ret (Out.nx ρ)) (outP D) xe, e, R, t2, fun d v s' t1 u r => ?_⟩)
  have t1 : sat (fz d fun d => rb (ep ρ i (.va d)) fun ρ => M.ret (Out.nx ρ)) (outP D) xe := t1
  rw [fz_eq, rb_eq] at t1
  exact l.nx s' _ _ t1 ((R.up' u).set i r) u.fw
end
/-! ### in a list or tuple, is None -/
noncomputable def fInQ (n : Bool) : Dt → Dt → M Dt := fun x y => match y with | .lst ds => gd (flB x && ds.all flB) (.ret (.bl (n != ds.any fun d => eqd d x))) | .tup ds => gd (flB x && ds.all flB) (.ret (.bl (n != ds.any fun d => eqd d x))) | _ => .no
noncomputable def dInQ (n : Bool) : Dt → Dt → (Dt → Prop) → Prop := fun x y q => sat (fInQ n x y) q N0
theorem sm_inQ {n : Bool} : Sm (fInQ n) (dInQ n) := fun x y q e z => by
  cases y <;> first | exact (have h := sat_gd z; by rw [dInQ, fInQ, gd_true h.1]; exact h.2) | exact z
theorem eqd_V {J : Addr → Option Vol} {F : Hp} {v w : V} {d e : Dt} (r1 : Rv J F v d) (r2 : Rv J F w e) (h1 : flB d = true) (h2 : flB e = true) : eqV v w = eqd d e := by
  cases r1 with
  | str x =>
    cases r2 with
    | str y =>
      show (x == y) = eqs x y
      rw [eqs_eq]; rfl
    | _ => first | rfl | cases h2
  | non => cases r2 <;> first | rfl | cases h2
  | bl _ => cases r2 <;> first | rfl | cases h2
  | int _ => cases r2 <;> first | rfl | cases h2
  | _ => cases h1
theorem flat_all {J : Addr → Option Vol} {F : Hp} {x : V} {dx : Dt} (rx : Rv J F x dx) (hx : flB dx = true) : ∀ {vs : List V} {ds : List Dt}, Rvs J F vs ds → ds.all flB = true → vs.all flatV = true ∧ inV x vs = ds.any fun d => eqd d dx
  | _, _, .nil, _ => ⟨rfl, rfl⟩
  | _, _, .cons (v := v) (d := d) h r, z => by
    rw [List.all_cons, Bool.and_eq_true] at z
    obtain ⟨i1, i2⟩ := flat_all rx hx r z.2
    have f1 : flatV v = true := by have z1 := z.1; cases h <;> first | rfl | cases z1
    refine ⟨by rw [List.all_cons, f1, i1]; rfl, ?_⟩
    unfold inV at i2 ⊢
    rw [List.any_cons, List.any_cons, i2, eqd_V h rx z.1 hx]
theorem of_inQ {K : PySem.W.Frag} {n : Bool} : OpF (rIn K n) (dInQ n) := fun J F H x y dx dy q Q sub rx ry t k => by
  have go : ∀ (p : Addr) (vs : List V) (ds : List Dt), Rvs J F vs ds → (SqL K H p vs ∨ SqT K H p vs) → sat (gd (flB dx && ds.all flB) (.ret (.bl (n != ds.any fun d => eqd d dx)))) q N0 → rIn K n x (.ref p) H Q := fun p vs ds r hs t => by
    obtain ⟨h, t⟩ := sat_gd t
    rw [Bool.and_eq_true] at h
    have fx : flatV x = true := by have z1 := h.1; cases rx <;> first | rfl | cases z1
    obtain ⟨f1, f2⟩ := flat_all rx h.1 r h.2
    refine ⟨p, vs, rfl, hs, fx, f1, k (.bl (n != ds.any fun d => eqd d dx)) _ t fun J F => ?_⟩
    rw [f2]
    cases n
    · rw [Bool.false_bne]; exact .bl _
    · rw [Bool.true_bne]; exact .bl _
  cases ry with
  | lst h r => exact go _ _ _ r (.inl (SqL.of (sub _ _ h))) t
  | tup h r => exact go _ _ _ r (.inr (SqT.of (sub _ _ h))) t
  | _ => exact False.elim t
noncomputable def isNon : Dt → Option Bool
  | .non => some true | .opq _ => none | _ => some false
noncomputable def fIsN (n : Bool) : Dt → Dt → M Dt := fun x y => match y, isNon x with | .non, some b => .ret (.bl (n != b)) | _, _ => .no
noncomputable def dIsN (n : Bool) : Dt → Dt → (Dt → Prop) → Prop := fun x y q => sat (fIsN n x y) q N0
theorem sm_isN {n : Bool} : Sm (fIsN n) (dIsN n) := fun x y q e z => by
  unfold dIsN
  cases y <;> cases x <;> exact z
theorem isN_go {J : Addr → Option Vol} {F : Hp} {x : V} {dx : Dt} {b : Bool} (r : Rv J F x dx) (h : isNon dx = some b) : decide (x = .non) = b := by
  cases r <;> first | (cases h; rfl) | (cases h; exact decide_eq_false (fun z => nomatch z)) | exact nomatch h
theorem of_isN : OpF (fun x y H Q => y = .non ∧ Q (.bl (decide (x = .non))) H) (dIsN false) := fun J F H x y dx dy q Q _ rx ry t k => by
  unfold dIsN fIsN at t
  cases ry <;> first | exact False.elim t | skip
  cases w : isNon dx with
  | none => rw [w] at t; exact t.elim
  | some b =>
    rw [w] at t
    have t : q (.bl (false != b)) := t
    rw [Bool.false_bne] at t
    exact ⟨rfl, by rw [isN_go rx w]; exact k _ _ t fun J F => .bl _⟩
theorem of_notN : OpF (fun x y H Q => y = .non ∧ Q (.bl (!decide (x = .non))) H) (dIsN true) := fun J F H x y dx dy q Q _ rx ry t k => by
  unfold dIsN fIsN at t
  cases ry <;> first | exact False.elim t | skip
  cases w : isNon dx with
  | none => rw [w] at t; exact t.elim
  | some b =>
    rw [w] at t
    have t : q (.bl (true != b)) := t
    rw [Bool.true_bne] at t
    exact ⟨rfl, by rw [isN_go rx w]; exact k _ _ t fun J F => .bl _⟩
/-! ### pop, extend -/
noncomputable def xPop (i j : Nat) : Env → M Out := fun ρ => match eg ρ j with | .ow (.l ds) => (match ds[ds.length - 1]? with | some d => rb ds.dropLast fun ds => rb (ep (ep ρ j (.ow (.l ds))) i (.va d)) fun ρ => .ret (.nx ρ) | none => .no) | _ => .no
theorem Rvs_dropLast {J : Addr → Option Vol} {F : Hp} : ∀ {vs : List V} {ds : List Dt}, Rvs J F vs ds → Rvs J F vs.dropLast ds.dropLast
  | _, _, .nil => .nil
  | _, _, .cons _ .nil => .nil
  | _, _, .cons h (.cons h2 r) => .cons h (Rvs_dropLast (.cons h2 r))
theorem sx_pop {i : Nat} (j : Nat) {x y : Str} {pos' p1 : Pos} (hN : X.N.Nodup) (hi : X.N[i]? = some x) (hx : Loc X.env.scope x) (hj : X.N[j]? = some y := by rfl) (hv : Vis X.env.scope y := by first | exact Or.inl rfl | exact Or.inr (Or.inl rfl) | exact Or.inr (Or.inr rfl)) (hd : (y == ("__debug__" : Str)) = false := by decide)
    (hcd : (y == ("__classdict__" : Str)) = false := by decide) (hbase : attributeBase (.Name y p1) "pop" X.env (eval (.Name y p1) X.env) = eval (.Name y p1) X.env := by rfl) (hline : (apos.endLine == cpos.line) = true := by rfl)
    (hs : swapsWith (.Call (.Attribute (.Name y p1) "pop" apos) [] [] cpos) (some (.Name x pos')) pos.line X.env = pure false := by rfl) (hf : X.fn x = true ∨ X.env.scope.names.lookup x = some .local := by first | exact .inl rfl | exact .inr rfl | assumption) :
    PS X (.Assign [.Name x pos'] (.Call (.Attribute (.Name y p1) "pop" apos) [] [] cpos) pos) (cS s0 (RS xe (xPop i j))) := psI (ps_set hN hi hx (pe_bm0 PySem.F.plainAttrs_list PySem.F.slot_list_pop PySem.F.type_list_pop mt_pop (pe_var hj hv hd hcd) hbase hline) hs hf) fun B σ H ⟨s, ρ, D, e, R, t, l⟩ => by
  subst e
  unfold RS xPop at t
  cases w : eg ρ j with
  | ow ob =>
    cases ob with
    | d _ => rw [w] at t; exact t.elim
    | l ds =>
      rw [w] at t
      obtain ⟨a, ho, e1, e2, e3, e4, e5, e0⟩ := R.ow j _ w
      obtain ⟨vs, rfl, e6⟩ := e0.lst
      dsimp only at t
      cases g : ds[ds.length - 1]? with
      | none => rw [g] at t; exact t.elim
      | some d =>
        rw [g] at t
        simp only [rb_eq] at t
        obtain ⟨v, g1, g2⟩ := e6.at g
        have R' := R.write w e1 (.l (Rvs_dropLast e6))
        refine ⟨_, e1, .inl ⟨rfl, _, SqL.of e2⟩, a, vs, v, rfl, rfl, e2, by rw [e6.length]; exact g1, ?_⟩
        exact l.nx _ _ _ t (R'.set i g2) ⟨R'.ok, fun _ _ e => e, fun _ _ e => e⟩
  | no => rw [w] at t; exact t.elim
  | va d => rw [w] at t; exact t.elim
noncomputable def xExt (j : Nat) (c : Env → M Dt) : Env → M Out := fun ρ => match eg ρ j with | .ow (.l ds) => bd (c ρ) fun d => (match d with | .lst es => gd (szB (ds.length + es.length)) (rb (ds ++ es) fun ds => rb (ep ρ j (.ow (.l ds))) fun ρ => .ret (.nx ρ)) | _ => .no) | _ => .no
theorem sx_ext (j : Nat) {x : Str} {p1 : Pos} (he : PE X e (cE s0 (Rg xe c))) (hN : X.N[j]? = some x := by rfl) (hv : Vis X.env.scope x := by first | exact Or.inl rfl | exact Or.inr (Or.inl rfl) | exact Or.inr (Or.inr rfl)) (hd : (x == ("__debug__" : Str)) = false := by decide)
    (hcd : (x == ("__classdict__" : Str)) = false := by decide) (hst : starEach [e] X.env = (false, eval e X.env) :: starEach [] X.env := by rfl) (hbase : attributeBase (.Name x p1) "extend" X.env (eval (.Name x p1) X.env) = eval (.Name x p1) X.env := by rfl)
    (hfew : ((backTo cpos (starEach [e] X.env)).all (fun x => !x.1) && (backToKw cpos (keywordEach [] X.env)).all (fun x => x.1.isSome) && decide ([e].length + ([] : List Keyword).length + (if ([] : List Keyword).isEmpty then 0 else 1) < 30)) = true := by rfl) (hline : (apos.endLine == cpos.line) = true := by rfl)
    (hs : swapsWith (.Call (.Attribute (.Name x p1) "extend" apos) [e] [] cpos) none pos.line X.env = pure false := by rfl) :
    PS X (.Expr (.Call (.Attribute (.Name x p1) "extend" apos) [e] [] cpos) pos) (cS s0 (RS xe (xExt j c))) := psI (ps_expr (pe_bm PySem.F.plainAttrs_list PySem.F.slot_list_extend PySem.F.type_list_extend mt_extend (pe_var hN hv hd hcd) (pa_cons he pa_nil hst) hbase hfew hline hst rfl) hs) fun B σ H ⟨s, ρ, D, e, R, t, l⟩ => by
  subst e
  have t : sat (match eg ρ j with | .ow (.l ds) => _ | _ => _) _ _ := t
  cases w : eg ρ j with
  | ow ob =>
    cases ob with
    | d _ => rw [w] at t; exact t.elim
    | l ds =>
      rw [w] at t
      obtain ⟨a, ho, e1, e2, e3, e4, e5, e0⟩ := R.ow j _ w
      obtain ⟨vs, rfl, e6⟩ := e0.lst
      refine ⟨_, e1, .inl ⟨rfl, _, SqL.of e2⟩, s, ρ, _, rfl, R, sat_bd.mp t, fun d v s' t1 u r => ?_⟩
      cases r with
      | @lst al xs es hF hr =>
        obtain ⟨hz, t1⟩ := sat_gd t1
        simp only [rb_eq] at t1
        have R' := (R.up' u).write w e1 (.l ((e6.up u).append hr))
        exact ⟨a, al, vs, xs, rfl, rfl, u.keep a _ e2 e4, u.ok.sub _ _ hF, by rw [e6.length, hr.length]; exact szB_ok hz, l.nx _ _ _ t1 R' ⟨R'.ok, u.fr, u.jr⟩⟩
      | _ => exact t1.elim
  | no => rw [w] at t; exact t.elim
  | va d => rw [w] at t; exact t.elim
/-! ### list(own) -/
theorem pxo_listO (i : Nat) {y : Str} {py : Pos} (hg : Gl X "list") (hm : X.mg "list" = none) (hN : X.N[i]? = some y := by rfl) (hv : Vis X.env.scope y := by first | exact Or.inl rfl | exact Or.inr (Or.inl rfl) | exact Or.inr (Or.inr rfl)) (hd : (y == ("__debug__" : Str)) = false := by decide)
    (hcd : (y == ("__classdict__" : Str)) = false := by decide) (he : starEach [.Name y py] X.env = (false, eval (.Name y py) X.env) :: starEach [] X.env := by rfl) : PE X (.Call (.Name "list" p) [.Name y py] [] pos) (cO s0 (Rg xe (xOwn i))) :=
  peI (pe_callTy call_list_of hg hm (by decide +kernel) (pa_cons (pe_var hN hv hd hcd) pa_nil) (by decide) (by decide) he rfl) fun σ H Q ⟨s, ρ, q, e, R, t, k⟩ => by
  subst e
  unfold Rg xOwn at t
  cases w : eg ρ i with
  | ow ob =>
    cases ob with
    | d _ => rw [w] at t; exact t.elim
    | l ds =>
      rw [w] at t
      obtain ⟨l, ho, e1, e2, e3, e4, e5, e0⟩ := R.ow i _ w
      obtain ⟨vs, rfl, e6⟩ := e0.lst
      exact ⟨_, e1, l, vs, rfl, .inl (SqL.of e2), fun m nm => k ds vs m (s.put m (.lst vs)) t (Up.put R.ok _ nm) nm upd_same (R.ok.nof nm) (R.ok.noj nm) (e6.up (Up.put R.ok _ nm))⟩
  | no => rw [w] at t; exact t.elim
  | va d => rw [w] at t; exact t.elim
end
/-! ### a def without arguments -/
section
variable {X : Cx} {s0 : Wd} {T : List (Addr × Vol)} {x : Str} {xf : List Dt → M Dt} {k : Nat} {p pos : Pos} {xd : Xd → Prop} {E : XK}
noncomputable def xC0 (xf : List Dt → M Dt) : Env → M Dt := fun _ => xf []
theorem px_callz (C : Pd X.prog X.w X.K X.mg X.base T x [] (spX X.K xf) k) (hr : Room k X.A) (hx : Passes (L2N.CX X.prog X.w) X E) (tj : ∀ P ∈ T, s0.J P.1 = some P.2) (lx : Lx s0 xd E) (hg : Gl X x) (hdb : (x == ("__debug__" : Str)) = false := by decide) :
    PE X (.Call (.Name x p) [] [] pos) (cE s0 (Rg (xeOf X.K xd) (xC0 xf))) := by
  obtain ⟨f, fd, F, g, kp, b⟩ := C
  refine peI (pe_call0 F hr hg g kp b .nil hx hdb) fun σ H Q ⟨s, ρ, q, e, R, t, kk⟩ => ?_
  subst e
  show lift T (spX X.K xf) ([] ++ []) s.H Q E
  exact ⟨s, [], q, xd, rfl, R.ok, fun P hP => R.up.jr _ _ (tj P hP), .nil, t, fun d v s2 hq u2 rv => kk d v s2 hq u2 rv, fun xc s2 cls dx h u2 xr => lx xc s2 cls dx h (R.up.trans u2) xr⟩
theorem px_call00 (C : Pd X.prog X.w X.K X.mg X.base T x [] (spX X.K xf) k) (hr : Room k X.A) (tj : ∀ P ∈ T, s0.J P.1 = some P.2) (hg : Gl X x) (hdb : (x == ("__debug__" : Str)) = false := by decide) :
    PE X (.Call (.Name x p) [] [] pos) (cE s0 (Rg N0 (xC0 xf))) := px_callz (xd := fun _ => False) C hr pass00 tj lx0 hg hdb
end
end
end Xe
/-! sets of texts: filled, walked, sorted -/
namespace Sx
open L2 PySem PySem.Spec PyProof.Rows
open PySem.Froz (SD TxOk addTx tailTx sObj)
/-- D holds the texts l, each once, and can be walked -/
structure Tx (P : Program) (w : World) (D : SD) (l : List Str) : Prop where
  ok : TxOk P w D l
  nd : l.Nodup
  ris : Ris D.2.2.place.toList
  led : w.params.followText "set-order" = true ∨ D.2.2.led = true
section
variable {P : Program} {w : World} {A : Around} {E : Value → Shared → Prop} {s : Shared} {a : Addr} {D : SD} {l : List Str} {k : Str} {u : Tok}
def bare (w : World) : SD := (#[], 0, .fresh 0 0 (!w.params.followText "set-order"))
theorem Tx.none : Tx P w (bare w) [] := ⟨TxOk.nil rfl, List.nodup_nil, .nil, by unfold bare; cases w.params.followText "set-order" <;> simp [SetTable.fresh]⟩
theorem off_plain (t : SetTable) : (if t.plain = true then { t with plain := false } else t).place = t.place ∧ (if t.plain = true then { t with plain := false } else t).led = t.led := by
  by_cases c : t.plain = true <;> simp [c]
theorem tail_walk {ep : Nat} {es : Array (Int × Value)} {t : SetTable} {b : Bool} (r : Ris t.place.toList) : Ris (tailTx ep es t b).2.2.place.toList ∧ (tailTx ep es t b).2.2.led = t.led := by
  unfold tailTx
  split
  · exact ⟨relayAll_ris _ _ _, relayAll_led _ _ _⟩
  · exact ⟨r, rfl⟩
theorem Tx.more (T : Tx P w D l) (u : Tok) (hk : k ∉ l) : Tx P w (addTx (hashStr w k) (.str k u) D) (k :: l) := by
  have r := layNew_ris D.2.2 D.1 (hashStr w k) (.str k u) T.ris
  have e := layNew_led D.2.2 D.1 (hashStr w k) (.str k u)
  obtain ⟨p1, p2⟩ := off_plain (layNew D.2.2 D.1 (hashStr w k) (.str k u)).2.1
  rw [← p1] at r
  have z := tail_walk (ep := D.2.1) (es := (layNew D.2.2 D.1 (hashStr w k) (.str k u)).1) (b := (layNew D.2.2 D.1 (hashStr w k) (.str k u)).2.2.1) r
  exact ⟨Froz.add_ok u T.ok, List.nodup_cons.mpr ⟨hk, T.nd⟩, z.1, T.led.imp_right fun y => z.2.trans (p2.trans (e.trans y))⟩
/-- a text that is there is added: nothing happens -/
theorem put_old {Q : Bool → Shared → Prop} (T : Tx P w D l) (ho : s.heap.get? a = some (sObj "set" D)) (hk : k ∈ l) (hb : l.length < scanBound) (h : Q false s) : wpAny (model P w) A (setAddHashed a (.str k u) (hashStr w k)) Q E s := by
  obtain ⟨j, hj⟩ : ∃ j, List.findIdx? (fun e => (strKind P w).is k e.2) D.1.toList = some j := by
    cases z : List.findIdx? (fun e => (strKind P w).is k e.2) D.1.toList with
    | some j => exact ⟨j, rfl⟩
    | none =>
      obtain ⟨e, he, y⟩ := (T.ok.mem k).mp hk
      have := List.findIdx?_eq_none_iff.mp z e he
      rw [y] at this
      cases this
  unfold setAddHashed
  unfold setAddHashedIn
  refine wpAny_holding (wpAny_bind (wpAny_setState_of ho rfl T.ok.fit ?_))
  dsimp only
  rw [byScan_of (knd := strKind P w) rfl (by rw [T.ok.sz]; exact hb) T.ok.el, if_pos rfl]
  unfold setAddByScan
  refine wpAny_bind (wpAny_bind (wpAny_rule (wpAny_bind (wpAny_setScan_of (knd := strKind P w) (k := k) (strKind_is _ _ _ _) ho rfl T.ok.fit T.ok.el ?_))))
  rw [hj]; exact wpAny_pure (wpAny_pure h)
/-- what an added text leaves -/
structure Put (P : Program) (w : World) (a : Addr) (h : Heap) (l : List Str) (k : Str) (h' : Heap) (D' : SD) (l' : List Str) : Prop where
  tx : Tx P w D' l'
  at_ : h'.get? a = some (sObj "set" D')
  mem : ∀ x, x ∈ l' ↔ x = k ∨ x ∈ l
  len : l'.length ≤ l.length + 1
  rest : ∀ b o, b ≠ a → h.get? b = some o → h'.get? b = some o
theorem put {Q : Bool → Shared → Prop} (T : Tx P w D l) (ho : s.heap.get? a = some (sObj "set" D)) (hb : l.length + 1 < scanBound)
    (h : ∀ b h' D' l', Put P w a s.heap l k h' D' l' → Q b { s with heap := h', toks := s.toks + 1 }) : wpAny (model P w) A (setAdd a (.str k u)) Q E s := by
  unfold setAdd
  refine wpAny_holding (wpAny_bind ((strKind P w).pyHash (k := k) (strKind_is _ _ _ _) ?_))
  by_cases hk : k ∈ l
  · exact put_old (s := { s with toks := s.toks + 1 }) T ho hk (Nat.lt_of_succ_lt hb) (h _ s.heap D l ⟨T, ho, fun x => ⟨.inr, fun z => z.elim (fun y => y ▸ hk) id⟩, Nat.le_succ _, fun _ _ _ e => e⟩)
  · exact Froz.add_x (s := { s with toks := s.toks + 1 }) ho T.ok hk hb (h _ _ _ _ ⟨T.more u hk, Froz.get_upd _ ho rfl, fun x => List.mem_cons, Nat.le_refl _, fun b o n e => (Heap.get?_update_other _ _ (Ne.symm n)).trans e⟩)
/-- the same by a call of add -/
theorem put_call {Q : Value → Shared → Prop} (T : Tx P w D l) (ho : s.heap.get? a = some (sObj "set" D)) (hb : l.length + 1 < scanBound)
    (h : ∀ h' D' l', Put P w a s.heap l k h' D' l' → Q .none { s with heap := h', toks := s.toks + 1 }) : wpAny (model P w) A (call (.builtin "set.add") [.ref a, .str k u]) Q E s := by
  refine wpAny_call_entry PySem.F.slot_set_add ⟨_, ho, rfl⟩ PySem.F.entry_set_add ?_ (PySem.F.args_set_add_2 _ _)
  unfold Builtin.«set.add» Builtin.Frozenset.oneOther Builtin.Frozenset.addrOf
  simp only [bind_assoc, List.isEmpty_nil]
  refine wpAny_bind (wpAny_pure (wpAny_bind (wpAny_pure (wpAny_bind (put T ho hb fun b h' D' l' p => ?_)))))
  exact wpAny_pure ⟨_, rfl, h h' D' l' p⟩
/-- the loop that fills a set with what a walk over the texts xs gives -/
theorem fill {I : Addr} {fp wr : List Addr} {G : Array GenState → Array GenState → Prop} {n : Nat} {Pv : Nat → Value → Prop} {St : Nat → Shared → Prop} {R : Result → Shared → Prop} {xs : List Str} {s0 : Shared}
    (W : WalksS P w A.in1 I fp wr G n Pv St) (off : a ∉ fp) (hn : n = xs.length) (few : xs.length + 1 < scanBound) (val : ∀ i v, Pv i v → ∃ k t, xs[i]? = some k ∧ v = .str k t)
    (last : ∀ s' D l, Moved (a :: wr) G s0 s' → s'.heap.get? a = some (sObj "set" D) → Tx P w D l → l.length ≤ n → (∀ x, x ∈ l ↔ x ∈ xs) → R (.ok (.ret .none)) s') :
    ∀ (k i : Nat) (s : Shared) (D : SD) (l : List Str), n - i = k → i ≤ n → St i s → Moved (a :: wr) G s0 s → s.heap.get? a = some (sObj "set" D) → Tx P w D l → l.length ≤ i → (∀ x, x ∈ l ↔ x ∈ xs.take i) →
      codeAny (model P w) A (.builtin "set.update.loop" ⟨[.ref a, .ref I], []⟩) R s := by
  have offw : a ∉ wr := fun z => off (W.sub _ z)
  have wide : ∀ b ∈ wr, b ∈ a :: wr := fun _ z => .tail _ z
  intro k
  induction k with
  | zero =>
    intro i s D l e1 e2 st mv at_ T len mem
    have e : i = n := by omega
    subst e
    refine codeAny_builtin PyProof.Rows.F.entry_set_update_loop (by
      rw [Around.under_plainId PyProof.Rows.F.plain_set_update_loop _]
      exact wpAny_bind (m := pyNext (.ref I)) (W.done s _ _ st fun s' m => wpAny_pure (last s' D l (mv.trans W.gtrans (m.mono wide)) (m.heap a _ offw at_) T len (fun x => by rw [mem x, hn, List.take_length]))))
  | succ k ih =>
    intro i s D l e1 e2 st mv at_ T len mem
    refine codeAny_builtin PyProof.Rows.F.entry_set_update_loop (by
      rw [Around.under_plainId PyProof.Rows.F.plain_set_update_loop _]
      refine wpAny_bind (m := pyNext (.ref I)) (W.item i s _ _ (by omega) st fun v s1 hv st1 m1 => ?_)
      obtain ⟨z, t, hz, rfl⟩ := val i v hv
      refine wpAny_bind (m := holding [Value.str z t] (setAdd a (.str z t))) (wpAny_holding (put T (m1.heap a _ offw at_) (by omega) fun b h' D' l' p => wpAny_pure ⟨plainId_quiet PyProof.Rows.F.plain_set_update_loop _, ?_⟩))
      refine ih (i + 1) _ D' l' (by omega) (by omega) (W.frame _ s1 _ _ st1 (Nat.le_succ _) fun b hb o e => p.rest b o (fun y => off (y ▸ hb)) e) (mv.trans W.gtrans ((m1.mono wide).then_heap (Nat.le_succ _) fun b o hb e => p.rest b o (fun y => hb (y ▸ List.mem_cons_self)) e)) p.at_ p.tx (by have := p.len; omega) fun x => ?_
      rw [p.mem x, mem x, List.take_add_one, hz, List.mem_append, or_comm]
      simp)
/-- set(l) of a list: the loop has the new set and the list's walker -/
theorem set_of_list {c : Addr} {its : Array Value} {Q : Value → Shared → Prop} (hl : s.heap.IsList c its)
    (h : ∀ A' : Around, A'.handled = A.handled → codeAny (model P w) A' (.builtin "set.update.loop" ⟨[.ref s.heap.objs.size, .ref (s.heap.objs.size + 1)], []⟩) (fun r s' => r = .ok (.ret .none) ∧ Q (.ref s.heap.objs.size) s')
      { s with heap := (s.heap.push (sObj "set" (bare w))).push { cls := .type "list_iterator", data := .fields #[.ref c, .int 0 0] } }) : wpAny (model P w) A (call (.type "set") [.ref c]) Q E s := by
  obtain ⟨⟨_, _, mro⟩, made, sub, nt, cc, tc⟩ := And.intro PySem.F.called_set.mro (And.intro PySem.F.called_set.made (And.intro PySem.F.called_set.sub (And.intro PySem.F.called_set.notType (And.intro PySem.F.called_set.canCreate (PySem.F.typeCall_set_1 (.ref c))))))
  refine wpAny_call (codeAny_of_tree (show wpAny _ _ (callAny (.type "set") _) _ _ _ from wpAny_pure ⟨Code.quiet_builtin _ (by decide +kernel), codeAny_builtin PySem.F.entry_type_call ?_⟩))
  rw [Around.under_plain (weight_type_call_type "set" [.ref c] []) rfl]
  repeat (any_goals (first | assumption | wp_step))
  refine codeAny_mono (L2.code_set_led1 (.ref c) (E := E) (Q₁ := fun v s1 => v = .ref s.heap.objs.size ∧ s1 = { s with heap := s.heap.push (sObj "set" (bare w)) }) ⟨rfl, rfl⟩) fun r s1 hr => ?_
  rcases r with _ | (_ | _ | _ | v)
  any_goals exact hr
  obtain ⟨rfl, rfl⟩ := hr
  have here : (s.heap.push (sObj "set" (bare w))).get? s.heap.objs.size = some (sObj "set" (bare w)) := Heap.get?_push_size _ rfl
  have ty : Shared.TypeIs { s with heap := s.heap.push (sObj "set" (bare w)) } (.ref s.heap.objs.size) "set" := ⟨_, here, rfl⟩
  obtain ⟨lk, bd⟩ := And.intro PySem.F.called_set.init.lookup (PySem.F.called_set.init.bind (.ref s.heap.objs.size))
  repeat (any_goals (first | assumption | wp_step))
  refine codeAny_mono (codeAny_call_builtin (R := wants (fun r s2 => r = .none ∧ Q (.ref s.heap.objs.size) s2) E) PySem.F.called_set.init.plain PySem.F.entry_set_init (check_set_init_1 ty ?_)) fun r s2 hr => ?_
  · obtain ⟨⟨_, dd, _, sl⟩, ho, hcl, nl, hda⟩ := hl
    cases hcl
    cases hda
    have ho' : (s.heap.push (sObj "set" (bare w))).get? c = some { cls := .type "list", dict := dd, data := .seq its nl, slots := sl } := Heap.get?_push_of_some _ ho
    obtain ⟨n1, n2, n3⟩ := And.intro PySem.F.sub_list_set (And.intro PySem.F.sub_list_frozenset (show (Value.type "list" == Value.type "dict") = false by decide))
    unfold Builtin.«set.__init__» noKeywords Builtin.Frozenset.updateFrom
    generalize hPI : pyIter = PI
    wp_walk
    subst hPI
    refine wpAny_pyIter_list (s := { s with heap := s.heap.push (sObj "set" (bare w)) }) ⟨_, ho', rfl, nl, rfl⟩ (wpAny_bind (wpAny_runValue ?_))
    have e : (s.heap.push (sObj "set" (bare w))).objs.size = s.heap.objs.size + 1 := Heap.size_push ..
    rw [e]
    refine codeAny_mono (h _ ?_) fun r s2 hr => ?_
    · simp
    · obtain ⟨rfl, q⟩ := hr
      exact wpAny_pure (wpAny_pure ⟨rfl, q⟩)
  · rcases r with _ | (_ | _ | _ | v)
    any_goals exact hr
    obtain ⟨rfl, q⟩ := hr
    repeat (any_goals (first | assumption | wp_step))
end
end Sx
namespace Sx
open L2 PySem PySem.Spec PyProof.Rows
open PySem.Froz (SD TxOk addTx tailTx sObj)
/-- the set of the texts l at a -/
def TxO (P : Program) (w : World) (a : Addr) (l : List Str) : HO := .ext fun h => ∃ D, h.get? a = some (sObj "set" D) ∧ Tx P w D l
theorem TxO.new {P : Program} {w : World} {H : Hp} {h : Heap} {a : Addr} {D : SD} {l : List Str} (at_ : h.get? a = some (sObj "set" D)) (T : Tx P w D l) : ObjOk P w H h a (TxO P w a l) :=
  ⟨⟨D, at_, T⟩, ⟨_, at_⟩, fun _ _ ⟨D', p, q⟩ k => ⟨D', k _ p, q⟩⟩
theorem perm_of {α : Type} [DecidableEq α] : ∀ {l m : List α}, l.Nodup → (∀ x ∈ l, x ∈ m) → m.length ≤ l.length → m.Perm l
  | [], m, _, _, h => by rw [List.length_eq_zero_iff.mp (Nat.le_zero.mp h)]
  | x :: r, m, nd, sub, h => by
    have hx : x ∈ m := sub x List.mem_cons_self
    obtain ⟨n1, n2⟩ := List.nodup_cons.mp nd
    refine (List.perm_cons_erase hx).trans (List.Perm.cons x (perm_of n2 (fun y hy => ?_) ?_))
    · exact (List.mem_erase_of_ne (show y ≠ x from fun z => n1 (z ▸ hy))).mpr (sub y (List.mem_cons_of_mem _ hy))
    · rw [List.length_erase_of_mem hx]
      simp only [List.length_cons] at h
      omega
def txt : Value → Str
  | .str k _ => k
  | _ => Str.empty
theorem strs_txt : ∀ {us : List Value}, (∀ v ∈ us, ∃ k t, v = Value.str k t) → StrsAre us (us.map txt)
  | [], _ => .nil
  | v :: us, h => by
    obtain ⟨k, t, rfl⟩ := h v List.mem_cons_self
    exact .cons k t (strs_txt fun y hy => h y (List.mem_cons_of_mem _ hy))
theorem Tx.texts {P : Program} {w : World} {D : SD} {l : List Str} (T : Tx P w D l) : (∀ e ∈ D.1.toList, ∃ k t, e.2 = Value.str k t) ∧ ((D.1.toList.map (·.2)).map txt).Perm l := by
  have one : ∀ e ∈ D.1.toList, ∃ k t, e.2 = Value.str k t := fun e he => by
    obtain ⟨k, hk, _⟩ := (T.ok.el e he).1
    obtain ⟨t, z⟩ := Value.isStrOf_shape (x := k) (v := e.2) hk
    exact ⟨k, t, z⟩
  refine ⟨one, perm_of T.nd (fun x hx => ?_) ?_⟩
  · obtain ⟨e, he, hk⟩ := (T.ok.mem x).mp hx
    obtain ⟨t, z⟩ := Value.isStrOf_shape (x := x) (v := e.2) hk
    exact List.mem_map.mpr ⟨e.2, List.mem_map.mpr ⟨e, he, rfl⟩, by rw [z]; rfl⟩
  · rw [List.length_map, List.length_map, Array.length_toList, T.ok.sz]
    exact Nat.le_refl _
section
variable {X : Cx}
/-- set(l), l a list of texts -/
def rSet (K : PySem.W.Frag) (P : Program) (w : World) : List V → Hp → VK → Prop := fun xs H Q => ∃ (c : Addr) (ks : List Str), xs = [.ref c] ∧ SqL K H c (ks.map V.str) ∧ ks.length < 64 ∧
  ∀ a l, H a = none → (∀ x, x ∈ l ↔ x ∈ ks) → l.Nodup → l.length ≤ ks.length → Q (.ref a) (upd H a (TxO P w a l))
theorem cr_set (calm : X.calm = true) : CallR X (.type "set") (rSet X.K X.prog X.w) := by
  rintro pins s σ H xs us Q I r ⟨c, ks, rfl, hl, few, q⟩
  obtain ⟨its, rv, pl, _⟩ := I.list hl
  have hS : StrsAre its ks := Vals.strs rv
  have il : s.heap.IsList c its.toArray := pl.isList
  have lt : c < s.heap.objs.size := by obtain ⟨o, ho, _⟩ := il; exact Heap.lt_size ho
  have hlen : its.toArray.size = ks.length := by rw [List.size_toArray]; exact StrsAre.len_eq hS
  rw [Vals.ref1 r]
  refine set_of_list il fun A' hA => ?_
  have il2 : ((s.heap.push (sObj "set" (bare X.w))).push { cls := .type "list_iterator", data := .fields #[.ref c, .int 0 0] }).IsList c its.toArray := (il.push _).push _
  have e1 : (s.heap.push (sObj "set" (bare X.w))).objs.size = s.heap.objs.size + 1 := Heap.size_push ..
  have it : ((s.heap.push (sObj "set" (bare X.w))).push { cls := .type "list_iterator", data := .fields #[.ref c, .int 0 0] }).get? (s.heap.objs.size + 1) = some { cls := .type "list_iterator", data := .fields #[.ref c, .int 0 0] } := by
    rw [← e1]
    exact Heap.get?_push_size _ rfl
  have at0 : ((s.heap.push (sObj "set" (bare X.w))).push { cls := .type "list_iterator", data := .fields #[.ref c, .int 0 0] }).get? s.heap.objs.size = some (sObj "set" (bare X.w)) := Heap.get?_push_of_some _ (Heap.get?_push_size _ rfl)
  have W := (Walks.list (prog := X.prog) (w := X.w) (A := A'.in1) (by show A'.handled = none; rw [hA]; exact I.ok.hd calm) (s.heap.objs.size + 1) c (Nat.ne_of_lt (Nat.lt_succ_of_lt lt)) its.toArray).toS
  refine fill (P := X.prog) (w := X.w) W (a := s.heap.objs.size) (by simp only [List.mem_cons, List.not_mem_nil, or_false, not_or]; exact ⟨Nat.ne_of_lt (Nat.lt_succ_self _), Nat.ne_of_gt lt⟩) hlen (Nat.lt_of_lt_of_le (Nat.succ_lt_succ few) (by unfold scanBound; decide)) (fun i v hv => ?_) ?_ its.toArray.size 0 _ (bare X.w) [] (by omega) (Nat.zero_le _) ⟨⟨_, it, rfl, rfl⟩, il2⟩ (Moved.refl W.grefl) at0 Tx.none (Nat.le_refl _) (fun x => by simp)
  · have hi : i < ks.length := by rw [← hlen]; exact (Array.getElem?_eq_some_iff.mp hv).1
    obtain ⟨t, e⟩ := SS.strs_at hS i v (by simpa using hv)
    exact ⟨ks[i], t, List.getElem?_eq_getElem hi, by rw [e, List.getD_eq_getElem?_getD, List.getElem?_eq_getElem hi]; rfl⟩
  · intro s' D l mv at_ T len mem
    obtain ⟨h', g', d', t', o'⟩ := s'
    obtain ⟨rfl, rfl, rfl⟩ := And.intro (show g' = s.gens from mv.gens) (And.intro (show d' = s.drawn from mv.drawn) (show o' = s.os from mv.os))
    have keep : ∀ b o, s.heap.get? b = some o → h'.get? b = some o := fun b o e => by
      have lb : b < s.heap.objs.size := Heap.lt_size e
      refine mv.heap b o ?_ (Heap.get?_push_of_some _ (Heap.get?_push_of_some _ e))
      simp only [List.mem_cons, List.not_mem_nil, or_false, not_or]
      exact ⟨Nat.ne_of_lt lb, Nat.ne_of_lt (Nat.lt_succ_of_lt lb)⟩
    exact ⟨rfl, .ref s.heap.objs.size, _, I.laid (t' := t') keep (Nat.le_refl _) (TxO.new at_ T), rfl, q _ l (I.hok.fresh (Nat.le_refl _)) mem T.nd (by rw [← hlen]; exact len)⟩
/-- sorted(a), a a set of fewer than 64 texts -/
def rSort (P : Program) (w : World) : List V → Hp → VK → Prop := fun vs H Q => ∃ (a : Addr) (l : List Str), vs = [.ref a] ∧ H a = some (TxO P w a l) ∧ l.length < 64 ∧
  ∀ ys p, ys.Perm l → sortedS ys = true → H p = none → Q (.ref p) (upd H p (.lst (ys.map V.str)))
theorem cr_sort (calm : X.calm = true) : CallR X (.builtin "sorted") (rSort X.prog X.w) := by
  rintro pins s σ H vs us Q I r ⟨a, l, rfl, ha, few, q⟩
  obtain ⟨D, at_, T⟩ := (I.hok a _ ha).1
  rw [Vals.ref1 r]
  have small : D.1.size < scanBound := by rw [T.ok.sz]; exact Nat.lt_trans few (by unfold scanBound; decide)
  refine Calls.call_function_entry kind_sorted plain_sorted entry_sorted (args_sorted1 _) (wpAny_bind (m := checkCount "sorted" 1 1 _) (wpAny_pure (wpAny_bind (collect_set (A := X.A.in1) (I.ok.hd calm) ⟨_, at_, rfl, rfl⟩ T.ok.fit small T.ris T.led fun s1 out k1 z1 g1 o1 pm => ?_))))
  obtain ⟨one, pt⟩ := T.texts
  have hS : StrsAre out (out.map txt) := strs_txt fun v hv => by
    obtain ⟨e, he, rfl⟩ := List.mem_map.mp (pm.mem_iff.mp hv)
    exact one e he
  have pl : (out.map txt).Perm l := (pm.map txt).trans pt
  have len : out.length < 64 := by rw [← List.length_map (f := txt), pl.length_eq]; exact few
  refine wpAny_bind (wpAny_newList ?_ (Nat.le_trans (Nat.le_of_lt len) (by decide)))
  have atL : (s1.heap.push (seqObj "list" out.toArray 0)).get? s1.heap.objs.size = some (seqObj "list" out.toArray 0) := Heap.get?_push_size _ rfl
  refine wpAny_bind (wpAny_holding (wpAny_call_entry slot_list_sort ⟨_, atL, rfl⟩ entry_list_sort (list_sort_treeK strKind_oneLt atL hS.keysOf (fun v1 v2 rest e => keyKind_strs (by rw [← e]; exact hS)) len fun st hp hs => ⟨_, rfl, ?_⟩) (args_list_sort _)))
  obtain ⟨ys, y1, y2, y3⟩ := sorted_out_str hS hp hs
  obtain ⟨c, atP⟩ := sortedHeap_at (vs := out) (out := (arrOf st).map (·.2)) atL
  have free : H s1.heap.objs.size = none := I.hok.fresh z1
  have keep : ∀ b o, s.heap.get? b = some o → (sortedHeap (s1.heap.push (seqObj "list" out.toArray 0)) s1.heap.objs.size out ((arrOf st).map (·.2))).get? b = some o := fun b o e => by
    have e1 := k1 b o e
    have lb : b < s1.heap.objs.size := Heap.lt_size e1
    rw [sortedHeap_old (Nat.ne_of_lt lb) (by rw [size_push']; exact Nat.lt_succ_of_lt lb)]
    exact Heap.get?_push_of_some _ e1
  have fit : (ys.map V.str).length ≤ sizeLine := by
    rw [List.length_map, y2.length_eq, pl.length_eq]
    exact Nat.le_trans (Nat.le_of_lt few) (by decide)
  obtain ⟨h1, g1', d1, t1, o1'⟩ := s1
  obtain ⟨rfl, rfl⟩ := And.intro (show g1' = s.gens from g1) (show o1' = s.os from o1)
  have J : Inv X pins σ (upd H h1.objs.size (.lst (ys.map V.str))) { s with heap := sortedHeap (h1.push (seqObj "list" out.toArray 0)) h1.objs.size out ((arrOf st).map (·.2)), gens := s.gens, drawn := d1, toks := t1 } :=
    I.call (ch := []) (Un.laid keep z1 free) (I.hok.laid keep z1 ⟨fit, ((arrOf st).map (·.2)).toList, c, vals_of_strs y1, by rw [Array.toArray_toList]; exact atP⟩) I.bare fun _ z => nomatch z
  exact wpAny_pure ⟨_, rfl, .ref h1.objs.size, upd H h1.objs.size (.lst (ys.map V.str)), J, rfl, q ys _ (y2.trans pl) y3 free⟩
end
end Sx
/-! code over data: sums, the least text, how many texts there are, where one stands -/
namespace Xe
open PySem hiding Env
open PySem.Spec PyProof.Rows L2 Dl
noncomputable section
section
variable {X : Cx} {s0 : Wd} {xe : Xi → Prop} {e a b o tg : Expr} {es : List Expr} {c ca cb cc co cd : Env → M Dt} {cA' cAA cBB ci : Env → M (List Dt)} {pos p p2 q1 pp apos cpos : Pos} {n : Nat}
/-! ### built-ins of plain answers -/
def gO (f : List Dt → Option Dt) : List Dt → M Dt := fun ds => ofO (f ds)
def dO (f : List Dt → Option Dt) : List Dt → (Dt → Prop) → Prop := fun ds q => ∃ d, f ds = some d ∧ q d
theorem sc_O {f : List Dt → Option Dt} : Sc (gO f) (dO f) := fun ds q e z => sat_ofO z
/-! ### sum of a list of numbers -/
theorem rvs_ints {J : Addr → Option Vol} {F : Hp} : ∀ {ns : List Int} {vs : List V}, Rvs J F vs (ns.map .int) → vs = ns.map V.int
  | [], _, r => by cases r; rfl
  | n :: ns, _, r => by
    cases r with
    | cons r1 r =>
      cases r1
      rw [rvs_ints r]
      rfl
theorem intsOf_rvs {J : Addr → Option Vol} {F : Hp} {ds : List Dt} {ys : List Int} {vs : List V} (h : intsOf ds = some ys) (r : Rvs J F vs ds) : vs = ys.map V.int := rvs_ints (by rw [← intsOf_eq h]; exact r)
def sumL (l : List Int) : Int := List.rec 0 (fun i _ ih => i + ih) l
theorem sumL_eq : ∀ l : List Int, sumL l = l.sum
  | [] => rfl
  | i :: l => by show i + sumL l = _; rw [sumL_eq l, List.sum_cons]
def fSum : List Dt → Option Dt := fun ds => match ds with | [.lst xs] => (match intsOf xs with | some ns => some (.int (sumL ns)) | none => none) | _ => none
def gSum : List Dt → M Dt := gO fSum
theorem sc_sum : Sc gSum (dO fSum) := sc_O
theorem cf_sumQ {K : PySem.W.Frag} : CallF (rSum K) (dO fSum) := fun J F H xs ds q Q sub r t k => by
  obtain ⟨d, hd, hq⟩ := t
  cases r with
  | nil => exact nomatch hd
  | cons h r =>
    cases r with
    | cons _ _ => cases h <;> exact nomatch hd
    | nil =>
      cases h with
      | @lst _ _ ds' h r =>
        replace hd : (match intsOf ds' with | some ns => some (Dt.int (sumL ns)) | none => none) = some d := hd
        cases w : intsOf ds' with
        | none => rw [w] at hd; exact nomatch hd
        | some ns =>
          rw [w] at hd
          cases hd
          have ev := intsOf_rvs w r
          subst ev
          exact ⟨_, ns, rfl, SqL.of (sub _ _ h), by rw [← sumL_eq]; exact k _ _ hq fun J F => .int _⟩
      | _ => exact nomatch hd
/-! ### the least of some texts -/
def minT (x : Str) (xs : List Str) : Str := List.rec (motive := fun _ => Str → Str) (fun m => m) (fun y _ ih m => match ltT y m with | true => ih y | false => ih m) xs x
theorem minT_eq : ∀ (xs : List Str) (x : Str), minT x xs = PySem.W.minOf x xs
  | [], _ => rfl
  | y :: xs, x => by
    show (match ltT y x with | true => minT y xs | false => minT x xs) = List.foldl _ (if PySem.W.DatumOrd.lt y x = true then y else x) xs
    have e : PySem.W.DatumOrd.lt y x = ltT y x := (ltL_eq _ _).symm
    rw [e, minT_eq xs y, minT_eq xs x]
    cases ltT y x <;> rfl
def rMinT (K : PySem.W.Frag) : List V → Hp → VK → Prop := fun vs H Q => ∃ (l : Addr) (x : Str) (xs : List Str), vs = [V.ref l] ∧ SqL K H l ((x :: xs).map V.str) ∧ Q (.str (minT x xs)) H
theorem holdAll_strs {h : Heap} : ∀ {ys : List Str} {us : List Value}, Vals (ys.map V.str) us → PySem.W.HoldAll h us ys
  | [], _, .nil => ⟨_, .nil⟩
  | y :: ys, _, .cons r t => by
    obtain ⟨k, rfl⟩ := r
    obtain ⟨as, z⟩ := holdAll_strs (h := h) t
    exact ⟨_, .cons (.str y k) z⟩
theorem holds_txt {h : Heap} {v : Value} {x : Str} (H : PySem.W.Holds h v x) : ∃ t, v = .str x t := by
  obtain ⟨as, r⟩ := H
  cases r with
  | str y t => exact ⟨t, rfl⟩
theorem cr_minT (hc : X.calm = true) (hu : X.A.units + 1 < cLine) : CallR X (.builtin "min") (rMinT X.K) := by
  intro pins s σ H vs us Q I r h
  obtain ⟨l, x, xs, rfl, hs, q⟩ := h
  obtain ⟨its, rv, hl, _⟩ := I.list hs
  rw [Vals.ref1 r]
  refine PySem.W.min_list_datum (x := x) (xs := xs) (I.ok.hd hc) hl.isList (holdAll_strs (by simpa using rv)) hu fun i v h' tk hi hv hk => ?_
  obtain ⟨t, rfl⟩ := holds_txt hv
  exact ⟨.str _, H, I.kept hk, ⟨_, rfl⟩, by rw [← minT_eq]; exact q⟩
def fMinT : List Dt → Option Dt := fun ds => match ds with | [.lst xs] => (match strsOf xs with | some (x :: r) => some (.str (minT x r)) | _ => none) | _ => none
theorem cf_minT {K : PySem.W.Frag} : CallF (rMinT K) (dO fMinT) := fun J F H xs ds q Q sub r t k => by
  obtain ⟨d, hd, hq⟩ := t
  cases r with
  | nil => exact nomatch hd
  | cons h r =>
    cases r with
    | cons _ _ => cases h <;> exact nomatch hd
    | nil =>
      cases h with
      | @lst _ _ ds' h r =>
        replace hd : (match strsOf ds' with | some (x :: r) => some (Dt.str (minT x r)) | _ => none) = some d := hd
        cases w : strsOf ds' with
        | none => rw [w] at hd; exact nomatch hd
        | some ns =>
          rw [w] at hd
          cases ns with
          | nil => exact nomatch hd
          | cons y ys =>
            cases hd
            have ev := strsOf_rvs w r
            subst ev
            exact ⟨_, y, ys, rfl, SqL.of (sub _ _ h), k _ _ hq fun J F => .str _⟩
      | _ => exact nomatch hd
/-- min(.., default=..) -/
def rMinTD (K : PySem.W.Frag) : List V → List V → Hp → VK → Prop := fun vs zs H Q => ∃ (l : Addr) (xs : List Str) (z : Str), vs = [V.ref l] ∧ zs = [.str z] ∧ SqL K H l (xs.map V.str) ∧ Q (.str (match xs with | [] => z | x :: r => minT x r)) H
theorem cr_minTD (hc : X.calm = true) (hu : X.A.units + 1 < cLine) : CallRK X (.builtin "min") [Str.ofString "default"] (rMinTD X.K) := by
  intro pins s σ H vs zs us ws Q I r rz h
  obtain ⟨l, xs, z, rfl, rfl, hs, q⟩ := h
  obtain ⟨its, rv, hl, _⟩ := I.list hs
  rw [Vals.ref1 r]
  cases rz with
  | cons r1 r2 =>
    cases r2
    obtain ⟨t, rfl⟩ := r1
    show wpAny _ _ (call (.builtin "min") [.ref l] [(Str.ofString "default", .str z t)]) _ _ _
    refine PySem.W.min_list_datum_default (xs := xs) (I.ok.hd hc) hl.isList (holdAll_strs (by simpa using rv)) hu (fun e h' tk hk => ?_) fun y ys i v h' tk e hi hv hk => ?_
    · subst e
      exact ⟨.str _, H, I.kept hk, ⟨_, rfl⟩, q⟩
    · subst e
      obtain ⟨t, rfl⟩ := holds_txt hv
      exact ⟨.str _, H, I.kept hk, ⟨_, rfl⟩, by rw [← minT_eq]; exact q⟩
def fMinTD (z : Str) : List Dt → Option Dt := fun ds => match ds with | [.lst xs] => (match strsOf xs with | some [] => some (.str z) | some (x :: r) => some (.str (minT x r)) | none => none) | _ => none
def xMinTD (z : Str) (c : Env → M Dt) : Env → M Dt := fun ρ => bd (c ρ) fun d => ofO (fMinTD z [d])
theorem px_minTD {z y : Str} {j : Nat} {kp : Pos} (hc : X.calm = true) (hu : X.A.units + 1 < cLine) (hg : Gl X "min") (hm : X.mg "min" = none) (ha : PE X e (cB s0 (Rg xe c))) (hz : z = y := by decide +kernel) (hs : starEach [e] X.env = (false, eval e X.env) :: starEach [] X.env := by rfl)
    (he : backTo pos (starEach [e] X.env) = (false, eval e X.env) :: backTo pos (starEach [] X.env) := by rfl) (hpl : (backTo pos (starEach [e] X.env)).any (·.1) = false := by rfl)
    (hall : (backToKw pos (keywordEach [⟨some "default", .Constant (.str z) j p2, kp⟩] X.env)).all (·.1.isSome) = true := by rfl) (hnone : (backToKw pos (keywordEach [⟨some "default", .Constant (.str z) j p2, kp⟩] X.env)).any (·.1.isNone) = false := by rfl) (hks : (backToKw pos (keywordEach [⟨some "default", .Constant (.str z) j p2, kp⟩] X.env)).filterMap (·.1) = [Str.ofString "default"] := by rfl) :
    PE X (.Call (.Name "min" p) [e] [⟨some "default", .Constant (.str z) j p2, kp⟩] pos) (cE s0 (Rg xe (xMinTD y c))) := peI (pe_callBK (cr_minTD hc hu) hg hm boot_min (pxba_cons ha pxba_nil hs) (pk_cons (px_str (s0 := s0) (xe := xe) hz) pk_nil) (he := he) (hpl := hpl) (hall := hall) (hnone := hnone) (hks := hks)) fun σ H Q ⟨s, ρ, q, e, R, t, k⟩ => by
  refine ⟨s, ρ, fun ds => ∃ d, ds = [d] ∧ sat (ofO (fMinTD y [d])) q xe, e, R, sat_bd.mpr ((sat_bd.mp t).imp fun d t => ⟨d, rfl, t⟩), fun ds vs s1 _ t1 u1 r1 => ?_⟩
  obtain ⟨d, rfl, t1⟩ := t1
  refine ⟨s1, ρ, fun d => d = .str y, rfl, R.up' u1, rfl, fun d2 v s2 hd u2 r2 => ?_⟩
  subst hd
  cases r2
  obtain ⟨d3, hd, hq⟩ := sat_ofO t1
  cases r1 with
  | cons r1 r9 =>
    cases r9
    have r1 := Rv.borUp u2 r1
    cases r1 with
    | @lst l vs' ds' h r =>
      replace hd : (match strsOf ds' with | some [] => some (Dt.str y) | some (x :: r) => some (Dt.str (minT x r)) | none => none) = some d3 := hd
      cases w : strsOf ds' with
      | none => rw [w] at hd; exact nomatch hd
      | some ns =>
        rw [w] at hd
        have ev := strsOf_rvs w r
        subst ev
        refine ⟨l, ns, y, rfl, rfl, SqL.of (bor_sub _ _ h), ?_⟩
        cases ns with
        | nil => cases hd; exact k _ _ s2 hq (u1.trans u2) (.str _)
        | cons x r => cases hd; exact k _ _ s2 hq (u1.trans u2) (.str _)
    | _ => exact nomatch hd
/-! ### how many unlike texts there are -/
def memT (x : Str) (l : List Str) : Bool := List.rec false (fun y _ ih => match eqL x.cps.toList y.cps.toList with | true => true | false => ih) l
theorem memT_eq (x : Str) : ∀ l : List Str, memT x l = true ↔ x ∈ l
  | [] => ⟨(fun h => nomatch h), (fun h => nomatch h)⟩
  | y :: l => by
    show (match eqL x.cps.toList y.cps.toList with | true => true | false => memT x l) = true ↔ _
    have ih := memT_eq x l
    rw [eqL_eq]
    by_cases h : x.cps.toList = y.cps.toList
    · rw [decide_eq_true h]
      have : x = y := str_inj h
      subst this
      simp
    · rw [decide_eq_false h]
      have : x ≠ y := fun z => h (by rw [z])
      simp [ih, this]
def dstT (l : List Str) : List Str := List.rec [] (fun x r ih => match memT x r with | true => ih | false => x :: ih) l
theorem dstT_mem (z : Str) : ∀ l : List Str, z ∈ dstT l ↔ z ∈ l
  | [] => Iff.rfl
  | x :: l => by
    show z ∈ (match memT x l with | true => dstT l | false => x :: dstT l) ↔ _
    have ih := dstT_mem z l
    cases h : memT x l with
    | true =>
      have hx := (memT_eq x l).mp h
      show z ∈ dstT l ↔ _
      rw [ih, List.mem_cons]
      exact ⟨fun k => .inr k, fun k => k.elim (fun e => e ▸ hx) id⟩
    | false =>
      show z ∈ x :: dstT l ↔ _
      rw [List.mem_cons, List.mem_cons, ih]
theorem dstT_nodup : ∀ l : List Str, (dstT l).Nodup
  | [] => List.nodup_nil
  | x :: l => by
    show (match memT x l with | true => dstT l | false => x :: dstT l).Nodup
    cases h : memT x l with
    | true => exact dstT_nodup l
    | false =>
      refine List.nodup_cons.mpr ⟨fun k => ?_, dstT_nodup l⟩
      rw [dstT_mem, ← memT_eq, h] at k
      exact nomatch k
theorem nodup_le {α : Type} [DecidableEq α] : ∀ {l m : List α}, l.Nodup → (∀ x ∈ l, x ∈ m) → l.length ≤ m.length
  | [], _, _, _ => Nat.zero_le _
  | x :: r, m, nd, sub => by
    have hx : x ∈ m := sub x List.mem_cons_self
    obtain ⟨n1, n2⟩ := List.nodup_cons.mp nd
    have := nodup_le (m := m.erase x) n2 fun y hy => (List.mem_erase_of_ne (show y ≠ x from fun z => n1 (z ▸ hy))).mpr (sub y (List.mem_cons_of_mem _ hy))
    rw [List.length_erase_of_mem hx] at this
    have := List.length_pos_of_mem hx
    simp only [List.length_cons]
    omega
theorem dstT_len {l ks : List Str} (nd : l.Nodup) (h : ∀ x, x ∈ l ↔ x ∈ ks) : l.length = (dstT ks).length :=
  Nat.le_antisymm (nodup_le nd fun x hx => (dstT_mem x ks).mpr ((h x).mp hx)) (nodup_le (dstT_nodup ks) fun x hx => (h x).mpr ((dstT_mem x ks).mp hx))
def rLenT (P : Program) (w : World) : List V → Hp → VK → Prop := fun xs H Q => ∃ a l, xs = [.ref a] ∧ H a = some (Sx.TxO P w a l) ∧ l.length < 64 ∧ Q (.int l.length) H
theorem cr_lenT : CallR X (.builtin "len") (rLenT X.prog X.w) := by
  rintro pins s σ H vs us Q I r ⟨a, l, rfl, ha, few, q⟩
  obtain ⟨D, at_, T⟩ := (I.hok a _ ha).1
  rw [Vals.ref1 r]
  refine call_len_set at_ ⟨rfl, rfl, rfl⟩ rfl T.ok.fit (by rw [T.ok.sz]; omega) ⟨.int _, H, I.tok _, ⟨_, rfl⟩, by rw [T.ok.sz]; exact q⟩
def fLenT : Dt → Option Dt := fun d => match d with | .lst xs => (match strsOf xs with | some ks => (match Nat.blt (lenL ks) 64 with | true => some (.int (lenL (dstT ks))) | false => none) | none => none) | _ => none
def xLenSet (c : Env → M Dt) : Env → M Dt := fun ρ => bd (c ρ) fun d => ofO (fLenT d)
theorem px_lenSet (hc : X.calm = true) (hg : Gl X "len") (hm : X.mg "len" = none) (hg2 : Gl X "set") (hm2 : X.mg "set" = none) (ha : PE X a (cB s0 (Rg xe c)))
    (na : starEach [a] X.env = (false, eval a X.env) :: starEach [] X.env := by rfl) (hpl : (backTo q1 (starEach [] X.env)).any (·.1) = false := by rfl)
    (nb : starEach [.Call (.Name "set" p2) [a] [] q1] X.env = (false, eval (.Call (.Name "set" p2) [a] [] q1) X.env) :: starEach [] X.env := by rfl) (hpl2 : (backTo pos (starEach [] X.env)).any (·.1) = false := by rfl) :
    PE X (.Call (.Name "len" p) [.Call (.Name "set" p2) [a] [] q1] [] pos) (cE s0 (Rg xe (xLenSet c))) := peI (pe_callB cr_lenT hg hm PySem.boot_len (pa_cons (pe_callTy (Sx.cr_set hc) hg2 hm2 PyProof.Rows.boot_set (pxba_cons ha pxba_nil na) (by decide) (by decide) na hpl) pa_nil nb) (by decide) (by decide) nb hpl2) fun σ H Q ⟨s, ρ, q, e, R, t, k⟩ => by
  refine ⟨s, ρ, fun ds => ∃ d, ds = [d] ∧ sat (ofO (fLenT d)) q xe, e, R, sat_bd.mpr ((sat_bd.mp t).imp fun d t => ⟨d, rfl, t⟩), fun ds vs s1 _ t1 u1 r1 => ?_⟩
  obtain ⟨d, rfl, t1⟩ := t1
  obtain ⟨d3, hd, hq⟩ := sat_ofO t1
  cases r1 with
  | cons r1 r9 =>
    cases r9
    cases r1 with
    | @lst l vs' ds' h r =>
      replace hd : (match strsOf ds' with | some ks => (match Nat.blt (lenL ks) 64 with | true => some (Dt.int (lenL (dstT ks))) | false => none) | none => none) = some d3 := hd
      cases w : strsOf ds' with
      | none => rw [w] at hd; exact nomatch hd
      | some ks =>
        rw [w] at hd
        replace hd : (match Nat.blt (lenL ks) 64 with | true => some (Dt.int (lenL (dstT ks))) | false => none) = some d3 := hd
        have ev := strsOf_rvs w r
        subst ev
        cases few : Nat.blt (lenL ks) 64 with
        | false => rw [few] at hd; exact nomatch hd
        | true =>
          rw [few] at hd
          cases hd
          rw [lenL_eq] at few
          have few : ks.length < 64 := Nat.le_of_ble_eq_true few
          refine ⟨l, ks, rfl, SqL.of (bor_sub _ _ h), few, fun a m free mem nd len => ?_⟩
          refine ⟨a, m, rfl, upd_same, Nat.lt_of_le_of_lt len few, ?_⟩
          have hl : m.length = lenL (dstT ks) := by rw [lenL_eq]; exact dstT_len nd mem
          rw [hl]
          exact k _ _ (s1.put a _) hq (u1.trans (Up.put u1.ok _ free)) (.int _)
    | _ => exact nomatch hd
/-! ### where a text stands in a list -/
def posT (y : Str) (l : List Str) : Option Nat := List.rec none (fun x _ ih => match eqL x.cps.toList y.cps.toList with | true => some 0 | false => (match ih with | some j => some (Nat.succ j) | none => none)) l
theorem posT_ok (y : Str) : ∀ {l : List Str} {j : Nat}, posT y l = some j → l[j]? = some y ∧ ∀ m z, m < j → l[m]? = some z → (z == y) = false
  | [], _, h => nomatch h
  | x :: l, j, h => by
    replace h : (match eqL x.cps.toList y.cps.toList with | true => some 0 | false => (match posT y l with | some j => some (Nat.succ j) | none => none)) = some j := h
    rw [eqL_eq] at h
    by_cases e : x.cps.toList = y.cps.toList
    · rw [decide_eq_true e] at h
      cases h
      exact ⟨by rw [str_inj e]; rfl, fun m z k => absurd k (Nat.not_lt_zero _)⟩
    · rw [decide_eq_false e] at h
      cases w : posT y l with
      | none => rw [w] at h; exact nomatch h
      | some i =>
        rw [w] at h
        cases h
        obtain ⟨h1, h2⟩ := posT_ok y w
        refine ⟨h1, fun m z k g => ?_⟩
        match m with
        | 0 =>
          cases g
          exact beq_eq_false_iff_ne.mpr fun e' => e (by rw [e'])
        | m + 1 => exact h2 m z (Nat.lt_of_succ_lt_succ k) g
def g_lindex : Dt → List Dt → M Dt := fun d ds => match d, ds with | .lst xs, [.str y] => (match strsOf xs with | some ys => (match posT y ys with | some j => .ret (.int j) | none => .no) | none => .no) | _, _ => .no
theorem mf_lindex {K : PySem.W.Frag} : MtF (rIndex K) g_lindex := fun J F H x xs d ds q e Q sub rx rs t k => by
  cases rx with
  | @lst a vs' ds' hF r =>
    cases rs with
    | nil => exact False.elim t
    | cons r1 rs =>
      cases rs with
      | cons _ _ => cases r1 <;> exact False.elim t
      | nil =>
        cases r1 with
        | str y =>
          replace t : sat (match strsOf ds' with | some ys => (match posT y ys with | some j => M.ret (.int j) | none => .no) | none => .no) q e := t
          cases w : strsOf ds' with
          | none => rw [w] at t; exact t.elim
          | some ys =>
            rw [w] at t
            replace t : sat (match posT y ys with | some j => M.ret (.int j) | none => .no) q e := t
            cases w2 : posT y ys with
            | none => rw [w2] at t; exact t.elim
            | some j =>
              rw [w2] at t
              have ev := strsOf_rvs w r
              subst ev
              obtain ⟨h1, h2⟩ := posT_ok y w2
              refine ⟨a, _, .str y, j, .str y, rfl, rfl, SqL.of (sub _ _ hF), rfl, by simp [List.all_eq_true, flatV], by rw [List.getElem?_map, h1]; rfl, by simp [eqV], fun m z' hm hz => ?_, k _ _ t fun J F => .int _⟩
              rw [List.getElem?_map] at hz
              cases g : ys[m]? with
              | none => rw [g] at hz; exact nomatch hz
              | some z =>
                rw [g] at hz
                cases hz
                exact h2 m z hm g
        | _ => exact False.elim t
  | _ => cases rs <;> exact False.elim t
end
end
end Xe
/-! code over data: numbers in order -/
namespace Xe
open PySem hiding Env
open PySem.Spec PyProof.Rows L2 Dl
noncomputable section
section
variable {X : Cx} {s0 : Wd} {xe : Xi → Prop} {e a b o tg : Expr} {es : List Expr} {c ca cb cc co cd : Env → M Dt} {cA' cAA cBB ci : Env → M (List Dt)} {pos p p2 q1 pp apos cpos : Pos} {n : Nat}
/-! ### sorted -/
def insN (r : Int → Int → Bool) (x : Int) (l : List Int) : List Int := List.rec [x] (fun y t ih => match r x y with | true => x :: y :: t | false => y :: ih) l
def srtN (r : Int → Int → Bool) (l : List Int) : List Int := List.rec [] (fun x _ ih => insN r x ih) l
def leB (b : Bool) (i j : Int) : Bool := match b with | true => decide (j ≤ i) | false => decide (i ≤ j)
theorem leB_ok {b : Bool} {i j : Int} : leB b i j = true ↔ (if b = true then i ≥ j else i ≤ j) := by
  cases b with
  | true => exact ⟨fun h => of_decide_eq_true h, fun h => decide_eq_true h⟩
  | false => exact ⟨fun h => of_decide_eq_true h, fun h => decide_eq_true h⟩
theorem leB_total (b : Bool) (i j : Int) : leB b i j = false → leB b j i = true := by
  intro h
  cases b with
  | true =>
    have h := of_decide_eq_false h
    exact decide_eq_true (by omega)
  | false =>
    have h := of_decide_eq_false h
    exact decide_eq_true (by omega)
theorem leB_trans {b : Bool} {i j k : Int} (h1 : leB b i j = true) (h2 : leB b j k = true) : leB b i k = true := by
  cases b with
  | true => exact decide_eq_true (by have := of_decide_eq_true h1; have := of_decide_eq_true h2; omega)
  | false => exact decide_eq_true (by have := of_decide_eq_true h1; have := of_decide_eq_true h2; omega)
theorem insN_perm (r : Int → Int → Bool) (x : Int) : ∀ l, (insN r x l).Perm (x :: l)
  | [] => List.Perm.refl _
  | y :: t => by
    show (match r x y with | true => x :: y :: t | false => y :: insN r x t).Perm _
    cases r x y with
    | true => exact List.Perm.refl _
    | false => exact (List.Perm.cons y (insN_perm r x t)).trans (List.Perm.swap x y t)
theorem insN_sorted {b : Bool} (x : Int) : ∀ {l}, l.Pairwise (fun i j => leB b i j = true) → (insN (leB b) x l).Pairwise (fun i j => leB b i j = true)
  | [], _ => List.pairwise_singleton _ _
  | y :: t, h => by
    show (match leB b x y with | true => x :: y :: t | false => y :: insN (leB b) x t).Pairwise _
    obtain ⟨h1, h2⟩ := List.pairwise_cons.mp h
    cases w : leB b x y with
    | true =>
      refine List.pairwise_cons.mpr ⟨fun z hz => ?_, h⟩
      rcases List.mem_cons.mp hz with e1 | e1
      · rw [e1]; exact w
      · exact leB_trans w (h1 z e1)
    | false =>
      refine List.pairwise_cons.mpr ⟨fun z hz => ?_, insN_sorted x h2⟩
      rcases List.mem_cons.mp ((insN_perm (leB b) x t).mem_iff.mp hz) with e1 | e1
      · rw [e1]; exact leB_total b x y w
      · exact h1 z e1
theorem srtN_perm (r : Int → Int → Bool) : ∀ l, (srtN r l).Perm l
  | [] => List.Perm.refl _
  | x :: l => (insN_perm r x (srtN r l)).trans (List.Perm.cons x (srtN_perm r l))
theorem srtN_sorted {b : Bool} : ∀ l, (srtN (leB b) l).Pairwise (fun i j => leB b i j = true)
  | [] => List.Pairwise.nil
  | x :: l => insN_sorted x (srtN_sorted l)
theorem order_one {b : Bool} : ∀ {l m : List Int}, l.Perm m → l.Pairwise (fun i j => leB b i j = true) → m.Pairwise (fun i j => leB b i j = true) → l = m
  | [], m, pm, _, _ => (List.Perm.nil_eq pm)
  | x :: l, [], pm, _, _ => nomatch pm.length_eq
  | x :: l, y :: m, pm, h1, h2 => by
    have hx := pm.mem_iff.mp (List.mem_cons_self (a := x) (l := l))
    have hy := pm.mem_iff.mpr (List.mem_cons_self (a := y) (l := m))
    have e1 : x = y := by
      rcases List.mem_cons.mp hx with e1 | e1
      · exact e1
      · rcases List.mem_cons.mp hy with e2 | e2
        · exact e2.symm
        · have a1 := (List.pairwise_cons.mp h2).1 x e1
          have a2 := (List.pairwise_cons.mp h1).1 y e2
          cases b with
          | true => have := of_decide_eq_true a1; have := of_decide_eq_true a2; omega
          | false => have := of_decide_eq_true a1; have := of_decide_eq_true a2; omega
    subst e1
    rw [order_one (List.Perm.cons_inv pm) (List.pairwise_cons.mp h1).2 (List.pairwise_cons.mp h2).2]
theorem ordB_le {b : Bool} {ns : List Int} (h : OrdB b ns) : ns.Pairwise (fun i j => leB b i j = true) := by
  cases b with
  | true => exact List.Pairwise.imp (fun h => decide_eq_true h) (show ns.Pairwise (· ≥ ·) from h)
  | false => exact List.Pairwise.imp (fun h => decide_eq_true h) (show ns.Pairwise (· ≤ ·) from h)
theorem rvs_of_ints {J : Addr → Option Vol} {F : Hp} : ∀ ns : List Int, Rvs J F (ns.map V.int) (ns.map Dt.int)
  | [] => .nil
  | n :: ns => .cons (.int n) (rvs_of_ints ns)
def xSort (b : Bool) (c : Env → M Dt) : Env → M (List Dt) := fun ρ => bd (c ρ) fun d => match d with | .lst xs => (match intsOf xs with | some ns => .ret (mpL Dt.int (srtN (leB b) ns)) | none => .no) | _ => .no
theorem pxo_sortRev {b : Bool} {j : Nat} {kp : Pos} (hg : Gl X "sorted") (hm : X.mg "sorted" = none) (ha : PE X e (cB s0 (Rg xe c))) (hs : starEach [e] X.env = (false, eval e X.env) :: starEach [] X.env := by rfl)
    (he : backTo pos (starEach [e] X.env) = (false, eval e X.env) :: backTo pos (starEach [] X.env) := by rfl) (hpl : (backTo pos (starEach [e] X.env)).any (·.1) = false := by rfl)
    (hall : (backToKw pos (keywordEach [⟨some "reverse", .Constant (.bool b) j p2, kp⟩] X.env)).all (·.1.isSome) = true := by rfl) (hnone : (backToKw pos (keywordEach [⟨some "reverse", .Constant (.bool b) j p2, kp⟩] X.env)).any (·.1.isNone) = false := by rfl) (hks : (backToKw pos (keywordEach [⟨some "reverse", .Constant (.bool b) j p2, kp⟩] X.env)).filterMap (·.1) = [Str.ofString "reverse"] := by rfl) :
    PE X (.Call (.Name "sorted" p) [e] [⟨some "reverse", .Constant (.bool b) j p2, kp⟩] pos) (cO s0 (Rg xe (xSort b c))) := peI (pe_callBK (cr_sortedRev (b := b)) hg hm (by decide +kernel) (pxba_cons ha pxba_nil hs) (pk_cons (px_bl (s0 := s0) (xe := xe)) pk_nil) (he := he) (hpl := hpl) (hall := hall) (hnone := hnone) (hks := hks)) fun σ H Q ⟨s, ρ, q, e, R, t, k⟩ => by
  refine ⟨s, ρ, fun ds => ∃ d, ds = [d] ∧ sat (match d with | .lst xs => (match intsOf xs with | some ns => M.ret (mpL Dt.int (srtN (leB b) ns)) | none => .no) | _ => .no) q xe, e, R, sat_bd.mpr ((sat_bd.mp t).imp fun d t => ⟨d, rfl, t⟩), fun ds vs s1 _ t1 u1 r1 => ?_⟩
  obtain ⟨d, rfl, t1⟩ := t1
  refine ⟨s1, ρ, fun d => d = .bl b, rfl, R.up' u1, rfl, fun d2 v s2 hd u2 r2 => ?_⟩
  subst hd
  cases r2
  cases r1 with
  | cons r1 r9 =>
    cases r9
    have r1 := Rv.borUp u2 r1
    cases r1 with
    | @lst l vs' ds' h r =>
      replace t1 : sat (match intsOf ds' with | some ns => M.ret (mpL Dt.int (srtN (leB b) ns)) | none => .no) q xe := t1
      cases w : intsOf ds' with
      | none => rw [w] at t1; exact t1.elim
      | some ns =>
        rw [w] at t1
        have t1 : q (mpL Dt.int (srtN (leB b) ns)) := t1
        rw [mpL_eq] at t1
        have ev := intsOf_rvs w r
        subst ev
        refine ⟨l, ns, rfl, rfl, SqL.of (bor_sub _ _ h), fun ns' a pm ord free => ?_⟩
        have e2 : ns' = srtN (leB b) ns := order_one (b := b) (pm.trans (srtN_perm _ ns).symm) (ordB_le ord) (srtN_sorted ns)
        rw [← e2] at t1
        exact k _ _ a (s2.put a _) t1 ((u1.trans u2).trans (Up.put u2.ok _ free)) ((u1.trans u2).free free) upd_same (u2.ok.nof free) (u2.ok.noj free) (rvs_of_ints ns')
    | _ => exact t1.elim
/-! ### sum of a tuple of numbers -/
def rSumT (K : PySem.W.Frag) : List V → Hp → VK → Prop := fun vs H Q => ∃ (a : Addr) (ns : List Int), vs = [V.ref a] ∧ SqT K H a (ns.map V.int) ∧ Q (.int ns.sum) H
theorem ints_items : ∀ {us : List Value} {ns : List Int}, IntsAre us ns → ∃ xs : List (Int × Tok), us = xs.map (fun q => .int q.1 q.2) ∧ xs.map (·.1) = ns
  | _, _, .nil => ⟨[], rfl, rfl⟩
  | _, _, .cons m t r => by
    obtain ⟨xs, e1, e2⟩ := ints_items r
    exact ⟨(m, t) :: xs, by rw [e1]; rfl, by rw [← e2]; rfl⟩
theorem cr_sumT (hc : X.calm = true) : CallR X (.builtin "sum") (rSumT X.K) := by
  rintro pins s σ H vs us Q I r ⟨l, ns, rfl, hs, q⟩
  obtain ⟨its, rv, tp, _⟩ := I.tuple hs
  obtain ⟨xs, e1, e2⟩ := ints_items rv.ints
  rw [Vals.ref1 r]
  have tp2 : s.heap.IsTuple l (intItems xs.toArray) := by
    have : its.toArray = intItems xs.toArray := by rw [e1]; unfold intItems; simp
    rw [← this]; exact tp
  refine PySem.W.ktm_sumG (I.ok.hd hc) tp2 fun h' tk t' hk => ⟨.int _, H, I.kept hk, ⟨_, rfl⟩, ?_⟩
  have len : xs.length = ns.length := by rw [← e2, List.length_map]
  have hn : ∀ i, i < ns.length → ns[i]? = some (numAt xs.toArray i) := fun i hi => by
    unfold numAt
    rw [← e2, List.getElem?_map, List.getElem?_toArray, List.getElem?_eq_getElem (by omega)]
    rfl
  rw [preSum_ints (numAt xs.toArray) ns hn _ (by rw [List.size_toArray]; omega), List.take_of_length_le (by rw [List.size_toArray]; omega)]
  exact q
def fSumT : List Dt → Option Dt := fun ds => match ds with | [.tup xs] => (match intsOf xs with | some ns => some (.int (sumL ns)) | none => none) | _ => none
theorem cf_sumT {K : PySem.W.Frag} : CallF (rSumT K) (dO fSumT) := fun J F H xs ds q Q sub r t k => by
  obtain ⟨d, hd, hq⟩ := t
  cases r with
  | nil => exact nomatch hd
  | cons h r =>
    cases r with
    | cons _ _ => cases h <;> exact nomatch hd
    | nil =>
      cases h with
      | @tup _ _ ds' h r =>
        replace hd : (match intsOf ds' with | some ns => some (Dt.int (sumL ns)) | none => none) = some d := hd
        cases w : intsOf ds' with
        | none => rw [w] at hd; exact nomatch hd
        | some ns =>
          rw [w] at hd
          cases hd
          have ev := intsOf_rvs w r
          subst ev
          exact ⟨_, ns, rfl, SqT.of (sub _ _ h), by rw [← sumL_eq]; exact k _ _ hq fun J F => .int _⟩
      | _ => exact nomatch hd
/-! ### max of a tuple of numbers, with a default -/
def maxN (x : Int) (xs : List Int) : Int := List.rec (motive := fun _ => Int → Int) (fun m => m) (fun y _ ih m => match decide (m < y) with | true => ih y | false => ih m) xs x
theorem maxN_eq : ∀ (xs : List Int) (x : Int), maxN x xs = PySem.W.maxOf x xs
  | [], _ => rfl
  | y :: xs, x => by
    show (match decide (x < y) with | true => maxN y xs | false => maxN x xs) = List.foldl _ (if PySem.W.DatumOrd.lt x y = true then y else x) xs
    have e : PySem.W.DatumOrd.lt x y = decide (x < y) := rfl
    rw [e, maxN_eq xs y, maxN_eq xs x]
    cases decide (x < y) <;> rfl
theorem holdAll_ints {h : Heap} : ∀ {ys : List Int} {us : List Value}, Vals (ys.map V.int) us → PySem.W.HoldAll h us ys
  | [], _, .nil => ⟨_, .nil⟩
  | y :: ys, _, .cons r t => by
    obtain ⟨k, rfl⟩ := r
    obtain ⟨as, z⟩ := holdAll_ints (h := h) t
    exact ⟨_, .cons (.int y k) z⟩
theorem holds_num {h : Heap} {v : Value} {x : Int} (H : PySem.W.Holds h v x) : ∃ t, v = .int x t := by
  obtain ⟨as, r⟩ := H
  cases r with
  | int y t => exact ⟨t, rfl⟩
def rMaxTD (K : PySem.W.Frag) : List V → List V → Hp → VK → Prop := fun vs zs H Q => ∃ (l : Addr) (xs : List Int) (z : Int), vs = [V.ref l] ∧ zs = [.int z] ∧ SqT K H l (xs.map V.int) ∧ Q (.int (match xs with | [] => z | x :: r => maxN x r)) H
theorem cr_maxTD (hc : X.calm = true) (hu : X.A.units + 1 < cLine) : CallRK X (.builtin "max") [Str.ofString "default"] (rMaxTD X.K) := by
  rintro pins s σ H vs zs us ws Q I r rz ⟨l, xs, z, rfl, rfl, hs, q⟩
  obtain ⟨its, rv, tp, _⟩ := I.tuple hs
  rw [Vals.ref1 r]
  cases rz with
  | cons r1 r2 =>
    cases r2
    obtain ⟨t, rfl⟩ := r1
    show wpAny _ _ (call (.builtin "max") [.ref l] [(Str.ofString "default", .int z t)]) _ _ _
    refine PySem.W.max_tuple_datum_default (xs := xs) (I.ok.hd hc) tp (holdAll_ints (by simpa using rv)) hu (fun e h' tk hk => ?_) fun y ys i v h' tk e hi hv hk => ?_
    · subst e
      exact ⟨.int _, H, I.kept hk, ⟨_, rfl⟩, q⟩
    · subst e
      obtain ⟨t, rfl⟩ := holds_num hv
      exact ⟨.int _, H, I.kept hk, ⟨_, rfl⟩, by rw [← maxN_eq]; exact q⟩
def fMaxTD (z : Int) : Dt → Option Dt := fun d => match d with | .tup xs => (match intsOf xs with | some [] => some (.int z) | some (x :: r) => some (.int (maxN x r)) | none => none) | _ => none
def xMaxTD (z : Int) (c : Env → M Dt) : Env → M Dt := fun ρ => bd (c ρ) fun d => ofO (fMaxTD z d)
theorem px_maxTD {y : Int} {j : Nat} {kp : Pos} (hc : X.calm = true) (hu : X.A.units + 1 < cLine) (hg : Gl X "max") (hm : X.mg "max" = none) (ha : PE X e (cB s0 (Rg xe c))) (hs : starEach [e] X.env = (false, eval e X.env) :: starEach [] X.env := by rfl)
    (he : backTo pos (starEach [e] X.env) = (false, eval e X.env) :: backTo pos (starEach [] X.env) := by rfl) (hpl : (backTo pos (starEach [e] X.env)).any (·.1) = false := by rfl)
    (hall : (backToKw pos (keywordEach [⟨some "default", .Constant (.int y) j p2, kp⟩] X.env)).all (·.1.isSome) = true := by rfl) (hnone : (backToKw pos (keywordEach [⟨some "default", .Constant (.int y) j p2, kp⟩] X.env)).any (·.1.isNone) = false := by rfl) (hks : (backToKw pos (keywordEach [⟨some "default", .Constant (.int y) j p2, kp⟩] X.env)).filterMap (·.1) = [Str.ofString "default"] := by rfl) :
    PE X (.Call (.Name "max" p) [e] [⟨some "default", .Constant (.int y) j p2, kp⟩] pos) (cE s0 (Rg xe (xMaxTD y c))) := peI (pe_callBK (cr_maxTD hc hu) hg hm boot_max (pxba_cons ha pxba_nil hs) (pk_cons (px_int (s0 := s0) (xe := xe)) pk_nil) (he := he) (hpl := hpl) (hall := hall) (hnone := hnone) (hks := hks)) fun σ H Q ⟨s, ρ, q, e, R, t, k⟩ => by
  refine ⟨s, ρ, fun ds => ∃ d, ds = [d] ∧ sat (ofO (fMaxTD y d)) q xe, e, R, sat_bd.mpr ((sat_bd.mp t).imp fun d t => ⟨d, rfl, t⟩), fun ds vs s1 _ t1 u1 r1 => ?_⟩
  obtain ⟨d, rfl, t1⟩ := t1
  refine ⟨s1, ρ, fun d => d = .int y, rfl, R.up' u1, rfl, fun d2 v s2 hd u2 r2 => ?_⟩
  subst hd
  cases r2
  obtain ⟨d3, hd, hq⟩ := sat_ofO t1
  cases r1 with
  | cons r1 r9 =>
    cases r9
    have r1 := Rv.borUp u2 r1
    cases r1 with
    | @tup l vs' ds' h r =>
      replace hd : (match intsOf ds' with | some [] => some (Dt.int y) | some (x :: r) => some (Dt.int (maxN x r)) | none => none) = some d3 := hd
      cases w : intsOf ds' with
      | none => rw [w] at hd; exact nomatch hd
      | some ns =>
        rw [w] at hd
        have ev := intsOf_rvs w r
        subst ev
        refine ⟨l, ns, y, rfl, rfl, SqT.of (bor_sub _ _ h), ?_⟩
        cases ns with
        | nil => cases hd; exact k _ _ s2 hq (u1.trans u2) (.int _)
        | cons x r => cases hd; exact k _ _ s2 hq (u1.trans u2) (.int _)
    | _ => exact nomatch hd
/-! ### how often a number stands in a tuple -/
def cntN (x : Int) (l : List Int) : Nat := List.rec 0 (fun y _ ih => match decide (y = x) with | true => Nat.succ ih | false => ih) l
def rCnt (K : PySem.W.Frag) : V → List V → Hp → VK → Prop := fun x xs H Q => ∃ (a : Addr) (ns : List Int) (n : Int), x = .ref a ∧ xs = [.int n] ∧ SqT K H a (ns.map V.int) ∧ Q (.int (cntN n ns : Nat)) H
theorem cnt_vals {x : Int} : ∀ {ns : List Int} {us : List Value}, Vals (ns.map V.int) us → us.countP (eqU (.int x)) = cntN x ns
  | [], _, .nil => rfl
  | n :: ns, _, .cons r t => by
    obtain ⟨k, rfl⟩ := r
    rw [List.countP_cons, cnt_vals t]
    show _ = (match decide (n = x) with | true => Nat.succ (cntN x ns) | false => cntN x ns)
    have e : eqU (.int x) (.int n k) = decide (n = x) := by show (n == x) = _; rw [beq_dec]
    rw [e]
    cases decide (n = x) <;> rfl
theorem mt_cntN : MtR X "tuple.count" (rCnt X.K) := by
  rintro pins s σ H x xs v us Q I rx rs ⟨a, ns, n, rfl, rfl, hq, q⟩
  cases rx
  obtain ⟨u, rfl, t, rfl⟩ := vals1 rs
  obtain ⟨its, r, ⟨⟨cls, dd, dt, sl⟩, ho, hc, m, hd⟩, hz⟩ := I.tuple hq
  cases hc
  cases hd
  refine call_meets PySem.F.slot_tuple_count ⟨_, ho, rfl⟩ PySem.F.entry_tuple_count (PySem.F.args_tuple_count_2 _ _) (SeqAt.tuple_countAt a its.toArray m dd sl (.int n t) (eqU (.int n)))
    ⟨ho, fun w hw => mem_eqAt (x := .int n) ⟨t, rfl⟩ rfl r (List.all_eq_true.mpr fun y hy => by obtain ⟨i, _, rfl⟩ := List.mem_map.mp hy; rfl) w (by simpa using hw), ⟨.int _, H, I.tok _, ⟨_, rfl⟩, ?_⟩⟩
  have e := cnt_vals (x := n) r
  show Q (.int ((its.toArray.toList.countP (eqU (.int n)) : Nat) : Int)) H
  rw [e]
  exact q
def g_count : Dt → List Dt → M Dt := fun d ds => match d, ds with | .tup xs, [.int n] => (match intsOf xs with | some ns => .ret (.int (cntN n ns : Nat)) | none => .no) | _, _ => .no
theorem mf_count {K : PySem.W.Frag} : MtF (rCnt K) g_count := fun J F H x xs d ds q e Q sub rx rs t k => by
  cases rx with
  | @tup a vs' ds' hF r =>
    cases rs with
    | nil => exact False.elim t
    | cons r1 rs =>
      cases rs with
      | cons _ _ => cases r1 <;> exact False.elim t
      | nil =>
        cases r1 with
        | int n =>
          replace t : sat (match intsOf ds' with | some ns => M.ret (.int (cntN n ns : Nat)) | none => .no) q e := t
          cases w : intsOf ds' with
          | none => rw [w] at t; exact t.elim
          | some ns =>
            rw [w] at t
            have ev := intsOf_rvs w r
            subst ev
            exact ⟨a, ns, n, rfl, rfl, SqT.of (sub _ _ hF), k _ _ t fun J F => .int _⟩
        | _ => exact False.elim t
  | _ => cases rs <;> exact False.elim t
end
end
end Xe
/-! code over data: the truth of lists, texts in pieces -/
namespace Xe
open PySem hiding Env
open PySem.Spec PyProof.Rows L2 Dl
noncomputable section
section
variable {X : Cx} {s0 : Wd} {xe : Xi → Prop} {e a b o tg : Expr} {es : List Expr} {c ca cb cc co cd : Env → M Dt} {cA' cAA cBB ci : Env → M (List Dt)} {pos p p2 q1 pp apos cpos : Pos} {n : Nat}
/-! ### truth -/
def emB {α : Type} (l : List α) : Bool := match l with | [] => false | _ :: _ => true
theorem emB_eq {α : Type} (l : List α) : emB l = !l.isEmpty := by cases l <;> rfl
def xTrL (c : Env → M Dt) : Env → M Bool := fun ρ => bd (c ρ) fun d => match d with | .lst xs => .ret (emB xs) | .tup xs => .ret (emB xs) | _ => .no
theorem rvs_emB {J : Addr → Option Vol} {F : Hp} {vs : List V} {ds : List Dt} (r : Rvs J F vs ds) : emB ds = !vs.isEmpty := by cases r <;> rfl
theorem pxt_trL (he : PE X e (cB s0 (Rg xe c))) (ht : ∀ whole, isTrue e X.env whole = (do let v ← whole; standAt e.pos; holding [v] (truthy v)) := by intro _; rfl) : PT X e (cT s0 (Rg xe (xTrL c))) := ptI (pt_truth he ht) fun σ H Q ⟨s, ρ, q, e, R, t, k⟩ =>
  ⟨s, ρ, _, e, R, sat_bd.mp t, fun d v s1 t1 u r => by
    cases r with
    | @lst l vs ds h r => exact ⟨_, .inl ⟨vs, SqL.of (bor_sub _ _ h), rfl⟩, k _ s1 (by rw [← rvs_emB r]; exact t1) u⟩
    | @tup l vs ds h r => exact ⟨_, .inr (.inl ⟨vs, SqT.of (bor_sub _ _ h), rfl⟩), k _ s1 (by rw [← rvs_emB r]; exact t1) u⟩
    | _ => exact t1.elim⟩
/-! ### methods whose answer is new -/
theorem rvs_of_strs {J : Addr → Option Vol} {F : Hp} : ∀ ns : List Str, Rvs J F (ns.map V.str) (ns.map Dt.str)
  | [] => .nil
  | n :: ns => .cons (.str n) (rvs_of_strs ns)
def nzS (b : Str) : Bool := emB b.cps.toList
theorem nzS_ok {b : Str} (h : nzS b = true) : (b.length == 0) = false := by
  have : b.cps.toList ≠ [] := fun z => by unfold nzS at h; rw [z] at h; exact nomatch h
  refine beq_eq_false_iff_ne.mpr fun z => this (List.eq_nil_of_length_eq_zero (by rw [Array.length_toList]; exact z))
def szS2 (z : Str) : Bool := Nat.ble (lenL z.cps.toList) 16000000
theorem szS2_ok {z : Str} (h : szS2 z = true) : z.length + 2 ≤ sizeLine := by
  unfold szS2 at h
  rw [lenL_eq, Array.length_toList] at h
  have : z.cps.size ≤ 16000000 := Nat.le_of_ble_eq_true h
  have : z.length ≤ 16000000 := this
  rw [sizeLine_eq]
  omega
def xSplit (co cb : Env → M Dt) : Env → M (List Dt) := fun ρ => bd (co ρ) fun x => gd (tyS x) (bd (cb ρ) fun y => match x, y with | .str a, .str b => gd (nzS b && szS2 a) (.ret (mpL Dt.str (Txt.split a b))) | _, _ => .no)
theorem pxo_split (ho : PE X o (cE s0 (Rg xe co))) (hb : PE X b (cE s0 (Rg xe cb))) (hbase : attributeBase o "split" X.env (eval o X.env) = eval o X.env := by rfl)
    (hfew : ((backTo cpos (starEach [b] X.env)).all (fun x => !x.1) && (backToKw cpos (keywordEach [] X.env)).all (fun x => x.1.isSome) && decide ([b].length + ([] : List Keyword).length + (if ([] : List Keyword).isEmpty then 0 else 1) < 30)) = true := by rfl)
    (hline : true = (apos.endLine == cpos.line) := by rfl) (hs : starEach [b] X.env = (false, eval b X.env) :: starEach [] X.env := by rfl) (hplain : (backTo cpos (starEach [] X.env)).any (·.1) = false := by rfl) :
    PE X (.Call (.Attribute o "split" apos) [b] [] cpos) (cO s0 (Rg xe (xSplit co cb))) := peI (pe_bm PySem.F.plainAttrs_str PySem.F.slot_str_split PySem.F.type_str_split mt_split ho (pxa_cons hb pxa_nil hs) hbase hfew hline.symm hs hplain) fun σ H Q ⟨s, ρ, q, e, R, t, k⟩ => by
  refine ⟨s, ρ, _, e, R, sat_bd.mp t, fun d v s1 t1 u1 r1 => ?_⟩
  obtain ⟨ty, t1⟩ := sat_gd t1
  cases r1 with
  | str x =>
    refine ⟨rfl, s1, ρ, fun ds => ∃ y, ds = [y] ∧ sat (match y with | .str b => gd (nzS b && szS2 x) (.ret (mpL Dt.str (Txt.split x b))) | _ => .no) q xe, rfl, R.up' u1, sat_bd.mpr ((sat_bd.mp t1).imp fun y t => ⟨y, rfl, by cases y <;> exact t⟩), fun ds vs s2 _ t2 u2 r2 => ?_⟩
    obtain ⟨y, rfl, t2⟩ := t2
    cases r2 with
    | cons r2 r9 =>
      cases r9
      cases r2 with
      | str y =>
        obtain ⟨h, t2⟩ := sat_gd t2
        rw [Bool.and_eq_true] at h
        have t2 : q (mpL Dt.str (Txt.split x y)) := t2
        rw [mpL_eq] at t2
        exact ⟨x, y, rfl, rfl, nzS_ok h.1, szS2_ok h.2, fun a free => k _ _ a (s2.put a _) t2 ((u1.trans u2).trans (Up.put u2.ok _ free)) ((u1.trans u2).free free) upd_same (u2.ok.nof free) (u2.ok.noj free) (rvs_of_strs _)⟩
      | _ => exact t2.elim
  | _ => exact nomatch ty
def xPartition (co cb : Env → M Dt) : Env → M Dt := fun ρ => bd (co ρ) fun x => gd (tyS x) (bd (cb ρ) fun y => match x, y with | .str a, .str b => gd (nzS b && szS a) (.ret (.tup [.str (Txt.partition a b).1, .str (Txt.partition a b).2.1, .str (Txt.partition a b).2.2])) | _, _ => .no)
theorem px_partition (ho : PE X o (cE s0 (Rg xe co))) (hb : PE X b (cE s0 (Rg xe cb))) (hbase : attributeBase o "partition" X.env (eval o X.env) = eval o X.env := by rfl)
    (hfew : ((backTo cpos (starEach [b] X.env)).all (fun x => !x.1) && (backToKw cpos (keywordEach [] X.env)).all (fun x => x.1.isSome) && decide ([b].length + ([] : List Keyword).length + (if ([] : List Keyword).isEmpty then 0 else 1) < 30)) = true := by rfl)
    (hline : true = (apos.endLine == cpos.line) := by rfl) (hs : starEach [b] X.env = (false, eval b X.env) :: starEach [] X.env := by rfl) (hplain : (backTo cpos (starEach [] X.env)).any (·.1) = false := by rfl) :
    PE X (.Call (.Attribute o "partition" apos) [b] [] cpos) (cE s0 (Rg xe (xPartition co cb))) := peI (pe_bm PySem.F.plainAttrs_str PySem.F.slot_str_partition PySem.F.type_str_partition mt_partition ho (pxa_cons hb pxa_nil hs) hbase hfew hline.symm hs hplain) fun σ H Q ⟨s, ρ, q, e, R, t, k⟩ => by
  refine ⟨s, ρ, _, e, R, sat_bd.mp t, fun d v s1 t1 u1 r1 => ?_⟩
  obtain ⟨ty, t1⟩ := sat_gd t1
  cases r1 with
  | str x =>
    refine ⟨rfl, s1, ρ, fun ds => ∃ y, ds = [y] ∧ sat (match y with | .str b => gd (nzS b && szS x) (.ret (.tup [.str (Txt.partition x b).1, .str (Txt.partition x b).2.1, .str (Txt.partition x b).2.2])) | _ => .no) q xe, rfl, R.up' u1, sat_bd.mpr ((sat_bd.mp t1).imp fun y t => ⟨y, rfl, by cases y <;> exact t⟩), fun ds vs s2 _ t2 u2 r2 => ?_⟩
    obtain ⟨y, rfl, t2⟩ := t2
    cases r2 with
    | cons r2 r9 =>
      cases r9
      cases r2 with
      | str y =>
        obtain ⟨h, t2⟩ := sat_gd t2
        rw [Bool.and_eq_true] at h
        exact ⟨x, y, rfl, rfl, nzS_ok h.1, szS_ok h.2, fun a free => k _ _ (s2.lay a _) t2 ((u1.trans u2).trans (Up.lay u2.ok _ free)) (.tup upd_same (.cons (.str _) (.cons (.str _) (.cons (.str _) .nil))))⟩
      | _ => exact t2.elim
  | _ => exact nomatch ty
end
end
end Xe
/-! code over data: the program's own dicts of texts -/
namespace Xe
open PySem hiding Env
open PySem.Spec PyProof.Rows L2 Dl
noncomputable section
def lookT (kvs : List (Str × Dt)) (z : Str) : Option Dt := List.rec none (fun y _ ih => match eqL y.1.cps.toList z.cps.toList with | true => some y.2 | false => ih) kvs
/-- at the head: no other keys -/
def keysB (K : PySem.W.Frag) (d : Addr) (ks : List Str) : Bool := match K.lookup d with
  | some ⟨_, _, .dict es _, _⟩ => es.toList.all fun y => match y.key with | .str x _ => memT x ks | _ => false
  | _ => false
theorem keysB_ok {K : PySem.W.Frag} {d : Addr} {ks : List Str} {z : Str} (h : keysB K d ks = true) (hz : z ∉ ks) : PySem.W.nsIn K d z = some none := by
  unfold keysB at h
  unfold PySem.W.nsIn
  cases w : K.lookup d with
  | none => rw [w] at h; exact nomatch h
  | some ob =>
    obtain ⟨c1, c2, dt, c4⟩ := ob
    rw [w] at h
    cases dt with
    | dict es n =>
      have h : (es.toList.all fun y => match y.key with | .str x _ => memT x ks | _ => false) = true := h
      have each : ∀ y ∈ es.toList, ∃ x t, y.key = .str x t ∧ x ∈ ks := fun y hy => by
        have := List.all_eq_true.mp h y hy
        cases k : y.key with
        | str x t => rw [k] at this; exact ⟨x, t, rfl, (memT_eq x ks).mp this⟩
        | _ => rw [k] at this; exact nomatch this
      have e1 : es.toList.find? (·.key.isStr z) = none := List.find?_eq_none.mpr fun y hy z1 => by
        obtain ⟨x, t, k, hx⟩ := each y hy
        rw [k] at z1
        have : x = z := by simpa [Value.isStr] using z1
        exact hz (this ▸ hx)
      have e2 : es.toList.any (·.refKey) = false := List.any_eq_false.mpr fun y hy z1 => by
        obtain ⟨x, t, k, hx⟩ := each y hy
        unfold DictEntry.refKey at z1
        rw [k] at z1
        exact nomatch z1
      show (match es.toList.find? (·.key.isStr z) with | some y => some (some y.val) | none => if es.toList.any (·.refKey) then none else some none) = _
      rw [e1, e2]
      rfl
    | _ => exact nomatch h
structure GDict (P : Program) (w : World) (K : PySem.W.Frag) (mg : Str → Option Value) (x : Str) (kvs : List (Str × Dt)) : Prop where
  ok : ∃ d es n, mg x = some (.ref d) ∧ KDict K w d es n ∧ (∀ z, lookT kvs z = none → PySem.W.nsIn K d z = some none) ∧ ∀ z dt, lookT kvs z = some dt → ∃ u v, PySem.W.nsIn K d z = some (some u) ∧ RelV v u ∧ ∀ J F, Rv J F v dt
def relD : Dt → Value → Bool
  | .int i, .int j _ => decide (i = j)
  | .str a, .str b _ => decide (a = b)
  | _, _ => false
def gvB (K : PySem.W.Frag) (d : Addr) (kvs : List (Str × Dt)) : Bool := (kvs.all fun y => match PySem.W.nsIn K d y.1 with | some (some u) => relD y.2 u | _ => false) && keysB K d (kvs.map (·.1))
theorem relD_ok {dt : Dt} {u : Value} (h : relD dt u = true) : ∃ v, RelV v u ∧ ∀ J F, Rv J F v dt := by
  cases dt with
  | int i =>
    cases u with
    | int j t => exact ⟨.int i, ⟨t, by rw [of_decide_eq_true (show decide (i = j) = true from h)]⟩, fun J F => .int i⟩
    | _ => exact nomatch h
  | str i =>
    cases u with
    | str j t => exact ⟨.str i, ⟨t, by rw [of_decide_eq_true (show decide (i = j) = true from h)]⟩, fun J F => .str i⟩
    | _ => exact nomatch h
  | _ => cases u <;> exact nomatch h
theorem lookT_none {z : Str} : ∀ {kvs : List (Str × Dt)}, lookT kvs z = none → z ∉ kvs.map (·.1)
  | [], _ => List.not_mem_nil
  | y :: r, h => by
    replace h : (match eqL y.1.cps.toList z.cps.toList with | true => some y.2 | false => lookT r z) = none := h
    rw [eqL_eq] at h
    by_cases e : y.1.cps.toList = z.cps.toList
    · rw [decide_eq_true e] at h; exact nomatch h
    · rw [decide_eq_false e] at h
      rw [List.map_cons, List.mem_cons, not_or]
      exact ⟨fun k => e (by rw [k]), lookT_none h⟩
theorem lookT_some {z : Str} {dt : Dt} : ∀ {kvs : List (Str × Dt)}, lookT kvs z = some dt → (z, dt) ∈ kvs
  | [], h => nomatch h
  | y :: r, h => by
    replace h : (match eqL y.1.cps.toList z.cps.toList with | true => some y.2 | false => lookT r z) = some dt := h
    rw [eqL_eq] at h
    by_cases e : y.1.cps.toList = z.cps.toList
    · rw [decide_eq_true e] at h
      have h : some y.2 = some dt := h
      have e1 : y.1 = z := str_inj e
      cases h
      rw [← e1]
      exact List.mem_cons_self
    · rw [decide_eq_false e] at h
      exact List.mem_cons_of_mem _ (lookT_some h)
theorem gdict_of {P : Program} {w : World} {K : PySem.W.Frag} {mg : Str → Option Value} {x : Str} {d : Addr} {kvs : List (Str × Dt)} (m : mg x = some (.ref d)) (t : ∃ es n, KDict K w d es n) (h : gvB K d kvs = true) : GDict P w K mg x kvs := by
  obtain ⟨es, n, KD⟩ := t
  obtain ⟨h1, h2⟩ := (Bool.and_eq_true _ _).mp h
  refine ⟨d, es, n, m, KD, fun z hz => keysB_ok h2 (lookT_none hz), fun z dt hz => ?_⟩
  have := List.all_eq_true.mp h1 (z, dt) (lookT_some hz)
  replace this : (match PySem.W.nsIn K d z with | some (some u) => relD dt u | _ => false) = true := this
  cases w1 : PySem.W.nsIn K d z with
  | none => rw [w1] at this; exact nomatch this
  | some r =>
    cases r with
    | none => rw [w1] at this; exact nomatch this
    | some u =>
      rw [w1] at this
      obtain ⟨v, r1, r2⟩ := relD_ok this
      exact ⟨u, v, rfl, r1, r2⟩
section
variable {X : Cx} {s0 : Wd} {xe : Xi → Prop} {e a b o tg : Expr} {c ca cb : Env → M Dt} {pos p p2 : Pos} {x : Str} {kvs : List (Str × Dt)}
def xInG (n : Bool) (kvs : List (Str × Dt)) (c : Env → M Dt) : Env → M Dt := fun ρ => bd (c ρ) fun d => match d with | .str z => .ret (.bl (n != (lookT kvs z).isSome)) | _ => .no
def xGetG (kvs : List (Str × Dt)) (c : Env → M Dt) : Env → M Dt := fun ρ => bd (c ρ) fun d => match d with | .str z => ofO (lookT kvs z) | _ => .no
theorem lookG {d : Addr} {kvs : List (Str × Dt)} {K : PySem.W.Frag} (h0 : ∀ z, lookT kvs z = none → PySem.W.nsIn K d z = some none) (h1 : ∀ z dt, lookT kvs z = some dt → ∃ u v, PySem.W.nsIn K d z = some (some u) ∧ RelV v u ∧ ∀ J F, Rv J F v dt) (z : Str) : ∃ r, PySem.W.nsIn K d z = some r ∧ r.isSome = (lookT kvs z).isSome := by
  cases w : lookT kvs z with
  | none => exact ⟨none, h0 z w, rfl⟩
  | some dt =>
    obtain ⟨u, v, e1, _, _⟩ := h1 z dt w
    exact ⟨some u, e1, rfl⟩
theorem px_inGIn (hu : X.A.units + 1 < cLine) (D : GDict X.prog X.w X.K X.mg x kvs) (hg : Gl X x) (ha : PE X a (cE s0 (Rg xe c))) (hd : (x == ("__debug__" : Str)) = false := by decide) (hm : behindInMarks .In (.Name x p) = false := by with_unfolding_all rfl) :
    PE X (.Compare a [.In] [.Name x p] pos) (cE s0 (Rg xe (xInG false kvs c))) := by
  obtain ⟨d, es, n, g, KD, h0, h1⟩ := D.ok
  refine peI (pe_cmpR (op_in_kd KD) ha (pe_glob (v := .ref d) hg g rfl hd) hm) fun σ H Q ⟨s, ρ, q, e, R, t, k⟩ => ⟨s, ρ, _, e, R, sat_bd.mp t, fun y v s1 t1 u r => ?_⟩
  cases r with
  | str z =>
    obtain ⟨r, e1, e2⟩ := lookG h0 h1 z
    have t1 : q (.bl (false != (lookT kvs z).isSome)) := t1
    rw [← e2] at t1
    exact ⟨z, r, rfl, rfl, e1, k _ _ s1 t1 u (by cases r <;> exact .bl _)⟩
  | _ => exact t1.elim
theorem px_inGNotIn (hu : X.A.units + 1 < cLine) (D : GDict X.prog X.w X.K X.mg x kvs) (hg : Gl X x) (ha : PE X a (cE s0 (Rg xe c))) (hd : (x == ("__debug__" : Str)) = false := by decide) (hm : behindInMarks .NotIn (.Name x p) = false := by with_unfolding_all rfl) :
    PE X (.Compare a [.NotIn] [.Name x p] pos) (cE s0 (Rg xe (xInG true kvs c))) := by
  obtain ⟨d, es, n, g, KD, h0, h1⟩ := D.ok
  refine peI (pe_cmpR (op_notIn_kd KD) ha (pe_glob (v := .ref d) hg g rfl hd) hm) fun σ H Q ⟨s, ρ, q, e, R, t, k⟩ => ⟨s, ρ, _, e, R, sat_bd.mp t, fun y v s1 t1 u r => ?_⟩
  cases r with
  | str z =>
    obtain ⟨r, e1, e2⟩ := lookG h0 h1 z
    have t1 : q (.bl (true != (lookT kvs z).isSome)) := t1
    rw [← e2] at t1
    exact ⟨z, r, rfl, rfl, e1, k _ _ s1 t1 u (by cases r <;> exact .bl _)⟩
  | _ => exact t1.elim
theorem pxt_inGIn (hu : X.A.units + 1 < cLine) (D : GDict X.prog X.w X.K X.mg x kvs) (hg : Gl X x) (ha : PE X a (cE s0 (Rg xe c))) (hd : (x == ("__debug__" : Str)) = false := by decide) (hm : behindInMarks .In (.Name x p) = false := by with_unfolding_all rfl) :
    PT X (.Compare a [.In] [.Name x p] pos) (cT s0 (Rg xe (xB (xInG false kvs c)))) := by
  obtain ⟨d, es, n, g, KD, h0, h1⟩ := D.ok
  refine ptI (pt_cmpR (op_in_kd KD) ha (pe_glob (v := .ref d) hg g rfl hd) hm) fun σ H Q ⟨s, ρ, q, e, R, t, k⟩ => ⟨s, ρ, _, e, R, sat_bd.mp (sat_bd.mp t), fun y v s1 t1 u r => ?_⟩
  cases r with
  | str z =>
    obtain ⟨r, e1, e2⟩ := lookG h0 h1 z
    have t1 : q (false != (lookT kvs z).isSome) := t1
    rw [← e2] at t1
    exact ⟨z, r, rfl, rfl, e1, _, rfl, k _ s1 (by cases r <;> exact t1) u⟩
  | _ => exact t1.elim
theorem pxt_inGNotIn (hu : X.A.units + 1 < cLine) (D : GDict X.prog X.w X.K X.mg x kvs) (hg : Gl X x) (ha : PE X a (cE s0 (Rg xe c))) (hd : (x == ("__debug__" : Str)) = false := by decide) (hm : behindInMarks .NotIn (.Name x p) = false := by with_unfolding_all rfl) :
    PT X (.Compare a [.NotIn] [.Name x p] pos) (cT s0 (Rg xe (xB (xInG true kvs c)))) := by
  obtain ⟨d, es, n, g, KD, h0, h1⟩ := D.ok
  refine ptI (pt_cmpR (op_notIn_kd KD) ha (pe_glob (v := .ref d) hg g rfl hd) hm) fun σ H Q ⟨s, ρ, q, e, R, t, k⟩ => ⟨s, ρ, _, e, R, sat_bd.mp (sat_bd.mp t), fun y v s1 t1 u r => ?_⟩
  cases r with
  | str z =>
    obtain ⟨r, e1, e2⟩ := lookG h0 h1 z
    have t1 : q (true != (lookT kvs z).isSome) := t1
    rw [← e2] at t1
    exact ⟨z, r, rfl, rfl, e1, _, rfl, k _ s1 (by cases r <;> exact t1) u⟩
  | _ => exact t1.elim
theorem px_getG (hu : X.A.units + 1 < cLine) (D : GDict X.prog X.w X.K X.mg x kvs) (hg : Gl X x) (hb : PE X b (cE s0 (Rg xe c))) (hd : (x == ("__debug__" : Str)) = false := by decide) (hs : PlainIx b := by exact fun _ _ => rfl) :
    PE X (.Subscript (.Name x p) b pos) (cE s0 (Rg xe (xGetG kvs c))) := by
  obtain ⟨d, es, n, g, KD, h0, h1⟩ := D.ok
  refine peI (pe_ix ix_kdict (pe_glob (v := .ref d) hg g rfl hd) hb hs) fun σ H Q ⟨s, ρ, q, e, R, t, k⟩ => ⟨s, ρ, _, e, R, sat_bd.mp t, fun y v s1 t1 u r => ?_⟩
  cases r with
  | str z =>
    obtain ⟨dt, w, hq⟩ := sat_ofO t1
    obtain ⟨u1, v1, e1, e2, e3⟩ := h1 z dt w
    exact ⟨d, z, v1, rfl, rfl, ⟨es, n, u1, KD.at_, KD.lit, e1, e2⟩, k _ _ s1 hq u (e3 _ _)⟩
  | _ => exact t1.elim
end
end
end Xe
/-! code over data: three names at once -/
namespace Xe
open PySem hiding Env
open PySem.Spec PyProof.Rows L2 Dl
noncomputable section
section
variable {X : Cx} {s0 : Wd} {xe : Xi → Prop} {pos : Pos}
def xName3 (i j l : Nat) : Dt → Env → M Env := fun d ρ => match d with | .tup [x, y, z] => fz x fun x => fz y fun y => fz z fun z => rb (ep (ep (ep ρ i (.va x)) j (.va y)) l (.va z)) .ret | _ => .no
theorem pxg_name3 {i j l : Nat} {x y z : Str} {px py pz : Pos} {kk : Nat} (hc : X.calm = true) (hN : X.N.Nodup) (hi : X.N[i]? = some x) (hj : X.N[j]? = some y) (hl : X.N[l]? = some z) (hx : Loc X.env.scope x) (hy : Loc X.env.scope y) (hz : Loc X.env.scope z)
    (hf : X.fn x = true ∨ X.env.scope.names.lookup x = some .local := by first | exact .inl rfl | exact .inr rfl | assumption) (hf2 : X.fn y = true ∨ X.env.scope.names.lookup y = some .local := by first | exact .inl rfl | exact .inr rfl | assumption) (hf3 : X.fn z = true ∨ X.env.scope.names.lookup z = some .local := by first | exact .inl rfl | exact .inr rfl | assumption)
    (h1 : (assignEach [.Name x px, .Name y py, .Name z pz] X.env).map (·.2) = assign (.Name x px) X.env :: (assignEach [.Name y py, .Name z pz] X.env).map (·.2) := by rfl) (h2 : (assignEach [.Name y py, .Name z pz] X.env).map (·.2) = assign (.Name y py) X.env :: (assignEach [.Name z pz] X.env).map (·.2) := by rfl) (h3 : (assignEach [.Name z pz] X.env).map (·.2) = assign (.Name z pz) X.env :: (assignEach [] X.env).map (·.2) := by rfl)
    (hn : (assignEach [.Name x px, .Name y py, .Name z pz] X.env).length = 3 := by rfl) (hst : (assignEach [.Name x px, .Name y py, .Name z pz] X.env).findIdx? (·.1) = none := by rfl) : PG X (.Tuple [.Name x px, .Name y py, .Name z pz] kk pos) (cG s0 [i, j, l] (RG xe (xName3 i j l))) :=
  pgI (pg_tup hc (pgs_cons (pg_name hN hi hx hf) (pgs_cons (pg_name hN hj hy hf2) (pgs_cons (pg_name hN hl hz hf3) pgs_nil h3) h2) h1) hn hst) fun v σ H Q ⟨s, ρ, d, q, e, R, r, t, k⟩ => by
    subst e
    cases r with
    | @tup a xs ds h r =>
      cases r with
      | nil => exact False.elim t
      | cons r1 r =>
        cases r with
        | nil => exact False.elim t
        | cons r2 r =>
          cases r with
          | nil => exact False.elim t
          | cons r3 r =>
            cases r with
            | cons _ _ => exact False.elim t
            | nil =>
              have t := t
              simp only [RG, xName3, fz_eq, rb_eq] at t
              refine ⟨_, _, rfl, SqT.of (R.ok.sub _ _ h), rfl, _, _, rfl, _, _, rfl, _, _, rfl, rfl, k _ _ s t (((R.set i r1).set j r2).set l r3) (Up.refl R.ok) ?_⟩
              rw [wipe_set (by simp), wipe_set (by simp), wipe_set (by simp)]
    | _ => exact False.elim t
end
end
end Xe
/-! code over data: texts in order -/
namespace Xe
open PySem hiding Env
open PySem.Spec PyProof.Rows L2 Dl
noncomputable section
/-! ### the order of texts -/
theorem ltL_anti : ∀ {a b : List Nat}, ltL a b = false → ltL b a = false → a = b := fun {a b} h1 h2 => by
  rw [ltL_eq] at h1 h2
  have h1 := of_decide_eq_false h1
  have h2 := of_decide_eq_false h2
  exact List.le_antisymm (List.not_lt.mp h2) (List.not_lt.mp h1)
theorem leL_trans {a b c : List Nat} (h1 : ltL b a = false) (h2 : ltL c b = false) : ltL c a = false := by
  rw [ltL_eq] at h1 h2 ⊢
  have h1 := of_decide_eq_false h1
  have h2 := of_decide_eq_false h2
  exact decide_eq_false (List.not_lt.mpr (List.le_trans (List.not_lt.mp h1) (List.not_lt.mp h2)))
def leT (a b : Str) : Bool := !ltT b a
theorem leT_trans {a b c : Str} (h1 : leT a b = true) (h2 : leT b c = true) : leT a c = true := by
  unfold leT ltT at *
  rw [Bool.not_eq_true'] at *
  exact leL_trans h1 h2
theorem leT_anti {a b : Str} (h1 : leT a b = true) (h2 : leT b a = true) : a = b := by
  unfold leT ltT at *
  rw [Bool.not_eq_true'] at *
  exact str_inj (ltL_anti h2 h1)
theorem leT_total {a b : Str} (h : leT a b = false) : leT b a = true := by
  unfold leT ltT at *
  rw [Bool.not_eq_false'] at h
  rw [Bool.not_eq_true']
  rw [ltL_eq] at h ⊢
  exact decide_eq_false (List.lt_asymm (of_decide_eq_true h))
def insT (x : Str) (l : List Str) : List Str := List.rec [x] (fun y t ih => match leT x y with | true => x :: y :: t | false => y :: ih) l
def srtT (l : List Str) : List Str := List.rec [] (fun x _ ih => insT x ih) l
theorem insT_perm (x : Str) : ∀ l, (insT x l).Perm (x :: l)
  | [] => List.Perm.refl _
  | y :: t => by
    show (match leT x y with | true => x :: y :: t | false => y :: insT x t).Perm _
    cases leT x y with
    | true => exact List.Perm.refl _
    | false => exact (List.Perm.cons y (insT_perm x t)).trans (List.Perm.swap x y t)
theorem insT_sorted (x : Str) : ∀ {l}, l.Pairwise (fun i j => leT i j = true) → (insT x l).Pairwise (fun i j => leT i j = true)
  | [], _ => List.pairwise_singleton _ _
  | y :: t, h => by
    show (match leT x y with | true => x :: y :: t | false => y :: insT x t).Pairwise _
    have g := List.pairwise_cons.mp h
    cases w : leT x y with
    | true =>
      refine List.pairwise_cons.mpr ⟨fun z hz => ?_, h⟩
      rcases List.mem_cons.mp hz with e1 | e1
      · rw [e1]; exact w
      · exact leT_trans w (g.1 z e1)
    | false =>
      refine List.pairwise_cons.mpr ⟨fun z hz => ?_, insT_sorted x g.2⟩
      rcases List.mem_cons.mp ((insT_perm x t).mem_iff.mp hz) with e1 | e1
      · rw [e1]; exact leT_total w
      · exact g.1 z e1
theorem srtT_perm : ∀ l, (srtT l).Perm l
  | [] => List.Perm.refl _
  | x :: l => (insT_perm x (srtT l)).trans (List.Perm.cons x (srtT_perm l))
theorem srtT_sorted : ∀ l, (srtT l).Pairwise (fun i j => leT i j = true)
  | [] => List.Pairwise.nil
  | x :: l => insT_sorted x (srtT_sorted l)
theorem orderT_one : ∀ {l m : List Str}, l.Perm m → l.Pairwise (fun i j => leT i j = true) → m.Pairwise (fun i j => leT i j = true) → l = m
  | [], m, pm, _, _ => (List.Perm.nil_eq pm)
  | x :: l, [], pm, _, _ => nomatch pm.length_eq
  | x :: l, y :: m, pm, h1, h2 => by
    have hx := pm.mem_iff.mp (List.mem_cons_self (a := x) (l := l))
    have hy := pm.mem_iff.mpr (List.mem_cons_self (a := y) (l := m))
    have e1 : x = y := by
      rcases List.mem_cons.mp hx with e1 | e1
      · exact e1
      · rcases List.mem_cons.mp hy with e2 | e2
        · exact e2.symm
        · exact leT_anti ((List.pairwise_cons.mp h1).1 y e2) ((List.pairwise_cons.mp h2).1 x e1)
    subst e1
    rw [orderT_one (List.Perm.cons_inv pm) (List.pairwise_cons.mp h1).2 (List.pairwise_cons.mp h2).2]
theorem leT_cps {a b : Str} (h : (!ltCps b.cps.toList a.cps.toList) = true) : leT a b = true := by
  unfold leT ltT
  rw [ltL_eq, ← PyProof.Rows.ltCps_eq]
  exact h
theorem rising_all : ∀ {r : List Str} {x : Str}, risingS x r = true → (∀ z ∈ r, leT x z = true) ∧ r.Pairwise (fun i j => leT i j = true)
  | [], x, _ => ⟨(fun z hz => nomatch hz), List.Pairwise.nil⟩
  | y :: r, x, h => by
    have h : (!ltCps y.cps.toList x.cps.toList && risingS y r) = true := h
    rw [Bool.and_eq_true] at h
    have hxy := leT_cps h.1
    obtain ⟨g1, g2⟩ := rising_all h.2
    refine ⟨fun z hz => ?_, List.pairwise_cons.mpr ⟨g1, g2⟩⟩
    rcases List.mem_cons.mp hz with e | e
    · rw [e]; exact hxy
    · exact leT_trans hxy (g1 z e)
theorem sortedS_le {ys : List Str} (h : sortedS ys = true) : ys.Pairwise (fun i j => leT i j = true) := by
  cases ys with
  | nil => exact List.Pairwise.nil
  | cons x r =>
    obtain ⟨g1, g2⟩ := rising_all (x := x) (r := r) h
    exact List.pairwise_cons.mpr ⟨g1, g2⟩
theorem srtT_one {ys ks : List Str} (pm : ys.Perm ks) (h : sortedS ys = true) : ys = srtT ks := orderT_one (pm.trans (srtT_perm ks).symm) (sortedS_le h) (srtT_sorted ks)
/-! ### sorted(..) of texts, of a dict of texts -/
def gOL (f : List Dt → Option (List Dt)) : List Dt → M (List Dt) := fun ds => ofO (f ds)
def dOL (f : List Dt → Option (List Dt)) : List Dt → (List Dt → Prop) → Prop := fun ds q => ∃ d, f ds = some d ∧ q d
theorem so_OL {f : List Dt → Option (List Dt)} : So (gOL f) (dOL f) := fun ds q e z => sat_ofO z
def few64 (ks : List Str) : Option (List Dt) := match Nat.blt (lenL ks) 64 with | true => some (mpL Dt.str (srtT ks)) | false => none
theorem few64_ok {ks : List Str} {l : List Dt} (h : few64 ks = some l) : ks.length < 64 ∧ l = (srtT ks).map Dt.str := by
  unfold few64 at h
  cases w : Nat.blt (lenL ks) 64 with
  | false => rw [w] at h; exact nomatch h
  | true =>
    rw [w] at h
    cases h
    rw [lenL_eq] at w
    exact ⟨Nat.le_of_ble_eq_true w, mpL_eq _ _⟩
def fSortS : List Dt → Option (List Dt) := fun ds => match ds with | [.lst xs] => (match strsOf xs with | some ks => few64 ks | none => none) | _ => none
theorem co_sortS {K : PySem.W.Frag} : CallO (rSortedS K) (dOL fSortS) := fun s xs ds q Q ok r t k => by
  obtain ⟨d, hd, hq⟩ := t
  cases r with
  | nil => exact nomatch hd
  | cons h r =>
    cases r with
    | cons _ _ => cases h <;> exact nomatch hd
    | nil =>
      cases h with
      | @lst l _ ds' h r =>
        replace hd : (match strsOf ds' with | some ks => few64 ks | none => none) = some d := hd
        cases w : strsOf ds' with
        | none => rw [w] at hd; exact nomatch hd
        | some ks =>
          rw [w] at hd
          obtain ⟨few, e⟩ := few64_ok hd
          subst e
          have ev := strsOf_rvs w r
          subst ev
          refine ⟨l, ks, rfl, SqL.of (ok.sub _ _ h), few, fun ys a pm so free => ?_⟩
          rw [srtT_one pm so]
          exact k _ _ a (s.put a _) hq (Up.put ok _ free) free upd_same (ok.nof free) (ok.noj free) (rvs_of_strs _)
      | _ => exact nomatch hd
def keysT (ks : List (Key × Dt)) : Option (List Str) := List.rec (some []) (fun y _ ih => match y.1 with | .inr z => (match ih with | some l => some (z :: l) | none => none) | .inl _ => none) ks
theorem keysT_ok {J : Addr → Option Vol} {F : Hp} : ∀ {ks : List (Key × Dt)} {l : List Str} {vs : List (Key × V)}, keysT ks = some l → Rks J F vs ks → vs.map (·.1) = l.map Sum.inr
  | [], _, _, h, r => by cases h; cases r; rfl
  | (.inl _, _) :: ks, l, _, h, _ => nomatch h
  | (.inr z, d) :: ks, l, _, h, r => by
    replace h : (match keysT ks with | some l => some (z :: l) | none => none) = some l := h
    cases w : keysT ks with
    | none => rw [w] at h; exact nomatch h
    | some l' =>
      rw [w] at h
      cases h
      cases r with
      | cons r1 r =>
        rw [List.map_cons, keysT_ok w r]
        rfl
def fSortD : List Dt → Option (List Dt) := fun ds => match ds with | [.dic ks] => (match keysT ks with | some ks => few64 ks | none => none) | _ => none
theorem co_sortD : CallO (fun xs H Q => ∃ (a : Addr) (kvs : List (Key × V)) (ks : List Str), xs = [.ref a] ∧ Rd H a (.dK kvs) ∧ kvs.map (·.1) = ks.map Sum.inr ∧ ks.length < 64 ∧ ∀ ys p, ys.Perm ks → sortedS ys = true → H p = none → Q (.ref p) (upd H p (.lst (ys.map V.str)))) (dOL fSortD) := fun s xs ds q Q ok r t k => by
  obtain ⟨d, hd, hq⟩ := t
  cases r with
  | nil => exact nomatch hd
  | cons h r =>
    cases r with
    | cons _ _ => cases h <;> exact nomatch hd
    | nil =>
      cases h with
      | @dic l ob kvs ds' h r =>
        replace hd : (match keysT ds' with | some ks => few64 ks | none => none) = some d := hd
        cases w : keysT ds' with
        | none => rw [w] at hd; exact nomatch hd
        | some ks =>
          rw [w] at hd
          obtain ⟨few, e⟩ := few64_ok hd
          subst e
          refine ⟨l, kvs, ks, rfl, .inr ⟨_, ok.sub _ _ h⟩, keysT_ok w r, few, fun ys a pm so free => ?_⟩
          rw [srtT_one pm so]
          exact k _ _ a (s.put a _) hq (Up.put ok _ free) free upd_same (ok.nof free) (ok.noj free) (rvs_of_strs _)
      | _ => exact nomatch hd
end
end Xe
/-! set comprehensions of texts -/
namespace Sx
open L2 PySem PySem.Spec PyProof.Rows
open PySem.Froz (SD TxOk addTx tailTx sObj)
/-- what one turn asks; D the set -/
def TurnsS (P : Program) (w : World) (D : Addr) (J : It) (g : TG) (tt : TT) (te : TE) (vs : List Nat) (σw : L2.St) (W : Nat → Nat → Hp → Prop) (Qd : Hp → Prop) : Prop := ∀ i m H, W i m H →
  (J.stop i H ∧ Qd H) ∨ (J.go i H ∧ ∀ x H', J.yld i H x H' → g x σw H' fun σ2 H2 => wipe σ2 vs = σw ∧ tt σ2 H2 fun b H3 =>
    if b = true then te σ2 H3 fun y H4 => ∃ k l, y = .str k ∧ H4 D = some (TxO P w D l) ∧ l.length + 1 < scanBound ∧ ∀ l', l'.Nodup → (∀ x, x ∈ l' ↔ x = k ∨ x ∈ l) → l'.length ≤ l.length + 1 → ∃ m', m' < m ∧ W (i + 1) m' (upd H4 D (TxO P w D l'))
    else ∃ m', m' < m ∧ W (i + 1) m' H3)
section
variable {B : Cx}
theorem add_text {pins : List (Addr × Obj)} {σ : L2.St} {H : Hp} {s : Shared} {E : Value → Shared → Prop} {D : Addr} {l : List Str} {k : Str} {t : Tok} {Q : Value → Shared → Prop} (I : Inv B pins σ H s) (hD : H D = some (TxO B.prog B.w D l)) (few : l.length + 1 < scanBound)
    (h : ∀ s' l', l'.Nodup → (∀ x, x ∈ l' ↔ x = k ∨ x ∈ l) → l'.length ≤ l.length + 1 → Inv B pins σ (upd H D (TxO B.prog B.w D l')) s' → Q .none s') : wpAny (model B.prog B.w) B.A (call (.builtin "set.add") [.ref D, .str k t]) Q E s :=
  (I.hok D _ hD).1.elim fun _ ⟨at_, T⟩ => put_call T at_ few fun h' D' l' p => h _ l' p.tx.nd p.mem p.len (I.write (e := D) (t' := s.toks + 1) (by rw [hD]; trivial) (.inl rfl) (fun b u n e => p.rest b u n e) ⟨_, p.at_⟩ (TxO.new p.at_ p.tx))
theorem set_loop {tg elt iter : Expr} {ifs : List Expr} {scope : Scope} {pos : Pos} {J : It} {fp : List Addr} {it D : Addr} {tn : Nat → Heap → Prop} {g : TG} {tt : TT} {te : TE} {vs : List Nat} {σw : L2.St} {W : Nat → Nat → Hp → Prop} {Qd : Hp → Prop} {R : Result → Shared → Prop}
    (hxe : B.xe = fun _ _ => False) (calm : B.calm = true) (hpn : B.pn = []) (hex : B.ex = fp) (T : Turn B.prog B.w B.K tg J fp it tn) (pg : PG B tg g) (pt : PTs B ifs tt) (pe : PE B elt te) (turn : TurnsS B.prog B.w D J g tt te vs σw W Qd)
    (out : ∀ s' H', Inv B [] σw H' s' → Qd H' → R (.ok .next) s') {m i : Nat} {s : Shared} {H : Hp} (I : Inv B [] σw H s) (st : tn i s.heap) (nfp : ∀ b ∈ fp, H b = none) (w0 : W i m H) :
    codeAny (model B.prog B.w) B.A (.compLoop (.SetComp elt [⟨tg, iter, ifs, 0⟩] scope pos) 0 (.ref it) (.ref D) B.env) R s := by
  have may : ∀ {σ' H' s'}, Inv B [] σ' H' s' → (∀ b ∈ fp, H' b = none) → ∀ b ∈ fp, FpOk B [] H' b := fun J' hz b hb =>
    have hb' : b ∈ B.ex := hex ▸ hb
    ⟨hz b hb, (J'.ok.exf b hb').1, J'.ok.exfs b hb', .inl hb', (J'.ok.exf b hb').2, fun p hq _ => by rw [hpn] at hq; cases hq⟩
  refine PpSet.compLoopS_any (fun n s' => ∃ i H', Inv B [] σw H' s' ∧ tn i s'.heap ∧ (∀ b ∈ fp, H' b = none) ∧ W i n H') ?_ m ⟨i, H, I, st, nfp, w0⟩
  intro n s ⟨i, H, I, st, nfp, w⟩
  rcases turn i n H w with ⟨stop, qq⟩ | ⟨go, step⟩
  · refine thnF (T.done B rfl rfl rfl calm i [] s _ H (fun _ _ => False) I (may I nfp) st stop) fun r s1 h1 => ?_
    cases h1.1
    exact out s1 H h1.2 qq
  · refine thnF (T.item B rfl rfl rfl calm i [] s _ H (fun _ _ => False) I (may I nfp) st go) fun r s1 ⟨u, er, h1⟩ => ?_
    cases er
    refine thnF h1 fun _ s2 ⟨x, H2, I2, r2, y2, st2, n2⟩ => ?_
    have given := pg.run _ s2 _ H2 x u _ (I2.pinned (may I2 n2) (T.obj _ _ st2)) r2 (step x H2 y2)
    refine thnF (hxe ▸ given) fun _ s3 ⟨σ3, H3, I3, w3, q3⟩ => ?_
    have asked := pt.run _ s3 σ3 H3 _ I3 q3
    refine thnF (hxe ▸ asked) fun b s4 ⟨H4, I4, q4⟩ => ?_
    -- from a turn's end to the next one's start
    have on : ∀ {s' H'}, Inv B ([] ++ pinsAt fp s2.heap) σ3 H' s' → (∃ m', m' < n ∧ W (i + 1) m' H') → ∃ m, m < n ∧ ∃ i H', Inv B [] σw H' s' ∧ tn i s'.heap ∧ (∀ b ∈ fp, H' b = none) ∧ W i m H' := fun {s' H'} I' ⟨m', less, w'⟩ => by
      have still : ∀ b ∈ fp, ∀ o, s2.heap.get? b = some o → s'.heap.get? b = some o ∧ H' b = none := fun b hb o e =>
        (I'.pin (b, o) (List.mem_append_right B.pn (List.mem_append_right [] (mem_pinsAt hb e)))).imp id And.left
      refine ⟨m', less, i + 1, H', (I'.unpinned (pins := [])).weak (by rw [← w3, wipe_length]) fun j v e => (wipe_some (w3.symm ▸ e : (wipe σ3 vs)[j]? = _)).1, T.keep _ _ _ st2 fun b hb o e => (still b hb o e).1, fun b hb => ?_, w'⟩
      exact (T.obj _ _ st2 b hb).elim fun o e => (still b hb o e.1).2
    cases b with
    | false => exact on I4 ((if_neg Bool.false_ne_true).mp q4)
    | true =>
      have told := pe.run _ s4 σ3 H4 _ I4 ((if_pos rfl).mp q4)
      refine (if_pos rfl).mpr (thnF (hxe ▸ told) fun z s5 ⟨y, H5, I5, r5, k, l, ey, at5, few, nx⟩ => ?_)
      subst ey
      obtain ⟨t, rfl⟩ := r5
      exact add_text I5 at5 few fun s6 l' nd mem len I6 => on I6 (nx l' nd mem len)
end
section
variable {X : Cx}
/-- {elt for tg in iter if ..}, elt a text -/
def tScS (P : Program) (w : World) (wi : TI) (g : TG) (tt : TT) (te : TE) (vs : List Nat) : TE := fun σ H Q => wi σ H fun J H1 => ∀ D, H1 D = none → ∃ W : Nat → Nat → Hp → Prop, (∃ m, W 0 m (upd H1 D (TxO P w D []))) ∧ TurnsS P w D J g tt te vs (wipe σ vs) W (Q (.ref D))
theorem pe_scS {elt tg iter : Expr} {ifs : List Expr} {scope : Scope} {own : List (PySem.Str × Nat)} {pos : Pos} {wi : TI} {g : TG} {tt : TT} {te : TE} (calm : X.calm = true) (hN : X.N.Nodup) (hi : PI X tg iter wi) (blk : BlkOk X.N X.env.scope scope own)
    (hg : ∀ s H C cl fp, PG (X.blk s H scope (compEnvC scope cl C X.env) fp) tg g) (ht : ∀ s H C cl fp, PTs (X.blk s H scope (compEnvC scope cl C X.env) fp) ifs tt) (he : ∀ s H C cl fp, PE (X.blk s H scope (compEnvC scope cl C X.env) fp) elt te) (hs : ∀ x, foldedSetIterable iter X.env x = pure x := by intro _; rfl) :
    PE X (.SetComp elt [⟨tg, iter, ifs, 0⟩] scope pos) (tScS X.prog X.w wi g tt te (own.map (·.2))) := ⟨fun pins s σ H Q I h => by
  rw [PpSet.eval_SetComp]
  refine wpAny_comprehension_free (use := none) rfl hs (closure_ok fun y hy e => I.ok.has y.1 (blk.free y hy e)) blk.kind (fun y hy e => by rw [blk.uniq y hy, e]) (thn (hi.run pins s σ H _ I h) fun v s1 hv => thn hv fun itv s2 ⟨it, fp, tn, J, H2, e, I2, T, st, f2, q⟩ => PpSet.newSet_ok (newEnv_comp ?_))
  subst e
  obtain ⟨W, ⟨m0, w0⟩, turn⟩ := q s2.heap.objs.size (I2.hok.fresh (Nat.le_refl _))
  have I3 : Inv X pins σ (upd H2 s2.heap.objs.size (TxO X.prog X.w s2.heap.objs.size [])) { s2 with heap := s2.heap.push (sObj "set" (bare X.w)) } :=
    I2.laid (t' := s2.toks) (fun b o e => Heap.get?_push_of_some _ e) (Nat.le_refl _) (TxO.new (Heap.get?_push_size _ rfl) Tx.none)
  have low : ∀ b ∈ fp, b < s2.heap.objs.size := fun b hb => (T.obj _ _ st b hb).elim fun o e => Heap.lt_size e.1
  have f3 : ∀ b ∈ fp, FpOk X pins (upd H2 s2.heap.objs.size (TxO X.prog X.w s2.heap.objs.size [])) b ∧ b < (s2.heap.push (sObj "set" (bare X.w))).objs.size := fun b hb =>
    ⟨⟨by rw [upd_ne (Nat.ne_of_lt (low b hb))]; exact (f2 b hb).1, (f2 b hb).2⟩, by rw [Heap.size_push]; exact Nat.lt_succ_of_lt (low b hb)⟩
  have I4 := block_start I3 blk hN f3
  have st4 : tn 0 (pushCells ((s2.heap.push (sObj "set" (bare X.w))).push { cls := .type "dict", data := .dict #[] }) scope.names) := T.keep _ _ _ st fun b _ o e => pushCells_keeps _ _ _ _ (Heap.get?_push_of_some _ (Heap.get?_push_of_some _ e))
  generalize hce : compEnvC scope (cellsFrom ((s2.heap.push (sObj "set" (bare X.w))).objs.size + 1) scope.names (cloFrom X.env.cells scope.names [])) (s2.heap.push (sObj "set" (bare X.w))).objs.size X.env = ce at I4
  have loop := set_loop (B := X.blk { s2 with heap := s2.heap.push (sObj "set" (bare X.w)) } (upd H2 s2.heap.objs.size (TxO X.prog X.w s2.heap.objs.size [])) scope ce fp) (elt := elt) (iter := iter) (scope := scope) (pos := pos) (R := compPost (model X.prog X.w) X.A X.xe none (fun v s' => ∃ x H', Inv X pins σ H' s' ∧ RelV x v ∧ Q x H') (.ref s2.heap.objs.size) (s2.heap.push (sObj "set" (bare X.w))).objs.size) rfl calm rfl rfl T (hce ▸ hg _ _ _ _ fp) (hce ▸ ht _ _ _ _ fp) (hce ▸ he _ _ _ _ fp) turn ?_ I4 st4 (fun b hb => (f3 b hb).1.1) w0
  · subst hce
    exact PpSet.codeAny_compStart_set loop (T.self X.A 0 _ _ _ st4 loop)
  · intro s5 H5 I5 q5
    subst hce
    obtain ⟨mp, ns, _⟩ := I5.loc
    have I6 : Inv X pins σ H5 s5 := I3.call' (ch := fp) I5.os I5.base I5.hok I5.bare fun b hb => (f3 b hb).1.2.elim fun z1 z => ⟨z.2.1, z1, z.2.2.1, z.2.2.2⟩
    obtain ⟨z0, z1, _, z3, z4, z5⟩ := I3.fpOk (Nat.le_refl _) (show H5 (s2.heap.push (sObj "set" (bare X.w))).objs.size = none from I5.free)
    exact ⟨mp, ns, fun h2 same => ⟨.ref s2.heap.objs.size, H5, I6.turned (t' := s5.toks) (fun b o n e => (same.2 b n).trans e) z0 z1 z3 z4 z5, rfl, q5⟩⟩⟩
end
end Sx
/-! code over data: sorted({.. for .. in .. if ..}), texts -/
namespace Xe
open PySem hiding Env
open PySem.Spec PyProof.Rows L2 Dl
noncomputable section
section
variable {X : Cx} {s0 : Wd} {xe : Xi → Prop} {tg : Expr} {ci : Env → M (List Dt)} {pos p gpos : Pos}
/-- a text, or nothing is promised -/
def xStr (c : Env → M Dt) : Env → M Dt := fun ρ => bd (c ρ) fun d => match d with | .str z => .ret (.str z) | _ => .no
def xSortSc (ci : Env → M (List Dt)) (ws : List Nat) (tgd : Dt → Env → M Env) (tt : Env → M Bool) (te : Env → M Dt) : Env → M (List Dt) := fun ρ => bd (ci ρ) fun ds => gd (Nat.blt (lenL ds) 64) (rb (wipeE ρ ws) fun ρ => bd (lcX ρ tgd tt (xStr te) ds []) fun l => match strsOf l with | some ks => .ret (mpL Dt.str (srtT (dstT ks))) | none => .no)
theorem strsOf_snoc {k : Str} : ∀ {l : List Dt} {ks : List Str}, strsOf l = some ks → strsOf (l ++ [.str k]) = some (ks ++ [k])
  | [], ks, h => by cases h; rfl
  | .str x :: l, ks, h => by
    replace h : (match strsOf l with | some m => some (x :: m) | none => none) = some ks := h
    cases w : strsOf l with
    | none => rw [w] at h; exact nomatch h
    | some m =>
      rw [w] at h
      cases h
      show (match strsOf (l ++ [.str k]) with | some m => some (x :: m) | none => none) = _
      rw [strsOf_snoc w]
      rfl
  | .non :: _, _, h => nomatch h
  | .bl _ :: _, _, h => nomatch h
  | .int _ :: _, _, h => nomatch h
  | .lst _ :: _, _, h => nomatch h
  | .tup _ :: _, _, h => nomatch h
  | .dic _ :: _, _, h => nomatch h
  | .die :: _, _, h => nomatch h
  | .scr _ :: _, _, h => nomatch h
  | .opq _ :: _, _, h => nomatch h
theorem get_rep (ob : Obj) (n a : Nat) (nf : ∀ c d s, ob ≠ ⟨c, d, .freed, s⟩) : ({ objs := Array.replicate n ob } : Heap).get? a = if a < n then some ob else none := by
  unfold Heap.get?
  have e : ({ objs := Array.replicate n ob } : Heap).objs[a]? = if a < n then some ob else none := Array.getElem?_replicate ..
  rw [e]
  by_cases h : a < n
  · rw [if_pos h]
    split
    · rename_i c d s k
      exact absurd (Option.some.inj k) (nf _ _ _)
    · rfl
  · rw [if_neg h]
theorem txO_ne {P : Program} {w : World} {a c : Addr} {l : List Str} {q : Str} : Sx.TxO P w a l ≠ LamX.CodeO c q := fun z => by
  unfold Sx.TxO LamX.CodeO at z
  injection z with z
  have nf : ∀ c d s, ({ cls := .none, data := .fields #[.none, .str q 0] } : Obj) ≠ ⟨c, d, .freed, s⟩ := fun c d s z => nomatch congrArg Obj.data z
  have hc : ({ objs := Array.replicate (c + 1) { cls := .none, data := .fields #[.none, .str q 0] } } : Heap).get? c = some { cls := .none, data := .fields #[.none, .str q 0] } := by
    rw [get_rep _ _ _ nf, if_pos (Nat.lt_succ_self c)]
  have he := congrFun z { objs := Array.replicate (c + 1) { cls := .none, data := .fields #[.none, .str q 0] } }
  have k : ∃ D, ({ objs := Array.replicate (c + 1) { cls := .none, data := .fields #[.none, .str q 0] } } : Heap).get? a = some (PySem.Froz.sObj "set" D) ∧ Sx.Tx P w D l := he.mpr ⟨_, _, _, hc, rfl, rfl⟩
  obtain ⟨D, hD, _⟩ := k
  rw [get_rep _ _ _ nf] at hD
  by_cases ha : a < c + 1
  · rw [if_pos ha] at hD
    exact nomatch congrArg Obj.data (Option.some.inj hD)
  · rw [if_neg ha] at hD
    exact nomatch hD
theorem pxo_sortSc {elt iter : Expr} {ifs : List Expr} {scope : Scope} {own : List (Str × Nat)} {tgd : Dt → Env → M Env} {tt : Env → M Bool} {te : Env → M Dt} (hgs : Gl X "sorted") (hms : X.mg "sorted" = none) (hc : X.calm = true) (hN : X.N.Nodup) (hi : PI X tg iter (cI s0 (Rg xe ci))) (ok : BlkOk X.N X.env.scope scope own)
    (hg : ∀ (s : Shared) (H : Hp) (C : Addr) (cl : List (Str × Addr)) (fp : List Addr), PG (X.blk s H scope (compEnvC scope cl C X.env) fp) tg (cG s0 (own.map (·.2)) (RG N0 tgd))) (ht : ∀ (s : Shared) (H : Hp) (C : Addr) (cl : List (Str × Addr)) (fp : List Addr), PTs (X.blk s H scope (compEnvC scope cl C X.env) fp) ifs (cT s0 (Rg N0 tt)))
    (he : ∀ (s : Shared) (H : Hp) (C : Addr) (cl : List (Str × Addr)) (fp : List Addr), PE (X.blk s H scope (compEnvC scope cl C X.env) fp) elt (cE s0 (Rg N0 te))) (hs : ∀ x, foldedSetIterable iter X.env x = pure x := by intro _; rfl)
    (hst : starEach [.SetComp elt [⟨tg, iter, ifs, 0⟩] scope gpos] X.env = (false, eval (.SetComp elt [⟨tg, iter, ifs, 0⟩] scope gpos) X.env) :: starEach [] X.env := by rfl) (hpl : (backTo pos (starEach [] X.env)).any (·.1) = false := by rfl) :
    PE X (.Call (.Name "sorted" p) [.SetComp elt [⟨tg, iter, ifs, 0⟩] scope gpos] [] pos) (cO s0 (Rg xe (xSortSc ci (own.map (·.2)) tgd tt te))) := peI (pe_callB (Sx.cr_sort hc) hgs hms (by decide +kernel) (pa_cons (Sx.pe_scS hc hN hi ok hg ht he hs) pa_nil hst) (by decide) (by decide) hst hpl) fun σ H Q ⟨s, ρ, q, e, R, t, k⟩ => by
  refine ⟨s, ρ, _, e, R, sat_bd.mp t, fun ds J s1 t1 u wk D nD => ?_⟩
  obtain ⟨few, t1⟩ := sat_gd t1
  rw [lenL_eq] at few
  have few : ds.length < 64 := Nat.le_of_ble_eq_true few
  rw [rb_eq] at t1
  have t1 := lc_go (acc := []) (sat_bd.mp t1) (by rw [sizeLine_eq]; simp only [List.length_nil]; omega)
  obtain ⟨G, Y, W, hG, hY⟩ := wk.ex
  have R1 := (R.up' u).wipe (own.map (·.2))
  refine ⟨fun i m H' => ∃ s2 l acc ks, s2.H = H' ∧ m = ds.length - i ∧ i ≤ ds.length ∧ Up s1 s2 ∧ s2.H D = some (Sx.TxO X.prog X.w D l) ∧ s2.F D = none ∧ s2.J D = none ∧ l.Nodup ∧ (∀ x, x ∈ l ↔ x ∈ ks) ∧ l.length ≤ i ∧ strsOf acc = some ks ∧
      lcR (wipeE ρ (own.map (·.2))) (RG N0 tgd) (Rg N0 tt) (Rg N0 (xStr te)) (ds.drop i) acc (fun l => sat (match strsOf l with | some ks => M.ret (mpL Dt.str (srtT (dstT ks))) | none => .no) q xe), ⟨ds.length, s1.put D _, [], [], [], rfl, rfl, Nat.zero_le _, Up.put u.ok _ nD, upd_same, u.ok.nof nD, u.ok.noj nD, List.nodup_nil, fun x => Iff.rfl, Nat.zero_le _, rfl, t1⟩, ?_⟩
  rintro i m H' ⟨s2, l, acc, ks, rfl, rfl, hi, u2, e1, e2, e3, nd, mem, len, hk, t2⟩
  by_cases hend : i = ds.length
  · subst hend
    refine .inl ⟨W.stops _ (hG s2 u2.fw), D, l, rfl, e1, by omega, fun ys a pm so free => ?_⟩
    rw [List.drop_length] at t2
    have t2 : sat (match strsOf acc with | some ks => M.ret (mpL Dt.str (srtT (dstT ks))) | none => .no) q xe := t2
    rw [hk] at t2
    have t2 : q (mpL Dt.str (srtT (dstT ks))) := t2
    rw [mpL_eq] at t2
    have pd : l.Perm (dstT ks) := (Sx.perm_of (dstT_nodup ks) (fun x hx => (mem x).mpr ((dstT_mem x ks).mp hx)) (by rw [dstT_len nd mem]; exact Nat.le_refl _))
    have e9 : ys = srtT (dstT ks) := srtT_one (pm.trans pd) so
    rw [e9]
    exact k _ _ a (s2.put a _) t2 ((u.trans u2).trans (Up.put u2.ok _ free)) ((u.trans u2).free free) upd_same (u2.ok.nof free) (u2.ok.noj free) (rvs_of_strs _)
  · have hi : i < ds.length := by omega
    refine .inr ⟨W.goes i _ hi (hG s2 u2.fw), fun x H'' y => ?_⟩
    obtain ⟨s3, d, rfl, u3, ed, rd⟩ := hY i s2 x H'' hi u2.fw (W.yields i _ x H'' hi (hG s2 u2.fw) y)
    rw [List.drop_eq_getElem_cons hi] at t2
    have ed' : ds[i] = d := by rw [List.getElem?_eq_getElem hi] at ed; exact Option.some.inj ed
    rw [ed'] at t2
    have stay : ∀ {s' : Wd}, Up s2 s' → s'.H D = some (Sx.TxO X.prog X.w D l) ∧ s'.F D = none ∧ s'.J D = none := fun {s'} v => ⟨v.keep D _ e1 e3, v.noF e1 e2, v.noJ e1 e3⟩
    refine ⟨s3, wipeE ρ (List.map (fun x : Str × Nat => x.2) own), d, _, rfl, (R1.up' u2).up' u3, rd, t2, fun ρ2 σ2 s4 t3 R2 u4 hw => ⟨by rw [hw, wipe_wipe], s4, ρ2, _, rfl, R2, t3, fun b s5 t4 u5 => ?_⟩⟩
    have U5 := u3.trans (u4.trans u5)
    cases b with
    | true =>
      have t4 := sat_bd.mp (show sat (xStr te ρ2) _ N0 from t4)
      refine ⟨s5, ρ2, _, rfl, R2.up' u5, t4, fun dy y s6 t5 u6 ry => ?_⟩
      have U6 := U5.trans u6
      obtain ⟨f1, f2, f3⟩ := stay U6
      have U := u2.trans U6
      cases ry with
      | str z =>
        refine ⟨z, l, rfl, f1, Nat.lt_of_lt_of_le (show l.length + 1 < 65 by omega) (by unfold scanBound; decide), fun l' nd' mem' len' => ⟨ds.length - (i + 1), by omega, s6.put D _, l', acc ++ [.str z], ks ++ [z], rfl, rfl, hi, U.mine _ nD f2 f3 f1 (fun _ _ => txO_ne), upd_same, f2, f3, nd', fun x => ?_, by omega, strsOf_snoc hk, t5.2⟩⟩
        rw [mem', mem, List.mem_append, List.mem_singleton]
        exact Or.comm
      | _ => exact t5.elim
    | false =>
      obtain ⟨f1, f2, f3⟩ := stay U5
      exact ⟨ds.length - (i + 1), by omega, s5, l, acc, ks, rfl, rfl, hi, u2.trans U5, f1, f2, f3, nd, mem, by omega, hk, t4⟩
end
end
end Xe
/-! code over data: a def that calls itself and has tables -/
namespace Xe
open PySem hiding Env
open PySem.Spec PyProof.Rows L2 Dl
section
variable {P : Program} {w : World} {K : PySem.W.Frag} {mg : Str → Option Value} {base : Heap} {T : List (Addr × Vol)} {x : Str} {st : Stmt} {ps N : List Str} {k : Nat}
theorem px_noneT {V : Vol} (h : HasT K mg base T x st ps V) (S : FnScope N ps (defScope st)) : Pd P w K mg base T x ps (spX K x0) (k + 1) :=
  pd_defT h S (fun ds q xd z => False.elim z) fun f c P1 A outer s s0 E xd TB j1 hr tj lx ds q z => False.elim z
end
end Xe
/-! code over data: dict comprehensions, list(d), list(d.values()), reversed(range(..)), text += text, isinstance of dicts -/
namespace Xe
open PySem hiding Env
open PySem.Spec PyProof.Rows L2 Dl
noncomputable section
/-! ### isinstance(x, dict) -/
noncomputable def iDict : Dt → Option Bool
  | .non => some false | .bl _ => some false | .int _ => some false | .str _ => some false | .lst _ => some false | .tup _ => some false | .dic _ => some true | _ => none
section
variable {X : Cx} {s0 : Wd} {xe : Xi → Prop} {e a b tg : Expr} {c : Env → M Dt} {p p2 pos : Pos}
theorem px_isiD (hg : Gl X "isinstance") (hm : X.mg "isinstance" = none) (hgT : Gl X "dict") (hmT : X.mg "dict" = none) (he : PE X e (cB s0 (Rg xe c)))
    (hs : starEach [e, .Name "dict" p2] X.env = (false, eval e X.env) :: starEach [.Name "dict" p2] X.env := by rfl) (hs2 : starEach [.Name "dict" p2] X.env = (false, eval (.Name "dict" p2) X.env) :: starEach [] X.env := by rfl) (hpl : (backTo pos (starEach [.Name "dict" p2] X.env)).any (·.1) = false := by rfl) :
    PE X (.Call (.Name "isinstance" p) [e, .Name "dict" p2] [] pos) (cE s0 (Rg xe (xIsi "dict" iDict c))) := peI (pe_callB call_isi hg hm boot_isinstance (pa_cons he (pa_cons (pe_bltn (v := .ty "dict") hgT hmT (by decide +kernel) rfl (by decide) (by decide)) pa_nil hs2) hs) (by decide) (by decide) hs hpl) fun σ H Q ⟨s, ρ, q, e, R, t, k⟩ => by
  refine ⟨s, ρ, _, e, R, sat_bd.mp t, fun d v s' t1 u r1 => ?_⟩
  have out : ∀ {tn : String} {b : Bool}, PySem.W.kitOne X.K (.type tn) (.type "dict") = some b → TyX X.K s'.H v (.type tn) → q (.bl b) → rIsi X.K [v, .ty "dict"] s'.H Q := fun hm ty hq => ⟨v, .ty "dict", _, _, _, rfl, .ty "dict", ty, hm, k _ _ s' hq u (.bl _)⟩
  cases r1 with
  | non => exact out (tn := "NoneType") (b := false) rfl (.base .non) t1
  | bl b => exact out (tn := "bool") (b := false) rfl (.base (.bl b)) t1
  | int i => exact out (tn := "int") (b := false) rfl (.base (.int i)) t1
  | str z => exact out (tn := "str") (b := false) rfl (.base (.str z)) t1
  | lst h _ => exact out (tn := "list") (b := false) rfl (.base (.lst (bor_sub _ _ h))) t1
  | tup h _ => exact out (tn := "tuple") (b := false) rfl (.base (.tup (bor_sub _ _ h))) t1
  | dic h _ => exact out (tn := "dict") (b := true) rfl (.fDict (bor_sub _ _ h)) t1
  | _ => exact False.elim t1
/-! ### x += y of texts -/
noncomputable def xAugS (i : Nat) (c : Env → M Dt) : Env → M Out := fun ρ => match eg ρ i with | .va (.str m) => bd (c ρ) fun d => (match d with | .str v => gd (szB (lenL m.cps.toList + lenL v.cps.toList)) (fz (.str (apS m v)) fun w => rb (ep ρ i (.va w)) fun ρ => .ret (.nx ρ)) | _ => .no) | _ => .no
theorem ip_addS : PIp X .Add (fun x y H Q => ∃ i j, x = .str i ∧ y = .str j ∧ i.length + j.length ≤ sizeLine ∧ Q (.str (i ++ j)) H) := fun pins s σ H x y v u Q I rx ry h => iop_add_str pins s σ H x y v u Q I rx ry h
theorem sx_augS {i : Nat} {x : Str} {pos' : Pos} (hN : X.N.Nodup) (hi : X.N[i]? = some x) (hx : Loc X.env.scope x) (he : PE X e (cE s0 (Rg xe c))) (hf : X.fn x = true ∨ X.env.scope.names.lookup x = some .local := by first | exact .inl rfl | exact .inr rfl | assumption) :
    PS X (.AugAssign (.Name x pos') .Add e pos) (cS s0 (RS xe (xAugS i c))) := psI (ps_aug hN hi hx he ip_addS hf) fun B σ H ⟨s, ρ, D, e, R, t, l⟩ => by
  subst e
  unfold RS xAugS at t
  cases w : eg ρ i with
  | va d =>
    rw [w] at t
    obtain ⟨v, e1, e2⟩ := R.va i d w
    cases e2 with
    | str m =>
      refine ⟨_, e1, s, ρ, _, rfl, R, sat_bd.mp t, fun d2 v2 s2 t3 u2 r2 => ?_⟩
      cases r2 with
      | str n =>
        obtain ⟨hc, t3⟩ := sat_gd t3
        simp only [fz_eq, rb_eq, apS_eq] at t3
        rw [lenL_eq, lenL_eq, Array.length_toList, Array.length_toList] at hc
        exact ⟨m, n, rfl, rfl, szB_ok hc, l.nx s2 _ _ t3 ((R.up' u2).set i (.str _)) u2.fw⟩
      | _ => exact False.elim t3
    | _ => exact False.elim t
  | no => rw [w] at t; exact t.elim
  | ow ds => rw [w] at t; exact t.elim
/-! ### reversed(range(n)) -/
noncomputable def downL (n : Nat) : List Dt := Nat.rec [] (fun k ih => .int k :: ih) n
theorem downL_len : ∀ n, (downL n).length = n
  | 0 => rfl
  | n + 1 => by show (_ :: downL n).length = _; rw [List.length_cons, downL_len n]
theorem downL_at : ∀ (n i : Nat), i < n → (downL n)[i]? = some (.int ((n : Int) - 1 - i))
  | 0, _, h => absurd h (Nat.not_lt_zero _)
  | n + 1, 0, _ => by
    show some (Dt.int (n : Int)) = _
    congr 2
    omega
  | n + 1, i + 1, h => by
    show (downL n)[i]? = _
    rw [downL_at n i (by omega)]
    congr 2
    omega
noncomputable def xRevR (c : Env → M Dt) : Env → M (List Dt) := fun ρ => bd (c ρ) fun d => match d with | .int i => gd (inR i) (.ret (downL i.toNat)) | _ => .no
theorem pxi_revR {p1 p2 : Pos} (hg : Gl X "reversed") (hm : X.mg "reversed" = none) (hg2 : Gl X "range") (hm2 : X.mg "range" = none) (h : PE X e (cE s0 (Rg xe c))) (hn : starEach [e] X.env = (false, eval e X.env) :: starEach [] X.env := by rfl)
    (hs : starEach [.Call (.Name "range" p2) [e] [] pos] X.env = (false, eval (.Call (.Name "range" p2) [e] [] pos) X.env) :: starEach [] X.env := by rfl) : PI X tg (.Call (.Name "reversed" p) [.Call (.Name "range" p2) [e] [] pos] [] p1) (cI s0 (Rg xe (xRevR c))) :=
  piI (pi_revR hg hm (prg_1 hg2 hm2 h hn) hs) fun σ H R ⟨s, ρ, q, e, Rr, t, k⟩ => ⟨s, ρ, _, e, Rr, sat_bd.mp t, fun d v s' t1 u r1 => by
    cases r1 with
    | int i =>
      obtain ⟨h, t1⟩ := sat_gd t1
      have hb : i.natAbs ≤ 4000000000000000000 := Nat.le_of_ble_eq_true h
      refine ⟨i, rfl, by decide, by decide, by omega, by omega, ?_⟩
      refine k _ _ s' t1 u ⟨_, _, (by rw [downL_len, show (i - 0).toNat = i.toNat by rw [Int.sub_zero]]; exact walk_rangeC), fun _ _ => trivial, fun j s1 x H' hj f y => ?_⟩
      rw [downL_len] at hj
      obtain ⟨e, ex⟩ := y
      refine ⟨s1, _, e.symm, Up.refl f.ok, downL_at _ _ hj, ?_⟩
      rw [ex]
      have : (0 : Int) + ((i.toNat : Nat) : Int) - 1 + (j : Int) * -1 = ((i.toNat : Nat) : Int) - 1 - j := by omega
      show Rv s1.J s1.F (V.int ((0 : Int) + ((i.toNat : Nat) : Int) - 1 + (j : Int) * -1)) _
      rw [this]
      exact .int _
    | _ => exact False.elim t1⟩
/-! ### list(d), list(d.values()) -/
noncomputable def xKeysL (c : Env → M Dt) : Env → M (List Dt) := xKeys c
theorem keysD_rv {J : Addr → Option Vol} {F : Hp} : ∀ {ws : List (Key × V)} {ks : List (Key × Dt)}, Rks J F ws ks → Rvs J F (ws.map fun kv => kV kv.1) (keysD ks)
  | _, _, .nil => .nil
  | _, _, .cons _ r => .cons (keyD_rv _) (keysD_rv r)
theorem valsD_rv {J : Addr → Option Vol} {F : Hp} : ∀ {ws : List (Key × V)} {ks : List (Key × Dt)}, Rks J F ws ks → Rvs J F (ws.map (·.2)) (valsD ks)
  | _, _, .nil => .nil
  | _, _, .cons h r => .cons h (valsD_rv r)
theorem pxo_listD (hg : Gl X "list") (hm : X.mg "list" = none) (h : PE X e (cE s0 (Rg xe c))) (hc : X.calm = true := by rfl) (na : starEach [e] X.env = (false, eval e X.env) :: starEach [] X.env := by rfl) : PE X (.Call (.Name "list" p) [e] [] pos) (cO s0 (Rg xe (xKeysL c))) :=
  peI (pe_callTy (call_listD hc) hg hm (by decide +kernel) (pa_cons h pa_nil na) (he := na)) fun σ H Q ⟨s, ρ, q, e, R, t, k⟩ => ⟨s, ρ, _, e, R, sat_bd.mp t, fun d v s1 t1 u r => by
    cases r with
    | @dic ad o ws ks hF hr =>
      refine ⟨ad, ws, rfl, .inr ⟨o, u.ok.sub _ _ hF⟩, fun p np => ?_⟩
      have u2 := Up.put u.ok (.lst (ws.map fun kv => kV kv.1)) np
      exact k (keysD ks) _ p (s1.put p (.lst (ws.map fun kv => kV kv.1))) t1 (u.trans u2) (u.free np) upd_same (u.ok.nof np) (u.ok.noj np) ((keysD_rv hr).up u2)
    | _ => exact t1.elim⟩
/-- list(d.values()) -/
noncomputable def tListV (td : TE) : TE := fun σ H Q => td σ H fun x H1 => ∃ d o kvs, x = .ref d ∧ H1 d = some (.frz o (.dK kvs)) ∧ ∀ p, H1 p = none → Q (.ref p) (upd H1 p (.lst (kvs.map (·.2))))
theorem vals_by : ∀ {xs : List V} {us : List Value}, xs.length = us.length → (∀ (i : Nat) (x : V) (u : Value), xs[i]? = some x → us[i]? = some u → RelV x u) → Vals xs us
  | [], [], _, _ => .nil
  | x :: xs, u :: us, hl, h => .cons (h 0 x u rfl rfl) (vals_by (by simpa using hl) fun i y v e1 e2 => h (i + 1) y v (by simpa using e1) (by simpa using e2))
  | [], _ :: _, hl, _ => nomatch hl
  | _ :: _, [], hl, _ => nomatch hl
theorem pe_listV {td : TE} {apos cpos : Pos} (hc : X.calm = true) (hgs : Gl X "list") (hms : X.mg "list" = none) (he : PE X e td) (hbase : attributeBase e "values" X.env (eval e X.env) = eval e X.env := by rfl) (hline : (apos.endLine == cpos.line) = true := by rfl)
    (hs1 : starEach [.Call (.Attribute e "values" apos) [] [] cpos] X.env = (false, eval (.Call (.Attribute e "values" apos) [] [] cpos) X.env) :: starEach [] X.env := by rfl) (hp1 : (backTo pos (starEach [] X.env)).any (·.1) = false := by rfl) :
    PE X (.Call (.Name "list" p) [.Call (.Attribute e "values" apos) [] [] cpos] [] pos) (tListV td) := by
  refine ⟨fun pins s σ H Q I h => wpAny_Call_Name_kw (ld_blt I hgs hms (by decide +kernel : bootBuiltins "list" = some (.type "list")) (PyProof.Rows.callWith_type1 ?_ hs1 hp1))⟩
  rw [hs1]
  show wpAny _ _ (spliced ((false, eval (.Call (.Attribute e "values" apos) [] [] cpos) X.env) :: backTo pos (starEach [] X.env))) _ _ s
  refine Calls.spliced_cons ?_
  have seen := he.run pins s σ H _ I h
  refine wpAny_Call_method hbase rfl hline F.plainAttrs_dict F.slot_dict_values F.type_dict_values (thn seen fun u s1 ⟨x, H1, I1, rx, d, o, kvs, ex, hd, q⟩ => ?_)
  subst ex
  obtain rfl : Value.ref d = u := Eq.symm rx
  obtain ⟨hs, hgd, _, _, _, vs, _, _, kv, hm⟩ := I1.frzK hd
  obtain ⟨z, _⟩ := dk_rd I1.hok (.inr ⟨o, hd⟩ : Rd H1 d (.dK kvs))
  have lkv : kvs.length = vs.length := Paired.length kv
  refine And.intro hm.dictOf.typeIs ⟨hm.dictOf.mapOf.noDict, ?_⟩
  obtain ⟨ep, hat⟩ := hm.dictOf.dictAt
  have fin : wpAny (model X.prog X.w) X.A (call (.type "list") [.ref s1.heap.objs.size]) (EP X pins σ Q) X.xe { s1 with heap := s1.heap.push { cls := .type "dict_values", data := .fields #[.ref d] } } := by
    have view : (s1.heap.push { cls := .type "dict_values", data := .fields #[.ref d] }).IsValuesView s1.heap.objs.size d := ⟨_, Heap.get?_push_size _ rfl, rfl, rfl⟩
    have I2 := I1.kept (h' := s1.heap.push { cls := .type "dict_values", data := .fields #[.ref d] }) (t' := s1.toks) fun b ob q => Heap.get?_push_of_some _ q
    refine PySem.W.kdl_call (PySem.W.kdl_values (r := s1.heap.objs.size) (d := d) (knd := mixKind X.prog X.w) (kvs := vs) (ep := ep)) (I1.ok.hd hc) ⟨view, hat.push _⟩ (by rw [← lkv]; exact z) fun h' tk acc c' hk hD hacc => ?_
    have rel : Vals (kvs.map (·.2)) acc.toList := by
      refine vals_by (by have h0 : acc.size = vs.length := hacc.1; rw [List.length_map]; show kvs.length = acc.size; omega) fun i x u e1 e2 => ?_
      obtain ⟨k, e3⟩ := hacc.2 i u (by rw [← Array.getElem?_toList]; exact e2)
      rw [List.getElem?_map] at e1
      cases e4 : kvs[i]? with
      | none => rw [e4] at e1; cases e1
      | some q0 =>
        rw [e4] at e1
        obtain ⟨pv, hp, _, e6⟩ := pairedAt kv e4
        rw [e3] at hp
        have : q0.2 = x := Option.some.inj e1
        rw [← this]
        cases hp
        exact e6
    exact ⟨.ref _, upd H1 _ (.lst (kvs.map (·.2))), I2.laid (t' := tk) hk (Nat.le_refl _)
      (show ObjOk X.prog X.w _ _ _ (.lst (kvs.map (·.2))) from ⟨by rw [List.length_map]; exact z, acc.toList, c', rel, by rw [Array.toArray_toList]; exact hD⟩), rfl, q _ (I2.hok.fresh (Nat.le_refl _))⟩
  exact method_meetsIn F.slot_dict_values F.entry_dict_values rfl (PySem.evalArgs_none ⟨rfl, hm.dictOf.typeIs, F.args_dict_values_1 _, _, meets_dict_values (mixKind X.prog X.w) d hs, ⟨vs, hm.dictOf⟩, Calls.spliced_nil fin⟩)
noncomputable def xValsL (c : Env → M Dt) : Env → M (List Dt) := xValues c
theorem pxo_listV {apos cpos : Pos} (hgs : Gl X "list") (hms : X.mg "list" = none) (he : PE X e (cE s0 (Rg xe c))) (hc : X.calm = true := by rfl) (hbase : attributeBase e "values" X.env (eval e X.env) = eval e X.env := by rfl) (hline : (apos.endLine == cpos.line) = true := by rfl)
    (hs1 : starEach [.Call (.Attribute e "values" apos) [] [] cpos] X.env = (false, eval (.Call (.Attribute e "values" apos) [] [] cpos) X.env) :: starEach [] X.env := by rfl) (hp1 : (backTo pos (starEach [] X.env)).any (·.1) = false := by rfl) :
    PE X (.Call (.Name "list" p) [.Call (.Attribute e "values" apos) [] [] cpos] [] pos) (cO s0 (Rg xe (xValsL c))) := peI (pe_listV hc hgs hms he hbase hline hs1 hp1) fun σ H Q ⟨s, ρ, q, e, R, t, k⟩ => ⟨s, ρ, _, e, R, sat_bd.mp t, fun d v s1 t1 u r => by
    cases r with
    | @dic ad o ws ks hF hr =>
      refine ⟨ad, o, ws, rfl, u.ok.sub _ _ hF, fun p np => ?_⟩
      have u2 := Up.put u.ok (.lst (ws.map (·.2))) np
      exact k (valsD ks) _ p (s1.put p (.lst (ws.map (·.2)))) t1 (u.trans u2) (u.free np) upd_same (u.ok.nof np) (u.ok.noj np) ((valsD_rv hr).up u2)
    | _ => exact t1.elim⟩
/-! ### dict comprehensions -/
noncomputable def dcX (ρ : Env) (tg : Dt → Env → M Env) (tt : Env → M Bool) (tk tv : Env → M Dt) (ds : List Dt) : List (Key × Dt) → M (List (Key × Dt)) := List.rec (motive := fun _ => List (Key × Dt) → M (List (Key × Dt))) (fun acc => .ret acc)
  (fun d _ ih acc => bd (noX (tg d ρ)) fun ρ2 => bd (noX (tt ρ2)) fun b => match b with | true => bd (noX (tk ρ2)) fun y => bd (noX (tv ρ2)) fun z => (match keyOf y with | some k => fz z fun z => rb (putD acc k z) ih | none => .no) | false => ih acc) ds
noncomputable def xDc (ci : Env → M (List Dt)) (ws : List Nat) (tg : Dt → Env → M Env) (tt : Env → M Bool) (tk tv : Env → M Dt) : Env → M (List (Key × Dt)) := fun ρ => bd (ci ρ) fun ds => gd (szB (lenL ds)) (rb (wipeE ρ ws) fun ρ => dcX ρ tg tt tk tv ds [])
theorem putD_len (ks : List (Key × Dt)) (k : Key) (d : Dt) : (putD ks k d).length ≤ ks.length + 1 := by
  unfold putD
  cases ks.any fun kv => keq kv.1 k with
  | true => simp
  | false => simp
/-- the walk of a dict comprehension's block -/
theorem dc_it {J : It} {n : Nat} {G : Hp → Prop} {Y : Nat → Hp → V → Hp → Prop} (w : Walk J n G Y) {g : TG} {tt : TT} {tk tv : TE} {vs : List Nat} {σ : L2.St} {H1 : Hp} {D : Addr} {Qd : Hp → Prop} (At : Nat → Hp → Prop) (start : At 0 (upd H1 D (.dK []))) (sees : ∀ i H, i ≤ n → At i H → G H)
    (one : ∀ i x H H', i < n → At i H → Y i H x H' → g x (wipe σ vs) H' fun σ2 H2 => wipe σ2 vs = wipe σ vs ∧ tt σ2 H2 fun b H3 =>
      if b = true then tk σ2 H3 fun y H4 => tv σ2 H4 fun z H5 => ∃ kvs k, y = kV k ∧ H5 D = some (.dK kvs) ∧ kvs.length < sizeLine ∧ At (i + 1) (upd H5 D (.dK (putK kvs k z))) else At (i + 1) H3) (fin : ∀ H, At n H → Qd H) :
    ∃ Wk : Nat → Nat → Hp → Prop, (∃ r, Wk 0 r (upd H1 D (.dK []))) ∧ ∀ i r Ha, Wk i r Ha →
      (J.stop i Ha ∧ Qd Ha) ∨ (J.go i Ha ∧ ∃ On : Hp → Prop, (∀ Hb, On Hb → ∃ r2, r2 < r ∧ Wk (i + 1) r2 Hb) ∧ ∀ x Hb, J.yld i Ha x Hb → g x (wipe σ vs) Hb fun σ2 H2 => wipe σ2 vs = wipe σ vs ∧ tt σ2 H2 fun b H3 =>
        if b = true then tk σ2 H3 fun y H4 => tv σ2 H4 fun z H5 => ∃ kvs k, y = kV k ∧ H5 D = some (.dK kvs) ∧ kvs.length < sizeLine ∧ On (upd H5 D (.dK (putK kvs k z))) else On H3) := by
  refine ⟨fun i m H => i + m = n ∧ At i H, ⟨n, Nat.zero_add n, start⟩, fun i m H ⟨hm, here⟩ => ?_⟩
  cases m with
  | zero =>
    cases hm
    exact .inl ⟨w.stops H (sees _ H (Nat.le_refl _) here), fin H here⟩
  | succ m =>
    have hi : i < n := by omega
    have z := sees i H (Nat.le_of_lt hi) here
    exact .inr ⟨w.goes i H hi z, At (i + 1), fun H' z' => ⟨m, Nat.lt_succ_self m, by omega, z'⟩, fun x H' y => one i x H H' hi here (w.yields i H x H' hi z y)⟩
theorem dc_go {ci : Env → M (List Dt)} {ws : List Nat} {tgd : Dt → Env → M Env} {tt : Env → M Bool} {tk tv : Env → M Dt} {σ : L2.St} {H : Hp} {Q : VK} (z : cOD s0 (Rg xe (xDc ci ws tgd tt tk tv)) σ H Q) : tDc (cI s0 (Rg xe ci)) (cG s0 ws (RG N0 tgd)) (cT s0 (Rg N0 tt)) (cE s0 (Rg N0 tk)) (cE s0 (Rg N0 tv)) ws σ H Q := by
  obtain ⟨s, ρ, q, e, R, t, k⟩ := z
  refine ⟨s, ρ, _, e, R, sat_bd.mp t, fun ds J s1 t1 u wk D nD => ?_⟩
  obtain ⟨hl, t1⟩ := sat_gd t1
  rw [lenL_eq] at hl
  rw [rb_eq] at t1
  have hl := szB_ok hl
  obtain ⟨G, Y, W, hG, hY⟩ := wk.ex
  have R1 := (R.up' u).wipe ws
  refine dc_it W (At := fun i H' => ∃ s2 vs acc, s2.H = H' ∧ Up s1 s2 ∧ s2.H D = some (.dK vs) ∧ s2.F D = none ∧ s2.J D = none ∧ Rks s2.J s2.F vs acc ∧ acc.length ≤ i ∧ sat (dcX (wipeE ρ ws) tgd tt tk tv (ds.drop i) acc) q xe) ?_ ?_ ?_ ?_
  · exact ⟨s1.put D (.dK []), [], [], rfl, Up.put u.ok _ nD, upd_same, u.ok.nof nD, u.ok.noj nD, .nil, Nat.zero_le _, t1⟩
  · rintro i H' hi ⟨s2, vs, acc, rfl, u2, _⟩
    exact hG s2 u2.fw
  · rintro i x H' H'' hi ⟨s2, vs, acc, rfl, u2, e1, e2, e3, e4, e5, t2⟩ y
    obtain ⟨s3, d, rfl, u3, ed, rd⟩ := hY i s2 x H'' hi u2.fw y
    rw [List.drop_eq_getElem_cons hi] at t2
    have ed' : ds[i] = d := by rw [List.getElem?_eq_getElem hi] at ed; exact Option.some.inj ed
    rw [ed'] at t2
    have stay : ∀ {s' : Wd}, Up s2 s' → s'.H D = some (.dK vs) ∧ s'.F D = none ∧ s'.J D = none := fun {s'} v => ⟨v.keep D _ e1 e3, v.noF e1 e2, v.noJ e1 e3⟩
    have t2 := sat_noX (e' := N0) (sat_bd.mp t2)
    refine ⟨s3, wipeE ρ ws, d, _, rfl, (R1.up' u2).up' u3, rd, t2, fun ρ2 σ2 s4 t3 R2 u4 hw => ⟨by rw [hw, wipe_wipe], s4, ρ2, _, rfl, R2, sat_noX (e' := N0) (sat_bd.mp t3), fun b s5 t4 u5 => ?_⟩⟩
    have U5 := u3.trans (u4.trans u5)
    cases b with
    | true =>
      refine ⟨s5, ρ2, _, rfl, R2.up' u5, sat_noX (e' := N0) (sat_bd.mp t4), fun dk yk s6 t5 u6 rk => ⟨s6, ρ2, _, rfl, (R2.up' u5).up' u6, sat_noX (e' := N0) (sat_bd.mp t5), fun dv yv s7 t6 u7 rv => ?_⟩⟩
      cases hk : keyOf dk with
      | none => rw [hk] at t6; exact t6.elim
      | some kk =>
        rw [hk] at t6
        have t6 : sat (fz dv fun z => rb (putD acc kk z) (dcX (wipeE ρ ws) tgd tt tk tv (ds.drop (i + 1)))) q xe := t6
        rw [fz_eq, rb_eq] at t6
        have U7 := (U5.trans u6).trans u7
        obtain ⟨f1, f2, f3⟩ := stay U7
        have U := u2.trans U7
        have r4 := Rks_put kk (Rks.upw e4 U7) rv
        refine ⟨vs, kk, keyOf_rv rk hk, f1, by rw [Rks_length e4]; omega, s7.put D (.dK (putK vs kk yv)), putK vs kk yv, putD acc kk dv, rfl, U.mine _ nD f2 f3 f1 (fun _ _ z => nomatch z), upd_same, f2, f3, r4, Nat.le_trans (putD_len _ _ _) (Nat.succ_le_succ e5), t6⟩
    | false =>
      obtain ⟨f1, f2, f3⟩ := stay U5
      exact ⟨s5, vs, acc, rfl, u2.trans U5, f1, f2, f3, Rks.upw e4 U5, Nat.le_succ_of_le e5, t4⟩
  · rintro H' ⟨s2, vs, acc, rfl, u2, e1, e2, e3, e4, e5, t2⟩
    rw [List.drop_length] at t2
    exact k acc vs D s2 t2 (u.trans u2) (u.free nD) e1 e2 e3 e4
theorem pxd_dc {kx vx iter : Expr} {ifs : List Expr} {scope : Scope} {own : List (Str × Nat)} {ci : Env → M (List Dt)} {tgd : Dt → Env → M Env} {tt : Env → M Bool} {tk tv : Env → M Dt} (hc : X.calm = true) (hN : X.N.Nodup) (hi : PI X tg iter (cI s0 (Rg xe ci))) (ok : BlkOk X.N X.env.scope scope own)
    (hg : ∀ (s : Shared) (H : Hp) (C : Addr) (cl : List (Str × Addr)) (fp : List Addr), PG (X.blk s H scope (compEnvC scope cl C X.env) fp) tg (cG s0 (own.map (·.2)) (RG N0 tgd))) (ht : ∀ (s : Shared) (H : Hp) (C : Addr) (cl : List (Str × Addr)) (fp : List Addr), PTs (X.blk s H scope (compEnvC scope cl C X.env) fp) ifs (cT s0 (Rg N0 tt)))
    (hk : ∀ (s : Shared) (H : Hp) (C : Addr) (cl : List (Str × Addr)) (fp : List Addr), PE (X.blk s H scope (compEnvC scope cl C X.env) fp) kx (cE s0 (Rg N0 tk)))
    (he : ∀ (s : Shared) (H : Hp) (C : Addr) (cl : List (Str × Addr)) (fp : List Addr), PE (X.blk s H scope (compEnvC scope cl C X.env) fp) vx (cE s0 (Rg N0 tv))) (hs : ∀ x, foldedSetIterable iter X.env x = pure x := by intro _; rfl) :
    PE X (.DictComp kx vx [⟨tg, iter, ifs, 0⟩] scope pos) (cOD s0 (Rg xe (xDc ci (own.map (·.2)) tgd tt tk tv))) := peI (pe_dc hc hN hi ok hg ht hk he hs) fun _ _ _ z => dc_go z
end
end
end Xe
/-! code over data: two dicts compared, dict of pairs -/
namespace Xe
open PySem hiding Env
open PySem.Spec PyProof.Rows L2 Dl
noncomputable section
/-! ### == and != of dicts -/
noncomputable def allD (ls : List (Key × Dt)) : List (Key × Dt) → Bool
  | [] => true
  | p :: r => (match valD ls p.1 with | some e => eqd p.2 e && allD ls r | none => false)
noncomputable def eqDic (ks ls : List (Key × Dt)) : Bool := (ks.length == ls.length) && allD ls ks
noncomputable def plk (ks : List (Key × Dt)) : Bool := ks.all fun p => pld 12 p.2
noncomputable def rDe (n : Bool) : R2 := fun x y H Q => ∃ (J : Addr → Option Vol) (F : Hp) (ks ls : List (Key × Dt)), (∀ a o, F a = some o → H a = some o) ∧ Rv J F x (.dic ks) ∧ Rv J F y (.dic ls) ∧ plk ks = true ∧ plk ls = true ∧ Q (.bl (n != eqDic ks ls)) H
section
variable {X : Cx}
theorem hits_dt {J : Addr → Option Vol} {F H : Hp} {pins : List (Addr × Obj)} {σ : L2.St} {s : Shared} (I : Inv X pins σ H s) (sub : ∀ a o, F a = some o → H a = some o) (hu : X.A.units + 64 < cLine) {ws2 : List (Key × V)} {vb : List (Key × Value)} {ls : List (Key × Dt)} (rb : KV ws2 vb) (r2 : Rks J F ws2 ls) (p2 : plk ls = true) :
    ∀ {ws : List (Key × V)} {va : List (Key × Value)} {ks : List (Key × Dt)}, KV ws va → Rks J F ws ks → plk ks = true → PySem.W.KeqHits X.A.in1 s vb va (allD ls ks) := by
  intro ws va ks ra
  unfold KV at ra
  induction ra generalizing ks with
  | nil =>
    intro r _
    cases r
    exact .nil
  | @cons p q ps qs h t ih =>
    intro r hp
    cases r with
    | @cons k v _ d ds rv rs =>
      obtain ⟨k2, v2⟩ := q
      obtain ⟨e1, e2⟩ := h
      have e1 : k = k2 := e1
      subst e1
      have hp : (pld 12 d && plk ds) = true := hp
      rw [Bool.and_eq_true] at hp
      show PySem.W.KeqHits X.A.in1 s vb ((k, v2) :: qs) (match valD ls k with | some e => eqd d e && allD ls ds | none => false)
      cases w : valD ls k with
      | none =>
        have n := Rks_none r2 w
        have rr := rb.val k
        rw [n] at rr
        refine .miss ?_
        cases z : valueAt vb k with
        | none => rfl
        | some y => rw [z] at rr; exact rr.elim
      | some e =>
        obtain ⟨v1, f1, f2⟩ := Rks_val r2 w
        have rr : RelO (some v1) (valueAt vb k) := by rw [← f1]; exact rb.val k
        obtain ⟨y, hy, ry⟩ := rr.some_of
        have pe : pld 12 e = true := by
          have all := List.all_eq_true.mp (show ls.all (fun p => pld 12 p.2) = true from p2)
          clear ih rr hy ry f2 f1 v1 r2 rb p2
          induction ls with
          | nil => cases w
          | cons p0 ls ih2 =>
            unfold valD at w
            cases z : keq p0.1 k with
            | true => rw [z] at w; cases w; exact all p0 List.mem_cons_self
            | false => rw [z] at w; exact ih2 w fun x hx => all x (List.mem_cons_of_mem _ hx)
        obtain ⟨q1, d1⟩ := pld_ok _ _ hp.1
        obtain ⟨q2, d2⟩ := pld_ok _ _ pe
        obtain ⟨as, ra1⟩ := Dp.reads I (py d) v v2 (rv.dp sub q1) e2
        obtain ⟨bs, rb1⟩ := Dp.reads I (py e) v1 y (f2.dp sub q2) ry
        refine .hit hy ?_ (ih rs hp.2)
        rw [eqd_eq d e q1 q2]
        exact SeqAt.eqAt_plain (py d) (py e) X.A.in1 s v2 y as bs ra1 rb1 (py_plain _ q1) (py_plain _ q2) (by
          have h1 : (py d).depth ≤ 12 := d1
          show X.A.units + 1 + min (py d).depth (py e).depth < cLine
          omega)
theorem kv_len {κ : Type} {ws : List (κ × V)} {vs : List (κ × Value)} (h : KV ws vs) : ws.length = vs.length := Paired.length h
theorem op_neDe (hu : X.A.units + 64 < cLine) : OpR X (compareOp .NotEq) (rDe true) := fun pins s σ H x y v u Q I rx ry ⟨J, F, ks, ls, sub, r1, r2, p1, p2, q⟩ => by
  cases r1 with
  | @dic a o ws _ h1 k1 =>
    cases r2 with
    | @dic b o2 ws2 _ h2 k2 =>
      obtain rfl : v = Value.ref a := rx
      obtain rfl : u = Value.ref b := ry
      obtain ⟨_, ya, va, ra, da⟩ := dk_rd I.hok (.inr ⟨o, sub _ _ h1⟩ : Rd H a (.dK ws))
      obtain ⟨_, yb, vb, rb, db⟩ := dk_rd I.hok (.inr ⟨o2, sub _ _ h2⟩ : Rd H b (.dK ws2))
      refine PySem.W.keq_ne (knd := mixKind X.prog X.w) (r := allD ls ks) ya yb da db (by omega) (fun _ => hits_dt I sub hu rb k2 p2 ra k1 p1) (fin_bl I q ?_)
      rw [← kv_len ra, ← kv_len rb, Rks_length k1, Rks_length k2, Bool.true_bne]
      rfl
theorem op_eqDe (hu : X.A.units + 64 < cLine) : OpR X (compareOp .Eq) (rDe false) := fun pins s σ H x y v u Q I rx ry ⟨J, F, ks, ls, sub, r1, r2, p1, p2, q⟩ => by
  cases r1 with
  | @dic a o ws _ h1 k1 =>
    cases r2 with
    | @dic b o2 ws2 _ h2 k2 =>
      obtain rfl : v = Value.ref a := rx
      obtain rfl : u = Value.ref b := ry
      obtain ⟨_, ya, va, ra, da⟩ := dk_rd I.hok (.inr ⟨o, sub _ _ h1⟩ : Rd H a (.dK ws))
      obtain ⟨_, yb, vb, rb, db⟩ := dk_rd I.hok (.inr ⟨o2, sub _ _ h2⟩ : Rd H b (.dK ws2))
      refine PySem.W.keq_eq (knd := mixKind X.prog X.w) (r := allD ls ks) ya yb da db (by omega) (fun _ => hits_dt I sub hu rb k2 p2 ra k1 p1) (fin_bl I q ?_)
      rw [← kv_len ra, ← kv_len rb, Rks_length k1, Rks_length k2, Bool.false_bne]
      rfl
noncomputable def fEqD (n : Bool) : Dt → Dt → M Dt := fun x y => match x, y with | .dic ks, .dic ls => gd (plk ks && plk ls) (.ret (.bl (n != eqDic ks ls))) | _, _ => .no
noncomputable def dEqD (n : Bool) : Dt → Dt → (Dt → Prop) → Prop := fun x y q => ∃ ks ls, x = .dic ks ∧ y = .dic ls ∧ plk ks = true ∧ plk ls = true ∧ q (.bl (n != eqDic ks ls))
theorem sm_eqD {n : Bool} : Sm (fEqD n) (dEqD n) := fun x y q e z => by
  cases x with
  | dic ks =>
    cases y with
    | dic ls =>
      obtain ⟨h, z⟩ := sat_gd z
      rw [Bool.and_eq_true] at h
      exact ⟨ks, ls, rfl, rfl, h.1, h.2, z⟩
    | _ => exact z.elim
  | _ => cases y <;> exact z.elim
theorem of_eqD {n : Bool} : OpF (rDe n) (dEqD n) := fun J F H x y dx dy q Q sub rx ry ⟨ks, ls, e1, e2, p1, p2, t⟩ k => by
  subst e1 e2
  exact ⟨J, F, ks, ls, sub, rx, ry, p1, p2, k _ _ t fun J F => .bl _⟩
end
/-! ### dict of a list of pairs, the keys apart -/
noncomputable def pairsOf : List Dt → Option (List (Key × Dt))
  | [] => some []
  | d :: r => (match d with | .tup [a, b] => (match keyOf a with | some k => (match pairsOf r with | some ps => some ((k, b) :: ps) | none => none) | none => none) | _ => none)
noncomputable def apart : List (Key × Dt) → Bool
  | [] => true
  | p :: r => (match valD r p.1 with | none => apart r | some _ => false)
section
variable {X : Cx} {s0 : Wd} {xe : Xi → Prop} {e : Expr} {c : Env → M Dt} {p pos : Pos}
theorem rel_keyIs {k : Key} {u : Value} (h : RelV (kV k) u) : keyIs k u = true := by
  cases k with
  | inl i => obtain ⟨t, e⟩ : ∃ t, u = Value.int i t := h; rw [e]; exact keyIs_int i t
  | inr x => obtain ⟨t, e⟩ : ∃ t, u = Value.str x t := h; rw [e]; exact keyIs_str x t
/-- a pair, told by its tuple, key, the key's value, its worth -/
structure Pq where
  T : Addr
  k : Key
  u : Value
  v : Value
theorem pairs_at {pins : List (Addr × Obj)} {σ : L2.St} {H : Hp} {s : Shared} (I : Inv X pins σ H s) {ts : List V} {kvs : List (Key × V)} (hp : Paired (fun (t : V) (p : Key × V) => ∃ T, t = .ref T ∧ H T = some (.tup [kV p.1, p.2])) ts kvs) :
    ∃ qs : List Pq, ts = qs.map (fun q => V.ref q.T) ∧ KV kvs (qs.map fun q => (q.k, q.v)) ∧ ∀ q ∈ qs, PairAt s.heap q.T q.u q.v ∧ keyIs q.k q.u = true := by
  induction hp with
  | nil => exact ⟨[], rfl, .nil, fun _ h => nomatch h⟩
  | @cons t p ts ps h _ ih =>
    obtain ⟨qs, e1, e2, e3⟩ := ih
    obtain ⟨T, et, hT⟩ := h
    subst et
    obtain ⟨_, its, rv, isT⟩ := (show ObjOk X.prog X.w H s.heap T (.tup [kV p.1, p.2]) from I.hok T _ hT)
    cases rv with
    | @cons _ u _ us r1 rv =>
      cases rv with
      | @cons _ v _ us r2 rv =>
        cases rv
        refine ⟨⟨T, p.1, u, v⟩ :: qs, by rw [e1]; rfl, .cons ⟨rfl, r2⟩ e2, fun q hq => ?_⟩
        rcases List.mem_cons.mp hq with z | z
        · subst z
          exact ⟨.inl isT, rel_keyIs r1⟩
        · exact e3 q z
noncomputable def rDictP : List V → Hp → VK → Prop := fun xs H Q => ∃ a ts kvs, xs = [.ref a] ∧ H a = some (.lst ts) ∧ Paired (fun (t : V) (p : Key × V) => ∃ T, t = .ref T ∧ H T = some (.tup [kV p.1, p.2])) ts kvs ∧ (kvs.map (·.1)).Nodup ∧ ∀ p, H p = none → Q (.ref p) (upd H p (.dK kvs))
theorem kv_keys {κ : Type} {ws : List (κ × V)} {vs : List (κ × Value)} (h : KV ws vs) : ws.map (·.1) = vs.map (·.1) := by
  unfold KV at h
  induction h with
  | nil => rfl
  | cons h _ ih => rw [List.map_cons, List.map_cons, ih, h.1]
theorem call_dictP (hc : X.calm = true) : CallR X (.type "dict") rDictP := fun pins s σ H xs us Q I r ⟨a, ts, kvs, ex, ha, hp, nd, q⟩ => by
  subst ex
  obtain ⟨u, eu, rx⟩ := vals1 r
  subst eu
  cases rx
  obtain ⟨z, its, n, rv, hl⟩ := (show ObjOk X.prog X.w H s.heap a (.lst ts) from I.hok a _ ha)
  obtain ⟨qs, e1, e2, e3⟩ := pairs_at I hp
  subst e1
  have ei : its = qs.map fun q => Value.ref q.T := by
    clear e2 e3 hl hp z ha
    induction qs generalizing its with
    | nil => cases rv; rfl
    | cons q qs ih =>
      cases rv with
      | cons h t => rw [List.map_cons, ← ih _ t]; exact congrArg (· :: _) h
  subst ei
  have lq : qs.length = kvs.length := by have := kv_len e2; rw [List.length_map] at this; exact this.symm
  have P := PairArg.list (prog := X.prog) (w := X.w) a (qs.map fun q => Value.ref q.T).toArray (fun j => (qs[j]?.map Pq.T).getD 0) (qs.map fun q => (q.u, q.v))
  have ok : PlainSeq "list" s.heap a (qs.map fun q => Value.ref q.T).toArray ∧ PairItems s.heap (qs.map fun q => Value.ref q.T).toArray (fun j => (qs[j]?.map Pq.T).getD 0) (qs.map fun q => (q.u, q.v)) := by
    refine ⟨⟨_, _, hl, rfl, rfl, rfl⟩, by simp, fun j k v hj => ?_⟩
    rw [List.getElem?_map] at hj
    cases w : qs[j]? with
    | none => rw [w] at hj; cases hj
    | some q =>
      rw [w] at hj
      cases hj
      refine ⟨by simp [w], ?_⟩
      simp only [w, Option.map_some, Option.getD_some]
      exact (e3 q (List.mem_of_getElem? w)).1
  have nd2 : ((qs.map fun q => (q.k, q.v)).map (·.1)).Nodup := by rw [← kv_keys e2]; exact nd
  refine call_dict_pairs (knd := mixKind X.prog X.w) (kvs := qs.map fun q => (q.k, q.v)) P (I.ok.hd hc) ok ⟨by simp, fun i key v hr => ?_⟩ (by rw [List.length_map] at z ⊢; exact z) fun h' tk hd hk => ?_
  · have hr : (qs.map fun q => (q.u, q.v))[i]? = some (key, v) := hr
    rw [List.getElem?_map] at hr
    cases w : qs[i]? with
    | none => rw [w] at hr; cases hr
    | some q =>
      rw [w] at hr
      cases hr
      exact ⟨q.k, by rw [List.getElem?_map, w]; rfl, (e3 q (List.mem_of_getElem? w)).2⟩
  · rw [merged_nil_of_nodup _ nd2] at hd
    have hm := beq_eq_false_iff_ne.mpr (Nat.ne_of_gt I.big)
    exact ⟨.ref s.heap.objs.size, upd H s.heap.objs.size (.dK kvs), I.laid (t' := tk) (fun b o e => hk b o (by simp) e) (Nat.le_refl _) (show ObjOk X.prog X.w _ _ _ (.dK kvs) from ⟨by rw [← lq]; rw [List.length_map] at z; exact z, hm, _, e2, hd⟩), rfl, q _ (I.hok.fresh (Nat.le_refl _))⟩
theorem pairsOf_rv {J : Addr → Option Vol} {F H : Hp} (sub : ∀ a o, F a = some o → H a = some o) : ∀ {vs : List V} {ds : List Dt} {ps : List (Key × Dt)}, Rvs J F vs ds → pairsOf ds = some ps → ∃ kvs, Rks J F kvs ps ∧ Paired (fun (t : V) (p : Key × V) => ∃ T, t = .ref T ∧ H T = some (.tup [kV p.1, p.2])) vs kvs
  | _, _, _, .nil, e => by cases e; exact ⟨[], .nil, .nil⟩
  | _, _, _, .cons h r, e => by
    cases h with
    | @tup T xs ds hF hr =>
      match ds, hr with
      | [], _ => cases e
      | [_], _ => cases e
      | [a, b], .cons (v := va) ra (.cons (v := vb) rb .nil) =>
        unfold pairsOf at e
        dsimp only at e
        cases ka : keyOf a with
        | none => rw [ka] at e; cases e
        | some k =>
          rw [ka] at e
          dsimp only at e
          split at e
          · rename_i qs eq
            cases e
            obtain ⟨kvs, g1, g2⟩ := pairsOf_rv sub r eq
            refine ⟨(k, vb) :: kvs, .cons rb g1, .cons ⟨T, rfl, ?_⟩ g2⟩
            have := sub _ _ hF
            rw [keyOf_rv ra ka] at this
            exact this
          · cases e
      | _ :: _ :: _ :: _, _ => cases e
    | _ => cases e
theorem Rks_keys {J : Addr → Option Vol} {F : Hp} : ∀ {ws : List (Key × V)} {ks : List (Key × Dt)}, Rks J F ws ks → ws.map (·.1) = ks.map (·.1)
  | _, _, .nil => rfl
  | _, _, .cons _ r => by rw [List.map_cons, List.map_cons, Rks_keys r]
theorem valD_none : ∀ {ks : List (Key × Dt)} {k : Key}, valD ks k = none → k ∉ ks.map (·.1)
  | [], _, _, h => nomatch h
  | p :: r, k, e, h => by
    unfold valD at e
    rw [keq_eq] at e
    by_cases z : p.1 = k
    · rw [decide_eq_true z] at e; cases e
    · rw [decide_eq_false z] at e
      rcases List.mem_cons.mp h with y | y
      · exact z y.symm
      · exact valD_none e y
theorem apart_ok : ∀ {ks : List (Key × Dt)}, apart ks = true → (ks.map (·.1)).Nodup
  | [], _ => List.nodup_nil
  | p :: r, h => by
    unfold apart at h
    cases w : valD r p.1 with
    | none => rw [w] at h; exact List.nodup_cons.mpr ⟨valD_none w, apart_ok h⟩
    | some _ => rw [w] at h; cases h
noncomputable def xDictP (c : Env → M Dt) : Env → M (List (Key × Dt)) := fun ρ => bd (c ρ) fun d => match d with | .lst ds => (match pairsOf ds with | some ps => gd (apart ps) (.ret ps) | none => .no) | _ => .no
theorem pxd_pairs (hg : Gl X "dict") (hm : X.mg "dict" = none) (h : PE X e (cE s0 (Rg xe c))) (hc : X.calm = true := by rfl) (na : starEach [e] X.env = (false, eval e X.env) :: starEach [] X.env := by rfl) : PE X (.Call (.Name "dict" p) [e] [] pos) (cOD s0 (Rg xe (xDictP c))) :=
  peI (pe_callTy (call_dictP hc) hg hm (by decide +kernel) (pa_cons h pa_nil na) (he := na)) fun σ H Q ⟨s, ρ, q, e, R, t, k⟩ => ⟨s, ρ, _, e, R, sat_bd.mp t, fun d v s1 t1 u r => by
    cases r with
    | @lst ad vs ds hF hr =>
      have t1 : sat (match pairsOf ds with | some ps => gd (apart ps) (M.ret ps) | none => .no) q xe := t1
      cases w : pairsOf ds with
      | none => rw [w] at t1; exact t1.elim
      | some ps =>
        rw [w] at t1
        obtain ⟨h, t1⟩ := sat_gd t1
        obtain ⟨kvs, g1, g2⟩ := pairsOf_rv u.ok.sub hr w
        refine ⟨ad, vs, kvs, rfl, u.ok.sub _ _ hF, g2, by rw [Rks_keys g1]; exact apart_ok h, fun p np => ?_⟩
        have u2 := Up.put u.ok (.dK kvs) np
        exact k ps kvs p (s1.put p (.dK kvs)) t1 (u.trans u2) (u.free np) upd_same (u.ok.nof np) (u.ok.noj np) (Rks.upw g1 u2)
    | _ => exact t1.elim⟩
/-! ### {k: v, ..} -/
abbrev CPs := List ((Env → M Dt) × (Env → M Dt))
noncomputable def xPairs : CPs → Env → M (List (Key × Dt))
  | [], _ => .ret []
  | c :: r, ρ => bd (c.1 ρ) fun y => bd (c.2 ρ) fun z => (match keyOf y with | some k => bd (xPairs r ρ) fun ps => .ret ((k, z) :: ps) | none => .no)
noncomputable def mergeD (ks more : List (Key × Dt)) : List (Key × Dt) := more.foldl (fun acc kv => putD acc kv.1 kv.2) ks
theorem Rks_merge {J : Addr → Option Vol} {F : Hp} : ∀ {ws : List (Key × V)} {ds : List (Key × Dt)} {as : List (Key × V)} {bs : List (Key × Dt)}, Rks J F ws ds → Rks J F as bs → Rks J F (mergeK as ws) (mergeD bs ds)
  | _, _, _, _, .nil, h => h
  | (k, v) :: ws, (_, d) :: ds, as, bs, .cons h r, q => by
    show Rks J F (mergeK (putK as k v) ws) (mergeD (putD bs k d) ds)
    exact Rks_merge (ws := ws) (ds := ds) r (Rks_put k q h)
noncomputable def trsOf (s0 : Wd) (xe : Xi → Prop) (cs : CPs) : List (TE × TE) := cs.map fun c => (cE s0 (Rg xe c.1), cE s0 (Rg xe c.2))
theorem pairs_go : ∀ {cs : CPs} {s : Wd} {ρ : Env} {σ : L2.St} {q : List (Key × Dt) → Prop} {Q : List (V × V) → Hp → Prop}, Rp s0 s ρ σ → sat (xPairs cs ρ) q xe →
    (∀ s' kvs ds, Up s s' → Rks s'.J s'.F kvs ds → q ds → kvs.length = cs.length → Q (kvs.map fun kv => (kV kv.1, kv.2)) s'.H) → tPairs (trsOf s0 xe cs) σ s.H Q
  | [], s, ρ, σ, q, Q, R, t, k => k s [] [] (Up.refl R.ok) .nil t rfl
  | c :: r, s, ρ, σ, q, Q, R, t, k => by
    show cE s0 (Rg xe c.1) σ s.H _
    refine ⟨s, ρ, _, rfl, R, sat_bd.mp t, fun dy vy s1 t1 u1 r1 => ⟨s1, ρ, _, rfl, R.up' u1, sat_bd.mp t1, fun dz vz s2 t2 u2 r2 => ?_⟩⟩
    cases w : keyOf dy with
    | none => rw [w] at t2; exact t2.elim
    | some kk =>
      rw [w] at t2
      refine pairs_go ((R.up' u1).up' u2) (sat_bd.mp t2) fun s' kvs ds u rk hq hl => ?_
      have := k s' ((kk, vz) :: kvs) ((kk, dz) :: ds) ((u1.trans u2).trans u) (.cons (r2.up u) rk) hq (by rw [List.length_cons, List.length_cons, hl])
      rw [keyOf_rv r1 w]
      exact this
noncomputable def xDd (cs : CPs) : Env → M (List (Key × Dt)) := fun ρ => bd (xPairs cs ρ) fun ps => .ret (mergeD [] ps)
theorem pxd_disp {cs : CPs} {keys : List (Option Expr)} {values : List Expr} (h : PPs X pos keys values (trsOf s0 xe cs)) (hn : cs.length ≤ 15 := by decide) (hall : keys.all (·.isSome) = true := by rfl) (hl : keys.length = values.length := by rfl) (h0 : keys ≠ [] := by simp) (h15 : keys.length ≤ 15 := by decide) :
    PE X (.Dict keys values pos) (cOD s0 (Rg xe (xDd cs))) := peI (pe_disp h hall hl h0 h15) fun σ H Q ⟨s, ρ, q, e, R, t, k⟩ => by
  subst e
  intro p np
  have u0 := Up.put R.ok (.dK []) np
  refine pairs_go (s := s.put p (.dK [])) (R.up' u0) (sat_bd.mp t) fun s' kvs ds u rk hq hl => ?_
  have at1 : (s.put p (.dK [])).H p = some (.dK []) := upd_same
  have jn : (s.put p (.dK [])).J p = none := R.ok.noj np
  have fn : (s.put p (.dK [])).F p = none := R.ok.nof np
  have e1 := u.keep p _ at1 jn
  refine ⟨e1, kvs, rfl, by omega, ?_⟩
  have U : Up s s' := u0.trans u
  have f1 : s'.F p = none := u.noF at1 fn
  have j1 : s'.J p = none := u.noJ at1 jn
  exact k (mergeD [] ds) (mergeK [] kvs) p (s'.put p (.dK (mergeK [] kvs))) hq (U.mine _ np f1 j1 e1 (fun _ _ z => nomatch z)) np upd_same f1 j1 (Rks_merge rk .nil)
end
end
end Xe
/-! zip of two lists -/
namespace Zr
open L2 PySem PySem.Spec PyProof.Rows
/-- the pairs of what lies in the lists a and b -/
def ItLL (K : PySem.W.Frag) (a b : Addr) : It where
  go := fun i H => ∃ us vs : List V, SqL K H a us ∧ SqL K H b vs ∧ i < us.length ∧ i < vs.length
  yld := fun i H v H' => ∃ T x y, v = .ref T ∧ H T = none ∧ H' = upd H T (.tup [x, y]) ∧ (∀ us, SqL K H a us → us[i]? = some x) ∧ ∀ vs, SqL K H b vs → vs[i]? = some y
  stop := fun i H => ∃ us vs : List V, SqL K H a us ∧ SqL K H b vs ∧ i = min us.length vs.length
structure Cells (z TI TO i1 i2 a b : Addr) (i : Nat) (h : Heap) : Prop where
  zip : IsZip h z TI TO .none
  inn : IsTupOf2 h TI (.ref i1) (.ref i2)
  out : ∃ u v, IsTupOf2 h TO u v
  l : h.IsListIter i1 a i
  r : h.IsListIter i2 b i
section
variable {P : Program} {w : World} {K : PySem.W.Frag} {elts : List Expr} {kk : Nat} {tpos : Pos} {a b z TI TO i1 i2 : Addr} {i : Nat} {h h' : Heap}
theorem any5 {p : Addr → Prop} (h1 : p z) (h2 : p TI) (h3 : p TO) (h4 : p i1) (h5 : p i2) : ∀ c ∈ [z, TI, TO, i1, i2], p c := by
  simp only [List.forall_mem_cons, List.not_mem_nil, false_implies, implies_true, and_true]
  exact ⟨h1, h2, h3, h4, h5⟩
theorem Cells.there (st : Cells z TI TO i1 i2 a b i h) : ∀ c ∈ [z, TI, TO, i1, i2], ∃ o, h.get? c = some o ∧ ∀ v, o.data ≠ .cell v := by
  refine any5 ⟨_, st.zip, fun _ => nofun⟩ ⟨_, st.inn, fun _ => nofun⟩ ?_ ?_ ?_
  · exact st.out.elim fun _ q => q.elim fun _ q => ⟨_, q, fun _ => nofun⟩
  · exact st.l.elim fun o q => ⟨o, q.1, fun v e => by cases q.2.2.symm.trans e⟩
  · exact st.r.elim fun o q => ⟨o, q.1, fun v e => by cases q.2.2.symm.trans e⟩
theorem Cells.stay (st : Cells z TI TO i1 i2 a b i h) (k : ∀ c ∈ [z, TI, TO, i1, i2], ∀ o, h.get? c = some o → h'.get? c = some o) : Cells z TI TO i1 i2 a b i h' where
  zip := k z (by simp) _ st.zip
  inn := k TI (by simp) _ st.inn
  out := st.out.imp fun _ q => q.imp fun _ q => k TO (by simp) _ q
  l := st.l.at (k i1 (by simp))
  r := st.r.at (k i2 (by simp))
theorem fewer {c : Addr} (hb : c ∉ [z, TI, TO, i1, i2]) : c ∉ [z, TO, i1, i2] := fun m => hb (by simp only [List.mem_cons] at m ⊢; exact m.imp_right .inr)
/-- what lies there now, walked by the library's zip -/
theorem now {X : Cx} {pins : List (Addr × Obj)} {s : Shared} {σ : L2.St} {H : Hp} {us vs : List V} (S : ZipSep2 z TI TO i1 i2 [i1, a] [i2, b]) (na : a ≠ i1) (nb : b ≠ i2) (hc : X.calm = true) (I : Inv X pins σ H s) (qa : SqL X.K H a us) (qb : SqL X.K H b vs) :
    ∃ xs ys : List Value, Vals us xs ∧ Vals vs ys ∧ s.heap.IsList a xs.toArray ∧ s.heap.IsList b ys.toArray ∧ ∃ M, WalksT X.prog X.w X.A z (z :: TI :: TO :: ([i1, a] ++ [i2, b])) [z, TO, i1, i2] (min us.length vs.length)
      (fun i m => ∃ x1 x2, xs[i]? = some x1 ∧ ys[i]? = some x2 ∧ m = #[x1, x2]) (fun i h => Cells z TI TO i1 i2 a b i h ∧ h.IsList a xs.toArray ∧ h.IsList b ys.toArray) M := by
  obtain ⟨xs, ra, pa, _⟩ := I.list qa
  obtain ⟨ys, rb, pb, _⟩ := I.list qb
  have hh : X.A.in1.handled = none := I.ok.hd hc
  have W := WalksT.zipD2 (prog := X.prog) (w := X.w) (A := X.A) S (Draws.list hh i1 a na xs.toArray) (Draws.list hh i2 b nb ys.toArray)
  have en : min xs.toArray.size ys.toArray.size = min us.length vs.length := by rw [List.size_toArray, List.size_toArray, ra.length, rb.length]
  rw [en] at W
  refine ⟨xs, ys, ra, rb, pa.isList, pb.isList, _, { sub := W.sub, frame := fun i h h' st k => ?_, item := fun i s Q E hi st f => ?_, go := fun elts k pos i T s Q E m f => ?_, apart := W.apart, done := fun s Q E st f => ?_, self := fun i s Q E st f => wpAny_pyIter_zip st.1.zip f }⟩
  · obtain ⟨c1, c2, c3, c4, c5⟩ := W.frame i h h' ⟨st.1.zip, st.1.inn, st.1.out, ⟨st.1.l, st.2.1⟩, ⟨st.1.r, st.2.2⟩⟩ k
    exact ⟨⟨c1, c2, c3, c4.1, c5.1⟩, c4.2, c5.2⟩
  · refine W.item i s Q E hi ⟨st.1.zip, st.1.inn, st.1.out, ⟨st.1.l, st.2.1⟩, ⟨st.1.r, st.2.2⟩⟩ fun T m h' tk hp => f T m h' tk ?_
    obtain ⟨x1, x2, e1, e2, e3⟩ := hp
    exact ⟨x1, x2, by simpa using e1, by simpa using e2, e3⟩
  · refine W.go elts k pos i T s Q E m fun h' c => f h' ?_
    obtain ⟨c1, c2, c3, c4, c5⟩ := c
    exact ⟨⟨c1, c2, c3, c4.1, c5.1⟩, c4.2, c5.2⟩
  · exact W.done s Q E ⟨st.1.zip, st.1.inn, st.1.out, ⟨st.1.l, st.2.1⟩, ⟨st.1.r, st.2.2⟩⟩ f
theorem turn (S : ZipSep2 z TI TO i1 i2 [i1, a] [i2, b]) (na : a ≠ i1) (nb : b ≠ i2) : Turn P w K (.Tuple elts kk tpos) (ItLL K a b) [z, TI, TO, i1, i2] z (Cells z TI TO i1 i2 a b) := by
  refine { mem := List.mem_cons_self .., obj := fun _ _ st => st.there, keep := fun _ _ _ st k => st.stay k, item := ?_, done := ?_, self := fun _ _ _ _ _ st f => wpAny_pyIter_zip st.zip f }
  · rintro X rfl rfl rfl hc i pins s σ H E I hf st ⟨us, vs, qa, qb, la, lb⟩
    obtain ⟨xs, ys, ra, rb, pa, pb, M, W⟩ := now S na nb hc I qa qb
    refine W.item i s _ E (by omega) ⟨st, pa, pb⟩ fun T m h1 tk hp hT hTup mid k1 => ⟨.ref T, rfl, W.go elts kk tpos i T _ _ _ mid fun h2 st2 k2 => ?_⟩
    obtain ⟨x1, x2, g1, g2, rfl⟩ := hp
    obtain ⟨y1, f1, r1⟩ := ra.get (List.getElem?_eq_getElem la)
    obtain ⟨y2, f2, r2⟩ := rb.get (List.getElem?_eq_getElem lb)
    cases f1.symm.trans g1
    cases f2.symm.trans g2
    have new : ObjOk X.prog X.w (upd H T (.tup [us[i], vs[i]])) h2 T (.tup [us[i], vs[i]]) := ⟨by show 2 ≤ sizeLine; decide, [x1, x2], .cons r1 (.cons r2 .nil), hTup.at fun o q => k2 T o (W.apart _ _ _ mid) q⟩
    refine ⟨.ref T, _, I.turnedNew (t' := tk) (fun c o hb q => k2 c o (fewer hb) (k1 c o (fewer hb) q)) hf hT new, rfl, ⟨T, _, _, rfl, I.hok.fresh hT, rfl, fun l hl => ?_, fun l hl => ?_⟩, st2.1, fun c hcm => ?_⟩
    · cases I.list_inj hl qa
      exact List.getElem?_eq_getElem la
    · cases I.list_inj hl qb
      exact List.getElem?_eq_getElem lb
    · obtain ⟨o, ho, _⟩ := st.there c hcm
      exact (upd_ne (Nat.ne_of_lt (Nat.lt_of_lt_of_le (Heap.lt_size ho) hT))).trans (hf c hcm).1
  · rintro X rfl rfl rfl hc i pins s σ H E I hf st ⟨us, vs, qa, qb, rfl⟩
    obtain ⟨xs, ys, ra, rb, pa, pb, M, W⟩ := now S na nb hc I qa qb
    exact W.done s _ E ⟨st, pa, pb⟩ fun h' tk k => ⟨rfl, I.turnedL (t' := tk) (fun c o hb q => k c o (fewer hb) q) hf⟩
end
def iZipLL (K : PySem.W.Frag) (ta : TA) : TI := fun σ H R => ta σ H fun m H1 => ∃ a b us vs, m = [.ref a, .ref b] ∧ SqL K H1 a us ∧ SqL K H1 b vs ∧ R (ItLL K a b) H1
theorem pi_zipLL {X : Cx} {e e2 : Expr} {ta : TA} {p pos tpos : Pos} {elts : List Expr} {kk : Nat} (hg : Gl X "zip") (hm : X.mg "zip" = none) (ha : PA X [e, e2] ta)
    (hs : starEach [e, e2] X.env = (false, eval e X.env) :: starEach [e2] X.env := by rfl) (hpl : (backTo pos (starEach [e2] X.env)).any (·.1) = false := by rfl) : PI X (.Tuple elts kk tpos) (.Call (.Name "zip" p) [e, e2] [] pos) (iZipLL X.K ta) := by
  refine ⟨fun pins s σ H R I h => Call_ (ld_blt I hg hm PyProof.Rows.boot_zip (PyProof.Rows.callWith_type1 (thn (ha.run pos pins s σ H _ I h) fun us s1 ⟨m, H1, I1, r1, q1⟩ => ?_) hs hpl))⟩
  obtain ⟨a, b, us, vs, rfl, qa, qb, q⟩ := q1
  obtain ⟨u1, u2, rfl, rfl, rfl⟩ := vals2 r1
  obtain ⟨xs, ra, pa, _⟩ := I1.list qa
  obtain ⟨ys, rb, pb, _⟩ := I1.list qb
  have la : a < s1.heap.objs.size := pa.lt
  have lb : b < s1.heap.objs.size := pb.lt
  refine zip_begins2 (begins_list a xs.toArray) (begins_list b ys.toArray) pa.isList pb.isList fun h' hz hTI hTO h1 h2 hsz hk => wpAny_pyIter_zip hz ?_
  have hle : ∀ c ∈ [s1.heap.objs.size + 4, s1.heap.objs.size + 2, s1.heap.objs.size + 3, s1.heap.objs.size, s1.heap.objs.size + 1], s1.heap.objs.size ≤ c := any5 (Nat.le_add_right _ _) (Nat.le_add_right _ _) (Nat.le_add_right _ _) (Nat.le_refl _) (Nat.le_add_right _ _)
  exact ⟨_, _, _, _, H1, rfl, I1.kept (t' := s1.toks) hk, turn (zip_sep2 (fun c hc => by cases List.mem_singleton.mp hc; exact la) (fun c hc => by cases List.mem_singleton.mp hc; exact lb)) (Nat.ne_of_lt la) (Nat.ne_of_lt (Nat.lt_of_lt_of_le lb (Nat.le_add_right _ 1))),
    { zip := hz, inn := hTI, out := ⟨_, _, hTO⟩, l := ⟨_, h1, rfl, rfl⟩, r := ⟨_, h2, rfl, rfl⟩ }, fun c hcm => I1.fpOk (hle c hcm) (I1.hok.fresh (hle c hcm)), q⟩
end Zr
/-! code over data: zip of two lists -/
namespace Xe
open PySem hiding Env
open PySem.Spec PyProof.Rows L2 Dl
noncomputable section
section
variable {X : Cx} {s0 : Wd} {a b tg : Expr} {ta tb : DE} {pos p : Pos}
theorem walkZLL {K : PySem.W.Frag} {a b : Addr} {xs ys : List V} : Walk (Zr.ItLL K a b) (min xs.length ys.length) (fun H => SqL K H a xs ∧ SqL K H b ys) (YPair (fun i => xs[i]?) (fun i => ys[i]?)) := by
  refine ⟨fun i _ hi q => ⟨xs, ys, q.1, q.2, by omega, by omega⟩, fun _ q => ⟨xs, ys, q.1, q.2, rfl⟩, fun i H v H' _ q y => ?_⟩
  obtain ⟨T, x, z, isT, new, laid, left, right⟩ := y
  exact ⟨T, x, z, isT, new, laid, left xs q.1, right ys q.2⟩
theorem walkD_zipLL {K : PySem.W.Frag} {s1 : Wd} {a b : Addr} {vs us : List V} {ds es : List Dt} (h : s1.F a = some (.lst vs)) (r : Rvs s1.J s1.F vs ds) (h2 : s1.F b = some (.lst us)) (r2 : Rvs s1.J s1.F us es) : WalkD s1 (Zr.ItLL K a b) (zipD ds es) :=
  ⟨fun H => SqL K H a vs ∧ SqL K H b us, _, (by rw [zipD_len, ← r.length, ← r2.length]; exact walkZLL (xs := vs) (ys := us)), fun s f => ⟨SqL.of (f.ok.sub _ _ (f.fr _ _ h)), SqL.of (f.ok.sub _ _ (f.fr _ _ h2))⟩, fun i s x H' hi f y => zip_yield r r2 f y⟩
theorem pdi_zipLL {tpos : Pos} {elts : List Expr} {kk : Nat} (hg : Gl X "zip") (hm : X.mg "zip" = none) (ha : PE X a (cE s0 ta)) (hb : PE X b (cE s0 tb)) (hs : starEach [a, b] X.env = (false, eval a X.env) :: starEach [b] X.env := by rfl) (hs2 : starEach [b] X.env = (false, eval b X.env) :: starEach [] X.env := by rfl) (hpl : (backTo pos (starEach [b] X.env)).any (·.1) = false := by rfl) :
    PI X (.Tuple elts kk tpos) (.Call (.Name "zip" p) [a, b] [] pos) (cI s0 (fun ρ q => ta ρ fun x => tb ρ fun y => match x, y with | .lst xs, .lst ys => q (zipD xs ys) | _, _ => False)) := piI (Zr.pi_zipLL hg hm (pa_cons ha (pa_cons hb pa_nil hs2) hs) hs hpl) fun σ H R ⟨s, ρ, q, e, Rr, t, k⟩ =>
  ⟨s, ρ, _, e, Rr, t, fun d v s' t1 u r1 => ⟨s', ρ, _, rfl, Rr.up' u, t1, fun d2 v2 s2 t2 u2 r2 => by
    have r1' := r1.up u2
    cases r1' with
    | lst h r =>
      cases r2 with
      | lst h2 r2 =>
        exact ⟨_, _, _, _, rfl, SqL.of (u2.ok.sub _ _ h), SqL.of (u2.ok.sub _ _ h2), k _ _ s2 t2 (u.trans u2) (walkD_zipLL h r h2 r2)⟩
      | _ => exact False.elim t2
    | _ => cases r2 <;> exact False.elim t2⟩⟩
end
section
variable {X : Cx} {s0 : Wd} {xe : Xi → Prop} {a b : Expr} {ca cb : Env → M Dt} {pos p : Pos}
def xZipLL (ca cb : Env → M Dt) : Env → M (List Dt) := fun ρ => bd (ca ρ) fun x => bd (cb ρ) fun y => match x, y with | .lst xs, .lst ys => .ret (zipD xs ys) | _, _ => .no
theorem pxi_zipLL {tpos : Pos} {elts : List Expr} {kk : Nat} (hg : Gl X "zip") (hm : X.mg "zip" = none) (ha : PE X a (cE s0 (Rg xe ca))) (hb : PE X b (cE s0 (Rg xe cb))) (hs : starEach [a, b] X.env = (false, eval a X.env) :: starEach [b] X.env := by rfl) (hs2 : starEach [b] X.env = (false, eval b X.env) :: starEach [] X.env := by rfl) (hpl : (backTo pos (starEach [b] X.env)).any (·.1) = false := by rfl) :
    PI X (.Tuple elts kk tpos) (.Call (.Name "zip" p) [a, b] [] pos) (cI s0 (Rg xe (xZipLL ca cb))) := piR (pdi_zipLL hg hm ha hb hs hs2 hpl) fun ρ q z => (sat_bd.mp z).imp fun x z => (sat_bd.mp z).imp fun y z => by cases x <;> cases y <;> exact z
end
end
end Xe
/-! the turns of a law -/
namespace Xe
open PySem hiding Env
open PySem.Spec PyProof.Rows L2 Dl
/-- an env that tells less -/
noncomputable def Le (ρ' ρ : Env) : Prop := ρ'.length = ρ.length ∧ ∀ i, eg ρ' i = .no ∨ eg ρ' i = eg ρ i
theorem Rp_weak {s0 s : Wd} {ρ ρ' : Env} {σ : L2.St} (R : Rp s0 s ρ σ) (h : Le ρ' ρ) : Rp s0 s ρ' σ := by
  have to : ∀ {i : Nat} {y : Sl}, y ≠ .no → eg ρ' i = y → eg ρ i = y := fun {i y} n e => by
    rcases h.2 i with z | z
    · rw [z] at e; exact absurd e.symm n
    · rw [← z]; exact e
  exact ⟨R.up, by rw [R.len]; exact h.1.symm, fun i d e => R.va i d (to (fun z => nomatch z) e), fun i ds e => R.ow i ds (to (fun z => nomatch z) e), fun i j ds es a e1 e2 => R.ap i j ds es a (to (fun z => nomatch z) e1) (to (fun z => nomatch z) e2)⟩
noncomputable def dWeak (t : DS) : DS := fun D ρ => ∃ ρ', Le ρ' ρ ∧ t D ρ'
theorem pzs_weak {X : Cx} {s0 : Wd} {rest : List Stmt} {xe : Xi → Prop} {c : Env → M Out} (h : PSs X rest (cS s0 (RS xe c))) : PSs X rest (cS s0 (dWeak (RS xe c))) := pssI h fun B σ H ⟨s, ρ, D, e, R, ⟨ρ', le, t⟩, l⟩ => ⟨s, ρ', D, e, Rp_weak R le, t, l⟩
noncomputable def goodB (n : Nat) : Out → Bool
  | .nx ρ => Nat.beq ρ.length n
  | .ct ρ => Nat.beq ρ.length n
  | _ => false
theorem law_turns {K : PySem.W.Frag} {N : List Str} {n : Nat} (hn : N.length = n + 2) {c : Env → M Out} (turn : sat (c (.no :: .va .die :: List.replicate n .no)) (fun o => goodB (n + 2) o = true) N0) {z : Dt} {ns : List Int} {high : Int} {q : Dt → Prop} {xd : Xd → Prop}
    (hS : IsScr K z ns) (hl : ns.length ≤ 1000) (h0 : 0 ≤ high) (h5 : high ≤ 5) (hq : q (.bl true)) :
    dSeq (dFor (dSeqI (dCall (spRounds K) xd (dCons (dVar 0) (dCons (dC (.int high)) dNil)))) (dName 1) (dWeak (RS N0 c))) (dRet (dC (.bl true))) (rtE q) (startE N [z]) := by
  have e0 : startE N [z] = .va z :: List.replicate (n + 1) .no := by
    unfold startE
    rw [hn]
    rfl
  have l0 : (startE N [z]).length = n + 2 := by rw [e0, List.length_cons, List.length_replicate]
  have first : eg (startE N [z]) 0 = .va z := by rw [e0]; rfl
  simp only [dSeq, dFor, dSeqI, dCall, dCons, dVar, dC, dNil, first]
  refine ⟨z, ns, high, rfl, hS, hl, h0, h5, fun k hk => ?_⟩
  refine forR_inv (fun i ρ => ρ.length = n + 2) l0 (fun i d ρ D hd hρ nx ct rt bk => ?_) (fun ρ hρ => hq)
  have ed : d = .die := List.eq_of_mem_replicate (List.mem_of_getElem? hd)
  subst ed
  refine ⟨.no :: .va .die :: List.replicate n .no, ⟨by rw [ep_len, hρ]; simp, fun j => ?_⟩, ?_⟩
  · match j with
    | 0 => exact .inl rfl
    | 1 => exact .inr (by rw [eg_ep _ _ _ (by omega)]; rfl)
    | j + 2 => exact .inl (eg_no n j)
  · refine turn.mono (fun o h => ?_) (fun x h => h)
    cases o with
    | nx ρ' => exact nx ρ' (Nat.eq_of_beq_eq_true h)
    | ct ρ' => exact ct ρ' (Nat.eq_of_beq_eq_true h)
    | bk _ => exact nomatch h
    | rt _ => exact nomatch h
/-! ### what is no longer asked is forgotten -/
theorem le_wipe (ρ : Env) : ∀ ws : List Nat, Le (wipeE ρ ws) ρ
  | [] => ⟨rfl, fun _ => .inr rfl⟩
  | v :: ws => by
    have ih := le_wipe ρ ws
    refine ⟨by show (ep (wipeE ρ ws) v .no).length = _; rw [ep_len]; exact ih.1, fun i => ?_⟩
    show eg (ep (wipeE ρ ws) v .no) i = .no ∨ eg (ep (wipeE ρ ws) v .no) i = _
    by_cases h : i = v
    · subst h
      by_cases l : i < (wipeE ρ ws).length
      · exact .inl (eg_ep _ _ _ l)
      · refine .inl ?_
        cases w : eg (ep (wipeE ρ ws) i .no) i with
        | no => rfl
        | _ => exact absurd (by have := eg_lt (ρ := ep (wipeE ρ ws) i .no) (i := i) (by rw [w]; exact nofun); rwa [ep_len] at this) l
    · rw [eg_ne _ _ _ _ h]
      exact ih.2 i
noncomputable def xWipe (ws : List Nat) (c : Env → M Out) : Env → M Out := fun ρ => rb (wipeE ρ ws) c
theorem sxs_wipe {X : Cx} {s0 : Wd} {rest : List Stmt} {xe : Xi → Prop} {c : Env → M Out} {ws : List Nat} (h : PSs X rest (cS s0 (RS xe c))) : PSs X rest (cS s0 (RS xe (xWipe ws c))) := pssI h fun B σ H ⟨s, ρ, D, e, R, t, l⟩ => ⟨s, wipeE ρ ws, D, e, Rp_weak R (le_wipe ρ ws), by
  have t : sat (rb (wipeE ρ ws) c) (outP D) xe := t
  rw [rb_eq] at t
  exact t, l⟩
/-! ### a roll taken apart -/
noncomputable def pick {α : Type} (m : M α) (r : Nat) : M α := match m with | .roll _ k => k (Int.ofNat r) | _ => .no
noncomputable def rollB {α : Type} (m : M α) (n : Nat) : Bool := match m with | .roll i _ => (decide (0 < i) && decide (i < 1000000)) && Nat.beq i.toNat n | _ => false
theorem sat_pick {α : Type} {m : M α} {n : Nat} {q : α → Prop} {e : Xi → Prop} (h : rollB m n = true) (k : ∀ r, r < n → sat (pick m r) q e) : sat m q e := by
  cases m with
  | roll i f =>
    have h : ((decide (0 < i) && decide (i < 1000000)) && Nat.beq i.toNat n) = true := h
    rw [Bool.and_eq_true, Bool.and_eq_true] at h
    have h1 := of_decide_eq_true h.1.1
    have h2 := of_decide_eq_true h.1.2
    have h3 : i.toNat = n := Nat.eq_of_beq_eq_true h.2
    refine ⟨h1, h2, fun r r0 r1 => ?_⟩
    have e1 : r = Int.ofNat r.toNat := by show r = (r.toNat : Int); omega
    have := k r.toNat (by omega)
    rw [e1]
    exact this
  | _ => exact nomatch h
noncomputable def allR (a n : Nat) (f : Nat → Bool) : Bool := Nat.rec true (fun i ih => match f (a + i) with | true => ih | false => false) n
theorem allR_ok {a : Nat} {f : Nat → Bool} : ∀ {n : Nat}, allR a n f = true → ∀ r, a ≤ r → r < a + n → f r = true
  | 0, _, r, h1, h2 => by omega
  | n + 1, h, r, h1, h2 => by
    replace h : (match f (a + n) with | true => allR a n f | false => false) = true := h
    cases w : f (a + n) with
    | false => rw [w] at h; exact nomatch h
    | true =>
      rw [w] at h
      by_cases e : r = a + n
      · rw [e]; exact w
      · exact allR_ok (n := n) h r h1 (by omega)
end Xe
/-! the defs of the row as code over data -/
namespace K26
open PySem hiding Env
open L2 Dl Xe
abbrev N_is_letter : List Str := ["thing"]
abbrev N_need_text : List Str := ["thing", "sign"]
abbrev N_first_fall : List Str := ["text", "size", "at"]
abbrev N_round_of : List Str := ["text", "k"]
abbrev N_falls : List Str := ["text", "told", "start", "size", "often"]
abbrev N__law_cell : List Str := ["_law_script", "_law_k"]
abbrev N__law_drawn : List Str := ["_law_cell_here", "_law_k", "_law_more"]
abbrev N__law_roll : List Str := ["_law_dice", "_law_many", "_law_told_here"]
abbrev N__law_rounds : List Str := ["_law_script", "_law_high", "_law_k"]
abbrev N__law_term : List Str := ["_law_e", "_law_flags", "_law_kinds", "_law_flag"]
abbrev N__law_told : List Str := ["_law_deed", "_law_e"]
abbrev N__law_turns : List Str := ["_law_text", "_law_at"]
abbrev N__law_is_simple : List Str := ["_law_text", "_law_one"]
abbrev N__law_ways_to_fall : List Str := ["_law_text", "_law_found", "_law_many", "_law_rests", "_law_rest"]
abbrev N_law : List Str := ["_law_script", "_law_dice", "_law_letters", "_law_text", "_law_found", "_law_short", "_law_one", "_law_bad", "_law_turn", "_law_other"]
noncomputable def c__law_turns : Env → M Out := (xRet (xL (xLc (xR1 (xCB gLenS (xCons (xVar 0) xNil))) [1] (xName 1) xYes (xOp fAddS (xSl gSlS (xVar 0) (xP (xVar 1)) xNoP) (xSl gSlS (xVar 0) xNoP (xP (xVar 1)))))))
noncomputable def x__law_turns : List Dt → M Dt := fnX 1 N__law_turns c__law_turns
noncomputable def c__law_is_simple : Env → M Out := (xRet (xOp (fEqS false) (xCB gLen (xCons (xL (xLc (xSeqL (xL (xSlL (xCB x__law_turns (xCons (xVar 0) xNil)) (xP (xC (.int 1))) xNoP))) [1] (xName 1) (xB (xOp (fS0 tLe) (xVar 1) (xVar 0))) (xVar 1))) xNil)) (xC (.int 0))))
noncomputable def x__law_is_simple : List Dt → M Dt := fnX 1 N__law_is_simple c__law_is_simple
noncomputable def c__law_ways_to_fall (r__law_ways_to_fall : List Dt → M Dt) : Env → M Out := (xSeq (xIf (xB (xOp (fEqS false) (xVar 0) (xC (.str ⟨#[]⟩)))) (xRet (xL (xCons (xL xNil) xNil))) xNext) (xSeq (xSet 1 (xL xNil)) (xSeq (xFor (xR2 (xC (.int 1)) (xOp (fI gAdd) (xCB gLenS (xCons (xVar 0) xNil)) (xC (.int 1)))) (xName 2) (xIf (xB (xCB x__law_is_simple (xCons (xSl gSlS (xVar 0) xNoP (xP (xVar 2))) xNil))) (xSeq (xSet 3 (xCB r__law_ways_to_fall (xCons (xSl gSlS (xVar 0) (xP (xVar 2)) xNoP) xNil))) (xSet 1 (xL (xOpO fCat (xVar 1) (xL (xLc (xSeqL (xVar 3)) [4] (xName 4) (xOr (xB (xOp (fEqP false) (xVar 4) (xL xNil))) (xB (xOp (fS0 tLe) (xOp fIx (xVar 4) (xC (.int 0))) (xSl gSlS (xVar 0) xNoP (xP (xVar 2)))))) (xL (xOpO fCat (xL (xCons (xSl gSlS (xVar 0) xNoP (xP (xVar 2))) xNil)) (xVar 4))))))))) xNext)) (xRet (xVar 1)))))
noncomputable def x__law_ways_to_fall (n : Nat) : List Dt → M Dt := Nat.rec (motive := fun _ => List Dt → M Dt) x0 (fun _ ih => fnX 1 N__law_ways_to_fall (c__law_ways_to_fall ih)) n
noncomputable def c_first_fall : Env → M Out := (xSeq (xSet 1 (xC (.int 1))) (xSeq (xSet 2 (xC (.int 1))) (xSeq (whX (xAnd (xB (xOp (fI gLt) (xVar 2) (xCB gLenS (xCons (xVar 0) xNil)))) (xB (xOp (fS0 tLe) (xOp fIx (xVar 0) (xOp (fI gSub) (xVar 2) (xVar 1))) (xOp fIx (xVar 0) (xVar 2))))) (xSeq (xIf (xB (xOp (fS0 tLt) (xOp fIx (xVar 0) (xOp (fI gSub) (xVar 2) (xVar 1))) (xOp fIx (xVar 0) (xVar 2)))) (xSet 1 (xOp (fI gAdd) (xVar 2) (xC (.int 1)))) xNext) (xAug 2 (fun i j => i + j) (xC (.int 1)))) 1000) (xRet (xTup (xCons (xVar 1) (xCons (xOp (fIC cDiv gDiv) (xVar 2) (xVar 1)) xNil)))))))
noncomputable def x_first_fall : List Dt → M Dt := fnX 1 N_first_fall c_first_fall
noncomputable def c_is_letter : Env → M Out := (xRet (xAndV (xIsi "str" iStr (xVar 0)) (xAndV (xOp (fEqS false) (xCB gLenS (xCons (xVar 0) xNil)) (xC (.int 1))) (xV (xChain (fS0 tLe) (fS0 tLe) (xC (.str ⟨#[97]⟩)) (xVar 0) (xC (.str ⟨#[122]⟩)))))))
noncomputable def x_is_letter : List Dt → M Dt := fnX 1 N_is_letter c_is_letter
noncomputable def c_need_text : Env → M Out := (xIf (xOr (xNot (xB (xIsi "str" iStr (xVar 0)))) (xOr (xB (xOp (fI gGt) (xCB gLenS (xCons (xVar 0) xNil)) (xC (.int 60)))) (xNot (xB (xAA false (xSeqS (xVar 0)) [1] (xName 1) xYes (xCB x_is_letter (xCons (xVar 1) xNil))))))) (xRaise 10) xNext)
noncomputable def x_need_text : List Dt → M Dt := fnX 1 N_need_text c_need_text
noncomputable def c_falls : Env → M Out := (xSeq (xDrop (xCB x_need_text (xCons (xVar 0) xNil))) (xSeq (xSetO 1 xNil) (xSeq (xSet 2 (xC (.int 0))) (xSeq (whX (xB (xOp (fI gLt) (xVar 2) (xCB gLenS (xCons (xVar 0) xNil)))) (xSeq (xAsg (xCB x_first_fall (xCons (xSl gSlS (xVar 0) (xP (xVar 2)) xNoP) xNil)) (xName2 3 4)) (xSeq (xExt 1 (xL (xOpO fRep (xL (xCons (xSl gSlS (xVar 0) (xP (xVar 2)) (xP (xOp (fI gAdd) (xVar 2) (xVar 3)))) xNil)) (xVar 4)))) (xAug 2 (fun i j => i + j) (xOp (fIC cMul gMul) (xVar 3) (xVar 4))))) 1000) (xFrz 1 (xRet (xVar 1)))))))
noncomputable def x_falls : List Dt → M Dt := fnX 1 N_falls c_falls
noncomputable def c_round_of : Env → M Out := (xSeq (xDrop (xCB x_need_text (xCons (xVar 0) xNil))) (xRet (xMinTD ⟨#[]⟩ (xL (xLc (xR1 (xCB gLenS (xCons (xVar 0) xNil))) [1] (xName 1) xYes (xOp fAddS (xSl gSlS (xVar 0) (xP (xVar 1)) xNoP) (xSl gSlS (xVar 0) xNoP (xP (xVar 1)))))))))
noncomputable def x_round_of : List Dt → M Dt := fnX 1 N_round_of c_round_of
noncomputable def c_turn : Env → M Out := (xSeq (xSet 2 (xOp fIx (xL (xCons (xC (.str ⟨#[97, 98]⟩)) (xCons (xC (.str ⟨#[97, 98, 99]⟩)) (xCons (xC (.str ⟨#[120, 121, 122]⟩)) xNil)))) (xCB x__law_roll (xCons (xVar 1) (xCons (xC (.int 3)) xNil))))) (xSeq (xSet 3 (xMt tyS g_join (xC (.str ⟨#[]⟩)) (xCons (xL (xLc (xR1 (xCB x__law_roll (xCons (xVar 1) (xCons (xC (.int 41)) xNil)))) [8] (xName 8) xYes (xOp fIx (xVar 2) (xCB x__law_roll (xCons (xVar 1) (xCons (xCB gLenS (xCons (xVar 2) xNil)) xNil)))))) xNil))) (xWipe [1, 2, 8] (xSeq (xSet 4 (xCB x_falls (xCons (xVar 3) xNil))) (xSeq (xIf (xOr (xB (xOp (fEqS true) (xMt tyS g_join (xC (.str ⟨#[]⟩)) (xCons (xVar 4) xNil)) (xVar 3))) (xB (xOp (fEqP true) (xL (xLc (xSeqL (xVar 4)) [6] (xName 6) (xNot (xB (xCB x__law_is_simple (xCons (xVar 6) xNil)))) (xVar 6))) (xL xNil)))) (xRet (xC (.bl false))) xNext) (xSeq (xIf (xB (xOp (fEqP true) (xL (xLc (xZipLL (xVar 4) (xL (xSlL (xVar 4) (xP (xC (.int 1))) xNoP))) [6, 9] (xName2 6 9) (xB (xOp (fS0 tLt) (xVar 6) (xVar 9))) (xVar 6))) (xL xNil))) (xRet (xC (.bl false))) xNext) (xWipe [9] (xSeq (xSet 5 (xSl gSlS (xVar 3) xNoP (xP (xC (.int 8))))) (xWipe [3] (xSeq (xIf (xOr (xB (xOp (fEqP true) (xL (xCons (xCB x_falls (xCons (xVar 5) xNil)) xNil)) (xCB (x__law_ways_to_fall 10) (xCons (xVar 5) xNil)))) (xB (xOp (fEqP true) (xCB x_falls (xCons (xC (.str ⟨#[]⟩)) xNil)) (xL xNil)))) (xRet (xC (.bl false))) xNext) (xWipe [5] (xSeq (xFor (xSeqL (xL (xSlL (xVar 4) xNoP (xP (xC (.int 3)))))) (xName 6) (xSeq (xIf (xOr (xB (xOp (fEqP true) (xCB x_falls (xCons (xVar 6) xNil)) (xL (xCons (xVar 6) xNil)))) (xB (xOp (fEqS true) (xCB x_round_of (xCons (xVar 6) xNil)) (xVar 6)))) (xRet (xC (.bl false))) xNext) (xIf (xAnd (xB (xOp (fI gLt) (xCB gLenS (xCons (xVar 6) xNil)) (xC (.int 31)))) (xB (xOp (fEqP true) (xCB x_falls (xCons (xOp fAddS (xVar 6) (xVar 6)) xNil)) (xL (xCons (xVar 6) (xCons (xVar 6) xNil)))))) (xRet (xC (.bl false))) xNext))) (xWipe [4, 6] (xSeq (xFor (xSeqL (xL (xCons (xC .non) (xCons (xC (.int 5)) (xCons (xC (.str ⟨#[65]⟩)) (xCons (xC (.str ⟨#[97, 32, 98]⟩)) (xCons (xL (xCons (xC (.str ⟨#[97]⟩)) xNil)) (xCons (xOp fMulS (xC (.str ⟨#[97]⟩)) (xC (.int 61))) xNil)))))))) (xName 7) (xSeq (xIf (xB (xOp (fEqP true) (xTold (xCB x_falls (xCons (xVar 7) xNil))) (xTup (xCons (xC (.str ⟨#[114, 101, 102, 117, 115, 101, 100]⟩)) (xCons (xC (.str ⟨#[66, 97, 100, 87, 111, 114, 100]⟩)) xNil))))) (xRet (xC (.bl false))) xNext) (xIf (xB (xOp (fEqP true) (xTold (xCB x_round_of (xCons (xVar 7) xNil))) (xTup (xCons (xC (.str ⟨#[114, 101, 102, 117, 115, 101, 100]⟩)) (xCons (xC (.str ⟨#[66, 97, 100, 87, 111, 114, 100]⟩)) xNil))))) (xRet (xC (.bl false))) xNext))) (xWipe [7] (xIf (xOr (xB (xOp (fEqP true) (xCB x_falls (xCons (xOp fMulS (xC (.str ⟨#[97]⟩)) (xC (.int 60))) xNil)) (xL (xOpO fRep (xL (xCons (xC (.str ⟨#[97]⟩)) xNil)) (xC (.int 60)))))) (xB (xOp (fEqP true) (xCB x_falls (xCons (xC (.str ⟨#[98, 97]⟩)) xNil)) (xL (xCons (xC (.str ⟨#[98]⟩)) (xCons (xC (.str ⟨#[97]⟩)) xNil)))))) (xRet (xC (.bl false))) xNext))))))))))))))))
end K26
/-! the defs of the row -/
namespace K26
open PySem PySem.Spec PyProof.Rows L2 Dl
def topS (i : Nat) : Stmt := PySem.Challenge.pw_countworks_k26_whole_falls.main.body.getD i (.Pass ⟨0, 0, 0, 0⟩)
abbrev s_is_letter : Stmt := topS 18
theorem sc_is_letter : FnScope N_is_letter ["thing"] (defScope s_is_letter) := ⟨rfl, rfl, rfl, by decide +kernel, rfl, by decide +kernel, by decide +kernel⟩
abbrev s_need_text : Stmt := topS 21
theorem sc_need_text : FnScope N_need_text ["thing"] (defScope s_need_text) := ⟨rfl, rfl, rfl, by decide +kernel, rfl, by decide +kernel, by decide +kernel⟩
abbrev s_first_fall : Stmt := topS 22
theorem sc_first_fall : FnScope N_first_fall ["text"] (defScope s_first_fall) := ⟨rfl, rfl, rfl, by decide +kernel, rfl, by decide +kernel, by decide +kernel⟩
abbrev s_round_of : Stmt := topS 23
theorem sc_round_of : FnScope N_round_of ["text"] (defScope s_round_of) := ⟨rfl, rfl, rfl, by decide +kernel, rfl, by decide +kernel, by decide +kernel⟩
abbrev s_falls : Stmt := topS 24
theorem sc_falls : FnScope N_falls ["text"] (defScope s_falls) := ⟨rfl, rfl, rfl, by decide +kernel, rfl, by decide +kernel, by decide +kernel⟩
abbrev s__law_cell : Stmt := topS 26
theorem sc__law_cell : FnScope N__law_cell ["_law_script", "_law_k"] (defScope s__law_cell) := ⟨rfl, rfl, rfl, by decide +kernel, rfl, by decide +kernel, by decide +kernel⟩
abbrev s__law_drawn : Stmt := topS 27
theorem sc__law_drawn : FnScope N__law_drawn ["_law_cell_here", "_law_k"] (defScope s__law_drawn) := ⟨rfl, rfl, rfl, by decide +kernel, rfl, by decide +kernel, by decide +kernel⟩
abbrev s__law_roll : Stmt := topS 28
theorem sc__law_roll : FnScope N__law_roll ["_law_dice", "_law_many"] (defScope s__law_roll) := ⟨rfl, rfl, rfl, by decide +kernel, rfl, by decide +kernel, by decide +kernel⟩
abbrev s__law_rounds : Stmt := topS 29
theorem sc__law_rounds : FnScope N__law_rounds ["_law_script", "_law_high"] (defScope s__law_rounds) := ⟨rfl, rfl, rfl, by decide +kernel, rfl, by decide +kernel, by decide +kernel⟩
abbrev s__law_term : Stmt := topS 30
theorem sc__law_term : FnScope N__law_term ["_law_e"] (defScope s__law_term) := ⟨rfl, rfl, rfl, by decide +kernel, rfl, by decide +kernel, by decide +kernel⟩
abbrev s__law_told : Stmt := topS 31
theorem sc__law_told : FnScope N__law_told ["_law_deed"] (defScope s__law_told) := ⟨rfl, rfl, rfl, by decide +kernel, rfl, by decide +kernel, by decide +kernel⟩
abbrev s__law_turns : Stmt := topS 32
theorem sc__law_turns : FnScope N__law_turns ["_law_text"] (defScope s__law_turns) := ⟨rfl, rfl, rfl, by decide +kernel, rfl, by decide +kernel, by decide +kernel⟩
abbrev s__law_is_simple : Stmt := topS 33
theorem sc__law_is_simple : FnScope N__law_is_simple ["_law_text"] (defScope s__law_is_simple) := ⟨rfl, rfl, rfl, by decide +kernel, rfl, by decide +kernel, by decide +kernel⟩
abbrev s__law_ways_to_fall : Stmt := topS 34
theorem sc__law_ways_to_fall : FnScope N__law_ways_to_fall ["_law_text"] (defScope s__law_ways_to_fall) := ⟨rfl, rfl, rfl, by decide +kernel, rfl, by decide +kernel, by decide +kernel⟩
abbrev s_law : Stmt := topS 35
theorem sc_law : FnScope N_law ["_law_script"] (defScope s_law) := ⟨rfl, rfl, rfl, by decide +kernel, rfl, by decide +kernel, by decide +kernel⟩
end K26
/-! the head of the row: facts by names, the run -/
namespace K26
open L2 PySem PySem.Spec PyProof.Rows Dl
noncomputable def fn0 : List He.DefD := [dd "is_letter" s_is_letter, dd "need_text" s_need_text, dd "first_fall" s_first_fall, dd "round_of" s_round_of, dd "falls" s_falls, dd "_law_cell" s__law_cell, dd "_law_drawn" s__law_drawn, dd "_law_roll" s__law_roll]
noncomputable def fn1 : List He.DefD := [dd "_law_rounds" s__law_rounds, dd "_law_term" s__law_term, dd "_law_told" s__law_told, dd "_law_turns" s__law_turns, dd "_law_is_simple" s__law_is_simple, dd "_law_ways_to_fall" s__law_ways_to_fall, dd "law" s_law]
noncomputable def fns : List He.DefD := fn0 ++ fn1
noncomputable def fa0 : List He.Fa := [.glo "is_letter", .glo "need_text", .glo "first_fall", .glo "round_of", .glo "falls", .glo "_law_cell", .glo "_law_drawn", .glo "_law_roll"]
noncomputable def fa1 : List He.Fa := [.glo "_law_rounds", .glo "_law_term", .glo "_law_told", .glo "_law_turns", .glo "_law_is_simple", .glo "_law_ways_to_fall", .glo "law", .free "len"]
noncomputable def fa2 : List He.Fa := [.free "isinstance", .free "str", .free "tuple", .free "dict", .free "int", .free "bool", .free "all", .free "any"]
noncomputable def fa3 : List He.Fa := [.free "list", .free "sorted", .free "set", .free "range", .free "max", .free "min", .free "sum", .free "enumerate"]
noncomputable def fa4 : List He.Fa := [.free "zip", .free "reversed", .free "abs", .free "ValueError", .int "MOST_TEXT" 60]
noncomputable def fas : List He.Fa := fa0 ++ fa1 ++ fa2 ++ fa3 ++ fa4
noncomputable def tfs : List (He.Defn × Vol) := [(("need_text", none), Tb), (("law", none), (Lt "law.<locals>.<lambda>"))]
noncomputable def tfd : List He.Defn := [("need_text", none), ("law", none)]
noncomputable def tss : List He.Tab := []
noncomputable def exs (K : PySem.W.Frag) : Bool := decide ((tfd.map fun d => (He.cT K d).2).Nodup) && (Ea.errB K && Ea.rng 12 (fun i => Ea.plB K (Ea.ea K (i + 3))))
noncomputable abbrev Rw : PySem.W.OpenRow := PySem.W.OpenLaw.row PySem.Challenge.rw_countworks_k26_whole_falls
noncomputable abbrev hk : PySem.W.Hook := He.hookX 4 fas fns tss tfd exs
noncomputable def ob (s : PySem.W.SharedT) : He.AlX := He.obsX 4 fas fns tss tfd exs (HandSHeadRun.getT s)
theorem ob_eq (s : PySem.W.SharedT) : ob s = hk.obs s.abs := He.obsX_eq (HandSHeadRun.getT_eq s)
noncomputable def nm0 : List PySem.Str := ["CountError", "BadMaking", "BadBook", "BadNumber", "BadThing", "BadTape", "Ended", "BadSeries"]
noncomputable def nm1 : List PySem.Str := ["NotPlain", "NoStep", "BadWord", "BadParts", "Full", "NoRule", "Nothing", "BadText"]
noncomputable def nm2 : List PySem.Str := ["is_letter", "MOST_TEXT", "need_text", "first_fall", "round_of", "falls", "_law_cell", "_law_drawn"]
noncomputable def nm3 : List PySem.Str := ["_law_roll", "_law_rounds", "_law_term", "_law_told", "_law_turns", "_law_is_simple", "_law_ways_to_fall"]
noncomputable def nms : List PySem.Str := nm0 ++ nm1 ++ nm2 ++ nm3
noncomputable abbrev RE (w : World) : Prop := HandSHeadRun.RunEq Rw (PySem.W.view Rw.prog [35]) hk ob 8000 nms w
end K26
namespace K26
open L2 PySem PySem.Spec PyProof.Rows
theorem run_f (w : World) : RE (w.withFollow "special-get-raises" false) := by
  intro os
  kernel_rfl
theorem run_t (w : World) : RE (w.withFollow "special-get-raises" true) := by
  intro os
  kernel_rfl
theorem run_ (w : World) : RE w := PySem.W.byRow2 "special-get-raises" (P := RE) run_f run_t w
end K26
namespace K26
open PySem hiding Env
open PySem.Spec PyProof.Rows L2 Dl Xe
section
variable {P : Program} {w : World} {K : PySem.W.Frag} {mg : Str → Option Value} {base : Heap} {T : List (Addr × Vol)}
theorem h__law_turns (hF : Has K mg "_law_turns" s__law_turns ["_law_text"]) (B : Bn mg) : Pd P w K mg base T "_law_turns" ["_law_text"] (spX K x__law_turns) 1 :=
  px_def (n := 1) (k := 0) hF sc__law_turns rfl (fun f cd A outer s s0 E xd hr tj lx => (sx_one (sx_ret (px_ice (pxo_lc (own := [("_law_at", 1)]) rfl sc__law_turns.nd (pxi_range1 (by rfl) B.range (px_callB call_len_str cf_lenS sc_lenS (by rfl) B.len PySem.boot_len (pxba_cons (pxb_of (px 0)) pxba_nil))) (blkOk_by (N := N__law_turns) (sc := (defScope s__law_turns)) (by decide +kernel)) (fun _ _ _ _ _ => (pxg_name (i := 1) sc__law_turns.nd rfl (by first | exact Or.inl rfl | exact Or.inr rfl))) (fun _ _ _ _ _ => pxts_nil) (fun _ _ _ _ _ => (px_op op_add_str of_addS sm_addS (pxb_of (px_slS (px 0) (pxp_some (px 1)) pxp_none)) (pxb_of (px_slS (px 0) pxp_none (pxp_some (px 1)))))))))))
theorem h__law_is_simple (hF : Has K mg "_law_is_simple" s__law_is_simple ["_law_text"]) (B : Bn mg) (h__law_turns : Pd P w K mg base T "_law_turns" ["_law_text"] (spX K x__law_turns) 1) : Pd P w K mg base T "_law_is_simple" ["_law_text"] (spX K x__law_is_simple) 2 :=
  px_def (n := 1) (k := 1) hF sc__law_is_simple rfl (fun f cd A outer s s0 E xd hr tj lx => (sx_one (sx_ret (px_cmp op_eq of_eq sm_eqS (pxb_of (px_callB call_len_seq cf_len sc_len (by rfl) B.len PySem.boot_len (pxba_cons (pxb_of (px_ice (pxo_lc (own := [("_law_one", 1)]) rfl sc__law_is_simple.nd (pxi_list (px_ice (pxo_slL (px_call (h__law_turns.mono (by decide)) hr (L2N.passes_call (L2N.takes_of rfl rfl rfl rfl) fun _ _ _ _ h => h) tj lx (by rfl) (pxa_cons (px 0) pxa_nil)) (pxp_some px_int) pxp_none))) (blkOk_by (N := N__law_is_simple) (sc := (defScope s__law_is_simple)) (by decide +kernel)) (fun _ _ _ _ _ => (pxg_name (i := 1) sc__law_is_simple.nd rfl (by first | exact Or.inl rfl | exact Or.inr rfl))) (fun _ _ _ _ _ => (pxts_one (pxt_cmp op_le_str of_leS sm_leS (pxb_of (px 1)) (pxb_of (px 0)) (nomark _)))) (fun _ _ _ _ _ => (px 1))))) pxba_nil))) (pxb_of px_int) (nomark _)))))
theorem h__law_ways_to_fall_step {n0 : Nat} (hF : Has K mg "_law_ways_to_fall" s__law_ways_to_fall ["_law_text"]) (B : Bn mg) (h__law_is_simple : Pd P w K mg base T "_law_is_simple" ["_law_text"] (spX K x__law_is_simple) 2) (h__law_ways_to_fall : Pd P w K mg base T "_law_ways_to_fall" ["_law_text"] (spX K (x__law_ways_to_fall n0)) (n0 + 3)) : Pd P w K mg base T "_law_ways_to_fall" ["_law_text"] (spX K (x__law_ways_to_fall (n0 + 1))) ((n0 + 3) + 1) := by
  exact px_def (n := 1) (k := (n0 + 3) + 0) hF sc__law_ways_to_fall rfl (fun f cd A outer s s0 E xd hr tj lx => (sx_cons (sx_if (pxt_cmp op_eq of_eq sm_eqS (pxb_of (px 0)) (pxb_of px_str) (nomark _)) (sx_one (sx_ret (px_ice (pxo_lst (pxa_cons (px_ice (pxo_lst pxa_nil)) pxa_nil))))) sx_nil) (sx_cons (sx_set (i := 1) sc__law_ways_to_fall.nd rfl (Or.inl rfl) (px_ice (pxo_lst pxa_nil))) (sx_cons (sx_for (L2.passes_of rfl) rfl (pxi_range2 (by rfl) B.range px_int (px_op op_add of_add sm_I (pxb_of (px_callB call_len_str cf_lenS sc_lenS (by rfl) B.len PySem.boot_len (pxba_cons (pxb_of (px 0)) pxba_nil))) (pxb_of px_int))) (pxg_name (i := 2) sc__law_ways_to_fall.nd rfl (Or.inr rfl)) (sx_one (sx_if (pxt_val (px_call (h__law_is_simple.mono (by omega)) hr (L2N.passes_call (L2N.takes_of rfl rfl rfl rfl) fun _ _ _ _ h => h) tj lx (by rfl) (pxa_cons (px_slS (px 0) pxp_none (pxp_some (px 2))) pxa_nil))) (sx_cons (sx_set (i := 3) sc__law_ways_to_fall.nd rfl (Or.inl rfl) (px_call (h__law_ways_to_fall.mono (by omega)) hr (L2N.passes_call (L2N.takes_of rfl rfl rfl rfl) fun _ _ _ _ h => h) tj lx (by rfl) (pxa_cons (px_slS (px 0) (pxp_some (px 2)) pxp_none) pxa_nil))) (sx_one (sx_set (i := 1) sc__law_ways_to_fall.nd rfl (Or.inl rfl) (px_ice (pxo_op op_cat oo_cat sm_cat (px 1) (px_ice (pxo_lc (own := [("_law_rest", 4)]) rfl sc__law_ways_to_fall.nd (pxi_list (px 3)) (blkOk_by (N := N__law_ways_to_fall) (sc := (defScope s__law_ways_to_fall)) (by decide +kernel)) (fun _ _ _ _ _ => (pxg_name (i := 4) sc__law_ways_to_fall.nd rfl (by first | exact Or.inl rfl | exact Or.inr rfl))) (fun _ _ _ _ _ => (pxts_one (PW.pt (pxw_or (pxt_cmp (Hx.op_eqP hr.units) of_eqP sm_eqP (pxb_of (px 4)) (pxb_of (px_ice (pxo_lst pxa_nil))) (nomark _)) (pxw_or1 (pxt_cmp op_le_str of_leS sm_leS (pxb_of (px_ix (px 4) px_int)) (pxb_of (px_slS (px 0) pxp_none (pxp_some (px 2)))) (nomark _))))))) (fun _ _ _ _ _ => (px_ice (pxo_op op_cat oo_cat sm_cat (px_ice (pxo_lst (pxa_cons (px_slS (px 0) pxp_none (pxp_some (px 2))) pxa_nil))) (px 4))))))))))) sx_nil))) (sx_one (sx_ret (px 1)))))))
theorem h__law_ways_to_fall (hF : Has K mg "_law_ways_to_fall" s__law_ways_to_fall ["_law_text"]) (B : Bn mg) (h__law_is_simple : Pd P w K mg base T "_law_is_simple" ["_law_text"] (spX K x__law_is_simple) 2) : Pd P w K mg base T "_law_ways_to_fall" ["_law_text"] (spX K (x__law_ways_to_fall 10)) 13 := by
  have all : ∀ n, Pd P w K mg base T "_law_ways_to_fall" ["_law_text"] (spX K (x__law_ways_to_fall n)) (n + 3) := fun n => by
    induction n with
    | zero => exact (px_none (k := 0) hF sc__law_ways_to_fall).mono (by omega)
    | succ n ih => rw [show ((n + 1) + 3) = (n + 3) + 1 by omega]; exact h__law_ways_to_fall_step hF B h__law_is_simple ih
  exact (all 10).mono (by decide)
theorem h_first_fall (hF : Has K mg "first_fall" s_first_fall ["text"]) (B : Bn mg) : Pd P w K mg base T "first_fall" ["text"] (spX K x_first_fall) 1 :=
  px_def (n := 1) (k := 0) hF sc_first_fall rfl (fun f cd A outer s s0 E xd hr tj lx => (sx_cons (sx_set (i := 1) sc_first_fall.nd rfl (Or.inl rfl) px_int) (sx_cons (sx_set (i := 2) sc_first_fall.nd rfl (Or.inl rfl) px_int) (sx_cons (sx_while 1000 (L2.passes_of rfl) (PW.pt (pxw_and (pxt_cmp op_lt of_lt sm_I (pxb_of (px 2)) (pxb_of (px_callB call_len_str cf_lenS sc_lenS (by rfl) B.len PySem.boot_len (pxba_cons (pxb_of (px 0)) pxba_nil))) (nomark _)) (pxw_and1 (pxt_cmp op_le_str of_leS sm_leS (pxb_of (px_ix (px 0) (px_op op_sub of_sub sm_I (pxb_of (px 2)) (pxb_of (px 1))))) (pxb_of (px_ix (px 0) (px 2))) (nomark _))))) (sx_cons (sx_if (pxt_cmp op_lt_str of_ltS sm_ltS (pxb_of (px_ix (px 0) (px_op op_sub of_sub sm_I (pxb_of (px 2)) (pxb_of (px 1))))) (pxb_of (px_ix (px 0) (px 2))) (nomark _)) (sx_one (sx_set (i := 1) sc_first_fall.nd rfl (Or.inl rfl) (px_op op_add of_add sm_I (pxb_of (px 2)) (pxb_of px_int)))) sx_nil) (sx_one (sx_aug (i := 2) sc_first_fall.nd rfl (Or.inl rfl) px_int ip_add)))) (sx_one (sx_ret (px_tup (pxa_cons (px 1) (pxa_cons (px_op op_fdiv of_fdiv sm_fdiv (pxb_of (px 2)) (pxb_of (px 1))) pxa_nil)))))))))
theorem h_is_letter (hF : Has K mg "is_letter" s_is_letter ["thing"]) (B : Bn mg) : Pd P w K mg base T "is_letter" ["thing"] (spX K x_is_letter) 1 :=
  px_def (n := 1) (k := 0) hF sc_is_letter rfl (fun f cd A outer s s0 E xd hr tj lx => (sx_one (sx_ret (px_and (px_isi isi_str kit_str (by rfl) B.isi (by rfl) B.str (by decide +kernel) (pxb_of (px 0))) (px_and (px_cmp op_eq of_eq sm_eqS (pxb_of (px_callB call_len_str cf_lenS sc_lenS (by rfl) B.len PySem.boot_len (pxba_cons (pxb_of (px 0)) pxba_nil))) (pxb_of px_int) (nomark _)) (px_one (px_chain op_le_str op_le_str of_leS of_leS sm_leS sm_leS px_str (px 0) px_str)))))))
theorem h_need_text (hF : HasT K mg base T "need_text" s_need_text ["thing"]) (B : Bn mg) (Er : Ea.Errs K mg) (Px : ∀ i, 3 ≤ i → i < 15 → Ea.PlainX K (Ea.ea K i)) (c_MOST_TEXT : ∃ tk, mg "MOST_TEXT" = some (.int 60 tk)) (h_is_letter : Pd P w K mg base T "is_letter" ["thing"] (spX K x_is_letter) 1) : Pd P w K mg base T "need_text" ["thing"] (spX K x_need_text) 3 :=
  px_defT (n := 1) (k := 2) hF sc_need_text rfl (fun f c P1 A outer s s0 E xd TB j1 hr tj lx => (sx_one (sx_if (PW.pt (pxw_or (pxt_not (pxt_val (px_isi isi_str kit_str (by rfl) B.isi (by rfl) B.str (by decide +kernel) (pxb_of (px 0))))) (pxw_or (pxt_cmp op_gt of_gt sm_I (pxb_of (px_callB call_len_str cf_lenS sc_lenS (by rfl) B.len PySem.boot_len (pxba_cons (pxb_of (px 0)) pxba_nil))) (pxb_of (px_gint (by rfl) c_MOST_TEXT)) (nomark _)) (pxw_or1 (pxt_not (pxt_val (px_all (own := [("sign", 1)]) j1 hr sc_need_text.nd (by rfl) B.all TB rfl (pxi_str (px 0)) (blkOk_by (N := N_need_text) (sc := (defScope s_need_text)) (by decide +kernel)) (fun _ _ _ _ _ _ rb => (pxg_name (i := 1) sc_need_text.nd rfl (by first | exact Or.inl rfl | exact Or.inr rfl))) (fun _ _ _ _ _ _ rb => pxts_nil) (fun _ _ _ _ _ _ rb => (px_call0 (h_is_letter.mono (by decide)) rb tj (by rfl) (pxa_cons (px 1) pxa_nil)))))))))) (sx_one (sx_raise (Px 10 (by decide) (by decide)) (Er.g 10 (by decide)) (by rfl) (L2N.takes_of rfl rfl rfl rfl) lx)) sx_nil)))
theorem h_falls (hF : Has K mg "falls" s_falls ["text"]) (B : Bn mg) (h_need_text : Pd P w K mg base T "need_text" ["thing"] (spX K x_need_text) 3) (h_first_fall : Pd P w K mg base T "first_fall" ["text"] (spX K x_first_fall) 1) : Pd P w K mg base T "falls" ["text"] (spX K x_falls) 4 :=
  px_def (n := 1) (k := 3) hF sc_falls rfl (fun f cd A outer s s0 E xd hr tj lx => (sx_cons (sx_expr (px_call (h_need_text.mono (by decide)) hr (L2N.passes_call (L2N.takes_of rfl rfl rfl rfl) fun _ _ _ _ h => h) tj lx (by rfl) (pxa_cons (px 0) pxa_nil))) (sx_cons (sx_setO (i := 1) sc_falls.nd rfl (Or.inl rfl) (pxo_lst pxa_nil)) (sx_cons (sx_set (i := 2) sc_falls.nd rfl (Or.inl rfl) px_int) (sx_cons (sx_while 1000 (L2.passes_of rfl) (pxt_cmp op_lt of_lt sm_I (pxb_of (px 2)) (pxb_of (px_callB call_len_str cf_lenS sc_lenS (by rfl) B.len PySem.boot_len (pxba_cons (pxb_of (px 0)) pxba_nil))) (nomark _)) (sx_cons (sx_asg (px_call (h_first_fall.mono (by decide)) hr (L2N.passes_call (L2N.takes_of rfl rfl rfl rfl) fun _ _ _ _ h => h) tj lx (by rfl) (pxa_cons (px_slS (px 0) (pxp_some (px 2)) pxp_none) pxa_nil)) (pxg_name2 (i := 3) (j := 4) rfl sc_falls.nd rfl rfl (Or.inl rfl) (Or.inl rfl))) (sx_cons (sx_ext 1 (px_ice (pxo_op op_rep oo_rep sm_rep (px_ice (pxo_lst (pxa_cons (px_slS (px 0) (pxp_some (px 2)) (pxp_some (px_op op_add of_add sm_I (pxb_of (px 2)) (pxb_of (px 3))))) pxa_nil))) (px 4)))) (sx_one (sx_aug (i := 2) sc_falls.nd rfl (Or.inl rfl) (px_op op_mul of_mul sm_mul (pxb_of (px 3)) (pxb_of (px 4))) ip_add))))) (sx_one (sx_frz 1 (sx_ret (px 1)))))))))
theorem h_round_of (hF : Has K mg "round_of" s_round_of ["text"]) (B : Bn mg) (h_need_text : Pd P w K mg base T "need_text" ["thing"] (spX K x_need_text) 3) : Pd P w K mg base T "round_of" ["text"] (spX K x_round_of) 4 :=
  px_def (n := 1) (k := 3) hF sc_round_of rfl (fun f cd A outer s s0 E xd hr tj lx => (sx_cons (sx_expr (px_call (h_need_text.mono (by decide)) hr (L2N.passes_call (L2N.takes_of rfl rfl rfl rfl) fun _ _ _ _ h => h) tj lx (by rfl) (pxa_cons (px 0) pxa_nil))) (sx_one (sx_ret (px_minTD rfl hr.units1 (by rfl) B.min (pxb_of (px_ice (pxo_lc (own := [("k", 1)]) rfl sc_round_of.nd (pxi_range1 (by rfl) B.range (px_callB call_len_str cf_lenS sc_lenS (by rfl) B.len PySem.boot_len (pxba_cons (pxb_of (px 0)) pxba_nil))) (blkOk_by (N := N_round_of) (sc := (defScope s_round_of)) (by decide +kernel)) (fun _ _ _ _ _ => (pxg_name (i := 1) sc_round_of.nd rfl (by first | exact Or.inl rfl | exact Or.inr rfl))) (fun _ _ _ _ _ => pxts_nil) (fun _ _ _ _ _ => (px_op op_add_str of_addS sm_addS (pxb_of (px_slS (px 0) (pxp_some (px 1)) pxp_none)) (pxb_of (px_slS (px 0) pxp_none (pxp_some (px 1))))))))))))))
end
end K26
/-! _law_term and _law_told of the law -/
namespace K26
open PySem PySem.Spec PyProof.Rows L2 Hx Xs Ea
/-- the exception's object -/
def ZE (D : Addr) (d : Option Addr) (o : Obj) : Prop := L2N.Zn (.ref D) d o ∧ ∃ vs, o.data = .fields vs
def spTerm (i : Nat) (d : Option Addr) : Addr → Sp := fun a vs H Q _ => vs = [.ref a] ∧ (∀ dx, d = some dx → ∃ fs, H dx = some (.xd fs)) ∧ ∀ H' p, Ext H H' → H p = none → H' p = some (.tup [.str "refused", .str (nm i)]) → Q (.ref p) H'
def flags (i : Nat) : List V := (List.range 15).map fun j => V.bl (decide (i = j))
def flagI (i : Nat) : List Int := (List.range 15).map fun j => if decide (i = j) then (1 : Int) else 0
theorem one_flag : ∀ i, i < 15 → (flagI i).sum = 1 := by decide
theorem at_flag : ∀ i, i < 15 → (flags i)[i]? = some (.bl true) ∧ ∀ m, m < i → (flags i)[m]? = some (.bl false) := by
  intro i hi
  unfold flags
  refine ⟨?_, fun m hm => ?_⟩
  · rw [List.getElem?_map, List.getElem?_range hi]; simp
  · rw [List.getElem?_map, List.getElem?_range (by omega)]
    have : decide (i = m) = false := decide_eq_false (by omega)
    simp [this]
section
variable {K : PySem.W.Frag} {mg : Str → Option Value} {P : Program} {w : World} {base : Heap}
/-- isinstance's reading -/
theorem is_read {i j : Nat} {a : Addr} {d : Option Addr} {H : Hp} {Q : VK} (E : Errs K mg) (hi : i < 15) (hj : j < 15) (hd : ∀ dx, d = some dx → ∃ fs, H dx = some (.xd fs)) (q : Q (.bl (decide (i = j))) H) : rIsP K (ea K i) a d [.ref a, .ref (ea K j)] H Q :=
  ⟨_, .ref (ea K j), _, rfl, fun u r => r, E.kit i j hi hj, hd, q⟩
theorem ok_term {f : Addr} {fd : FuncData} {i : Nat} {d : Option Addr} (hi : i < 15) (F : Fun K "_law_term" "_law_term" s__law_term f fd) (E : Errs K mg) (mI : mg "isinstance" = none) (mV : mg "ValueError" = none) (mS : mg "sum" = none) (mN : mg "int" = none) :
    FnZ P w K mg base 1 f fd ["_law_e"] (ZE (ea K i) d) (spTerm i d) := by
  refine fnZ_of (k := 0) F sc__law_term (fun a vs H Q E h => by rw [h.1]; rfl) (fun cd A outer s H vs Q Ex p hot hz hr ⟨ev, hd, q⟩ => ?_)
  subst ev
  obtain ⟨pa, po⟩ := p
  have hotc : L2H.HotC (L2H.cxH CX0 P w K mg base N__law_term "_law_term" (defScope s__law_term) f cd A outer s H Ex (pa, po)) := ⟨(pa, po), ⟨hot.1, hot.2⟩, List.mem_cons_self⟩
  have isp : CallR (L2H.cxH CX0 P w K mg base N__law_term "_law_term" (defScope s__law_term) f cd A outer s H Ex (pa, po)) (.builtin "isinstance") (rIsP K (ea K i) pa d) := call_isP (X := L2H.cxH CX0 P w K mg base N__law_term "_law_term" (defScope s__law_term) f cd A outer s H Ex (pa, po)) (E.exc i hi) List.mem_cons_self hz.1.zc hz.2
  refine' ⟨_, pss_cons ?s1 (pss_cons ?s2 (pss_cons ?s3 (pss_cons ?s4 (pss_cons ?s5 (pss_cons ?s6 (pss_cons ?s7 (pss_one ?s8))))))), ?fin⟩
  case s1 => exact ps_set (i := 1) sc__law_term.nd rfl (.inl rfl) (pe_lst (pa_cons (pe_callB isp (by rfl) mI boot_isinstance (pa_cons (pv 0) (pa_cons (pe_glob (v := .ref (ea K 0)) (by rfl) (E.g 0 (by decide)) rfl) pa_nil))) (pa_cons (pe_callB isp (by rfl) mI boot_isinstance (pa_cons (pv 0) (pa_cons (pe_glob (v := .ref (ea K 1)) (by rfl) (E.g 1 (by decide)) rfl) pa_nil))) (pa_cons (pe_callB isp (by rfl) mI boot_isinstance (pa_cons (pv 0) (pa_cons (pe_glob (v := .ref (ea K 2)) (by rfl) (E.g 2 (by decide)) rfl) pa_nil))) (pa_cons (pe_callB isp (by rfl) mI boot_isinstance (pa_cons (pv 0) (pa_cons (pe_glob (v := .ref (ea K 3)) (by rfl) (E.g 3 (by decide)) rfl) pa_nil))) pa_nil)))))
  case s2 => exact ps_set (i := 1) sc__law_term.nd rfl (.inl rfl) (pe_op op_cat (pv 1) (pe_lst (pa_cons (pe_callB isp (by rfl) mI boot_isinstance (pa_cons (pv 0) (pa_cons (pe_glob (v := .ref (ea K 4)) (by rfl) (E.g 4 (by decide)) rfl) pa_nil))) (pa_cons (pe_callB isp (by rfl) mI boot_isinstance (pa_cons (pv 0) (pa_cons (pe_glob (v := .ref (ea K 5)) (by rfl) (E.g 5 (by decide)) rfl) pa_nil))) (pa_cons (pe_callB isp (by rfl) mI boot_isinstance (pa_cons (pv 0) (pa_cons (pe_glob (v := .ref (ea K 6)) (by rfl) (E.g 6 (by decide)) rfl) pa_nil))) (pa_cons (pe_callB isp (by rfl) mI boot_isinstance (pa_cons (pv 0) (pa_cons (pe_glob (v := .ref (ea K 7)) (by rfl) (E.g 7 (by decide)) rfl) pa_nil))) pa_nil))))))
  case s3 => exact ps_set (i := 1) sc__law_term.nd rfl (.inl rfl) (pe_op op_cat (pv 1) (pe_lst (pa_cons (pe_callB isp (by rfl) mI boot_isinstance (pa_cons (pv 0) (pa_cons (pe_glob (v := .ref (ea K 8)) (by rfl) (E.g 8 (by decide)) rfl) pa_nil))) (pa_cons (pe_callB isp (by rfl) mI boot_isinstance (pa_cons (pv 0) (pa_cons (pe_glob (v := .ref (ea K 9)) (by rfl) (E.g 9 (by decide)) rfl) pa_nil))) (pa_cons (pe_callB isp (by rfl) mI boot_isinstance (pa_cons (pv 0) (pa_cons (pe_glob (v := .ref (ea K 10)) (by rfl) (E.g 10 (by decide)) rfl) pa_nil))) pa_nil)))))
  case s4 => exact ps_set (i := 1) sc__law_term.nd rfl (.inl rfl) (pe_op op_cat (pv 1) (pe_lst (pa_cons (pe_callB isp (by rfl) mI boot_isinstance (pa_cons (pv 0) (pa_cons (pe_glob (v := .ref (ea K 11)) (by rfl) (E.g 11 (by decide)) rfl) pa_nil))) (pa_cons (pe_callB isp (by rfl) mI boot_isinstance (pa_cons (pv 0) (pa_cons (pe_glob (v := .ref (ea K 12)) (by rfl) (E.g 12 (by decide)) rfl) pa_nil))) (pa_cons (pe_callB isp (by rfl) mI boot_isinstance (pa_cons (pv 0) (pa_cons (pe_glob (v := .ref (ea K 13)) (by rfl) (E.g 13 (by decide)) rfl) pa_nil))) (pa_cons (pe_callB isp (by rfl) mI boot_isinstance (pa_cons (pv 0) (pa_cons (pe_glob (v := .ref (ea K 14)) (by rfl) (E.g 14 (by decide)) rfl) pa_nil))) pa_nil))))))
  case s5 => exact ps_set (i := 2) sc__law_term.nd rfl (.inl rfl) (pe_lst (pa_cons pe_str (pa_cons pe_str (pa_cons pe_str (pa_cons pe_str (pa_cons pe_str (pa_cons pe_str (pa_cons pe_str (pa_cons pe_str (pa_cons pe_str pa_nil))))))))))
  case s6 => exact ps_set (i := 2) sc__law_term.nd rfl (.inl rfl) (pe_op op_cat (pv 2) (pe_lst (pa_cons pe_str (pa_cons pe_str (pa_cons pe_str (pa_cons pe_str (pa_cons pe_str (pa_cons pe_str pa_nil))))))))
  case s7 => exact ps_if (PW.pt (pw_or (pt_cmpR op_ne (pe_callB (hot_sum hotc) (by rfl) mS boot_sum (pa_cons (Ho.pe_lc (own := [("_law_flag", 3)]) (g := gName 3) (tt := tYes) hotc sc__law_term.nd (pv 1) (blkOk_by (N := N__law_term) (sc := defScope s__law_term) (by decide +kernel)) (fun _ _ _ _ _ => pg_name (i := 3) sc__law_term.nd rfl (Or.inl rfl)) (fun _ _ _ _ _ => pts_nil) (fun _ _ _ _ _ => pe_callTy call_int1 (by rfl) mN PyProof.Rows.boot_int (pa_cons (pv 3) pa_nil))) pa_nil)) pe_int (nomark _)) (pw_or1 (pt_not (pt_val (pe_callB isp (by rfl) mI boot_isinstance (pa_cons (pv 0) (pa_cons (pe_bltn (v := .ty "ValueError") (by rfl) mV (by decide +kernel) rfl) pa_nil)))))))) (pss_one (ps_ret (pe_tup (pa_cons pe_str (pa_cons pe_str pa_nil))))) pss_nil
  case s8 => exact ps_ret (pe_tup (pa_cons pe_str (pa_cons (pe_ix ix_list (pv 2) (pe_bm PySem.F.plainAttrs_list PySem.F.slot_list_index PySem.F.type_list_index mt_index (pv 1) (pa_cons pe_bl pa_nil)) (fun _ _ => rfl)) pa_nil)))
  case fin =>
    have more : ∀ {H'}, Ext H H' → ∀ dx, d = some dx → ∃ fs, H' dx = some (.xd fs) := fun e dx z => (hd dx z).elim fun fs y => ⟨fs, e _ _ y⟩
    refine ⟨_, rfl, _, .ref (ea K 0), _, rfl, fun u r => r, E.kit i 0 hi (by decide), hd, ⟨_, rfl, _, .ref (ea K 1), _, rfl, fun u r => r, E.kit i 1 hi (by decide), hd, ⟨_, rfl, _, .ref (ea K 2), _, rfl, fun u r => r, E.kit i 2 hi (by decide), hd, ⟨_, rfl, _, .ref (ea K 3), _, rfl, fun u r => r, E.kit i 3 hi (by decide), hd, ?_⟩⟩⟩⟩
    refine ⟨by show 4 ≤ sizeLine; decide, fun l1 n1 => ?_⟩
    have e1 : Ext H (upd H l1 (.lst [V.bl (decide (i = 0)), V.bl (decide (i = 1)), V.bl (decide (i = 2)), V.bl (decide (i = 3))])) := (Ext.refl H).new n1
    have h1 : (upd H l1 (.lst [V.bl (decide (i = 0)), V.bl (decide (i = 1)), V.bl (decide (i = 2)), V.bl (decide (i = 3))])) l1 = some (.lst [V.bl (decide (i = 0)), V.bl (decide (i = 1)), V.bl (decide (i = 2)), V.bl (decide (i = 3))]) := upd_same
    generalize upd H l1 (.lst [V.bl (decide (i = 0)), V.bl (decide (i = 1)), V.bl (decide (i = 2)), V.bl (decide (i = 3))]) = H1 at e1 h1 ⊢
    refine ⟨_, rfl, ⟨_, rfl, _, .ref (ea K 4), _, rfl, fun u r => r, E.kit i 4 hi (by decide), (more e1), ⟨_, rfl, _, .ref (ea K 5), _, rfl, fun u r => r, E.kit i 5 hi (by decide), (more e1), ⟨_, rfl, _, .ref (ea K 6), _, rfl, fun u r => r, E.kit i 6 hi (by decide), (more e1), ⟨_, rfl, _, .ref (ea K 7), _, rfl, fun u r => r, E.kit i 7 hi (by decide), (more e1), ?_⟩⟩⟩⟩⟩
    refine ⟨by show 4 ≤ sizeLine; decide, fun m2 n2 => ⟨l1, m2, _, _, rfl, rfl, by rw [upd_ne (ne_of_none h1 n2)]; exact h1, upd_same, by show 4 + 4 ≤ sizeLine; decide, fun l2 o2 => ?_⟩⟩
    have e2 : Ext H (upd (upd H1 m2 (.lst [V.bl (decide (i = 4)), V.bl (decide (i = 5)), V.bl (decide (i = 6)), V.bl (decide (i = 7))])) l2 (.lst ([V.bl (decide (i = 0)), V.bl (decide (i = 1)), V.bl (decide (i = 2)), V.bl (decide (i = 3))] ++ [V.bl (decide (i = 4)), V.bl (decide (i = 5)), V.bl (decide (i = 6)), V.bl (decide (i = 7))]))) := (e1.new n2).new o2
    have h2 : (upd (upd H1 m2 (.lst [V.bl (decide (i = 4)), V.bl (decide (i = 5)), V.bl (decide (i = 6)), V.bl (decide (i = 7))])) l2 (.lst ([V.bl (decide (i = 0)), V.bl (decide (i = 1)), V.bl (decide (i = 2)), V.bl (decide (i = 3))] ++ [V.bl (decide (i = 4)), V.bl (decide (i = 5)), V.bl (decide (i = 6)), V.bl (decide (i = 7))]))) l2 = some (.lst [V.bl (decide (i = 0)), V.bl (decide (i = 1)), V.bl (decide (i = 2)), V.bl (decide (i = 3)), V.bl (decide (i = 4)), V.bl (decide (i = 5)), V.bl (decide (i = 6)), V.bl (decide (i = 7))]) := upd_same
    generalize upd (upd H1 m2 (.lst [V.bl (decide (i = 4)), V.bl (decide (i = 5)), V.bl (decide (i = 6)), V.bl (decide (i = 7))])) l2 (.lst ([V.bl (decide (i = 0)), V.bl (decide (i = 1)), V.bl (decide (i = 2)), V.bl (decide (i = 3))] ++ [V.bl (decide (i = 4)), V.bl (decide (i = 5)), V.bl (decide (i = 6)), V.bl (decide (i = 7))])) = H2 at e2 h2 ⊢
    refine ⟨_, rfl, ⟨_, rfl, _, .ref (ea K 8), _, rfl, fun u r => r, E.kit i 8 hi (by decide), (more e2), ⟨_, rfl, _, .ref (ea K 9), _, rfl, fun u r => r, E.kit i 9 hi (by decide), (more e2), ⟨_, rfl, _, .ref (ea K 10), _, rfl, fun u r => r, E.kit i 10 hi (by decide), (more e2), ?_⟩⟩⟩⟩
    refine ⟨by show 3 ≤ sizeLine; decide, fun m3 n3 => ⟨l2, m3, _, _, rfl, rfl, by rw [upd_ne (ne_of_none h2 n3)]; exact h2, upd_same, by show 8 + 3 ≤ sizeLine; decide, fun l3 o3 => ?_⟩⟩
    have e3 : Ext H (upd (upd H2 m3 (.lst [V.bl (decide (i = 8)), V.bl (decide (i = 9)), V.bl (decide (i = 10))])) l3 (.lst ([V.bl (decide (i = 0)), V.bl (decide (i = 1)), V.bl (decide (i = 2)), V.bl (decide (i = 3)), V.bl (decide (i = 4)), V.bl (decide (i = 5)), V.bl (decide (i = 6)), V.bl (decide (i = 7))] ++ [V.bl (decide (i = 8)), V.bl (decide (i = 9)), V.bl (decide (i = 10))]))) := (e2.new n3).new o3
    have h3 : (upd (upd H2 m3 (.lst [V.bl (decide (i = 8)), V.bl (decide (i = 9)), V.bl (decide (i = 10))])) l3 (.lst ([V.bl (decide (i = 0)), V.bl (decide (i = 1)), V.bl (decide (i = 2)), V.bl (decide (i = 3)), V.bl (decide (i = 4)), V.bl (decide (i = 5)), V.bl (decide (i = 6)), V.bl (decide (i = 7))] ++ [V.bl (decide (i = 8)), V.bl (decide (i = 9)), V.bl (decide (i = 10))]))) l3 = some (.lst [V.bl (decide (i = 0)), V.bl (decide (i = 1)), V.bl (decide (i = 2)), V.bl (decide (i = 3)), V.bl (decide (i = 4)), V.bl (decide (i = 5)), V.bl (decide (i = 6)), V.bl (decide (i = 7)), V.bl (decide (i = 8)), V.bl (decide (i = 9)), V.bl (decide (i = 10))]) := upd_same
    generalize upd (upd H2 m3 (.lst [V.bl (decide (i = 8)), V.bl (decide (i = 9)), V.bl (decide (i = 10))])) l3 (.lst ([V.bl (decide (i = 0)), V.bl (decide (i = 1)), V.bl (decide (i = 2)), V.bl (decide (i = 3)), V.bl (decide (i = 4)), V.bl (decide (i = 5)), V.bl (decide (i = 6)), V.bl (decide (i = 7))] ++ [V.bl (decide (i = 8)), V.bl (decide (i = 9)), V.bl (decide (i = 10))])) = H3 at e3 h3 ⊢
    refine ⟨_, rfl, ⟨_, rfl, _, .ref (ea K 11), _, rfl, fun u r => r, E.kit i 11 hi (by decide), (more e3), ⟨_, rfl, _, .ref (ea K 12), _, rfl, fun u r => r, E.kit i 12 hi (by decide), (more e3), ⟨_, rfl, _, .ref (ea K 13), _, rfl, fun u r => r, E.kit i 13 hi (by decide), (more e3), ⟨_, rfl, _, .ref (ea K 14), _, rfl, fun u r => r, E.kit i 14 hi (by decide), (more e3), ?_⟩⟩⟩⟩⟩
    refine ⟨by show 4 ≤ sizeLine; decide, fun m4 n4 => ⟨l3, m4, _, _, rfl, rfl, by rw [upd_ne (ne_of_none h3 n4)]; exact h3, upd_same, by show 11 + 4 ≤ sizeLine; decide, fun l4 o4 => ?_⟩⟩
    have e4 : Ext H (upd (upd H3 m4 (.lst [V.bl (decide (i = 11)), V.bl (decide (i = 12)), V.bl (decide (i = 13)), V.bl (decide (i = 14))])) l4 (.lst ([V.bl (decide (i = 0)), V.bl (decide (i = 1)), V.bl (decide (i = 2)), V.bl (decide (i = 3)), V.bl (decide (i = 4)), V.bl (decide (i = 5)), V.bl (decide (i = 6)), V.bl (decide (i = 7)), V.bl (decide (i = 8)), V.bl (decide (i = 9)), V.bl (decide (i = 10))] ++ [V.bl (decide (i = 11)), V.bl (decide (i = 12)), V.bl (decide (i = 13)), V.bl (decide (i = 14))]))) := (e3.new n4).new o4
    have h4 : (upd (upd H3 m4 (.lst [V.bl (decide (i = 11)), V.bl (decide (i = 12)), V.bl (decide (i = 13)), V.bl (decide (i = 14))])) l4 (.lst ([V.bl (decide (i = 0)), V.bl (decide (i = 1)), V.bl (decide (i = 2)), V.bl (decide (i = 3)), V.bl (decide (i = 4)), V.bl (decide (i = 5)), V.bl (decide (i = 6)), V.bl (decide (i = 7)), V.bl (decide (i = 8)), V.bl (decide (i = 9)), V.bl (decide (i = 10))] ++ [V.bl (decide (i = 11)), V.bl (decide (i = 12)), V.bl (decide (i = 13)), V.bl (decide (i = 14))]))) l4 = some (.lst [V.bl (decide (i = 0)), V.bl (decide (i = 1)), V.bl (decide (i = 2)), V.bl (decide (i = 3)), V.bl (decide (i = 4)), V.bl (decide (i = 5)), V.bl (decide (i = 6)), V.bl (decide (i = 7)), V.bl (decide (i = 8)), V.bl (decide (i = 9)), V.bl (decide (i = 10)), V.bl (decide (i = 11)), V.bl (decide (i = 12)), V.bl (decide (i = 13)), V.bl (decide (i = 14))]) := upd_same
    generalize upd (upd H3 m4 (.lst [V.bl (decide (i = 11)), V.bl (decide (i = 12)), V.bl (decide (i = 13)), V.bl (decide (i = 14))])) l4 (.lst ([V.bl (decide (i = 0)), V.bl (decide (i = 1)), V.bl (decide (i = 2)), V.bl (decide (i = 3)), V.bl (decide (i = 4)), V.bl (decide (i = 5)), V.bl (decide (i = 6)), V.bl (decide (i = 7)), V.bl (decide (i = 8)), V.bl (decide (i = 9)), V.bl (decide (i = 10))] ++ [V.bl (decide (i = 11)), V.bl (decide (i = 12)), V.bl (decide (i = 13)), V.bl (decide (i = 14))])) = H4 at e4 h4 ⊢
    have hL : H4 l4 = some (.lst (flags i)) := h4
    clear h1 h2 h3 h4
    refine ⟨by show 9 ≤ sizeLine; decide, fun k1 q1 => ?_⟩
    refine ⟨_, rfl, by show 6 ≤ sizeLine; decide, fun k2 q2 => ⟨k1, k2, _, _, rfl, rfl, by rw [upd_ne (ne_of_none upd_same q2)]; exact upd_same, upd_same, by show 9 + 6 ≤ sizeLine; decide, fun kk q3 => ?_⟩⟩
    have kl : H4 l4 ≠ none := by rw [hL]; exact fun z => by cases z
    generalize hg : upd (upd (upd H4 k1 _) k2 _) kk _ = H5
    have e5 : Ext H4 H5 := hg ▸ (((Ext.refl H4).new q1).new q2).new q3
    have hK : H5 kk = some (.lst (Ea.nms.map V.str)) := by rw [← hg, upd_same]; rfl
    have hL5 : H5 l4 = some (.lst (flags i)) := e5 _ _ hL
    clear hg q1 q2 q3
    refine ⟨_, rfl, l4, rfl, ⟨_, SqL.of hL5⟩, fun D nD => ?_⟩
    refine lc_list (xs := flags i) (fun k Hc => Ext H5 Hc ∧ Hc D = some (.lst (((flagI i).take k).map V.int))) ⟨(Ext.refl H5).new nD, upd_same⟩ (fun k Hc hk ⟨e, _⟩ => SqL.of (e _ _ hL5)) (fun k x Hc hx ⟨e, hD⟩ => ?_) (fun Hc ⟨e, hD⟩ => ?_)
    · have hk : k < 15 := by
        have := (List.getElem?_eq_some_iff.mp hx).1
        simpa [flags] using this
      have ex : x = .bl (decide (i = k)) := by
        unfold flags at hx
        rw [List.getElem?_map, List.getElem?_range hk] at hx
        exact (Option.some.inj hx).symm
      subst ex
      refine ⟨rfl, tyes ?_⟩
      refine ⟨_, rfl, .inr ⟨_, rfl, _, hD, ?_, e.own nD, ?_⟩⟩
      · rw [List.length_map, List.length_take]
        exact Nat.lt_of_le_of_lt (Nat.min_le_left _ _) (Nat.lt_trans hk (by decide))
      · rw [upd_same]
        have : (flagI i)[k]? = some (if decide (i = k) then (1 : Int) else 0) := by
          unfold flagI
          rw [List.getElem?_map, List.getElem?_range hk]
          rfl
        rw [List.take_add_one, this, List.map_append]
        rfl
    · have hD' : Hc D = some (.lst ((flagI i).map V.int)) := by
        rw [hD, List.take_of_length_le (by simp [flagI, flags])]
      refine ⟨D, flagI i, rfl, SqL.of hD', rfl, _, rfl, if0 ?_ ?_⟩
      · rw [one_flag i hi]
        rfl
      refine ⟨_, rfl, _, .type "ValueError", _, rfl, fun u r => r, E.ve i hi, more (e4.trans (e5.trans e)), true, rfl, if0 rfl ?_⟩
      obtain ⟨f1, f2⟩ := at_flag i hi
      refine ⟨_, rfl, _, rfl, .inl ⟨rfl, _, SqL.of (e _ _ hL5)⟩, l4, flags i, .bl true, i, .bl true, rfl, rfl, SqL.of (e _ _ hL5), rfl, ?_, f1, rfl, fun m z hm hz => ?_, ?_⟩
      · exact List.all_eq_true.mpr fun v hv => by
          obtain ⟨j, _, rfl⟩ := List.mem_map.mp hv
          rfl
      · rw [f2 m hm] at hz
        cases hz
        rfl
      · have hn : (Ea.nms.map V.str)[i]? = some (.str (nm i)) := by
          rw [List.getElem?_map]
          unfold nm
          rw [List.getD_eq_getElem?_getD, List.getElem?_eq_getElem (show i < Ea.nms.length from hi)]
          rfl
        refine ⟨kk, _, (i : Int), .str (nm i), rfl, rfl, SqL.of (e _ _ hK), atI_nat hn, by show 2 ≤ sizeLine; decide, fun p np => ?_⟩
        have e6 := e4.trans (e5.trans e)
        exact q _ p (e6.new np) (e6.free np) upd_same
end
/-- a block's reading for one of several -/
theorem pss_of {α : Type} {X : Cx} {b : List Stmt} {A : α → Prop} {t : α → TS} (h : ∀ i, A i → PSs X b (t i)) : PSs X b (fun D σ H => ∃ i, A i ∧ t i D σ H) := ⟨fun pins s σ H D I ⟨i, hi, z⟩ => (h i hi).run pins s σ H D I z⟩
theorem takesN0 {X : Cx} : L2N.Takes X (fun _ _ _ _ => False) := fun _ _ ⟨_, _, _, _, _, _, _, _, _, _, _, _, _, _, _, _, z⟩ => z.elim
section
variable {X : Cx}
/-- the exception of the class cls, at a, in its suite: _law_term of it -/
theorem pe_term {K : PySem.W.Frag} {f a : Addr} {fd : FuncData} {oe : Obj} {cls : Value} {d : Option Addr} {pn : List (Addr × Obj)} {i : Nat} {p pos q : Pos} (F : FnZ X.prog X.w X.K X.mg X.base 1 f fd ["_law_e"] (ZE (ea K i) d) (spTerm i d)) (hr : Room 1 X.A) (ec : cls = .ref (ea K i)) (hz : L2N.Zn cls d oe) (hf : ∃ vs, oe.data = .fields vs)
    (hg : Gl X "_law_term") (hm : X.mg "_law_term" = some (.ref f)) (hk : PySem.W.keepIn X.K (.ref f) = true) (hb : Binds X.K fd ["_law_e"] []) (hN : X.N[1]? = some ("_law_e" : Str)) (hv : Vis X.env.scope "_law_e") :
    PE (X.suite a ((a, oe) :: pn)) (.Call (.Name "_law_term" q) [.Name "_law_e" p] [] pos) (fun σ H Q => tVar 1 σ H fun v H1 => spTerm i d a [v] H1 Q E0) := by
  subst ec
  obtain ⟨vs, e⟩ := hf
  exact pe_callZ (X := X.suite a ((a, oe) :: pn)) F (L2H.roomH_mark hr _) ⟨rfl, vs, e, hz.2.2 vs e⟩ List.mem_cons_self ⟨hz, vs, e⟩ hg hm hk hb (pa_cons (pe_var (i := 1) hN hv) pa_nil)
end
section
variable {K : PySem.W.Frag} {mg : Str → Option Value} {P : Program} {w : World} {base : Heap}
/-- the reading of a suite with a field -/
def tFld (K : PySem.W.Frag) (j : Nat) (a : Addr) (cls : Value) (d : Option Addr) : TS := fun D σ H => cls = .ref (ea K j) ∧ ∃ dx v, d = some dx ∧ σ[1]? = some (some (.ref a)) ∧ H dx = some (.xd [(fld j, v)]) ∧ ∀ H2 p, Ext H H2 → H p = none → H2 p = some (.tup [.str "refused", .str (nm j), v]) → D.rt (.ref p) H2
def tBare (K : PySem.W.Frag) (a : Addr) (cls : Value) (d : Option Addr) : TS := fun D σ H => ∃ i, (i < 15 ∧ cls = .ref (ea K i) ∧ d = none) ∧ σ[1]? = some (some (.ref a)) ∧ ∀ H2 p, Ext H H2 → H p = none → H2 p = some (.tup [.str "refused", .str (nm i)]) → D.rt (.ref p) H2
theorem suite_fld {X : Cx} {f a : Addr} {fd : FuncData} {oe : Obj} {cls : Value} {d : Option Addr} {pn : List (Addr × Obj)} {j n : Nat} {p pos q p2 p3 p4 p5 p6 : Pos} (hK : X.K = K) (hj : j < 3) (E : Errs K mg) (T : ∀ i d, i < 15 → FnZ X.prog X.w X.K X.mg X.base 1 f fd ["_law_e"] (ZE (ea K i) d) (spTerm i d)) (hr : Room 1 X.A) (hz : L2N.Zn cls d oe) (hf : ∃ vs, oe.data = .fields vs)
    (hg : Gl X "_law_term") (hm : X.mg "_law_term" = some (.ref f)) (hk : PySem.W.keepIn X.K (.ref f) = true) (hb : Binds X.K fd ["_law_e"] []) (hN : X.N[1]? = some ("_law_e" : Str)) (hv : Vis X.env.scope "_law_e")
    (ha : attributeBase (.Name "_law_e" p2) (fld j) (X.suite a ((a, oe) :: pn)).env (eval (.Name "_law_e" p2) (X.suite a ((a, oe) :: pn)).env) = eval (.Name "_law_e" p2) (X.suite a ((a, oe) :: pn)).env) :
    PSs (X.suite a ((a, oe) :: pn)) [.Return (some (.BinOp (.Call (.Name "_law_term" q) [.Name "_law_e" p] [] pos) .Add (.Tuple [.Attribute (.Name "_law_e" p2) (fld j) p3] n p4) p5)) p6] (tFld K j a cls d) := ⟨fun pins s σ H D I ⟨ec, dx, v, ed, e1, ex, qq⟩ => by
  subst hK
  have term := pe_term (K := X.K) (pn := pn) (p := p) (pos := pos) (q := q) (T j d (by omega)) hr ec hz hf hg hm hk hb hN hv (a := a)
  have field := pe_xf (X := X) (a := a) (pn := pn) (pos := p3) (E.xf j hj) (E.nof j hj) hz.zc hf (pe_var (X := X.suite a ((a, oe) :: pn)) (pos := p2) (i := 1) hN hv) ha
  refine (pss_one (ps_ret (pos := p6) (pe_op op_catT term (pe_tup (pa_cons field pa_nil))))).run pins s σ H D I ?_
  refine ⟨.ref a, e1, rfl, fun dx' z => ?_, fun H1 p1 g1 n1 h1 => ?_⟩
  · rw [ed] at z
    cases z
    exact ⟨_, ex⟩
  · refine ⟨.ref a, e1, rfl, ec, dx, _, v, ed, g1 _ _ ex, ?_, by show 1 ≤ sizeLine; decide, fun p2 n2 => ?_⟩
    · simp [List.lookup]
    · have n12 : p1 ≠ p2 := ne_of_none h1 n2
      refine ⟨p1, p2, _, _, rfl, rfl, SqT.of (by rw [upd_ne n12]; exact h1), SqT.of upd_same, by simp, by show 2 + 1 ≤ sizeLine; decide, (fun z => by cases z), fun _ p3 n3 => ?_⟩
      have g2 := g1.new (o := .tup [v]) n2
      exact qq _ p3 (g2.new n3) (g2.free n3) upd_same⟩
theorem suite_bare {X : Cx} {f a : Addr} {fd : FuncData} {oe : Obj} {cls : Value} {d : Option Addr} {pn : List (Addr × Obj)} {p pos q p6 : Pos} (hK : X.K = K) (T : ∀ i d, i < 15 → FnZ X.prog X.w X.K X.mg X.base 1 f fd ["_law_e"] (ZE (ea K i) d) (spTerm i d)) (hr : Room 1 X.A) (hz : L2N.Zn cls d oe) (hf : ∃ vs, oe.data = .fields vs)
    (hg : Gl X "_law_term") (hm : X.mg "_law_term" = some (.ref f)) (hk : PySem.W.keepIn X.K (.ref f) = true) (hb : Binds X.K fd ["_law_e"] []) (hN : X.N[1]? = some ("_law_e" : Str)) (hv : Vis X.env.scope "_law_e") :
    PSs (X.suite a ((a, oe) :: pn)) [.Return (some (.Call (.Name "_law_term" q) [.Name "_law_e" p] [] pos)) p6] (tBare K a cls d) := ⟨fun pins s σ H D I ⟨i, ⟨hi, ec, ed⟩, e1, z⟩ => by
  subst hK
  have term := pe_term (K := X.K) (pn := pn) (p := p) (pos := pos) (q := q) (T i d hi) hr ec hz hf hg hm hk hb hN hv (a := a)
  refine (pss_one (ps_ret (pos := p6) term)).run pins s σ H D I ⟨.ref a, e1, rfl, fun dx' y => ?_, fun H1 p1 g1 n1 h1 => z H1 p1 g1 n1 h1⟩
  rw [ed] at y
  cases y⟩
/-- what _law_told makes of a thunk -/
theorem told_gives {X : Cx} {g f : Addr} {cd : Value} {fd : FuncData} {q : Str} (hK : X.K = K) (hmg : X.mg = mg) (E : Errs K mg) (T : ∀ i d, i < 15 → FnZ X.prog X.w X.K X.mg X.base 1 f fd ["_law_e"] (ZE (ea K i) d) (spTerm i d)) (hm : mg "_law_term" = some (.ref f)) (hk : PySem.W.keepIn K (.ref f) = true) (hb : Binds K fd ["_law_e"] [])
    (hr : Room 2 X.A) : Gives (L2N.CX X.prog X.w) X N__law_told "_law_told" (defScope s__law_told) g cd (defBody s__law_told) "_law_deed" q (TOld K) := by
  intro t c' s H Q tl act hc h
  subst hK hmg
  have room : Room 1 (X.A.deeper (envOfC "_law_told" (defScope s__law_told) s.heap.objs.size g cd)) := hr.deeper _
  have cl : ∀ j, j < 3 → Names (gotC X N__law_told "_law_told" (defScope s__law_told) g cd s H).nox (nm j) (.ref (ea X.K j)) := fun j hj => by
    have hj' : j = 0 ∨ j = 1 ∨ j = 2 := by omega
    rcases hj' with rfl | rfl | rfl
    · exact ⟨by rfl, by decide, .inl (E.g 0 (by decide))⟩
    · exact ⟨by rfl, by decide, .inl (E.g 1 (by decide))⟩
    · exact ⟨by rfl, by decide, .inl (E.g 2 (by decide))⟩
  refine ⟨_, pss_one (ps_tryAll (X := (gotC X N__law_told "_law_told" (defScope s__law_told) g cd s H).nox) (n := "_law_e") (i := 1) (Wout := fun _ _ _ _ => False)
    (tb := fun W D σ H => ∃ Ech : XK, (∀ cls d (σ' : L2.St) H', σ'.length = 2 → Ech cls d H' → W cls d σ' H') ∧ σ[0]? = some (some (.ref t)) ∧ H c' = some (LamX.CodeO c' q) ∧ tl Ech H D.rt)
    (l := [(.ref (ea X.K 0), tFld X.K 0), (.ref (ea X.K 1), tFld X.K 1), (.ref (ea X.K 2), tFld X.K 2), (.ref (He.ga X.K "CountError"), tBare X.K)])
    rfl rfl sc__law_told.nd rfl rfl takesN0 (fun W pn xe tk _ => ?body) (.cons (cl 0 (by decide)) (fun a oe cls d pn hz hf => suite_fld (j := 0) rfl (by decide) E T room hz hf (by rfl) hm hk hb rfl (.inl rfl) (by rfl)) (.cons (cl 1 (by decide)) (fun a oe cls d pn hz hf => suite_fld (j := 1) rfl (by decide) E T room hz hf (by rfl) hm hk hb rfl (.inl rfl) (by rfl))
      (.cons (cl 2 (by decide)) (fun a oe cls d pn hz hf => suite_fld (j := 2) rfl (by decide) E T room hz hf (by rfl) hm hk hb rfl (.inl rfl) (by rfl)) (.cons ⟨by rfl, by decide, .inl E.gce⟩ (fun a oe cls d pn hz hf => suite_bare rfl T room hz hf (by rfl) hm hk hb rfl (.inl rfl)) .nil))))), ?fin⟩
  case body =>
    refine ⟨fun pins s' σ H' D I ⟨Ech, hW, h1, h2, h3⟩ => ?_⟩
    exact (pss_one (ps_ret (act pn xe Ech _ _ fun pins σ H s e s' I c => tk e s' (L2N.XE.of_call I (fun cls d H' z => hW cls d σ H' I.len z) c)))).run pins s' σ H' D I ⟨h1, h2, h3⟩
  case fin =>
    refine ⟨EOld X.K Q, fun cls d σ' H' hl ⟨i, hi, ec, rf⟩ => ?_, rfl, hc, h⟩
    subst ec
    have slot : ∀ a : Addr, (σ'.set 1 (some (.ref a)))[1]? = some (some (.ref a)) := fun a => by
      rw [List.getElem?_set_self (by omega)]
    have fld_ : ∀ j, j < 3 → decide (i = j) = true → ∀ a, tFld X.K j a (.ref (ea X.K i)) d { nx := fun σ' H' => (fun _ H' => Q .non H') (σ'.set 1 none) H', rt := Q, bk := fun _ _ => False, ct := fun _ _ => False } (σ'.set 1 (some (.ref a))) H' := fun j hj hb a => by
      have e := of_decide_eq_true hb
      subst e
      rcases rf with ⟨_, dx, v, ed, ex, z⟩ | ⟨z, _⟩
      · exact ⟨rfl, dx, v, ed, slot a, ex, z⟩
      · omega
    refine ⟨decide (i = 0), E.exm i 0 hi (by decide), fun hb a _ => fld_ 0 (by decide) hb a, fun b0 => ⟨decide (i = 1), E.exm i 1 hi (by decide), fun hb a _ => fld_ 1 (by decide) hb a, fun b1 => ⟨decide (i = 2), E.exm i 2 hi (by decide), fun hb a _ => fld_ 2 (by decide) hb a, fun b2 => ⟨true, E.ce i hi, fun _ a _ => ?_, fun z => by cases z⟩⟩⟩⟩
    have h0 := of_decide_eq_false b0
    have h1 := of_decide_eq_false b1
    have h2 := of_decide_eq_false b2
    rcases rf with ⟨z, _⟩ | ⟨_, ed, z⟩
    · omega
    · exact ⟨i, ⟨hi, rfl, ed⟩, slot a, z⟩
end
section
variable {K : PySem.W.Frag} {mg : Str → Option Value} {P : Program} {w : World} {base : Heap}
theorem tells {X : Cx} (eK : X.K = K) (em : X.mg = mg) (hE : Dl.Has K mg "_law_term" s__law_term ["_law_e"]) (hT : Dl.Has K mg "_law_told" s__law_told ["_law_deed"]) (E : Errs K mg) (B : Dl.Bn mg) (mV : mg "ValueError" = none) (hr : Room 2 X.A) : Tells X := by
  obtain ⟨f, fd, F, g, b⟩ := hE
  obtain ⟨f2, fd2, F2, g2, b2⟩ := hT
  obtain ⟨oc, od, kV, doc, pm, an, cd, ct, osl, rfl, lk, hc⟩ := F2.ex
  subst eK em
  exact ⟨f2, _, _, _, _, _, _, _, _, _, _, _, _, _, _, g2, F2.kp, lk, hc, b2, sc__law_told, rfl, .inl rfl, told_gives rfl rfl E (fun i d hi => ok_term hi F E B.isi mV B.sum B.int) g F.kp b hr⟩
end
end K26
namespace K26
open PySem hiding Env
open PySem.Spec PyProof.Rows L2 Dl Xe
section
variable {P : Program} {w : World} {K : PySem.W.Frag} {mg : Str → Option Value} {base : Heap} {T : List (Addr × Vol)}
theorem h_law {f0 : Addr} {fd0 : FuncData} {c0 P0 : Addr} (hF : Hx.FunT K "law" "law" s_law f0 c0 fd0) (hTB : GxR.TabB base mg c0 P0) (hP : (P0, Lt Ea.qLam) ∈ T) (hE : Dl.Has K mg "_law_term" s__law_term ["_law_e"]) (hT : Dl.Has K mg "_law_told" s__law_told ["_law_deed"]) (Er : Ea.Errs K mg) (mV : mg "ValueError" = none) (B : Bn mg) (h_round_of : Pd P w K mg base T "round_of" ["text"] (spX K x_round_of) 4) (h_falls : Pd P w K mg base T "falls" ["text"] (spX K x_falls) 4) (h__law_roll : Pd P w K mg base T "_law_roll" ["_law_dice", "_law_many"] (spX K x__law_roll) 2) (h__law_is_simple : Pd P w K mg base T "_law_is_simple" ["_law_text"] (spX K x__law_is_simple) 2) (h__law_ways_to_fall : Pd P w K mg base T "_law_ways_to_fall" ["_law_text"] (spX K (x__law_ways_to_fall 10)) 13) (h__law_rounds : Pd P w K mg base T "_law_rounds" ["_law_script", "_law_high"] (spRounds K) 2) (turn : sat (c_turn (.no :: .va .die :: List.replicate 8 .no)) (fun o => goodB 10 o = true) N0) : FnOk P w K mg base (L2N.CX P w) 14 f0 fd0 ["_law_script"] (lift T (spLaw K)) := by
  refine pd_defTA (k := 13) hF hTB hP sc_law (fun ds q xd ⟨_, _, e, _⟩ => by rw [e]; rfl) (fun f c P1 A outer s s0 E xd TB j1 hr tj lx ds q hsp => ⟨_, (pz_cons (pz_for (L2.passes_of rfl) rfl (pdi_list (pd_call (h__law_rounds.mono (by decide)) hr pass00 tj lx0 (by rfl) (pda_cons (pd 0) (pda_cons pd_int pda_nil)))) (pdg_name (i := 1) sc_law.nd rfl (Or.inr rfl)) (pzs_weak (xe := N0) (c := c_turn) (sx_cons (sx_set (i := 2) sc_law.nd rfl (Or.inr rfl) (px_ix (px_ice (pxo_lst (pxa_cons px_str (pxa_cons px_str (pxa_cons px_str pxa_nil))))) (px_call0 (h__law_roll.mono (by decide)) hr tj (by rfl) (pxa_cons (px 1) (pxa_cons px_int pxa_nil))))) (sx_cons (sx_set (i := 3) sc_law.nd rfl (Or.inl rfl) (px_mt tyS_ok PySem.F.plainAttrs_str PySem.F.slot_str_join PySem.F.type_str_join mt_join mf_join (pxb_of px_str) (pxba_cons (pxb_of (px_ice (pxo_lc (own := [("_law_turn", 8)]) rfl sc_law.nd (pxi_range1 (by rfl) B.range (px_call0 (h__law_roll.mono (by decide)) hr tj (by rfl) (pxa_cons (px 1) (pxa_cons px_int pxa_nil)))) (blkOk_by (N := N_law) (sc := (defScope s_law)) (by decide +kernel)) (fun _ _ _ _ _ => (pxg_name (i := 8) sc_law.nd rfl (by first | exact Or.inl rfl | exact Or.inr rfl))) (fun _ _ _ _ _ => pxts_nil) (fun _ _ _ _ _ => (px_ix (px 2) (px_call0 (h__law_roll.mono (by decide)) hr tj (by rfl) (pxa_cons (px 1) (pxa_cons (px_callB call_len_str cf_lenS sc_lenS (by rfl) B.len PySem.boot_len (pxba_cons (pxb_of (px 2)) pxba_nil)) pxa_nil)))))))) pxba_nil))) (sxs_wipe (ws := [1, 2, 8]) (sx_cons (sx_set (i := 4) sc_law.nd rfl (Or.inl rfl) (px_call0 (h_falls.mono (by decide)) hr tj (by rfl) (pxa_cons (px 3) pxa_nil))) (sx_cons (sx_if (PW.pt (pxw_or (pxt_cmp op_ne of_ne sm_eqS (pxb_of (px_mt tyS_ok PySem.F.plainAttrs_str PySem.F.slot_str_join PySem.F.type_str_join mt_join mf_join (pxb_of px_str) (pxba_cons (pxb_of (px 4)) pxba_nil))) (pxb_of (px 3)) (nomark _)) (pxw_or1 (pxt_cmp (Hx.op_neP hr.units) of_neP sm_eqP (pxb_of (px_ice (pxo_lc (own := [("_law_one", 6)]) rfl sc_law.nd (pxi_list (px 4)) (blkOk_by (N := N_law) (sc := (defScope s_law)) (by decide +kernel)) (fun _ _ _ _ _ => (pxg_name (i := 6) sc_law.nd rfl (by first | exact Or.inl rfl | exact Or.inr rfl))) (fun _ _ _ _ _ => (pxts_one (pxt_not (pxt_val (px_call0 (h__law_is_simple.mono (by decide)) hr tj (by rfl) (pxa_cons (px 6) pxa_nil)))))) (fun _ _ _ _ _ => (px 6))))) (pxb_of (px_ice (pxo_lst pxa_nil))) (nomark _))))) (sx_one (sx_ret px_bl)) sx_nil) (sx_cons (sx_if (pxt_cmp (Hx.op_neP hr.units) of_neP sm_eqP (pxb_of (px_ice (pxo_lc (own := [("_law_one", 6), ("_law_other", 9)]) rfl sc_law.nd (pxi_zipLL (by rfl) B.zip (px 4) (px_ice (pxo_slL (px 4) (pxp_some px_int) pxp_none))) (blkOk_by (N := N_law) (sc := (defScope s_law)) (by decide +kernel)) (fun _ _ _ _ _ => (pxg_name2 (i := 6) (j := 9) rfl sc_law.nd rfl rfl (by first | exact Or.inl rfl | exact Or.inr rfl) (by first | exact Or.inl rfl | exact Or.inr rfl))) (fun _ _ _ _ _ => (pxts_one (pxt_cmp op_lt_str of_ltS sm_ltS (pxb_of (px 6)) (pxb_of (px 9)) (nomark _)))) (fun _ _ _ _ _ => (px 6))))) (pxb_of (px_ice (pxo_lst pxa_nil))) (nomark _)) (sx_one (sx_ret px_bl)) sx_nil) (sxs_wipe (ws := [9]) (sx_cons (sx_set (i := 5) sc_law.nd rfl (Or.inl rfl) (px_slS (px 3) pxp_none (pxp_some px_int))) (sxs_wipe (ws := [3]) (sx_cons (sx_if (PW.pt (pxw_or (pxt_cmp (Hx.op_neP hr.units) of_neP sm_eqP (pxb_of (px_ice (pxo_lst (pxa_cons (px_call0 (h_falls.mono (by decide)) hr tj (by rfl) (pxa_cons (px 5) pxa_nil)) pxa_nil)))) (pxb_of (px_call0 (h__law_ways_to_fall.mono (by decide)) hr tj (by rfl) (pxa_cons (px 5) pxa_nil))) (nomark _)) (pxw_or1 (pxt_cmp (Hx.op_neP hr.units) of_neP sm_eqP (pxb_of (px_call0 (h_falls.mono (by decide)) hr tj (by rfl) (pxa_cons px_str pxa_nil))) (pxb_of (px_ice (pxo_lst pxa_nil))) (nomark _))))) (sx_one (sx_ret px_bl)) sx_nil) (sxs_wipe (ws := [5]) (sx_cons (sx_for (L2.passes_of rfl) rfl (pxi_list (px_ice (pxo_slL (px 4) pxp_none (pxp_some px_int)))) (pxg_name (i := 6) sc_law.nd rfl (Or.inl rfl)) (sx_cons (sx_if (PW.pt (pxw_or (pxt_cmp (Hx.op_neP hr.units) of_neP sm_eqP (pxb_of (px_call0 (h_falls.mono (by decide)) hr tj (by rfl) (pxa_cons (px 6) pxa_nil))) (pxb_of (px_ice (pxo_lst (pxa_cons (px 6) pxa_nil)))) (nomark _)) (pxw_or1 (pxt_cmp op_ne of_ne sm_eqS (pxb_of (px_call0 (h_round_of.mono (by decide)) hr tj (by rfl) (pxa_cons (px 6) pxa_nil))) (pxb_of (px 6)) (nomark _))))) (sx_one (sx_ret px_bl)) sx_nil) (sx_one (sx_if (PW.pt (pxw_and (pxt_cmp op_lt of_lt sm_I (pxb_of (px_callB call_len_str cf_lenS sc_lenS (by rfl) B.len PySem.boot_len (pxba_cons (pxb_of (px 6)) pxba_nil))) (pxb_of px_int) (nomark _)) (pxw_and1 (pxt_cmp (Hx.op_neP hr.units) of_neP sm_eqP (pxb_of (px_call0 (h_falls.mono (by decide)) hr tj (by rfl) (pxa_cons (px_op op_add_str of_addS sm_addS (pxb_of (px 6)) (pxb_of (px 6))) pxa_nil))) (pxb_of (px_ice (pxo_lst (pxa_cons (px 6) (pxa_cons (px 6) pxa_nil))))) (nomark _))))) (sx_one (sx_ret px_bl)) sx_nil)))) (sxs_wipe (ws := [4, 6]) (sx_cons (sx_for (L2.passes_of rfl) rfl (pxi_list (px_ice (pxo_lst (pxa_cons px_non (pxa_cons px_int (pxa_cons px_str (pxa_cons px_str (pxa_cons (px_ice (pxo_lst (pxa_cons px_str pxa_nil))) (pxa_cons (px_op op_mulS of_mulS sm_mulS (pxb_of px_str) (pxb_of px_int)) pxa_nil))))))))) (pxg_name (i := 7) sc_law.nd rfl (Or.inr rfl)) (sx_cons (sx_if (pxt_cmp (Hx.op_neP hr.units) of_neP sm_eqP (pxb_of (px_told (T := T) (k := 11) (tells rfl rfl hE hT Er B mV (hr.mono (by decide))) (by rfl) ⟨TB.code, TB.bm, TB.gP⟩ rfl hr (LamX.lamS_by (sc := defScope s_law) (by decide +kernel)) (by rfl) (fun _ _ _ _ _ => rfl) j1 tj (fun _ _ _ _ _ _ _ hrL s1 xd1 lx1 tj1 => (px_call (h_falls.mono (by decide)) hrL (L2N.passes_call (L2N.takes_of rfl rfl rfl rfl) fun _ _ _ _ h => h) tj1 lx1 (by rfl) (pxa_cons (px 7) pxa_nil))))) (pxb_of (px_tup (pxa_cons px_str (pxa_cons px_str pxa_nil)))) (nomark _)) (sx_one (sx_ret px_bl)) sx_nil) (sx_one (sx_if (pxt_cmp (Hx.op_neP hr.units) of_neP sm_eqP (pxb_of (px_told (T := T) (k := 11) (tells rfl rfl hE hT Er B mV (hr.mono (by decide))) (by rfl) ⟨TB.code, TB.bm, TB.gP⟩ rfl hr (LamX.lamS_by (sc := defScope s_law) (by decide +kernel)) (by rfl) (fun _ _ _ _ _ => rfl) j1 tj (fun _ _ _ _ _ _ _ hrL s1 xd1 lx1 tj1 => (px_call (h_round_of.mono (by decide)) hrL (L2N.passes_call (L2N.takes_of rfl rfl rfl rfl) fun _ _ _ _ h => h) tj1 lx1 (by rfl) (pxa_cons (px 7) pxa_nil))))) (pxb_of (px_tup (pxa_cons px_str (pxa_cons px_str pxa_nil)))) (nomark _)) (sx_one (sx_ret px_bl)) sx_nil)))) (sxs_wipe (ws := [7]) (sx_one (sx_if (PW.pt (pxw_or (pxt_cmp (Hx.op_neP hr.units) of_neP sm_eqP (pxb_of (px_call0 (h_falls.mono (by decide)) hr tj (by rfl) (pxa_cons (px_op op_mulS of_mulS sm_mulS (pxb_of px_str) (pxb_of px_int)) pxa_nil))) (pxb_of (px_ice (pxo_op op_rep oo_rep sm_rep (px_ice (pxo_lst (pxa_cons px_str pxa_nil))) px_int))) (nomark _)) (pxw_or1 (pxt_cmp (Hx.op_neP hr.units) of_neP sm_eqP (pxb_of (px_call0 (h_falls.mono (by decide)) hr tj (by rfl) (pxa_cons px_str pxa_nil))) (pxb_of (px_ice (pxo_lst (pxa_cons px_str (pxa_cons px_str pxa_nil))))) (nomark _))))) (sx_one (sx_ret px_bl)) sx_nil))))))))))))))))))) (pz_one (pz_ret pd_bl))), ?_⟩)
  obtain ⟨z, ns, rfl, hS, hl, h⟩ := hsp
  exact law_turns (n := 8) rfl turn hS hl (by decide) (by decide) h
end
end K26
/-! the dice of the law -/
namespace K26
open PySem PySem.Spec PyProof.Rows L2 Hx Dl
section
variable {P : Program} {w : World} {K : PySem.W.Frag} {mg : Str → Option Value} {base : Heap} {T : List Addr}
/-! ### a cell -/
noncomputable def spCell (K : PySem.W.Frag) (T : List Addr) : Sp := fun vs H Q _ => ∃ (a : Addr) (ns : List Int) (k : Nat), vs = [.ref a, .int k] ∧ k ≤ 1000 ∧ SqL K H a (ns.map V.int) ∧ ns.length ≤ 1000 ∧ TabsG T H ∧ ∀ H' r, Gr T H H' → Q (.int r) H'
theorem ok_cell {f : Addr} {fd : FuncData} {k : Nat} (F : Fun K "_law_cell" "_law_cell" s__law_cell f fd) (ml : mg "len" = none) : FnOk P w K mg base CX0 (k + 1) f fd ["_law_script", "_law_k"] (spCell K T) := by
  refine F.ok sc__law_cell (fun vs H Q E h => ?_) (fun cdv A outer s H vs Q E hr h => ?_)
  · obtain ⟨a, ns, k, rfl, _⟩ := h
    rfl
  · obtain ⟨a, ns, k, rfl, hk, hS, hl, ht, q⟩ := h
    refine ⟨_, pss_cons (ps_if (pt_cmpR (op_eqP hr.units) (pv 0) (pe_lst pa_nil) (nomark _))
        (pss_one (ps_ret (pe_op op_mul (pv 1) pe_int))) pss_nil)
      (pss_one (ps_ret (pe_op op_add (pe_ix ix_list (pv 0) (pe_op op_mod (pv 1) (pe_callB call_len_seq (by rfl) ml PySem.boot_len (pa_cons (pv 0) pa_nil))) (fun _ _ => rfl))
        (pe_op op_mul (pe_op op_fdiv (pv 1) (pe_callB call_len_seq (by rfl) ml PySem.boot_len (pa_cons (pv 0) pa_nil))) pe_int)))), ?_⟩
    refine ⟨_, rfl, Nat.zero_le _, fun p np => ?_⟩
    have g1 : Gr T H (upd H p (.lst [])) := Gr.new ht _ np
    have hS1 : SqL K (upd H p (.lst [])) a (ns.map V.int) := g1.seqL ht hS
    refine ⟨.list (ns.map .int), .list [], .lst hS1 (dp_ints ns), .lst (SqL.of upd_same) .nil, plain_ints ns, rfl, ?_, _, rfl, ?_⟩
    · show min _ 1 ≤ 64
      omega
    · by_cases hz : ns = []
      · subst hz
        refine iteT ?_
        refine ⟨_, rfl, (k : Int), 7919, rfl, rfl, .inr ⟨by decide, by decide⟩, q _ _ g1⟩
      · have hne : PyData.eqv (.list (ns.map .int)) (.list []) = false := by
          cases ns with
          | nil => exact absurd rfl hz
          | cons x r => rfl
        rw [hne]
        refine iteF ?_
        have hpos : 0 < ns.length := List.length_pos_iff.mpr hz
        have hmod : k % ns.length < ns.length := Nat.mod_lt _ hpos
        have hc : (((ns.map V.int).length : Nat) : Int) = (ns.length : Int) := by rw [List.length_map]
        refine ⟨.ref a, rfl, _, rfl, .ref a, rfl, a, _, rfl, .inl hS1, (k : Int), ((ns.map V.int).length : Nat), rfl, rfl, by omega, a, _, _, .int ns[k % ns.length], rfl, rfl, hS1, ?_, ?_⟩
        · rw [hc, show ((k : Int) % (ns.length : Int)) = ((k % ns.length : Nat) : Int) from rfl]
          refine atI_nat ?_
          rw [List.getElem?_map, List.getElem?_eq_getElem hmod]
          rfl
        · refine ⟨_, rfl, .ref a, rfl, a, _, rfl, .inl hS1, (k : Int), ((ns.map V.int).length : Nat), rfl, rfl, ⟨by omega, by omega⟩, _, 104729, rfl, rfl, .inr ⟨by decide, by decide⟩, _, _, rfl, rfl, q _ _ g1⟩
/-! ### a great number -/
noncomputable def spDrawn : Sp := fun vs H Q _ => ∃ (c k : Int), vs = [.int c, .int k] ∧ ∀ r : Int, 0 ≤ r → Q (.int r) H
theorem pow128 {x : Int} (h0 : 0 ≤ x) (h : x < 340282366920938463463374607431768211507) : x.natAbs < 2 ^ 129 := by
  have e : (2 : Nat) ^ 129 = 680564733841876926926749214863536422912 := by decide
  rw [e]; omega
theorem ok_drawn {f : Addr} {fd : FuncData} {k : Nat} (F : Fun K "_law_drawn" "_law_drawn" s__law_drawn f fd) : FnOk P w K mg base CX0 (k + 1) f fd ["_law_cell_here", "_law_k"] spDrawn := by
  refine F.ok sc__law_drawn (fun vs H Q E h => ?_) (fun cdv A outer s H vs Q E hr h => ?_)
  · obtain ⟨c, k, rfl, _⟩ := h
    rfl
  · obtain ⟨c, k, rfl, q⟩ := h
    refine ⟨_, pss_cons (ps_set (i := 2) sc__law_drawn.nd rfl (.inl rfl) (pe_op op_mod (pe_op op_add (pe_op op_mul (pv 0) pe_int) (pe_op op_mul (pe_op op_add (pv 1) pe_int) pe_int)) pe_int))
      (pss_cons (ps_set (i := 2) sc__law_drawn.nd rfl (.inl rfl) (pe_op op_mod (pe_op op_mulW (pv 2) (pv 2)) pe_int))
      (pss_cons (ps_set (i := 2) sc__law_drawn.nd rfl (.inl rfl) (pe_op op_mulW (pe_op op_mulW (pe_op op_add (pe_op op_mod (pv 2) pe_int) pe_int) (pe_op op_add (pe_op op_fdivW (pv 2) pe_int) pe_int)) (pv 2)))
      (pss_one (ps_ret (pe_op op_mod (pv 2) pe_int))))), ?_⟩
    refine ⟨_, rfl, c, 6364136223846793005, rfl, rfl, .inr ⟨by decide, by decide⟩, _, rfl, k, 1, rfl, rfl, k + 1, 1442695040888963407, rfl, rfl, .inr ⟨by decide, by decide⟩, _, _, rfl, rfl, _, _, rfl, rfl, (by show (0 : Int) < 340282366920938463463374607431768211507; decide), ?_⟩
    dsimp only
    generalize hx : (c * 6364136223846793005 + (k + 1) * 1442695040888963407) % 340282366920938463463374607431768211507 = x
    have x0 : 0 ≤ x := by rw [← hx]; exact Int.emod_nonneg _ (by decide)
    have x1 : x < 340282366920938463463374607431768211507 := by rw [← hx]; exact Int.emod_lt_of_pos _ (by decide)
    refine ⟨_, rfl, _, rfl, x, x, rfl, rfl, wide_mul (pow128 x0 x1) (pow128 x0 x1) (by decide) (by decide) (by decide), _, _, rfl, rfl, (by show (0 : Int) < 340282366920938463463374607431768211297; decide), ?_⟩
    dsimp only
    generalize hy : x * x % 340282366920938463463374607431768211297 = y
    have y0 : 0 ≤ y := by rw [← hy]; exact Int.emod_nonneg _ (by decide)
    have y1 : y < 340282366920938463463374607431768211507 := by
      have : y < 340282366920938463463374607431768211297 := by rw [← hy]; exact Int.emod_lt_of_pos _ (by decide)
      omega
    have d0 : 0 ≤ y / 18446744073709551557 := Int.ediv_nonneg y0 (by decide)
    have d1 : y / 18446744073709551557 < 340282366920938463463374607431768211500 := by
      have := Int.ediv_le_self 18446744073709551557 y0
      have : y / 18446744073709551557 < 20000000000000000000 := by omega
      omega
    have m0 : 0 ≤ y % 18446744073709551557 := Int.emod_nonneg _ (by decide)
    have m1 : y % 18446744073709551557 < 18446744073709551557 := Int.emod_lt_of_pos _ (by decide)
    have w1 : (y % 18446744073709551557 + 1).natAbs < 2 ^ 129 := pow128 (by omega) (by omega)
    have w2 : (y / 18446744073709551557 + 1).natAbs < 2 ^ 129 := pow128 (by omega) (by omega)
    refine ⟨_, rfl, y, 18446744073709551557, rfl, rfl, (by show (0 : Int) < 18446744073709551557; decide), _, 1, rfl, rfl, _, rfl, y, 18446744073709551557, rfl, rfl, wide_div (b := 65) (by decide) (by decide) (by decide) (by decide), _, 1, rfl, rfl, _, _, rfl, rfl, wide_mul w1 w2 (by decide) (by decide) (by decide), _, rfl, _, y, rfl, rfl, wide_mul (wide_lt w1 w2) (pow128 y0 y1) (by decide) (by decide) (by decide), ?_⟩
    refine ⟨_, rfl, _, 340282366920938463463374607431768211507, rfl, rfl, (by show (0 : Int) < 340282366920938463463374607431768211507; decide), q _ (Int.emod_nonneg _ (by decide))⟩
/-! ### a roll -/
theorem ok_roll {f fD : Addr} {fd fdD : FuncData} {k : Nat} (F : Fun K "_law_roll" "_law_roll" s__law_roll f fd) (FD : Fun K "_law_drawn" "_law_drawn" s__law_drawn fD fdD) (bD : Binds K fdD ["_law_cell_here", "_law_k"] []) (gD : mg "_law_drawn" = some (.ref fD)) :
    FnOk P w K mg base CX0 (k + 2) f fd ["_law_dice", "_law_many"] spRollV := by
  have GD : FnOk P w K mg base CX0 (k + 1) fD fdD ["_law_cell_here", "_law_k"] spDrawn := ok_drawn FD
  refine F.ok sc__law_roll (fun vs H Q E h => ?_) (fun cdv A outer s H vs Q E hr h => ?_)
  · obtain ⟨d, m, rfl, _⟩ := h
    rfl
  · obtain ⟨d, m, rfl, ⟨x, y, hD⟩, m0, m1, q⟩ := h
    refine ⟨_, pss_cons (ps_if (pt_cmpR op_ge (pe_ix ix_list (pv 0) pe_int (fun _ _ => rfl)) (pe_op op_pow pe_int pe_int) (nomark _))
        (pss_cons (ps_set (i := 2) sc__law_roll.nd rfl (.inl rfl) (pe_op op_mod (pe_ix ix_list (pv 0) pe_int (fun _ _ => rfl)) (pv 1)))
        (pss_cons (ps_asg (pe_op op_fdiv (pe_ix ix_list (pv 0) pe_int (fun _ _ => rfl)) (pv 1)) (pg_sub (pv 0) pe_int set_list))
        (pss_one (ps_ret (pv 2))))) pss_nil)
      (pss_cons (ps_asg (pe_op op_add (pe_ix ix_list (pv 0) pe_int (fun _ _ => rfl)) pe_int) (pg_sub (pv 0) pe_int set_list))
      (pss_one (ps_ret (pe_op op_mod (pe_op op_fdiv (pe_call GD hr (by rfl) gD FD.kp bD .nil pass0 (pa_cons (pe_ix ix_list (pv 0) pe_int (fun _ _ => rfl)) (pa_cons (pe_ix ix_list (pv 0) pe_int (fun _ _ => rfl)) pa_nil))) pe_int) (pv 1))))), ?_⟩
    refine ⟨_, rfl, d, _, 0, .int x, rfl, rfl, SqL.of hD, rfl, 10, 18, rfl, rfl, ⟨by decide, by decide, by decide⟩, _, _, rfl, rfl, _, rfl, ?_⟩
    refine ite2 (fun c => ?_) (fun c => ?_)
    · refine ⟨_, rfl, d, _, 0, .int x, rfl, rfl, SqL.of hD, rfl, _, rfl, x, m, rfl, rfl, m0, ?_⟩
      refine ⟨_, rfl, d, _, 0, .int x, rfl, rfl, SqL.of hD, rfl, _, rfl, x, m, rfl, rfl, ⟨m0, by omega⟩, ?_⟩
      refine ⟨_, rfl, d, _, 0, 0, rfl, rfl, hD, rfl, ?_⟩
      exact ⟨_, rfl, q (x / m) y (x % m) (Int.emod_nonneg _ (by omega)) (Int.emod_lt_of_pos _ m0)⟩
    · refine ⟨_, rfl, d, _, 1, .int y, rfl, rfl, SqL.of hD, rfl, y, 1, rfl, rfl, ?_⟩
      refine ⟨_, rfl, d, _, 1, 1, rfl, rfl, hD, rfl, ?_⟩
      have hD2 : (upd H d (.lst ([V.int x, V.int y].set 1 (.int (y + 1))))) d = some (.lst [.int x, .int (y + 1)]) := upd_same
      refine ⟨_, rfl, d, _, 0, .int x, rfl, rfl, SqL.of hD2, rfl, _, rfl, d, _, 1, .int (y + 1), rfl, rfl, SqL.of hD2, rfl, x, y + 1, rfl, fun r r0 => ?_⟩
      refine ⟨r, 8, rfl, rfl, ⟨by decide, by decide⟩, _, rfl, _, m, rfl, rfl, m0, ?_⟩
      exact q x (y + 1) _ (Int.emod_nonneg _ (by omega)) (Int.emod_lt_of_pos _ m0)
end
section
variable {P : Program} {w : World} {K : PySem.W.Frag} {mg : Str → Option Value} {base : Heap} {T : List Addr}
theorem DieA.new {H : Hp} {p : Addr} {x y : Int} : DieAt (upd H p (.lst [.int x, .int y])) p := ⟨x, y, upd_same⟩
theorem DieA.other {H : Hp} {d p : Addr} {o : HO} (h : DieAt H d) (n : d ≠ p) : DieAt (upd H p o) d := by
  obtain ⟨x, y, e⟩ := h
  exact ⟨x, y, by rw [upd_ne n]; exact e⟩
theorem DieA.gr {H H' : Hp} {d : Addr} (h : DieAt H d) (g : Gr T H H') (t : TabsG T H) : DieAt H' d := by
  obtain ⟨x, y, e⟩ := h
  exact ⟨x, y, g.at t e notbl_lst⟩
theorem DieA.some {H : Hp} {d : Addr} (h : DieAt H d) : H d ≠ none := by
  obtain ⟨x, y, e⟩ := h
  rw [e]; exact fun z => by cases z
noncomputable def spRoundsT (K : PySem.W.Frag) (T : List Addr) : Sp := fun vs H Q _ => ∃ (a : Addr) (ns : List Int) (high : Nat), vs = [.ref a, .int high] ∧ SqL K H a (ns.map V.int) ∧ ns.length ≤ 1000 ∧ high ≤ 5 ∧ TabsG T H ∧
  ∀ H' p (ds : List Addr), Gr T H H' → H p = none → H' p = some (.lst (ds.map V.ref)) → ds.length ≤ 5 → (∀ d ∈ ds, H d = none ∧ DieAt H' d) → Q (.ref p) H'
theorem small5_ {n : Nat} (h : n ≤ 5) : n < sizeLine := Nat.lt_of_le_of_lt h (by decide)
theorem ok_rounds {f fC : Addr} {fd fdC : FuncData} {k : Nat} (F : Fun K "_law_rounds" "_law_rounds" s__law_rounds f fd) (FC : Fun K "_law_cell" "_law_cell" s__law_cell fC fdC) (bC : Binds K fdC ["_law_script", "_law_k"] []) (gC : mg "_law_cell" = some (.ref fC))
    (ml : mg "len" = none) (mR : mg "range" = none) (mMax : mg "max" = none) (mMin : mg "min" = none) :
    FnOk P w K mg base CX0 (k + 2) f fd ["_law_script", "_law_high"] (spRoundsT K T) := by
  have GC : FnOk P w K mg base CX0 (k + 1) fC fdC ["_law_script", "_law_k"] (spCell K T) := ok_cell FC ml
  refine F.ok sc__law_rounds (fun vs H Q E h => ?_) (fun cdv A outer s H vs Q E hr h => ?_)
  · obtain ⟨a, ns, hi, rfl, _⟩ := h
    rfl
  · obtain ⟨a, ns, hi, rfl, hS, hl, h5, ht, q⟩ := h
    refine ⟨_, pss_one (ps_ret (pe_lc (own := [("_law_k", 2)]) (g := gName 2) (tt := tYes) rfl sc__law_rounds.nd
      (pi_range1 rfl mR (pa_cons (pe_callB (call_max2 rfl) (by rfl) mMax boot_max (pa_cons pe_int (pa_cons (pe_callB (call_min2 rfl) (by rfl) mMin boot_min (pa_cons (pv 1) (pa_cons (pe_callB call_len_seq (by rfl) ml PySem.boot_len (pa_cons (pv 0) pa_nil)) pa_nil))) pa_nil))) pa_nil))
      (blkOk_by (N := ["_law_script", "_law_high", "_law_k"]) (sc := defScope s__law_rounds) (by decide +kernel))
      (fun _ _ _ _ _ => pg_name (i := 2) sc__law_rounds.nd rfl (Or.inl rfl)) (fun _ _ _ _ _ => pts_nil)
      (fun _ _ _ _ _ => pe_lst (pa_cons (pe_call GC hr (by rfl) gC FC.kp bC .nil pass0 (pa_cons (pv 0) (pa_cons (pv 2) pa_nil))) (pa_cons pe_int pa_nil))))), ?_⟩
    refine ⟨_, rfl, .ref a, rfl, a, _, rfl, .inl hS, (hi : Int), ((ns.map V.int).length : Nat), rfl, 1, _, rfl, _, rfl, ?_, ?_, ?_⟩
    · split <;> split <;> omega
    · have : ((ns.map V.int).length : Nat) ≤ 1000 := by rw [List.length_map]; exact hl
      split <;> split <;> omega
    have hn : (if (if (((ns.map V.int).length : Nat) : Int) < (hi : Int) then (((ns.map V.int).length : Nat) : Int) else (hi : Int)) > 1 then (if (((ns.map V.int).length : Nat) : Int) < (hi : Int) then (((ns.map V.int).length : Nat) : Int) else (hi : Int)) else 1).toNat ≤ 5 := by
      split <;> split <;> omega
    generalize (if (if (((ns.map V.int).length : Nat) : Int) < (hi : Int) then (((ns.map V.int).length : Nat) : Int) else (hi : Int)) > 1 then (if (((ns.map V.int).length : Nat) : Int) < (hi : Int) then (((ns.map V.int).length : Nat) : Int) else (hi : Int)) else 1) = cnt at hn ⊢
    intro D nD
    have gD : Gr T H (upd H D (.lst [])) := Gr.new ht _ nD
    refine lc_range (fun i Hc => ∃ ds : List Addr, ds.length = i ∧ Gr T H Hc ∧ Hc D = some (.lst (ds.map V.ref)) ∧ ∀ d ∈ ds, H d = none ∧ DieAt Hc d) ⟨[], rfl, gD, upd_same, fun d hd => by cases hd⟩ (fun i Hc hi ⟨ds, hdl, g, hD, hds⟩ => ?_) (fun Hc ⟨ds, hdl, g, hD, hds⟩ => ?_)
    · refine ⟨rfl, ?_⟩
      refine tyes ?_
      refine ⟨_, rfl, _, rfl, a, ns, i, ?_, by omega, g.seqL ht hS, hl, g.tabs, fun H' r g' => ?_⟩
      · show [V.ref a, V.int (0 + (i : Int))] = _
        rw [Int.zero_add]
      · refine ⟨by show 2 ≤ sizeLine; decide, fun p' np' => ?_⟩
        have hD' : H' D = some (.lst (ds.map V.ref)) := g'.at g.tabs hD notbl_lst
        have nDp : D ≠ p' := ne_of_none hD' np'
        have g2 : Gr T H H' := g.trans g'
        have np : H p' = none := Gr.free ht g2 np'
        have ndD : ∀ d ∈ ds, d ≠ D := fun d hd z => by
          obtain ⟨x, y, e⟩ := (hds d hd).2
          rw [z, hD] at e
          have e2 : ds.map V.ref = [V.int x, V.int y] := by injection Option.some.inj e
          cases ds with
          | nil => cases e2
          | cons z r => cases e2
        refine ⟨ds.map V.ref, by rw [upd_ne nDp]; exact hD', by rw [List.length_map]; exact small5_ (by omega), ds ++ [p'], by rw [List.length_append, hdl]; rfl, (g2.own ht _ np).own ht _ nD, ?_, fun d hd => ?_⟩
        · rw [upd_same, List.map_append]
          rfl
        · rcases List.mem_append.mp hd with z | z
          · have e := (hds d z).2
            have n1 : d ≠ p' := fun y => DieA.some (DieA.gr e g' g.tabs) (by rw [y]; exact np')
            exact ⟨(hds d z).1, DieA.other (DieA.other (DieA.gr e g' g.tabs) n1) (ndD d z)⟩
          · rw [List.mem_singleton.mp z]; exact ⟨np, DieA.other DieA.new (Ne.symm nDp)⟩
    · exact q Hc D ds g nD hD (by omega) hds
end
section
variable {P : Program} {w : World} {K : PySem.W.Frag} {mg : Str → Option Value} {base : Heap} {T : List (Addr × Vol)}
theorem tabs0 (H : Hp) : TabsG [] H := fun _ h => nomatch h
theorem h__law_roll (hR : Dl.Has K mg "_law_roll" s__law_roll ["_law_dice", "_law_many"]) (hD : Dl.Has K mg "_law_drawn" s__law_drawn ["_law_cell_here", "_law_k"]) : Pd P w K mg base T "_law_roll" ["_law_dice", "_law_many"] spRoll 2 := by
  obtain ⟨f, fd, F, g, b⟩ := hR
  obtain ⟨f2, fd2, F2, g2, b2⟩ := hD
  exact ⟨f, fd, (fn_any (ok_roll (k := 0) F F2 b2 g2)).imp roll_lift, g, F.kp, b⟩
theorem h__law_rounds (hR : Dl.Has K mg "_law_rounds" s__law_rounds ["_law_script", "_law_high"]) (hC : Dl.Has K mg "_law_cell" s__law_cell ["_law_script", "_law_k"]) (B : Bn mg) : Pd P w K mg base T "_law_rounds" ["_law_script", "_law_high"] (Dl.spRounds K) 2 := by
  obtain ⟨f, fd, F, g, b⟩ := hR
  obtain ⟨f2, fd2, F2, g2, b2⟩ := hC
  refine ⟨f, fd, (fn_any (ok_rounds (T := []) (k := 0) F F2 b2 g2 B.len B.range B.max B.min)).imp fun vs H Q E z => ?_, g, F.kp, b⟩
  obtain ⟨a, ns, high, e, h1, h2, h3, h4⟩ := rounds_lift (K := K) vs H Q E z
  exact ⟨a, ns, high, e, h1, h2, h3, tabs0 H, fun H' p ds gr np hp hl hd => h4 H' p ds (fun b o e => gr.keep b o e (fun z => nomatch z)) np hp hl hd⟩
end
end K26
/-! code over data, told by equations: for work by hand -/
namespace Xe
open PySem hiding Env
open L2 Dl
noncomputable section
def goX (k : Env → M Out) : Out → M Out
  | .nx ρ => k ρ | .ct ρ => k ρ | .bk ρ => .ret (.nx ρ) | .rt d => .ret (.rt d)
theorem forX_nil {tg : Dt → Env → M Env} {body : Env → M Out} {ρ : Env} : forX tg body [] ρ = .ret (.nx ρ) := rfl
theorem forX_cons {tg : Dt → Env → M Env} {body : Env → M Out} {d : Dt} {ds : List Dt} {ρ : Env} : forX tg body (d :: ds) ρ = bd (tg d ρ) fun ρ2 => bd (body ρ2) (goX (forX tg body ds)) := by
  have e : (fun o : Out => (match o with | .nx ρ => forX tg body ds ρ | .ct ρ => forX tg body ds ρ | .bk ρ => .ret (.nx ρ) | .rt d => .ret (.rt d) : M Out)) = goX (forX tg body ds) := by funext o; cases o <;> rfl
  rw [← e]
  rfl
theorem whX_succ {c : Env → M Bool} {body : Env → M Out} {n : Nat} {ρ : Env} : whX c body (n + 1) ρ = bd (c ρ) fun b => match b with | true => bd (body ρ) (goX (whX c body n)) | false => .ret (.nx ρ) := by
  have e : (fun o : Out => (match o with | .nx ρ => whX c body n ρ | .ct ρ => whX c body n ρ | .bk ρ => .ret (.nx ρ) | .rt d => .ret (.rt d) : M Out)) = goX (whX c body n) := by funext o; cases o <;> rfl
  rw [← e]
  rfl
theorem nameX_eq {i : Nat} {d : Dt} {ρ : Env} : xName i d ρ = .ret (ep ρ i (.va d)) := by unfold xName; rw [fz_eq, rb_eq]
def seqX (k : Env → M Out) : Out → M Out
  | .nx ρ => k ρ | .rt d => .ret (.rt d) | .bk ρ => .ret (.bk ρ) | .ct ρ => .ret (.ct ρ)
theorem xSeq_eq {a b : Env → M Out} {ρ : Env} : xSeq a b ρ = bd (a ρ) (seqX b) := by
  have e : (fun o : Out => (match o with | .nx ρ => b ρ | .rt d => .ret (.rt d) | .bk ρ => .ret (.bk ρ) | .ct ρ => .ret (.ct ρ) : M Out)) = seqX b := by funext o; cases o <;> rfl
  rw [← e]
  rfl
theorem xSet_eq {i : Nat} {c : Env → M Dt} {ρ : Env} : xSet i c ρ = bd (c ρ) fun d => .ret (.nx (ep ρ i (.va d))) := by
  unfold xSet
  congr 1
  funext d
  rw [fz_eq, rb_eq]
theorem xSetO_eq {i : Nat} {c : Env → M (List Dt)} {ρ : Env} : xSetO i c ρ = bd (c ρ) fun ds => .ret (.nx (ep ρ i (.ow (.l ds)))) := by
  unfold xSetO
  congr 1
  funext d
  rw [rb_eq]
theorem xRet_eq {c : Env → M Dt} {ρ : Env} : xRet c ρ = bd (c ρ) fun d => .ret (.rt d) := by
  unfold xRet
  congr 1
  funext d
  rw [fz_eq]
theorem xApp_eq {i : Nat} {c : Env → M Dt} {ρ : Env} {ds : List Dt} (h : eg ρ i = .ow (.l ds)) (hl : ds.length < 16777216) : xApp i c ρ = bd (c ρ) fun d => .ret (.nx (ep ρ i (.ow (.l (ds ++ [d]))))) := by
  have e2 : Nat.blt (lenL ds) 16777216 = true := by rw [lenL_eq]; exact Nat.ble_eq_true_of_le hl
  unfold xApp
  rw [h]
  show bd (c ρ) (fun d => fz d fun d => gd (Nat.blt (lenL ds) 16777216) (rb (apL ds [d]) fun ds => rb (ep ρ i (.ow (.l ds))) fun ρ => .ret (Out.nx ρ))) = _
  congr 1
  funext d
  rw [fz_eq, gd_true e2, rb_eq, rb_eq, apL_eq]
theorem xFrz_eq {i : Nat} {z : Env → M Out} {ρ : Env} {ds : List Dt} (h : eg ρ i = .ow (.l ds)) : xFrz i z ρ = z (ep ρ i (.va (.lst ds))) := by
  unfold xFrz
  rw [h]
  exact rb_eq _ _
def endX : Out → M Dt
  | .nx _ => .ret .non | .rt d => .ret d | .bk _ => .no | .ct _ => .no
theorem fnX_eq {n : Nat} {N : List Str} {body : Env → M Out} {ds : List Dt} (h : ds.length = n) : fnX n N body ds = bd (body (startF N ds)) endX := by
  have e : (fun o : Out => (match o with | .nx _ => .ret .non | .rt d => .ret d | .bk _ => .no | .ct _ => .no : M Dt)) = endX := by funext o; cases o <;> rfl
  unfold fnX
  rw [gd_true (by rw [lenL_eq, h]; exact Nat.beq_refl n), rb_eq, ← e]
  all_goals rfl
end
end Xe
/-! simple rounds (Lyndon words) over numbers: their order, their falls -/
namespace Ly
abbrev W := List Nat
/-- the order of texts -/
def lt : W → W → Bool
  | [], [] => false
  | [], _ :: _ => true
  | _ :: _, [] => false
  | a :: x, b :: y => if a = b then lt x y else decide (a < b)
theorem lt_nil (x : W) : lt x [] = false := by cases x <;> rfl
theorem nil_lt {x : W} (h : x ≠ []) : lt [] x = true := by cases x with | nil => exact absurd rfl h | cons _ _ => rfl
theorem lt_cons (a b : Nat) (x y : W) : lt (a :: x) (b :: y) = if a = b then lt x y else decide (a < b) := rfl
theorem lt_self (a : Nat) (x y : W) : lt (a :: x) (a :: y) = lt x y := by rw [lt_cons, if_pos rfl]
theorem lt_irrefl : ∀ x : W, lt x x = false
  | [] => rfl
  | a :: x => by rw [lt_self, lt_irrefl x]
theorem lt_app : ∀ (p x y : W), lt (p ++ x) (p ++ y) = lt x y
  | [], _, _ => rfl
  | a :: p, x, y => by rw [List.cons_append, List.cons_append, lt_self, lt_app p]
theorem lt_trans : ∀ {x y z : W}, lt x y = true → lt y z = true → lt x z = true
  | _, [], _, h, _ => by rw [lt_nil] at h; cases h
  | _, _ :: _, [], _, h => by rw [lt_nil] at h; cases h
  | [], _ :: _, _ :: _, _, _ => rfl
  | a :: x, b :: y, c :: z, h1, h2 => by
    rw [lt_cons] at h1 h2 ⊢
    by_cases e1 : a = b
    · subst e1
      rw [if_pos rfl] at h1
      by_cases e2 : a = c
      · rw [if_pos e2] at h2 ⊢; exact lt_trans h1 h2
      · rw [if_neg e2] at h2 ⊢; exact h2
    · rw [if_neg e1] at h1
      have h1 := of_decide_eq_true h1
      by_cases e2 : b = c
      · subst e2
        rw [if_neg e1]; exact decide_eq_true h1
      · rw [if_neg e2] at h2
        have h2 := of_decide_eq_true h2
        rw [if_neg (by omega)]; exact decide_eq_true (by omega)
theorem tri : ∀ x y : W, lt x y = true ∨ x = y ∨ lt y x = true
  | [], [] => .inr (.inl rfl)
  | [], _ :: _ => .inl rfl
  | _ :: _, [] => .inr (.inr rfl)
  | a :: x, b :: y => by
    rw [lt_cons, lt_cons]
    by_cases e : a = b
    · subst e
      rw [if_pos rfl, if_pos rfl]
      rcases tri x y with h | h | h
      · exact .inl h
      · exact .inr (.inl (by rw [h]))
      · exact .inr (.inr h)
    · rw [if_neg e, if_neg fun z => e z.symm]
      by_cases l : a < b
      · exact .inl (decide_eq_true l)
      · exact .inr (.inr (decide_eq_true (by omega)))
theorem asym {x y : W} (h : lt x y = true) : lt y x = false := by
  cases w : lt y x with
  | false => rfl
  | true => have := lt_trans h w; rw [lt_irrefl] at this; cases this
theorem lt_more {p x : W} (h : x ≠ []) : lt p (p ++ x) = true := by
  have := lt_app p [] x
  rw [List.append_nil] at this
  rw [this, nil_lt h]
/-- less by a letter -/
def D (x y : W) : Prop := ∃ p a b u v, x = p ++ a :: u ∧ y = p ++ b :: v ∧ a < b
theorem D.more {x y : W} (h : D x y) (s t : W) : D (x ++ s) (y ++ t) := by
  obtain ⟨p, a, b, u, v, rfl, rfl, l⟩ := h
  exact ⟨p, a, b, u ++ s, v ++ t, by simp, by simp, l⟩
theorem D.pre {x y : W} (p : W) (h : D x y) : D (p ++ x) (p ++ y) := by
  obtain ⟨q, a, b, u, v, rfl, rfl, l⟩ := h
  exact ⟨p ++ q, a, b, u, v, by simp, by simp, l⟩
theorem D.lt {x y : W} (h : D x y) : lt x y = true := by
  obtain ⟨p, a, b, u, v, rfl, rfl, l⟩ := h
  rw [lt_app, lt_cons, if_neg (by omega)]
  exact decide_eq_true l
theorem lt_cases : ∀ {x y : W}, lt x y = true → D x y ∨ ∃ z, z ≠ [] ∧ y = x ++ z
  | [], [], h => nomatch h
  | [], b :: y, _ => .inr ⟨b :: y, by simp, rfl⟩
  | _ :: _, [], h => nomatch h
  | a :: x, b :: y, h => by
    rw [lt_cons] at h
    by_cases e : a = b
    · subst e
      rw [if_pos rfl] at h
      rcases lt_cases h with d | ⟨z, hz, e⟩
      · exact .inl (D.pre [a] d)
      · exact .inr ⟨z, hz, by rw [e]; rfl⟩
    · rw [if_neg e] at h
      exact .inl ⟨[], a, b, x, y, rfl, rfl, of_decide_eq_true h⟩
/-- of no greater a length: by a letter -/
theorem lt_short {x y : W} (h : lt x y = true) (l : y.length ≤ x.length) : D x y := by
  rcases lt_cases h with d | ⟨z, hz, e⟩
  · exact d
  · have := congrArg List.length e
    rw [List.length_append] at this
    exact absurd (List.length_eq_zero_iff.mp (by omega : z.length = 0)) hz
/-! ### simple rounds -/
def Lyn (w : W) : Prop := w ≠ [] ∧ ∀ p s, w = p ++ s → p ≠ [] → s ≠ [] → lt w s = true
/-- by the turns -/
theorem of_turns {w : W} (h0 : w ≠ []) (h : ∀ p s, w = p ++ s → p ≠ [] → s ≠ [] → lt w (s ++ p) = true) : Lyn w := by
  refine ⟨h0, fun p s e hp hs => ?_⟩
  rcases tri w s with l | l | l
  · exact l
  · exact absurd (congrArg List.length (e.symm.trans l)) (by rw [List.length_append]; have := List.length_pos_iff.mpr hp; omega)
  · exfalso
    have t := h p s e hp hs
    rcases lt_cases l with d | ⟨x, hx, ex⟩
    · have := (d.more p []).lt
      rw [List.append_nil] at this
      rw [asym this] at t
      cases t
    · -- w = s ++ x and w = p ++ s
      have l1 : x.length = p.length := by
        have a := congrArg List.length ex
        have b := congrArg List.length e
        rw [List.length_append] at a b
        omega
      rw [ex, lt_app] at t
      have t2 := h s x ex hs hx
      rw [e] at t2
      rcases tri x p with k | k | k
      · have := ((lt_short k (by omega)).more s s).lt
        rw [asym this] at t2
        cases t2
      · rw [k, lt_irrefl] at t; cases t
      · rw [asym k] at t; cases t
theorem turns {w : W} (h : Lyn w) {p s : W} (e : w = p ++ s) (hp : p ≠ []) (hs : s ≠ []) : lt w (s ++ p) = true := by
  have l := h.2 p s e hp hs
  have short : s.length ≤ w.length := by rw [e, List.length_append]; omega
  have := ((lt_short l short).more [] p).lt
  rwa [List.append_nil] at this
/-! ### ways to fall -/
/-- simple rounds, none less than the one behind it -/
def Falls : List W → Prop
  | [] => True
  | [w] => Lyn w
  | w :: v :: r => Lyn w ∧ lt w v = false ∧ Falls (v :: r)
theorem Falls.head {w : W} {r : List W} (h : Falls (w :: r)) : Lyn w := by cases r with | nil => exact h | cons v r => exact h.1
theorem Falls.tail {w : W} {r : List W} (h : Falls (w :: r)) : Falls r := by cases r with | nil => exact trivial | cons v r => exact h.2.2
def le (x y : W) : Prop := lt y x = false
theorem le_trans {x y z : W} (h1 : le x y) (h2 : le y z) : le x z := by
  unfold le at *
  cases w : lt z x with
  | false => rfl
  | true =>
    rcases tri y x with k | k | k
    · rw [h1] at k; cases k
    · subst k; rw [h2] at w; cases w
    · have := lt_trans w k; rw [h2] at this; cases this
theorem le_pre (p x : W) : le p (p ++ x) := by
  unfold le
  cases x with
  | nil => rw [List.append_nil]; exact lt_irrefl p
  | cons a x => exact asym (lt_more (by simp))
theorem all_le {w : W} : ∀ {r : List W}, Falls (w :: r) → ∀ v ∈ r, le v w
  | [], _, v, hv => absurd hv (by simp)
  | u :: r, h, v, hv => by
    rcases List.mem_cons.mp hv with e | hv
    · rw [e]; exact h.2.1
    · exact le_trans (all_le h.2.2 v hv) h.2.1
/-- a beginning that ends within what was put together -/
theorem cut_at : ∀ {r : List W} {s x : W}, (∀ w ∈ r, w ≠ []) → r.flatten = s ++ x → s ≠ [] → ∃ a w b y z, r = a ++ w :: b ∧ w = y ++ z ∧ y ≠ [] ∧ s = a.flatten ++ y
  | [], s, x, _, e, hs => by
    have : s = [] := (List.append_eq_nil_iff.mp (e.symm.trans rfl)).1
    exact absurd this hs
  | w :: r, s, x, hw, e, hs => by
    rw [List.flatten_cons] at e
    rcases List.append_eq_append_iff.mp e with ⟨c, e1, e2⟩ | ⟨c, e1, e2⟩
    · -- s = w ++ c
      cases c with
      | nil => exact ⟨[], w, r, w, [], rfl, by simp, hw w (by simp), by rw [e1]; simp⟩
      | cons d c =>
        obtain ⟨a, v, b, y, z, h1, h2, h3, h4⟩ := cut_at (r := r) (s := d :: c) (fun v hv => hw v (List.mem_cons_of_mem _ hv)) e2 (by simp)
        exact ⟨w :: a, v, b, y, z, by rw [h1]; rfl, h2, h3, by rw [e1, h4]; simp⟩
    · exact ⟨[], w, r, s, c, rfl, e1, hs, by simp⟩
theorem Falls.ne : ∀ {r : List W}, Falls r → ∀ w ∈ r, w ≠ []
  | [], _, w, h => absurd h (by simp)
  | v :: r, f, w, h => by
    rcases List.mem_cons.mp h with e | h
    · rw [e]; exact f.head.1
    · exact Falls.ne f.tail w h
/-- the first is the longest simple round at the beginning -/
theorem longest {w p x : W} {r : List W} (f : Falls (w :: r)) (hp : Lyn p) (e : (w :: r).flatten = p ++ x) : p.length ≤ w.length := by
  rcases Nat.lt_or_ge w.length p.length with l | l
  · exfalso
    rw [List.flatten_cons] at e
    rcases List.append_eq_append_iff.mp e with ⟨c, e1, e2⟩ | ⟨c, e1, e2⟩
    · have hc : c ≠ [] := fun z => by rw [z, List.append_nil] at e1; rw [e1] at l; exact absurd l (Nat.lt_irrefl _)
      obtain ⟨a, v, b, y, z, h1, h2, h3, h4⟩ := cut_at (fun v hv => f.tail.ne v hv) e2 hc
      have hv : v ∈ r := by rw [h1]; simp
      have low : lt p y = true := hp.2 (w ++ a.flatten) y (by rw [e1, h4]; simp) (fun z => f.head.1 (List.append_eq_nil_iff.mp z).1) h3
      have up : le y p := le_trans (by rw [h2]; exact le_pre y z) (le_trans (all_le f v hv) (by rw [e1]; exact le_pre w c))
      unfold le at up
      rw [up] at low
      cases low
    · have := congrArg List.length e1
      rw [List.length_append] at this
      omega
  · exact l
theorem one_way : ∀ {r q : List W}, Falls r → Falls q → r.flatten = q.flatten → r = q
  | [], [], _, _, _ => rfl
  | [], w :: q, _, h, e => absurd (List.append_eq_nil_iff.mp (show w ++ q.flatten = [] from e.symm)).1 h.head.1
  | w :: r, [], h, _, e => absurd (List.append_eq_nil_iff.mp (show w ++ r.flatten = [] from e)).1 h.head.1
  | w :: r, v :: q, h1, h2, e => by
    have l1 := longest h1 h2.head (e.trans (List.flatten_cons ..))
    have l2 := longest h2 h1.head (e.symm.trans (List.flatten_cons ..))
    have e' : w ++ r.flatten = v ++ q.flatten := e
    obtain ⟨e1, e2⟩ := List.append_inj e' (by omega)
    rw [e1, one_way h1.tail h2.tail e2]
/-! ### the longest beginning -/
/-- z goes on as u began -/
structure Goes (z : W) (n : Nat) : Prop where
  pos : 0 < n
  le : n ≤ z.length
  lyn : Lyn (z.take n)
  per : z.drop n = z.take (z.length - n)
theorem D.of_drop {q x y : W} {a b : Nat} (h : a < b) : D (q ++ a :: x) (q ++ b :: y) := ⟨q, a, b, x, y, rfl, rfl, h⟩
/-- where it rises, all so far is one round -/
theorem grow {z y : W} {n a b : Nat} (g : Goes z n) (ha : z.drop (z.length - n) = a :: y) (h : a < b) : Lyn (z ++ [b]) := by
  have step : ∀ i, n ≤ i → i ≤ z.length → D (z.drop (i - n) ++ [b]) (z.drop i ++ [b]) := fun i h1 h2 => by
    have e1 : z.drop i = (z.take (z.length - n)).drop (i - n) := by
      rw [← g.per, List.drop_drop]
      congr 1
      omega
    have e2 : z.drop (i - n) = (z.take (z.length - n)).drop (i - n) ++ a :: y := by
      conv => lhs; rw [← List.take_append_drop (z.length - n) z, ha]
      rw [List.drop_append_of_le_length (by rw [List.length_take]; omega)]
    rw [e1, e2, List.append_assoc, List.cons_append]
    exact D.of_drop h
  have all : ∀ i, 0 < i → i ≤ z.length → lt (z ++ [b]) (z.drop i ++ [b]) = true := fun i => by
    induction i using Nat.strongRecOn with
    | _ i ih =>
      intro h1 h2
      rcases Nat.lt_or_ge i n with l | l
      · have e : z.take n = (z.take n).take i ++ (z.take n).drop i := (List.take_append_drop i _).symm
        have len : (z.take n).length = n := by rw [List.length_take]; have := g.le; omega
        have short := g.lyn.2 _ _ e (fun w => by have := congrArg List.length w; rw [List.length_take, len] at this; simp at this; omega) (fun w => by have := congrArg List.length w; rw [List.length_drop, len] at this; simp at this; omega)
        have d := lt_short short (by rw [List.length_drop]; omega)
        have e3 : z ++ [b] = z.take n ++ (z.drop n ++ [b]) := by rw [← List.append_assoc, List.take_append_drop]
        have e5 : z.drop i = (z.take n).drop i ++ z.drop n := by
          conv => lhs; rw [← List.take_append_drop n z]
          rw [List.drop_append_of_le_length (by rw [len]; omega)]
        have e4 : z.drop i ++ [b] = (z.take n).drop i ++ (z.drop n ++ [b]) := by rw [e5, List.append_assoc]
        rw [e3, e4]
        exact (d.more _ _).lt
      · have d := (step i l h2).lt
        rcases Nat.lt_or_ge n i with l2 | l2
        · exact lt_trans (ih (i - n) (by have := g.pos; omega) (by omega) (by omega)) d
        · rw [show i - n = 0 by omega, List.drop_zero] at d
          exact d
  refine ⟨by simp, fun p s e hp hs => ?_⟩
  have lp := List.length_pos_iff.mpr hp
  have ls := List.length_pos_iff.mpr hs
  have tot := congrArg List.length e
  rw [List.length_append, List.length_append, List.length_singleton] at tot
  have es : s = z.drop p.length ++ [b] := by
    have := congrArg (List.drop p.length) e
    rw [List.drop_left, List.drop_append_of_le_length (by omega)] at this
    exact this.symm
  rw [es]
  exact all p.length lp (by omega)
theorem lyn_one (a : Nat) : Lyn [a] := ⟨by simp, fun p s e hp hs => by
  have := congrArg List.length e
  rw [List.length_append] at this
  have := List.length_pos_iff.mpr hp
  have := List.length_pos_iff.mpr hs
  simp at *
  omega⟩
theorem goes_all {z : W} (h : Lyn z) : Goes z z.length := ⟨List.length_pos_iff.mpr h.1, Nat.le_refl _, by rw [List.take_length]; exact h, by rw [List.drop_length, Nat.sub_self, List.take_zero]⟩
theorem goes_on {z y : W} {n a : Nat} (g : Goes z n) (ha : z.drop (z.length - n) = a :: y) : Goes (z ++ [a]) n := by
  have l := g.le
  refine ⟨g.pos, by rw [List.length_append]; omega, by rw [List.take_append_of_le_length l]; exact g.lyn, ?_⟩
  rw [List.drop_append_of_le_length l, g.per, List.length_append, List.length_singleton, show z.length + 1 - n = (z.length - n) + 1 by omega]
  rw [List.take_append_of_le_length (by have := g.pos; omega), List.take_add_one, ← show (z.drop (z.length - n))[0]? = z[z.length - n]? by rw [List.getElem?_drop, Nat.add_zero], ha]
  rfl
/-- what the walk finds: the size, the place where it ends -/
def ff : Nat → W → W → Nat → Nat × Nat
  | 0, z, _, n => (n, z.length)
  | _ + 1, z, [], n => (n, z.length)
  | f + 1, z, b :: r, n => match z.drop (z.length - n) with
    | [] => (n, z.length)
    | a :: _ => if a ≤ b then (if a < b then ff f (z ++ [b]) r (z.length + 1) else ff f (z ++ [b]) r n) else (n, z.length)
structure Ends (t : W) (n m : Nat) : Prop where
  le : m ≤ t.length
  goes : Goes (t.take m) n
  stop : t.drop m = [] ∨ ∃ a y b r, (t.take m).drop (m - n) = a :: y ∧ t.drop m = b :: r ∧ b < a
theorem ff_ends {t : W} : ∀ (f : Nat) (z r : W) (n : Nat), t = z ++ r → Goes z n → r.length ≤ f → Ends t (ff f z r n).1 (ff f z r n).2
  | f, z, [], n, e, g, _ => by
    rw [List.append_nil] at e
    subst e
    have : ff f t [] n = (n, t.length) := by cases f <;> rfl
    rw [this]
    exact ⟨Nat.le_refl _, by rw [List.take_length]; exact g, .inl (List.drop_length ..)⟩
  | 0, z, b :: r, n, e, g, h => absurd h (by simp)
  | f + 1, z, b :: r, n, e, g, h => by
    have hd : (z.drop (z.length - n)).length = n := by rw [List.length_drop]; have := g.le; omega
    cases q : z.drop (z.length - n) with
    | nil => rw [q] at hd; have := g.pos; simp at hd; omega
    | cons a y =>
      have he : ff (f + 1) z (b :: r) n = if a ≤ b then (if a < b then ff f (z ++ [b]) r (z.length + 1) else ff f (z ++ [b]) r n) else (n, z.length) := by
        show (match z.drop (z.length - n) with | [] => (n, z.length) | a :: _ => if a ≤ b then (if a < b then ff f (z ++ [b]) r (z.length + 1) else ff f (z ++ [b]) r n) else (n, z.length)) = _
        rw [q]
      rw [he]
      have e' : t = (z ++ [b]) ++ r := by rw [e]; simp
      have h' : r.length ≤ f := by simp at h; omega
      by_cases l : a ≤ b
      · rw [if_pos l]
        by_cases l2 : a < b
        · rw [if_pos l2]
          have := goes_all (grow g q l2)
          rw [List.length_append, List.length_singleton] at this
          exact ff_ends f _ r _ e' this h'
        · rw [if_neg l2]
          have : a = b := by omega
          subst this
          exact ff_ends f _ r _ e' (goes_on g q) h'
      · rw [if_neg l]
        have et : t.take z.length = z := by rw [e, List.take_left]
        refine ⟨by rw [e, List.length_append]; omega, by show Goes (t.take z.length) n; rw [et]; exact g, .inr ⟨a, y, b, r, by show (t.take z.length).drop (z.length - n) = a :: y; rw [et]; exact q, by show t.drop z.length = b :: r; rw [e, List.drop_left], by omega⟩⟩
theorem per_drop {z : W} {n : Nat} (g : Goes z n) : ∀ j, n * j ≤ z.length → z.drop (n * j) = z.take (z.length - n * j)
  | 0, _ => by rw [Nat.mul_zero, List.drop_zero, Nat.sub_zero, List.take_length]
  | j + 1, h => by
    have h' : n * j + n ≤ z.length := by rw [Nat.mul_succ] at h; exact h
    rw [Nat.mul_succ, ← List.drop_drop, per_drop g j (by omega), List.drop_take, g.per, List.take_take]
    congr 1
    omega
theorem per_take {z : W} {n : Nat} (g : Goes z n) : ∀ j, n * j ≤ z.length → z.take (n * j) = (List.replicate j (z.take n)).flatten
  | 0, _ => by simp
  | j + 1, h => by
    have h' : n * j + n ≤ z.length := by rw [Nat.mul_succ] at h; exact h
    have l : (z.take n).length = n := by rw [List.length_take]; omega
    rw [List.replicate_succ, List.flatten_cons, ← per_take g j (by omega)]
    conv => lhs; rw [← List.take_append_drop n z]
    rw [List.take_append, l, List.take_of_length_le (by rw [l, Nat.mul_succ]; omega), g.per, List.take_take, Nat.mul_succ]
    congr 2
    omega
theorem Ends.whole {t : W} {n m : Nat} (e : Ends t n m) : t = (List.replicate (m / n) (t.take n)).flatten ++ t.drop (n * (m / n)) := by
  have l : (t.take m).length = m := by rw [List.length_take]; have := e.le; omega
  have nm : n ≤ m := by have := e.goes.le; omega
  have k : n * (m / n) ≤ m := Nat.mul_div_le m n
  have := per_take e.goes (m / n) (by omega)
  rw [List.take_take, List.take_take, Nat.min_eq_left k, Nat.min_eq_left nm] at this
  rw [← this, List.take_append_drop]
theorem Ends.rest {t : W} {n m : Nat} (e : Ends t n m) : lt (t.take n) (t.drop (n * (m / n))) = false := by
  have l : (t.take m).length = m := by rw [List.length_take]; have := e.le; omega
  have np := e.goes.pos
  have nm : n ≤ m := by have := e.goes.le; omega
  have k : n * (m / n) ≤ m := Nat.mul_div_le m n
  have r : m - n * (m / n) < n := by have := Nat.mod_lt m np; have := Nat.div_add_mod m n; omega
  generalize hr : m - n * (m / n) = q at r
  -- what is left of the beginning
  have tail : (t.take m).drop (n * (m / n)) = (t.take n).take q := by
    rw [per_drop e.goes _ (by omega), l, hr, List.take_take, List.take_take]
    congr 1
    omega
  have cut : t.drop (n * (m / n)) = (t.take n).take q ++ t.drop m := by
    conv => lhs; rw [← List.take_append_drop m t]
    rw [List.drop_append_of_le_length (by omega), tail]
  rw [cut]
  rcases e.stop with h | ⟨a, y, b, s, h1, h2, h3⟩
  · rw [h, List.append_nil]
    have := le_pre ((t.take n).take q) ((t.take n).drop q)
    rw [List.take_append_drop] at this
    exact this
  · have one : 1 ≤ m / n := (Nat.le_div_iff_mul_le np).mpr (by omega)
    have sub : n * (m / n - 1) + n = n * (m / n) := by
      obtain ⟨j, hj⟩ : ∃ j, m / n = j + 1 := ⟨m / n - 1, by omega⟩
      rw [hj, Nat.add_sub_cancel, Nat.mul_succ]
    have up : (t.take n).drop q = a :: (y.take (n - q - 1)) := by
      have e1 : (t.take m).drop (m - n) = ((t.take m).drop (n * (m / n - 1))).drop q := by
        rw [List.drop_drop]
        congr 1
        omega
      rw [e1, per_drop e.goes _ (by omega), l] at h1
      have e2 : (t.take n).drop q = (((t.take m).take (m - n * (m / n - 1))).drop q).take (n - q) := by
        rw [← List.drop_take, List.take_take, List.take_take]
        congr 2
        omega
      rw [e2, h1]
      obtain ⟨j, hj⟩ : ∃ j, n - q = j + 1 := ⟨n - q - 1, by omega⟩
      rw [hj]
      rfl
    have d : D ((t.take n).take q ++ t.drop m) (t.take n) := ⟨(t.take n).take q, b, a, s, y.take (n - q - 1), by rw [h2], by rw [← up, List.take_append_drop], h3⟩
    exact asym d.lt
theorem falls_more {u : W} (hu : Lyn u) : ∀ {k : Nat} {r : List W}, Falls r → (∀ v s, r = v :: s → lt u v = false) → Falls (List.replicate k u ++ r)
  | 0, _, h, _ => h
  | 1, [], _, _ => hu
  | 1, v :: s, h, hv => ⟨hu, hv v s rfl, h⟩
  | k + 2, r, h, hv => ⟨hu, lt_irrefl u, falls_more (k := k + 1) hu h hv⟩
/-- the falls of a text -/
def fall : Nat → W → List W
  | 0, _ => []
  | _ + 1, [] => []
  | f + 1, b :: r => List.replicate ((ff r.length [b] r 1).2 / (ff r.length [b] r 1).1) ((b :: r).take (ff r.length [b] r 1).1) ++ fall f ((b :: r).drop ((ff r.length [b] r 1).1 * ((ff r.length [b] r 1).2 / (ff r.length [b] r 1).1)))
theorem fall_ok : ∀ (f : Nat) (t : W), t.length ≤ f → Falls (fall f t) ∧ (fall f t).flatten = t
  | 0, [], _ => ⟨trivial, rfl⟩
  | 0, b :: r, h => absurd h (by simp)
  | _ + 1, [], _ => ⟨trivial, rfl⟩
  | f + 1, b :: r, h => by
    have e := ff_ends (t := b :: r) r.length [b] r 1 rfl (goes_all (lyn_one b)) (Nat.le_refl _)
    unfold fall
    generalize (ff r.length [b] r 1).1 = n at e ⊢
    generalize (ff r.length [b] r 1).2 = m at e ⊢
    have np := e.goes.pos
    have nm : n ≤ m := by have := e.goes.le; rw [List.length_take] at this; omega
    have one : 1 ≤ m / n := (Nat.le_div_iff_mul_le np).mpr (by omega)
    have big : 1 ≤ n * (m / n) := Nat.mul_le_mul np one
    have ih := fall_ok f ((b :: r).drop (n * (m / n))) (by rw [List.length_drop]; simp at h ⊢; omega)
    have lyn : Lyn ((b :: r).take n) := by have := e.goes.lyn; rwa [List.take_take, Nat.min_eq_left nm] at this
    refine ⟨falls_more lyn ih.1 fun v s hv => ?_, ?_⟩
    · have low : le v ((b :: r).drop (n * (m / n))) := by
        rw [← ih.2, hv]
        exact le_pre v s.flatten
      exact le_trans low e.rest
    · rw [List.flatten_append, ih.2]
      exact e.whole.symm
/-- of a simple round itself, and of it twice -/
theorem fall_self {w : W} (h : Lyn w) {f : Nat} (hf : w.length ≤ f) : fall f w = [w] := one_way (fall_ok f w hf).1 h (by rw [(fall_ok f w hf).2]; simp)
theorem fall_twice {w : W} (h : Lyn w) {f : Nat} (hf : (w ++ w).length ≤ f) : fall f (w ++ w) = [w, w] := one_way (fall_ok f _ hf).1 ⟨h, lt_irrefl w, h⟩ (by rw [(fall_ok f _ hf).2]; simp)
end Ly
/-! falls as code over data are the falls of Ly -/
namespace K26
open PySem hiding Env
open L2 Dl Xe
noncomputable section
def T (l : List Nat) : Dt := .str ⟨⟨l⟩⟩
theorem lt_is : ∀ a b : List Nat, ltL a b = Ly.lt a b
  | [], [] => rfl
  | [], _ :: _ => rfl
  | _ :: _, [] => rfl
  | x :: a, y :: b => by
    rw [Ly.lt_cons]
    show (match Nat.blt x y with | true => true | false => (match Nat.beq x y with | true => ltL a b | false => false)) = _
    rw [lt_is a b]
    by_cases e : x = y
    · subst e
      rw [if_pos rfl, show Nat.blt x x = false by cases w : Nat.blt x x with | false => rfl | true => exact absurd (Nat.le_of_ble_eq_true w) (by omega), show Nat.beq x x = true from Nat.beq_refl x]
    · rw [if_neg e]
      by_cases l : x < y
      · rw [show Nat.blt x y = true from Nat.ble_eq_true_of_le l]; exact (decide_eq_true l).symm
      · rw [show Nat.blt x y = false by cases w : Nat.blt x y with | false => rfl | true => exact absurd (Nat.le_of_ble_eq_true w) l, show Nat.beq x y = false by cases w : Nat.beq x y with | false => rfl | true => exact absurd (Nat.eq_of_beq_eq_true w) e]
        exact (decide_eq_false l).symm
theorem sz_ok {l : List Nat} (h : l.length ≤ 16777216) : szS ⟨⟨l⟩⟩ = true := by
  unfold szS
  rw [lenL_eq]
  exact Nat.ble_eq_true_of_le h
theorem ix_txt {l : List Nat} {i c : Nat} (h : l[i]? = some c) (hl : l.length ≤ 16777216) : fIx (T l) (.int (i : Nat)) = .ret (T [c]) := by
  show gd (szS ⟨⟨l⟩⟩) (match ixL i l with | some c => M.ret (Dt.str ⟨#[c]⟩) | none => .no) = _
  rw [gd_true (sz_ok hl), ixL_eq, h]
  rfl
theorem len_txt {l : List Nat} (hl : l.length ≤ 16777216) : gLenS [T l] = .ret (.int (l.length : Nat)) := by
  show gd (szS ⟨⟨l⟩⟩) (M.ret (Dt.int (lenL l : Nat))) = _
  rw [gd_true (sz_ok hl), lenL_eq]
theorem cut_from (l : List Nat) (k : Nat) : cutF ⟨⟨l⟩⟩ (some (k : Nat)) none = ⟨⟨l.drop k⟩⟩ := by
  show (⟨⟨tkL (HT.sIx (lenL l) (lenL l) none - HT.sIx (lenL l) 0 (some (k : Nat))) (drL (HT.sIx (lenL l) 0 (some (k : Nat))) l)⟩⟩ : Str) = _
  rw [HT.sIx_nat, HT.sIx_none, tkL_eq, drL_eq, lenL_eq]
  congr 2
  rw [List.take_of_length_le (by rw [List.length_drop]; omega)]
  rcases Nat.le_total k l.length with h | h
  · rw [Nat.min_eq_left h]
  · rw [Nat.min_eq_right h, List.drop_length, List.drop_of_length_le h]
theorem cut_to (l : List Nat) (k : Nat) : cutF ⟨⟨l⟩⟩ none (some (k : Nat)) = ⟨⟨l.take k⟩⟩ := by
  show (⟨⟨tkL (HT.sIx (lenL l) (lenL l) (some (k : Nat)) - HT.sIx (lenL l) 0 none) (drL (HT.sIx (lenL l) 0 none) l)⟩⟩ : Str) = _
  rw [HT.sIx_nat, HT.sIx_none, tkL_eq, drL_eq, lenL_eq, List.drop_zero, Nat.sub_zero]
  congr 2
  rcases Nat.le_total k l.length with h | h
  · rw [Nat.min_eq_left h]
  · rw [Nat.min_eq_right h, List.take_length, List.take_of_length_le h]
theorem cut_mid (l : List Nat) (a b : Nat) (h : a ≤ b) (hb : b ≤ l.length) : cutF ⟨⟨l⟩⟩ (some (a : Nat)) (some (b : Nat)) = ⟨⟨(l.drop a).take (b - a)⟩⟩ := by
  show (⟨⟨tkL (HT.sIx (lenL l) (lenL l) (some (b : Nat)) - HT.sIx (lenL l) 0 (some (a : Nat))) (drL (HT.sIx (lenL l) 0 (some (a : Nat))) l)⟩⟩ : Str) = _
  rw [HT.sIx_nat, HT.sIx_nat, tkL_eq, drL_eq, lenL_eq, Nat.min_eq_left hb, Nat.min_eq_left (by omega)]
theorem sl_txt {l r : List Nat} {lo hi : Option Int} (hl : l.length ≤ 16777216) (h : cutF ⟨⟨l⟩⟩ lo hi = ⟨⟨r⟩⟩) : gSlS (T l) lo hi = .ret (T r) := by
  show gd (szS ⟨⟨l⟩⟩) (M.ret (Dt.str (cutF ⟨⟨l⟩⟩ lo hi))) = _
  rw [gd_true (sz_ok hl), h]
  rfl
/-! ### first_fall -/
abbrev E1 (s : List Nat) (n m : Nat) : Env := [.va (T s), .va (.int (n : Nat)), .va (.int (m : Nat))]
def condF : Env → M Bool := (xAnd (xB (xOp (fI gLt) (xVar 2) (xCB gLenS (xCons (xVar 0) xNil)))) (xB (xOp (fS0 tLe) (xOp fIx (xVar 0) (xOp (fI gSub) (xVar 2) (xVar 1))) (xOp fIx (xVar 0) (xVar 2)))))
def bodyF : Env → M Out := (xSeq (xIf (xB (xOp (fS0 tLt) (xOp fIx (xVar 0) (xOp (fI gSub) (xVar 2) (xVar 1))) (xOp fIx (xVar 0) (xVar 2)))) (xSet 1 (xOp (fI gAdd) (xVar 2) (xC (.int 1)))) xNext) (xAug 2 (fun i j => i + j) (xC (.int 1))))
theorem at_len {s : List Nat} {n m : Nat} (hs : s.length ≤ 1000) : xOp (fI gLt) (xVar 2) (xCB gLenS (xCons (xVar 0) xNil)) (E1 s n m) = .ret (.bl (decide ((m : Int) < (s.length : Nat)))) := by
  show bd (M.ret (Dt.int (m : Nat))) (fun x => bd (bd (M.ret [T s]) gLenS) fun y => fI gLt x y) = _
  rw [bd_ret, bd_ret, len_txt (by omega), bd_ret]
  rfl
theorem pair_at {z r : List Nat} {n a b : Nat} {y : List Nat} (hn : n ≤ z.length) (hs : (z ++ b :: r).length ≤ 1000) (ha : z.drop (z.length - n) = a :: y) (g : Str → Str → Bool) :
    xOp (fS0 g) (xOp fIx (xVar 0) (xOp (fI gSub) (xVar 2) (xVar 1))) (xOp fIx (xVar 0) (xVar 2)) (E1 (z ++ b :: r) n z.length) = .ret (.bl (g ⟨⟨[a]⟩⟩ ⟨⟨[b]⟩⟩)) := by
  have e1 : (z ++ b :: r)[z.length - n]? = some a := by
    have l : z.length - n < z.length := by
      rcases Nat.lt_or_ge (z.length - n) z.length with l | l
      · exact l
      · rw [List.drop_of_length_le l] at ha; cases ha
    rw [List.getElem?_append_left l, ← Nat.add_zero (z.length - n), ← List.getElem?_drop, ha]
    rfl
  have e2 : (z ++ b :: r)[z.length]? = some b := by rw [List.getElem?_append_right (Nat.le_refl _), Nat.sub_self]; rfl
  have e3 : ((z.length : Nat) : Int) - (n : Nat) = ((z.length - n : Nat) : Int) := by omega
  show bd (bd (M.ret (T (z ++ b :: r))) fun x => bd (M.ret (Dt.int (((z.length : Nat) : Int) - (n : Nat)))) fun y => fIx x y) (fun x => bd (bd (M.ret (T (z ++ b :: r))) fun x => bd (M.ret (Dt.int (z.length : Nat))) fun y => fIx x y) fun y => fS0 g x y) = _
  rw [bd_ret, bd_ret, e3, ix_txt e1 (by omega), bd_ret, bd_ret, bd_ret, ix_txt e2 (by omega), bd_ret]
  rfl
theorem le_one (a b : Nat) : tLe ⟨⟨[a]⟩⟩ ⟨⟨[b]⟩⟩ = decide (a ≤ b) := by
  show (!ltL [b] [a]) = _
  rw [lt_is, Ly.lt_cons]
  by_cases e : b = a
  · rw [if_pos e]; exact (decide_eq_true (by omega)).symm
  · rw [if_neg e]
    by_cases l : b < a
    · rw [decide_eq_true l]; exact (decide_eq_false (by omega)).symm
    · rw [decide_eq_false l]; exact (decide_eq_true (by omega)).symm
theorem lt_one (a b : Nat) : tLt ⟨⟨[a]⟩⟩ ⟨⟨[b]⟩⟩ = decide (a < b) := by
  show ltL [a] [b] = _
  rw [lt_is, Ly.lt_cons]
  by_cases e : a = b
  · rw [if_pos e]; exact (decide_eq_false (by omega)).symm
  · rw [if_neg e]
theorem aug_at {s : List Nat} {n m : Nat} : xAug 2 (fun i j => i + j) (xC (.int 1)) (E1 s n m) = .ret (.nx (E1 s n (m + 1))) := by
  show fzI (((m : Nat) : Int) + 1) (fun w => rb (ep (E1 s n m) 2 (.va (.int w))) fun ρ => M.ret (Out.nx ρ)) = _
  rw [fzI_eq, rb_eq]
  rfl
theorem set_size {s : List Nat} {n m : Nat} : xSet 1 (xOp (fI gAdd) (xVar 2) (xC (.int 1))) (E1 s n m) = .ret (.nx (E1 s (m + 1) m)) := by
  rw [xSet_eq]
  rfl
theorem body_F {z r : List Nat} {n a b : Nat} {y : List Nat} (hn : n ≤ z.length) (hs : (z ++ b :: r).length ≤ 1000) (ha : z.drop (z.length - n) = a :: y) :
    bodyF (E1 (z ++ b :: r) n z.length) = .ret (.nx (E1 (z ++ b :: r) (if a < b then z.length + 1 else n) (z.length + 1))) := by
  unfold bodyF
  rw [xSeq_eq]
  have t : xIf (xB (xOp (fS0 tLt) (xOp fIx (xVar 0) (xOp (fI gSub) (xVar 2) (xVar 1))) (xOp fIx (xVar 0) (xVar 2)))) (xSet 1 (xOp (fI gAdd) (xVar 2) (xC (.int 1)))) xNext (E1 (z ++ b :: r) n z.length) = .ret (.nx (E1 (z ++ b :: r) (if a < b then z.length + 1 else n) z.length)) := by
    show bd (bd (xOp (fS0 tLt) _ _ _) _) _ = _
    rw [pair_at hn hs ha, bd_ret, lt_one]
    by_cases l : a < b
    · rw [decide_eq_true l, if_pos l]
      show xSet 1 (xOp (fI gAdd) (xVar 2) (xC (.int 1))) (E1 (z ++ b :: r) n z.length) = _
      exact set_size
    · rw [decide_eq_false l, if_neg l]
      rfl
  rw [t, bd_ret]
  exact aug_at
theorem loop_F : ∀ (f k : Nat) (z r : List Nat) (n : Nat), r.length ≤ f → f < k → 1 ≤ n → n ≤ z.length → (z ++ r).length ≤ 1000 → whX condF bodyF k (E1 (z ++ r) n z.length) = .ret (.nx (E1 (z ++ r) (Ly.ff f z r n).1 (Ly.ff f z r n).2))
  | f, 0, _, _, _, _, hk, _, _, _ => absurd hk (by omega)
  | f, k + 1, z, [], n, _, _, h1, h2, hs => by
    have e : Ly.ff f z [] n = (n, z.length) := by cases f <;> rfl
    rw [e, List.append_nil, whX_succ]
    have c : condF (E1 z n z.length) = .ret false := by
      show bd (bd (xOp (fI gLt) (xVar 2) (xCB gLenS (xCons (xVar 0) xNil)) (E1 z n z.length)) _) _ = _
      rw [at_len (by rw [List.append_nil] at hs; exact hs), bd_ret, decide_eq_false (by omega)]
      rfl
    rw [c, bd_ret]
  | 0, k + 1, z, b :: r, n, h, _, _, _, _ => absurd h (by simp)
  | f + 1, k + 1, z, b :: r, n, h, hk, h1, h2, hs => by
    cases q : z.drop (z.length - n) with
    | nil =>
      have := congrArg List.length q
      rw [List.length_drop] at this
      simp at this
      omega
    | cons a y =>
      have he : Ly.ff (f + 1) z (b :: r) n = if a ≤ b then (if a < b then Ly.ff f (z ++ [b]) r (z.length + 1) else Ly.ff f (z ++ [b]) r n) else (n, z.length) := by
        show (match z.drop (z.length - n) with | [] => (n, z.length) | a :: _ => if a ≤ b then (if a < b then Ly.ff f (z ++ [b]) r (z.length + 1) else Ly.ff f (z ++ [b]) r n) else (n, z.length)) = _
        rw [q]
      have c : condF (E1 (z ++ b :: r) n z.length) = .ret (decide (a ≤ b)) := by
        show bd (bd (xOp (fI gLt) (xVar 2) (xCB gLenS (xCons (xVar 0) xNil)) (E1 (z ++ b :: r) n z.length)) _) _ = _
        rw [at_len hs, bd_ret, decide_eq_true (by rw [List.length_append, List.length_cons]; omega)]
        show bd (xOp (fS0 tLe) _ _ _) _ = _
        rw [pair_at h2 hs q, bd_ret, le_one]
      rw [he, whX_succ, c, bd_ret]
      have ee : z ++ b :: r = (z ++ [b]) ++ r := by simp
      have el : (z ++ [b]).length = z.length + 1 := by simp
      have hr : r.length ≤ f := by simp at h; omega
      by_cases l : a ≤ b
      · rw [decide_eq_true l, if_pos l]
        show bd (bodyF _) _ = _
        rw [body_F h2 hs q, bd_ret]
        show whX condF bodyF k (E1 (z ++ b :: r) (if a < b then z.length + 1 else n) (z.length + 1)) = _
        rw [ee, ← el]
        by_cases l2 : a < b
        · rw [if_pos l2, if_pos l2]
          exact loop_F f k (z ++ [b]) r _ hr (by omega) (by omega) (by omega) (by rw [← ee]; exact hs)
        · rw [if_neg l2, if_neg l2]
          exact loop_F f k (z ++ [b]) r n hr (by omega) h1 (by omega) (by rw [← ee]; exact hs)
      · rw [decide_eq_false l, if_neg l]
theorem first_is {b : Nat} {r : List Nat} (hs : (b :: r).length ≤ 900) : x_first_fall [T (b :: r)] = .ret (.tup [.int ((Ly.ff r.length [b] r 1).1 : Nat), .int (((Ly.ff r.length [b] r 1).2 / (Ly.ff r.length [b] r 1).1 : Nat) : Int)]) := by
  have e := Ly.ff_ends (t := b :: r) r.length [b] r 1 rfl (Ly.goes_all (Ly.lyn_one b)) (Nat.le_refl _)
  have lp := loop_F r.length 1000 [b] r 1 (Nat.le_refl _) (by simp at hs; omega) (by omega) (by simp) (by simp at hs ⊢; omega)
  generalize hn : (Ly.ff r.length [b] r 1).1 = n at e lp ⊢
  generalize hm : (Ly.ff r.length [b] r 1).2 = m at e lp ⊢
  have np := e.goes.pos
  have nm : n ≤ m := by have := e.goes.le; rw [List.length_take] at this; omega
  have ml := e.le
  show fnX 1 N_first_fall c_first_fall _ = _
  rw [fnX_eq (n := 1) rfl]
  have run : c_first_fall (startF N_first_fall [T (b :: r)]) = .ret (.rt (.tup [.int (n : Nat), .int ((m / n : Nat) : Int)])) := by
    unfold c_first_fall
    rw [xSeq_eq, xSet_eq]
    show bd (M.ret (Out.nx [.va (T (b :: r)), .va (.int 1), .no])) _ = _
    rw [bd_ret]
    show xSeq _ _ _ = _
    rw [xSeq_eq, xSet_eq]
    show bd (M.ret (Out.nx (E1 (b :: r) 1 1))) _ = _
    rw [bd_ret]
    show xSeq _ _ _ = _
    rw [xSeq_eq]
    have lp' : whX condF bodyF 1000 (E1 (b :: r) 1 1) = .ret (.nx (E1 (b :: r) n m)) := lp
    unfold condF bodyF at lp'
    rw [lp', bd_ret]
    show xRet _ (E1 (b :: r) n m) = _
    rw [xRet_eq]
    have dv : xOp (fIC cDiv gDiv) (xVar 2) (xVar 1) (E1 (b :: r) n m) = .ret (.int ((m / n : Nat) : Int)) := by
      show gd (cDiv (m : Nat) (n : Nat)) (M.ret (gDiv (m : Nat) (n : Nat))) = _
      have g : cDiv (m : Nat) (n : Nat) = true := by
        unfold cDiv
        rw [decide_eq_true (by omega), decide_eq_true (by omega)]
        rfl
      rw [gd_true g]
      rfl
    show bd (bd (bd (M.ret (Dt.int (n : Nat))) fun d => bd (bd (xOp (fIC cDiv gDiv) (xVar 2) (xVar 1) (E1 (b :: r) n m)) fun d => bd (M.ret []) fun ds => .ret (d :: ds)) fun ds => .ret (d :: ds)) fun ds => .ret (Dt.tup ds)) _ = _
    rw [dv]
    rfl
  rw [run, bd_ret]
  rfl
/-! ### need_text -/
theorem letter_is {c : Nat} (h1 : 97 ≤ c) (h2 : c ≤ 122) : x_is_letter [T [c]] = .ret (.bl true) := by
  show fnX 1 N_is_letter c_is_letter _ = _
  rw [fnX_eq (n := 1) rfl]
  have a : tLe ⟨#[97]⟩ ⟨⟨[c]⟩⟩ = true := (le_one 97 c).trans (decide_eq_true h1)
  have b : tLe ⟨⟨[c]⟩⟩ ⟨#[122]⟩ = true := (le_one c 122).trans (decide_eq_true h2)
  have ch : xV (xChain (fS0 tLe) (fS0 tLe) (xC (.str ⟨#[97]⟩)) (xVar 0) (xC (.str ⟨#[122]⟩))) [.va (T [c])] = .ret (.bl true) := by
    show bd (bd (noX (M.ret (Dt.bl (tLe ⟨#[97]⟩ ⟨⟨[c]⟩⟩)))) fun z => match z with | .bl true => bd (M.ret (Dt.str ⟨#[122]⟩)) fun w => bd (noX (fS0 tLe (T [c]) w)) fun v => (match v with | .bl b => M.ret b | _ => .no) | .bl false => .ret false | _ => .no) _ = _
    rw [a]
    show bd (bd (noX (M.ret (Dt.bl (tLe ⟨⟨[c]⟩⟩ ⟨#[122]⟩)))) fun v => match v with | .bl b => M.ret b | _ => .no) _ = _
    rw [b]
    rfl
  have run : c_is_letter [.va (T [c])] = .ret (.rt (.bl true)) := by
    unfold c_is_letter
    rw [xRet_eq]
    show bd (xV (xChain (fS0 tLe) (fS0 tLe) (xC (.str ⟨#[97]⟩)) (xVar 0) (xC (.str ⟨#[122]⟩))) [.va (T [c])]) _ = _
    rw [ch]
    rfl
  show bd (c_is_letter [.va (T [c])]) endX = _
  rw [run]
  rfl
theorem aa_cons {ρ : Env} {tg : Dt → Env → M Env} {tt : Env → M Bool} {te : Env → M Dt} {d : Dt} {ds : List Dt} : aaX false ρ tg tt te (d :: ds) = bd (noX (tg d ρ)) fun ρ2 => bd (noX (tt ρ2)) fun b => match b with | true => bd (noX (te ρ2)) fun y => (match y with | .bl k => (match k with | false => .ret (.bl false) | true => aaX false ρ tg tt te ds) | _ => .no) | false => aaX false ρ tg tt te ds := by
  show bd (noX (tg d ρ)) (fun ρ2 => bd (noX (tt ρ2)) fun b => _) = _
  congr 1
  funext ρ2
  congr 1
  funext b
  cases b with
  | true =>
    show bd (noX (te ρ2)) _ = bd (noX (te ρ2)) _
    congr 1
    funext y
    cases y with
    | bl k => cases k <;> rfl
    | _ => rfl
  | false => rfl
abbrev cLet : Env → M Dt := xCB x_is_letter (xCons (xVar 1) xNil)
theorem all_letters {x : Dt} : ∀ {l : List Nat} {w : Sl}, (∀ c ∈ l, 97 ≤ c ∧ c ≤ 122) → aaX false [.va x, w] (xName 1) xYes cLet (l.map fun c => T [c]) = .ret (.bl true)
  | [], _, _ => rfl
  | c :: l, w, h => by
    rw [List.map_cons, aa_cons, nameX_eq]
    show bd (noX (bd (M.ret [T [c]]) x_is_letter)) _ = _
    rw [bd_ret, letter_is (h c (by simp)).1 (h c (by simp)).2]
    exact all_letters (l := l) (w := w) fun c m => h c (List.mem_cons_of_mem _ m)
theorem signs_is (l : List Nat) : signs ⟨⟨l⟩⟩ = l.map fun c => T [c] := by
  show mpL _ l = _
  rw [mpL_eq]
  rfl
/-- a text of at most sixty small letters -/
structure Word (l : List Nat) : Prop where
  len : l.length ≤ 60
  low : ∀ c ∈ l, 97 ≤ c ∧ c ≤ 122
theorem need_is {l : List Nat} (h : Word l) : x_need_text [T l] = .ret .non := by
  show fnX 1 N_need_text c_need_text _ = _
  rw [fnX_eq (n := 1) rfl]
  have ln : xB (xOp (fI gGt) (xCB gLenS (xCons (xVar 0) xNil)) (xC (.int 60))) [.va (T l), .no] = .ret false := by
    show bd (bd (bd (M.ret [T l]) gLenS) fun x => bd (M.ret (Dt.int 60)) fun y => fI gGt x y) _ = _
    rw [bd_ret, len_txt (by have := h.len; omega), bd_ret, bd_ret]
    show M.ret (decide ((60 : Int) < (l.length : Nat))) = _
    rw [decide_eq_false (by have := h.len; omega)]
  have al : xB (xAA false (xSeqS (xVar 0)) [1] (xName 1) xYes cLet) [.va (T l), .no] = .ret true := by
    show bd (bd (M.ret (signs ⟨⟨l⟩⟩)) fun ds => rb (wipeE [.va (T l), .no] [1]) fun ρ => aaX false ρ (xName 1) xYes cLet ds) _ = _
    rw [signs_is, bd_ret, rb_eq]
    show bd (aaX false [.va (T l), .no] (xName 1) xYes cLet _) _ = _
    rw [all_letters h.low]
    rfl
  have run : c_need_text [.va (T l), .no] = .ret (.nx [.va (T l), .no]) := by
    unfold c_need_text
    show bd (bd (M.ret false) fun k => match k with | true => M.ret true | false => bd (xB (xOp (fI gGt) (xCB gLenS (xCons (xVar 0) xNil)) (xC (.int 60))) [.va (T l), .no]) fun k => match k with | true => M.ret true | false => bd (xB (xAA false (xSeqS (xVar 0)) [1] (xName 1) xYes cLet) [.va (T l), .no]) fun k => M.ret (!k)) _ = _
    rw [bd_ret]
    show bd (bd (xB (xOp (fI gGt) (xCB gLenS (xCons (xVar 0) xNil)) (xC (.int 60))) [.va (T l), .no]) _) _ = _
    rw [ln, bd_ret]
    show bd (bd (xB (xAA false (xSeqS (xVar 0)) [1] (xName 1) xYes cLet) [.va (T l), .no]) _) _ = _
    rw [al]
    rfl
  show bd (c_need_text [.va (T l), .no]) endX = _
  rw [run]
  rfl
/-! ### falls -/
abbrev E2 (t : List Nat) (acc : List Dt) (s : Nat) (y z : Sl) : Env := [.va (T t), .ow (.l acc), .va (.int (s : Nat)), y, z]
def condL : Env → M Bool := (xB (xOp (fI gLt) (xVar 2) (xCB gLenS (xCons (xVar 0) xNil))))
def bodyL : Env → M Out := (xSeq (xAsg (xCB x_first_fall (xCons (xSl gSlS (xVar 0) (xP (xVar 2)) xNoP) xNil)) (xName2 3 4)) (xSeq (xExt 1 (xL (xOpO fRep (xL (xCons (xSl gSlS (xVar 0) (xP (xVar 2)) (xP (xOp (fI gAdd) (xVar 2) (xVar 3)))) xNil)) (xVar 4)))) (xAug 2 (fun i j => i + j) (xOp (fIC cMul gMul) (xVar 3) (xVar 4)))))
theorem cond_L {t : List Nat} {acc : List Dt} {s : Nat} {y z : Sl} (h : t.length ≤ 1000) : condL (E2 t acc s y z) = .ret (decide (s < t.length)) := by
  unfold condL
  show bd (bd (M.ret (Dt.int (s : Nat))) fun x => bd (bd (M.ret [T t]) gLenS) fun y => fI gLt x y) _ = _
  rw [bd_ret, bd_ret, len_txt (by omega), bd_ret]
  show M.ret (decide ((s : Int) < (t.length : Nat))) = _
  congr 1
  exact decide_eq_decide.mpr (by omega)
theorem flat_one {d : Dt} : ∀ q : Nat, (List.replicate q [d]).flatten = List.replicate q d
  | 0 => rfl
  | q + 1 => by rw [List.replicate_succ, List.flatten_cons, flat_one q, List.replicate_succ]; rfl
theorem rep_one {d : Dt} {q : Nat} (h : q ≤ 1000) : fRep (.lst [d]) (.int (q : Nat)) = .ret (List.replicate q d) := by
  unfold fRep
  dsimp only
  rw [decide_eq_true (by omega), decide_eq_true (by omega), show szB ([d].length * ((q : Nat) : Int).toNat) = true from Nat.ble_eq_true_of_le (by rw [List.length_singleton, Nat.one_mul, Int.toNat_natCast]; omega), Int.toNat_natCast, rpL_eq, flat_one]
  rfl
theorem body_L {t r : List Nat} {acc : List Dt} {s b n m : Nat} {y z : Sl} (ht : t.length ≤ 120) (ha : acc.length ≤ 120) (hd : t.drop s = b :: r) (hn : (Ly.ff r.length [b] r 1).1 = n) (hm : (Ly.ff r.length [b] r 1).2 = m) :
    bodyL (E2 t acc s y z) = .ret (.nx (E2 t (acc ++ List.replicate (m / n) (T ((b :: r).take n))) (s + n * (m / n)) (.va (.int (n : Nat))) (.va (.int ((m / n : Nat) : Int))))) := by
  have e := Ly.ff_ends (t := b :: r) r.length [b] r 1 rfl (Ly.goes_all (Ly.lyn_one b)) (Nat.le_refl _)
  have ld := congrArg List.length hd
  rw [List.length_drop] at ld
  have fi := first_is (b := b) (r := r) (by omega)
  rw [hn, hm] at e fi
  have np := e.goes.pos
  have nm : n ≤ m := by have := e.goes.le; rw [List.length_take] at this; omega
  have ml := e.le
  have ql : m / n ≤ m := Nat.div_le_self m n
  unfold bodyL
  rw [xSeq_eq]
  have s1 : xAsg (xCB x_first_fall (xCons (xSl gSlS (xVar 0) (xP (xVar 2)) xNoP) xNil)) (xName2 3 4) (E2 t acc s y z) = .ret (.nx (E2 t acc s (.va (.int (n : Nat))) (.va (.int ((m / n : Nat) : Int))))) := by
    show bd (bd (bd (gSlS (T t) (some (s : Nat)) none) fun d => bd (M.ret []) fun ds => .ret (d :: ds)) x_first_fall) _ = _
    rw [sl_txt (by omega) (cut_from t s), hd, bd_ret]
    show bd (x_first_fall [T (b :: r)]) _ = _
    rw [fi, bd_ret]
    show bd (fz (Dt.int (n : Nat)) fun x => fz (Dt.int ((m / n : Nat) : Int)) fun y => rb (ep (ep (E2 t acc s _ _) 3 (.va x)) 4 (.va y)) .ret) _ = _
    rw [fz_eq, fz_eq, rb_eq]
    rfl
  rw [s1, bd_ret]
  show xSeq _ _ _ = _
  rw [xSeq_eq]
  have s2 : xExt 1 (xL (xOpO fRep (xL (xCons (xSl gSlS (xVar 0) (xP (xVar 2)) (xP (xOp (fI gAdd) (xVar 2) (xVar 3)))) xNil)) (xVar 4))) (E2 t acc s (.va (.int (n : Nat))) (.va (.int ((m / n : Nat) : Int)))) = .ret (.nx (E2 t (acc ++ List.replicate (m / n) (T ((b :: r).take n))) s (.va (.int (n : Nat))) (.va (.int ((m / n : Nat) : Int))))) := by
    have c : cutF ⟨⟨t⟩⟩ (some (s : Nat)) (some ((s + n : Nat) : Int)) = ⟨⟨(b :: r).take n⟩⟩ := by
      rw [cut_mid t s (s + n) (by omega) (by omega), hd, Nat.add_sub_cancel_left]
    have v : xL (xOpO fRep (xL (xCons (xSl gSlS (xVar 0) (xP (xVar 2)) (xP (xOp (fI gAdd) (xVar 2) (xVar 3)))) xNil)) (xVar 4)) (E2 t acc s (.va (.int (n : Nat))) (.va (.int ((m / n : Nat) : Int)))) = .ret (.lst (List.replicate (m / n) (T ((b :: r).take n)))) := by
      show bd (bd (bd (bd (gSlS (T t) (some (s : Nat)) (some ((s + n : Nat) : Int))) fun d => bd (M.ret []) fun ds => .ret (d :: ds)) fun ds => .ret (Dt.lst ds)) fun x => fRep x (.int ((m / n : Nat) : Int))) _ = _
      rw [sl_txt (by omega) c, bd_ret, bd_ret, bd_ret, bd_ret, rep_one (by omega), bd_ret]
    show bd (xL _ _) _ = _
    rw [v, bd_ret]
    show gd (szB (acc.length + (List.replicate (m / n) (T ((b :: r).take n))).length)) (rb (acc ++ List.replicate (m / n) (T ((b :: r).take n))) fun ds => rb (ep (E2 t acc s (.va (.int (n : Nat))) (.va (.int ((m / n : Nat) : Int)))) 1 (.ow (.l ds))) fun ρ => M.ret (Out.nx ρ)) = _
    have z : szB (acc.length + (List.replicate (m / n) (T ((b :: r).take n))).length) = true := Nat.ble_eq_true_of_le (by rw [List.length_replicate]; omega)
    rw [gd_true z, rb_eq, rb_eq]
    rfl
  rw [s2, bd_ret]
  show xAug 2 (fun i j => i + j) (xOp (fIC cMul gMul) (xVar 3) (xVar 4)) (E2 t (acc ++ List.replicate (m / n) (T ((b :: r).take n))) s (.va (.int (n : Nat))) (.va (.int ((m / n : Nat) : Int)))) = _
  have c : cMul (n : Nat) ((m / n : Nat) : Int) = true := by
    show (Nat.blt n 18446744073709551616 || _) = true
    rw [show Nat.blt n 18446744073709551616 = true from Nat.ble_eq_true_of_le (by omega)]
    rfl
  show bd (gd (cMul (n : Nat) ((m / n : Nat) : Int)) (M.ret (gMul (n : Nat) ((m / n : Nat) : Int)))) (fun d => match d with | .int v => fzI ((s : Nat) + v) fun w => rb (ep (E2 t (acc ++ List.replicate (m / n) (T ((b :: r).take n))) s (.va (.int (n : Nat))) (.va (.int ((m / n : Nat) : Int)))) 2 (.va (.int w))) fun ρ => M.ret (Out.nx ρ) | _ => .no) = _
  rw [gd_true c, bd_ret]
  show fzI (((s : Nat) : Int) + (n : Nat) * ((m / n : Nat) : Int)) (fun w => rb (ep (E2 t (acc ++ List.replicate (m / n) (T ((b :: r).take n))) s (.va (.int (n : Nat))) (.va (.int ((m / n : Nat) : Int)))) 2 (.va (.int w))) fun ρ => M.ret (Out.nx ρ)) = _
  rw [fzI_eq, rb_eq]
  rfl
theorem loop_L {t : List Nat} (ht : t.length ≤ 60) : ∀ (f k s : Nat) (acc : List Dt) (y z : Sl), (t.drop s).length ≤ f → f < k → s ≤ t.length → acc.length + (t.drop s).length ≤ 60 →
    ∃ y2 z2, whX condL bodyL k (E2 t acc s y z) = .ret (.nx (E2 t (acc ++ (Ly.fall f (t.drop s)).map T) t.length y2 z2))
  | f, 0, _, _, _, _, _, h, _, _ => absurd h (by omega)
  | f, k + 1, s, acc, y, z, hf, hk, hs, ha => by
    cases hd : t.drop s with
    | nil =>
      have ld := congrArg List.length hd
      rw [List.length_drop, List.length_nil] at ld
      have e : s = t.length := by omega
      refine ⟨y, z, ?_⟩
      rw [whX_succ, cond_L (by omega), decide_eq_false (by omega), bd_ret, e, show Ly.fall f [] = [] by cases f <;> rfl, List.map_nil, List.append_nil]
    | cons b r =>
      have ld := congrArg List.length hd
      rw [List.length_drop] at ld
      cases f with
      | zero => rw [hd] at hf; simp at hf
      | succ f =>
        have e := Ly.ff_ends (t := b :: r) r.length [b] r 1 rfl (Ly.goes_all (Ly.lyn_one b)) (Nat.le_refl _)
        rw [whX_succ, cond_L (by omega), decide_eq_true (by simp at ld; omega), bd_ret]
        show ∃ y2 z2, bd (bodyL (E2 t acc s y z)) (goX (whX condL bodyL k)) = _
        rw [body_L (by omega) (by omega) hd rfl rfl, bd_ret]
        unfold Ly.fall
        generalize (Ly.ff r.length [b] r 1).1 = n at e ⊢
        generalize (Ly.ff r.length [b] r 1).2 = m at e ⊢
        have np := e.goes.pos
        have nm : n ≤ m := by have := e.goes.le; rw [List.length_take] at this; omega
        have ml := e.le
        have one : 1 ≤ m / n := (Nat.le_div_iff_mul_le np).mpr (by omega)
        have big : 1 ≤ n * (m / n) := Nat.mul_le_mul np one
        have low : n * (m / n) ≤ m := Nat.mul_div_le m n
        have few : m / n ≤ n * (m / n) := Nat.le_mul_of_pos_left _ np
        have nx : t.drop (s + n * (m / n)) = (b :: r).drop (n * (m / n)) := by rw [← hd, List.drop_drop]
        have ln := congrArg List.length nx
        rw [List.length_drop, List.length_drop] at ln
        rw [hd] at hf ha
        obtain ⟨y2, z2, h⟩ := loop_L ht f k (s + n * (m / n)) (acc ++ List.replicate (m / n) (T ((b :: r).take n))) (.va (.int (n : Nat))) (.va (.int ((m / n : Nat) : Int))) (by rw [List.length_drop]; omega) (by omega) (by omega) (by rw [List.length_append, List.length_replicate, List.length_drop]; omega)
        refine ⟨y2, z2, ?_⟩
        show whX condL bodyL k _ = _
        rw [h, nx, List.map_append, List.map_replicate, List.append_assoc]
theorem falls_is {t : List Nat} (h : Word t) : x_falls [T t] = .ret (.lst ((Ly.fall 60 t).map T)) := by
  show fnX 1 N_falls c_falls _ = _
  rw [fnX_eq (n := 1) rfl]
  obtain ⟨y, z, lp⟩ := loop_L h.len 60 1000 0 [] .no .no (by rw [List.drop_zero]; exact h.len) (by omega) (by omega) (by rw [List.drop_zero]; have := h.len; simpa using this)
  rw [List.drop_zero, List.nil_append] at lp
  have run : c_falls (startF N_falls [T t]) = .ret (.rt (.lst ((Ly.fall 60 t).map T))) := by
    unfold c_falls
    rw [xSeq_eq]
    show bd (bd (x_need_text [T t]) fun _ => .ret (Out.nx [.va (T t), .no, .no, .no, .no])) _ = _
    rw [need_is h, bd_ret, bd_ret]
    show xSeq (xSetO 1 xNil) _ [.va (T t), .no, .no, .no, .no] = _
    rw [xSeq_eq, xSetO_eq]
    show bd (bd (M.ret []) _) _ = _
    rw [bd_ret, bd_ret]
    show xSeq (xSet 2 (xC (.int 0))) _ [.va (T t), .ow (.l []), .no, .no, .no] = _
    rw [xSeq_eq, xSet_eq]
    show bd (bd (M.ret (Dt.int 0)) _) _ = _
    rw [bd_ret, bd_ret]
    show xSeq (whX condL bodyL 1000) _ (E2 t [] 0 .no .no) = _
    rw [xSeq_eq, lp, bd_ret]
    show xFrz 1 (xRet (xVar 1)) (E2 t ((Ly.fall 60 t).map T) t.length y z) = _
    rw [xFrz_eq (ds := (Ly.fall 60 t).map T) rfl, xRet_eq]
    rfl
  rw [run, bd_ret]
  rfl
/-! ### turns -/
theorem lc_cons {ρ : Env} {tg : Dt → Env → M Env} {tt : Env → M Bool} {te : Env → M Dt} {d : Dt} {ds acc : List Dt} : lcX ρ tg tt te (d :: ds) acc = bd (noX (tg d ρ)) fun ρ2 => bd (noX (tt ρ2)) fun b => match b with | true => bd (noX (te ρ2)) fun y => lcX ρ tg tt te ds (y :: acc) | false => lcX ρ tg tt te ds acc := by
  show bd (noX (tg d ρ)) (fun ρ2 => bd (noX (tt ρ2)) fun b => _) = _
  congr 1
  funext ρ2
  congr 1
  funext b
  cases b with
  | true =>
    show bd (noX (te ρ2)) _ = bd (noX (te ρ2)) _
    congr 1
    funext y
    exact fz_eq y _
  | false => rfl
theorem lc_pick {ρ : Env} {tg : Dt → Env → M Env} {tt : Env → M Bool} {te : Env → M Dt} (f : Dt → Dt) (p : Dt → Bool) : ∀ (ds acc : List Dt), (∀ d ∈ ds, ∃ ρ2, tg d ρ = .ret ρ2 ∧ tt ρ2 = .ret (p d) ∧ te ρ2 = .ret (f d)) → lcX ρ tg tt te ds acc = .ret (acc.reverse ++ (ds.filter p).map f)
  | [], acc, _ => by
    show M.ret (rvL acc) = _
    rw [rvL_eq, List.filter_nil, List.map_nil, List.append_nil]
  | d :: ds, acc, h => by
    obtain ⟨ρ2, a, b, c⟩ := h d (List.mem_cons_self ..)
    rw [lc_cons, a]
    show bd (noX (tt ρ2)) _ = _
    rw [b]
    cases e : p d with
    | true =>
      show bd (noX (te ρ2)) _ = _
      rw [c]
      show lcX ρ tg tt te ds (f d :: acc) = _
      rw [lc_pick f p ds (f d :: acc) fun x m => h x (List.mem_cons_of_mem _ m), List.filter_cons, if_pos e, List.map_cons, List.reverse_cons, List.append_assoc]
      rfl
    | false =>
      show lcX ρ tg tt te ds acc = _
      rw [lc_pick f p ds acc fun x m => h x (List.mem_cons_of_mem _ m), List.filter_cons, if_neg (by rw [e]; decide)]
def turn (t : List Nat) (i : Nat) : List Nat := t.drop i ++ t.take i
def trs (t : List Nat) : List (List Nat) := (List.range t.length).map (turn t)
abbrev cTurns : Env → M (List Dt) := xLc (xR1 (xCB gLenS (xCons (xVar 0) xNil))) [1] (xName 1) xYes (xOp fAddS (xSl gSlS (xVar 0) (xP (xVar 1)) xNoP) (xSl gSlS (xVar 0) xNoP (xP (xVar 1))))
theorem add_txt {x y : List Nat} (h : x.length + y.length ≤ 1000) : fAddS (T x) (T y) = .ret (T (x ++ y)) := by
  show gd (szB (lenL x + lenL y)) (M.ret (Dt.str ⟨⟨apL x y⟩⟩)) = _
  rw [gd_true (show szB (lenL x + lenL y) = true from Nat.ble_eq_true_of_le (by rw [lenL_eq, lenL_eq]; omega)), apL_eq]
  rfl
theorem turns_is {t : List Nat} (ht : t.length ≤ 500) : cTurns [.va (T t), .no] = .ret ((trs t).map T) := by
  have r : xR1 (xCB gLenS (xCons (xVar 0) xNil)) [.va (T t), .no] = .ret (rg 0 1 t.length) := by
    show bd (bd (M.ret [T t]) gLenS) _ = _
    rw [bd_ret, len_txt (by omega), bd_ret]
    show gd (inR (t.length : Nat)) (M.ret (rgX 0 1 t.length)) = _
    rw [gd_true (show inR ((t.length : Nat) : Int) = true from Nat.ble_eq_true_of_le (by rw [Int.natAbs_natCast]; omega)), rgX_eq]
  show bd (xR1 (xCB gLenS (xCons (xVar 0) xNil)) [.va (T t), .no]) _ = _
  rw [r, bd_ret, gd_true (show szB (lenL (rg 0 1 t.length)) = true from Nat.ble_eq_true_of_le (by rw [lenL_eq, rg_len]; omega)), rb_eq]
  rw [lc_pick (fun d => match d with | .int i => T (turn t i.toNat) | _ => d) (fun _ => true) (rg 0 1 t.length) [] ?_]
  · unfold rg trs
    rw [List.filter_eq_self.mpr fun _ _ => rfl, List.map_map, List.map_map, List.reverse_nil, List.nil_append]
    congr 1
    refine List.map_congr_left fun i _ => ?_
    show T (turn t (0 + ((i : Nat) : Int) * 1).toNat) = T (turn t i)
    rw [show (0 + ((i : Nat) : Int) * 1).toNat = i by omega]
  · intro d m
    unfold rg at m
    obtain ⟨i, hi, rfl⟩ := List.mem_map.mp m
    refine ⟨_, nameX_eq, rfl, ?_⟩
    have z : (0 + ((i : Nat) : Int) * 1) = (i : Nat) := by omega
    rw [z]
    show bd (gSlS (T t) (some (i : Nat)) none) (fun x => bd (gSlS (T t) none (some (i : Nat))) fun y => fAddS x y) = _
    rw [sl_txt (by omega) (cut_from t i), bd_ret, sl_txt (by omega) (cut_to t i), bd_ret, add_txt (by rw [List.length_drop, List.length_take]; omega)]
    rfl
theorem min_first {x : Str} : ∀ {r : List Str}, (∀ y ∈ r, ltT y x = false) → minT x r = x
  | [], _ => rfl
  | y :: r, h => by
    show (match ltT y x with | true => minT y r | false => minT x r) = x
    rw [h y (List.mem_cons_self ..)]
    exact min_first fun z m => h z (List.mem_cons_of_mem _ m)
theorem strs_is : ∀ l : List (List Nat), strsOf (l.map T) = some (l.map fun c => ⟨⟨c⟩⟩)
  | [] => rfl
  | a :: l => by
    show (match strsOf (l.map T) with | some k => some (_ :: k) | none => none) = _
    rw [strs_is l]
    rfl
theorem turn_zero (t : List Nat) : turn t 0 = t := by unfold turn; rw [List.drop_zero, List.take_zero, List.append_nil]
theorem turn_up {t : List Nat} (h : Ly.Lyn t) {i : Nat} (hi : i < t.length) (h0 : 0 < i) : Ly.lt t (turn t i) = true :=
  Ly.turns h (p := t.take i) (s := t.drop i) (List.take_append_drop i t).symm (fun e => by have := congrArg List.length e; rw [List.length_take, List.length_nil] at this; omega) (fun e => by have := congrArg List.length e; rw [List.length_drop, List.length_nil] at this; omega)
theorem round_is {t : List Nat} (h : Word t) (l : Ly.Lyn t) : x_round_of [T t] = .ret (T t) := by
  show fnX 1 N_round_of c_round_of _ = _
  rw [fnX_eq (n := 1) rfl]
  have run : c_round_of (startF N_round_of [T t]) = .ret (.rt (T t)) := by
    unfold c_round_of
    rw [xSeq_eq]
    show bd (bd (x_need_text [T t]) fun _ => .ret (Out.nx [.va (T t), .no])) _ = _
    rw [need_is h, bd_ret, bd_ret]
    show xRet (xMinTD ⟨#[]⟩ (xL cTurns)) [.va (T t), .no] = _
    rw [xRet_eq]
    show bd (bd (bd (cTurns [.va (T t), .no]) fun ds => .ret (Dt.lst ds)) fun d => ofO (fMinTD ⟨#[]⟩ [d])) _ = _
    rw [turns_is (by have := h.len; omega), bd_ret, bd_ret]
    show bd (ofO (match strsOf ((trs t).map T) with | some [] => some (Dt.str ⟨#[]⟩) | some (x :: r) => some (.str (minT x r)) | none => none)) _ = _
    rw [strs_is]
    have e : trs t = t :: (List.range (t.length - 1)).map fun i => turn t (i + 1) := by
      unfold trs
      have : t.length = (t.length - 1) + 1 := by have := List.length_pos_iff.mpr l.1; omega
      rw [this, List.range_succ_eq_map, List.map_cons, turn_zero, List.map_map]
      rfl
    rw [e, List.map_cons]
    show bd (M.ret (Dt.str (minT ⟨⟨t⟩⟩ _))) _ = _
    rw [min_first fun y m => ?_]
    · rfl
    · obtain ⟨c, hc, rfl⟩ := List.mem_map.mp m
      obtain ⟨i, hi, rfl⟩ := List.mem_map.mp hc
      have := List.mem_range.mp hi
      show ltL (turn t (i + 1)) t = false
      rw [lt_is]
      exact Ly.asym (turn_up l (by omega) (by omega))
  rw [run, bd_ret]
  rfl
theorem lturns_is {t : List Nat} (ht : t.length ≤ 500) : x__law_turns [T t] = .ret (.lst ((trs t).map T)) := by
  show fnX 1 N__law_turns c__law_turns _ = _
  rw [fnX_eq (n := 1) rfl]
  show bd (c__law_turns [.va (T t), .no]) endX = _
  have run : c__law_turns [.va (T t), .no] = .ret (.rt (.lst ((trs t).map T))) := by
    unfold c__law_turns
    show xRet (xL cTurns) [.va (T t), .no] = _
    rw [xRet_eq]
    show bd (bd (cTurns [.va (T t), .no]) fun ds => .ret (Dt.lst ds)) _ = _
    rw [turns_is ht]
    rfl
  rw [run]
  rfl
theorem cut_tail (l : List Dt) : cutG l (some 1) none = l.drop 1 := by
  show (l.drop (HT.sIx l.length 0 (some ((1 : Nat) : Int)))).take (HT.sIx l.length l.length none - HT.sIx l.length 0 (some ((1 : Nat) : Int))) = _
  rw [HT.sIx_nat, HT.sIx_none, List.take_of_length_le (by rw [List.length_drop]; omega)]
  rcases Nat.le_total 1 l.length with h | h
  · rw [Nat.min_eq_left h]
  · rw [Nat.min_eq_right h, List.drop_length, List.drop_of_length_le h]
def smp (t : List Nat) : Bool := (((trs t).drop 1).filter fun c => !Ly.lt t c).isEmpty
theorem trs_tail (t : List Nat) : (trs t).drop 1 = (List.range (t.length - 1)).map fun i => turn t (i + 1) := by
  unfold trs
  cases h : t.length with
  | zero => rfl
  | succ n => rw [List.range_succ_eq_map, List.map_cons, List.map_map]; rfl
theorem smp_iff {t : List Nat} (h : t ≠ []) : smp t = true ↔ Ly.Lyn t := by
  unfold smp
  rw [List.isEmpty_iff, List.filter_eq_nil_iff, trs_tail]
  refine ⟨fun k => Ly.of_turns h fun p s e hp hs => ?_, fun k c m => ?_⟩
  · have lp := List.length_pos_iff.mpr hp
    have ls := List.length_pos_iff.mpr hs
    have lt : t.length = p.length + s.length := by rw [e, List.length_append]
    have := k (turn t (p.length - 1 + 1)) (List.mem_map.mpr ⟨p.length - 1, List.mem_range.mpr (by omega), rfl⟩)
    rw [Nat.sub_add_cancel lp] at this
    have w : turn t p.length = s ++ p := by unfold turn; rw [e, List.drop_left, List.take_left]
    rw [w] at this
    cases q : Ly.lt t (s ++ p) with
    | true => rfl
    | false => rw [q] at this; exact absurd rfl this
  · obtain ⟨i, hi, rfl⟩ := List.mem_map.mp m
    have := List.mem_range.mp hi
    rw [turn_up k (by omega) (by omega)]
    decide
theorem filter_T (t : List Nat) (l : List (List Nat)) : (l.map T).filter (fun d => match d with | .str x => tLe x ⟨⟨t⟩⟩ | _ => false) = (l.filter fun c => !Ly.lt t c).map T := by
  rw [List.filter_map]
  congr 1
  refine List.filter_congr fun c _ => ?_
  show (!ltL t c) = _
  rw [lt_is]
theorem simple_is {t : List Nat} (ht : t.length ≤ 500) : x__law_is_simple [T t] = .ret (.bl (smp t)) := by
  show fnX 1 N__law_is_simple c__law_is_simple _ = _
  rw [fnX_eq (n := 1) rfl]
  show bd (c__law_is_simple [.va (T t), .no]) endX = _
  have pick : xLc (xSeqL (xL (xSlL (xCB x__law_turns (xCons (xVar 0) xNil)) (xP (xC (.int 1))) xNoP))) [1] (xName 1) (xB (xOp (fS0 tLe) (xVar 1) (xVar 0))) (xVar 1) [.va (T t), .no] = .ret ((((trs t).drop 1).filter fun c => !Ly.lt t c).map T) := by
    have it : xSeqL (xL (xSlL (xCB x__law_turns (xCons (xVar 0) xNil)) (xP (xC (.int 1))) xNoP)) [.va (T t), .no] = .ret (((trs t).drop 1).map T) := by
      have c : xSlL (xCB x__law_turns (xCons (xVar 0) xNil)) (xP (xC (.int 1))) xNoP [.va (T t), .no] = .ret (cutG ((trs t).map T) (some 1) none) := by
        show bd (bd (M.ret [T t]) x__law_turns) _ = _
        rw [bd_ret, lturns_is ht, bd_ret]
        rfl
      show bd (bd (xSlL (xCB x__law_turns (xCons (xVar 0) xNil)) (xP (xC (.int 1))) xNoP [.va (T t), .no]) _) _ = _
      rw [c, cut_tail, List.map_drop]
      rfl
    show bd (xSeqL _ _) _ = _
    have few : ((trs t).drop 1).length ≤ 500 := by rw [trs_tail, List.length_map, List.length_range]; omega
    rw [it, bd_ret, gd_true (show szB (lenL (((trs t).drop 1).map T)) = true from Nat.ble_eq_true_of_le (by rw [lenL_eq, List.length_map]; omega)), rb_eq]
    rw [lc_pick (fun d => d) (fun d => match d with | .str x => tLe x ⟨⟨t⟩⟩ | _ => false) (((trs t).drop 1).map T) [] ?_]
    · rw [List.reverse_nil, List.nil_append, List.map_id', filter_T]
    · intro d m
      obtain ⟨c, _, rfl⟩ := List.mem_map.mp m
      exact ⟨_, nameX_eq, rfl, rfl⟩
  have run : c__law_is_simple [.va (T t), .no] = .ret (.rt (.bl (smp t))) := by
    unfold c__law_is_simple
    rw [xRet_eq]
    show bd (bd (bd (bd (bd (xLc _ _ _ _ _ [.va (T t), .no]) fun ds => .ret (Dt.lst ds)) fun d => bd (M.ret []) fun ds => .ret (d :: ds)) gLen) fun x => bd (M.ret (Dt.int 0)) fun y => fEqS false x y) _ = _
    rw [pick, bd_ret, bd_ret]
    show bd (M.ret (Dt.bl (false != decide ((lenL ((((trs t).drop 1).filter fun c => !Ly.lt t c).map T) : Int) = 0)))) _ = _
    rw [bd_ret, lenL_eq, List.length_map]
    unfold smp
    cases ((trs t).drop 1).filter fun c => !Ly.lt t c with
    | nil => rfl
    | cons a l =>
      rw [decide_eq_false (by simp only [List.length_cons]; omega)]
      rfl
  rw [run]
  rfl
/-! ### all ways to fall -/
def Fl (t : List Nat) : List (List Nat) := Ly.fall 60 t
def V (l : List (List Nat)) : Dt := .lst (l.map T)
def good (p : List Nat) : List (List Nat) → Bool
  | [] => true
  | v :: _ => !Ly.lt p v
theorem falls_of {p : List Nat} (h : Ly.Lyn p) : ∀ {l : List (List Nat)}, Ly.Falls l → good p l = true → Ly.Falls (p :: l)
  | [], _, _ => h
  | v :: r, f, g => ⟨h, by show Ly.lt p v = false; unfold good at g; simpa using g, f⟩
theorem good_of {p : List Nat} : ∀ {l : List (List Nat)}, Ly.Falls (p :: l) → good p l = true
  | [], _ => rfl
  | v :: r, f => by
    show (!Ly.lt p v) = true
    rw [f.2.1]
    rfl
theorem one_step {t w : List Nat} {r : List (List Nat)} (ht : t.length ≤ 60) (hF : Fl t = w :: r) {m : Nat} (h1 : 1 ≤ m) (h2 : m ≤ t.length) : (smp (t.take m) && good (t.take m) (Fl (t.drop m))) = decide (m = w.length) := by
  have fo := Ly.fall_ok 60 t ht
  rw [show Ly.fall 60 t = w :: r from hF] at fo
  have fd := Ly.fall_ok 60 (t.drop m) (by rw [List.length_drop]; omega)
  have ne : t.take m ≠ [] := fun e => by have := congrArg List.length e; rw [List.length_take, List.length_nil] at this; omega
  by_cases e : m = w.length
  · subst e
    have tw : t = w ++ r.flatten := by rw [← fo.2, List.flatten_cons]
    have t1 : t.take w.length = w := by rw [tw, List.take_left]
    have t2 : t.drop w.length = r.flatten := by rw [tw, List.drop_left]
    have fr : Fl (t.drop w.length) = r := Ly.one_way fd.1 fo.1.tail (fd.2.trans t2)
    rw [fr, t1, (smp_iff fo.1.head.1).mpr fo.1.head, good_of fo.1]
    exact (decide_eq_true rfl).symm
  · rw [decide_eq_false e]
    cases q : smp (t.take m) with
    | false => rfl
    | true =>
      cases q2 : good (t.take m) (Fl (t.drop m)) with
      | false => rfl
      | true =>
        have f := falls_of ((smp_iff ne).mp q) fd.1 q2
        have := Ly.one_way f fo.1 (by rw [List.flatten_cons, fd.2, fo.2, List.take_append_drop])
        injection this with a b
        have := congrArg List.length a
        rw [List.length_take] at this
        omega
theorem one_head {t w : List Nat} {r : List (List Nat)} (ht : t.length ≤ 60) (hF : Fl t = w :: r) : t.take w.length = w ∧ Fl (t.drop w.length) = r := by
  have fo := Ly.fall_ok 60 t ht
  rw [show Ly.fall 60 t = w :: r from hF] at fo
  have tw : t = w ++ r.flatten := by rw [← fo.2, List.flatten_cons]
  have fd := Ly.fall_ok 60 (t.drop w.length) (by rw [List.length_drop]; omega)
  exact ⟨by rw [tw, List.take_left], Ly.one_way fd.1 fo.1.tail (fd.2.trans (by rw [tw, List.drop_left]))⟩
theorem falls_few : ∀ {l : List (List Nat)}, Ly.Falls l → l.length ≤ l.flatten.length
  | [], _ => Nat.le_refl _
  | w :: l, f => by
    have := falls_few f.tail
    have := List.length_pos_iff.mpr f.head.1
    rw [List.length_cons, List.flatten_cons, List.length_append]
    omega
theorem fl_few {t : List Nat} (h : t.length ≤ 60) : (Fl t).length ≤ t.length := by
  have f := Ly.fall_ok 60 t h
  have := falls_few f.1
  rw [f.2] at this
  exact this
theorem pld_T (l : List (List Nat)) (n : Nat) : pld (n + 1) (.lst (l.map T)) = true := by
  show (l.map T).all (pld n) = true
  refine List.all_eq_true.mpr fun d m => ?_
  obtain ⟨c, _, rfl⟩ := List.mem_map.mp m
  cases n <;> rfl
abbrev cPre : Env → M Dt := xSl gSlS (xVar 0) xNoP (xP (xVar 2))
abbrev cTest : Env → M Bool := xOr (xB (xOp (fEqP false) (xVar 4) (xL xNil))) (xB (xOp (fS0 tLe) (xOp fIx (xVar 4) (xC (.int 0))) cPre))
abbrev cElem : Env → M Dt := xL (xOpO fCat (xL (xCons cPre xNil)) (xVar 4))
theorem pre_is {t : List Nat} {m : Nat} {x y z : Sl} (ht : t.length ≤ 60) : cPre [.va (T t), x, .va (.int (m : Nat)), y, z] = .ret (T (t.take m)) := by
  show gSlS (T t) none (some (m : Nat)) = _
  rw [sl_txt (by omega) (cut_to t m)]
theorem test_is {t : List Nat} {m : Nat} {x y : Sl} {l : List (List Nat)} (ht : t.length ≤ 60) : cTest [.va (T t), x, .va (.int (m : Nat)), y, .va (V l)] = .ret (good (t.take m) l) := by
  have a : xB (xOp (fEqP false) (xVar 4) (xL xNil)) [.va (T t), x, .va (.int (m : Nat)), y, .va (V l)] = .ret l.isEmpty := by
    show bd (gd (pld 12 (.lst (l.map T)) && pld 12 (.lst [])) (M.ret (Dt.bl (false != eqds (l.map T) [])))) _ = _
    rw [pld_T l 11]
    cases l <;> rfl
  show bd (xB (xOp (fEqP false) (xVar 4) (xL xNil)) [.va (T t), x, .va (.int (m : Nat)), y, .va (V l)]) _ = _
  rw [a]
  cases l with
  | nil => rfl
  | cons v r =>
    show bd (bd (M.ret (T v)) fun a => bd (cPre [.va (T t), x, .va (.int (m : Nat)), y, .va (V (v :: r))]) fun b => fS0 tLe a b) _ = _
    rw [bd_ret, pre_is ht, bd_ret]
    show M.ret (!ltL (t.take m) v) = _
    rw [lt_is]
    rfl
theorem elem_is {t : List Nat} {m : Nat} {x y : Sl} {l : List (List Nat)} (ht : t.length ≤ 60) (hl : l.length ≤ 60) : cElem [.va (T t), x, .va (.int (m : Nat)), y, .va (V l)] = .ret (V (t.take m :: l)) := by
  show bd (bd (bd (bd (cPre [.va (T t), x, .va (.int (m : Nat)), y, .va (V l)]) fun d => bd (M.ret []) fun ds => .ret (d :: ds)) fun ds => .ret (Dt.lst ds)) fun a => bd (M.ret (V l)) fun b => fCat a b) _ = _
  rw [pre_is ht, bd_ret, bd_ret, bd_ret, bd_ret, bd_ret]
  show bd (gd (szB ([T (t.take m)].length + (l.map T).length)) (M.ret ([T (t.take m)] ++ l.map T))) _ = _
  rw [gd_true (show szB ([T (t.take m)].length + (l.map T).length) = true from Nat.ble_eq_true_of_le (by rw [List.length_singleton, List.length_map]; omega))]
  rfl
theorem comp_is {t : List Nat} {m : Nat} {x z : Sl} {l : List (List Nat)} (ht : t.length ≤ 60) (hl : l.length ≤ 60) : xLc (xSeqL (xVar 3)) [4] (xName 4) cTest cElem [.va (T t), x, .va (.int (m : Nat)), .va (.lst [V l]), z] = .ret (if good (t.take m) l = true then [V (t.take m :: l)] else []) := by
  show gd true (rb (wipeE [.va (T t), x, .va (.int (m : Nat)), .va (.lst [V l]), z] [4]) fun ρ => lcX ρ (xName 4) cTest cElem [V l] []) = _
  rw [gd_true rfl, rb_eq]
  show lcX [.va (T t), x, .va (.int (m : Nat)), .va (.lst [V l]), .no] (xName 4) cTest cElem [V l] [] = _
  rw [lc_pick (fun _ => V (t.take m :: l)) (fun _ => good (t.take m) l) [V l] [] ?_]
  · cases good (t.take m) l <;> rfl
  · intro d md
    cases List.mem_singleton.mp md
    exact ⟨_, nameX_eq, test_is ht, elem_is ht hl⟩
def bodyW (rc : List Dt → M Dt) : Env → M Out := (xIf (xB (xCB x__law_is_simple (xCons cPre xNil))) (xSeq (xSet 3 (xCB rc (xCons (xSl gSlS (xVar 0) (xP (xVar 2)) xNoP) xNil))) (xSet 1 (xL (xOpO fCat (xVar 1) (xL (xLc (xSeqL (xVar 3)) [4] (xName 4) cTest cElem)))))) xNext)
theorem body_W {rc : List Dt → M Dt} {t w : List Nat} {r : List (List Nat)} {acc : List Dt} {m : Nat} {y z : Sl} (ht : t.length ≤ 60) (hF : Fl t = w :: r) (h1 : 1 ≤ m) (h2 : m ≤ t.length) (ha : acc.length ≤ 1000) (ih : rc [T (t.drop m)] = .ret (.lst [V (Fl (t.drop m))])) :
    ∃ y2 z2, bodyW rc [.va (T t), .va (.lst acc), .va (.int (m : Nat)), y, z] = .ret (.nx [.va (T t), .va (.lst (acc ++ if m = w.length then [V (w :: r)] else [])), .va (.int (m : Nat)), y2, z2]) := by
  have os := one_step ht hF h1 h2
  have sp : xB (xCB x__law_is_simple (xCons cPre xNil)) [.va (T t), .va (.lst acc), .va (.int (m : Nat)), y, z] = .ret (smp (t.take m)) := by
    show bd (bd (bd (cPre [.va (T t), .va (.lst acc), .va (.int (m : Nat)), y, z]) fun d => bd (M.ret []) fun ds => .ret (d :: ds)) x__law_is_simple) _ = _
    rw [pre_is ht, bd_ret, bd_ret, bd_ret, simple_is (by rw [List.length_take]; omega)]
    rfl
  unfold bodyW
  show ∃ y2 z2, bd (xB (xCB x__law_is_simple (xCons cPre xNil)) [.va (T t), .va (.lst acc), .va (.int (m : Nat)), y, z]) _ = _
  rw [sp, bd_ret]
  cases q : smp (t.take m) with
  | false =>
    rw [q] at os
    have e : ¬ m = w.length := of_decide_eq_false os.symm
    refine ⟨y, z, ?_⟩
    rw [if_neg e, List.append_nil]
    rfl
  | true =>
    rw [q] at os
    replace os : good (t.take m) (Fl (t.drop m)) = decide (m = w.length) := os
    refine ⟨.va (.lst [V (Fl (t.drop m))]), z, ?_⟩
    show xSeq (xSet 3 (xCB rc (xCons (xSl gSlS (xVar 0) (xP (xVar 2)) xNoP) xNil))) (xSet 1 (xL (xOpO fCat (xVar 1) (xL (xLc (xSeqL (xVar 3)) [4] (xName 4) cTest cElem))))) [.va (T t), .va (.lst acc), .va (.int (m : Nat)), y, z] = _
    rw [xSeq_eq, xSet_eq]
    show bd (bd (bd (bd (gSlS (T t) (some (m : Nat)) none) fun d => bd (M.ret []) fun ds => .ret (d :: ds)) rc) _) _ = _
    rw [sl_txt (by omega) (cut_from t m), bd_ret, bd_ret, bd_ret, ih, bd_ret, bd_ret]
    show xSet 1 (xL (xOpO fCat (xVar 1) (xL (xLc (xSeqL (xVar 3)) [4] (xName 4) cTest cElem)))) [.va (T t), .va (.lst acc), .va (.int (m : Nat)), .va (.lst [V (Fl (t.drop m))]), z] = _
    rw [xSet_eq]
    have few : (Fl (t.drop m)).length ≤ 60 := by
      have := fl_few (t := t.drop m) (by rw [List.length_drop]; omega)
      rw [List.length_drop] at this
      omega
    show bd (bd (bd (M.ret (Dt.lst acc)) fun a => bd (bd (xLc (xSeqL (xVar 3)) [4] (xName 4) cTest cElem [.va (T t), .va (.lst acc), .va (.int (m : Nat)), .va (.lst [V (Fl (t.drop m))]), z]) fun ds => .ret (Dt.lst ds)) fun b => fCat a b) _) _ = _
    rw [bd_ret, comp_is ht few, bd_ret, bd_ret, os]
    have v : (if decide (m = w.length) = true then [V (t.take m :: Fl (t.drop m))] else []) = if m = w.length then [V (w :: r)] else [] := by
      by_cases e : m = w.length
      · rw [if_pos (decide_eq_true e), if_pos e, e, (one_head ht hF).1, (one_head ht hF).2]
      · rw [if_neg (by rw [decide_eq_false e]; decide), if_neg e]
    rw [v]
    show bd (bd (gd (szB (acc.length + (if m = w.length then [V (w :: r)] else []).length)) (M.ret (acc ++ if m = w.length then [V (w :: r)] else []))) _) _ = _
    rw [gd_true (show szB (acc.length + (if m = w.length then [V (w :: r)] else []).length) = true from Nat.ble_eq_true_of_le (by
      have : (if m = w.length then [V (w :: r)] else []).length ≤ 1 := by split <;> simp
      omega))]
    rfl
theorem loop_W {rc : List Dt → M Dt} {t w : List Nat} {r : List (List Nat)} (ht : t.length ≤ 60) (hF : Fl t = w :: r) (ih : ∀ m, 1 ≤ m → m ≤ t.length → rc [T (t.drop m)] = .ret (.lst [V (Fl (t.drop m))])) : ∀ (ms : List Nat) (acc : List Dt) (x y z : Sl), (∀ m ∈ ms, 1 ≤ m ∧ m ≤ t.length) → acc.length + ms.length ≤ 1000 →
    ∃ x2 y2 z2, forX (xName 2) (bodyW rc) (ms.map fun m => .int (m : Nat)) [.va (T t), .va (.lst acc), x, y, z] = .ret (.nx [.va (T t), .va (.lst (acc ++ (ms.filter fun m => decide (m = w.length)).map fun _ => V (w :: r))), x2, y2, z2])
  | [], acc, x, y, z, _, _ => ⟨x, y, z, by rw [List.map_nil, forX_nil, List.filter_nil, List.map_nil, List.append_nil]⟩
  | m :: ms, acc, x, y, z, h, l => by
    have hm := h m (List.mem_cons_self ..)
    rw [List.length_cons] at l
    obtain ⟨y2, z2, b⟩ := body_W (y := y) (z := z) (acc := acc) ht hF hm.1 hm.2 (by omega) (ih m hm.1 hm.2)
    obtain ⟨x3, y3, z3, c⟩ := loop_W ht hF ih ms (acc ++ if m = w.length then [V (w :: r)] else []) (.va (.int (m : Nat))) y2 z2 (fun k hk => h k (List.mem_cons_of_mem _ hk)) (by
      rw [List.length_append]
      have : (if m = w.length then [V (w :: r)] else []).length ≤ 1 := by split <;> simp
      omega)
    refine ⟨x3, y3, z3, ?_⟩
    rw [List.map_cons, forX_cons, nameX_eq, bd_ret]
    show bd (bodyW rc [.va (T t), .va (.lst acc), .va (.int (m : Nat)), y, z]) _ = _
    rw [b, bd_ret]
    show forX (xName 2) (bodyW rc) (ms.map fun m => .int (m : Nat)) _ = _
    rw [c, List.append_assoc, List.filter_cons]
    by_cases e : m = w.length
    · rw [if_pos e, if_pos (decide_eq_true e), List.map_cons]
      rfl
    · rw [if_neg e, if_neg (by rw [decide_eq_false e]; decide)]
      rfl
theorem only_one {k : Nat} : ∀ n : Nat, k < n → (List.range n).filter (fun i => decide (i + 1 = k + 1)) = [k]
  | 0, h => absurd h (by omega)
  | n + 1, h => by
    rw [List.range_succ, List.filter_append]
    by_cases e : k = n
    · subst e
      rw [List.filter_eq_nil_iff.mpr fun i hi => by have := List.mem_range.mp hi; rw [decide_eq_false (by omega)]; decide, List.filter_cons, if_pos (decide_eq_true rfl)]
      rfl
    · rw [only_one n (by omega), List.filter_cons, if_neg (by rw [decide_eq_false (by omega)]; decide)]
      rfl
theorem ways_is : ∀ (n : Nat) (t : List Nat), t.length < n → t.length ≤ 60 → x__law_ways_to_fall n [T t] = .ret (.lst [V (Fl t)])
  | 0, _, h, _ => absurd h (by omega)
  | n + 1, t, h, ht => by
    show fnX 1 N__law_ways_to_fall (c__law_ways_to_fall (x__law_ways_to_fall n)) [T t] = _
    rw [fnX_eq (n := 1) rfl]
    show bd (c__law_ways_to_fall (x__law_ways_to_fall n) [.va (T t), .no, .no, .no, .no]) endX = _
    cases t with
    | nil => rfl
    | cons a s =>
      have fo := Ly.fall_ok 60 (a :: s) ht
      cases hF : Fl (a :: s) with
      | nil =>
        have z := fo.2
        rw [show Ly.fall 60 (a :: s) = [] from hF] at z
        cases z
      | cons w r =>
        have wl : 1 ≤ w.length ∧ w.length ≤ (a :: s).length := by
          rw [show Ly.fall 60 (a :: s) = w :: r from hF] at fo
          have z := congrArg List.length fo.2
          rw [List.flatten_cons, List.length_append] at z
          exact ⟨List.length_pos_iff.mpr fo.1.head.1, by omega⟩
        have ih : ∀ m, 1 ≤ m → m ≤ (a :: s).length → x__law_ways_to_fall n [T ((a :: s).drop m)] = .ret (.lst [V (Fl ((a :: s).drop m))]) := fun m h1 h2 => ways_is n _ (by rw [List.length_drop]; omega) (by rw [List.length_drop]; omega)
        generalize ht2 : a :: s = t at *
        have nz : t ≠ [] := by rw [← ht2]; simp
        obtain ⟨x2, y2, z2, lp⟩ := loop_W ht hF ih ((List.range t.length).map (· + 1)) [] .no .no .no (fun m hm => by
          obtain ⟨i, hi, rfl⟩ := List.mem_map.mp hm
          have := List.mem_range.mp hi
          omega) (by rw [List.length_map, List.length_range, List.length_nil]; omega)
        have one : (((List.range t.length).map (· + 1)).filter fun m => decide (m = w.length)).map (fun _ => V (w :: r)) = [V (w :: r)] := by
          obtain ⟨k, hk⟩ : ∃ k, w.length = k + 1 := ⟨w.length - 1, by omega⟩
          rw [List.filter_map, hk]
          show List.map _ (List.map _ ((List.range t.length).filter fun i => decide (i + 1 = k + 1))) = _
          rw [only_one _ (by omega)]
          rfl
        rw [one, List.nil_append] at lp
        have rn : xR2 (xC (.int 1)) (xOp (fI gAdd) (xCB gLenS (xCons (xVar 0) xNil)) (xC (.int 1))) [.va (T t), .va (.lst []), .no, .no, .no] = .ret (((List.range t.length).map (· + 1)).map fun m => .int (m : Nat)) := by
          have q : xOp (fI gAdd) (xCB gLenS (xCons (xVar 0) xNil)) (xC (.int 1)) [.va (T t), .va (.lst []), .no, .no, .no] = .ret (.int ((t.length + 1 : Nat) : Int)) := by
            show bd (bd (M.ret [T t]) gLenS) _ = _
            rw [bd_ret, len_txt (by omega), bd_ret]
            rfl
          show bd (M.ret (Dt.int 1)) (fun x => bd (xOp (fI gAdd) (xCB gLenS (xCons (xVar 0) xNil)) (xC (.int 1)) [.va (T t), .va (.lst []), .no, .no, .no]) fun y => _) = _
          rw [bd_ret, q, bd_ret]
          show gd (inR 1 && inR ((t.length + 1 : Nat) : Int)) (M.ret (rgX 1 1 (((t.length + 1 : Nat) : Int) - 1).toNat)) = _
          rw [show inR ((t.length + 1 : Nat) : Int) = true from Nat.ble_eq_true_of_le (by rw [Int.natAbs_natCast]; omega), show (((t.length + 1 : Nat) : Int) - 1).toNat = t.length by omega, rgX_eq]
          unfold rg
          rw [List.map_map]
          show M.ret _ = M.ret _
          congr 1
          refine List.map_congr_left fun i _ => ?_
          show Dt.int (1 + (i : Nat) * 1) = Dt.int ((i + 1 : Nat) : Int)
          congr 1
          omega
        have e0 : xB (xOp (fEqS false) (xVar 0) (xC (.str ⟨#[]⟩))) [.va (T t), .no, .no, .no, .no] = .ret false := by
          rw [← ht2]
          rfl
        have run : c__law_ways_to_fall (x__law_ways_to_fall n) [.va (T t), .no, .no, .no, .no] = .ret (.rt (.lst [V (w :: r)])) := by
          unfold c__law_ways_to_fall
          rw [xSeq_eq]
          show bd (bd (xB (xOp (fEqS false) (xVar 0) (xC (.str ⟨#[]⟩))) [.va (T t), .no, .no, .no, .no]) _) _ = _
          rw [e0, bd_ret]
          show bd (M.ret (Out.nx [.va (T t), .no, .no, .no, .no])) _ = _
          rw [bd_ret]
          show xSeq (xSet 1 (xL xNil)) _ [.va (T t), .no, .no, .no, .no] = _
          rw [xSeq_eq, xSet_eq]
          show bd (bd (M.ret (Dt.lst [])) _) _ = _
          rw [bd_ret, bd_ret]
          show xSeq (xFor (xR2 (xC (.int 1)) (xOp (fI gAdd) (xCB gLenS (xCons (xVar 0) xNil)) (xC (.int 1)))) (xName 2) (bodyW (x__law_ways_to_fall n))) (xRet (xVar 1)) [.va (T t), .va (.lst []), .no, .no, .no] = _
          rw [xSeq_eq]
          show bd (bd (xR2 (xC (.int 1)) (xOp (fI gAdd) (xCB gLenS (xCons (xVar 0) xNil)) (xC (.int 1))) [.va (T t), .va (.lst []), .no, .no, .no]) fun ds => forX (xName 2) (bodyW (x__law_ways_to_fall n)) ds [.va (T t), .va (.lst []), .no, .no, .no]) _ = _
          rw [rn, bd_ret, lp, bd_ret]
          rfl
        rw [run]
        rfl
end
end K26
/-! the law's turn about falls: two rolls of letters, then what holds of any text -/
namespace K26
open PySem hiding Env
open L2 Dl Xe
noncomputable section
noncomputable def cA : Env → M Out := (xSet 2 (xOp fIx (xL (xCons (xC (.str ⟨#[97, 98]⟩)) (xCons (xC (.str ⟨#[97, 98, 99]⟩)) (xCons (xC (.str ⟨#[120, 121, 122]⟩)) xNil)))) (xCB x__law_roll (xCons (xVar 1) (xCons (xC (.int 3)) xNil)))))
noncomputable def cB : Env → M Out := (xSet 3 (xMt tyS g_join (xC (.str ⟨#[]⟩)) (xCons (xL (xLc (xR1 (xCB x__law_roll (xCons (xVar 1) (xCons (xC (.int 41)) xNil)))) [8] (xName 8) xYes (xOp fIx (xVar 2) (xCB x__law_roll (xCons (xVar 1) (xCons (xCB gLenS (xCons (xVar 2) xNil)) xNil)))))) xNil)))
noncomputable def c4 : Env → M Out := (xSet 4 (xCB x_falls (xCons (xVar 3) xNil)))
noncomputable def cI1 : Env → M Out := (xIf (xOr (xB (xOp (fEqS true) (xMt tyS g_join (xC (.str ⟨#[]⟩)) (xCons (xVar 4) xNil)) (xVar 3))) (xB (xOp (fEqP true) (xL (xLc (xSeqL (xVar 4)) [6] (xName 6) (xNot (xB (xCB x__law_is_simple (xCons (xVar 6) xNil)))) (xVar 6))) (xL xNil)))) (xRet (xC (.bl false))) xNext)
noncomputable def cI2 : Env → M Out := (xIf (xB (xOp (fEqP true) (xL (xLc (xZipLL (xVar 4) (xL (xSlL (xVar 4) (xP (xC (.int 1))) xNoP))) [6, 9] (xName2 6 9) (xB (xOp (fS0 tLt) (xVar 6) (xVar 9))) (xVar 6))) (xL xNil))) (xRet (xC (.bl false))) xNext)
noncomputable def c5 : Env → M Out := (xSet 5 (xSl gSlS (xVar 3) xNoP (xP (xC (.int 8)))))
noncomputable def cI3 : Env → M Out := (xIf (xOr (xB (xOp (fEqP true) (xL (xCons (xCB x_falls (xCons (xVar 5) xNil)) xNil)) (xCB (x__law_ways_to_fall 10) (xCons (xVar 5) xNil)))) (xB (xOp (fEqP true) (xCB x_falls (xCons (xC (.str ⟨#[]⟩)) xNil)) (xL xNil)))) (xRet (xC (.bl false))) xNext)
noncomputable def cFor : Env → M Out := (xFor (xSeqL (xL (xSlL (xVar 4) xNoP (xP (xC (.int 3)))))) (xName 6) (xSeq (xIf (xOr (xB (xOp (fEqP true) (xCB x_falls (xCons (xVar 6) xNil)) (xL (xCons (xVar 6) xNil)))) (xB (xOp (fEqS true) (xCB x_round_of (xCons (xVar 6) xNil)) (xVar 6)))) (xRet (xC (.bl false))) xNext) (xIf (xAnd (xB (xOp (fI gLt) (xCB gLenS (xCons (xVar 6) xNil)) (xC (.int 31)))) (xB (xOp (fEqP true) (xCB x_falls (xCons (xOp fAddS (xVar 6) (xVar 6)) xNil)) (xL (xCons (xVar 6) (xCons (xVar 6) xNil)))))) (xRet (xC (.bl false))) xNext)))
noncomputable def cEnd : Env → M Out := (xSeq (xFor (xSeqL (xL (xCons (xC .non) (xCons (xC (.int 5)) (xCons (xC (.str ⟨#[65]⟩)) (xCons (xC (.str ⟨#[97, 32, 98]⟩)) (xCons (xL (xCons (xC (.str ⟨#[97]⟩)) xNil)) (xCons (xOp fMulS (xC (.str ⟨#[97]⟩)) (xC (.int 61))) xNil)))))))) (xName 7) (xSeq (xIf (xB (xOp (fEqP true) (xTold (xCB x_falls (xCons (xVar 7) xNil))) (xTup (xCons (xC (.str ⟨#[114, 101, 102, 117, 115, 101, 100]⟩)) (xCons (xC (.str ⟨#[66, 97, 100, 87, 111, 114, 100]⟩)) xNil))))) (xRet (xC (.bl false))) xNext) (xIf (xB (xOp (fEqP true) (xTold (xCB x_round_of (xCons (xVar 7) xNil))) (xTup (xCons (xC (.str ⟨#[114, 101, 102, 117, 115, 101, 100]⟩)) (xCons (xC (.str ⟨#[66, 97, 100, 87, 111, 114, 100]⟩)) xNil))))) (xRet (xC (.bl false))) xNext))) (xWipe [7] (xIf (xOr (xB (xOp (fEqP true) (xCB x_falls (xCons (xOp fMulS (xC (.str ⟨#[97]⟩)) (xC (.int 60))) xNil)) (xL (xOpO fRep (xL (xCons (xC (.str ⟨#[97]⟩)) xNil)) (xC (.int 60)))))) (xB (xOp (fEqP true) (xCB x_falls (xCons (xC (.str ⟨#[98, 97]⟩)) xNil)) (xL (xCons (xC (.str ⟨#[98]⟩)) (xCons (xC (.str ⟨#[97]⟩)) xNil)))))) (xRet (xC (.bl false))) xNext)))
theorem turn_is : c_turn = (xSeq cA (xSeq cB (xWipe [1, 2, 8] (xSeq c4 (xSeq cI1 (xSeq cI2 (xWipe [9] (xSeq c5 (xWipe [3] (xSeq cI3 (xWipe [5] (xSeq cFor (xWipe [4, 6] cEnd))))))))))))) := rfl
theorem end_ : sat (cEnd (List.replicate 10 .no)) (fun o => goodB 10 o = true) N0 := satB_ok (by decide +kernel)
theorem seq_step {a b : Env → M Out} {ρ ρ' : Env} (h : a ρ = .ret (.nx ρ')) : xSeq a b ρ = b ρ' := by
  rw [xSeq_eq, h]
  rfl
theorem wipe_step {ws : List Nat} {c : Env → M Out} {ρ : Env} : xWipe ws c ρ = c (wipeE ρ ws) := rb_eq _ _
theorem if_no {t : Env → M Bool} {a : Env → M Out} {ρ : Env} (h : t ρ = .ret false) : xIf t a xNext ρ = .ret (.nx ρ) := by
  show bd (t ρ) _ = _
  rw [h]
  rfl
theorem or_no {a b : Env → M Bool} {ρ : Env} (h : a ρ = .ret false) (k : b ρ = .ret false) : xOr a b ρ = .ret false := by
  show bd (a ρ) _ = _
  rw [h]
  exact k
theorem eqL_self : ∀ l : List Nat, eqL l l = true := fun l => by rw [eqL_eq]; simp
theorem join_T : ∀ l : List (List Nat), Str.join ⟨#[]⟩ (l.map fun c => (⟨⟨c⟩⟩ : Str)) = ⟨⟨l.flatten⟩⟩
  | [] => rfl
  | [x] => by
    show (⟨⟨x⟩⟩ : Str) = _
    rw [List.flatten_cons, List.flatten_nil, List.append_nil]
  | x :: y :: r => by
    show (⟨⟨x⟩⟩ : Str) ++ ⟨#[]⟩ ++ Str.join ⟨#[]⟩ ((y :: r).map fun c => (⟨⟨c⟩⟩ : Str)) = _
    rw [join_T (y :: r)]
    refine str_inj ?_
    show (((⟨x⟩ : Array Nat) ++ #[]) ++ (⟨(y :: r).flatten⟩ : Array Nat)).toList = _
    rw [Array.toList_append, Array.toList_append, List.flatten_cons (l := x)]
    show x ++ [] ++ (y :: r).flatten = x ++ (y :: r).flatten
    rw [List.append_nil]
theorem join_is {l : List (List Nat)} (h : l.flatten.length ≤ 1000) : g_join (.str ⟨#[]⟩) [V l] = .ret (T l.flatten) := by
  show (match strsOf (l.map T) with | some ys => gd (Nat.ble ((ys.map Str.length).sum + ys.length * (⟨#[]⟩ : Str).length) 16777216) (M.ret (Dt.str (Txt.join ⟨#[]⟩ ys))) | none => .no) = _
  rw [strs_is]
  have e : ((l.map fun c => (⟨⟨c⟩⟩ : Str)).map Str.length).sum = l.flatten.length := by
    rw [List.length_flatten, List.map_map]
    rfl
  have z : Nat.ble (((l.map fun c => (⟨⟨c⟩⟩ : Str)).map Str.length).sum + (l.map fun c => (⟨⟨c⟩⟩ : Str)).length * (⟨#[]⟩ : Str).length) 16777216 = true := Nat.ble_eq_true_of_le (by
    rw [e, show (⟨#[]⟩ : Str).length = 0 from rfl]
    omega)
  show gd _ _ = _
  rw [gd_true z]
  show M.ret (Dt.str (Builtin.Str.glued ⟨#[]⟩ _)) = _
  rw [StrLaws.glued_eq_join, join_T]
  rfl
/-- what a text's falls are -/
structure Fine (t : List Nat) (l : List (List Nat)) : Prop where
  falls : Ly.Falls l
  flat : l.flatten = t
  ok : ∀ w ∈ l, Word w ∧ Ly.Lyn w
theorem falls_all : ∀ {l : List (List Nat)}, Ly.Falls l → ∀ w ∈ l, Ly.Lyn w
  | w :: l, f, x, m => by
    rcases List.mem_cons.mp m with rfl | m
    · exact f.head
    · exact falls_all f.tail x m
theorem fine {t : List Nat} (h : Word t) : Fine t (Fl t) := by
  have fo := Ly.fall_ok 60 t h.len
  refine ⟨fo.1, fo.2, fun w m => ⟨⟨?_, fun c hc => h.low c ?_⟩, falls_all fo.1 w m⟩⟩
  · have : w.length ≤ (Fl t).flatten.length := by
      obtain ⟨a, b, e⟩ := List.append_of_mem m
      rw [e, List.flatten_append, List.flatten_cons, List.length_append, List.length_append]
      omega
    rw [show (Fl t).flatten = t from fo.2] at this
    exact Nat.le_trans this h.len
  · rw [← show (Fl t).flatten = t from fo.2]
    exact List.mem_flatten.mpr ⟨w, m, hc⟩
theorem eqs_self (l : List Nat) : eqs ⟨⟨l⟩⟩ ⟨⟨l⟩⟩ = true := by rw [eqs_eq]; exact decide_eq_true rfl
theorem eqds_self : ∀ l : List (List Nat), eqds (l.map T) (l.map T) = true
  | [] => by unfold eqds; rfl
  | a :: l => by
    rw [List.map_cons]
    unfold eqds
    show (eqd (T a) (T a) && eqds (l.map T) (l.map T)) = true
    rw [eqds_self l]
    unfold T eqd
    show (eqs ⟨⟨a⟩⟩ ⟨⟨a⟩⟩ && true) = true
    rw [eqs_self]
    rfl
theorem same_V {l k : List (List Nat)} (h : l = k) : fEqP true (V l) (V k) = .ret (.bl false) := by
  subst h
  show gd (pld 12 (.lst (l.map T)) && pld 12 (.lst (l.map T))) (M.ret (Dt.bl (true != eqd (V l) (V l)))) = _
  rw [pld_T l 11]
  show M.ret (Dt.bl (true != eqd (V l) (V l))) = _
  have e : eqd (V l) (V l) = true := by
    unfold V eqd
    exact eqds_self l
  rw [e]
  rfl
theorem same_VV {l k : List (List Nat)} (h : l = k) : fEqP true (.lst [V l]) (.lst [V k]) = .ret (.bl false) := by
  subst h
  show gd (pld 12 (.lst [V l]) && pld 12 (.lst [V l])) (M.ret (Dt.bl (true != eqd (.lst [V l]) (.lst [V l])))) = _
  have p : pld 12 (.lst [V l]) = true := by
    show (pld 11 (.lst (l.map T)) && true) = true
    rw [pld_T l 10]
    rfl
  rw [p]
  have e : eqd (.lst [V l]) (.lst [V l]) = true := by
    unfold eqd
    show eqds [V l] [V l] = true
    unfold eqds
    show (eqd (V l) (V l) && eqds [] []) = true
    have e : eqd (V l) (V l) = true := by
      unfold V eqd
      exact eqds_self l
    rw [e]
    unfold eqds
    rfl
  rw [e]
  rfl
theorem same_T {a b : List Nat} (h : a = b) : fEqS true (T a) (T b) = .ret (.bl false) := by
  subst h
  show M.ret (Dt.bl (true != eqs ⟨⟨a⟩⟩ ⟨⟨a⟩⟩)) = _
  rw [eqs_self]
  rfl
/-! ### the checks of any text -/
theorem step_4 {t : List Nat} (h : Word t) : c4 [.no, .no, .no, .va (T t), .no, .no, .no, .no, .no, .no] = .ret (.nx [.no, .no, .no, .va (T t), .va (V (Fl t)), .no, .no, .no, .no, .no]) := by
  unfold c4
  rw [xSet_eq]
  show bd (bd (bd (M.ret (T t)) fun d => bd (M.ret []) fun ds => .ret (d :: ds)) x_falls) _ = _
  rw [bd_ret, bd_ret, bd_ret, falls_is h]
  rfl
theorem step_I1 {t : List Nat} (h : Word t) : cI1 [.no, .no, .no, .va (T t), .va (V (Fl t)), .no, .no, .no, .no, .no] = .ret (.nx [.no, .no, .no, .va (T t), .va (V (Fl t)), .no, .no, .no, .no, .no]) := by
  have F := fine h
  have hl := h.len
  refine if_no (or_no ?_ ?_)
  · show bd (bd (g_join (.str ⟨#[]⟩) [V (Fl t)]) fun x => bd (M.ret (T t)) fun y => fEqS true x y) _ = _
    rw [join_is (by rw [F.flat]; omega), bd_ret, bd_ret, same_T F.flat]
    rfl
  · have few := fl_few hl
    have cm : xLc (xSeqL (xVar 4)) [6] (xName 6) (xNot (xB (xCB x__law_is_simple (xCons (xVar 6) xNil)))) (xVar 6) [.no, .no, .no, .va (T t), .va (V (Fl t)), .no, .no, .no, .no, .no] = .ret [] := by
      show gd (szB (lenL ((Fl t).map T))) (rb (wipeE [.no, .no, .no, .va (T t), .va (V (Fl t)), .no, .no, .no, .no, .no] [6]) fun ρ => lcX ρ (xName 6) (xNot (xB (xCB x__law_is_simple (xCons (xVar 6) xNil)))) (xVar 6) ((Fl t).map T) []) = _
      rw [gd_true (show szB (lenL ((Fl t).map T)) = true from Nat.ble_eq_true_of_le (by rw [lenL_eq, List.length_map]; omega)), rb_eq, lc_pick (fun d => d) (fun _ => false) ((Fl t).map T) [] ?_, List.filter_eq_nil_iff.mpr fun _ _ => by decide]
      · rfl
      · intro d m
        obtain ⟨w, hw, rfl⟩ := List.mem_map.mp m
        have ok := F.ok w hw
        refine ⟨_, nameX_eq, ?_, rfl⟩
        show bd (bd (bd (bd (M.ret (T w)) fun d => bd (M.ret []) fun ds => .ret (d :: ds)) x__law_is_simple) _) _ = _
        rw [bd_ret, bd_ret, bd_ret, simple_is (by have := ok.1.len; omega), (smp_iff ok.2.1).mpr ok.2]
        rfl
    show bd (bd (bd (xLc (xSeqL (xVar 4)) [6] (xName 6) (xNot (xB (xCB x__law_is_simple (xCons (xVar 6) xNil)))) (xVar 6) [.no, .no, .no, .va (T t), .va (V (Fl t)), .no, .no, .no, .no, .no]) fun ds => .ret (Dt.lst ds)) fun x => bd (M.ret (Dt.lst [])) fun y => fEqP true x y) _ = _
    rw [cm, bd_ret, bd_ret, bd_ret]
    show bd (fEqP true (V []) (V [])) _ = _
    rw [same_V rfl]
    rfl
theorem zip_down : ∀ {l : List (List Nat)}, Ly.Falls l → ∀ d ∈ zipD (l.map T) ((l.map T).drop 1), ∃ w v, d = .tup [T w, T v] ∧ Ly.lt w v = false
  | [], _, d, m => by unfold zipD at m; cases m
  | [w], _, d, m => by
    replace m : d ∈ zipD [T w] [] := m
    unfold zipD at m
    cases m
  | w :: v :: r, f, d, m => by
    replace m : d ∈ zipD (T w :: (v :: r).map T) (T v :: r.map T) := m
    unfold zipD at m
    rcases List.mem_cons.mp m with e | m
    · exact ⟨w, v, e, f.2.1⟩
    · exact zip_down f.2.2 d m
theorem zip_go {ca cb : Env → M Dt} {ρ : Env} {xs ys : List Dt} (h : ca ρ = .ret (.lst xs)) (k : cb ρ = .ret (.lst ys)) : xZipLL ca cb ρ = .ret (zipD xs ys) := by
  unfold xZipLL
  rw [h, bd_ret, k, bd_ret]
theorem step_I2 {t : List Nat} (h : Word t) : cI2 [.no, .no, .no, .va (T t), .va (V (Fl t)), .no, .no, .no, .no, .no] = .ret (.nx [.no, .no, .no, .va (T t), .va (V (Fl t)), .no, .no, .no, .no, .no]) := by
  have F := fine h
  have few := fl_few h.len
  have hl := h.len
  refine if_no ?_
  have sl : xSlL (xVar 4) (xP (xC (.int 1))) xNoP [.no, .no, .no, .va (T t), .va (V (Fl t)), .no, .no, .no, .no, .no] = .ret (((Fl t).map T).drop 1) := by
    show M.ret (cutG ((Fl t).map T) (some 1) none) = _
    rw [cut_tail]
  have zp : xZipLL (xVar 4) (xL (xSlL (xVar 4) (xP (xC (.int 1))) xNoP)) [.no, .no, .no, .va (T t), .va (V (Fl t)), .no, .no, .no, .no, .no] = .ret (zipD ((Fl t).map T) (((Fl t).map T).drop 1)) := by
    refine zip_go rfl ?_
    show bd (xSlL (xVar 4) (xP (xC (.int 1))) xNoP [.no, .no, .no, .va (T t), .va (V (Fl t)), .no, .no, .no, .no, .no]) _ = _
    rw [sl]
    rfl
  have cm : xLc (xZipLL (xVar 4) (xL (xSlL (xVar 4) (xP (xC (.int 1))) xNoP))) [6, 9] (xName2 6 9) (xB (xOp (fS0 tLt) (xVar 6) (xVar 9))) (xVar 6) [.no, .no, .no, .va (T t), .va (V (Fl t)), .no, .no, .no, .no, .no] = .ret [] := by
    show bd (xZipLL (xVar 4) (xL (xSlL (xVar 4) (xP (xC (.int 1))) xNoP)) [.no, .no, .no, .va (T t), .va (V (Fl t)), .no, .no, .no, .no, .no]) _ = _
    rw [zp, bd_ret, gd_true (show szB (lenL (zipD ((Fl t).map T) (((Fl t).map T).drop 1))) = true from Nat.ble_eq_true_of_le (by rw [lenL_eq, zipD_len, List.length_map]; omega)), rb_eq, lc_pick (fun d => match d with | .tup [a, _] => a | d => d) (fun _ => false) _ [] ?_, List.filter_eq_nil_iff.mpr fun _ _ => by decide]
    · rfl
    · intro d m
      obtain ⟨w, v, rfl, lt⟩ := zip_down F.falls d m
      refine ⟨[.no, .no, .no, .va (T t), .va (V (Fl t)), .no, .va (T w), .no, .no, .va (T v)], ?_, ?_, rfl⟩
      · show fz (T w) (fun x => fz (T v) fun y => rb (ep (ep (wipeE [.no, .no, .no, .va (T t), .va (V (Fl t)), .no, .no, .no, .no, .no] [6, 9]) 6 (.va x)) 9 (.va y)) M.ret) = _
        rw [fz_eq, fz_eq, rb_eq]
        rfl
      · show M.ret (ltL w v) = _
        rw [lt_is, lt]
  show bd (bd (bd (xLc (xZipLL (xVar 4) (xL (xSlL (xVar 4) (xP (xC (.int 1))) xNoP))) [6, 9] (xName2 6 9) (xB (xOp (fS0 tLt) (xVar 6) (xVar 9))) (xVar 6) [.no, .no, .no, .va (T t), .va (V (Fl t)), .no, .no, .no, .no, .no]) fun ds => .ret (Dt.lst ds)) fun x => bd (M.ret (Dt.lst [])) fun y => fEqP true x y) _ = _
  rw [cm, bd_ret, bd_ret, bd_ret]
  show bd (fEqP true (V []) (V [])) _ = _
  rw [same_V rfl]
  rfl
theorem step_5 {t : List Nat} {x : Sl} (h : Word t) : c5 [.no, .no, .no, .va (T t), x, .no, .no, .no, .no, .no] = .ret (.nx [.no, .no, .no, .va (T t), x, .va (T (t.take 8)), .no, .no, .no, .no]) := by
  unfold c5
  rw [xSet_eq]
  show bd (gSlS (T t) none (some ((8 : Nat) : Int))) _ = _
  rw [sl_txt (by have := h.len; omega) (cut_to t 8)]
  rfl
theorem step_I3 {t : List Nat} {x : Sl} (h : Word t) : cI3 [.no, .no, .no, .no, x, .va (T (t.take 8)), .no, .no, .no, .no] = .ret (.nx [.no, .no, .no, .no, x, .va (T (t.take 8)), .no, .no, .no, .no]) := by
  have ws : Word (t.take 8) := ⟨by rw [List.length_take]; omega, fun c m => h.low c (List.mem_of_mem_take m)⟩
  have we : Word [] := ⟨Nat.zero_le _, fun _ m => nomatch m⟩
  refine if_no (or_no ?_ ?_)
  · show bd (bd (bd (bd (bd (bd (M.ret (T (t.take 8))) fun d => bd (M.ret []) fun ds => .ret (d :: ds)) x_falls) fun d => bd (M.ret []) fun ds => .ret (d :: ds)) fun ds => .ret (Dt.lst ds)) fun x => bd (bd (bd (M.ret (T (t.take 8))) fun d => bd (M.ret []) fun ds => .ret (d :: ds)) (x__law_ways_to_fall 10)) fun y => fEqP true x y) _ = _
    rw [bd_ret, bd_ret, bd_ret, falls_is ws, bd_ret, bd_ret, bd_ret, bd_ret, bd_ret, ways_is 10 (t.take 8) (by rw [List.length_take]; omega) (by rw [List.length_take]; omega), bd_ret]
    show bd (fEqP true (.lst [V (Fl (t.take 8))]) (.lst [V (Fl (t.take 8))])) _ = _
    rw [same_VV rfl]
    rfl
  · show bd (bd (x_falls [T []]) fun x => bd (M.ret (Dt.lst [])) fun y => fEqP true x y) _ = _
    rw [falls_is we, bd_ret, bd_ret]
    show bd (fEqP true (V []) (V [])) _ = _
    rw [same_V rfl]
    rfl
/-! ### each of the first three falls -/
def bodyO : Env → M Out := (xSeq (xIf (xOr (xB (xOp (fEqP true) (xCB x_falls (xCons (xVar 6) xNil)) (xL (xCons (xVar 6) xNil)))) (xB (xOp (fEqS true) (xCB x_round_of (xCons (xVar 6) xNil)) (xVar 6)))) (xRet (xC (.bl false))) xNext) (xIf (xAnd (xB (xOp (fI gLt) (xCB gLenS (xCons (xVar 6) xNil)) (xC (.int 31)))) (xB (xOp (fEqP true) (xCB x_falls (xCons (xOp fAddS (xVar 6) (xVar 6)) xNil)) (xL (xCons (xVar 6) (xCons (xVar 6) xNil)))))) (xRet (xC (.bl false))) xNext))
abbrev EO (y x : Sl) : Env := [.no, .no, .no, .no, y, .no, x, .no, .no, .no]
theorem and_no {a b : Env → M Bool} {ρ : Env} (p : Bool) (h : a ρ = .ret p) (k : p = true → b ρ = .ret false) : xAnd a b ρ = .ret false := by
  show bd (a ρ) _ = _
  rw [h]
  cases p with
  | true => exact k rfl
  | false => rfl
theorem body_O {y : Sl} {w : List Nat} (h : Word w) (l : Ly.Lyn w) : bodyO (EO y (.va (T w))) = .ret (.nx (EO y (.va (T w)))) := by
  have hl := h.len
  unfold bodyO
  rw [seq_step (if_no (or_no ?_ ?_))]
  · refine if_no (and_no (decide (w.length < 31)) ?_ fun k => ?_)
    · show bd (bd (bd (M.ret [T w]) gLenS) fun x => bd (M.ret (Dt.int 31)) fun y => fI gLt x y) _ = _
      rw [bd_ret, len_txt (by omega), bd_ret, bd_ret]
      show M.ret (decide (((w.length : Nat) : Int) < 31)) = _
      congr 1
      exact decide_eq_decide.mpr (by omega)
    · have k := of_decide_eq_true k
      have ww : Word (w ++ w) := ⟨by rw [List.length_append]; omega, fun c m => by
        rcases List.mem_append.mp m with m | m
        · exact h.low c m
        · exact h.low c m⟩
      show bd (bd (bd (bd (bd (M.ret (T w)) fun x => bd (M.ret (T w)) fun y => fAddS x y) fun d => bd (M.ret []) fun ds => .ret (d :: ds)) x_falls) fun x => bd (M.ret (Dt.lst [T w, T w])) fun y => fEqP true x y) _ = _
      rw [bd_ret, bd_ret, add_txt (by omega), bd_ret, bd_ret, bd_ret, falls_is ww, bd_ret, bd_ret]
      show bd (fEqP true (V (Fl (w ++ w))) (V [w, w])) _ = _
      rw [same_V (show Fl (w ++ w) = [w, w] from Ly.fall_twice l ww.len)]
      rfl
  · show bd (bd (bd (bd (M.ret (T w)) fun d => bd (M.ret []) fun ds => .ret (d :: ds)) x_falls) fun x => bd (M.ret (Dt.lst [T w])) fun y => fEqP true x y) _ = _
    rw [bd_ret, bd_ret, bd_ret, falls_is h, bd_ret, bd_ret]
    show bd (fEqP true (V (Fl w)) (V [w])) _ = _
    rw [same_V (show Fl w = [w] from Ly.fall_self l hl)]
    rfl
  · show bd (bd (bd (bd (M.ret (T w)) fun d => bd (M.ret []) fun ds => .ret (d :: ds)) x_round_of) fun x => bd (M.ret (T w)) fun y => fEqS true x y) _ = _
    rw [bd_ret, bd_ret, bd_ret, round_is h l, bd_ret, bd_ret, same_T rfl]
    rfl
theorem loop_O {y : Sl} : ∀ (ws : List (List Nat)) (x : Sl), (∀ w ∈ ws, Word w ∧ Ly.Lyn w) → ∃ x2, forX (xName 6) bodyO (ws.map T) (EO y x) = .ret (.nx (EO y x2))
  | [], x, _ => ⟨x, rfl⟩
  | w :: ws, x, h => by
    have ok := h w (List.mem_cons_self ..)
    obtain ⟨x2, e⟩ := loop_O (y := y) ws (.va (T w)) fun v m => h v (List.mem_cons_of_mem _ m)
    refine ⟨x2, ?_⟩
    rw [List.map_cons, forX_cons, nameX_eq, bd_ret]
    show bd (bodyO (EO y (.va (T w)))) _ = _
    rw [body_O ok.1 ok.2, bd_ret]
    exact e
theorem cut_three (l : List Dt) : cutG l none (some 3) = l.take 3 := by
  show (l.drop (HT.sIx l.length 0 none)).take (HT.sIx l.length l.length (some ((3 : Nat) : Int)) - HT.sIx l.length 0 none) = _
  rw [HT.sIx_nat, HT.sIx_none, List.drop_zero, Nat.sub_zero]
  rcases Nat.le_total 3 l.length with h | h
  · rw [Nat.min_eq_left h]
  · rw [Nat.min_eq_right h, List.take_length, List.take_of_length_le h]
theorem step_For {t : List Nat} (h : Word t) : ∃ x2, cFor (EO (.va (V (Fl t))) .no) = .ret (.nx (EO (.va (V (Fl t))) x2)) := by
  obtain ⟨x2, e⟩ := loop_O (y := .va (V (Fl t))) ((Fl t).take 3) .no fun w m => (fine h).ok w (List.mem_of_mem_take m)
  refine ⟨x2, ?_⟩
  have it : xSeqL (xL (xSlL (xVar 4) xNoP (xP (xC (.int 3))))) (EO (.va (V (Fl t))) .no) = .ret (((Fl t).take 3).map T) := by
    show M.ret (cutG ((Fl t).map T) none (some 3)) = _
    rw [cut_three, List.map_take]
  have c : cFor = xFor (xSeqL (xL (xSlL (xVar 4) xNoP (xP (xC (.int 3)))))) (xName 6) bodyO := rfl
  rw [c]
  show bd (xSeqL (xL (xSlL (xVar 4) xNoP (xP (xC (.int 3))))) (EO (.va (V (Fl t))) .no)) _ = _
  rw [it, bd_ret]
  exact e
/-! ### the rolls -/
theorem roll_A : sat (cA (.no :: .va .die :: List.replicate 8 .no)) (fun o => ∃ l : List Nat, (l ≠ [] ∧ l.length ≤ 3 ∧ ∀ c ∈ l, 97 ≤ c ∧ c ≤ 122) ∧ o = .nx [.no, .va .die, .va (T l), .no, .no, .no, .no, .no, .no, .no]) N0 := by
  unfold cA
  rw [xSet_eq]
  show 0 < (3 : Int) ∧ (3 : Int) < 1000000 ∧ ∀ r, 0 ≤ r → r < 3 → sat (bd (fIx (.lst [T [97, 98], T [97, 98, 99], T [120, 121, 122]]) (.int r)) _) _ _
  refine ⟨by decide, by decide, fun r h0 h3 => ?_⟩
  have e : r = 0 ∨ r = 1 ∨ r = 2 := by omega
  rcases e with rfl | rfl | rfl
  · exact ⟨[97, 98], by decide, rfl⟩
  · exact ⟨[97, 98, 99], by decide, rfl⟩
  · exact ⟨[120, 121, 122], by decide, rfl⟩
abbrev cLetter : Env → M Dt := xOp fIx (xVar 2) (xCB x__law_roll (xCons (xVar 1) (xCons (xCB gLenS (xCons (xVar 2) xNil)) xNil)))
abbrev EB (l : List Nat) (x : Sl) : Env := [.no, .va .die, .va (T l), .no, .no, .no, .no, .no, x, .no]
theorem letter_roll {l : List Nat} {x : Sl} (hn : l ≠ []) (hl : l.length ≤ 3) {f : Dt → M (List Dt)} {q : List Dt → Prop} (h : ∀ c ∈ l, sat (f (T [c])) q N0) : sat (bd (noX (cLetter (EB l x))) f) q N0 := by
  have e : cLetter (EB l x) = .roll (l.length : Nat) fun r => fIx (T l) (.int r) := by
    have a : xCons (xCB gLenS (xCons (xVar 2) xNil)) xNil (EB l x) = .ret [.int (l.length : Nat)] := by
      show bd (bd (M.ret [T l]) gLenS) _ = _
      rw [bd_ret, len_txt (by omega), bd_ret]
      rfl
    have b : xCB x__law_roll (xCons (xVar 1) (xCons (xCB gLenS (xCons (xVar 2) xNil)) xNil)) (EB l x) = .roll (l.length : Nat) fun r => .ret (.int r) := by
      show bd (bd (xCons (xCB gLenS (xCons (xVar 2) xNil)) xNil (EB l x)) fun ds => .ret (Dt.die :: ds)) x__law_roll = _
      rw [a]
      rfl
    show bd (xCB x__law_roll (xCons (xVar 1) (xCons (xCB gLenS (xCons (xVar 2) xNil)) xNil)) (EB l x)) (fun y => fIx (T l) y) = _
    rw [b]
    rfl
  rw [e]
  have lp := List.length_pos_iff.mpr hn
  show 0 < ((l.length : Nat) : Int) ∧ ((l.length : Nat) : Int) < 1000000 ∧ ∀ r, 0 ≤ r → r < ((l.length : Nat) : Int) → sat (bd (noX (fIx (T l) (.int r))) f) q N0
  refine ⟨by omega, by omega, fun r h0 h1 => ?_⟩
  obtain ⟨i, rfl⟩ : ∃ i : Nat, r = (i : Nat) := ⟨r.toNat, by omega⟩
  have hi : i < l.length := by omega
  rw [ix_txt (List.getElem?_eq_getElem hi) (by omega)]
  exact h _ (List.getElem_mem hi)
theorem letters_roll {l : List Nat} (hn : l ≠ []) (hl : l.length ≤ 3) {q : List Dt → Prop} : ∀ (ds acc : List Dt) (x : Sl), (∀ cs : List Nat, cs.length = ds.length → (∀ c ∈ cs, c ∈ l) → q (acc.reverse ++ cs.map fun c => T [c])) → sat (lcX (EB l x) (xName 8) xYes cLetter ds acc) q N0
  | [], acc, x, h => by
    show q (rvL acc)
    rw [rvL_eq]
    have := h [] rfl fun _ m => nomatch m
    rwa [List.map_nil, List.append_nil] at this
  | d :: ds, acc, x, h => by
    rw [lc_cons, nameX_eq]
    show sat (bd (noX (cLetter (EB l (.va d)))) fun y => lcX (EB l x) (xName 8) xYes cLetter ds (y :: acc)) q N0
    refine letter_roll hn hl fun c m => letters_roll hn hl ds (T [c] :: acc) x fun cs e k => ?_
    have := h (c :: cs) (by rw [List.length_cons, List.length_cons, e]) fun b hb => by
      rcases List.mem_cons.mp hb with rfl | hb
      · exact m
      · exact k b hb
    rw [List.map_cons] at this
    rwa [List.reverse_cons, List.append_assoc]
theorem roll_B {l : List Nat} (hn : l ≠ []) (hl : l.length ≤ 3) (ho : ∀ c ∈ l, 97 ≤ c ∧ c ≤ 122) : sat (cB (EB l .no)) (fun o => ∃ t : List Nat, Word t ∧ o = .nx [.no, .va .die, .va (T l), .va (T t), .no, .no, .no, .no, .no, .no]) N0 := by
  have c : cB = xSet 3 (xMt tyS g_join (xC (.str ⟨#[]⟩)) (xCons (xL (xLc (xR1 (xCB x__law_roll (xCons (xVar 1) (xCons (xC (.int 41)) xNil)))) [8] (xName 8) xYes cLetter)) xNil)) := rfl
  rw [c, xSet_eq]
  refine sat_bd.mpr ?_
  show sat (bd (bd (bd (xLc (xR1 (xCB x__law_roll (xCons (xVar 1) (xCons (xC (.int 41)) xNil)))) [8] (xName 8) xYes cLetter (EB l .no)) fun ds => .ret (Dt.lst ds)) fun d => .ret [d]) fun ds => g_join (.str ⟨#[]⟩) ds) _ N0
  refine sat_bd.mpr (sat_bd.mpr (sat_bd.mpr ?_))
  show 0 < (41 : Int) ∧ (41 : Int) < 1000000 ∧ ∀ r, 0 ≤ r → r < 41 → sat (bd (gd (inR r) (M.ret (rgX 0 1 r.toNat))) fun ds => gd (szB (lenL ds)) (rb (wipeE (EB l .no) [8]) fun ρ => lcX ρ (xName 8) xYes cLetter ds [])) _ N0
  refine ⟨by decide, by decide, fun r h0 h1 => ?_⟩
  rw [gd_true (show inR r = true from Nat.ble_eq_true_of_le (by omega)), bd_ret, rgX_eq, gd_true (show szB (lenL (rg 0 1 r.toNat)) = true from Nat.ble_eq_true_of_le (by rw [lenL_eq, rg_len]; omega)), rb_eq]
  refine letters_roll hn hl (rg 0 1 r.toNat) [] .no fun cs e k => ?_
  rw [rg_len] at e
  have w : Word cs := ⟨by omega, fun c m => ho c (k c m)⟩
  show sat (g_join (.str ⟨#[]⟩) [.lst ([] ++ cs.map fun c => T [c])]) _ N0
  have v : (.lst ([] ++ cs.map fun c => T [c]) : Dt) = V (cs.map fun c => [c]) := by
    unfold V
    rw [List.nil_append, List.map_map]
    rfl
  have fl : ∀ l : List Nat, (l.map fun c => [c]).flatten = l := fun l => by
    induction l with
    | nil => rfl
    | cons a l ih => rw [List.map_cons, List.flatten_cons, ih]; rfl
  rw [v, join_is (by rw [fl]; omega), fl]
  exact ⟨cs, w, rfl⟩
theorem turn_law : sat (c_turn (.no :: .va .die :: List.replicate 8 .no)) (fun o => goodB 10 o = true) N0 := by
  rw [turn_is, xSeq_eq]
  refine sat_bd.mpr (roll_A.imp ?_)
  rintro o ⟨l, ⟨hn, hl, ho⟩, rfl⟩
  show sat (xSeq cB _ (EB l .no)) _ N0
  rw [xSeq_eq]
  refine sat_bd.mpr ((roll_B hn hl ho).imp ?_)
  rintro o ⟨t, w, rfl⟩
  show sat (xWipe [1, 2, 8] _ [.no, .va .die, .va (T l), .va (T t), .no, .no, .no, .no, .no, .no]) _ N0
  rw [wipe_step]
  show sat (xSeq c4 _ [.no, .no, .no, .va (T t), .no, .no, .no, .no, .no, .no]) _ N0
  rw [seq_step (step_4 w), seq_step (step_I1 w), seq_step (step_I2 w), wipe_step]
  show sat (xSeq c5 _ [.no, .no, .no, .va (T t), .va (V (Fl t)), .no, .no, .no, .no, .no]) _ N0
  rw [seq_step (step_5 w), wipe_step]
  show sat (xSeq cI3 _ [.no, .no, .no, .no, .va (V (Fl t)), .va (T (t.take 8)), .no, .no, .no, .no]) _ N0
  rw [seq_step (step_I3 w), wipe_step]
  show sat (xSeq cFor _ (EO (.va (V (Fl t))) .no)) _ N0
  obtain ⟨x2, e⟩ := step_For w
  rw [seq_step e, wipe_step]
  exact end_
end
end K26
namespace K26
open PySem hiding Env
open PySem.Spec PyProof.Rows L2 Dl Xe
theorem room_ : Room 14 callerA := ⟨by decide, by decide, by decide⟩
theorem calls_ {P : Program} {w : World} {K : PySem.W.Frag} {mg : Str → Option Value} {base h : Heap} {f : Addr} {fd : FuncData} (KX : K.In h) (G : h.Ns mainGlobals mg) (c : He.SaysX fas fns tss tfd exs w h K) (tb : ∀ p ∈ tfd.map (He.cT K), LamX.TabB base mg p.1 p.2) (F : Fun K "law" "law" s_law f fd) (FT : Hx.FunT K "law" "law" s_law f (He.cT K ("law", none)).1 fd) : FnOk P w K mg base (L2N.CX P w) 14 f fd ["_law_script"] (lift (tabsOf K tfs) (spLaw K)) := by
  have B : Bn mg := ⟨He.free_ok KX G (c.t.d.fact 15 rfl), He.free_ok KX G (c.t.d.fact 16 rfl), He.free_ok KX G (c.t.d.fact 17 rfl), He.free_ok KX G (c.t.d.fact 18 rfl), He.free_ok KX G (c.t.d.fact 19 rfl), He.free_ok KX G (c.t.d.fact 20 rfl), He.free_ok KX G (c.t.d.fact 21 rfl), He.free_ok KX G (c.t.d.fact 22 rfl), He.free_ok KX G (c.t.d.fact 23 rfl), He.free_ok KX G (c.t.d.fact 24 rfl), He.free_ok KX G (c.t.d.fact 25 rfl), He.free_ok KX G (c.t.d.fact 26 rfl), He.free_ok KX G (c.t.d.fact 27 rfl), He.free_ok KX G (c.t.d.fact 28 rfl), He.free_ok KX G (c.t.d.fact 29 rfl), He.free_ok KX G (c.t.d.fact 30 rfl), He.free_ok KX G (c.t.d.fact 31 rfl), He.free_ok KX G (c.t.d.fact 32 rfl), He.free_ok KX G (c.t.d.fact 33 rfl), He.free_ok KX G (c.t.d.fact 34 rfl)⟩
  have more := He.ba c.more
  have Er := Ea.errs_of KX G (He.ba more.2).1
  have Px : ∀ i, 3 ≤ i → i < 15 → Ea.PlainX K (Ea.ea K i) := fun i h1 h2 => by
    have := Ea.plB_ok (Ea.rng_ok (He.ba more.2).2 (i - 3) (by omega))
    rwa [show i - 3 + 3 = i by omega] at this
  have mV := He.free_ok KX G (c.t.d.fact 35 rfl) (x := "ValueError")
  have c_MOST_TEXT := He.int_ok KX G (c.t.d.fact 36 rfl) (x := "MOST_TEXT") (i := 60)
  have h__law_roll := Xe.Pd.imp (h__law_roll (P := P) (w := w) (base := base) (T := tabsOf K tfs) (has_of c.t.d KX G 7 rfl rfl (bnd fun _ _ _ _ _ _ us hl => match us, hl with | [_, _], _ => rfl)) (has_of c.t.d KX G 6 rfl rfl (bnd fun _ _ _ _ _ _ us hl => match us, hl with | [_, _], _ => rfl))) (roll_go (K := K))
  have h__law_rounds := h__law_rounds (P := P) (w := w) (base := base) (T := tabsOf K tfs) (has_of c.t.d KX G 8 rfl rfl (bnd fun _ _ _ _ _ _ us hl => match us, hl with | [_, _], _ => rfl)) (has_of c.t.d KX G 5 rfl rfl (bnd fun _ _ _ _ _ _ us hl => match us, hl with | [_, _], _ => rfl)) B
  have h__law_turns := h__law_turns (P := P) (w := w) (base := base) (T := tabsOf K tfs) (has_of c.t.d KX G 11 rfl rfl (bnd fun _ _ _ _ _ _ us hl => match us, hl with | [_], _ => rfl)) B    
  have h__law_is_simple := h__law_is_simple (P := P) (w := w) (base := base) (T := tabsOf K tfs) (has_of c.t.d KX G 12 rfl rfl (bnd fun _ _ _ _ _ _ us hl => match us, hl with | [_], _ => rfl)) B    h__law_turns
  have h__law_ways_to_fall := h__law_ways_to_fall (P := P) (w := w) (base := base) (T := tabsOf K tfs) (has_of c.t.d KX G 13 rfl rfl (bnd fun _ _ _ _ _ _ us hl => match us, hl with | [_], _ => rfl)) B    h__law_is_simple
  have h_first_fall := h_first_fall (P := P) (w := w) (base := base) (T := tabsOf K tfs) (has_of c.t.d KX G 2 rfl rfl (bnd fun _ _ _ _ _ _ us hl => match us, hl with | [_], _ => rfl)) B    
  have h_is_letter := h_is_letter (P := P) (w := w) (base := base) (T := tabsOf K tfs) (has_of c.t.d KX G 0 rfl rfl (bnd fun _ _ _ _ _ _ us hl => match us, hl with | [_], _ => rfl)) B    
  have h_need_text := h_need_text (P := P) (w := w) (base := base) (T := tabsOf K tfs) (hasT_of c.t.d KX G 1 rfl rfl (bnd fun _ _ _ _ _ _ us hl => match us, hl with | [_], _ => rfl) (tb _ (List.mem_map.mpr ⟨_, List.mem_of_getElem? (i := 0) rfl, rfl⟩)) (List.mem_map.mpr ⟨_, List.mem_of_getElem? (i := 0) rfl, rfl⟩)) B Er Px c_MOST_TEXT   h_is_letter
  have h_falls := h_falls (P := P) (w := w) (base := base) (T := tabsOf K tfs) (has_of c.t.d KX G 4 rfl rfl (bnd fun _ _ _ _ _ _ us hl => match us, hl with | [_], _ => rfl)) B    h_need_text h_first_fall
  have h_round_of := h_round_of (P := P) (w := w) (base := base) (T := tabsOf K tfs) (has_of c.t.d KX G 3 rfl rfl (bnd fun _ _ _ _ _ _ us hl => match us, hl with | [_], _ => rfl)) B    h_need_text
  have tl := tb _ (List.mem_map.mpr ⟨_, List.mem_of_getElem? (i := 1) rfl, rfl⟩)
  exact h_law FT ⟨tl.code, tl.bm, tl.gP⟩ (List.mem_map.mpr ⟨_, List.mem_of_getElem? (i := 1) rfl, rfl⟩) (has_of c.t.d KX G 9 rfl rfl (bnd fun _ _ _ _ _ _ us hl => match us, hl with | [_], _ => rfl)) (has_of c.t.d KX G 10 rfl rfl (bnd fun _ _ _ _ _ _ us hl => match us, hl with | [_], _ => rfl)) Er mV B   h_round_of h_falls h__law_roll h__law_is_simple h__law_ways_to_fall h__law_rounds turn_law
theorem law_holds : PySem.Challenge.rw_countworks_k26_whole_falls.Holds := by
  w_on; o_law
  refine HandSHeadRun.head_any (r := PySem.W.OpenLaw.row PySem.Challenge.rw_countworks_k26_whole_falls) (q := PySem.W.view Rw.prog [35]) (H := hk) (ob := ob) (M := 8000) (loose := nms) (d := HandSHeadRun.topDef Rw.prog 35) (kwd := []) ob_eq
    (by kernel_rfl) (fun s => by kernel_rfl) run_ (by kernel_rfl) (by kernel_rfl) (by kernel_rfl) (by rfl) (by first | assumption | decide +kernel) (by decide +kernel) ⟨rfl, rfl, rfl, rfl, rfl, by decide +kernel⟩ ?hw ?hc
  case hw => w_witness2
  case hc =>
    refine LamX.walk_ofTsE (l := PySem.Challenge.rw_countworks_k26_whole_falls) (n := 63) (k := 14) (x := "_law_script") (CX := fun w => L2N.CX PySem.Challenge.rw_countworks_k26_whole_falls.prog w) rfl (by decide) (by kernel_rfl) room_ ?F (fun _ _ _ _ _ z => cx_never z)
    intro w mg fa h Y G hmg0
    obtain ⟨K, KX, c⟩ := Y
    have hmg : mg ("law" : PySem.Str) = some (.ref fa) := by
      have e : (HandSHeadRun.topDef Rw.prog 35).name = ("law" : PySem.Str) := by kernel_rfl
      rw [← e]
      exact hmg0
    exact ⟨K, KX, law_at (tf := tfs) KX c G hmg (of_decide_eq_true (He.ba c.more).1) (List.forall_mem_cons.mpr ⟨vo_tb, (List.forall_mem_cons.mpr ⟨vo_lt, (List.forall_mem_nil _)⟩)⟩) 14 rfl rfl (fun _ _ _ _ _ _ us hl => match us, hl with | [_], _ => rfl) fun f fd F FT base hb hn tb => calls_ KX G c tb F FT⟩
end K26
set_option maxRecDepth 100000 in
set_option maxHeartbeats 8000000 in
theorem PySem.Challenge.cw_countworks_k26_whole_falls_holds : PySem.Challenge.rw_countworks_k26_whole_falls.Holds := by
  exact K26.law_holds
