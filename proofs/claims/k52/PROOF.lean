import PyProof.Rows.All
import Wide.All
import OpenK.AllK
import Wide.FinOn
import PyProof.EqAt
import PyProof.EqKinds
import PyProof.TupleCall
import KE.KNest
import HandS.Base
import HandS.Call
import HandS.List
import HandS.Comp
import HandS.AnyAll
import HandS.GenOver
import HandS.GenList
import PyProof.ConsumeS
import HandS.ForMost
import HandS.ForExc
import HandS.Zip
import HandS.TupAny
import HandS.CallSlots
import HandS.ExcCtx
import HandS.IsInst
import HandS.FStr
import HandS.Wide
import HandS.Style
import PyProof.ListStr
import PyProof.StrOps2
import HandS.TupSets
import HandS.SetFor
import HandS.SetTxt0
import HandS.SetTxtIn
import HandS.More
import HandS.Text
import HandS.ExcOwn
import HandS.WordsExc
import HandS.Defaults
import HandS.HeadHook4
import HandS.EndTab
import HandS.HeadWalk
import HandS.Head2
import HandS.HeadEnd
import KE.GoesMore
import HandS.Deep
import PyProof.ReprLen
import HandS.SortKw
import HandS.Iter
import KE.GoesEnumKw
import HandS.TupLe
import HandS.TupMul
import HandS.Flow
import HandS.Replace
import PyProof.StrReplace2
import PyProof.StrLawsReplace
import HandS.Conv
import KE.DataMinMax
import KE.SortData
import HandS.HotCalls
import HandS.ExcIs
import KE.KSmall
import PyProof.SetRoads
import PySem.Challenge.RW_turnletters_k52_webs_beside_one_another
set_option Elab.async false
set_option linter.all false
set_option maxRecDepth 100000
set_option maxHeartbeats 4000000
namespace TlG
open PySem PySem.Spec PyProof.Rows L2 GxR

section
variable {prog : Program} {w : World} {A : Around} {R : Result → Shared → Prop} {I : Addr}
theorem all_loop (W : Nat → Shared → Prop)
    (turn : ∀ n s, W n s → wpAny (model prog w) A.in1 (pyNext (.ref I)) (fun r s1 => match r with
      | none => R (.ok (.ret (.bool true))) s1
      | some v => ∃ b, v = .bool b ∧ if b = true then ∃ m, m < n ∧ W m s1 else R (.ok (.ret (.bool false))) s1) (fun _ _ => False) s) :
    ∀ n s, W n s → codeAny (model prog w) A (.builtin "all.loop" ⟨[.ref I], []⟩) R s := by
  intro n
  induction n using Nat.strongRecOn with
  | ind n ih =>
    intro s hW
    refine codeAny_builtin F.entry_all_loop ?_
    rw [Around.under_plainId F.plain_all_loop _]
    show wpAny _ A.in1 (pyNext (.ref I) >>= _) _ _ s
    refine wpAny_bind (thnF (turn n s hW) fun r s1 h1 => ?_)
    cases r with
    | none => exact wpAny_bind (wpAny_rule (wpAny_pure h1))
    | some v =>
      obtain ⟨b, rfl, h1⟩ := h1
      refine wpAny_bind (wpAny_holding (wpAny_truthy_bool ?_))
      refine wpAny_bind (wpAny_letGo ?_)
      cases b with
      | true =>
        simp only [if_true] at h1 ⊢
        obtain ⟨m, hm, hW1⟩ := h1
        exact wpAny_pure ⟨plainId_quiet F.plain_all_loop _, ih m hm s1 hW1⟩
      | false =>
        simp only [Bool.false_eq_true, if_false] at h1 ⊢
        exact wpAny_bind (wpAny_rule (wpAny_pure h1))
theorem any_loop (W : Nat → Shared → Prop)
    (turn : ∀ n s, W n s → wpAny (model prog w) A.in1 (pyNext (.ref I)) (fun r s1 => match r with
      | none => R (.ok (.ret (.bool false))) s1
      | some v => ∃ b, v = .bool b ∧ if b = false then ∃ m, m < n ∧ W m s1 else R (.ok (.ret (.bool true))) s1) (fun _ _ => False) s) :
    ∀ n s, W n s → codeAny (model prog w) A (.builtin "any.loop" ⟨[.ref I], []⟩) R s := by
  intro n
  induction n using Nat.strongRecOn with
  | ind n ih =>
    intro s hW
    refine codeAny_builtin F.entry_any_loop ?_
    rw [Around.under_plainId F.plain_any_loop _]
    show wpAny _ A.in1 (pyNext (.ref I) >>= _) _ _ s
    refine wpAny_bind (thnF (turn n s hW) fun r s1 h1 => ?_)
    cases r with
    | none => exact wpAny_bind (wpAny_rule (wpAny_pure h1))
    | some v =>
      obtain ⟨b, rfl, h1⟩ := h1
      refine wpAny_bind (wpAny_holding (wpAny_truthy_bool ?_))
      refine wpAny_bind (wpAny_letGo ?_)
      cases b with
      | false =>
        simp only [Bool.false_eq_true, if_false, if_true] at h1 ⊢
        obtain ⟨m, hm, hW1⟩ := h1
        exact wpAny_pure ⟨plainId_quiet F.plain_any_loop _, ih m hm s1 hW1⟩
      | true =>
        simp only [Bool.true_eq_false, if_false, if_true] at h1 ⊢
        exact wpAny_bind (wpAny_rule (wpAny_pure h1))
end

/-! ### a generator expression's run -/
/-- the same objects, the table of generators may be another -/
structure Rest (s s' : Shared) : Prop where
  os : s'.os = s.os
  bare : AllBare s'.gens
  keep : ∀ b o, s.heap.get? b = some o → s'.heap.get? b = some o
theorem inv_rest {X : Cx} {pins : List (Addr × Obj)} {σ : L2.St} {H : Hp} {s s' : Shared} (I : Inv X pins σ H s) (r : Rest s s') : Inv X pins σ H s' :=
  I.call' (ch := []) r.os (Un.kept r.keep) (I.hok.kept r.keep) r.bare fun b hb => absurd hb (by simp)
/-- at a yield: y with what is asked of it, Yv (nx: what goes on) -/
def YP (X : Cx) (Yv : V → Hp → Prop → Prop) : Protocol := fun _ _ v s kap =>
  ∃ (y : V) (H : Hp) (σ : L2.St) (pins : List (Addr × Obj)) (nx : Prop), RelV y v ∧ Inv X pins σ H s ∧ Yv y H nx ∧ (nx → ∀ s', Rest s s' → kap (.send .none) s')
def RP (X : Cx) (σw : L2.St) (Qe : Hp → Prop) : Nat → Shared → Shared → Prop := fun _ _ s => ∃ H, Inv X [] σw H s ∧ Qe H
section
variable {X : Cx} {A : Around} {elt tg iter : Expr} {ifs : List Expr} {scope : Scope} {pos : Pos} {it : Addr} {fp : List Addr} {tn : Nat → Heap → Prop} {J : It} {g : TG} {tt : TT} {te : TE} {σw : L2.St} {vs : List Nat} {Yv : V → Hp → Prop → Prop} {Qe : Hp → Prop}
abbrev gexp (elt tg iter : Expr) (ifs : List Expr) (scope : Scope) (pos : Pos) : Expr := .GeneratorExp elt [⟨tg, iter, ifs, 0⟩] scope pos
theorem gen_loop (hc : X.calm = true) (hco : X.env.scope.isCoroutine = false) (hxe : ∀ e s, ¬ X.xe e s) (hex : X.ex = fp)
    (hov : A.over (.compLoop (gexp elt tg iter ifs scope pos) 0 (.ref it) .none X.env) [] = X.A) (hw : wipe σw vs = σw)
    (T : Turn X.prog X.w X.K tg J fp it tn) (pg : PG X tg g) (pt : PTs X ifs tt) (pe : PE X elt te) (W : Nat → Nat → Hp → Prop) (hpn : ∀ p ∈ X.pn, p.1 ∉ fp)
    (turn : ∀ i m H, W i m H → (J.stop i H ∧ Qe H) ∨ (J.go i H ∧ ∃ Nx : Hp → Prop, (∀ H', Nx H' → ∃ m', m' < m ∧ W (i + 1) m' H') ∧ ∀ x H', J.yld i H x H' → g x σw H' fun σ2 H2 => wipe σ2 vs = σw ∧ tt σ2 H2 fun b H3 =>
      if b = true then te σ2 H3 fun y H4 => Yv y H4 (Nx H4) else Nx H3)) :
    ∀ (m n i : Nat) (s₀ s : Shared) (H : Hp), m < n → Inv X [] σw H s → tn i s.heap → (∀ b ∈ fp, H b = none) → W i m H →
      Seg (model X.prog X.w) A (fun n s₀ r s₁ => r = .ok .next ∧ RP X σw Qe n s₀ s₁) (YP X Yv) n s₀ (.compLoop (gexp elt tg iter ifs scope pos) 0 (.ref it) .none X.env)
        ((model X.prog X.w).den (.compLoop (gexp elt tg iter ifs scope pos) 0 (.ref it) .none X.env)) [] s := by
  have stat : ∀ {σ' : L2.St} {H' : Hp} {s' : Shared}, Inv X [] σ' H' s' → (∀ b ∈ fp, H' b = none) → ∀ b ∈ fp, FpOk X [] H' b := fun {σ' H' s'} I' hn b hb =>
    ⟨hn b hb, (I'.ok.exf b (hex ▸ hb)).1, I'.ok.exfs b (hex ▸ hb), .inl (hex ▸ hb), fun x c e => (I'.ok.exf b (hex ▸ hb)).2 x c e, fun p hp => by
      rw [List.append_nil] at hp
      exact fun z => hpn p hp (z ▸ hb)⟩
  have no : ∀ {α : Type} {t : Sem α} {Q Q' : α → Shared → Prop} {E : Value → Shared → Prop} {s : Shared}, wpAny (model X.prog X.w) X.A t Q X.xe s → (∀ a s, Q a s → Q' a s) → wpAny (model X.prog X.w) X.A t Q' E s := fun h hQ =>
    wpAny_mono h hQ fun e s' z => absurd z (hxe e s')
  intro m
  induction m using Nat.strongRecOn with
  | ind m ih =>
    intro n i s₀ s H hmn I st nf w0
    show Seg _ A _ _ _ s₀ _ ((compTurn (gexp elt tg iter ifs scope pos) 0 (.ref it) .none X.env).onRaise (leaving X.env)) [] s
    rw [compTurn_gen, Sem.onRaise_eq_wrap]
    refine seg_bind_wrap (wpAny_standAt ?_)
    rcases turn i m H w0 with ⟨stop, qe⟩ | ⟨go, Nx, hNx, step⟩
    · refine seg_bind_wrap ?_
      rw [hov]
      refine no (T.done X rfl rfl rfl hc i [] s _ H X.xe I (stat I nf) st stop) fun r s1 ⟨hr, I1⟩ => ?_
      subst hr
      exact seg_end (.ok .next) ⟨rfl, H, I1, qe⟩
    · refine seg_bind_wrap ?_
      rw [hov]
      refine no (T.item X rfl rfl rfl hc i [] s _ H X.xe I (stat I nf) st go) fun r s1 ⟨u, hr, h1⟩ => ?_
      subst hr
      refine seg_bind_wrap ?_
      rw [hov]
      refine no h1 fun _ s2 ⟨x, H2, I2, r2, y2, st2, n2⟩ => ?_
      have I2' := I2.pinned (stat I2 n2) (T.obj _ _ st2)
      refine seg_bind_wrap ?_
      rw [hov]
      refine no (pg.run _ s2 _ H2 x u _ I2' r2 (step x H2 y2)) fun _ s3 ⟨σ3, H3, I3, hw3, q3⟩ => ?_
      refine seg_bind_wrap ?_
      rw [hov]
      refine no (pt.run _ s3 σ3 H3 _ I3 q3) fun b s4 ⟨H4, I4, q4⟩ => ?_
      -- the turn's end
      have fin : ∀ {s' : Shared} {H' : Hp} {σ' : L2.St} (n' : Nat) (s₀' : Shared), Inv X ([] ++ pinsAt fp s2.heap) σ' H' s' → wipe σ' vs = σw → Nx H' → (∀ m', m' < m → m' < n') →
          Seg (model X.prog X.w) A (fun n s₀ r s₁ => r = .ok .next ∧ RP X σw Qe n s₀ s₁) (YP X Yv) n' s₀' (.compLoop (gexp elt tg iter ifs scope pos) 0 (.ref it) .none X.env)
            ((model X.prog X.w).den (.compLoop (gexp elt tg iter ifs scope pos) 0 (.ref it) .none X.env)) [] s' := fun {s' H' σ'} n' s₀' I' hw' nx hn' => by
        obtain ⟨m', hm, w'⟩ := hNx H' nx
        have pin' : ∀ b ∈ fp, ∀ o, s2.heap.get? b = some o → s'.heap.get? b = some o ∧ H' b = none := fun b hb o e =>
          let z := I'.pin (b, o) (List.mem_append_right _ (List.mem_append_right _ (mem_pinsAt hb e)))
          ⟨z.1, z.2.1⟩
        have hl : σw.length = σ'.length := by rw [← hw', wipe_length]
        refine ih m' hm n' (i + 1) s₀' s' H' (hn' m' hm) ((I'.unpinned (pins := [])).weak hl (fun j v e => ?_)) (T.keep _ _ _ st2 fun b hb o e => (pin' b hb o e).1) (fun b hb => ?_) w'
        · rw [← hw'] at e
          exact (wipe_some e).1
        · obtain ⟨o, e, _⟩ := T.obj _ _ st2 b hb
          exact (pin' b hb o e).2
      cases b with
      | false =>
        simp only [Bool.false_eq_true, if_false] at q4 ⊢
        exact seg_again rfl (fin n s₀ I4 hw3 q4 fun m' h => by omega)
      | true =>
        simp only [if_true] at q4 ⊢
        have hy : ∀ v, yieldOut X.env v = yieldValue v := fun v => by simp only [yieldOut, hco, Bool.false_eq_true, if_false]
        simp only [hy]
        rw [Sem.bind_eq_wrap', Sem.bind_eq_wrap', Sem.wrap_wrap, Sem.wrap_wrap]
        refine seg_wrap ?_
        rw [hov]
        refine no (pe.run _ s4 σ3 H4 _ I4 q4) fun v s5 ⟨y, H5, I5, r5, q5⟩ => ?_
        cases n with
        | zero => exact absurd hmn (Nat.not_lt_zero _)
        | succ n =>
          refine seg_at (seg_yield rfl rfl rfl ⟨y, H5, σ3, _, Nx H5, r5, I5, q5, fun nx s'' hr => ?_⟩)
          exact seg_again rfl (fin n s'' (inv_rest I5 hr) hw3 nx fun m' h => by omega)
theorem gen_start (hc : X.calm = true) (hco : X.env.scope.isCoroutine = false) (hxe : ∀ e s, ¬ X.xe e s) (hex : X.ex = fp)
    (hov : A.over (.compLoop (gexp elt tg iter ifs scope pos) 0 (.ref it) .none X.env) [] = X.A) (hov0 : A.over (.compStart (gexp elt tg iter ifs scope pos) 0 (.ref it) .none X.env) [] = X.A) (hw : wipe σw vs = σw)
    (T : Turn X.prog X.w X.K tg J fp it tn) (pg : PG X tg g) (pt : PTs X ifs tt) (pe : PE X elt te) (W : Nat → Nat → Hp → Prop) (hpn : ∀ p ∈ X.pn, p.1 ∉ fp)
    (turn : ∀ i m H, W i m H → (J.stop i H ∧ Qe H) ∨ (J.go i H ∧ ∃ Nx : Hp → Prop, (∀ H', Nx H' → ∃ m', m' < m ∧ W (i + 1) m' H') ∧ ∀ x H', J.yld i H x H' → g x σw H' fun σ2 H2 => wipe σ2 vs = σw ∧ tt σ2 H2 fun b H3 =>
      if b = true then te σ2 H3 fun y H4 => Yv y H4 (Nx H4) else Nx H3))
    (m : Nat) (s₀ s : Shared) (H : Hp) (I : Inv X [] σw H s) (st : tn 0 s.heap) (nf : ∀ b ∈ fp, H b = none) (w0 : W 0 m H) :
      Seg (model X.prog X.w) A (fun n s₀ r s₁ => r = .ok .next ∧ RP X σw Qe n s₀ s₁) (YP X Yv) (m + 1) s₀ (.compStart (gexp elt tg iter ifs scope pos) 0 (.ref it) .none X.env)
        ((model X.prog X.w).den (.compStart (gexp elt tg iter ifs scope pos) 0 (.ref it) .none X.env)) [] s := by
  have loop := gen_loop hc hco hxe hex hov hw T pg pt pe W hpn turn m (m + 1) 0 s₀ s H (Nat.lt_succ_self m) I st nf w0
  show Seg _ A _ _ _ s₀ _ ((compStart (gexp elt tg iter ifs scope pos) 0 (.ref it) .none X.env).onRaise (leaving X.env)) [] s
  unfold compStart
  rw [Sem.onRaise_eq_wrap]
  show Seg _ A _ _ _ s₀ _ ((ask >>= _).wrap _ _ _ _) [] s
  refine seg_bind_wrap (wpAny_askSetting ?_)
  split
  · exact seg_again rfl loop
  · first
      | exact seg_bind_wrap (wpAny_rule (seg_bind_wrap (wpAny_standAt (seg_bind_wrap (T.self _ 0 s _ _ st (seg_again rfl loop))))))
      | (refine seg_bind_wrap (wpAny_rule ?_); show Seg _ A _ _ _ s₀ _ ((standAt iter.pos >>= _).wrap _ _ _ _) [] s; exact seg_bind_wrap (wpAny_standAt (seg_bind_wrap (T.self _ 0 s _ _ st (seg_again rfl loop)))))
end
end TlG
set_option Elab.async false
set_option linter.all false
set_option maxRecDepth 100000
set_option maxHeartbeats 4000000
namespace TlG
open PySem PySem.Spec PyProof.Rows L2 GxR

/-- the context of a generator expression's frame -/
abbrev gx (X : Cx) (A' : Around) (s : Shared) (H : Hp) (cenv : Env) (fp : List Addr) (pn : List (Addr × Obj)) : Cx :=
  { X with A := A', s_0 := s, H_0 := H, env := cenv, outer := X.stack, stack := cenv :: X.stack, ex := fp, fn := fun _ => false, calm := true, pn := pn, xe := fun _ _ => False }
abbrev gxEnv (X : Cx) (scope : Scope) (C : Addr) (code : Value) : Env := genEnv scope (cloFrom X.env.cells scope.names []) C code builtinsNs X.env
structure GxOk (scope : Scope) : Prop where
  co : scope.isCoroutine = false
  cell : ∀ y ∈ scope.names, y.2 ≠ .cell
  dot : scope.names.lookup (".0" : Str) = some NameKind.local
section
variable {X : Cx} {pins : List (Addr × Obj)} {σ : L2.St} {H : Hp} {s : Shared}
theorem gx_start {A' : Around} {scope : Scope} {own : List (Str × Nat)} {fp : List Addr} {code : Value} {a : Addr} {ao : Obj} {m0 : Str → Option Value} {s' : Shared}
    (I : Inv X pins σ H s) (ok : BlkOk X.N X.env.scope scope own) (hN : X.N.Nodup) (G : GxOk scope) (hfp : ∀ b ∈ fp, FpOk X pins H b ∧ b < s.heap.objs.size)
    (hA : A'.handled = none) (hfr : A'.frames = some (gxEnv X scope s.heap.objs.size code :: X.stack))
    (hos : s'.os = s.os) (hb : AllBare s'.gens) (hn : s'.heap.Ns s.heap.objs.size m0) (kp : ∀ b o, s.heap.get? b = some o → s'.heap.get? b = some o) (ha : s'.heap.get? a = some ao) (han : s.heap.objs.size < a) (had : ∀ v, ao.data ≠ .cell v) :
    Inv (gx X A' s H (gxEnv X scope s.heap.objs.size code) fp [(a, ao)]) [] (wipe σ (own.map (·.2))) H s' := by
  have hfree : ∀ y ∈ scope.names, y.2 = .free → ∃ c, X.env.cells.lookup y.1 = some c := fun y hy e => by
    rcases ok.free y hy e with k | k
    · exact I.ok.has _ (.inl k)
    · exact I.ok.has _ (.inr k)
  generalize hcenv : gxEnv X scope s.heap.objs.size code = cenv at hfr ⊢
  have hL : cenv.locals = s.heap.objs.size := by rw [← hcenv]; rfl
  have hcl : cenv.cells = cloFrom X.env.cells scope.names [] := by rw [← hcenv]; rfl
  have hsc : cenv.scope = scope := by rw [← hcenv]; rfl
  have cm : ∀ {y c}, (y, c) ∈ cloFrom X.env.cells scope.names [] → X.env.cells.lookup y = some c ∧ c < s.heap.objs.size := fun {y c} hm => by
    rcases cloFrom_mem hm with hm | ⟨h1, rfl⟩
    · cases hm
    · obtain ⟨c, hc⟩ := hfree _ h1 rfl
      rw [hc]
      obtain ⟨w, z⟩ := I.cell _ _ hc
      exact ⟨rfl, z.lt⟩
  have mem : ∀ {y c}, cenv.cells.lookup y = some c → X.env.cells.lookup y = some c ∧ c < s.heap.objs.size := fun {y c} e => by
    rw [hcl] at e
    exact cm (PySem.mem_of_lookup e)
  have look : ∀ {y}, scope.names.lookup y = some .free → ∃ c, cenv.cells.lookup y = some c ∧ X.env.cells.lookup y = some c := fun {y} hl => by
    have hy : (y, NameKind.free) ∈ scope.names := PySem.mem_of_lookup hl
    obtain ⟨c', e'⟩ := mem_lookup (cloFrom_has (cells := X.env.cells) (acc := []) hy)
    rw [← hcl] at e'
    exact ⟨c', e', (mem e').1⟩
  have okB : (gx X A' s H cenv fp [(a, ao)]).Ok := by
    refine ⟨I.ok.mod, by show cenv.scope.kind = _; rw [hsc]; exact ok.kind, by show cenv.globals = _; rw [← hcenv]; exact I.ok.glob, by show cenv.builtins = _; rw [← hcenv]; rfl, by show s.heap.objs.size ≤ cenv.locals; rw [hL]; exact Nat.le_refl _,
      fun y z c e1 e2 => ?_, fun y hy => ?_, fun y c z e => Bool.noConfusion z, fun _ => hA, hfr, .inr ⟨rfl, ?_⟩, fun b hb => ⟨?_, fun y c e z => ?_⟩, I.bs, Nat.le_trans I.ok.bsz I.sz, fun b o e hb => ?_, fun b hb z => ?_, I.stack, I.stkFree⟩
    · have e1 : cenv.cells.lookup y = some c := e1
      have e2 : cenv.cells.lookup z = some c := e2
      exact I.ok.inj y z c (mem e1).1 (mem e2).1
    · show ∃ c, cenv.cells.lookup y = some c
      have key : ∀ k, cenv.kindOf y = some k → (k = .cell ∨ k = .free) → ∃ c, cenv.cells.lookup y = some c := fun k hk hk' => by
        unfold Env.kindOf at hk
        rw [hsc] at hk
        rcases hk' with rfl | rfl
        · exact absurd rfl (G.cell _ (PySem.mem_of_lookup hk))
        · obtain ⟨c, h1, _⟩ := look hk
          exact ⟨c, h1⟩
      rcases hy with hy | hy
      · exact key _ hy (.inl rfl)
      · exact key _ hy (.inr rfl)
    · show cenv.frame = some cenv.locals
      rw [← hcenv]; rfl
    · show b ≠ cenv.locals
      rw [hL]; exact Nat.ne_of_lt (hfp b hb).2
    · have e : cenv.cells.lookup y = some c := e
      exact (hfp b hb).1.2.2.2.2.1 y c (mem e).1 z
    · rcases (hfp b hb).1.2.2.2.1 with z | z
      · exact I.ok.noex b o e z
      · exact absurd (Nat.lt_of_lt_of_le (Heap.lt_size e) (Nat.le_trans I.ok.bsz z)) (Nat.lt_irrefl _)
    · rcases List.mem_cons.mp (I.stkSub b z) with z | z
      · exact (hfp b hb).1.2.1 z
      · exact (hfp b hb).1.2.2.1 z
  refine ⟨okB, hos, hb, Un.kept kp, ⟨m0, ?_, fun i y av e1 e2 e3 => ?_⟩, fun y c e => ?_, ?_, fun y c e => ?_, fun p hp => ?_, I.hok.kept kp, by rw [wipe_length]; exact I.len⟩
  · show Heap.Ns _ cenv.locals _
    rw [hL]
    exact hn
  · obtain ⟨e2, hne⟩ := wipe_some e2
    have hfr : scope.names.lookup y = some .free ∧ cenv.kindOf y = some .free := by
      have key : ∀ k, scope.names.lookup y = some k → k = .local ∨ k = .cell ∨ k = .free → scope.names.lookup y = some .free := fun k hk hk' => by
        have no : ¬ (k = .local ∨ k = .cell) := fun hh => by
          rcases ok.own _ (PySem.mem_of_lookup hk) hh with e' | e'
          · obtain ⟨p, hp, hpy⟩ := List.mem_map.mp e'
            have e3 := ok.ix p hp
            have : p.1 = y := hpy
            rw [this] at e3
            exact hne (List.mem_map.mpr ⟨p, hp, nodup_ix hN e3 e1⟩)
          · exact e' (List.mem_of_getElem? e1)
        rcases hk' with rfl | rfl | rfl
        · exact absurd (.inl rfl) no
        · exact absurd (.inr rfl) no
        · exact hk
      have e3 : Vis cenv.scope y := e3
      rw [hsc] at e3
      have z : scope.names.lookup y = some .free := by
        rcases e3 with e3 | e3 | e3
        · exact key _ e3 (.inl rfl)
        · exact key _ e3 (.inr (.inl rfl))
        · exact key _ e3 (.inr (.inr rfl))
      exact ⟨z, by unfold Env.kindOf; rw [hsc]; exact z⟩
    obtain ⟨m, hn, hl⟩ := I.loc
    have hvis : Vis X.env.scope y := (ok.free _ (PySem.mem_of_lookup hfr.1) rfl).elim (fun k => .inr (.inl k)) (fun k => .inr (.inr k))
    obtain ⟨w, r, q⟩ := hl i y av e1 e2 hvis
    refine ⟨w, r, .inr ⟨.inr hfr.2, ?_⟩⟩
    obtain ⟨c, h1, h2⟩ := look hfr.1
    rcases q with ⟨k, _⟩ | ⟨_, c', e', z⟩
    · have k : X.env.scope.names.lookup y = some .local := k
      rcases ok.free _ (PySem.mem_of_lookup hfr.1) rfl with k' | k' <;> rw [show X.env.scope.names.lookup y = _ from k'] at k <;> cases k
    · rw [h2] at e'; cases e'
      exact ⟨c, h1, z.keeps kp⟩
  · have e : cenv.cells.lookup y = some c := e
    obtain ⟨w, z⟩ := I.cell y c (mem e).1
    exact ⟨w, z.keeps kp⟩
  · show H cenv.locals = none
    rw [hL]; exact I.hok.fresh (Nat.le_refl _)
  · have e : cenv.cells.lookup y = some c := e
    exact I.freeC y c (mem e).1
  · have hp : p ∈ [(a, ao)] := by simpa using hp
    have e : p = (a, ao) := by simpa using hp
    subst e
    refine ⟨ha, I.hok.fresh (Nat.le_of_lt han), by show a ≠ cenv.locals; rw [hL]; exact Nat.ne_of_gt han, fun z => ?_, had⟩
    have z : a ∈ frs X.stack := z
    rcases List.mem_cons.mp (I.stkSub a z) with z | z
    · exact absurd (Nat.lt_trans (I.lt) han) (by rw [z]; exact Nat.lt_irrefl _)
    · exact I.nofs (Nat.le_of_lt han) z
theorem room_gx {k : Nat} {A : Around} (r : Room (k + 1) A) (env : Env) : Room k (A.in1.in1.deeper env) :=
  ⟨r.hd, by have := r.dp; show A.depth + 1 + 3 * k + 5 < _; omega, by have := r.un; show A.units + 1 + 1 + 3 + 16 * k + 200 < _; omega⟩
theorem over_gx {A : Around} {it acc : Value} {env : Env} {elt : Expr} {gs : List Comprehension} {scope : Scope} {pos : Pos} : A.over (.compLoop (.GeneratorExp elt gs scope pos) 0 it acc env) [] = A.deeper env := by
  first
    | rfl
    | (obtain ⟨hd, d, fr, gs, u⟩ := A; simp [Around.over, Around.deeper, marksOver, frameCount, unitsOf, envsOf, guardsOf, pushEnvs, pushGuards, Code.envs, Code.env?, Code.isFrame, Code.guards, Code.isGuard, Code.weight, Code.frames, Code.isCreation, Code.isCaller, Code.cUnits])
theorem over_gx0 {A : Around} {it acc : Value} {env : Env} {elt : Expr} {gs : List Comprehension} {scope : Scope} {pos : Pos} : A.over (.compStart (.GeneratorExp elt gs scope pos) 0 it acc env) [] = A.deeper env := by
  first
    | rfl
    | (obtain ⟨hd, d, fr, gs, u⟩ := A; simp [Around.over, Around.deeper, marksOver, frameCount, unitsOf, envsOf, guardsOf, pushEnvs, pushGuards, Code.envs, Code.env?, Code.isFrame, Code.guards, Code.isGuard, Code.weight, Code.frames, Code.isCreation, Code.isCaller, Code.cUnits])
end
end TlG
set_option Elab.async false
set_option linter.all false
set_option maxRecDepth 100000
set_option maxHeartbeats 4000000
namespace TlG
open PySem PySem.Spec PyProof.Rows L2 GxR GenW
section
variable {X : Cx} {pins : List (Addr × Obj)} {σ : L2.St} {H : Hp} {s : Shared} {elt tg iter : Expr} {ifs : List Expr} {scope : Scope} {own : List (Str × Nat)} {gpos : Pos} {wi : TI} {g : TG} {tt : TT} {te : TE} {c P : Addr} {k : Nat}
/-- a generator expression that has been made -/
structure Made (X : Cx) (pins : List (Addr × Obj)) (σ : L2.St) (elt tg iter : Expr) (ifs : List Expr) (scope : Scope) (gpos : Pos) (J : It) (it : Addr) (fp : List Addr) (tn : Nat → Heap → Prop) (H2 : Hp) (s0 : Shared) (code : Value) (a : Addr) (n : Nat) (s5 : Shared) : Prop where
  inv : Inv X pins σ H2 s0
  turn : Turn X.prog X.w X.K tg J fp it tn
  fps : ∀ b ∈ fp, FpOk X pins H2 b ∧ b < s0.heap.objs.size
  os : s5.os = s0.os
  bare : AllBare s5.gens
  keep : ∀ b o, s0.heap.get? b = some o → s5.heap.get? b = some o
  at0 : tn 0 s5.heap
  ns : ∃ m0, s5.heap.Ns s0.heap.objs.size m0
  lt : s0.heap.objs.size < a
  obj : ∃ ao, s5.heap.get? a = some ao ∧ (∀ v, ao.data ≠ .cell v) ∧ ∀ h : Heap, h.get? a = some ao → h.IsGen a n
  gen : s5.gens[n]? = some (.fresh (.compStart (gexp elt tg iter ifs scope gpos) 0 (.ref it) .none (gxEnv X scope s0.heap.objs.size code)))
theorem gen_make {Q' : Value → Shared → Prop} {R : It → Hp → Prop} (hr : Room (k + 1) X.A) (TB : TabB X.base X.mg c P) (hcode : X.env.code = .ref c) (hi : PI X tg iter wi) (ok : BlkOk X.N X.env.scope scope own) (G : GxOk scope)
    (hs : ∀ v, genFold iter X.env v = pure v) (I : Inv X pins σ H s) (h : wi σ H fun J H1 => TabG H1 P ∧ ∀ H2, Tabbed P H1 H2 → R J H2)
    (hQ : ∀ J it fp tn H2 s0 code a n s5, R J H2 → Made X pins σ elt tg iter ifs scope gpos J it fp tn H2 s0 code a n s5 → Q' (.ref a) s5) :
    wpAny (model X.prog X.w) X.A (eval (gexp elt tg iter ifs scope gpos) X.env) Q' X.xe s := by
  have hfree : ∀ y ∈ scope.names, y.2 = .free → ∃ c, X.env.cells.lookup y.1 = some c := fun y hy e => by
    rcases ok.free y hy e with k | k
    · exact I.ok.has _ (.inl k)
    · exact I.ok.has _ (.inr k)
  refine wpAny_GeneratorExp_make G.co (closure_ok hfree) G.cell G.dot ok.kind (by have := hr.dp; omega) ?_ hs
  refine thn (hi.run pins s σ H _ I h) fun xv s1 hx => thn hx fun itv s2 h2 => ?_
  obtain ⟨it, fp, tn, J, H1, rfl, I1, T, st2, f2, ⟨ps, hP, ht⟩, hR⟩ := h2
  have hPs : s2.heap.get? P = some { cls := .none, data := .fields ps } := I1.hok P _ hP
  have cd : PySem.W.CodeHd s2.heap c P := TB.code.keeps fun b u e => I1.bk b u e
  have nfP : ∀ b ∈ fp, b ≠ P := fun b hb e => by
    have z := (f2 b hb).1
    rw [e, hP] at z
    cases z
  refine ⟨I1.nolimit, ?_⟩
  have cont : ∀ (code : Value) (h3 : Heap) (tk : Nat) (ps' : Array Value), Heap.ExtBut P s2.heap h3 → h3.get? P = some { cls := .none, data := .fields ps' } → (∃ more, ps' = ps ++ more) → TriplesOk ps'.toList →
      wpAny (model X.prog X.w) X.A (builtinsFor X.env.globals X.env.builtins) (fun bi s4 => ∀ h', h'.Ns s4.heap.objs.size (fun y => if y = ".0" then some (Value.ref it) else none) → Heap.SameBut s4.heap.objs.size (s4.heap.push { cls := .type "frame", data := .dict #[] }) h' →
          Q' (.ref h'.objs.size) { s4 with
            gens := s4.gens.push (.fresh (.compStart (gexp elt tg iter ifs scope gpos) 0 (.ref it) .none (genEnv scope (cloFrom X.env.cells scope.names []) s4.heap.objs.size code bi X.env))),
            toks := s4.toks + 1 + 1 + 1,
            heap := h'.push { cls := .type "generator", data := .fields #[.int s4.gens.size 0, .str "<genexpr>" (s4.toks + 1), .str (X.env.qual ++ "<genexpr>") (s4.toks + 1 + 1)] } }) X.xe { s2 with heap := h3, toks := tk } := by
    intro code h3 tk ps' hx hP3 hmore ht3
    obtain ⟨bm, ob, e1, e2, e3, e4, e5, e6, e7, e8⟩ := TB.bm
    refine wpAny_builtinsFor (m := X.mg) (by rw [I1.ok.glob]; exact (I1.mod.glob.keeps I1.bk).extBut hx TB.gP) e1 e2 (hx _ _ e4 (I1.bk _ _ e5)) e6 e7 e8 ?_
    intro h' hn' hs'
    obtain ⟨more, em⟩ := hmore
    have keep3 : ∀ b u, b ≠ P → s2.heap.get? b = some u → h3.get? b = some u := fun b u hb e => hx b u hb e
    have J3 : Inv X pins σ (upd H1 P (.tbl (ps ++ more))) { s2 with heap := h3, gens := s2.gens, drawn := s2.drawn, toks := tk } := inv_tab (more := more) (t' := tk) (d' := s2.drawn) (g' := s2.gens) I1 hP keep3 (by rw [← em]; exact hP3) I1.bare
    have keep' : ∀ b o, h3.get? b = some o → h'.get? b = some o := fun b o e => hs'.extBut b o (Nat.ne_of_lt (Heap.lt_size e)) (Heap.get?_push_of_some _ e)
    have hsz : h'.objs.size = h3.objs.size + 1 := by
      have z := hs'.1
      rw [Heap.size_push] at z
      exact z
    refine hQ J it fp tn (upd H1 P (.tbl (ps ++ more))) { s2 with heap := h3, toks := tk } code _ s2.gens.size _ (hR _ ⟨⟨ps ++ more, upd_same, by rw [← em]; exact ht3⟩, fun b hb => upd_ne hb⟩) ?_
    have fsz : ∀ b ∈ fp, b < h3.objs.size := fun b hb => by
      obtain ⟨o, e, _⟩ := T.obj _ _ st2 b hb
      exact Heap.lt_size (keep3 b o (nfP b hb) e)
    refine ⟨J3, T, fun b hb => ⟨⟨by rw [upd_ne (nfP b hb)]; exact (f2 b hb).1, (f2 b hb).2⟩, fsz b hb⟩, rfl, I1.bare.push rfl, fun b o e => Heap.get?_push_of_some _ (keep' b o e), ?_, ⟨_, hn'.push _⟩, ?_, ⟨_, Heap.get?_push_size _ rfl, (fun v z => by cases z), fun h e => ⟨_, _, _, e, rfl, rfl, rfl⟩⟩, Array.getElem?_push_size ..⟩
    · exact T.keep _ _ _ st2 fun b hb o e => Heap.get?_push_of_some _ (keep' b o (keep3 b o (nfP b hb) e))
    · show h3.objs.size < h'.objs.size
      omega
  cases hf : codeAmong gpos ps.toList with
  | none =>
    refine wpAny_genexprCodeX hcode (cd.code hPs ht) (cd.tab hPs) hf fun c' h' tk hx hge hlt hco' _ htab' _ => ?_
    obtain ⟨o1, vs, f1, tf, fl, tg, inF, tx, tt, op, _, _, _, _, _, _, _, _, _, htr, _⟩ := hco'
    exact cont _ h' tk _ hx htab'.2 ⟨_, rfl⟩ htr
  | some cv =>
    refine wpAny_genexprCode_hit hcode (cd.code hPs ht) hf ?_
    exact cont cv s2.heap s2.toks ps (Heap.ExtBut.refl _ _) hPs ⟨#[], by simp⟩ ht
/-- all(elt for tg in iter if ..) -/
def tGen (P : Addr) (wi : TI) (g : TG) (tt : TT) (te : TE) (vs : List Nat) (Yv : VK → V → Hp → Prop → Prop) (ve : V) : TE := fun σ H Q => wi σ H fun J H1 => TabG H1 P ∧ ∀ H2, Tabbed P H1 H2 → ∃ W : Nat → Nat → Hp → Prop, (∃ m, W 0 m H2) ∧ ∀ i m H, W i m H →
  (J.stop i H ∧ Q ve H) ∨ (J.go i H ∧ ∃ Nx : Hp → Prop, (∀ H', Nx H' → ∃ m', m' < m ∧ W (i + 1) m' H') ∧ ∀ x H', J.yld i H x H' → g x (wipe σ vs) H' fun σ2 H3 => wipe σ2 vs = wipe σ vs ∧ tt σ2 H3 fun b H4 =>
    if b = true then te σ2 H4 fun y H5 => Yv Q y H5 (Nx H5) else Nx H4)
def yAll : VK → V → Hp → Prop → Prop := fun Q y H nx => ∃ c, y = .bl c ∧ if c = true then nx else Q (.bl false) H
def yAny : VK → V → Hp → Prop → Prop := fun Q y H nx => ∃ c, y = .bl c ∧ if c = true then Q (.bl true) H else nx
theorem wipe_wipe (σ : L2.St) : ∀ vs : List Nat, wipe (wipe σ vs) vs = wipe σ vs := by
  intro vs
  refine List.ext_getElem? fun i => ?_
  have hl : ∀ (τ : L2.St) (us : List Nat), (wipe τ us)[i]? = if i ∈ us ∧ i < τ.length then some none else τ[i]? := by
    intro τ us
    induction us with
    | nil => simp [wipe]
    | cons u us ih =>
      unfold wipe
      by_cases hu : u = i
      · subst hu
        by_cases hl : u < τ.length
        · rw [List.getElem?_set_self (by rw [wipe_length]; exact hl)]
          simp [hl]
        · rw [List.getElem?_eq_none (by rw [List.length_set, wipe_length]; omega)]
          simp [hl]
      · rw [List.getElem?_set_ne hu, ih]
        have : i ≠ u := fun z => hu z.symm
        simp [this]
  rw [hl, hl, wipe_length]
  split <;> simp_all
/-- what the consumer's loop bears -/
def GW (X : Cx) (Ag : Around) (σw : L2.St) (Yv : V → Hp → Prop → Prop) (Qe : Hp → Prop) (a : Addr) (g : Nat) (n : Nat) (s : Shared) : Prop :=
  s.heap.IsGen a g ∧ s.heap.NoLimit ∧ AllBare s.gens ∧ ∃ gs, s.gens[g]? = some gs ∧ gs.Goes (model X.prog X.w) Ag (fun n s₀ r s₁ => r = .ok .next ∧ RP X σw Qe n s₀ s₁) (YP X Yv) n (.send .none) (s.setGen g .running)
/-- one step of the consumer: what comes (or None), and what is known then -/
theorem gw_next {Xg : Cx} {A : Around} {σw : L2.St} {Yv : V → Hp → Prop → Prop} {Qe : Hp → Prop} {a : Addr} {g n : Nat} {s : Shared} {Q : Option Value → Shared → Prop} {E : Value → Shared → Prop} (hh : A.handled = none) (hd : A.depth < recursionLimit)
    (hpn : ∀ (s : Shared) pins σ H, Inv Xg pins σ H s → s.heap.IsGen a g) (h : GW Xg A.in1 σw Yv Qe a g n s)
    (hY : ∀ v s1 s2 y H σ pins nx, RelV y v → Inv Xg pins σ H s1 → Rest s1 s2 → Yv y H nx → (nx → ∃ m, m < n ∧ GW Xg A.in1 σw Yv Qe a g m s2) → Q (some v) s2)
    (hP : ∀ s1 s2 H, Inv Xg [] σw H s1 → Rest s1 s2 → Qe H → Q none s2) : wpAny (model Xg.prog Xg.w) A (pyNext (.ref a)) Q E s := by
  obtain ⟨hg, hl, hb, gs, hgs, hgo⟩ := h
  have hgl : g < s.gens.size := (Array.getElem?_eq_some_iff.mp hgs).1
  refine wpAny_gsz (n := g + 1) hgl (wpAny_pyNext_genexpQ hh hl hd hg hgs hgo (fun v s1 gs' hbare hy => ?_) fun s1 hp h' hk => ?_)
  · intro hsz
    obtain ⟨y, H, σ, pins, nx, rv, I1, hv, kap⟩ := hy
    have r1 : Rest s1 (s1.setGen g gs') := ⟨rfl, allBare_setGen I1.bare hbare, fun _ _ e => e⟩
    refine hY v s1 _ y H σ pins nx rv I1 r1 hv fun hnx => ?_
    have hsz1 : g < s1.gens.size := by
      have q : (s1.setGen g gs').gens.size = s1.gens.size := setGen_size _ _ _
      have hsz' : g + 1 ≤ (s1.setGen g gs').gens.size := hsz
      omega
    have hk := kap hnx ((s1.setGen g gs').setGen g .running) ⟨rfl, allBare_setGen (s := s1.setGen g gs') r1.bare rfl, fun _ _ e => e⟩
    cases n with
    | zero => exact hk.elim
    | succ m =>
      have I2 := inv_rest I1 r1
      exact ⟨m, Nat.lt_succ_self m, hpn _ _ _ _ I2, I2.nolimit, r1.bare, gs', setGen_at hsz1, hk⟩
  · intro _
    obtain ⟨H, I1, qe⟩ := hp
    exact hP s1 _ H I1 ⟨rfl, allBare_setGen I1.bare rfl, hk⟩ qe

/-- the consumer begins: from a generator that has been made -/
theorem gw_begin {J : It} {it : Addr} {fp : List Addr} {tn : Nat → Heap → Prop} {H2 : Hp} {s0 s5 : Shared} {code : Value} {a : Addr} {n : Nat} {Yv : V → Hp → Prop → Prop} {Qe : Hp → Prop} {vs : List Nat} (hr : Room (k + 1) X.A) (hN : X.N.Nodup) (ok : BlkOk X.N X.env.scope scope own) (G : GxOk scope)
    (M : Made X pins σ elt tg iter ifs scope gpos J it fp tn H2 s0 code a n s5)
    (hpg : ∀ A' s H C code fp pn, Room k A' → PG (gx X A' s H (gxEnv X scope C code) fp pn) tg g) (hpt : ∀ A' s H C code fp pn, Room k A' → PTs (gx X A' s H (gxEnv X scope C code) fp pn) ifs tt) (hpe : ∀ A' s H C code fp pn, Room k A' → PE (gx X A' s H (gxEnv X scope C code) fp pn) elt te)
    {W : Nat → Nat → Hp → Prop} {m : Nat} (w0 : W 0 m H2)
    (turn : ∀ i m H, W i m H → (J.stop i H ∧ Qe H) ∨ (J.go i H ∧ ∃ Nx : Hp → Prop, (∀ H', Nx H' → ∃ m', m' < m ∧ W (i + 1) m' H') ∧ ∀ x H', J.yld i H x H' → g x (wipe σ (own.map (·.2))) H' fun σ2 H2 => wipe σ2 (own.map (·.2)) = wipe σ (own.map (·.2)) ∧ tt σ2 H2 fun b H3 =>
      if b = true then te σ2 H3 fun y H4 => Yv y H4 (Nx H4) else Nx H3)) :
    ∃ Xg : Cx, Xg.prog = X.prog ∧ Xg.w = X.w ∧ (∀ (s : Shared) pins σ H, Inv Xg pins σ H s → s.heap.IsGen a n) ∧ (∀ (s : Shared) pins' σ' H', Inv Xg pins' σ' H' s → Inv X pins σ H' s) ∧
      GW Xg X.A.in1.in1 (wipe σ (own.map (·.2))) Yv Qe a n (m + 1) s5 := by
  obtain ⟨ao, hao, nao, iao⟩ := M.obj
  obtain ⟨m0, hns⟩ := M.ns
  have hA : Room k (X.A.in1.in1.deeper (gxEnv X scope s0.heap.objs.size code)) := room_gx hr _
  have I0 := M.inv
  have start : Inv (gx X (X.A.in1.in1.deeper (gxEnv X scope s0.heap.objs.size code)) s0 H2 (gxEnv X scope s0.heap.objs.size code) fp [(a, ao)]) [] (wipe σ (own.map (·.2))) H2 s5 :=
    gx_start I0 ok hN G M.fps hA.hd (Around.frames_deeper (A := X.A.in1.in1) I0.ok.frames) M.os M.bare hns M.keep hao M.lt nao
  generalize hXg : gx X (X.A.in1.in1.deeper (gxEnv X scope s0.heap.objs.size code)) s0 H2 (gxEnv X scope s0.heap.objs.size code) fp [(a, ao)] = Xg at start
  have pg := hpg (X.A.in1.in1.deeper (gxEnv X scope s0.heap.objs.size code)) s0 H2 s0.heap.objs.size code fp [(a, ao)] hA
  have pt := hpt (X.A.in1.in1.deeper (gxEnv X scope s0.heap.objs.size code)) s0 H2 s0.heap.objs.size code fp [(a, ao)] hA
  have pe := hpe (X.A.in1.in1.deeper (gxEnv X scope s0.heap.objs.size code)) s0 H2 s0.heap.objs.size code fp [(a, ao)] hA
  rw [hXg] at pg pt pe
  have isg : ∀ (s : Shared) pins σ H, Inv Xg pins σ H s → s.heap.IsGen a n := fun s pins σ H I => iao _ (by
    have z := I.pin (a, ao) (List.mem_append_left _ (by rw [← hXg]; exact List.mem_singleton.mpr rfl))
    exact z.1)
  refine ⟨Xg, by rw [← hXg], by rw [← hXg], isg, fun s pins' σ' H' I => ?_, isg _ _ _ _ start, start.nolimit, M.bare, _, M.gen, rfl, ?_⟩
  · subst hXg
    exact I0.call' (ch := fp) I.os I.base I.hok I.bare fun b hb => ⟨(M.fps b hb).1.2.2.2.1, (M.fps b hb).1.2.1, (M.fps b hb).1.2.2.2.2.1, (M.fps b hb).1.2.2.2.2.2⟩
  · have h5 : Inv Xg [] (wipe σ (own.map (·.2))) H2 (s5.setGen n .running) := inv_rest start ⟨rfl, allBare_setGen M.bare rfl, fun _ _ e => e⟩
    subst hXg
    exact gen_start (A := X.A.in1.in1) rfl (show scope.isCoroutine = false from G.co) (fun _ _ z => z) rfl over_gx over_gx0 (wipe_wipe _ _) M.turn pg pt pe W (fun p hp hb => by
      have e : p = (a, ao) := List.mem_singleton.mp hp
      subst e
      exact absurd (Nat.lt_trans (M.fps a hb).2 M.lt) (Nat.lt_irrefl _)) turn m _ _ H2 h5 M.at0 (fun b hb => (M.fps b hb).1.1) w0
theorem pe_allG {p pos : Pos} (hr : Room (k + 1) X.A) (hN : X.N.Nodup) (hg : Gl X "all") (hm : X.mg "all" = none) (TB : TabB X.base X.mg c P) (hcode : X.env.code = .ref c) (hi : PI X tg iter wi) (ok : BlkOk X.N X.env.scope scope own) (G : GxOk scope)
    (hpg : ∀ A' s H C code fp pn, Room k A' → PG (gx X A' s H (gxEnv X scope C code) fp pn) tg g) (hpt : ∀ A' s H C code fp pn, Room k A' → PTs (gx X A' s H (gxEnv X scope C code) fp pn) ifs tt) (hpe : ∀ A' s H C code fp pn, Room k A' → PE (gx X A' s H (gxEnv X scope C code) fp pn) elt te)
    (hs : ∀ v, genFold iter X.env v = pure v) (he : starEach [gexp elt tg iter ifs scope gpos] X.env = (false, eval (gexp elt tg iter ifs scope gpos) X.env) :: starEach [] X.env := by rfl) :
    PE X (.Call (.Name "all" p) [gexp elt tg iter ifs scope gpos] [] pos) (tGen P wi g tt te (own.map (·.2)) yAll (.bl true)) := by
  refine ⟨fun pins s σ H Q I h => ?_⟩
  refine wpAny_Call_Name_kw (ld_blt I hg hm boot_all ?_)
  refine PyProof.Rows.callWith_builtin1 ?_ he (by rfl)
  rw [he]
  show wpAny _ _ (spliced ((false, eval (gexp elt tg iter ifs scope gpos) X.env) :: backTo pos (starEach [] X.env))) _ _ s
  refine Calls.spliced_cons (gen_make hr TB hcode hi ok G hs I h fun J it fp tn H2 s0 code a n s5 hR M => ?_)
  obtain ⟨W, ⟨m, w0⟩, turn⟩ := hR
  obtain ⟨Xg, e1, e2, isg, back, gw⟩ := gw_begin (Yv := yAll Q) (Qe := fun H => Q (.bl true) H) (vs := own.map (·.2)) hr hN ok G M hpg hpt hpe w0 turn
  refine Calls.spliced_nil ?_
  refine call_function_tree F.kind_all F.plain_all F.entry_all (F.args_all1 _) ?_
  unfold Builtin.«all»
  refine wpAny_bind (m := oneArg "all" _) (wpAny_pure ?_)
  refine wpAny_bind (wpAny_pyIter_gen gw.1 ?_)
  refine wpAny_pure ⟨plainId_quiet F.plain_all_loop _, all_loop (GW Xg X.A.in1.in1 (wipe σ (own.map (·.2))) (yAll Q) (fun H => Q (.bl true) H) a n) (fun j s6 h6 => ?_) (m + 1) s5 gw⟩
  rw [← e1, ← e2]
  refine gw_next (A := X.A.in1) hr.hd (by have := hr.dp; show X.A.depth < _; omega) isg h6 (fun v s1 s2 y H σ1 pins1 nx rv I1 r1 hv go => ?_) fun s1 s2 H I1 r1 qe => ?_
  · obtain ⟨b, rfl, hb⟩ := hv
    obtain rfl : v = Value.bool b := rv
    refine ⟨b, rfl, ?_⟩
    cases b with
    | true =>
      simp only [if_true] at hb ⊢
      exact go hb
    | false =>
      simp only [Bool.false_eq_true, if_false] at hb ⊢
      exact ⟨.bl false, H, inv_rest (back _ _ _ _ I1) r1, rfl, hb⟩
  · exact ⟨.bl true, H, inv_rest (back _ _ _ _ I1) r1, rfl, qe⟩
theorem pe_anyG {p pos : Pos} (hr : Room (k + 1) X.A) (hN : X.N.Nodup) (hg : Gl X "any") (hm : X.mg "any" = none) (TB : TabB X.base X.mg c P) (hcode : X.env.code = .ref c) (hi : PI X tg iter wi) (ok : BlkOk X.N X.env.scope scope own) (G : GxOk scope)
    (hpg : ∀ A' s H C code fp pn, Room k A' → PG (gx X A' s H (gxEnv X scope C code) fp pn) tg g) (hpt : ∀ A' s H C code fp pn, Room k A' → PTs (gx X A' s H (gxEnv X scope C code) fp pn) ifs tt) (hpe : ∀ A' s H C code fp pn, Room k A' → PE (gx X A' s H (gxEnv X scope C code) fp pn) elt te)
    (hs : ∀ v, genFold iter X.env v = pure v) (he : starEach [gexp elt tg iter ifs scope gpos] X.env = (false, eval (gexp elt tg iter ifs scope gpos) X.env) :: starEach [] X.env := by rfl) :
    PE X (.Call (.Name "any" p) [gexp elt tg iter ifs scope gpos] [] pos) (tGen P wi g tt te (own.map (·.2)) yAny (.bl false)) := by
  refine ⟨fun pins s σ H Q I h => ?_⟩
  refine wpAny_Call_Name_kw (ld_blt I hg hm boot_any ?_)
  refine PyProof.Rows.callWith_builtin1 ?_ he (by rfl)
  rw [he]
  show wpAny _ _ (spliced ((false, eval (gexp elt tg iter ifs scope gpos) X.env) :: backTo pos (starEach [] X.env))) _ _ s
  refine Calls.spliced_cons (gen_make hr TB hcode hi ok G hs I h fun J it fp tn H2 s0 code a n s5 hR M => ?_)
  obtain ⟨W, ⟨m, w0⟩, turn⟩ := hR
  obtain ⟨Xg, e1, e2, isg, back, gw⟩ := gw_begin (Yv := yAny Q) (Qe := fun H => Q (.bl false) H) (vs := own.map (·.2)) hr hN ok G M hpg hpt hpe w0 turn
  refine Calls.spliced_nil ?_
  refine call_function_tree F.kind_any F.plain_any F.entry_any (F.args_any1 _) ?_
  unfold Builtin.«any»
  refine wpAny_bind (m := oneArg "any" _) (wpAny_pure ?_)
  refine wpAny_bind (wpAny_pyIter_gen gw.1 ?_)
  refine wpAny_pure ⟨plainId_quiet F.plain_any_loop _, any_loop (GW Xg X.A.in1.in1 (wipe σ (own.map (·.2))) (yAny Q) (fun H => Q (.bl false) H) a n) (fun j s6 h6 => ?_) (m + 1) s5 gw⟩
  rw [← e1, ← e2]
  refine gw_next (A := X.A.in1) hr.hd (by have := hr.dp; show X.A.depth < _; omega) isg h6 (fun v s1 s2 y H σ1 pins1 nx rv I1 r1 hv go => ?_) fun s1 s2 H I1 r1 qe => ?_
  · obtain ⟨b, rfl, hb⟩ := hv
    obtain rfl : v = Value.bool b := rv
    refine ⟨b, rfl, ?_⟩
    cases b with
    | false =>
      simp only [Bool.false_eq_true, if_false, if_true] at hb ⊢
      exact go hb
    | true =>
      simp only [Bool.true_eq_false, if_false, if_true] at hb ⊢
      exact ⟨.bl true, H, inv_rest (back _ _ _ _ I1) r1, rfl, hb⟩
  · exact ⟨.bl false, H, inv_rest (back _ _ _ _ I1) r1, rfl, qe⟩
end
end TlG
set_option Elab.async false
set_option linter.all false
set_option maxRecDepth 100000
set_option maxHeartbeats 4000000
namespace TlD
open PySem PySem.Spec PyProof.Rows L2 GxR

abbrev D := PyData
/-- what a name holds: plain data, or a list that the def changes (its place) -/
inductive RV where
  | d (x : D)
  | own (a : Addr)
  | seq (ds : List D)
  | rows (qs : List Addr)
abbrev Rho := List (Option RV)
/-- the lists that may be changed, as they stand -/
abbrev Th := List (Addr × List D)
/-- an exception: its class; with fields -/
inductive XD where
  | plain (C : Addr)
  | fld (C : Addr) (fs : List (Str × D))
abbrev ExW := XD → Rho → Th → Prop
abbrev RK := RV → Th → Prop
abbrev DTE := ExW → Rho → Th → RK → Prop
abbrev DTT := ExW → Rho → Th → (Bool → Th → Prop) → Prop
abbrev DTA := ExW → Rho → Th → (List RV → Th → Prop) → Prop
structure DEnds where
  nx : Rho → Th → Prop
  rt : RK
  ex : ExW
  bk : Rho → Th → Prop := fun _ _ => False
  ct : Rho → Th → Prop := fun _ _ => False
abbrev DTS := DEnds → Rho → Th → Prop

/-! ### heaps -/
def Mono (F F' : Hp) : Prop := ∀ a o, F a = some o → (∀ ps, o ≠ .tbl ps) → F' a = some o
theorem Mono.refl (F : Hp) : Mono F F := fun _ _ h _ => h
theorem Mono.trans {F G H : Hp} (a : Mono F G) (b : Mono G H) : Mono F H := fun x o h n => b x o (a x o h n) n
def vis (Zh : Hp) (θ : Th) (H : Hp) : Hp := fun a => if (Zh a).isSome = true ∨ a ∈ θ.map (·.1) then none else H a
section
variable {Zh H H' F F' : Hp} {θ θ' : Th} {a p : Addr} {o u : HO} {K : PySem.W.Frag} {v : V} {d : D}
theorem vis_eq (h1 : Zh a = none) (h2 : a ∉ θ.map (·.1)) : vis Zh θ H a = H a := by
  unfold vis
  rw [if_neg]
  rintro (z | z)
  · rw [h1] at z; cases z
  · exact h2 z
theorem vis_some (h : vis Zh θ H a = some o) : H a = some o ∧ Zh a = none ∧ a ∉ θ.map (·.1) := by
  unfold vis at h
  by_cases c : (Zh a).isSome = true ∨ a ∈ θ.map (·.1)
  · rw [if_pos c] at h; cases h
  · rw [if_neg c] at h
    refine ⟨h, ?_, fun z => c (.inr z)⟩
    cases e : Zh a with
    | none => rfl
    | some x => exact absurd (Or.inl (by rw [e]; rfl)) c
theorem Mono.rd (m : Mono F F') (h : ∀ ps, u ≠ .tbl ps) (r : Rd F a u) : Rd F' a u := by
  rcases r with r | ⟨o, r⟩
  · exact .inl (m _ _ r h)
  · exact .inr ⟨o, m _ _ r (fun _ z => by cases z)⟩
theorem Mono.sqL {xs : List V} (m : Mono F F') (h : SqL K F a xs) : SqL K F' a xs := by
  rcases h with h | h
  · exact .inl (m.rd (fun _ z => by cases z) h)
  · exact .inr h
theorem Mono.sqT {xs : List V} (m : Mono F F') (h : SqT K F a xs) : SqT K F' a xs := by
  rcases h with h | h
  · exact .inl (m.rd (fun _ z => by cases z) h)
  · exact .inr h
end
/-- the data that a key is -/
def keyD : L2.Key → D
  | .inl i => .int i
  | .inr x => .str x
mutual
/-- v is the data d in F: lists, tuples, dicts that are tracked there -/
inductive Dq (K : PySem.W.Frag) (F : Hp) : V → PyData → Prop
  | non : Dq K F .non .none
  | bl (b : Bool) : Dq K F (.bl b) (.bool b)
  | int (i : Int) : Dq K F (.int i) (.int i)
  | str (x : Str) : Dq K F (.str x) (.str x)
  | lst {a : Addr} {xs : List V} {ds : List PyData} : F a = some (.lst xs) → DqAll K F xs ds → Dq K F (.ref a) (.list ds)
  | tup {a : Addr} {xs : List V} {ds : List PyData} : SqT K F a xs → DqAll K F xs ds → Dq K F (.ref a) (.tuple ds)
  | dct {a : Addr} {kvs : List (L2.Key × V)} {ds : List (PyData × PyData)} : F a = some (.dK kvs) → DqKV K F kvs ds → Dq K F (.ref a) (.dict ds)
inductive DqAll (K : PySem.W.Frag) (F : Hp) : List V → List PyData → Prop
  | nil : DqAll K F [] []
  | cons {v : V} {vs : List V} {d : PyData} {ds : List PyData} : Dq K F v d → DqAll K F vs ds → DqAll K F (v :: vs) (d :: ds)
inductive DqKV (K : PySem.W.Frag) (F : Hp) : List (L2.Key × V) → List (PyData × PyData) → Prop
  | nil : DqKV K F [] []
  | cons {k : L2.Key} {v : V} {vs : List (L2.Key × V)} {d : PyData} {ds : List (PyData × PyData)} : Dq K F v d → DqKV K F vs ds → DqKV K F ((k, v) :: vs) ((keyD k, d) :: ds)
end
section
variable {Zh H H' F F' : Hp} {θ θ' : Th} {a p : Addr} {o u : HO} {K : PySem.W.Frag} {v : V} {d : D}
mutual
theorem dp_mono (m : Mono F F') : ∀ (d : PyData) (v : V), Dq K F v d → Dq K F' v d
  | .none, _, h => by cases h; exact .non
  | .bool b, _, h => by cases h; exact .bl b
  | .int i, _, h => by cases h; exact .int i
  | .str x, _, h => by cases h; exact .str x
  | .list ds, _, h => by
    cases h with
    | lst hs ha => exact .lst (m _ _ hs (fun _ z => by cases z)) (dps_mono m ds _ ha)
  | .tuple ds, _, h => by
    cases h with
    | tup hs ha => exact .tup (m.sqT hs) (dps_mono m ds _ ha)
  | .dict ds, _, h => by
    cases h with
    | dct hs ha => exact .dct (m _ _ hs (fun _ z => by cases z)) (dkv_mono m ds _ ha)
theorem dps_mono (m : Mono F F') : ∀ (ds : List PyData) (vs : List V), DqAll K F vs ds → DqAll K F' vs ds
  | [], _, h => by cases h; exact .nil
  | d :: ds, _, h => by
    cases h with
    | cons h1 h2 => exact .cons (dp_mono m d _ h1) (dps_mono m ds _ h2)
theorem dkv_mono (m : Mono F F') : ∀ (ds : List (PyData × PyData)) (vs : List (L2.Key × V)), DqKV K F vs ds → DqKV K F' vs ds
  | [], _, h => by cases h; exact .nil
  | (k, d) :: ds, _, h => by
    cases h with
    | cons h1 h2 => exact .cons (dp_mono m d _ h1) (dkv_mono m ds _ h2)
end
mutual
/-- data without dicts, as the layer's == reads them -/
def flatD : PyData → Bool
  | .list ds => flatDs ds
  | .tuple ds => flatDs ds
  | .dict _ => false
  | _ => true
def flatDs : List PyData → Bool
  | [] => true
  | d :: ds => flatD d && flatDs ds
end
mutual
theorem dq_dp : ∀ (d : PyData) (v : V), flatD d = true → Dq K F v d → Dp K F v d
  | .none, _, _, h => by cases h; exact .non
  | .bool b, _, _, h => by cases h; exact .bl b
  | .int i, _, _, h => by cases h; exact .int i
  | .str x, _, _, h => by cases h; exact .str x
  | .list ds, _, f, h => by
    cases h with
    | lst hs ha => exact .lst (.inl (.inl hs)) (dqs_dps ds _ f ha)
  | .tuple ds, _, f, h => by
    cases h with
    | tup hs ha => exact .tup hs (dqs_dps ds _ f ha)
  | .dict ds, _, f, h => by cases f
theorem dqs_dps : ∀ (ds : List PyData) (vs : List V), flatDs ds = true → DqAll K F vs ds → DpAll K F vs ds
  | [], _, _, h => by cases h; exact .nil
  | d :: ds, _, f, h => by
    have f' : flatD d = true ∧ flatDs ds = true := by simpa [flatDs] using f
    cases h with
    | cons h1 h2 => exact .cons (dq_dp d _ f'.1 h1) (dqs_dps ds _ f'.2 h2)
end
/-- all of it, tables too -/
def Sub (F F' : Hp) : Prop := ∀ a o, F a = some o → F' a = some o
theorem Sub.mono (s : Sub F F') : Mono F F' := fun a o h _ => s a o h
theorem vis_sub : Sub (vis Zh θ H) H := fun _ _ h => (vis_some h).1
theorem dp_up (h : Dq K (vis Zh θ H) v d) : Dq K H v d := dp_mono vis_sub.mono d v h
theorem dps_up {vs : List V} {ds : List D} (h : DqAll K (vis Zh θ H) vs ds) : DqAll K H vs ds := dps_mono vis_sub.mono ds vs h
theorem sqL_up {xs : List V} (h : SqL K (vis Zh θ H) a xs) : SqL K H a xs := vis_sub.mono.sqL h
theorem sqT_up {xs : List V} (h : SqT K (vis Zh θ H) a xs) : SqT K H a xs := vis_sub.mono.sqT h
end
theorem DqAll.length {K : PySem.W.Frag} {F : Hp} : ∀ {vs : List V} {ds : List D}, DqAll K F vs ds → vs.length = ds.length
  | _, _, .nil => rfl
  | _, _, .cons _ t => congrArg (· + 1) (DqAll.length t)
theorem DqAll.get {K : PySem.W.Frag} {F : Hp} : ∀ {vs : List V} {ds : List D} {i : Nat} {d : D}, DqAll K F vs ds → ds[i]? = some d → ∃ v, vs[i]? = some v ∧ Dq K F v d
  | _, _, _, _, .nil, e => by simp at e
  | _, _, 0, _, .cons r _, e => by simp at e; subst e; exact ⟨_, rfl, r⟩
  | _, _, i + 1, _, .cons _ t, e => by
    obtain ⟨v, h1, h2⟩ := DqAll.get (i := i) t (by simpa using e)
    exact ⟨v, by simpa using h1, h2⟩
theorem DqAll.append {K : PySem.W.Frag} {F : Hp} : ∀ {vs ws : List V} {ds es : List D}, DqAll K F vs ds → DqAll K F ws es → DqAll K F (vs ++ ws) (ds ++ es)
  | _, _, _, _, .nil, s => s
  | _, _, _, _, .cons r t, s => .cons r (DqAll.append t s)
theorem DqAll.take {K : PySem.W.Frag} {F : Hp} : ∀ {vs : List V} {ds : List D} (n : Nat), DqAll K F vs ds → DqAll K F (vs.take n) (ds.take n)
  | _, _, 0, _ => .nil
  | _, _, _ + 1, .nil => .nil
  | _, _, n + 1, .cons r t => .cons r (DqAll.take n t)
theorem DqAll.drop {K : PySem.W.Frag} {F : Hp} : ∀ {vs : List V} {ds : List D} (n : Nat), DqAll K F vs ds → DqAll K F (vs.drop n) (ds.drop n)
  | _, _, 0, r => r
  | _, _, _ + 1, .nil => .nil
  | _, _, n + 1, .cons _ t => DqAll.drop n t
theorem DqAll.set {K : PySem.W.Frag} {F : Hp} {v : V} {d : D} (r : Dq K F v d) : ∀ {vs : List V} {ds : List D} (i : Nat), DqAll K F vs ds → DqAll K F (vs.set i v) (ds.set i d)
  | _, _, _, .nil => .nil
  | _, _, 0, .cons _ t => .cons r t
  | _, _, i + 1, .cons q t => .cons q (DqAll.set r i t)
theorem DqAll.reverse {K : PySem.W.Frag} {F : Hp} : ∀ {vs : List V} {ds : List D}, DqAll K F vs ds → DqAll K F vs.reverse ds.reverse
  | _, _, .nil => .nil
  | _, _, .cons r t => by
    rw [List.reverse_cons, List.reverse_cons]
    exact DqAll.append (DqAll.reverse t) (.cons r .nil)
theorem DqAll.strs {K : PySem.W.Frag} {F : Hp} : ∀ (xs : List Str), DqAll K F (xs.map V.str) (xs.map PyData.str)
  | [] => .nil
  | x :: xs => .cons (.str x) (DqAll.strs xs)
theorem DqAll.ints {K : PySem.W.Frag} {F : Hp} : ∀ (xs : List Int), DqAll K F (xs.map V.int) (xs.map PyData.int)
  | [] => .nil
  | x :: xs => .cons (.int x) (DqAll.ints xs)

/-- a value and what is known of it -/
def DV (K : PySem.W.Frag) (F : Hp) (v : V) : RV → Prop
  | .d x => Dq K F v x
  | .own a => v = .ref a
  | .seq ds => ∃ a vs, v = .ref a ∧ SqL K F a vs ∧ DqAll K F vs ds
  | .rows qs => ∃ a, v = .ref a ∧ F a = some (.lst (qs.map V.ref))
inductive DVs (K : PySem.W.Frag) (F : Hp) : List V → List RV → Prop
  | nil : DVs K F [] []
  | cons {v : V} {vs : List V} {r : RV} {rs : List RV} : DV K F v r → DVs K F vs rs → DVs K F (v :: vs) (r :: rs)
section
variable {K : PySem.W.Frag} {F F' : Hp}
theorem DV.mono (m : Mono F F') {v : V} : ∀ {r : RV}, DV K F v r → DV K F' v r
  | .d x, h => dp_mono m x v h
  | .own _, h => h
  | .seq ds, ⟨a, vs, e, h1, h2⟩ => ⟨a, vs, e, m.sqL h1, dps_mono m ds vs h2⟩
  | .rows qs, ⟨a, e, h1⟩ => ⟨a, e, m _ _ h1 (fun _ z => by cases z)⟩
theorem DVs.mono (m : Mono F F') : ∀ {vs : List V} {rs : List RV}, DVs K F vs rs → DVs K F' vs rs
  | _, _, .nil => .nil
  | _, _, .cons h t => .cons (h.mono m) (DVs.mono m t)
theorem DVs.length : ∀ {vs : List V} {rs : List RV}, DVs K F vs rs → vs.length = rs.length
  | _, _, .nil => rfl
  | _, _, .cons _ t => congrArg (· + 1) (DVs.length t)
end
/-- what the heap bears: hidden things, what stood at the entry, the tables, the lists that may be changed -/
structure HS (K : PySem.W.Frag) (Ps : List Addr) (Zh F0 H : Hp) (θ : Th) : Prop where
  hid : ∀ a o, Zh a = some o → H a = some o
  old : Mono F0 (vis Zh θ H)
  tab : ∀ P ∈ Ps, TabG H P ∧ Zh P = none
  own : ∀ p ∈ θ, Zh p.1 = none ∧ ∃ vs, H p.1 = some (.lst vs) ∧ DqAll K (vis Zh θ H) vs p.2
  nd : (θ.map (·.1)).Nodup
structure SD (K : PySem.W.Frag) (Ps : List Addr) (Zh F0 : Hp) (σ : L2.St) (H : Hp) (ρ : Rho) (θ : Th) : Prop where
  hs : HS K Ps Zh F0 H θ
  env : ∀ (i : Nat) (r : RV), ρ[i]? = some (some r) → ∃ v, σ[i]? = some (some v) ∧ DV K (vis Zh θ H) v r
  len : σ.length = ρ.length
section
variable {K : PySem.W.Frag} {Ps : List Addr} {Zh F0 H H' : Hp} {σ : L2.St} {ρ : Rho} {θ θ' : Th} {p a : Addr} {o : HO}
theorem HS.noP (h : HS K Ps Zh F0 H θ) (n : H p = none) : Zh p = none ∧ p ∉ θ.map (·.1) ∧ p ∉ Ps := by
  refine ⟨?_, fun z => ?_, fun z => ?_⟩
  · cases e : Zh p with
    | none => rfl
    | some o =>
      have := h.hid _ _ e
      rw [n] at this; cases this
  · obtain ⟨q, hq, rfl⟩ := List.mem_map.mp z
    obtain ⟨_, vs, e, _⟩ := h.own q hq
    rw [n] at e; cases e
  · obtain ⟨⟨ps, e, _⟩, _⟩ := h.tab p z
    rw [n] at e; cases e
theorem vis_upd_sub (n : H p = none) : Sub (vis Zh θ H) (vis Zh θ (upd H p o)) := fun b u e => by
  obtain ⟨h1, h2, h3⟩ := vis_some e
  rw [vis_eq h2 h3, upd_ne (ne_of_none h1 n)]
  exact h1
/-- a new object -/
theorem HS.new (h : HS K Ps Zh F0 H θ) (n : H p = none) : HS K Ps Zh F0 (upd H p o) θ := by
  have m := (vis_upd_sub (Zh := Zh) (θ := θ) (o := o) n).mono
  refine ⟨fun b u e => ?_, h.old.trans m, fun P hP => ?_, fun q hq => ?_, h.nd⟩
  · have := h.hid b u e
    rw [upd_ne (ne_of_none this n)]
    exact this
  · obtain ⟨⟨ps, e, ht⟩, z⟩ := h.tab P hP
    exact ⟨⟨ps, by rw [upd_ne (ne_of_none e n)]; exact e, ht⟩, z⟩
  · obtain ⟨z, vs, e, d⟩ := h.own q hq
    exact ⟨z, vs, by rw [upd_ne (ne_of_none e n)]; exact e, dps_mono m _ _ d⟩
theorem HS.at (h : HS K Ps Zh F0 H θ) (n : H p = none) : vis Zh θ (upd H p o) p = some o := by
  obtain ⟨h1, h2, _⟩ := h.noP n
  rw [vis_eq h1 h2, upd_same]
/-- a new list that may be changed -/
theorem HS.newOwn {vs : List V} {ds : List D} (h : HS K Ps Zh F0 H θ) (n : H p = none) (d : DqAll K (vis Zh θ H) vs ds) : HS K Ps Zh F0 (upd H p (.lst vs)) ((p, ds) :: θ) ∧ Mono (vis Zh θ H) (vis Zh ((p, ds) :: θ) (upd H p (.lst vs))) := by
  obtain ⟨np, nθ, nP⟩ := h.noP n
  have m : Mono (vis Zh θ H) (vis Zh ((p, ds) :: θ) (upd H p (.lst vs))) := fun b u e _ => by
    obtain ⟨h1, h2, h3⟩ := vis_some e
    have hb := ne_of_none h1 n
    rw [vis_eq h2 (by
      intro z
      rcases List.mem_cons.mp z with z | z
      · exact hb z
      · exact h3 z), upd_ne hb]
    exact h1
  refine ⟨⟨fun b u e => ?_, h.old.trans m, fun P hP => ?_, fun q hq => ?_, List.nodup_cons.mpr ⟨nθ, h.nd⟩⟩, m⟩
  · have := h.hid b u e
    rw [upd_ne (ne_of_none this n)]
    exact this
  · obtain ⟨⟨ps, e, ht⟩, z⟩ := h.tab P hP
    exact ⟨⟨ps, by rw [upd_ne (ne_of_none e n)]; exact e, ht⟩, z⟩
  · rcases List.mem_cons.mp hq with rfl | hq
    · exact ⟨np, vs, upd_same, dps_mono m _ _ d⟩
    · obtain ⟨z, vs, e, d⟩ := h.own q hq
      exact ⟨z, vs, by rw [upd_ne (ne_of_none e n)]; exact e, dps_mono m _ _ d⟩
def thSet (θ : Th) (a : Addr) (ds : List D) : Th := θ.map fun p => if p.1 = a then (a, ds) else p
theorem thSet_keys (θ : Th) (a : Addr) (ds : List D) : (thSet θ a ds).map (·.1) = θ.map (·.1) := by
  unfold thSet
  rw [List.map_map]
  refine List.map_congr_left fun p _ => ?_
  show (if p.1 = a then (a, ds) else p).1 = p.1
  split
  · rename_i h; exact h.symm
  · rfl
theorem vis_thSet {ds : List D} : vis Zh (thSet θ a ds) H = vis Zh θ H := by
  funext b
  unfold vis
  rw [thSet_keys]
theorem vis_upd_own (h : a ∈ θ.map (·.1)) : vis Zh θ (upd H a o) = vis Zh θ H := by
  funext b
  unfold vis
  split
  · rfl
  · rename_i c
    exact upd_ne fun z => c (.inr (z ▸ h))
theorem th_mem {ds : List D} : ∀ {θ : Th}, θ.lookup a = some ds → (a, ds) ∈ θ
  | [], h => by cases h
  | (b, es) :: θ, h => by
    rw [List.lookup_cons] at h
    by_cases e : a = b
    · subst e
      simp at h
      subst h
      exact List.mem_cons_self
    · have : (a == b) = false := by simpa using e
      rw [this] at h
      exact List.mem_cons_of_mem _ (th_mem h)
theorem th_key {ds : List D} (h : θ.lookup a = some ds) : a ∈ θ.map (·.1) := List.mem_map.mpr ⟨_, th_mem h, rfl⟩
/-- a list changed -/
theorem HS.setOwn {vs : List V} {ds ds0 : List D} (h : HS K Ps Zh F0 H θ) (l : θ.lookup a = some ds0) (d : DqAll K (vis Zh θ H) vs ds) : HS K Ps Zh F0 (upd H a (.lst vs)) (thSet θ a ds) ∧ vis Zh (thSet θ a ds) (upd H a (.lst vs)) = vis Zh θ H := by
  have ha := th_key l
  have ev : vis Zh (thSet θ a ds) (upd H a (.lst vs)) = vis Zh θ H := by rw [vis_thSet, vis_upd_own ha]
  obtain ⟨za, vs0, ea, _⟩ := h.own _ (th_mem l)
  refine ⟨⟨fun b u e => ?_, by rw [ev]; exact h.old, fun P hP => ?_, fun q hq => ?_, by rw [thSet_keys]; exact h.nd⟩, ev⟩
  · have hb : b ≠ a := fun z => by rw [z, za] at e; cases e
    rw [upd_ne hb]
    exact h.hid b u e
  · obtain ⟨⟨ps, e, ht⟩, z⟩ := h.tab P hP
    have hb : P ≠ a := fun q => by rw [q] at e; have ea : H a = _ := ea; rw [ea] at e; cases e
    exact ⟨⟨ps, by rw [upd_ne hb]; exact e, ht⟩, z⟩
  · rw [ev]
    unfold thSet at hq
    obtain ⟨q0, hq0, e⟩ := List.mem_map.mp hq
    by_cases c : q0.1 = a
    · rw [if_pos c] at e
      subst e
      exact ⟨za, vs, upd_same, d⟩
    · rw [if_neg c] at e
      subst e
      obtain ⟨z, ws, e, dd⟩ := h.own q0 hq0
      exact ⟨z, ws, by rw [upd_ne c]; exact e, dd⟩
def thDel (θ : Th) (a : Addr) : Th := θ.filter fun p => decide (p.1 ≠ a)
theorem thDel_keys : b ∈ (thDel θ a).map (·.1) ↔ b ∈ θ.map (·.1) ∧ b ≠ a := by
  unfold thDel
  constructor
  · intro h
    obtain ⟨q, hq, rfl⟩ := List.mem_map.mp h
    obtain ⟨h1, h2⟩ := List.mem_filter.mp hq
    exact ⟨List.mem_map.mpr ⟨q, h1, rfl⟩, of_decide_eq_true h2⟩
  · rintro ⟨h, h2⟩
    obtain ⟨q, hq, rfl⟩ := List.mem_map.mp h
    exact List.mem_map.mpr ⟨q, List.mem_filter.mpr ⟨hq, decide_eq_true h2⟩, rfl⟩
theorem vis_del : Sub (vis Zh θ H) (vis Zh (thDel θ a) H) := fun b u e => by
  obtain ⟨h1, h2, h3⟩ := vis_some e
  rw [vis_eq h2 (fun z => h3 (thDel_keys.mp z).1)]
  exact h1
/-- a list will be changed no more -/
theorem HS.del (h : HS K Ps Zh F0 H θ) : HS K Ps Zh F0 H (thDel θ a) := by
  have m := (vis_del (Zh := Zh) (θ := θ) (H := H) (a := a)).mono
  refine ⟨h.hid, h.old.trans m, h.tab, fun q hq => ?_, ?_⟩
  · obtain ⟨z, vs, e, d⟩ := h.own q (List.mem_filter.mp hq).1
    exact ⟨z, vs, e, dps_mono m _ _ d⟩
  · exact h.nd.sublist ((List.filter_sublist (l := θ)).map _)
theorem HS.delDq {ds : List D} (h : HS K Ps Zh F0 H θ) (l : θ.lookup a = some ds) : Dq K (vis Zh (thDel θ a) H) (.ref a) (.list ds) := by
  obtain ⟨z, vs, e, d⟩ := h.own _ (th_mem l)
  refine .lst ?_ (dps_mono vis_del.mono _ _ d)
  rw [vis_eq z (fun q => (thDel_keys.mp q).2 rfl)]
  exact e
/-- a table has grown -/
theorem HS.tabbed {P : Addr} (h : HS K Ps Zh F0 H θ) (hP : P ∈ Ps) (t : Tabbed P H H') : HS K Ps Zh F0 H' θ ∧ Mono (vis Zh θ H) (vis Zh θ H') := by
  obtain ⟨⟨ps0, e0, _⟩, z0⟩ := h.tab P hP
  have m : Mono (vis Zh θ H) (vis Zh θ H') := fun b u e n => by
    obtain ⟨h1, h2, h3⟩ := vis_some e
    have hb : b ≠ P := fun z => by rw [z, e0] at h1; cases h1; exact n _ rfl
    rw [vis_eq h2 h3, t.2 b hb]
    exact h1
  refine ⟨⟨fun b u e => ?_, h.old.trans m, fun Q hQ => ?_, fun q hq => ?_, h.nd⟩, m⟩
  · have hb : b ≠ P := fun z => by rw [z, z0] at e; cases e
    rw [t.2 b hb]
    exact h.hid b u e
  · obtain ⟨⟨ps, e, ht⟩, z⟩ := h.tab Q hQ
    by_cases c : Q = P
    · rw [c]; exact ⟨t.1, z0⟩
    · exact ⟨⟨ps, by rw [t.2 Q c]; exact e, ht⟩, z⟩
  · obtain ⟨z, vs, e, d⟩ := h.own q hq
    have hb : q.1 ≠ P := fun y => by rw [y, e0] at e; cases e
    exact ⟨z, vs, by rw [t.2 _ hb]; exact e, dps_mono m _ _ d⟩
theorem SD.to (s : SD K Ps Zh F0 σ H ρ θ) (h : HS K Ps Zh F0 H' θ') (m : Mono (vis Zh θ H) (vis Zh θ' H')) : SD K Ps Zh F0 σ H' ρ θ' :=
  ⟨h, fun i r e => let ⟨v, h1, h2⟩ := s.env i r e; ⟨v, h1, h2.mono m⟩, s.len⟩
theorem SD.set (s : SD K Ps Zh F0 σ H ρ θ) {i : Nat} {v : V} {r : RV} (h : DV K (vis Zh θ H) v r) : SD K Ps Zh F0 (σ.set i (some v)) H (ρ.set i (some r)) θ := by
  refine ⟨s.hs, fun j q e => ?_, by rw [List.length_set, List.length_set]; exact s.len⟩
  by_cases c : i = j
  · subst c
    have hl : i < ρ.length := by
      by_cases hl : i < ρ.length
      · exact hl
      · rw [List.getElem?_eq_none (by rw [List.length_set]; omega)] at e; cases e
    rw [List.getElem?_set_self hl] at e
    cases e
    exact ⟨v, List.getElem?_set_self (by rw [s.len]; exact hl), h⟩
  · rw [List.getElem?_set_ne c] at e
    obtain ⟨w, h1, h2⟩ := s.env j q e
    exact ⟨w, by rw [List.getElem?_set_ne c]; exact h1, h2⟩
end
end TlD
set_option Elab.async false
set_option linter.all false
set_option maxRecDepth 100000
set_option maxHeartbeats 4000000
namespace TlD
open PySem PySem.Spec PyProof.Rows L2 GxR

/-- slots, as functions that compute -/
def nth : Rho → Nat → Option RV
  | [], _ => none
  | r :: _, 0 => r
  | _ :: t, n + 1 => nth t n
def put : Rho → Nat → RV → Rho
  | [], _, _ => []
  | _ :: t, 0, r => some r :: t
  | x :: t, n + 1, r => x :: put t n r
def unset : Rho → Nat → Rho
  | [], _ => []
  | _ :: t, 0 => none :: t
  | x :: t, n + 1 => x :: unset t n
def wipeR (ρ : Rho) : List Nat → Rho
  | [] => ρ
  | v :: vs => unset (wipeR ρ vs) v
theorem nth_get : ∀ {ρ : Rho} {i : Nat} {r : RV}, nth ρ i = some r → ρ[i]? = some (some r)
  | [], _, _, h => by cases h
  | x :: t, 0, r, h => by
    have h : x = some r := h
    rw [h]; rfl
  | x :: t, i + 1, r, h => by
    have := nth_get (ρ := t) (i := i) (r := r) h
    simpa using this
theorem put_set : ∀ (ρ : Rho) (i : Nat) (r : RV), put ρ i r = ρ.set i (some r)
  | [], _, _ => rfl
  | x :: t, 0, r => rfl
  | x :: t, i + 1, r => by
    show x :: put t i r = x :: t.set i (some r)
    rw [put_set t i r]
theorem unset_set : ∀ (ρ : Rho) (i : Nat), unset ρ i = ρ.set i none
  | [], _ => rfl
  | x :: t, 0 => rfl
  | x :: t, i + 1 => by
    show x :: unset t i = x :: t.set i none
    rw [unset_set t i]

structure Cn where
  K : PySem.W.Frag
  Ps : List Addr
  W : WX
/-- an exception is xd -/
def XDn (K : PySem.W.Frag) (F : Hp) (cls : Value) (d : Option Addr) : XD → Prop
  | .plain C => cls = .ref C ∧ d = none
  | .fld C fs => cls = .ref C ∧ ∃ dd vs, d = some dd ∧ F dd = some (.xd vs) ∧ Paired (fun (p : Str × V) (q : Str × D) => p.1 = q.1 ∧ Dq K F p.2 q.2) vs fs
def XL (c : Cn) (Zh F0 : Hp) (Ex : ExW) : Prop := ∀ cls d σ H ρ θ xd, SD c.K c.Ps Zh F0 σ H ρ θ → XDn c.K (vis Zh θ H) cls d xd → Ex xd ρ θ → c.W cls d σ H
/-- what follows an expression -/
def KE (c : Cn) (Zh F0 : Hp) (σ : L2.St) (H : Hp) (ρ : Rho) (θ : Th) (Φ : RK) (Q : VK) : Prop :=
  ∀ v r H' θ', SD c.K c.Ps Zh F0 σ H' ρ θ' → Mono (vis Zh θ H) (vis Zh θ' H') → DV c.K (vis Zh θ' H') v r → Φ r θ' → Q v H'
def SimE (c : Cn) (te : TE) (T : DTE) : Prop := ∀ Zh F0 Ex, XL c Zh F0 Ex → ∀ σ H ρ θ Φ Q, SD c.K c.Ps Zh F0 σ H ρ θ → T Ex ρ θ Φ → KE c Zh F0 σ H ρ θ Φ Q → te σ H Q
def SimT (c : Cn) (tt : TT) (T : DTT) : Prop := ∀ Zh F0 Ex, XL c Zh F0 Ex → ∀ σ H ρ θ (Φ : Bool → Th → Prop) (Q : Bool → Hp → Prop), SD c.K c.Ps Zh F0 σ H ρ θ → T Ex ρ θ Φ →
  (∀ b H' θ', SD c.K c.Ps Zh F0 σ H' ρ θ' → Mono (vis Zh θ H) (vis Zh θ' H') → Φ b θ' → Q b H') → tt σ H Q
def SimA (c : Cn) (ta : TA) (T : DTA) : Prop := ∀ Zh F0 Ex, XL c Zh F0 Ex → ∀ σ H ρ θ (Φ : List RV → Th → Prop) (Q : List V → Hp → Prop), SD c.K c.Ps Zh F0 σ H ρ θ → T Ex ρ θ Φ →
  (∀ vs rs H' θ', SD c.K c.Ps Zh F0 σ H' ρ θ' → Mono (vis Zh θ H) (vis Zh θ' H') → DVs c.K (vis Zh θ' H') vs rs → Φ rs θ' → Q vs H') → ta σ H Q
structure DE (c : Cn) (X : Cx) (e : Expr) (te : TE) (T : DTE) : Prop where
  pe : PE X e te
  sim : SimE c te T
structure DT (c : Cn) (X : Cx) (e : Expr) (te : TT) (T : DTT) : Prop where
  pt : PT X e te
  sim : SimT c te T
structure DW (c : Cn) (X : Cx) (e : Expr) (te : TT) (T : DTT) : Prop where
  pw : PW X e te
  sim : SimT c te T
structure DA (c : Cn) (X : Cx) (es : List Expr) (te : TA) (T : DTA) : Prop where
  pa : PA X es te
  sim : SimA c te T

section
variable {c : Cn} {X : Cx}
/-! ### names, constants -/
def dVar (i : Nat) : DTE := fun _ ρ θ Φ => match nth ρ i with
  | some r => Φ r θ
  | none => False
theorem de_of {e : Expr} {te : TE} {T : DTE} (h : PE X e te) (s : SimE c te T) : DE c X e te T := ⟨h, s⟩
theorem de_pe {e : Expr} {i : Nat} (h : PE X e (tVar i)) : DE c X e (tVar i) (dVar i) := ⟨h, fun Zh F0 Ex _ σ H ρ θ Φ Q S t k => by
  unfold dVar at t
  cases e : nth ρ i with
  | none => rw [e] at t; exact t.elim
  | some r =>
    rw [e] at t
    obtain ⟨v, h1, h2⟩ := S.env i r (nth_get e)
    exact ⟨v, h1, k v r H θ S (Mono.refl _) h2 t⟩⟩
/-- the value of a written constant -/
def conV : D → V
  | .none => .non
  | .bool b => .bl b
  | .int i => .int i
  | .str x => .str x
  | _ => .non
def conOk : D → Bool
  | .none | .bool _ | .int _ | .str _ => true
  | _ => false
theorem con_dq {K : PySem.W.Frag} {F : Hp} : ∀ {d : D}, conOk d = true → Dq K F (conV d) d
  | .none, _ => .non
  | .bool b, _ => .bl b
  | .int i, _ => .int i
  | .str x, _ => .str x
  | .list _, h => by cases h
  | .tuple _, h => by cases h
  | .dict _, h => by cases h
def dC (d : D) : DTE := fun _ _ θ Φ => Φ (.d d) θ
theorem de_con {e : Expr} {d : D} (h : PE X e (tC (conV d))) (ok : conOk d = true := by rfl) : DE c X e (tC (conV d)) (dC d) := ⟨h, fun Zh F0 Ex _ σ H ρ θ Φ Q S t k => k _ (.d d) H θ S (Mono.refl _) (con_dq ok) t⟩
theorem de_int {i j pos} : DE c X (.Constant (.int i) j pos) (tC (.int i)) (dC (.int i)) := de_con (d := .int i) pe_int
theorem de_bl {b j pos} : DE c X (.Constant (.bool b) j pos) (tC (.bl b)) (dC (.bool b)) := de_con (d := .bool b) pe_bl
theorem de_non {j pos} : DE c X (.Constant .none j pos) (tC .non) (dC .none) := de_con (d := .none) pe_non
theorem de_str {x j pos} : DE c X (.Constant (.str x) j pos) (tC (.str x)) (dC (.str x)) := de_con (d := .str x) pe_str

/-! ### operators -/
abbrev DOp := RV → RV → Th → RK → Prop
abbrev DUn := RV → Th → RK → Prop
abbrev DCl := List RV → Th → RK → Prop
def SimR (c : Cn) (r : R2) (f : DOp) : Prop := ∀ Zh F0 σ H ρ θ x y rx ry Φ Q, SD c.K c.Ps Zh F0 σ H ρ θ → DV c.K (vis Zh θ H) x rx → DV c.K (vis Zh θ H) y ry → f rx ry θ Φ → KE c Zh F0 σ H ρ θ Φ Q → r x y H Q
def SimU (c : Cn) (r : V → Hp → VK → Prop) (f : DUn) : Prop := ∀ Zh F0 σ H ρ θ x rx Φ Q, SD c.K c.Ps Zh F0 σ H ρ θ → DV c.K (vis Zh θ H) x rx → f rx θ Φ → KE c Zh F0 σ H ρ θ Φ Q → r x H Q
def SimC (c : Cn) (r : List V → Hp → VK → Prop) (f : DCl) : Prop := ∀ Zh F0 σ H ρ θ xs rs Φ Q, SD c.K c.Ps Zh F0 σ H ρ θ → DVs c.K (vis Zh θ H) xs rs → f rs θ Φ → KE c Zh F0 σ H ρ θ Φ Q → r xs H Q
def dOp (f : DOp) (Ta Tb : DTE) : DTE := fun Ex ρ θ Φ => Ta Ex ρ θ fun x θ1 => Tb Ex ρ θ1 fun y θ2 => f x y θ2 Φ
def dUn (f : DUn) (Ta : DTE) : DTE := fun Ex ρ θ Φ => Ta Ex ρ θ fun x θ1 => f x θ1 Φ
theorem KE.step {Zh F0 : Hp} {σ : L2.St} {H H' : Hp} {ρ : Rho} {θ θ' : Th} {Φ : RK} {Q : VK} (k : KE c Zh F0 σ H ρ θ Φ Q) (m : Mono (vis Zh θ H) (vis Zh θ' H')) : KE c Zh F0 σ H' ρ θ' Φ Q :=
  fun v r H2 θ2 S2 m2 d p => k v r H2 θ2 S2 (m.trans m2) d p
theorem sim_op {r : R2} {f : DOp} {ta tb : TE} {Ta Tb : DTE} (hr : SimR c r f) (ha : SimE c ta Ta) (hb : SimE c tb Tb) : SimE c (tOp r ta tb) (dOp f Ta Tb) := fun Zh F0 Ex L σ H ρ θ Φ Q S t k =>
  ha Zh F0 Ex L σ H ρ θ _ _ S t fun v r1 H1 θ1 S1 m1 d1 t1 => hb Zh F0 Ex L σ H1 ρ θ1 _ _ S1 t1 fun u r2 H2 θ2 S2 m2 d2 t2 =>
    hr Zh F0 σ H2 ρ θ2 v u r1 r2 Φ Q S2 (d1.mono m2) d2 t2 (k.step (m1.trans m2))
theorem sim_un {r : V → Hp → VK → Prop} {f : DUn} {ta : TE} {Ta : DTE} (hr : SimU c r f) (ha : SimE c ta Ta) : SimE c (tUn r ta) (dUn f Ta) := fun Zh F0 Ex L σ H ρ θ Φ Q S t k =>
  ha Zh F0 Ex L σ H ρ θ _ _ S t fun v r1 H1 θ1 S1 m1 d1 t1 => hr Zh F0 σ H1 ρ θ1 v r1 Φ Q S1 d1 t1 (k.step m1)
theorem de_op {op : Operator} {r : R2} {f : DOp} {a b : Expr} {Ta Tb : DTE} {pos : Pos} (ho : OpR X (binaryOp op) r) (hr : SimR c r f) (ha : DE c X a ta Ta) (hb : DE c X b tb Tb) : DE c X (.BinOp a op b pos) (tOp r ta tb) (dOp f Ta Tb) := by
  obtain ⟨pa, sa⟩ := ha
  obtain ⟨pb, sb⟩ := hb
  exact ⟨pe_op ho pa pb, sim_op hr sa sb⟩
theorem de_un {op : UnaryOp} {r : V → Hp → VK → Prop} {f : DUn} {a : Expr} {Ta : DTE} {pos : Pos} (ho : UnR X (unaryOp op) r) (hr : SimU c r f) (ha : DE c X a ta Ta) : DE c X (.UnaryOp op a pos) (tUn r ta) (dUn f Ta) := by
  obtain ⟨pa, sa⟩ := ha
  exact ⟨pe_un ho pa, sim_un hr sa⟩
theorem de_cmp {op : CmpOp} {r : R2} {f : DOp} {a b : Expr} {Ta Tb : DTE} {pos : Pos} (ho : OpR X (compareOp op) r) (hr : SimR c r f) (hm : behindInMarks op b = false) (ha : DE c X a ta Ta) (hb : DE c X b tb Tb) : DE c X (.Compare a [op] [b] pos) (tOp r ta tb) (dOp f Ta Tb) := by
  obtain ⟨pa, sa⟩ := ha
  obtain ⟨pb, sb⟩ := hb
  exact ⟨pe_cmpR ho pa pb hm, sim_op hr sa sb⟩
/-- what is a truth value -/
def asB (r : RV) (k : Bool → Prop) : Prop := match r with
  | .d (.bool b) => k b
  | _ => False
theorem asB_of {K : PySem.W.Frag} {F : Hp} {v : V} {r : RV} {k : Bool → Prop} (d : DV K F v r) (h : asB r k) : ∃ b, v = .bl b ∧ k b := by
  cases r with
  | own a => exact h.elim
  | seq ds => exact h.elim
  | rows _ => exact h.elim
  | d x =>
    cases x with
    | bool b => cases d; exact ⟨b, rfl, h⟩
    | _ => exact h.elim
def dTest (Ta : DTE) : DTT := fun Ex ρ θ Φ => Ta Ex ρ θ fun r θ1 => asB r fun b => Φ b θ1
theorem sim_test {ta : TE} {Ta : DTE} (ha : SimE c ta Ta) : SimT c (tTest ta) (dTest Ta) := fun Zh F0 Ex L σ H ρ θ Φ Q S t k =>
  ha Zh F0 Ex L σ H ρ θ _ _ S t fun v r1 H1 θ1 S1 m1 d1 t1 => by
    obtain ⟨b, rfl, q⟩ := asB_of d1 t1
    exact ⟨b, rfl, k b H1 θ1 S1 m1 q⟩
theorem sim_testB {ta : TE} {Ta : DTE} (ha : SimE c ta Ta) : SimT c (tB ta) (dTest Ta) := sim_test ha
theorem dt_cmp {op : CmpOp} {r : R2} {f : DOp} {a b : Expr} {Ta Tb : DTE} {pos : Pos} (ho : OpR X (compareOp op) r) (hr : SimR c r f) (hm : behindInMarks op b = false) (ha : DE c X a ta Ta) (hb : DE c X b tb Tb) : DT c X (.Compare a [op] [b] pos) (tTest (tOp r ta tb)) (dTest (dOp f Ta Tb)) := by
  obtain ⟨pa, sa⟩ := ha
  obtain ⟨pb, sb⟩ := hb
  exact ⟨pt_cmpR ho pa pb hm, sim_test (sim_op hr sa sb)⟩
theorem dt_val {e : Expr} {Ta : DTE} (ha : DE c X e ta Ta) (he : ∀ whole, isTrue e X.env whole = (do let v ← whole; standAt e.pos; holding [v] (truthy v)) := by intro _; rfl) : DT c X e (tB ta) (dTest Ta) := by
  obtain ⟨pa, sa⟩ := ha
  exact ⟨pt_val pa he, sim_testB sa⟩
theorem DW.dt {e : Expr} {T : DTT} (h : DW c X e t T) : DT c X e t T := ⟨h.pw.pt, h.sim⟩
def dAnd (T U : DTT) : DTT := fun Ex ρ θ Φ => T Ex ρ θ fun b θ1 => if b = true then U Ex ρ θ1 Φ else Φ false θ1
def dOr (T U : DTT) : DTT := fun Ex ρ θ Φ => T Ex ρ θ fun b θ1 => if b = true then Φ true θ1 else U Ex ρ θ1 Φ
def dNot (T : DTT) : DTT := fun Ex ρ θ Φ => T Ex ρ θ fun b θ1 => Φ (!b) θ1
theorem sim_and {t u : TT} {T U : DTT} (ht : SimT c t T) (hu : SimT c u U) : SimT c (tAnd t u) (dAnd T U) := fun Zh F0 Ex L σ H ρ θ Φ Q S h k =>
  ht Zh F0 Ex L σ H ρ θ _ _ S h fun b H1 θ1 S1 m1 h1 => by
    cases b with
    | true =>
      simp only [if_true] at h1 ⊢
      exact hu Zh F0 Ex L σ H1 ρ θ1 Φ Q S1 h1 fun b2 H2 θ2 S2 m2 h2 => k b2 H2 θ2 S2 (m1.trans m2) h2
    | false =>
      simp only [Bool.false_eq_true, if_false] at h1 ⊢
      exact k false H1 θ1 S1 m1 h1
theorem sim_or {t u : TT} {T U : DTT} (ht : SimT c t T) (hu : SimT c u U) : SimT c (tOr t u) (dOr T U) := fun Zh F0 Ex L σ H ρ θ Φ Q S h k =>
  ht Zh F0 Ex L σ H ρ θ _ _ S h fun b H1 θ1 S1 m1 h1 => by
    cases b with
    | true =>
      simp only [if_true] at h1 ⊢
      exact k true H1 θ1 S1 m1 h1
    | false =>
      simp only [Bool.false_eq_true, if_false] at h1 ⊢
      exact hu Zh F0 Ex L σ H1 ρ θ1 Φ Q S1 h1 fun b2 H2 θ2 S2 m2 h2 => k b2 H2 θ2 S2 (m1.trans m2) h2
theorem dw_and1 {a : Expr} {T : DTT} {pos : Pos} (h : DT c X a t T) : DW c X (.BoolOp .And [a] pos) t T := ⟨pw_and1 h.pt, h.sim⟩
theorem dw_or1 {a : Expr} {T : DTT} {pos : Pos} (h : DT c X a t T) : DW c X (.BoolOp .Or [a] pos) t T := ⟨pw_or1 h.pt, h.sim⟩
theorem dw_and {a b : Expr} {rest : List Expr} {T U : DTT} {pos : Pos} (h : DT c X a t T) (g : DW c X (.BoolOp .And (b :: rest) pos) u U) : DW c X (.BoolOp .And (a :: b :: rest) pos) (tAnd t u) (dAnd T U) :=
  ⟨pw_and h.pt g.pw, sim_and h.sim g.sim⟩
theorem dw_or {a b : Expr} {rest : List Expr} {T U : DTT} {pos : Pos} (h : DT c X a t T) (g : DW c X (.BoolOp .Or (b :: rest) pos) u U) : DW c X (.BoolOp .Or (a :: b :: rest) pos) (tOr t u) (dOr T U) :=
  ⟨pw_or h.pt g.pw, sim_or h.sim g.sim⟩
theorem dt_not {a : Expr} {T : DTT} {pos : Pos} (h : DT c X a t T) : DT c X (.UnaryOp .Not a pos) (tNot t) (dNot T) :=
  let ⟨p, s⟩ := h; ⟨pt_not p, fun Zh F0 Ex L σ H ρ θ Φ Q S h k => s Zh F0 Ex L σ H ρ θ _ _ S h fun b H1 θ1 S1 m1 h1 => k _ H1 θ1 S1 m1 h1⟩
/-- as values -/
def dAndV (Ta Tb : DTE) : DTE := fun Ex ρ θ Φ => Ta Ex ρ θ fun r θ1 => asB r fun b => if b = true then Tb Ex ρ θ1 Φ else Φ (.d (.bool false)) θ1
def dOrV (Ta Tb : DTE) : DTE := fun Ex ρ θ Φ => Ta Ex ρ θ fun r θ1 => asB r fun b => if b = true then Φ (.d (.bool true)) θ1 else Tb Ex ρ θ1 Φ
def dNotV (Ta : DTE) : DTE := fun Ex ρ θ Φ => Ta Ex ρ θ fun r θ1 => asB r fun b => Φ (.d (.bool (!b))) θ1
theorem de_one {op} {a : Expr} {T : DTE} {pos : Pos} (h : DE c X a t T) : DE c X (.BoolOp op [a] pos) t T := ⟨pe_one h.pe, h.sim⟩
theorem de_and {a b : Expr} {rest : List Expr} {Ta Tb : DTE} {pos : Pos} (h : DE c X a ta Ta) (g : DE c X (.BoolOp .And (b :: rest) pos) tb Tb) : DE c X (.BoolOp .And (a :: b :: rest) pos) (tAndV ta tb) (dAndV Ta Tb) := by
  obtain ⟨p, s⟩ := h
  obtain ⟨q, r⟩ := g
  refine ⟨pe_and p q, fun Zh F0 Ex L σ H ρ θ Φ Q S h k => s Zh F0 Ex L σ H ρ θ _ _ S h fun v r1 H1 θ1 S1 m1 d1 h1 => ?_⟩
  obtain ⟨b, rfl, h1⟩ := asB_of d1 h1
  refine ⟨b, rfl, ?_⟩
  cases b with
  | true =>
    simp only [if_true] at h1 ⊢
    exact r Zh F0 Ex L σ H1 ρ θ1 Φ Q S1 h1 (k.step m1)
  | false =>
    simp only [Bool.false_eq_true, if_false] at h1 ⊢
    exact k _ (.d (.bool false)) H1 θ1 S1 m1 (Dq.bl false) h1
theorem de_or {a b : Expr} {rest : List Expr} {Ta Tb : DTE} {pos : Pos} (h : DE c X a ta Ta) (g : DE c X (.BoolOp .Or (b :: rest) pos) tb Tb) : DE c X (.BoolOp .Or (a :: b :: rest) pos) (tOrV ta tb) (dOrV Ta Tb) := by
  obtain ⟨p, s⟩ := h
  obtain ⟨q, r⟩ := g
  refine ⟨pe_or p q, fun Zh F0 Ex L σ H ρ θ Φ Q S h k => s Zh F0 Ex L σ H ρ θ _ _ S h fun v r1 H1 θ1 S1 m1 d1 h1 => ?_⟩
  obtain ⟨b, rfl, h1⟩ := asB_of d1 h1
  refine ⟨b, rfl, ?_⟩
  cases b with
  | true =>
    simp only [if_true] at h1 ⊢
    exact k _ (.d (.bool true)) H1 θ1 S1 m1 (Dq.bl true) h1
  | false =>
    simp only [Bool.false_eq_true, if_false] at h1 ⊢
    exact r Zh F0 Ex L σ H1 ρ θ1 Φ Q S1 h1 (k.step m1)
theorem de_not {a : Expr} {Ta : DTE} {pos : Pos} (h : DE c X a ta Ta) : DE c X (.UnaryOp .Not a pos) (tNotV ta) (dNotV Ta) := by
  obtain ⟨p, s⟩ := h
  refine ⟨pe_not p, fun Zh F0 Ex L σ H ρ θ Φ Q S h k => s Zh F0 Ex L σ H ρ θ _ _ S h fun v r1 H1 θ1 S1 m1 d1 h1 => ?_⟩
  obtain ⟨b, rfl, h1⟩ := asB_of d1 h1
  exact ⟨b, rfl, k _ (.d (.bool (!b))) H1 θ1 S1 m1 (Dq.bl _) h1⟩
def dIf (T : DTT) (Ta Tb : DTE) : DTE := fun Ex ρ θ Φ => T Ex ρ θ fun b θ1 => if b = true then Ta Ex ρ θ1 Φ else Tb Ex ρ θ1 Φ
theorem de_if {t a b : Expr} {T : DTT} {Ta Tb : DTE} {pos : Pos} (ht : DT c X t tt T) (ha : DE c X a ta Ta) (hb : DE c X b tb Tb) : DE c X (.IfExp t a b pos) (tIf tt ta tb) (dIf T Ta Tb) := by
  obtain ⟨p, s⟩ := ht
  obtain ⟨pa, sa⟩ := ha
  obtain ⟨pb, sb⟩ := hb
  refine ⟨pe_ifExp p pa pb, fun Zh F0 Ex L σ H ρ θ Φ Q S h k => s Zh F0 Ex L σ H ρ θ _ _ S h fun b H1 θ1 S1 m1 h1 => ?_⟩
  cases b with
  | true =>
    simp only [if_true] at h1 ⊢
    exact sa Zh F0 Ex L σ H1 ρ θ1 Φ Q S1 h1 (k.step m1)
  | false =>
    simp only [Bool.false_eq_true, if_false] at h1 ⊢
    exact sb Zh F0 Ex L σ H1 ρ θ1 Φ Q S1 h1 (k.step m1)
/-- a chain of two comparisons -/
def dChain (f f' : DOp) (Ta Tb Tc : DTE) : DTE := fun Ex ρ θ Φ => Ta Ex ρ θ fun x θ1 => Tb Ex ρ θ1 fun y θ2 => f x y θ2 fun z θ3 => asB z fun b => if b = true then Tc Ex ρ θ3 fun w θ4 => f' y w θ4 Φ else Φ (.d (.bool false)) θ3
theorem de_chain {op op' : CmpOp} {r r' : R2} {f f' : DOp} {x y z : Expr} {Ta Tb Tc : DTE} {pos : Pos} (ho : OpR X (compareOp op) r) (ho' : OpR X (compareOp op') r') (hr : SimR c r f) (hr' : SimR c r' f') (ha : DE c X x ta Ta) (hb : DE c X y tb Tb) (hc : DE c X z tc Tc)
    (hm : lastMarks [op, op'] [y, z] = false := by with_unfolding_all rfl) : DE c X (.Compare x [op, op'] [y, z] pos) (tChain r r' ta tb tc) (dChain f f' Ta Tb Tc) := by
  obtain ⟨p, s⟩ := ha
  obtain ⟨p', s'⟩ := hb
  obtain ⟨q, u⟩ := hc
  refine ⟨pe_chain ho ho' p p' q hm, fun Zh F0 Ex L σ H ρ θ Φ Q S h k => ?_⟩
  refine s Zh F0 Ex L σ H ρ θ _ _ S h fun v r1 H1 θ1 S1 m1 d1 h1 => ?_
  refine s' Zh F0 Ex L σ H1 ρ θ1 _ _ S1 h1 fun w r2 H2 θ2 S2 m2 d2 h2 => ?_
  refine hr Zh F0 σ H2 ρ θ2 v w r1 r2 _ _ S2 (d1.mono m2) d2 h2 fun z r3 H3 θ3 S3 m3 d3 h3 => ?_
  obtain ⟨b, rfl, h3⟩ := asB_of d3 h3
  refine ⟨b, rfl, ?_⟩
  cases b with
  | true =>
    simp only [if_true] at h3 ⊢
    refine u Zh F0 Ex L σ H3 ρ θ3 _ _ S3 h3 fun t r4 H4 θ4 S4 m4 d4 h4 => ?_
    exact hr' Zh F0 σ H4 ρ θ4 w t r2 r4 Φ Q S4 (d2.mono (m3.trans m4)) d4 h4 (k.step (m1.trans (m2.trans (m3.trans m4))))
  | false =>
    simp only [Bool.false_eq_true, if_false] at h3 ⊢
    exact k _ (.d (.bool false)) H3 θ3 S3 (m1.trans (m2.trans m3)) (Dq.bl false) h3

/-! ### arguments, calls -/
def dNil : DTA := fun _ _ θ Φ => Φ [] θ
def dCons (Ta : DTE) (Tr : DTA) : DTA := fun Ex ρ θ Φ => Ta Ex ρ θ fun r θ1 => Tr Ex ρ θ1 fun rs θ2 => Φ (r :: rs) θ2
theorem da_nil : DA c X [] tNil dNil := ⟨pa_nil, fun Zh F0 Ex L σ H ρ θ Φ Q S h k => k _ _ H θ S (Mono.refl _) .nil h⟩
theorem da_cons {e : Expr} {es : List Expr} {Ta : DTE} {Tr : DTA} (ha : DE c X e ta Ta) (hr : DA c X es tr Tr) (hs : starEach (e :: es) X.env = (false, eval e X.env) :: starEach es X.env := by rfl) : DA c X (e :: es) (tCons ta tr) (dCons Ta Tr) := by
  obtain ⟨p, s⟩ := ha
  obtain ⟨q, u⟩ := hr
  refine ⟨pa_cons p q hs, fun Zh F0 Ex L σ H ρ θ Φ Q S h k => s Zh F0 Ex L σ H ρ θ _ _ S h fun v r1 H1 θ1 S1 m1 d1 h1 => ?_⟩
  exact u Zh F0 Ex L σ H1 ρ θ1 _ _ S1 h1 fun vs rs H2 θ2 S2 m2 d2 h2 => k _ _ H2 θ2 S2 (m1.trans m2) (.cons (d1.mono m2) d2) h2
def dCall (f : DCl) (Ta : DTA) : DTE := fun Ex ρ θ Φ => Ta Ex ρ θ fun rs θ1 => f rs θ1 Φ
theorem sim_cb {r : List V → Hp → VK → Prop} {f : DCl} {ta : TA} {Ta : DTA} (hr : SimC c r f) (ha : SimA c ta Ta) : SimE c (tCB r ta) (dCall f Ta) := fun Zh F0 Ex L σ H ρ θ Φ Q S h k =>
  ha Zh F0 Ex L σ H ρ θ _ _ S h fun vs rs H1 θ1 S1 m1 d1 h1 => hr Zh F0 σ H1 ρ θ1 vs rs Φ Q S1 d1 h1 (k.step m1)
theorem de_callB {e : Expr} {es : List Expr} {x : Str} {id : String} {r : List V → Hp → VK → Prop} {f : DCl} {Ta : DTA} {p pos : Pos} (hr : CallR X (.builtin id) r) (sr : SimC c r f) (hg : Gl X x) (hm : X.mg x = none) (hv : bootBuiltins x = some (.builtin id)) (ha : DA c X (e :: es) ta Ta)
    (hn : x ≠ "__name__" := by decide) (hd : (x == ("__debug__" : Str)) = false := by decide) (he : starEach (e :: es) X.env = (false, eval e X.env) :: starEach es X.env := by rfl) (hpl : (backTo pos (starEach es X.env)).any (·.1) = false := by rfl) :
    DE c X (.Call (.Name x p) (e :: es) [] pos) (tCB r ta) (dCall f Ta) := by
  obtain ⟨q, u⟩ := ha
  exact ⟨pe_callB hr hg hm hv q hn hd he hpl, sim_cb sr u⟩
theorem de_callTy {e : Expr} {es : List Expr} {x : Str} {T : String} {r : List V → Hp → VK → Prop} {f : DCl} {Ta : DTA} {p pos : Pos} (hr : CallR X (.type T) r) (sr : SimC c r f) (hg : Gl X x) (hm : X.mg x = none) (hv : bootBuiltins x = some (.type T)) (ha : DA c X (e :: es) ta Ta)
    (hn : x ≠ "__name__" := by decide) (hd : (x == ("__debug__" : Str)) = false := by decide) (he : starEach (e :: es) X.env = (false, eval e X.env) :: starEach es X.env := by rfl) (hpl : (backTo pos (starEach es X.env)).any (·.1) = false := by rfl) :
    DE c X (.Call (.Name x p) (e :: es) [] pos) (tCB r ta) (dCall f Ta) := by
  obtain ⟨q, u⟩ := ha
  exact ⟨pe_callTy hr hg hm hv q hn hd he hpl, sim_cb sr u⟩
/-! ### displays -/
def dTup (Ta : DTA) : DTE := fun Ex ρ θ Φ => Ta Ex ρ θ fun rs θ1 => allD rs fun ds => ds.length ≤ 1000 ∧ Φ (.d (.tuple ds)) θ1
where
  /-- all of them plain data -/
  allD : List RV → (List D → Prop) → Prop
    | [], k => k []
    | .d x :: rs, k => allD rs fun ds => k (x :: ds)
    | .own _ :: _, _ => False
    | .seq _ :: _, _ => False
    | .rows _ :: _, _ => False
abbrev allD := dTup.allD
theorem allD_of {K : PySem.W.Frag} {F : Hp} : ∀ {vs : List V} {rs : List RV} {k : List D → Prop}, DVs K F vs rs → allD rs k → ∃ ds, DqAll K F vs ds ∧ k ds
  | _, _, _, .nil, h => ⟨[], .nil, h⟩
  | _, _, k, .cons (r := .d x) d t, h => by
    obtain ⟨ds, h1, h2⟩ := allD_of (k := fun ds => k (x :: ds)) t h
    exact ⟨x :: ds, .cons d h1, h2⟩
  | _, _, _, .cons (r := .own _) _ _, h => h.elim
  | _, _, _, .cons (r := .seq _) _ _, h => h.elim
  | _, _, _, .cons (r := .rows _) _ _, h => h.elim
theorem le1000 {n : Nat} (h : n ≤ 1000) : n ≤ sizeLine := Nat.le_of_lt (small1000 h)
theorem de_tup {es : List Expr} {Ta : DTA} {x1} {pos : Pos} (ha : DA c X es ta Ta) : DE c X (.Tuple es x1 pos) (tTup ta) (dTup Ta) := by
  obtain ⟨q, u⟩ := ha
  refine ⟨pe_tup q, fun Zh F0 Ex L σ H ρ θ Φ Q S h k => u Zh F0 Ex L σ H ρ θ _ _ S h fun vs rs H1 θ1 S1 m1 d1 h1 => ?_⟩
  obtain ⟨ds, hd, hl, h2⟩ := allD_of d1 h1
  refine ⟨by rw [hd.length]; exact le1000 hl, fun p np => ?_⟩
  have m := (vis_upd_sub (Zh := Zh) (θ := θ1) (o := .tup vs) np).mono
  exact k _ (.d (.tuple ds)) _ θ1 (S1.to (S1.hs.new np) m) (m1.trans m) (Dq.tup (.inl (.inl (S1.hs.at np))) (dps_mono m _ _ hd)) h2
def dLst (Ta : DTA) : DTE := fun Ex ρ θ Φ => Ta Ex ρ θ fun rs θ1 => allD rs fun ds => ds.length ≤ 1000 ∧ Φ (.d (.list ds)) θ1
theorem de_lst {es : List Expr} {Ta : DTA} {pos : Pos} (ha : DA c X es ta Ta) : DE c X (.List es pos) (tLst ta) (dLst Ta) := by
  obtain ⟨q, u⟩ := ha
  refine ⟨pe_lst q, fun Zh F0 Ex L σ H ρ θ Φ Q S h k => u Zh F0 Ex L σ H ρ θ _ _ S h fun vs rs H1 θ1 S1 m1 d1 h1 => ?_⟩
  obtain ⟨ds, hd, hl, h2⟩ := allD_of d1 h1
  refine ⟨by rw [hd.length]; exact le1000 hl, fun p np => ?_⟩
  have m := (vis_upd_sub (Zh := Zh) (θ := θ1) (o := .lst vs) np).mono
  exact k _ (.d (.list ds)) _ θ1 (S1.to (S1.hs.new np) m) (m1.trans m) (Dq.lst (S1.hs.at np) (dps_mono m _ _ hd)) h2
/-- .. that will be changed -/
def dLstO (Ta : DTA) : DTE := fun Ex ρ θ Φ => Ta Ex ρ θ fun rs θ1 => allD rs fun ds => ds.length ≤ 1000 ∧ ∀ p, p ∉ θ1.map (·.1) → Φ (.own p) ((p, ds) :: θ1)
theorem de_lstO {es : List Expr} {Ta : DTA} {pos : Pos} (ha : DA c X es ta Ta) : DE c X (.List es pos) (tLst ta) (dLstO Ta) := by
  obtain ⟨q, u⟩ := ha
  refine ⟨pe_lst q, fun Zh F0 Ex L σ H ρ θ Φ Q S h k => u Zh F0 Ex L σ H ρ θ _ _ S h fun vs rs H1 θ1 S1 m1 d1 h1 => ?_⟩
  obtain ⟨ds, hd, hl, h2⟩ := allD_of d1 h1
  refine ⟨by rw [hd.length]; exact le1000 hl, fun p np => ?_⟩
  obtain ⟨h3, m⟩ := S1.hs.newOwn np hd
  exact k _ (.own p) _ _ (S1.to h3 m) (m1.trans m) rfl (h2 p (S1.hs.noP np).2.1)
/-- a list that came as a value new here: it will be changed (sf: the reading that gives a new list) -/
def NewL (c : Cn) (te : TE) (T : ExW → Rho → Th → (List D → Th → Prop) → Prop) : Prop := ∀ Zh F0 Ex, XL c Zh F0 Ex → ∀ σ H ρ θ (Φ : List D → Th → Prop) (Q : VK), SD c.K c.Ps Zh F0 σ H ρ θ → T Ex ρ θ Φ →
  (∀ vs ds H' θ', SD c.K c.Ps Zh F0 σ H' ρ θ' → Mono (vis Zh θ H) (vis Zh θ' H') → DqAll c.K (vis Zh θ' H') vs ds → Φ ds θ' → ∀ p, H' p = none → Q (.ref p) (upd H' p (.lst vs))) → te σ H Q
def dNewP (T : ExW → Rho → Th → (List D → Th → Prop) → Prop) : DTE := fun Ex ρ θ Φ => T Ex ρ θ fun ds θ1 => Φ (.d (.list ds)) θ1
def dNewO (T : ExW → Rho → Th → (List D → Th → Prop) → Prop) : DTE := fun Ex ρ θ Φ => T Ex ρ θ fun ds θ1 => ∀ p, p ∉ θ1.map (·.1) → Φ (.own p) ((p, ds) :: θ1)
theorem sim_newP {te : TE} {T : ExW → Rho → Th → (List D → Th → Prop) → Prop} (h : NewL c te T) : SimE c te (dNewP T) := fun Zh F0 Ex L σ H ρ θ Φ Q S t k =>
  h Zh F0 Ex L σ H ρ θ _ _ S t fun vs ds H1 θ1 S1 m1 hd h2 p np => by
    have m := (vis_upd_sub (Zh := Zh) (θ := θ1) (o := .lst vs) np).mono
    exact k _ (.d (.list ds)) _ θ1 (S1.to (S1.hs.new np) m) (m1.trans m) (Dq.lst (S1.hs.at np) (dps_mono m _ _ hd)) h2
theorem sim_newO {te : TE} {T : ExW → Rho → Th → (List D → Th → Prop) → Prop} (h : NewL c te T) : SimE c te (dNewO T) := fun Zh F0 Ex L σ H ρ θ Φ Q S t k =>
  h Zh F0 Ex L σ H ρ θ _ _ S t fun vs ds H1 θ1 S1 m1 hd h2 p np => by
    obtain ⟨h3, m⟩ := S1.hs.newOwn np hd
    exact k _ (.own p) _ _ (S1.to h3 m) (m1.trans m) rfl (h2 p (S1.hs.noP np).2.1)
end
end TlD
set_option Elab.async false
set_option linter.all false
set_option maxRecDepth 100000
set_option maxHeartbeats 4000000
namespace TlD
open PySem PySem.Spec PyProof.Rows L2 GxR

/-! ### targets -/
abbrev DGt := RV → Rho → (Rho → Prop) → Prop
abbrev DGs := List D → Rho → (Rho → Prop) → Prop
def SimG (c : Cn) (g : TG) (G : DGt) : Prop := ∀ Zh F0 x r σ H ρ θ (Ψ : Rho → Prop) (Q : L2.St → Hp → Prop), SD c.K c.Ps Zh F0 σ H ρ θ → DV c.K (vis Zh θ H) x r → G r ρ Ψ → (∀ σ' ρ', SD c.K c.Ps Zh F0 σ' H ρ' θ → Ψ ρ' → Q σ' H) → g x σ H Q
def SimGs (c : Cn) (g : TGs) (G : DGs) : Prop := ∀ Zh F0 xs ds σ H ρ θ (Ψ : Rho → Prop) (Q : L2.St → Hp → Prop), SD c.K c.Ps Zh F0 σ H ρ θ → DqAll c.K (vis Zh θ H) xs ds → G ds ρ Ψ → (∀ σ' ρ', SD c.K c.Ps Zh F0 σ' H ρ' θ → Ψ ρ' → Q σ' H) → g xs σ H Q
/-- only the slots at vs are stored -/
def KeepW (vs : List Nat) (g : TG) : Prop := ∀ x σ H (Q : L2.St → Hp → Prop) (us : List Nat), (∀ v ∈ vs, v ∈ us) → g x σ H Q → g x σ H fun σ2 H2 => wipe σ2 us = wipe σ us ∧ Q σ2 H2
def KeepWs (vs : List Nat) (g : TGs) : Prop := ∀ x σ H (Q : L2.St → Hp → Prop) (us : List Nat), (∀ v ∈ vs, v ∈ us) → g x σ H Q → g x σ H fun σ2 H2 => wipe σ2 us = wipe σ us ∧ Q σ2 H2
theorem wipe_get (τ : L2.St) (i : Nat) : ∀ us : List Nat, (wipe τ us)[i]? = if i ∈ us ∧ i < τ.length then some none else τ[i]?
  | [] => by simp [wipe]
  | u :: us => by
    unfold wipe
    by_cases hu : u = i
    · subst hu
      by_cases hl : u < τ.length
      · rw [List.getElem?_set_self (by rw [wipe_length]; exact hl)]
        simp [hl]
      · rw [List.getElem?_eq_none (by rw [List.length_set, wipe_length]; omega)]
        simp [hl]
    · rw [List.getElem?_set_ne hu, wipe_get τ i us]
      have : i ≠ u := fun z => hu z.symm
      simp [this]
theorem wipe_set {σ : L2.St} {i : Nat} {x : Option V} {us : List Nat} (h : i ∈ us) : wipe (σ.set i x) us = wipe σ us := by
  refine List.ext_getElem? fun j => ?_
  rw [wipe_get, wipe_get, List.length_set]
  by_cases c : j ∈ us ∧ j < σ.length
  · rw [if_pos c, if_pos c]
  · rw [if_neg c, if_neg c]
    by_cases e : i = j
    · subst e
      have hl : ¬ i < σ.length := fun z => c ⟨h, z⟩
      rw [List.getElem?_eq_none (by rw [List.length_set]; omega), List.getElem?_eq_none (by omega)]
    · rw [List.getElem?_set_ne e]
def MonG (g : TG) : Prop := ∀ x σ H (Q Q' : L2.St → Hp → Prop), (∀ σ H, Q σ H → Q' σ H) → g x σ H Q → g x σ H Q'
def MonGs (g : TGs) : Prop := ∀ x σ H (Q Q' : L2.St → Hp → Prop), (∀ σ H, Q σ H → Q' σ H) → g x σ H Q → g x σ H Q'
structure DG (c : Cn) (X : Cx) (tg : Expr) (g : TG) (G : DGt) (vs : List Nat) : Prop where
  pg : PG X tg g
  sim : SimG c g G
  kw : KeepW vs g
  mo : MonG g
structure DGsJ (c : Cn) (X : Cx) (tg : List Expr) (g : TGs) (G : DGs) (vs : List Nat) : Prop where
  pg : PGs X tg g
  sim : SimGs c g G
  kw : KeepWs vs g
  mo : MonGs g
section
variable {c : Cn} {X : Cx}
def gN (i : Nat) : DGt := fun r ρ Ψ => Ψ (put ρ i r)
theorem sim_gname {i : Nat} : SimG c (gName i) (gN i) := fun Zh F0 x r σ H ρ θ Ψ Q S d h k => k _ _ (S.set d) (by rw [← put_set]; exact h)
theorem keep_gname {i : Nat} : KeepW [i] (gName i) := fun x σ H Q us hv h => ⟨wipe_set (hv i List.mem_cons_self), h⟩
theorem dg_name {i : Nat} {x : Str} {pos : Pos} (hN : X.N.Nodup) (hi : X.N[i]? = some x) (hx : Loc X.env.scope x) (hf : X.fn x = true ∨ X.env.scope.names.lookup x = some .local := by first | exact .inl rfl | exact .inr rfl | assumption) : DG c X (.Name x pos) (gName i) (gN i) [i] :=
  ⟨pg_name hN hi hx hf, sim_gname, keep_gname, fun _ _ _ _ _ k h => k _ _ h⟩
def gsNil : DGs := fun ds ρ Ψ => match ds with
  | [] => Ψ ρ
  | _ :: _ => False
def gsCons (G : DGt) (Gs : DGs) : DGs := fun ds ρ Ψ => match ds with
  | [] => False
  | d :: ds => G (.d d) ρ fun ρ1 => Gs ds ρ1 Ψ
def gT (Gs : DGs) : DGt := fun r ρ Ψ => match r with
  | .d (.tuple ds) => Gs ds ρ Ψ
  | _ => False
theorem dgs_nil : DGsJ c X [] gNil gsNil [] := ⟨pgs_nil, fun Zh F0 xs ds σ H ρ θ Ψ Q S d h k => by
  cases d with
  | nil => exact ⟨rfl, k σ ρ S h⟩
  | cons _ _ => exact h.elim, fun x σ H Q us hv ⟨h1, h2⟩ => ⟨h1, rfl, h2⟩, fun _ _ _ _ _ k h => ⟨h.1, k _ _ h.2⟩⟩
theorem dgs_cons {e : Expr} {es : List Expr} {G : DGt} {Gs : DGs} {vs ws : List Nat} (h : DG c X e g G vs) (t : DGsJ c X es gs Gs ws)
    (hs : List.map (fun x => x.snd) (assignEach (e :: es) X.env) = assign e X.env :: List.map (fun x => x.snd) (assignEach es X.env) := by rfl) : DGsJ c X (e :: es) (gCons g gs) (gsCons G Gs) (vs ++ ws) := by
  obtain ⟨p, s, kw, mo⟩ := h
  obtain ⟨ps, ss, kws, mos⟩ := t
  refine ⟨pgs_cons p ps hs, fun Zh F0 xs ds σ H ρ θ Ψ Q S d h k => ?_, fun x σ H Q us hv h => ?_, fun x σ H Q Q' k h => ?_⟩
  · cases d with
    | nil => exact h.elim
    | cons d1 d2 =>
      refine ⟨_, _, rfl, s Zh F0 _ (.d _) σ H ρ θ _ _ S d1 h fun σ' ρ' S' h' => ?_⟩
      exact ss Zh F0 _ _ σ' H ρ' θ Ψ Q S' d2 h' k
  · obtain ⟨v, r, e, h⟩ := h
    refine ⟨v, r, e, mo _ _ _ _ _ (fun σ' H' q => ?_) (kw v σ H _ us (fun w hw => hv w (List.mem_append_left _ hw)) h)⟩
    refine mos _ _ _ _ _ (fun σ2 H2 q2 => ⟨q2.1.trans q.1, q2.2⟩) (kws r σ' H' Q us (fun w hw => hv w (List.mem_append_right _ hw)) q.2)
  · obtain ⟨v, r, e, h⟩ := h
    exact ⟨v, r, e, mo _ _ _ _ _ (fun σ' H' q => mos _ _ _ _ _ k q) h⟩
theorem dg_tup {es : List Expr} {k : Nat} {pos : Pos} {Gs : DGs} {vs : List Nat} {n : Nat} (hc : X.calm = true) (h : DGsJ c X es gs Gs vs) (hK : X.K = c.K) (hl : ∀ ds ρ Ψ, Gs ds ρ Ψ → ds.length = n)
    (hp : (assignEach es X.env).length = n := by rfl) (hst : (assignEach es X.env).findIdx? (·.1) = none := by rfl) : DG c X (.Tuple es k pos) (gTup c.K n gs) (gT Gs) vs := by
  obtain ⟨ps, ss, kws, mos⟩ := h
  refine ⟨by rw [← hK]; exact pg_tup hc ps hp hst, fun Zh F0 x r σ H ρ θ Ψ Q S d h k => ?_, fun x σ H Q us hv h => ?_, fun x σ H Q Q' k h => ?_⟩
  · cases r with
    | own _ => exact h.elim
    | seq _ => exact h.elim
    | rows _ => exact h.elim
    | d x =>
      cases x with
      | tuple ds =>
        cases d with
        | tup h1 h2 =>
          refine ⟨_, _, rfl, sqT_up h1, ?_, ss Zh F0 _ _ σ H ρ θ Ψ Q S h2 h k⟩
          rw [h2.length]
          exact hl _ _ _ h
      | _ => exact h.elim
  · obtain ⟨a, xs, e, h1, h2, h3⟩ := h
    exact ⟨a, xs, e, h1, h2, kws _ _ _ _ _ hv h3⟩
  · obtain ⟨a, xs, e, h1, h2, h3⟩ := h
    exact ⟨a, xs, e, h1, h2, mos _ _ _ _ _ k h3⟩

/-! ### statements -/
/-- what is wanted behind a statement -/
structure EO (c : Cn) (Zh F0 : Hp) (E : DEnds) (D : Ends) : Prop where
  nx : ∀ σ H ρ θ, SD c.K c.Ps Zh F0 σ H ρ θ → E.nx ρ θ → D.nx σ H
  rt : ∀ v r H θ, HS c.K c.Ps Zh F0 H θ → DV c.K (vis Zh θ H) v r → E.rt r θ → D.rt v H
  bk : ∀ σ H ρ θ, SD c.K c.Ps Zh F0 σ H ρ θ → E.bk ρ θ → D.bk σ H
  ct : ∀ σ H ρ θ, SD c.K c.Ps Zh F0 σ H ρ θ → E.ct ρ θ → D.ct σ H
def SimS (c : Cn) (t : TS) (T : DTS) : Prop := ∀ Zh F0 (E : DEnds) (D : Ends), XL c Zh F0 E.ex → EO c Zh F0 E D → ∀ σ H ρ θ, SD c.K c.Ps Zh F0 σ H ρ θ → T E ρ θ → t D σ H
structure DS (c : Cn) (X : Cx) (st : Stmt) (t : TS) (T : DTS) : Prop where
  ps : PS X st t
  sim : SimS c t T
structure DSs (c : Cn) (X : Cx) (sts : List Stmt) (t : TS) (T : DTS) : Prop where
  ps : PSs X sts t
  sim : SimS c t T
def dNext : DTS := fun E ρ θ => E.nx ρ θ
def dSeq (T U : DTS) : DTS := fun E ρ θ => T { E with nx := fun ρ1 θ1 => U E ρ1 θ1 } ρ θ
theorem dss_nil : DSs c X [] tNext dNext := ⟨pss_nil, fun Zh F0 E D L O σ H ρ θ S h => O.nx σ H ρ θ S h⟩
theorem dss_one {st : Stmt} {T : DTS} (h : DS c X st t T) : DSs c X [st] t T := ⟨pss_one h.ps, h.sim⟩
theorem dss_cons {st : Stmt} {rest : List Stmt} {T U : DTS} (h : DS c X st t T) (g : DSs c X rest u U) : DSs c X (st :: rest) (tSeq t u) (dSeq T U) := by
  obtain ⟨p, s⟩ := h
  obtain ⟨q, r⟩ := g
  exact ⟨pss_cons p q, fun Zh F0 E D L O σ H ρ θ S h => s Zh F0 { E with nx := fun ρ1 θ1 => U E ρ1 θ1 } { D with nx := u D } L ⟨fun σ H ρ θ S h => r Zh F0 E D L O σ H ρ θ S h, O.rt, O.bk, O.ct⟩ σ H ρ θ S h⟩
theorem ds_pass {pos : Pos} : DS c X (.Pass pos) tNext dNext := ⟨ps_pass, fun Zh F0 E D L O σ H ρ θ S h => O.nx σ H ρ θ S h⟩
theorem ds_doc {x j pos pos'} : DS c X (.Expr (.Constant (.str x) j pos) pos') tNext dNext := ⟨ps_doc, fun Zh F0 E D L O σ H ρ θ S h => O.nx σ H ρ θ S h⟩
def dBreak : DTS := fun E ρ θ => E.bk ρ θ
def dCont : DTS := fun E ρ θ => E.ct ρ θ
theorem ds_break {pos : Pos} : DS c X (.Break pos) tBreak dBreak := ⟨ ps_break, fun Zh F0 E D L O σ H ρ θ S h => O.bk σ H ρ θ S h⟩
theorem ds_continue {pos : Pos} : DS c X (.Continue pos) tCont dCont := ⟨ ps_continue, fun Zh F0 E D L O σ H ρ θ S h => O.ct σ H ρ θ S h⟩
def dDrop (T : DTE) : DTS := fun E ρ θ => T E.ex ρ θ fun _ θ1 => E.nx ρ θ1
theorem ds_expr {e : Expr} {T : DTE} {pos : Pos} (h : DE c X e te T) (hs : swapsWith e none pos.line X.env = pure false := by rfl) : DS c X (.Expr e pos) (tDrop te) (dDrop T) := by
  obtain ⟨p, s⟩ := h
  exact ⟨ps_expr p hs, fun Zh F0 E D L O σ H ρ θ S h => s Zh F0 E.ex L σ H ρ θ _ _ S h fun v r H1 θ1 S1 m1 d1 h1 => O.nx σ H1 ρ θ1 S1 h1⟩
def dSet (i : Nat) (T : DTE) : DTS := fun E ρ θ => T E.ex ρ θ fun r θ1 => E.nx (put ρ i r) θ1
theorem ds_set {i : Nat} {x : Str} {e : Expr} {T : DTE} {pos pos' : Pos} (hN : X.N.Nodup) (hi : X.N[i]? = some x) (hx : Loc X.env.scope x) (h : DE c X e te T) (hs : swapsWith e (some (.Name x pos')) pos.line X.env = pure false := by rfl)
    (hf : X.fn x = true ∨ X.env.scope.names.lookup x = some .local := by first | exact .inl rfl | exact .inr rfl | assumption) : DS c X (.Assign [.Name x pos'] e pos) (tAsg te (gName i)) (dSet i T) := by
  obtain ⟨p, s⟩ := h
  exact ⟨ps_set hN hi hx p hs hf, fun Zh F0 E D L O σ H ρ θ S h => s Zh F0 E.ex L σ H ρ θ _ _ S h fun v r H1 θ1 S1 m1 d1 h1 => O.nx _ H1 _ θ1 (S1.set d1) (by rw [← put_set]; exact h1)⟩
def dAsg (T : DTE) (G : DGt) : DTS := fun E ρ θ => T E.ex ρ θ fun r θ1 => G r ρ fun ρ1 => E.nx ρ1 θ1
theorem ds_asg {tg e : Expr} {T : DTE} {G : DGt} {vs : List Nat} {pos : Pos} (h : DE c X e te T) (g : DG c X tg gg G vs) (hp : PE X e te → PG X tg gg → PS X (.Assign [tg] e pos) (tAsg te gg)) : DS c X (.Assign [tg] e pos) (tAsg te gg) (dAsg T G) := by
  obtain ⟨p, s⟩ := h
  obtain ⟨q, sg, _⟩ := g
  exact ⟨hp p q, fun Zh F0 E D L O σ H ρ θ S h => s Zh F0 E.ex L σ H ρ θ _ _ S h fun v r H1 θ1 S1 m1 d1 h1 => sg Zh F0 v r σ H1 ρ θ1 _ _ S1 d1 h1 fun σ' ρ' S' h' => O.nx _ H1 _ θ1 S' h'⟩
def dRet (T : DTE) : DTS := fun E ρ θ => T E.ex ρ θ E.rt
theorem ds_ret {e : Expr} {T : DTE} {pos : Pos} (h : DE c X e te T) : DS c X (.Return (some e) pos) (tRet te) (dRet T) := by
  obtain ⟨p, s⟩ := h
  exact ⟨ps_ret p, fun Zh F0 E D L O σ H ρ θ S h => s Zh F0 E.ex L σ H ρ θ _ _ S h fun v r H1 θ1 S1 m1 d1 h1 => O.rt v r H1 θ1 S1.hs d1 h1⟩
def dRetN : DTS := fun E _ θ => E.rt (.d .none) θ
theorem ds_retN {pos : Pos} : DS c X (.Return none pos) tRetN dRetN := ⟨ ps_retN, fun Zh F0 E D L O σ H ρ θ S h => O.rt _ (.d .none) H θ S.hs Dq.non h⟩
/-- the lists of the def's own are changed no more: they are given out, or forgotten -/
def thDels (θ : Th) (qs : List Addr) : Th := θ.filter fun p => decide (p.1 ∉ qs)
inductive Frz : RV → Th → RV → Th → Prop
  | refl {r : RV} {θ : Th} : Frz r θ r θ
  | del {r r' : RV} {θ θ' : Th} (a : Addr) : Frz r (thDel θ a) r' θ' → Frz r θ r' θ'
  | lst {r' : RV} {θ θ' : Th} {ds : List D} (a : Addr) : θ.lookup a = some ds → Frz (.d (.list ds)) (thDel θ a) r' θ' → Frz (.own a) θ r' θ'
  | rows {r' : RV} {θ θ' : Th} {qs : List Addr} {dss : List (List D)} : Paired (fun q ds => θ.lookup q = some ds) qs dss → qs.Nodup → Frz (.d (.list (dss.map .list))) (thDels θ qs) r' θ' → Frz (.rows qs) θ r' θ'
theorem thDels_nil (θ : Th) : thDels θ [] = θ := by
  unfold thDels
  rw [List.filter_eq_self]
  intro p _
  simp
theorem thDels_cons (θ : Th) (q : Addr) (qs : List Addr) : thDels θ (q :: qs) = thDels (thDel θ q) qs := by
  unfold thDels thDel
  rw [List.filter_filter]
  refine List.filter_congr fun p _ => ?_
  by_cases a : p.1 = q <;> simp [a]
theorem lookup_thDel {θ : Th} {a b : Addr} (h : b ≠ a) : (thDel θ a).lookup b = θ.lookup b := by
  unfold thDel
  induction θ with
  | nil => rfl
  | cons p θ ih =>
    rw [List.filter_cons]
    by_cases e : p.1 = a
    · have : decide (p.1 ≠ a) = false := by simp [e]
      rw [this, if_neg Bool.false_ne_true, ih, List.lookup_cons]
      have : (b == p.1) = false := by simp [e, h]
      rw [this]
    · have : decide (p.1 ≠ a) = true := by simp [e]
      rw [this, if_pos rfl, List.lookup_cons, List.lookup_cons, ih]
theorem HS.dels {K : PySem.W.Frag} {Ps : List Addr} {Zh F0 H : Hp} : ∀ {qs : List Addr} {dss : List (List D)} {θ : Th}, HS K Ps Zh F0 H θ → Paired (fun q ds => θ.lookup q = some ds) qs dss → qs.Nodup →
    HS K Ps Zh F0 H (thDels θ qs) ∧ Mono (vis Zh θ H) (vis Zh (thDels θ qs) H) ∧ DqAll K (vis Zh (thDels θ qs) H) (qs.map V.ref) (dss.map .list)
  | _, _, θ, h, .nil, _ => by
    rw [thDels_nil]
    exact ⟨h, Mono.refl _, .nil⟩
  | _, _, θ, h, @Paired.cons _ _ _ q ds qs dss l t, nd => by
    obtain ⟨n1, n2⟩ := List.nodup_cons.mp nd
    have t' : Paired (fun q' ds => (thDel θ q).lookup q' = some ds) qs dss := by
      refine paired_mem t fun q' d hq e => ?_
      rw [lookup_thDel (show q' ≠ q from fun z => n1 (by rw [← z]; exact hq))]
      exact e
    obtain ⟨h1, h2, h3⟩ := HS.dels h.del t' n2
    rw [thDels_cons]
    exact ⟨h1, (vis_del).mono.trans h2, .cons (dp_mono h2 _ _ (h.delDq l)) h3⟩
where
  paired_mem {F G : Addr → List D → Prop} : ∀ {l1 : List Addr} {l2 : List (List D)}, Paired F l1 l2 → (∀ a b, a ∈ l1 → F a b → G a b) → Paired G l1 l2
    | _, _, .nil, _ => .nil
    | _, _, .cons r t, f => .cons (f _ _ List.mem_cons_self r) (paired_mem t fun a b h => f a b (List.mem_cons_of_mem _ h))
theorem Frz.ok {K : PySem.W.Frag} {Ps : List Addr} {Zh F0 H : Hp} {v : V} {r r' : RV} {θ θ' : Th} (f : Frz r θ r' θ') : HS K Ps Zh F0 H θ → DV K (vis Zh θ H) v r → HS K Ps Zh F0 H θ' ∧ DV K (vis Zh θ' H) v r' := by
  induction f with
  | refl => exact fun h d => ⟨h, d⟩
  | del a f ih => exact fun h d => ih h.del (d.mono vis_del.mono)
  | lst a l f ih => exact fun h d => ih h.del (by
      cases d
      exact h.delDq l)
  | rows l nd f ih =>
    intro h d
    obtain ⟨a, e, hv⟩ := d
    obtain ⟨h1, h2, h3⟩ := HS.dels h l nd
    subst e
    exact ih h1 (Dq.lst (h2 _ _ hv (fun _ z => by cases z)) h3)
def dRetF (T : DTE) : DTS := fun E ρ θ => T E.ex ρ θ fun r θ1 => ∃ r' θ', Frz r θ1 r' θ' ∧ E.rt r' θ'
theorem ds_retF {e : Expr} {T : DTE} {pos : Pos} (h : DE c X e te T) : DS c X (.Return (some e) pos) (tRet te) (dRetF T) := by
  obtain ⟨p, s⟩ := h
  exact ⟨ps_ret p, fun Zh F0 E D L O σ H ρ θ S h => s Zh F0 E.ex L σ H ρ θ _ _ S h fun v r H1 θ1 S1 m1 d1 h1 => by
    obtain ⟨r', θ', f, h2⟩ := h1
    obtain ⟨h3, d3⟩ := f.ok S1.hs d1
    exact O.rt v r' H1 θ' h3 d3 h2⟩
def dIfS (T : DTT) (A B : DTS) : DTS := fun E ρ θ => T E.ex ρ θ fun b θ1 => if b = true then A E ρ θ1 else B E ρ θ1
theorem ds_if {t : Expr} {as bs : List Stmt} {T : DTT} {A B : DTS} {pos : Pos} (h : DT c X t tt T) (ha : DSs c X as ta A) (hb : DSs c X bs tb B) : DS c X (.If t as bs pos) (tIfS tt ta tb) (dIfS T A B) := by
  obtain ⟨p, s⟩ := h
  obtain ⟨pa, sa⟩ := ha
  obtain ⟨pb, sb⟩ := hb
  refine ⟨ps_if p pa pb, fun Zh F0 E D L O σ H ρ θ S h => s Zh F0 E.ex L σ H ρ θ _ _ S h fun b H1 θ1 S1 m1 h1 => ?_⟩
  cases b with
  | true =>
    simp only [if_true] at h1 ⊢
    exact sa Zh F0 E D L O σ H1 ρ θ1 S1 h1
  | false =>
    simp only [Bool.false_eq_true, if_false] at h1 ⊢
    exact sb Zh F0 E D L O σ H1 ρ θ1 S1 h1
/-- while: by an invariant and a measure -/
def dWhile (T : DTT) (B : DTS) : DTS := fun E ρ θ => ∃ W : Nat → Rho → Th → Prop, (∃ m, W m ρ θ) ∧ ∀ m ρ θ, W m ρ θ → T E.ex ρ θ fun b θ1 => if b = true then B { E with nx := fun ρ2 θ2 => ∃ m', m' < m ∧ W m' ρ2 θ2, ct := fun ρ2 θ2 => ∃ m', m' < m ∧ W m' ρ2 θ2, bk := E.nx } ρ θ1 else E.nx ρ θ1
theorem ds_while {t : Expr} {body : List Stmt} {T : DTT} {B : DTS} {pos : Pos} (hp : PassesOwn (model X.prog X.w) X.A X.env X.xe) (h : DT c X t tt T) (hb : DSs c X body tb B) : DS c X (.While t body [] pos) (tWhile tt tb) (dWhile T B) := by
  obtain ⟨p, s⟩ := h
  obtain ⟨pb, sb⟩ := hb
  refine ⟨ps_while hp p pb, fun Zh F0 E D L O σ H ρ θ S h => ?_⟩
  obtain ⟨W, ⟨m0, w0⟩, turn⟩ := h
  refine ⟨fun m σ H => ∃ ρ θ, SD c.K c.Ps Zh F0 σ H ρ θ ∧ W m ρ θ, ⟨m0, ρ, θ, S, w0⟩, fun m σ H hW => ?_⟩
  obtain ⟨ρ, θ, S, w⟩ := hW
  refine s Zh F0 E.ex L σ H ρ θ _ _ S (turn m ρ θ w) fun b H1 θ1 S1 m1 h1 => ?_
  cases b with
  | true =>
    simp only [if_true] at h1 ⊢
    refine ⟨fun σ' H' => ∃ m', m' < m ∧ ∃ ρ θ, SD c.K c.Ps Zh F0 σ' H' ρ θ ∧ W m' ρ θ, fun σ' H' z => z, ?_⟩
    refine sb Zh F0 { E with nx := fun ρ2 θ2 => ∃ m', m' < m ∧ W m' ρ2 θ2, ct := fun ρ2 θ2 => ∃ m', m' < m ∧ W m' ρ2 θ2, bk := E.nx } { D with nx := fun σ' H' => ∃ m', m' < m ∧ ∃ ρ θ, SD c.K c.Ps Zh F0 σ' H' ρ θ ∧ W m' ρ θ, ct := fun σ' H' => ∃ m', m' < m ∧ ∃ ρ θ, SD c.K c.Ps Zh F0 σ' H' ρ θ ∧ W m' ρ θ, bk := D.nx } L ⟨fun σ H ρ θ S h => ?_, O.rt, O.nx, fun σ H ρ θ S h => ?_⟩ σ H1 ρ θ1 S1 h1
    · obtain ⟨m', hm, w'⟩ := h
      exact ⟨m', hm, ρ, θ, S, w'⟩
    · obtain ⟨m', hm, w'⟩ := h
      exact ⟨m', hm, ρ, θ, S, w'⟩
  | false =>
    simp only [Bool.false_eq_true, if_false] at h1 ⊢
    exact O.nx σ H1 ρ θ1 S1 h1
theorem HS.base {K : PySem.W.Frag} {Ps : List Addr} {Zh F0 F1 H : Hp} {θ : Th} (h : HS K Ps Zh F1 H θ) (m : Mono F0 F1) : HS K Ps Zh F0 H θ := ⟨h.hid, m.trans h.old, h.tab, h.own, h.nd⟩
theorem SD.base {K : PySem.W.Frag} {Ps : List Addr} {Zh F0 F1 H : Hp} {σ : L2.St} {ρ : Rho} {θ : Th} (s : SD K Ps Zh F1 σ H ρ θ) (m : Mono F0 F1) : SD K Ps Zh F0 σ H ρ θ := ⟨s.hs.base m, s.env, s.len⟩
/-- from here on -/
theorem SD.here {K : PySem.W.Frag} {Ps : List Addr} {Zh F0 H : Hp} {σ : L2.St} {ρ : Rho} {θ : Th} (s : SD K Ps Zh F0 σ H ρ θ) : SD K Ps Zh (vis Zh θ H) σ H ρ θ := ⟨⟨s.hs.hid, Mono.refl _, s.hs.tab, s.hs.own, s.hs.nd⟩, s.env, s.len⟩
theorem XL.base {Zh F0 F1 : Hp} {Ex : ExW} (l : XL c Zh F0 Ex) (m : Mono F0 F1) : XL c Zh F1 Ex := fun cls d σ H ρ θ xd S x h => l cls d σ H ρ θ xd (S.base m) x h
/-! ### what a for walks -/
structure Feed (c : Cn) (F1 : Hp) (J : It) (items : List D) : Prop where
  go : ∀ Zh i H θ, i < items.length → HS c.K c.Ps Zh F1 H θ → J.go i H
  yld : ∀ Zh (i : Nat) x H H' θ d, items[i]? = some d → HS c.K c.Ps Zh F1 H θ → J.yld i H x H' → HS c.K c.Ps Zh F1 H' θ ∧ Mono (vis Zh θ H) (vis Zh θ H') ∧ Dq c.K (vis Zh θ H') x d
  stop : ∀ Zh i H θ, items.length ≤ i → HS c.K c.Ps Zh F1 H θ → J.stop i H
abbrev DTI := ExW → Rho → Th → (List D → Th → Prop) → Prop
def SimI (c : Cn) (wi : TI) (T : DTI) : Prop := ∀ Zh F0 Ex, XL c Zh F0 Ex → ∀ σ H ρ θ (Ψ : List D → Th → Prop) (R : It → Hp → Prop), SD c.K c.Ps Zh F0 σ H ρ θ → T Ex ρ θ Ψ →
  (∀ J items H' θ', SD c.K c.Ps Zh F0 σ H' ρ θ' → Mono (vis Zh θ H) (vis Zh θ' H') → Feed c (vis Zh θ' H') J items → Ψ items θ' → R J H') → wi σ H R
structure DI (c : Cn) (X : Cx) (tg iter : Expr) (wi : TI) (T : DTI) : Prop where
  pi : PI X tg iter wi
  sim : SimI c wi T
def forD (items : List D) (G : DGt) (B : DTS) (E : DEnds) : Rho → Th → Prop := match items with
  | [] => fun ρ θ => E.nx ρ θ
  | d :: ds => fun ρ θ => G (.d d) ρ fun ρ1 => B { E with nx := forD ds G B E, ct := forD ds G B E, bk := E.nx } ρ1 θ
def dFor (T : DTI) (G : DGt) (B : DTS) : DTS := fun E ρ θ => T E.ex ρ θ fun items θ1 => forD items G B E ρ θ1
theorem ds_for {tg iter : Expr} {body : List Stmt} {T : DTI} {G : DGt} {vs : List Nat} {B : DTS} {pos : Pos} (hp : PassesOwn (model X.prog X.w) X.A X.env X.xe) (hc : X.calm = true) (hi : DI c X tg iter wi T) (hg : DG c X tg g G vs) (hb : DSs c X body tb B)
    (hs : ∀ x, foldedSetIterable iter X.env x = pure x := by intro _; rfl) : DS c X (.For tg iter body [] pos) (tFor wi g tb) (dFor T G B) := by
  obtain ⟨p, si⟩ := hi
  obtain ⟨pg, sg, _⟩ := hg
  obtain ⟨pb, sb⟩ := hb
  refine ⟨ps_for hp hc p pg pb hs, fun Zh F0 E D L O σ H ρ θ S h => ?_⟩
  refine si Zh F0 E.ex L σ H ρ θ _ _ S h fun J items H1 θ1 S1 m1 F h1 => ?_
  have m0 := S1.hs.old
  generalize hF1 : vis Zh θ1 H1 = F1 at F m0
  have L1 : XL c Zh F1 E.ex := L.base m0
  refine ⟨fun i m σ H => ∃ ρ θ, SD c.K c.Ps Zh F1 σ H ρ θ ∧ m + i = items.length + (i - items.length) ∧ forD (items.drop i) G B E ρ θ, ⟨items.length, ρ, θ1, by rw [← hF1]; exact S1.here, by omega, h1⟩, fun i m σ H hW => ?_⟩
  obtain ⟨ρ, θ, S, em, hf⟩ := hW
  cases e : items[i]? with
  | none =>
    have hl : items.length ≤ i := List.getElem?_eq_none_iff.mp e
    rw [List.drop_eq_nil_of_le hl] at hf
    exact .inl ⟨F.stop Zh i H θ hl S.hs, O.nx σ H ρ θ (S.base m0) hf⟩
  | some d =>
    have hl : i < items.length := (List.getElem?_eq_some_iff.mp e).1
    have ed : items[i] = d := (List.getElem?_eq_some_iff.mp e).2
    rw [List.drop_eq_getElem_cons hl, ed] at hf
    refine .inr ⟨F.go Zh i H θ hl S.hs, fun σ' H' => ∃ ρ θ, SD c.K c.Ps Zh F1 σ' H' ρ θ ∧ forD (items.drop (i + 1)) G B E ρ θ, fun σ' H' z => ?_, fun x H2 hy => ?_⟩
    · obtain ⟨ρ', θ', S', h'⟩ := z
      exact ⟨m - 1, by omega, ρ', θ', S', by omega, h'⟩
    · obtain ⟨hs2, m2, dx⟩ := F.yld Zh i x H H2 θ d e S.hs hy
      have S2 := S.to hs2 m2
      refine sg Zh F1 x (.d d) σ H2 ρ θ _ _ S2 dx hf fun σ3 ρ3 S3 h3 => ?_
      refine sb Zh F1 { E with nx := forD (items.drop (i + 1)) G B E, ct := forD (items.drop (i + 1)) G B E, bk := E.nx }
        { D with nx := fun σ' H' => ∃ ρ θ, SD c.K c.Ps Zh F1 σ' H' ρ θ ∧ forD (items.drop (i + 1)) G B E ρ θ, ct := fun σ' H' => ∃ ρ θ, SD c.K c.Ps Zh F1 σ' H' ρ θ ∧ forD (items.drop (i + 1)) G B E ρ θ, bk := D.nx } L1 ?_ σ3 H2 ρ3 θ S3 h3
      exact ⟨fun σ H ρ θ S h => ⟨ρ, θ, S, h⟩, fun v r H θ h d p => O.rt v r H θ (h.base m0) d p, fun σ H ρ θ S h => O.nx σ H ρ θ (S.base m0) h, fun σ H ρ θ S h => ⟨ρ, θ, S, h⟩⟩
/-- a list | a tuple | a text | a range -/
def itemsOf (r : RV) (k : List D → Prop) : Prop := match r with
  | .d (.list ds) => k ds
  | .d (.tuple ds) => k ds
  | .seq ds => k ds
  | _ => False
def dItL (Ta : DTE) : DTI := fun Ex ρ θ Ψ => Ta Ex ρ θ fun r θ1 => match r with
  | .d (.list ds) => Ψ ds θ1
  | .seq ds => Ψ ds θ1
  | _ => False
theorem feed_list {F1 : Hp} {a : Addr} {vs : List V} {ds : List D} (hs : SqL c.K F1 a vs) (hd : DqAll c.K F1 vs ds) : Feed c F1 (Itl c.K a) ds where
  go := fun Zh i H θ hi h => by
    obtain ⟨v, hv, _⟩ := hd.get (List.getElem?_eq_getElem hi)
    exact ⟨vs, v, sqL_up (h.old.sqL hs), hv⟩
  yld := fun Zh i x H H' θ d hi h hy => by
    obtain ⟨rfl, f⟩ := hy
    obtain ⟨v, hv, dv⟩ := hd.get hi
    have e := f vs (sqL_up (h.old.sqL hs))
    rw [hv] at e
    cases e
    exact ⟨h, Mono.refl _, dp_mono h.old _ _ dv⟩
  stop := fun Zh i H θ hi h => ⟨vs, sqL_up (h.old.sqL hs), by rw [hd.length]; exact hi⟩
theorem feed_tup {F1 : Hp} {a : Addr} {vs : List V} {ds : List D} (hs : SqT c.K F1 a vs) (hd : DqAll c.K F1 vs ds) : Feed c F1 (Itt c.K a) ds where
  go := fun Zh i H θ hi h => by
    obtain ⟨v, hv, _⟩ := hd.get (List.getElem?_eq_getElem hi)
    exact ⟨vs, v, sqT_up (h.old.sqT hs), hv⟩
  yld := fun Zh i x H H' θ d hi h hy => by
    obtain ⟨rfl, f⟩ := hy
    obtain ⟨v, hv, dv⟩ := hd.get hi
    have e := f vs (sqT_up (h.old.sqT hs))
    rw [hv] at e
    cases e
    exact ⟨h, Mono.refl _, dp_mono h.old _ _ dv⟩
  stop := fun Zh i H θ hi h => ⟨vs, sqT_up (h.old.sqT hs), by rw [hd.length]; exact hi⟩
theorem di_list {tg e : Expr} {Ta : DTE} (hK : X.K = c.K) (h : DE c X e ta Ta) : DI c X tg e (iList c.K ta) (dItL Ta) := by
  obtain ⟨p, s⟩ := h
  refine ⟨by rw [← hK]; exact pi_list p, fun Zh F0 Ex L σ H ρ θ Ψ R S h k => s Zh F0 Ex L σ H ρ θ _ _ S h fun v r H1 θ1 S1 m1 d1 h1 => ?_⟩
  cases r with
  | own _ => exact h1.elim
  | rows _ => exact h1.elim
  | seq ds =>
    obtain ⟨a, vs, rfl, hs, hd⟩ := d1
    exact ⟨a, rfl, ⟨vs, sqL_up hs⟩, k _ ds H1 θ1 S1 m1 (feed_list hs hd) h1⟩
  | d x =>
    cases x with
    | list ds =>
      cases d1 with
      | lst hs hd => exact ⟨_, rfl, ⟨_, .inl (.inl (vis_some hs).1)⟩, k _ ds H1 θ1 S1 m1 (feed_list (.inl (.inl hs)) hd) h1⟩
    | _ => exact h1.elim
def dItT (Ta : DTE) : DTI := fun Ex ρ θ Ψ => Ta Ex ρ θ fun r θ1 => match r with
  | .d (.tuple ds) => Ψ ds θ1
  | _ => False
theorem di_tup {tg e : Expr} {Ta : DTE} (hK : X.K = c.K) (h : DE c X e ta Ta) : DI c X tg e (iTup c.K ta) (dItT Ta) := by
  obtain ⟨p, s⟩ := h
  refine ⟨by rw [← hK]; exact pi_tup p, fun Zh F0 Ex L σ H ρ θ Ψ R S h k => s Zh F0 Ex L σ H ρ θ _ _ S h fun v r H1 θ1 S1 m1 d1 h1 => ?_⟩
  cases r with
  | own _ => exact h1.elim
  | seq ds => exact h1.elim
  | rows _ => exact h1.elim
  | d x =>
    cases x with
    | tuple ds =>
      cases d1 with
      | tup hs hd => exact ⟨_, rfl, ⟨_, sqT_up hs⟩, k _ ds H1 θ1 S1 m1 (feed_tup hs hd) h1⟩
    | _ => exact h1.elim
def signsD (x : Str) : List D := x.cps.toList.map fun k => .str ⟨#[k]⟩
def dItS (Ta : DTE) : DTI := fun Ex ρ θ Ψ => Ta Ex ρ θ fun r θ1 => match r with
  | .d (.str x) => Ψ (signsD x) θ1
  | _ => False
theorem feed_str {F1 : Hp} {x : Str} : Feed c F1 (Its x) (signsD x) where
  go := fun Zh i H θ hi h => by
    have hi : i < (signsD x).length := hi
    unfold signsD at hi
    show i < x.cps.size
    simpa using hi
  yld := fun Zh i v H H' θ d hi h hy => by
    obtain ⟨rfl, k, hk, rfl⟩ := hy
    unfold signsD at hi
    rw [List.getElem?_map] at hi
    have e : x.cps.toList[i]? = some k := by rw [Array.getElem?_toList]; exact hk
    rw [e] at hi
    cases hi
    exact ⟨h, Mono.refl _, Dq.str _⟩
  stop := fun Zh i H θ hi h => by
    have hi : (signsD x).length ≤ i := hi
    unfold signsD at hi
    show x.cps.size ≤ i
    simpa using hi
theorem di_str {tg e : Expr} {Ta : DTE} (h : DE c X e ta Ta) : DI c X tg e (iStr ta) (dItS Ta) := by
  obtain ⟨p, s⟩ := h
  refine ⟨pi_str p, fun Zh F0 Ex L σ H ρ θ Ψ R S h k => s Zh F0 Ex L σ H ρ θ _ _ S h fun v r H1 θ1 S1 m1 d1 h1 => ?_⟩
  cases r with
  | own _ => exact h1.elim
  | seq ds => exact h1.elim
  | rows _ => exact h1.elim
  | d x =>
    cases x with
    | str x =>
      cases d1
      exact ⟨x, rfl, k _ _ H1 θ1 S1 m1 feed_str h1⟩
    | _ => exact h1.elim
/-- lo, lo + 1, .. -/
def rangeD (lo hi : Int) : List D := (List.range (hi - lo).toNat).map fun i => .int (lo + (i : Nat))
theorem rangeD_length {lo up : Int} : (rangeD lo up).length = (up - lo).toNat := by
  unfold rangeD
  rw [List.length_map, List.length_range]
theorem rangeD_get {lo up : Int} {i : Nat} {d : D} (h : (rangeD lo up)[i]? = some d) : d = .int (lo + (i : Nat)) := by
  unfold rangeD at h
  rw [List.getElem?_map] at h
  cases e : (List.range (up - lo).toNat)[i]? with
  | none => rw [e] at h; cases h
  | some j =>
    rw [e] at h
    have ej : j = i := by
      have := (List.getElem?_eq_some_iff.mp e).2
      simpa using this.symm
    subst ej
    cases h
    rfl
theorem feed_range {F1 : Hp} {lo up : Int} : Feed c F1 (Itr lo (up - lo).toNat) (rangeD lo up) where
  go := fun Zh i H θ hi h => by
    rw [rangeD_length] at hi
    exact hi
  yld := fun Zh i v H H' θ d hi h hy => by
    obtain ⟨rfl, rfl⟩ := hy
    rw [rangeD_get hi]
    exact ⟨h, Mono.refl _, Dq.int _⟩
  stop := fun Zh i H θ hi h => by
    rw [rangeD_length] at hi
    exact hi
/-- bounds of a range -/
def rOk (i : Int) : Prop := -1000000 ≤ i ∧ i ≤ 1000000
theorem rOk.lo {i : Int} (h : rOk i) : -(2 ^ 62) ≤ i ∧ i < 2 ^ 62 := by
  have h1 := h.1
  have h2 := h.2
  constructor <;> omega
def is1I (rs : List RV) (k : Int → Prop) : Prop := match rs with
  | [.d (.int j)] => k j
  | _ => False
def is2I (rs : List RV) (k : Int → Int → Prop) : Prop := match rs with
  | [.d (.int i), .d (.int j)] => k i j
  | _ => False
theorem is1I_of {K : PySem.W.Frag} {F : Hp} {vs : List V} {rs : List RV} {k : Int → Prop} (d : DVs K F vs rs) (h : is1I rs k) : ∃ j, vs = [.int j] ∧ k j := by
  unfold is1I at h
  split at h
  · cases d with
    | cons d1 d2 =>
      cases d2
      cases d1
      exact ⟨_, rfl, h⟩
  · exact h.elim
theorem is2I_of {K : PySem.W.Frag} {F : Hp} {vs : List V} {rs : List RV} {k : Int → Int → Prop} (d : DVs K F vs rs) (h : is2I rs k) : ∃ i j, vs = [.int i, .int j] ∧ k i j := by
  unfold is2I at h
  split at h
  · cases d with
    | cons d1 d2 =>
      cases d2 with
      | cons d2 d3 =>
        cases d3
        cases d1
        cases d2
        exact ⟨_, _, rfl, h⟩
  · exact h.elim
def dItR1 (Ta : DTA) : DTI := fun Ex ρ θ Ψ => Ta Ex ρ θ fun rs θ1 => is1I rs fun j => rOk j ∧ Ψ (rangeD 0 j) θ1
def dItR2 (Ta : DTA) : DTI := fun Ex ρ θ Ψ => Ta Ex ρ θ fun rs θ1 => is2I rs fun i j => rOk i ∧ rOk j ∧ Ψ (rangeD i j) θ1
theorem di_range1 {tg a : Expr} {Ta : DTA} {p pos : Pos} (hg : Gl X "range") (hm : X.mg "range" = none) (h : DA c X [a] ta Ta) (hs : starEach [a] X.env = [(false, eval a X.env)] := by rfl) : DI c X tg (.Call (.Name "range" p) [a] [] pos) (iRng1 ta) (dItR1 Ta) := by
  obtain ⟨p, s⟩ := h
  refine ⟨pi_range1 hg hm p hs, fun Zh F0 Ex L σ H ρ θ Ψ R S h k => s Zh F0 Ex L σ H ρ θ _ _ S h fun vs rs H1 θ1 S1 m1 d1 h1 => ?_⟩
  obtain ⟨j, rfl, ho, h2⟩ := is1I_of d1 h1
  refine ⟨j, rfl, ho.lo.1, ho.lo.2, ?_⟩
  have z := k (Itr 0 (j - 0).toNat) _ H1 θ1 S1 m1 feed_range h2
  rw [Int.sub_zero] at z
  exact z
theorem di_range2 {tg a b : Expr} {Ta : DTA} {p pos : Pos} (hg : Gl X "range") (hm : X.mg "range" = none) (h : DA c X [a, b] ta Ta) (hs : starEach [a, b] X.env = [(false, eval a X.env), (false, eval b X.env)] := by rfl) (hs2 : starEach [b] X.env = [(false, eval b X.env)] := by rfl) :
    DI c X tg (.Call (.Name "range" p) [a, b] [] pos) (iRng2 ta) (dItR2 Ta) := by
  obtain ⟨p, s⟩ := h
  refine ⟨pi_range2 hg hm p hs hs2, fun Zh F0 Ex L σ H ρ θ Ψ R S h k => s Zh F0 Ex L σ H ρ θ _ _ S h fun vs rs H1 θ1 S1 m1 d1 h1 => ?_⟩
  obtain ⟨i, j, rfl, hi, hj, h2⟩ := is2I_of d1 h1
  exact ⟨i, j, rfl, ⟨hi.lo.1, hi.lo.2, hj.lo.1, hj.lo.2⟩, k _ _ H1 θ1 S1 m1 feed_range h2⟩
/-- zip of two lists, of two tuples -/
def zipD : List D → List D → List D
  | x :: xs, y :: ys => .tuple [x, y] :: zipD xs ys
  | _, _ => []
theorem zipD_get : ∀ {xs ys : List D} {i : Nat} {d : D}, (zipD xs ys)[i]? = some d → ∃ x y, xs[i]? = some x ∧ ys[i]? = some y ∧ d = .tuple [x, y]
  | [], _, _, _, h => by simp [zipD] at h
  | x :: xs, [], _, _, h => by simp [zipD] at h
  | x :: xs, y :: ys, 0, _, h => by
    have h : some (PyData.tuple [x, y]) = some _ := h
    cases h
    exact ⟨x, y, rfl, rfl, rfl⟩
  | x :: xs, y :: ys, i + 1, _, h => by
    obtain ⟨u, v, h1, h2, h3⟩ := zipD_get (xs := xs) (ys := ys) (i := i) h
    exact ⟨u, v, by simpa using h1, by simpa using h2, h3⟩
theorem zipD_length : ∀ (xs ys : List D), (zipD xs ys).length = min xs.length ys.length
  | [], ys => by simp [zipD]
  | x :: xs, [] => by simp [zipD]
  | x :: xs, y :: ys => by
    show (zipD xs ys).length + 1 = _
    rw [zipD_length xs ys, List.length_cons, List.length_cons]
    omega
theorem feed_zip {F1 : Hp} {a b : Addr} {vs ws : List V} {xs ys : List D} (ha : SqL c.K F1 a vs) (hb : SqL c.K F1 b ws) (hx : DqAll c.K F1 vs xs) (hy : DqAll c.K F1 ws ys) : Feed c F1 (Itz c.K a b) (zipD xs ys) where
  go := fun Zh i H θ hi h => by
    obtain ⟨x, y, e1, e2, _⟩ := zipD_get (List.getElem?_eq_getElem hi)
    obtain ⟨v, hv, _⟩ := hx.get e1
    obtain ⟨w, hw, _⟩ := hy.get e2
    exact ⟨vs, ws, v, w, sqL_up (h.old.sqL ha), sqL_up (h.old.sqL hb), hv, hw⟩
  yld := fun Zh i v H H' θ d hi h hz => by
    obtain ⟨x, y, e1, e2, rfl⟩ := zipD_get hi
    obtain ⟨T, v1, v2, rfl, nT, rfl, f1, f2⟩ := hz
    obtain ⟨v, hv, dv⟩ := hx.get e1
    obtain ⟨w, hw, dw⟩ := hy.get e2
    have q1 := f1 vs (sqL_up (h.old.sqL ha))
    have q2 := f2 ws (sqL_up (h.old.sqL hb))
    rw [hv] at q1
    rw [hw] at q2
    obtain rfl := Option.some.inj q1
    obtain rfl := Option.some.inj q2
    have m := (vis_upd_sub (Zh := Zh) (θ := θ) (o := .tup [v, w]) nT).mono
    exact ⟨h.new nT, m, Dq.tup (.inl (.inl (h.at nT))) (.cons (dp_mono (h.old.trans m) _ _ dv) (.cons (dp_mono (h.old.trans m) _ _ dw) .nil))⟩
  stop := fun Zh i H θ hi h => by
    rw [zipD_length] at hi
    refine ⟨vs, ws, sqL_up (h.old.sqL ha), sqL_up (h.old.sqL hb), ?_⟩
    rw [hx.length, hy.length]
    omega
theorem feed_zipT {F1 : Hp} {a b : Addr} {vs ws : List V} {xs ys : List D} (ha : SqT c.K F1 a vs) (hb : SqT c.K F1 b ws) (hx : DqAll c.K F1 vs xs) (hy : DqAll c.K F1 ws ys) : Feed c F1 (RZ.ItzT c.K a b) (zipD xs ys) where
  go := fun Zh i H θ hi h => by
    obtain ⟨x, y, e1, e2, _⟩ := zipD_get (List.getElem?_eq_getElem hi)
    obtain ⟨v, hv, _⟩ := hx.get e1
    obtain ⟨w, hw, _⟩ := hy.get e2
    exact ⟨vs, ws, v, w, sqT_up (h.old.sqT ha), sqT_up (h.old.sqT hb), hv, hw⟩
  yld := fun Zh i v H H' θ d hi h hz => by
    obtain ⟨x, y, e1, e2, rfl⟩ := zipD_get hi
    obtain ⟨T, v1, v2, rfl, nT, rfl, f1, f2⟩ := hz
    obtain ⟨v, hv, dv⟩ := hx.get e1
    obtain ⟨w, hw, dw⟩ := hy.get e2
    have q1 := f1 vs (sqT_up (h.old.sqT ha))
    have q2 := f2 ws (sqT_up (h.old.sqT hb))
    rw [hv] at q1
    rw [hw] at q2
    obtain rfl := Option.some.inj q1
    obtain rfl := Option.some.inj q2
    have m := (vis_upd_sub (Zh := Zh) (θ := θ) (o := .tup [v, w]) nT).mono
    exact ⟨h.new nT, m, Dq.tup (.inl (.inl (h.at nT))) (.cons (dp_mono (h.old.trans m) _ _ dv) (.cons (dp_mono (h.old.trans m) _ _ dw) .nil))⟩
  stop := fun Zh i H θ hi h => by
    rw [zipD_length] at hi
    refine ⟨vs, ws, sqT_up (h.old.sqT ha), sqT_up (h.old.sqT hb), ?_⟩
    rw [hx.length, hy.length]
    omega
def is2Z (rs : List RV) (k : List D → Prop) : Prop := match rs with
  | [.d (.list xs), .d (.list ys)] => k (zipD xs ys)
  | [.d (.tuple xs), .d (.tuple ys)] => k (zipD xs ys)
  | _ => False
def dItZ (Ta : DTA) : DTI := fun Ex ρ θ Ψ => Ta Ex ρ θ fun rs θ1 => is2Z rs fun ds => Ψ ds θ1
theorem di_zip {a b : Expr} {Ta : DTA} {p pos tpos : Pos} {elts : List Expr} {kk : Nat} (hK : X.K = c.K) (hg : Gl X "zip") (hm : X.mg "zip" = none) (h : DA c X [a, b] ta Ta) (hs : starEach [a, b] X.env = (false, eval a X.env) :: starEach [b] X.env := by rfl) (hpl : (backTo pos (starEach [b] X.env)).any (·.1) = false := by rfl) :
    DI c X (.Tuple elts kk tpos) (.Call (.Name "zip" p) [a, b] [] pos) (RZ.iZipA c.K ta) (dItZ Ta) := by
  obtain ⟨p, s⟩ := h
  refine ⟨by rw [← hK]; exact RZ.pi_zipA hg hm p hs hpl, fun Zh F0 Ex L σ H ρ θ Ψ R S h k => s Zh F0 Ex L σ H ρ θ _ _ S h fun vs rs H1 θ1 S1 m1 d1 h1 => ?_⟩
  unfold is2Z at h1
  split at h1
  · cases d1 with
    | cons d1 d2 =>
      cases d2 with
      | cons d2 d3 =>
        cases d3
        cases d1 with
        | lst hs1 hd1 =>
          cases d2 with
          | lst hs2 hd2 => exact ⟨_, _, _, _, rfl, .inl ⟨.inl (.inl (vis_some hs1).1), .inl (.inl (vis_some hs2).1), k _ _ H1 θ1 S1 m1 (feed_zip (.inl (.inl hs1)) (.inl (.inl hs2)) hd1 hd2) h1⟩⟩
  · cases d1 with
    | cons d1 d2 =>
      cases d2 with
      | cons d2 d3 =>
        cases d3
        cases d1 with
        | tup hs1 hd1 =>
          cases d2 with
          | tup hs2 hd2 => exact ⟨_, _, _, _, rfl, .inr ⟨sqT_up hs1, sqT_up hs2, k _ _ H1 θ1 S1 m1 (feed_zipT hs1 hs2 hd1 hd2) h1⟩⟩
  · exact h1.elim
/-- enumerate of a list -/
def enumD (n : Nat) : List D → List D
  | [] => []
  | x :: xs => .tuple [.int n, x] :: enumD (n + 1) xs
theorem enumD_get : ∀ {xs : List D} {n i : Nat} {d : D}, (enumD n xs)[i]? = some d → ∃ x, xs[i]? = some x ∧ d = .tuple [.int ((n + i : Nat)), x]
  | [], _, _, _, h => by simp [enumD] at h
  | x :: xs, n, 0, _, h => by
    have h : some (PyData.tuple [.int n, x]) = some _ := h
    cases h
    exact ⟨x, rfl, rfl⟩
  | x :: xs, n, i + 1, _, h => by
    obtain ⟨u, h1, h2⟩ := enumD_get (xs := xs) (n := n + 1) (i := i) h
    refine ⟨u, by simpa using h1, ?_⟩
    rw [h2]
    have : n + 1 + i = n + (i + 1) := by omega
    rw [this]
theorem enumD_length : ∀ (xs : List D) (n : Nat), (enumD n xs).length = xs.length
  | [], _ => rfl
  | x :: xs, n => by
    show (enumD (n + 1) xs).length + 1 = _
    rw [enumD_length xs, List.length_cons]
theorem feed_enum {F1 : Hp} {a : Addr} {vs : List V} {xs : List D} (ha : SqL c.K F1 a vs) (hx : DqAll c.K F1 vs xs) : Feed c F1 (Ite c.K a) (enumD 0 xs) where
  go := fun Zh i H θ hi h => by
    obtain ⟨x, e1, _⟩ := enumD_get (List.getElem?_eq_getElem hi)
    obtain ⟨v, hv, _⟩ := hx.get e1
    exact ⟨vs, v, sqL_up (h.old.sqL ha), hv⟩
  yld := fun Zh i v H H' θ d hi h hz => by
    obtain ⟨x, e1, rfl⟩ := enumD_get hi
    obtain ⟨T, v1, rfl, nT, rfl, f1⟩ := hz
    obtain ⟨v, hv, dv⟩ := hx.get e1
    have q1 := f1 vs (sqL_up (h.old.sqL ha))
    rw [hv] at q1
    obtain rfl := Option.some.inj q1
    have m := (vis_upd_sub (Zh := Zh) (θ := θ) (o := .tup [.int (i : Nat), v]) nT).mono
    refine ⟨h.new nT, m, Dq.tup (.inl (.inl (h.at nT))) (.cons ?_ (.cons (dp_mono (h.old.trans m) _ _ dv) .nil))⟩
    rw [Nat.zero_add]
    exact Dq.int _
  stop := fun Zh i H θ hi h => by
    rw [enumD_length] at hi
    exact ⟨vs, sqL_up (h.old.sqL ha), by rw [hx.length]; exact hi⟩
def is1L (rs : List RV) (k : List D → Prop) : Prop := match rs with
  | [.d (.list xs)] => k xs
  | [.seq xs] => k xs
  | _ => False
theorem is1L_of {K : PySem.W.Frag} {F : Hp} {vs : List V} {rs : List RV} {k : List D → Prop} (d : DVs K F vs rs) (h : is1L rs k) : ∃ a ws ds, vs = [.ref a] ∧ SqL K F a ws ∧ DqAll K F ws ds ∧ k ds := by
  unfold is1L at h
  split at h
  · cases d with
    | cons d1 d2 =>
      cases d2
      cases d1 with
      | lst hs hd => exact ⟨_, _, _, rfl, .inl (.inl hs), hd, h⟩
  · cases d with
    | cons d1 d2 =>
      cases d2
      obtain ⟨a, ws, rfl, hs, hd⟩ := d1
      exact ⟨a, ws, _, rfl, hs, hd, h⟩
  · exact h.elim
def dItE (Ta : DTA) : DTI := fun Ex ρ θ Ψ => Ta Ex ρ θ fun rs θ1 => is1L rs fun ds => Ψ (enumD 0 ds) θ1
theorem di_enum {a : Expr} {Ta : DTA} {p pos tpos : Pos} {elts : List Expr} {kk : Nat} (hK : X.K = c.K) (hg : Gl X "enumerate") (hm : X.mg "enumerate" = none) (h : DA c X [a] ta Ta) (hs : starEach [a] X.env = [(false, eval a X.env)] := by rfl) :
    DI c X (.Tuple elts kk tpos) (.Call (.Name "enumerate" p) [a] [] pos) (iEnum c.K ta) (dItE Ta) := by
  obtain ⟨p, s⟩ := h
  refine ⟨by rw [← hK]; exact pi_enum hg hm p hs, fun Zh F0 Ex L σ H ρ θ Ψ R S h k => s Zh F0 Ex L σ H ρ θ _ _ S h fun vs rs H1 θ1 S1 m1 d1 h1 => ?_⟩
  obtain ⟨a, ws, ds, rfl, hs, hd, h2⟩ := is1L_of d1 h1
  exact ⟨a, ws, rfl, sqL_up hs, k _ _ H1 θ1 S1 m1 (feed_enum hs hd) h2⟩
end
end TlD
set_option Elab.async false
set_option linter.all false
set_option maxRecDepth 100000
set_option maxHeartbeats 4000000
namespace TlD
open PySem PySem.Spec PyProof.Rows L2 GxR

/-! ### a thing put out of sight -/
def cutA (H : Hp) (a : Addr) : Hp := fun b => if b = a then none else H b
theorem cutA_same {H : Hp} {a : Addr} : cutA H a a = none := by unfold cutA; rw [if_pos rfl]
theorem cutA_ne {H : Hp} {a b : Addr} (h : b ≠ a) : cutA H a b = H b := by unfold cutA; rw [if_neg h]
theorem cutA_upd {H : Hp} {a : Addr} {o : HO} (h : H a = none) : cutA (upd H a o) a = H := by
  funext b
  by_cases c : b = a
  · rw [c, cutA_same, h]
  · rw [cutA_ne c, upd_ne c]
theorem upd_cutA {H : Hp} {a : Addr} {o : HO} (h : H a = some o) : upd (cutA H a) a o = H := by
  funext b
  by_cases c : b = a
  · rw [c, upd_same, h]
  · rw [upd_ne c, cutA_ne c]
section
variable {K : PySem.W.Frag} {Ps : List Addr} {Zh F0 H : Hp} {θ : Th} {a : Addr} {o : HO} {σ : L2.St} {ρ : Rho}
theorem vis_hide (h : H a = none) : vis (upd Zh a o) θ (upd H a o) = vis Zh θ H := by
  funext b
  unfold vis
  by_cases c : b = a
  · subst c
    rw [upd_same, if_pos (show (some o).isSome = true ∨ b ∈ List.map (fun x => x.fst) θ from Or.inl rfl)]
    split
    · rfl
    · exact h.symm
  · rw [upd_ne c, upd_ne c]
theorem HS.hide (x : HS K Ps Zh F0 H θ) (h : H a = none) : HS K Ps (upd Zh a o) F0 (upd H a o) θ := by
  have ev := vis_hide (Zh := Zh) (θ := θ) (o := o) h
  refine ⟨fun b u e => ?_, by rw [ev]; exact x.old, fun P hP => ?_, fun p hp => ?_, x.nd⟩
  · by_cases c : b = a
    · subst c
      rw [upd_same] at e ⊢
      exact e
    · rw [upd_ne c] at e ⊢
      exact x.hid b u e
  · obtain ⟨⟨ps, e, ht⟩, z⟩ := x.tab P hP
    have c := ne_of_none e h
    exact ⟨⟨ps, by rw [upd_ne c]; exact e, ht⟩, by rw [upd_ne c]; exact z⟩
  · obtain ⟨z, vs, e, d⟩ := x.own p hp
    have c := ne_of_none e h
    exact ⟨by rw [upd_ne c]; exact z, vs, by rw [upd_ne c]; exact e, by rw [ev]; exact d⟩
theorem vis_unhide (hZ : Zh a = none) : vis Zh θ (cutA H a) = vis (upd Zh a o) θ H := by
  funext b
  unfold vis
  by_cases c : b = a
  · subst c
    rw [upd_same, cutA_same]
    rw [if_pos (show (some o).isSome = true ∨ b ∈ List.map (fun x => x.fst) θ from Or.inl rfl)]
    split <;> rfl
  · rw [upd_ne c, cutA_ne c]
theorem HS.unhide (x : HS K Ps (upd Zh a o) F0 H θ) (hZ : Zh a = none) : HS K Ps Zh F0 (cutA H a) θ ∧ H a = some o := by
  have ev := vis_unhide (H := H) (θ := θ) (o := o) hZ
  have ea : H a = some o := x.hid a o upd_same
  refine ⟨⟨fun b u e => ?_, by rw [ev]; exact x.old, fun P hP => ?_, fun p hp => ?_, x.nd⟩, ea⟩
  · have c : b ≠ a := fun z => by rw [z, hZ] at e; cases e
    rw [cutA_ne c]
    exact x.hid b u (by rw [upd_ne c]; exact e)
  · obtain ⟨⟨ps, e, ht⟩, z⟩ := x.tab P hP
    have c : P ≠ a := fun q => by rw [q, upd_same] at z; cases z
    exact ⟨⟨ps, by rw [cutA_ne c]; exact e, ht⟩, by rw [upd_ne c] at z; exact z⟩
  · obtain ⟨z, vs, e, d⟩ := x.own p hp
    have c : p.1 ≠ a := fun q => by rw [q, upd_same] at z; cases z
    exact ⟨by rw [upd_ne c] at z; exact z, vs, by rw [cutA_ne c]; exact e, by rw [ev]; exact d⟩
theorem SD.hide (x : SD K Ps Zh F0 σ H ρ θ) (h : H a = none) : SD K Ps (upd Zh a o) F0 σ (upd H a o) ρ θ :=
  ⟨x.hs.hide h, fun i r e => by rw [vis_hide h]; exact x.env i r e, x.len⟩
theorem SD.unhide (x : SD K Ps (upd Zh a o) F0 σ H ρ θ) (hZ : Zh a = none) : SD K Ps Zh F0 σ (cutA H a) ρ θ :=
  ⟨(x.hs.unhide hZ).1, fun i r e => by rw [vis_unhide hZ]; exact x.env i r e, x.len⟩
theorem wipeR_get : ∀ (vs : List Nat) (i : Nat) (r : RV), (wipeR ρ vs)[i]? = some (some r) → ρ[i]? = some (some r) ∧ i ∉ vs
  | [], i, r, h => ⟨h, by simp⟩
  | v :: vs, i, r, h => by
    unfold wipeR at h
    rw [unset_set] at h
    by_cases c : v = i
    · subst c
      by_cases hl : v < (wipeR ρ vs).length
      · rw [List.getElem?_set_self hl] at h; cases h
      · rw [List.getElem?_eq_none (by rw [List.length_set]; omega)] at h; cases h
    · rw [List.getElem?_set_ne c] at h
      obtain ⟨h1, h2⟩ := wipeR_get vs i r h
      exact ⟨h1, by simp only [List.mem_cons, not_or]; exact ⟨fun e => c e.symm, h2⟩⟩
theorem wipeR_length : ∀ (vs : List Nat), (wipeR ρ vs).length = ρ.length
  | [] => rfl
  | v :: vs => by
    unfold wipeR
    rw [unset_set, List.length_set, wipeR_length vs]
theorem SD.wipe (x : SD K Ps Zh F0 σ H ρ θ) (vs : List Nat) : SD K Ps Zh F0 (wipe σ vs) H (wipeR ρ vs) θ := by
  refine ⟨x.hs, fun i r e => ?_, by rw [wipe_length, wipeR_length]; exact x.len⟩
  obtain ⟨h1, h2⟩ := wipeR_get vs i r e
  obtain ⟨v, h3, h4⟩ := x.env i r h1
  exact ⟨v, by rw [wipe_get, if_neg (fun z => h2 z.1)]; exact h3, h4⟩
end
/-- plain data -/
def asD (r : RV) (k : D → Prop) : Prop := match r with
  | .d x => k x
  | _ => False
theorem asD_of {K : PySem.W.Frag} {F : Hp} {v : V} {r : RV} {k : D → Prop} (d : DV K F v r) (h : asD r k) : ∃ x, Dq K F v x ∧ k x := by
  cases r with
  | d x => exact ⟨x, d, h⟩
  | own _ => exact h.elim
  | seq _ => exact h.elim
  | rows _ => exact h.elim
abbrev noEx : ExW := fun _ _ _ => False
theorem xl_no {c : Cn} {Zh F0 : Hp} : XL c Zh F0 noEx := fun _ _ _ _ _ _ _ _ _ h => h.elim
section
variable {c : Cn} {X : Cx}
/-! ### comprehensions -/
def lcD (G : DGt) (TT : DTT) (TE : DTE) (ρw : Rho) (Φ : List D → Th → Prop) : List D → List D → Th → Prop
  | [], acc, θ => Φ acc θ
  | d :: ds, acc, θ => G (.d d) ρw fun ρ1 => TT noEx ρ1 θ fun b θ1 => if b = true then TE noEx ρ1 θ1 fun r θ2 => asD r fun y => acc.length < 100000 ∧ lcD G TT TE ρw Φ ds (acc ++ [y]) θ2 else lcD G TT TE ρw Φ ds acc θ1
def dLc (T : DTI) (G : DGt) (TT : DTT) (TE : DTE) (vs : List Nat) : ExW → Rho → Th → (List D → Th → Prop) → Prop := fun Ex ρ θ Φ => T Ex ρ θ fun items θ1 => lcD G TT TE (wipeR ρ vs) Φ items [] θ1
def dYes : DTT := fun _ _ θ Φ => Φ true θ
/-- a clause's tests -/
structure DTs (c : Cn) (X : Cx) (ifs : List Expr) (t : TT) (T : DTT) : Prop where
  pts : PTs X ifs t
  sim : SimT c t T
theorem dts_nil : DTs c X [] tYes dYes := ⟨pts_nil, fun Zh F0 Ex L σ H ρ θ Φ Q S h k => k true H θ S (Mono.refl _) h⟩
theorem dts_one {e : Expr} (h : DT c X e t T) : DTs c X [e] t T := ⟨pts_one h.pt, h.sim⟩
theorem sim_lc {wi : TI} {T : DTI} {g : TG} {G : DGt} {tt : TT} {TT : DTT} {te : TE} {TE : DTE} {vs us : List Nat} (si : SimI c wi T) (sg : SimG c g G) (kw : KeepW vs g) (mo : MonG g) (st : SimT c tt TT) (se : SimE c te TE) (hv : ∀ v ∈ vs, v ∈ us) :
    NewL c (tLc wi g tt te us) (dLc T G TT TE us) := by
  intro Zh F0 Ex L σ H ρ θ Φ Q S h k
  refine si Zh F0 Ex L σ H ρ θ _ _ S h fun J items H1 θ1 S1 m1 F h1 => ?_
  have m0 := S1.hs.old
  generalize hF1 : vis Zh θ1 H1 = F1 at F m0 m1
  intro D hD
  obtain ⟨nD, _, _⟩ := S1.hs.noP hD
  refine ⟨fun i m H => ∃ θ acc va, H D = some (.lst va) ∧ SD c.K c.Ps Zh F1 σ (cutA H D) ρ θ ∧ DqAll c.K (vis Zh θ (cutA H D)) va acc ∧ m + i = items.length + (i - items.length) ∧ lcD G TT TE (wipeR ρ us) Φ (items.drop i) acc θ,
    ⟨items.length, θ1, [], [], upd_same, by rw [cutA_upd hD, ← hF1]; exact S1.here, .nil, by omega, h1⟩, fun i m H hW => ?_⟩
  obtain ⟨θ, acc, va, eD, S, da, em, hf⟩ := hW
  have eH := upd_cutA eD
  have SH : SD c.K c.Ps (upd Zh D (.lst va)) F1 σ H ρ θ := by
    have z := S.hide (o := .lst va) cutA_same
    rw [eH] at z
    exact z
  have vH : vis (upd Zh D (.lst va)) θ H = vis Zh θ (cutA H D) := (vis_unhide nD).symm
  cases e : items[i]? with
  | none =>
    have hl : items.length ≤ i := List.getElem?_eq_none_iff.mp e
    rw [List.drop_eq_nil_of_le hl] at hf
    refine .inl ⟨F.stop _ i H θ hl SH.hs, ?_⟩
    have z := k va acc (cutA H D) θ (S.base m0) (m1.trans S.hs.old) da hf D cutA_same
    rw [eH] at z
    exact z
  | some d =>
    have hl : i < items.length := (List.getElem?_eq_some_iff.mp e).1
    have ed : items[i] = d := (List.getElem?_eq_some_iff.mp e).2
    rw [List.drop_eq_getElem_cons hl, ed] at hf
    refine .inr ⟨F.go _ i H θ hl SH.hs, fun H' => ∃ θ acc va, H' D = some (.lst va) ∧ SD c.K c.Ps Zh F1 σ (cutA H' D) ρ θ ∧ DqAll c.K (vis Zh θ (cutA H' D)) va acc ∧ lcD G TT TE (wipeR ρ us) Φ (items.drop (i + 1)) acc θ, fun H' z => ?_, fun x H2 hy => ?_⟩
    · obtain ⟨θ', acc', va', e', S', d', h'⟩ := z
      exact ⟨m - 1, by omega, θ', acc', va', e', S', d', by omega, h'⟩
    · obtain ⟨hs2, m2, dx⟩ := F.yld _ i x H H2 θ d e SH.hs hy
      have S2 := SH.to hs2 m2
      have S2w := S2.wipe us
      refine mo _ _ _ _ _ (fun σ3 H3 q => ⟨(wipe_of q.1), q.2⟩) (kw x (wipe σ us) H2 _ us hv (sg _ F1 x (.d d) _ H2 _ θ _ _ S2w dx hf fun σ3 ρ3 S3 h3 => st _ F1 noEx xl_no σ3 H2 ρ3 θ _ _ S3 h3 fun b H4 θ4 S4 m4 h4 => ?_))
      -- back to the def's slots
      have back : ∀ {H' : Hp} {θ' : Th}, HS c.K c.Ps (upd Zh D (.lst va)) F1 H' θ' → Mono (vis (upd Zh D (.lst va)) θ H2) (vis (upd Zh D (.lst va)) θ' H') → SD c.K c.Ps Zh F1 σ (cutA H' D) ρ θ' ∧ DqAll c.K (vis Zh θ' (cutA H' D)) va acc := fun {H' θ'} hs' m' => by
        have S' := (S2.to hs' m').unhide nD
        refine ⟨S', ?_⟩
        rw [vis_unhide (o := .lst va) nD]
        refine dps_mono m' _ _ (dps_mono m2 _ _ ?_)
        rw [vH]
        exact da
      cases b with
      | false =>
        simp only [Bool.false_eq_true, if_false] at h4 ⊢
        obtain ⟨S5, d5⟩ := back S4.hs m4
        exact ⟨θ4, acc, va, (S4.hs.unhide nD).2, S5, d5, h4⟩
      | true =>
        simp only [if_true] at h4 ⊢
        refine se _ F1 noEx xl_no σ3 H4 ρ3 θ4 _ _ S4 h4 fun v r H5 θ5 S5 m5 d5 h5 => ?_
        obtain ⟨y, dy, hz, h5⟩ := asD_of d5 h5
        obtain ⟨S6, d6⟩ := back S5.hs (m4.trans m5)
        have eD5 := (S5.hs.unhide nD).2
        have ly : va.length < sizeLine := by
          rw [d6.length]
          exact Nat.lt_of_lt_of_le hz (by decide)
        refine ⟨va, eD5, ly, θ5, acc ++ [y], va ++ [v], upd_same, ?_, ?_, h5⟩
        · have e7 : cutA (upd H5 D (.lst (va ++ [v]))) D = cutA H5 D := by
            funext b
            by_cases cc : b = D
            · rw [cc, cutA_same, cutA_same]
            · rw [cutA_ne cc, upd_ne cc, cutA_ne cc]
          rw [e7]
          exact S6
        · have e7 : cutA (upd H5 D (.lst (va ++ [v]))) D = cutA H5 D := by
            funext b
            by_cases cc : b = D
            · rw [cc, cutA_same, cutA_same]
            · rw [cutA_ne cc, upd_ne cc, cutA_ne cc]
          rw [e7]
          refine d6.append (.cons ?_ .nil)
          rw [vis_unhide (o := .lst va) nD]
          exact dy
where
  wipe_of {σ : L2.St} {us : List Nat} {σ3 : L2.St} (h : wipe σ3 us = wipe (wipe σ us) us) : wipe σ3 us = wipe σ us := h.trans (TlG.wipe_wipe σ us)
end
end TlD
set_option Elab.async false
set_option linter.all false
set_option maxRecDepth 100000
set_option maxHeartbeats 4000000
namespace TlD
open PySem PySem.Spec PyProof.Rows L2 GxR TlG
section
variable {c : Cn} {X : Cx}
theorem lc_parts {elt tg : Expr} {ifs : List Expr} {scope : Scope} {own : List (Str × Nat)} {wi : TI} {T : DTI} {g : TG} {G : DGt} {tt : TT} {TT : DTT} {te : TE} {TE : DTE} {vs : List Nat} (si : SimI c wi T)
    (hg : ∀ (s : Shared) (H : Hp) (C : Addr) (cl : List (Str × Addr)) (fp : List Addr), DG c (X.blk s H scope (compEnvC scope cl C X.env) fp) tg g G vs) (ht : ∀ (s : Shared) (H : Hp) (C : Addr) (cl : List (Str × Addr)) (fp : List Addr), DTs c (X.blk s H scope (compEnvC scope cl C X.env) fp) ifs tt TT)
    (he : ∀ (s : Shared) (H : Hp) (C : Addr) (cl : List (Str × Addr)) (fp : List Addr), DE c (X.blk s H scope (compEnvC scope cl C X.env) fp) elt te TE) (hv : ∀ v ∈ vs, v ∈ own.map (·.2)) : NewL c (tLc wi g tt te (own.map (·.2))) (dLc T G TT TE (own.map (·.2))) :=
  sim_lc si (hg X.s_0 (fun _ => none) 0 [] []).sim (hg X.s_0 (fun _ => none) 0 [] []).kw (hg X.s_0 (fun _ => none) 0 [] []).mo (ht X.s_0 (fun _ => none) 0 [] []).sim (he X.s_0 (fun _ => none) 0 [] []).sim hv
theorem de_lcN {elt tg iter : Expr} {ifs : List Expr} {scope : Scope} {own : List (Str × Nat)} {pos : Pos} {wi : TI} {T : DTI} {g : TG} {G : DGt} {tt : TT} {TT : DTT} {te : TE} {TE : DTE} {vs : List Nat} (hc : X.calm = true) (hN : X.N.Nodup) (hi : DI c X tg iter wi T) (ok : BlkOk X.N X.env.scope scope own)
    (hg : ∀ (s : Shared) (H : Hp) (C : Addr) (cl : List (Str × Addr)) (fp : List Addr), DG c (X.blk s H scope (compEnvC scope cl C X.env) fp) tg g G vs) (ht : ∀ (s : Shared) (H : Hp) (C : Addr) (cl : List (Str × Addr)) (fp : List Addr), DTs c (X.blk s H scope (compEnvC scope cl C X.env) fp) ifs tt TT)
    (he : ∀ (s : Shared) (H : Hp) (C : Addr) (cl : List (Str × Addr)) (fp : List Addr), DE c (X.blk s H scope (compEnvC scope cl C X.env) fp) elt te TE) (hv : ∀ v ∈ vs, v ∈ own.map (·.2)) (hs : ∀ x, foldedSetIterable iter X.env x = pure x := by intro _; rfl) :
    PE X (.ListComp elt [⟨tg, iter, ifs, 0⟩] scope pos) (tLc wi g tt te (own.map (·.2))) ∧ NewL c (tLc wi g tt te (own.map (·.2))) (dLc T G TT TE (own.map (·.2))) :=
  ⟨pe_lc hc hN hi.pi ok (fun s H C cl fp => (hg s H C cl fp).pg) (fun s H C cl fp => (ht s H C cl fp).pts) (fun s H C cl fp => (he s H C cl fp).pe) hs, lc_parts hi.sim hg ht he hv⟩
theorem de_newP {e : Expr} {te : TE} {T : ExW → Rho → Th → (List D → Th → Prop) → Prop} (h : PE X e te ∧ NewL c te T) : DE c X e te (dNewP T) := ⟨h.1, sim_newP h.2⟩
theorem de_newO {e : Expr} {te : TE} {T : ExW → Rho → Th → (List D → Th → Prop) → Prop} (h : PE X e te ∧ NewL c te T) : DE c X e te (dNewO T) := ⟨h.1, sim_newO h.2⟩
/-- y = [..], a statement of its own -/
theorem ds_setLc {i : Nat} {y : Str} {py : Pos} {elt tg iter : Expr} {ifs : List Expr} {scope : Scope} {own : List (Str × Nat)} {pos spos : Pos} {wi : TI} {T : DTI} {g : TG} {G : DGt} {tt : TT} {TT : DTT} {te : TE} {TE : DTE} {vs : List Nat} (hc : X.calm = true) (hN : X.N.Nodup) (hy : X.N[i]? = some y) (hyl : X.env.scope.names.lookup y = some .local)
    (hsw : swapsWith (.ListComp elt [⟨tg, iter, ifs, 0⟩] scope pos) (some (.Name y py)) spos.line X.env = pure true) (hi : DI c X tg iter wi T) (ok : BlkOk X.N X.env.scope scope own)
    (hg : ∀ (s : Shared) (H : Hp) (C : Addr) (cl : List (Str × Addr)) (fp : List Addr), DG c (X.blk s H scope (compEnvC scope cl C X.env) fp) tg g G vs) (ht : ∀ (s : Shared) (H : Hp) (C : Addr) (cl : List (Str × Addr)) (fp : List Addr), DTs c (X.blk s H scope (compEnvC scope cl C X.env) fp) ifs tt TT)
    (he : ∀ (s : Shared) (H : Hp) (C : Addr) (cl : List (Str × Addr)) (fp : List Addr), DE c (X.blk s H scope (compEnvC scope cl C X.env) fp) elt te TE) (hv : ∀ v ∈ vs, v ∈ own.map (·.2)) (hs : ∀ x, foldedSetIterable iter X.env x = pure x := by intro _; rfl) :
    DS c X (.Assign [.Name y py] (.ListComp elt [⟨tg, iter, ifs, 0⟩] scope pos) spos) (tAsg (tLc wi g tt te (own.map (·.2))) (gName i)) (dSet i (dNewP (dLc T G TT TE (own.map (·.2))))) :=
  ⟨ps_setLc hc hN hy hyl hsw hi.pi ok (fun s H C cl fp => (hg s H C cl fp).pg) (fun s H C cl fp => (ht s H C cl fp).pts) (fun s H C cl fp => (he s H C cl fp).pe) hs,
    fun Zh F0 E D L O σ H ρ θ S h => sim_newP (lc_parts hi.sim hg ht he hv) Zh F0 E.ex L σ H ρ θ _ _ S h fun v r H1 θ1 S1 m1 d1 h1 => O.nx _ H1 _ θ1 (S1.set d1) (by rw [← put_set]; exact h1)⟩
theorem ds_setLcO {i : Nat} {y : Str} {py : Pos} {elt tg iter : Expr} {ifs : List Expr} {scope : Scope} {own : List (Str × Nat)} {pos spos : Pos} {wi : TI} {T : DTI} {g : TG} {G : DGt} {tt : TT} {TT : DTT} {te : TE} {TE : DTE} {vs : List Nat} (hc : X.calm = true) (hN : X.N.Nodup) (hy : X.N[i]? = some y) (hyl : X.env.scope.names.lookup y = some .local)
    (hsw : swapsWith (.ListComp elt [⟨tg, iter, ifs, 0⟩] scope pos) (some (.Name y py)) spos.line X.env = pure true) (hi : DI c X tg iter wi T) (ok : BlkOk X.N X.env.scope scope own)
    (hg : ∀ (s : Shared) (H : Hp) (C : Addr) (cl : List (Str × Addr)) (fp : List Addr), DG c (X.blk s H scope (compEnvC scope cl C X.env) fp) tg g G vs) (ht : ∀ (s : Shared) (H : Hp) (C : Addr) (cl : List (Str × Addr)) (fp : List Addr), DTs c (X.blk s H scope (compEnvC scope cl C X.env) fp) ifs tt TT)
    (he : ∀ (s : Shared) (H : Hp) (C : Addr) (cl : List (Str × Addr)) (fp : List Addr), DE c (X.blk s H scope (compEnvC scope cl C X.env) fp) elt te TE) (hv : ∀ v ∈ vs, v ∈ own.map (·.2)) (hs : ∀ x, foldedSetIterable iter X.env x = pure x := by intro _; rfl) :
    DS c X (.Assign [.Name y py] (.ListComp elt [⟨tg, iter, ifs, 0⟩] scope pos) spos) (tAsg (tLc wi g tt te (own.map (·.2))) (gName i)) (dSet i (dNewO (dLc T G TT TE (own.map (·.2))))) :=
  ⟨ps_setLc hc hN hy hyl hsw hi.pi ok (fun s H C cl fp => (hg s H C cl fp).pg) (fun s H C cl fp => (ht s H C cl fp).pts) (fun s H C cl fp => (he s H C cl fp).pe) hs,
    fun Zh F0 E D L O σ H ρ θ S h => sim_newO (lc_parts hi.sim hg ht he hv) Zh F0 E.ex L σ H ρ θ _ _ S h fun v r H1 θ1 S1 m1 d1 h1 => O.nx _ H1 _ θ1 (S1.set d1) (by rw [← put_set]; exact h1)⟩

/-! ### all(..), any(..) of a generator expression -/
def genD (G : DGt) (TT : DTT) (TE : DTE) (ρw : Rho) (Yv : Bool → Th → Prop → Prop) (Φe : Th → Prop) : List D → Th → Prop
  | [], θ => Φe θ
  | d :: ds, θ => G (.d d) ρw fun ρ1 => TT noEx ρ1 θ fun b θ1 => if b = true then TE noEx ρ1 θ1 fun r θ2 => asB r fun k => Yv k θ2 (genD G TT TE ρw Yv Φe ds θ2) else genD G TT TE ρw Yv Φe ds θ1
def dAll (T : DTI) (G : DGt) (TT : DTT) (TE : DTE) (vs : List Nat) : DTE := fun Ex ρ θ Φ => T Ex ρ θ fun items θ1 => genD G TT TE (wipeR ρ vs) (fun k θ2 nx => if k = true then nx else Φ (.d (.bool false)) θ2) (fun θ2 => Φ (.d (.bool true)) θ2) items θ1
def dAny (T : DTI) (G : DGt) (TT : DTT) (TE : DTE) (vs : List Nat) : DTE := fun Ex ρ θ Φ => T Ex ρ θ fun items θ1 => genD G TT TE (wipeR ρ vs) (fun k θ2 nx => if k = true then Φ (.d (.bool true)) θ2 else nx) (fun θ2 => Φ (.d (.bool false)) θ2) items θ1
theorem sim_gen {P : Addr} {wi : TI} {T : DTI} {g : TG} {G : DGt} {tt : TT} {TT : DTT} {te : TE} {TE : DTE} {vs us : List Nat} {yv : VK → V → Hp → Prop → Prop} {ve : V} {YD : RK → Bool → Th → Prop → Prop} {be : Bool} (hP : P ∈ c.Ps) (si : SimI c wi T) (sg : SimG c g G) (kw : KeepW vs g) (mo : MonG g) (st : SimT c tt TT) (se : SimE c te TE) (hv : ∀ v ∈ vs, v ∈ us)
    (hve : ve = .bl be)
    (hy : ∀ Zh F0 σ H ρ θ (Φ : RK) (Q : VK) k (nx : Prop) (nxH : Prop), SD c.K c.Ps Zh F0 σ H ρ θ → YD Φ k θ nx → (nx → nxH) → (∀ k', Φ (.d (.bool k')) θ → Q (.bl k') H) → yv Q (.bl k) H nxH) :
    SimE c (tGen P wi g tt te us yv ve) (fun Ex ρ θ Φ => T Ex ρ θ fun items θ1 => genD G TT TE (wipeR ρ us) (YD Φ) (fun θ2 => Φ (.d (.bool be)) θ2) items θ1) := by
  intro Zh F0 Ex L σ H ρ θ Φ Q S h k
  refine si Zh F0 Ex L σ H ρ θ _ _ S h fun J items H1 θ1 S1 m1 F h1 => ?_
  refine ⟨(S1.hs.tab P hP).1, fun H2 hT => ?_⟩
  obtain ⟨hs2, mt⟩ := S1.hs.tabbed hP hT
  have S2 := S1.to hs2 mt
  have m0 := S1.hs.old
  generalize hF1 : vis Zh θ1 H1 = F1 at F m0 m1 mt
  refine ⟨fun i m H => ∃ θ, SD c.K c.Ps Zh F1 σ H ρ θ ∧ m + i = items.length + (i - items.length) ∧ genD G TT TE (wipeR ρ us) (YD Φ) (fun θ2 => Φ (.d (.bool be)) θ2) (items.drop i) θ,
    ⟨items.length, θ1, ⟨⟨hs2.hid, mt, hs2.tab, hs2.own, hs2.nd⟩, S2.env, S2.len⟩, by omega, h1⟩, fun i m H hW => ?_⟩
  obtain ⟨θ, S, em, hf⟩ := hW
  have fin : ∀ {H' : Hp} {θ' : Th}, HS c.K c.Ps Zh F1 H' θ' → ∀ k' : Bool, Φ (.d (.bool k')) θ' → Q (.bl k') H' := fun {H' θ'} hs' k' hp => by
    have S' : SD c.K c.Ps Zh F1 σ H' ρ θ' := ⟨hs', (S1.to (H' := H') (θ' := θ') (hs'.base m0) (by rw [hF1]; exact hs'.old)).env, S1.len⟩
    exact k _ (.d (.bool k')) H' θ' (S'.base m0) (m1.trans hs'.old) (Dq.bl _) hp
  cases e : items[i]? with
  | none =>
    have hl : items.length ≤ i := List.getElem?_eq_none_iff.mp e
    rw [List.drop_eq_nil_of_le hl] at hf
    refine .inl ⟨F.stop _ i H θ hl S.hs, ?_⟩
    rw [hve]
    exact fin S.hs be hf
  | some d =>
    have hl : i < items.length := (List.getElem?_eq_some_iff.mp e).1
    have ed : items[i] = d := (List.getElem?_eq_some_iff.mp e).2
    rw [List.drop_eq_getElem_cons hl, ed] at hf
    refine .inr ⟨F.go _ i H θ hl S.hs, fun H' => ∃ θ, SD c.K c.Ps Zh F1 σ H' ρ θ ∧ genD G TT TE (wipeR ρ us) (YD Φ) (fun θ2 => Φ (.d (.bool be)) θ2) (items.drop (i + 1)) θ, fun H' z => ?_, fun x H2 hy2 => ?_⟩
    · obtain ⟨θ', S', h'⟩ := z
      exact ⟨m - 1, by omega, θ', S', by omega, h'⟩
    · obtain ⟨hs2, m2, dx⟩ := F.yld _ i x H H2 θ d e S.hs hy2
      have S2 := S.to hs2 m2
      have S2w := S2.wipe us
      refine mo _ _ _ _ _ (fun σ3 H3 q => ⟨q.1.trans (wipe_wipe σ us), q.2⟩) (kw x (wipe σ us) H2 _ us hv (sg _ F1 x (.d d) _ H2 _ θ _ _ S2w dx hf fun σ3 ρ3 S3 h3 => st _ F1 noEx xl_no σ3 H2 ρ3 θ _ _ S3 h3 fun b H4 θ4 S4 m4 h4 => ?_))
      cases b with
      | false =>
        simp only [Bool.false_eq_true, if_false] at h4 ⊢
        exact ⟨θ4, S2.to S4.hs m4, h4⟩
      | true =>
        simp only [if_true] at h4 ⊢
        refine se _ F1 noEx xl_no σ3 H4 ρ3 θ4 _ _ S4 h4 fun v r H5 θ5 S5 m5 d5 h5 => ?_
        obtain ⟨b5, rfl, h5⟩ := asB_of d5 h5
        exact hy Zh F1 σ H5 ρ θ5 Φ Q b5 _ _ (S2.to S5.hs (m4.trans m5)) h5 (fun nx => ⟨θ5, S2.to S5.hs (m4.trans m5), nx⟩) (fun k' hp => fin S5.hs k' hp)
section
variable {elt tg iter : Expr} {ifs : List Expr} {scope : Scope} {own : List (Str × Nat)} {gpos p pos : Pos} {wi : TI} {T : DTI} {g : TG} {G : DGt} {tt : TT} {TT : DTT} {te : TE} {TE : DTE} {vs : List Nat} {cc P : Addr} {k : Nat}
theorem de_all (hr : Room (k + 1) X.A) (hN : X.N.Nodup) (hg : Gl X "all") (hm : X.mg "all" = none) (TB : TabB X.base X.mg cc P) (hP : P ∈ c.Ps) (hcode : X.env.code = .ref cc) (hi : DI c X tg iter wi T) (ok : BlkOk X.N X.env.scope scope own) (Go : GxOk scope)
    (hpg : ∀ A' s H C code fp pn, Room k A' → DG c (gx X A' s H (gxEnv X scope C code) fp pn) tg g G vs) (hpt : ∀ A' s H C code fp pn, Room k A' → DTs c (gx X A' s H (gxEnv X scope C code) fp pn) ifs tt TT) (hpe : ∀ A' s H C code fp pn, Room k A' → DE c (gx X A' s H (gxEnv X scope C code) fp pn) elt te TE)
    (hv : ∀ v ∈ vs, v ∈ own.map (·.2)) (hs : ∀ v, genFold iter X.env v = pure v := by intro _; rfl) (he : starEach [gexp elt tg iter ifs scope gpos] X.env = (false, eval (gexp elt tg iter ifs scope gpos) X.env) :: starEach [] X.env := by rfl) :
    DE c X (.Call (.Name "all" p) [gexp elt tg iter ifs scope gpos] [] pos) (tGen P wi g tt te (own.map (·.2)) yAll (.bl true)) (dAll T G TT TE (own.map (·.2))) := by
  have hA : Room k (X.A.in1.in1.deeper X.env) := room_gx hr _
  refine ⟨pe_allG hr hN hg hm TB hcode hi.pi ok Go (fun A' s H C code fp pn r => (hpg A' s H C code fp pn r).pg) (fun A' s H C code fp pn r => (hpt A' s H C code fp pn r).pts) (fun A' s H C code fp pn r => (hpe A' s H C code fp pn r).pe) hs he, ?_⟩
  refine sim_gen (YD := fun Φ k θ2 nx => if k = true then nx else Φ (.d (.bool false)) θ2) hP hi.sim (hpg _ X.s_0 (fun _ => none) 0 .none [] [] hA).sim (hpg _ X.s_0 (fun _ => none) 0 .none [] [] hA).kw (hpg _ X.s_0 (fun _ => none) 0 .none [] [] hA).mo (hpt _ X.s_0 (fun _ => none) 0 .none [] [] hA).sim (hpe _ X.s_0 (fun _ => none) 0 .none [] [] hA).sim hv rfl fun Zh F0 σ H ρ θ Φ Q k nx nxH S h hn hq => ?_
  refine ⟨k, rfl, ?_⟩
  cases k with
  | true =>
    simp only [if_true] at h ⊢
    exact hn h
  | false =>
    simp only [Bool.false_eq_true, if_false] at h ⊢
    exact hq false h
theorem de_any (hr : Room (k + 1) X.A) (hN : X.N.Nodup) (hg : Gl X "any") (hm : X.mg "any" = none) (TB : TabB X.base X.mg cc P) (hP : P ∈ c.Ps) (hcode : X.env.code = .ref cc) (hi : DI c X tg iter wi T) (ok : BlkOk X.N X.env.scope scope own) (Go : GxOk scope)
    (hpg : ∀ A' s H C code fp pn, Room k A' → DG c (gx X A' s H (gxEnv X scope C code) fp pn) tg g G vs) (hpt : ∀ A' s H C code fp pn, Room k A' → DTs c (gx X A' s H (gxEnv X scope C code) fp pn) ifs tt TT) (hpe : ∀ A' s H C code fp pn, Room k A' → DE c (gx X A' s H (gxEnv X scope C code) fp pn) elt te TE)
    (hv : ∀ v ∈ vs, v ∈ own.map (·.2)) (hs : ∀ v, genFold iter X.env v = pure v := by intro _; rfl) (he : starEach [gexp elt tg iter ifs scope gpos] X.env = (false, eval (gexp elt tg iter ifs scope gpos) X.env) :: starEach [] X.env := by rfl) :
    DE c X (.Call (.Name "any" p) [gexp elt tg iter ifs scope gpos] [] pos) (tGen P wi g tt te (own.map (·.2)) yAny (.bl false)) (dAny T G TT TE (own.map (·.2))) := by
  have hA : Room k (X.A.in1.in1.deeper X.env) := room_gx hr _
  refine ⟨pe_anyG hr hN hg hm TB hcode hi.pi ok Go (fun A' s H C code fp pn r => (hpg A' s H C code fp pn r).pg) (fun A' s H C code fp pn r => (hpt A' s H C code fp pn r).pts) (fun A' s H C code fp pn r => (hpe A' s H C code fp pn r).pe) hs he, ?_⟩
  refine sim_gen (YD := fun Φ k θ2 nx => if k = true then Φ (.d (.bool true)) θ2 else nx) hP hi.sim (hpg _ X.s_0 (fun _ => none) 0 .none [] [] hA).sim (hpg _ X.s_0 (fun _ => none) 0 .none [] [] hA).kw (hpg _ X.s_0 (fun _ => none) 0 .none [] [] hA).mo (hpt _ X.s_0 (fun _ => none) 0 .none [] [] hA).sim (hpe _ X.s_0 (fun _ => none) 0 .none [] [] hA).sim hv rfl fun Zh F0 σ H ρ θ Φ Q k nx nxH S h hn hq => ?_
  refine ⟨k, rfl, ?_⟩
  cases k with
  | true =>
    simp only [if_true] at h ⊢
    exact hq true h
  | false =>
    simp only [Bool.false_eq_true, if_false] at h ⊢
    exact hn h
end
theorem takesN0 {X : Cx} : L2N.Takes X (fun _ _ _ _ => False) := fun _ _ x => by
  obtain ⟨_, _, _, _, _, _, _, _, _, _, _, _, _, _, _, _, z⟩ := x
  exact z.elim
/-! ### defs and their calls -/
/-- a def's promise over data: arguments, lists that may be changed, what is wanted of the answer, of an exception -/
abbrev DSp := List RV → Th → RK → (XD → Th → Prop) → Prop
def spOf (K : PySem.W.Frag) (Ps : List Addr) (sp : DSp) : Sp := fun vs H Q E => ∃ (Zh : Hp) (θ : Th) (rs : List RV), HS K Ps Zh (vis Zh θ H) H θ ∧ DVs K (vis Zh θ H) vs rs ∧
  ∃ (Φ : RK) (Ex : XD → Th → Prop), sp rs θ Φ Ex ∧ (∀ r θ', Φ r θ' → ∀ v H', HS K Ps Zh (vis Zh θ H) H' θ' → DV K (vis Zh θ' H') v r → Q v H') ∧
    ∀ xd θ', Ex xd θ' → ∀ cls d H', HS K Ps Zh (vis Zh θ H) H' θ' → XDn K (vis Zh θ' H') cls d xd → E cls d H'
def dFn (sp : DSp) (Ta : DTA) : DTE := fun Ex ρ θ Φ => Ta Ex ρ θ fun rs θ1 => sp rs θ1 Φ fun xd θ2 => Ex xd ρ θ2
theorem de_fn {k : Nat} {f : Addr} {fd : FuncData} {ps : List Str} {sp : DSp} {x : Str} {p pos : Pos} {e : Expr} {es : List Expr} {ta : TA} {Ta : DTA} (F : FnOk X.prog X.w X.K X.mg X.base (L2N.CX X.prog X.w) k f fd ps (spOf c.K c.Ps sp)) (hr : Room k X.A) (hg : Gl X x) (hm : X.mg x = some (.ref f)) (hk : PySem.W.keepIn X.K (.ref f) = true) (hb : Binds X.K fd ps []) (tk : L2N.Takes X c.W)
    (ha : DA c X (e :: es) ta Ta) (hdb : (x == ("__debug__" : Str)) = false := by decide) (he : starEach (e :: es) X.env = (false, eval e X.env) :: starEach es X.env := by rfl) (hpl : (backTo pos (starEach es X.env)).any (·.1) = false := by rfl) :
    DE c X (.Call (.Name x p) (e :: es) [] pos) (tCallS (spOf c.K c.Ps sp) (WE c.W) ta) (dFn sp Ta) := by
  refine ⟨pe_callS F hr hg hm hk hb (fun σ => L2N.passAt tk σ) ha.pa hdb he hpl, fun Zh F0 Ex L σ H ρ θ Φ Q S h k => ha.sim Zh F0 Ex L σ H ρ θ _ _ S h fun vs rs H1 θ1 S1 m1 d1 h1 => ?_⟩
  refine ⟨Zh, θ1, rs, S1.here.hs, d1, _, _, h1, fun r θ' hp v H' hs' dv => ?_, fun xd θ' hp cls d H' hs' dx => ?_⟩
  · exact k v r H' θ' (S1.to (hs'.base S1.hs.old) hs'.old) (m1.trans hs'.old) dv hp
  · exact L cls d σ H' ρ θ' xd (S1.to (hs'.base S1.hs.old) hs'.old) dx hp
/-- a def of the text whose code is known -/
structure FunC (K : PySem.W.Frag) (x qual : Str) (st : Stmt) (f : Addr) (fd : FuncData) (cd : Value) : Prop where
  ex : ∃ (oc : Value) (od : Option Addr) (kV doc pm : Value) (an : Option Addr) (ct : Value) (osl : Array (Option Value)),
    fd = PySem.W.fnOf x qual (defArgs st) (defBody st) (defScope st) .none kV doc pm an cd ct ∧ K.lookup f = some ⟨oc, od, .func fd, osl⟩ ∧ PySem.W.codeIn K cd qual = true
  kp : PySem.W.keepIn K (.ref f) = true
theorem FunC.fun {K : PySem.W.Frag} {x qual : Str} {st : Stmt} {f : Addr} {fd : FuncData} {cd : Value} (F : FunC K x qual st f fd cd) : Fun K x qual st f fd :=
  let ⟨oc, od, kV, doc, pm, an, ct, osl, h⟩ := F.ex
  ⟨⟨oc, od, kV, doc, pm, an, cd, ct, osl, h⟩, F.kp⟩
def startR : Nat → List RV → Rho
  | 0, _ => []
  | n + 1, [] => none :: startR n []
  | n + 1, r :: rs => some r :: startR n rs
theorem startR_length : ∀ (n : Nat) (rs : List RV), (startR n rs).length = n
  | 0, _ => rfl
  | n + 1, [] => congrArg (· + 1) (startR_length n [])
  | n + 1, r :: rs => congrArg (· + 1) (startR_length n rs)
theorem startR_get : ∀ {n : Nat} {rs : List RV} {i : Nat} {r : RV}, (startR n rs)[i]? = some (some r) → rs[i]? = some r
  | 0, _, _, _, h => by simp [startR] at h
  | n + 1, [], 0, _, h => by simp [startR] at h
  | n + 1, [], i + 1, r, h => by
    have := startR_get (n := n) (rs := []) (i := i) (r := r) (by simpa [startR] using h)
    simp at this
  | n + 1, r :: rs, 0, _, h => by simpa [startR] using h
  | n + 1, x :: rs, i + 1, r, h => by
    have := startR_get (n := n) (rs := rs) (i := i) (r := r) (by simpa [startR] using h)
    simpa using this
theorem DVs.get {K : PySem.W.Frag} {F : Hp} : ∀ {vs : List V} {rs : List RV} {i : Nat} {r : RV}, DVs K F vs rs → rs[i]? = some r → ∃ v, vs[i]? = some v ∧ DV K F v r
  | _, _, _, _, .nil, h => by simp at h
  | _, _, 0, _, .cons d _, h => by
    simp at h
    subst h
    exact ⟨_, rfl, d⟩
  | _, _, i + 1, r, .cons _ t, h => by
    obtain ⟨v, h1, h2⟩ := DVs.get (i := i) (r := r) t (by simpa using h)
    exact ⟨v, by simpa using h1, h2⟩
/-- THE RULE for a def -/
theorem dfn {P : Program} {w : World} {K : PySem.W.Frag} {mg : Str → Option Value} {base : Heap} {x qual : Str} {st : Stmt} {f : Addr} {fd : FuncData} {cd : Value} {N ps : List Str} {k : Nat} {Ps : List Addr} {sp : DSp} (F : FunC K x qual st f fd cd) (S : FnScope N ps (defScope st))
    (hl : ∀ rs θ Φ Ex, sp rs θ Φ Ex → rs.length = ps.length)
    (hbody : ∀ (A : Around) (outer : List Env) (s : Shared) (H : Hp) (E : XK), Room k (A.deeper (envOfC qual (defScope st) s.heap.objs.size f cd)) →
      L2N.Takes (cxOf (L2N.CX P w) P w K mg base N qual (defScope st) f cd A outer s H E) (fun cls d _ H => E cls d H) →
      PassesOwn (model P w) (cxOf (L2N.CX P w) P w K mg base N qual (defScope st) f cd A outer s H E).A (cxOf (L2N.CX P w) P w K mg base N qual (defScope st) f cd A outer s H E).env (cxOf (L2N.CX P w) P w K mg base N qual (defScope st) f cd A outer s H E).xe →
      ∃ t T, DSs ⟨K, Ps, fun cls d _ H => E cls d H⟩ (cxOf (L2N.CX P w) P w K mg base N qual (defScope st) f cd A outer s H E) (defBody st) t T ∧
        ∀ rs θ Φ Ex, sp rs θ Φ Ex → T { nx := fun _ θ' => Φ (.d .none) θ', rt := Φ, ex := fun xd _ θ' => Ex xd θ' } (startR N.length rs) θ) : FnOk P w K mg base (L2N.CX P w) (k + 1) f fd ps (spOf K Ps sp) := by
  obtain ⟨oc, od, kV, doc, pm, an, ct, osl, rfl, lk, hcd⟩ := F.ex
  refine fn_of lk hcd S (fun vs H Q E h => ?_) fun A outer s H vs Q E hr hsp => ?_
  · obtain ⟨Zh, θ, rs, h1, h2, Φ, Ex, h3, _⟩ := h
    rw [h2.length]
    exact hl _ _ _ _ h3
  · obtain ⟨Zh, θ, rs, hs, dv, Φ, Ex, h3, kq, ke⟩ := hsp
    obtain ⟨t, T, d, body⟩ := hbody A outer s H E hr (L2N.takes_of rfl rfl rfl rfl) (passes_of rfl)
    refine ⟨t, d.ps, ?_⟩
    refine d.sim Zh (vis Zh θ H) _ _ (fun cls d σ H' ρ θ' xd S' x h => ke xd θ' h cls d H' S'.hs x) ⟨fun σ H' ρ θ' S' h => ?_, fun v r H' θ' hs' dv h => kq r θ' h v H' hs' dv, fun _ _ _ _ _ h => h, fun _ _ _ _ _ h => h⟩ _ H _ θ ⟨hs, fun i r e => ?_, ?_⟩ (body rs θ Φ Ex h3)
    · exact kq (.d .none) θ' h .non H' S'.hs Dq.non
    · obtain ⟨v, h1, h2⟩ := dv.get (startR_get e)
      refine ⟨v, ?_, h2⟩
      unfold L2.start
      have hi : i < vs.length := (List.getElem?_eq_some_iff.mp h1).1
      rw [List.getElem?_append_left (by rw [List.length_map]; exact hi), List.getElem?_map, h1]
      rfl
    · rw [startR_length]
      unfold L2.start
      rw [List.length_append, List.length_map, List.length_replicate]
      have hpl : ps.length ≤ N.length := by have := congrArg List.length S.pre; rw [List.length_take] at this; omega
      have hv : vs.length = ps.length := by rw [dv.length]; exact hl _ _ _ _ h3
      omega
/-- raise X('..') -/
def dRaise (C : Addr) : DTS := fun E ρ θ => E.ex (.plain C) ρ θ
theorem ds_raise {e : Expr} {C : Addr} {pos : Pos} (hc : X.calm = true) (tk : L2N.Takes X c.W) (he : L2N.PMk X e (fun _ H Q => Q (.ref C) none H)) : DS c X (.Raise (some e) none pos) (fun _ σ H => c.W (.ref C) none σ H) (dRaise C) :=
  ⟨L2N.ps_raise hc tk he, fun Zh F0 E D L O σ H ρ θ S h => L _ _ σ H ρ θ (.plain C) S ⟨rfl, rfl⟩ h⟩
end
end TlD
set_option Elab.async false
set_option linter.all false
set_option maxRecDepth 100000
set_option maxHeartbeats 4000000
namespace TlD
open PySem PySem.Spec PyProof.Rows L2 GxR TlG
/-- sizes: below a million -/
abbrev small (n : Nat) : Prop := n ≤ 1000000
theorem small.line {n : Nat} (h : small n) : n ≤ sizeLine := Nat.le_trans h (by decide)
theorem small.lt {n : Nat} (h : small n) : n < sizeLine := Nat.lt_of_le_of_lt h (by decide)
/-- what a value is, lists that may be changed as they stand -/
def dat (r : RV) (θ : Th) (k : D → Prop) : Prop := match r with
  | .d x => k x
  | .seq ds => k (.list ds)
  | .rows _ => False
  | .own a => match θ.lookup a with
    | some ds => k (.list ds)
    | none => False
/-- v is x over H: lists read -/
inductive DR (K : PySem.W.Frag) (Zh H : Hp) (θ : Th) : V → D → Prop
  | dq {v : V} {x : D} (h : Dq K (vis Zh θ H) v x) : DR K Zh H θ v x
  | seq {a : Addr} {vs : List V} {ds : List D} (h : SqL K H a vs) (hd : DqAll K (vis Zh θ H) vs ds) : DR K Zh H θ (.ref a) (.list ds)
theorem dat_of {K : PySem.W.Frag} {Ps : List Addr} {Zh F0 H : Hp} {θ : Th} {v : V} {r : RV} {k : D → Prop} (hs : HS K Ps Zh F0 H θ) (d : DV K (vis Zh θ H) v r) (h : dat r θ k) : ∃ x, DR K Zh H θ v x ∧ k x := by
  cases r with
  | d x => exact ⟨x, .dq d, h⟩
  | rows _ => exact h.elim
  | seq ds =>
    obtain ⟨a, vs, rfl, h1, h2⟩ := d
    exact ⟨_, .seq (sqL_up h1) h2, h⟩
  | own a =>
    unfold dat at h
    obtain rfl : v = .ref a := d
    cases e : θ.lookup a with
    | none => simp only [e] at h
    | some ds =>
      simp only [e] at h
      obtain ⟨z, vs, e1, d1⟩ := hs.own _ (th_mem e)
      exact ⟨_, .seq (.inl (.inl e1)) d1, h⟩
section
variable {K : PySem.W.Frag} {Zh H : Hp} {θ : Th} {v : V}
theorem DR.list {ds : List D} (h : DR K Zh H θ v (.list ds)) : ∃ a vs, v = .ref a ∧ SqL K H a vs ∧ DqAll K (vis Zh θ H) vs ds := by
  cases h with
  | dq h =>
    cases h with
    | lst h1 h2 => exact ⟨_, _, rfl, .inl (.inl (vis_some h1).1), h2⟩
  | seq h1 h2 => exact ⟨_, _, rfl, h1, h2⟩
theorem DR.tuple {ds : List D} (h : DR K Zh H θ v (.tuple ds)) : ∃ a vs, v = .ref a ∧ SqT K H a vs ∧ DqAll K (vis Zh θ H) vs ds := by
  cases h with
  | dq h =>
    cases h with
    | tup h1 h2 => exact ⟨_, _, rfl, sqT_up h1, h2⟩
theorem DR.str {x : Str} (h : DR K Zh H θ v (.str x)) : v = .str x := by
  cases h with
  | dq h => cases h; rfl
theorem DR.int {i : Int} (h : DR K Zh H θ v (.int i)) : v = .int i := by
  cases h with
  | dq h => cases h; rfl
theorem DR.dp {x : D} (f : flatD x = true) (h : DR K Zh H θ v x) : Dp K H v x := by
  cases h with
  | dq h => exact dp_mono' f (dq_dp _ _ f h)
  | seq h1 h2 => exact .lst h1 (dps_mono' (dqs_dps _ _ f h2))
where
  dp_mono' {v : V} {x : D} (_ : flatD x = true) (h : Dp K (vis Zh θ H) v x) : Dp K H v x := dpm x v h
  dps_mono' {vs : List V} {ds : List D} (h : DpAll K (vis Zh θ H) vs ds) : DpAll K H vs ds := dpsm ds vs h
  dpm : ∀ (d : PyData) (v : V), Dp K (vis Zh θ H) v d → Dp K H v d
    | .none, _, h => by cases h; exact .non
    | .bool b, _, h => by cases h; exact .bl b
    | .int i, _, h => by cases h; exact .int i
    | .str x, _, h => by cases h; exact .str x
    | .list ds, _, h => by
      cases h with
      | lst hs ha => exact .lst (sqL_up hs) (dpsm ds _ ha)
    | .tuple ds, _, h => by
      cases h with
      | tup hs ha => exact .tup (sqT_up hs) (dpsm ds _ ha)
    | .dict _, _, h => by cases h
  dpsm : ∀ (ds : List PyData) (vs : List V), DpAll K (vis Zh θ H) vs ds → DpAll K H vs ds
    | [], _, h => by cases h; exact .nil
    | d :: ds, _, h => by
      cases h with
      | cons h1 h2 => exact .cons (dpm d _ h1) (dpsm ds _ h2)
end
section
variable {c : Cn} {X : Cx}
/-! ### int operators -/
def on2I (x y : RV) (k : Int → Int → Prop) : Prop := match x, y with
  | .d (.int i), .d (.int j) => k i j
  | _, _ => False
theorem on2I_of {K : PySem.W.Frag} {F : Hp} {x y : V} {rx ry : RV} {k : Int → Int → Prop} (dx : DV K F x rx) (dy : DV K F y ry) (h : on2I rx ry k) : ∃ i j, x = .int i ∧ y = .int j ∧ k i j := by
  unfold on2I at h
  split at h
  · cases dx
    cases dy
    exact ⟨_, _, rfl, rfl, h⟩
  · exact h.elim
theorem kI {Zh F0 : Hp} {σ : L2.St} {H : Hp} {ρ : Rho} {θ : Th} {Φ : RK} {Q : VK} (S : SD c.K c.Ps Zh F0 σ H ρ θ) (k : KE c Zh F0 σ H ρ θ Φ Q) {i : Int} (h : Φ (.d (.int i)) θ) : Q (.int i) H := k _ (.d (.int i)) H θ S (Mono.refl _) (Dq.int _) h
theorem kB {Zh F0 : Hp} {σ : L2.St} {H : Hp} {ρ : Rho} {θ : Th} {Φ : RK} {Q : VK} (S : SD c.K c.Ps Zh F0 σ H ρ θ) (k : KE c Zh F0 σ H ρ θ Φ Q) {b : Bool} (h : Φ (.d (.bool b)) θ) : Q (.bl b) H := k _ (.d (.bool b)) H θ S (Mono.refl _) (Dq.bl _) h
theorem kS {Zh F0 : Hp} {σ : L2.St} {H : Hp} {ρ : Rho} {θ : Th} {Φ : RK} {Q : VK} (S : SD c.K c.Ps Zh F0 σ H ρ θ) (k : KE c Zh F0 σ H ρ θ Φ Q) {x : Str} (h : Φ (.d (.str x)) θ) : Q (.str x) H := k _ (.d (.str x)) H θ S (Mono.refl _) (Dq.str _) h
def fSub : DOp := fun x y θ Φ => on2I x y fun i j => Φ (.d (.int (i - j))) θ
theorem sim_sub : SimR c (rI0 fun i j => .int (i - j)) fSub := fun Zh F0 σ H ρ θ x y rx ry Φ Q S dx dy h k => by
  obtain ⟨i, j, e1, e2, h⟩ := on2I_of dx dy h
  exact ⟨i, j, e1, e2, kI S k h⟩
def fMod : DOp := fun x y θ Φ => on2I x y fun i j => 0 < j ∧ Φ (.d (.int (i % j))) θ
theorem sim_mod : SimR c (rI (fun _ j => 0 < j) fun i j => .int (i % j)) fMod := fun Zh F0 σ H ρ θ x y rx ry Φ Q S dx dy h k => by
  obtain ⟨i, j, e1, e2, h0, h⟩ := on2I_of dx dy h
  exact ⟨i, j, e1, e2, h0, kI S k h⟩
def fDiv : DOp := fun x y θ Φ => on2I x y fun i j => (0 < j ∧ j < 1000000000) ∧ Φ (.d (.int (i / j))) θ
theorem sim_div : SimR c (rI CDiv fun i j => .int (i / j)) fDiv := fun Zh F0 σ H ρ θ x y rx ry Φ Q S dx dy h k => by
  obtain ⟨i, j, e1, e2, h0, h⟩ := on2I_of dx dy h
  exact ⟨i, j, e1, e2, ⟨h0.1, by have := h0.2; omega⟩, kI S k h⟩
/-- products: together below a million bits -/
def bitsOk (i j : Int) : Prop := i.natAbs.log2 + j.natAbs.log2 < 1000000
def fMulI : DOp := fun x y θ Φ => on2I x y fun i j => bitsOk i j ∧ Φ (.d (.int (i * j))) θ
theorem sim_mulI : SimR c (rI CMulW fun i j => .int (i * j)) fMulI := fun Zh F0 σ H ρ θ x y rx ry Φ Q S dx dy h k => by
  obtain ⟨i, j, e1, e2, h0, h⟩ := on2I_of dx dy h
  exact ⟨i, j, e1, e2, h0, kI S k h⟩
theorem SimR.or {r r' : R2} {f : DOp} (h : ∀ Zh F0 σ H ρ θ x y rx ry Φ Q, SD c.K c.Ps Zh F0 σ H ρ θ → DV c.K (vis Zh θ H) x rx → DV c.K (vis Zh θ H) y ry → f rx ry θ Φ → KE c Zh F0 σ H ρ θ Φ Q → r x y H Q ∨ r' x y H Q) : SimR c (fun x y H Q => r x y H Q ∨ r' x y H Q) f := h
theorem newL {Zh F0 : Hp} {σ : L2.St} {H : Hp} {ρ : Rho} {θ : Th} {Φ : RK} {Q : VK} (S : SD c.K c.Ps Zh F0 σ H ρ θ) (k : KE c Zh F0 σ H ρ θ Φ Q) {vs : List V} {ds : List D} {p : Addr} (np : H p = none) (hd : DqAll c.K (vis Zh θ H) vs ds) (h : Φ (.d (.list ds)) θ) : Q (.ref p) (upd H p (.lst vs)) := by
  have m := (vis_upd_sub (Zh := Zh) (θ := θ) (o := .lst vs) np).mono
  exact k _ (.d (.list ds)) _ θ (S.to (S.hs.new np) m) m (Dq.lst (S.hs.at np) (dps_mono m _ _ hd)) h
theorem newT {Zh F0 : Hp} {σ : L2.St} {H : Hp} {ρ : Rho} {θ : Th} {Φ : RK} {Q : VK} (S : SD c.K c.Ps Zh F0 σ H ρ θ) (k : KE c Zh F0 σ H ρ θ Φ Q) {vs : List V} {ds : List D} {p : Addr} (np : H p = none) (hd : DqAll c.K (vis Zh θ H) vs ds) (h : Φ (.d (.tuple ds)) θ) : Q (.ref p) (upd H p (.tup vs)) := by
  have m := (vis_upd_sub (Zh := Zh) (θ := θ) (o := .tup vs) np).mono
  exact k _ (.d (.tuple ds)) _ θ (S.to (S.hs.new np) m) m (Dq.tup (.inl (.inl (S.hs.at np))) (dps_mono m _ _ hd)) h
/-! ### + -/
def fAdd : DOp := fun x y θ Φ => match x, y with
  | .d (.int i), .d (.int j) => Φ (.d (.int (i + j))) θ
  | .d (.str s), .d (.str t) => small (s.length + t.length) ∧ Φ (.d (.str (s ++ t))) θ
  | .d (.list xs), .d (.list ys) => small (xs.length + ys.length) ∧ Φ (.d (.list (xs ++ ys))) θ
  | _, _ => False
def rAddA : R2 := fun x y H Q => (rI0 (fun i j => .int (i + j)) x y H Q ∨ (∃ i j, x = .str i ∧ y = .str j ∧ i.length + j.length ≤ sizeLine ∧ Q (.str (i ++ j)) H)) ∨ rCat x y H Q
theorem op_addA : OpR X (binaryOp .Add) rAddA := OpR.or (OpR.or op_add op_add_str) op_cat
theorem sim_add : SimR c rAddA fAdd := fun Zh F0 σ H ρ θ x y rx ry Φ Q S dx dy h k => by
  unfold fAdd at h
  split at h
  · cases dx
    cases dy
    exact .inl (.inl ⟨_, _, rfl, rfl, kI S k h⟩)
  · cases dx
    cases dy
    exact .inl (.inr ⟨_, _, rfl, rfl, h.1.line, kS S k h.2⟩)
  · cases dx with
    | lst h1 d1 =>
      cases dy with
      | lst h2 d2 =>
        refine .inr ⟨_, _, _, _, rfl, rfl, (vis_some h1).1, (vis_some h2).1, ?_, fun p np => ?_⟩
        · rw [d1.length, d2.length]
          exact h.1.line
        · exact newL S k np (d1.append d2) h.2
  · exact h.elim
/-! ### * -/
def repS (n : Int) (x : Str) : Str := ⟨(List.replicate n.toNat x.cps.toList).flatten.toArray⟩
theorem op_repS : OpR X (binaryOp .Mult) (fun x y H Q => ∃ (z : Str) (n : Int), x = .str z ∧ y = .int n ∧ 0 ≤ n ∧ n ≤ 1000 ∧ z.length ≤ 1000 ∧ Q (.str (repS n z)) H) := by
  intro pins s σ H x y v u Q I rx ry h
  obtain ⟨z, n, rfl, rfl, h0, h1, hz, q⟩ := h
  obtain ⟨t, rfl⟩ := rx
  obtain ⟨t', rfl⟩ := ry
  have fl : ∀ m : Nat, (List.replicate m z.cps).foldl (· ++ ·) #[] = (List.replicate m z.cps.toList).flatten.toArray := fun m => by
    have g : ∀ (m : Nat) (acc : Array Nat), (List.replicate m z.cps).foldl (· ++ ·) acc = acc ++ (List.replicate m z.cps.toList).flatten.toArray := by
      intro m
      induction m with
      | zero => intro acc; simp
      | succ m ih =>
        intro acc
        rw [List.replicate_succ, List.foldl_cons, ih, List.replicate_succ, List.flatten_cons]
        apply Array.ext'
        simp
    rw [g]
    simp
  refine PySem.P.mul_str ?_ (fun _ _ => ?_) (fun _ _ => ?_) ?_
  · have e1 : decide (n < -(2 ^ 63 : Int)) = false := by simp; omega
    have e2 : decide (n ≥ 2 ^ 63) = false := by simp; omega
    rw [e1, e2]
    rfl
  · intro hgt
    have hp : 0 < n := by omega
    have hl : (z.length : Int) ≤ 1000 := by exact_mod_cast hz
    have hq : (2 ^ 63 - 1) / 1000 ≤ (2 ^ 63 - 1) / n := by
      refine Int.le_ediv_of_mul_le hp ?_
      have h3 : ((2 ^ 63 - 1) / 1000 : Int) = 9223372036854775 := by decide
      rw [h3]
      have : (9223372036854775 : Int) * n ≤ 9223372036854775 * 1000 := Int.mul_le_mul_of_nonneg_left h1 (by decide)
      omega
    have h3 : ((2 ^ 63 - 1) / 1000 : Int) = 9223372036854775 := by decide
    omega
  · have : z.length * n.toNat ≤ 1000 * 1000 := Nat.mul_le_mul hz (by omega)
    have hs : (sizeLine : Nat) = 16777216 := sizeLine_eq
    show decide (z.length * n.toNat > sizeLine) = false
    rw [decide_eq_false_iff_not]
    omega
  · by_cases c1 : n < 1
    · rw [if_pos c1]
      have e : n = 0 := by omega
      subst e
      exact ⟨Nat.zero_le _, .str (repS 0 z), H, I.tok _, ⟨_, rfl⟩, q⟩
    · rw [if_neg c1]
      by_cases c2 : (n == 1 || z.length == 0) = true
      · rw [if_pos c2]
        refine ⟨.str (repS n z), H, I, ?_, q⟩
        rcases (Bool.or_eq_true _ _).mp c2 with c2 | c2
        · have e : n = 1 := by simpa using c2
          subst e
          refine ⟨t, ?_⟩
          have : repS 1 z = z := by
            unfold repS
            simp
          rw [this]
        · have e : z.cps.size = 0 := by simpa [Str.length] using c2
          refine ⟨t, ?_⟩
          have ez : z.cps = #[] := Array.eq_empty_of_size_eq_zero e
          have : repS n z = z := by
            unfold repS
            rw [ez]
            have : ∀ m : Nat, (List.replicate m ([] : List Nat)).flatten = [] := fun m => by
              induction m with
              | zero => rfl
              | succ m ih => rw [List.replicate_succ, List.flatten_cons, ih]; rfl
            cases z
            simp_all
          rw [this]
      · rw [if_neg c2]
        have ef : (⟨(List.replicate n.toNat z.cps).foldl (· ++ ·) #[]⟩ : Str) = repS n z := by
          unfold repS
          rw [fl]
        rw [ef]
        have hlen : (repS n z).length = n.toNat * z.length := by
          unfold repS Str.length
          simp
        have hmul : n.toNat * z.length ≤ 1000 * 1000 := Nat.mul_le_mul (by omega) hz
        refine ⟨?_, .str (repS n z), H, I.tok _, ⟨_, rfl⟩, q⟩
        rw [hlen]
        exact Nat.le_trans hmul (by decide)
def fMul : DOp := fun x y θ Φ => match x, y with
  | .d (.int i), .d (.int j) => bitsOk i j ∧ Φ (.d (.int (i * j))) θ
  | .d (.str s), .d (.int n) => (0 ≤ n ∧ n ≤ 1000 ∧ s.length ≤ 1000) ∧ Φ (.d (.str (repS n s))) θ
  | .d (.list xs), .d (.int n) => (0 ≤ n ∧ n ≤ 1000 ∧ xs.length ≤ 1000) ∧ Φ (.d (.list (List.replicate n.toNat xs).flatten)) θ
  | _, _ => False
def rMulA : R2 := fun x y H Q => (rI CMulW (fun i j => .int (i * j)) x y H Q ∨ (∃ (z : Str) (n : Int), x = .str z ∧ y = .int n ∧ 0 ≤ n ∧ n ≤ 1000 ∧ z.length ≤ 1000 ∧ Q (.str (repS n z)) H)) ∨ rRep x y H Q
theorem op_mulA : OpR X (binaryOp .Mult) rMulA := OpR.or (OpR.or op_mulW op_repS) op_rep
theorem DqAll.rep {K : PySem.W.Frag} {F : Hp} {vs : List V} {ds : List D} (h : DqAll K F vs ds) : ∀ n : Nat, DqAll K F (List.replicate n vs).flatten (List.replicate n ds).flatten
  | 0 => .nil
  | n + 1 => by
    rw [List.replicate_succ, List.replicate_succ, List.flatten_cons, List.flatten_cons]
    exact h.append (DqAll.rep h n)
theorem sim_mul : SimR c rMulA fMul := fun Zh F0 σ H ρ θ x y rx ry Φ Q S dx dy h k => by
  unfold fMul at h
  split at h
  · cases dx
    cases dy
    exact .inl (.inl ⟨_, _, rfl, rfl, h.1, kI S k h.2⟩)
  · cases dx
    cases dy
    exact .inl (.inr ⟨_, _, rfl, rfl, h.1.1, h.1.2.1, h.1.2.2, kS S k h.2⟩)
  · cases dx with
    | lst h1 d1 =>
      cases dy
      refine .inr ⟨_, _, _, rfl, rfl, (vis_some h1).1, by omega, by omega, ?_, fun p np => ?_⟩
      · rw [d1.length]
        refine Nat.le_trans (Nat.mul_le_mul h.1.2.2 (by omega : _ ≤ 1000)) (by decide)
      · exact newL S k np (d1.rep _) h.2
  · exact h.elim
end
end TlD
set_option Elab.async false
set_option linter.all false
set_option maxRecDepth 100000
set_option maxHeartbeats 4000000
namespace TlD
open PySem PySem.Spec PyProof.Rows L2 GxR TlG
section
variable {c : Cn} {X : Cx}
theorem SimR.mk {r : R2} {f : DOp} (h : ∀ Zh F0 σ H ρ θ x y rx ry Φ Q, SD c.K c.Ps Zh F0 σ H ρ θ → DV c.K (vis Zh θ H) x rx → DV c.K (vis Zh θ H) y ry → f rx ry θ Φ → KE c Zh F0 σ H ρ θ Φ Q → r x y H Q) : SimR c r f := h
/-! ### comparisons -/
def fLt : DOp := fun x y θ Φ => on2I x y fun i j => Φ (.d (.bool (decide (i < j)))) θ
def fLe : DOp := fun x y θ Φ => on2I x y fun i j => Φ (.d (.bool (decide (i ≤ j)))) θ
def fGt : DOp := fun x y θ Φ => on2I x y fun i j => Φ (.d (.bool (decide (j < i)))) θ
def fGe : DOp := fun x y θ Φ => on2I x y fun i j => Φ (.d (.bool (decide (j ≤ i)))) θ
theorem sim_lt : SimR c (rI0 fun i j => .bl (decide (i < j))) fLt := fun Zh F0 σ H ρ θ x y rx ry Φ Q S dx dy h k => by
  obtain ⟨i, j, e1, e2, h⟩ := on2I_of dx dy h
  exact ⟨i, j, e1, e2, kB S k h⟩
theorem sim_le : SimR c (rI0 fun i j => .bl (decide (i ≤ j))) fLe := fun Zh F0 σ H ρ θ x y rx ry Φ Q S dx dy h k => by
  obtain ⟨i, j, e1, e2, h⟩ := on2I_of dx dy h
  exact ⟨i, j, e1, e2, kB S k h⟩
theorem sim_gt : SimR c (rI0 fun i j => .bl (decide (j < i))) fGt := fun Zh F0 σ H ρ θ x y rx ry Φ Q S dx dy h k => by
  obtain ⟨i, j, e1, e2, h⟩ := on2I_of dx dy h
  exact ⟨i, j, e1, e2, kB S k h⟩
theorem sim_ge : SimR c (rI0 fun i j => .bl (decide (j ≤ i))) fGe := fun Zh F0 σ H ρ θ x y rx ry Φ Q S dx dy h k => by
  obtain ⟨i, j, e1, e2, h⟩ := on2I_of dx dy h
  exact ⟨i, j, e1, e2, kB S k h⟩
/-- ints in a tuple -/
def intsD : List D → Option (List Int)
  | [] => some []
  | .int i :: ds => (intsD ds).map (i :: ·)
  | _ :: _ => none
theorem intsD_map : ∀ {ds : List D} {ns : List Int}, intsD ds = some ns → ds = ns.map PyData.int
  | [], ns, h => by
    cases h
    rfl
  | d :: ds, ns, h => by
    cases d with
    | int i =>
      have h : (intsD ds).map (i :: ·) = some ns := h
      cases e : intsD ds with
      | none => rw [e] at h; cases h
      | some ms =>
        rw [e] at h
        cases h
        rw [intsD_map e]
        rfl
    | _ => cases h
theorem intsD_int (ns : List Int) : intsD (ns.map PyData.int) = some ns := by
  induction ns with
  | nil => rfl
  | cons n ns ih =>
    show (intsD (ns.map PyData.int)).map (n :: ·) = _
    rw [ih]
    rfl
theorem dq_ints {K : PySem.W.Frag} {F : Hp} : ∀ {vs : List V} {ns : List Int}, DqAll K F vs (ns.map PyData.int) → vs = ns.map V.int
  | [], [], _ => rfl
  | _, n :: ns, .cons d t => by
    cases d
    rw [dq_ints t]
    rfl
/-- t < u, tuples of whole numbers -/
def fLtT : DOp := fun x y θ Φ => match x, y with
  | .d (.tuple xs), .d (.tuple ys) => match intsD xs, intsD ys with
    | some ns, some ms => Φ (.d (.bool (HT.lexLt ns ms))) θ
    | _, _ => False
  | _, _ => False
theorem sim_ltT (hK : X.K = c.K) : SimR c (rLtT X.K) fLtT := fun Zh F0 σ H ρ θ x y rx ry Φ Q S dx dy h k => by
  rw [hK]
  unfold fLtT at h
  split at h
  · split at h
    · rename_i e1 e2
      cases dx with
      | tup h1 d1 =>
        cases dy with
        | tup h2 d2 =>
          rw [intsD_map e1] at d1
          rw [intsD_map e2] at d2
          have q1 := dq_ints d1
          have q2 := dq_ints d2
          subst q1
          subst q2
          exact ⟨_, _, _, _, rfl, rfl, sqT_up h1, sqT_up h2, kB S k h⟩
    · exact h.elim
  · exact h.elim
/-- data that == reads -/
def eqOk (d : D) : Prop := flatD d = true ∧ SeqAt.shaped d = true
def fEq : DOp := fun x y θ Φ => dat x θ fun d => dat y θ fun e => eqOk d ∧ eqOk e ∧ Φ (.d (.bool (PyData.eqv d e))) θ
def fNe : DOp := fun x y θ Φ => dat x θ fun d => dat y θ fun e => eqOk d ∧ eqOk e ∧ Φ (.d (.bool (!PyData.eqv d e))) θ
theorem sim_eq (hK : X.K = c.K) : SimR c (rEqD X.K) fEq := fun Zh F0 σ H ρ θ x y rx ry Φ Q S dx dy h k => by
  obtain ⟨d, hd, h⟩ := dat_of S.hs dx h
  obtain ⟨e, he, o1, o2, h⟩ := dat_of S.hs dy h
  rw [hK]
  exact ⟨d, e, hd.dp o1.1, he.dp o2.1, o1.2, o2.2, kB S k h⟩
theorem sim_ne (hK : X.K = c.K) : SimR c (rNeD X.K) fNe := fun Zh F0 σ H ρ θ x y rx ry Φ Q S dx dy h k => by
  obtain ⟨d, hd, h⟩ := dat_of S.hs dx h
  obtain ⟨e, he, o1, o2, h⟩ := dat_of S.hs dy h
  rw [hK]
  exact ⟨d, e, hd.dp o1.1, he.dp o2.1, o1.2, o2.2, kB S k h⟩
/-- x in t -/
def scalD : D → Bool
  | .none | .bool _ | .int _ | .str _ => true
  | _ => false
theorem eqV_eqv {K : PySem.W.Frag} {F : Hp} {v u : V} {d e : D} (hv : Dq K F v d) (hu : Dq K F u e) (s1 : scalD d = true) (s2 : scalD e = true) : eqV v u = PyData.eqv d e ∧ flatV v = true := by
  cases hv with
  | lst _ _ => cases s1
  | tup _ _ => cases s1
  | dct _ _ => cases s1
  | _ =>
    cases hu with
    | lst _ _ => cases s2
    | tup _ _ => cases s2
    | dct _ _ => cases s2
    | _ => exact ⟨by simp [eqV, PyData.eqv], rfl⟩
def inD (d : D) (ds : List D) : Bool := ds.any fun e => PyData.eqv e d
theorem inV_inD {K : PySem.W.Frag} {F : Hp} {v : V} {d : D} (hv : Dq K F v d) (s1 : scalD d = true) : ∀ {vs : List V} {ds : List D}, DqAll K F vs ds → ds.all scalD = true → inV v vs = inD d ds ∧ vs.all flatV = true
  | _, _, .nil, _ => ⟨rfl, rfl⟩
  | _, _, .cons (v := u) (d := e) h t, hs => by
    have hs : (scalD e && _) = true := hs
    rw [Bool.and_eq_true] at hs
    obtain ⟨h1, h2⟩ := eqV_eqv h hv hs.1 s1
    obtain ⟨h3, h4⟩ := inV_inD hv s1 t hs.2
    refine ⟨?_, ?_⟩
    · show (eqV u v || inV v _) = (PyData.eqv e d || inD d _)
      rw [h1, h3]
    · show (flatV u && _) = true
      rw [h2]
      exact h4
def fIn (neg : Bool) : DOp := fun x y θ Φ => asD x fun d => dat y θ fun e => match e with
  | .list ds => (scalD d = true ∧ ds.all scalD = true) ∧ Φ (.d (.bool (if neg then !inD d ds else inD d ds))) θ
  | .tuple ds => (scalD d = true ∧ ds.all scalD = true) ∧ Φ (.d (.bool (if neg then !inD d ds else inD d ds))) θ
  | _ => False
theorem sim_in {neg : Bool} (hK : X.K = c.K) : SimR c (rIn X.K neg) (fIn neg) := fun Zh F0 σ H ρ θ x y rx ry Φ Q S dx dy h k => by
  obtain ⟨d, hd, h⟩ := asD_of dx h
  obtain ⟨e, he, h⟩ := dat_of S.hs dy h
  rw [hK]
  cases e with
  | list ds =>
    obtain ⟨⟨s1, s2⟩, h⟩ := h
    obtain ⟨a, vs, rfl, h1, h2⟩ := he.list
    obtain ⟨e1, e2⟩ := inV_inD hd s1 h2 s2
    refine ⟨a, vs, rfl, .inl h1, (eqV_eqv hd hd s1 s1).2, e2, ?_⟩
    rw [e1]
    exact kB S k h
  | tuple ds =>
    obtain ⟨⟨s1, s2⟩, h⟩ := h
    obtain ⟨a, vs, rfl, h1, h2⟩ := he.tuple
    obtain ⟨e1, e2⟩ := inV_inD hd s1 h2 s2
    refine ⟨a, vs, rfl, .inr h1, (eqV_eqv hd hd s1 s1).2, e2, ?_⟩
    rw [e1]
    exact kB S k h
  | _ => exact h.elim
/-- is None -/
def fIsN (neg : Bool) : DOp := fun x y θ Φ => asD x fun d => asD y fun e => match e with
  | .none => Φ (.d (.bool (match d with | .none => !neg | _ => neg))) θ
  | _ => False
theorem sim_isN : SimR c (fun x y H Q => y = .non ∧ Q (.bl (decide (x = .non))) H) (fIsN false) := fun Zh F0 σ H ρ θ x y rx ry Φ Q S dx dy h k => by
  obtain ⟨d, hd, h⟩ := asD_of dx h
  obtain ⟨e, he, h⟩ := asD_of dy h
  cases e with
  | none =>
    cases he
    refine ⟨rfl, ?_⟩
    cases hd <;> exact kB S k h
  | _ => exact h.elim
theorem sim_notN : SimR c (fun x y H Q => y = .non ∧ Q (.bl (!decide (x = .non))) H) (fIsN true) := fun Zh F0 σ H ρ θ x y rx ry Φ Q S dx dy h k => by
  obtain ⟨d, hd, h⟩ := asD_of dx h
  obtain ⟨e, he, h⟩ := asD_of dy h
  cases e with
  | none =>
    cases he
    refine ⟨rfl, ?_⟩
    cases hd <;> exact kB S k h
  | _ => exact h.elim
/-! ### len, items -/
def on1 (rs : List RV) (k : RV → Prop) : Prop := match rs with
  | [r] => k r
  | _ => False
theorem on1_of {K : PySem.W.Frag} {F : Hp} {vs : List V} {rs : List RV} {k : RV → Prop} (d : DVs K F vs rs) (h : on1 rs k) : ∃ v r, vs = [v] ∧ DV K F v r ∧ k r := by
  unfold on1 at h
  split at h
  · cases d with
    | cons d1 d2 =>
      cases d2
      exact ⟨_, _, rfl, d1, h⟩
  · exact h.elim
def lenD (d : D) (k : Nat → Prop) : Prop := match d with
  | .list ds => k ds.length
  | .tuple ds => k ds.length
  | .str x => small x.length ∧ k x.length
  | _ => False
def fLen : DCl := fun rs θ Φ => on1 rs fun r => dat r θ fun d => lenD d fun n => Φ (.d (.int n)) θ
theorem sim_len (hK : X.K = c.K) : SimC c (fun xs H Q => ∃ x n, xs = [x] ∧ LenV X.K x H n ∧ Q (.int n) H) fLen := fun Zh F0 σ H ρ θ xs rs Φ Q S dx h k => by
  obtain ⟨v, r, rfl, dv, h⟩ := on1_of dx h
  obtain ⟨d, hd, h⟩ := dat_of S.hs dv h
  rw [hK]
  cases d with
  | list ds =>
    obtain ⟨a, vs, rfl, h1, h2⟩ := hd.list
    exact ⟨_, ds.length, rfl, .inl ⟨vs, h1, h2.length.symm⟩, kI S k h⟩
  | tuple ds =>
    obtain ⟨a, vs, rfl, h1, h2⟩ := hd.tuple
    exact ⟨_, ds.length, rfl, .inr ⟨vs, h1, h2.length.symm⟩, kI S k h⟩
  | str x =>
    have e := hd.str
    subst e
    exact ⟨_, x.length, rfl, ⟨h.1.line, rfl⟩, kI S k h.2⟩
  | _ => exact h.elim
def ixD (d : D) (i : Int) (k : D → Prop) : Prop := match d with
  | .list ds => match atI ds i with
    | some x => k x
    | none => False
  | .tuple ds => match atI ds i with
    | some x => k x
    | none => False
  | .str x => small x.length ∧ match atI x.cps.toList i with
    | some n => k (.str ⟨#[n]⟩)
    | none => False
  | _ => False
theorem atI_get {α β : Type} {xs : List α} {ys : List β} (hl : xs.length = ys.length) {i : Int} {y : β} (h : atI ys i = some y) : ∃ j : Nat, ys[j]? = some y ∧ ∀ x, xs[j]? = some x → atI xs i = some x := by
  unfold atI at h ⊢
  rw [hl]
  cases e : ixN ys.length i with
  | none => rw [e] at h; cases h
  | some j =>
    rw [e] at h
    exact ⟨j, h, fun x hx => hx⟩
def asI (r : RV) (k : Int → Prop) : Prop := match r with
  | .d (.int i) => k i
  | _ => False
theorem asI_of {K : PySem.W.Frag} {F : Hp} {v : V} {r : RV} {k : Int → Prop} (d : DV K F v r) (h : asI r k) : ∃ i, v = .int i ∧ k i := by
  unfold asI at h
  split at h
  · cases d
    exact ⟨_, rfl, h⟩
  · exact h.elim
def fIx : DOp := fun x y θ Φ => asI y fun i => dat x θ fun d => ixD d i fun e => Φ (.d e) θ
theorem sim_ix (hK : X.K = c.K) : SimR c (rIx X.K) fIx := fun Zh F0 σ H ρ θ x y rx ry Φ Q S dx dy h k => by
  obtain ⟨i, rfl, h⟩ := asI_of dy h
  obtain ⟨d, hd, h⟩ := dat_of S.hs dx h
  rw [hK]
  cases d with
  | list ds =>
    unfold ixD at h
    obtain ⟨a, vs, rfl, h1, h2⟩ := hd.list
    cases e : atI ds i with
    | none => simp only [e] at h
    | some y =>
      simp only [e] at h
      obtain ⟨j, hj, hx⟩ := atI_get h2.length e
      obtain ⟨v, hv, dv⟩ := h2.get hj
      exact .inl ⟨a, vs, i, v, rfl, rfl, h1, hx v hv, k _ (.d y) H θ S (Mono.refl _) dv h⟩
  | tuple ds =>
    unfold ixD at h
    obtain ⟨a, vs, rfl, h1, h2⟩ := hd.tuple
    cases e : atI ds i with
    | none => simp only [e] at h
    | some y =>
      simp only [e] at h
      obtain ⟨j, hj, hx⟩ := atI_get h2.length e
      obtain ⟨v, hv, dv⟩ := h2.get hj
      exact .inr (.inl ⟨a, vs, i, v, rfl, rfl, h1, hx v hv, k _ (.d y) H θ S (Mono.refl _) dv h⟩)
  | str x =>
    unfold ixD at h
    have e := hd.str
    subst e
    obtain ⟨hz, h⟩ := h
    cases e : atI x.cps.toList i with
    | none => simp only [e] at h
    | some n =>
      simp only [e] at h
      exact .inr (.inr ⟨x, i, n, rfl, rfl, hz.line, e, kS S k h⟩)
  | _ => exact h.elim
theorem de_ix {a b : Expr} {ta tb : TE} {Ta Tb : DTE} {pos : Pos} (hK : X.K = c.K) (ha : DE c X a ta Ta) (hb : DE c X b tb Tb) (hs : PlainIx b) : DE c X (.Subscript a b pos) (tOp (rIx X.K) ta tb) (dOp fIx Ta Tb) :=
  ⟨pe_ix ix_seq ha.pe hb.pe hs, sim_op (sim_ix hK) ha.sim hb.sim⟩
/-! ### slices -/
def cutL {α : Type} (xs : List α) (lo hi : Option Int) : List α := (xs.drop (HT.sIx xs.length 0 lo)).take (HT.sIx xs.length xs.length hi - HT.sIx xs.length 0 lo)
theorem DqAll.cut {K : PySem.W.Frag} {F : Hp} {vs : List V} {ds : List D} (h : DqAll K F vs ds) (lo hi : Option Int) : DqAll K F (cutV vs lo hi) (cutL ds lo hi) := by
  unfold cutV cutL
  rw [h.length]
  exact (h.drop _).take _
abbrev DTO := ExW → Rho → Th → (Option Int → Th → Prop) → Prop
structure DO (c : Cn) (X : Cx) (e : Option Expr) (t : TO) (T : DTO) : Prop where
  po : PO X e t
  sim : ∀ Zh F0 Ex, XL c Zh F0 Ex → ∀ σ H ρ θ (Φ : Option Int → Th → Prop) (Q : Option Int → Hp → Prop), SD c.K c.Ps Zh F0 σ H ρ θ → T Ex ρ θ Φ → (∀ o H' θ', SD c.K c.Ps Zh F0 σ H' ρ θ' → Mono (vis Zh θ H) (vis Zh θ' H') → Φ o θ' → Q o H') → t σ H Q
def oNone : DTO := fun _ _ θ Φ => Φ none θ
def oSome (T : DTE) : DTO := fun Ex ρ θ Φ => T Ex ρ θ fun r θ1 => asI r fun i => Φ (some i) θ1
theorem do_none : DO c X none tNoPart oNone := ⟨po_none, fun Zh F0 Ex L σ H ρ θ Φ Q S h k => k none H θ S (Mono.refl _) h⟩
theorem do_some {e : Expr} {te : TE} {T : DTE} (h : DE c X e te T) : DO c X (some e) (tPart te) (oSome T) := ⟨po_some h.pe, fun Zh F0 Ex L σ H ρ θ Φ Q S t k => h.sim Zh F0 Ex L σ H ρ θ _ _ S t fun v r H1 θ1 S1 m1 d1 h1 => by
  obtain ⟨i, rfl, h2⟩ := asI_of d1 h1
  exact ⟨i, rfl, k (some i) H1 θ1 S1 m1 h2⟩⟩
def dSl (T : DTE) (Tl Th' : DTO) (f : D → Option Int → Option Int → Th → RK → Prop) : DTE := fun Ex ρ θ Φ => T Ex ρ θ fun r θ1 => Tl Ex ρ θ1 fun l θ2 => Th' Ex ρ θ2 fun u θ3 => dat r θ3 fun d => f d l u θ3 Φ
def fSl (d : D) (l u : Option Int) (θ : Th) (Φ : RK) : Prop := match d with
  | .list ds => Φ (.d (.list (cutL ds l u))) θ
  | .tuple ds => Φ (.d (.tuple (cutL ds l u))) θ
  | .str x => small x.length ∧ Φ (.d (.str (cutS x l u))) θ
  | _ => False
def rSlAll (K : PySem.W.Frag) : V → Option Int → Option Int → Hp → VK → Prop := fun x lo hi H Q => (rSlL K x lo hi H Q ∨ rSlA K x lo hi H Q) ∨ rSlS x lo hi H Q
theorem sl_all : SlR X (rSlAll X.K) := SlR.or (SlR.or sl_list sl_tupA) sl_str
theorem cutL_all {α : Type} {xs : List α} {lo hi : Option Int} (h : HT.sIx xs.length 0 lo = 0 ∧ HT.sIx xs.length xs.length hi = xs.length) : cutL xs lo hi = xs := by
  unfold cutL
  rw [h.1, h.2]
  simp
theorem de_slice {e : Expr} {lo hi : Option Expr} {te : TE} {T : DTE} {tl th : TO} {Tl Th' : DTO} {p2 pos : Pos} (hK : X.K = c.K) (he : DE c X e te T) (hl : DO c X lo tl Tl) (hu : DO c X hi th Th') :
    DE c X (.Subscript e (.Slice lo hi none p2) pos) (tSl (rSlAll X.K) te tl th) (dSl T Tl Th' fSl) := by
  refine ⟨pe_slice sl_all he.pe hl.po hu.po, fun Zh F0 Ex L σ H ρ θ Φ Q S h k => ?_⟩
  refine he.sim Zh F0 Ex L σ H ρ θ _ _ S h fun v r H1 θ1 S1 m1 d1 h1 => ?_
  refine hl.sim Zh F0 Ex L σ H1 ρ θ1 _ _ S1 h1 fun l H2 θ2 S2 m2 h2 => ?_
  refine hu.sim Zh F0 Ex L σ H2 ρ θ2 _ _ S2 h2 fun u H3 θ3 S3 m3 h3 => ?_
  obtain ⟨d, hd, h4⟩ := dat_of S3.hs (d1.mono (m2.trans m3)) h3
  have k3 := k.step (m1.trans (m2.trans m3))
  rw [hK]
  cases d with
  | list ds =>
    obtain ⟨a, vs, rfl, q1, q2⟩ := hd.list
    exact .inl (.inl ⟨a, vs, rfl, q1, fun p np => newL S3 k3 np (q2.cut l u) h4⟩)
  | tuple ds =>
    obtain ⟨a, vs, rfl, q1, q2⟩ := hd.tuple
    refine .inl (.inr ⟨a, vs, rfl, q1, fun hw => ?_, fun _ p np => newT S3 k3 np (q2.cut l u) h4⟩)
    cases hd with
    | dq hd =>
      rw [q2.length] at hw
      have h4 : Φ (.d (.tuple (cutL ds l u))) θ3 := h4
      rw [cutL_all hw] at h4
      exact k3 _ (.d (.tuple ds)) H3 θ3 S3 (Mono.refl _) hd h4
  | str x =>
    have e := hd.str
    subst e
    exact .inr ⟨x, rfl, h4.1.line, kS S3 k3 h4.2⟩
  | _ => exact h4.elim
end
end TlD
set_option Elab.async false
set_option linter.all false
set_option maxRecDepth 100000
set_option maxHeartbeats 4000000
namespace TlD
open PySem PySem.Spec PyProof.Rows L2 GxR TlG
section
variable {c : Cn} {X : Cx}
/-! ### new lists: list(..) -/
/-- what list(x) holds -/
def listD (d : D) (k : List D → Prop) : Prop := match d with
  | .list ds => k ds
  | .tuple ds => k ds
  | .str x => small x.length ∧ k (signsD x)
  | _ => False
theorem vals_signs : ∀ (l : List Nat) (us : List Value), l.length = us.length → (∀ (i : Nat) k u, l[i]? = some k → us[i]? = some u → ∃ t, u = .str ⟨#[k]⟩ t) → Vals (l.map fun k => V.str ⟨#[k]⟩) us
  | [], [], _, _ => .nil
  | [], _ :: _, h, _ => by cases h
  | _ :: _, [], h, _ => by cases h
  | k :: l, u :: us, hl, hh => by
    obtain ⟨t, e⟩ := hh 0 k u rfl rfl
    exact .cons ⟨t, e⟩ (vals_signs l us (by simpa using hl) fun i k' u' h1 h2 => hh (i + 1) k' u' (by simpa using h1) (by simpa using h2))
theorem call_listS (hc : X.calm = true) : CallR X (.type "list") (fun xs H Q => ∃ x : Str, xs = [.str x] ∧ x.length ≤ sizeLine ∧ ∀ p, H p = none → Q (.ref p) (upd H p (.lst (x.cps.toList.map fun k => .str ⟨#[k]⟩)))) := by
  intro pins s σ H xs us Q I r h
  obtain ⟨x, rfl, hz, q⟩ := h
  obtain ⟨u, rfl, t, rfl⟩ := vals1 r
  refine call_list_str (I.ok.hd hc) x t (fun h' tk acc' c' hk hS hacc => ?_) hz
  have hn : H s.heap.objs.size = none := I.hok.fresh (Nat.le_refl _)
  have hv : Vals (x.cps.toList.map fun k => V.str ⟨#[k]⟩) acc'.toList := by
    refine vals_signs _ _ (by simp [hacc.1]) fun i k u h1 h2 => ?_
    obtain ⟨k', t', e1, e2⟩ := hacc.2 i u (by rw [← Array.getElem?_toList]; exact h2)
    rw [Array.getElem?_toList] at h1
    rw [e1] at h1
    cases h1
    exact ⟨t', e2⟩
  refine ⟨.ref s.heap.objs.size, upd H s.heap.objs.size (.lst (x.cps.toList.map fun k => .str ⟨#[k]⟩)), I.laid (t' := tk) hk (Nat.le_refl _) ⟨?_, acc'.toList, c', hv, ?_⟩, rfl, q _ hn⟩
  · rw [List.length_map]
    simpa [Str.length] using hz
  · rw [hS]
def rListA (K : PySem.W.Frag) : List V → Hp → VK → Prop := fun xs H Q => (∃ p ys, xs = [.ref p] ∧ (SqL K H p ys ∨ SqT K H p ys) ∧ ∀ l, H l = none → Q (.ref l) (upd H l (.lst ys))) ∨ (∃ x : Str, xs = [.str x] ∧ x.length ≤ sizeLine ∧ ∀ p, H p = none → Q (.ref p) (upd H p (.lst (x.cps.toList.map fun k => .str ⟨#[k]⟩))))
theorem call_listA (hc : X.calm = true) : CallR X (.type "list") (rListA X.K) := by
  intro pins s σ H xs us Q I r h
  rcases h with h | h
  · exact call_list_of pins s σ H xs us Q I r h
  · exact call_listS hc pins s σ H xs us Q I r h
theorem signs_dq {K : PySem.W.Frag} {F : Hp} : ∀ l : List Nat, DqAll K F (l.map fun k => V.str ⟨#[k]⟩) (l.map fun k => PyData.str ⟨#[k]⟩)
  | [] => .nil
  | k :: l => .cons (.str _) (signs_dq l)
def dListC (Ta : DTA) : ExW → Rho → Th → (List D → Th → Prop) → Prop := fun Ex ρ θ Φ => Ta Ex ρ θ fun rs θ1 => on1 rs fun r => dat r θ1 fun d => listD d fun ds => Φ ds θ1
theorem new_list {e : Expr} {ta : TA} {Ta : DTA} {p pos : Pos} {x : Str} (hK : X.K = c.K) (hc : X.calm = true) (hg : Gl X x) (hm : X.mg x = none) (hv : bootBuiltins x = some (.type "list")) (h : DA c X [e] ta Ta)
    (hn : x ≠ "__name__" := by decide) (hd : (x == ("__debug__" : Str)) = false := by decide) (he : starEach [e] X.env = (false, eval e X.env) :: starEach [] X.env := by rfl) (hpl : (backTo pos (starEach [] X.env)).any (·.1) = false := by rfl) :
    PE X (.Call (.Name x p) [e] [] pos) (tCB (rListA X.K) ta) ∧ NewL c (tCB (rListA X.K) ta) (dListC Ta) := by
  refine ⟨pe_callTy (call_listA hc) hg hm hv h.pa hn hd he hpl, fun Zh F0 Ex L σ H ρ θ Φ Q S t k => h.sim Zh F0 Ex L σ H ρ θ _ _ S t fun vs rs H1 θ1 S1 m1 d1 h1 => ?_⟩
  obtain ⟨v, r, rfl, dv, h2⟩ := on1_of d1 h1
  obtain ⟨d, hd, h2⟩ := dat_of S1.hs dv h2
  rw [hK]
  cases d with
  | list ds =>
    obtain ⟨a, vs, rfl, q1, q2⟩ := hd.list
    exact .inl ⟨a, vs, rfl, .inl q1, fun p np => k vs ds H1 θ1 S1 m1 q2 h2 p np⟩
  | tuple ds =>
    obtain ⟨a, vs, rfl, q1, q2⟩ := hd.tuple
    exact .inl ⟨a, vs, rfl, .inr q1, fun p np => k vs ds H1 θ1 S1 m1 q2 h2 p np⟩
  | str x =>
    have e := hd.str
    subst e
    exact .inr ⟨x, rfl, h2.1.line, fun p np => k _ (signsD x) H1 θ1 S1 m1 (signs_dq _) h2.2 p np⟩
  | _ => exact h2.elim
/-- tuple(list), tuple(tuple) -/
def fTuple : DCl := fun rs θ Φ => on1 rs fun r => dat r θ fun d => match d with
  | .list ds => Φ (.d (.tuple ds)) θ
  | .tuple ds => Φ (.d (.tuple ds)) θ
  | _ => False
theorem sim_tuple (hK : X.K = c.K) : SimC c (fun xs H Q => ∃ p ys, xs = [.ref p] ∧ ((SqL X.K H p ys ∧ ∀ l, H l = none → Q (.ref l) (upd H l (.tup ys))) ∨ (SqT X.K H p ys ∧ Q (.ref p) H))) fTuple := fun Zh F0 σ H ρ θ xs rs Φ Q S dx h k => by
  obtain ⟨v, r, rfl, dv, h⟩ := on1_of dx h
  obtain ⟨d, hd, h⟩ := dat_of S.hs dv h
  rw [hK]
  cases d with
  | list ds =>
    obtain ⟨a, vs, rfl, q1, q2⟩ := hd.list
    exact ⟨a, vs, rfl, .inl ⟨q1, fun p np => newT S k np q2 h⟩⟩
  | tuple ds =>
    obtain ⟨a, vs, rfl, q1, q2⟩ := hd.tuple
    cases hd with
    | dq hd => exact ⟨a, vs, rfl, .inr ⟨q1, k _ (.d (.tuple ds)) H θ S (Mono.refl _) hd h⟩⟩
  | _ => exact h.elim
/-! ### isinstance -/
def tyN : D → String
  | .none => "NoneType"
  | .bool _ => "bool"
  | .int _ => "int"
  | .str _ => "str"
  | .list _ => "list"
  | .tuple _ => "tuple"
  | .dict _ => "dict"
theorem dr_ty {K : PySem.W.Frag} {Zh H : Hp} {θ : Th} {v : V} {d : D} (h : DR K Zh H θ v d) : TyX K H v (.type (tyN d)) := by
  have tl : ∀ {a : Addr} {vs : List V}, SqL K H a vs → TyX K H (.ref a) (.type "list") := fun {a vs} q => by
    rcases q with (q | ⟨o, q⟩) | ⟨o, its, n, e1, e2, _⟩
    · exact .base (.lst q)
    · exact .base (.frz q)
    · exact .kList e1 e2
  cases h with
  | seq h1 h2 => exact tl h1
  | dq h =>
    cases h with
    | non => exact .base .non
    | bl b => exact .base (.bl b)
    | int i => exact .base (.int i)
    | str x => exact .base (.str x)
    | lst h1 h2 => exact tl (.inl (.inl (vis_some h1).1))
    | tup h1 h2 =>
      rcases sqT_up h1 with (q | ⟨o, q⟩) | ⟨o, its, n, e1, e2, _⟩
      · exact .base (.tup q)
      · exact .fTuple q
      · exact .kTuple e1 e2
    | dct h1 h2 => exact .base (.dK (vis_some h1).1)
def dIsi (f : D → Bool) (Ta : DTE) : DTE := fun Ex ρ θ Φ => Ta Ex ρ θ fun r θ1 => dat r θ1 fun d => Φ (.d (.bool (f d))) θ1
theorem de_isi {a : Expr} {ta : TE} {Ta : DTE} {nm : Str} {T : String} {f : D → Bool} {p p2 pos : Pos} (hK : X.K = c.K) (hf : ∀ d, kitB (tyN d) T = some (f d)) (hg : Gl X "isinstance") (hm : X.mg "isinstance" = none) (hg2 : Gl X nm) (hm2 : X.mg nm = none) (hv2 : bootBuiltins nm = some (.type T)) (h : DE c X a ta Ta)
    (hn2 : nm ≠ "__name__" := by decide) (hd2 : (nm == ("__debug__" : Str)) = false := by decide)
    (h1 : starEach [a, .Name nm p2] X.env = (false, eval a X.env) :: starEach [.Name nm p2] X.env := by rfl) (h2 : starEach [.Name nm p2] X.env = (false, eval (.Name nm p2) X.env) :: starEach [] X.env := by rfl) (hpl : (backTo pos (starEach [.Name nm p2] X.env)).any (·.1) = false := by rfl) :
    DE c X (.Call (.Name "isinstance" p) [a, .Name nm p2] [] pos) (tCB (rIsi X.K) (tCons ta (tCons (tC (.ty T)) tNil))) (dIsi f Ta) := by
  refine ⟨pe_callB call_isi hg hm (by decide +kernel) (pa_cons h.pe (pa_cons (pe_bltn hg2 hm2 hv2 rfl hn2 hd2) pa_nil h2) h1) (by decide) (by decide) h1 hpl, fun Zh F0 Ex L σ H ρ θ Φ Q S t k => h.sim Zh F0 Ex L σ H ρ θ _ _ S t fun v r H1 θ1 S1 m1 d1 h1 => ?_⟩
  obtain ⟨d, hd, h3⟩ := dat_of S1.hs d1 h1
  rw [hK]
  exact ⟨v, .ty T, .type (tyN d), .type T, f d, rfl, .ty T, dr_ty hd, kit_ty (hf d), kB S1 (k.step m1) h3⟩
def isIntD : D → Bool
  | .int _ | .bool _ => true
  | _ => false
def isBoolD : D → Bool
  | .bool _ => true
  | _ => false
def isStrD : D → Bool
  | .str _ => true
  | _ => false
def isTupD : D → Bool
  | .tuple _ => true
  | _ => false
def isLstD : D → Bool
  | .list _ => true
  | _ => false
def isDctD : D → Bool
  | .dict _ => true
  | _ => false
theorem kit_int : ∀ d : D, kitB (tyN d) "int" = some (isIntD d)
  | .none => (by decide +kernel : kitB "NoneType" "int" = some false)
  | .bool _ => (by decide +kernel : kitB "bool" "int" = some true)
  | .int _ => (by decide +kernel : kitB "int" "int" = some true)
  | .str _ => (by decide +kernel : kitB "str" "int" = some false)
  | .list _ => (by decide +kernel : kitB "list" "int" = some false)
  | .tuple _ => (by decide +kernel : kitB "tuple" "int" = some false)
  | .dict _ => (by decide +kernel : kitB "dict" "int" = some false)
theorem kit_bool : ∀ d : D, kitB (tyN d) "bool" = some (isBoolD d)
  | .none => (by decide +kernel : kitB "NoneType" "bool" = some false)
  | .bool _ => (by decide +kernel : kitB "bool" "bool" = some true)
  | .int _ => (by decide +kernel : kitB "int" "bool" = some false)
  | .str _ => (by decide +kernel : kitB "str" "bool" = some false)
  | .list _ => (by decide +kernel : kitB "list" "bool" = some false)
  | .tuple _ => (by decide +kernel : kitB "tuple" "bool" = some false)
  | .dict _ => (by decide +kernel : kitB "dict" "bool" = some false)
theorem kit_str : ∀ d : D, kitB (tyN d) "str" = some (isStrD d)
  | .none => (by decide +kernel : kitB "NoneType" "str" = some false)
  | .bool _ => (by decide +kernel : kitB "bool" "str" = some false)
  | .int _ => (by decide +kernel : kitB "int" "str" = some false)
  | .str _ => (by decide +kernel : kitB "str" "str" = some true)
  | .list _ => (by decide +kernel : kitB "list" "str" = some false)
  | .tuple _ => (by decide +kernel : kitB "tuple" "str" = some false)
  | .dict _ => (by decide +kernel : kitB "dict" "str" = some false)
theorem kit_tup : ∀ d : D, kitB (tyN d) "tuple" = some (isTupD d)
  | .none => (by decide +kernel : kitB "NoneType" "tuple" = some false)
  | .bool _ => (by decide +kernel : kitB "bool" "tuple" = some false)
  | .int _ => (by decide +kernel : kitB "int" "tuple" = some false)
  | .str _ => (by decide +kernel : kitB "str" "tuple" = some false)
  | .list _ => (by decide +kernel : kitB "list" "tuple" = some false)
  | .tuple _ => (by decide +kernel : kitB "tuple" "tuple" = some true)
  | .dict _ => (by decide +kernel : kitB "dict" "tuple" = some false)
theorem kit_lst : ∀ d : D, kitB (tyN d) "list" = some (isLstD d)
  | .none => (by decide +kernel : kitB "NoneType" "list" = some false)
  | .bool _ => (by decide +kernel : kitB "bool" "list" = some false)
  | .int _ => (by decide +kernel : kitB "int" "list" = some false)
  | .str _ => (by decide +kernel : kitB "str" "list" = some false)
  | .list _ => (by decide +kernel : kitB "list" "list" = some true)
  | .tuple _ => (by decide +kernel : kitB "tuple" "list" = some false)
  | .dict _ => (by decide +kernel : kitB "dict" "list" = some false)
theorem kit_dct : ∀ d : D, kitB (tyN d) "dict" = some (isDctD d)
  | .none => (by decide +kernel : kitB "NoneType" "dict" = some false)
  | .bool _ => (by decide +kernel : kitB "bool" "dict" = some false)
  | .int _ => (by decide +kernel : kitB "int" "dict" = some false)
  | .str _ => (by decide +kernel : kitB "str" "dict" = some false)
  | .list _ => (by decide +kernel : kitB "list" "dict" = some false)
  | .tuple _ => (by decide +kernel : kitB "tuple" "dict" = some false)
  | .dict _ => (by decide +kernel : kitB "dict" "dict" = some true)
/-! ### lists that are changed -/
def onOwn (r : RV) (θ : Th) (k : Addr → List D → Prop) : Prop := match r with
  | .own a => match θ.lookup a with
    | some ds => k a ds
    | none => False
  | _ => False
theorem onOwn_of {Ps : List Addr} {K : PySem.W.Frag} {Zh F0 H : Hp} {θ : Th} {v : V} {r : RV} {k : Addr → List D → Prop} (hs : HS K Ps Zh F0 H θ) (d : DV K (vis Zh θ H) v r) (h : onOwn r θ k) : ∃ a vs ds, v = .ref a ∧ r = .own a ∧ θ.lookup a = some ds ∧ H a = some (.lst vs) ∧ DqAll K (vis Zh θ H) vs ds ∧ k a ds := by
  cases r with
  | d _ => exact h.elim
  | seq _ => exact h.elim
  | rows _ => exact h.elim
  | own a =>
    unfold onOwn at h
    cases e : θ.lookup a with
    | none => simp only [e] at h
    | some ds =>
      simp only [e] at h
      obtain ⟨z, vs, e1, d1⟩ := hs.own _ (th_mem e)
      exact ⟨a, vs, ds, d, rfl, e, e1, d1, h⟩
theorem own_step {Zh F0 : Hp} {σ : L2.St} {H : Hp} {ρ : Rho} {θ : Th} {a : Addr} {vs : List V} {ds ds0 : List D} (S : SD c.K c.Ps Zh F0 σ H ρ θ) (l : θ.lookup a = some ds0) (hd : DqAll c.K (vis Zh θ H) vs ds) :
    SD c.K c.Ps Zh F0 σ (upd H a (.lst vs)) ρ (thSet θ a ds) ∧ Mono (vis Zh θ H) (vis Zh (thSet θ a ds) (upd H a (.lst vs))) := by
  obtain ⟨h1, e⟩ := S.hs.setOwn l hd
  have m : Mono (vis Zh θ H) (vis Zh (thSet θ a ds) (upd H a (.lst vs))) := by rw [e]; exact Mono.refl _
  exact ⟨S.to h1 m, m⟩
def dAppend (To Ta : DTE) : DTE := fun Ex ρ θ Φ => To Ex ρ θ fun ro θ1 => onOwn ro θ1 fun _ _ => Ta Ex ρ θ1 fun r θ2 => asD r fun y => onOwn ro θ2 fun a ds => small ds.length ∧ Φ (.d .none) (thSet θ2 a (ds ++ [y]))
theorem de_append {o e : Expr} {to te : TE} {To T : DTE} {apos cpos : Pos} (ho : DE c X o to To) (he : DE c X e te T)
    (hp : PE X o to → PE X e te → PE X (.Call (.Attribute o "append" apos) [e] [] cpos) (tBM X.K "list" rAppend to (tCons te tNil))) :
    DE c X (.Call (.Attribute o "append" apos) [e] [] cpos) (tBM X.K "list" rAppend to (tCons te tNil)) (dAppend To T) := by
  refine ⟨hp ho.pe he.pe, fun Zh F0 Ex L σ H ρ θ Φ Q S t k => ho.sim Zh F0 Ex L σ H ρ θ _ _ S t fun v r H1 θ1 S1 m1 d1 h1 => ?_⟩
  obtain ⟨a, vs, ds, rfl, rfl, l1, e1, q1, h1⟩ := onOwn_of S1.hs d1 h1
  refine ⟨.inl ⟨rfl, vs, .inl (.inl e1)⟩, he.sim Zh F0 Ex L σ H1 ρ θ1 _ _ S1 h1 fun u r2 H2 θ2 S2 m2 d2 h2 => ?_⟩
  obtain ⟨y, dy, h2⟩ := asD_of d2 h2
  obtain ⟨a', vs2, ds2, ev, er, l2, e2, q2, hz, h3⟩ := onOwn_of (v := .ref a) (r := .own a) S2.hs rfl h2
  cases ev
  cases er
  refine ⟨a, vs2, u, rfl, rfl, e2, by rw [q2.length]; exact hz.lt, ?_⟩
  obtain ⟨S3, m3⟩ := own_step S2 l2 (q2.append (.cons dy .nil))
  exact k .non (.d .none) _ _ S3 (m1.trans (m2.trans m3)) Dq.non h3
theorem DqAll.erase {K : PySem.W.Frag} {F : Hp} : ∀ {vs : List V} {ds : List D} (i : Nat), DqAll K F vs ds → DqAll K F (vs.eraseIdx i) (ds.eraseIdx i)
  | _, _, _, .nil => .nil
  | _, _, 0, .cons _ t => t
  | _, _, i + 1, .cons r t => .cons r (DqAll.erase i t)
def dPopAt (To Ta : DTE) : DTE := fun Ex ρ θ Φ => To Ex ρ θ fun ro θ1 => onOwn ro θ1 fun _ _ => Ta Ex ρ θ1 fun r θ2 => asI r fun i => onOwn ro θ2 fun a ds => (0 ≤ i ∧ i < ds.length ∧ small ds.length) ∧ match ds[i.toNat]? with
  | some y => Φ (.d y) (thSet θ2 a (ds.eraseIdx i.toNat))
  | none => False
theorem de_popAt {o e : Expr} {to te : TE} {To T : DTE} {apos cpos : Pos} (ho : DE c X o to To) (he : DE c X e te T)
    (hp : PE X o to → PE X e te → PE X (.Call (.Attribute o "pop" apos) [e] [] cpos) (tBM X.K "list" rPopAt to (tCons te tNil))) :
    DE c X (.Call (.Attribute o "pop" apos) [e] [] cpos) (tBM X.K "list" rPopAt to (tCons te tNil)) (dPopAt To T) := by
  refine ⟨hp ho.pe he.pe, fun Zh F0 Ex L σ H ρ θ Φ Q S t k => ho.sim Zh F0 Ex L σ H ρ θ _ _ S t fun v r H1 θ1 S1 m1 d1 h1 => ?_⟩
  obtain ⟨a, vs, ds, rfl, rfl, l1, e1, q1, h1⟩ := onOwn_of S1.hs d1 h1
  refine ⟨.inl ⟨rfl, vs, .inl (.inl e1)⟩, he.sim Zh F0 Ex L σ H1 ρ θ1 _ _ S1 h1 fun u r2 H2 θ2 S2 m2 d2 h2 => ?_⟩
  obtain ⟨i, rfl, h2⟩ := asI_of d2 h2
  obtain ⟨a', vs2, ds2, ev, er, l2, e2, q2, ⟨hi0, hi1, hz⟩, h3⟩ := onOwn_of (v := .ref a) (r := .own a) S2.hs rfl h2
  cases ev
  cases er
  cases ey : ds2[i.toNat]? with
  | none => simp only [ey] at h3
  | some y =>
    simp only [ey] at h3
    obtain ⟨w, hw, dw⟩ := q2.get ey
    refine ⟨a, vs2, i, i.toNat, w, rfl, rfl, e2, by omega, ?_, ?_, hw, ?_⟩
    · have : (ds2.length : Int) ≤ 1000000 := Int.ofNat_le.mpr hz
      omega
    · exact PySem.seqIndex_of hi0 (by rw [q2.length]; exact hi1)
    · obtain ⟨S3, m3⟩ := own_step S2 l2 (q2.erase i.toNat)
      exact k w (.d y) _ _ S3 (m1.trans (m2.trans m3)) (dp_mono m3 _ _ dw) h3
/-- xs[i] = e -/
def dSetIx (T To Ti : DTE) : DTS := fun E ρ θ => T E.ex ρ θ fun r θ1 => asD r fun y => To E.ex ρ θ1 fun ro θ2 => Ti E.ex ρ θ2 fun ri θ3 => asI ri fun i => onOwn ro θ3 fun a ds => (0 ≤ i ∧ i < ds.length) ∧ E.nx ρ (thSet θ3 a (ds.set i.toNat y))
theorem ds_setIx {o i e : Expr} {to ti te : TE} {To Ti T : DTE} {tpos pos : Pos} (he : DE c X e te T) (ho : DE c X o to To) (hi : DE c X i ti Ti)
    (hp : PE X e te → PE X o to → PE X i ti → PS X (.Assign [.Subscript o i tpos] e pos) (tAsg te (gSub to ti rSetL))) :
    DS c X (.Assign [.Subscript o i tpos] e pos) (tAsg te (gSub to ti rSetL)) (dSetIx T To Ti) := by
  refine ⟨hp he.pe ho.pe hi.pe, fun Zh F0 E D L O σ H ρ θ S h => he.sim Zh F0 E.ex L σ H ρ θ _ _ S h fun v r H1 θ1 S1 m1 d1 h1 => ?_⟩
  obtain ⟨y, dy, h1⟩ := asD_of d1 h1
  refine ho.sim Zh F0 E.ex L σ H1 ρ θ1 _ _ S1 h1 fun vo ro H2 θ2 S2 m2 d2 h2 => ?_
  refine hi.sim Zh F0 E.ex L σ H2 ρ θ2 _ _ S2 h2 fun vi ri H3 θ3 S3 m3 d3 h3 => ?_
  obtain ⟨n, rfl, h3⟩ := asI_of d3 h3
  obtain ⟨a, vs, ds, rfl, rfl, l, e, q, ⟨h0, hn⟩, h4⟩ := onOwn_of S3.hs (d2.mono m3) h3
  refine ⟨a, vs, n, n.toNat, rfl, rfl, e, ?_, ?_⟩
  · unfold ixN
    rw [q.length, if_pos h0, if_pos hn]
  · obtain ⟨S4, m4⟩ := own_step S3 l (q.set (dp_mono (m2.trans m3) _ _ dy) n.toNat)
    exact O.nx _ _ _ _ S4 h4
/-! ### numbers -/
def fAbs : DCl := fun rs θ Φ => on1 rs fun r => asI r fun i => Φ (.d (.int (if i < 0 then -i else i))) θ
theorem sim_abs : SimC c (fun xs H Q => ∃ i, xs = [.int i] ∧ Q (.int (if i < 0 then -i else i)) H) fAbs := fun Zh F0 σ H ρ θ xs rs Φ Q S dx h k => by
  obtain ⟨v, r, rfl, dv, h⟩ := on1_of dx h
  obtain ⟨i, rfl, h⟩ := asI_of dv h
  exact ⟨i, rfl, kI S k h⟩
def fMax : DCl := fun rs θ Φ => is2I rs fun i j => Φ (.d (.int (if j > i then j else i))) θ
def fMin : DCl := fun rs θ Φ => is2I rs fun i j => Φ (.d (.int (if j < i then j else i))) θ
theorem sim_max : SimC c (fun xs H Q => ∃ i j, xs = [.int i, .int j] ∧ Q (.int (if j > i then j else i)) H) fMax := fun Zh F0 σ H ρ θ xs rs Φ Q S dx h k => by
  obtain ⟨i, j, rfl, h⟩ := is2I_of dx h
  exact ⟨i, j, rfl, kI S k h⟩
theorem sim_min : SimC c (fun xs H Q => ∃ i j, xs = [.int i, .int j] ∧ Q (.int (if j < i then j else i)) H) fMin := fun Zh F0 σ H ρ θ xs rs Φ Q S dx h k => by
  obtain ⟨i, j, rfl, h⟩ := is2I_of dx h
  exact ⟨i, j, rfl, kI S k h⟩
def fDivmod : DCl := fun rs θ Φ => is2I rs fun i j => (0 < j ∧ j < 1000000000) ∧ Φ (.d (.tuple [.int (i / j), .int (i % j)])) θ
theorem sim_divmod : SimC c (fun xs H Q => ∃ i j, xs = [.int i, .int j] ∧ CDiv i j ∧ ∀ p, H p = none → Q (.ref p) (upd H p (.tup [.int (i / j), .int (i % j)]))) fDivmod := fun Zh F0 σ H ρ θ xs rs Φ Q S dx h k => by
  obtain ⟨i, j, rfl, h0, h⟩ := is2I_of dx h
  exact ⟨i, j, rfl, ⟨h0.1, by have := h0.2; omega⟩, fun p np => newT S k np (.cons (.int _) (.cons (.int _) .nil)) h⟩
/-- str(n) -/
def fStrI : DCl := fun rs θ Φ => on1 rs fun r => asI r fun i => i.natAbs.log2 < 1920 ∧ Φ (.d (.str (toString i))) θ
theorem sim_strI : SimC c (fun xs H Q => ∃ i, xs = [.int i] ∧ i.natAbs.log2 < 1920 ∧ Q (.str (toString i)) H) fStrI := fun Zh F0 σ H ρ θ xs rs Φ Q S dx h k => by
  obtain ⟨v, r, rfl, dv, h⟩ := on1_of dx h
  obtain ⟨i, rfl, h⟩ := asI_of dv h
  exact ⟨i, rfl, h.1, kS S k h.2⟩
/-! ### texts -/
def fmtD (d : D) (k : Str → Prop) : Prop := match d with
  | .str x => small x.length ∧ k x
  | .int i => i.natAbs.log2 < 1920 ∧ k (toString i)
  | _ => False
def dFmt (T : DTE) : DTE := fun Ex ρ θ Φ => T Ex ρ θ fun r θ1 => asD r fun d => fmtD d fun x => Φ (.d (.str x)) θ1
theorem de_fmt {e : Expr} {te : TE} {T : DTE} {pos : Pos} (h : DE c X e te T) : DE c X (.FormattedValue e (-1) none pos) (tFmt te) (dFmt T) := ⟨pe_fmt h.pe, fun Zh F0 Ex L σ H ρ θ Φ Q S t k => h.sim Zh F0 Ex L σ H ρ θ _ _ S t fun v r H1 θ1 S1 m1 d1 h1 => by
  obtain ⟨d, hd, h2⟩ := asD_of d1 h1
  cases d with
  | str x =>
    cases hd
    exact .inl ⟨x, rfl, h2.1.line, kS S1 (k.step m1) h2.2⟩
  | int i =>
    cases hd
    exact .inr ⟨i, rfl, h2.1, kS S1 (k.step m1) h2.2⟩
  | _ => exact h2.elim⟩
def asS (r : RV) (k : Str → Prop) : Prop := match r with
  | .d (.str x) => k x
  | _ => False
theorem asS_of {K : PySem.W.Frag} {F : Hp} {v : V} {r : RV} {k : Str → Prop} (d : DV K F v r) (h : asS r k) : ∃ x, v = .str x ∧ k x := by
  unfold asS at h
  split at h
  · cases d
    exact ⟨_, rfl, h⟩
  · exact h.elim
structure DJ (c : Cn) (X : Cx) (es : List Expr) (ts : List TE) (T : ExW → Rho → Th → Str → (Str → Th → Prop) → Prop) : Prop where
  pj : PJ X es ts
  sim : ∀ Zh F0 Ex, XL c Zh F0 Ex → ∀ σ H ρ θ acc (Φ : Str → Th → Prop) (Q : Str → Hp → Prop), SD c.K c.Ps Zh F0 σ H ρ θ → T Ex ρ θ acc Φ → (∀ x H' θ', SD c.K c.Ps Zh F0 σ H' ρ θ' → Mono (vis Zh θ H) (vis Zh θ' H') → Φ x θ' → Q x H') → tJs ts acc σ H Q
def jNil : ExW → Rho → Th → Str → (Str → Th → Prop) → Prop := fun _ _ θ acc Φ => Φ acc θ
def jCons (T : DTE) (U : ExW → Rho → Th → Str → (Str → Th → Prop) → Prop) : ExW → Rho → Th → Str → (Str → Th → Prop) → Prop := fun Ex ρ θ acc Φ => T Ex ρ θ fun r θ1 => asS r fun x => small (acc ++ x).length ∧ U Ex ρ θ1 (acc ++ x) Φ
theorem dj_nil : DJ c X [] [] jNil := ⟨.nil, fun Zh F0 Ex L σ H ρ θ acc Φ Q S h k => k acc H θ S (Mono.refl _) h⟩
theorem dj_cons {e : Expr} {es : List Expr} {te : TE} {ts : List TE} {T : DTE} {U : ExW → Rho → Th → Str → (Str → Th → Prop) → Prop} (h : DE c X e te T) (g : DJ c X es ts U) : DJ c X (e :: es) (te :: ts) (jCons T U) :=
  ⟨.cons h.pe g.pj, fun Zh F0 Ex L σ H ρ θ acc Φ Q S t k => h.sim Zh F0 Ex L σ H ρ θ _ _ S t fun v r H1 θ1 S1 m1 d1 h1 => by
    obtain ⟨x, rfl, hz, h2⟩ := asS_of d1 h1
    exact ⟨x, rfl, hz.line, g.sim Zh F0 Ex L σ H1 ρ θ1 _ Φ Q S1 h2 fun y H2 θ2 S2 m2 h3 => k y H2 θ2 S2 (m1.trans m2) h3⟩⟩
def dJoined (U : ExW → Rho → Th → Str → (Str → Th → Prop) → Prop) : DTE := fun Ex ρ θ Φ => U Ex ρ θ Str.empty fun x θ1 => Φ (.d (.str x)) θ1
theorem de_joined {v1 v2 : Expr} {rest : List Expr} {ts : List TE} {U : ExW → Rho → Th → Str → (Str → Th → Prop) → Prop} {pos : Pos} (h : DJ c X (v1 :: v2 :: rest) ts U) : DE c X (.JoinedStr (v1 :: v2 :: rest) pos) (fun σ H Q => tJs ts Str.empty σ H fun out H1 => Q (.str out) H1) (dJoined U) :=
  ⟨pe_joined h.pj, fun Zh F0 Ex L σ H ρ θ Φ Q S t k => h.sim Zh F0 Ex L σ H ρ θ _ _ _ S t fun x H1 θ1 S1 m1 h1 => k _ (.d (.str x)) H1 θ1 S1 m1 (Dq.str _) h1⟩
/-- s.split(t), sep.join(xs) -/
def strsD : List D → Option (List Str)
  | [] => some []
  | .str x :: ds => (strsD ds).map (x :: ·)
  | _ :: _ => none
theorem strsD_map : ∀ {ds : List D} {xs : List Str}, strsD ds = some xs → ds = xs.map PyData.str
  | [], xs, h => by
    cases h
    rfl
  | d :: ds, xs, h => by
    cases d with
    | str x =>
      have h : (strsD ds).map (x :: ·) = some xs := h
      cases e : strsD ds with
      | none => rw [e] at h; cases h
      | some ms =>
        rw [e] at h
        cases h
        rw [strsD_map e]
        rfl
    | _ => cases h
theorem strsD_str (xs : List Str) : strsD (xs.map PyData.str) = some xs := by
  induction xs with
  | nil => rfl
  | cons n ns ih =>
    show (strsD (ns.map PyData.str)).map (n :: ·) = _
    rw [ih]
    rfl
theorem dq_strs {K : PySem.W.Frag} {F : Hp} : ∀ {vs : List V} {xs : List Str}, DqAll K F vs (xs.map PyData.str) → vs = xs.map V.str
  | [], [], _ => rfl
  | _, n :: ns, .cons d t => by
    cases d
    rw [dq_strs t]
    rfl
def dSplit (To Te : DTE) : DTE := fun Ex ρ θ Φ => To Ex ρ θ fun r θ1 => asS r fun x => Te Ex ρ θ1 fun r2 θ2 => asS r2 fun y => ((y.length == 0) = false ∧ small x.length) ∧ Φ (.d (.list ((Txt.split x y).map PyData.str))) θ2
theorem de_split {o e : Expr} {to te : TE} {To T : DTE} {apos pos : Pos} (ho : DE c X o to To) (he : DE c X e te T) (hs : starEach [e] X.env = [(false, eval e X.env)] := by rfl) (hbase : attributeBase o "split" X.env (eval o X.env) = eval o X.env := by rfl) (hline : (apos.endLine == pos.line) = true := by rfl) :
    DE c X (.Call (.Attribute o "split" apos) [e] [] pos) (tM1 (fun x xs H Q => ∃ a b, x = .str a ∧ xs = [.str b] ∧ (b.length == 0) = false ∧ a.length + 2 ≤ sizeLine ∧ rNewStrs (Txt.split a b) H Q) to te) (dSplit To T) := by
  refine ⟨pe_split ho.pe he.pe hs hbase hline, fun Zh F0 Ex L σ H ρ θ Φ Q S t k => ho.sim Zh F0 Ex L σ H ρ θ _ _ S t fun v r H1 θ1 S1 m1 d1 h1 => ?_⟩
  obtain ⟨x, rfl, h1⟩ := asS_of d1 h1
  refine ⟨⟨x, rfl⟩, he.sim Zh F0 Ex L σ H1 ρ θ1 _ _ S1 h1 fun u r2 H2 θ2 S2 m2 d2 h2 => ?_⟩
  obtain ⟨y, rfl, ⟨hy, hz⟩, h3⟩ := asS_of d2 h2
  refine ⟨x, y, rfl, rfl, hy, ?_, fun p np => newL S2 (k.step (m1.trans m2)) np (DqAll.strs _) h3⟩
  exact Nat.le_trans (Nat.add_le_add_right hz 2) (Nat.le_trans (by omega : 1000000 + 2 ≤ 16777216) (Nat.le_of_eq sizeLine_eq.symm))
/-- a list, a tuple -/
def seqD (d : D) (k : List D → Prop) : Prop := match d with
  | .list ds => k ds
  | .tuple ds => k ds
  | _ => False
def dJoin (To Te : DTE) : DTE := fun Ex ρ θ Φ => To Ex ρ θ fun r θ1 => asS r fun x => Te Ex ρ θ1 fun r2 θ2 => dat r2 θ2 fun d => seqD d fun ds => match strsD ds with
  | some ys => (ys.map (·.length)).sum + ys.length * x.length ≤ 1000000 ∧ Φ (.d (.str (Txt.join x ys))) θ2
  | none => False
theorem de_join {o e : Expr} {to te : TE} {To T : DTE} {apos pos : Pos} (hK : X.K = c.K) (ho : DE c X o to To) (he : DE c X e te T) (hs : starEach [e] X.env = [(false, eval e X.env)] := by rfl) (hbase : attributeBase o "join" X.env (eval o X.env) = eval o X.env := by rfl) (hline : (apos.endLine == pos.line) = true := by rfl) :
    DE c X (.Call (.Attribute o "join" apos) [e] [] pos) (tM1 (fun x xs H Q => ∃ a p, ∃ ys : List Str, x = .str a ∧ xs = [.ref p] ∧ (SqL X.K H p (ys.map V.str) ∨ SqT X.K H p (ys.map V.str)) ∧
      (ys.map (·.length)).sum + ys.length * a.length ≤ 16777216 ∧ Q (.str (Txt.join a ys)) H) to te) (dJoin To T) := by
  refine ⟨pe_join ho.pe he.pe hs hbase hline, fun Zh F0 Ex L σ H ρ θ Φ Q S t k => ho.sim Zh F0 Ex L σ H ρ θ _ _ S t fun v r H1 θ1 S1 m1 d1 h1 => ?_⟩
  obtain ⟨x, rfl, h1⟩ := asS_of d1 h1
  refine ⟨⟨x, rfl⟩, he.sim Zh F0 Ex L σ H1 ρ θ1 _ _ S1 h1 fun u r2 H2 θ2 S2 m2 d2 h2 => ?_⟩
  obtain ⟨d, hd, h3⟩ := dat_of S2.hs d2 h2
  rw [hK]
  have fin : ∀ {ds : List D} {vs : List V}, DqAll c.K (vis Zh θ2 H2) vs ds → (match strsD ds with
      | some ys => (ys.map (·.length)).sum + ys.length * x.length ≤ 1000000 ∧ Φ (.d (.str (Txt.join x ys))) θ2
      | none => False) → ∃ ys : List Str, vs = ys.map V.str ∧ (ys.map (·.length)).sum + ys.length * x.length ≤ 16777216 ∧ Q (.str (Txt.join x ys)) H2 := fun {ds vs} q h => by
    cases e : strsD ds with
    | none => simp only [e] at h
    | some ys =>
      simp only [e] at h
      rw [strsD_map e] at q
      exact ⟨ys, dq_strs q, Nat.le_trans h.1 (by omega), kS S2 (k.step (m1.trans m2)) h.2⟩
  cases d with
  | list ds =>
    obtain ⟨a, vs, rfl, q1, q2⟩ := hd.list
    obtain ⟨ys, rfl, hz, q⟩ := fin q2 h3
    exact ⟨x, a, ys, rfl, rfl, .inl q1, hz, q⟩
  | tuple ds =>
    obtain ⟨a, vs, rfl, q1, q2⟩ := hd.tuple
    obtain ⟨ys, rfl, hz, q⟩ := fin q2 h3
    exact ⟨x, a, ys, rfl, rfl, .inr q1, hz, q⟩
  | _ => exact h3.elim
end
end TlD
set_option Elab.async false
set_option linter.all false
set_option maxRecDepth 100000
set_option maxHeartbeats 4000000
/-! sets of the signs of a text, sorted -/
namespace TlS
open PySem PySem.Spec PyProof.Rows L2 PySem.Froz

/-- the payload, exact: texts, the table rises, the order is told -/
structure Tx (P : Program) (w : World) (D : PySem.Froz.SD) (l : List Str) : Prop where
  ok : TxOk P w D l
  nd : l.Nodup
  ri : Ris D.2.2.place.toList
  le : w.params.followText "set-order" = true ∨ D.2.2.led = true
def TxAt (P : Program) (w : World) (h : Heap) (a : Addr) (l : List Str) : Prop := ∃ D, h.get? a = some (sObj "set" D) ∧ Tx P w D l
section
variable {P : Program} {w : World} {A : Around} {E : Value → Shared → Prop} {s : Shared}

theorem tail_more {ep : Nat} {es : Array (Int × Value)} {t : SetTable} {b : Bool} (r : Ris t.place.toList) : Ris (tailTx ep es t b).2.2.place.toList ∧ (tailTx ep es t b).2.2.led = t.led := by
  unfold tailTx
  split
  · exact ⟨relayAll_ris _ _ _, relayAll_led _ _ _⟩
  · exact ⟨r, rfl⟩
theorem add_more {D : PySem.Froz.SD} (h : Int) (v : Value) (r : Ris D.2.2.place.toList) : Ris (addTx h v D).2.2.place.toList ∧ (addTx h v D).2.2.led = D.2.2.led := by
  have r1 := layNew_ris D.2.2 D.1 h v r
  have e1 := layNew_led D.2.2 D.1 h v
  unfold addTx
  generalize layNew D.2.2 D.1 h v = Z at r1 e1 ⊢
  obtain ⟨z1, z2, z3, z4⟩ := Z
  dsimp only at r1 e1 ⊢
  by_cases c : z2.plain = true
  · rw [if_pos c]
    obtain ⟨q1, q2⟩ := tail_more (ep := D.2.1) (es := z1) (t := { z2 with plain := false }) (b := z3) r1
    exact ⟨q1, q2.trans e1⟩
  · rw [if_neg c]
    obtain ⟨q1, q2⟩ := tail_more (ep := D.2.1) (es := z1) (t := z2) (b := z3) r1
    exact ⟨q1, q2.trans e1⟩
theorem Tx.add {D : PySem.Froz.SD} {l : List Str} {k : Str} (u : Tok) (F : Tx P w D l) (hk : k ∉ l) : Tx P w (addTx (hashStr w k) (.str k u) D) (k :: l) :=
  let q := add_more (hashStr w k) (.str k u) F.ri
  ⟨add_ok u F.ok, List.nodup_cons.mpr ⟨hk, F.nd⟩, q.1, F.le.imp id fun z => q.2.trans z⟩
/-- a text that is there already -/
theorem add_there {a : Addr} {D : PySem.Froz.SD} {l : List Str} {k : Str} {u : Tok} {Q : Bool → Shared → Prop} (ho : s.heap.get? a = some (sObj "set" D)) (F : TxOk P w D l) (hk : k ∈ l) (hb : l.length < scanBound)
    (h : Q false s) : wpAny (model P w) A (setAddHashed a (.str k u) (hashStr w k)) Q E s := by
  obtain ⟨es, ep, t⟩ := D
  have hsz : es.size = l.length := F.sz
  obtain ⟨j, hj⟩ : ∃ j, List.findIdx? (fun e => (strKind P w).is k e.2) es.toList = some j := by
    cases hr : List.findIdx? (fun e => (strKind P w).is k e.2) es.toList with
    | some j => exact ⟨j, rfl⟩
    | none =>
      obtain ⟨e, he, q⟩ := (F.mem k).mp hk
      have c := List.findIdx?_eq_none_iff.mp hr e he
      rw [q] at c
      cases c
  unfold setAddHashed setAddHashedIn
  refine wpAny_holding (wpAny_bind (wpAny_setState_of ho (show (sObj "set" (es, ep, t)).data = .set es ep t from rfl) F.fit ?_))
  dsimp only
  rw [byScan_of rfl (by rw [hsz]; exact hb) F.el]
  simp only [↓reduceIte]
  unfold setAddByScan
  refine wpAny_bind (wpAny_bind (wpAny_rule (wpAny_bind (wpAny_setScan_of (knd := strKind P w) (k := k) (is_str k u) ho rfl F.fit F.el ?_))))
  rw [hj]
  dsimp only
  exact wpAny_pure (wpAny_pure h)
theorem set_add_txt {a : Addr} {l : List Str} {k : Str} {u : Tok} {Q : Bool → Shared → Prop} (R : TxAt P w s.heap a l) (room : l.length + 1 < scanBound)
    (hQ : ∀ b h' l', Heap.SameBut a s.heap h' → TxAt P w h' a l' → (∀ y, y ∈ l' ↔ y = k ∨ y ∈ l) → l'.length ≤ l.length + 1 → Q b { s with heap := h' }) : wpAny (model P w) A (setAddHashed a (.str k u) (hashStr w k)) Q E s := by
  obtain ⟨D, ho, F⟩ := R
  by_cases c : k ∈ l
  · refine add_there ho F.ok c (by omega) ?_
    exact hQ false s.heap l (Heap.SameBut.refl a s.heap) ⟨D, ho, F⟩ (fun y => ⟨.inr, fun z => z.elim (fun e => e ▸ c) id⟩) (Nat.le_succ _)
  · refine add_x ho F.ok c room ?_
    exact hQ true _ (k :: l) (Heap.SameBut.update s.heap a _) ⟨_, get_upd _ ho rfl, F.add u c⟩ (fun y => List.mem_cons) (Nat.le_refl _)
/-- the loop behind set(text) -/
theorem signs_in {I : Addr} {fp wr : List Addr} {G : Array GenState → Array GenState → Prop} {x : Str} {St : Nat → Shared → Prop} {R : Result → Shared → Prop}
    (W : WalksS P w A.in1 I fp wr G x.cps.size (SignAt x) St) (S : Addr) (hSf : S ∉ fp) (hb : x.cps.size + 1 < scanBound) :
    ∀ (k i : Nat) (s : Shared) (l : List Str), x.cps.size - i = k → i ≤ x.cps.size → St i s → TxAt P w s.heap S l → l.length ≤ i → (∀ y, y ∈ l ↔ ∃ c ∈ x.cps.toList.take i, y = ⟨#[c]⟩) →
      (∀ s' l', Moved (S :: wr) G s s' → TxAt P w s'.heap S l' → l'.length ≤ x.cps.size → (∀ y, y ∈ l' ↔ ∃ c ∈ x.cps.toList, y = ⟨#[c]⟩) → R (.ok (.ret .none)) s') →
      codeAny (model P w) A (.builtin "set.update.loop" ⟨[.ref S, .ref I], []⟩) R s := by
  have hw : ∀ b ∈ wr, b ∈ S :: wr := fun b hb => List.mem_cons_of_mem _ hb
  have hSw : S ∉ wr := fun h => hSf (W.sub _ h)
  have stay : ∀ {s s' : Shared} {l : List Str}, Moved wr G s s' → TxAt P w s.heap S l → TxAt P w s'.heap S l := fun hm ⟨D, ho, F⟩ => ⟨D, hm.heap S _ hSw ho, F⟩
  intro k
  induction k with
  | zero =>
    intro i s l hk hi st t hl hm hR
    obtain rfl : i = x.cps.size := by omega
    refine codeAny_builtin F.entry_set_update_loop ?_
    rw [Around.under_plainId F.plain_set_update_loop _]
    show wpAny _ A.in1 (pyNext (.ref I) >>= _) _ _ s
    refine wpAny_bind (W.done s _ _ st fun s' mv => ?_)
    show wpAny _ A.in1 (ret Value.none) _ _ s'
    refine wpAny_pure (hR s' l (mv.mono hw) (stay mv t) hl fun y => ?_)
    have e : x.cps.toList.take x.cps.size = x.cps.toList := List.take_of_length_le (by rw [Array.length_toList]; exact Nat.le_refl _)
    rw [hm y, e]
  | succ k ih =>
    intro i s l hk hi st t hl hm hR
    have hlt : i < x.cps.size := by omega
    refine codeAny_builtin F.entry_set_update_loop ?_
    rw [Around.under_plainId F.plain_set_update_loop _]
    show wpAny _ A.in1 (pyNext (.ref I) >>= _) _ _ s
    refine wpAny_bind (W.item i s _ _ hlt st fun v s' hv st' mv => ?_)
    obtain ⟨c, u, hc, rfl⟩ := hv
    show wpAny _ A.in1 (holding [Value.str ⟨#[c]⟩ u] (setAdd S (.str ⟨#[c]⟩ u)) >>= _) _ _ s'
    refine wpAny_bind (wpAny_holding ?_)
    unfold setAdd
    refine wpAny_holding (wpAny_bind ((strKind P w).pyHash (k := ⟨#[c]⟩) (is_str _ _) ?_))
    have t1 : TxAt P w s'.heap S l := stay mv t
    refine set_add_txt (s := { s' with toks := s'.toks + 1 }) t1 (by omega) fun b h' l' sb t' hm' hl' => ?_
    have ec : x.cps.toList.take (i + 1) = x.cps.toList.take i ++ [c] := by
      rw [List.take_succ, Array.getElem?_toList, hc]
      rfl
    refine wpAny_pure ⟨plainId_quiet F.plain_set_update_loop _, ih (i + 1) _ l' (by omega) hlt (W.frame _ s' _ _ st' (Nat.le_succ _) fun b hb o e => ?_) t' (by omega) (fun y => ?_) fun s2 l2 mv2 t2 hl2 hm2 => ?_⟩
    · rw [sb.2 b (fun h : b = S => hSf (h ▸ hb))]
      exact e
    · rw [hm' y, hm y, ec]
      constructor
      · rintro (rfl | ⟨d, hd, rfl⟩)
        · exact ⟨c, List.mem_append_right _ List.mem_cons_self, rfl⟩
        · exact ⟨d, List.mem_append_left _ hd, rfl⟩
      · rintro ⟨d, hd, rfl⟩
        rcases List.mem_append.mp hd with q | q
        · exact .inr ⟨d, q, rfl⟩
        · obtain rfl := List.mem_singleton.mp q
          exact .inl rfl
    · refine hR s2 l2 (Moved.trans W.gtrans ((mv.mono hw).then_heap (Nat.le_succ _) fun b o hb e => ?_) mv2) t2 hl2 hm2
      rw [sb.2 b (fun h : b = S => hb (by rw [h]; exact List.mem_cons_self))]
      exact e
abbrev freshSet (w : World) : Obj := { cls := .type "set", dict := none, data := .set #[] 0 (.fresh 0 0 (!w.params.followText "set-order")) }
theorem txAt_fresh {h : Heap} {a : Addr} (e : h.get? a = some (freshSet w)) : TxAt P w h a [] :=
  ⟨(#[], 0, .fresh 0 0 (!w.params.followText "set-order")), e, TxOk.nil (by rfl), List.nodup_nil, List.Pairwise.nil, by
    show _ ∨ (!w.params.followText "set-order") = true
    cases w.params.followText "set-order"
    · exact .inr rfl
    · exact .inl rfl⟩
set_option maxHeartbeats 8000000 in
theorem call_set_txt {x : Str} {t : Tok} {Q : Value → Shared → Prop} (hh : A.handled = none) (hb : x.cps.size + 1 < scanBound)
    (h : ∀ (h' : Heap) (tk : Nat) l, TxAt P w h' s.heap.objs.size l → l.length ≤ x.cps.size → (∀ y, y ∈ l ↔ ∃ c ∈ x.cps.toList, y = ⟨#[c]⟩) → (∀ b o, s.heap.get? b = some o → h'.get? b = some o) → Q (.ref s.heap.objs.size) { s with heap := h', toks := tk }) :
    wpAny (model P w) A (call (.type "set") [.str x t]) Q E s := by
  obtain ⟨c, tl, hmro⟩ := F.called_set.mro
  have hmade := F.called_set.made
  have hsub := F.called_set.sub
  have h1 := F.called_set.notType
  have h2 := F.called_set.canCreate
  have hct := F.typeCall_set_1 (.str x t)
  refine wpAny_call (codeAny_of_tree (show wpAny _ _ (callAny (.type "set") _) _ _ _ from wpAny_pure ⟨Code.quiet_builtin _ (by decide +kernel), codeAny_builtin F.entry_type_call ?_⟩))
  rw [Around.under_plain (weight_type_call_type "set" [.str x t] []) rfl]
  repeat (any_goals (first | assumption | wp_step))
  refine codeAny_mono (code_set_led1 (.str x t) (E := E) (Q₁ := fun obj s₁ => obj = .ref s.heap.objs.size ∧ s₁ = { s with heap := s.heap.push (freshSet w) }) ⟨rfl, rfl⟩) fun r s₁ hr => ?_
  cases r with
  | error e => exact hr
  | ok fl =>
    cases fl with
    | ret obj =>
      obtain ⟨rfl, rfl⟩ := hr
      have hS : (s.heap.push (freshSet w)).get? s.heap.objs.size = some (freshSet w) := Heap.get?_push_size _ rfl
      have hT : Shared.TypeIs { s with heap := s.heap.push (freshSet w) } (.ref s.heap.objs.size) "set" := ⟨_, hS, rfl⟩
      have hli := F.called_set.init.lookup
      have hbi := F.called_set.init.bind (.ref s.heap.objs.size)
      repeat (any_goals (first | assumption | wp_step))
      refine codeAny_mono (codeAny_call_builtin (R := wants (fun r s₂ => r = .none ∧ ∃ h' tk l, s₂ = { s with heap := h', toks := tk } ∧ TxAt P w h' s.heap.objs.size l ∧ l.length ≤ x.cps.size ∧ (∀ y, y ∈ l ↔ ∃ c ∈ x.cps.toList, y = ⟨#[c]⟩) ∧
          (∀ b o, s.heap.get? b = some o → h'.get? b = some o)) E) F.called_set.init.plain F.entry_set_init (check_set_init_1 hT ?_)) fun r₂ s₂ hr₂ => ?_
      · have n1 := F.sub_str_set
        have n2 := F.sub_str_frozenset
        have n3 : (Value.type "str" == Value.type "dict") = false := by decide
        unfold Builtin.«set.__init__» noKeywords Builtin.Frozenset.updateFrom
        generalize hPI : pyIter = PI
        wp_walk
        subst hPI
        refine wpAny_pyIter_str fun o St hW hst => ?_
        refine wpAny_bind (wpAny_runValue ?_)
        have hz : (s.heap.push (freshSet w)).objs.size = s.heap.objs.size + 1 := Heap.size_push ..
        have hSf : s.heap.objs.size ∉ [(s.heap.push (freshSet w)).objs.size] := by
          rw [hz]
          intro z
          have := List.mem_singleton.mp z
          omega
        have hh3 : A.in1.in1.in1.handled = none := by simp [hh]
        refine signs_in ((hW _ hh3).toS) s.heap.objs.size hSf hb (x.cps.size - 0) 0 _ [] (by omega) (Nat.zero_le _) hst (txAt_fresh (Heap.get?_push_of_some _ hS)) (Nat.le_refl _) (fun y => by simp) ?_
        intro s' l mv t' hl hm
        obtain ⟨h', g', d', tk', os'⟩ := s'
        have eg : g' = s.gens := mv.gens
        have ed : d' = s.drawn := mv.drawn
        have eo : os' = s.os := mv.os
        subst eg; subst ed; subst eo
        show wpAny _ _ _ _ _ _
        refine wpAny_pure ?_
        show wpAny _ _ (ret Value.none) _ _ _
        refine wpAny_pure ⟨rfl, h', tk', l, rfl, t', hl, hm, fun b o e => mv.heap b o ?_ (Heap.get?_push_of_some _ (Heap.get?_push_of_some _ e))⟩
        have hb1 := Heap.lt_size e
        rw [hz]
        intro z
        rcases List.mem_cons.mp z with z | z
        · exact absurd hb1 (by rw [z]; exact Nat.lt_irrefl _)
        · exact absurd hb1 (by rw [List.mem_singleton.mp z]; exact Nat.not_lt_of_le (Nat.le_succ _))
      · cases r₂ with
        | error e => exact hr₂
        | ok fl₂ =>
          cases fl₂ with
          | ret r =>
            obtain ⟨rfl, h', tk, l, rfl, t', hl, hm, hk⟩ := hr₂
            repeat (any_goals (first | assumption | wp_step))
            exact h _ _ l t' hl hm hk
          | _ => exact hr₂.elim
    | _ => exact hr.elim
theorem strs_of : ∀ (l : List Value), (∀ v ∈ l, ∃ k tk, v = Value.str k tk) → ∃ ss, StrsAre l ss ∧ ss.length = l.length ∧ ∀ (i : Nat) v, l[i]? = some v → ∃ k tk, v = Value.str k tk ∧ ss[i]? = some k
  | [], _ => ⟨[], .nil, rfl, fun i v h => by simp at h⟩
  | v :: l, h => by
    obtain ⟨k, tk, rfl⟩ := h v List.mem_cons_self
    obtain ⟨ss, h1, h2, h3⟩ := strs_of l fun u hu => h u (List.mem_cons_of_mem _ hu)
    refine ⟨k :: ss, .cons k tk h1, by simp [h2], fun i u hi => ?_⟩
    cases i with
    | zero =>
      simp at hi
      exact ⟨k, tk, hi.symm, rfl⟩
    | succ i => exact h3 i u (by simpa using hi)
theorem perm_of_sub {α : Type} [DecidableEq α] : ∀ {l m : List α}, l.Nodup → (∀ x ∈ l, x ∈ m) → m.length = l.length → m.Perm l
  | [], m, _, _, h => by
    have : m = [] := List.eq_nil_of_length_eq_zero h
    rw [this]
  | x :: l, m, nd, sub, h => by
    have hx := sub x List.mem_cons_self
    obtain ⟨n1, n2⟩ := List.nodup_cons.mp nd
    have p : m.Perm (x :: m.erase x) := List.perm_cons_erase hx
    refine p.trans (List.Perm.cons x (perm_of_sub n2 (fun y hy => ?_) ?_))
    · have ne : y ≠ x := fun e => n1 (e ▸ hy)
      exact (List.mem_erase_of_ne ne).mpr (sub y (List.mem_cons_of_mem _ hy))
    · have := p.length_eq
      simp at this h
      omega
theorem sorted_txt {a : Addr} {l : List Str} {Q : Value → Shared → Prop} (R : TxAt P w s.heap a l) (hh : A.handled = none) (h64 : l.length < 64)
    (hQ : ∀ s' p (out : Array Value) (c : Nat) (ss : List Str), (∀ b o, s.heap.get? b = some o → s'.heap.get? b = some o) → s'.gens = s.gens → s'.os = s.os → s.heap.objs.size ≤ p →
      s'.heap.get? p = some (seqObj "list" out c) → StrsAre out.toList ss → ss.Perm l → sortedS ss = true → Q (.ref p) s') :
    wpAny (model P w) A (call (.builtin "sorted") [.ref a]) Q E s := by
  obtain ⟨D, ho, F⟩ := R
  obtain ⟨es, ep, t⟩ := D
  have hsz : es.size = l.length := F.ok.sz
  refine Calls.call_function_entry kind_sorted plain_sorted entry_sorted (args_sorted1 _) ?_
  unfold Builtin.«sorted»
  refine wpAny_bind (m := checkCount "sorted" 1 1 _) (wpAny_pure ?_)
  refine wpAny_bind (collect_set (A := A.in1) hh ⟨_, ho, rfl, rfl⟩ F.ok.fit (show es.size < scanBound by unfold scanBound; omega) F.ri F.le fun s1 vs k1 hz g1 o1 pm => ?_)
  have hvl : vs.length = l.length := by rw [pm.length_eq, List.length_map, Array.length_toList]; exact hsz
  obtain ⟨ss, hS, hsl, hat⟩ := strs_of vs fun v hv => by
    obtain ⟨e, he, q⟩ := List.mem_map.mp (pm.mem_iff.mp hv)
    obtain ⟨⟨k, h1, _⟩, _⟩ := F.ok.el e he
    have h1 : Value.isStrOf k e.2 = true := h1
    cases ev : e.2 with
    | str y tk => exact ⟨y, tk, by rw [← q, ev]⟩
    | _ => rw [ev] at h1; cases h1
  have pl : ss.Perm l := by
    refine perm_of_sub F.nd (fun k hk => ?_) (hsl.trans hvl)
    obtain ⟨e, he, q⟩ := (F.ok.mem k).mp hk
    have hv : e.2 ∈ vs := pm.mem_iff.mpr (List.mem_map.mpr ⟨e, he, rfl⟩)
    obtain ⟨i, hi⟩ := List.mem_iff_getElem?.mp hv
    obtain ⟨k', tk, e1, e2⟩ := hat i _ hi
    have q : Value.isStrOf k e.2 = true := q
    rw [e1] at q
    have : k' = k := by simpa [Value.isStrOf] using q
    rw [← this]
    exact List.mem_iff_getElem?.mpr ⟨i, e2⟩
  refine wpAny_bind (wpAny_newList ?_ (by rw [hvl, sizeLine_eq]; omega))
  have hoL : (s1.heap.push (seqObj "list" vs.toArray 0)).get? s1.heap.objs.size = some (seqObj "list" vs.toArray 0) := Heap.get?_push_size _ rfl
  refine wpAny_bind (wpAny_holding (wpAny_call_entry slot_list_sort ⟨_, hoL, rfl⟩ entry_list_sort
    (list_sort_treeK strKind_oneLt hoL hS.keysOf (fun v₁ v₂ rest e => keyKind_strs (by rw [← e]; exact hS)) (by rw [hvl]; exact h64) fun st' hp hs => ⟨_, rfl, ?_⟩) (args_list_sort _)))
  obtain ⟨ys, q1, q2, q3⟩ := sorted_out_str hS hp hs
  obtain ⟨c, hc⟩ := sortedHeap_at (vs := vs) (out := (arrOf st').map (·.2)) hoL
  refine wpAny_pure ⟨_, rfl, hQ _ s1.heap.objs.size _ c ys (fun b u e => ?_) g1 o1 hz hc q1 (q2.trans pl) q3⟩
  have q := k1 b u e
  have hlt := Heap.lt_size q
  show (sortedHeap (s1.heap.push (seqObj "list" vs.toArray 0)) s1.heap.objs.size vs _).get? b = some u
  rw [sortedHeap_old (Nat.ne_of_lt hlt) (by rw [size_push']; exact Nat.lt_succ_of_lt hlt)]
  exact Heap.get?_push_of_some _ q
end
/-! ### over the layer -/
def TxO (P : Program) (w : World) (a : Addr) (l : List Str) : HO := .ext fun h => TxAt P w h a l
section
variable {X : Cx}
theorem txO_new {w : World} {P : Program} {H : Hp} {h : Heap} {a : Addr} {l : List Str} (R : TxAt P w h a l) : ObjOk P w H h a (TxO P w a l) := by
  have ⟨D, ho, F⟩ := R
  exact ⟨R, ⟨_, ho⟩, fun h1 h2 p k => let ⟨D, ho, F⟩ := p; ⟨D, k _ ho, F⟩⟩
theorem cr_setX (hc : X.calm = true) : CallR X (.type "set") (fun xs H Q => ∃ x : Str, xs = [.str x] ∧ x.cps.size ≤ 1000 ∧ ∀ p l, H p = none → l.length ≤ x.cps.size → l.Nodup → (∀ y : Str, y ∈ l ↔ ∃ c ∈ x.cps.toList, y = ⟨#[c]⟩) → Q (.ref p) (upd H p (TxO X.prog X.w p l))) := by
  intro pins s σ H xs us Q I r h
  obtain ⟨x, rfl, hz, q⟩ := h
  obtain ⟨u, rfl, t, rfl⟩ := vals1 r
  refine call_set_txt (I.ok.hd hc) (by unfold scanBound; omega) fun h' tk l t' hl hm k => ?_
  exact ⟨.ref _, upd H s.heap.objs.size (TxO X.prog X.w s.heap.objs.size l), I.laid (t' := tk) k (Nat.le_refl _) (txO_new t'), rfl, q _ l (I.hok.fresh (Nat.le_refl _)) hl (let ⟨_, _, F⟩ := t'; F.nd) hm⟩
theorem cr_sortedX (hc : X.calm = true) : CallR X (.builtin "sorted") (fun xs H Q => ∃ (a : Addr) (l : List Str), xs = [.ref a] ∧ H a = some (TxO X.prog X.w a l) ∧ l.length < 64 ∧ ∀ p ys, H p = none → ys.Perm l → sortedS ys = true → Q (.ref p) (upd H p (.lst (ys.map V.str)))) := by
  intro pins s σ H vs us Q I r h
  obtain ⟨a, l, rfl, ha, h64, q⟩ := h
  have R : TxAt X.prog X.w s.heap a l := (I.hok a _ ha).1
  rw [Vals.ref1 r]
  refine sorted_txt R (I.ok.hd hc) h64 fun s' p out c ss k g o hp hg hi pm hs => ?_
  have hlen : (ss.map V.str).length ≤ sizeLine := by rw [List.length_map, pm.length_eq, sizeLine_eq]; omega
  have hn : H p = none := I.hok.fresh hp
  have J : Inv X pins σ (upd H p (.lst (ss.map V.str))) { s with heap := s'.heap, gens := s'.gens, drawn := s'.drawn, toks := s'.toks } :=
    I.call (ch := []) (Un.laid k hp hn) (I.hok.laid k hp ⟨hlen, out.toList, c, vals_of_strs hi, hg⟩) (by rw [g]; exact I.bare) (fun _ z => nomatch z)
  have e : s' = { s with heap := s'.heap, gens := s'.gens, drawn := s'.drawn, toks := s'.toks } := by
    cases s'
    cases s
    cases o
    rfl
  rw [e]
  exact ⟨.ref p, _, J, rfl, q p ss hn pm hs⟩
end
end TlS
set_option Elab.async false
set_option linter.all false
set_option maxRecDepth 100000
set_option maxHeartbeats 4000000
namespace TlD
open PySem PySem.Spec PyProof.Rows L2 GxR TlG
section
variable {c : Cn} {X : Cx}
/-! ### z[::-1] of a text -/
def revS (z : Str) : Str := ⟨z.cps.toList.reverse.toArray⟩
theorem pick_rev (z : Str) : (⟨((Builtin.Str.strSliceIndices none none (-1) z.length).filterMap (z.cps[·]?)).toArray⟩ : Str) = revS z := by
  have e : Builtin.Str.strSliceIndices none none (-1) z.length = sliceRange ((z.cps.size : Int) - 1) (-1) (-1) := rfl
  rw [e, PySem.W.krv_sliceRange, PySem.W.krv_range, List.filterMap_reverse, PySem.W.krv_all]
  rfl
theorem pick_len (n : Nat) : (Builtin.Str.strSliceIndices none none (-1) n).length = n := by
  have e : Builtin.Str.strSliceIndices none none (-1) n = sliceRange ((n : Int) - 1) (-1) (-1) := rfl
  rw [e, PySem.W.krv_sliceRange, PySem.W.krv_range]
  simp
def tRevS (te : TE) : TE := fun σ H Q => te σ H fun x H1 => ∃ z : Str, x = .str z ∧ z.length ≤ sizeLine ∧ Q (.str (revS z)) H1
theorem pe_revS {e : Expr} {te : TE} {k : Nat} {p1 p2 p3 pos : Pos} (he : PE X e te) : PE X (.Subscript e (.Slice none none (some (.UnaryOp .USub (.Constant (.int 1) k p1) p2)) p3) pos) (tRevS te) := by
  refine ⟨fun pins s σ H Q I h => ?_⟩
  refine Subscript_ (thn (he.run pins s σ H _ I h) fun v s1 ⟨x, H1, I1, r1, z, ez, hz, q⟩ => ?_)
  subst ez
  obtain ⟨t, rfl⟩ := r1
  have hst : PO X (some (.UnaryOp .USub (.Constant (.int 1) k p1) p2)) (tPart (tUn (rU fun i => .int (-i)) (tC (.int 1)))) := po_some (pe_un un_neg pe_int)
  refine wpAny_Slice (thn (po_none.run pins s1 σ H1 (fun o H2 => o = none ∧ H2 = H1) I1 ⟨rfl, rfl⟩) fun vl s2 ⟨l, H2, I2, pl, el, e2⟩ => ?_)
  subst el e2
  refine thn (po_none.run pins s2 σ H2 (fun o H3 => o = none ∧ H3 = H2) I2 ⟨rfl, rfl⟩) fun vu s3 ⟨u, H3, I3, pu, eu, e3⟩ => ?_
  subst eu e3
  refine thn (hst.run pins s3 σ H3 (fun o H4 => o = some (-1) ∧ H4 = H3) I3 ⟨1, rfl, -1, rfl, rfl, rfl⟩) fun vs s4 ⟨o, H4, I4, ps, eo, e4⟩ => ?_
  subst eo e4
  have I5 : Inv X pins σ H4 { s4 with heap := s4.heap.push { cls := .type "slice", data := .fields #[vl, vu, vs] } } := I4.kept (t' := s4.toks) fun b ob q => Heap.get?_push_of_some _ q
  obtain ⟨l', rfl, el⟩ := IsPart.raw pl
  obtain ⟨u', rfl, eu⟩ := IsPart.raw pu
  obtain ⟨st, rfl, es⟩ := IsPart.raw ps
  obtain rfl : l' = none := by cases l' with
    | none => rfl
    | some _ => cases el
  obtain rfl : u' = none := by cases u' with
    | none => rfl
    | some _ => cases eu
  refine tail_any (ops := [.str z t, .ref s4.heap.objs.size]) (T := "str") (typeIs_str _ _ _) (PySem.F.slot_str_getitem.lookup) ?_ (by with_unfolding_all rfl)
  refine wpAny_getItem_str_slice (l := none) (u := none) (st := st) (Heap.IsSliceOf.new _ _ _ _) (by rw [es]; rfl) ?_
  have e1 : (st.map (·.1)).getD 1 = -1 := by rw [es]; rfl
  have e2 : slicePicked z none none st = Builtin.Str.strSliceIndices none none (-1) z.length := by
    unfold slicePicked
    rw [e1]
    rfl
  unfold sliceMade
  rw [e1, e2]
  show Made.post (if ((-1 : Int) == 1 && (Builtin.Str.strSliceIndices none none (-1) z.length).length == z.length) = true then Made.val (.str z t)
    else Made.str ⟨((Builtin.Str.strSliceIndices none none (-1) z.length).filterMap (z.cps[·]?)).toArray⟩) (EP X pins σ Q) _
  have n1 : ((-1 : Int) == 1) = false := by decide
  rw [n1, Bool.false_and, if_neg Bool.false_ne_true, pick_rev]
  refine ⟨?_, .str _, H4, I5.tok _, ⟨_, rfl⟩, q⟩
  have : (revS z).length = z.length := by
    unfold revS Str.length
    simp
  rw [this]
  exact hz
def dRevS (T : DTE) : DTE := fun Ex ρ θ Φ => T Ex ρ θ fun r θ1 => asS r fun z => small z.length ∧ Φ (.d (.str (revS z))) θ1
theorem de_revS {e : Expr} {te : TE} {T : DTE} {k : Nat} {p1 p2 p3 pos : Pos} (he : DE c X e te T) : DE c X (.Subscript e (.Slice none none (some (.UnaryOp .USub (.Constant (.int 1) k p1) p2)) p3) pos) (tRevS te) (dRevS T) :=
  ⟨pe_revS he.pe, fun Zh F0 Ex L σ H ρ θ Φ Q S h k => he.sim Zh F0 Ex L σ H ρ θ _ _ S h fun v r H1 θ1 S1 m1 d1 h1 => by
    obtain ⟨z, rfl, hz, q⟩ := asS_of d1 h1
    exact ⟨z, rfl, hz.line, kS S1 (k.step m1) q⟩⟩
/-! ### sorted(set(text)) -/
def rSetX (X : Cx) : List V → Hp → VK → Prop := fun xs H Q => ∃ x : Str, xs = [.str x] ∧ x.cps.size ≤ 1000 ∧ ∀ p l, H p = none → l.length ≤ x.cps.size → l.Nodup → (∀ y : Str, y ∈ l ↔ ∃ c ∈ x.cps.toList, y = ⟨#[c]⟩) → Q (.ref p) (upd H p (TlS.TxO X.prog X.w p l))
def rSortX (X : Cx) : List V → Hp → VK → Prop := fun xs H Q => ∃ (a : Addr) (l : List Str), xs = [.ref a] ∧ H a = some (TlS.TxO X.prog X.w a l) ∧ l.length < 64 ∧ ∀ p ys, H p = none → ys.Perm l → sortedS ys = true → Q (.ref p) (upd H p (.lst (ys.map V.str)))
def dSortSet (T : DTE) : DTE := fun Ex ρ θ Φ => T Ex ρ θ fun r θ1 => asS r fun x => x.length < 64 ∧ ∀ ys : List Str, sortedS ys = true → ys.Nodup → (∀ y : Str, y ∈ ys ↔ ∃ c ∈ x.cps.toList, y = ⟨#[c]⟩) → Φ (.d (.list (ys.map PyData.str))) θ1
theorem de_sortSet {e : Expr} {te : TE} {T : DTE} {p p2 pos pos2 : Pos} (hc : X.calm = true) (hg : Gl X "sorted") (hm : X.mg "sorted" = none) (hg2 : Gl X "set") (hm2 : X.mg "set" = none) (he : DE c X e te T)
    (he2 : starEach [e] X.env = (false, eval e X.env) :: starEach [] X.env := by rfl) (he1 : starEach [.Call (.Name "set" p2) [e] [] pos2] X.env = (false, eval (.Call (.Name "set" p2) [e] [] pos2) X.env) :: starEach [] X.env := by rfl)
    (hp1 : (backTo pos (starEach [] X.env)).any (·.1) = false := by rfl) (hp2 : (backTo pos2 (starEach [] X.env)).any (·.1) = false := by rfl) :
    DE c X (.Call (.Name "sorted" p) [.Call (.Name "set" p2) [e] [] pos2] [] pos) (tCB (rSortX X) (tCons (tCB (rSetX X) (tCons te tNil)) tNil)) (dSortSet T) := by
  have ps : PE X (.Call (.Name "set" p2) [e] [] pos2) (tCB (rSetX X) (tCons te tNil)) := pe_callTy (TlS.cr_setX hc) hg2 hm2 (by decide +kernel) (pa_cons he.pe pa_nil he2) (by decide) (by decide) he2 hp2
  refine ⟨pe_callB (TlS.cr_sortedX hc) hg hm (by decide +kernel) (pa_cons ps pa_nil he1) (by decide) (by decide) he1 hp1, fun Zh F0 Ex L σ H ρ θ Φ Q S h k => ?_⟩
  refine he.sim Zh F0 Ex L σ H ρ θ _ _ S h fun v r H1 θ1 S1 m1 d1 h1 => ?_
  obtain ⟨x, rfl, hx, h2⟩ := asS_of d1 h1
  have hx : x.cps.size < 64 := hx
  refine ⟨x, rfl, by omega, fun p l hp hl nd hm => ⟨p, l, rfl, upd_same, by omega, fun q ys hq pm so => ?_⟩⟩
  have S2 : SD c.K c.Ps Zh F0 σ (upd H1 p (TlS.TxO X.prog X.w p l)) ρ θ1 := S1.to (S1.hs.new hp) (vis_upd_sub hp).mono
  refine newL S2 (k.step (m1.trans (vis_upd_sub hp).mono)) hq (DqAll.strs ys) (h2 ys so (pm.nodup_iff.mpr nd) fun y => ?_)
  rw [pm.mem_iff]
  exact hm y
/-! ### is True, is not True -/
def fIsB (neg : Bool) : DOp := fun x y θ Φ => asB x fun a => asB y fun b => Φ (.d (.bool (if neg then !decide (a = b) else decide (a = b)))) θ
theorem sim_isB : SimR c rIsB (fIsB false) := fun Zh F0 σ H ρ θ x y rx ry Φ Q S dx dy h k => by
  obtain ⟨a, rfl, h⟩ := asB_of dx h
  obtain ⟨b, rfl, h⟩ := asB_of dy h
  exact ⟨a, b, rfl, rfl, kB S k h⟩
theorem sim_notB : SimR c rNotB (fIsB true) := fun Zh F0 σ H ρ θ x y rx ry Φ Q S dx dy h k => by
  obtain ⟨a, rfl, h⟩ := asB_of dx h
  obtain ⟨b, rfl, h⟩ := asB_of dy h
  exact ⟨a, b, rfl, rfl, kB S k h⟩
/-! ### the same, by the written part that c knows -/
theorem de_ixc {a b : Expr} {ta tb : TE} {Ta Tb : DTE} {pos : Pos} (hK : X.K = c.K) (ha : DE c X a ta Ta) (hb : DE c X b tb Tb) (hs : PlainIx b) : DE c X (.Subscript a b pos) (tOp (rIx c.K) ta tb) (dOp fIx Ta Tb) := by
  have h := de_ix (pos := pos) hK ha hb hs
  rw [hK] at h
  exact h
theorem de_slicec {e : Expr} {lo hi : Option Expr} {te : TE} {T : DTE} {tl th : TO} {Tl Th' : DTO} {p2 pos : Pos} (hK : X.K = c.K) (he : DE c X e te T) (hl : DO c X lo tl Tl) (hu : DO c X hi th Th') :
    DE c X (.Subscript e (.Slice lo hi none p2) pos) (tSl (rSlAll c.K) te tl th) (dSl T Tl Th' fSl) := by
  have h := de_slice (p2 := p2) (pos := pos) hK he hl hu
  rw [hK] at h
  exact h
theorem new_listc {e : Expr} {ta : TA} {Ta : DTA} {p pos : Pos} {x : Str} (hK : X.K = c.K) (hc : X.calm = true) (hg : Gl X x) (hm : X.mg x = none) (hv : bootBuiltins x = some (.type "list")) (h : DA c X [e] ta Ta)
    (hn : x ≠ "__name__" := by decide) (hd : (x == ("__debug__" : Str)) = false := by decide) (he : starEach [e] X.env = (false, eval e X.env) :: starEach [] X.env := by rfl) (hpl : (backTo pos (starEach [] X.env)).any (·.1) = false := by rfl) :
    PE X (.Call (.Name x p) [e] [] pos) (tCB (rListA c.K) ta) ∧ NewL c (tCB (rListA c.K) ta) (dListC Ta) := by
  have q := new_list (p := p) (pos := pos) hK hc hg hm hv h hn hd he hpl
  rw [hK] at q
  exact q
theorem de_isic {a : Expr} {ta : TE} {Ta : DTE} {nm : Str} {T : String} {f : D → Bool} {p p2 pos : Pos} (hK : X.K = c.K) (hf : ∀ d, kitB (tyN d) T = some (f d)) (hg : Gl X "isinstance") (hm : X.mg "isinstance" = none) (hg2 : Gl X nm) (hm2 : X.mg nm = none) (hv2 : bootBuiltins nm = some (.type T)) (h : DE c X a ta Ta)
    (hn2 : nm ≠ "__name__" := by decide) (hd2 : (nm == ("__debug__" : Str)) = false := by decide)
    (h1 : starEach [a, .Name nm p2] X.env = (false, eval a X.env) :: starEach [.Name nm p2] X.env := by rfl) (h2 : starEach [.Name nm p2] X.env = (false, eval (.Name nm p2) X.env) :: starEach [] X.env := by rfl) (hpl : (backTo pos (starEach [.Name nm p2] X.env)).any (·.1) = false := by rfl) :
    DE c X (.Call (.Name "isinstance" p) [a, .Name nm p2] [] pos) (tCB (rIsi c.K) (tCons ta (tCons (tC (.ty T)) tNil))) (dIsi f Ta) := by
  have q := de_isi (p := p) (p2 := p2) (pos := pos) hK hf hg hm hg2 hm2 hv2 h hn2 hd2 h1 h2 hpl
  rw [hK] at q
  exact q
/-! ### a module's constants -/
theorem de_gint {x : Str} {i : Int} {pos : Pos} (hg : Gl X x) (h : ∃ t, X.mg x = some (.int i t)) (hd : (x == ("__debug__" : Str)) = false := by decide) : DE c X (.Name x pos) (tC (.int i)) (dC (.int i)) := by
  obtain ⟨t, h⟩ := h
  exact de_con (d := .int i) (pe_glob hg h ⟨t, rfl⟩ hd)
theorem de_gstr {x z : Str} {pos : Pos} (hg : Gl X x) (h : ∃ t, X.mg x = some (.str z t)) (hd : (x == ("__debug__" : Str)) = false := by decide) : DE c X (.Name x pos) (tC (.str z)) (dC (.str z)) := by
  obtain ⟨t, h⟩ := h
  exact de_con (d := .str z) (pe_glob hg h ⟨t, rfl⟩ hd)
end
/-! ### defs by their names -/
structure Def (P : Program) (w : World) (K : PySem.W.Frag) (mg : Str → Option Value) (base : Heap) (Ps : List Addr) (k : Nat) (x : Str) (ps : List Str) (sp : DSp) : Prop where
  ex : ∃ f fd, mg x = some (.ref f) ∧ PySem.W.keepIn K (.ref f) = true ∧ Binds K fd ps [] ∧ FnOk P w K mg base (L2N.CX P w) k f fd ps (spOf K Ps sp)
def dFn0 (sp : DSp) (Ta : DTA) : DTE := fun Ex ρ θ Φ => Ta Ex ρ θ fun rs θ1 => sp rs θ1 Φ fun _ _ => False
section
variable {c : Cn} {X : Cx}
/-- a call that raises nothing -/
theorem de_call {k : Nat} {ps : List Str} {sp : DSp} {x : Str} {p pos : Pos} {e : Expr} {es : List Expr} {ta : TA} {Ta : DTA} (D : Def X.prog X.w c.K X.mg X.base c.Ps k x ps sp) (hK : X.K = c.K) (hr : Room k X.A) (hg : Gl X x)
    (ha : DA c X (e :: es) ta Ta) (hdb : (x == ("__debug__" : Str)) = false := by decide) (he : starEach (e :: es) X.env = (false, eval e X.env) :: starEach es X.env := by rfl) (hpl : (backTo pos (starEach es X.env)).any (·.1) = false := by rfl) :
    DE c X (.Call (.Name x p) (e :: es) [] pos) (tCallS (spOf c.K c.Ps sp) (WE fun _ _ _ _ => False) ta) (dFn0 sp Ta) := by
  obtain ⟨f, fd, hm, hk, hb, F⟩ := D.ex
  refine ⟨pe_callS (by rw [hK]; exact F) hr hg hm (by rw [hK]; exact hk) (by rw [hK]; exact hb) (fun σ => L2N.passAt takesN0 σ) ha.pa hdb he hpl, fun Zh F0 Ex L σ H ρ θ Φ Q S h k => ha.sim Zh F0 Ex L σ H ρ θ _ _ S h fun vs rs H1 θ1 S1 m1 d1 h1 => ?_⟩
  refine ⟨Zh, θ1, rs, S1.here.hs, d1, _, _, h1, fun r θ' hp v H' hs' dv => ?_, fun xd θ' hp cls d H' hs' dx => hp.elim⟩
  exact k v r H' θ' (S1.to (hs'.base S1.hs.old) hs'.old) (m1.trans hs'.old) dv hp
/-- a call that may raise -/
theorem de_callX {k : Nat} {ps : List Str} {sp : DSp} {x : Str} {p pos : Pos} {e : Expr} {es : List Expr} {ta : TA} {Ta : DTA} (D : Def X.prog X.w c.K X.mg X.base c.Ps k x ps sp) (hK : X.K = c.K) (hr : Room k X.A) (hg : Gl X x) (tk : L2N.Takes X c.W)
    (ha : DA c X (e :: es) ta Ta) (hdb : (x == ("__debug__" : Str)) = false := by decide) (he : starEach (e :: es) X.env = (false, eval e X.env) :: starEach es X.env := by rfl) (hpl : (backTo pos (starEach es X.env)).any (·.1) = false := by rfl) :
    DE c X (.Call (.Name x p) (e :: es) [] pos) (tCallS (spOf c.K c.Ps sp) (WE c.W) ta) (dFn sp Ta) := by
  obtain ⟨f, fd, hm, hk, hb, F⟩ := D.ex
  exact de_fn (by rw [hK]; exact F) hr hg hm (by rw [hK]; exact hk) (by rw [hK]; exact hb) tk ha hdb he hpl
end
/-- a def of the text, its code object and the table behind it -/
structure Src (K : PySem.W.Frag) (mg : Str → Option Value) (x : Str) (st : Stmt) : Prop where
  gl : mg x = some (.ref (He.fAd K (x, none)))
  fc : ∃ fd, FunC K x x st (He.fAd K (x, none)) fd (.ref (He.codeOf K (x, none)))
  bd : ∀ fd, FunC K x x st (He.fAd K (x, none)) fd (.ref (He.codeOf K (x, none))) → ∀ ps, (∀ (kV doc pm : Value) (an : Option Addr) (cdv ct : Value) (us : List Value), us.length = ps.length → bindArgs (PySem.W.fnOf x x (defArgs st) (defBody st) (defScope st) .none kV doc pm an cdv ct) ⟨us, []⟩ = pure (ps.zip us)) → Binds K fd ps []
abbrev defD (x : Str) (st : Stmt) : He.DefD := ⟨(x, none), x, x, defArgs st, defBody st, defScope st, [], []⟩
theorem src_of {K : PySem.W.Frag} {mg : Str → Option Value} {x : Str} {st : Stmt} {fd : FuncData} (g : mg x = some (.ref (He.ga K x))) (F : FunD K x x (defArgs st) (defBody st) (defScope st) [] [] (He.fAd K (x, none)) fd) : Src K mg x st := by
  obtain ⟨oc, od, dV, kV, doc, pm, an, cd, ct, osl, rfl, lk, hcd, hD, _⟩ := F.ex
  obtain ⟨cc, rfl⟩ := He.codeIn_ref hcd
  have ec := He.codeOf_eq (p := (x, none)) lk rfl
  rcases hD with ⟨_, rfl⟩ | ⟨e, _⟩
  · refine ⟨g, ⟨_, by rw [ec]; exact ⟨⟨oc, od, kV, doc, pm, an, ct, osl, rfl, lk, hcd⟩, F.kp⟩⟩, ?_⟩
    · intro fd h ps hb
      obtain ⟨oc', od', kV', doc', pm', an', ct', osl', rfl, _, _⟩ := h.ex
      exact .all (hb _ _ _ _ _ _)
  · exact absurd rfl e
theorem def_of {P : Program} {w : World} {K : PySem.W.Frag} {mg : Str → Option Value} {base : Heap} {Ps : List Addr} {x : Str} {st : Stmt} {N ps : List Str} {k : Nat} {sp : DSp} (F : Src K mg x st) (S : FnScope N ps (defScope st))
    (hb : ∀ (kV doc pm : Value) (an : Option Addr) (cdv ct : Value) (us : List Value), us.length = ps.length → bindArgs (PySem.W.fnOf x x (defArgs st) (defBody st) (defScope st) .none kV doc pm an cdv ct) ⟨us, []⟩ = pure (ps.zip us))
    (hl : ∀ rs θ Φ Ex, sp rs θ Φ Ex → rs.length = ps.length)
    (hbody : ∀ (A : Around) (outer : List Env) (s : Shared) (H : Hp) (E : XK), Room k (A.deeper (envOfC x (defScope st) s.heap.objs.size (He.fAd K (x, none)) (.ref (He.codeOf K (x, none))))) →
      L2N.Takes (cxOf (L2N.CX P w) P w K mg base N x (defScope st) (He.fAd K (x, none)) (.ref (He.codeOf K (x, none))) A outer s H E) (fun cls d _ H => E cls d H) →
      PassesOwn (model P w) (cxOf (L2N.CX P w) P w K mg base N x (defScope st) (He.fAd K (x, none)) (.ref (He.codeOf K (x, none))) A outer s H E).A (cxOf (L2N.CX P w) P w K mg base N x (defScope st) (He.fAd K (x, none)) (.ref (He.codeOf K (x, none))) A outer s H E).env (cxOf (L2N.CX P w) P w K mg base N x (defScope st) (He.fAd K (x, none)) (.ref (He.codeOf K (x, none))) A outer s H E).xe →
      ∃ t T, DSs ⟨K, Ps, fun cls d _ H => E cls d H⟩ (cxOf (L2N.CX P w) P w K mg base N x (defScope st) (He.fAd K (x, none)) (.ref (He.codeOf K (x, none))) A outer s H E) (defBody st) t T ∧
        ∀ rs θ Φ Ex, sp rs θ Φ Ex → T { nx := fun _ θ' => Φ (.d .none) θ', rt := Φ, ex := fun xd _ θ' => Ex xd θ' } (startR N.length rs) θ) : Def P w K mg base Ps (k + 1) x ps sp := by
  obtain ⟨fd, FC⟩ := F.fc
  exact ⟨_, fd, F.gl, FC.kp, F.bd fd FC ps hb, dfn FC S hl hbody⟩
end TlD
set_option Elab.async false
set_option linter.all false
set_option maxRecDepth 100000
set_option maxHeartbeats 4000000
namespace TlD
open PySem PySem.Spec PyProof.Rows L2 GxR TlG
/-! ### own errors -/
structure ExcF (K : PySem.W.Frag) (mg : Str → Option Value) (x : Str) : Prop where
  gl : mg x = some (.ref (He.ga K x))
  ok : PySem.W.excIn K (He.ga K x) He.veBase "ValueError.__new__" = true
  kp : PySem.W.keepIn K (.ref (He.ga K x)) = true
  ba : PySem.W.subIn K (.ref (He.ga K x)) (.type "BaseException") = some true
  ty : PySem.W.typeIn K (.ref (He.ga K x)) = some (.type "type")
theorem excF_of {K : PySem.W.Frag} {h : Heap} {mg : Str → Option Value} {x : Str} (X : K.In h) (G : h.Ns mainGlobals mg) (g : (He.Fa.glo x).ok K = true) (c : (He.Fa.exc x).ok K = true) : ExcF K mg x :=
  let q := He.exc_ok c
  ⟨He.glo_ok X G g, q.1, q.2.1, q.2.2.1, q.2.2.2⟩
theorem ds_raiseE {c : Cn} {X : Cx} {x m : Str} {j : Nat} {p p2 pos pos2 : Pos} (e : ExcF X.K X.mg x) (hc : X.calm = true) (tk : L2N.Takes X c.W) (hg : Gl X x) (hdb : (x == ("__debug__" : Str)) = false := by decide) :
    DS c X (.Raise (some (.Call (.Name x p) [.Constant (.str m) j p2] [] pos)) none pos2) (fun _ σ H => c.W (.ref (He.ga X.K x)) none σ H) (dRaise (He.ga X.K x)) :=
  ds_raise hc tk (L2N.pmk_own PySem.F.excBase_ValueError e.ok e.gl e.kp (raises_own e.ba e.ty) hg hdb)
/-! ### the law -/
theorem triples_nil : TriplesOk (#[] : Array Value).toList := by
  first
    | exact .nil
    | trivial
    | (intro z hz; simp at hz)
    | (unfold TriplesOk; simp)
    | exact ⟨⟩
def spLaw : DSp := fun rs θ Φ _ => ∃ ns : List Int, ns.length ≤ 63 ∧ (∀ z ∈ ns, Builtin.Int.intBits z ≤ 1048576) ∧ rs = [.seq (ns.map PyData.int)] ∧ θ = [] ∧ ∀ θ', Φ (.d (.bool true)) θ'
theorem law_at {l : PySem.W.OpenLaw} {w : World} {K : PySem.W.Frag} {k : Nat} {x : Str} {mg : Str → Option Value} {st : Stmt} {fd : FuncData} {h : Heap} (cs : List (Addr × Addr))
    (hT : ∀ p ∈ cs, h.get? p.2 = some { cls := .none, data := .fields #[] }) (nT : ∀ p ∈ cs, K.lookup p.2 = none) (hC : ∀ p ∈ cs, PySem.W.CodeHd h p.1 p.2)
    (hb : ∀ (s : Shared) (u : Value), BindsTo s fd ⟨[u], []⟩ [(x, u)])
    (F : ∀ base : Heap, K.In base → base.Ns mainGlobals mg → (∀ p ∈ cs, LamX.TabB base mg p.1 p.2) → FnOk l.prog w K mg base (L2N.CX l.prog w) k (He.fAd K ("law", none)) fd [x] (spOf K (cs.map (·.2)) spLaw)) :
    LamX.LawAtS l w K (L2N.CX l.prog w) k 63 x mg (He.fAd K ("law", none)) h := by
  refine ⟨fd, cs, _, hT, nT, hC, hb, fun H a ns hl hbits hH hS => ?_, F⟩
  have ev : vis (fun _ => none) [] H = H := by
    funext b
    unfold vis
    rw [if_neg]
    rintro (z | z)
    · cases z
    · cases z
  refine ⟨fun _ => none, [], [.seq (ns.map PyData.int)], ⟨(fun _ _ e => nomatch e), Mono.refl _, fun P hP => ?_, (fun p hp => nomatch hp), List.nodup_nil⟩, .cons ⟨a, _, rfl, by rw [ev]; exact hS, DqAll.ints ns⟩ .nil,
    fun r _ => r = .d (.bool true), fun _ _ => False, ⟨ns, hl, hbits, rfl, rfl, fun _ => rfl⟩, fun r θ' e v H' _ d => ?_, fun xd θ' e => e.elim⟩
  · obtain ⟨p, hp, rfl⟩ := List.mem_map.mp hP
    exact ⟨⟨#[], hH p hp, triples_nil⟩, rfl⟩
  · subst e
    cases d
    rfl
theorem func_one {K : PySem.W.Frag} {x : Str} {st : Stmt} {f : Addr} {fd fd' : FuncData} {cd : Value} (F : FunC K x x st f fd cd) (G : FunD K x x (defArgs st) (defBody st) (defScope st) [] [] f fd') : fd = fd' := by
  obtain ⟨oc, od, kV, doc, pm, an, ct, osl, _, lk, _⟩ := F.ex
  obtain ⟨oc', od', dV', kV', doc', pm', an', cd', ct', osl', _, lk', _⟩ := G.ex
  rw [lk] at lk'
  have e := Option.some.inj lk'
  injection e with _ _ e3 _
  injection e3
theorem no_cx {P : Program} {w : World} {o : List Env} {H : Hp} {s : Shared} {e : Value} {s' : Shared} (z : L2N.CX P w o H s (fun _ _ _ => False) e s') : False := by
  obtain ⟨_, _, _, _, _, _, _, _, _, _, _, _, z⟩ := z
  exact z
end TlD
set_option Elab.async false
set_option linter.all false
set_option maxRecDepth 100000
set_option maxHeartbeats 4000000
namespace TlD
open PySem PySem.Spec PyProof.Rows L2 GxR TlG
/-! ### turns -/
theorem forD_inv {G : DGt} {B : DTS} {E : DEnds} (I : Nat → Rho → Th → Prop) : ∀ (items : List D) (i : Nat) (ρ : Rho) (θ : Th),
    (∀ (j : Nat) d, items[j]? = some d → ∀ ρ θ (K : Rho → Th → Prop), I (i + j) ρ θ → (∀ ρ' θ', I (i + j + 1) ρ' θ' → K ρ' θ') → G (.d d) ρ fun ρ1 => B { E with nx := K, ct := K, bk := E.nx } ρ1 θ) →
    (∀ ρ θ, I (i + items.length) ρ θ → E.nx ρ θ) → I i ρ θ → forD items G B E ρ θ
  | [], i, ρ, θ, _, he, h => he ρ θ h
  | d :: ds, i, ρ, θ, hs, he, h => by
    refine hs 0 d rfl ρ θ _ h fun ρ' θ' h' => ?_
    refine forD_inv I ds (i + 1) ρ' θ' (fun j d' e ρ θ K h1 h2 => ?_) (fun ρ θ q => he ρ θ ?_) h'
    · have e1 : i + 1 + j = i + (j + 1) := by omega
      rw [e1] at h1 h2
      exact hs (j + 1) d' (by simpa using e) ρ θ K h1 h2
    · have e1 : i + 1 + ds.length = i + (d :: ds).length := by
        rw [List.length_cons]
        omega
      rw [← e1]
      exact q
theorem forD_all {G : DGt} {B : DTS} {E : DEnds} (I : Rho → Th → Prop) {items : List D} {ρ : Rho} {θ : Th} (h : I ρ θ) (he : ∀ ρ θ, I ρ θ → E.nx ρ θ)
    (hs : ∀ d ∈ items, ∀ ρ θ (K : Rho → Th → Prop), I ρ θ → (∀ ρ' θ', I ρ' θ' → K ρ' θ') → G (.d d) ρ fun ρ1 => B { E with nx := K, ct := K, bk := E.nx } ρ1 θ) : forD items G B E ρ θ :=
  forD_inv (fun _ => I) items 0 ρ θ (fun j d e ρ θ K h1 h2 => hs d (List.mem_of_getElem? e) ρ θ K h1 h2) he h
theorem lcD_map {G : DGt} {TT : DTT} {TE : DTE} {ρw : Rho} {Φ : List D → Th → Prop} {θ : Th} (f : D → Option D) : ∀ (items acc : List D),
    (∀ d ∈ items, ∀ (k1 : D → Th → Prop) (k0 : Th → Prop), (match f d with | some y => k1 y θ | none => k0 θ) → G (.d d) ρw fun ρ1 => TT noEx ρ1 θ fun b θ1 => if b = true then TE noEx ρ1 θ1 fun r θ2 => asD r fun y => k1 y θ2 else k0 θ1) →
    acc.length + items.length ≤ 100000 → Φ (acc ++ items.filterMap f) θ → lcD G TT TE ρw Φ items acc θ
  | [], acc, _, _, h => by simpa [lcD] using h
  | d :: ds, acc, hs, hl, h => by
    have hl : acc.length + (ds.length + 1) ≤ 100000 := hl
    unfold lcD
    refine hs d List.mem_cons_self (fun y θ2 => acc.length < 100000 ∧ lcD G TT TE ρw Φ ds (acc ++ [y]) θ2) (fun θ1 => lcD G TT TE ρw Φ ds acc θ1) ?_
    cases e : f d with
    | some y =>
      refine ⟨by omega, lcD_map f ds (acc ++ [y]) (fun d' hd => hs d' (List.mem_cons_of_mem _ hd)) (by simp; omega) ?_⟩
      simpa [List.filterMap_cons, e] using h
    | none =>
      refine lcD_map f ds acc (fun d' hd => hs d' (List.mem_cons_of_mem _ hd)) (by omega) ?_
      simpa [List.filterMap_cons, e] using h
/-- the list made, with a change of the lists that may be changed at each turn -/
theorem lcD_inv {G : DGt} {TT : DTT} {TE : DTE} {ρw : Rho} {Φ : List D → Th → Prop} (I : Nat → List D → Th → Prop) : ∀ (items acc : List D) (i : Nat) (θ : Th),
    (∀ (j : Nat) d, items[j]? = some d → ∀ acc θ (k1 : D → Th → Prop) (k0 : Th → Prop), I (i + j) acc θ → (∀ y θ', I (i + j + 1) (acc ++ [y]) θ' → k1 y θ') → (∀ θ', I (i + j + 1) acc θ' → k0 θ') →
      G (.d d) ρw fun ρ1 => TT noEx ρ1 θ fun b θ1 => if b = true then TE noEx ρ1 θ1 fun r θ2 => asD r fun y => k1 y θ2 else k0 θ1) →
    (∀ i acc θ, I i acc θ → acc.length < 100000) → (∀ acc θ, I (i + items.length) acc θ → Φ acc θ) → I i acc θ → lcD G TT TE ρw Φ items acc θ
  | [], acc, i, θ, _, _, he, h => by
    unfold lcD
    exact he acc θ h
  | d :: ds, acc, i, θ, hs, hl, he, h => by
    unfold lcD
    have nxt : ∀ acc' θ', I (i + 1) acc' θ' → lcD G TT TE ρw Φ ds acc' θ' := fun acc' θ' h' => by
      refine lcD_inv I ds acc' (i + 1) θ' (fun j d' e acc θ k1 k0 q1 q2 q3 => ?_) hl (fun acc θ q => he acc θ ?_) h'
      · have e1 : i + 1 + j = i + (j + 1) := by omega
        rw [e1] at q1 q2 q3
        exact hs (j + 1) d' (by simpa using e) acc θ k1 k0 q1 q2 q3
      · have e1 : i + 1 + ds.length = i + (d :: ds).length := by
          rw [List.length_cons]
          omega
        rw [← e1]
        exact q
    exact hs 0 d rfl acc θ _ _ h (fun y θ' h' => ⟨hl i acc θ h, nxt _ θ' h'⟩) fun θ' h' => nxt _ θ' h'
theorem genD_all {G : DGt} {TE : DTE} {ρw : Rho} {Φ : RK} {θ : Th} (p : D → Bool) : ∀ items : List D,
    (∀ d ∈ items, ∀ K : Bool → Th → Prop, K (p d) θ → G (.d d) ρw fun ρ1 => TE noEx ρ1 θ fun r θ2 => asB r fun k => K k θ2) → Φ (.d (.bool (items.all p))) θ →
    genD G dYes TE ρw (fun k θ2 nx => if k = true then nx else Φ (.d (.bool false)) θ2) (fun θ2 => Φ (.d (.bool true)) θ2) items θ
  | [], _, h => h
  | d :: ds, hs, h => by
    show G (.d d) ρw fun ρ1 => TE noEx ρ1 θ fun r θ2 => asB r fun k => (fun (k : Bool) (θ2 : Th) => if k = true then genD G dYes TE ρw (fun k θ2 nx => if k = true then nx else Φ (.d (.bool false)) θ2) (fun θ2 => Φ (.d (.bool true)) θ2) ds θ2 else Φ (.d (.bool false)) θ2) k θ2
    refine hs d List.mem_cons_self _ ?_
    cases e : p d with
    | true =>
      rw [if_pos rfl]
      refine genD_all p ds (fun d' hd => hs d' (List.mem_cons_of_mem _ hd)) ?_
      simpa [e] using h
    | false =>
      rw [if_neg Bool.false_ne_true]
      simpa [e] using h
theorem genD_all2 {G : DGt} {TE : DTE} {ρw : Rho} {N Φe : Th → Prop} {θ : Th} (p : D → Bool) : ∀ items : List D,
    (∀ d ∈ items, ∀ K : Bool → Th → Prop, K (p d) θ → G (.d d) ρw fun ρ1 => TE noEx ρ1 θ fun r θ2 => asB r fun k => K k θ2) → (items.all p = true → Φe θ) → (items.all p = false → N θ) →
    genD G dYes TE ρw (fun k θ2 nx => if k = true then nx else N θ2) Φe items θ
  | [], _, h1, _ => h1 rfl
  | d :: ds, hs, h1, h0 => by
    show G (.d d) ρw fun ρ1 => TE noEx ρ1 θ fun r θ2 => asB r fun k => (fun (k : Bool) (θ2 : Th) => if k = true then genD G dYes TE ρw (fun k θ2 nx => if k = true then nx else N θ2) Φe ds θ2 else N θ2) k θ2
    refine hs d List.mem_cons_self _ ?_
    cases e : p d with
    | true =>
      rw [if_pos rfl]
      exact genD_all2 p ds (fun d' hd => hs d' (List.mem_cons_of_mem _ hd)) (fun q => h1 (by simp [e, q])) (fun q => h0 (by simp [e, q]))
    | false =>
      rw [if_neg Bool.false_ne_true]
      exact h0 (by simp [e])
theorem gs_len2 {i j : Nat} : ∀ (ds : List D) (ρ : Rho) (Ψ : Rho → Prop), gsCons (gN i) (gsCons (gN j) gsNil) ds ρ Ψ → ds.length = 2
  | [], _, _, h => h.elim
  | [_], _, _, h => h.elim
  | [_, _], _, _, _ => rfl
  | _ :: _ :: _ :: _, _, _, h => h.elim
/-! ### a box: a list that is changed in place -/
def Chg (a : Addr) (θ θ' : Th) : Prop := θ' = θ ∨ ∃ n : Int, θ' = thSet θ a [.int n]
def Boxed (θ : Th) (a : Addr) : Prop := ∃ n : Int, θ.lookup a = some [.int n]
theorem lookup_thSet {θ : Th} {a b : Addr} {ds : List D} : (thSet θ a ds).lookup b = if b = a then (θ.lookup b).map (fun _ => ds) else θ.lookup b := by
  induction θ with
  | nil =>
    show (none : Option (List D)) = _
    split <;> rfl
  | cons p θ ih =>
    obtain ⟨c, es⟩ := p
    unfold thSet at ih ⊢
    rw [List.map_cons]
    by_cases c1 : c = a
    · subst c1
      rw [if_pos rfl, List.lookup_cons, List.lookup_cons]
      by_cases c2 : b = c
      · subst c2
        simp
      · have : (b == c) = false := by simpa using c2
        rw [this]
        exact ih
    · rw [if_neg c1, List.lookup_cons, List.lookup_cons]
      by_cases c2 : b = c
      · subst c2
        simp [c1]
      · have : (b == c) = false := by simpa using c2
        rw [this]
        exact ih
theorem thSet_thSet {θ : Th} {a : Addr} {x y : List D} : thSet (thSet θ a x) a y = thSet θ a y := by
  unfold thSet
  rw [List.map_map]
  refine List.map_congr_left fun p _ => ?_
  show (if (if p.1 = a then (a, x) else p).1 = a then (a, y) else (if p.1 = a then (a, x) else p)) = _
  by_cases c : p.1 = a
  · rw [if_pos c]
    rw [if_pos rfl]
    rw [if_pos c]
  · rw [if_neg c]
theorem Chg.refl {a : Addr} {θ : Th} : Chg a θ θ := .inl rfl
theorem Chg.set {a : Addr} {θ θ' : Th} (h : Chg a θ θ') (n : Int) : Chg a θ (thSet θ' a [.int n]) := by
  rcases h with rfl | ⟨m, rfl⟩
  · exact .inr ⟨n, rfl⟩
  · exact .inr ⟨n, thSet_thSet⟩
theorem Chg.trans {a : Addr} {θ θ' θ2 : Th} (h : Chg a θ θ') (g : Chg a θ' θ2) : Chg a θ θ2 := by
  rcases g with rfl | ⟨m, rfl⟩
  · exact h
  · exact h.set m
theorem Chg.boxed {a : Addr} {θ θ' : Th} (h : Chg a θ θ') (b : Boxed θ a) : Boxed θ' a := by
  rcases h with rfl | ⟨m, rfl⟩
  · exact b
  · obtain ⟨n, e⟩ := b
    exact ⟨m, by rw [lookup_thSet, if_pos rfl, e]; rfl⟩
theorem Chg.keys {a : Addr} {θ θ' : Th} (h : Chg a θ θ') : θ'.map (·.1) = θ.map (·.1) := by
  rcases h with rfl | ⟨m, rfl⟩
  · rfl
  · exact thSet_keys _ _ _
theorem Chg.look {a b : Addr} {θ θ' : Th} (h : Chg a θ θ') (ne : b ≠ a) : θ'.lookup b = θ.lookup b := by
  rcases h with rfl | ⟨m, rfl⟩
  · rfl
  · rw [lookup_thSet, if_neg ne]
theorem Boxed.key {a : Addr} {θ : Th} (b : Boxed θ a) : a ∈ θ.map (·.1) := let ⟨_, e⟩ := b; th_key e
theorem thSet_out {θ : Th} {q : Addr} {ds : List D} (h : q ∉ θ.map (·.1)) : thSet θ q ds = θ := by
  unfold thSet
  have : ∀ p ∈ θ, (if p.1 = q then (q, ds) else p) = p := fun p hp => by
    rw [if_neg]
    intro e
    exact h (List.mem_map.mpr ⟨p, hp, e⟩)
  rw [List.map_congr_left this, List.map_id'']
  intro p
  rfl
theorem thSet_top {θ : Th} {q : Addr} {ds es : List D} (h : q ∉ θ.map (·.1)) : thSet ((q, ds) :: θ) q es = (q, es) :: θ := by
  have := thSet_out (ds := es) h
  unfold thSet at this ⊢
  rw [List.map_cons, if_pos rfl, this]
theorem thSet_under {θ : Th} {q a : Addr} {ds es : List D} (h : q ≠ a) : thSet ((q, ds) :: θ) a es = (q, ds) :: thSet θ a es := by
  unfold thSet
  rw [List.map_cons, if_neg h]
theorem thDel_top {θ : Th} {q : Addr} {ds : List D} (h : q ∉ θ.map (·.1)) : thDel ((q, ds) :: θ) q = θ := by
  unfold thDel
  rw [List.filter_cons]
  have e1 : decide ((q, ds).1 ≠ q) = false := by simp
  rw [e1]
  show θ.filter _ = θ
  refine List.filter_eq_self.mpr fun p hp => ?_
  exact decide_eq_true fun e => h (List.mem_map.mpr ⟨p, hp, e⟩)
theorem Chg.under {θ θ' : Th} {q a : Addr} {ds : List D} (h : q ≠ a) (g : Chg a ((q, ds) :: θ) θ') : ∃ θ1, θ' = (q, ds) :: θ1 ∧ Chg a θ θ1 := by
  rcases g with rfl | ⟨m, rfl⟩
  · exact ⟨θ, rfl, .refl⟩
  · exact ⟨_, thSet_under h, .inr ⟨m, rfl⟩⟩
theorem Boxed.under {θ : Th} {q a : Addr} {ds : List D} (h : q ≠ a) (b : Boxed θ a) : Boxed ((q, ds) :: θ) a := by
  obtain ⟨n, e⟩ := b
  refine ⟨n, ?_⟩
  rw [List.lookup_cons]
  have : (a == q) = false := by simpa using h.symm
  rw [this]
  exact e
theorem lookup_top {θ : Th} {q : Addr} {ds : List D} : List.lookup q ((q, ds) :: θ) = some ds := by simp
theorem ite_b {A B : Prop} (b : Bool) (h1 : b = true → A) (h2 : b = false → B) : if b = true then A else B := by
  cases b with
  | true => rw [if_pos rfl]; exact h1 rfl
  | false => rw [if_neg Bool.false_ne_true]; exact h2 rfl
end TlD
set_option Elab.async false
set_option linter.all false
set_option maxRecDepth 100000
set_option maxHeartbeats 4000000
namespace TlD
open PySem PySem.Spec PyProof.Rows L2 GxR TlG
section
variable {c : Cn} {X : Cx}
/-! ### comprehensions with two fors -/
def lc2D (G : DGt) (TT : DTT) (T1 : DTI) (G1 : DGt) (TT1 : DTT) (TE : DTE) (ρw : Rho) (vs1 : List Nat) (Φ : List D → Th → Prop) : List D → List D → Th → Prop
  | [], acc, θ => Φ acc θ
  | d :: ds, acc, θ => G (.d d) ρw fun ρ1 => TT noEx ρ1 θ fun b θ1 => if b = true then T1 noEx ρ1 θ1 fun items1 θ2 => lcD G1 TT1 TE (wipeR ρ1 vs1) (fun acc' θ' => lc2D G TT T1 G1 TT1 TE ρw vs1 Φ ds acc' θ') items1 acc θ2 else lc2D G TT T1 G1 TT1 TE ρw vs1 Φ ds acc θ1
def dLc2 (T : DTI) (G : DGt) (TT : DTT) (T1 : DTI) (G1 : DGt) (TT1 : DTT) (TE : DTE) (vs vs1 : List Nat) : ExW → Rho → Th → (List D → Th → Prop) → Prop := fun Ex ρ θ Φ => T Ex ρ θ fun items θ1 => lc2D G TT T1 G1 TT1 TE (wipeR ρ vs) vs1 Φ items [] θ1
theorem cut_upd {H : Hp} {a : Addr} {o : HO} : cutA (upd H a o) a = cutA H a := by
  funext b
  by_cases e : b = a
  · rw [e, cutA_same, cutA_same]
  · rw [cutA_ne e, upd_ne e, cutA_ne e]
theorem sim_lc2 {wi wi1 : TI} {T T1 : DTI} {g g1 : TG} {G G1 : DGt} {tt tt1 : TT} {TT TT1 : DTT} {te : TE} {TE : DTE} {vs us ws1 us1 : List Nat} (si : SimI c wi T) (sg : SimG c g G) (kw : KeepW vs g) (mo : MonG g) (st : SimT c tt TT) (si1 : SimI c wi1 T1) (sg1 : SimG c g1 G1) (kw1 : KeepW ws1 g1) (mo1 : MonG g1) (st1 : SimT c tt1 TT1) (se : SimE c te TE)
    (hv : ∀ v ∈ vs, v ∈ us) (hv1 : ∀ v ∈ ws1, v ∈ us1) : NewL c (tLc2 wi g tt wi1 g1 tt1 te us us1) (dLc2 T G TT T1 G1 TT1 TE us us1) := by
  intro Zh F0 Ex L σ H ρ θ Φ Q S h k
  refine si Zh F0 Ex L σ H ρ θ _ _ S h fun J items H1 θ1 S1 m1 F h1 => ?_
  have m0 := S1.hs.old
  generalize hF1 : vis Zh θ1 H1 = F1 at F m0 m1
  intro A hA
  obtain ⟨nA, _, _⟩ := S1.hs.noP hA
  -- what holds between two turns
  let Wo : Nat → Hp → Prop := fun i H => ∃ θ acc va, H A = some (.lst va) ∧ SD c.K c.Ps Zh F1 σ (cutA H A) ρ θ ∧ DqAll c.K (vis Zh θ (cutA H A)) va acc ∧ lc2D G TT T1 G1 TT1 TE (wipeR ρ us) us1 Φ (items.drop i) acc θ
  refine ⟨fun i m H => m + i = items.length + (i - items.length) ∧ Wo i H,
    ⟨items.length, by omega, θ1, [], [], upd_same, by rw [cutA_upd hA, ← hF1]; exact S1.here, .nil, h1⟩, fun i m H hW => ?_⟩
  obtain ⟨em, θ, acc, va, eA, S, da, hf⟩ := hW
  have eH := upd_cutA eA
  have SH : SD c.K c.Ps (upd Zh A (.lst va)) F1 σ H ρ θ := by
    have z := S.hide (o := .lst va) cutA_same
    rw [eH] at z
    exact z
  have vH : vis (upd Zh A (.lst va)) θ H = vis Zh θ (cutA H A) := (vis_unhide nA).symm
  cases e : items[i]? with
  | none =>
    have hl : items.length ≤ i := List.getElem?_eq_none_iff.mp e
    rw [List.drop_eq_nil_of_le hl] at hf
    refine .inl ⟨F.stop _ i H θ hl SH.hs, ?_⟩
    have z := k va acc (cutA H A) θ (S.base m0) (m1.trans S.hs.old) da hf A cutA_same
    rw [eH] at z
    exact z
  | some d =>
    have hl : i < items.length := (List.getElem?_eq_some_iff.mp e).1
    have ed : items[i] = d := (List.getElem?_eq_some_iff.mp e).2
    rw [List.drop_eq_getElem_cons hl, ed] at hf
    refine .inr ⟨F.go _ i H θ hl SH.hs, fun H' => Wo (i + 1) H', fun H' z => ⟨m - 1, by omega, by omega, z⟩, fun x H2 hy => ?_⟩
    obtain ⟨hs2, m2, dx⟩ := F.yld _ i x H H2 θ d e SH.hs hy
    have S2 := SH.to hs2 m2
    have S2w := S2.wipe us
    refine mo _ _ _ _ _ (fun σ3 H3 q => ⟨q.1.trans (TlG.wipe_wipe σ us), q.2⟩) (kw x (wipe σ us) H2 _ us hv (sg _ F1 x (.d d) _ H2 _ θ _ _ S2w dx hf fun σ3 ρ3 S3 h3 => st _ F1 noEx xl_no σ3 H2 ρ3 θ _ _ S3 h3 fun b H4 θ4 S4 m4 h4 => ?_))
    have back : ∀ {H' : Hp} {θ' : Th}, HS c.K c.Ps (upd Zh A (.lst va)) F1 H' θ' → Mono (vis (upd Zh A (.lst va)) θ H2) (vis (upd Zh A (.lst va)) θ' H') → SD c.K c.Ps Zh F1 σ (cutA H' A) ρ θ' ∧ DqAll c.K (vis Zh θ' (cutA H' A)) va acc := fun {H' θ'} hs' m' => by
      have S' := (S2.to hs' m').unhide nA
      refine ⟨S', ?_⟩
      rw [vis_unhide (o := .lst va) nA]
      refine dps_mono m' _ _ (dps_mono m2 _ _ ?_)
      rw [vH]
      exact da
    cases b with
    | false =>
      simp only [Bool.false_eq_true, if_false] at h4 ⊢
      obtain ⟨S5, d5⟩ := back S4.hs m4
      exact ⟨θ4, acc, va, (S4.hs.unhide nA).2, S5, d5, h4⟩
    | true =>
      simp only [if_true] at h4 ⊢
      refine si1 _ F1 noEx xl_no σ3 H4 ρ3 θ4 _ _ S4 h4 fun J1 items1 H5 θ5 S5 m5 F5 h5 => ?_
      obtain ⟨S5b, d5b⟩ := back S5.hs (m4.trans m5)
      have eA5 := (S5.hs.unhide nA).2
      have v5 : vis (upd Zh A (.lst va)) θ5 H5 = vis Zh θ5 (cutA H5 A) := (vis_unhide nA).symm
      rw [v5] at F5
      have S5i : SD c.K c.Ps Zh F1 σ3 (cutA H5 A) ρ3 θ5 := S5.unhide nA
      have m05 := S5b.hs.old
      generalize hF5 : vis Zh θ5 (cutA H5 A) = F6 at F5 m05
      refine ⟨fun j n H => ∃ θ acc va, n + j = items1.length + (j - items1.length) ∧ H A = some (.lst va) ∧ SD c.K c.Ps Zh F6 σ (cutA H A) ρ θ ∧ SD c.K c.Ps Zh F6 σ3 (cutA H A) ρ3 θ ∧ DqAll c.K (vis Zh θ (cutA H A)) va acc ∧
        lcD G1 TT1 TE (wipeR ρ3 us1) (fun acc' θ' => lc2D G TT T1 G1 TT1 TE (wipeR ρ us) us1 Φ (items.drop (i + 1)) acc' θ') (items1.drop j) acc θ,
        ⟨items1.length, θ5, acc, va, by omega, eA5, by rw [← hF5]; exact S5b.here, by rw [← hF5]; exact S5i.here, d5b, h5⟩, fun j n H hW1 => ?_⟩
      obtain ⟨θ6, acc6, va6, en, eA6, So, Si, d6, hf6⟩ := hW1
      have eH6 := upd_cutA eA6
      have SH6 : SD c.K c.Ps (upd Zh A (.lst va6)) F6 σ3 H ρ3 θ6 := by
        have z := Si.hide (o := .lst va6) cutA_same
        rw [eH6] at z
        exact z
      have SO6 : SD c.K c.Ps (upd Zh A (.lst va6)) F6 σ H ρ θ6 := by
        have z := So.hide (o := .lst va6) cutA_same
        rw [eH6] at z
        exact z
      have vH6 : vis (upd Zh A (.lst va6)) θ6 H = vis Zh θ6 (cutA H A) := (vis_unhide nA).symm
      cases e1 : items1[j]? with
      | none =>
        have hl1 : items1.length ≤ j := List.getElem?_eq_none_iff.mp e1
        rw [List.drop_eq_nil_of_le hl1] at hf6
        exact .inl ⟨F5.stop _ j H θ6 hl1 SH6.hs, θ6, acc6, va6, eA6, So.base m05, d6, hf6⟩
      | some d1 =>
        have hl1 : j < items1.length := (List.getElem?_eq_some_iff.mp e1).1
        have ed1 : items1[j] = d1 := (List.getElem?_eq_some_iff.mp e1).2
        rw [List.drop_eq_getElem_cons hl1, ed1] at hf6
        refine .inr ⟨F5.go _ j H θ6 hl1 SH6.hs, fun H' => ∃ θ acc va, H' A = some (.lst va) ∧ SD c.K c.Ps Zh F6 σ (cutA H' A) ρ θ ∧ SD c.K c.Ps Zh F6 σ3 (cutA H' A) ρ3 θ ∧ DqAll c.K (vis Zh θ (cutA H' A)) va acc ∧
          lcD G1 TT1 TE (wipeR ρ3 us1) (fun acc' θ' => lc2D G TT T1 G1 TT1 TE (wipeR ρ us) us1 Φ (items.drop (i + 1)) acc' θ') (items1.drop (j + 1)) acc θ, fun H' z => ?_, fun x1 H7 hy1 => ?_⟩
        · obtain ⟨θ', acc', va', z1, z2, z3, z4, z5⟩ := z
          exact ⟨n - 1, by omega, θ', acc', va', by omega, z1, z2, z3, z4, z5⟩
        · obtain ⟨hs7, m7, dx1⟩ := F5.yld _ j x1 H H7 θ6 d1 e1 SH6.hs hy1
          have S7 := SH6.to hs7 m7
          have O7 := SO6.to hs7 m7
          have S7w := S7.wipe us1
          have back1 : ∀ {H' : Hp} {θ' : Th}, HS c.K c.Ps (upd Zh A (.lst va6)) F6 H' θ' → Mono (vis (upd Zh A (.lst va6)) θ6 H7) (vis (upd Zh A (.lst va6)) θ' H') → SD c.K c.Ps Zh F6 σ (cutA H' A) ρ θ' ∧ SD c.K c.Ps Zh F6 σ3 (cutA H' A) ρ3 θ' ∧ DqAll c.K (vis Zh θ' (cutA H' A)) va6 acc6 := fun {H' θ'} hs' m' => by
            refine ⟨(O7.to hs' m').unhide nA, (S7.to hs' m').unhide nA, ?_⟩
            rw [vis_unhide (o := .lst va6) nA]
            refine dps_mono m' _ _ (dps_mono m7 _ _ ?_)
            rw [vH6]
            exact d6
          refine mo1 _ _ _ _ _ (fun σ4 H4 q => ⟨q.1.trans (TlG.wipe_wipe σ3 us1), q.2⟩) (kw1 x1 (wipe σ3 us1) H7 _ us1 hv1 (sg1 _ F6 x1 (.d d1) _ H7 _ θ6 _ _ S7w dx1 hf6 fun σ4 ρ4 S8 h8 => st1 _ F6 noEx xl_no σ4 H7 ρ4 θ6 _ _ S8 h8 fun b1 H9 θ9 S9 m9 h9 => ?_))
          cases b1 with
          | false =>
            simp only [Bool.false_eq_true, if_false] at h9 ⊢
            obtain ⟨q1, q2, q3⟩ := back1 S9.hs m9
            exact ⟨θ9, acc6, va6, (S9.hs.unhide nA).2, q1, q2, q3, h9⟩
          | true =>
            simp only [if_true] at h9 ⊢
            refine se _ F6 noEx xl_no σ4 H9 ρ4 θ9 _ _ S9 h9 fun v r H10 θ10 S10 m10 d10 h10 => ?_
            obtain ⟨y, dy, hz, h10⟩ := asD_of d10 h10
            obtain ⟨q1, q2, q3⟩ := back1 S10.hs (m9.trans m10)
            have ly : va6.length < sizeLine := by
              rw [q3.length]
              exact Nat.lt_of_lt_of_le hz (by decide)
            refine ⟨va6, (S10.hs.unhide nA).2, ly, θ10, acc6 ++ [y], va6 ++ [v], upd_same, ?_, ?_, ?_, h10⟩
            · rw [cut_upd]
              exact q1
            · rw [cut_upd]
              exact q2
            · rw [cut_upd]
              refine q3.append (.cons ?_ .nil)
              rw [vis_unhide (o := .lst va6) nA]
              exact dy
theorem de_lc2N {elt tg iter tg1 iter1 : Expr} {ifs ifs1 : List Expr} {scope : Scope} {own : List (Str × Nat)} {pos : Pos} {wi wi1 : TI} {T T1 : DTI} {g g1 : TG} {G G1 : DGt} {tt tt1 : TT} {TT TT1 : DTT} {te : TE} {TE : DTE} {vs vs1 us1 : List Nat} (hc : X.calm = true) (hN : X.N.Nodup) (hi : DI c X tg iter wi T) (ok : BlkOk X.N X.env.scope scope own)
    (hg : ∀ (s : Shared) (H : Hp) (C : Addr) (cl : List (Str × Addr)) (fp : List Addr), DG c (X.blk s H scope (compEnvC scope cl C X.env) fp) tg g G vs) (ht : ∀ (s : Shared) (H : Hp) (C : Addr) (cl : List (Str × Addr)) (fp : List Addr), DTs c (X.blk s H scope (compEnvC scope cl C X.env) fp) ifs tt TT)
    (hi1 : ∀ (s : Shared) (H : Hp) (C : Addr) (cl : List (Str × Addr)) (fp : List Addr), DI c (X.blk s H scope (compEnvC scope cl C X.env) fp) tg1 iter1 wi1 T1)
    (hg1 : ∀ (s : Shared) (H : Hp) (C : Addr) (cl : List (Str × Addr)) (fp : List Addr), DG c (X.blk s H scope (compEnvC scope cl C X.env) fp) tg1 g1 G1 vs1) (ht1 : ∀ (s : Shared) (H : Hp) (C : Addr) (cl : List (Str × Addr)) (fp : List Addr), DTs c (X.blk s H scope (compEnvC scope cl C X.env) fp) ifs1 tt1 TT1)
    (he : ∀ (s : Shared) (H : Hp) (C : Addr) (cl : List (Str × Addr)) (fp : List Addr), DE c (X.blk s H scope (compEnvC scope cl C X.env) fp) elt te TE) (hu : us1 = vs1) (hv : ∀ v ∈ vs, v ∈ own.map (·.2)) (hv1 : ∀ v ∈ us1, v ∈ own.map (·.2)) (hs : ∀ x, foldedSetIterable iter X.env x = pure x := by intro _; rfl) (hs1 : ∀ env x, foldedSetIterable iter1 env x = pure x := by intro _ _; rfl) :
    PE X (.ListComp elt [⟨tg, iter, ifs, 0⟩, ⟨tg1, iter1, ifs1, 0⟩] scope pos) (tLc2 wi g tt wi1 g1 tt1 te (own.map (·.2)) us1) ∧ NewL c (tLc2 wi g tt wi1 g1 tt1 te (own.map (·.2)) us1) (dLc2 T G TT T1 G1 TT1 TE (own.map (·.2)) us1) := by
  subst hu
  exact ⟨pe_lc2 hc hN hi.pi ok hv1 (fun s H C cl fp => (hg s H C cl fp).pg) (fun s H C cl fp => (ht s H C cl fp).pts) (fun s H C cl fp => (hi1 s H C cl fp).pi) (fun s H C cl fp => (hg1 s H C cl fp).pg) (fun s H C cl fp => (ht1 s H C cl fp).pts) (fun s H C cl fp => (he s H C cl fp).pe) hs hs1,
    sim_lc2 hi.sim (hg X.s_0 (fun _ => none) 0 [] []).sim (hg X.s_0 (fun _ => none) 0 [] []).kw (hg X.s_0 (fun _ => none) 0 [] []).mo (ht X.s_0 (fun _ => none) 0 [] []).sim (hi1 X.s_0 (fun _ => none) 0 [] []).sim (hg1 X.s_0 (fun _ => none) 0 [] []).sim (hg1 X.s_0 (fun _ => none) 0 [] []).kw (hg1 X.s_0 (fun _ => none) 0 [] []).mo (ht1 X.s_0 (fun _ => none) 0 [] []).sim (he X.s_0 (fun _ => none) 0 [] []).sim hv (fun v h => h)⟩
end
end TlD
set_option Elab.async false
set_option linter.all false
set_option maxRecDepth 100000
set_option maxHeartbeats 4000000
namespace TlD
open PySem PySem.Spec PyProof.Rows L2 GxR TlG
/-! ## plain facts -/
abbrev sg (c : Nat) : D := .str ⟨#[c]⟩
theorem signsD_eq (x : Str) : signsD x = x.cps.toList.map sg := rfl
theorem sg_eqv (a b : Nat) : PyData.eqv (sg a) (sg b) = decide (a = b) := by
  by_cases h : a = b
  · subst h
    simp [PyData.eqv]
  · have : ((⟨#[a]⟩ : Str) == ⟨#[b]⟩) = false := by
      simpa using h
    simp only [PyData.eqv, this]
    simp [h]
theorem strOk_sg {c : Nat} (h : c < 128) : PyData.strOk ⟨#[c]⟩ = true := by
  first
    | (simp [PyData.strOk]; omega)
    | (unfold PyData.strOk; simp; omega)
    | (unfold PyData.strOk; simp)
theorem flat_sgs : ∀ cs : List Nat, flatDs (cs.map sg) = true
  | [] => rfl
  | c :: cs => by
    show (flatD (sg c) && flatDs (cs.map sg)) = true
    rw [flat_sgs cs]
    rfl
theorem lay_sgs : ∀ cs : List Nat, (∀ c ∈ cs, c < 128) → PyData.canLayAll0 (cs.map sg) = true ∧ PyData.depthAll (cs.map sg) = 0
  | [], _ => ⟨rfl, rfl⟩
  | c :: cs, h => by
    obtain ⟨h1, h2⟩ := lay_sgs cs fun d hd => h d (List.mem_cons_of_mem _ hd)
    refine ⟨?_, ?_⟩
    · show (PyData.strOk ⟨#[c]⟩ && PyData.canLayAll0 (cs.map sg)) = true
      rw [h1, strOk_sg (h c List.mem_cons_self)]
      rfl
    · show max (PyData.depth (sg c)) (PyData.depthAll (cs.map sg)) = 0
      rw [h2]
      rfl
theorem eqOk_sgs {cs : List Nat} (h : ∀ c ∈ cs, c < 128) : eqOk (.list (cs.map sg)) := by
  obtain ⟨h1, h2⟩ := lay_sgs cs h
  refine ⟨flat_sgs cs, ?_⟩
  unfold SeqAt.shaped
  rw [Bool.and_eq_true]
  refine ⟨h1, decide_eq_true ?_⟩
  show PyData.depthAll (cs.map sg) + 1 ≤ 64
  omega
theorem eqOk_sg {c : Nat} (h : c < 128) : eqOk (sg c) := by
  refine ⟨rfl, ?_⟩
  unfold SeqAt.shaped
  rw [Bool.and_eq_true]
  exact ⟨strOk_sg h, decide_eq_true (Nat.zero_le _)⟩
theorem eqOk_int (i : Int) : eqOk (.int i) := ⟨rfl, by simp [SeqAt.shaped, PyData.canLay0, PyData.depth]⟩
theorem eqOk_bool (b : Bool) : eqOk (.bool b) := ⟨rfl, by simp [SeqAt.shaped, PyData.canLay0, PyData.depth]⟩
theorem flat_ints : ∀ cs : List Int, flatDs (cs.map PyData.int) = true
  | [] => rfl
  | c :: cs => by
    show (flatD (.int c) && flatDs (cs.map PyData.int)) = true
    rw [flat_ints cs]
    rfl
theorem lay_ints : ∀ cs : List Int, PyData.canLayAll0 (cs.map PyData.int) = true ∧ PyData.depthAll (cs.map PyData.int) = 0
  | [] => ⟨rfl, rfl⟩
  | c :: cs => by
    obtain ⟨h1, h2⟩ := lay_ints cs
    refine ⟨?_, ?_⟩
    · show (true && PyData.canLayAll0 (cs.map PyData.int)) = true
      rw [h1]
      rfl
    · show max (PyData.depth (.int c)) (PyData.depthAll (cs.map PyData.int)) = 0
      rw [h2]
      rfl
theorem eqOk_ints (cs : List Int) : eqOk (.list (cs.map PyData.int)) := by
  obtain ⟨h1, h2⟩ := lay_ints cs
  refine ⟨flat_ints cs, ?_⟩
  unfold SeqAt.shaped
  rw [Bool.and_eq_true]
  refine ⟨h1, decide_eq_true ?_⟩
  show PyData.depthAll (cs.map PyData.int) + 1 ≤ 64
  omega
theorem eqOk_nil : eqOk (.list []) := eqOk_ints []
theorem eqv_sgs : ∀ cs ds : List Nat, PyData.eqvAll (cs.map sg) (ds.map sg) = decide (cs = ds)
  | [], [] => by simp [PyData.eqvAll]
  | [], d :: ds => by simp [PyData.eqvAll]
  | c :: cs, [] => by simp [PyData.eqvAll]
  | c :: cs, d :: ds => by
    show (PyData.eqv (sg c) (sg d) && PyData.eqvAll (cs.map sg) (ds.map sg)) = _
    rw [sg_eqv, eqv_sgs cs ds]
    by_cases h : c = d <;> by_cases g : cs = ds <;> simp [h, g]
/-! ### letters -/
def letters (m : Nat) : List Nat := (List.range m).map (97 + ·)
theorem mem_letters {m c : Nat} : c ∈ letters m ↔ 97 ≤ c ∧ c < 97 + m := by
  unfold letters
  simp only [List.mem_map, List.mem_range]
  constructor
  · rintro ⟨a, h, rfl⟩
    omega
  · rintro ⟨h1, h2⟩
    exact ⟨c - 97, by omega, by omega⟩
theorem abc_take {m : Nat} (h : m ≤ 6) : (cutS ("abcdef" : Str) none (some (m : Int))).cps.toList = letters m := by
  rcases (by omega : m = 0 ∨ m = 1 ∨ m = 2 ∨ m = 3 ∨ m = 4 ∨ m = 5 ∨ m = 6) with rfl | rfl | rfl | rfl | rfl | rfl | rfl <;> decide +kernel
theorem abc_at {i : Nat} (h : i < 6) : atI ("abcdef" : Str).cps.toList (i : Int) = some (97 + i) := by
  rcases (by omega : i = 0 ∨ i = 1 ∨ i = 2 ∨ i = 3 ∨ i = 4 ∨ i = 5) with rfl | rfl | rfl | rfl | rfl | rfl <;> decide +kernel
theorem abc_len : ("abcdef" : Str).length = 6 := by decide +kernel
/-- whether a text is made of just the first m letters, each of them in it -/
def made (x : Str) (m : Nat) : Bool := (x.cps.toList.all fun c => decide (97 ≤ c) && decide (c < 97 + m)) && (letters m).all fun c => x.cps.toList.contains c
theorem made_iff {x : Str} {m : Nat} : made x m = true ↔ ∀ c, c ∈ x.cps.toList ↔ 97 ≤ c ∧ c < 97 + m := by
  unfold made
  simp only [Bool.and_eq_true, List.all_eq_true, decide_eq_true_eq, List.contains_iff_mem]
  constructor
  · rintro ⟨h1, h2⟩ c
    exact ⟨h1 c, fun h => h2 c (mem_letters.mpr h)⟩
  · intro h
    exact ⟨fun c hc => (h c).mp hc, fun c hc => (h c).mpr (mem_letters.mp hc)⟩
theorem inc_one : ∀ l m : List Nat, l.Pairwise (· < ·) → m.Pairwise (· < ·) → (∀ x, x ∈ l ↔ x ∈ m) → l = m
  | [], [], _, _, _ => rfl
  | [], y :: m, _, _, h => by
    have := (h y).mpr List.mem_cons_self
    cases this
  | x :: l, [], _, _, h => by
    have := (h x).mp List.mem_cons_self
    cases this
  | x :: l, y :: m, p, q, h => by
    obtain ⟨p1, p2⟩ := List.pairwise_cons.mp p
    obtain ⟨q1, q2⟩ := List.pairwise_cons.mp q
    have e : x = y := by
      rcases List.mem_cons.mp ((h x).mp List.mem_cons_self) with e | e
      · exact e
      · rcases List.mem_cons.mp ((h y).mpr List.mem_cons_self) with g | g
        · exact g.symm
        · have a := q1 x e
          have b := p1 y g
          omega
    subst e
    have : l = m := inc_one l m p2 q2 fun z => by
      constructor
      · intro hz
        rcases List.mem_cons.mp ((h z).mp (List.mem_cons_of_mem _ hz)) with e | e
        · have := p1 z hz
          omega
        · exact e
      · intro hz
        rcases List.mem_cons.mp ((h z).mpr (List.mem_cons_of_mem _ hz)) with e | e
        · have := q1 z hz
          omega
        · exact e
    rw [this]
theorem letters_inc (m : Nat) : (letters m).Pairwise (· < ·) := by
  unfold letters
  rw [List.pairwise_map]
  refine List.Pairwise.imp (fun h => ?_) (List.pairwise_lt_range (n := m))
  omega
theorem rising_codes : ∀ (cs : List Nat) (p : Nat), risingS ⟨#[p]⟩ (cs.map fun c => (⟨#[c]⟩ : Str)) = true → (p :: cs).Pairwise (· ≤ ·)
  | [], p, _ => by simp
  | c :: cs, p, h => by
    have h : (!ltCps [c] [p] && risingS ⟨#[c]⟩ (cs.map fun c => (⟨#[c]⟩ : Str))) = true := h
    rw [Bool.and_eq_true] at h
    have h1 : p ≤ c := by
      have := h.1
      simp [ltCps] at this
      omega
    have h2 := rising_codes cs c h.2
    refine List.pairwise_cons.mpr ⟨fun d hd => ?_, h2⟩
    rcases List.mem_cons.mp hd with rfl | hd
    · exact h1
    · exact Nat.le_trans h1 ((List.pairwise_cons.mp h2).1 d hd)
theorem sorted_codes {cs : List Nat} (h : sortedS (cs.map fun c => (⟨#[c]⟩ : Str)) = true) (nd : cs.Nodup) : cs.Pairwise (· < ·) := by
  have le : cs.Pairwise (· ≤ ·) := by
    cases cs with
    | nil => exact .nil
    | cons c cs => exact rising_codes cs c h
  refine (le.and nd).imp fun {a b} h => ?_
  have := h.1
  have := h.2
  omega
/-- what sorted(set(x)) is -/
theorem codesFrom {x : Str} {ys : List Str} (h : sortedS ys = true) (nd : ys.Nodup) (hm : ∀ y : Str, y ∈ ys ↔ ∃ c ∈ x.cps.toList, y = ⟨#[c]⟩) : ∃ cs : List Nat, ys = cs.map (fun c => (⟨#[c]⟩ : Str)) ∧ cs.Pairwise (· < ·) ∧ ∀ c, c ∈ cs ↔ c ∈ x.cps.toList := by
  have one : ∀ ys : List Str, (∀ y ∈ ys, ∃ c : Nat, y = ⟨#[c]⟩) → ∃ cs : List Nat, ys = cs.map (fun c => (⟨#[c]⟩ : Str)) := by
    intro ys
    induction ys with
    | nil => intro _; exact ⟨[], rfl⟩
    | cons y ys ih =>
      intro h
      obtain ⟨c, rfl⟩ := h y List.mem_cons_self
      obtain ⟨cs, rfl⟩ := ih fun z hz => h z (List.mem_cons_of_mem _ hz)
      exact ⟨c :: cs, rfl⟩
  obtain ⟨cs, rfl⟩ := one ys fun y hy => let ⟨c, _, e⟩ := (hm y).mp hy; ⟨c, e⟩
  have inj : ∀ a b : Nat, (⟨#[a]⟩ : Str) = ⟨#[b]⟩ → a = b := fun a b e => by
    have : (#[a] : Array Nat) = #[b] := congrArg Str.cps e
    simpa using this
  have nd2 : cs.Nodup := by
    refine List.Pairwise.of_map (fun c => (⟨#[c]⟩ : Str)) (fun a b h e => h (by rw [e])) nd
  refine ⟨cs, rfl, sorted_codes h nd2, fun c => ?_⟩
  have := hm ⟨#[c]⟩
  simp only [List.mem_map] at this
  constructor
  · intro hc
    obtain ⟨d, hd, e⟩ := this.mp ⟨c, hc, rfl⟩
    rw [inj _ _ e]
    exact hd
  · intro hc
    obtain ⟨d, hd, e⟩ := this.mpr ⟨c, hc, rfl⟩
    rw [← inj _ _ e]
    exact hd
theorem made_sorted {x : Str} {cs : List Nat} {m : Nat} (inc : cs.Pairwise (· < ·)) (hm : ∀ c, c ∈ cs ↔ c ∈ x.cps.toList) : decide (cs = letters m) = made x m := by
  cases e : made x m with
  | true =>
    refine decide_eq_true (inc_one _ _ inc (letters_inc m) fun c => ?_)
    rw [hm c, mem_letters]
    exact made_iff.mp e c
  | false =>
    refine decide_eq_false fun h => ?_
    have : made x m = true := made_iff.mpr fun c => by rw [← hm c, h, mem_letters]
    rw [e] at this
    cases this
/-! ### turns -/
/-- the letters of two places alone -/
def only (x : Str) (i j : Nat) : List Nat := x.cps.toList.filter fun c => decide (c = 97 + i) || decide (c = 97 + j)
def apart : List Nat → Bool
  | [] => true
  | [_] => true
  | a :: b :: r => decide (a ≠ b) && apart (b :: r)
def turns (x : Str) (i j : Nat) : Bool := apart (only x i j)
theorem apart_at : ∀ (l : List Nat), apart l = true ↔ ∀ (k : Nat) a b, l[k]? = some a → l[k + 1]? = some b → a ≠ b
  | [] => by simp [apart]
  | [a] => by simp [apart]
  | a :: b :: r => by
    unfold apart
    rw [Bool.and_eq_true, decide_eq_true_eq, apart_at (b :: r)]
    constructor
    · rintro ⟨h1, h2⟩ k c d hc hd
      cases k with
      | zero =>
        simp at hc hd
        subst hc hd
        exact h1
      | succ k => exact h2 k c d (by simpa using hc) (by simpa using hd)
    · intro h
      exact ⟨h 0 a b rfl rfl, fun k c d hc hd => h (k + 1) c d (by simpa using hc) (by simpa using hd)⟩
end TlD
set_option Elab.async false
set_option linter.all false
set_option maxRecDepth 100000
set_option maxHeartbeats 4000000
namespace TlD
open PySem PySem.Spec PyProof.Rows L2 GxR TlG
section
variable {c : Cn} {X : Cx}
/-! ### repr of data -/
/-- the answer's size -/
def shownOk (d : D) : Prop := flatD d = true ∧ PyData.showable d = true ∧ PyData.depth d ≤ 64 ∧ d.shown.length ≤ sizeLine
theorem flat_noDict : ∀ d : D, flatD d = true → PyData.hasDict d = false := by
  have key : ∀ n : Nat, ∀ d : D, sizeOf d < n → flatD d = true → PyData.hasDict d = false := by
    intro n
    induction n with
    | zero => intro d h; omega
    | succ n ih =>
      have all : ∀ ds : List D, sizeOf ds < n → flatDs ds = true → PyData.hasDictAll ds = false := by
        intro ds
        induction ds with
        | nil => intro _ _; simp [PyData.hasDictAll]
        | cons d ds ihs =>
          intro h f
          have f' : flatD d = true ∧ flatDs ds = true := by simpa [flatDs] using f
          have e : sizeOf (d :: ds) = 1 + sizeOf d + sizeOf ds := rfl
          simp [PyData.hasDictAll, ih d (by omega) f'.1, ihs (by omega) f'.2]
      intro d h f
      cases d with
      | none => simp [PyData.hasDict]
      | bool b => simp [PyData.hasDict]
      | int i => simp [PyData.hasDict]
      | str x => simp [PyData.hasDict]
      | list ds =>
        have e : sizeOf (PyData.list ds) = 1 + sizeOf ds := by simp
        simpa [PyData.hasDict] using all ds (by omega) (by simpa [flatD] using f)
      | tuple ds =>
        have e : sizeOf (PyData.tuple ds) = 1 + sizeOf ds := by simp
        simpa [PyData.hasDict] using all ds (by omega) (by simpa [flatD] using f)
      | dict ds => simp [flatD] at f
  exact fun d => key _ d (Nat.lt_succ_self _)
def rRepr (K : PySem.W.Frag) : List V → Hp → VK → Prop := fun xs H Q => ∃ v d, xs = [v] ∧ Dp K H v d ∧ shownOk d ∧ Q (.str d.shown) H
theorem call_reprD (hg : X.A.guards = some []) (hu : X.A.units + 66 < cLine) : CallR X (.builtin "repr") (rRepr X.K) := by
  intro pins s σ H xs us Q I r h
  obtain ⟨v, d, rfl, hd, ⟨hf, hs, hdep, hsz⟩, q⟩ := h
  cases r with
  | cons ru rn =>
    rename_i u us'
    cases rn
    obtain ⟨as, rd⟩ := Dp.reads I d v u hd ru
    have fin : ∀ h' tk (t : Tok), (∀ b o, s.heap.get? b = some o → h'.get? b = some o) → EP X pins σ Q (.str d.shown t) { s with heap := h', toks := tk } := fun h' tk t hk =>
      ⟨.str d.shown, H, I.kept hk, ⟨_, rfl⟩, q⟩
    cases rd with
    | none =>
      refine PySem.P.repr_of_none ?_
      have := fin s.heap (s.toks + 1) s.toks fun _ _ e => e
      simpa only [PyData.shown] using this
    | bool b =>
      refine PySem.P.repr_of_bool ?_
      have := fin s.heap (s.toks + 1) s.toks fun _ _ e => e
      simpa only [PyData.shown] using this
    | int i t =>
      refine PySem.P.repr_of_int (by simpa [PyData.showable] using hs) ?_
      have := fin s.heap (s.toks + 1) s.toks fun _ _ e => e
      simpa only [PyData.shown] using this
    | str x t =>
      refine PySem.P.repr_of_str ?_ (by simpa only [PyData.shown] using hsz)
      have := fin s.heap (s.toks + 1) s.toks fun _ _ e => e
      simpa only [PyData.shown] using this
    | list e1 e2 e3 e4 =>
      exact repr_of_reads' (.list e1 e2 e3 e4) hs (fun z => by rw [flat_noDict _ hf] at z; cases z) hg (by omega) (fun _ _ e => e) (fun h' u' tk hk => fin h' tk u' hk) hsz
    | tuple e1 e2 e3 e4 =>
      exact repr_of_reads' (.tuple e1 e2 e3 e4) hs (fun z => by rw [flat_noDict _ hf] at z; cases z) hg (by omega) (fun _ _ e => e) (fun h' u' tk hk => fin h' tk u' hk) hsz
    | dict e1 e2 e3 e4 e5 => simp [flatD] at hf
def fRepr : DCl := fun rs θ Φ => on1 rs fun r => dat r θ fun d => shownOk d ∧ Φ (.d (.str d.shown)) θ
theorem sim_repr : SimC c (rRepr c.K) fRepr := fun Zh F0 σ H ρ θ xs rs Φ Q S dx h k => by
  obtain ⟨v, r, rfl, dv, h⟩ := on1_of dx h
  obtain ⟨d, hd, o, h⟩ := dat_of S.hs dv h
  exact ⟨v, d, rfl, hd.dp o.1, o, kS S k h⟩
theorem de_repr {e : Expr} {te : TE} {T : DTE} {p pos : Pos} (hK : X.K = c.K) (hg : X.A.guards = some []) (hu : X.A.units + 66 < cLine) (gl : Gl X "repr") (hm : X.mg "repr" = none) (he : DE c X e te T)
    (hs : starEach [e] X.env = (false, eval e X.env) :: starEach [] X.env := by rfl) (hpl : (backTo pos (starEach [] X.env)).any (·.1) = false := by rfl) :
    DE c X (.Call (.Name "repr" p) [e] [] pos) (tCB (rRepr c.K) (tCons te tNil)) (dCall fRepr (dCons T dNil)) :=
  de_callB (by rw [← hK]; exact call_reprD hg hu) sim_repr gl hm (by decide +kernel) (da_cons he da_nil hs) (by decide) (by decide) hs hpl
end
end TlD
set_option Elab.async false
set_option linter.all false
set_option maxRecDepth 100000
set_option maxHeartbeats 4000000
namespace TlD
open PySem PySem.Spec PyProof.Rows L2 GxR TlG
/-! ### the law's def, called from outside: no repr is under way there -/
/-- the def's promise, at the outermost call -/
structure Outer (P : Program) (w : World) (K : PySem.W.Frag) (mg : Str → Option Value) (base : Heap) (CX : CXT) (f : Addr) (fd : FuncData) (ps : List Str) (sp : Sp) : Prop where
  go : ∀ (s : Shared) (H : Hp) (args : Args) (us : List Value) (vs : List V) (Q : VK) (E : XK), Env0 P w K mg base callerA [] s H → BindsTo s fd args (ps.zip us) → Vals vs us → sp vs H Q E →
    codeAny (model P w) callerA (.call (.ref f) args) (CR CX [] P w H s Q E) s
abbrev envL (qual : Str) (scope : Scope) (f : Addr) (cd : Value) (s : Shared) : Env := envOfC qual scope s.heap.objs.size f cd
abbrev cxL (P : Program) (w : World) (K : PySem.W.Frag) (mg : Str → Option Value) (base : Heap) (N : List Str) (qual : Str) (scope : Scope) (f : Addr) (cd : Value) (s : Shared) (H : Hp) (E : XK) : Cx :=
  cxOf (L2N.CX P w) P w K mg base N qual scope f cd callerA [] s H E
theorem outer_of {P : Program} {w : World} {K : PySem.W.Frag} {mg : Str → Option Value} {base : Heap} {k : Nat} {f : Addr} {x qual : Str} {st : Stmt} {fd : FuncData} {cd : Value} {N ps : List Str} {sp : Sp}
    (F : FunC K x qual st f fd cd) (S : FnScope N ps (defScope st)) (hr : Room (k + 1) callerA) (hlen : ∀ vs H Q E, sp vs H Q E → vs.length = ps.length)
    (body : ∀ (s : Shared) (H : Hp) (vs : List V) (Q : VK) (E : XK), Room k (callerA.deeper (envL qual (defScope st) f cd s)) → sp vs H Q E →
      ∃ t, PSs (cxL P w K mg base N qual (defScope st) f cd s H E) (defBody st) t ∧ t { nx := fun _ H' => Q .non H', rt := Q } (L2.start N vs) H) : Outer P w K mg base (L2N.CX P w) f fd ps sp := by
  obtain ⟨oc, od, kV, doc, pm, an, ct, osl, rfl, found, code⟩ := F.ex
  constructor
  intro s H args us vs Q E env binds vals want
  have kin : K.In s.heap := env.mod.kin.keeps fun b o e => (env.bs b o e).1
  have nolim : s.heap.NoLimit := env.mod.nolimit.keeps fun b o e => (env.bs b o e).1
  refine codeAny_call_function hr.depth (kin _ _ found) rfl S.co S.gen rfl (PySem.W.codeRec_of kin code) (binds _ _ _ _ ?_)
  refine wpAny_newFunctionEnv_cells S.kind (fun ⟨n, v⟩ hy => ?_) fun e he s1 made => ?_
  · cases S.par n (List.of_mem_zip hy).1 with
    | inl q => exact .inl q
    | inr q => exact .inr ⟨q, PySem.W.cellsFrom_some _ _ _ (.inl q)⟩
  · subst he
    refine ⟨nolim.keeps made.toInCall.keep, codeAny_func ?_⟩
    obtain ⟨t, ok, go⟩ := body s H vs Q E (hr.deeper _) want
    have I1 : Inv (cxL P w K mg base N qual (defScope st) f cd s H E) [] (L2.start N vs) H s1 := inv_start S hr.hd env (hlen _ _ _ _ want) vals made
    refine wpAny_mono (ok.run [] s1 _ H _ I1 go) (fun fl s2 end_ => ?_) fun _ _ end_ => end_
    match fl, end_ with
    | .ret u, ⟨v, σ2, H2, I2, rv, q⟩ => exact ⟨v, H2, I2.os, I2.bare, I2.base, I2.hok, rv, q⟩
    | .next, ⟨σ2, H2, I2, q⟩ => exact ⟨.non, H2, I2.os, I2.bare, I2.base, I2.hok, rfl, q⟩
    | .brk, ⟨_, _, _, q⟩ => exact q.elim
    | .cont, ⟨_, _, _, q⟩ => exact q.elim
/-- the same over data -/
theorem outer_data {P : Program} {w : World} {K : PySem.W.Frag} {mg : Str → Option Value} {base : Heap} {k : Nat} {f : Addr} {x qual : Str} {st : Stmt} {fd : FuncData} {cd : Value} {N ps : List Str} {Ps : List Addr} {sp : DSp}
    (F : FunC K x qual st f fd cd) (S : FnScope N ps (defScope st)) (hr : Room (k + 1) callerA) (hl : ∀ rs θ Φ Ex, sp rs θ Φ Ex → rs.length = ps.length)
    (body : ∀ (s : Shared) (H : Hp) (E : XK), Room k (callerA.deeper (envOfC qual (defScope st) s.heap.objs.size f cd)) →
      L2N.Takes (cxL P w K mg base N qual (defScope st) f cd s H E) (fun cls d _ H => E cls d H) →
      PassesOwn (model P w) (cxL P w K mg base N qual (defScope st) f cd s H E).A (cxL P w K mg base N qual (defScope st) f cd s H E).env (cxL P w K mg base N qual (defScope st) f cd s H E).xe →
      ∃ t T, DSs ⟨K, Ps, fun cls d _ H => E cls d H⟩ (cxL P w K mg base N qual (defScope st) f cd s H E) (defBody st) t T ∧
        ∀ rs θ Φ Ex, sp rs θ Φ Ex → T { nx := fun _ θ' => Φ (.d .none) θ', rt := Φ, ex := fun xd _ θ' => Ex xd θ' } (startR N.length rs) θ) :
    Outer P w K mg base (L2N.CX P w) f fd ps (spOf K Ps sp) := by
  refine outer_of F S hr (fun vs H Q E ⟨Zh, θ, rs, h1, h2, Φ, Ex, h3, _⟩ => h2.length.trans (hl _ _ _ _ h3)) fun s H vs Q E room ⟨Zh, θ, rs, hs, dv, Φ, Ex, h3, back, out⟩ => ?_
  obtain ⟨t, T, d, rd⟩ := body s H E room (L2N.takes_of rfl rfl rfl rfl) (passes_of rfl)
  have hn : vs.length = ps.length := dv.length.trans (hl _ _ _ _ h3)
  have hp : ps.length ≤ N.length := by
    have := congrArg List.length S.pre
    rw [List.length_take] at this
    omega
  refine ⟨t, d.ps, d.sim Zh (vis Zh θ H) _ _ (fun cls d σ H' ρ θ' xd S' x h => out xd θ' h cls d H' S'.hs x) ⟨fun σ H' ρ θ' S' h => back (.d .none) θ' h .non H' S'.hs Dq.non, fun v r H' θ' hs' dv h => back r θ' h v H' hs' dv, fun _ _ _ _ _ h => h, fun _ _ _ _ _ h => h⟩ _ H _ θ ⟨hs, fun i r e => ?_, ?_⟩ (rd rs θ Φ Ex h3)⟩
  · obtain ⟨v, h1, h2⟩ := dv.get (startR_get e)
    refine ⟨v, ?_, h2⟩
    have hi : i < vs.length := (List.getElem?_eq_some_iff.mp h1).1
    show (vs.map some ++ List.replicate (N.length - vs.length) none)[i]? = some (some v)
    rw [List.getElem?_append_left (by rw [List.length_map]; exact hi), List.getElem?_map, h1]
    rfl
  · show (vs.map some ++ List.replicate (N.length - vs.length) none).length = (startR N.length rs).length
    rw [startR_length, List.length_append, List.length_map, List.length_replicate]
    omega
end TlD
set_option Elab.async false
set_option linter.all false
set_option maxRecDepth 100000
set_option maxHeartbeats 4000000
namespace TlD
open PySem PySem.Spec PyProof.Rows L2 GxR TlG
/-! ### the end: the outermost call at the script's heap -/
section
variable {K : PySem.W.Frag} {g : Heap} {ts : List Addr} {a : Addr} {items : Array Value} {ns : List Int}
/-- what is tracked ahead of the call: the tables, and the script where it isn't a written one -/
noncomputable def hp0 (K : PySem.W.Frag) (ts : List Addr) (a : Addr) (items : Array Value) (ns : List Int) : Hp := fun b =>
  if b ∈ ts then some (.tbl #[]) else if b = a ∧ (K.lookup a).isNone = true then some (.frz { cls := .type "list", data := .seq items } (.lst (ns.map V.int))) else none
theorem hp0_tab {b : Addr} (h : b ∈ ts) : hp0 K ts a items ns b = some (.tbl #[]) := if_pos h
theorem hp0_cases (b : Addr) : (b ∈ ts ∧ hp0 K ts a items ns b = some (.tbl #[])) ∨
    (b = a ∧ K.lookup a = none ∧ hp0 K ts a items ns b = some (.frz { cls := .type "list", data := .seq items } (.lst (ns.map V.int)))) ∨ hp0 K ts a items ns b = none := by
  unfold hp0
  by_cases h1 : b ∈ ts
  · exact .inl ⟨h1, if_pos h1⟩
  · rw [if_neg h1]
    by_cases h2 : b = a ∧ (K.lookup a).isNone = true
    · rw [if_pos h2]
      exact .inr (.inl ⟨h2.1, Option.isNone_iff_eq_none.mp h2.2, rfl⟩)
    · rw [if_neg h2]
      exact .inr (.inr rfl)
/-- what else stands in the heap isn't tracked -/
theorem hp0_else (blank : ∀ b ∈ ts, g.get? b = some { cls := .none, data := .fields #[] }) (script : g.get? a = some { cls := .type "list", data := .seq items }) {b : Addr} {o : Obj} (e : g.get? b = some o)
    (n1 : o.data ≠ .fields #[]) (n2 : ∀ its n, o.data ≠ .seq its n) : hp0 K ts a items ns b = none := by
  rcases hp0_cases (K := K) (ts := ts) (a := a) (items := items) (ns := ns) b with ⟨h, _⟩ | ⟨h, _, _⟩ | h
  · rw [blank b h] at e
    cases e
    exact absurd rfl n1
  · rw [h, script] at e
    cases e
    exact absurd rfl (n2 _ _)
  · exact h
end
theorem outer_call {P : Program} {w : World} {K : PySem.W.Frag} {mg mb : Str → Option Value} {fa a : Addr} {cs : List (Addr × Addr)} {fd : FuncData} {x : Str} {sp : Sp} {s : Shared} {items : List Value} {ns : List Int}
    (kin : K.In s.heap) (glob : s.heap.Ns mainGlobals mg) (blt : s.heap.Ns builtinsNs mb) (same : ∀ y : Str, y ≠ "__name__" → mb y = bootBuiltins y) (nolim : s.heap.NoLimit) (nogen : s.gens = #[])
    (blank : ∀ p ∈ cs, s.heap.get? p.2 = some { cls := .none, data := .fields #[] }) (apart : ∀ p ∈ cs, K.lookup p.2 = none) (heads : ∀ p ∈ cs, PySem.W.CodeHd s.heap p.1 p.2)
    (bmod : ∃ (m : Addr) (o : Obj), mg "__builtins__" = some (.ref m) ∧ m ≠ builtinsNs ∧ s.heap.get? m = some o ∧ o.cls = .type "module" ∧ o.dict = some builtinsNs ∧ o.data = .plain)
    (script : s.heap.get? a = some { cls := .type "list", data := .seq items.toArray }) (are : IntsAre items ns) (few : ns.length ≤ sizeLine)
    (F : ∀ base : Heap, K.In base → base.Ns mainGlobals mg → (∀ p ∈ cs, LamX.TabB base mg p.1 p.2) → Outer P w K mg base (L2N.CX P w) fa fd [x] sp) (binds : ∀ (s : Shared) (u : Value), BindsTo s fd ⟨[u], []⟩ [(x, u)])
    (want : ∀ H : Hp, (∀ p ∈ cs, H p.2 = some (.tbl #[])) → SqL K H a (ns.map V.int) → sp [.ref a] H (fun v _ => v = .bl true) fun _ _ _ => False) :
    codeAny (model P w) callerA (.call (.ref fa) ⟨[.ref a], []⟩) (fun r s' => r = .ok (.ret (.bool true)) ∧ OldK s.heap s'.heap ∧ s'.os = s.os ∧ AllBare s'.gens) s := by
  have num : items.length = ns.length := are.length
  have bl : ∀ b ∈ cs.map (·.2), s.heap.get? b = some { cls := .none, data := .fields #[] } := fun b hb => by
    rcases List.mem_map.mp hb with ⟨p, hp, rfl⟩
    exact blank p hp
  have inT : ∀ {p : Addr × Addr}, p ∈ cs → p.2 ∈ cs.map (·.2) := fun hp => List.mem_map.mpr ⟨_, hp, rfl⟩
  have scriptT : a ∉ cs.map (·.2) := fun z => by
    have := bl a z
    rw [script] at this
    cases this
  let H : Hp := hp0 K (cs.map (·.2)) a items.toArray ns
  have not_ : ∀ {b : Addr} {o : Obj}, s.heap.get? b = some o → o.data ≠ .fields #[] → (∀ its n, o.data ≠ .seq its n) → H b = none := fun e n1 n2 => hp0_else bl script e n1 n2
  -- the heap behind what is tracked
  have ofB : ∀ {b : Addr} {o : Obj}, s.heap.get? b = some o → H b = none → (hidT s.heap H).get? b = some o := fun e n => hidT_get e n
  have nsB : ∀ {b : Addr} {m : Str → Option Value}, s.heap.Ns b m → (hidT s.heap H).Ns b m := fun {b m} ⟨o, es, n, e, hd, r⟩ =>
    ⟨o, es, n, ofB e (not_ e (fun z => by rw [hd] at z; cases z) (fun its k z => by rw [hd] at z; cases z)), hd, r⟩
  have kinB : K.In (hidT s.heap H) := fun b o e => ofB (kin b o e) <| by
    rcases hp0_cases (K := K) (ts := cs.map (·.2)) (a := a) (items := items.toArray) (ns := ns) b with ⟨h, _⟩ | ⟨h, hk, _⟩ | h
    · rcases List.mem_map.mp h with ⟨p, hp, rfl⟩
      rw [apart p hp] at e
      cases e
    · rw [h, hk] at e
      cases e
    · exact h
  have modB : L2.Mod K mg (hidT s.heap H) := ⟨kinB, nsB glob, ⟨mb, nsB blt, same⟩, by
    obtain ⟨m, h1, h2⟩ := nolim
    exact ⟨m, nsB h1, h2⟩⟩
  have tabB : ∀ p ∈ cs, LamX.TabB (hidT s.heap H) mg p.1 p.2 := fun p hp => by
    refine ⟨?_, ?_, fun z => ?_⟩
    · obtain ⟨o, fs, file, tf, fl, tg, inF, tx, tt, e1, ec, e2, e3, rest⟩ := heads p hp
      refine ⟨o, fs, file, tf, fl, tg, inF, tx, tt, ofB e1 (not_ e1 (fun z => ?_) fun its k z => ?_), ec, e2, e3, rest⟩
      · have := e2.symm.trans z
        cases this
        simp at e3
      · exact nomatch e2.symm.trans z
    · obtain ⟨m, o, b1, b2, b3, b4, b5, b6⟩ := bmod
      refine ⟨m, o, b1, b2, fun z => ?_, fun z => ?_, ofB b3 (not_ b3 (fun z => ?_) fun its k z => ?_), b4, b5, b6⟩
      · obtain ⟨og, es, n, e, hd, _⟩ := glob
        rw [← z, b3] at e
        cases e
        exact nomatch b6.symm.trans hd
      · rw [z, blank p hp] at b3
        cases b3
        cases b6
      · exact nomatch b6.symm.trans z
      · exact nomatch b6.symm.trans z
    · obtain ⟨og, es, n, e, hd, _⟩ := glob
      rw [z, blank p hp] at e
      cases e
      cases hd
  have hok : HOk P w H s.heap := fun b u z => by
    rcases hp0_cases (K := K) (ts := cs.map (·.2)) (a := a) (items := items.toArray) (ns := ns) b with ⟨h, e⟩ | ⟨h, _, e⟩ | e
    · cases e.symm.trans z
      exact bl b h
    · cases e.symm.trans z
      rw [h]
      exact ⟨script, by rw [List.length_map]; exact few, items, _, vals_ints are, script⟩
    · exact nomatch e.symm.trans z
  have seqA : SqL K H a (ns.map V.int) := by
    cases e : K.lookup a with
    | none => exact .inl (.inr ⟨{ cls := .type "list", data := .seq items.toArray }, by
        show hp0 K _ a _ ns a = _
        unfold hp0
        rw [if_neg scriptT, if_pos ⟨rfl, by rw [e]; rfl⟩]⟩)
    | some o =>
      have e2 := kin a o e
      rw [script] at e2
      cases e2
      exact .inr ⟨_, items.toArray, _, e, rfl, rfl, rfl, by rw [List.size_toArray, num]; exact few, by simpa using vals_ints are⟩
  have env : Env0 P w K mg (hidT s.heap H) callerA [] s H := ⟨rfl, modB, fun b o e => of_hidT e, Nat.le_of_eq (hidT_size _ _), trivial, (fun b hb => nomatch hb), hok, .of_eq nogen⟩
  refine codeAny_mono ((F _ kinB (nsB glob) tabB).go s H ⟨[.ref a], []⟩ [.ref a] [.ref a] _ _ env (binds s (.ref a)) (.cons rfl .nil) (want H (fun p hp => hp0_tab (inT hp)) seqA)) fun r s' h => ?_
  match r, h with
  | .error e, h => exact (no_cx h).elim
  | .ok .next, h => exact (show False from h).elim
  | .ok .brk, h => exact (show False from h).elim
  | .ok .cont, h => exact (show False from h).elim
  | .ok (.ret u), ⟨v, H', os, bare, un, hok', rv, q⟩ =>
    have q : v = .bl true := q
    subst q
    obtain rfl : u = Value.bool true := rv
    have keep : ∀ b o, b ∉ cs.map (·.2) → s.heap.get? b = some o → s'.heap.get? b = some o := fun b o nb e => by
      rcases hp0_cases (K := K) (ts := cs.map (·.2)) (a := a) (items := items.toArray) (ns := ns) b with ⟨h, _⟩ | ⟨_, _, z⟩ | z
      · exact absurd h nb
      · obtain ⟨e1, _⟩ := hok b _ z
        obtain ⟨e2, _⟩ := hok' b _ (un.frzs b _ _ z)
        cases e.symm.trans e1
        exact e2
      · exact un.keep b o e z (fun z => nomatch z) (fun z => nomatch z)
    have more : ∀ p ∈ cs, ∃ vs : Array Value, s'.heap.get? p.2 = some { cls := .none, data := .fields vs } := fun p hp => by
      obtain ⟨vs, z⟩ := un.tbls p.2 #[] (hp0_tab (inT hp))
      exact ⟨_, hok' p.2 _ z⟩
    refine ⟨rfl, ⟨fun b o e => ?_, fun b o e => ?_⟩, os, bare⟩
    · by_cases hb : b ∈ cs.map (·.2)
      · rcases List.mem_map.mp hb with ⟨p, hp, rfl⟩
        obtain ⟨vs, hv⟩ := more p hp
        cases e.symm.trans (blank p hp)
        exact .inr (.inl ⟨((heads p hp).tab (blank p hp)).isCodeTable, rfl, #[], vs, rfl, by rw [Array.empty_append]; exact hv⟩)
      · exact .inl (keep b o hb e)
    · by_cases hb : b ∈ cs.map (·.2)
      · rcases List.mem_map.mp hb with ⟨p, hp, rfl⟩
        obtain ⟨vs, hv⟩ := more p hp
        exact ⟨_, hv⟩
      · exact ⟨o, keep b o hb e⟩
/-- what is known of the law's def at the head's heap -/
def LawO (l : PySem.W.OpenLaw) (w : World) (K : PySem.W.Frag) (n : Nat) (x : Str) (mg : Str → Option Value) (fa : Addr) (h : Heap) : Prop :=
  ∃ (fd : FuncData) (cs : List (Addr × Addr)), (∀ p ∈ cs, h.get? p.2 = some { cls := .none, data := .fields #[] }) ∧ (∀ p ∈ cs, K.lookup p.2 = none) ∧ (∀ p ∈ cs, PySem.W.CodeHd h p.1 p.2) ∧
    (∀ (s : Shared) (u : Value), BindsTo s fd ⟨[u], []⟩ [(x, u)]) ∧ n ≤ 63 ∧
    ∀ base : Heap, K.In base → base.Ns mainGlobals mg → (∀ p ∈ cs, LamX.TabB base mg p.1 p.2) → Outer l.prog w K mg base (L2N.CX l.prog w) fa fd [x] (spOf K (cs.map (·.2)) spLaw)
theorem walk_outer {l : PySem.W.OpenLaw} {n : Nat} {q : Program} {loose : List Str} {XP : (Str → Option Value) → Heap → Prop} {YP : World → Heap → Prop} {d : DefRec} {x : Str} (hn : l.most = some n) (hdf : d.params.defaults = [])
    (F : ∀ (w : World) (mg : Str → Option Value) (fa : Addr) (h : Heap), YP w h → h.Ns mainGlobals mg → mg d.name = some (.ref fa) → ∃ K : PySem.W.Frag, K.In h ∧ LawO l w K n x mg fa h) :
    PySem.W.WalkO q loose XP YP l.row.toRowW d [] (fun f vs => PySem.call f vs) := by
  refine Att.attach_callB hn hdf ?_
  intro w s0 s mg mb fa o pm cd doc a items ns G Y _ _ _ named script are few bits nogen
  obtain ⟨K, kin, fd, cs, blank, apart, heads, binds, n63, go⟩ := F w mg fa _ Y G.T.g named
  have n63' : ns.length ≤ 63 := Nat.le_trans few n63
  refine outer_call kin G.T.g G.T.b G.T.builtins G.T.nolimit nogen blank apart heads G.T.bmain script are (Nat.le_trans n63' (by decide)) go binds fun H hH hS => ?_
  have ev : vis (fun _ => none) [] H = H := by
    funext b
    unfold vis
    rw [if_neg]
    rintro (z | z) <;> cases z
  refine ⟨fun _ => none, [], [.seq (ns.map PyData.int)], ⟨(fun _ _ e => nomatch e), Mono.refl _, fun t ht => ?_, (fun p hp => nomatch hp), List.nodup_nil⟩, .cons ⟨a, _, rfl, by rw [ev]; exact hS, DqAll.ints ns⟩ .nil,
    fun r _ => r = .d (.bool true), fun _ _ => False, ⟨ns, n63', bits, rfl, rfl, fun _ => rfl⟩, fun r θ' e v H' _ d => ?_, fun xd θ' e => e.elim⟩
  · rcases List.mem_map.mp ht with ⟨p, hp, rfl⟩
    exact ⟨⟨#[], hH p hp, triples_nil⟩, rfl⟩
  · subst e
    cases d
    rfl
end TlD
set_option Elab.async false
set_option linter.all false
set_option maxRecDepth 100000
set_option maxHeartbeats 4000000
/-! sets of the items of a tuple that are tuples of ints; sorted ones -/
namespace TlS
open PySem PySem.Spec PyProof.Rows L2 PySem.Froz
section
variable {P : Program} {w : World} {A : Around} {E : Value → Shared → Prop} {s : Shared}
set_option maxHeartbeats 8000000 in
theorem call_set_tt {l : Addr} {its : Array Value} (ks : List (Addr × List Int)) {Q : Value → Shared → Prop} (hh : A.handled = none) (tup : s.heap.IsTuple l its) (are : its.toList = ks.map fun p => Value.ref p.1)
    (isI : ∀ p ∈ ks, IsT P w s.heap p.2 p.1) (few : ks.length < 64) (hu : A.units + 3 < cLine)
    (h : ∀ (h' : Heap) (tk : Nat) L es ep t, SetTR P w h' s.heap.objs.size L es ep t → Got ks ks.length L → (∀ b o, s.heap.get? b = some o → h'.get? b = some o) → Q (.ref s.heap.objs.size) { s with heap := h', toks := tk }) :
    wpAny (model P w) A (call (.type "set") [.ref l]) Q E s := by
  have len : its.size = ks.length := by
    have := congrArg List.length are
    rwa [Array.length_toList, List.length_map] at this
  obtain ⟨c0, tl0, hmro⟩ := F.called_set.mro
  have hmade := F.called_set.made
  have hsub := F.called_set.sub
  have h1 := F.called_set.notType
  have h2 := F.called_set.canCreate
  have hct := F.typeCall_set_1 (.ref l)
  refine wpAny_call (codeAny_of_tree (show wpAny _ _ (callAny (.type "set") _) _ _ _ from wpAny_pure ⟨Code.quiet_builtin _ (by decide +kernel), codeAny_builtin F.entry_type_call ?_⟩))
  rw [Around.under_plain (weight_type_call_type "set" [.ref l] []) rfl]
  repeat (any_goals (first | assumption | wp_step))
  refine codeAny_mono (code_set_led1 (.ref l) (E := E) (Q₁ := fun obj s₁ => obj = .ref s.heap.objs.size ∧ s₁ = { s with heap := s.heap.push (freshSet w) }) ⟨rfl, rfl⟩) fun r s₁ hr => ?_
  cases r with
  | error e => exact hr
  | ok fl =>
    cases fl with
    | ret obj =>
      obtain ⟨rfl, rfl⟩ := hr
      have hS : (s.heap.push (freshSet w)).get? s.heap.objs.size = some (freshSet w) := Heap.get?_push_size _ rfl
      have hT : Shared.TypeIs { s with heap := s.heap.push (freshSet w) } (.ref s.heap.objs.size) "set" := ⟨_, hS, rfl⟩
      have hli := F.called_set.init.lookup
      have hbi := F.called_set.init.bind (.ref s.heap.objs.size)
      repeat (any_goals (first | assumption | wp_step))
      refine codeAny_mono (codeAny_call_builtin (R := wants (fun r s₂ => r = .none ∧ ∃ h' tk L es ep t, s₂ = { s with heap := h', toks := tk } ∧ SetTR P w h' s.heap.objs.size L es ep t ∧ Got ks ks.length L ∧
          (∀ b o, s.heap.get? b = some o → h'.get? b = some o)) E) F.called_set.init.plain F.entry_set_init (check_set_init_1 hT ?_)) fun r₂ s₂ hr₂ => ?_
      · obtain ⟨⟨ocls, odict, odata, oslots⟩, hol, hcl, nl, hdl⟩ := tup
        simp only at hcl hdl
        subst hcl hdl
        have at1 : (s.heap.push (freshSet w)).get? l = some { cls := .type "tuple", dict := odict, data := .seq its nl, slots := oslots } := Heap.get?_push_of_some _ hol
        have tup1 : (s.heap.push (freshSet w)).IsTuple l its := ⟨_, at1, rfl, nl, rfl⟩
        have n1 := F.sub_tuple_set
        have n2 := F.sub_tuple_frozenset
        have n3 : (Value.type "tuple" == Value.type "dict") = false := by decide
        unfold Builtin.«set.__init__» noKeywords Builtin.Frozenset.updateFrom
        generalize hPI : pyIter = PI
        wp_walk
        subst hPI
        refine wpAny_pyIter_tuple tup1 ?_
        refine wpAny_bind (wpAny_runValue ?_)
        have lt : l < s.heap.objs.size := Heap.lt_size hol
        have hz : (s.heap.push (freshSet w)).objs.size = s.heap.objs.size + 1 := Heap.size_push ..
        have hh3 : A.in1.in1.in1.handled = none := by simp [hh]
        have ne : l ≠ (s.heap.push (freshSet w)).objs.size := by
          rw [hz]
          exact Nat.ne_of_lt (Nat.lt_succ_of_lt lt)
        have out : s.heap.objs.size ∉ [(s.heap.push (freshSet w)).objs.size, l] := by
          rw [hz]
          intro z
          rcases List.mem_cons.mp z with z | z
          · exact Nat.ne_of_lt (Nat.lt_succ_self _) z
          · exact Nat.ne_of_gt lt (List.mem_singleton.mp z)
        have val : ∀ (i : Nat) (v : Value), its[i]? = some v → ∃ p, ks[i]? = some p ∧ v = .ref p.1 := fun i v e => by
          rw [← Array.getElem?_toList, are, List.getElem?_map] at e
          cases q : ks[i]? with
          | none =>
            rw [q] at e
            cases e
          | some p =>
            rw [q] at e
            cases e
            exact ⟨p, rfl, rfl⟩
        have gone : ∀ b, s.heap.objs.size ≤ b → s.heap.get? b = none := fun b hb => by
          cases q : s.heap.get? b with
          | none => rfl
          | some o => exact absurd (Heap.lt_size q) (Nat.not_lt.mpr hb)
        refine set_update_tups ((Walks.tuple hh3 _ l ne its).toS) s.heap.objs.size out ks len few val s.heap isI (gone _ (Nat.le_refl _)) (fun b hb => gone b (by
            rw [List.mem_singleton.mp hb, hz]
            exact Nat.le_succ _)) hu (its.size - 0) 0 _ (by omega) (Nat.zero_le _) ⟨⟨_, Heap.get?_push_size _ rfl, rfl, rfl⟩, (tup1.push _)⟩ (fun b o e => Heap.get?_push_of_some _ (Heap.get?_push_of_some _ e))
          ⟨[], #[], 0, _, setTR_fresh (Heap.get?_push_of_some _ hS), Got.zero ks⟩ ?_
        intro s' L es ep t mv R got keep
        obtain ⟨h', g', d', tk', os'⟩ := s'
        have eg : g' = s.gens := mv.gens
        have ed : d' = s.drawn := mv.drawn
        have eo : os' = s.os := mv.os
        subst eg ed eo
        show wpAny _ _ _ _ _ _
        refine wpAny_pure ?_
        show wpAny _ _ (ret Value.none) _ _ _
        rw [len] at got
        exact wpAny_pure ⟨rfl, h', tk', L, es, ep, t, rfl, R, got, keep⟩
      · cases r₂ with
        | error e => exact hr₂
        | ok fl₂ =>
          cases fl₂ with
          | ret r =>
            obtain ⟨rfl, h', tk, L, es, ep, t, rfl, R, got, keep⟩ := hr₂
            repeat (any_goals (first | assumption | wp_step))
            exact h _ _ _ _ _ _ R got keep
          | _ => exact hr₂.elim
    | _ => exact hr.elim
end
end TlS
set_option Elab.async false
set_option linter.all false
set_option maxRecDepth 100000
set_option maxHeartbeats 4000000
namespace TlD
open PySem PySem.Spec PyProof.Rows L2 GxR TlG
/-! zip of two of which each is a text or a tuple -/
inductive Sr | txt (x : Str) | tup (a : Addr) (n : Nat)
def Sr.len : Sr → Nat
  | .txt x => x.cps.size
  | .tup _ n => n
def Sr.is (K : PySem.W.Frag) (H : Hp) : Sr → List V → Prop
  | .txt x, vs => vs = x.cps.toList.map fun k => .str ⟨#[k]⟩
  | .tup a n, vs => SqT K H a vs ∧ vs.length = n
def Sr.of : Sr → V → Prop
  | .txt x, v => v = .str x
  | .tup a _, v => v = .ref a
def Sr.stt (it : Addr) (i : Nat) (h : Heap) : Sr → Prop
  | .txt x => ∃ t, h.IsStrIter it (strIterType x) x t i ∧ i ≤ x.cps.size
  | .tup a n => h.IsTupleIter it a i ∧ i ≤ n
def Sr.off : Sr → Addr → Prop
  | .txt _, _ => True
  | .tup a _, c => a ≠ c
theorem Sr.is_len {K : PySem.W.Frag} {H : Hp} {p : Sr} {vs : List V} (h : p.is K H vs) : vs.length = p.len := by
  cases p with
  | txt x =>
    have h : vs = _ := h
    subst h
    simp [Sr.len]
  | tup a n => exact h.2
theorem Sr.obj {p : Sr} {it : Addr} {i : Nat} {h : Heap} (s : p.stt it i h) : ∃ o, h.get? it = some o ∧ ∀ v, o.data ≠ .cell v := by
  cases p with
  | txt x =>
    obtain ⟨t, ⟨o, e, _, d⟩, _⟩ := s
    exact ⟨o, e, fun v q => by rw [d] at q; cases q⟩
  | tup a n =>
    obtain ⟨⟨o, e, _, d⟩, _⟩ := s
    exact ⟨o, e, fun v q => by rw [d] at q; cases q⟩
theorem Sr.at_ {p : Sr} {it : Addr} {i : Nat} {h h' : Heap} (s : p.stt it i h) (k : ∀ o, h.get? it = some o → h'.get? it = some o) : p.stt it i h' := by
  cases p with
  | txt x =>
    obtain ⟨t, ⟨o, e, r⟩, l⟩ := s
    exact ⟨t, ⟨o, k o e, r⟩, l⟩
  | tup a n => exact ⟨s.1.at k, s.2⟩
/-- the iterator of a text or of a tuple, drawn from -/
theorem Sr.draws {X : Cx} {pins : List (Addr × Obj)} {σ : L2.St} {H : Hp} {s : Shared} (I : Inv X pins σ H s) (hh : X.A.in1.handled = none) {p : Sr} {it : Addr} {i : Nat} {vs : List V} (h : p.is X.K H vs) (st : p.stt it i s.heap) (off : p.off it) :
    ∃ (fp : List Addr) (P : Nat → Value → Prop) (St : Nat → Heap → Prop), Draws X.prog X.w X.A.in1 it fp p.len P St ∧ St i s.heap ∧ (∀ j h, j ≤ p.len → St j h → p.stt it j h) ∧
      (∀ j v x, P j v → vs[j]? = some x → RelV x v) ∧ it ∈ fp ∧ i ≤ p.len ∧ ∀ c, p.off c → c ≠ it → c ∉ fp := by
  cases p with
  | txt x =>
    obtain ⟨t, s1, l⟩ := st
    have h : vs = _ := h
    subst h
    refine ⟨_, _, _, Draws.text hh it x t, s1, fun j h hj q => ⟨t, q, hj⟩, fun j v y hP hy => ?_, by simp, l, fun c _ hc => by simpa using hc⟩
    obtain ⟨c, u, hc, rfl⟩ := hP
    rw [List.getElem?_map] at hy
    have e : x.cps.toList[j]? = some c := by rw [Array.getElem?_toList]; exact hc
    rw [e] at hy
    cases hy
    exact ⟨u, rfl⟩
  | tup a n =>
    obtain ⟨hq, hn⟩ := h
    obtain ⟨s1, l⟩ := st
    obtain ⟨its, rv, pt, _⟩ := I.tuple hq
    have e : its.toArray.size = n := by
      rw [List.size_toArray, ← rv.length, hn]
    subst e
    refine ⟨_, _, _, Draws.tuple hh it a off its.toArray, ⟨s1, pt⟩, fun j h hj q => ⟨q.1, hj⟩, fun j v y hP hy => ?_, by simp, l, fun c hc hi => ?_⟩
    · obtain ⟨u, hu, ru⟩ := rv.get hy
      have hP : its.toArray[j]? = some v := hP
      rw [show its.toArray[j]? = its[j]? from by simp, hu] at hP
      cases hP
      exact ru
    · have hc : a ≠ c := hc
      simp only [List.mem_cons, List.not_mem_nil, or_false, not_or]
      exact ⟨hi, fun q => hc q.symm⟩
def ItzS (K : PySem.W.Frag) (p q : Sr) : It :=
  ⟨fun i H => ∃ (xs ys : List V) (x y : V), p.is K H xs ∧ q.is K H ys ∧ xs[i]? = some x ∧ ys[i]? = some y,
    fun i H v H' => ∃ T x y, v = .ref T ∧ H T = none ∧ H' = upd H T (.tup [x, y]) ∧ (∀ xs, p.is K H xs → xs[i]? = some x) ∧ ∀ ys, q.is K H ys → ys[i]? = some y,
    fun i H => ∃ xs ys : List V, p.is K H xs ∧ q.is K H ys ∧ (xs.length ≤ i ∨ ys.length ≤ i)⟩
theorem Sr.inj {X : Cx} {pins : List (Addr × Obj)} {σ : L2.St} {H : Hp} {s : Shared} (I : Inv X pins σ H s) {p : Sr} {xs ys : List V} (h1 : p.is X.K H xs) (h2 : p.is X.K H ys) : xs = ys := by
  cases p with
  | txt x =>
    have h1 : xs = _ := h1
    have h2 : ys = _ := h2
    rw [h1, h2]
  | tup a n => exact I.tuple_inj h1.1 h2.1
structure ZSep (z TI TO i1 i2 : Addr) (p q : Sr) : Prop where
  TIz : TI ≠ z
  TOz : TO ≠ z
  i1z : i1 ≠ z
  i2z : i2 ≠ z
  TITO : TI ≠ TO
  TIi1 : TI ≠ i1
  TIi2 : TI ≠ i2
  TOi1 : TO ≠ i1
  TOi2 : TO ≠ i2
  i12 : i1 ≠ i2
  o1 : ∀ c, c = z ∨ c = TO ∨ c = i1 ∨ c = i2 → p.off c
  o2 : ∀ c, c = z ∨ c = TO ∨ c = i1 ∨ c = i2 → q.off c
theorem turn_zipS {P : Program} {w : World} {K : PySem.W.Frag} {elts : List Expr} {kk : Nat} {tpos : Pos} {z TI TO i1 i2 : Addr} {p q : Sr} (D : ZSep z TI TO i1 i2 p q) :
    Turn P w K (.Tuple elts kk tpos) (ItzS K p q) [z, TI, TO, i1, i2] z (fun i h => IsZip h z TI TO .none ∧ IsTupOf2 h TI (.ref i1) (.ref i2) ∧ (∃ x y, IsTupOf2 h TO x y) ∧ p.stt i1 i h ∧ q.stt i2 i h) where
  mem := by simp
  obj := fun i h st c hc => by
    obtain ⟨hz, hTI, ⟨x, y, hTO⟩, s1, s2⟩ := st
    have e' : c = z ∨ c = TI ∨ c = TO ∨ c = i1 ∨ c = i2 := by simpa using hc
    rcases e' with q | q | q | q | q
    · rw [q]; exact ⟨_, hz, fun v q => nomatch q⟩
    · rw [q]; exact ⟨_, hTI, fun v q => nomatch q⟩
    · rw [q]; exact ⟨_, hTO, fun v q => nomatch q⟩
    · rw [q]; exact Sr.obj s1
    · rw [q]; exact Sr.obj s2
  keep := fun i h h' st k => by
    obtain ⟨hz, hTI, ⟨x, y, hTO⟩, h1, h2⟩ := st
    exact ⟨k z (by simp) _ hz, k TI (by simp) _ hTI, ⟨x, y, k TO (by simp) _ hTO⟩, Sr.at_ h1 fun o q => k i1 (by simp) o q, Sr.at_ h2 fun o q => k i2 (by simp) o q⟩
  item := by
    intro X hP hw hK hc i pins s σ H E I hf st hg
    subst hP hw hK
    obtain ⟨hz, hTI, ⟨x0, y0, hTO⟩, h1, h2⟩ := st
    obtain ⟨xs, ys, x, y, hqx, hqy, hx, hy⟩ := hg
    have hh : X.A.in1.handled = none := I.ok.hd hc
    obtain ⟨f1, P1, S1, D1, t1, b1, r1, m1, l1, n1⟩ := Sr.draws I hh hqx h1 (D.o1 _ (.inr (.inr (.inl rfl))))
    obtain ⟨f2, P2, S2, D2, t2, b2, r2, m2, l2, n2⟩ := Sr.draws I hh hqy h2 (D.o2 _ (.inr (.inr (.inr rfl))))
    have g1 : i < p.len := by
      rw [← Sr.is_len hqx]
      exact (List.getElem?_eq_some_iff.mp hx).1
    have g2 : i < q.len := by
      rw [← Sr.is_len hqy]
      exact (List.getElem?_eq_some_iff.mp hy).1
    have hzl : z < s.heap.objs.size := Heap.lt_size hz
    have S : ZipSep2 z TI TO i1 i2 f1 f2 := ⟨D.TIz, D.TOz, D.TITO, D.TIi1, m1, n1 z (D.o1 z (.inl rfl)) D.i1z.symm, n1 TO (D.o1 TO (.inr (.inl rfl))) D.TOi1, D.TIi2, m2, n2 z (D.o2 z (.inl rfl)) D.i2z.symm, n2 TO (D.o2 TO (.inr (.inl rfl))) D.TOi2, n2 i1 (D.o2 i1 (.inr (.inr (.inl rfl)))) D.i12, n1 i2 (D.o1 i2 (.inr (.inr (.inr rfl)))) D.i12.symm⟩
    refine wpAny_pyNext_zipD2_item S D1 D2 hz hTI hTO t1 t2 g1 g2 fun u u2 h' tk hu hu2 z' TO' h1' h2' hT hsz hk => ?_
    refine ⟨_, rfl, wpAny_letOwnedTupleGo_zip (s := { s with heap := h', toks := tk }) z' fun h'' z'' sb => ?_⟩
    have hT2 : h''.get? s.heap.objs.size = some { cls := .type "tuple", data := .seq #[u, u2] } := (sb.2 _ (Nat.ne_of_gt hzl)).trans hT
    have new : ObjOk X.prog X.w (upd H s.heap.objs.size (.tup [x, y])) h'' s.heap.objs.size (.tup [x, y]) :=
      ⟨by show 2 ≤ sizeLine; decide, [u, u2], .cons (r1 i u x hu hx) (.cons (r2 i u2 y hu2 hy) .nil), ⟨_, hT2, rfl, _, rfl⟩⟩
    have I1 : Inv X pins σ (upd H s.heap.objs.size (.tup [x, y])) { s with heap := h'', toks := tk } :=
      I.turnedNew (t' := tk) (ch := [z, TI, TO, i1, i2]) (fun c o hb q => (sb.2 c (fun q' => hb (by simp [q']))).trans (hk c o (fun q' => hb (by simp [q'])) (fun q' => hb (by simp [q'])) (fun q' => hb (by simp [q'])) (fun q' => hb (by simp [q'])) q)) hf (Nat.le_refl _) new
    have k1 : p.stt i1 (i + 1) h' := b1 _ _ g1 h1'
    have k2 : q.stt i2 (i + 1) h' := b2 _ _ g2 h2'
    refine ⟨.ref s.heap.objs.size, _, I1, rfl, ⟨_, x, y, rfl, I.hok.fresh (Nat.le_refl _), rfl, fun l hl => by rw [Sr.inj I hl hqx]; exact hx, fun l hl => by rw [Sr.inj I hl hqy]; exact hy⟩, ⟨z'', ?_, ⟨u, u2, ?_⟩, ?_, ?_⟩, fun c hcm => ?_⟩
    · exact (sb.2 _ D.TIz).trans (hk _ _ D.TIz D.TITO D.TIi1 D.TIi2 hTI)
    · exact (sb.2 _ D.TOz).trans TO'
    · exact Sr.at_ k1 fun o q => (sb.2 _ D.i1z).trans q
    · exact Sr.at_ k2 fun o q => (sb.2 _ D.i2z).trans q
    · have hlt : c < s.heap.objs.size := by
        have e' : c = z ∨ c = TI ∨ c = TO ∨ c = i1 ∨ c = i2 := by simpa using hcm
        rcases e' with q | q | q | q | q
        · rw [q]; exact hzl
        · rw [q]; exact Heap.lt_size hTI
        · rw [q]; exact Heap.lt_size hTO
        · rw [q]; obtain ⟨_, e1, _⟩ := Sr.obj h1; exact Heap.lt_size e1
        · rw [q]; obtain ⟨_, e2, _⟩ := Sr.obj h2; exact Heap.lt_size e2
      rw [upd_ne (Nat.ne_of_lt hlt)]
      exact (hf c hcm).1
  done := by
    intro X hP hw hK hc i pins s σ H E I hf st hg
    subst hP hw hK
    obtain ⟨hz, hTI, ⟨x0, y0, hTO⟩, h1, h2⟩ := st
    obtain ⟨xs, ys, hqx, hqy, hend⟩ := hg
    have hh : X.A.in1.handled = none := I.ok.hd hc
    obtain ⟨f1, P1, S1, D1, t1, b1, r1, m1, l1, n1⟩ := Sr.draws I hh hqx h1 (D.o1 _ (.inr (.inr (.inl rfl))))
    obtain ⟨f2, P2, S2, D2, t2, b2, r2, m2, l2, n2⟩ := Sr.draws I hh hqy h2 (D.o2 _ (.inr (.inr (.inr rfl))))
    have S : ZipSep2 z TI TO i1 i2 f1 f2 := ⟨D.TIz, D.TOz, D.TITO, D.TIi1, m1, n1 z (D.o1 z (.inl rfl)) D.i1z.symm, n1 TO (D.o1 TO (.inr (.inl rfl))) D.TOi1, D.TIi2, m2, n2 z (D.o2 z (.inl rfl)) D.i2z.symm, n2 TO (D.o2 TO (.inr (.inl rfl))) D.TOi2, n2 i1 (D.o2 i1 (.inr (.inr (.inl rfl)))) D.i12, n1 i2 (D.o1 i2 (.inr (.inr (.inr rfl)))) D.i12.symm⟩
    have e1 := Sr.is_len hqx
    have e2 := Sr.is_len hqy
    exact wpAny_pyNext_zipD2_end S D1 D2 hz hTI hTO t1 t2 l1 l2 (by omega) fun h' tk hk => ⟨rfl, I.turnedL (t' := tk) (ch := [z, TI, TO, i1, i2]) (fun c o hb q =>
      hk c o (fun q' => hb (by simp [q'])) (fun q' => hb (by simp [q'])) (fun q' => hb (by simp [q'])) (fun q' => hb (by simp [q'])) q) hf⟩
  self := fun A i s Q E st h => wpAny_pyIter_zip st.1 h
def iZipS (K : PySem.W.Frag) (ta : TA) : TI := fun σ H R => ta σ H fun vs H1 => ∃ (a b : V) (p q : Sr) (xs ys : List V), vs = [a, b] ∧ p.of a ∧ q.of b ∧ p.is K H1 xs ∧ q.is K H1 ys ∧ R (ItzS K p q) H1
theorem Sr.begins {X : Cx} {pins : List (Addr × Obj)} {σ : L2.St} {H : Hp} {s : Shared} (I : Inv X pins σ H s) {p : Sr} {a : V} {u : Value} {xs : List V} (ho : p.of a) (hi : p.is X.K H xs) (r : RelV a u) :
    ∃ (o : Obj) (B : Heap → Prop), Begins u o B ∧ B s.heap ∧ (∀ c, s.heap.objs.size ≤ c → p.off c) ∧ ∀ h' it, h'.get? it = some o → p.stt it 0 h' := by
  cases p with
  | txt x =>
    have ho : a = .str x := ho
    subst ho
    obtain ⟨t, rfl⟩ := r
    exact ⟨_, _, begins_text x t, trivial, fun _ _ => trivial, fun h' it e => ⟨t, ⟨_, e, rfl, rfl⟩, Nat.zero_le _⟩⟩
  | tup b n =>
    have ho : a = .ref b := ho
    subst ho
    cases r
    obtain ⟨its, rv, pt, _⟩ := I.tuple hi.1
    obtain ⟨o1, ho1, _⟩ := id pt
    exact ⟨_, _, begins_tuple b its.toArray, pt, fun c hc => Nat.ne_of_lt (Nat.lt_of_lt_of_le (Heap.lt_size ho1) hc), fun h' it e => ⟨⟨_, e, rfl, rfl⟩, Nat.zero_le _⟩⟩
theorem pi_zipS {X : Cx} {e e2 : Expr} {ta : TA} {p pos tpos : Pos} {elts : List Expr} {kk : Nat} (hg : Gl X "zip") (hm : X.mg "zip" = none) (ha : PA X [e, e2] ta)
    (hs : starEach [e, e2] X.env = (false, eval e X.env) :: starEach [e2] X.env := by rfl) (hpl : (backTo pos (starEach [e2] X.env)).any (·.1) = false := by rfl) :
    PI X (.Tuple elts kk tpos) (.Call (.Name "zip" p) [e, e2] [] pos) (iZipS X.K ta) := by
  refine ⟨fun pins s σ H R I h => ?_⟩
  refine Call_ (ld_blt I hg hm PyProof.Rows.boot_zip (PyProof.Rows.callWith_type1 (thn (ha.run pos pins s σ H _ I h) fun us s1 ⟨vs, H1, I1, r1, q1⟩ => ?_) hs hpl))
  obtain ⟨a, b, p, q, xs, ys, ex, oa, ob, hqx, hqy, q1⟩ := q1
  subst ex
  cases r1 with
  | cons r rr =>
    cases rr with
    | cons r' rr =>
      cases rr
      have fresh5 : ∀ c, c ∈ [s1.heap.objs.size + 4, s1.heap.objs.size + 2, s1.heap.objs.size + 3, s1.heap.objs.size, s1.heap.objs.size + 1] → s1.heap.objs.size ≤ c := fun c hcm => by
        have e' : c = s1.heap.objs.size + 4 ∨ c = s1.heap.objs.size + 2 ∨ c = s1.heap.objs.size + 3 ∨ c = s1.heap.objs.size ∨ c = s1.heap.objs.size + 1 := by simpa using hcm
        rcases e' with z | z | z | z | z
        · rw [z]; exact Nat.le_add_right _ _
        · rw [z]; exact Nat.le_add_right _ _
        · rw [z]; exact Nat.le_add_right _ _
        · rw [z]; exact Nat.le_refl _
        · rw [z]; exact Nat.le_add_right _ _
      obtain ⟨o1, B1, g1, h1, n1, st1⟩ := Sr.begins I1 oa hqx r
      obtain ⟨o2, B2, g2, h2, n2, st2⟩ := Sr.begins I1 ob hqy r'
      refine zip_begins2 g1 g2 h1 h2 fun h' hz hTI hTO e1 e2 hsz hk => wpAny_pyIter_zip hz ?_
      have I2 : Inv X pins σ H1 { s1 with heap := h' } := I1.kept (t' := s1.toks) hk
      have D : ZSep (s1.heap.objs.size + 4) (s1.heap.objs.size + 2) (s1.heap.objs.size + 3) s1.heap.objs.size (s1.heap.objs.size + 1) p q := by
        have big : ∀ c, c = s1.heap.objs.size + 4 ∨ c = s1.heap.objs.size + 3 ∨ c = s1.heap.objs.size ∨ c = s1.heap.objs.size + 1 → s1.heap.objs.size ≤ c := fun c hc => by
          rcases hc with z | z | z | z
          · rw [z]; exact Nat.le_add_right _ _
          · rw [z]; exact Nat.le_add_right _ _
          · rw [z]; exact Nat.le_refl _
          · rw [z]; exact Nat.le_add_right _ _
        have A := PySem.W.ktu_apart s1.heap.objs.size 
        refine ⟨?_, ?_, ?_, ?_, ?_, ?_, ?_, ?_, ?_, ?_, fun c hc => n1 c (big c hc), fun c hc => n2 c (big c hc)⟩
        all_goals simp [Addr] <;> omega
      exact ⟨s1.heap.objs.size + 4, [s1.heap.objs.size + 4, s1.heap.objs.size + 2, s1.heap.objs.size + 3, s1.heap.objs.size, s1.heap.objs.size + 1], _, _, H1, rfl, I2, turn_zipS D, ⟨hz, hTI, ⟨_, _, hTO⟩, st1 _ _ e1, st2 _ _ e2⟩, fun c hcm => I1.fpOk (fresh5 c hcm) (I1.hok.fresh (fresh5 c hcm)), q1⟩
theorem Sr.mono {K : PySem.W.Frag} {F F' : Hp} (m : Mono F F') {p : Sr} {vs : List V} (h : p.is K F vs) : p.is K F' vs := by
  cases p with
  | txt x => exact h
  | tup a n => exact ⟨m.sqT h.1, h.2⟩
theorem Sr.up {K : PySem.W.Frag} {Zh H : Hp} {θ : Th} {p : Sr} {vs : List V} (h : p.is K (vis Zh θ H) vs) : p.is K H vs := Sr.mono vis_sub.mono h
/-- the items of a text, of a tuple -/
def srD : RV → Option (List D)
  | .d (.str x) => some (signsD x)
  | .d (.tuple xs) => some xs
  | _ => none
theorem sr_of {c : Cn} {Zh H : Hp} {θ : Th} {v : V} {r : RV} {ds : List D} (h : srD r = some ds) (d : DV c.K (vis Zh θ H) v r) : ∃ (p : Sr) (vs : List V), p.of v ∧ p.is c.K (vis Zh θ H) vs ∧ DqAll c.K (vis Zh θ H) vs ds := by
  unfold srD at h
  split at h
  · rename_i x
    cases h
    cases d
    refine ⟨.txt x, _, rfl, rfl, ?_⟩
    unfold signsD
    generalize x.cps.toList = cs
    induction cs with
    | nil => exact .nil
    | cons k cs ih => exact .cons (.str _) ih
  · cases h
    cases d with
    | tup hs hd => exact ⟨.tup _ _, _, rfl, ⟨hs, rfl⟩, hd⟩
  · cases h
section
variable {c : Cn} {X : Cx} {ta : TA}
theorem feed_zipS {F1 : Hp} {p q : Sr} {vs ws : List V} {xs ys : List D} (ha : p.is c.K F1 vs) (hb : q.is c.K F1 ws) (hx : DqAll c.K F1 vs xs) (hy : DqAll c.K F1 ws ys) : Feed c F1 (ItzS c.K p q) (zipD xs ys) where
  go := fun Zh i H θ hi h => by
    obtain ⟨x, y, e1, e2, _⟩ := zipD_get (List.getElem?_eq_getElem hi)
    obtain ⟨v, hv, _⟩ := hx.get e1
    obtain ⟨w, hw, _⟩ := hy.get e2
    exact ⟨vs, ws, v, w, Sr.up (Sr.mono h.old ha), Sr.up (Sr.mono h.old hb), hv, hw⟩
  yld := fun Zh i v H H' θ d hi h hz => by
    obtain ⟨x, y, e1, e2, rfl⟩ := zipD_get hi
    obtain ⟨T, v1, v2, rfl, nT, rfl, f1, f2⟩ := hz
    obtain ⟨v, hv, dv⟩ := hx.get e1
    obtain ⟨w, hw, dw⟩ := hy.get e2
    have q1 := f1 vs (Sr.up (Sr.mono h.old ha))
    have q2 := f2 ws (Sr.up (Sr.mono h.old hb))
    rw [hv] at q1
    rw [hw] at q2
    obtain rfl := Option.some.inj q1
    obtain rfl := Option.some.inj q2
    have m := (vis_upd_sub (Zh := Zh) (θ := θ) (o := .tup [v, w]) nT).mono
    exact ⟨h.new nT, m, Dq.tup (.inl (.inl (h.at nT))) (.cons (dp_mono (h.old.trans m) _ _ dv) (.cons (dp_mono (h.old.trans m) _ _ dw) .nil))⟩
  stop := fun Zh i H θ hi h => by
    rw [zipD_length] at hi
    refine ⟨vs, ws, Sr.up (Sr.mono h.old ha), Sr.up (Sr.mono h.old hb), ?_⟩
    rw [hx.length, hy.length]
    omega
def is2S (rs : List RV) (k : List D → Prop) : Prop := match rs with
  | [a, b] => match srD a, srD b with
    | some xs, some ys => k (zipD xs ys)
    | _, _ => False
  | _ => False
def dItZS (Ta : DTA) : DTI := fun Ex ρ θ Ψ => Ta Ex ρ θ fun rs θ1 => is2S rs fun ds => Ψ ds θ1
theorem di_zipS {a b : Expr} {Ta : DTA} {p pos tpos : Pos} {elts : List Expr} {kk : Nat} (hK : X.K = c.K) (hg : Gl X "zip") (hm : X.mg "zip" = none) (h : DA c X [a, b] ta Ta) (hs : starEach [a, b] X.env = (false, eval a X.env) :: starEach [b] X.env := by rfl) (hpl : (backTo pos (starEach [b] X.env)).any (·.1) = false := by rfl) :
    DI c X (.Tuple elts kk tpos) (.Call (.Name "zip" p) [a, b] [] pos) (iZipS c.K ta) (dItZS Ta) := by
  obtain ⟨p, s⟩ := h
  refine ⟨by rw [← hK]; exact pi_zipS hg hm p hs hpl, fun Zh F0 Ex L σ H ρ θ Ψ R S h k => s Zh F0 Ex L σ H ρ θ _ _ S h fun vs rs H1 θ1 S1 m1 d1 h1 => ?_⟩
  unfold is2S at h1
  split at h1
  · rename_i ra rb
    cases d1 with
    | cons d1 d2 =>
      cases d2 with
      | cons d2 d3 =>
        cases d3
        split at h1
        · rename_i xs ys ex ey
          obtain ⟨p1, vs1, o1, i1, q1⟩ := sr_of ex d1
          obtain ⟨p2, vs2, o2, i2, q2⟩ := sr_of ey d2
          exact ⟨_, _, p1, p2, vs1, vs2, rfl, o1, o2, Sr.up i1, Sr.up i2, k _ _ H1 θ1 S1 m1 (feed_zipS i1 i2 q1 q2) h1⟩
        · exact h1.elim
  · exact h1.elim
end
section
variable {c : Cn} {X : Cx}
/-- less, of numbers or of tuples of numbers -/
def fLtX : DOp := fun x y θ Φ => match x, y with
  | .d (.int i), .d (.int j) => Φ (.d (.bool (decide (i < j)))) θ
  | .d (.tuple xs), .d (.tuple ys) => match intsD xs, intsD ys with
    | some ns, some ms => Φ (.d (.bool (HT.lexLt ns ms))) θ
    | _, _ => False
  | _, _ => False
theorem op_ltX (hu : X.A.units < cLine) : OpR X (compareOp .Lt) (fun x y H Q => rI0 (fun i j => .bl (decide (i < j))) x y H Q ∨ rLtT X.K x y H Q) := OpR.or op_lt (op_ltT hu)
theorem sim_ltX (hK : X.K = c.K) : SimR c (fun x y H Q => rI0 (fun i j => .bl (decide (i < j))) x y H Q ∨ rLtT X.K x y H Q) fLtX := fun Zh F0 σ H ρ θ x y rx ry Φ Q S dx dy h k => by
  unfold fLtX at h
  split at h
  · cases dx
    cases dy
    exact .inl ⟨_, _, rfl, rfl, kB S k h⟩
  · exact .inr (sim_ltT hK Zh F0 σ H ρ θ x y _ _ Φ Q S dx dy h k)
  · exact h.elim
end
end TlD
set_option Elab.async false
set_option linter.all false
set_option maxRecDepth 100000
set_option maxHeartbeats 4000000
namespace TlD
open PySem PySem.Spec PyProof.Rows L2 GxR TlG
local macro_rules | `(tactic| walk_at "rd") => `(tactic| simp only [dSeq, dSet, dAsg, dSetIx, dDrop, dIfS, dFor, dRet, dRetN, dNext, dRaise, dVar, dC, dOp, dUn, dCall, dTest, dAnd, dOr, dNot, dAndV, dOrV, dNotV, dIf, dChain, dNil, dCons, dTup, dTup.allD, dLst, dLstO, dNewP, dNewO, dListC, dIsi, dFn0, dFn, dAll, dItT, dItL, dItS, dItR1, dItR2, dItZ, dItZS, dSl, oNone, oSome, gN, gT, gsNil, gsCons, dSortSet, dRevS, nth, put, startR, fAdd, fSub, fMul, fDiv, fMod, fLt, fLe, fGt, fGe, fLtT, fLtX, fEq, fNe, fIn, fIsN, fIsB, fLen, fIx, fSl, fTuple, fAbs, fMax, fMin, fDivmod, fStrI, dAppend, dPopAt, on2I, is1I, is2I, is2Z, on1, dat, asD, asB, asI, asS, onOwn, lenD, listD, ixD, List.length_cons, List.length_nil])

def isWhole : D → Bool
  | .int _ => true
  | _ => false
def sp_is_whole : DSp := fun rs θ Φ _ => match rs with
  | [.d d] => Φ (.d (.bool (isWhole d))) θ
  | _ => False

def T_is_whole : DTS := (dRet (dAndV (dIsi isIntD (dVar 0)) (dNotV (dIsi isBoolD (dVar 0)))))

theorem ln_is_whole : ∀ rs θ Φ Ex, sp_is_whole rs θ Φ Ex → rs.length = 1 := fun rs θ Φ Ex h => by
  unfold sp_is_whole at h
  split at h
  all_goals first
    | rfl
    | exact h.elim

theorem rd_is_whole : ∀ rs θ Φ Ex, sp_is_whole rs θ Φ Ex → T_is_whole { nx := fun _ θ' => Φ (.d .none) θ', rt := Φ, ex := fun xd _ θ' => Ex xd θ' } (startR 1 rs) θ := by
  intro rs θ Φ Ex h
  unfold sp_is_whole at h
  split at h
  · rename_i d
    unfold T_is_whole
    walk_at "rd"
    cases d <;> simpa [isIntD, isBoolD, isWhole] using h
  · exact h.elim

def isNum (d : D) (a b : Int) : Bool := match d with
  | .int i => decide (a ≤ i) && decide (i ≤ b)
  | _ => false
def sp_is_number : DSp := fun rs θ Φ _ => match rs with
  | [.d d, .d (.int a), .d (.int b)] => Φ (.d (.bool (isNum d a b))) θ
  | _ => False

def T_is_number : DTS := (dRet (dAndV (dFn0 sp_is_whole (dCons (dVar 0) dNil)) (dChain fLe fLe (dVar 1) (dVar 0) (dVar 2))))

theorem ln_is_number : ∀ rs θ Φ Ex, sp_is_number rs θ Φ Ex → rs.length = 3 := fun rs θ Φ Ex h => by
  unfold sp_is_number at h
  split at h
  all_goals first
    | rfl
    | exact h.elim

theorem rd_is_number : ∀ rs θ Φ Ex, sp_is_number rs θ Φ Ex → T_is_number { nx := fun _ θ' => Φ (.d .none) θ', rt := Φ, ex := fun xd _ θ' => Ex xd θ' } (startR 3 rs) θ := by
  intro rs θ Φ Ex h
  unfold sp_is_number at h
  split at h
  · rename_i d a b
    unfold T_is_number
    walk_at "rd"
    simp only [sp_is_whole, asB]
    cases d with
    | int i =>
      simp only [isWhole, if_true]
      simp only [isNum] at h
      by_cases c : a ≤ i
      · simpa [c] using h
      · simpa [c] using h
    | _ => simpa [isWhole, isNum] using h
  · exact h.elim

def isMany : D → Bool
  | .int i => decide (1 ≤ i) && decide (i ≤ 6)
  | _ => false
theorem num_many (d : D) : isNum d 1 6 = isMany d := by cases d <;> rfl
def sp_is_many : DSp := fun rs θ Φ _ => match rs with
  | [.d d] => Φ (.d (.bool (isMany d))) θ
  | _ => False

def T_is_many : DTS := (dRet (dFn0 sp_is_number (dCons (dVar 0) (dCons (dC (.int 1)) (dCons (dC (.int 6)) dNil)))))

theorem ln_is_many : ∀ rs θ Φ Ex, sp_is_many rs θ Φ Ex → rs.length = 1 := fun rs θ Φ Ex h => by
  unfold sp_is_many at h
  split at h
  all_goals first
    | rfl
    | exact h.elim

theorem rd_is_many : ∀ rs θ Φ Ex, sp_is_many rs θ Φ Ex → T_is_many { nx := fun _ θ' => Φ (.d .none) θ', rt := Φ, ex := fun xd _ θ' => Ex xd θ' } (startR 1 rs) θ := by
  intro rs θ Φ Ex h
  unfold sp_is_many at h
  split at h
  · rename_i d
    unfold T_is_many
    walk_at "rd"
    simp only [sp_is_number, num_many]
    exact h
  · exact h.elim

def isPlace (d : D) (m : Int) : Bool := match d with
  | .int i => decide (0 ≤ i) && decide (i < m)
  | _ => false
theorem num_place (d : D) (m : Int) : isNum d 0 (m - 1) = isPlace d m := by
  cases d with
  | int i =>
    show (decide (0 ≤ i) && decide (i ≤ m - 1)) = (decide (0 ≤ i) && decide (i < m))
    congr 1
    exact decide_eq_decide.mpr ⟨fun h => by omega, fun h => by omega⟩
  | _ => rfl
def sp_is_place : DSp := fun rs θ Φ _ => match rs with
  | [.d d, .d (.int m)] => Φ (.d (.bool (isPlace d m))) θ
  | _ => False

def T_is_place : DTS := (dRet (dFn0 sp_is_number (dCons (dVar 0) (dCons (dC (.int 0)) (dCons (dOp fSub (dVar 1) (dC (.int 1))) dNil)))))

theorem ln_is_place : ∀ rs θ Φ Ex, sp_is_place rs θ Φ Ex → rs.length = 2 := fun rs θ Φ Ex h => by
  unfold sp_is_place at h
  split at h
  all_goals first
    | rfl
    | exact h.elim

theorem rd_is_place : ∀ rs θ Φ Ex, sp_is_place rs θ Φ Ex → T_is_place { nx := fun _ θ' => Φ (.d .none) θ', rt := Φ, ex := fun xd _ θ' => Ex xd θ' } (startR 2 rs) θ := by
  intro rs θ Φ Ex h
  unfold sp_is_place at h
  split at h
  · rename_i d m
    unfold T_is_place
    walk_at "rd"
    simp only [sp_is_number, num_place]
    exact h
  · exact h.elim

def isTie (d : D) (m : Int) : Bool := match d with
  | .tuple [a, b] => isPlace a m && isPlace b m && (match a, b with
    | .int i, .int j => decide (i < j)
    | _, _ => false)
  | _ => false
def sp_is_tie : DSp := fun rs θ Φ _ => match rs with
  | [.d d, .d (.int m)] => Φ (.d (.bool (isTie d m))) θ
  | _ => False

def T_is_tie : DTS := (dSeq (dIfS (dOr (dNot (dTest (dIsi isTupD (dVar 0)))) (dTest (dOp fNe (dCall fLen (dCons (dVar 0) dNil)) (dC (.int 2))))) (dRet (dC (.bool false))) dNext) (dSeq (dAsg (dVar 0) (gT (gsCons (gN 2) (gsCons (gN 3) gsNil)))) (dRet (dAndV (dFn0 sp_is_place (dCons (dVar 2) (dCons (dVar 1) dNil))) (dAndV (dFn0 sp_is_place (dCons (dVar 3) (dCons (dVar 1) dNil))) (dOp fLt (dVar 2) (dVar 3)))))))

theorem ln_is_tie : ∀ rs θ Φ Ex, sp_is_tie rs θ Φ Ex → rs.length = 2 := fun rs θ Φ Ex h => by
  unfold sp_is_tie at h
  split at h
  all_goals first
    | rfl
    | exact h.elim

theorem rd_is_tie : ∀ rs θ Φ Ex, sp_is_tie rs θ Φ Ex → T_is_tie { nx := fun _ θ' => Φ (.d .none) θ', rt := Φ, ex := fun xd _ θ' => Ex xd θ' } (startR 4 rs) θ := by
  intro rs θ Φ Ex h
  unfold sp_is_tie at h
  split at h
  · rename_i d m
    unfold T_is_tie
    walk_at "rd"
    have no : ∀ (n : Nat), (PyData.eqv (.int (n : Int)) (.int 2)) = decide (n = 2) := fun n => by
      simp only [PyData.eqv]
      by_cases c : n = 2
      · subst c
        rfl
      · have : ((n : Int) == 2) = false := by
          simp
          omega
        rw [this]
        simp [c]
    cases d with
    | tuple ds =>
      simp only [isTupD, Bool.not_true, Bool.false_eq_true, if_false, sp_is_place, asB]
      refine ⟨eqOk_int _, eqOk_int _, ?_⟩
      match ds, h with
      | [], h => simpa [no, isTie, PyData.eqv] using h
      | [a], h => simpa [no, isTie, PyData.eqv] using h
      | [a, b], h =>
        simp only [List.length_cons, List.length_nil, no]
        cases a with
        | int i =>
          cases b with
          | int j =>
            simp only [isTie, isPlace] at h ⊢
            by_cases c1 : (0 ≤ i ∧ i < m)
            · by_cases c2 : (0 ≤ j ∧ j < m)
              · simpa [c1, c2] using h
              · have : (decide (0 ≤ j) && decide (j < m)) = false := by
                  rw [← Bool.decide_and]
                  exact decide_eq_false c2
                simpa [c1, this] using h
            · have : (decide (0 ≤ i) && decide (i < m)) = false := by
                rw [← Bool.decide_and]
                exact decide_eq_false c1
              simpa [this] using h
          | _ =>
            simp only [isTie, isPlace] at h ⊢
            by_cases c1 : (0 ≤ i ∧ i < m)
            · simpa [c1] using h
            · have : (decide (0 ≤ i) && decide (i < m)) = false := by
                rw [← Bool.decide_and]
                exact decide_eq_false c1
              simpa [this] using h
        | _ => simpa [isTie, isPlace] using h
      | a :: b :: e :: r, h =>
        have : decide ((a :: b :: e :: r).length = 2) = false := by simp
        rw [no, this]
        simpa [isTie] using h
    | _ => simpa [isTupD, isTie] using h
  · exact h.elim

theorem cutL_tail {α : Type} (xs : List α) : cutL xs (some 1) none = xs.tail := by
  unfold cutL
  have e : (some (1 : Int)) = some ((1 : Nat) : Int) := rfl
  rw [e, HT.sIx_nat, HT.sIx_none]
  cases xs with
  | nil => rfl
  | cons x t =>
    have : min 1 (x :: t).length = 1 := by
      rw [List.length_cons]
      omega
    rw [this]
    show (t.take ((x :: t).length - 1)) = t
    exact List.take_of_length_le (by simp)
def tieD (p : Int × Int) : D := .tuple [.int p.1, .int p.2]
def tiesOf : List D → Option (List (Int × Int))
  | [] => some []
  | .tuple [.int a, .int b] :: ds => (tiesOf ds).map ((a, b) :: ·)
  | _ :: _ => none
theorem tiesOf_eq : ∀ {ds : List D} {l : List (Int × Int)}, tiesOf ds = some l → ds = l.map tieD := by
  intro ds
  induction ds with
  | nil => intro l h; cases h; rfl
  | cons d ds ih =>
    intro l h
    unfold tiesOf at h
    split at h
    · rename_i e
      cases e
    · rename_i a b ds' e
      injection e with e1 e2
      subst e1 e2
      cases e3 : tiesOf ds with
      | none => rw [e3] at h; cases h
      | some l2 =>
        rw [e3] at h
        cases h
        rw [ih e3]
        rfl
    · cases h
theorem tiesOf_map (l : List (Int × Int)) : tiesOf (l.map tieD) = some l := by
  induction l with
  | nil => rfl
  | cons p l ih =>
    show (tiesOf (l.map tieD)).map ((p.1, p.2) :: ·) = _
    rw [ih]
    rfl
def ltP (p q : Int × Int) : Bool := HT.lexLt [p.1, p.2] [q.1, q.2]
def risingT : List (Int × Int) → Bool
  | [] => true
  | [_] => true
  | p :: q :: r => ltP p q && risingT (q :: r)
def numsD : List D → Option (List Int)
  | [] => some []
  | .int i :: ds => (numsD ds).map (i :: ·)
  | _ :: _ => none
theorem numsD_map : ∀ {ds : List D} {xs : List Int}, numsD ds = some xs → ds = xs.map PyData.int
  | [], xs, h => by
    cases h
    rfl
  | d :: ds, xs, h => by
    cases d with
    | int x =>
      have h : (numsD ds).map (x :: ·) = some xs := h
      cases e : numsD ds with
      | none =>
        rw [e] at h
        cases h
      | some ys =>
        rw [e] at h
        cases h
        rw [numsD_map e]
        rfl
    | _ => cases h
theorem numsD_ints : ∀ ns : List Int, numsD (ns.map PyData.int) = some ns
  | [] => rfl
  | n :: ns => by
    show (numsD (ns.map PyData.int)).map (n :: ·) = _
    rw [numsD_ints ns]
    rfl
def risingI : List Int → Bool
  | [] => true
  | [_] => true
  | p :: q :: r => decide (p < q) && risingI (q :: r)
def ltPair : D → Bool
  | .tuple [.tuple [.int a, .int b], .tuple [.int c, .int e]] => HT.lexLt [a, b] [c, e]
  | .tuple [.int a, .int b] => decide (a < b)
  | _ => false
theorem zip_rising : ∀ l : List (Int × Int), (zipD (l.map tieD) (l.map tieD).tail).all ltPair = risingT l
  | [] => rfl
  | [p] => rfl
  | p :: q :: r => by
    show (ltPair (.tuple [tieD p, tieD q]) && (zipD ((q :: r).map tieD) ((q :: r).map tieD).tail).all ltPair) = (ltP p q && risingT (q :: r))
    rw [zip_rising (q :: r)]
    rfl
theorem zip_risingI : ∀ l : List Int, (zipD (l.map PyData.int) (l.map PyData.int).tail).all ltPair = risingI l
  | [] => rfl
  | [p] => rfl
  | p :: q :: r => by
    show (ltPair (.tuple [.int p, .int q]) && (zipD ((q :: r).map PyData.int) ((q :: r).map PyData.int).tail).all ltPair) = (decide (p < q) && risingI (q :: r))
    rw [zip_risingI (q :: r)]
    rfl
theorem mem_zip {xs ys : List D} {d : D} (h : d ∈ zipD xs ys) : ∃ x y, x ∈ xs ∧ y ∈ ys ∧ d = .tuple [x, y] := by
  obtain ⟨i, hi⟩ := List.mem_iff_getElem?.mp h
  obtain ⟨x, y, h1, h2, h3⟩ := zipD_get hi
  exact ⟨x, y, List.mem_of_getElem? h1, List.mem_of_getElem? h2, h3⟩

def sp_is_rising : DSp := fun rs θ Φ _ => match rs with
  | [.d (.tuple ds)] => match tiesOf ds with
    | some l => Φ (.d (.bool (risingT l))) θ
    | none => match numsD ds with
      | some ns => Φ (.d (.bool (risingI ns))) θ
      | none => False
  | _ => False

def T_is_rising : DTS := (dRet (dAll (dItZ (dCons (dVar 0) (dCons (dSl (dVar 0) (oSome (dC (.int 1))) oNone fSl) dNil))) (gT (gsCons (gN 1) (gsCons (gN 2) gsNil))) dYes (dOp fLtX (dVar 1) (dVar 2)) [1, 2]))

theorem ln_is_rising : ∀ rs θ Φ Ex, sp_is_rising rs θ Φ Ex → rs.length = 1 := fun rs θ Φ Ex h => by
  unfold sp_is_rising at h
  split at h
  all_goals first
    | rfl
    | exact h.elim

theorem rd_is_rising : ∀ rs θ Φ Ex, sp_is_rising rs θ Φ Ex → T_is_rising { nx := fun _ θ' => Φ (.d .none) θ', rt := Φ, ex := fun xd _ θ' => Ex xd θ' } (startR 3 rs) θ := by
  intro rs θ Φ Ex h
  unfold sp_is_rising at h
  split at h
  · rename_i ds
    cases e : tiesOf ds with
    | none =>
      simp only [e] at h
      cases e9 : numsD ds with
      | none => simp only [e9] at h
      | some ns =>
        simp only [e9] at h
        have e2 := numsD_map e9
        subst e2
        unfold T_is_rising
        walk_at "rd"
        rw [cutL_tail]
        refine genD_all (ρw := [some (.d (.tuple (ns.map PyData.int))), none, none]) ltPair _ (fun d hd K hK => ?_) (by rw [zip_risingI]; exact h)
        obtain ⟨x, y, hx, hy, rfl⟩ := mem_zip hd
        obtain ⟨p, _, rfl⟩ := List.mem_map.mp hx
        obtain ⟨q, _, rfl⟩ := List.mem_map.mp (List.mem_of_mem_tail hy)
        walk_at "rd"
        exact hK
    | some l =>
      simp only [e] at h
      have e2 := tiesOf_eq e
      subst e2
      unfold T_is_rising
      walk_at "rd"
      rw [cutL_tail]
      refine genD_all (ρw := [some (.d (.tuple (l.map tieD))), none, none]) ltPair _ (fun d hd K hK => ?_) (by rw [zip_rising]; exact h)
      obtain ⟨x, y, hx, hy, rfl⟩ := mem_zip hd
      obtain ⟨p, _, rfl⟩ := List.mem_map.mp hx
      obtain ⟨q, _, rfl⟩ := List.mem_map.mp (List.mem_of_mem_tail hy)
      walk_at "rd"
      exact hK
  · exact h.elim

def isWeb : D → Bool
  | .tuple [.int m, .tuple ts] => isMany (.int m) && (ts.all (fun t => isTie t m) && (match tiesOf ts with
    | some l => risingT l
    | none => false))
  | _ => false
theorem tie_tie {t : D} {m : Int} (h : isTie t m = true) : ∃ a b, t = .tuple [.int a, .int b] := by
  unfold isTie at h
  split at h
  · rename_i a b
    rw [Bool.and_eq_true, Bool.and_eq_true] at h
    cases a with
    | int i =>
      cases b with
      | int j => exact ⟨i, j, rfl⟩
      | _ => simp [isPlace] at h
    | _ => simp [isPlace] at h
  · cases h
theorem ties_all {m : Int} : ∀ {ts : List D}, (ts.all fun t => isTie t m) = true → ∃ l, tiesOf ts = some l
  | [], _ => ⟨[], rfl⟩
  | t :: ts, h => by
    rw [List.all_cons, Bool.and_eq_true] at h
    obtain ⟨a, b, rfl⟩ := tie_tie h.1
    obtain ⟨l, e⟩ := ties_all (ts := ts) h.2
    exact ⟨(a, b) :: l, by show (tiesOf ts).map _ = _; rw [e]; rfl⟩
theorem len_two (n : Nat) : (PyData.eqv (.int (n : Int)) (.int 2)) = decide (n = 2) := by
  simp only [PyData.eqv]
  by_cases c : n = 2
  · subst c
    rfl
  · have : ((n : Int) == 2) = false := by
      simp
      omega
    rw [this]
    simp [c]
def sp_is_web : DSp := fun rs θ Φ _ => match rs with
  | [.d d] => Φ (.d (.bool (isWeb d))) θ
  | _ => False

def T_is_web : DTS := (dSeq (dIfS (dOr (dNot (dTest (dIsi isTupD (dVar 0)))) (dTest (dOp fNe (dCall fLen (dCons (dVar 0) dNil)) (dC (.int 2))))) (dRet (dC (.bool false))) dNext) (dSeq (dAsg (dVar 0) (gT (gsCons (gN 1) (gsCons (gN 2) gsNil)))) (dSeq (dIfS (dOr (dNot (dTest (dFn0 sp_is_many (dCons (dVar 1) dNil)))) (dNot (dTest (dIsi isTupD (dVar 2))))) (dRet (dC (.bool false))) dNext) (dRet (dAndV (dAll (dItT (dVar 2)) (gN 3) dYes (dFn0 sp_is_tie (dCons (dVar 3) (dCons (dVar 1) dNil))) [3]) (dFn0 sp_is_rising (dCons (dVar 2) dNil)))))))

theorem ln_is_web : ∀ rs θ Φ Ex, sp_is_web rs θ Φ Ex → rs.length = 1 := fun rs θ Φ Ex h => by
  unfold sp_is_web at h
  split at h
  all_goals first
    | rfl
    | exact h.elim

theorem rd_is_web : ∀ rs θ Φ Ex, sp_is_web rs θ Φ Ex → T_is_web { nx := fun _ θ' => Φ (.d .none) θ', rt := Φ, ex := fun xd _ θ' => Ex xd θ' } (startR 4 rs) θ := by
  intro rs θ Φ Ex h
  unfold sp_is_web at h
  split at h
  · rename_i d
    unfold T_is_web
    walk_at "rd"
    cases d with
    | tuple ds =>
      simp only [isTupD, Bool.not_true, Bool.false_eq_true, if_false]
      refine ⟨eqOk_int _, eqOk_int _, ?_⟩
      match ds, h with
      | [], h => simpa [len_two, isWeb, PyData.eqv] using h
      | [a], h => simpa [len_two, isWeb, PyData.eqv] using h
      | [m, ts], h =>
        simp only [List.length_cons, List.length_nil, len_two, sp_is_many, asB]
        cases m with
        | int m =>
          cases e1 : isMany (.int m) with
          | false =>
            cases ts with
            | tuple ts => simpa [isWeb, e1] using h
            | _ => simpa [isWeb] using h
          | true =>
            cases ts with
            | tuple ts =>
              simp only [isTupD, Bool.not_true, Bool.false_eq_true, if_false, decide_true, Nat.zero_add, Nat.reduceAdd]
              refine genD_all2 (ρw := wipeR [some (.d (.tuple [.int m, .tuple ts])), some (.d (.int m)), some (.d (.tuple ts)), none] [3]) (fun t => isTie t m) ts (fun d hd K hK => ?_) (fun e2 => ?_) (fun e2 => ?_)
              · walk_at "rd"
                simp only [wipeR, unset, nth, put, sp_is_tie, asB]
                exact hK
              · obtain ⟨l, e3⟩ := ties_all e2
                simp only [sp_is_rising, e3, if_true]
                simpa [isWeb, e1, e2, e3] using h
              · simpa [isWeb, e2] using h
            | _ => simpa [isTupD, isWeb] using h
        | _ => simpa [isMany, isWeb] using h
      | a :: b :: e :: r, h =>
        have : decide ((a :: b :: e :: r).length = 2) = false := by simp
        rw [len_two, this]
        simpa [isWeb] using h
    | _ => simpa [isTupD, isWeb] using h
  · exact h.elim

def hasLetters (d : D) (m : Nat) : Bool := match d with
  | .str x => made x m
  | _ => false
def okText (d : D) : Prop := match d with
  | .str x => x.length < 64 ∧ ∀ c ∈ x.cps.toList, c < 128
  | _ => True
def sp_has_letters : DSp := fun rs θ Φ _ => match rs with
  | [.d d, .d (.int m)] => (0 ≤ m ∧ m ≤ 6) ∧ okText d ∧ Φ (.d (.bool (hasLetters d m.toNat))) θ
  | _ => False

def T_has_letters : DTS := (dRet (dAndV (dIsi isStrD (dVar 0)) (dOp fEq (dSortSet (dVar 0)) (dNewP (dListC (dCons (dSl (dC (.str "abcdef")) oNone (oSome (dVar 1)) fSl) dNil))))))

theorem ln_has_letters : ∀ rs θ Φ Ex, sp_has_letters rs θ Φ Ex → rs.length = 2 := fun rs θ Φ Ex h => by
  unfold sp_has_letters at h
  split at h
  all_goals first
    | rfl
    | exact h.elim

theorem rd_has_letters : ∀ rs θ Φ Ex, sp_has_letters rs θ Φ Ex → T_has_letters { nx := fun _ θ' => Φ (.d .none) θ', rt := Φ, ex := fun xd _ θ' => Ex xd θ' } (startR 2 rs) θ := by
  intro rs θ Φ Ex h
  unfold sp_has_letters at h
  split at h
  · rename_i d m
    obtain ⟨⟨h0, h1⟩, ht, h⟩ := h
    obtain ⟨m, rfl⟩ := Int.eq_ofNat_of_zero_le h0
    simp only [Int.toNat_natCast] at h
    unfold T_has_letters
    walk_at "rd"
    cases d with
    | str x =>
      simp only [isStrD, if_true]
      obtain ⟨hl, hc⟩ := ht
      refine ⟨hl, fun ys so nd hm => ?_⟩
      obtain ⟨cs, rfl, inc, hcs⟩ := codesFrom so nd hm
      refine ⟨by rw [abc_len]; decide, ?_⟩
      rw [List.map_map]
      have e1 : signsD (cutS ("abcdef" : Str) none (some (m : Int))) = (letters m).map sg := by rw [signsD_eq, abc_take (by omega)]
      refine ⟨?_, ?_⟩
      · show (cutS ("abcdef" : Str) none (some (m : Int))).length ≤ 1000000
        exact Nat.le_trans (cutS_length _ _ _) (by rw [abc_len]; decide)
      · rw [e1]
        refine ⟨eqOk_sgs fun c hc2 => hc c ((hcs c).mp hc2), eqOk_sgs fun c hc2 => ?_, ?_⟩
        · have := mem_letters.mp hc2
          omega
        · have : PyData.eqv (.list (cs.map sg)) (.list ((letters m).map sg)) = made x m := by
            show PyData.eqvAll _ _ = _
            rw [eqv_sgs, made_sorted inc hcs]
          show Φ (.d (.bool (PyData.eqv (.list (cs.map sg)) (.list ((letters m).map sg))))) θ
          rw [this]
          exact h
    | _ => simpa [isStrD, hasLetters] using h
  · exact h.elim

def sp_check_web (E : Str → Addr) : DSp := fun rs θ Φ Ex => match rs with
  | [.d d] => if isWeb d = true then Φ (.d .none) θ else Ex (.plain (E "NoWeb")) θ
  | _ => False

def T_check_web (E : Str → Addr) : DTS := (dIfS (dNot (dTest (dFn0 sp_is_web (dCons (dVar 0) dNil)))) (dRaise (E "NoWeb")) dNext)

theorem ln_check_web {E : Str → Addr} : ∀ rs θ Φ Ex, sp_check_web E rs θ Φ Ex → rs.length = 1 := fun rs θ Φ Ex h => by
  unfold sp_check_web at h
  split at h
  all_goals first
    | rfl
    | exact h.elim

theorem rd_check_web {E : Str → Addr} : ∀ rs θ Φ Ex, sp_check_web E rs θ Φ Ex → T_check_web E { nx := fun _ θ' => Φ (.d .none) θ', rt := Φ, ex := fun xd _ θ' => Ex xd θ' } (startR 1 rs) θ := by
  intro rs θ Φ Ex h
  unfold sp_check_web at h
  split at h
  · rename_i d
    unfold T_check_web
    walk_at "rd"
    simp only [sp_is_web, asB]
    cases e : isWeb d <;> simpa [e] using h
  · exact h.elim

def sp_check_word (E : Str → Addr) : DSp := fun rs θ Φ Ex => match rs with
  | [.d d, .d (.int m)] => (0 ≤ m ∧ m ≤ 6) ∧ okText d ∧ if hasLetters d m.toNat = true then Φ (.d .none) θ else Ex (.plain (E "NoWord")) θ
  | _ => False

def T_check_word (E : Str → Addr) : DTS := (dIfS (dNot (dTest (dFn0 sp_has_letters (dCons (dVar 0) (dCons (dVar 1) dNil))))) (dRaise (E "NoWord")) dNext)

theorem ln_check_word {E : Str → Addr} : ∀ rs θ Φ Ex, sp_check_word E rs θ Φ Ex → rs.length = 2 := fun rs θ Φ Ex h => by
  unfold sp_check_word at h
  split at h
  all_goals first
    | rfl
    | exact h.elim

theorem rd_check_word {E : Str → Addr} : ∀ rs θ Φ Ex, sp_check_word E rs θ Φ Ex → T_check_word E { nx := fun _ θ' => Φ (.d .none) θ', rt := Φ, ex := fun xd _ θ' => Ex xd θ' } (startR 2 rs) θ := by
  intro rs θ Φ Ex h
  unfold sp_check_word at h
  split at h
  · rename_i d m
    obtain ⟨hm, ht, h⟩ := h
    unfold T_check_word
    walk_at "rd"
    simp only [sp_has_letters, asB]
    refine ⟨hm, ht, ?_⟩
    cases e : hasLetters d m.toNat <;> simpa [e] using h
  · exact h.elim

def sp_check_place (E : Str → Addr) : DSp := fun rs θ Φ Ex => match rs with
  | [.d d, .d (.int m)] => if isPlace d m = true then Φ (.d .none) θ else Ex (.plain (E "NoPlace")) θ
  | _ => False

def T_check_place (E : Str → Addr) : DTS := (dIfS (dNot (dTest (dFn0 sp_is_place (dCons (dVar 0) (dCons (dVar 1) dNil))))) (dRaise (E "NoPlace")) dNext)

theorem ln_check_place {E : Str → Addr} : ∀ rs θ Φ Ex, sp_check_place E rs θ Φ Ex → rs.length = 2 := fun rs θ Φ Ex h => by
  unfold sp_check_place at h
  split at h
  all_goals first
    | rfl
    | exact h.elim

theorem rd_check_place {E : Str → Addr} : ∀ rs θ Φ Ex, sp_check_place E rs θ Φ Ex → T_check_place E { nx := fun _ θ' => Φ (.d .none) θ', rt := Φ, ex := fun xd _ θ' => Ex xd θ' } (startR 2 rs) θ := by
  intro rs θ Φ Ex h
  unfold sp_check_place at h
  split at h
  · rename_i d m
    unfold T_check_place
    walk_at "rd"
    simp only [sp_is_place, asB]
    cases e : isPlace d m <;> simpa [e] using h
  · exact h.elim

theorem in_two (c a b : Nat) : inD (sg c) [sg a, sg b] = (decide (c = a) || decide (c = b)) := by
  show (PyData.eqv (sg a) (sg c) || (PyData.eqv (sg b) (sg c) || false)) = _
  rw [sg_eqv, sg_eqv, Bool.or_false]
  have e1 : decide (a = c) = decide (c = a) := decide_eq_decide.mpr ⟨Eq.symm, Eq.symm⟩
  have e2 : decide (b = c) = decide (c = b) := decide_eq_decide.mpr ⟨Eq.symm, Eq.symm⟩
  rw [e1, e2]
theorem filter_sgs (p : D → Bool) (q : Nat → Bool) (h : ∀ c, p (sg c) = q c) (l : List Nat) : (l.map sg).filterMap (fun d => if p d = true then some d else none) = (l.filter q).map sg := by
  induction l with
  | nil => rfl
  | cons c l ih =>
    rw [List.map_cons, List.filterMap_cons, List.filter_cons, h c, ih]
    cases q c <;> rfl
def neTwo : D → Bool
  | .tuple [x, y] => !PyData.eqv x y
  | _ => false
theorem zip_apart : ∀ l : List Nat, (zipD (l.map sg) (l.map sg).tail).all neTwo = apart l
  | [] => rfl
  | [a] => rfl
  | a :: b :: r => by
    show (neTwo (.tuple [sg a, sg b]) && (zipD ((b :: r).map sg) ((b :: r).map sg).tail).all neTwo) = (decide (a ≠ b) && apart (b :: r))
    rw [zip_apart (b :: r)]
    show (!PyData.eqv (sg a) (sg b) && _) = _
    rw [sg_eqv]
    by_cases h : a = b <;> simp [h]
theorem abc_item {i : Int} (h : 0 ≤ i ∧ i < 6) : atI ("abcdef" : Str).cps.toList i = some (97 + i.toNat) := by
  obtain ⟨n, rfl⟩ := Int.eq_ofNat_of_zero_le h.1
  rw [Int.toNat_natCast]
  exact abc_at (by omega)
theorem abc_small : small ("abcdef" : Str).length := by rw [abc_len]; decide

def txt (cs : List Nat) : Str := ⟨cs.toArray⟩
def aloneT (x : Str) (ps : List Nat) : Str := txt (x.cps.toList.filter fun c => ps.any fun p => decide (c = 97 + p))
def placesD (ps : List Nat) : D := .tuple (ps.map fun p : Nat => PyData.int (p : Int))
theorem join_signs (cs : List Nat) : Txt.join "" (cs.map fun c : Nat => (⟨#[c]⟩ : Str)) = txt cs := by
  rw [TL.join_eq]
  have e : TL.tl (Str.join "" (cs.map fun c : Nat => (⟨#[c]⟩ : Str))) = TL.tl (txt cs) := by
    rw [TL.tl_join]
    have e0 : TL.tl ("" : Str) = [] := rfl
    rw [e0, List.map_map]
    have key : ∀ cs : List Nat, TL.joinL [] (cs.map (TL.tl ∘ fun c : Nat => (⟨#[c]⟩ : Str))) = cs := by
      intro cs
      induction cs with
      | nil => rfl
      | cons c cs ih =>
        cases cs with
        | nil => rfl
        | cons d cs =>
          rw [List.map_cons] at ih ⊢
          rw [List.map_cons]
          show [c] ++ ([] ++ TL.joinL [] (_ :: _)) = _
          rw [ih]
          rfl
    rw [key]
    rfl
  have := TL.map_tl_inj (l := [_]) (m := [_]) (congrArg (fun z => [z]) e)
  exact (List.cons.inj this).1
theorem strs_signs : ∀ cs : List Nat, strsD (cs.map sg) = some (cs.map fun c : Nat => (⟨#[c]⟩ : Str))
  | [] => rfl
  | c :: cs => by
    show (strsD (cs.map sg)).map ((⟨#[c]⟩ : Str) :: ·) = _
    rw [strs_signs cs]
    rfl

theorem sum_ones : ∀ cs : List Nat, ((cs.map fun c : Nat => (⟨#[c]⟩ : Str)).map (·.length)).sum = cs.length
  | [] => rfl
  | c :: cs => by
    rw [List.map_cons, List.map_cons, List.sum_cons, sum_ones cs, List.length_cons]
    show 1 + cs.length = _
    omega
theorem in_signs (c : Nat) : ∀ ps : List Nat, inD (sg c) (ps.map fun p : Nat => sg (97 + p)) = ps.any fun p => decide (c = 97 + p)
  | [] => rfl
  | p :: ps => by
    show (PyData.eqv (sg (97 + p)) (sg c) || inD (sg c) _) = _
    rw [sg_eqv, in_signs c ps, List.any_cons]
    congr 1
    exact decide_eq_decide.mpr ⟨Eq.symm, Eq.symm⟩

theorem txt_cps (cs : List Nat) : (txt cs).cps.toList = cs := by simp [txt]
theorem alone_only (x : Str) (i j : Nat) : (aloneT x [i, j]).cps.toList = only x i j := by
  unfold aloneT only
  rw [txt_cps]
  refine List.filter_congr fun c _ => ?_
  simp
theorem alone_len (x : Str) (ps : List Nat) : (aloneT x ps).length ≤ x.length := by
  have h : (aloneT x ps).length = (x.cps.toList.filter fun c => ps.any fun p => decide (c = 97 + p)).length := by
    show (aloneT x ps).cps.size = _
    rw [← Array.length_toList]
    unfold aloneT
    rw [txt_cps]
  have : x.cps.toList.length = x.length := Array.length_toList
  have := List.length_filter_le (fun c => ps.any fun p => decide (c = 97 + p)) x.cps.toList
  omega
theorem alone_in {x : Str} {ps : List Nat} {c : Nat} (h : c ∈ (aloneT x ps).cps.toList) : c ∈ x.cps.toList := by
  unfold aloneT at h
  rw [txt_cps] at h
  exact (List.mem_filter.mp h).1
def letOf : D → Option D
  | .int a => some (sg (97 + a.toNat))
  | _ => none
theorem places_sgs : ∀ ps : List Nat, (ps.map fun p : Nat => PyData.int (p : Int)).filterMap letOf = ps.map fun p : Nat => sg (97 + p)
  | [] => rfl
  | p :: ps => by
    rw [List.map_cons, List.filterMap_cons, places_sgs ps]
    rfl
theorem scal_signs (ps : List Nat) : (ps.map fun p : Nat => sg (97 + p)).all scalD = true := by
  rw [List.all_eq_true]
  intro d hd
  obtain ⟨p, _, rfl⟩ := List.mem_map.mp hd
  rfl
theorem signs_tail (y : Str) : signsD (cutS y (some 1) none) = (signsD y).tail := by
  have e1 : HT.sIx y.length 0 (some 1) = min 1 y.length := HT.sIx_nat _ _ 1
  have e2 : HT.sIx y.length y.length none = y.length := HT.sIx_none _ _
  unfold cutS
  rw [e1, e2]
  show ((List.take _ _).toArray.toList).map _ = _
  have yl : y.cps.toList.length = y.length := Array.length_toList
  cases e : y.cps.toList with
  | nil =>
    rw [e] at yl
    simp [signsD, e]
  | cons c cs =>
    rw [e, List.length_cons] at yl
    have : min 1 y.length = 1 := by omega
    rw [this]
    show (List.take _ cs).map _ = _
    rw [List.take_of_length_le (by omega)]
    simp [signsD, e]

def sp_letters_alone : DSp := fun rs θ Φ _ => match rs with
  | [.d (.str x), .d t] => ∃ ps : List Nat, t = placesD ps ∧ (∀ p ∈ ps, p < 6) ∧ ps.length ≤ 1000 ∧ (x.length ≤ 1000 ∧ ∀ c ∈ x.cps.toList, c < 128) ∧ Φ (.d (.str (aloneT x ps))) θ
  | _ => False

def T_letters_alone : DTS := (dSeq (dSet 2 (dNewP (dLc (dItT (dVar 1)) (gN 3) dYes (dOp fIx (dC (.str "abcdef")) (dVar 3)) [3]))) (dRet (dJoin (dC (.str "")) (dNewP (dLc (dItS (dVar 0)) (gN 4) (dTest (dOp (fIn false) (dVar 4) (dVar 2))) (dVar 4) [4])))))

theorem ln_letters_alone : ∀ rs θ Φ Ex, sp_letters_alone rs θ Φ Ex → rs.length = 2 := fun rs θ Φ Ex h => by
  unfold sp_letters_alone at h
  split at h
  all_goals first
    | rfl
    | exact h.elim

theorem rd_letters_alone : ∀ rs θ Φ Ex, sp_letters_alone rs θ Φ Ex → T_letters_alone { nx := fun _ θ' => Φ (.d .none) θ', rt := Φ, ex := fun xd _ θ' => Ex xd θ' } (startR 5 rs) θ := by
  intro rs θ Φ Ex h
  unfold sp_letters_alone at h
  split at h
  · rename_i x t
    obtain ⟨ps, rfl, hp, hn, ⟨hl, hc⟩, h⟩ := h
    unfold T_letters_alone
    unfold placesD
    walk_at "rd"
    unfold dLc
    walk_at "rd"
    refine lcD_map letOf _ [] (fun d hd k1 k0 hk => ?_) (by simp; omega) ?_
    · obtain ⟨p, hp2, rfl⟩ := List.mem_map.mp hd
      have p6 := hp p hp2
      simp only [wipeR, unset]
      walk_at "rd"
      simp only [dYes, if_true]
      rw [abc_item ⟨by omega, by omega⟩]
      exact ⟨abc_small, hk⟩
    · rw [List.nil_append, places_sgs]
      refine lcD_map (fun d => if inD d (ps.map fun p : Nat => sg (97 + p)) = true then some d else none) (signsD x) [] (fun d hd k1 k0 hk => ?_) ?_ ?_
      · obtain ⟨c, _, rfl⟩ := List.mem_map.mp hd
        walk_at "rd"
        simp only [wipeR, unset, nth, put, asD, dat, asB]
        refine ⟨⟨rfl, scal_signs ps⟩, ?_⟩
        simp only [Bool.false_eq_true, if_false]
        revert hk
        cases inD (sg c) (ps.map fun p : Nat => sg (97 + p)) <;> exact fun hk => hk
      · rw [signsD_eq, List.length_map, Array.length_toList]
        have : x.cps.size ≤ 1000 := hl
        simp
        omega
      · have e : (signsD x).filterMap (fun d => if inD d (ps.map fun p : Nat => sg (97 + p)) = true then some d else none) = (x.cps.toList.filter fun c => ps.any fun p => decide (c = 97 + p)).map sg := by
          rw [signsD_eq]
          exact filter_sgs _ _ (fun c => in_signs c ps) _
        rw [List.nil_append, e]
        simp only [dJoin, dat, seqD]
        rw [strs_signs]
        have fl := List.length_filter_le (fun c => ps.any fun p => decide (c = 97 + p)) x.cps.toList
        have xl : x.cps.toList.length = x.length := Array.length_toList
        refine ⟨?_, ?_⟩
        · rw [sum_ones, List.length_map]
          show _ + _ * 0 ≤ 1000000
          omega
        · rw [join_signs]
          exact h
  · exact h.elim

def sp_turns_in : DSp := fun rs θ Φ _ => match rs with
  | [.d (.str x), .d (.int i), .d (.int j)] => (0 ≤ i ∧ i < 6) ∧ (0 ≤ j ∧ j < 6) ∧ (x.length ≤ 1000 ∧ ∀ c ∈ x.cps.toList, c < 128) ∧ Φ (.d (.bool (turns x i.toNat j.toNat))) θ
  | _ => False

def T_turns_in : DTS := (dSeq (dSet 3 (dFn0 sp_letters_alone (dCons (dVar 0) (dCons (dTup (dCons (dVar 1) (dCons (dVar 2) dNil))) dNil)))) (dRet (dAll (dItZS (dCons (dVar 3) (dCons (dSl (dVar 3) (oSome (dC (.int 1))) oNone fSl) dNil))) (gT (gsCons (gN 4) (gsCons (gN 5) gsNil))) dYes (dOp fNe (dVar 4) (dVar 5)) [4, 5])))

theorem ln_turns_in : ∀ rs θ Φ Ex, sp_turns_in rs θ Φ Ex → rs.length = 3 := fun rs θ Φ Ex h => by
  unfold sp_turns_in at h
  split at h
  all_goals first
    | rfl
    | exact h.elim

theorem rd_turns_in : ∀ rs θ Φ Ex, sp_turns_in rs θ Φ Ex → T_turns_in { nx := fun _ θ' => Φ (.d .none) θ', rt := Φ, ex := fun xd _ θ' => Ex xd θ' } (startR 6 rs) θ := by
  intro rs θ Φ Ex h
  unfold sp_turns_in at h
  split at h
  · rename_i x i j
    obtain ⟨hi, hj, ⟨hl, hc⟩, h⟩ := h
    unfold T_turns_in
    walk_at "rd"
    obtain ⟨i, rfl⟩ := Int.eq_ofNat_of_zero_le hi.1
    obtain ⟨j, rfl⟩ := Int.eq_ofNat_of_zero_le hj.1
    rw [Int.toNat_natCast, Int.toNat_natCast] at h
    refine ⟨by decide, [i, j], rfl, fun p hp => ?_, by simp, ⟨hl, hc⟩, ?_⟩
    · rcases List.mem_cons.mp hp with rfl | hp
      · omega
      · rw [List.mem_singleton.mp hp]
        omega
    have al := alone_len x [i, j]
    simp only [is2S, srD]
    refine ⟨by show _ ≤ _; omega, ?_⟩
    have e0 : signsD (aloneT x [i, j]) = (only x i j).map sg := by rw [signsD_eq, alone_only]
    rw [signs_tail, e0]
    refine genD_all neTwo _ (fun d hd K hK => ?_) (by rw [zip_apart]; exact h)
    obtain ⟨y, z, hy, hz, rfl⟩ := mem_zip hd
    obtain ⟨a, ha, rfl⟩ := List.mem_map.mp hy
    obtain ⟨b, hb, rfl⟩ := List.mem_map.mp (List.mem_of_mem_tail hz)
    have la : a < 128 := hc a (List.mem_filter.mp ha).1
    have lb : b < 128 := hc b (List.mem_filter.mp hb).1
    walk_at "rd"
    simp only [wipeR, unset, nth, put, asD, dat, asB]
    exact ⟨eqOk_sg la, eqOk_sg lb, hK⟩
  · exact h.elim

def manyOf : D → Int
  | .tuple (.int m :: _) => m
  | _ => 0
def intOf : D → Int
  | .int i => i
  | _ => 0
def strOf : D → Str
  | .str x => x
  | _ => ⟨#[]⟩
theorem web_form {w : D} (h : isWeb w = true) : ∃ m ts, w = .tuple [.int m, .tuple ts] ∧ 1 ≤ m ∧ m ≤ 6 := by
  unfold isWeb at h
  split at h
  · rename_i m ts
    rw [Bool.and_eq_true] at h
    have h1 : (decide (1 ≤ m) && decide (m ≤ 6)) = true := h.1
    rw [Bool.and_eq_true, decide_eq_true_eq, decide_eq_true_eq] at h1
    exact ⟨m, ts, rfl, h1.1, h1.2⟩
  · cases h
theorem place_form {d : D} {m : Int} (h : isPlace d m = true) : ∃ i, d = .int i ∧ 0 ≤ i ∧ i < m := by
  unfold isPlace at h
  split at h
  · rename_i i
    rw [Bool.and_eq_true, decide_eq_true_eq, decide_eq_true_eq] at h
    exact ⟨i, rfl, h.1, h.2⟩
  · cases h
theorem made_low {x : Str} {m : Nat} (h : made x m = true) (hm : m ≤ 6) : ∀ c ∈ x.cps.toList, c < 128 := fun c hc => by
  have := (made_iff.mp h c).mp hc
  omega
def sp_check_word_of (E : Str → Addr) : DSp := fun rs θ Φ Ex => match rs with
  | [.d w, .d x] => okText x ∧ if isWeb w = true then (if hasLetters x (manyOf w).toNat = true then Φ (.d .none) θ else Ex (.plain (E "NoWord")) θ) else Ex (.plain (E "NoWeb")) θ
  | _ => False

def T_check_word_of (E : Str → Addr) : DTS := (dSeq (dDrop (dFn (sp_check_web E) (dCons (dVar 0) dNil))) (dDrop (dFn (sp_check_word E) (dCons (dVar 1) (dCons (dOp fIx (dVar 0) (dC (.int 0))) dNil)))))

theorem ln_check_word_of {E : Str → Addr} : ∀ rs θ Φ Ex, sp_check_word_of E rs θ Φ Ex → rs.length = 2 := fun rs θ Φ Ex h => by
  unfold sp_check_word_of at h
  split at h
  all_goals first
    | rfl
    | exact h.elim

theorem rd_check_word_of {E : Str → Addr} : ∀ rs θ Φ Ex, sp_check_word_of E rs θ Φ Ex → T_check_word_of E { nx := fun _ θ' => Φ (.d .none) θ', rt := Φ, ex := fun xd _ θ' => Ex xd θ' } (startR 2 rs) θ := by
  intro rs θ Φ Ex h
  unfold sp_check_word_of at h
  split at h
  · rename_i w x
    obtain ⟨ht, h⟩ := h
    unfold T_check_word_of
    walk_at "rd"
    simp only [sp_check_web]
    cases e1 : isWeb w with
    | false => simpa [e1] using h
    | true =>
      simp only [e1, if_true] at h ⊢
      obtain ⟨m, ts, rfl, h1, h6⟩ := web_form e1
      have em : manyOf (.tuple [.int m, .tuple ts]) = m := rfl
      have e0 : atI [PyData.int m, .tuple ts] 0 = some (.int m) := rfl
      rw [em] at h
      simp only [e0, sp_check_word]
      refine ⟨⟨by omega, h6⟩, ht, ?_⟩
      cases e2 : hasLetters x m.toNat with
      | false => simpa [e2] using h
      | true => simpa [e2] using h
  · exact h.elim

def sp_take_turns (E : Str → Addr) : DSp := fun rs θ Φ Ex => match rs with
  | [.d w, .d x, .d i, .d j] => okText x ∧ if isWeb w = true then
      (if hasLetters x (manyOf w).toNat = true then
        (if isPlace i (manyOf w) = true then (if isPlace j (manyOf w) = true then (if decide (intOf i = intOf j) = true then Ex (.plain (E "NoPlace")) θ else Φ (.d (.bool (turns (strOf x) (intOf i).toNat (intOf j).toNat))) θ) else Ex (.plain (E "NoPlace")) θ) else Ex (.plain (E "NoPlace")) θ)
      else Ex (.plain (E "NoWord")) θ) else Ex (.plain (E "NoWeb")) θ
  | _ => False

def T_take_turns (E : Str → Addr) : DTS := (dSeq (dDrop (dFn (sp_check_word_of E) (dCons (dVar 0) (dCons (dVar 1) dNil)))) (dSeq (dSet 4 (dOp fIx (dVar 0) (dC (.int 0)))) (dSeq (dDrop (dFn (sp_check_place E) (dCons (dVar 2) (dCons (dVar 4) dNil)))) (dSeq (dDrop (dFn (sp_check_place E) (dCons (dVar 3) (dCons (dVar 4) dNil)))) (dSeq (dIfS (dTest (dOp fEq (dVar 2) (dVar 3))) (dRaise (E "NoPlace")) dNext) (dRet (dFn0 sp_turns_in (dCons (dVar 1) (dCons (dVar 2) (dCons (dVar 3) dNil))))))))))

theorem ln_take_turns {E : Str → Addr} : ∀ rs θ Φ Ex, sp_take_turns E rs θ Φ Ex → rs.length = 4 := fun rs θ Φ Ex h => by
  unfold sp_take_turns at h
  split at h
  all_goals first
    | rfl
    | exact h.elim

theorem rd_take_turns {E : Str → Addr} : ∀ rs θ Φ Ex, sp_take_turns E rs θ Φ Ex → T_take_turns E { nx := fun _ θ' => Φ (.d .none) θ', rt := Φ, ex := fun xd _ θ' => Ex xd θ' } (startR 5 rs) θ := by
  intro rs θ Φ Ex h
  unfold sp_take_turns at h
  split at h
  · rename_i w x i j
    obtain ⟨ht, h⟩ := h
    unfold T_take_turns
    walk_at "rd"
    simp only [sp_check_word_of]
    refine ⟨ht, ?_⟩
    cases e1 : isWeb w with
    | false => simpa [e1] using h
    | true =>
      simp only [e1, if_true] at h ⊢
      obtain ⟨m, ts, rfl, h1, h6⟩ := web_form e1
      have em : manyOf (.tuple [.int m, .tuple ts]) = m := rfl
      have e0 : atI [PyData.int m, .tuple ts] 0 = some (.int m) := rfl
      rw [em] at h ⊢
      cases e2 : hasLetters x m.toNat with
      | false => simpa [e2] using h
      | true =>
        simp only [e2, if_true, sp_check_place, e0] at h ⊢
        cases e3 : isPlace i m with
        | false => simpa [e3] using h
        | true =>
          cases e4 : isPlace j m with
          | false => simpa [e3, e4] using h
          | true =>
            simp only [e3, e4, if_true] at h ⊢
            obtain ⟨i, rfl, i0, i1⟩ := place_form e3
            obtain ⟨j, rfl, j0, j1⟩ := place_form e4
            refine ⟨eqOk_int _, eqOk_int _, ?_⟩
            have ee : PyData.eqv (.int i) (.int j) = decide (i = j) := by
              simp only [PyData.eqv]
              by_cases c : i = j <;> simp [c]
            rw [ee]
            simp only [intOf] at h
            by_cases c : i = j
            · simpa [c] using h
            · simp only [c, decide_false, Bool.false_eq_true, if_false] at h ⊢
              cases x with
              | str x =>
                simp only [sp_turns_in]
                exact ⟨⟨i0, by omega⟩, ⟨j0, by omega⟩, ⟨by have := ht.1; omega, ht.2⟩, h⟩
              | _ => simp [hasLetters] at e2
  · exact h.elim

end TlD
set_option Elab.async false
set_option linter.all false
set_option maxRecDepth 100000
set_option maxHeartbeats 4000000
namespace TlD
open PySem PySem.Spec PyProof.Rows L2 GxR TlG
local macro_rules | `(tactic| walk_at "rd") => `(tactic| simp only [dSeq, dSet, dAsg, dSetIx, dDrop, dIfS, dFor, dRet, dRetN, dRetF, dNext, dRaise, dVar, dC, dOp, dUn, dCall, dTest, dAnd, dOr, dNot, dAndV, dOrV, dNotV, dIf, dChain, dNil, dCons, dTup, dTup.allD, dLst, dLstO, dNewP, dNewO, dListC, dIsi, dFn0, dFn, dAll, dItT, dItL, dItS, dItR1, dItR2, dItZ, dSl, oNone, oSome, gN, gT, gsNil, gsCons, dSortSet, dRevS, nth, put, startR, fAdd, fSub, fMul, fDiv, fMod, fLt, fLe, fGt, fGe, fLtT, fEq, fNe, fIn, fIsN, fIsB, fLen, fIx, fSl, fTuple, fAbs, fMax, fMin, fDivmod, fStrI, dAppend, dPopAt, on2I, is1I, is2I, is2Z, on1, dat, asD, asB, asI, asS, onOwn, lenD, listD, ixD, List.length_cons, List.length_nil])

theorem atI_some {α : Type} {l : List α} {i : Int} (h0 : 0 ≤ i) (h1 : i < l.length) : ∃ x, atI l i = some x ∧ l[i.toNat]? = some x := by
  obtain ⟨n, rfl⟩ := Int.eq_ofNat_of_zero_le h0
  have hn : n < l.length := by omega
  refine ⟨l[n], ?_, ?_⟩
  · unfold atI ixN
    rw [if_pos h0, if_pos h1]
    show l[(n : Int).toNat]? = _
    rw [Int.toNat_natCast]
    exact List.getElem?_eq_getElem hn
  · rw [Int.toNat_natCast]
    exact List.getElem?_eq_getElem hn
theorem log_le {n k : Nat} (h : n < 2 ^ k) : n.log2 ≤ k := by
  by_cases e : n = 0
  · subst e
    simp
  · have := (Nat.log2_lt e).mpr h
    omega
theorem bits_ok {a b : Int} (ha : a.natAbs < 2 ^ 2000) (hb : b.natAbs < 2 ^ 2000) : bitsOk a b := by
  have h1 := log_le ha
  have h2 := log_le hb
  show a.natAbs.log2 + b.natAbs.log2 < 1000000
  omega
theorem pow_low {n : Nat} (h : n < 2 ^ 64) : n < 2 ^ 2000 := Nat.lt_of_lt_of_le h (Nat.pow_le_pow_right (by decide) (by decide))
def isInts (ds : List D) : Prop := ∃ ns : List Int, ds = ns.map PyData.int
theorem rOk_of {i : Int} (h0 : 0 ≤ i) (h1 : i ≤ 1000) : rOk i := ⟨by omega, by omega⟩

def sp__law_cell : DSp := fun rs θ Φ _ => match rs with
  | [.seq ds, .d (.int k)] => isInts ds ∧ 0 ≤ k ∧ ∀ v : Int, Φ (.d (.int v)) θ
  | _ => False

def T__law_cell : DTS := (dSeq (dIfS (dTest (dOp fLt (dVar 1) (dCall fLen (dCons (dVar 0) dNil)))) (dRet (dOp fIx (dVar 0) (dVar 1))) dNext) (dRet (dC (.int 0))))

theorem ln__law_cell : ∀ rs θ Φ Ex, sp__law_cell rs θ Φ Ex → rs.length = 2 := fun rs θ Φ Ex h => by
  unfold sp__law_cell at h
  split at h
  all_goals first
    | rfl
    | exact h.elim

theorem rd__law_cell : ∀ rs θ Φ Ex, sp__law_cell rs θ Φ Ex → T__law_cell { nx := fun _ θ' => Φ (.d .none) θ', rt := Φ, ex := fun xd _ θ' => Ex xd θ' } (startR 2 rs) θ := by
  intro rs θ Φ Ex h
  unfold sp__law_cell at h
  split at h
  · rename_i ds k
    obtain ⟨⟨ns, rfl⟩, h0, h⟩ := h
    unfold T__law_cell
    walk_at "rd"
    refine ite_b _ (fun c => ?_) (fun _ => h 0)
    have c := of_decide_eq_true c
    obtain ⟨x, e1, e2⟩ := atI_some (l := ns.map PyData.int) h0 c
    rw [e1]
    rw [List.getElem?_map] at e2
    cases e3 : ns[k.toNat]? with
    | none => rw [e3] at e2; cases e2
    | some v =>
      rw [e3] at e2
      cases e2
      exact h v
  · exact h.elim

def sp__law_mix : DSp := fun rs θ Φ _ => match rs with
  | [.d (.int c), .d (.int k)] => (0 ≤ k ∧ k < 1000) ∧ ∀ v : Int, 0 ≤ v → v < 1000000007 → Φ (.d (.int v)) θ
  | _ => False

def T__law_mix : DTS := (dSeq (dSet 2 (dLst (dCons (dC (.int 48271)) (dCons (dC (.int 69621)) (dCons (dC (.int 16807)) (dCons (dC (.int 39373)) (dCons (dC (.int 30269)) (dCons (dC (.int 40014)) (dCons (dC (.int 40692)) (dCons (dC (.int 50021)) (dCons (dC (.int 61687)) (dCons (dC (.int 71993)) (dCons (dC (.int 83869)) (dCons (dC (.int 95561)) (dCons (dC (.int 30307)) dNil))))))))))))))) (dSeq (dSet 3 (dOp fAdd (dOp fAdd (dOp fMul (dOp fAdd (dOp fMod (dVar 0) (dC (.int 2147483647))) (dC (.int 12345))) (dOp fIx (dVar 2) (dOp fMod (dVar 1) (dC (.int 13))))) (dOp fMul (dC (.int 977)) (dVar 1))) (dOp fMul (dC (.int 7919)) (dOp fDiv (dVar 1) (dC (.int 13)))))) (dSeq (dSet 3 (dOp fMod (dVar 3) (dC (.int 1000000007)))) (dRet (dOp fDiv (dOp fMod (dOp fAdd (dOp fMul (dVar 3) (dVar 3)) (dOp fMul (dC (.int 48271)) (dVar 1))) (dC (.int 1000000007))) (dC (.int 7)))))))

theorem ln__law_mix : ∀ rs θ Φ Ex, sp__law_mix rs θ Φ Ex → rs.length = 2 := fun rs θ Φ Ex h => by
  unfold sp__law_mix at h
  split at h
  all_goals first
    | rfl
    | exact h.elim

theorem rd__law_mix : ∀ rs θ Φ Ex, sp__law_mix rs θ Φ Ex → T__law_mix { nx := fun _ θ' => Φ (.d .none) θ', rt := Φ, ex := fun xd _ θ' => Ex xd θ' } (startR 4 rs) θ := by
  intro rs θ Φ Ex h
  unfold sp__law_mix at h
  split at h
  · rename_i c k
    obtain ⟨⟨k0, k1⟩, h⟩ := h
    unfold T__law_mix
    walk_at "rd"
    refine ⟨by decide, by decide, by decide, ?_⟩
    have m0 := Int.emod_nonneg k (show (13 : Int) ≠ 0 by decide)
    have m1 := Int.emod_lt_of_pos k (show (0 : Int) < 13 by decide)
    generalize k % 13 = r at m0 m1
    have cases13 : ∃ z : Int, atI [PyData.int 48271, PyData.int 69621, PyData.int 16807, PyData.int 39373, PyData.int 30269, PyData.int 40014, PyData.int 40692, PyData.int 50021, PyData.int 61687, PyData.int 71993, PyData.int 83869, PyData.int 95561, PyData.int 30307] r = some (.int z) ∧ 0 ≤ z ∧ z < 100000 := by
      rcases (by omega : r = 0 ∨ r = 1 ∨ r = 2 ∨ r = 3 ∨ r = 4 ∨ r = 5 ∨ r = 6 ∨ r = 7 ∨ r = 8 ∨ r = 9 ∨ r = 10 ∨ r = 11 ∨ r = 12) with rfl | rfl | rfl | rfl | rfl | rfl | rfl | rfl | rfl | rfl | rfl | rfl | rfl <;> exact ⟨_, rfl, by decide, by decide⟩
    obtain ⟨z, ez, z0, z1⟩ := cases13
    rw [ez]
    simp only []
    have c0 := Int.emod_nonneg c (show (2147483647 : Int) ≠ 0 by decide)
    have c1 := Int.emod_lt_of_pos c (show (0 : Int) < 2147483647 by decide)
    generalize c % 2147483647 = y at c0 c1
    have q0 : (0 : Int) ≤ k / 13 := Int.ediv_nonneg k0 (by decide)
    have q1 : k / 13 ≤ k := Int.ediv_le_self 13 k0
    generalize k / 13 = q at q0 q1
    refine ⟨bits_ok (pow_low (by omega)) (pow_low (by omega)), bits_ok (pow_low (by omega)) (pow_low (by omega)), ⟨by decide, by decide⟩, bits_ok (pow_low (by omega)) (pow_low (by omega)), by decide, ?_⟩
    generalize (y + 12345) * z + 977 * k + 7919 * q = s
    have s0 := Int.emod_nonneg s (show (1000000007 : Int) ≠ 0 by decide)
    have s1 := Int.emod_lt_of_pos s (show (0 : Int) < 1000000007 by decide)
    generalize s % 1000000007 = t at s0 s1
    refine ⟨bits_ok (pow_low (by omega)) (pow_low (by omega)), bits_ok (pow_low (by omega)) (pow_low (by omega)), by decide, ⟨by decide, by decide⟩, ?_⟩
    generalize t * t + 48271 * k = u
    have u0 := Int.emod_nonneg u (show (1000000007 : Int) ≠ 0 by decide)
    have u1 := Int.emod_lt_of_pos u (show (0 : Int) < 1000000007 by decide)
    generalize u % 1000000007 = o at u0 u1
    exact h _ (Int.ediv_nonneg u0 (by decide)) (Int.lt_of_le_of_lt (Int.ediv_le_self 7 u0) u1)
  · exact h.elim

def sp__law_box : DSp := fun rs θ Φ _ => match rs with
  | [.seq ds, .d (.int k)] => isInts ds ∧ 0 ≤ k ∧ ∀ (p : Addr) (n : Int), p ∉ θ.map (·.1) → Φ (.own p) ((p, [.int n]) :: θ)
  | _ => False
theorem grow {n v i : Nat} (h : n < 2 ^ (30 * (i + 1))) (hv : v < 1000000007) : n * 142857143 + v < 2 ^ (30 * (i + 1 + 1)) := by
  have e : 2 ^ (30 * (i + 1 + 1)) = 2 ^ (30 * (i + 1)) * 2 ^ 30 := by
    rw [← Nat.pow_add]
    congr 1
  rw [e]
  have h1 : n * 142857143 + v < (n + 1) * 2 ^ 30 := by
    have : (2 : Nat) ^ 30 = 1073741824 := by decide
    rw [this, Nat.add_mul]
    have : n * 142857143 ≤ n * 1073741824 := Nat.mul_le_mul_left n (by decide)
    omega
  exact Nat.lt_of_lt_of_le h1 (Nat.mul_le_mul_right _ h)

def T__law_box : DTS := (dSeq (dSet 2 (dFn0 sp__law_cell (dCons (dVar 0) (dCons (dVar 1) dNil)))) (dSeq (dIfS (dTest (dOp fEq (dOp fMod (dVar 2) (dC (.int 2))) (dC (.int 0)))) (dRet (dLstO (dCons (dOp fDiv (dCall fAbs (dCons (dVar 2) dNil)) (dC (.int 2))) dNil))) dNext) (dSeq (dSet 3 (dC (.int 0))) (dSeq (dFor (dItR1 (dCons (dC (.int 40)) dNil)) (gN 4) (dSet 3 (dOp fAdd (dOp fMul (dVar 3) (dC (.int 142857143))) (dFn0 sp__law_mix (dCons (dVar 2) (dCons (dVar 4) dNil)))))) (dRet (dLstO (dCons (dVar 3) dNil)))))))

theorem ln__law_box : ∀ rs θ Φ Ex, sp__law_box rs θ Φ Ex → rs.length = 2 := fun rs θ Φ Ex h => by
  unfold sp__law_box at h
  split at h
  all_goals first
    | rfl
    | exact h.elim

theorem rd__law_box : ∀ rs θ Φ Ex, sp__law_box rs θ Φ Ex → T__law_box { nx := fun _ θ' => Φ (.d .none) θ', rt := Φ, ex := fun xd _ θ' => Ex xd θ' } (startR 5 rs) θ := by
  intro rs θ Φ Ex h
  unfold sp__law_box at h
  split at h
  · rename_i ds k
    obtain ⟨hi, h0, h⟩ := h
    unfold T__law_box
    walk_at "rd"
    simp only [sp__law_cell]
    refine ⟨hi, h0, fun v => ?_⟩
    refine ⟨by decide, eqOk_int _, eqOk_int _, ?_⟩
    refine ite_b _ (fun _ => ?_) (fun _ => ?_)
    · exact ⟨⟨by decide, by decide⟩, by decide, fun p hp => h p _ hp⟩
    · refine ⟨rOk_of (by decide) (by decide), ?_⟩
      refine forD_inv (fun i ρ θ1 => θ1 = θ ∧ ∃ (n : Nat) (x : Option RV), n < 2 ^ (30 * (i + 1)) ∧ ρ = [some (.seq ds), some (.d (.int k)), some (.d (.int v)), some (.d (.int (n : Int))), x]) _ 0 _ θ (fun j d e ρ θ1 K hI hK => ?_) (fun ρ θ1 hI => ?_) ⟨rfl, 0, none, by decide, rfl⟩
      · obtain ⟨rfl, n, x, hn, rfl⟩ := hI
        have ed := rangeD_get e
        have jl : j < 40 := by
          have := (List.getElem?_eq_some_iff.mp e).1
          rw [rangeD_length] at this
          simpa using this
        subst ed
        walk_at "rd"
        have hb : (30 * (0 + j + 1)) ≤ 2000 := by omega
        refine ⟨bits_ok (Nat.lt_of_lt_of_le hn (Nat.pow_le_pow_right (by decide) hb)) (pow_low (by decide)), ?_⟩
        simp only [sp__law_mix]
        refine ⟨⟨by omega, by omega⟩, fun v2 v0 v1 => hK _ _ ⟨rfl, n * 142857143 + v2.toNat, some (.d (.int (0 + ((j : Nat) : Int)))), grow hn (by omega), ?_⟩⟩
        obtain ⟨w, rfl⟩ := Int.eq_ofNat_of_zero_le v0
        rw [Int.toNat_natCast]
        have : ((n * 142857143 + w : Nat) : Int) = (n : Int) * 142857143 + (w : Int) := by simp
        rw [this]
      · obtain ⟨rfl, n, x, hn, rfl⟩ := hI
        walk_at "rd"
        exact ⟨by decide, fun p hp => h p _ hp⟩
  · exact h.elim

def sp__law_take : DSp := fun rs θ Φ _ => match rs with
  | [.own a, .d (.int m)] => (0 < m ∧ m < 1000000000) ∧ Boxed θ a ∧ ∀ (d : Int) (θ' : Th), 0 ≤ d → d < m → Chg a θ θ' → Φ (.d (.int d)) θ'
  | _ => False

def T__law_take : DTS := (dSeq (dAsg (dCall fDivmod (dCons (dOp fIx (dVar 0) (dC (.int 0))) (dCons (dVar 1) dNil))) (gT (gsCons (gN 2) (gsCons (gN 3) gsNil)))) (dSeq (dSetIx (dVar 2) (dVar 0) (dC (.int 0))) (dRet (dVar 3))))

theorem ln__law_take : ∀ rs θ Φ Ex, sp__law_take rs θ Φ Ex → rs.length = 2 := fun rs θ Φ Ex h => by
  unfold sp__law_take at h
  split at h
  all_goals first
    | rfl
    | exact h.elim

theorem rd__law_take : ∀ rs θ Φ Ex, sp__law_take rs θ Φ Ex → T__law_take { nx := fun _ θ' => Φ (.d .none) θ', rt := Φ, ex := fun xd _ θ' => Ex xd θ' } (startR 4 rs) θ := by
  intro rs θ Φ Ex h
  unfold sp__law_take at h
  split at h
  · rename_i a m
    obtain ⟨hm, ⟨n, e⟩, h⟩ := h
    unfold T__law_take
    walk_at "rd"
    simp only [e]
    have e0 : atI [PyData.int n] 0 = some (.int n) := rfl
    simp only [e0]
    refine ⟨hm, ⟨by decide, by show (0 : Int) < ((1 : Nat) : Int); decide⟩, ?_⟩
    exact h _ _ (Int.emod_nonneg n (by omega)) (Int.emod_lt_of_pos n hm.1) (.inr ⟨_, rfl⟩)
  · exact h.elim

def sp__law_truth : DSp := fun rs θ Φ _ => match rs with
  | [.d (.bool a), .d (.bool b)] => Φ (.d (.bool (a == b))) θ
  | _ => False

def T__law_truth : DTS := (dRet (dAndV (dIsi isBoolD (dVar 0)) (dOp fEq (dVar 0) (dVar 1))))

theorem ln__law_truth : ∀ rs θ Φ Ex, sp__law_truth rs θ Φ Ex → rs.length = 2 := fun rs θ Φ Ex h => by
  unfold sp__law_truth at h
  split at h
  all_goals first
    | rfl
    | exact h.elim

theorem rd__law_truth : ∀ rs θ Φ Ex, sp__law_truth rs θ Φ Ex → T__law_truth { nx := fun _ θ' => Φ (.d .none) θ', rt := Φ, ex := fun xd _ θ' => Ex xd θ' } (startR 2 rs) θ := by
  intro rs θ Φ Ex h
  unfold sp__law_truth at h
  split at h
  · rename_i a b
    unfold T__law_truth
    walk_at "rd"
    simp only [isBoolD, if_true]
    exact ⟨eqOk_bool _, eqOk_bool _, h⟩
  · exact h.elim

theorem list_nil_eqv (ds : List D) : PyData.eqv (.list ds) (.list []) = ds.isEmpty := by
  cases ds <;> rfl
theorem sgs_low {ls : List Nat} {m : Nat} (h : ∀ c ∈ ls, 97 ≤ c ∧ c < 97 + m) (hm : m ≤ 6) : ∀ c ∈ ls, c < 128 := fun c hc => by
  have := h c hc
  omega
/-- one sign is taken from the list's place d, and put behind the text -/
theorem draw_one {ls : List Nat} {f : Str} {d : Nat} {c : Nat} (h : ls[d]? = some c) : (∀ x, (x ∈ (f ++ (⟨#[c]⟩ : Str)).cps.toList ∨ x ∈ ls.eraseIdx d) ↔ (x ∈ f.cps.toList ∨ x ∈ ls)) ∧ (f ++ (⟨#[c]⟩ : Str)).length = f.length + 1 ∧ (ls.eraseIdx d).length + 1 = ls.length := by
  have e : (f ++ (⟨#[c]⟩ : Str)).cps.toList = f.cps.toList ++ [c] := by
    show (f.cps ++ #[c]).toList = _
    simp
  have hd : d < ls.length := (List.getElem?_eq_some_iff.mp h).1
  have p : (c :: ls.eraseIdx d).Perm ls := L2.erase_perm ls d c h
  refine ⟨fun x => ?_, ?_, ?_⟩
  · rw [e, List.mem_append, ← p.mem_iff, List.mem_cons (a := x) (b := c) (l := ls.eraseIdx d), List.mem_singleton]
    constructor
    · rintro ((q | q) | q)
      · exact .inl q
      · exact .inr (.inl q)
      · exact .inr (.inr q)
    · rintro (q | q | q)
      · exact .inl (.inl q)
      · exact .inl (.inr q)
      · exact .inr q
  · show (f.cps ++ #[c]).size = f.cps.size + 1
    simp
  · have := p.length_eq
    simpa using this
theorem sg_at {ls : List Nat} {d : Nat} (h : d < ls.length) : ∃ c, ls[d]? = some c ∧ (ls.map sg)[d]? = some (sg c) := by
  refine ⟨ls[d], List.getElem?_eq_getElem h, ?_⟩
  rw [List.getElem?_map, List.getElem?_eq_getElem h]
  rfl
theorem erase_sgs (ls : List Nat) (d : Nat) : (ls.map sg).eraseIdx d = (ls.eraseIdx d).map sg := by
  induction ls generalizing d with
  | nil => rfl
  | cons c ls ih =>
    cases d with
    | zero => rfl
    | succ d =>
      show sg c :: (ls.map sg).eraseIdx d = _
      rw [ih]
      rfl

def sp__law_drawn_word : DSp := fun rs θ Φ _ => match rs with
  | [.own a, .d (.int m), .d (.int k)] => (1 ≤ m ∧ m ≤ 6) ∧ (0 ≤ k ∧ k ≤ 40) ∧ Boxed θ a ∧ ∀ (w : Str) (θ' : Th), made w m.toNat = true → w.length ≤ m.toNat + k.toNat → Chg a θ θ' → Φ (.d (.str w)) θ'
  | _ => False

def T__law_drawn_word : DTS := (dSeq (dSet 3 (dNewO (dListC (dCons (dSl (dC (.str "abcdef")) oNone (oSome (dVar 1)) fSl) dNil)))) (dSeq (dFor (dItR1 (dCons (dFn0 sp__law_take (dCons (dVar 0) (dCons (dOp fAdd (dVar 2) (dC (.int 1))) dNil))) dNil)) (gN 4) (dDrop (dAppend (dVar 3) (dOp fIx (dC (.str "abcdef")) (dFn0 sp__law_take (dCons (dVar 0) (dCons (dVar 1) dNil))))))) (dSeq (dSet 5 (dC (.str ""))) (dSeq (dWhile (dTest (dOp fNe (dVar 3) (dLst dNil))) (dSet 5 (dOp fAdd (dVar 5) (dPopAt (dVar 3) (dFn0 sp__law_take (dCons (dVar 0) (dCons (dCall fLen (dCons (dVar 3) dNil)) dNil))))))) (dRetF (dVar 5))))))

theorem ln__law_drawn_word : ∀ rs θ Φ Ex, sp__law_drawn_word rs θ Φ Ex → rs.length = 3 := fun rs θ Φ Ex h => by
  unfold sp__law_drawn_word at h
  split at h
  all_goals first
    | rfl
    | exact h.elim

theorem rd__law_drawn_word : ∀ rs θ Φ Ex, sp__law_drawn_word rs θ Φ Ex → T__law_drawn_word { nx := fun _ θ' => Φ (.d .none) θ', rt := Φ, ex := fun xd _ θ' => Ex xd θ' } (startR 6 rs) θ := by
  intro rs θ Φ Ex h
  unfold sp__law_drawn_word at h
  split at h
  · rename_i a m k
    obtain ⟨⟨m1, m6⟩, ⟨k0, k40⟩, hb, h⟩ := h
    obtain ⟨m, rfl⟩ := Int.eq_ofNat_of_zero_le (show 0 ≤ m by omega)
    obtain ⟨k, rfl⟩ := Int.eq_ofNat_of_zero_le k0
    simp only [Int.toNat_natCast] at h
    unfold T__law_drawn_word
    walk_at "rd"
    refine ⟨abc_small, ?_, fun p hp => ?_⟩
    · exact Nat.le_trans (cutS_length _ _ _) abc_small
    have pa : p ≠ a := fun e => hp (e ▸ hb.key)
    have e1 : signsD (cutS ("abcdef" : Str) none (some (m : Int))) = (letters m).map sg := by rw [signsD_eq, abc_take (by omega)]
    rw [e1]
    simp only [sp__law_take]
    refine ⟨⟨by omega, by omega⟩, hb.under pa, fun d θq d0 d1 gq => ?_⟩
    obtain ⟨θ1, rfl, g1⟩ := gq.under pa
    refine ⟨rOk_of d0 (by omega), ?_⟩
    have ll : (letters m).length = m := by
      unfold letters
      simp
    refine forD_inv (fun i ρ θ2 => ∃ (ls : List Nat) (θ3 : Th) (x : Option RV), θ2 = (p, ls.map sg) :: θ3 ∧ Chg a θ θ3 ∧ (∀ c, c ∈ ls ↔ 97 ≤ c ∧ c < 97 + m) ∧ ls.length ≤ m + i ∧ ρ = [some (.own a), some (.d (.int (m : Int))), some (.d (.int (k : Int))), some (.own p), x, none]) _ 0 _ _ (fun j e ed ρ θ2 K hI hK => ?_) (fun ρ θ2 hI => ?_)
      ⟨letters m, θ1, none, rfl, g1, fun c => mem_letters, by omega, rfl⟩
    · obtain ⟨ls, θ3, x, rfl, g3, hm, hl, rfl⟩ := hI
      have jl : j < d.toNat := by
        have := (List.getElem?_eq_some_iff.mp ed).1
        rw [rangeD_length] at this
        simpa using this
      have pk : p ∉ θ3.map (·.1) := by rw [g3.keys]; exact hp
      walk_at "rd"
      simp only [lookup_top, sp__law_take]
      refine ⟨⟨by omega, by omega⟩, (g3.boxed hb).under pa, fun i θq i0 i1 gq => ?_⟩
      obtain ⟨θ4, rfl, g4⟩ := gq.under pa
      rw [abc_item ⟨i0, by omega⟩]
      simp only [lookup_top]
      have g5 := g3.trans g4
      have pk4 : p ∉ θ4.map (·.1) := by rw [g5.keys]; exact hp
      refine ⟨abc_small, ?_, ?_⟩
      · show (ls.map sg).length ≤ 1000000
        rw [List.length_map]
        omega
      · rw [thSet_top pk4]
        refine hK _ _ ⟨ls ++ [97 + i.toNat], θ4, _, ?_, g5, fun c => ?_, ?_, rfl⟩
        · rw [List.map_append]
          rfl
        · rw [List.mem_append, List.mem_singleton, hm c]
          constructor
          · rintro (q | rfl)
            · exact q
            · omega
          · exact .inl
        · rw [List.length_append, List.length_singleton]
          omega
    · obtain ⟨ls, θ3, x, rfl, g3, hm, hl, rfl⟩ := hI
      rw [rangeD_length] at hl
      walk_at "rd"
      unfold dWhile
      refine ⟨fun n ρ θ2 => ∃ (ls : List Nat) (f : Str) (θ3 : Th), n = ls.length ∧ θ2 = (p, ls.map sg) :: θ3 ∧ Chg a θ θ3 ∧ (∀ c, (c ∈ f.cps.toList ∨ c ∈ ls) ↔ 97 ≤ c ∧ c < 97 + m) ∧ f.length + ls.length ≤ m + k ∧ ρ = [some (.own a), some (.d (.int (m : Int))), some (.d (.int (k : Int))), some (.own p), x, some (.d (.str f))],
        ⟨ls.length, ls, ("" : Str), θ3, rfl, rfl, g3, fun c => ?_, ?_, rfl⟩, fun n ρ θ2 hI => ?_⟩
      · have : ¬ c ∈ ("" : Str).cps.toList := by
          rw [show ("" : Str).cps.toList = [] from by decide +kernel]
          exact fun z => by cases z
        rw [← hm c]
        exact ⟨fun z => z.resolve_left this, .inr⟩
      · have : ("" : Str).length = 0 := by decide +kernel
        omega
      · obtain ⟨ls, f, θ3, rfl, rfl, g3, hm, hl, rfl⟩ := hI
        have low : ∀ c ∈ ls, 97 ≤ c ∧ c < 97 + m := fun c hc => (hm c).mp (.inr hc)
        have pk3 : p ∉ θ3.map (·.1) := by rw [g3.keys]; exact hp
        walk_at "rd"
        simp only [lookup_top]
        refine ⟨by decide, eqOk_sgs (sgs_low low (by omega)), eqOk_nil, ?_⟩
        rw [list_nil_eqv]
        refine ite_b _ (fun q => ?_) (fun q => ?_)
        · have hpos : 0 < ls.length := by
            cases ls with
            | nil => cases q
            | cons _ _ => simp
          simp only [sp__law_take, List.length_map]
          refine ⟨⟨by omega, by omega⟩, (g3.boxed hb).under pa, fun i θq i0 i1 gq => ?_⟩
          obtain ⟨θ4, rfl, g4⟩ := gq.under pa
          have g5 := g3.trans g4
          have pk4 : p ∉ θ4.map (·.1) := by rw [g5.keys]; exact hp
          obtain ⟨c, c1, c2⟩ := sg_at (ls := ls) (d := i.toNat) (by omega)
          simp only [lookup_top, List.length_map]
          refine ⟨⟨i0, i1, ?_⟩, ?_⟩
          · show ls.length ≤ 1000000
            omega
          · rw [c2]
            simp only []
            rw [thSet_top pk4, erase_sgs]
            obtain ⟨q1, q2, q3⟩ := draw_one (f := f) c1
            refine ⟨?_, (ls.eraseIdx i.toNat).length, by omega, ls.eraseIdx i.toNat, f ++ (⟨#[c]⟩ : Str), θ4, rfl, rfl, g5, fun z => by rw [q1 z]; exact hm z, by omega, rfl⟩
            have : (⟨#[c]⟩ : Str).length = 1 := rfl
            show f.length + (⟨#[c]⟩ : Str).length ≤ 1000000
            omega
        · have hz : ls = [] := by
            cases ls with
            | nil => rfl
            | cons _ _ => cases q
          subst hz
          refine ⟨_, _, .del p .refl, ?_⟩
          rw [thDel_top pk3]
          refine h f θ3 (made_iff.mpr fun c => ?_) (by simp at hl; omega) g3
          rw [← hm c]
          exact ⟨.inl, fun z => z.resolve_right (by simp)⟩
  · exact h.elim

def sp__law_even_word : DSp := fun rs θ Φ _ => match rs with
  | [.own a, .d (.int m), .d (.int k)] => (1 ≤ m ∧ m ≤ 6) ∧ (1 ≤ k ∧ k ≤ 2) ∧ Boxed θ a ∧ ∀ (w : Str) (θ' : Th), made w m.toNat = true → w.length ≤ 12 → Chg a θ θ' → Φ (.d (.str w)) θ'
  | _ => False
theorem rep_letters {k m : Nat} (hm : m ≤ 6) : (repS (k : Int) (cutS ("abcdef" : Str) none (some (m : Int)))).cps.toList = (List.replicate k (letters m)).flatten := by
  unfold repS
  rw [Int.toNat_natCast, abc_take hm]

def T__law_even_word : DTS := (dSeq (dSet 3 (dNewO (dListC (dCons (dOp fMul (dSl (dC (.str "abcdef")) oNone (oSome (dVar 1)) fSl) (dVar 2)) dNil)))) (dSeq (dSet 4 (dC (.str ""))) (dSeq (dWhile (dTest (dOp fNe (dVar 3) (dLst dNil))) (dSet 4 (dOp fAdd (dVar 4) (dPopAt (dVar 3) (dFn0 sp__law_take (dCons (dVar 0) (dCons (dCall fLen (dCons (dVar 3) dNil)) dNil))))))) (dRetF (dVar 4)))))

theorem ln__law_even_word : ∀ rs θ Φ Ex, sp__law_even_word rs θ Φ Ex → rs.length = 3 := fun rs θ Φ Ex h => by
  unfold sp__law_even_word at h
  split at h
  all_goals first
    | rfl
    | exact h.elim

theorem rd__law_even_word : ∀ rs θ Φ Ex, sp__law_even_word rs θ Φ Ex → T__law_even_word { nx := fun _ θ' => Φ (.d .none) θ', rt := Φ, ex := fun xd _ θ' => Ex xd θ' } (startR 5 rs) θ := by
  intro rs θ Φ Ex h
  unfold sp__law_even_word at h
  split at h
  · rename_i a m k
    obtain ⟨⟨m1, m6⟩, ⟨k1, k2⟩, hb, h⟩ := h
    obtain ⟨m, rfl⟩ := Int.eq_ofNat_of_zero_le (show 0 ≤ m by omega)
    obtain ⟨k, rfl⟩ := Int.eq_ofNat_of_zero_le (show 0 ≤ k by omega)
    simp only [Int.toNat_natCast] at h
    have ll : (letters m).length = m := by
      unfold letters
      simp
    unfold T__law_even_word
    walk_at "rd"
    have sl : (cutS ("abcdef" : Str) none (some (m : Int))).length ≤ 6 := by
      have := cutS_length ("abcdef" : Str) none (some (m : Int))
      rw [abc_len] at this
      exact this
    have rl : ((List.replicate k (letters m)).flatten).length = k * m := by simp [ll]
    have km : k * m ≤ 12 := by
      have : k * m ≤ 2 * 6 := Nat.mul_le_mul (by omega) (by omega)
      omega
    refine ⟨abc_small, ⟨by omega, by omega, by omega⟩, ?_, fun p hp => ?_⟩
    · show (repS (k : Int) _).cps.size ≤ 1000000
      rw [← Array.length_toList, rep_letters (by omega), rl]
      omega
    have pa : p ≠ a := fun e => hp (e ▸ hb.key)
    have e1 : signsD (repS (k : Int) (cutS ("abcdef" : Str) none (some (m : Int)))) = ((List.replicate k (letters m)).flatten).map sg := by rw [signsD_eq, rep_letters (by omega)]
    rw [e1]
    unfold dWhile
    refine ⟨fun n ρ θ2 => ∃ (ls : List Nat) (f : Str) (θ3 : Th), n = ls.length ∧ θ2 = (p, ls.map sg) :: θ3 ∧ Chg a θ θ3 ∧ (∀ c, (c ∈ f.cps.toList ∨ c ∈ ls) ↔ 97 ≤ c ∧ c < 97 + m) ∧ f.length + ls.length ≤ 12 ∧ ρ = [some (.own a), some (.d (.int (m : Int))), some (.d (.int (k : Int))), some (.own p), some (.d (.str f))],
      ⟨_, (List.replicate k (letters m)).flatten, ("" : Str), θ, rfl, rfl, .refl, fun c => ?_, ?_, rfl⟩, fun n ρ θ2 hI => ?_⟩
    · have : ¬ c ∈ ("" : Str).cps.toList := by
        rw [show ("" : Str).cps.toList = [] from by decide +kernel]
        exact fun z => by cases z
      rw [← mem_letters]
      constructor
      · intro z
        obtain ⟨l, hl, hc⟩ := List.mem_flatten.mp (z.resolve_left this)
        rw [(List.mem_replicate.mp hl).2] at hc
        exact hc
      · intro z
        exact .inr (List.mem_flatten.mpr ⟨letters m, List.mem_replicate.mpr ⟨by omega, rfl⟩, z⟩)
    · have : ("" : Str).length = 0 := by decide +kernel
      omega
    · obtain ⟨ls, f, θ3, rfl, rfl, g3, hm, hl, rfl⟩ := hI
      have low : ∀ c ∈ ls, 97 ≤ c ∧ c < 97 + m := fun c hc => (hm c).mp (.inr hc)
      have pk3 : p ∉ θ3.map (·.1) := by rw [g3.keys]; exact hp
      walk_at "rd"
      simp only [lookup_top]
      refine ⟨by decide, eqOk_sgs (sgs_low low (by omega)), eqOk_nil, ?_⟩
      rw [list_nil_eqv]
      refine ite_b _ (fun q => ?_) (fun q => ?_)
      · have hpos : 0 < ls.length := by
          cases ls with
          | nil => cases q
          | cons _ _ => simp
        simp only [sp__law_take, List.length_map]
        refine ⟨⟨by omega, by omega⟩, (g3.boxed hb).under pa, fun i θq i0 i1 gq => ?_⟩
        obtain ⟨θ4, rfl, g4⟩ := gq.under pa
        have g5 := g3.trans g4
        have pk4 : p ∉ θ4.map (·.1) := by rw [g5.keys]; exact hp
        obtain ⟨c, c1, c2⟩ := sg_at (ls := ls) (d := i.toNat) (by omega)
        simp only [lookup_top, List.length_map]
        refine ⟨⟨i0, i1, ?_⟩, ?_⟩
        · show ls.length ≤ 1000000
          omega
        · rw [c2]
          simp only []
          rw [thSet_top pk4, erase_sgs]
          obtain ⟨q1, q2, q3⟩ := draw_one (f := f) c1
          refine ⟨?_, (ls.eraseIdx i.toNat).length, by omega, ls.eraseIdx i.toNat, f ++ (⟨#[c]⟩ : Str), θ4, rfl, rfl, g5, fun z => by rw [q1 z]; exact hm z, by omega, rfl⟩
          have : (⟨#[c]⟩ : Str).length = 1 := rfl
          show f.length + (⟨#[c]⟩ : Str).length ≤ 1000000
          omega
      · have hz : ls = [] := by
          cases ls with
          | nil => rfl
          | cons _ _ => cases q
        subst hz
        refine ⟨_, _, .del p .refl, ?_⟩
        rw [thDel_top pk3]
        refine h f θ3 (made_iff.mpr fun c => ?_) (by simp at hl; omega) g3
        rw [← hm c]
        exact ⟨.inl, fun z => z.resolve_right (by simp)⟩
  · exact h.elim

def sp__law_turn : DSp := fun rs θ Φ _ => match rs with
  | [.d (.str x), .d (.int i), .d (.int j)] => (0 ≤ i ∧ i < 6) ∧ (0 ≤ j ∧ j < 6) ∧ (x.length ≤ 1000 ∧ ∀ c ∈ x.cps.toList, c < 128) ∧ Φ (.d (.bool (turns x i.toNat j.toNat))) θ
  | _ => False
/-- the places that are as the one ahead -/
def sameAt (l : List D) : D → Option D
  | .int k => match atI l k, atI l (k - 1) with
    | some x, some y => if PyData.eqv x y = true then some (.int k) else none
    | _, _ => none
  | _ => none
theorem atI_nat' {α : Type} (l : List α) (n : Nat) : atI l (n : Int) = l[n]? := by
  unfold atI ixN
  rw [if_pos (by omega)]
  by_cases h : (n : Int) < l.length
  · rw [if_pos h]
    show l[(n : Int).toNat]? = _
    rw [Int.toNat_natCast]
  · rw [if_neg h]
    show none = _
    exact (List.getElem?_eq_none (by omega)).symm
theorem range_ints {a b : Int} {d : D} (h : d ∈ rangeD a b) : ∃ k : Nat, d = .int (a + k) ∧ k < (b - a).toNat := by
  obtain ⟨i, hi⟩ := List.mem_iff_getElem?.mp h
  have hl := (List.getElem?_eq_some_iff.mp hi).1
  rw [rangeD_length] at hl
  exact ⟨i, rangeD_get hi, hl⟩
theorem sg_at1 {l : List Nat} {k : Nat} (h : k + 1 < l.length) : atI (l.map sg) (1 + (k : Int)) = some (sg l[k + 1]) := by
  have : (1 + (k : Int)) = ((k + 1 : Nat) : Int) := by omega
  rw [this, atI_nat', List.getElem?_map, List.getElem?_eq_getElem h]
  rfl
theorem sg_at0 {l : List Nat} {k : Nat} (h : k + 1 < l.length) : atI (l.map sg) (1 + (k : Int) - 1) = some (sg l[k]) := by
  have : (1 + (k : Int) - 1) = (k : Int) := by omega
  rw [this, atI_nat', List.getElem?_map, List.getElem?_eq_getElem (show k < l.length by omega)]
  rfl
theorem same_at {l : List Nat} {k : Nat} (h : k + 1 < l.length) : sameAt (l.map sg) (.int (1 + (k : Int))) = if l[k + 1] = l[k] then some (.int (1 + (k : Int))) else none := by
  simp only [sameAt, sg_at1 h, sg_at0 h, sg_eqv, decide_eq_true_eq]
theorem same_apart (l : List Nat) : ∃ ns : List Int, (rangeD 1 (l.length : Int)).filterMap (sameAt (l.map sg)) = ns.map PyData.int ∧ ns.isEmpty = apart l := by
  have allInts : ∀ ds : List D, (∀ d ∈ ds, ∃ k : Int, d = .int k) → ∃ ns : List Int, ds = ns.map PyData.int := by
    intro ds
    induction ds with
    | nil => intro _; exact ⟨[], rfl⟩
    | cons d ds ih =>
      intro h
      obtain ⟨k, rfl⟩ := h d List.mem_cons_self
      obtain ⟨ns, rfl⟩ := ih fun e he => h e (List.mem_cons_of_mem _ he)
      exact ⟨k :: ns, rfl⟩
  have form : ∀ d y, sameAt (l.map sg) d = some y → ∃ k, d = .int k ∧ y = .int k := by
    intro d y h
    cases d with
    | int k =>
      refine ⟨k, rfl, ?_⟩
      simp only [sameAt] at h
      split at h
      · split at h
        · exact (Option.some.inj h).symm
        · exact absurd h (by simp)
      · exact absurd h (by simp)
    | _ => exact absurd h (by simp [sameAt])
  obtain ⟨ns, e⟩ := allInts ((rangeD 1 (l.length : Int)).filterMap (sameAt (l.map sg))) fun d hd => by
    obtain ⟨e, _, he⟩ := List.mem_filterMap.mp hd
    obtain ⟨k, _, rfl⟩ := form _ _ he
    exact ⟨k, rfl⟩
  refine ⟨ns, e, ?_⟩
  have key : ns = [] ↔ apart l = true := by
    rw [apart_at]
    have e2 : ns = [] ↔ (rangeD 1 (l.length : Int)).filterMap (sameAt (l.map sg)) = [] := by
      rw [e]
      simp
    rw [e2, List.filterMap_eq_nil_iff]
    constructor
    · intro h k a b ha hb hab
      subst hab
      have hk : k + 1 < l.length := (List.getElem?_eq_some_iff.mp hb).1
      have := h (.int (1 + (k : Int))) (by
        unfold rangeD
        refine List.mem_map.mpr ⟨k, List.mem_range.mpr (by omega), rfl⟩)
      rw [same_at hk] at this
      have e1 := (List.getElem?_eq_some_iff.mp ha).2
      have e2 := (List.getElem?_eq_some_iff.mp hb).2
      rw [e1, e2, if_pos rfl] at this
      cases this
    · intro h d hd
      obtain ⟨k, rfl, hk⟩ := range_ints hd
      have h1 : k + 1 < l.length := by omega
      rw [same_at h1, if_neg]
      have := h k _ _ (List.getElem?_eq_getElem (show k < l.length by omega)) (List.getElem?_eq_getElem h1)
      exact fun q => this q.symm
  cases ha : apart l with
  | true =>
    rw [key.mpr ha]
    rfl
  | false =>
    cases ns with
    | nil =>
      have := key.mp rfl
      rw [ha] at this
      cases this
    | cons _ _ => rfl

def T__law_turn : DTS := (dSeq (dSet 3 (dNewP (dLc (dItS (dVar 0)) (gN 4) (dTest (dOp (fIn false) (dVar 4) (dTup (dCons (dOp fIx (dC (.str "abcdef")) (dVar 1)) (dCons (dOp fIx (dC (.str "abcdef")) (dVar 2)) dNil))))) (dVar 4) [4]))) (dRet (dOp fEq (dNewP (dLc (dItR2 (dCons (dC (.int 1)) (dCons (dCall fLen (dCons (dVar 3) dNil)) dNil))) (gN 5) (dTest (dOp fEq (dOp fIx (dVar 3) (dVar 5)) (dOp fIx (dVar 3) (dOp fSub (dVar 5) (dC (.int 1)))))) (dVar 5) [5])) (dLst dNil))))

theorem ln__law_turn : ∀ rs θ Φ Ex, sp__law_turn rs θ Φ Ex → rs.length = 3 := fun rs θ Φ Ex h => by
  unfold sp__law_turn at h
  split at h
  all_goals first
    | rfl
    | exact h.elim

theorem rd__law_turn : ∀ rs θ Φ Ex, sp__law_turn rs θ Φ Ex → T__law_turn { nx := fun _ θ' => Φ (.d .none) θ', rt := Φ, ex := fun xd _ θ' => Ex xd θ' } (startR 6 rs) θ := by
  intro rs θ Φ Ex h
  unfold sp__law_turn at h
  split at h
  · rename_i x i j
    obtain ⟨hi, hj, ⟨hl, hc⟩, h⟩ := h
    unfold T__law_turn
    walk_at "rd"
    unfold dLc
    walk_at "rd"
    refine lcD_map (fun d => if inD d [sg (97 + i.toNat), sg (97 + j.toNat)] = true then some d else none) (signsD x) [] (fun d hd k1 k0 hk => ?_) ?_ ?_
    · obtain ⟨c, _, rfl⟩ := List.mem_map.mp hd
      simp only [wipeR, unset]
      walk_at "rd"
      rw [abc_item hi, abc_item hj]
      refine ⟨abc_small, abc_small, ?_⟩
      simp only []
      refine ⟨by decide, ⟨rfl, rfl⟩, ?_⟩
      simp only [Bool.false_eq_true, if_false]
      revert hk
      cases inD (sg c) [sg (97 + i.toNat), sg (97 + j.toNat)] <;> exact fun hk => hk
    · rw [signsD_eq, List.length_map, Array.length_toList]
      have : x.cps.size ≤ 1000 := hl
      simp
      omega
    · have e : (signsD x).filterMap (fun d => if inD d [sg (97 + i.toNat), sg (97 + j.toNat)] = true then some d else none) = (only x i.toNat j.toNat).map sg := by
        rw [signsD_eq]
        exact filter_sgs _ _ (fun c => in_two c _ _) _
      rw [List.nil_append, e]
      have ol : (only x i.toNat j.toNat).length ≤ 1000 := by
        refine Nat.le_trans (List.length_filter_le _ _) ?_
        rw [Array.length_toList]
        exact hl
      have low : ∀ c ∈ only x i.toNat j.toNat, c < 128 := fun c hc2 => hc c (List.mem_filter.mp hc2).1
      unfold turns at h
      generalize only x i.toNat j.toNat = l at ol low h
      rw [List.length_map]
      refine ⟨rOk_of (by decide) (by decide), rOk_of (by omega) (by omega), ?_⟩
      obtain ⟨ns, en, ea⟩ := same_apart l
      refine lcD_map (sameAt (l.map sg)) (rangeD 1 (l.length : Int)) [] (fun d hd k1 k0 hk => ?_) ?_ ?_
      · obtain ⟨k, rfl, hk2⟩ := range_ints hd
        have h1 : k + 1 < l.length := by omega
        have at1 := sg_at1 h1
        have at0 := sg_at0 h1
        simp only [sameAt, at1, at0] at hk
        simp only [wipeR, unset]
        walk_at "rd"
        simp only [at1, at0]
        refine ⟨eqOk_sg (low _ (List.getElem_mem _)), eqOk_sg (low _ (List.getElem_mem _)), ?_⟩
        revert hk
        cases PyData.eqv (sg l[k + 1]) (sg l[k]) <;> exact fun hk => hk
      · rw [rangeD_length]
        simp
        omega
      · rw [List.nil_append, en]
        try walk_at "rd"
        refine ⟨by decide, eqOk_ints ns, eqOk_nil, ?_⟩
        rw [list_nil_eqv, List.isEmpty_map, ea]
        exact h
  · exact h.elim

end TlD
set_option Elab.async false
set_option linter.all false
set_option maxRecDepth 100000
set_option maxHeartbeats 4000000
namespace TlD
open PySem PySem.Spec PyProof.Rows L2 GxR TlG
local macro_rules | `(tactic| walk_at "rd") => `(tactic| simp only [dSeq, dSet, dAsg, dSetIx, dDrop, dIfS, dFor, dRet, dRetN, dRetF, dNext, dRaise, dVar, dC, dOp, dUn, dCall, dTest, dAnd, dOr, dNot, dAndV, dOrV, dNotV, dIf, dChain, dNil, dCons, dTup, dTup.allD, dLst, dLstO, dNewP, dNewO, dListC, dIsi, dFn0, dFn, dAll, dItT, dItL, dItS, dItR1, dItR2, dItZ, dSl, oNone, oSome, gN, gT, gsNil, gsCons, dSortSet, dRevS, nth, put, startR, fAdd, fSub, fMul, fDiv, fMod, fLt, fLe, fGt, fGe, fLtT, fEq, fNe, fIn, fIsN, fIsB, fLen, fIx, fSl, fTuple, fAbs, fMax, fMin, fDivmod, fStrI, dAppend, dPopAt, on2I, is1I, is2I, is2Z, on1, dat, asD, asB, asI, asS, onOwn, lenD, listD, ixD, List.length_cons, List.length_nil])

theorem lc2D_flat {G : DGt} {TT : DTT} {T1 : DTI} {G1 : DGt} {TT1 : DTT} {TE : DTE} {ρw : Rho} {vs1 : List Nat} {Φ : List D → Th → Prop} {θ : Th} (f : D → List D) : ∀ (items acc : List D),
    (∀ d ∈ items, ∀ (K : List D → Th → Prop) (acc : List D), acc.length + (f d).length ≤ 100000 → K (acc ++ f d) θ → G (.d d) ρw fun ρ1 => TT noEx ρ1 θ fun b θ1 => if b = true then T1 noEx ρ1 θ1 fun items1 θ2 => lcD G1 TT1 TE (wipeR ρ1 vs1) K items1 acc θ2 else K acc θ1) →
    acc.length + (items.flatMap f).length ≤ 100000 → Φ (acc ++ items.flatMap f) θ → lc2D G TT T1 G1 TT1 TE ρw vs1 Φ items acc θ
  | [], acc, _, _, h => by simpa [lc2D] using h
  | d :: ds, acc, hs, hl, h => by
    rw [List.flatMap_cons, List.length_append] at hl
    unfold lc2D
    refine hs d List.mem_cons_self (fun acc' θ' => lc2D G TT T1 G1 TT1 TE ρw vs1 Φ ds acc' θ') acc (by omega) ?_
    refine lc2D_flat f ds (acc ++ f d) (fun d' hd => hs d' (List.mem_cons_of_mem _ hd)) (by rw [List.length_append]; omega) ?_
    rw [List.append_assoc]
    rw [List.flatMap_cons] at h
    exact h
def pairs (m : Nat) : List (Int × Int) := (List.range m).flatMap fun a => (List.range (m - (a + 1))).map fun k => ((a : Int), ((a + 1 + k : Nat) : Int))
def rowD (m : Int) : D → List D
  | .int a => (rangeD (a + 1) m).map fun d => .tuple [.int a, d]
  | _ => []
theorem twos_pairs {m : Nat} (h : m ≤ 6) : (rangeD 0 (m : Int)).flatMap (rowD m) = (pairs m).map tieD := by
  rcases (by omega : m = 0 ∨ m = 1 ∨ m = 2 ∨ m = 3 ∨ m = 4 ∨ m = 5 ∨ m = 6) with rfl | rfl | rfl | rfl | rfl | rfl | rfl <;> rfl
theorem pairs_len {m : Nat} (h : m ≤ 6) : (pairs m).length ≤ 15 := by
  rcases (by omega : m = 0 ∨ m = 1 ∨ m = 2 ∨ m = 3 ∨ m = 4 ∨ m = 5 ∨ m = 6) with rfl | rfl | rfl | rfl | rfl | rfl | rfl <;> decide
theorem pairs_pw {m : Nat} (h : m ≤ 6) : (pairs m).Pairwise (fun p q => ltP p q = true) := by
  rcases (by omega : m = 0 ∨ m = 1 ∨ m = 2 ∨ m = 3 ∨ m = 4 ∨ m = 5 ∨ m = 6) with rfl | rfl | rfl | rfl | rfl | rfl | rfl <;> decide
theorem pairs_in {m : Nat} {p : Int × Int} (h : p ∈ pairs m) : ∃ a b : Nat, p = ((a : Int), (b : Int)) ∧ a < b ∧ b < m := by
  unfold pairs at h
  obtain ⟨a, ha, hp⟩ := List.mem_flatMap.mp h
  obtain ⟨k, hk, rfl⟩ := List.mem_map.mp hp
  have h1 := List.mem_range.mp ha
  have h2 := List.mem_range.mp hk
  exact ⟨a, a + 1 + k, rfl, by omega, by omega⟩
theorem in_pairs {m a b : Nat} (h1 : a < b) (h2 : b < m) : ((a : Int), (b : Int)) ∈ pairs m := by
  unfold pairs
  refine List.mem_flatMap.mpr ⟨a, List.mem_range.mpr (by omega), List.mem_map.mpr ⟨b - (a + 1), List.mem_range.mpr (by omega), ?_⟩⟩
  have : a + 1 + (b - (a + 1)) = b := by omega
  rw [this]
theorem pw_rising : ∀ {l : List (Int × Int)}, l.Pairwise (fun p q => ltP p q = true) → risingT l = true
  | [], _ => rfl
  | [_], _ => rfl
  | p :: q :: r, h => by
    obtain ⟨h1, h2⟩ := List.pairwise_cons.mp h
    show (ltP p q && risingT (q :: r)) = true
    rw [h1 q List.mem_cons_self, pw_rising h2]
    rfl
def webD (m : Nat) (l : List (Int × Int)) : D := .tuple [.int (m : Int), .tuple (l.map tieD)]
theorem tie_ok {a b m : Nat} (h1 : a < b) (h2 : b < m) : isTie (tieD ((a : Int), (b : Int))) (m : Int) = true := by
  simp only [isTie, tieD, isPlace, Bool.and_eq_true, decide_eq_true_eq]
  omega
theorem web_ok {m : Nat} {l : List (Int × Int)} (h1 : 1 ≤ m) (h6 : m ≤ 6) (hl : l.Sublist (pairs m)) : isWeb (webD m l) = true := by
  unfold webD isWeb
  simp only [Bool.and_eq_true]
  refine ⟨by simp [isMany]; omega, ?_, ?_⟩
  · rw [List.all_eq_true]
    intro t ht
    obtain ⟨p, hp, rfl⟩ := List.mem_map.mp ht
    obtain ⟨a, b, rfl, hab, hbm⟩ := pairs_in (hl.subset hp)
    exact tie_ok hab hbm
  · rw [tiesOf_map]
    exact pw_rising ((pairs_pw h6).sublist hl)
theorem flat_ties : ∀ l : List (Int × Int), flatDs (l.map tieD) = true
  | [] => rfl
  | p :: l => by
    show (flatD (tieD p) && flatDs (l.map tieD)) = true
    rw [flat_ties l]
    rfl
theorem lay_ties : ∀ l : List (Int × Int), PyData.canLayAll0 (l.map tieD) = true ∧ PyData.depthAll (l.map tieD) ≤ 1
  | [] => ⟨rfl, Nat.zero_le _⟩
  | p :: l => by
    obtain ⟨h1, h2⟩ := lay_ties l
    refine ⟨?_, ?_⟩
    · show (PyData.canLay0 (tieD p) && PyData.canLayAll0 (l.map tieD)) = true
      rw [h1]
      rfl
    · show max (PyData.depth (tieD p)) (PyData.depthAll (l.map tieD)) ≤ 1
      have : PyData.depth (tieD p) = 1 := rfl
      omega
theorem eqOk_ties (l : List (Int × Int)) : eqOk (.tuple (l.map tieD)) ∧ eqOk (.list (l.map tieD)) := by
  obtain ⟨h1, h2⟩ := lay_ties l
  constructor <;>
  · refine ⟨flat_ties l, ?_⟩
    unfold SeqAt.shaped
    rw [Bool.and_eq_true]
    refine ⟨h1, decide_eq_true ?_⟩
    show PyData.depthAll (l.map tieD) + 1 ≤ 64
    omega
theorem eqOk_tie (p : Int × Int) : eqOk (tieD p) := ⟨rfl, rfl⟩
theorem eqOk_webD (m : Int) (l : List (Int × Int)) : eqOk (.tuple [.int m, .tuple (l.map tieD)]) := by
  obtain ⟨h1, h2⟩ := lay_ties l
  have f := flat_ties l
  refine ⟨?_, ?_⟩
  · show (true && (flatDs (l.map tieD) && true)) = true
    rw [f]
    rfl
  · unfold SeqAt.shaped
    rw [Bool.and_eq_true]
    refine ⟨?_, decide_eq_true ?_⟩
    · show (true && (PyData.canLayAll0 (l.map tieD) && true)) = true
      rw [h1]
      rfl
    · show max 0 (max (PyData.depthAll (l.map tieD) + 1) 0) + 1 ≤ 64
      omega
theorem web_data {w : D} (h : isWeb w = true) : ∃ (m : Nat) (l : List (Int × Int)), w = webD m l ∧ 1 ≤ m ∧ m ≤ 6 := by
  unfold isWeb at h
  split at h
  · rename_i m ts
    simp only [Bool.and_eq_true] at h
    obtain ⟨h1, h2, h3⟩ := h
    simp only [isMany, Bool.and_eq_true, decide_eq_true_eq] at h1
    cases e : tiesOf ts with
    | none => rw [e] at h3; cases h3
    | some l =>
      obtain ⟨m, rfl⟩ := Int.eq_ofNat_of_zero_le (show 0 ≤ m by omega)
      exact ⟨m, l, by rw [tiesOf_eq e]; rfl, by omega, by omega⟩
  · cases h
theorem tie_eqv (p q : Int × Int) : PyData.eqv (tieD p) (tieD q) = decide (p = q) := by
  obtain ⟨a, b⟩ := p
  obtain ⟨c, d⟩ := q
  show ((a == c) && ((b == d) && true)) = _
  by_cases h1 : a = c <;> by_cases h2 : b = d <;> simp [h1, h2]
theorem ties_eqv : ∀ l k : List (Int × Int), PyData.eqvAll (l.map tieD) (k.map tieD) = decide (l = k)
  | [], [] => by simp [PyData.eqvAll]
  | [], q :: k => by simp [PyData.eqvAll]
  | p :: l, [] => by simp [PyData.eqvAll]
  | p :: l, q :: k => by
    show (PyData.eqv (tieD p) (tieD q) && PyData.eqvAll (l.map tieD) (k.map tieD)) = _
    rw [tie_eqv, ties_eqv l k]
    by_cases h : p = q <;> by_cases g : l = k <;> simp [h, g]
theorem web_eqv (m n : Nat) (l k : List (Int × Int)) : PyData.eqv (webD m l) (webD n k) = (decide (m = n) && decide (l = k)) := by
  show (((m : Int) == (n : Int)) && (PyData.eqvAll (l.map tieD) (k.map tieD) && true)) = _
  rw [ties_eqv, Bool.and_true]
  congr 1
  by_cases h : m = n
  · subst h
    simp
  · have : ((m : Int) == (n : Int)) = false := by
      simp
      omega
    rw [this]
    simp [h]
/-- the web that a text shows -/
def shown (x : Str) (m : Nat) : List (Int × Int) := (pairs m).filter fun p => turns x p.1.toNat p.2.toNat

def sp_check_number (E : Str → Addr) : DSp := fun rs θ Φ Ex => match rs with
  | [.d d, .d (.int a), .d (.int b)] => if isNum d a b = true then Φ (.d .none) θ else Ex (.plain (E "NoNumber")) θ
  | _ => False

def T_check_number (E : Str → Addr) : DTS := (dIfS (dNot (dTest (dFn0 sp_is_number (dCons (dVar 0) (dCons (dVar 1) (dCons (dVar 2) dNil)))))) (dRaise (E "NoNumber")) dNext)

theorem ln_check_number {E : Str → Addr} : ∀ rs θ Φ Ex, sp_check_number E rs θ Φ Ex → rs.length = 3 := fun rs θ Φ Ex h => by
  unfold sp_check_number at h
  split at h
  all_goals first
    | rfl
    | exact h.elim

theorem rd_check_number {E : Str → Addr} : ∀ rs θ Φ Ex, sp_check_number E rs θ Φ Ex → T_check_number E { nx := fun _ θ' => Φ (.d .none) θ', rt := Φ, ex := fun xd _ θ' => Ex xd θ' } (startR 3 rs) θ := by
  intro rs θ Φ Ex h
  unfold sp_check_number at h
  split at h
  · rename_i d a b
    unfold T_check_number
    walk_at "rd"
    simp only [sp_is_number, asB]
    cases e : isNum d a b <;> simpa [e] using h
  · exact h.elim

def sp_pairs_of : DSp := fun rs θ Φ _ => match rs with
  | [.d (.int m)] => (0 ≤ m ∧ m ≤ 6) ∧ Φ (.d (.list ((pairs m.toNat).map tieD))) θ
  | _ => False

def T_pairs_of : DTS := (dRet (dNewP (dLc2 (dItR1 (dCons (dVar 0) dNil)) (gN 1) dYes (dItR2 (dCons (dOp fAdd (dVar 1) (dC (.int 1))) (dCons (dVar 0) dNil))) (gN 2) dYes (dTup (dCons (dVar 1) (dCons (dVar 2) dNil))) [1, 2] [2])))

theorem ln_pairs_of : ∀ rs θ Φ Ex, sp_pairs_of rs θ Φ Ex → rs.length = 1 := fun rs θ Φ Ex h => by
  unfold sp_pairs_of at h
  split at h
  all_goals first
    | rfl
    | exact h.elim

theorem rd_pairs_of : ∀ rs θ Φ Ex, sp_pairs_of rs θ Φ Ex → T_pairs_of { nx := fun _ θ' => Φ (.d .none) θ', rt := Φ, ex := fun xd _ θ' => Ex xd θ' } (startR 3 rs) θ := by
  intro rs θ Φ Ex h
  unfold sp_pairs_of at h
  split at h
  · rename_i m
    obtain ⟨⟨h0, h6⟩, h⟩ := h
    obtain ⟨m, rfl⟩ := Int.eq_ofNat_of_zero_le h0
    rw [Int.toNat_natCast] at h
    unfold T_pairs_of
    walk_at "rd"
    unfold dLc2
    walk_at "rd"
    refine ⟨rOk_of (by omega) (by omega), ?_⟩
    refine lc2D_flat (rowD m) (rangeD 0 (m : Int)) [] (fun d hd K acc hl hK => ?_) ?_ ?_
    · obtain ⟨a, rfl, ha⟩ := range_ints hd
      simp only [wipeR, unset]
      walk_at "rd"
      simp only [dYes, if_true]
      refine ⟨rOk_of (by omega) (by omega), rOk_of (by omega) (by omega), ?_⟩
      refine lcD_map (fun d => some (.tuple [.int (0 + (a : Int)), d])) _ acc (fun d hd k1 k0 hk => ?_) ?_ ?_
      · obtain ⟨b, rfl, hb⟩ := range_ints hd
        simp only [wipeR, unset]
        walk_at "rd"
        simp only [dYes, if_true]
        exact ⟨by decide, hk⟩
      · rw [rangeD_length]
        have : (rowD (m : Int) (.int (0 + (a : Int)))).length = ((m : Int) - (0 + (a : Int) + 1)).toNat := by
          show ((rangeD _ _).map _).length = _
          rw [List.length_map, rangeD_length]
        omega
      · have : (rangeD (0 + (a : Int) + 1) (m : Int)).filterMap (fun d => some (PyData.tuple [.int (0 + (a : Int)), d])) = rowD (m : Int) (.int (0 + (a : Int))) := by
          show _ = (rangeD _ _).map _
          rw [← List.filterMap_eq_map]
          rfl
        rw [this]
        exact hK
    · have hm : m ≤ 6 := by omega
      rw [twos_pairs hm, List.length_map]
      have := pairs_len hm
      simp
      omega
    · rw [List.nil_append, twos_pairs (by omega)]
      exact h
  · exact h.elim

def sp_turned_web (E : Str → Addr) : DSp := fun rs θ Φ Ex => match rs with
  | [.d d, .d x] => okText x ∧ if isMany d = true then (if hasLetters x (intOf d).toNat = true then Φ (.d (webD (intOf d).toNat (shown (strOf x) (intOf d).toNat))) θ else Ex (.plain (E "NoWord")) θ) else Ex (.plain (E "NoNumber")) θ
  | _ => False
theorem many_form {d : D} (h : isMany d = true) : ∃ m : Nat, d = .int (m : Int) ∧ 1 ≤ m ∧ m ≤ 6 := by
  unfold isMany at h
  split at h
  · rename_i i
    rw [Bool.and_eq_true, decide_eq_true_eq, decide_eq_true_eq] at h
    obtain ⟨m, rfl⟩ := Int.eq_ofNat_of_zero_le (show 0 ≤ i by omega)
    exact ⟨m, rfl, by omega, by omega⟩
  · cases h
theorem filter_ties (p : Int × Int → Bool) : ∀ l : List (Int × Int), (l.map tieD).filterMap (fun d => match d with | .tuple [.int a, .int b] => if p (a, b) = true then some (.tuple [.int a, .int b]) else none | _ => none) = (l.filter p).map tieD
  | [] => rfl
  | q :: l => by
    obtain ⟨a, b⟩ := q
    rw [List.map_cons, List.filterMap_cons, List.filter_cons, filter_ties p l]
    simp only [tieD]
    cases p (a, b) <;> rfl

def T_turned_web (E : Str → Addr) : DTS := (dSeq (dDrop (dFn (sp_check_number E) (dCons (dVar 0) (dCons (dC (.int 1)) (dCons (dC (.int 6)) dNil))))) (dSeq (dDrop (dFn (sp_check_word E) (dCons (dVar 1) (dCons (dVar 0) dNil)))) (dRet (dTup (dCons (dVar 0) (dCons (dCall fTuple (dCons (dNewP (dLc (dItL (dFn0 sp_pairs_of (dCons (dVar 0) dNil))) (gT (gsCons (gN 2) (gsCons (gN 3) gsNil))) (dTest (dFn0 sp_turns_in (dCons (dVar 1) (dCons (dVar 2) (dCons (dVar 3) dNil))))) (dTup (dCons (dVar 2) (dCons (dVar 3) dNil))) [2, 3])) dNil)) dNil))))))

theorem ln_turned_web {E : Str → Addr} : ∀ rs θ Φ Ex, sp_turned_web E rs θ Φ Ex → rs.length = 2 := fun rs θ Φ Ex h => by
  unfold sp_turned_web at h
  split at h
  all_goals first
    | rfl
    | exact h.elim

theorem rd_turned_web {E : Str → Addr} : ∀ rs θ Φ Ex, sp_turned_web E rs θ Φ Ex → T_turned_web E { nx := fun _ θ' => Φ (.d .none) θ', rt := Φ, ex := fun xd _ θ' => Ex xd θ' } (startR 4 rs) θ := by
  intro rs θ Φ Ex h
  unfold sp_turned_web at h
  split at h
  · rename_i d x
    obtain ⟨ht, h⟩ := h
    unfold T_turned_web
    walk_at "rd"
    simp only [sp_check_number, num_many]
    cases e1 : isMany d with
    | false => simpa [e1] using h
    | true =>
      obtain ⟨m, rfl, h1, h6⟩ := many_form e1
      have em : (intOf (.int (m : Int))).toNat = m := Int.toNat_natCast m
      rw [em] at h
      simp only [e1, if_true, Bool.not_true, Bool.false_eq_true, if_false, sp_check_word, Int.toNat_natCast] at h ⊢
      refine ⟨⟨by omega, by omega⟩, ht, ?_⟩
      cases e2 : hasLetters x m with
      | false => simpa [e2] using h
      | true =>
        simp only [e2, if_true] at h ⊢
        cases x with
        | str x =>
          unfold dLc
          walk_at "rd"
          simp only [sp_pairs_of, Int.toNat_natCast]
          refine ⟨⟨by omega, by omega⟩, ?_⟩
          refine lcD_map _ _ [] (fun d hd k1 k0 hk => ?_) ?_ (by
            rw [List.nil_append, filter_ties (fun p => turns x p.1.toNat p.2.toNat)]
            exact ⟨by decide, h⟩)
          · obtain ⟨p, hp, rfl⟩ := List.mem_map.mp hd
            obtain ⟨a, b, rfl, hab, hbm⟩ := pairs_in hp
            simp only [wipeR, unset, tieD]
            walk_at "rd"
            simp only [sp_turns_in]
            refine ⟨⟨by omega, by omega⟩, ⟨by omega, by omega⟩, ⟨by have := ht.1; omega, ht.2⟩, ?_⟩
            refine ite_b _ (fun q => ?_) (fun q => ?_)
            · simp only [tieD, q, if_true] at hk
              exact ⟨by decide, hk⟩
            · simp only [tieD, q, Bool.false_eq_true, if_false] at hk
              exact hk
          · have := pairs_len (show m ≤ 6 by omega)
            rw [List.length_map]
            simp
            omega
        | _ => simp [hasLetters] at e2
  · exact h.elim

def sp_shows (E : Str → Addr) : DSp := fun rs θ Φ Ex => match rs with
  | [.d w, .d x] => okText x ∧ if isWeb w = true then (if hasLetters x (manyOf w).toNat = true then Φ (.d (.bool (PyData.eqv (webD (manyOf w).toNat (shown (strOf x) (manyOf w).toNat)) w))) θ else Ex (.plain (E "NoWord")) θ) else Ex (.plain (E "NoWeb")) θ
  | _ => False

def T_shows (E : Str → Addr) : DTS := (dSeq (dDrop (dFn (sp_check_web E) (dCons (dVar 0) dNil))) (dRet (dOp fEq (dFn (sp_turned_web E) (dCons (dOp fIx (dVar 0) (dC (.int 0))) (dCons (dVar 1) dNil))) (dVar 0))))

theorem ln_shows {E : Str → Addr} : ∀ rs θ Φ Ex, sp_shows E rs θ Φ Ex → rs.length = 2 := fun rs θ Φ Ex h => by
  unfold sp_shows at h
  split at h
  all_goals first
    | rfl
    | exact h.elim

theorem rd_shows {E : Str → Addr} : ∀ rs θ Φ Ex, sp_shows E rs θ Φ Ex → T_shows E { nx := fun _ θ' => Φ (.d .none) θ', rt := Φ, ex := fun xd _ θ' => Ex xd θ' } (startR 2 rs) θ := by
  intro rs θ Φ Ex h
  unfold sp_shows at h
  split at h
  · rename_i w x
    obtain ⟨ht, h⟩ := h
    unfold T_shows
    walk_at "rd"
    simp only [sp_check_web]
    cases e1 : isWeb w with
    | false => simpa [e1] using h
    | true =>
      obtain ⟨m, l, rfl, h1, h6⟩ := web_data e1
      have e0 : atI [PyData.int (m : Int), .tuple (l.map tieD)] 0 = some (.int (m : Int)) := rfl
      have em : (manyOf (webD m l)).toNat = m := Int.toNat_natCast m
      have ei : (intOf (.int (m : Int))).toNat = m := Int.toNat_natCast m
      have im : isMany (.int (m : Int)) = true := by
        simp [isMany]
        omega
      rw [em] at h
      simp only [e1, if_true] at h ⊢
      unfold webD at h ⊢
      simp only [e0, sp_turned_web, im, ei, if_true]
      refine ⟨ht, ?_⟩
      cases e2 : hasLetters x m with
      | false => simpa [e2] using h
      | true =>
        simp only [e2, if_true] at h ⊢
        exact ⟨eqOk_webD _ _, eqOk_webD _ _, h⟩
  · exact h.elim

def sp_is_word (E : Str → Addr) : DSp := fun rs θ Φ Ex => match rs with
  | [.d x, .d w] => okText x ∧ if isWeb w = true then Φ (.d (.bool (hasLetters x (manyOf w).toNat))) θ else Ex (.plain (E "NoWeb")) θ
  | _ => False

def T_is_word (E : Str → Addr) : DTS := (dSeq (dDrop (dFn (sp_check_web E) (dCons (dVar 1) dNil))) (dRet (dFn0 sp_has_letters (dCons (dVar 0) (dCons (dOp fIx (dVar 1) (dC (.int 0))) dNil)))))

theorem ln_is_word {E : Str → Addr} : ∀ rs θ Φ Ex, sp_is_word E rs θ Φ Ex → rs.length = 2 := fun rs θ Φ Ex h => by
  unfold sp_is_word at h
  split at h
  all_goals first
    | rfl
    | exact h.elim

theorem rd_is_word {E : Str → Addr} : ∀ rs θ Φ Ex, sp_is_word E rs θ Φ Ex → T_is_word E { nx := fun _ θ' => Φ (.d .none) θ', rt := Φ, ex := fun xd _ θ' => Ex xd θ' } (startR 2 rs) θ := by
  intro rs θ Φ Ex h
  unfold sp_is_word at h
  split at h
  · rename_i x w
    obtain ⟨ht, h⟩ := h
    unfold T_is_word
    walk_at "rd"
    simp only [sp_check_web]
    cases e1 : isWeb w with
    | false => simpa [e1] using h
    | true =>
      obtain ⟨m, l, rfl, h1, h6⟩ := web_data e1
      have e0 : atI [PyData.int (m : Int), .tuple (l.map tieD)] 0 = some (.int (m : Int)) := rfl
      have em : (manyOf (webD m l)).toNat = m := Int.toNat_natCast m
      rw [em] at h
      simp only [e1, if_true] at h ⊢
      unfold webD
      simp only [e0, sp_has_letters, Int.toNat_natCast]
      exact ⟨⟨by omega, by omega⟩, ht, h⟩
  · exact h.elim

def sp__law_twos : DSp := fun rs θ Φ _ => match rs with
  | [.d (.int m)] => (0 ≤ m ∧ m ≤ 6) ∧ Φ (.d (.list ((pairs m.toNat).map tieD))) θ
  | _ => False
theorem flat_snoc {α β : Type} (f : α → List β) (l : List α) (i : Nat) (d : α) (h : l[i]? = some d) : (l.take (i + 1)).flatMap f = (l.take i).flatMap f ++ f d := by
  rw [List.take_succ, h]
  simp
theorem flat_take_le {α β : Type} (f : α → List β) (l : List α) (i : Nat) : ((l.take i).flatMap f).length ≤ (l.flatMap f).length := by
  have : l.flatMap f = (l.take i).flatMap f ++ (l.drop i).flatMap f := by
    rw [← List.flatMap_append, List.take_append_drop]
  rw [this, List.length_append]
  omega

def T__law_twos : DTS := (dSeq (dSet 1 (dLst dNil)) (dSeq (dFor (dItR1 (dCons (dVar 0) dNil)) (gN 2) (dSet 1 (dOp fAdd (dVar 1) (dNewP (dLc (dItR2 (dCons (dOp fAdd (dVar 2) (dC (.int 1))) (dCons (dVar 0) dNil))) (gN 3) dYes (dTup (dCons (dVar 2) (dCons (dVar 3) dNil))) [3]))))) (dRet (dVar 1))))

theorem ln__law_twos : ∀ rs θ Φ Ex, sp__law_twos rs θ Φ Ex → rs.length = 1 := fun rs θ Φ Ex h => by
  unfold sp__law_twos at h
  split at h
  all_goals first
    | rfl
    | exact h.elim

theorem rd__law_twos : ∀ rs θ Φ Ex, sp__law_twos rs θ Φ Ex → T__law_twos { nx := fun _ θ' => Φ (.d .none) θ', rt := Φ, ex := fun xd _ θ' => Ex xd θ' } (startR 4 rs) θ := by
  intro rs θ Φ Ex h
  unfold sp__law_twos at h
  split at h
  · rename_i m
    obtain ⟨⟨h0, h6⟩, h⟩ := h
    obtain ⟨m, rfl⟩ := Int.eq_ofNat_of_zero_le h0
    rw [Int.toNat_natCast] at h
    have hm : m ≤ 6 := by omega
    unfold T__law_twos
    walk_at "rd"
    refine ⟨by decide, rOk_of (by omega) (by omega), ?_⟩
    have tot : ((rangeD 0 (m : Int)).flatMap (rowD m)).length ≤ 15 := by
      rw [twos_pairs hm, List.length_map]
      exact pairs_len hm
    refine forD_inv (fun i ρ θ1 => θ1 = θ ∧ ∃ x y, ρ = [some (.d (.int (m : Int))), some (.d (.list (((rangeD 0 (m : Int)).take i).flatMap (rowD m)))), x, y]) _ 0 _ _ (fun j d ed ρ θ1 K hI hK => ?_) (fun ρ θ1 hI => ?_) ⟨rfl, none, none, by simp⟩
    · obtain ⟨rfl, x, y, rfl⟩ := hI
      have ed2 := rangeD_get ed
      have jl : j < m := by
        have := (List.getElem?_eq_some_iff.mp ed).1
        rw [rangeD_length] at this
        omega
      subst ed2
      rw [Nat.zero_add] at hK ⊢
      have step := flat_snoc (rowD (m : Int)) _ j _ ed
      have le := flat_take_le (rowD (m : Int)) (rangeD 0 (m : Int)) (j + 1)
      walk_at "rd"
      unfold dLc
      walk_at "rd"
      refine ⟨rOk_of (by omega) (by omega), rOk_of (by omega) (by omega), ?_⟩
      refine lcD_map (fun d => some (.tuple [.int (0 + (j : Int)), d])) _ [] (fun d hd k1 k0 hk => ?_) ?_ ?_
      · obtain ⟨b, rfl, hb⟩ := range_ints hd
        simp only [wipeR, unset]
        walk_at "rd"
        simp only [dYes, if_true]
        exact ⟨by decide, hk⟩
      · rw [rangeD_length]
        simp
        omega
      · have er : (rangeD (0 + (j : Int) + 1) (m : Int)).filterMap (fun d => some (PyData.tuple [.int (0 + (j : Int)), d])) = rowD (m : Int) (.int (0 + (j : Int))) := by
          show _ = (rangeD _ _).map _
          rw [← List.filterMap_eq_map]
          rfl
        rw [List.nil_append, er]
        rw [step, List.length_append] at le
        refine ⟨?_, hK _ _ ⟨rfl, some (.d (.int (0 + (j : Int)))), y, ?_⟩⟩
        · show (((rangeD 0 (m : Int)).take j).flatMap (rowD (m : Int))).length + (rowD (m : Int) (.int (0 + (j : Int)))).length ≤ 1000000
          omega
        · rw [step]
    · obtain ⟨rfl, x, y, rfl⟩ := hI
      walk_at "rd"
      rw [Nat.zero_add, List.take_length, twos_pairs hm]
      exact h
  · exact h.elim

end TlD
set_option Elab.async false
set_option linter.all false
set_option maxRecDepth 100000
set_option maxHeartbeats 4000000
namespace TlD
open PySem PySem.Spec PyProof.Rows L2 GxR TlG
local macro_rules | `(tactic| walk_at "rd") => `(tactic| simp only [dSeq, dSet, dAsg, dSetIx, dDrop, dIfS, dFor, dRet, dRetN, dRetF, dNext, dRaise, dVar, dC, dOp, dUn, dCall, dTest, dAnd, dOr, dNot, dAndV, dOrV, dNotV, dIf, dChain, dNil, dCons, dTup, dTup.allD, dLst, dLstO, dNewP, dNewO, dListC, dIsi, dFn0, dFn, dAll, dItT, dItL, dItS, dItR1, dItR2, dItZ, dSl, oNone, oSome, gN, gT, gsNil, gsCons, dSortSet, dRevS, nth, put, startR, fAdd, fSub, fMul, fDiv, fMod, fLt, fLe, fGt, fGe, fLtT, fEq, fNe, fIn, fIsN, fIsB, fLen, fIx, fSl, fTuple, fAbs, fMax, fMin, fDivmod, fStrI, dAppend, dPopAt, on2I, is1I, is2I, is2Z, on1, dat, asD, asB, asI, asS, onOwn, lenD, listD, ixD, List.length_cons, List.length_nil])

def sp__law_drawn_web : DSp := fun rs θ Φ _ => match rs with
  | [.own a, .d (.int k)] => (1 ≤ k ∧ k ≤ 6) ∧ Boxed θ a ∧ ∀ (m : Nat) (l : List (Int × Int)) (θ' : Th), 1 ≤ m → m ≤ k.toNat → l.Sublist (pairs m) → Chg a θ θ' → Φ (.d (webD m l)) θ'
  | _ => False
theorem take_step {a : Addr} {m : Int} {θ : Th} {Φ : RK} {Ex : XD → Th → Prop} (h0 : 0 < m) (h1 : m < 1000000000) (hb : Boxed θ a) (k : ∀ (d : Int) (θ' : Th), 0 ≤ d → d < m → Chg a θ θ' → Φ (.d (.int d)) θ') : sp__law_take [.own a, .d (.int m)] θ Φ Ex := ⟨⟨h0, h1⟩, hb, k⟩
theorem six_at (b0 b1 b2 b3 b4 b5 : Bool) {k : Int} (h0 : 0 ≤ k) (h6 : k < 6) : ∃ b, atI [PyData.bool b0, .bool b1, .bool b2, .bool b3, .bool b4, .bool b5] k = some (.bool b) := by
  rcases (by omega : k = 0 ∨ k = 1 ∨ k = 2 ∨ k = 3 ∨ k = 4 ∨ k = 5) with rfl | rfl | rfl | rfl | rfl | rfl <;> exact ⟨_, rfl⟩
theorem six_some {b0 b1 b2 b3 b4 b5 : Bool} {k : Int} {x : D} (e : atI [PyData.bool b0, .bool b1, .bool b2, .bool b3, .bool b4, .bool b5] k = some x) (h0 : 0 ≤ k) (h6 : k < 6) : ∃ b, x = .bool b := by
  obtain ⟨b, eb⟩ := six_at b0 b1 b2 b3 b4 b5 h0 h6
  rw [eb] at e
  exact ⟨b, (Option.some.inj e).symm⟩
theorem six_none {b0 b1 b2 b3 b4 b5 : Bool} {k : Int} (e : atI [PyData.bool b0, .bool b1, .bool b2, .bool b3, .bool b4, .bool b5] k = none) (h0 : 0 ≤ k) (h6 : k < 6) : False := by
  obtain ⟨b, eb⟩ := six_at b0 b1 b2 b3 b4 b5 h0 h6
  rw [eb] at e
  cases e

def B__law_drawn_web_1 : DTS := (dSeq (dSet 6 (dFn0 sp__law_take (dCons (dVar 0) (dCons (dC (.int 3)) dNil)))) (dSeq (dSet 7 (dLst (dCons (dOp fGt (dVar 6) (dC (.int 0))) (dCons (dOp fEq (dVar 6) (dC (.int 0))) (dCons (dC (.bool true)) (dCons (dOp (fIn false) (dOp fSub (dOp fIx (dVar 5) (dC (.int 1))) (dOp fIx (dVar 5) (dC (.int 0)))) (dTup (dCons (dC (.int 1)) (dCons (dOp fSub (dVar 2) (dC (.int 1))) dNil)))) (dCons (dOrV (dOp fEq (dOp fIx (dVar 5) (dC (.int 0))) (dC (.int 0))) (dOp fGt (dVar 6) (dC (.int 0)))) (dCons (dOp fLt (dVar 6) (dC (.int 2))) dNil)))))))) (dIfS (dTest (dOp fIx (dVar 7) (dVar 3))) (dDrop (dAppend (dVar 4) (dVar 5))) dNext)))

def T__law_drawn_web : DTS := (dSeq (dSet 2 (dOp fAdd (dC (.int 1)) (dFn0 sp__law_take (dCons (dVar 0) (dCons (dVar 1) dNil))))) (dSeq (dSet 3 (dFn0 sp__law_take (dCons (dVar 0) (dCons (dC (.int 6)) dNil)))) (dSeq (dSet 4 (dLstO dNil)) (dSeq (dFor (dItL (dFn0 sp__law_twos (dCons (dVar 2) dNil))) (gN 5) B__law_drawn_web_1) (dRetF (dTup (dCons (dVar 2) (dCons (dCall fTuple (dCons (dVar 4) dNil)) dNil))))))))

theorem ln__law_drawn_web : ∀ rs θ Φ Ex, sp__law_drawn_web rs θ Φ Ex → rs.length = 2 := fun rs θ Φ Ex h => by
  unfold sp__law_drawn_web at h
  split at h
  all_goals first
    | rfl
    | exact h.elim

theorem rd__law_drawn_web : ∀ rs θ Φ Ex, sp__law_drawn_web rs θ Φ Ex → T__law_drawn_web { nx := fun _ θ' => Φ (.d .none) θ', rt := Φ, ex := fun xd _ θ' => Ex xd θ' } (startR 8 rs) θ := by
  intro rs θ Φ Ex h
  unfold sp__law_drawn_web at h
  split at h
  · rename_i a k
    obtain ⟨⟨k1, k6⟩, hb, h⟩ := h
    unfold T__law_drawn_web
    walk_at "rd"
    simp only [sp__law_take]
    refine ⟨⟨by omega, by omega⟩, hb, fun d θ1 d0 d1 g1 => ⟨⟨by decide, by decide⟩, g1.boxed hb, fun kind θ2 e0 e6 g2 => ?_⟩⟩
    obtain ⟨m, em⟩ := Int.eq_ofNat_of_zero_le (show 0 ≤ 1 + d by omega)
    rw [em]
    have hm1 : 1 ≤ m := by omega
    have hmk : m ≤ k.toNat := by omega
    have hm6 : m ≤ 6 := by omega
    have g3 := g1.trans g2
    have b3 := g3.boxed hb
    refine ⟨by decide, fun p hp => ?_⟩
    have hp2 : p ∉ θ.map (·.1) := by
      rw [← g3.keys]
      exact hp
    have pa : p ≠ a := fun e => hp2 (e ▸ hb.key)
    simp only [sp__law_twos, Int.toNat_natCast]
    refine ⟨⟨by omega, by omega⟩, ?_⟩
    refine forD_inv (fun i ρ θ4 => ∃ (l : List (Int × Int)) (θ5 : Th) (x y z : Option RV), θ4 = (p, l.map tieD) :: θ5 ∧ Chg a θ θ5 ∧ l.Sublist ((pairs m).take i) ∧ ρ = [some (.own a), some (.d (.int k)), some (.d (.int (m : Int))), some (.d (.int kind)), some (.own p), x, y, z]) _ 0 _ _ (fun j d ed ρ θ4 K hI hK => ?_) (fun ρ θ4 hI => ?_) ⟨[], θ2, none, none, none, rfl, g3, List.nil_sublist _, rfl⟩
    · obtain ⟨l, θ5, x, y, z, rfl, g5, sl, rfl⟩ := hI
      rw [Nat.zero_add] at sl hK
      rw [List.getElem?_map] at ed
      cases ep : (pairs m)[j]? with
      | none => rw [ep] at ed; cases ed
      | some q =>
        rw [ep] at ed
        cases ed
        obtain ⟨u, v, rfl, huv, hvm⟩ := pairs_in (List.mem_of_getElem? ep)
        have pk : p ∉ θ5.map (·.1) := by rw [g5.keys]; exact hp2
        have et : (pairs m).take (j + 1) = (pairs m).take j ++ [((u : Int), (v : Int))] := by
          rw [List.take_succ, ep]
          rfl
        simp only [tieD]
        unfold B__law_drawn_web_1
        simp only [gN, put, dSeq, dSet, dFn0, dCons, dNil, dVar, dC, nth]
        refine take_step (a := a) (m := 3) (by decide) (by decide) ((g5.boxed hb).under pa) fun dg θq c0 c1 gq => ?_
        obtain ⟨θ6, rfl, g6⟩ := gq.under pa
        walk_at "rd"
        have i0 : atI [PyData.int (u : Int), .int (v : Int)] 0 = some (.int (u : Int)) := rfl
        have i1 : atI [PyData.int (u : Int), .int (v : Int)] 1 = some (.int (v : Int)) := rfl
        simp only [i0, i1]
        refine ⟨eqOk_int _, eqOk_int _, by decide, ⟨rfl, rfl⟩, eqOk_int _, eqOk_int _, ?_⟩
        have g7 := g5.trans g6
        have pk6 : p ∉ θ6.map (·.1) := by rw [g7.keys]; exact hp2
        have more : (l ++ [((u : Int), (v : Int))]).Sublist ((pairs m).take (j + 1)) := by
          rw [et]
          exact sl.append (List.Sublist.refl _)
        have less : l.Sublist ((pairs m).take (j + 1)) := by
          rw [et]
          exact sl.trans (List.sublist_append_left _ _)
        have sm : (l.map tieD).length ≤ 1000000 := by
          have q1 := sl.length_le
          have q2 := pairs_len hm6
          have q3 := List.length_take_le j (pairs m)
          rw [List.length_map]
          have q4 : ((pairs m).take j).length ≤ (pairs m).length := by
            rw [List.length_take]
            omega
          omega
        refine ite_b _ (fun _ => ?_) (fun _ => ?_)
        all_goals
          refine ⟨by show (6 : Nat) ≤ 1000; decide, ?_⟩
          split
          · rename_i x heq
            obtain ⟨b, rfl⟩ := six_some heq e0 e6
            simp only [lookup_top]
            refine ite_b _ (fun _ => ⟨sm, ?_⟩) (fun _ => ?_)
            · rw [thSet_top pk6]
              refine hK _ _ ⟨l ++ [((u : Int), (v : Int))], θ6, _, _, _, ?_, g7, more, rfl⟩
              rw [List.map_append]
              rfl
            · exact hK _ _ ⟨l, θ6, _, _, _, rfl, g7, less, rfl⟩
          · rename_i heq
            exact (six_none heq e0 e6).elim
    · obtain ⟨l, θ5, x, y, z, rfl, g5, sl, rfl⟩ := hI
      have pk : p ∉ θ5.map (·.1) := by rw [g5.keys]; exact hp2
      walk_at "rd"
      simp only [lookup_top]
      refine ⟨by decide, _, _, .del p .refl, ?_⟩
      rw [thDel_top pk]
      rw [Nat.zero_add, List.length_map, List.take_length] at sl
      exact h m l θ5 hm1 hmk sl g5
  · exact h.elim

end TlD
set_option Elab.async false
set_option linter.all false
set_option maxRecDepth 100000
set_option maxHeartbeats 4000000
namespace TlD
open PySem PySem.Spec PyProof.Rows L2 GxR TlG
section
variable {c : Cn} {X : Cx}
/-! ### x in t at any depth -/
def rInT (K : PySem.W.Frag) : R2 := fun x y H Q => ∃ d ds, Dp K H x d ∧ Dp K H y (.tuple ds) ∧ SeqAt.shaped d = true ∧ SeqAt.shaped (.tuple ds) = true ∧ Q (.bl (ds.any fun z => PyData.eqv z d)) H
def rNotInT (K : PySem.W.Frag) : R2 := fun x y H Q => ∃ d ds, Dp K H x d ∧ Dp K H y (.tuple ds) ∧ SeqAt.shaped d = true ∧ SeqAt.shaped (.tuple ds) = true ∧ Q (.bl (!ds.any fun z => PyData.eqv z d)) H
theorem op_inT (hu : X.A.units + 65 < cLine) : OpR X (compareOp .In) (rInT X.K) := by
  intro pins s σ H x y v u Q I rx ry ⟨d, ds, hd, he, sd, se, q⟩
  obtain ⟨as, r1⟩ := Dp.reads I d x v hd rx
  obtain ⟨bs, r2⟩ := Dp.reads I (.tuple ds) y u he ry
  exact SeqAt.in_tuple_reads r2 r1 (SeqAt.canLay_of_shaped se) (SeqAt.canLay_of_shaped sd) (room_in_shaped sd hu) ⟨.bl _, H, I, rfl, q⟩
theorem op_notInT (hu : X.A.units + 65 < cLine) : OpR X (compareOp .NotIn) (rNotInT X.K) := by
  intro pins s σ H x y v u Q I rx ry ⟨d, ds, hd, he, sd, se, q⟩
  obtain ⟨as, r1⟩ := Dp.reads I d x v hd rx
  obtain ⟨bs, r2⟩ := Dp.reads I (.tuple ds) y u he ry
  exact SeqAt.notIn_tuple_reads r2 r1 (SeqAt.canLay_of_shaped se) (SeqAt.canLay_of_shaped sd) (room_in_shaped sd hu) ⟨.bl _, H, I, rfl, q⟩
def fInT (neg : Bool) : DOp := fun x y θ Φ => dat x θ fun d => dat y θ fun e => match e with
  | .tuple ds => eqOk d ∧ eqOk (.tuple ds) ∧ Φ (.d (.bool (if neg then !(ds.any fun z => PyData.eqv z d) else ds.any fun z => PyData.eqv z d))) θ
  | _ => False
theorem sim_inT : SimR c (rInT c.K) (fInT false) := fun Zh F0 σ H ρ θ x y rx ry Φ Q S dx dy h k => by
  obtain ⟨d, hd, h⟩ := dat_of S.hs dx h
  obtain ⟨e, he, h⟩ := dat_of S.hs dy h
  split at h
  · obtain ⟨o1, o2, h⟩ := h
    exact ⟨d, _, hd.dp o1.1, he.dp o2.1, o1.2, o2.2, kB S k h⟩
  · exact h.elim
theorem sim_notInT : SimR c (rNotInT c.K) (fInT true) := fun Zh F0 σ H ρ θ x y rx ry Φ Q S dx dy h k => by
  obtain ⟨d, hd, h⟩ := dat_of S.hs dx h
  obtain ⟨e, he, h⟩ := dat_of S.hs dy h
  split at h
  · obtain ⟨o1, o2, h⟩ := h
    exact ⟨d, _, hd.dp o1.1, he.dp o2.1, o1.2, o2.2, kB S k h⟩
  · exact h.elim
/-! ### all of a list of truths -/
def fAllL : DCl := fun rs θ Φ => on1 rs fun r => dat r θ fun d => ∃ bs : List Bool, d = .list (bs.map PyData.bool) ∧ Φ (.d (.bool (bs.all id))) θ
theorem dq_bools {K : PySem.W.Frag} {F : Hp} : ∀ {bs : List Bool} {vs : List V}, DqAll K F vs (bs.map PyData.bool) → vs = bs.map V.bl
  | [], _, .nil => rfl
  | b :: bs, _, .cons h t => by
    cases h
    rw [dq_bools t]
    rfl
theorem sim_allL : SimC c (rAll c.K) fAllL := fun Zh F0 σ H ρ θ xs rs Φ Q S dx h k => by
  obtain ⟨v, r, rfl, dv, h⟩ := on1_of dx h
  obtain ⟨d, hd, bs, rfl, h⟩ := dat_of S.hs dv h
  obtain ⟨a, vs, rfl, h1, h2⟩ := hd.list
  have e := dq_bools h2
  subst e
  exact ⟨a, bs, rfl, h1, kB S k h⟩
/-! ### a chain of two, of three comparisons, as a test -/
theorem dt_chain {op op' : CmpOp} {r r' : R2} {f f' : DOp} {x y z : Expr} {ta tb tc : TE} {Ta Tb Tc : DTE} {pos : Pos} (ho : OpR X (compareOp op) r) (ho' : OpR X (compareOp op') r') (hr : SimR c r f) (hr' : SimR c r' f') (ha : DE c X x ta Ta) (hb : DE c X y tb Tb) (hc : DE c X z tc Tc)
    (hm : lastMarks [op, op'] [y, z] = false := by with_unfolding_all rfl) : DT c X (.Compare x [op, op'] [y, z] pos) (tTest (tChain r r' ta tb tc)) (dTest (dChain f f' Ta Tb Tc)) :=
  ⟨pt_chain ho ho' ha.pe hb.pe hc.pe hm, sim_test (de_chain ho ho' hr hr' ha hb hc hm (pos := pos)).sim⟩
def tChain3 (r r' r'' : R2) (ta tb tc td : TE) : TT := fun σ H Q => ta σ H fun x H1 => tb σ H1 fun y H2 => r x y H2 fun z H3 => ∃ k, z = .bl k ∧
  (if k = true then tc σ H3 fun w H4 => r' y w H4 fun z' H5 => ∃ k', z' = .bl k' ∧ (if k' = true then td σ H5 fun t H6 => r'' w t H6 fun z'' H7 => ∃ k'', z'' = .bl k'' ∧ Q k'' H7 else Q false H5) else Q false H3)
theorem pt_chain3 {op op' op'' : CmpOp} {r r' r'' : R2} {e1 e2 e3 e4 : Expr} {ta tb tc td : TE} {pos : Pos} (o1 : OpR X (compareOp op) r) (o2 : OpR X (compareOp op') r') (o3 : OpR X (compareOp op'') r'') (h1 : PE X e1 ta) (h2 : PE X e2 tb) (h3 : PE X e3 tc) (h4 : PE X e4 td)
    (hm : lastMarks [op, op', op''] [e2, e3, e4] = false := by with_unfolding_all rfl) : PT X (.Compare e1 [op, op', op''] [e2, e3, e4] pos) (tChain3 r r' r'' ta tb tc td) := by
  refine ⟨fun pins s σ H Q I h => ?_⟩
  refine isTrue_chain (thn (h1.run pins s σ H _ I h) fun v s1 ⟨x, H1, I1, r1, q1⟩ => test_link (thn (h2.run pins s1 σ H1 _ I1 q1) fun u s2 ⟨y, H2, I2, r2, q2⟩ => thn (o1 pins s2 σ H2 x y v u _ I2 r1 r2 q2) fun d s3 ⟨z, H3, I3, rz, k, e, q3⟩ => ?_)) hm
  subst e
  cases rz
  refine wpAny_truthy_bool ?_
  cases k with
  | false => exact ite_ff ⟨H3, I3, q3⟩
  | true =>
    refine ite_tt (test_link (thn (h3.run pins s3 σ H3 _ I3 q3) fun w s4 ⟨y', H4, I4, r4, q4⟩ => thn (o2 pins s4 σ H4 y y' u w _ I4 r2 r4 q4) fun d' s5 ⟨z', H5, I5, rz', k', e', q5⟩ => ?_))
    subst e'
    cases rz'
    refine wpAny_truthy_bool ?_
    cases k' with
    | false => exact ite_ff ⟨H5, I5, q5⟩
    | true =>
      refine ite_tt (test_last (thn (h4.run pins s5 σ H5 _ I5 q5) fun t s6 ⟨y'', H6, I6, r6, q6⟩ => thn (o3 pins s6 σ H6 y' y'' w t _ I6 r4 r6 q6) fun d'' s7 ⟨z'', H7, I7, rz'', k'', e'', q7⟩ => ?_))
      subst e''
      cases rz''
      exact wpAny_truthy_bool ⟨H7, I7, q7⟩
def dChain3 (f f' f'' : DOp) (Ta Tb Tc Td : DTE) : DTT := fun Ex ρ θ Φ => Ta Ex ρ θ fun x θ1 => Tb Ex ρ θ1 fun y θ2 => f x y θ2 fun z θ3 => asB z fun b => if b = true then Tc Ex ρ θ3 fun w θ4 => f' y w θ4 fun z' θ5 => asB z' fun b' =>
  if b' = true then Td Ex ρ θ5 fun t θ6 => f'' w t θ6 fun z'' θ7 => asB z'' fun b'' => Φ b'' θ7 else Φ false θ5 else Φ false θ3
theorem dt_chain3 {op op' op'' : CmpOp} {r r' r'' : R2} {f f' f'' : DOp} {e1 e2 e3 e4 : Expr} {ta tb tc td : TE} {Ta Tb Tc Td : DTE} {pos : Pos} (o1 : OpR X (compareOp op) r) (o2 : OpR X (compareOp op') r') (o3 : OpR X (compareOp op'') r'') (q1 : SimR c r f) (q2 : SimR c r' f') (q3 : SimR c r'' f'')
    (h1 : DE c X e1 ta Ta) (h2 : DE c X e2 tb Tb) (h3 : DE c X e3 tc Tc) (h4 : DE c X e4 td Td) (hm : lastMarks [op, op', op''] [e2, e3, e4] = false := by with_unfolding_all rfl) :
    DT c X (.Compare e1 [op, op', op''] [e2, e3, e4] pos) (tChain3 r r' r'' ta tb tc td) (dChain3 f f' f'' Ta Tb Tc Td) := by
  refine ⟨pt_chain3 o1 o2 o3 h1.pe h2.pe h3.pe h4.pe hm, fun Zh F0 Ex L σ H ρ θ Φ Q S h k => ?_⟩
  refine h1.sim Zh F0 Ex L σ H ρ θ _ _ S h fun v r1 H1 θ1 S1 m1 d1 g1 => ?_
  refine h2.sim Zh F0 Ex L σ H1 ρ θ1 _ _ S1 g1 fun w r2 H2 θ2 S2 m2 d2 g2 => ?_
  refine q1 Zh F0 σ H2 ρ θ2 v w r1 r2 _ _ S2 (d1.mono m2) d2 g2 fun z r3 H3 θ3 S3 m3 d3 g3 => ?_
  obtain ⟨b, rfl, g3⟩ := asB_of d3 g3
  refine ⟨b, rfl, ?_⟩
  cases b with
  | false =>
    simp only [Bool.false_eq_true, if_false] at g3 ⊢
    exact k false H3 θ3 S3 (m1.trans (m2.trans m3)) g3
  | true =>
    simp only [if_true] at g3 ⊢
    refine h3.sim Zh F0 Ex L σ H3 ρ θ3 _ _ S3 g3 fun t r4 H4 θ4 S4 m4 d4 g4 => ?_
    refine q2 Zh F0 σ H4 ρ θ4 w t r2 r4 _ _ S4 (d2.mono (m3.trans m4)) d4 g4 fun z' r5 H5 θ5 S5 m5 d5 g5 => ?_
    obtain ⟨b', rfl, g5⟩ := asB_of d5 g5
    refine ⟨b', rfl, ?_⟩
    have m05 := m1.trans (m2.trans (m3.trans (m4.trans m5)))
    cases b' with
    | false =>
      simp only [Bool.false_eq_true, if_false] at g5 ⊢
      exact k false H5 θ5 S5 m05 g5
    | true =>
      simp only [if_true] at g5 ⊢
      refine h4.sim Zh F0 Ex L σ H5 ρ θ5 _ _ S5 g5 fun u r6 H6 θ6 S6 m6 d6 g6 => ?_
      refine q3 Zh F0 σ H6 ρ θ6 t u r4 r6 _ _ S6 (d4.mono (m5.trans m6)) d6 g6 fun z'' r7 H7 θ7 S7 m7 d7 g7 => ?_
      obtain ⟨b'', rfl, g7⟩ := asB_of d7 g7
      exact ⟨b'', rfl, k b'' H7 θ7 S7 (m05.trans (m6.trans m7)) g7⟩
end
end TlD
set_option Elab.async false
set_option linter.all false
set_option maxRecDepth 100000
set_option maxHeartbeats 4000000
namespace TlD
open PySem PySem.Spec PyProof.Rows L2 GxR TlG
section
variable {c : Cn} {X : Cx}
/-! ### pairs of small numbers, sorted -/
def smallP (p : Int × Int) : Prop := (0 ≤ p.1 ∧ p.1 < 64) ∧ 0 ≤ p.2 ∧ p.2 < 64
abbrev duo (p : Int × Int) : List Int := [p.1, p.2]
theorem smallP.bd {p : Int × Int} (h : smallP p) : TS.Bd 64 (duo p) := fun n hn => by
  rcases List.mem_cons.mp hn with rfl | hn
  · exact h.1
  · rcases List.mem_cons.mp hn with rfl | hn
    · exact h.2
    · cases hn
theorem duo_inj {p q : Int × Int} (h : duo p = duo q) : p = q := by
  injection h with h1 h2
  injection h2 with h2 _
  exact Prod.ext h1 h2
theorem dq_duo {K : PySem.W.Frag} {F : Hp} {v : V} {p : Int × Int} (h : Dq K F v (tieD p)) : ∃ a, v = .ref a ∧ SqT K F a ((duo p).map V.int) := by
  unfold tieD at h
  cases h with
  | tup hs ha =>
    cases ha with
    | cons h1 h2 =>
      cases h2 with
      | cons h3 h4 =>
        cases h4
        cases h1
        cases h3
        exact ⟨_, rfl, hs⟩
theorem duo_dq {K : PySem.W.Frag} {F : Hp} {a : Addr} {p : Int × Int} (h : SqT K F a ((duo p).map V.int)) : Dq K F (.ref a) (tieD p) := .tup h (.cons (.int _) (.cons (.int _) .nil))
theorem duos {K : PySem.W.Frag} {F : Hp} : ∀ {l : List (Int × Int)} {vs : List V}, DqAll K F vs (l.map tieD) → ∃ ks : List (Addr × List Int), vs = ks.map (fun q => V.ref q.1) ∧ ks.map (·.2) = l.map duo ∧ ∀ q ∈ ks, SqT K F q.1 (q.2.map V.int)
  | [], _, .nil => ⟨[], rfl, rfl, fun _ h => nomatch h⟩
  | p :: l, _, .cons h t => by
    obtain ⟨a, rfl, hs⟩ := dq_duo h
    obtain ⟨ks, rfl, e, hk⟩ := duos t
    refine ⟨(a, duo p) :: ks, rfl, by rw [List.map_cons, List.map_cons, e], fun q hq => ?_⟩
    rcases List.mem_cons.mp hq with rfl | hq
    · exact hs
    · exact hk q hq
theorem duos_back {K : PySem.W.Frag} {F : Hp} : ∀ {L : List (Addr × List Int)}, (∀ q ∈ L, SqT K F q.1 (q.2.map V.int) ∧ ∃ p, q.2 = duo p) → ∃ l : List (Int × Int), L.map (·.2) = l.map duo ∧ DqAll K F (L.map fun q => V.ref q.1) (l.map tieD)
  | [], _ => ⟨[], rfl, .nil⟩
  | q :: L, h => by
    obtain ⟨l, e, d⟩ := duos_back fun r hr => h r (List.mem_cons_of_mem _ hr)
    obtain ⟨hs, p, ep⟩ := h q List.mem_cons_self
    rw [ep] at hs
    exact ⟨p :: l, by rw [List.map_cons, List.map_cons, e, ep], .cons (duo_dq hs) d⟩
theorem ltP_iff {p q : Int × Int} : ltP p q = true ↔ p.1 < q.1 ∨ (p.1 = q.1 ∧ p.2 < q.2) := by
  unfold ltP
  by_cases c1 : p.1 < q.1
  · have : ¬ p.1 = q.1 := by omega
    simp [HT.lexLt, c1, this]
  · by_cases c2 : p.1 = q.1
    · by_cases c3 : p.2 < q.2
      · have : ¬ p.2 = q.2 := by omega
        simp [HT.lexLt, c2, c3, this]
      · simp [HT.lexLt, c2, c3]
    · simp [HT.lexLt, c1, c2]
theorem ltP_irrefl (p : Int × Int) : ltP p p = false := by
  cases h : ltP p p with
  | false => rfl
  | true =>
    have := ltP_iff.mp h
    omega
theorem room65 {k : Nat} {A : Around} (r : Room k A) : A.units + 65 < cLine := by
  have := r.un
  omega
theorem room66 {k : Nat} {A : Around} (r : Room k A) : A.units + 66 < cLine := by
  have := r.un
  omega
/-- texts, told apart -/
def fNeS (neg : Bool) : DOp := fun x y θ Φ => asS x fun a => asS y fun b => Φ (.d (.bool (if neg then !decide (a = b) else decide (a = b)))) θ
theorem sim_neS : SimR c rNe (fNeS true) := fun Zh F0 σ H ρ θ x y rx ry Φ Q S dx dy h k => by
  obtain ⟨a, rfl, h⟩ := asS_of dx h
  obtain ⟨b, rfl, h⟩ := asS_of dy h
  refine ⟨rfl, ?_⟩
  have e : decide (V.str a = V.str b) = decide (a = b) := decide_eq_decide.mpr ⟨fun h => V.str.inj h, fun h => by rw [h]⟩
  rw [e]
  exact kB S k h
theorem lt_of_code {p q : Int × Int} (hp : smallP p) (hq : smallP q) (h : TS.code 64 (duo p) ≤ TS.code 64 (duo q)) (ne : p ≠ q) : ltP p q = true := by
  have h := h
  rw [code_pair, code_pair] at h
  obtain ⟨⟨a1, a2⟩, a3, a4⟩ := hp
  obtain ⟨⟨b1, b2⟩, b3, b4⟩ := hq
  have n : p.1 ≠ q.1 ∨ p.2 ≠ q.2 := by
    by_cases e : p.1 = q.1
    · exact .inr fun e2 => ne (Prod.ext e e2)
    · exact .inl e
  exact ltP_iff.mpr (by omega)
/-- set(t), t a tuple of tuples of ints -/
def rSetTT (K : PySem.W.Frag) (P : Program) (w : World) : List V → Hp → VK → Prop := fun xs H Q => ∃ (l : Addr) (ks : List (Addr × List Int)), xs = [V.ref l] ∧ SqT K H l (ks.map fun q => V.ref q.1) ∧ (∀ q ∈ ks, SqT K H q.1 (q.2.map V.int)) ∧ ks.length < 64 ∧
  ∀ a L, H a = none → (∀ q ∈ L, q ∈ ks) → (∀ q ∈ ks, q.2 ∈ L.map (·.2)) → Q (.ref a) (upd H a (SetTO P w a L))
theorem cr_setTT (hc : X.calm = true) (hu : X.A.units + 64 < cLine) : CallR X (.type "set") (rSetTT X.K X.prog X.w) := by
  intro pins s σ H xs us Q I r ⟨l, ks, ex, hl, hk, few, q⟩
  subst ex
  rw [Vals.ref1 r]
  obtain ⟨its, rv, tup, _⟩ := I.tuple hl
  refine TlS.call_set_tt (P := X.prog) (w := X.w) ks (I.ok.hd hc) (show s.heap.IsTuple l its.toArray from tup) (by simpa using refs_of_vals rv) (fun p hp => I.isT (hk p hp)) few (by omega) fun h' tk L es ep t R g k => ?_
  exact ⟨.ref s.heap.objs.size, upd H s.heap.objs.size (SetTO X.prog X.w s.heap.objs.size L), I.laid (t' := tk) k (Nat.le_refl _) (setTO_new R.t0), rfl, q _ L (I.hok.fresh (Nat.le_refl _)) (fun p hp => List.mem_of_mem_take (g.sub p hp)) fun p hp => g.all p (by rw [List.take_length]; exact hp)⟩
def dSortSetT (T : DTE) : DTE := fun Ex ρ θ Φ => T Ex ρ θ fun r θ1 => ∃ l : List (Int × Int), r = .d (.tuple (l.map tieD)) ∧ l.length < 64 ∧ (∀ p ∈ l, smallP p) ∧ ∀ l' : List (Int × Int), l'.Pairwise (fun p q => ltP p q = true) → (∀ p, p ∈ l' ↔ p ∈ l) → Φ (.d (.list (l'.map tieD))) θ1
theorem de_sortSetT {e : Expr} {te : TE} {T : DTE} {p p2 pos pos2 : Pos} (hK : X.K = c.K) (hc : X.calm = true) (hu : X.A.units + 64 < cLine) (hg : Gl X "sorted") (hm : X.mg "sorted" = none) (hg2 : Gl X "set") (hm2 : X.mg "set" = none) (he : DE c X e te T)
    (he2 : starEach [e] X.env = (false, eval e X.env) :: starEach [] X.env := by rfl) (he1 : starEach [.Call (.Name "set" p2) [e] [] pos2] X.env = (false, eval (.Call (.Name "set" p2) [e] [] pos2) X.env) :: starEach [] X.env := by rfl)
    (hp1 : (backTo pos (starEach [] X.env)).any (·.1) = false := by rfl) (hp2 : (backTo pos2 (starEach [] X.env)).any (·.1) = false := by rfl) :
    DE c X (.Call (.Name "sorted" p) [.Call (.Name "set" p2) [e] [] pos2] [] pos) (tCB (rSortedT c.K X.prog X.w) (tCons (tCB (rSetTT c.K X.prog X.w) (tCons te tNil)) tNil)) (dSortSetT T) := by
  have c1 := cr_setTT (X := X) hc hu
  have c2 := cr_sortedT (X := X) hc
  rw [hK] at c1 c2
  have ps : PE X (.Call (.Name "set" p2) [e] [] pos2) (tCB (rSetTT c.K X.prog X.w) (tCons te tNil)) := pe_callTy c1 hg2 hm2 (by decide +kernel) (pa_cons he.pe pa_nil he2) (by decide) (by decide) he2 hp2
  refine ⟨pe_callB c2 hg hm (by decide +kernel) (pa_cons ps pa_nil he1) (by decide) (by decide) he1 hp1, fun Zh F0 Ex L σ H ρ θ Φ Q S h k => ?_⟩
  refine he.sim Zh F0 Ex L σ H ρ θ _ _ S h fun v r H1 θ1 S1 m1 d1 h1 => ?_
  obtain ⟨l, rfl, hl, hsm, h2⟩ := h1
  cases d1 with
  | tup hs ha =>
    rename_i a vs
    obtain ⟨ks, rfl, e2, hk⟩ := duos ha
    have hlen : ks.length = l.length := by
      have := congrArg List.length e2
      rwa [List.length_map, List.length_map] at this
    have mem2 : ∀ q ∈ ks, ∃ p ∈ l, q.2 = duo p := fun q hq => by
      have : q.2 ∈ l.map duo := by
        rw [← e2]
        exact List.mem_map.mpr ⟨q, hq, rfl⟩
      obtain ⟨p, hp, e⟩ := List.mem_map.mp this
      exact ⟨p, hp, e.symm⟩
    refine ⟨a, ks, rfl, sqT_up hs, fun q hq => sqT_up (hk q hq), by omega, fun b L np sub all => ⟨b, L, 2, 64, rfl, upd_same, fun q hq => ?_, by decide, fun q hq => ?_, fun L' p pm nd few pw np' => ?_⟩⟩
    · have m := (vis_upd_sub (Zh := Zh) (θ := θ1) (o := SetTO X.prog X.w b L) np).mono
      exact sqT_up (m.sqT (hk q (sub q hq)))
    · obtain ⟨p, hp, e⟩ := mem2 q (sub q hq)
      rw [e]
      exact ⟨rfl, (hsm p hp).bd⟩
    · have m := (vis_upd_sub (Zh := Zh) (θ := θ1) (o := SetTO X.prog X.w b L) np).mono
      have S2 : SD c.K c.Ps Zh F0 σ (upd H1 b (SetTO X.prog X.w b L)) ρ θ1 := S1.to (S1.hs.new np) m
      obtain ⟨l', el, dl⟩ := duos_back (K := c.K) (F := vis Zh θ1 (upd H1 b (SetTO X.prog X.w b L))) (L := L') fun q hq => by
        have hq := sub q (pm.mem_iff.mp hq)
        obtain ⟨p, _, e⟩ := mem2 q hq
        exact ⟨m.sqT (hk q hq), p, e⟩
      have inl : ∀ p, p ∈ l' ↔ p ∈ l := fun p => by
        have a1 : p ∈ l' ↔ duo p ∈ L'.map (·.2) := by
          rw [el]
          exact ⟨fun z => List.mem_map.mpr ⟨p, z, rfl⟩, fun z => by
            obtain ⟨q, hq, e⟩ := List.mem_map.mp z
            rw [← duo_inj e]
            exact hq⟩
        have a2 : p ∈ l ↔ duo p ∈ ks.map (·.2) := by
          rw [e2]
          exact ⟨fun z => List.mem_map.mpr ⟨p, z, rfl⟩, fun z => by
            obtain ⟨q, hq, e⟩ := List.mem_map.mp z
            rw [← duo_inj e]
            exact hq⟩
        rw [a1, a2]
        constructor
        · intro z
          obtain ⟨q, hq, e⟩ := List.mem_map.mp z
          exact List.mem_map.mpr ⟨q, sub q (pm.mem_iff.mp hq), e⟩
        · intro z
          obtain ⟨q, hq, e⟩ := List.mem_map.mp z
          obtain ⟨q', hq', e'⟩ := List.mem_map.mp (all q hq)
          exact List.mem_map.mpr ⟨q', pm.mem_iff.mpr hq', e'.trans e⟩
      have pw1 : (L'.map (·.2)).Pairwise (fun x y => TS.code 64 x ≤ TS.code 64 y) := List.pairwise_map.mpr pw
      rw [el] at pw1 nd
      have pw2 := List.pairwise_map.mp pw1
      have pw3 : l'.Pairwise (fun p q => p ≠ q) := (List.pairwise_map.mp nd).imp fun h e => h (by rw [e])
      refine newL S2 (k.step (m1.trans m)) np' dl (h2 l' ?_ inl)
      exact (pw2.and pw3).imp_of_mem fun {p q} hp hq ⟨a, b⟩ => lt_of_code (hsm p ((inl p).mp hp)) (hsm q ((inl q).mp hq)) a b
/-- sorted(l), l a list of pairs -/
def fSortL : DCl := fun rs θ Φ => on1 rs fun r => dat r θ fun d => ∃ l : List (Int × Int), d = .list (l.map tieD) ∧ l.length < 64 ∧ (∀ p ∈ l, smallP p) ∧ l.Nodup ∧ ∀ l' : List (Int × Int), l'.Perm l → l'.Pairwise (fun p q => ltP p q = true) → Φ (.d (.list (l'.map tieD))) θ
theorem dq_perm {K : PySem.W.Frag} {F : Hp} {vs : List V} {l : List (Int × Int)} (d : DqAll K F vs (l.map tieD)) (ys : List V) (h : ys.Perm vs) : ∃ l' : List (Int × Int), l'.Perm l ∧ DqAll K F ys (l'.map tieD) := by
  induction h generalizing l with
  | nil =>
    cases l with
    | nil => exact ⟨[], .nil, .nil⟩
    | cons p l => cases d
  | cons v _ ih =>
    cases l with
    | nil => cases d
    | cons p l =>
      cases d with
      | cons h1 h2 =>
        obtain ⟨l', q1, q2⟩ := ih h2
        exact ⟨p :: l', q1.cons p, .cons h1 q2⟩
  | swap u v vs' =>
    cases l with
    | nil => cases d
    | cons p l =>
      cases l with
      | nil =>
        cases d with
        | cons h1 h2 => cases h2
      | cons q l =>
        cases d with
        | cons h1 h2 =>
          cases h2 with
          | cons h3 h4 => exact ⟨q :: p :: l, .swap p q l, .cons h3 (.cons h1 h4)⟩
  | trans _ _ ih1 ih2 =>
    obtain ⟨l1, q1, q2⟩ := ih2 d
    obtain ⟨l2, q3, q4⟩ := ih1 q2
    exact ⟨l2, q3.trans q1, q4⟩
theorem sim_sortL : SimC c (rSortU c.K 2 64) fSortL := fun Zh F0 σ H ρ θ xs rs Φ Q S dx h k => by
  obtain ⟨v, r, rfl, dv, h⟩ := on1_of dx h
  obtain ⟨d, hd, l, rfl, hl, hsm, nd, h⟩ := dat_of S.hs dv h
  obtain ⟨a, vs, rfl, h1, h2⟩ := hd.list
  have len : vs.length = l.length := by
    have := h2.length
    rwa [List.length_map] at this
  obtain ⟨ks, ev, e2, hk⟩ := duos h2
  refine ⟨a, vs, rfl, h1, by omega, fun x hx => ?_, fun ys p pm pw np => ?_⟩
  · rw [ev] at hx
    obtain ⟨q, hq, rfl⟩ := List.mem_map.mp hx
    have : q.2 ∈ l.map duo := by
      rw [← e2]
      exact List.mem_map.mpr ⟨q, hq, rfl⟩
    obtain ⟨p, hp, e⟩ := List.mem_map.mp this
    refine ⟨q.2, ⟨q.1, rfl, sqT_up (hk q hq)⟩, ?_⟩
    rw [← e]
    exact ⟨rfl, (hsm p hp).bd⟩
  · obtain ⟨l', q1, q2⟩ := dq_perm h2 ys pm
    refine newL S k np q2 (h l' q1 ?_)
    have nd' : l'.Nodup := q1.nodup_iff.mpr nd
    have key : ∀ {ys : List V} {l' : List (Int × Int)}, DqAll c.K (vis Zh θ H) ys (l'.map tieD) → ys.Pairwise (fun x y => ∀ n m, TupI c.K H x n → TupI c.K H y m → TS.code 64 n ≤ TS.code 64 m) → (∀ p ∈ l', smallP p) → l'.Nodup → l'.Pairwise (fun p q => ltP p q = true) := by
      intro ys l'
      induction l' generalizing ys with
      | nil => exact fun _ _ _ _ => .nil
      | cons p l' ih =>
        intro d pw sm nd
        cases d with
        | cons d1 d2 =>
          obtain ⟨w1, w2⟩ := List.pairwise_cons.mp pw
          obtain ⟨n1, n2⟩ := List.nodup_cons.mp nd
          refine List.pairwise_cons.mpr ⟨fun q hq => ?_, ih d2 w2 (fun q hq => sm q (List.mem_cons_of_mem _ hq)) n2⟩
          obtain ⟨i, hi⟩ := List.mem_iff_getElem?.mp hq
          obtain ⟨u, hu, du⟩ := d2.get (i := i) (d := tieD q) (by rw [List.getElem?_map, hi]; rfl)
          obtain ⟨a1, rfl, s1⟩ := dq_duo d1
          obtain ⟨a2, rfl, s2⟩ := dq_duo du
          refine lt_of_code (sm p List.mem_cons_self) (sm q (List.mem_cons_of_mem _ hq)) (w1 _ (List.mem_iff_getElem?.mpr ⟨i, hu⟩) _ _ ⟨a1, rfl, sqT_up s1⟩ ⟨a2, rfl, sqT_up s2⟩) fun e => n1 (by rw [e]; exact hq)
    exact key q2 pw (fun p hp => hsm p (q1.mem_iff.mp hp)) nd'
/-! ### the text of a web -/
theorem six_cases {i : Nat} (h : i ≤ 6) : PyData.showable (.int (i : Int)) = true ∧ PyData.leavesShort 8 (.int (i : Int)) = true ∧ PyData.weight (.int (i : Int)) ≤ 3 := by
  rcases (by omega : i = 0 ∨ i = 1 ∨ i = 2 ∨ i = 3 ∨ i = 4 ∨ i = 5 ∨ i = 6) with rfl | rfl | rfl | rfl | rfl | rfl | rfl <;> exact ⟨by decide +kernel, by decide +kernel, by decide +kernel⟩
theorem ties_cases {n : Nat} (hn : n ≤ 6) : ∀ {l : List (Int × Int)}, (∀ p ∈ l, p ∈ pairs n) → PyData.showableAll (l.map tieD) = true ∧ PyData.leavesShortAll 8 (l.map tieD) = true ∧ PyData.weightAll (l.map tieD) ≤ 9 * l.length
  | [], _ => ⟨rfl, rfl, Nat.le_refl _⟩
  | p :: l, h => by
    obtain ⟨a1, a2, a3⟩ := ties_cases hn fun q hq => h q (List.mem_cons_of_mem _ hq)
    obtain ⟨a, b, rfl, hab, hb⟩ := pairs_in (h p List.mem_cons_self)
    obtain ⟨b1, b2, b3⟩ := six_cases (show a ≤ 6 by omega)
    obtain ⟨c1, c2, c3⟩ := six_cases (show b ≤ 6 by omega)
    refine ⟨?_, ?_, ?_⟩
    · rw [List.map_cons]
      simp only [PyData.showableAll, tieD, PyData.showable] at a1 b1 c1 ⊢
      simp only [a1, b1, c1, Bool.and_self]
    · rw [List.map_cons]
      simp only [PyData.leavesShortAll, tieD, PyData.leavesShort] at a2 b2 c2 ⊢
      simp only [a2, b2, c2, Bool.and_self]
    · rw [List.map_cons, List.length_cons]
      show PyData.weight (.int (a : Int)) + 1 + (PyData.weight (.int (b : Int)) + 1 + 0) + 1 + PyData.weightAll (l.map tieD) ≤ _
      omega
theorem shown_web {m n : Nat} {l : List (Int × Int)} (hm : m ≤ 6) (hn : n ≤ 6) (hl : l.Sublist (pairs n)) : shownOk (webD m l) := by
  obtain ⟨a1, a2, a3⟩ := ties_cases hn fun p hp => hl.subset hp
  obtain ⟨b1, b2, b3⟩ := six_cases hm
  have len : l.length ≤ 15 := Nat.le_trans hl.length_le (pairs_len hn)
  refine ⟨(eqOk_webD m l).1, ?_, SeqAt.depth_of_shaped (eqOk_webD m l).2, PyData.shown_fits (B := 8) (by decide) (by decide) ?_ ?_⟩
  · simp only [webD, PyData.showable, PyData.showableAll] at b1 a1 ⊢
    simp only [a1, b1, Bool.and_self]
  · simp only [webD, PyData.leavesShort, PyData.leavesShortAll] at b2 a2 ⊢
    simp only [a2, b2, Bool.and_self]
  · show PyData.weight (.int (m : Int)) + 1 + (PyData.weightAll (l.map tieD) + 1 + 0) ≤ 2 ^ 20
    omega
/-- strictly rising rows of the same pairs are the same -/
theorem rising_eq : ∀ {l k : List (Int × Int)}, l.Pairwise (fun p q => ltP p q = true) → k.Pairwise (fun p q => ltP p q = true) → (∀ p, p ∈ l ↔ p ∈ k) → l = k
  | [], [], _, _, _ => rfl
  | [], q :: k, _, _, h => nomatch (h q).mpr List.mem_cons_self
  | p :: l, [], _, _, h => nomatch (h p).mp List.mem_cons_self
  | p :: l, q :: k, h1, h2, h => by
    obtain ⟨a1, a2⟩ := List.pairwise_cons.mp h1
    obtain ⟨b1, b2⟩ := List.pairwise_cons.mp h2
    have e : p = q := by
      rcases List.mem_cons.mp ((h p).mp List.mem_cons_self) with e | hp
      · exact e
      · rcases List.mem_cons.mp ((h q).mpr List.mem_cons_self) with e | hq
        · exact e.symm
        · have c1 := ltP_iff.mp (a1 q hq)
          have c2 := ltP_iff.mp (b1 p hp)
          exact absurd c1 (by omega)
    subst e
    rw [rising_eq a2 b2 fun r => ?_]
    constructor
    · intro hr
      rcases List.mem_cons.mp ((h r).mp (List.mem_cons_of_mem _ hr)) with e | z
      · subst e
        have := a1 r hr
        rw [ltP_irrefl] at this
        cases this
      · exact z
    · intro hr
      rcases List.mem_cons.mp ((h r).mpr (List.mem_cons_of_mem _ hr)) with e | z
      · subst e
        have := b1 r hr
        rw [ltP_irrefl] at this
        cases this
      · exact z
theorem rising_sub {l : List (Int × Int)} {m : Nat} (hm : m ≤ 6) (h : l.Pairwise (fun p q => ltP p q = true)) (hl : ∀ p ∈ l, p ∈ pairs m) : l.Sublist (pairs m) := by
  have e : l = (pairs m).filter (fun p => decide (p ∈ l)) := rising_eq h ((pairs_pw hm).sublist List.filter_sublist) fun p => by
    rw [List.mem_filter]
    exact ⟨fun z => ⟨hl p z, decide_eq_true z⟩, fun z => of_decide_eq_true z.2⟩
  rw [e]
  exact List.filter_sublist
end
end TlD
set_option Elab.async false
set_option linter.all false
set_option maxRecDepth 100000
set_option maxHeartbeats 4000000
namespace TlD
open PySem PySem.Spec PyProof.Rows L2 GxR TlG
/-! ### enumerate(l, start=1) -/
section
variable {M : Model} {A : Around} {E : Value → Shared → Prop} {s : Shared} {env : Env}
theorem callWith_tyK {pos : Pos} {T : String} {args : List (Bool × Sem Value)} {kws : List (Option Str × Sem Value)} {Q : Value → Shared → Prop} (h1 : args.any (·.1) = false) (h2 : kws.any (·.1.isNone) = false)
    (h : wpAny M A (evalArgs (.type T) true args kws) (fun z s1 => wpAny M A (call (.type T) z.pos z.kw) Q E s1) E s) : wpAny M A (callWith pos (.type T) [] args kws) Q E s := by
  unfold callWith
  refine wpAny_bind (wpAny_holding (wpAny_mono h (fun z s1 hz => wpAny_bind (wpAny_standAt ?_)) fun _ _ q => q))
  simp only [h1, h2, Bool.or_false]
  refine wpAny_bind (wpAny_pure ?_)
  exact wpAny_bind (wpAny_mono hz (fun v s2 hv => wpAny_bind (wpAny_holding (wpAny_point (wpAny_pure hv)))) fun _ _ q => q)
end
section
variable {prog : Program} {w : World} {A : Around} {E : Value → Shared → Prop} {s : Shared}
theorem enum_over {en itr l : Addr} {i : Nat} {c : Int} {its : Array Value} {old : Value} {Q : Option Value → Shared → Prop} (calm : A.handled = none) (isE : IsEnum s.heap en itr c old) (isI : s.heap.IsListIter itr l i) (isL : s.heap.IsList l its) (none_ : its[i]? = none)
    (k : ∀ h', Heap.ExtBut itr s.heap h' → Q none { s with heap := h' }) : wpAny (model prog w) A (pyNext (.ref en)) Q E s := by
  have ty : s.TypeIs (.ref en) "enumerate" := ⟨_, isE, rfl⟩
  unfold pyNext
  refine wpAny_bind (wpAny_attempt (wpAny_callSpecial?_slot (name := Str.ofString "__next__") ty F.slot_enumerate_next (wpAny_call_entry F.slot_enumerate_next ty F.entry_enumerate_next ?_ (F.args_enumerate_next_1 _))))
  show wpAny _ _ (field (.ref en) 2 >>= _) _ _ _
  refine wpAny_bind (wpAny_field isE rfl (x := .ref itr) rfl ?_)
  refine wpAny_bind (wpAny_nextOf_list_end calm isI isL none_ fun h' x kept ⟨ob, hob, stop⟩ => ?_)
  exact wpAny_bind (wpAny_isInstance (T := "StopIteration") (b := true) ⟨ob, hob, stop⟩ isSubtype_stop (wpAny_pure (k _ kept)))
end
/-- the list at a as it stands at each turn, each item in a new pair, counted from 1 -/
def It1 (K : PySem.W.Frag) (a : Addr) : It :=
  ⟨(Ite K a).go, fun i H v H' => ∃ T x, v = .ref T ∧ H T = none ∧ H' = upd H T (.tup [.int (1 + (i : Int)), x]) ∧ ∀ xs, SqL K H a xs → xs[i]? = some x, (Ite K a).stop⟩
theorem turn_enum1 {P : Program} {w : World} {K : PySem.W.Frag} {elts : List Expr} {kk : Nat} {tpos : Pos} (a e it : Addr) :
    Turn P w K (.Tuple elts kk tpos) (It1 K a) [e, it] e (fun i h => (∃ old, IsEnum h e it (1 + (i : Int)) old) ∧ h.IsListIter it a i ∧ e ≠ it) where
  mem := by simp
  obj := fun i h st b hb => by
    obtain ⟨⟨old, he⟩, ⟨o, ho, hc, hd⟩, _⟩ := st
    rcases List.mem_cons.mp hb with rfl | hb
    · exact ⟨_, he, fun v q => nomatch q⟩
    · rw [List.mem_singleton.mp hb]
      exact ⟨o, ho, fun v q => nomatch hd.symm.trans q⟩
  keep := fun i h h' ⟨⟨old, he⟩, hi, hne⟩ k => ⟨⟨old, k e (by simp) _ he⟩, hi.at fun o q => k it (by simp) o q, hne⟩
  item := by
    intro X hP hw hK hc i pins s σ H E I hf st hg
    subst hP hw hK
    obtain ⟨⟨old, he⟩, hit, hne⟩ := st
    obtain ⟨xs, x, hq, hx⟩ := hg
    obtain ⟨its, rv, p, hz⟩ := I.list hq
    obtain ⟨u, hu, ru⟩ := rv.get hx
    have lt_e : e < s.heap.objs.size := Heap.lt_size he
    have lt_it : it < s.heap.objs.size := by
      obtain ⟨_, q, _⟩ := hit
      exact Heap.lt_size q
    have ae : a ≠ e := fun z => by
      obtain ⟨o, ho, hcl, _⟩ := p.isList
      rw [z, he] at ho
      cases ho
      exact absurd (Value.type.inj hcl) (by decide)
    have ai : a ≠ it := fun z => by
      obtain ⟨o, ho, hcl, _⟩ := p.isList
      obtain ⟨o', ho', hcl', _⟩ := hit
      rw [z, ho'] at ho
      cases ho
      exact absurd (Value.type.inj (hcl.symm.trans hcl')) (by decide)
    have D := Draws.list (prog := X.prog) (w := X.w) (A := X.A.in1) (by simp [I.ok.hd hc]) it a ai its.toArray
    have hlt : i < its.toArray.size := by
      have := (List.getElem?_eq_some_iff.mp hu).1
      simpa using this
    refine wpAny_pyNext_enum_itemC D he ⟨hit, p.isList⟩ hlt hne (by simp [hne, Ne.symm ae]) fun x' h' tk hP out st' hT _ keep => ?_
    have ex : x' = u := by
      have e2 : its.toArray[i]? = some u := by simpa using hu
      exact Option.some.inj (hP.symm.trans e2)
    subst ex
    refine ⟨_, rfl, wpAny_letOwnedTupleGo_enum (s := { s with heap := h', toks := tk + 1 }) out fun h'' he' sb => ?_⟩
    have hT2 : h''.get? s.heap.objs.size = some { cls := .type "tuple", data := .seq #[.int (1 + (i : Int)) tk, x'] } := (sb.2 _ (Nat.ne_of_gt lt_e)).trans hT
    have new : ObjOk X.prog X.w (upd H s.heap.objs.size (.tup [.int (1 + (i : Int)), x])) h'' s.heap.objs.size (.tup [.int (1 + (i : Int)), x]) :=
      ⟨by show 2 ≤ sizeLine; decide, [.int (1 + (i : Int)) tk, x'], .cons ⟨_, rfl⟩ (.cons ru .nil), ⟨_, hT2, rfl, _, rfl⟩⟩
    have I1 : Inv X pins σ (upd H s.heap.objs.size (.tup [.int (1 + (i : Int)), x])) { s with heap := h'', toks := tk + 1 } :=
      I.turnedNew (ch := [e, it]) (fun b ob hb q => by
        have b1 : b ≠ e := fun z => hb (by simp [z])
        have b2 : b ≠ it := fun z => hb (by simp [z])
        exact (sb.2 b b1).trans (keep b ob b1 b2 q)) hf (Nat.le_refl _) new
    refine ⟨.ref s.heap.objs.size, _, I1, rfl, ⟨_, x, rfl, I.hok.fresh (Nat.le_refl _), rfl, fun ys hy => by rw [I.list_inj hy hq]; exact hx⟩, ⟨⟨x', ?_⟩, st'.1.at fun o q => (sb.2 it (Ne.symm hne)).trans q, hne⟩, fun b hb => ?_⟩
    · have e1 : (1 + ((i + 1 : Nat) : Int)) = 1 + (i : Int) + 1 := by omega
      rw [e1]
      exact he'
    · have lt_b : b < s.heap.objs.size := by
        rcases List.mem_cons.mp hb with rfl | hb
        · exact lt_e
        · rw [List.mem_singleton.mp hb]
          exact lt_it
      rw [upd_ne (Nat.ne_of_lt lt_b)]
      exact (hf b hb).1
  done := by
    intro X hP hw hK hc i pins s σ H E I hf st hg
    subst hP hw hK
    obtain ⟨⟨old, he⟩, hit, hne⟩ := st
    obtain ⟨xs, hq, hx⟩ := hg
    obtain ⟨its, rv, p, hz⟩ := I.list hq
    obtain ⟨f0, f1, f2, f3, f4, f5⟩ := hf it (by simp)
    have hl := rv.length
    exact enum_over (I.ok.hd hc) he hit p.isList (by simp; omega) fun h' eb => ⟨rfl, I.turned (t' := s.toks) (fun b o hb q => eb b o hb q) f0 f1 f3 f4 f5⟩
  self := fun A i s Q E ⟨⟨_, he⟩, _⟩ h => wpAny_pyIter_enum he h

def iEnum1 (K : PySem.W.Frag) (ta tk : TA) : TI := fun σ H R => ta σ H fun vs H1 => tk σ H1 fun zs H2 => ∃ a xs, vs = [.ref a] ∧ zs = [.int 1] ∧ SqL K H2 a xs ∧ R (It1 K a) H2
theorem pi_enum1 {X : Cx} {e : Expr} {ta tk : TA} {p pos tpos : Pos} {elts : List Expr} {kk : Nat} {kws : List Keyword} (hg : Gl X "enumerate") (hm : X.mg "enumerate" = none) (ha : PA X [e] ta) (hk : PK X kws tk)
    (he : backTo pos (starEach [e] X.env) = [(false, eval e X.env)] := by rfl) (hall : (backToKw pos (keywordEach kws X.env)).all (·.1.isSome) = true := by rfl) (hnone : (backToKw pos (keywordEach kws X.env)).any (·.1.isNone) = false := by rfl) (hks : (backToKw pos (keywordEach kws X.env)).filterMap (·.1) = [Str.ofString "start"] := by rfl) :
    PI X (.Tuple elts kk tpos) (.Call (.Name "enumerate" p) [e] kws pos) (iEnum1 X.K ta tk) := by
  refine ⟨fun pins s σ H R I h => ?_⟩
  refine wpAny_Call_Name_kw (ld_blt I hg hm boot_enumerate ?_ (by decide) (by decide))
  have run : wpAny (model X.prog X.w) X.A (spliced (backTo pos (starEach [e] X.env))) (fun us s1 => wpAny (model X.prog X.w) X.A (evalAll ((backToKw pos (keywordEach kws X.env)).map (·.2))) (fun ws s2 => wpAny (model X.prog X.w) X.A (call (.type "enumerate") us (([Str.ofString "start"] : List Str).zip ws)) (fun v s3 => wpAny (model X.prog X.w) X.A (pyIter v) (PIE X pins σ (.Tuple elts kk tpos) R) X.xe s3) X.xe s2) X.xe s1) X.xe s := by
    refine thn (ha.run pos pins s σ H _ I h) fun us s1 ⟨vs, H1, I1, r1, q1⟩ => thn (hk.run pos pins s1 σ H1 _ I1 q1) fun ws s2 ⟨zs, H2, I2, r2, q2⟩ => ?_
    obtain ⟨a, xs, rfl, rfl, hq, q⟩ := q2
    rw [Vals.ref1 r1]
    obtain ⟨z, rfl, tk, rfl⟩ := vals1 r2
    obtain ⟨its, rv, p', hz⟩ := I2.list hq
    refine enum_begins_start (begins_list a its.toArray) p'.isList (by decide) (by decide) fun h' isE isO _ keep => wpAny_pyIter_enum isE ?_
    have I3 : Inv X pins σ H2 { s2 with heap := h' } := I2.kept (t' := s2.toks) keep
    refine ⟨s2.heap.objs.size + 1, [s2.heap.objs.size + 1, s2.heap.objs.size], _, _, H2, rfl, I3, turn_enum1 a (s2.heap.objs.size + 1) s2.heap.objs.size, ⟨⟨.none, isE⟩, ⟨_, isO, rfl, rfl⟩, Nat.succ_ne_self _⟩, fun b hb => ?_, q⟩
    have hle : s2.heap.objs.size ≤ b := by
      rcases List.mem_cons.mp hb with rfl | hb
      · exact Nat.le_succ _
      · rw [List.mem_singleton.mp hb]
        exact Nat.le_refl _
    exact I2.fpOk hle (I2.hok.fresh hle)
  refine callWith_tyK (by rw [he]; rfl) hnone ?_
  rw [he] at run ⊢
  rw [← hks] at run
  exact evalArgs_kwB hall run
section
variable {c : Cn} {X : Cx} {ta tk : TA}
theorem feed_enum1 {F1 : Hp} {a : Addr} {vs : List V} {xs : List D} (ha : SqL c.K F1 a vs) (hx : DqAll c.K F1 vs xs) : Feed c F1 (It1 c.K a) (enumD 1 xs) where
  go := fun Zh i H θ hi h => by
    rw [enumD_length] at hi
    obtain ⟨v, hv, _⟩ := hx.get (List.getElem?_eq_getElem hi)
    exact ⟨vs, v, sqL_up (h.old.sqL ha), hv⟩
  yld := fun Zh i v H H' θ d hi h hz => by
    obtain ⟨x, e1, rfl⟩ := enumD_get hi
    obtain ⟨T, v1, rfl, nT, rfl, f1⟩ := hz
    obtain ⟨v, hv, dv⟩ := hx.get e1
    have q1 := f1 vs (sqL_up (h.old.sqL ha))
    rw [hv] at q1
    obtain rfl := Option.some.inj q1
    have m := (vis_upd_sub (Zh := Zh) (θ := θ) (o := .tup [.int (1 + (i : Int)), v]) nT).mono
    refine ⟨h.new nT, m, Dq.tup (.inl (.inl (h.at nT))) (.cons ?_ (.cons (dp_mono (h.old.trans m) _ _ dv) .nil))⟩
    have e2 : ((1 + i : Nat) : Int) = 1 + (i : Int) := by omega
    rw [e2]
    exact Dq.int _
  stop := fun Zh i H θ hi h => by
    rw [enumD_length] at hi
    exact ⟨vs, sqL_up (h.old.sqL ha), by rw [hx.length]; exact hi⟩
/-- the arguments given by name -/
theorem dk_one {e : Expr} {te : TE} {T : DTE} {nm : Option Str} {kp : Pos} (h : DE c X e te T) : PK X [⟨nm, e, kp⟩] (tCons te tNil) := pk_cons h.pe pk_nil
def dItE1 (Ta : DTA) : DTI := fun Ex ρ θ Ψ => Ta Ex ρ θ fun rs θ1 => is1L rs fun ds => Ψ (enumD 1 ds) θ1
theorem di_enum1 {a : Expr} {Ta : DTA} {p pos tpos kp p1 : Pos} {elts : List Expr} {kk j : Nat} (hK : X.K = c.K) (hg : Gl X "enumerate") (hm : X.mg "enumerate" = none) (h : DA c X [a] ta Ta)
    (he : backTo pos (starEach [a] X.env) = [(false, eval a X.env)] := by rfl) (hall : (backToKw pos (keywordEach [⟨some "start", .Constant (.int 1) j p1, kp⟩] X.env)).all (·.1.isSome) = true := by rfl) (hnone : (backToKw pos (keywordEach [⟨some "start", .Constant (.int 1) j p1, kp⟩] X.env)).any (·.1.isNone) = false := by rfl)
    (hks : (backToKw pos (keywordEach [⟨some "start", .Constant (.int 1) j p1, kp⟩] X.env)).filterMap (·.1) = [Str.ofString "start"] := by rfl) :
    DI c X (.Tuple elts kk tpos) (.Call (.Name "enumerate" p) [a] [⟨some "start", .Constant (.int 1) j p1, kp⟩] pos) (iEnum1 c.K ta (tCons (tC (.int 1)) tNil)) (dItE1 Ta) := by
  obtain ⟨pa, s⟩ := h
  refine ⟨by rw [← hK]; exact pi_enum1 hg hm pa (pk_cons pe_int pk_nil) he hall hnone hks, fun Zh F0 Ex L σ H ρ θ Ψ R S h k => s Zh F0 Ex L σ H ρ θ _ _ S h fun vs rs H1 θ1 S1 m1 d1 h1 => ?_⟩
  obtain ⟨a, ws, ds, rfl, hs, hd, h2⟩ := is1L_of d1 h1
  exact ⟨a, ws, rfl, rfl, sqL_up hs, k _ _ H1 θ1 S1 m1 (feed_enum1 hs hd) h2⟩
end
end TlD
set_option Elab.async false
set_option linter.all false
set_option maxRecDepth 100000
set_option maxHeartbeats 4000000
namespace TlD
open PySem PySem.Spec PyProof.Rows L2 GxR TlG
section
variable {c : Cn} {X : Cx}
/-- t <= u, tuples of whole numbers -/
def leI (ns ms : List Int) : Bool := Ob.lexAt (fun j => decide (ns.getD j 0 = ms.getD j 0)) (fun j => decide (ns.getD j 0 ≤ ms.getD j 0)) (decide (ns.length ≤ ms.length)) 0 (min ns.length ms.length)
def fLeT : DOp := fun x y θ Φ => match x, y with
  | .d (.tuple xs), .d (.tuple ys) => match intsD xs, intsD ys with
    | some ns, some ms => Φ (.d (.bool (leI ns ms))) θ
    | _, _ => False
  | _, _ => False
theorem sim_leT (hK : X.K = c.K) : SimR c (rLeT X.K) fLeT := fun Zh F0 σ H ρ θ x y rx ry Φ Q S dx dy h k => by
  rw [hK]
  unfold fLeT at h
  split at h
  · split at h
    · rename_i e1 e2
      cases dx with
      | tup h1 d1 =>
        cases dy with
        | tup h2 d2 =>
          rw [intsD_map e1] at d1
          rw [intsD_map e2] at d2
          have q1 := dq_ints d1
          have q2 := dq_ints d2
          subst q1
          subst q2
          exact ⟨_, _, _, _, rfl, rfl, sqT_up h1, sqT_up h2, kB S k h⟩
    · exact h.elim
  · exact h.elim
/-- whether a list holds something -/
def dTruL (Ta : DTE) : DTT := fun Ex ρ θ Φ => Ta Ex ρ θ fun r θ1 => dat r θ1 fun d => match d with
  | .list ds => Φ (!ds.isEmpty) θ1
  | .tuple ds => Φ (!ds.isEmpty) θ1
  | _ => False
theorem dt_truL {a : Expr} {ta : TE} {Ta : DTE} (hK : X.K = c.K) (ha : DE c X a ta Ta) (he : ∀ whole, isTrue a X.env whole = (do let v ← whole; standAt a.pos; holding [v] (truthy v)) := by intro _; rfl) :
    DT c X a (fun σ H Q => ta σ H fun x H' => ∃ k, TruV c.K x H' k ∧ Q k H') (dTruL Ta) := by
  have p := pt_truth ha.pe he
  rw [hK] at p
  refine ⟨p, fun Zh F0 Ex L σ H ρ θ Φ Q S h k => ha.sim Zh F0 Ex L σ H ρ θ _ _ S h fun v r H1 θ1 S1 m1 d1 h1 => ?_⟩
  obtain ⟨d, hd, h2⟩ := dat_of S1.hs d1 h1
  cases d with
  | list ds =>
    obtain ⟨a, vs, rfl, h3, h4⟩ := hd.list
    refine ⟨!vs.isEmpty, .inl ⟨vs, h3, rfl⟩, k _ H1 θ1 S1 m1 ?_⟩
    have : vs.isEmpty = ds.isEmpty := by
      have := h4.length
      cases vs <;> cases ds <;> simp at this <;> rfl
    rw [this]
    exact h2
  | tuple ds =>
    obtain ⟨a, vs, rfl, h3, h4⟩ := hd.tuple
    refine ⟨!vs.isEmpty, .inr (.inl ⟨vs, h3, rfl⟩), k _ H1 θ1 S1 m1 ?_⟩
    have : vs.isEmpty = ds.isEmpty := by
      have := h4.length
      cases vs <;> cases ds <;> simp at this <;> rfl
    rw [this]
    exact h2
  | _ => exact h2.elim
def fNeg : DUn := fun x θ Φ => asI x fun i => Φ (.d (.int (-i))) θ
theorem sim_neg : SimU c (rU fun i => .int (-i)) fNeg := fun Zh F0 σ H ρ θ x rx Φ Q S dx h k => by
  obtain ⟨i, rfl, h⟩ := asI_of dx h
  exact ⟨i, rfl, kI S k h⟩
/-- a statement that is never come to -/
def dNever : DTS := fun _ _ _ => False
theorem ds_never {st : Stmt} : DS c X st (fun _ _ _ => False) dNever := ⟨⟨fun _ _ _ _ _ _ h => h.elim⟩, fun Zh F0 E D L O σ H ρ θ S h => h.elim⟩
end
end TlD
set_option Elab.async false
set_option linter.all false
set_option maxRecDepth 100000
set_option maxHeartbeats 4000000
namespace TlD
open PySem PySem.Spec PyProof.Rows L2 GxR TlG
section
variable {c : Cn} {X : Cx}
/-! ### a sign in a text -/
def fInS (neg : Bool) : DOp := fun x y θ Φ => asS x fun a => asS y fun t => ∃ s : Nat, a = ⟨#[s]⟩ ∧ Φ (.d (.bool (if neg then !decide (s ∈ t.cps.toList) else decide (s ∈ t.cps.toList)))) θ
theorem sim_inSf : SimR c (fun x y H Q => ∃ i j, x = .str i ∧ y = .str j ∧ Q (.bl (!(Builtin.Str.occurrences j i 0 j.length 1).isEmpty)) H) (fInS false) := fun Zh F0 σ H ρ θ x y rx ry Φ Q S dx dy h k => by
  obtain ⟨a, rfl, h⟩ := asS_of dx h
  obtain ⟨t, rfl, q⟩ := asS_of dy h
  obtain ⟨s, rfl, q⟩ := q
  refine ⟨_, t, rfl, rfl, ?_⟩
  rw [StrLaws.found_one]
  exact kB S k q
theorem sim_inSt : SimR c (fun x y H Q => ∃ i j, x = .str i ∧ y = .str j ∧ Q (.bl (!(!(Builtin.Str.occurrences j i 0 j.length 1).isEmpty))) H) (fInS true) := fun Zh F0 σ H ρ θ x y rx ry Φ Q S dx dy h k => by
  obtain ⟨a, rfl, h⟩ := asS_of dx h
  obtain ⟨t, rfl, q⟩ := asS_of dy h
  obtain ⟨s, rfl, q⟩ := q
  refine ⟨_, t, rfl, rfl, ?_⟩
  rw [StrLaws.found_one]
  exact kB S k q
/-! ### the place of a text in a text -/
def dIndexS (To Te : DTE) : DTE := fun Ex ρ θ Φ => To Ex ρ θ fun r θ1 => asS r fun x => Te Ex ρ θ1 fun r2 θ2 => asS r2 fun y => ∃ (i : Nat) (rest : List Nat), Builtin.Str.occurrences x y 0 x.length 1 = i :: rest ∧ Φ (.d (.int (i : Int))) θ2
theorem de_indexS {o e : Expr} {to te : TE} {To T : DTE} {apos cpos : Pos} (hK : X.K = c.K) (ho : DE c X o to To) (he : DE c X e te T)
    (hbase : attributeBase o "index" X.env (eval o X.env) = eval o X.env := by rfl)
    (hfew : ((backTo cpos (starEach (e :: []) X.env)).all (fun x => !x.1) && (backToKw cpos (keywordEach [] X.env)).all (fun x => x.1.isSome) && decide ((e :: []).length + ([] : List Keyword).length + (if ([] : List Keyword).isEmpty then 0 else 1) < 30)) = true := by rfl)
    (hline : (apos.endLine == cpos.line) = true := by rfl) (hs : starEach (e :: []) X.env = (false, eval e X.env) :: starEach [] X.env := by rfl) (hplain : (backTo cpos (starEach [] X.env)).any (·.1) = false := by rfl) :
    DE c X (.Call (.Attribute o "index" apos) [e] [] cpos) (tBM c.K "str" (fun x xs H Q => ∃ a b i rest, x = .str a ∧ xs = [.str b] ∧ Builtin.Str.occurrences a b 0 a.length 1 = i :: rest ∧ Q (.int (i : Nat)) H) to (tCons te tNil)) (dIndexS To T) := by
  have p := pe_bm PySem.F.plainAttrs_str PySem.F.slot_str_index PySem.F.type_str_index mt_sindex ho.pe (pa_cons he.pe pa_nil hs) hbase hfew hline hs hplain
  rw [hK] at p
  refine ⟨p, fun Zh F0 Ex L σ H ρ θ Φ Q S t k => ho.sim Zh F0 Ex L σ H ρ θ _ _ S t fun v r H1 θ1 S1 m1 d1 h1 => ?_⟩
  obtain ⟨x, rfl, h1⟩ := asS_of d1 h1
  refine ⟨by first | exact rfl | exact trivial | exact .inl rfl | exact ⟨_, rfl⟩, he.sim Zh F0 Ex L σ H1 ρ θ1 _ _ S1 h1 fun u r2 H2 θ2 S2 m2 d2 h2 => ?_⟩
  obtain ⟨y, rfl, i, rest, ho2, h3⟩ := asS_of d2 h2
  exact ⟨x, y, i, rest, rfl, rfl, ho2, kI S2 (k.step (m1.trans m2)) h3⟩
/-! ### a or b, of lists -/
def dOrL (Ta Tb : DTE) : DTE := fun Ex ρ θ Φ => Ta Ex ρ θ fun r θ1 => dat r θ1 fun d => match d with
  | .list ds => if ds.isEmpty = true then Tb Ex ρ θ1 Φ else Φ r θ1
  | _ => False
theorem de_orL {a b : Expr} {ta tb : TE} {Ta Tb : DTE} {rest : List Expr} {pos : Pos} (hK : X.K = c.K) (ha : DE c X a ta Ta) (hb : DE c X (.BoolOp .Or (b :: rest) pos) tb Tb) : DE c X (.BoolOp .Or (a :: b :: rest) pos) (tOrT c.K ta tb) (dOrL Ta Tb) := by
  have p := pe_orT (pos := pos) ha.pe hb.pe
  rw [hK] at p
  refine ⟨p, fun Zh F0 Ex L σ H ρ θ Φ Q S h k => ha.sim Zh F0 Ex L σ H ρ θ _ _ S h fun v r H1 θ1 S1 m1 d1 h1 => ?_⟩
  obtain ⟨d, hd, h2⟩ := dat_of S1.hs d1 h1
  cases d with
  | list ds =>
    obtain ⟨a', vs, rfl, h3, h4⟩ := hd.list
    have e : vs.isEmpty = ds.isEmpty := by
      have := h4.length
      cases vs <;> cases ds <;> simp at this <;> rfl
    refine ⟨!vs.isEmpty, .inl ⟨vs, h3, rfl⟩, ?_⟩
    rw [e]
    cases q : ds.isEmpty with
    | true =>
      simp only [q, if_true, Bool.not_true, Bool.false_eq_true, if_false] at h2 ⊢
      exact hb.sim Zh F0 Ex L σ H1 ρ θ1 Φ Q S1 h2 (k.step m1)
    | false =>
      simp only [q, if_true, Bool.not_false, Bool.false_eq_true, if_false] at h2 ⊢
      exact k _ r H1 θ1 S1 m1 d1 h2
  | _ => exact h2.elim
/-! ### a tuple n times -/
theorem tuple_once (l : Addr) (items : Array Value) (n : Nat) (dd : Option Addr) (sl : Array (Option Value)) (u : Tok) :
    Meets (Builtin.«tuple.__mul__» ⟨[.ref l, .int 1 u], []⟩) (fun _ R s => s.heap.get? l = some { cls := .type "tuple", dict := dd, data := .seq items n, slots := sl } ∧ R (.ok (.ret (.ref l))) s) :=
  .of_wp fun prog w A R s ⟨hl, h⟩ => by
    obtain ⟨hp, g, d, tk, os⟩ := s
    have f1 := AutoSeq1.idx_int
    have c1 : (items.isEmpty || (1 : Int) == 1) = true := by simp
    wp_walk using AutoSeq1.wpAny_loadPart' hl
    exact ⟨_, rfl, h⟩
def rOnceT (K : PySem.W.Frag) : R2 := fun x y H Q => ∃ l xs, x = .ref l ∧ y = .int 1 ∧ SqT K H l xs ∧ Q (.ref l) H
theorem op_onceT : OpR X (binaryOp .Mult) (rOnceT X.K) := by
  intro pins s σ H x y v u Q I rx ry ⟨l, xs, ex, ey, hT, q⟩
  subst ex ey
  cases rx
  obtain ⟨t, rfl⟩ := ry
  obtain ⟨its, r, ⟨⟨cls, dd, data, sl⟩, ho, hc, n, hd⟩, hs⟩ := I.tuple hT
  simp only at hc hd
  subst hc hd
  exact wpAny_binaryOp_repeat_ref (T := "tuple") (U := "int") (by decide) ⟨_, ho, rfl⟩ (fun s' => typeIs_int s' 1 t) noFill_tuple_mul F.fills_int_mul F.slot_int_rmul repeat_tuple F.slot_int_index.lookup
    (call_meets F.slot_int_rmul (typeIs_int s 1 t) F.entry_int_rmul (F.args_int_rmul_2 _ _) (int_rmul_tuple 1 t l its.toArray n dd sl)
      ⟨ho, rfl, ⟨_, ho, rfl⟩, call_meets F.slot_tuple_mul ⟨_, ho, rfl⟩ F.entry_tuple_mul (F.args_tuple_mul_2 _ _) (tuple_once l its.toArray n dd sl t) ⟨ho, .ref l, H, I, rfl, q⟩⟩)
def fMulT : DOp := fun x y θ Φ => match x, y with
  | .d (.tuple xs), .d (.int n) => (1 ≤ n ∧ n ≤ 1000) ∧ xs ≠ [] ∧ xs.length ≤ 1000 ∧ Φ (.d (.tuple (List.replicate n.toNat xs).flatten)) θ
  | _, _ => False
theorem op_mulT : OpR X (binaryOp .Mult) (fun x y H Q => rOnceT X.K x y H Q ∨ rRepT X.K x y H Q) := OpR.or op_onceT op_repT
theorem sim_mulT (hK : X.K = c.K) : SimR c (fun x y H Q => rOnceT X.K x y H Q ∨ rRepT X.K x y H Q) fMulT := fun Zh F0 σ H ρ θ x y rx ry Φ Q S dx dy h k => by
  rw [hK]
  unfold fMulT at h
  split at h
  · rename_i xs n
    obtain ⟨⟨h1, h2⟩, ne, hl, h⟩ := h
    cases dy
    cases dx with
    | tup hs ha =>
      by_cases c1 : n = 1
      · subst c1
        refine .inl ⟨_, _, rfl, rfl, sqT_up hs, k _ (.d (.tuple xs)) H θ S (Mono.refl _) (Dq.tup hs ha) ?_⟩
        have e : (List.replicate (1 : Int).toNat xs).flatten = xs := by
          show (List.replicate 1 xs).flatten = xs
          simp
        rw [e] at h
        exact h
      · refine .inr ⟨_, n, _, rfl, rfl, sqT_up hs, fun e => ne ?_, by omega, h2, by rw [ha.length]; exact hl, fun p np => newT S k np (ha.rep _) h⟩
        have := ha.length
        rw [e] at this
        exact List.eq_nil_of_length_eq_zero this.symm
  · exact h.elim
/-! ### tuples put together -/
def fCatT : DOp := fun x y θ Φ => match x, y with
  | .d (.tuple xs), .d (.tuple ys) => small (xs.length + ys.length) ∧ Φ (.d (.tuple (xs ++ ys))) θ
  | _, _ => False
theorem sim_catT : SimR c (rCatA c.K) fCatT := fun Zh F0 σ H ρ θ x y rx ry Φ Q S dx dy h k => by
  unfold fCatT at h
  split at h
  · cases dx with
    | tup h1 d1 =>
      cases dy with
      | tup h2 d2 =>
        rename_i xs ys _ _ _ _
        have e1 := d1.length
        have e2 := d2.length
        refine ⟨_, _, _, _, rfl, rfl, sqT_up h1, sqT_up h2, by rw [e1, e2]; exact h.1.line, fun z => ?_, fun _ z => ?_, fun _ _ p np => newT S k np (d1.append d2) h.2⟩
        · subst z
          have : xs = [] := List.eq_nil_of_length_eq_zero e1.symm
          subst this
          exact k _ (.d (.tuple ys)) H θ S (Mono.refl _) (Dq.tup h2 d2) h.2
        · subst z
          have : ys = [] := List.eq_nil_of_length_eq_zero e2.symm
          subst this
          rw [List.append_nil] at h
          exact k _ (.d (.tuple xs)) H θ S (Mono.refl _) (Dq.tup h1 d1) h.2
  · exact h.elim
/-! ### a comprehension within a comprehension -/
theorem relabel_has {S : Scope} {env : Env} {y : Str} : ∀ {names : List (Str × NameKind)}, (names.lookup y = some .cell ∨ names.lookup y = some .free) →
    ((relabel { S with names := names } env).names.lookup y = some .cell ∨ (relabel { S with names := names } env).names.lookup y = some .free)
  | [], h => by simp at h
  | (n, k) :: r, h => by
    have ih := relabel_has (S := S) (env := env) (y := y) (names := r)
    unfold relabel at ih ⊢
    simp only [List.map_cons] at ih ⊢
    rw [List.lookup_cons] at h
    cases q : y == n with
    | true =>
      rw [q] at h
      have h : k = .cell ∨ k = .free := h.imp Option.some.inj Option.some.inj
      split
      · rw [List.lookup_cons, q]
        exact .inl rfl
      · rw [List.lookup_cons, q]
        exact h.imp (congrArg some) (congrArg some)
    | false =>
      rw [q] at h
      split
      · rw [List.lookup_cons, q]
        exact ih h
      · rw [List.lookup_cons, q]
        exact ih h
theorem blkIn {N : List Str} {S1 scope : Scope} {own : List (Str × Nat)} {env : Env} (h : blkC N S1 scope own = true) : BlkOk N (relabel S1 env) scope own :=
  let b := blkOk_by h
  ⟨b.kind, b.uniq, b.ix, fun y hy e => relabel_has (S := S1) (b.free y hy e), b.own⟩
end
end TlD
set_option Elab.async false
set_option linter.all false
set_option maxRecDepth 100000
set_option maxHeartbeats 4000000
namespace TlD
open PySem PySem.Spec PyProof.Rows L2 GxR TlG
local macro_rules | `(tactic| walk_at "rd") => `(tactic| simp only [dSeq, dSet, dAsg, dSetIx, dDrop, dIfS, dFor, dRet, dRetN, dRetF, dNext, dRaise, dVar, dC, dOp, dUn, dCall, dTest, dAnd, dOr, dNot, dAndV, dOrV, dNotV, dIf, dChain, dNil, dCons, dTup, dTup.allD, dLst, dLstO, dNewP, dNewO, dListC, dIsi, dFn0, dFn, dAll, dItT, dItL, dItS, dItR1, dItR2, dItZ, dSl, oNone, oSome, gN, gT, gsNil, gsCons, dSortSet, dRevS, nth, put, startR, fAdd, fSub, fMul, fDiv, fMod, fLt, fLe, fGt, fGe, fLtT, fEq, fNe, fIn, fIsN, fIsB, fLen, fIx, fSl, fTuple, fAbs, fMax, fMin, fDivmod, fStrI, dAppend, dPopAt, on2I, is1I, is2I, is2Z, on1, dat, asD, asB, asI, asS, onOwn, lenD, listD, ixD, List.length_cons, List.length_nil])


theorem lap_small (n : Nat) : rOk (if (if (6 : Int) < (n : Int) then 6 else (n : Int)) > 1 then (if (6 : Int) < (n : Int) then 6 else (n : Int)) else 1) := by
  refine rOk_of ?_ ?_ <;> split <;> split <;> omega
/-! ### the letters in the order in which they first come -/
def seenStep (acc : List Nat) (c : Nat) : List Nat := if c ∈ acc then acc else acc ++ [c]
def seenL (cs : List Nat) : List Nat := cs.foldl seenStep []
theorem seen_snoc (cs : List Nat) (c : Nat) : seenL (cs ++ [c]) = seenStep (seenL cs) c := by
  unfold seenL
  rw [List.foldl_append]
  rfl
theorem seen_sub (cs : List Nat) : (∀ c ∈ seenL cs, c ∈ cs) ∧ (seenL cs).length ≤ cs.length := by
  have key : ∀ (cs acc : List Nat), (∀ c ∈ cs.foldl seenStep acc, c ∈ acc ∨ c ∈ cs) ∧ (cs.foldl seenStep acc).length ≤ acc.length + cs.length := by
    intro cs
    induction cs with
    | nil => exact fun acc => ⟨fun c h => .inl h, Nat.le_refl _⟩
    | cons d cs ih =>
      intro acc
      obtain ⟨h1, h2⟩ := ih (seenStep acc d)
      refine ⟨fun c h => ?_, ?_⟩
      · rcases h1 c h with h | h
        · unfold seenStep at h
          split at h
          · exact .inl h
          · rcases List.mem_append.mp h with h | h
            · exact .inl h
            · exact .inr (by rw [List.mem_singleton.mp h]; exact List.mem_cons_self)
        · exact .inr (List.mem_cons_of_mem _ h)
      · rw [List.foldl_cons, List.length_cons]
        have : (seenStep acc d).length ≤ acc.length + 1 := by
          unfold seenStep
          split
          · omega
          · rw [List.length_append]
            simp
        omega
  obtain ⟨h1, h2⟩ := key cs []
  exact ⟨fun c h => (h1 c h).resolve_left (by simp), by
    have h2 : (seenL cs).length ≤ 0 + cs.length := h2
    omega⟩
def sp_firsts (E : Str → Addr) : DSp := fun rs θ Φ Ex => match rs with
  | [.d w, .d x] => okText x ∧ if isWeb w = true then (if hasLetters x (manyOf w).toNat = true then Φ (.d (.tuple ((seenL (strOf x).cps.toList).map fun c : Nat => PyData.int ((c : Int) - 97)))) θ else Ex (.plain (E "NoWord")) θ) else Ex (.plain (E "NoWeb")) θ
  | _ => False
def sp_longer (E : Str → Addr) : DSp := fun rs θ Φ Ex => match rs with
  | [.d w, .d x] => okText x ∧ if isWeb w = true then (if hasLetters x (manyOf w).toNat = true then Φ (.d (.str (txt (seenL (strOf x).cps.toList) ++ strOf x))) θ else Ex (.plain (E "NoWord")) θ) else Ex (.plain (E "NoWeb")) θ
  | _ => False
theorem firsts_step {E : Str → Addr} {m : Nat} {l : List (Int × Int)} {x : Str} {θ : Th} {Φ : RK} {Ex : XD → Th → Prop} (h1 : 1 ≤ m) (h6 : m ≤ 6) (hl : l.Sublist (pairs m)) (hx : made x m = true) (hxl : x.length < 64)
    (k : Φ (.d (.tuple ((seenL x.cps.toList).map fun c : Nat => PyData.int ((c : Int) - 97)))) θ) : sp_firsts E [.d (webD m l), .d (.str x)] θ Φ Ex := by
  have em : (manyOf (webD m l)).toNat = m := Int.toNat_natCast m
  refine ⟨⟨hxl, made_low hx h6⟩, ?_⟩
  rw [web_ok h1 h6 hl, if_pos rfl, em, show hasLetters (.str x) m = true from hx, if_pos rfl]
  exact k
theorem longer_step {E : Str → Addr} {m : Nat} {l : List (Int × Int)} {x : Str} {θ : Th} {Φ : RK} {Ex : XD → Th → Prop} (h1 : 1 ≤ m) (h6 : m ≤ 6) (hl : l.Sublist (pairs m)) (hx : made x m = true) (hxl : x.length < 64)
    (k : Φ (.d (.str (txt (seenL x.cps.toList) ++ x))) θ) : sp_longer E [.d (webD m l), .d (.str x)] θ Φ Ex := by
  have em : (manyOf (webD m l)).toNat = m := Int.toNat_natCast m
  refine ⟨⟨hxl, made_low hx h6⟩, ?_⟩
  rw [web_ok h1 h6 hl, if_pos rfl, em, show hasLetters (.str x) m = true from hx, if_pos rfl]
  exact k
theorem shown_text {x : Str} (h : x.length ≤ 1000) (hc : ∀ c ∈ x.cps.toList, c < 128) : shownOk (.str x) := by
  refine ⟨rfl, by simp only [PyData.showable], Nat.zero_le _, PyData.shown_fits (B := 8) (by decide) (by decide) ?_ ?_⟩
  · simp only [PyData.leavesShort, List.all_eq_true, decide_eq_true_eq]
    intro c hcx
    have := hc c hcx
    have e : (16 : Nat) ^ 8 = 4294967296 := by decide
    omega
  · show x.cps.size ≤ 2 ^ 20
    have e : (2 : Nat) ^ 20 = 1048576 := by decide
    have : x.cps.size ≤ 1000 := h
    omega
theorem shown_nums : ∀ {cs : List Nat}, (∀ c ∈ cs, 97 ≤ c ∧ c < 103) → PyData.showableAll (cs.map fun c : Nat => PyData.int ((c : Int) - 97)) = true ∧ PyData.leavesShortAll 8 (cs.map fun c : Nat => PyData.int ((c : Int) - 97)) = true ∧ PyData.weightAll (cs.map fun c : Nat => PyData.int ((c : Int) - 97)) ≤ 4 * cs.length ∧ flatDs (cs.map fun c : Nat => PyData.int ((c : Int) - 97)) = true ∧ PyData.depthAll (cs.map fun c : Nat => PyData.int ((c : Int) - 97)) = 0
  | [], _ => ⟨rfl, rfl, Nat.le_refl _, rfl, rfl⟩
  | c :: cs, h => by
    obtain ⟨a1, a2, a3, a4, a5⟩ := shown_nums fun d hd => h d (List.mem_cons_of_mem _ hd)
    have hc := h c List.mem_cons_self
    obtain ⟨b1, b2, b3⟩ := six_cases (show c - 97 ≤ 6 by omega)
    have e : ((c - 97 : Nat) : Int) = (c : Int) - 97 := by omega
    rw [e] at b1 b2 b3
    rw [List.map_cons, List.length_cons]
    refine ⟨?_, ?_, ?_, ?_, ?_⟩
    · simp only [PyData.showableAll, a1, b1, Bool.and_self]
    · simp only [PyData.leavesShortAll, a2, b2, Bool.and_self]
    · show PyData.weight (.int ((c : Int) - 97)) + 1 + PyData.weightAll _ ≤ _
      omega
    · show (true && flatDs _) = true
      rw [a4]
      rfl
    · show max 0 (PyData.depthAll _) = 0
      rw [a5]
      rfl
theorem shown_firsts {cs : List Nat} (h : ∀ c ∈ cs, 97 ≤ c ∧ c < 103) (hl : cs.length ≤ 1000) : shownOk (.tuple (cs.map fun c : Nat => PyData.int ((c : Int) - 97))) := by
  obtain ⟨a1, a2, a3, a4, a5⟩ := shown_nums h
  refine ⟨a4, by simp only [PyData.showable, a1], ?_, PyData.shown_fits (B := 8) (by decide) (by decide) (by simp only [PyData.leavesShort, a2]) ?_⟩
  · show PyData.depthAll _ + 1 ≤ 64
    rw [a5]
    decide
  · show PyData.weightAll _ ≤ 2 ^ 20
    have e : (2 : Nat) ^ 20 = 1048576 := by decide
    omega
theorem abc_index {c : Nat} (h1 : 97 ≤ c) (h2 : c < 103) : Builtin.Str.occurrences "abcdef" (⟨#[c]⟩ : Str) 0 ("abcdef" : Str).length 1 = (c - 97) :: [] := by
  rcases (by omega : c = 97 ∨ c = 98 ∨ c = 99 ∨ c = 100 ∨ c = 101 ∨ c = 102) with rfl | rfl | rfl | rfl | rfl | rfl <;> decide +kernel


end TlD
set_option Elab.async false
set_option linter.all false
set_option maxRecDepth 100000
set_option maxHeartbeats 4000000
namespace TlD
open PySem PySem.Spec PyProof.Rows L2 GxR TlG
local macro_rules | `(tactic| walk_at "rd") => `(tactic| simp only [dSeq, dSet, dAsg, dSetIx, dDrop, dIfS, dFor, dRet, dRetN, dRetF, dNext, dRaise, dVar, dC, dOp, dUn, dCall, dTest, dAnd, dOr, dNot, dAndV, dOrV, dNotV, dIf, dChain, dNil, dCons, dTup, dTup.allD, dLst, dLstO, dNewP, dNewO, dListC, dIsi, dFn0, dFn, dAll, dItT, dItL, dItS, dItR1, dItR2, dItZ, dSl, oNone, oSome, gN, gT, gsNil, gsCons, dSortSet, dRevS, nth, put, startR, fAdd, fSub, fMul, fDiv, fMod, fLt, fLe, fGt, fGe, fLtT, fEq, fNe, fIn, fIsN, fIsB, fLen, fIx, fSl, fTuple, fAbs, fMax, fMin, fDivmod, fStrI, dAppend, dPopAt, on2I, is1I, is2I, is2Z, on1, dat, asD, asB, asI, asS, onOwn, lenD, listD, ixD, List.length_cons, List.length_nil])




def B_firsts_1 : DTS := (dSeq (dSet 4 (dIndexS (dC (.str "abcdef")) (dVar 3))) (dIfS (dTest (dOp (fIn true) (dVar 4) (dVar 2))) (dDrop (dAppend (dVar 2) (dVar 4))) dNext))

def T_firsts (E : Str → Addr) : DTS := (dSeq (dDrop (dFn (sp_check_word_of E) (dCons (dVar 0) (dCons (dVar 1) dNil)))) (dSeq (dSet 2 (dLstO dNil)) (dSeq (dFor (dItS (dVar 1)) (gN 3) B_firsts_1) (dRetF (dCall fTuple (dCons (dVar 2) dNil))))))

theorem ln_firsts {E : Str → Addr} : ∀ rs θ Φ Ex, sp_firsts E rs θ Φ Ex → rs.length = 2 := fun rs θ Φ Ex h => by
  unfold sp_firsts at h
  split at h
  all_goals first
    | rfl
    | exact h.elim

theorem num_in (c : Nat) (cs : List Nat) (h1 : 97 ≤ c) (h : ∀ d ∈ cs, 97 ≤ d) : inD (.int ((c : Int) - 97)) (cs.map fun c : Nat => PyData.int ((c : Int) - 97)) = decide (c ∈ cs) := by
  induction cs with
  | nil => rfl
  | cons d cs ih =>
    show (PyData.eqv (.int ((d : Int) - 97)) (.int ((c : Int) - 97)) || inD _ _) = _
    rw [ih fun e he => h e (List.mem_cons_of_mem _ he)]
    have e : PyData.eqv (.int ((d : Int) - 97)) (.int ((c : Int) - 97)) = decide (c = d) := by
      show (((d : Int) - 97) == ((c : Int) - 97)) = _
      have := h d List.mem_cons_self
      by_cases q : c = d
      · subst q
        simp
      · have : (((d : Int) - 97) == ((c : Int) - 97)) = false := by
          simp
          omega
        rw [this]
        simp [q]
    rw [e]
    by_cases q : c = d <;> simp [q]
theorem num_scal (cs : List Nat) : (cs.map fun c : Nat => PyData.int ((c : Int) - 97)).all scalD = true := by
  rw [List.all_eq_true]
  intro d hd
  obtain ⟨p, _, rfl⟩ := List.mem_map.mp hd
  rfl

theorem rd_firsts {E : Str → Addr} : ∀ rs θ Φ Ex, sp_firsts E rs θ Φ Ex → T_firsts E { nx := fun _ θ' => Φ (.d .none) θ', rt := Φ, ex := fun xd _ θ' => Ex xd θ' } (startR 5 rs) θ := by
  intro rs θ Φ Ex h
  unfold sp_firsts at h
  split at h
  · rename_i w x
    obtain ⟨ht, h⟩ := h
    unfold T_firsts
    walk_at "rd"
    simp only [sp_check_word_of]
    refine ⟨ht, ?_⟩
    cases e1 : isWeb w with
    | false => simpa [e1] using h
    | true =>
      simp only [e1, if_true] at h ⊢
      obtain ⟨m, ts, rfl, h1, h6⟩ := web_form e1
      have em : manyOf (.tuple [.int m, .tuple ts]) = m := rfl
      rw [em] at h ⊢
      cases e2 : hasLetters x m.toNat with
      | false => simpa [e2] using h
      | true =>
        simp only [e2, if_true] at h ⊢
        cases x with
        | str x =>
          have hx : made x m.toNat = true := e2
          have rng : ∀ c ∈ x.cps.toList, 97 ≤ c ∧ c < 103 := fun c hc => by
            have := (made_iff.mp hx c).mp hc
            omega
          have sx : signsD x = x.cps.toList.map sg := signsD_eq x
          have xl : x.cps.toList.length = x.length := Array.length_toList
          have ht : x.length < 64 := ht.1
          refine ⟨by decide, fun p hp => ?_⟩
          refine forD_inv (fun j ρ θ6 => ∃ x3 x4, θ6 = (p, (seenL (x.cps.toList.take j)).map fun c : Nat => PyData.int ((c : Int) - 97)) :: θ ∧ ρ = [some (.d (.tuple [.int m, .tuple ts])), some (.d (.str x)), some (.own p), x3, x4]) _ 0 _ _ (fun j d ed ρ θ6 K3 hI hK3 => ?_) (fun ρ θ6 hI => ?_) ⟨none, none, rfl, rfl⟩
          · obtain ⟨x3, x4, rfl, rfl⟩ := hI
            rw [Nat.zero_add] at hK3 ⊢
            rw [sx, List.getElem?_map] at ed
            cases ec : x.cps.toList[j]? with
            | none =>
              rw [ec] at ed
              cases ed
            | some c =>
              rw [ec] at ed
              cases ed
              have et : x.cps.toList.take (j + 1) = x.cps.toList.take j ++ [c] := by
                rw [List.take_succ, ec]
                rfl
              obtain ⟨c1, c2⟩ := rng c (List.mem_of_getElem? ec)
              obtain ⟨in_, ln⟩ := seen_sub (x.cps.toList.take j)
              rw [List.length_take] at ln
              have low : ∀ d ∈ seenL (x.cps.toList.take j), 97 ≤ d := fun d hd => (rng d (List.mem_of_mem_take (in_ d hd))).1
              unfold B_firsts_1
              simp only [gN, put, dSeq, dSet, dIndexS, dC, asS, dVar, nth, sg]
              refine ⟨c - 97, [], abc_index c1 c2, ?_⟩
              have e : ((c - 97 : Nat) : Int) = (c : Int) - 97 := by omega
              rw [e]
              simp only [dIfS, dTest, dOp, dVar, nth, fIn, asD, dat, lookup_top, asB, if_true]
              refine ⟨⟨rfl, num_scal _⟩, ?_⟩
              rw [num_in c _ c1 low]
              by_cases q : c ∈ seenL (x.cps.toList.take j)
              · simp only [q, decide_true, Bool.not_true, Bool.false_eq_true, if_false, dNext]
                refine hK3 _ _ ⟨_, _, ?_, rfl⟩
                rw [et, seen_snoc]
                unfold seenStep
                rw [if_pos q]
              · simp only [q, decide_false, Bool.not_false, if_true, dDrop, dAppend, dVar, nth, onOwn, lookup_top, asD]
                refine ⟨?_, ?_⟩
                · rw [List.length_map]
                  show _ ≤ 1000000
                  omega
                · rw [thSet_top hp]
                  refine hK3 _ _ ⟨_, _, ?_, rfl⟩
                  rw [et, seen_snoc]
                  unfold seenStep
                  rw [if_neg q, List.map_append]
                  rfl
          · obtain ⟨x3, x4, rfl, rfl⟩ := hI
            have full : x.cps.toList.take (0 + (signsD x).length) = x.cps.toList := by
              rw [sx, List.length_map, Nat.zero_add, List.take_length]
            rw [full]
            walk_at "rd"
            simp only [lookup_top]
            refine ⟨_, _, .del p .refl, ?_⟩
            rw [thDel_top hp]
            exact h
        | _ => simp [hasLetters] at e2
  · exact h.elim



def T_longer (E : Str → Addr) : DTS := (dRet (dOp fAdd (dJoin (dC (.str "")) (dNewP (dLc (dItT (dFn (sp_firsts E) (dCons (dVar 0) (dCons (dVar 1) dNil)))) (gN 2) dYes (dOp fIx (dC (.str "abcdef")) (dVar 2)) [2]))) (dVar 1)))

theorem ln_longer {E : Str → Addr} : ∀ rs θ Φ Ex, sp_longer E rs θ Φ Ex → rs.length = 2 := fun rs θ Φ Ex h => by
  unfold sp_longer at h
  split at h
  all_goals first
    | rfl
    | exact h.elim

theorem nums_sgs : ∀ cs : List Nat, (∀ c ∈ cs, 97 ≤ c) → (cs.map fun c : Nat => PyData.int ((c : Int) - 97)).filterMap letOf = cs.map sg
  | [], _ => rfl
  | c :: cs, h => by
    rw [List.map_cons, List.filterMap_cons, nums_sgs cs fun d hd => h d (List.mem_cons_of_mem _ hd)]
    have := h c List.mem_cons_self
    have e : 97 + ((c : Int) - 97).toNat = c := by omega
    simp only [letOf, e]
    rfl

theorem rd_longer {E : Str → Addr} : ∀ rs θ Φ Ex, sp_longer E rs θ Φ Ex → T_longer E { nx := fun _ θ' => Φ (.d .none) θ', rt := Φ, ex := fun xd _ θ' => Ex xd θ' } (startR 3 rs) θ := by
  intro rs θ Φ Ex h
  unfold sp_longer at h
  split at h
  · rename_i w x
    obtain ⟨ht, h⟩ := h
    unfold T_longer
    walk_at "rd"
    unfold dLc
    walk_at "rd"
    simp only [sp_firsts]
    refine ⟨ht, ?_⟩
    cases e1 : isWeb w with
    | false => simpa [e1] using h
    | true =>
      simp only [e1, if_true] at h ⊢
      obtain ⟨m, ts, rfl, h1, h6⟩ := web_form e1
      have em : manyOf (.tuple [.int m, .tuple ts]) = m := rfl
      rw [em] at h ⊢
      cases e2 : hasLetters x m.toNat with
      | false => simpa [e2] using h
      | true =>
        simp only [e2, if_true] at h ⊢
        cases x with
        | str x =>
          have hx : made x m.toNat = true := e2
          have rng : ∀ c ∈ x.cps.toList, 97 ≤ c ∧ c < 103 := fun c hc => by
            have := (made_iff.mp hx c).mp hc
            omega
          have xl : x.cps.toList.length = x.length := Array.length_toList
          have ht : x.length < 64 := ht.1
          obtain ⟨in_, ln⟩ := seen_sub x.cps.toList
          have es : strOf (.str x) = x := rfl
          rw [es] at h ⊢
          refine lcD_map letOf _ [] (fun d hd k1 k0 hk => ?_) (by simp; omega) ?_
          · obtain ⟨c, hc, rfl⟩ := List.mem_map.mp hd
            obtain ⟨c1, c2⟩ := rng c (in_ c hc)
            simp only [wipeR, unset]
            walk_at "rd"
            simp only [dYes, if_true]
            rw [abc_item ⟨by omega, by omega⟩]
            exact ⟨abc_small, hk⟩
          · rw [List.nil_append, nums_sgs _ fun c hc => (rng c (in_ c hc)).1]
            simp only [dJoin, dat, seqD]
            rw [strs_signs]
            refine ⟨?_, ?_⟩
            · rw [sum_ones, List.length_map]
              show _ + _ * 0 ≤ 1000000
              omega
            · rw [join_signs]
              have tl : (txt (seenL x.cps.toList)).length = (seenL x.cps.toList).length := by
                show (txt _).cps.size = _
                rw [← Array.length_toList, txt_cps]
              refine ⟨?_, h⟩
              rw [tl]
              show _ ≤ 1000000
              omega
        | _ => simp [hasLetters] at e2
  · exact h.elim

end TlD
set_option Elab.async false
set_option linter.all false
set_option maxRecDepth 100000
set_option maxHeartbeats 4000000
namespace TlD
open PySem PySem.Spec PyProof.Rows L2 GxR TlG
/-! ### words changed that show the same -/
/-- the last of l and the first of r are unlike, where both are there -/
def meet (l r : List Nat) : Bool := match l.getLast?, r.head? with
  | some a, some b => decide (a ≠ b)
  | _, _ => true
theorem apart_cons (a : Nat) (l : List Nat) : apart (a :: l) = (meet [a] l && apart l) := by
  cases l with
  | nil => rfl
  | cons b l => rfl
theorem apart_append : ∀ l r : List Nat, apart (l ++ r) = (apart l && apart r && meet l r)
  | [], r => by simp [apart, meet]
  | [a], r => by
    rw [List.singleton_append, apart_cons]
    cases apart r <;> simp [apart]
  | a :: b :: l, r => by
    have ih := apart_append (b :: l) r
    have e : meet (a :: b :: l) r = meet (b :: l) r := by simp [meet, List.getLast?_cons_cons]
    rw [e, List.cons_append, List.cons_append]
    rw [List.cons_append] at ih
    show (decide (a ≠ b) && apart (b :: (l ++ r))) = (decide (a ≠ b) && apart (b :: l) && apart r && meet (b :: l) r)
    rw [ih]
    cases decide (a ≠ b) <;> simp
theorem meet_rev (l r : List Nat) : meet l.reverse r.reverse = meet r l := by
  unfold meet
  rw [List.getLast?_reverse, List.head?_reverse]
  cases l.head? <;> cases r.getLast? <;> simp
  exact ⟨Eq.symm, Eq.symm⟩
theorem apart_rev : ∀ l : List Nat, apart l.reverse = apart l
  | [] => rfl
  | a :: l => by
    have e1 := apart_cons a l
    rw [List.reverse_cons, apart_append, apart_rev l]
    have : meet l.reverse [a] = meet [a] l := by
      have := meet_rev l [a]
      simpa using this
    rw [this, e1]
    cases apart l <;> simp [apart]
/-- two letters in turns, evenly many: the first and the last are unlike -/
theorem ends_unlike (a b : Nat) : ∀ l : List Nat, (∀ c ∈ l, c = a ∨ c = b) → apart l = true → l.length % 2 = 0 → meet l l = true
  | [], _, _, _ => rfl
  | [x], _, _, h => by simp at h
  | [x, y], _, h, _ => by
    have h : (decide (x ≠ y) && apart [y]) = true := h
    have h := (Bool.and_eq_true_iff.mp h).1
    have h := of_decide_eq_true h
    simp [meet]
    exact fun e => h e.symm
  | x :: y :: z :: r, hab, h, he => by
    have h1 : (decide (x ≠ y) && (decide (y ≠ z) && apart (z :: r))) = true := h
    obtain ⟨h2, h3⟩ := Bool.and_eq_true_iff.mp h1
    obtain ⟨h4, h5⟩ := Bool.and_eq_true_iff.mp h3
    have n1 := of_decide_eq_true h2
    have n2 := of_decide_eq_true h4
    have xz : x = z := by
      have c1 := hab x List.mem_cons_self
      have c2 := hab y (List.mem_cons_of_mem _ List.mem_cons_self)
      have c3 := hab z (List.mem_cons_of_mem _ (List.mem_cons_of_mem _ List.mem_cons_self))
      omega
    have ih := ends_unlike a b (z :: r) (fun c hc => hab c (List.mem_cons_of_mem _ (List.mem_cons_of_mem _ hc))) h5 (by simp at he ⊢; omega)
    unfold meet at ih ⊢
    simp only [List.getLast?_cons_cons, List.head?_cons] at ih ⊢
    rw [xz]
    exact ih
theorem turn_round {a b : Nat} {u v : List Nat} (hab : ∀ c ∈ u ++ v, c = a ∨ c = b) (he : (u ++ v).length % 2 = 0) : apart (v ++ u) = apart (u ++ v) := by
  have half : ∀ u v : List Nat, (∀ c ∈ u ++ v, c = a ∨ c = b) → (u ++ v).length % 2 = 0 → apart (u ++ v) = true → apart (v ++ u) = true := by
    intro u v hab he h
    have e := ends_unlike a b _ hab h he
    rw [apart_append] at h ⊢
    obtain ⟨h1, h2⟩ := Bool.and_eq_true_iff.mp h
    obtain ⟨h3, h4⟩ := Bool.and_eq_true_iff.mp h1
    have m : meet v u = true := by
      cases u with
      | nil =>
        unfold meet
        cases v.getLast? <;> rfl
      | cons c u =>
        cases v with
        | nil => rfl
        | cons d v =>
          have e1 : ((c :: u) ++ (d :: v)).getLast? = (d :: v).getLast? := by
            rw [List.getLast?_append]
            cases q : (d :: v).getLast? with
            | none => exact absurd (List.getLast?_eq_none_iff.mp q) (by simp)
            | some z => rfl
          unfold meet at e ⊢
          rw [e1] at e
          exact e
    rw [h3, h4, m]
    rfl
  cases h : apart (u ++ v) with
  | true => exact half u v hab he h
  | false =>
    cases h2 : apart (v ++ u) with
    | false => rfl
    | true =>
      have := half v u (fun c hc => hab c (List.mem_append.mpr ((List.mem_append.mp hc).symm))) (by rw [List.length_append] at he ⊢; omega) h2
      rw [h] at this
      cases this
theorem apart_twice {a b : Nat} {l : List Nat} (hab : ∀ c ∈ l, c = a ∨ c = b) (he : l.length % 2 = 0) : apart (l ++ l) = apart l := by
  rw [apart_append]
  cases h : apart l with
  | false => rfl
  | true =>
    rw [ends_unlike a b l hab h he]
    rfl
/-! ### of words -/
theorem only_letters (x : Str) (i j : Nat) : ∀ c ∈ only x i j, c = 97 + i ∨ c = 97 + j := fun c hc => by
  have := (List.mem_filter.mp hc).2
  simpa using this
theorem only_cat (cs ds : List Nat) (i j : Nat) : only (txt (cs ++ ds)) i j = only (txt cs) i j ++ only (txt ds) i j := by
  simp [only, txt]
theorem turns_behind (x : Str) (i j : Nat) : turns (revS x) i j = turns x i j := by
  have e : only (revS x) i j = (only x i j).reverse := by
    simp [only, revS, List.filter_reverse]
  unfold turns
  rw [e, apart_rev]
theorem only_len (x : Str) {i j : Nat} (ne : i ≠ j) : (only x i j).length = (x.cps.toList.filter fun c => decide (c = 97 + i)).length + (x.cps.toList.filter fun c => decide (c = 97 + j)).length := by
  unfold only
  generalize x.cps.toList = cs
  induction cs with
  | nil => rfl
  | cons c cs ih =>
    by_cases h1 : c = 97 + i
    · have h2 : ¬ c = 97 + j := by omega
      simp only [List.filter_cons, h1, decide_true, Bool.true_or, if_true, List.length_cons, ih]
      have h3 : ¬ 97 + i = 97 + j := by omega
      simp only [h3, decide_false, Bool.false_eq_true, if_false]
      omega
    · by_cases h2 : c = 97 + j
      · have h3 : ¬ 97 + j = 97 + i := by omega
        simp only [List.filter_cons, h2, decide_true, Bool.or_true, if_true, List.length_cons, ih, h3, decide_false, Bool.false_eq_true, if_false]
        omega
      · simp only [List.filter_cons, h1, h2, decide_false, Bool.or_self, Bool.false_eq_true, if_false, ih]
/-- an even word led on -/
theorem turns_led (x : Str) {i j n : Nat} (ne : i ≠ j) (he : (x.cps.toList.filter fun c => decide (c = 97 + i)).length = (x.cps.toList.filter fun c => decide (c = 97 + j)).length) :
    turns (txt (x.cps.toList.drop n ++ x.cps.toList.take n)) i j = turns x i j := by
  have ex : only x i j = only (txt (x.cps.toList.take n)) i j ++ only (txt (x.cps.toList.drop n)) i j := by
    rw [← only_cat, List.take_append_drop]
    simp [only, txt]
  unfold turns
  rw [only_cat, ex]
  refine turn_round (a := 97 + i) (b := 97 + j) (fun c hc => ?_) ?_
  · rw [← ex] at hc
    exact only_letters x i j c hc
  · rw [← ex, only_len x ne, he]
    omega
/-- an even word twice -/
theorem turns_twice (x : Str) {i j : Nat} (ne : i ≠ j) (he : (x.cps.toList.filter fun c => decide (c = 97 + i)).length = (x.cps.toList.filter fun c => decide (c = 97 + j)).length) : turns (x ++ x) i j = turns x i j := by
  have e : only (x ++ x) i j = only x i j ++ only x i j := by
    have : (x ++ x).cps.toList = x.cps.toList ++ x.cps.toList := by
      show (x.cps ++ x.cps).toList = _
      simp
    unfold only
    rw [this, List.filter_append]
  unfold turns
  rw [e]
  refine apart_twice (a := 97 + i) (b := 97 + j) (only_letters x i j) ?_
  rw [only_len x ne, he]
  omega
theorem seen_filter (p : Nat → Bool) : ∀ cs acc : List Nat, (cs.foldl seenStep acc).filter p = (cs.filter p).foldl seenStep (acc.filter p)
  | [], _ => rfl
  | c :: cs, acc => by
    rw [List.foldl_cons, seen_filter p cs, List.filter_cons]
    cases h : p c with
    | true =>
      rw [if_pos rfl, List.foldl_cons]
      congr 1
      unfold seenStep
      by_cases q : c ∈ acc
      · rw [if_pos q, if_pos (List.mem_filter.mpr ⟨q, h⟩)]
      · rw [if_neg q, if_neg (fun z => q (List.mem_filter.mp z).1), List.filter_append]
        simp [h]
    | false =>
      rw [if_neg Bool.false_ne_true]
      congr 1
      unfold seenStep
      split
      · rfl
      · rw [List.filter_append]
        simp [h]
theorem seen_full {h o : Nat} : ∀ t : List Nat, (∀ c ∈ t, c = h ∨ c = o) → t.foldl seenStep [h, o] = [h, o]
  | [], _ => rfl
  | c :: t, hc => by
    have : seenStep [h, o] c = [h, o] := by
      unfold seenStep
      rw [if_pos]
      rcases hc c List.mem_cons_self with e | e <;> simp [e]
    rw [List.foldl_cons, this]
    exact seen_full t fun d hd => hc d (List.mem_cons_of_mem _ hd)
theorem seen_two {h o : Nat} (ne : h ≠ o) : ∀ t : List Nat, (∀ c ∈ t, c = h ∨ c = o) → o ∈ t → t.foldl seenStep [h] = [h, o]
  | [], _, z => nomatch z
  | c :: t, hc, z => by
    rw [List.foldl_cons]
    rcases hc c List.mem_cons_self with e | e
    · have : seenStep [h] c = [h] := by
        unfold seenStep
        rw [if_pos (by simp [e])]
      rw [this]
      refine seen_two ne t (fun d hd => hc d (List.mem_cons_of_mem _ hd)) ?_
      rcases List.mem_cons.mp z with z | z
      · exact absurd (e.symm.trans z.symm) ne
      · exact z
    · have : seenStep [h] c = [h, o] := by
        unfold seenStep
        rw [if_neg (by simp [e]; exact fun z => ne z.symm), e]
        rfl
      rw [this]
      exact seen_full t fun d hd => hc d (List.mem_cons_of_mem _ hd)
/-- a word made longer -/
theorem turns_longer (x : Str) {i j : Nat} (ne : i ≠ j) (hi : 97 + i ∈ x.cps.toList) (hj : 97 + j ∈ x.cps.toList) : turns (txt (seenL x.cps.toList) ++ x) i j = turns x i j := by
  have e : only (txt (seenL x.cps.toList) ++ x) i j = seenL (only x i j) ++ only x i j := by
    have : (txt (seenL x.cps.toList) ++ x).cps.toList = seenL x.cps.toList ++ x.cps.toList := by
      show ((seenL x.cps.toList).toArray ++ x.cps).toList = _
      simp
    unfold only
    rw [this, List.filter_append]
    congr 1
    exact seen_filter _ _ _
  have m1 : 97 + i ∈ only x i j := List.mem_filter.mpr ⟨hi, by simp⟩
  have m2 : 97 + j ∈ only x i j := List.mem_filter.mpr ⟨hj, by simp⟩
  have lets := only_letters x i j
  unfold turns
  rw [e]
  generalize only x i j = l at m1 m2 lets
  cases l with
  | nil => cases m1
  | cons h t =>
    have key : ∀ o : Nat, h ≠ o → o ∈ h :: t → (∀ c ∈ h :: t, c = h ∨ c = o) → apart (seenL (h :: t) ++ h :: t) = apart (h :: t) := by
      intro o no ho hc
      have ht : o ∈ t := (List.mem_cons.mp ho).resolve_left fun z => no z.symm
      have es : seenL (h :: t) = [h, o] := by
        unfold seenL
        rw [List.foldl_cons]
        exact seen_two no t (fun d hd => hc d (List.mem_cons_of_mem _ hd)) ht
      rw [es]
      show (decide (h ≠ o) && (decide (o ≠ h) && apart (h :: t))) = _
      simp [no, Ne.symm no]
    rcases lets h List.mem_cons_self with e1 | e1
    · exact key (97 + j) (by omega) m2 fun c hc => by
        rcases lets c hc with q | q
        · exact .inl (q.trans e1.symm)
        · exact .inr q
    · exact key (97 + i) (by omega) m1 fun c hc => by
        rcases lets c hc with q | q
        · exact .inr q
        · exact .inl (q.trans e1.symm)
end TlD
set_option Elab.async false
set_option linter.all false
set_option maxRecDepth 100000
set_option maxHeartbeats 4000000
namespace TlD
open PySem PySem.Spec PyProof.Rows L2 GxR TlG
section
variable {c : Cn} {X : Cx}
/-- a, b = x, y -/
def dPar (i j : Nat) (Ta : DTA) : DTS := fun E ρ θ => Ta E.ex ρ θ fun rs θ1 => match rs with
  | [r, q] => E.nx (put (put ρ i r) j q) θ1
  | _ => False
theorem ds_par {i j : Nat} {x y : Str} {a b : Expr} {ta : TA} {Ta : DTA} {px py pt pos : Pos} {kt k2 pt2} (hc : X.calm = true) (hN : X.N.Nodup) (hi : X.N[i]? = some x) (hj : X.N[j]? = some y) (hij : i ≠ j)
    (hx : X.env.scope.names.lookup x = some .local) (hy : X.env.scope.names.lookup y = some .local) (ha : DA c X [a, b] ta Ta)
    (hw : swappedStores [.Tuple [.Name x px, .Name y py] kt pt] (.Tuple [a, b] k2 pt2) X.env = pure (some [x, y]))
    (hs : swapsWithSole [.Tuple [.Name x px, .Name y py] kt pt] (.Tuple [a, b] k2 pt2) pos.line X.env = pure false := by rfl) :
    DS c X (.Assign [.Tuple [.Name x px, .Name y py] kt pt] (.Tuple [a, b] k2 pt2) pos) (tPar i j ta) (dPar i j Ta) := by
  refine ⟨ps_par hc hN hi hj hij hx hy ha.pa hw hs, fun Zh F0 E D L O σ H ρ θ S h => ha.sim Zh F0 E.ex L σ H ρ θ _ _ S h fun vs rs H1 θ1 S1 m1 d1 h1 => ?_⟩
  split at h1
  · cases d1 with
    | cons d2 d3 =>
      cases d3 with
      | cons d4 d5 =>
        cases d5
        exact ⟨_, _, rfl, O.nx _ H1 _ θ1 ((S1.set d2).set d4) (by rw [← put_set, ← put_set]; exact h1)⟩
  · exact h1.elim
/-! ### a or b, of tuples -/
def dOrT (Ta Tb : DTE) : DTE := fun Ex ρ θ Φ => Ta Ex ρ θ fun r θ1 => dat r θ1 fun d => match d with
  | .tuple ds => if ds.isEmpty = true then Tb Ex ρ θ1 Φ else Φ r θ1
  | _ => False
theorem de_orT {a b : Expr} {ta tb : TE} {Ta Tb : DTE} {rest : List Expr} {pos : Pos} (hK : X.K = c.K) (ha : DE c X a ta Ta) (hb : DE c X (.BoolOp .Or (b :: rest) pos) tb Tb) : DE c X (.BoolOp .Or (a :: b :: rest) pos) (tOrT c.K ta tb) (dOrT Ta Tb) := by
  have p := pe_orT (pos := pos) ha.pe hb.pe
  rw [hK] at p
  refine ⟨p, fun Zh F0 Ex L σ H ρ θ Φ Q S h k => ha.sim Zh F0 Ex L σ H ρ θ _ _ S h fun v r H1 θ1 S1 m1 d1 h1 => ?_⟩
  obtain ⟨d, hd, h2⟩ := dat_of S1.hs d1 h1
  cases d with
  | tuple ds =>
    obtain ⟨a', vs, rfl, h3, h4⟩ := hd.tuple
    have e : vs.isEmpty = ds.isEmpty := by
      have := h4.length
      cases vs <;> cases ds <;> simp at this <;> rfl
    refine ⟨!vs.isEmpty, .inr (.inl ⟨vs, h3, rfl⟩), ?_⟩
    rw [e]
    cases q : ds.isEmpty with
    | true =>
      simp only [q, if_true, Bool.not_true, Bool.false_eq_true, if_false] at h2 ⊢
      exact hb.sim Zh F0 Ex L σ H1 ρ θ1 Φ Q S1 h2 (k.step m1)
    | false =>
      simp only [q, if_true, Bool.not_false, Bool.false_eq_true, if_false] at h2 ⊢
      exact k _ r H1 θ1 S1 m1 d1 h2
  | _ => exact h2.elim
end
end TlD
set_option Elab.async false
set_option linter.all false
set_option maxRecDepth 100000
set_option maxHeartbeats 4000000
namespace TlD
open PySem PySem.Spec PyProof.Rows L2 GxR TlG
/-! ### what holds behind a step in two readings holds in both at once -/
def Both {α : Type} (t : Sem α) : Prop := ∀ (M : Model) (Γ : PySem.Ctx) (Q Q' : α → Pos → Shared → Prop) (E E' : Value → Pos → Shared → Prop) (p : Pos) (s : Shared),
  Sem.wp M Γ t Q E p s → Sem.wp M Γ t Q' E' p s → Sem.wp M Γ t (fun a p s => Q a p s ∧ Q' a p s) (fun e p s => E e p s ∧ E' e p s) p s
theorem both_pure {α : Type} (a : α) : Both (pure a : Sem α) := fun _ _ _ _ _ _ _ _ h g => ⟨h, g⟩
theorem both_bind {α β : Type} {m : Sem α} {f : α → Sem β} (h : Both m) (g : ∀ a, Both (f a)) : Both (m >>= f) := fun M Γ Q Q' E E' p s h1 h2 => by
  rw [Sem.wp_bind'] at h1 h2 ⊢
  exact Sem.wp_mono M Γ m (fun a p' s' z => g a M Γ Q Q' E E' p' s' z.1 z.2) (fun _ _ _ z => z) p s (h M Γ _ _ _ _ p s h1 h2)
theorem both_ask : Both ask := fun _ _ _ _ _ _ _ _ h g => ⟨h, g⟩
theorem both_text (x : Str) : Both (mkText x) := fun _ _ _ _ _ _ _ _ h g => ⟨h, g⟩
theorem both_no {α : Type} (x : String) : Both (unsupported x : Sem α) := fun _ _ _ _ _ _ _ _ h _ => h.elim
theorem both_load (a : Addr) (b : Option Value) : Both (loadPart a b) := fun _ _ _ _ _ _ _ _ h g => by
  obtain ⟨o, e, h⟩ := h
  obtain ⟨o', e', g⟩ := g
  rw [e] at e'
  cases e'
  exact ⟨o, e, h, g⟩
theorem both_update (a : Addr) (b : Option Value) (f : Obj → Obj) : Both (updatePart a b f) := fun _ _ _ _ _ _ _ _ h g => ⟨h.1, h.2, g.2⟩
theorem both_set (a : Addr) (n : Str) (v : Value) : Both (nsSet a n v) := by
  unfold nsSet strHash
  refine both_bind (both_bind both_ask fun _ => both_pure _) fun h => both_bind (both_text _) fun k => both_bind (both_load _ _) fun o => ?_
  split
  · split
    · exact both_bind (both_no _) fun _ => both_update _ _ _
    · exact both_update _ _ _
  · exact both_no _
theorem any_both {α : Type} {t : Sem α} (h : Both t) {M : Model} {A : Around} {Q Q' : α → Shared → Prop} {E E' : Value → Shared → Prop} {s : Shared} (h1 : wpAny M A t Q E s) (h2 : wpAny M A t Q' E' s) :
    wpAny M A t (fun a s => Q a s ∧ Q' a s) (fun e s => E e s ∧ E' e s) s := fun Γ p g => h M Γ _ _ _ _ p s (h1 Γ p g) (h2 Γ p g)
section
variable {X : Cx} {pins : List (Addr × Obj)} {σ : L2.St} {H : Hp} {s : Shared}
/-- a local name is stored: what is known of it, and the very value -/
theorem store_too {A : Around} {E : Value → Shared → Prop} {M : Model} {i : Nat} {x : Str} {v : V} {u : Value} {m : Str → Option Value} {Q : Unit → Shared → Prop} (I : Inv X pins σ H s) (hN : X.N.Nodup) (hi : X.N[i]? = some x) (hx : X.env.kindOf x = some .local) (hn : s.heap.Ns X.env.locals m) (r : RelV v u)
    (h : ∀ s', Inv X pins (σ.set i (some v)) H s' → s'.heap.Ns X.env.locals (fun y => if y = x then some u else m y) → s'.toks = s.toks + 1 → Q () s') (hl : X.env.scope.names.lookup x = some .local) : wpAny M A (storeName X.env x u) Q E s := by
  have hcls : (X.env.scope.kind == .class || (X.env.scope.kind == .module && X.env.locals != X.env.globals)) = false := by rw [I.ok.kind]; rfl
  have one : wpAny M A (storeName X.env x u) (fun _ s' => Inv X pins (σ.set i (some v)) H s') E s := store_ok I hN hi (.inl hx) r (fun s' I' => I') (.inr hl)
  have two : wpAny M A (storeName X.env x u) (fun _ s' => s'.heap.Ns X.env.locals (fun y => if y = x then some u else m y) ∧ s'.toks = s.toks + 1) E s := wpAny_storeName_local hx hn (fun h' hn' hs => ⟨hn', rfl⟩) hcls
  have b : Both (storeName X.env x u) := by
    rw [storeName_local hx hcls]
    exact both_set _ _ _
  exact wpAny_mono (any_both b one two) (fun _ s' z => h s' z.1 z.2.1 z.2.2) fun _ _ z => z.1
end
/-! ### the next pair of a zip of a text and a tuple, with the sign's token -/
section
variable {prog : Program} {w : World} {A : Around} {E : Value → Shared → Prop}
/-- the cells lie apart -/
structure Cells (z P R a b t : Addr) : Prop where
  Pz : P ≠ z
  Rz : R ≠ z
  az : a ≠ z
  bz : b ≠ z
  PR : P ≠ R
  Pa : P ≠ a
  Pb : P ≠ b
  Ra : R ≠ a
  Rb : R ≠ b
  ab : a ≠ b
  tz : t ≠ z
  tR : t ≠ R
  ta : t ≠ a
  tb : t ≠ b
theorem pair_put {sh : Shared} {R : Addr} {u v n : Value} {k : Nat} {K : Unit → Shared → Prop} (c : IsTupOf2 sh.heap R u v)
    (go : ∀ g, g.get? R = some { cls := .type "tuple", data := .seq ((#[u, v] : Array Value).setIfInBounds k n) } → Heap.SameBut R sh.heap g → K () { sh with heap := g }) : wpAny (model prog w) A (updateSeq R (·.setIfInBounds k n)) K E sh :=
  wpAny_updateSeq c rfl (go _ (by
    rw [Heap.get?_update_self _ c rfl]
    simp [Obj.mapSeq]) (Heap.SameBut.update ..))
theorem pair_next {hp : Heap} {gs dr os} {tk : Nat} {z P R a b t : Addr} {x : Str} {xt : Tok} {ys : Array Value} {i sign : Nat} {y o1 o2 : Value} {K : Value → Shared → Prop} (D : Cells z P R a b t)
    (cz : IsZip hp z P R .none) (cP : IsTupOf2 hp P (.ref a) (.ref b)) (cR : IsTupOf2 hp R o1 o2) (ca : hp.IsStrIter a "str_ascii_iterator" x xt i) (cb : hp.IsTupleIter b t i) (ct : hp.IsTuple t ys) (ex : x.cps[i]? = some sign) (ey : ys[i]? = some y)
    (go : ∀ g, IsZip g z P R (rawInt hp.objs.size) → IsTupOf2 g R (.str ⟨#[sign]⟩ tk) y → g.IsStrIter a "str_ascii_iterator" x xt (i + 1) → g.IsTupleIter b t (i + 1) → IsTupOf2 g hp.objs.size (.str ⟨#[sign]⟩ tk) y → g.objs.size = hp.objs.size + 1 →
      (∀ c o, c ≠ z → c ≠ R → c ≠ a → c ≠ b → hp.get? c = some o → g.get? c = some o) → K (.ref hp.objs.size) ⟨g, gs, dr, tk + 1, os⟩) :
    wpAny (model prog w) A (Builtin.«zip.__next__» ⟨[.ref z], []⟩) (fun f sh => ∃ v, f = .done (.ret v) ∧ K v sh) E ⟨hp, gs, dr, tk, os⟩ := by
  show wpAny _ _ (field (.ref z) 2 >>= _) _ _ _
  refine wpAny_bind (wpAny_field cz rfl (x := .bool false) rfl ?_)
  show wpAny _ _ (field (.ref z) 3 >>= _) _ _ _
  refine wpAny_bind (wpAny_field cz rfl (x := .ref P) rfl (wpAny_bind (wpAny_seqItems cP rfl ?_)))
  show wpAny _ _ (Builtin.SmallTypes.ownedTupleIsFree (.ref z) >>= _) _ _ _
  unfold Builtin.SmallTypes.ownedTupleIsFree
  refine wpAny_bind (wpAny_bind (wpAny_field cz rfl (x := .none) rfl (wpAny_pure ?_)))
  simp only [if_true]
  refine wpAny_bind (wpAny_rule (wpAny_bind (wpAny_field cz rfl (x := .ref R) rfl (wpAny_bind (wpAny_setField_rec cz (by simp) fun g1 cz1 e1 => ?_)))))
  replace cz1 : IsZip g1 z P R .ellipsis := cz1
  replace e1 : Heap.SameBut z hp g1 := e1
  refine wpAny_bind ?_
  simp only [List.zipIdx_cons, List.zipIdx_nil, List.forIn_cons, List.forIn_nil]
  refine wpAny_bind (wpAny_bind (wpAny_onRaise ?_))
  show wpAny _ _ (Builtin.SmallTypes.nextOf (.ref a) >>= _) _ _ ⟨g1, gs, dr, tk, os⟩
  refine wpAny_bind (wpAny_nextOf_ascii_item (s := ⟨g1, gs, dr, tk, os⟩) (ca.extBut e1.extBut D.az) ex fun g2 ca2 e2 => wpAny_pure ?_)
  replace e2 : Heap.SameBut a g1 g2 := e2
  have cR2 : IsTupOf2 g2 R o1 o2 := e2.extBut _ _ D.Ra (e1.extBut _ _ D.Rz cR)
  refine wpAny_bind (wpAny_seqItems (s := ⟨g2, gs, dr, tk + 1, os⟩) cR2 rfl (wpAny_bind (pair_put (sh := ⟨g2, gs, dr, tk + 1, os⟩) cR2 fun g3 cR3 e3 => wpAny_bind (wpAny_letGo (wpAny_pure ?_)))))
  replace cR3 : IsTupOf2 g3 R (.str ⟨#[sign]⟩ tk) o2 := cR3
  replace e3 : Heap.SameBut R g2 g3 := e3
  refine wpAny_bind (wpAny_bind (wpAny_onRaise ?_))
  show wpAny _ _ (Builtin.SmallTypes.nextOf (.ref b) >>= _) _ _ ⟨g3, gs, dr, tk + 1, os⟩
  have cb3 : g3.IsTupleIter b t i := ((cb.extBut e1.extBut D.bz).extBut e2.extBut D.ab.symm).extBut e3.extBut D.Rb.symm
  have ct3 : g3.IsTuple t ys := ((ct.extBut e1.extBut D.tz).extBut e2.extBut D.ta).extBut e3.extBut D.tR
  refine wpAny_bind (RZ.nextOf_tuple_item (s := ⟨g3, gs, dr, tk + 1, os⟩) cb3 ct3 ey fun g4 cb4 e4 => wpAny_pure ?_)
  replace e4 : Heap.SameBut b g3 g4 := e4
  have cR4 : IsTupOf2 g4 R (.str ⟨#[sign]⟩ tk) o2 := e4.extBut _ _ D.Rb cR3
  refine wpAny_bind (wpAny_seqItems (s := ⟨g4, gs, dr, tk + 1, os⟩) cR4 rfl (wpAny_bind (pair_put (sh := ⟨g4, gs, dr, tk + 1, os⟩) cR4 fun g5 cR5 e5 => wpAny_bind (wpAny_letGo (wpAny_pure (wpAny_pure ?_))))))
  replace cR5 : IsTupOf2 g5 R (.str ⟨#[sign]⟩ tk) y := cR5
  replace e5 : Heap.SameBut R g4 g5 := e5
  refine wpAny_bind (wpAny_seqItems (s := ⟨g5, gs, dr, tk + 1, os⟩) cR5 rfl (wpAny_bind (wpAny_newTuple ?_)))
  have size : g5.objs.size = hp.objs.size := by rw [e5.1, e4.1, e3.1, e2.1, e1.1]
  have cz5 : IsZip g5 z P R .ellipsis := e5.extBut _ _ D.Rz.symm (e4.extBut _ _ D.bz.symm (e3.extBut _ _ D.Rz.symm (e2.extBut _ _ D.az.symm cz1)))
  have stay : ∀ c o, c ≠ z → c ≠ R → c ≠ a → c ≠ b → hp.get? c = some o → g5.get? c = some o := fun c o n1 n2 n3 n4 q =>
    e5.extBut _ _ n2 (e4.extBut _ _ n4 (e3.extBut _ _ n2 (e2.extBut _ _ n3 (e1.extBut _ _ n1 q))))
  have ca5 : g5.IsStrIter a "str_ascii_iterator" x xt (i + 1) := ((ca2.extBut e3.extBut D.Ra.symm).extBut e4.extBut D.ab).extBut e5.extBut D.Ra.symm
  have cb5 : g5.IsTupleIter b t (i + 1) := cb4.extBut e5.extBut D.Rb.symm
  have below : z < g5.objs.size := Heap.lt_size cz5
  show wpAny _ _ (Builtin.SmallTypes.ownedTupleHandOut (.ref z) (.ref g5.objs.size) >>= _) _ _ ⟨g5.push { cls := .type "tuple", data := .seq #[.str ⟨#[sign]⟩ tk, y] }, gs, dr, tk + 1, os⟩
  unfold Builtin.SmallTypes.ownedTupleHandOut
  have cz6 : IsZip (g5.push { cls := .type "tuple", data := .seq #[.str ⟨#[sign]⟩ tk, y] }) z P R .ellipsis := Heap.get?_push_of_some _ cz5
  refine wpAny_bind (wpAny_bind (wpAny_setField_rec cz6 (by simp) fun g7 cz7 e7 => ?_))
  replace cz7 : IsZip g7 z P R (rawInt g5.objs.size) := cz7
  refine wpAny_setField_rec cz7 (by simp) fun g8 cz8 e8 => ?_
  replace cz8 : IsZip g8 z P R (rawInt g5.objs.size) := cz8
  replace e7 : Heap.SameBut z (g5.push { cls := .type "tuple", data := .seq #[.str ⟨#[sign]⟩ tk, y] }) g7 := e7
  replace e8 : Heap.SameBut z g7 g8 := e8
  have rise : ∀ c o, c ≠ z → g5.get? c = some o → g8.get? c = some o := fun c o n q => e8.extBut _ _ n (e7.extBut _ _ n (Heap.get?_push_of_some _ q))
  have cT : IsTupOf2 g8 g5.objs.size (.str ⟨#[sign]⟩ tk) y := e8.extBut _ _ (Nat.ne_of_gt below) (e7.extBut _ _ (Nat.ne_of_gt below) (Heap.get?_push_size _ rfl))
  have size8 : g8.objs.size = g5.objs.size + 1 := by rw [e8.1, e7.1, Heap.size_push]
  rw [size] at cz8 cT size8
  refine wpAny_pure ⟨_, rfl, ?_⟩
  show K (.ref g5.objs.size) ⟨g8, gs, dr, tk + 1, os⟩
  rw [size]
  exact go g8 cz8 (rise _ _ D.Rz cR5) (let ⟨o, q, r⟩ := ca5; ⟨o, rise _ o D.az q, r⟩) (cb5.at fun o q => rise _ o D.bz q) cT size8 fun c o n1 n2 n3 n4 q => rise c o n1 (stay c o n1 n2 n3 n4 q)
end
/-! ### for a, b in zip(text, tuple): r = r.replace(text[b], a) -/
/-- no text's token is booked as shared or not -/
def bookless (o : Obj) : Bool := match o.data with
  | .dict es _ => es.all (fun e => match e.key with | .str _ _ => true | _ => false) && (nsFind es sharingNotToldKey).isNone
  | _ => false
theorem none_of_book {h : Heap} {o : Obj} (e : h.get? cStatics = some o) (b : bookless o = true) : NoneBooked h := by
  have i : h.isNs cStatics = true := by
    unfold Heap.isNs
    rw [e]
    unfold bookless at b
    split at b
    · rename_i es n hd
      simp only [hd]
      exact (Bool.and_eq_true_iff.mp b).1
    · cases b
  refine ⟨_, .of_isNs i, ?_⟩
  unfold Heap.nsMap
  rw [e]
  unfold bookless at b
  split at b
  · rename_i es n hd
    simp only [hd]
    exact Option.isNone_iff_eq_none.mp (Bool.and_eq_true_iff.mp b).2
  · cases b
def Bookless (K : PySem.W.Frag) : Prop := ∃ o, K.lookup cStatics = some o ∧ bookless o = true
section
variable {X : Cx} {pins : List (Addr × Obj)} {σ : L2.St} {H : Hp} {s : Shared}
theorem Bookless.at_ (b : Bookless X.K) (I : Inv X pins σ H s) : NoneBooked s.heap := by
  obtain ⟨o, e, g⟩ := b
  exact none_of_book (I.kIn _ _ e) g
/-- the turned text, its token whatever it is -/
theorem rep_eval {abc x : Str} {ir ip c1 c2 k : Nat} {rx px lx : Str} {tk : Tok} {m : Str → Option Value} {j1 : Nat} {a1 a2 a3 a4 a5 a6 a7 : Pos} {Q : Value → Shared → Prop} (I : Inv X pins σ H s) (bl : Bookless X.K)
    (hr : X.N[ir]? = some rx) (hp : X.N[ip]? = some px) (vr : X.env.scope.names.lookup rx = some .local) (vp : X.env.scope.names.lookup px = some .local) (vl : X.env.kindOf lx = some .local)
    (sr : σ[ir]? = some (some (.str x))) (sp : σ[ip]? = some (some (.int (k : Nat)))) (hn : s.heap.Ns X.env.locals m) (ml : m lx = some (.str ⟨#[c2]⟩ tk)) (t1 : 1 ≤ tk) (t2 : tk < s.toks) (ek : abc.cps[k]? = some c1) (hk : k < 2 ^ 62) (hx : x.length ≤ 1000)
    (go : ∀ t' k', Q (.str (Txt.replace x ⟨#[c1]⟩ ⟨#[c2]⟩) t') { s with toks := k' })
    (dr : (rx == ("__debug__" : Str)) = false := by decide) (er : (rx == ("__classdict__" : Str)) = false := by decide) (dp : (px == ("__debug__" : Str)) = false := by decide) (ep : (px == ("__classdict__" : Str)) = false := by decide) (dl : (lx == ("__debug__" : Str)) = false := by decide)
    (hst : starEach [.Subscript (.Constant (.str abc) j1 a1) (.Name px a2) a3, .Name lx a4] X.env = [(false, eval (.Subscript (.Constant (.str abc) j1 a1) (.Name px a2) a3) X.env), (false, eval (.Name lx a4) X.env)] := by rfl)
    (hbase : attributeBase (.Name rx a5) "replace" X.env (eval (.Name rx a5) X.env) = eval (.Name rx a5) X.env := by rfl) (hline : (a6.endLine == a7.line) = true := by rfl)
    (hix : ∀ o i, subscripted (.Name px a2) false o i = operate [o, i] (getItem o i) := by intro _ _; rfl) :
    wpAny (model X.prog X.w) X.A (eval (.Call (.Attribute (.Name rx a5) "replace" a6) [.Subscript (.Constant (.str abc) j1 a1) (.Name px a2) a3, .Name lx a4] [] a7) X.env) Q X.xe s := by
  refine PySem.Call_method2 hbase hst hline (raw_name hr (.inl vr) I sr (fun v r => ?_) dr er)
  obtain ⟨tx, rfl⟩ := r
  refine ⟨"str", _, F.plainAttrs_str, F.slot_str_replace, F.type_str_replace, typeIs_str _ _ _, (fun _ e => nomatch e), Calls.callWith_builtin rfl (Calls.evalArgs_plain (Calls.spliced_cons ?_))⟩
  refine Subscript_ (Calls.Constant_str (raw_name hp (.inl vp) (I.tok _) sp (fun v r => ?_) dp ep))
  obtain ⟨ti, rfl⟩ := r
  have lt : k < abc.length := (Array.getElem?_eq_some_iff.mp ek).1
  have e0 : seqIndex? ((k : Nat) : Int) abc.length = some k := by
    have := PySem.StrLaws.seqIndex_nonneg (i := (k : Int)) (n := abc.length) (by omega) (by omega)
    simpa using this
  refine tail_any (typeIs_str _ abc _) slot_str_getitem.lookup (getItem_str (c := c1) (by
    have e1 : decide (((k : Nat) : Int) < -(2 ^ 63 : Int)) = false := decide_eq_false (by omega)
    have e2 : decide (((k : Nat) : Int) ≥ 2 ^ 63) = false := decide_eq_false (by omega)
    rw [e1, e2] <;> rfl) (by rw [e0]; exact ek) ?_) (hix _ _)
  refine Calls.spliced_cons (wpAny_Name (wpAny_loadName_local I.ok.kind vl hn ml ?_) dl)
  refine Calls.spliced_nil ?_
  have z1 : (⟨#[c2]⟩ : Str).length = 1 := rfl
  exact PySem.SC.replaceA (Nat.succ_ne_zero _) (Nat.ne_of_gt t1) (Nat.ne_of_gt (Nat.lt_succ_of_lt t2)) (by rw [z1]; omega) (fun t' k' => go t' k') (show NoneBooked s.heap from bl.at_ I)
end
def tRepB (il ip ir : Nat) (abc : Str) : TS := fun D σ H => ∃ (x : Str) (c1 c2 k : Nat), σ[ir]? = some (some (.str x)) ∧ σ[il]? = some (some (.str ⟨#[c2]⟩)) ∧ σ[ip]? = some (some (.int (k : Nat))) ∧ abc.cps[k]? = some c1 ∧ k < 2 ^ 62 ∧ x.length ≤ 1000 ∧
  D.nx (σ.set ir (some (.str (Txt.replace x ⟨#[c1]⟩ ⟨#[c2]⟩)))) H
section
variable {X : Cx}
/-- the state of the zip, the text's iterator that of plain signs -/
def ZipAt (abc : Str) (t : Addr) (n : Nat) (z TI TO i1 i2 : Addr) (i : Nat) (h : Heap) : Prop :=
  IsZip h z TI TO .none ∧ IsTupOf2 h TI (.ref i1) (.ref i2) ∧ (∃ x y, IsTupOf2 h TO x y) ∧ (Sr.txt abc).stt i1 i h ∧ (Sr.tup t n).stt i2 i h
/-- the next pair, its sign's token known -/
theorem pair_step {abc : Str} (asc : abc.cps.all (· < 128) = true) {t : Addr} {n : Nat} {z TI TO i1 i2 : Addr} {elts : List Expr} {kk : Nat} {tpos : Pos} (D : ZSep z TI TO i1 i2 (.txt abc) (.tup t n)) {pins : List (Addr × Obj)} {σ : L2.St} {H : Hp} {s : Shared} {i : Nat}
    (I : Inv X pins σ H s) (hf : ∀ b ∈ [z, TI, TO, i1, i2], FpOk X pins H b) (st : ZipAt abc t n z TI TO i1 i2 i s.heap) (one : 1 ≤ s.toks) (go : (ItzS X.K (.txt abc) (.tup t n)).go i H) :
    wpAny (model X.prog X.w) X.A (pyNext (.ref z)) (fun r s1 => ∃ u, r = some u ∧ wpAny (model X.prog X.w) X.A (letOwnedTupleGo (.Tuple elts kk tpos) (.ref z) u) (fun _ s2 =>
      ∃ (T : Addr) (c : Nat) (y : V) (w : Value), u = .ref T ∧ abc.cps[i]? = some c ∧ Inv X pins σ (upd H T (.tup [.str ⟨#[c]⟩, y])) s2 ∧ RelV y w ∧ IsTupOf2 s2.heap T (.str ⟨#[c]⟩ s.toks) w ∧ s.toks < s2.toks ∧ H T = none ∧
        (ItzS X.K (.txt abc) (.tup t n)).yld i H (.ref T) (upd H T (.tup [.str ⟨#[c]⟩, y])) ∧ ZipAt abc t n z TI TO i1 i2 (i + 1) s2.heap ∧ ∀ b ∈ [z, TI, TO, i1, i2], upd H T (.tup [.str ⟨#[c]⟩, y]) b = none) X.xe s1) X.xe s := by
  obtain ⟨hz, hTI, ⟨x0, y0, hTO⟩, ⟨xt, h1, l1⟩, ⟨h2, l2⟩⟩ := st
  obtain ⟨xs, ys, x, y, hqx, hqy, hx, hy⟩ := go
  have ty : strIterType abc = "str_ascii_iterator" := by simp [strIterType, asc]
  rw [ty] at h1
  have ex : xs = abc.cps.toList.map fun k => .str ⟨#[k]⟩ := hqx
  rw [ex, List.getElem?_map] at hx
  cases ec : abc.cps.toList[i]? with
  | none =>
    rw [ec] at hx
    cases hx
  | some c =>
    rw [ec] at hx
    cases hx
    have ec2 : abc.cps[i]? = some c := by rw [← Array.getElem?_toList]; exact ec
    obtain ⟨its, rv, pt, _⟩ := I.tuple hqy.1
    obtain ⟨w, hw, rw_⟩ := rv.get hy
    have zl : z < s.heap.objs.size := Heap.lt_size hz
    have C : Cells z TI TO i1 i2 t := ⟨D.TIz, D.TOz, D.i1z, D.i2z, D.TITO, D.TIi1, D.TIi2, D.TOi1, D.TOi2, D.i12, D.o2 z (.inl rfl), D.o2 TO (.inr (.inl rfl)), D.o2 i1 (.inr (.inr (.inl rfl))), D.o2 i2 (.inr (.inr (.inr rfl)))⟩
    have hT : s.TypeIs (.ref z) "zip" := ⟨_, hz, rfl⟩
    obtain ⟨hp, gs, dr, tk, os⟩ := s
    unfold pyNext
    refine wpAny_bind (wpAny_attempt (wpAny_callSpecial?_slot (name := Str.ofString "__next__") hT F.slot_zip_next (wpAny_call_entry F.slot_zip_next hT F.entry_zip_next (pair_next C hz hTI hTO h1 h2 pt ec2 (by simpa using hw) fun g z' R' a' b' T' sz kk' => wpAny_pure ?_) (F.args_zip_next_1 _))))
    refine ⟨_, rfl, wpAny_letOwnedTupleGo_zip (s := ⟨g, gs, dr, tk + 1, os⟩) z' fun h'' z'' sb => ?_⟩
    replace sb : Heap.SameBut z g h'' := sb
    have T2 : IsTupOf2 h'' hp.objs.size (.str ⟨#[c]⟩ tk) w := (sb.2 _ (Nat.ne_of_gt zl)).trans T'
    have new : ObjOk X.prog X.w (upd H hp.objs.size (.tup [.str ⟨#[c]⟩, y])) h'' hp.objs.size (.tup [.str ⟨#[c]⟩, y]) :=
      ⟨by show 2 ≤ sizeLine; decide, [.str ⟨#[c]⟩ tk, w], .cons ⟨tk, rfl⟩ (.cons rw_ .nil), ⟨_, T2, rfl, _, rfl⟩⟩
    have I1 : Inv X pins σ (upd H hp.objs.size (.tup [.str ⟨#[c]⟩, y])) ⟨h'', gs, dr, tk + 1, os⟩ :=
      I.turnedNew (t' := tk + 1) (ch := [z, TI, TO, i1, i2]) (fun b o hb q => (sb.2 b (fun q' => hb (by simp [q']))).trans (kk' b o (fun q' => hb (by simp [q'])) (fun q' => hb (by simp [q'])) (fun q' => hb (by simp [q'])) (fun q' => hb (by simp [q'])) q)) hf (Nat.le_refl _) new
    have nT : H hp.objs.size = none := I.hok.fresh (Nat.le_refl _)
    refine ⟨_, c, y, w, rfl, ec2, I1, rw_, T2, Nat.lt_succ_self _, nT, ⟨_, .str ⟨#[c]⟩, y, rfl, nT, rfl, fun l hl => ?_, fun l hl => ?_⟩, ⟨z'', (sb.2 _ D.TIz).trans (kk' _ _ D.TIz D.TITO D.TIi1 D.TIi2 hTI), ⟨_, _, (sb.2 _ D.TOz).trans R'⟩, ⟨xt, ?_, ?_⟩, ?_, ?_⟩, fun b hb => ?_⟩
    · have el : l = abc.cps.toList.map fun k => .str ⟨#[k]⟩ := hl
      rw [el, List.getElem?_map, ec]
      rfl
    · rw [Sr.inj I hl hqy]
      exact hy
    · rw [ty]
      obtain ⟨o, q, r⟩ := a'
      exact ⟨o, (sb.2 _ D.i1z).trans q, r⟩
    · exact (Array.getElem?_eq_some_iff.mp ec2).1
    · exact b'.at fun o q => (sb.2 _ D.i2z).trans q
    · have := (List.getElem?_eq_some_iff.mp hy).1
      have e := hqy.2
      omega
    · have lt : b < hp.objs.size := by
        have e' : b = z ∨ b = TI ∨ b = TO ∨ b = i1 ∨ b = i2 := by simpa using hb
        rcases e' with q | q | q | q | q
        · rw [q]; exact zl
        · rw [q]; exact Heap.lt_size hTI
        · rw [q]; exact Heap.lt_size hTO
        · rw [q]; obtain ⟨_, e1, _⟩ := h1; exact Heap.lt_size e1
        · rw [q]; obtain ⟨_, e2, _⟩ := h2; exact Heap.lt_size e2
      rw [upd_ne (Nat.ne_of_lt lt)]
      exact (hf b hb).1
end
section
variable {X : Cx}
theorem ps_forRep {abc : Str} {il ip ir is j0 j1 kt : Nat} {lx px rx sx : Str} {p1 p2 p3 pz c0 tpos pos0 pos a1 a2 a3 a4 a5 a6 a7 a8 a9 : Pos} (asc : abc.cps.all (· < 128) = true)
    (hp : PassesOwn (model X.prog X.w) X.A X.env X.xe) (hc : X.calm = true) (bl : Bookless X.K) (hg : Gl X "zip") (hm : X.mg "zip" = none) (hN : X.N.Nodup)
    (nl : X.N[il]? = some lx) (np : X.N[ip]? = some px) (nr : X.N[ir]? = some rx) (ns : X.N[is]? = some sx)
    (kl : X.env.scope.names.lookup lx = some .local) (kp : X.env.scope.names.lookup px = some .local) (kr : X.env.scope.names.lookup rx = some .local) (ks : X.env.scope.names.lookup sx = some .local) (ne : lx ≠ px)
    (dl : (lx == ("__debug__" : Str)) = false := by decide) (dp : (px == ("__debug__" : Str)) = false := by decide) (ep : (px == ("__classdict__" : Str)) = false := by decide) (dr : (rx == ("__debug__" : Str)) = false := by decide) (er : (rx == ("__classdict__" : Str)) = false := by decide) (ds : (sx == ("__debug__" : Str)) = false := by decide) (es : (sx == ("__classdict__" : Str)) = false := by decide)
    (hs1 : starEach [.Constant (.str abc) j0 c0, .Name sx p3] X.env = (false, eval (.Constant (.str abc) j0 c0) X.env) :: starEach [.Name sx p3] X.env := by rfl) (hs2 : starEach [.Name sx p3] X.env = [(false, eval (.Name sx p3) X.env)] := by rfl)
    (hpl : (backTo pos0 (starEach [.Name sx p3] X.env)).any (·.1) = false := by rfl)
    (hf : ∀ x, foldedSetIterable (.Call (.Name "zip" pz) [.Constant (.str abc) j0 c0, .Name sx p3] [] pos0) X.env x = pure x := by intro _; rfl)
    (hn : (assignEach [.Name lx p1, .Name px p2] X.env).length = 2 := by rfl) (hst : (assignEach [.Name lx p1, .Name px p2] X.env).findIdx? (·.1) = none := by rfl) (hea : (assignEach [.Name lx p1, .Name px p2] X.env).map (·.2) = [assign (.Name lx p1) X.env, assign (.Name px p2) X.env] := by rfl)
    (hsw : swapsWith (.Call (.Attribute (.Name rx a5) "replace" a6) [.Subscript (.Constant (.str abc) j1 a1) (.Name px a2) a3, .Name lx a4] [] a7) (some (.Name rx a8)) a9.line X.env = pure false := by rfl)
    (hse : starEach [.Subscript (.Constant (.str abc) j1 a1) (.Name px a2) a3, .Name lx a4] X.env = [(false, eval (.Subscript (.Constant (.str abc) j1 a1) (.Name px a2) a3) X.env), (false, eval (.Name lx a4) X.env)] := by rfl)
    (hbase : attributeBase (.Name rx a5) "replace" X.env (eval (.Name rx a5) X.env) = eval (.Name rx a5) X.env := by rfl) (hline : (a6.endLine == a7.line) = true := by rfl)
    (hix : ∀ o i, subscripted (.Name px a2) false o i = operate [o, i] (getItem o i) := by intro _ _; rfl) :
    PS X (.For (.Tuple [.Name lx p1, .Name px p2] kt tpos) (.Call (.Name "zip" pz) [.Constant (.str abc) j0 c0, .Name sx p3] [] pos0)
      [.Assign [.Name rx a8] (.Call (.Attribute (.Name rx a5) "replace" a6) [.Subscript (.Constant (.str abc) j1 a1) (.Name px a2) a3, .Name lx a4] [] a7) a9] [] pos)
      (tFor (iZipS X.K (fun σ H Q => ∃ t xs n, σ[is]? = some (some (.ref t)) ∧ (Sr.tup t n).is X.K H xs ∧ Q [.str abc, .ref t] H)) (gTup X.K 2 (gCons (gName il) (gCons (gName ip) gNil))) (tRepB il ip ir abc)) := by
  refine ⟨fun pins s σ H D I h => ?_⟩
  obtain ⟨t, xs0, n0, st, hx0, a0, b0, p0, q0, us, vs, ev, oa, ob, ia, ib, W, ⟨m0, w0⟩, turn⟩ := h
  cases ev
  cases p0 with
  | tup _ _ => cases oa
  | txt x =>
    cases oa
    cases q0 with
    | txt _ => cases ob
    | tup a n =>
      cases ob
      refine wpAny_For (Call_ (ld_blt I hg hm PyProof.Rows.boot_zip (PyProof.Rows.callWith_type1 ?_ hs1 hpl))) hf
      rw [hs1, hs2]
      refine Calls.spliced_cons (Calls.Constant_str (k := j0) (pos := c0) (Calls.spliced_cons (raw_name (pos := p3) ns (.inl ks) (I.tok _) st (fun v r => ?_) ds es)))
      have r : v = Value.ref t := r
      subst r
      refine Calls.spliced_nil ?_
      have I1 : Inv X pins σ H { s with toks := s.toks + 1 } := I.tok _
      generalize hs3 : ({ s with toks := s.toks + 1 } : Shared) = s1 at I1
      have one : 1 ≤ s1.toks := by
        rw [← hs3]
        exact Nat.succ_le_succ (Nat.zero_le _)
      have fresh5 : ∀ c, c ∈ [s1.heap.objs.size + 4, s1.heap.objs.size + 2, s1.heap.objs.size + 3, s1.heap.objs.size, s1.heap.objs.size + 1] → s1.heap.objs.size ≤ c := fun c hcm => by
        have e' : c = s1.heap.objs.size + 4 ∨ c = s1.heap.objs.size + 2 ∨ c = s1.heap.objs.size + 3 ∨ c = s1.heap.objs.size ∨ c = s1.heap.objs.size + 1 := by simpa using hcm
        rcases e' with z | z | z | z | z
        · rw [z]; exact Nat.le_add_right _ _
        · rw [z]; exact Nat.le_add_right _ _
        · rw [z]; exact Nat.le_add_right _ _
        · rw [z]; exact Nat.le_refl _
        · rw [z]; exact Nat.le_add_right _ _
      obtain ⟨o1, B1, g1, h1, n1, st1⟩ := Sr.begins I1 (p := .txt abc) (a := .str abc) rfl ia ⟨s.toks, rfl⟩
      obtain ⟨o2, B2, g2, h2, n2, st2⟩ := Sr.begins I1 (p := .tup t n) (a := .ref t) rfl ib rfl
      refine zip_begins2 g1 g2 h1 h2 fun h' hz hTI hTO e1 e2 hsz hk => wpAny_pyIter_zip hz ?_
      have I2 : Inv X pins σ H { s1 with heap := h' } := I1.kept (t' := s1.toks) hk
      have DD : ZSep (s1.heap.objs.size + 4) (s1.heap.objs.size + 2) (s1.heap.objs.size + 3) s1.heap.objs.size (s1.heap.objs.size + 1) (.txt abc) (.tup t n) := by
        have big : ∀ c, c = s1.heap.objs.size + 4 ∨ c = s1.heap.objs.size + 3 ∨ c = s1.heap.objs.size ∨ c = s1.heap.objs.size + 1 → s1.heap.objs.size ≤ c := fun c hc => by
          rcases hc with z | z | z | z
          · rw [z]; exact Nat.le_add_right _ _
          · rw [z]; exact Nat.le_add_right _ _
          · rw [z]; exact Nat.le_refl _
          · rw [z]; exact Nat.le_add_right _ _
        refine ⟨?_, ?_, ?_, ?_, ?_, ?_, ?_, ?_, ?_, ?_, fun c hc => n1 c (big c hc), fun c hc => n2 c (big c hc)⟩
        all_goals simp [Addr] <;> omega
      generalize hfp : [s1.heap.objs.size + 4, s1.heap.objs.size + 2, s1.heap.objs.size + 3, s1.heap.objs.size, s1.heap.objs.size + 1] = fp at fresh5
      have f2 : ∀ b ∈ fp, FpOk X pins H b := fun c hcm => I1.fpOk (fresh5 c hcm) (I1.hok.fresh (fresh5 c hcm))
      have z0 : ZipAt abc t n (s1.heap.objs.size + 4) (s1.heap.objs.size + 2) (s1.heap.objs.size + 3) s1.heap.objs.size (s1.heap.objs.size + 1) 0 h' := ⟨hz, hTI, ⟨_, _, hTO⟩, st1 _ _ e1, st2 _ _ e2⟩
      have TT := turn_zipS (P := X.prog) (w := X.w) (K := X.K) (elts := [.Name lx p1, .Name px p2]) (kk := kt) (tpos := tpos) DD
      rw [hfp] at TT
      have stat : ∀ {H' : Hp}, (∀ b ∈ fp, H' b = none) → ∀ b ∈ fp, FpOk X pins H' b := fun hn b hb => ⟨hn b hb, (f2 b hb).2⟩
      refine codeAny_forLoop_any (fun k s' => ∃ i σ' H', Inv X pins σ' H' s' ∧ ZipAt abc t n (s1.heap.objs.size + 4) (s1.heap.objs.size + 2) (s1.heap.objs.size + 3) s1.heap.objs.size (s1.heap.objs.size + 1) i s'.heap ∧ (∀ b ∈ fp, H' b = none) ∧ 1 ≤ s'.toks ∧ W i k σ' H') ?_ m0 ⟨0, σ, H, I2, z0, fun b hb => (f2 b hb).1, one, w0⟩
      rintro k s3 ⟨i, σ3, H3, I3, st3, fr3, one3, w3⟩
      rcases turn i k σ3 H3 w3 with ⟨stop, qn⟩ | ⟨go, N, hN', step⟩
      · refine wpAny_passesOwn hp (thn (TT.done X rfl rfl rfl hc i pins s3 σ3 H3 X.xe I3 (stat fr3) st3 stop) fun r s4 ⟨hr, I4⟩ => ?_)
        subst hr
        exact wpAny_execs_nil ⟨σ3, H3, I4, qn⟩
      · have PSt := pair_step (X := X) asc (elts := [.Name lx p1, .Name px p2]) (kk := kt) (tpos := tpos) DD I3 (by rw [hfp]; exact stat fr3) st3 one3 go
        refine wpAny_passesOwn hp (thn PSt fun r s4 ⟨u, hr, h4⟩ => ?_)
        subst hr
        refine wpAny_passesOwn hp (thn h4 fun _ s5 ⟨T, c, y, w, eu, ec, I5, rw_, T5, tk5, nT, y5, st5, fr5⟩ => ?_)
        subst eu
        rw [hfp] at fr5
        have I5' := I5.pinned (stat fr5) (TT.obj _ _ st5)
        have hstep := step (.ref T) _ y5
        obtain ⟨T', xs, eT, hq, hl, v1, r1, ex1, hg1⟩ := hstep
        cases eT
        have sq : SqT X.K (upd H3 T (.tup [.str ⟨#[c]⟩, y])) T [.str ⟨#[c]⟩, y] := .inl (.inl (by simp [upd]))
        have exs : xs = [.str ⟨#[c]⟩, y] := I5.tuple_inj hq sq
        subst exs
        cases ex1
        obtain ⟨v2, r2, ex2, hg2⟩ := hg1
        cases ex2
        obtain ⟨_, x1, c1, c2, k1, sr, sl, sp, ek, hk1, hx1, fin⟩ := hg2
        have as1 : wpAny (model X.prog X.w) X.A (assign (.Tuple [.Name lx p1, .Name px p2] kt tpos) X.env (.ref T)) (fun _ s6 => s3.toks < s6.toks ∧ Inv X (pins ++ pinsAt fp s5.heap) ((σ3.set il (some (.str ⟨#[c]⟩))).set ip (some y)) (upd H3 T (.tup [.str ⟨#[c]⟩, y])) s6 ∧
            ∃ m, s6.heap.Ns X.env.locals m ∧ m lx = some (.str ⟨#[c]⟩ s3.toks)) X.xe s5 := by
          refine assign_Tuple_tuple (items := #[.str ⟨#[c]⟩ s3.toks, w]) (I5'.ok.hd hc) ⟨_, T5, rfl, _, rfl⟩ (by rw [hn]; rfl) hst fun h6 hx6 => ?_
          have I6 : Inv X (pins ++ pinsAt fp s5.heap) σ3 (upd H3 T (.tup [.str ⟨#[c]⟩, y])) { s5 with heap := h6 } := I5'.kept (t' := s5.toks) fun b o e => hx6 b o (Nat.ne_of_lt (Heap.lt_size e)) e
          rw [hea]
          obtain ⟨m, hm6, _⟩ := id I6.loc
          refine assignInOrder_cons (wpAny_assign_Name (store_too (v := .str ⟨#[c]⟩) I6 hN nl kl hm6 ⟨s3.toks, rfl⟩ (fun s7 I7 m7 t7 => ?_) kl))
          refine assignInOrder_cons (wpAny_assign_Name (store_too I7 hN np kp m7 rw_ (fun s8 I8 m8 t8 => ?_) kp))
          refine assignInOrder_nil ⟨?_, I8, _, m8, ?_⟩
          · rw [t8, t7]
            exact Nat.lt_succ_of_lt (Nat.lt_succ_of_lt tk5)
          · show (if lx = px then _ else if lx = lx then _ else _) = _
            rw [if_neg ne, if_pos rfl]
        refine wpAny_passesOwn hp (thn as1 fun _ s6 ⟨t6, I6, m, hm6, ml⟩ => ?_)
        have ec1 : c2 = c := by
          have : ((σ3.set il (some (V.str ⟨#[c]⟩))).set ip (some y))[il]? = some (some (.str ⟨#[c2]⟩)) := sl
          have nip : ip ≠ il := fun e => by
            rw [e, nl] at np
            exact ne (Option.some.inj np)
          rw [List.getElem?_set_ne nip, List.getElem?_set_self (by
            have := (List.getElem?_eq_some_iff.mp nl).1
            rw [I5.len]
            exact this)] at this
          have := Option.some.inj (Option.some.inj this)
          injection this with this
          injection this with this
          simpa using this.symm
        rw [← ec1] at ml
        refine wpAny_passesOwn hp ?_
        refine wpAny_mono (PySem.wpAny_toks (wpAny_execs_cons (wpAny_Assign_Name (rep_eval (a5 := a5) (a6 := a6) (a7 := a7) (a1 := a1) (a2 := a2) (a3 := a3) (a4 := a4) (j1 := j1) (Q := fun v s7 => wpAny (model X.prog X.w) X.A (storeName X.env rx v) (fun _ s8 => wpAny (model X.prog X.w) X.A (execs [] X.env) (fun f s9 => f = .next ∧ Inv X (pins ++ pinsAt fp s5.heap) (((σ3.set il (some (.str ⟨#[c]⟩))).set ip (some y)).set ir (some (.str (Txt.replace x1 ⟨#[c1]⟩ ⟨#[c2]⟩)))) (upd H3 T (.tup [.str ⟨#[c]⟩, y])) s9) X.xe s8) X.xe s7)
          I6 bl nr np kr kp kl sr sp hm6 ml one3 t6 ek hk1 hx1 (fun t' k' => store_ok (v := .str (Txt.replace x1 ⟨#[c1]⟩ ⟨#[c2]⟩)) (I6.tok k') hN nr (.inl kr) ⟨t', rfl⟩ (fun s8 I8 => wpAny_execs_nil ⟨rfl, I8⟩) (.inr kr)) dr er dp ep dl hse hbase hline hix) hsw))) (fun f s7 q7 => ?_) fun _ _ q => q.2
        obtain ⟨t7, ef, I7⟩ := q7
        subst ef
        obtain ⟨m', hm', w7⟩ := hN' _ _ fin
        refine ⟨m', hm', i + 1, _, _, I7.unpinned, TT.keep _ _ _ st5 fun b hb o e => (I7.pin (b, o) (List.mem_append_right _ (List.mem_append_right _ (mem_pinsAt hb e)))).1, fun b hb => ?_, ?_, w7⟩
        · obtain ⟨o, e, d⟩ := TT.obj _ _ st5 b hb
          exact (I7.pin (b, o) (List.mem_append_right _ (List.mem_append_right _ (mem_pinsAt hb e)))).2.1
        · exact Nat.le_trans one3 (Nat.le_trans (Nat.le_of_lt t6) t7)
end
end TlD
set_option Elab.async false
set_option linter.all false
set_option maxRecDepth 100000
set_option maxHeartbeats 4000000
namespace TlD
open PySem PySem.Spec PyProof.Rows L2 GxR TlG
/-! ### the loop that replaces signs, over plain data -/
def swap1 (c1 c2 c : Nat) : Nat := if c = c1 then c2 else c
def swapS (x : Str) (c1 c2 : Nat) : Str := txt (x.cps.toList.map (swap1 c1 c2))
theorem map_free {c1 c2 : Nat} : ∀ l : List Nat, c1 ∉ l → l.map (swap1 c1 c2) = l
  | [], _ => rfl
  | c :: l, h => by
    rw [List.map_cons, map_free l fun z => h (List.mem_cons_of_mem _ z)]
    have : ¬ c = c1 := fun e => h (e ▸ List.mem_cons_self)
    simp [swap1, this]
theorem map_join (c1 c2 : Nat) : ∀ ps : List Str, (∀ p ∈ ps, c1 ∉ p.cps.toList) → (Str.join ⟨#[c1]⟩ ps).cps.toList.map (swap1 c1 c2) = (Str.join ⟨#[c2]⟩ ps).cps.toList
  | [], _ => rfl
  | [p], h => map_free _ (h p (List.mem_singleton.mpr rfl))
  | p :: q :: r, h => by
    have ih := map_join c1 c2 (q :: r) fun a ha => h a (List.mem_cons_of_mem _ ha)
    show (p ++ ⟨#[c1]⟩ ++ Str.join ⟨#[c1]⟩ (q :: r)).cps.toList.map (swap1 c1 c2) = (p ++ ⟨#[c2]⟩ ++ Str.join ⟨#[c2]⟩ (q :: r)).cps.toList
    simp only [Str.cps_append, Array.toList_append, List.map_append]
    rw [ih, map_free _ (h p List.mem_cons_self)]
    simp [swap1]
theorem replace_map (x : Str) (c1 c2 : Nat) : Txt.replace x ⟨#[c1]⟩ ⟨#[c2]⟩ = swapS x c1 c2 := by
  have h : (Txt.replace x ⟨#[c1]⟩ ⟨#[c2]⟩).cps.toList = x.cps.toList.map (swap1 c1 c2) := by
    rw [StrLaws.replace_one, ← map_join c1 c2 _ (StrLaws.split_free x c1), StrLaws.join_split]
  show _ = txt _
  rw [← h]
  rfl
def dRepB (il ip ir : Nat) (abc : Str) : DTS := fun E ρ θ => ∃ (x : Str) (c1 c2 k : Nat), nth ρ ir = some (.d (.str x)) ∧ nth ρ il = some (.d (.str ⟨#[c2]⟩)) ∧ nth ρ ip = some (.d (.int (k : Nat))) ∧ abc.cps[k]? = some c1 ∧ k < 2 ^ 62 ∧ x.length ≤ 1000 ∧ E.nx (put ρ ir (.d (.str (swapS x c1 c2)))) θ
def dItZP (is : Nat) (abc : Str) : DTI := fun Ex ρ θ Ψ => match nth ρ is with
  | some (.d (.tuple ys)) => Ψ (zipD (signsD abc) ys) θ
  | _ => False
section
variable {c : Cn} {X : Cx}
theorem sim_repB {il ip ir : Nat} {abc : Str} : SimS c (tRepB il ip ir abc) (dRepB il ip ir abc) := fun Zh F0 E D L O σ H ρ θ S h => by
  obtain ⟨x, c1, c2, k, er, el, ep, ek, hk, hx, h⟩ := h
  obtain ⟨v1, s1, d1⟩ := S.env ir _ (nth_get er)
  obtain ⟨v2, s2, d2⟩ := S.env il _ (nth_get el)
  obtain ⟨v3, s3, d3⟩ := S.env ip _ (nth_get ep)
  cases d1
  cases d2
  cases d3
  refine ⟨x, c1, c2, k, s1, s2, s3, ek, hk, hx, ?_⟩
  rw [replace_map]
  exact O.nx _ H _ θ (S.set (r := .d (.str (swapS x c1 c2))) (Dq.str _)) (by rw [← put_set]; exact h)
theorem sim_zipP {is : Nat} {abc : Str} : SimI c (iZipS c.K (fun σ H Q => ∃ t xs n, σ[is]? = some (some (.ref t)) ∧ (Sr.tup t n).is c.K H xs ∧ Q [.str abc, .ref t] H)) (dItZP is abc) := fun Zh F0 Ex L σ H ρ θ Ψ R S h k => by
  unfold dItZP at h
  split at h
  · rename_i ys e
    obtain ⟨v, s1, d1⟩ := S.env is _ (nth_get e)
    cases d1 with
    | tup hs hd =>
      rename_i a vs
      have i1 : (Sr.txt abc).is c.K (vis Zh θ H) (abc.cps.toList.map fun k => .str ⟨#[k]⟩) := rfl
      have i2 : (Sr.tup a vs.length).is c.K (vis Zh θ H) vs := ⟨hs, rfl⟩
      have q1 : DqAll c.K (vis Zh θ H) (abc.cps.toList.map fun k => .str ⟨#[k]⟩) (signsD abc) := by
        unfold signsD
        generalize abc.cps.toList = cs
        induction cs with
        | nil => exact .nil
        | cons k cs ih => exact .cons (.str _) ih
      exact ⟨a, vs, vs.length, s1, Sr.up i2, _, _, .txt abc, .tup a vs.length, _, _, rfl, rfl, rfl, i1, Sr.up i2, k _ _ H θ S (Mono.refl _) (feed_zipS i1 i2 q1 hd) h⟩
  · exact h.elim
/-- a loop whose statement keeps its reading, however that is known -/
theorem ds_forP {st : Stmt} {wi : TI} {g : TG} {tb : TS} {T : DTI} {G : DGt} {B : DTS} (p : PS X st (tFor wi g tb)) (si : SimI c wi T) (sg : SimG c g G) (sb : SimS c tb B) : DS c X st (tFor wi g tb) (dFor T G B) := by
  refine ⟨p, fun Zh F0 E D L O σ H ρ θ S h => ?_⟩
  refine si Zh F0 E.ex L σ H ρ θ _ _ S h fun J items H1 θ1 S1 m1 F h1 => ?_
  have m0 := S1.hs.old
  generalize hF1 : vis Zh θ1 H1 = F1 at F m0
  have L1 : XL c Zh F1 E.ex := L.base m0
  refine ⟨fun i m σ H => ∃ ρ θ, SD c.K c.Ps Zh F1 σ H ρ θ ∧ m + i = items.length + (i - items.length) ∧ forD (items.drop i) G B E ρ θ, ⟨items.length, ρ, θ1, by rw [← hF1]; exact S1.here, by omega, h1⟩, fun i m σ H hW => ?_⟩
  obtain ⟨ρ, θ, S, em, hf⟩ := hW
  cases e : items[i]? with
  | none =>
    have hl : items.length ≤ i := List.getElem?_eq_none_iff.mp e
    rw [List.drop_eq_nil_of_le hl] at hf
    exact .inl ⟨F.stop Zh i H θ hl S.hs, O.nx σ H ρ θ (S.base m0) hf⟩
  | some d =>
    have hl : i < items.length := (List.getElem?_eq_some_iff.mp e).1
    have ed : items[i] = d := (List.getElem?_eq_some_iff.mp e).2
    rw [List.drop_eq_getElem_cons hl, ed] at hf
    refine .inr ⟨F.go Zh i H θ hl S.hs, fun σ' H' => ∃ ρ θ, SD c.K c.Ps Zh F1 σ' H' ρ θ ∧ forD (items.drop (i + 1)) G B E ρ θ, fun σ' H' z => ?_, fun x H2 hy => ?_⟩
    · obtain ⟨ρ', θ', S', h'⟩ := z
      exact ⟨m - 1, by omega, ρ', θ', S', by omega, h'⟩
    · obtain ⟨hs2, m2, dx⟩ := F.yld Zh i x H H2 θ d e S.hs hy
      have S2 := S.to hs2 m2
      refine sg Zh F1 x (.d d) σ H2 ρ θ _ _ S2 dx hf fun σ3 ρ3 S3 h3 => ?_
      refine sb Zh F1 { E with nx := forD (items.drop (i + 1)) G B E, ct := forD (items.drop (i + 1)) G B E, bk := E.nx }
        { D with nx := fun σ' H' => ∃ ρ θ, SD c.K c.Ps Zh F1 σ' H' ρ θ ∧ forD (items.drop (i + 1)) G B E ρ θ, ct := fun σ' H' => ∃ ρ θ, SD c.K c.Ps Zh F1 σ' H' ρ θ ∧ forD (items.drop (i + 1)) G B E ρ θ, bk := D.nx } L1 ?_ σ3 H2 ρ3 θ S3 h3
      exact ⟨fun σ H ρ θ S h => ⟨ρ, θ, S, h⟩, fun v r H θ h d p => O.rt v r H θ (h.base m0) d p, fun σ H ρ θ S h => O.nx σ H ρ θ (S.base m0) h, fun σ H ρ θ S h => ⟨ρ, θ, S, h⟩⟩
theorem ds_forRep {abc : Str} {il ip ir is j0 j1 kt : Nat} {lx px rx sx : Str} {p1 p2 p3 pz c0 tpos pos0 pos a1 a2 a3 a4 a5 a6 a7 a8 a9 : Pos} (hK : X.K = c.K) (bl : Bookless X.K) (hg : Gl X "zip") (hm : X.mg "zip" = none) (asc : abc.cps.all (· < 128) = true)
    (hp : PassesOwn (model X.prog X.w) X.A X.env X.xe) (hc : X.calm = true) (hN : X.N.Nodup)
    (nl : X.N[il]? = some lx) (np : X.N[ip]? = some px) (nr : X.N[ir]? = some rx) (ns : X.N[is]? = some sx)
    (kl : X.env.scope.names.lookup lx = some .local) (kp : X.env.scope.names.lookup px = some .local) (kr : X.env.scope.names.lookup rx = some .local) (ks : X.env.scope.names.lookup sx = some .local) (ne : lx ≠ px)
    (dl : (lx == ("__debug__" : Str)) = false := by decide) (dp : (px == ("__debug__" : Str)) = false := by decide) (ep : (px == ("__classdict__" : Str)) = false := by decide) (dr : (rx == ("__debug__" : Str)) = false := by decide) (er : (rx == ("__classdict__" : Str)) = false := by decide) (ds : (sx == ("__debug__" : Str)) = false := by decide) (es : (sx == ("__classdict__" : Str)) = false := by decide)
    (hs1 : starEach [.Constant (.str abc) j0 c0, .Name sx p3] X.env = (false, eval (.Constant (.str abc) j0 c0) X.env) :: starEach [.Name sx p3] X.env := by rfl) (hs2 : starEach [.Name sx p3] X.env = [(false, eval (.Name sx p3) X.env)] := by rfl)
    (hpl : (backTo pos0 (starEach [.Name sx p3] X.env)).any (·.1) = false := by rfl)
    (hf : ∀ x, foldedSetIterable (.Call (.Name "zip" pz) [.Constant (.str abc) j0 c0, .Name sx p3] [] pos0) X.env x = pure x := by intro _; rfl)
    (hn : (assignEach [.Name lx p1, .Name px p2] X.env).length = 2 := by rfl) (hst : (assignEach [.Name lx p1, .Name px p2] X.env).findIdx? (·.1) = none := by rfl) (hea : (assignEach [.Name lx p1, .Name px p2] X.env).map (·.2) = [assign (.Name lx p1) X.env, assign (.Name px p2) X.env] := by rfl)
    (hea2 : (assignEach [.Name px p2] X.env).map (·.2) = [assign (.Name px p2) X.env] := by rfl)
    (hsw : swapsWith (.Call (.Attribute (.Name rx a5) "replace" a6) [.Subscript (.Constant (.str abc) j1 a1) (.Name px a2) a3, .Name lx a4] [] a7) (some (.Name rx a8)) a9.line X.env = pure false := by rfl)
    (hse : starEach [.Subscript (.Constant (.str abc) j1 a1) (.Name px a2) a3, .Name lx a4] X.env = [(false, eval (.Subscript (.Constant (.str abc) j1 a1) (.Name px a2) a3) X.env), (false, eval (.Name lx a4) X.env)] := by rfl)
    (hbase : attributeBase (.Name rx a5) "replace" X.env (eval (.Name rx a5) X.env) = eval (.Name rx a5) X.env := by rfl) (hline : (a6.endLine == a7.line) = true := by rfl)
    (hix : ∀ o i, subscripted (.Name px a2) false o i = operate [o, i] (getItem o i) := by intro _ _; rfl) :
    DS c X (.For (.Tuple [.Name lx p1, .Name px p2] kt tpos) (.Call (.Name "zip" pz) [.Constant (.str abc) j0 c0, .Name sx p3] [] pos0)
      [.Assign [.Name rx a8] (.Call (.Attribute (.Name rx a5) "replace" a6) [.Subscript (.Constant (.str abc) j1 a1) (.Name px a2) a3, .Name lx a4] [] a7) a9] [] pos)
      (tFor (iZipS c.K (fun σ H Q => ∃ t xs n, σ[is]? = some (some (.ref t)) ∧ (Sr.tup t n).is c.K H xs ∧ Q [.str abc, .ref t] H)) (gTup c.K 2 (gCons (gName il) (gCons (gName ip) gNil))) (tRepB il ip ir abc))
      (dFor (dItZP is abc) (gT (gsCons (gN il) (gsCons (gN ip) gsNil))) (dRepB il ip ir abc)) := by
  have p := ps_forRep (X := X) (is := is) (il := il) (ip := ip) (ir := ir) (kt := kt) (pos := pos) (tpos := tpos) asc hp hc bl hg hm hN nl np nr ns kl kp kr ks ne dl dp ep dr er ds es hs1 hs2 hpl hf hn hst hea hsw hse hbase hline hix
  rw [hK] at p
  have g : DG c X (.Tuple [.Name lx p1, .Name px p2] kt tpos) (gTup c.K 2 (gCons (gName il) (gCons (gName ip) gNil))) (gT (gsCons (gN il) (gsCons (gN ip) gsNil))) _ :=
    dg_tup hc (dgs_cons (dg_name hN nl (.inl kl) (.inr kl)) (dgs_cons (dg_name hN np (.inl kp) (.inr kp)) dgs_nil (by rw [hea2]; rfl)) (by rw [hea, hea2])) hK (gs_len2) hn hst
  exact ds_forP p sim_zipP g.sim sim_repB
end
end TlD
set_option Elab.async false
set_option linter.all false
set_option maxRecDepth 100000
set_option maxHeartbeats 4000000
namespace TlD
open PySem PySem.Spec PyProof.Rows L2 GxR TlG
section
variable {c : Cn} {X : Cx}
/-! ### list(range(n)), int(a truth), two items exchanged -/
def dListR (Ta : DTE) : ExW → Rho → Th → (List D → Th → Prop) → Prop := fun Ex ρ θ Φ => Ta Ex ρ θ fun r θ1 => asI r fun n => (0 ≤ n ∧ n ≤ 1000) ∧ Φ (rangeD 0 n) θ1
theorem ints_rgV (n : Int) {K : PySem.W.Frag} {F : Hp} : DqAll K F (rgV 0 n) (rangeD 0 n) := by
  unfold rgV rangeD
  generalize List.range (n - 0).toNat = l
  induction l with
  | nil => exact .nil
  | cons i l ih => exact .cons (.int _) ih
theorem new_listRg {e : Expr} {te : TE} {Te : DTE} {p p2 pos pos2 : Pos} (hc : X.calm = true) (hg : Gl X "list") (hm : X.mg "list" = none) (hg2 : Gl X "range") (hm2 : X.mg "range" = none) (he : DE c X e te Te)
    (na : starEach [.Call (.Name "range" p2) [e] [] pos2] X.env = (false, eval (.Call (.Name "range" p2) [e] [] pos2) X.env) :: starEach [] X.env := by rfl) (nb : starEach [e] X.env = (false, eval e X.env) :: starEach [] X.env := by rfl) :
    PE X (.Call (.Name "list" p) [.Call (.Name "range" p2) [e] [] pos2] [] pos) (tLstRg (tRg1 te)) ∧ NewL c (tLstRg (tRg1 te)) (dListR Te) := by
  refine ⟨pe_listRg hc hg hm (prg_1 hg2 hm2 he.pe nb) na, fun Zh F0 Ex L σ H ρ θ Φ Q S t k => ?_⟩
  refine he.sim Zh F0 Ex L σ H ρ θ _ _ S t fun v r H1 θ1 S1 m1 d1 h1 => ?_
  obtain ⟨n, rfl, ⟨h0, h9⟩, h2⟩ := asI_of d1 h1
  exact ⟨n, rfl, RgOk.of_le (Int.le_refl 0) (by omega) (by omega) h0, fun q nq => k _ _ H1 θ1 S1 m1 (ints_rgV n) h2 q nq⟩
def fIntB : DCl := fun rs θ Φ => on1 rs fun r => asB r fun b => Φ (.d (.int (if b then 1 else 0))) θ
theorem sim_intB : SimC c (fun xs H Q => (∃ i, xs = [.int i] ∧ Q (.int i) H) ∨ ∃ k, xs = [.bl k] ∧ Q (.int (if k then 1 else 0)) H) fIntB := fun Zh F0 σ H ρ θ xs rs Φ Q S dx h k => by
  obtain ⟨v, r, rfl, dv, h⟩ := on1_of dx h
  obtain ⟨b, rfl, h⟩ := asB_of dv h
  exact .inr ⟨b, rfl, kI S k h⟩
def dSwapIx (o i j : Nat) (Te : DTE) : DTS := fun E ρ θ => Te E.ex ρ θ fun r θ1 => match r with
  | .d (.tuple [x, y]) => (match nth ρ o, nth ρ i, nth ρ j with
    | some ro, some (.d (.int n)), some (.d (.int k)) => onOwn ro θ1 fun a ds => (0 ≤ n ∧ n < ds.length) ∧ onOwn ro (thSet θ1 a (ds.set n.toNat x)) fun a' ds' => (0 ≤ k ∧ k < ds'.length) ∧ E.nx ρ (thSet (thSet θ1 a (ds.set n.toNat x)) a' (ds'.set k.toNat y))
    | _, _, _ => False)
  | _ => False
theorem ds_swapIx {io ii ij : Nat} {o1 o2 i j e : Expr} {te : TE} {Te : DTE} {p1 p2 tp pos : Pos} {kt : Nat} (hK : X.K = c.K) (hc : X.calm = true) (he : DE c X e te Te) (h1 : PE X o1 (tVar io)) (h2 : PE X o2 (tVar io)) (hi : PE X i (tVar ii)) (hj : PE X j (tVar ij))
    (ha1 : ∀ v, assign (.Subscript o1 i p1) X.env v = (do
      let ov ← holding [v] (eval o1 X.env)
      let iv ← holding [v, ov] (eval i X.env)
      standAt p1
      holding [v, ov, iv] (setItem ov iv v)
      release [v, ov, iv] []) := by intro _; rfl)
    (ha2 : ∀ v, assign (.Subscript o2 j p2) X.env v = (do
      let ov ← holding [v] (eval o2 X.env)
      let iv ← holding [v, ov] (eval j X.env)
      standAt p2
      holding [v, ov, iv] (setItem ov iv v)
      release [v, ov, iv] []) := by intro _; rfl)
    (hs1 : (assignEach [.Subscript o1 i p1, .Subscript o2 j p2] X.env).map (·.2) = assign (.Subscript o1 i p1) X.env :: (assignEach [.Subscript o2 j p2] X.env).map (·.2) := by rfl)
    (hs2 : (assignEach [.Subscript o2 j p2] X.env).map (·.2) = assign (.Subscript o2 j p2) X.env :: (assignEach [] X.env).map (·.2) := by rfl)
    (hn : (assignEach [.Subscript o1 i p1, .Subscript o2 j p2] X.env).length = 2 := by rfl) (hst : (assignEach [.Subscript o1 i p1, .Subscript o2 j p2] X.env).findIdx? (·.1) = none := by rfl)
    (hsw : swapsWithSole [.Tuple [.Subscript o1 i p1, .Subscript o2 j p2] kt tp] e pos.line X.env = pure false := by rfl) (hw : swappedStores [.Tuple [.Subscript o1 i p1, .Subscript o2 j p2] kt tp] e X.env = pure none := by rfl)
    (he1 : (assignEach [.Tuple [.Subscript o1 i p1, .Subscript o2 j p2] kt tp] X.env).map (·.2) = [assign (.Tuple [.Subscript o1 i p1, .Subscript o2 j p2] kt tp) X.env] := by rfl) :
    DS c X (.Assign [.Tuple [.Subscript o1 i p1, .Subscript o2 j p2] kt tp] e pos) (tAsg te (gTup c.K 2 (gCons (gSub (tVar io) (tVar ii) rSetL) (gCons (gSub (tVar io) (tVar ij) rSetL) gNil)))) (dSwapIx io ii ij Te) := by
  have pg := pg_tup (pos := tp) (k := kt) hc (pgs_cons (pg_sub (pos := p1) h1 hi set_list ha1) (pgs_cons (pg_sub (pos := p2) h2 hj set_list ha2) pgs_nil hs2) hs1) hn hst
  rw [hK] at pg
  refine ⟨ps_asg he.pe pg hsw hw he1, fun Zh F0 E D L O σ H ρ θ S h => he.sim Zh F0 E.ex L σ H ρ θ _ _ S h fun v r H1 θ1 S1 m1 d1 h1 => ?_⟩
  split at h1
  · rename_i x y
    split at h1
    · rename_i ro n k e0 e1 e2
      cases d1 with
      | tup hs hd =>
        cases hd with
        | cons dx hd =>
          cases hd with
          | cons dy hd =>
            cases hd
            obtain ⟨vo, so, dro⟩ := S1.env io _ (nth_get e0)
            obtain ⟨vi, si, di⟩ := S1.env ii _ (nth_get e1)
            obtain ⟨vj, sj, dj⟩ := S1.env ij _ (nth_get e2)
            cases di
            cases dj
            obtain ⟨a, vs, ds, ev, er, l, e, q, ⟨h0, hn0⟩, h4⟩ := onOwn_of S1.hs dro h1
            subst ev er
            obtain ⟨S4, m4⟩ := own_step S1 l (q.set dx n.toNat)
            obtain ⟨a2, vs2, ds2, ev2, er2, l2, e3, q2, ⟨k0, kn⟩, h5⟩ := onOwn_of (v := .ref a) (r := .own a) S4.hs rfl h4
            cases ev2
            obtain ⟨S5, m5⟩ := own_step S4 l2 (q2.set (dp_mono m4 _ _ dy) k.toNat)
            refine ⟨_, _, rfl, sqT_up hs, rfl, _, _, rfl, ⟨_, so, _, si, a, vs, n, n.toNat, rfl, rfl, e, ?_, _, _, rfl, ⟨_, so, _, sj, a, vs2, k, k.toNat, rfl, rfl, e3, ?_, rfl, O.nx _ _ _ _ S5 h5⟩⟩⟩
            · unfold ixN
              rw [q.length, if_pos h0, if_pos hn0]
            · unfold ixN
              rw [q2.length, if_pos k0, if_pos kn]
    · exact h1.elim
  · exact h1.elim
end
end TlD
namespace TlD
open PySem PySem.Spec PyProof.Rows L2 GxR TlG
/-! ### a list of one's own that is gone through, and is data from then on -/
def dItFz (i : Nat) : DTI := fun Ex ρ θ Ψ => match nth ρ i with
  | some (.own p) => ∃ ds, θ.lookup p = some ds ∧ Ψ ds (thDel θ p)
  | _ => False
section
variable {c : Cn} {X : Cx}
theorem di_fz {tg e : Expr} {i : Nat} (hK : X.K = c.K) (h : PE X e (tVar i)) : DI c X tg e (iList c.K (tVar i)) (dItFz i) := by
  refine ⟨by rw [← hK]; exact pi_list h, fun Zh F0 Ex L σ H ρ θ Ψ R S h k => ?_⟩
  unfold dItFz at h
  split at h
  · rename_i p e
    obtain ⟨ds, l, h⟩ := h
    obtain ⟨v, sv, dv⟩ := S.env i _ (nth_get e)
    have dv : v = .ref p := dv
    subst dv
    have hs := S.hs.del (a := p)
    have dq := S.hs.delDq l
    have m : Mono (vis Zh θ H) (vis Zh (thDel θ p) H) := (vis_del).mono
    cases dq with
    | lst hs1 hd1 => exact ⟨_, sv, p, rfl, ⟨_, .inl (.inl (vis_some hs1).1)⟩, k _ ds H _ (S.to hs m) m (feed_list (.inl (.inl hs1)) hd1) h⟩
  · exact h.elim
end
end TlD
set_option Elab.async false
set_option linter.all false
set_option maxRecDepth 100000
set_option maxHeartbeats 4000000
namespace TlD
open PySem PySem.Spec PyProof.Rows L2 GxR TlG
local macro_rules | `(tactic| walk_at "rd") => `(tactic| simp only [dSeq, dSet, dAsg, dSetIx, dDrop, dIfS, dFor, dRet, dRetN, dRetF, dNext, dRaise, dVar, dC, dOp, dUn, dCall, dTest, dAnd, dOr, dNot, dAndV, dOrV, dNotV, dIf, dChain, dNil, dCons, dTup, dTup.allD, dLst, dLstO, dNewP, dNewO, dListC, dIsi, dFn0, dFn, dAll, dItT, dItL, dItS, dItR1, dItR2, dItZ, dSl, oNone, oSome, gN, gT, gsNil, gsCons, dSortSet, dRevS, nth, put, startR, fAdd, fSub, fMul, fDiv, fMod, fLt, fLe, fGt, fGe, fLtT, fEq, fNe, fIn, fIsN, fIsB, fLen, fIx, fSl, fTuple, fAbs, fMax, fMin, fDivmod, fStrI, dAppend, dPopAt, on2I, is1I, is2I, is2Z, on1, dat, asD, asB, asI, asS, onOwn, lenD, listD, ixD, List.length_cons, List.length_nil])


def sp_n_box : DSp := fun rs θ Φ _ => match rs with
  | [.seq ds, .d (.int k)] => isInts ds ∧ (0 ≤ k ∧ k < 1000) ∧ ∀ (p : Addr) (n : Int), p ∉ θ.map (·.1) → Φ (.own p) ((p, [.int n]) :: θ)
  | _ => False
theorem grow2 {n v i : Nat} (h : n < 2 ^ (32 * (i + 1))) (hv : v < 2147483647) : n * 2147483647 + v < 2 ^ (32 * (i + 1 + 1)) := by
  have e : 2 ^ (32 * (i + 1 + 1)) = 2 ^ (32 * (i + 1)) * 2 ^ 32 := by
    rw [← Nat.pow_add]
    congr 1
  rw [e]
  have h1 : n * 2147483647 + v < (n + 1) * 2 ^ 32 := by
    have : (2 : Nat) ^ 32 = 4294967296 := by decide
    rw [this, Nat.add_mul]
    have : n * 2147483647 ≤ n * 4294967296 := Nat.mul_le_mul_left n (by decide)
    omega
  exact Nat.lt_of_lt_of_le h1 (Nat.mul_le_mul_right _ h)

def C_n_box_2_1 : DTS := (dSet 3 (dOp fAdd (dOp fMul (dVar 3) (dC (.int 2147483647))) (dOp fMod (dOp fMul (dVar 5) (dOp fAdd (dVar 5) (dC (.int 13)))) (dC (.int 2147483647)))))

def C_n_box_2_2 : DTS := (dSeq (dSet 5 (dOp fMod (dOp fMul (dVar 5) (dVar 5)) (dC (.int 2147483629)))) C_n_box_2_1)

def B_n_box_1 : DTS := (dSeq (dSet 5 (dOp fMod (dOp fAdd (dOp fAdd (dOp fMul (dOp fMod (dVar 2) (dC (.int 2147483647))) (dC (.int 48271))) (dOp fMul (dC (.int 7919)) (dVar 4))) (dC (.int 1))) (dC (.int 2147483647)))) C_n_box_2_2)

def C_n_box_1_1 : DTS := (dRet (dLstO (dCons (dVar 3) dNil)))

def C_n_box_1_2 : DTS := (dSeq (dFor (dItR1 (dCons (dC (.int 16)) dNil)) (gN 4) B_n_box_1) C_n_box_1_1)

def C_n_box_1_3 : DTS := (dSeq (dSet 3 (dC (.int 0))) C_n_box_1_2)

def C_n_box_1_4 : DTS := (dSeq (dIfS (dTest (dOp fEq (dOp fMod (dVar 2) (dC (.int 2))) (dC (.int 0)))) (dRet (dLstO (dCons (dOp fDiv (dVar 2) (dC (.int 2))) dNil))) dNext) C_n_box_1_3)

def C_n_box_1_5 : DTS := (dSeq (dIfS (dTest (dOp fLt (dVar 1) (dCall fLen (dCons (dVar 0) dNil)))) (dSet 2 (dOp fIx (dVar 0) (dVar 1))) dNext) C_n_box_1_4)

def T_n_box : DTS := (dSeq (dSet 2 (dOp fAdd (dOp fMul (dC (.int 7919)) (dVar 1)) (dC (.int 13)))) C_n_box_1_5)

theorem ln_n_box : ∀ rs θ Φ Ex, sp_n_box rs θ Φ Ex → rs.length = 2 := fun rs θ Φ Ex h => by
  unfold sp_n_box at h
  split at h
  all_goals first
    | rfl
    | exact h.elim

theorem rd_n_box : ∀ rs θ Φ Ex, sp_n_box rs θ Φ Ex → T_n_box { nx := fun _ θ' => Φ (.d .none) θ', rt := Φ, ex := fun xd _ θ' => Ex xd θ' } (startR 6 rs) θ := by
  intro rs θ Φ Ex h
  unfold sp_n_box at h
  split at h
  · rename_i ds k
    obtain ⟨⟨ns, rfl⟩, ⟨h0, h9⟩, h⟩ := h
    have two : ∀ v : Int, C_n_box_1_4 { nx := fun _ θ' => Φ (.d .none) θ', rt := Φ, ex := fun xd _ θ' => Ex xd θ' } [some (.seq (ns.map PyData.int)), some (.d (.int k)), some (.d (.int v)), none, none, none] θ := by
      intro v
      unfold C_n_box_1_4
      simp only [dSeq, dIfS, dTest, dOp, dVar, dC, nth, fMod, on2I, fEq, dat, asB]
      refine ⟨by decide, eqOk_int _, eqOk_int _, ?_⟩
      refine ite_b _ (fun _ => ?_) (fun _ => ?_)
      · walk_at "rd"
        exact ⟨⟨by decide, by decide⟩, by decide, fun p hp => h p _ hp⟩
      · unfold C_n_box_1_3
        simp only [dNext, dSeq, dSet, dC, put]
        unfold C_n_box_1_2
        simp only [dSeq, dFor, dItR1, dCons, dNil, dC, is1I]
        refine ⟨rOk_of (by decide) (by decide), ?_⟩
        refine forD_inv (fun i ρ θ1 => θ1 = θ ∧ ∃ (n : Nat) (x y : Option RV), n < 2 ^ (32 * (i + 1)) ∧ ρ = [some (.seq (ns.map PyData.int)), some (.d (.int k)), some (.d (.int v)), some (.d (.int (n : Int))), x, y]) _ 0 _ θ (fun j d e ρ θ1 K hI hK => ?_) (fun ρ θ1 hI => ?_) ⟨rfl, 0, none, none, by decide, rfl⟩
        · obtain ⟨rfl, n, x, y, hn, rfl⟩ := hI
          have ed := rangeD_get e
          have jl : j < 16 := by
            have := (List.getElem?_eq_some_iff.mp e).1
            rw [rangeD_length] at this
            simpa using this
          subst ed
          rw [Nat.zero_add] at hn hK
          unfold B_n_box_1
          simp only [gN, put, dSeq, dSet, dOp, dVar, dC, nth, fMod, fMul, fAdd, on2I]
          have c0 := Int.emod_nonneg v (show (2147483647 : Int) ≠ 0 by decide)
          have c1 := Int.emod_lt_of_pos v (show (0 : Int) < 2147483647 by decide)
          generalize v % 2147483647 = y at c0 c1
          refine ⟨by decide, bits_ok (pow_low (by omega)) (pow_low (by omega)), bits_ok (pow_low (by omega)) (pow_low (by omega)), by decide, ?_⟩
          generalize y * 48271 + 7919 * (0 + (j : Int)) + 1 = s
          have s0 := Int.emod_nonneg s (show (2147483647 : Int) ≠ 0 by decide)
          have s1 := Int.emod_lt_of_pos s (show (0 : Int) < 2147483647 by decide)
          generalize s % 2147483647 = t at s0 s1
          unfold C_n_box_2_2
          simp only [gN, put, dSeq, dSet, dOp, dVar, dC, nth, fMod, fMul, fAdd, on2I]
          refine ⟨bits_ok (pow_low (by omega)) (pow_low (by omega)), by decide, ?_⟩
          generalize t * t = u
          have u0 := Int.emod_nonneg u (show (2147483629 : Int) ≠ 0 by decide)
          have u1 := Int.emod_lt_of_pos u (show (0 : Int) < 2147483629 by decide)
          generalize u % 2147483629 = w at u0 u1
          unfold C_n_box_2_1
          simp only [gN, put, dSeq, dSet, dOp, dVar, dC, nth, fMod, fMul, fAdd, on2I]
          have hb : (32 * (j + 1)) ≤ 2000 := by omega
          refine ⟨bits_ok (Nat.lt_of_lt_of_le hn (Nat.pow_le_pow_right (by decide) hb)) (pow_low (by decide)), bits_ok (pow_low (by omega)) (pow_low (by omega)), by decide, ?_⟩
          generalize w * (w + 13) = o
          have o0 := Int.emod_nonneg o (show (2147483647 : Int) ≠ 0 by decide)
          have o1 := Int.emod_lt_of_pos o (show (0 : Int) < 2147483647 by decide)
          obtain ⟨q, hq⟩ := Int.eq_ofNat_of_zero_le o0
          rw [hq] at o1 ⊢
          refine hK _ _ ⟨rfl, n * 2147483647 + q, some (.d (.int (0 + (j : Int)))), some (.d (.int w)), grow2 hn (by omega), ?_⟩
          have : ((n * 2147483647 + q : Nat) : Int) = (n : Int) * 2147483647 + (q : Int) := by simp
          rw [this]
        · obtain ⟨rfl, n, x, y, hn, rfl⟩ := hI
          unfold C_n_box_1_1
          walk_at "rd"
          exact ⟨by decide, fun p hp => h p _ hp⟩
    unfold T_n_box
    simp only [startR, List.length_cons, List.length_nil, dSeq, dSet, dOp, dVar, dC, nth, fMul, fAdd, on2I]
    refine ⟨bits_ok (pow_low (by omega)) (pow_low (by omega)), ?_⟩
    simp only [put]
    unfold C_n_box_1_5
    simp only [dSeq, dIfS, dTest, dOp, dVar, nth, dCall, fLen, dCons, dNil, on1, lenD, fLt, on2I, asB]
    refine ite_b _ (fun c => ?_) (fun _ => two _)
    have c := of_decide_eq_true c
    obtain ⟨x, e1, e2⟩ := atI_some (l := ns.map PyData.int) h0 c
    rw [List.getElem?_map] at e2
    cases e3 : ns[k.toNat]? with
    | none => rw [e3] at e2; cases e2
    | some v =>
      rw [e3] at e2
      cases e2
      simp only [dSet, dOp, dVar, nth, fIx, dat, asI, ixD, e1, put]
      exact two v
  · exact h.elim

end TlD
set_option Elab.async false
set_option linter.all false
set_option maxRecDepth 100000
set_option maxHeartbeats 4000000
namespace TlD
open PySem PySem.Spec PyProof.Rows L2 GxR TlG
/-! how often a sign stands in a text -/
theorem occ_step (x : Str) (c i : Nat) (found : Array Nat) (free : Nat) (h1 : free ≤ i) (h2 : found.size < x.length + 1) :
    StrLaws.occBody x ⟨#[c]⟩ x.length (x.length + 1) i (found, free) = pure (.yield (if x.cps.toList[i]? = some c then (found.push i, i + 1) else (found, free))) := by
  unfold StrLaws.occBody
  by_cases h : x.cps.toList[i]? = some c
  · obtain ⟨a, b⟩ := (StrLaws.subAt_one x c i).mpr h
    rw [if_pos ⟨⟨⟨h2, h1⟩, a⟩, b⟩, if_pos h]
    rfl
  · rw [if_neg (fun z => h ((StrLaws.subAt_one x c i).mp ⟨z.1.2, z.2⟩)), if_neg h]
theorem occ_count (x : Str) (c : Nat) : ∀ (n i : Nat) (found : Array Nat) (free : Nat), free ≤ i → found.size ≤ i → i + n ≤ x.length + 1 →
    (forIn (List.range' i n) (found, free) (StrLaws.occBody x ⟨#[c]⟩ x.length (x.length + 1))).run.fst.size = found.size + (((x.cps.toList.drop i).take n).filter fun d => decide (d = c)).length
  | 0, i, found, free, _, _, _ => by simp
  | n + 1, i, found, free, h1, h2, h3 => by
    rw [List.range'_succ, List.forIn_cons, occ_step x c i found free h1 (by omega)]
    rw [pure_bind]
    have e : (x.cps.toList.drop i).take (n + 1) = (match x.cps.toList[i]? with | some d => [d] | none => []) ++ (x.cps.toList.drop (i + 1)).take n := by
      cases q : x.cps.toList[i]? with
      | none =>
        have := List.getElem?_eq_none_iff.mp q
        rw [List.drop_eq_nil_of_le this, List.drop_eq_nil_of_le (by omega)]
        simp
      | some d =>
        obtain ⟨lt, q2⟩ := List.getElem?_eq_some_iff.mp q
        rw [List.drop_eq_getElem_cons lt, q2]
        rfl
    rw [e, List.filter_append, List.length_append]
    by_cases h : x.cps.toList[i]? = some c
    · rw [if_pos h, h]
      have ih := occ_count x c n (i + 1) (found.push i) (i + 1) (Nat.le_refl _) (by rw [Array.size_push]; omega) (by omega)
      refine Eq.trans ih ?_
      rw [Array.size_push]
      simp
      omega
    · rw [if_neg h]
      have ih := occ_count x c n (i + 1) found free (by omega) (by omega) (by omega)
      refine Eq.trans ih ?_
      cases q : x.cps.toList[i]? with
      | none => simp
      | some d =>
        have : ¬ d = c := fun z => h (by rw [q, z])
        simp [this]
theorem count_one (x : Str) (c : Nat) : Txt.count x ⟨#[c]⟩ = (((x.cps.toList.filter fun d => decide (d = c)).length : Nat) : Int) := by
  unfold Txt.count
  rw [StrLaws.occ_eq, Array.length_toList, occ_count x c _ 0 #[] 0 (Nat.le_refl _) (Nat.le_refl _) (by omega)]
  have xl : x.cps.toList.length = x.length := Array.length_toList
  rw [List.drop_zero, List.take_of_length_le (by omega)]
  simp
section
variable {c : Cn} {X : Cx}
def dCountS (To Te : DTE) : DTE := fun Ex ρ θ Φ => To Ex ρ θ fun r θ1 => asS r fun x => Te Ex ρ θ1 fun r2 θ2 => asS r2 fun y => ∃ s : Nat, y = ⟨#[s]⟩ ∧ Φ (.d (.int (((x.cps.toList.filter fun d => decide (d = s)).length : Nat) : Int))) θ2
theorem de_countS {o e : Expr} {to te : TE} {To T : DTE} {apos cpos : Pos} (hK : X.K = c.K) (ho : DE c X o to To) (he : DE c X e te T)
    (hbase : attributeBase o "count" X.env (eval o X.env) = eval o X.env := by rfl)
    (hfew : ((backTo cpos (starEach (e :: []) X.env)).all (fun x => !x.1) && (backToKw cpos (keywordEach [] X.env)).all (fun x => x.1.isSome) && decide ((e :: []).length + ([] : List Keyword).length + (if ([] : List Keyword).isEmpty then 0 else 1) < 30)) = true := by rfl)
    (hline : (apos.endLine == cpos.line) = true := by rfl) (hs : starEach (e :: []) X.env = (false, eval e X.env) :: starEach [] X.env := by rfl) (hplain : (backTo cpos (starEach [] X.env)).any (·.1) = false := by rfl) :
    DE c X (.Call (.Attribute o "count" apos) [e] [] cpos) (tBM c.K "str" (fun x xs H Q => ∃ a b, x = .str a ∧ xs = [.str b] ∧ Q (.int (Txt.count a b)) H) to (tCons te tNil)) (dCountS To T) := by
  have p := pe_bm PySem.F.plainAttrs_str PySem.F.slot_str_count PySem.F.type_str_count mt_count ho.pe (pa_cons he.pe pa_nil hs) hbase hfew hline hs hplain
  rw [hK] at p
  refine ⟨p, fun Zh F0 Ex L σ H ρ θ Φ Q S t k => ho.sim Zh F0 Ex L σ H ρ θ _ _ S t fun v r H1 θ1 S1 m1 d1 h1 => ?_⟩
  obtain ⟨x, rfl, h1⟩ := asS_of d1 h1
  refine ⟨by first | exact rfl | exact trivial | exact .inl rfl | exact ⟨_, rfl⟩, he.sim Zh F0 Ex L σ H1 ρ θ1 _ _ S1 h1 fun u r2 H2 θ2 S2 m2 d2 h2 => ?_⟩
  obtain ⟨y, rfl, s, rfl, h3⟩ := asS_of d2 h2
  refine ⟨x, _, rfl, rfl, ?_⟩
  rw [count_one]
  exact kI S2 (k.step (m1.trans m2)) h3
/-! the least, the greatest of a tuple of numbers -/
def rMaxT (K : PySem.W.Frag) : List V → Hp → VK → Prop := fun vs H Q => ∃ (a : Addr) (n : Int) (ns : List Int), vs = [V.ref a] ∧ SqT K H a ((n :: ns).map V.int) ∧ Q (.int (ns.foldl max n)) H
def rMinT (K : PySem.W.Frag) : List V → Hp → VK → Prop := fun vs H Q => ∃ (a : Addr) (n : Int) (ns : List Int), vs = [V.ref a] ∧ SqT K H a ((n :: ns).map V.int) ∧ Q (.int (ns.foldl min n)) H
theorem alike_nums (n : Int) (ns : List Int) : PySem.W.AlikeAll ((n :: ns).map PyData.int) := by
  refine ⟨fun x hx y hy => ?_, fun x hx => ?_⟩
  · obtain ⟨i, _, rfl⟩ := List.mem_map.mp hx
    obtain ⟨j, _, rfl⟩ := List.mem_map.mp hy
    rfl
  · obtain ⟨i, _, rfl⟩ := List.mem_map.mp hx
    simp
theorem reads_nums {h : Heap} : ∀ {ns : List Int} {us : List Value}, Vals (ns.map V.int) us → ReadsAll h us (ns.map PyData.int) []
  | [], _, .nil => .nil
  | n :: ns, _, .cons r t => by
    obtain ⟨k, rfl⟩ := r
    exact ReadsAll.cons (as := []) (bs := []) (.int n k) (reads_nums t)
theorem nums_depth : ∀ ns : List Int, PyData.depthAll (ns.map PyData.int) = 0
  | [] => rfl
  | n :: ns => by
    show max 0 (PyData.depthAll (ns.map PyData.int)) = 0
    rw [nums_depth ns]
    rfl
theorem cr_maxT (hc : X.calm = true) (hu : X.A.units + 65 < cLine) : CallR X (.builtin "max") (rMaxT X.K) := by
  intro pins s σ H vs us Q I r h
  obtain ⟨a, n, ns, rfl, hs, q⟩ := h
  obtain ⟨its, rv, hl, _⟩ := I.tuple hs
  rw [Vals.ref1 r]
  refine PySem.W.max_tuple_data (x := .int n) (xs := ns.map .int) (as := []) (I.ok.hd hc) hl (by simpa using reads_nums rv) (alike_nums n ns) (by
    have := nums_depth (n :: ns)
    rw [List.map_cons] at this
    rw [this]
    omega) fun i v h' tk bs hv rd hk => ?_
  rw [PySem.W.maxD_ints] at rd
  cases rd with
  | int _ t => exact ⟨.int _, H, I.kept hk, ⟨_, rfl⟩, q⟩
theorem cr_minT (hc : X.calm = true) (hu : X.A.units + 65 < cLine) : CallR X (.builtin "min") (rMinT X.K) := by
  intro pins s σ H vs us Q I r h
  obtain ⟨a, n, ns, rfl, hs, q⟩ := h
  obtain ⟨its, rv, hl, _⟩ := I.tuple hs
  rw [Vals.ref1 r]
  refine PySem.W.min_tuple_data (x := .int n) (xs := ns.map .int) (as := []) (I.ok.hd hc) hl (by simpa using reads_nums rv) (alike_nums n ns) (by
    have := nums_depth (n :: ns)
    rw [List.map_cons] at this
    rw [this]
    omega) fun i v h' tk bs hv rd hk => ?_
  rw [PySem.W.minD_ints] at rd
  cases rd with
  | int _ t => exact ⟨.int _, H, I.kept hk, ⟨_, rfl⟩, q⟩
def fBestT (f : Int → Int → Int) : DCl := fun rs θ Φ => on1 rs fun r => dat r θ fun d => match d with
  | .tuple ds => match numsD ds with
    | some (n :: ns) => Φ (.d (.int (ns.foldl f n))) θ
    | _ => False
  | _ => False
theorem ints_vals {K : PySem.W.Frag} {F : Hp} : ∀ {ns : List Int} {vs : List V}, DqAll K F vs (ns.map PyData.int) → vs = ns.map V.int
  | [], _, .nil => rfl
  | n :: ns, _, .cons d t => by
    cases d
    rw [ints_vals t]
    rfl
theorem sim_maxT (hK : X.K = c.K) : SimC c (rMaxT X.K) (fBestT max) := fun Zh F0 σ H ρ θ xs rs Φ Q S dx h k => by
  obtain ⟨v, r, rfl, dv, h⟩ := on1_of dx h
  obtain ⟨d, hd, h⟩ := dat_of S.hs dv h
  rw [hK]
  cases d with
  | tuple ds =>
    obtain ⟨a, vs, rfl, q1, q2⟩ := hd.tuple
    cases e : numsD ds with
    | none => simp only [e] at h
    | some ns =>
      cases ns with
      | nil => simp only [e] at h
      | cons n ns =>
        simp only [e] at h
        have e2 := numsD_map e
        subst e2
        have e3 := ints_vals q2
        subst e3
        exact ⟨a, n, ns, rfl, q1, kI S k h⟩
  | _ => exact h.elim
theorem sim_minT (hK : X.K = c.K) : SimC c (rMinT X.K) (fBestT min) := fun Zh F0 σ H ρ θ xs rs Φ Q S dx h k => by
  obtain ⟨v, r, rfl, dv, h⟩ := on1_of dx h
  obtain ⟨d, hd, h⟩ := dat_of S.hs dv h
  rw [hK]
  cases d with
  | tuple ds =>
    obtain ⟨a, vs, rfl, q1, q2⟩ := hd.tuple
    cases e : numsD ds with
    | none => simp only [e] at h
    | some ns =>
      cases ns with
      | nil => simp only [e] at h
      | cons n ns =>
        simp only [e] at h
        have e2 := numsD_map e
        subst e2
        have e3 := ints_vals q2
        subst e3
        exact ⟨a, n, ns, rfl, q1, kI S k h⟩
  | _ => exact h.elim
end
end TlD
set_option Elab.async false
set_option linter.all false
set_option maxRecDepth 100000
set_option maxHeartbeats 4000000
namespace TlD
open PySem PySem.Spec PyProof.Rows L2 GxR TlG
local macro_rules | `(tactic| walk_at "rd") => `(tactic| simp only [dSeq, dSet, dAsg, dSetIx, dDrop, dIfS, dFor, dRet, dRetN, dRetF, dNext, dRaise, dVar, dC, dOp, dUn, dCall, dTest, dAnd, dOr, dNot, dAndV, dOrV, dNotV, dIf, dChain, dNil, dCons, dTup, dTup.allD, dLst, dLstO, dNewP, dNewO, dListC, dIsi, dFn0, dFn, dAll, dItT, dItL, dItS, dItR1, dItR2, dItZ, dSl, oNone, oSome, gN, gT, gsNil, gsCons, dSortSet, dRevS, nth, put, startR, fAdd, fSub, fMul, fDiv, fMod, fLt, fLe, fGt, fGe, fLtT, fEq, fNe, fIn, fIsN, fIsB, fLen, fIx, fSl, fTuple, fAbs, fMax, fMin, fDivmod, fStrI, dAppend, dPopAt, on2I, is1I, is2I, is2Z, on1, dat, asD, asB, asI, asS, onOwn, lenD, listD, ixD, List.length_cons, List.length_nil])


def oft (x : Str) (i : Nat) : Nat := (x.cps.toList.filter fun c => decide (c = 97 + i)).length
def timesD (x : Str) (m : Nat) : List D := (List.range m).map fun i : Nat => PyData.int ((oft x i : Nat) : Int)
def evenB (x : Str) (m : Nat) : Bool := (List.range m).all fun i => decide (oft x i = oft x 0)
def wrongs (x : Str) (m : Nat) (l : List (Int × Int)) : List (Int × Int) := (pairs m).filter fun p => (decide (p ∈ shown x m) != decide (p ∈ l))
def firstD : List (Int × Int) → D
  | [] => .none
  | p :: _ => tieD p
theorem shown_sub (x : Str) (m : Nat) : (shown x m).Sublist (pairs m) := List.filter_sublist
theorem any_tie (q : Int × Int) : ∀ l : List (Int × Int), ((l.map tieD).any fun z => PyData.eqv z (tieD q)) = decide (q ∈ l)
  | [] => by simp
  | p :: l => by
    rw [List.map_cons, List.any_cons, any_tie q l, tie_eqv]
    by_cases h : p = q
    · simp [h]
    · have : ¬ q = p := fun e => h e.symm
      simp [h, this]
theorem bool_eqv (a b : Bool) : PyData.eqv (.bool a) (.bool b) = (a == b) := by
  cases a <;> cases b <;> simp [PyData.eqv]
theorem six_abc {m : Nat} (h : m ≤ 6) : signsD (cutS ("abcdef" : Str) none (some (m : Int))) = (List.range m).map fun i => sg (97 + i) := by
  rw [signsD_eq]
  have : (cutS ("abcdef" : Str) none (some (m : Int))).cps.toList = (List.range m).map fun i => 97 + i := by
    rcases (by omega : m = 0 ∨ m = 1 ∨ m = 2 ∨ m = 3 ∨ m = 4 ∨ m = 5 ∨ m = 6) with rfl | rfl | rfl | rfl | rfl | rfl | rfl <;> decide +kernel
  rw [this, List.map_map]
  rfl
theorem nums_ok {B : Nat} : ∀ {ns : List Nat}, (∀ n ∈ ns, n < 64) → flatDs (ns.map fun n : Nat => PyData.int (n : Int)) = true ∧ PyData.depthAll (ns.map fun n : Nat => PyData.int (n : Int)) = 0 ∧ PyData.canLayAll0 (ns.map fun n : Nat => PyData.int (n : Int)) = true ∧
    PyData.showableAll (ns.map fun n : Nat => PyData.int (n : Int)) = true ∧ PyData.leavesShortAll 8 (ns.map fun n : Nat => PyData.int (n : Int)) = true ∧ PyData.weightAll (ns.map fun n : Nat => PyData.int (n : Int)) ≤ 8 * ns.length
  | [], _ => ⟨rfl, rfl, rfl, rfl, rfl, Nat.le_refl _⟩
  | n :: ns, h => by
    obtain ⟨a1, a2, a3, a4, a5, a6⟩ := nums_ok (B := B) fun q hq => h q (List.mem_cons_of_mem _ hq)
    have all : ∀ n ∈ List.range 64, PyData.showable (.int (n : Int)) = true ∧ PyData.leavesShort 8 (.int (n : Int)) = true ∧ PyData.weight (.int (n : Int)) ≤ 7 := by decide +kernel
    obtain ⟨b1, b2, b3⟩ := all n (List.mem_range.mpr (h n List.mem_cons_self))
    rw [List.map_cons, List.length_cons]
    refine ⟨?_, ?_, ?_, ?_, ?_, ?_⟩
    · show (true && flatDs _) = true
      rw [a1]
      rfl
    · show max 0 (PyData.depthAll _) = 0
      rw [a2]
      rfl
    · show (true && PyData.canLayAll0 _) = true
      rw [a3]
      rfl
    · simp only [PyData.showableAll, a4, b1, Bool.and_self]
    · simp only [PyData.leavesShortAll, a5, b2, Bool.and_self]
    · show PyData.weight (.int (n : Int)) + 1 + PyData.weightAll _ ≤ _
      omega
theorem nums_shown {ns : List Nat} (h : ∀ n ∈ ns, n < 64) (hl : ns.length ≤ 1000) : shownOk (.tuple (ns.map fun n : Nat => PyData.int (n : Int))) ∧ eqOk (.tuple (ns.map fun n : Nat => PyData.int (n : Int))) := by
  obtain ⟨a1, a2, a3, a4, a5, a6⟩ := nums_ok (B := 0) h
  have dp : PyData.depth (.tuple (ns.map fun n : Nat => PyData.int (n : Int))) ≤ 64 := by
    show PyData.depthAll _ + 1 ≤ 64
    rw [a2]
    decide
  refine ⟨⟨a1, by simp only [PyData.showable, a4], dp, PyData.shown_fits (B := 8) (by decide) (by decide) (by simp only [PyData.leavesShort, a5]) ?_⟩, a1, ?_⟩
  · show PyData.weightAll _ ≤ 2 ^ 20
    have e : (2 : Nat) ^ 20 = 1048576 := by decide
    omega
  · unfold SeqAt.shaped
    rw [Bool.and_eq_true]
    exact ⟨a3, decide_eq_true dp⟩
theorem nums_eqv : ∀ as bs : List Nat, PyData.eqvAll (as.map fun n : Nat => PyData.int (n : Int)) (bs.map fun n : Nat => PyData.int (n : Int)) = decide (as = bs)
  | [], [] => by simp [PyData.eqvAll]
  | [], b :: bs => by simp [PyData.eqvAll]
  | a :: as, [] => by simp [PyData.eqvAll]
  | a :: as, b :: bs => by
    show (((a : Int) == (b : Int)) && PyData.eqvAll _ _) = _
    rw [nums_eqv as bs]
    by_cases h1 : a = b
    · subst h1
      by_cases h2 : as = bs <;> simp [h2]
    · have : ((a : Int) == (b : Int)) = false := by
        rw [beq_eq_false_iff_ne]
        omega
      rw [this]
      simp [h1]
theorem oft_le (x : Str) (i : Nat) : oft x i ≤ x.length := Nat.le_trans (List.length_filter_le _ _) (Nat.le_of_eq Array.length_toList)
def ofts (x : Str) (m : Nat) : List Nat := (List.range m).map (oft x)
theorem times_eq (x : Str) (m : Nat) : timesD x m = (ofts x m).map fun n : Nat => PyData.int (n : Int) := by
  unfold timesD ofts
  rw [List.map_map]
  rfl
theorem even_eq (x : Str) (m : Nat) : decide (ofts x m = List.replicate m (oft x 0)) = evenB x m := by
  unfold evenB ofts
  have : (ofts x m = List.replicate m (oft x 0)) ↔ ((List.range m).all fun i => decide (oft x i = oft x 0)) = true := by
    unfold ofts
    rw [List.all_eq_true, List.eq_replicate_iff]
    simp
  cases h : (List.range m).all fun i => decide (oft x i = oft x 0) with
  | true => exact decide_eq_true (this.mpr h)
  | false =>
    refine decide_eq_false fun z => ?_
    have q := this.mp z
    rw [h] at q
    cases q

theorem cut_to (ds : List D) {g : Nat} (h : g ≤ ds.length) : cutL ds none (some (g : Int)) = ds.take g := by
  have e1 : HT.sIx ds.length 0 none = 0 := rfl
  have e2 : HT.sIx ds.length ds.length (some (g : Int)) = g := by
    rw [HT.sIx_nat]
    omega
  unfold cutL
  rw [e1, e2]
  simp
theorem cut_from (ds : List D) {g : Nat} (h : g ≤ ds.length) : cutL ds (some (g : Int)) none = ds.drop g := by
  have e1 : HT.sIx ds.length 0 (some (g : Int)) = g := by
    rw [HT.sIx_nat]
    omega
  have e2 : HT.sIx ds.length ds.length none = ds.length := rfl
  unfold cutL
  rw [e1, e2]
  exact List.take_of_length_le (by rw [List.length_drop]; omega)
theorem cut_over (ds : List D) : cutL ds (some ((ds.length : Int) + 1)) none = ds.drop (ds.length + 1) := by
  have e2 : HT.sIx ds.length ds.length none = ds.length := rfl
  have e1 : HT.sIx ds.length 0 (some ((ds.length : Int) + 1)) = ds.length := by
    have : ((ds.length : Int) + 1) = ((ds.length + 1 : Nat) : Int) := by omega
    rw [this, HT.sIx_nat]
    omega
  unfold cutL
  rw [e1, e2]
  simp


def cntOf (x : Str) : D → Option D
  | .str s => some (.int (((x.cps.toList.filter fun d => decide (d = s.cps.toList.headD 0)).length : Nat) : Int))
  | _ => none
theorem cnt_times (x : Str) (m : Nat) : ((List.range m).map fun i => sg (97 + i)).filterMap (cntOf x) = timesD x m := by
  unfold timesD
  generalize List.range m = l
  induction l with
  | nil => rfl
  | cons i l ih =>
    rw [List.map_cons, List.filterMap_cons, ih]
    rfl
theorem times_ints (x : Str) (m : Nat) : timesD x m = ((List.range m).map fun i : Nat => ((oft x i : Nat) : Int)).map PyData.int := by
  unfold timesD
  rw [List.map_map]
  rfl
def linksOf : D → List (Int × Int)
  | .tuple [_, .tuple ts] => (tiesOf ts).getD []
  | _ => []

def sp_times (E : Str → Addr) : DSp := fun rs θ Φ Ex => match rs with
  | [.d w, .d x] => okText x ∧ if isWeb w = true then (if hasLetters x (manyOf w).toNat = true then Φ (.d (.tuple (timesD (strOf x) (manyOf w).toNat))) θ else Ex (.plain (E "NoWord")) θ) else Ex (.plain (E "NoWeb")) θ
  | _ => False

def T_times (E : Str → Addr) : DTS := (dSeq (dDrop (dFn (sp_check_word_of E) (dCons (dVar 0) (dCons (dVar 1) dNil)))) (dRet (dCall fTuple (dCons (dNewP (dLc (dItS (dSl (dC (.str "abcdef")) oNone (oSome (dOp fIx (dVar 0) (dC (.int 0)))) fSl)) (gN 2) dYes (dCountS (dVar 1) (dVar 2)) [2])) dNil))))

theorem ln_times {E : Str → Addr} : ∀ rs θ Φ Ex, sp_times E rs θ Φ Ex → rs.length = 2 := fun rs θ Φ Ex h => by
  unfold sp_times at h
  split at h
  all_goals first
    | rfl
    | exact h.elim

theorem rd_times {E : Str → Addr} : ∀ rs θ Φ Ex, sp_times E rs θ Φ Ex → T_times E { nx := fun _ θ' => Φ (.d .none) θ', rt := Φ, ex := fun xd _ θ' => Ex xd θ' } (startR 3 rs) θ := by
  intro rs θ Φ Ex h
  unfold sp_times at h
  split at h
  · rename_i w x
    obtain ⟨ht, h⟩ := h
    unfold T_times
    walk_at "rd"
    simp only [sp_check_word_of]
    refine ⟨ht, ?_⟩
    cases e1 : isWeb w with
    | false => simpa [e1] using h
    | true =>
      simp only [e1, if_true] at h ⊢
      obtain ⟨m, ts, rfl, h1, h6⟩ := web_form e1
      have em : manyOf (.tuple [.int m, .tuple ts]) = m := rfl
      have e0 : atI [PyData.int m, .tuple ts] 0 = some (.int m) := rfl
      rw [em] at h ⊢
      cases e2 : hasLetters x m.toNat with
      | false => simpa [e2] using h
      | true =>
        simp only [e2, if_true] at h ⊢
        cases x with
        | str x =>
          obtain ⟨m, rfl⟩ := Int.eq_ofNat_of_zero_le (show 0 ≤ m by omega)
          rw [Int.toNat_natCast] at h
          unfold dLc
          walk_at "rd"
          simp only [e0]
          have sm : small ("abcdef" : Str).length := abc_small
          refine ⟨sm, ?_⟩
          rw [six_abc (by omega)]
          have es : strOf (.str x) = x := rfl
          rw [es] at h
          refine lcD_map (cntOf x) _ [] (fun d hd k1 k0 hk => ?_) (by simp; omega) ?_
          · obtain ⟨i, hi, rfl⟩ := List.mem_map.mp hd
            simp only [wipeR, unset, dCountS]
            walk_at "rd"
            simp only [dYes, if_true]
            exact ⟨_, rfl, hk⟩
          · rw [List.nil_append, cnt_times]
            exact h
        | _ => simp [hasLetters] at e2
  · exact h.elim

theorem best_all : ∀ (ns : List Int) (lo hi : Int), lo ≤ hi → (ns.foldl min lo ≤ lo ∧ hi ≤ ns.foldl max hi ∧ (∀ y ∈ ns, ns.foldl min lo ≤ y ∧ y ≤ ns.foldl max hi))
  | [], lo, hi, _ => ⟨Int.le_refl _, Int.le_refl _, fun _ h => nomatch h⟩
  | n :: ns, lo, hi, h => by
    obtain ⟨a, b, c⟩ := best_all ns (min lo n) (max hi n) (by omega)
    refine ⟨?_, ?_, fun y hy => ?_⟩
    · show ns.foldl min (min lo n) ≤ lo
      omega
    · show hi ≤ ns.foldl max (max hi n)
      omega
    · show ns.foldl min (min lo n) ≤ y ∧ y ≤ ns.foldl max (max hi n)
      rcases List.mem_cons.mp hy with rfl | hy
      · omega
      · exact c y hy
theorem best_same : ∀ (ns : List Int) (n : Int), (∀ y ∈ ns, y = n) → ns.foldl min n = n ∧ ns.foldl max n = n
  | [], n, _ => ⟨rfl, rfl⟩
  | y :: ns, n, h => by
    have e := h y List.mem_cons_self
    subst e
    show ns.foldl min (min y y) = y ∧ ns.foldl max (max y y) = y
    have e1 : min y y = y := by omega
    have e2 : max y y = y := by omega
    rw [e1, e2]
    exact best_same ns y fun z hz => h z (List.mem_cons_of_mem _ hz)
theorem best_even (x : Str) (n : Nat) : PyData.eqv (.int (((List.range n).map fun i : Nat => ((oft x (i + 1) : Nat) : Int)).foldl min ((oft x 0 : Nat) : Int))) (.int (((List.range n).map fun i : Nat => ((oft x (i + 1) : Nat) : Int)).foldl max ((oft x 0 : Nat) : Int))) = evenB x (n + 1) := by
  show (_ == _) = _
  rw [Bool.eq_iff_iff, beq_iff_eq]
  unfold evenB
  rw [List.all_eq_true]
  constructor
  · intro h i hi
    obtain ⟨a, b, c⟩ := best_all ((List.range n).map fun i : Nat => ((oft x (i + 1) : Nat) : Int)) (oft x 0 : Nat) (oft x 0 : Nat) (Int.le_refl _)
    have hi := List.mem_range.mp hi
    refine decide_eq_true ?_
    cases i with
    | zero => rfl
    | succ i =>
      obtain ⟨d, e⟩ := c ((oft x (i + 1) : Nat) : Int) (List.mem_map.mpr ⟨i, List.mem_range.mpr (by omega), rfl⟩)
      rw [h] at d a
      rw [← h] at e b
      omega
  · intro h
    obtain ⟨a, b⟩ := best_same ((List.range n).map fun i : Nat => ((oft x (i + 1) : Nat) : Int)) (oft x 0 : Nat) fun y hy => by
      obtain ⟨i, hi, rfl⟩ := List.mem_map.mp hy
      have := of_decide_eq_true (h (i + 1) (List.mem_range.mpr (by have := List.mem_range.mp hi; omega)))
      omega
    rw [a, b]
theorem nums_head (x : Str) (n : Nat) : numsD (timesD x (n + 1)) = some (((oft x 0 : Nat) : Int) :: (List.range n).map fun i : Nat => ((oft x (i + 1) : Nat) : Int)) := by
  rw [times_ints, numsD_ints, List.range_succ_eq_map, List.map_cons, List.map_map]
  rfl
theorem in_shown {x : Str} {m a b : Nat} (h1 : a < b) (h2 : b < m) : decide (((a : Int), (b : Int)) ∈ shown x m) = turns x a b := by
  unfold shown
  have : ((a : Int), (b : Int)) ∈ (pairs m).filter (fun p => turns x p.1.toNat p.2.toNat) ↔ turns x a b = true := by
    rw [List.mem_filter]
    exact ⟨fun h => by simpa using h.2, fun h => ⟨in_pairs h1 h2, by simpa using h⟩⟩
  cases e : turns x a b with
  | true => exact decide_eq_true (this.mpr e)
  | false =>
    refine decide_eq_false fun z => ?_
    have q := this.mp z
    rw [e] at q
    cases q

def sp_is_even (E : Str → Addr) : DSp := fun rs θ Φ Ex => match rs with
  | [.d w, .d x] => okText x ∧ if isWeb w = true then (if hasLetters x (manyOf w).toNat = true then Φ (.d (.bool (evenB (strOf x) (manyOf w).toNat))) θ else Ex (.plain (E "NoWord")) θ) else Ex (.plain (E "NoWeb")) θ
  | _ => False

def T_is_even (E : Str → Addr) : DTS := (dSeq (dSet 2 (dFn (sp_times E) (dCons (dVar 0) (dCons (dVar 1) dNil)))) (dRet (dOp fEq (dCall (fBestT min) (dCons (dVar 2) dNil)) (dCall (fBestT max) (dCons (dVar 2) dNil)))))

theorem ln_is_even {E : Str → Addr} : ∀ rs θ Φ Ex, sp_is_even E rs θ Φ Ex → rs.length = 2 := fun rs θ Φ Ex h => by
  unfold sp_is_even at h
  split at h
  all_goals first
    | rfl
    | exact h.elim

theorem rd_is_even {E : Str → Addr} : ∀ rs θ Φ Ex, sp_is_even E rs θ Φ Ex → T_is_even E { nx := fun _ θ' => Φ (.d .none) θ', rt := Φ, ex := fun xd _ θ' => Ex xd θ' } (startR 3 rs) θ := by
  intro rs θ Φ Ex h
  unfold sp_is_even at h
  split at h
  · rename_i w x
    obtain ⟨ht, h⟩ := h
    unfold T_is_even
    walk_at "rd"
    simp only [sp_times]
    refine ⟨ht, ?_⟩
    cases e1 : isWeb w with
    | false => simpa [e1] using h
    | true =>
      simp only [e1, if_true] at h ⊢
      obtain ⟨m, ts, rfl, h1, h6⟩ := web_form e1
      have em : manyOf (.tuple [.int m, .tuple ts]) = m := rfl
      rw [em] at h ⊢
      cases e2 : hasLetters x m.toNat with
      | false => simpa [e2] using h
      | true =>
        simp only [e2, if_true] at h ⊢
        obtain ⟨m, rfl⟩ := Int.eq_ofNat_of_zero_le (show 0 ≤ m by omega)
        rw [Int.toNat_natCast] at h ⊢
        obtain ⟨n, rfl⟩ : ∃ n, m = n + 1 := ⟨m - 1, by omega⟩
        simp only [fBestT, on1, dat, nums_head]
        refine ⟨eqOk_int _, eqOk_int _, ?_⟩
        rw [best_even]
        exact h
  · exact h.elim

def sp_first_wrong (E : Str → Addr) : DSp := fun rs θ Φ Ex => match rs with
  | [.d w, .d x] => okText x ∧ if isWeb w = true then (if hasLetters x (manyOf w).toNat = true then Φ (.d (firstD (wrongs (strOf x) (manyOf w).toNat (linksOf w)))) θ else Ex (.plain (E "NoWord")) θ) else Ex (.plain (E "NoWeb")) θ
  | _ => False

def B_first_wrong_1 : DTS := (dSeq (dAsg (dVar 2) (gT (gsCons (gN 5) (gsCons (gN 6) gsNil)))) (dIfS (dTest (dOp fNe (dFn0 sp_turns_in (dCons (dVar 1) (dCons (dVar 5) (dCons (dVar 6) dNil)))) (dOp (fInT false) (dVar 2) (dVar 4)))) (dRet (dVar 2)) dNext))

def T_first_wrong (E : Str → Addr) : DTS := (dSeq (dDrop (dFn (sp_check_word_of E) (dCons (dVar 0) (dCons (dVar 1) dNil)))) (dSeq (dAsg (dVar 0) (gT (gsCons (gN 3) (gsCons (gN 4) gsNil)))) (dSeq (dFor (dItL (dFn0 sp_pairs_of (dCons (dVar 3) dNil))) (gN 2) B_first_wrong_1) (dRet (dC .none)))))

theorem ln_first_wrong {E : Str → Addr} : ∀ rs θ Φ Ex, sp_first_wrong E rs θ Φ Ex → rs.length = 2 := fun rs θ Φ Ex h => by
  unfold sp_first_wrong at h
  split at h
  all_goals first
    | rfl
    | exact h.elim

theorem rd_first_wrong {E : Str → Addr} : ∀ rs θ Φ Ex, sp_first_wrong E rs θ Φ Ex → T_first_wrong E { nx := fun _ θ' => Φ (.d .none) θ', rt := Φ, ex := fun xd _ θ' => Ex xd θ' } (startR 7 rs) θ := by
  intro rs θ Φ Ex h
  unfold sp_first_wrong at h
  split at h
  · rename_i w x
    obtain ⟨ht, h⟩ := h
    unfold T_first_wrong
    walk_at "rd"
    simp only [sp_check_word_of]
    refine ⟨ht, ?_⟩
    cases e1 : isWeb w with
    | false => simpa [e1] using h
    | true =>
      simp only [e1, if_true] at h ⊢
      obtain ⟨m, l, rfl, h1, h6⟩ := web_data e1
      have em : (manyOf (webD m l)).toNat = m := Int.toNat_natCast m
      have el : linksOf (webD m l) = l := by
        show (tiesOf (l.map tieD)).getD [] = l
        rw [tiesOf_map]
        rfl
      rw [em] at h ⊢
      rw [el] at h
      cases e2 : hasLetters x m with
      | false => simpa [e2] using h
      | true =>
        simp only [e2, if_true] at h ⊢
        cases x with
        | str x =>
          have es : strOf (.str x) = x := rfl
          rw [es] at h
          have hx : made x m = true := e2
          have low := made_low hx h6
          have ht : x.length < 64 := ht.1
          unfold webD
          walk_at "rd"
          simp only [sp_pairs_of, Int.toNat_natCast]
          refine ⟨⟨by omega, by omega⟩, ?_⟩
          refine forD_inv (fun j ρ θ6 => θ6 = θ ∧ ((pairs m).take j).filter (fun p => (decide (p ∈ shown x m) != decide (p ∈ l))) = [] ∧ ∃ x2 x5 x6, ρ = [some (.d (.tuple [.int (m : Int), .tuple (l.map tieD)])), some (.d (.str x)), x2, some (.d (.int (m : Int))), some (.d (.tuple (l.map tieD))), x5, x6]) _ 0 _ _ (fun j d ed ρ θ6 K3 hI hK3 => ?_) (fun ρ θ6 hI => ?_) ⟨rfl, rfl, none, none, none, rfl⟩
          · obtain ⟨rfl, no, x2, x5, x6, rfl⟩ := hI
            rw [Nat.zero_add] at no hK3
            rw [List.getElem?_map] at ed
            cases ep : (pairs m)[j]? with
            | none => rw [ep] at ed; cases ed
            | some q =>
              rw [ep] at ed
              cases ed
              have et : (pairs m).take (j + 1) = (pairs m).take j ++ [q] := by
                rw [List.take_succ, ep]
                rfl
              obtain ⟨r, es⟩ : ∃ r, pairs m = (pairs m).take j ++ q :: r := ⟨(pairs m).drop (j + 1), by
                obtain ⟨lt, e⟩ := List.getElem?_eq_some_iff.mp ep
                rw [← e, ← List.drop_eq_getElem_cons lt, List.take_append_drop]⟩
              obtain ⟨a, b, rfl, hab, hbm⟩ := pairs_in (List.mem_of_getElem? ep)
              unfold B_first_wrong_1
              simp only [tieD]
              walk_at "rd"
              simp only [sp_turns_in, Int.toNat_natCast]
              refine ⟨⟨by omega, by omega⟩, ⟨by omega, by omega⟩, ⟨by omega, low⟩, ?_⟩
              simp only [fInT, dat]
              refine ⟨eqOk_tie ((a : Int), (b : Int)), (eqOk_ties _).1, eqOk_bool _, eqOk_bool _, ?_⟩
              have an := any_tie ((a : Int), (b : Int)) l
              simp only [tieD] at an
              have key : (!PyData.eqv (.bool (turns x a b)) (.bool (if false = true then !((l.map tieD).any fun z => PyData.eqv z (.tuple [.int (a : Int), .int (b : Int)])) else (l.map tieD).any fun z => PyData.eqv z (.tuple [.int (a : Int), .int (b : Int)])))) = (decide (((a : Int), (b : Int)) ∈ shown x m) != decide (((a : Int), (b : Int)) ∈ l)) := by
                simp only [Bool.false_eq_true, if_false]
                rw [bool_eqv, an, in_shown hab hbm]
                rfl
              refine ite_b _ (fun q => ?_) (fun q => ?_)
              · rw [key] at q
                have e : wrongs x m l = ((a : Int), (b : Int)) :: r.filter (fun p => (decide (p ∈ shown x m) != decide (p ∈ l))) := by
                  unfold wrongs
                  rw [es, List.filter_append, no, List.filter_cons, if_pos q]
                  rfl
                rw [e] at h
                exact h
              · rw [key] at q
                refine hK3 _ _ ⟨rfl, ?_, _, _, _, rfl⟩
                rw [et, List.filter_append, no, List.filter_cons, if_neg (by rw [q]; decide)]
                rfl
          · obtain ⟨rfl, no, x2, x5, x6, rfl⟩ := hI
            rw [Nat.zero_add, List.length_map, List.take_length] at no
            have e : wrongs x m l = [] := no
            rw [e] at h
            exact h
        | _ => simp [hasLetters] at e2
  · exact h.elim

theorem times_step {E : Str → Addr} {m : Nat} {l : List (Int × Int)} {x : Str} {θ : Th} {Φ : RK} {Ex : XD → Th → Prop} (h1 : 1 ≤ m) (h6 : m ≤ 6) (hl : l.Sublist (pairs m)) (hx : made x m = true) (hxl : x.length < 64)
    (k : Φ (.d (.tuple (timesD x m))) θ) : sp_times E [.d (webD m l), .d (.str x)] θ Φ Ex := by
  have em : (manyOf (webD m l)).toNat = m := Int.toNat_natCast m
  refine ⟨⟨hxl, made_low hx h6⟩, ?_⟩
  rw [web_ok h1 h6 hl, if_pos rfl, em, show hasLetters (.str x) m = true from hx, if_pos rfl]
  exact k
theorem is_even_step {E : Str → Addr} {m : Nat} {l : List (Int × Int)} {x : Str} {θ : Th} {Φ : RK} {Ex : XD → Th → Prop} (h1 : 1 ≤ m) (h6 : m ≤ 6) (hl : l.Sublist (pairs m)) (hx : made x m = true) (hxl : x.length < 64)
    (k : Φ (.d (.bool (evenB x m))) θ) : sp_is_even E [.d (webD m l), .d (.str x)] θ Φ Ex := by
  have em : (manyOf (webD m l)).toNat = m := Int.toNat_natCast m
  refine ⟨⟨hxl, made_low hx h6⟩, ?_⟩
  rw [web_ok h1 h6 hl, if_pos rfl, em, show hasLetters (.str x) m = true from hx, if_pos rfl]
  exact k
theorem first_wrong_step {E : Str → Addr} {m : Nat} {l : List (Int × Int)} {x : Str} {θ : Th} {Φ : RK} {Ex : XD → Th → Prop} (h1 : 1 ≤ m) (h6 : m ≤ 6) (hl : l.Sublist (pairs m)) (hx : made x m = true) (hxl : x.length < 64)
    (k : Φ (.d (firstD (wrongs x m l))) θ) : sp_first_wrong E [.d (webD m l), .d (.str x)] θ Φ Ex := by
  have em : (manyOf (webD m l)).toNat = m := Int.toNat_natCast m
  refine ⟨⟨hxl, made_low hx h6⟩, ?_⟩
  rw [web_ok h1 h6 hl, if_pos rfl, em, show hasLetters (.str x) m = true from hx, if_pos rfl]
  have el : linksOf (webD m l) = l := by
    show (tiesOf (l.map tieD)).getD [] = l
    rw [tiesOf_map]
    rfl
  rw [el]
  exact k

end TlD
set_option Elab.async false
set_option linter.all false
set_option maxRecDepth 100000
set_option maxHeartbeats 4000000
namespace TlD
open PySem PySem.Spec PyProof.Rows L2 GxR TlG
local macro_rules | `(tactic| walk_at "rd") => `(tactic| simp only [dSeq, dSet, dAsg, dSetIx, dDrop, dIfS, dFor, dRet, dRetN, dRetF, dNext, dRaise, dVar, dC, dOp, dUn, dCall, dTest, dAnd, dOr, dNot, dAndV, dOrV, dNotV, dIf, dChain, dNil, dCons, dTup, dTup.allD, dLst, dLstO, dNewP, dNewO, dListC, dIsi, dFn0, dFn, dAll, dItT, dItL, dItS, dItR1, dItR2, dItZ, dSl, oNone, oSome, gN, gT, gsNil, gsCons, dSortSet, dRevS, nth, put, startR, fAdd, fSub, fMul, fDiv, fMod, fLt, fLe, fGt, fGe, fLtT, fEq, fNe, fIn, fIsN, fIsB, fLen, fIx, fSl, fTuple, fAbs, fMax, fMin, fDivmod, fStrI, dAppend, dPopAt, on2I, is1I, is2I, is2Z, on1, dat, asD, asB, asI, asS, onOwn, lenD, listD, ixD, List.length_cons, List.length_nil])


/-! ### words turned -/
def ledT (x : Str) (n : Nat) : Str := txt (x.cps.toList.drop n ++ x.cps.toList.take n)

def sp_from_behind (E : Str → Addr) : DSp := fun rs θ Φ Ex => match rs with
  | [.d w, .d x] => okText x ∧ if isWeb w = true then (if hasLetters x (manyOf w).toNat = true then Φ (.d (.str (revS (strOf x)))) θ else Ex (.plain (E "NoWord")) θ) else Ex (.plain (E "NoWeb")) θ
  | _ => False

def T_from_behind (E : Str → Addr) : DTS := (dSeq (dDrop (dFn (sp_check_word_of E) (dCons (dVar 0) (dCons (dVar 1) dNil)))) (dRet (dRevS (dVar 1))))

theorem ln_from_behind {E : Str → Addr} : ∀ rs θ Φ Ex, sp_from_behind E rs θ Φ Ex → rs.length = 2 := fun rs θ Φ Ex h => by
  unfold sp_from_behind at h
  split at h
  all_goals first
    | rfl
    | exact h.elim

theorem rd_from_behind {E : Str → Addr} : ∀ rs θ Φ Ex, sp_from_behind E rs θ Φ Ex → T_from_behind E { nx := fun _ θ' => Φ (.d .none) θ', rt := Φ, ex := fun xd _ θ' => Ex xd θ' } (startR 2 rs) θ := by
  intro rs θ Φ Ex h
  unfold sp_from_behind at h
  split at h
  · rename_i w x
    obtain ⟨ht, h⟩ := h
    unfold T_from_behind
    walk_at "rd"
    simp only [sp_check_word_of]
    refine ⟨ht, ?_⟩
    cases e1 : isWeb w with
    | false => simpa [e1] using h
    | true =>
      simp only [e1, if_true] at h ⊢
      cases e2 : hasLetters x (manyOf w).toNat with
      | false => simpa [e2] using h
      | true =>
        simp only [e2, if_true] at h ⊢
        cases x with
        | str x =>
          have hxl : x.length < 64 := ht.1
          exact ⟨by show _ ≤ _; omega, h⟩
        | _ => simp [hasLetters] at e2
  · exact h.elim

def sp_led_on (E : Str → Addr) : DSp := fun rs θ Φ Ex => match rs with
  | [.d w, .d x, .d (.int n)] => okText x ∧ (isWeb w = true ∧ hasLetters x (manyOf w).toNat = true) ∧ (0 ≤ n ∧ n ≤ (strOf x).length) ∧ Φ (.d (.str (ledT (strOf x) n.toNat))) θ
  | _ => False

def T_led_on (E : Str → Addr) : DTS := (dSeq (dDrop (dFn (sp_check_word_of E) (dCons (dVar 0) (dCons (dVar 1) dNil)))) (dSeq (dDrop (dFn (sp_check_number E) (dCons (dVar 2) (dCons (dC (.int 0)) (dCons (dCall fLen (dCons (dVar 1) dNil)) dNil))))) (dRet (dOp fAdd (dSl (dVar 1) (oSome (dVar 2)) oNone fSl) (dSl (dVar 1) oNone (oSome (dVar 2)) fSl)))))

theorem ln_led_on {E : Str → Addr} : ∀ rs θ Φ Ex, sp_led_on E rs θ Φ Ex → rs.length = 3 := fun rs θ Φ Ex h => by
  unfold sp_led_on at h
  split at h
  all_goals first
    | rfl
    | exact h.elim

theorem rd_led_on {E : Str → Addr} : ∀ rs θ Φ Ex, sp_led_on E rs θ Φ Ex → T_led_on E { nx := fun _ θ' => Φ (.d .none) θ', rt := Φ, ex := fun xd _ θ' => Ex xd θ' } (startR 3 rs) θ := by
  intro rs θ Φ Ex h
  unfold sp_led_on at h
  split at h
  · rename_i w x n
    obtain ⟨ht, ⟨e1, e2⟩, ⟨n0, n1⟩, h⟩ := h
    unfold T_led_on
    walk_at "rd"
    simp only [sp_check_word_of]
    refine ⟨ht, ?_⟩
    simp only [e1, e2, if_true]
    cases x with
    | str x =>
      have hxl : x.length < 64 := ht.1
      have es : strOf (.str x) = x := rfl
      rw [es] at h n1
      obtain ⟨n, rfl⟩ := Int.eq_ofNat_of_zero_le n0
      have nm : isNum (.int (n : Int)) 0 ((x.length : Nat) : Int) = true := by
        show (decide ((0 : Int) ≤ (n : Int)) && decide ((n : Int) ≤ ((x.length : Nat) : Int))) = true
        rw [decide_eq_true n0, decide_eq_true n1]
        rfl
      rw [Int.toNat_natCast] at h
      have nl : n ≤ x.length := by omega
      walk_at "rd"
      simp only [sp_check_number, nm, if_true]
      have c1 : cutS x (some (n : Int)) none = txt (x.cps.toList.drop n) := by
        have q1 : HT.sIx x.length 0 (some (n : Int)) = n := by
          rw [HT.sIx_nat]
          omega
        have q2 : HT.sIx x.length x.length none = x.length := HT.sIx_none _ _
        unfold cutS txt
        rw [q1, q2, List.take_of_length_le]
        rw [List.length_drop, Array.length_toList]
        exact Nat.le_refl _
      have c2 : cutS x none (some (n : Int)) = txt (x.cps.toList.take n) := by
        have q1 : HT.sIx x.length x.length (some (n : Int)) = n := by
          rw [HT.sIx_nat]
          omega
        have q2 : HT.sIx x.length 0 none = 0 := HT.sIx_none _ _
        unfold cutS txt
        rw [q1, q2]
        simp
      have l1 := cutS_length x (some (n : Int)) none
      have l2 := cutS_length x none (some (n : Int))
      have sm : small x.length := by
        show _ ≤ 1000000
        omega
      refine ⟨sm, sm, sm, by show _ ≤ 1000000; omega, ?_⟩
      rw [c1, c2]
      have : txt (x.cps.toList.drop n) ++ txt (x.cps.toList.take n) = ledT x n := by
        show (⟨(x.cps.toList.drop n).toArray ++ (x.cps.toList.take n).toArray⟩ : Str) = _
        simp [ledT, txt]
      rw [this]
      exact h
    | _ => simp [hasLetters] at e2
  · exact h.elim

def sp_check_places (E : Str → Addr) : DSp := fun rs θ Φ Ex => match rs with
  | [.d t, .d (.int m)] => ∃ ps : List Nat, t = placesD ps ∧ ps ≠ [] ∧ ps.Pairwise (· < ·) ∧ (∀ p ∈ ps, (p : Int) < m) ∧ Φ (.d .none) θ
  | _ => False
theorem rising_nats : ∀ {ps : List Nat}, ps.Pairwise (· < ·) → risingI (ps.map fun p : Nat => (p : Int)) = true
  | [], _ => rfl
  | [_], _ => rfl
  | p :: q :: r, h => by
    obtain ⟨h1, h2⟩ := List.pairwise_cons.mp h
    show (decide ((p : Int) < (q : Int)) && risingI ((q :: r).map fun p : Nat => (p : Int))) = true
    rw [rising_nats h2, decide_eq_true (by have := h1 q List.mem_cons_self; omega)]
    rfl

def T_check_places (E : Str → Addr) : DTS := (dSeq (dIfS (dOr (dNot (dTest (dIsi isTupD (dVar 0)))) (dNot (dTruL (dVar 0)))) (dRaise (E "NoPlace")) dNext) (dIfS (dOr (dNot (dTest (dAll (dItT (dVar 0)) (gN 2) dYes (dFn0 sp_is_place (dCons (dVar 2) (dCons (dVar 1) dNil))) [2]))) (dNot (dTest (dFn0 sp_is_rising (dCons (dVar 0) dNil))))) (dRaise (E "NoPlace")) dNext))

theorem ln_check_places {E : Str → Addr} : ∀ rs θ Φ Ex, sp_check_places E rs θ Φ Ex → rs.length = 2 := fun rs θ Φ Ex h => by
  unfold sp_check_places at h
  split at h
  all_goals first
    | rfl
    | exact h.elim

theorem rd_check_places {E : Str → Addr} : ∀ rs θ Φ Ex, sp_check_places E rs θ Φ Ex → T_check_places E { nx := fun _ θ' => Φ (.d .none) θ', rt := Φ, ex := fun xd _ θ' => Ex xd θ' } (startR 3 rs) θ := by
  intro rs θ Φ Ex h
  unfold sp_check_places at h
  split at h
  · rename_i t m
    obtain ⟨ps, rfl, ne, rise, lt, h⟩ := h
    unfold T_check_places placesD
    walk_at "rd"
    simp only [isTupD, Bool.not_true, Bool.false_eq_true, if_false, dTruL]
    walk_at "rd"
    have e1 : (ps.map fun p : Nat => PyData.int (p : Int)).isEmpty = false := by
      cases ps with
      | nil => exact absurd rfl ne
      | cons p ps => rfl
    rw [e1]
    simp only [Bool.not_false, Bool.not_true, Bool.false_eq_true, if_false]
    have up : sp_is_rising [.d (.tuple (ps.map fun p : Nat => PyData.int (p : Int)))] θ (fun r θ1 => match r with
        | .d (.bool b) => if (!b) = true then Ex (.plain (E "NoPlace")) θ1 else Φ (.d .none) θ1
        | _ => False) (fun _ _ => False) := by
      have e2 : tiesOf (ps.map fun p : Nat => PyData.int (p : Int)) = none := by
        cases ps with
        | nil => exact absurd rfl ne
        | cons p ps => rfl
      have e3 : numsD (ps.map fun p : Nat => PyData.int (p : Int)) = some (ps.map fun p : Nat => (p : Int)) := by
        have := numsD_ints (ps.map fun p : Nat => (p : Int))
        rw [List.map_map] at this
        exact this
      unfold sp_is_rising
      simp only [e2, e3, rising_nats rise, Bool.not_true, Bool.false_eq_true, if_false]
      exact h
    refine genD_all2 (ρw := wipeR [some (.d (.tuple (ps.map fun p : Nat => PyData.int (p : Int)))), some (.d (.int m)), none] [2]) (fun t => isPlace t m) _ (fun d hd K hK => ?_) (fun e2 => ?_) (fun e2 => ?_)
    · walk_at "rd"
      simp only [wipeR, unset, nth, put, sp_is_place, asB]
      exact hK
    · exact up
    · exfalso
      have : ((ps.map fun p : Nat => PyData.int (p : Int)).all fun t => isPlace t m) = true := by
        rw [List.all_eq_true]
        intro d hd
        obtain ⟨p, hp, rfl⟩ := List.mem_map.mp hd
        show (decide ((0 : Int) ≤ (p : Int)) && decide ((p : Int) < m)) = true
        rw [decide_eq_true (by omega), decide_eq_true (lt p hp)]
        rfl
      rw [this] at e2
      cases e2
  · exact h.elim

def sp_alone (E : Str → Addr) : DSp := fun rs θ Φ Ex => match rs with
  | [.d w, .d x, .d t] => okText x ∧ (isWeb w = true ∧ hasLetters x (manyOf w).toNat = true) ∧ ∃ ps : List Nat, t = placesD ps ∧ ps ≠ [] ∧ ps.Pairwise (· < ·) ∧ (∀ p ∈ ps, (p : Int) < manyOf w) ∧ Φ (.d (.str (aloneT (strOf x) ps))) θ
  | _ => False

def T_alone (E : Str → Addr) : DTS := (dSeq (dDrop (dFn (sp_check_word_of E) (dCons (dVar 0) (dCons (dVar 1) dNil)))) (dSeq (dDrop (dFn (sp_check_places E) (dCons (dVar 2) (dCons (dOp fIx (dVar 0) (dC (.int 0))) dNil)))) (dRet (dFn0 sp_letters_alone (dCons (dVar 1) (dCons (dVar 2) dNil))))))

theorem ln_alone {E : Str → Addr} : ∀ rs θ Φ Ex, sp_alone E rs θ Φ Ex → rs.length = 3 := fun rs θ Φ Ex h => by
  unfold sp_alone at h
  split at h
  all_goals first
    | rfl
    | exact h.elim

theorem rd_alone {E : Str → Addr} : ∀ rs θ Φ Ex, sp_alone E rs θ Φ Ex → T_alone E { nx := fun _ θ' => Φ (.d .none) θ', rt := Φ, ex := fun xd _ θ' => Ex xd θ' } (startR 3 rs) θ := by
  intro rs θ Φ Ex h
  unfold sp_alone at h
  split at h
  · rename_i w x t
    obtain ⟨ht, ⟨e1, e2⟩, ps, rfl, ne, rise, lt, h⟩ := h
    unfold T_alone
    walk_at "rd"
    simp only [sp_check_word_of]
    refine ⟨ht, ?_⟩
    simp only [e1, e2, if_true]
    obtain ⟨m, ts, rfl, h1, h6⟩ := web_form e1
    have em : manyOf (.tuple [.int m, .tuple ts]) = m := rfl
    have e0 : atI [PyData.int m, .tuple ts] 0 = some (.int m) := rfl
    rw [em] at e2 lt
    cases x with
    | str x =>
      have hx : made x m.toNat = true := e2
      have hxl : x.length < 64 := ht.1
      have es : strOf (.str x) = x := rfl
      rw [es] at h
      simp only [e0, sp_check_places]
      refine ⟨ps, rfl, ne, rise, lt, ?_⟩
      simp only [sp_letters_alone]
      have low := made_low hx (by omega)
      have key : ∀ (ps : List Nat) (k n : Nat), ps.Pairwise (· < ·) → (∀ p ∈ ps, k ≤ p ∧ p < n) → ps.length ≤ n - k := by
        intro ps
        induction ps with
        | nil => exact fun k n _ _ => Nat.zero_le _
        | cons p ps ih =>
          intro k n h1 h2
          obtain ⟨q1, q2⟩ := List.pairwise_cons.mp h1
          have h3 := ih (p + 1) n q2 fun q hq => ⟨q1 q hq, (h2 q (List.mem_cons_of_mem _ hq)).2⟩
          have := h2 p List.mem_cons_self
          rw [List.length_cons]
          omega
      have l6 : ∀ p ∈ ps, p < 6 := fun p hp => by
        have := lt p hp
        omega
      have := key ps 0 6 rise fun p hp => ⟨Nat.zero_le _, l6 p hp⟩
      exact ⟨ps, rfl, l6, by omega, ⟨by omega, low⟩, h⟩
    | _ => simp [hasLetters] at e2
  · exact h.elim

section
variable {E : Str → Addr} {m : Nat} {l : List (Int × Int)} {x : Str} {θ : Th} {Φ : RK} {Ex : XD → Th → Prop}
theorem behind_step (h1 : 1 ≤ m) (h6 : m ≤ 6) (hl : l.Sublist (pairs m)) (hx : made x m = true) (hxl : x.length < 64) (k : Φ (.d (.str (revS x))) θ) : sp_from_behind E [.d (webD m l), .d (.str x)] θ Φ Ex := by
  have em : (manyOf (webD m l)).toNat = m := Int.toNat_natCast m
  refine ⟨⟨hxl, made_low hx h6⟩, ?_⟩
  rw [web_ok h1 h6 hl, if_pos rfl, em, show hasLetters (.str x) m = true from hx, if_pos rfl]
  exact k
theorem led_step {n : Nat} (h1 : 1 ≤ m) (h6 : m ≤ 6) (hl : l.Sublist (pairs m)) (hx : made x m = true) (hxl : x.length < 64) (hn : n ≤ x.length) (k : Φ (.d (.str (ledT x n))) θ) : sp_led_on E [.d (webD m l), .d (.str x), .d (.int (n : Int))] θ Φ Ex := by
  have em : (manyOf (webD m l)).toNat = m := Int.toNat_natCast m
  refine ⟨⟨hxl, made_low hx h6⟩, ⟨web_ok h1 h6 hl, by rw [em]; exact hx⟩, ⟨by omega, by show (n : Int) ≤ (x.length : Int); omega⟩, ?_⟩
  rw [Int.toNat_natCast]
  exact k
theorem alone_step {ps : List Nat} (h1 : 1 ≤ m) (h6 : m ≤ 6) (hl : l.Sublist (pairs m)) (hx : made x m = true) (hxl : x.length < 64) (ne : ps ≠ []) (rise : ps.Pairwise (· < ·)) (hp : ∀ p ∈ ps, p < m) (k : Φ (.d (.str (aloneT x ps))) θ) :
    sp_alone E [.d (webD m l), .d (.str x), .d (placesD ps)] θ Φ Ex := by
  have em : (manyOf (webD m l)).toNat = m := Int.toNat_natCast m
  have em2 : manyOf (webD m l) = (m : Int) := rfl
  refine ⟨⟨hxl, made_low hx h6⟩, ⟨web_ok h1 h6 hl, by rw [em]; exact hx⟩, ps, rfl, ne, rise, fun p h => by rw [em2]; have := hp p h; omega, k⟩
end

end TlD
set_option Elab.async false
set_option linter.all false
set_option maxRecDepth 100000
set_option maxHeartbeats 4000000
namespace TlD
open PySem PySem.Spec PyProof.Rows L2 GxR TlG
local macro_rules | `(tactic| walk_at "rd") => `(tactic| simp only [dSeq, dSet, dAsg, dSetIx, dDrop, dIfS, dFor, dRet, dRetN, dRetF, dNext, dRaise, dVar, dC, dOp, dUn, dCall, dTest, dAnd, dOr, dNot, dAndV, dOrV, dNotV, dIf, dChain, dNil, dCons, dTup, dTup.allD, dLst, dLstO, dNewP, dNewO, dListC, dIsi, dFn0, dFn, dAll, dItT, dItL, dItS, dItR1, dItR2, dItZ, dSl, oNone, oSome, gN, gT, gsNil, gsCons, dSortSet, dRevS, nth, put, startR, fAdd, fSub, fMul, fDiv, fMod, fLt, fLe, fGt, fGe, fLtT, fEq, fNe, fIn, fIsN, fIsB, fLen, fIx, fSl, fTuple, fAbs, fMax, fMin, fDivmod, fStrI, dAppend, dPopAt, on2I, is1I, is2I, is2Z, on1, dat, asD, asB, asI, asS, onOwn, lenD, listD, ixD, List.length_cons, List.length_nil])


def cnt (l : List Nat) (c : Nat) : Nat := (l.filter fun d => decide (d = c)).length
theorem cnt_append (l k : List Nat) (c : Nat) : cnt (l ++ k) c = cnt l c + cnt k c := by
  unfold cnt
  rw [List.filter_append, List.length_append]
theorem cnt_draw {f : Str} {ls : List Nat} {i c : Nat} (h : ls[i]? = some c) (z : Nat) : cnt (f ++ (⟨#[c]⟩ : Str)).cps.toList z + cnt (ls.eraseIdx i) z = cnt f.cps.toList z + cnt ls z := by
  have e1 : (f ++ (⟨#[c]⟩ : Str)).cps.toList = f.cps.toList ++ [c] := by
    show (f.cps ++ #[c]).toList = _
    simp
  obtain ⟨lt, e⟩ := List.getElem?_eq_some_iff.mp h
  have e2 : ls = ls.take i ++ c :: ls.drop (i + 1) := by rw [← e, ← List.drop_eq_getElem_cons lt, List.take_append_drop]
  have e3 : cnt ls z = cnt (ls.take i) z + cnt [c] z + cnt (ls.drop (i + 1)) z := by
    have : cnt ls z = cnt (ls.take i ++ ([c] ++ ls.drop (i + 1))) z := congrArg (fun l => cnt l z) e2
    rw [this, cnt_append, cnt_append]
    omega
  rw [e1, cnt_append, List.eraseIdx_eq_take_drop_succ, cnt_append, e3]
  omega
theorem cnt_letters {m i : Nat} (h : i < m) : cnt (letters m) (97 + i) = 1 := by
  unfold cnt letters
  rw [List.filter_map, List.length_map]
  have : (List.range m).filter ((fun d => decide (d = 97 + i)) ∘ (97 + ·)) = (List.range m).filter (fun d => decide (d = i)) := by
    refine List.filter_congr fun d _ => ?_
    exact decide_eq_decide.mpr ⟨fun h => by
      have h : 97 + d = 97 + i := h
      omega, fun h => by
      show 97 + d = 97 + i
      omega⟩
  rw [this]
  clear this
  induction m with
  | zero => omega
  | succ m ih =>
    rw [List.range_succ, List.filter_append, List.length_append]
    by_cases e : i = m
    · subst e
      have : (List.range i).filter (fun d => decide (d = i)) = [] := by
        rw [List.filter_eq_nil_iff]
        intro d hd
        have := List.mem_range.mp hd
        simp
        omega
      rw [this]
      simp
    · rw [ih (by omega)]
      have : ¬ m = i := fun z => e z.symm
      simp [this]
theorem cnt_rep {k m i : Nat} (h : i < m) : cnt (List.replicate k (letters m)).flatten (97 + i) = k := by
  induction k with
  | zero => rfl
  | succ k ih =>
    rw [List.replicate_succ, List.flatten_cons, cnt_append, ih, cnt_letters h]
    omega

def sp_b_even_word : DSp := fun rs θ Φ _ => match rs with
  | [.own a, .d (.int m), .d (.int k)] => (1 ≤ m ∧ m ≤ 6) ∧ (1 ≤ k ∧ k ≤ 2) ∧ Boxed θ a ∧ ∀ (w : Str) (θ' : Th), made w m.toNat = true → w.length ≤ 12 → (∀ i < m.toNat, cnt w.cps.toList (97 + i) = k.toNat) → Chg a θ θ' → Φ (.d (.str w)) θ'
  | _ => False

def T_b_even_word : DTS := (dSeq (dSet 3 (dNewO (dListC (dCons (dOp fMul (dSl (dC (.str "abcdef")) oNone (oSome (dVar 1)) fSl) (dVar 2)) dNil)))) (dSeq (dSet 4 (dC (.str ""))) (dSeq (dWhile (dTest (dOp fNe (dVar 3) (dLst dNil))) (dSet 4 (dOp fAdd (dVar 4) (dPopAt (dVar 3) (dFn0 sp__law_take (dCons (dVar 0) (dCons (dCall fLen (dCons (dVar 3) dNil)) dNil))))))) (dRetF (dVar 4)))))

theorem ln_b_even_word : ∀ rs θ Φ Ex, sp_b_even_word rs θ Φ Ex → rs.length = 3 := fun rs θ Φ Ex h => by
  unfold sp_b_even_word at h
  split at h
  all_goals first
    | rfl
    | exact h.elim

theorem rd_b_even_word : ∀ rs θ Φ Ex, sp_b_even_word rs θ Φ Ex → T_b_even_word { nx := fun _ θ' => Φ (.d .none) θ', rt := Φ, ex := fun xd _ θ' => Ex xd θ' } (startR 5 rs) θ := by
  intro rs θ Φ Ex h
  unfold sp_b_even_word at h
  split at h
  · rename_i a m k
    obtain ⟨⟨m1, m6⟩, ⟨k1, k2⟩, hb, h⟩ := h
    obtain ⟨m, rfl⟩ := Int.eq_ofNat_of_zero_le (show 0 ≤ m by omega)
    obtain ⟨k, rfl⟩ := Int.eq_ofNat_of_zero_le (show 0 ≤ k by omega)
    simp only [Int.toNat_natCast] at h
    have ll : (letters m).length = m := by
      unfold letters
      simp
    unfold T_b_even_word
    walk_at "rd"
    have sl : (cutS ("abcdef" : Str) none (some (m : Int))).length ≤ 6 := by
      have := cutS_length ("abcdef" : Str) none (some (m : Int))
      rw [abc_len] at this
      exact this
    have rl : ((List.replicate k (letters m)).flatten).length = k * m := by simp [ll]
    have km : k * m ≤ 12 := by
      have : k * m ≤ 2 * 6 := Nat.mul_le_mul (by omega) (by omega)
      omega
    refine ⟨abc_small, ⟨by omega, by omega, by omega⟩, ?_, fun p hp => ?_⟩
    · show (repS (k : Int) _).cps.size ≤ 1000000
      rw [← Array.length_toList, rep_letters (by omega), rl]
      omega
    have pa : p ≠ a := fun e => hp (e ▸ hb.key)
    have e1 : signsD (repS (k : Int) (cutS ("abcdef" : Str) none (some (m : Int)))) = ((List.replicate k (letters m)).flatten).map sg := by rw [signsD_eq, rep_letters (by omega)]
    rw [e1]
    unfold dWhile
    refine ⟨fun n ρ θ2 => ∃ (ls : List Nat) (f : Str) (θ3 : Th), n = ls.length ∧ θ2 = (p, ls.map sg) :: θ3 ∧ Chg a θ θ3 ∧ (∀ c, (c ∈ f.cps.toList ∨ c ∈ ls) ↔ 97 ≤ c ∧ c < 97 + m) ∧ f.length + ls.length ≤ 12 ∧ (∀ c, cnt f.cps.toList c + cnt ls c = cnt (List.replicate k (letters m)).flatten c) ∧ ρ = [some (.own a), some (.d (.int (m : Int))), some (.d (.int (k : Int))), some (.own p), some (.d (.str f))],
      ⟨_, (List.replicate k (letters m)).flatten, ("" : Str), θ, rfl, rfl, .refl, fun c => ?_, ?_, fun c => ?_, rfl⟩, fun n ρ θ2 hI => ?_⟩
    · have : ¬ c ∈ ("" : Str).cps.toList := by
        rw [show ("" : Str).cps.toList = [] from by decide +kernel]
        exact fun z => by cases z
      rw [← mem_letters]
      constructor
      · intro z
        obtain ⟨l, hl, hc⟩ := List.mem_flatten.mp (z.resolve_left this)
        rw [(List.mem_replicate.mp hl).2] at hc
        exact hc
      · intro z
        exact .inr (List.mem_flatten.mpr ⟨letters m, List.mem_replicate.mpr ⟨by omega, rfl⟩, z⟩)
    · have : ("" : Str).length = 0 := by decide +kernel
      omega
    · rw [show ("" : Str).cps.toList = [] from by decide +kernel]
      show 0 + _ = _
      omega
    · obtain ⟨ls, f, θ3, rfl, rfl, g3, hm, hl, hc2, rfl⟩ := hI
      have low : ∀ c ∈ ls, 97 ≤ c ∧ c < 97 + m := fun c hc => (hm c).mp (.inr hc)
      have pk3 : p ∉ θ3.map (·.1) := by rw [g3.keys]; exact hp
      walk_at "rd"
      simp only [lookup_top]
      refine ⟨by decide, eqOk_sgs (sgs_low low (by omega)), eqOk_nil, ?_⟩
      rw [list_nil_eqv]
      refine ite_b _ (fun q => ?_) (fun q => ?_)
      · have hpos : 0 < ls.length := by
          cases ls with
          | nil => cases q
          | cons _ _ => simp
        simp only [sp__law_take, List.length_map]
        refine ⟨⟨by omega, by omega⟩, (g3.boxed hb).under pa, fun i θq i0 i1 gq => ?_⟩
        obtain ⟨θ4, rfl, g4⟩ := gq.under pa
        have g5 := g3.trans g4
        have pk4 : p ∉ θ4.map (·.1) := by rw [g5.keys]; exact hp
        obtain ⟨c, c1, c2⟩ := sg_at (ls := ls) (d := i.toNat) (by omega)
        simp only [lookup_top, List.length_map]
        refine ⟨⟨i0, i1, ?_⟩, ?_⟩
        · show ls.length ≤ 1000000
          omega
        · rw [c2]
          simp only []
          rw [thSet_top pk4, erase_sgs]
          obtain ⟨q1, q2, q3⟩ := draw_one (f := f) c1
          refine ⟨?_, (ls.eraseIdx i.toNat).length, by omega, ls.eraseIdx i.toNat, f ++ (⟨#[c]⟩ : Str), θ4, rfl, rfl, g5, fun z => by rw [q1 z]; exact hm z, by omega, fun z => by rw [cnt_draw c1 z]; exact hc2 z, rfl⟩
          have : (⟨#[c]⟩ : Str).length = 1 := rfl
          show f.length + (⟨#[c]⟩ : Str).length ≤ 1000000
          omega
      · have hz : ls = [] := by
          cases ls with
          | nil => rfl
          | cons _ _ => cases q
        subst hz
        refine ⟨_, _, .del p .refl, ?_⟩
        rw [thDel_top pk3]
        refine h f θ3 (made_iff.mpr fun c => ?_) (by simp at hl; omega) (fun i hi => ?_) g3
        · rw [← hm c]
          exact ⟨.inl, fun z => z.resolve_right (by simp)⟩
        · have := hc2 (97 + i)
          rw [cnt_rep hi] at this
          simpa [cnt] using this
  · exact h.elim

end TlD
set_option Elab.async false
set_option linter.all false
set_option maxRecDepth 100000
set_option maxHeartbeats 4000000
namespace TlD
open PySem PySem.Spec PyProof.Rows L2 GxR TlG
local macro_rules | `(tactic| walk_at "rd") => `(tactic| simp only [dSeq, dSet, dAsg, dSetIx, dDrop, dIfS, dFor, dRet, dRetN, dRetF, dNext, dRaise, dVar, dC, dOp, dUn, dCall, dTest, dAnd, dOr, dNot, dAndV, dOrV, dNotV, dIf, dChain, dNil, dCons, dTup, dTup.allD, dLst, dLstO, dNewP, dNewO, dListC, dIsi, dFn0, dFn, dAll, dItT, dItL, dItS, dItR1, dItR2, dItZ, dSl, oNone, oSome, gN, gT, gsNil, gsCons, dSortSet, dRevS, nth, put, startR, fAdd, fSub, fMul, fDiv, fMod, fLt, fLe, fGt, fGe, fLtT, fEq, fNe, fIn, fIsN, fIsB, fLen, fIx, fSl, fTuple, fAbs, fMax, fMin, fDivmod, fStrI, dAppend, dPopAt, on2I, is1I, is2I, is2Z, on1, dat, asD, asB, asI, asS, onOwn, lenD, listD, ixD, List.length_cons, List.length_nil])


def sp__law_chord : DSp := fun rs θ Φ _ => match rs with
  | [.own a, .d (.int m)] => (1 ≤ m ∧ m ≤ 6) ∧ Boxed θ a ∧ ∀ (w : Str) (θ' : Th), made w m.toNat = true → w.length ≤ 12 → (∀ i < m.toNat, cnt w.cps.toList (97 + i) = 2) → Chg a θ θ' → Φ (.d (.str w)) θ'
  | _ => False

def T__law_chord : DTS := (dSeq (dSet 2 (dNewO (dListC (dCons (dOp fMul (dSl (dC (.str "abcdef")) oNone (oSome (dVar 1)) fSl) (dC (.int 2))) dNil)))) (dSeq (dSet 3 (dC (.str ""))) (dSeq (dWhile (dTest (dOp fNe (dVar 2) (dLst dNil))) (dSet 3 (dOp fAdd (dVar 3) (dPopAt (dVar 2) (dFn0 sp__law_take (dCons (dVar 0) (dCons (dCall fLen (dCons (dVar 2) dNil)) dNil))))))) (dRetF (dVar 3)))))

theorem ln__law_chord : ∀ rs θ Φ Ex, sp__law_chord rs θ Φ Ex → rs.length = 2 := fun rs θ Φ Ex h => by
  unfold sp__law_chord at h
  split at h
  all_goals first
    | rfl
    | exact h.elim

theorem rd__law_chord : ∀ rs θ Φ Ex, sp__law_chord rs θ Φ Ex → T__law_chord { nx := fun _ θ' => Φ (.d .none) θ', rt := Φ, ex := fun xd _ θ' => Ex xd θ' } (startR 4 rs) θ := by
  intro rs θ Φ Ex h
  unfold sp__law_chord at h
  split at h
  · rename_i a m
    obtain ⟨⟨m1, m6⟩, hb, h⟩ := h
    obtain ⟨m, rfl⟩ := Int.eq_ofNat_of_zero_le (show 0 ≤ m by omega)
    simp only [Int.toNat_natCast] at h
    have ll : (letters m).length = m := by
      unfold letters
      simp
    unfold T__law_chord
    walk_at "rd"
    have sl : (cutS ("abcdef" : Str) none (some (m : Int))).length ≤ 6 := by
      have := cutS_length ("abcdef" : Str) none (some (m : Int))
      rw [abc_len] at this
      exact this
    have rl : ((List.replicate 2 (letters m)).flatten).length = 2 * m := by
      simp [ll]
      omega
    have km : 2 * m ≤ 12 := by
      have : 2 * m ≤ 2 * 6 := Nat.mul_le_mul (by omega) (by omega)
      omega
    refine ⟨abc_small, ⟨by omega, by omega, by omega⟩, ?_, fun p hp => ?_⟩
    · show (repS ((2 : Nat) : Int) _).cps.size ≤ 1000000
      rw [← Array.length_toList, rep_letters (by omega), rl]
      omega
    have pa : p ≠ a := fun e => hp (e ▸ hb.key)
    have e1 : signsD (repS 2 (cutS ("abcdef" : Str) none (some (m : Int)))) = ((List.replicate 2 (letters m)).flatten).map sg := by
      show signsD (repS ((2 : Nat) : Int) _) = _
      rw [signsD_eq, rep_letters (by omega)]
    rw [e1]
    unfold dWhile
    refine ⟨fun n ρ θ2 => ∃ (ls : List Nat) (f : Str) (θ3 : Th), n = ls.length ∧ θ2 = (p, ls.map sg) :: θ3 ∧ Chg a θ θ3 ∧ (∀ c, (c ∈ f.cps.toList ∨ c ∈ ls) ↔ 97 ≤ c ∧ c < 97 + m) ∧ f.length + ls.length ≤ 12 ∧ (∀ c, cnt f.cps.toList c + cnt ls c = cnt (List.replicate 2 (letters m)).flatten c) ∧ ρ = [some (.own a), some (.d (.int (m : Int))), some (.own p), some (.d (.str f))],
      ⟨_, (List.replicate 2 (letters m)).flatten, ("" : Str), θ, rfl, rfl, .refl, fun c => ?_, ?_, fun c => ?_, rfl⟩, fun n ρ θ2 hI => ?_⟩
    · have : ¬ c ∈ ("" : Str).cps.toList := by
        rw [show ("" : Str).cps.toList = [] from by decide +kernel]
        exact fun z => by cases z
      rw [← mem_letters]
      constructor
      · intro z
        obtain ⟨l, hl, hc⟩ := List.mem_flatten.mp (z.resolve_left this)
        rw [(List.mem_replicate.mp hl).2] at hc
        exact hc
      · intro z
        exact .inr (List.mem_flatten.mpr ⟨letters m, List.mem_replicate.mpr ⟨by omega, rfl⟩, z⟩)
    · have : ("" : Str).length = 0 := by decide +kernel
      omega
    · rw [show ("" : Str).cps.toList = [] from by decide +kernel]
      show 0 + _ = _
      omega
    · obtain ⟨ls, f, θ3, rfl, rfl, g3, hm, hl, hc2, rfl⟩ := hI
      have low : ∀ c ∈ ls, 97 ≤ c ∧ c < 97 + m := fun c hc => (hm c).mp (.inr hc)
      have pk3 : p ∉ θ3.map (·.1) := by rw [g3.keys]; exact hp
      walk_at "rd"
      simp only [lookup_top]
      refine ⟨by decide, eqOk_sgs (sgs_low low (by omega)), eqOk_nil, ?_⟩
      rw [list_nil_eqv]
      refine ite_b _ (fun q => ?_) (fun q => ?_)
      · have hpos : 0 < ls.length := by
          cases ls with
          | nil => cases q
          | cons _ _ => simp
        simp only [sp__law_take, List.length_map]
        refine ⟨⟨by omega, by omega⟩, (g3.boxed hb).under pa, fun i θq i0 i1 gq => ?_⟩
        obtain ⟨θ4, rfl, g4⟩ := gq.under pa
        have g5 := g3.trans g4
        have pk4 : p ∉ θ4.map (·.1) := by rw [g5.keys]; exact hp
        obtain ⟨c, c1, c2⟩ := sg_at (ls := ls) (d := i.toNat) (by omega)
        simp only [lookup_top, List.length_map]
        refine ⟨⟨i0, i1, ?_⟩, ?_⟩
        · show ls.length ≤ 1000000
          omega
        · rw [c2]
          simp only []
          rw [thSet_top pk4, erase_sgs]
          obtain ⟨q1, q2, q3⟩ := draw_one (f := f) c1
          refine ⟨?_, (ls.eraseIdx i.toNat).length, by omega, ls.eraseIdx i.toNat, f ++ (⟨#[c]⟩ : Str), θ4, rfl, rfl, g5, fun z => by rw [q1 z]; exact hm z, by omega, fun z => by rw [cnt_draw c1 z]; exact hc2 z, rfl⟩
          have : (⟨#[c]⟩ : Str).length = 1 := rfl
          show f.length + (⟨#[c]⟩ : Str).length ≤ 1000000
          omega
      · have hz : ls = [] := by
          cases ls with
          | nil => rfl
          | cons _ _ => cases q
        subst hz
        refine ⟨_, _, .del p .refl, ?_⟩
        rw [thDel_top pk3]
        refine h f θ3 (made_iff.mpr fun c => ?_) (by simp at hl; omega) (fun i hi => ?_) g3
        · rw [← hm c]
          exact ⟨.inl, fun z => z.resolve_right (by simp)⟩
        · have := hc2 (97 + i)
          rw [cnt_rep hi] at this
          simpa [cnt] using this
  · exact h.elim


theorem cutsF {x : Str} {n : Nat} (h : n ≤ x.length) : cutS x (some (n : Int)) none = txt (x.cps.toList.drop n) := by
  have q1 : HT.sIx x.length 0 (some (n : Int)) = n := by
    rw [HT.sIx_nat]
    omega
  have q2 : HT.sIx x.length x.length none = x.length := HT.sIx_none _ _
  unfold cutS txt
  rw [q1, q2, List.take_of_length_le]
  rw [List.length_drop, Array.length_toList]
  exact Nat.le_refl _
theorem cutsT {x : Str} {n : Nat} (h : n ≤ x.length) : cutS x none (some (n : Int)) = txt (x.cps.toList.take n) := by
  have q1 : HT.sIx x.length x.length (some (n : Int)) = n := by
    rw [HT.sIx_nat]
    omega
  have q2 : HT.sIx x.length 0 none = 0 := HT.sIx_none _ _
  unfold cutS txt
  rw [q1, q2]
  simp
theorem put_mem {x : Str} {n c : Nat} (h : n ≤ x.length) (z : Nat) : z ∈ (cutS x none (some (n : Int)) ++ (⟨#[c]⟩ : Str) ++ cutS x (some (n : Int)) none).cps.toList ↔ z ∈ x.cps.toList ∨ z = c := by
  rw [cutsT h, cutsF h]
  have e : (txt (x.cps.toList.take n) ++ (⟨#[c]⟩ : Str) ++ txt (x.cps.toList.drop n)).cps.toList = x.cps.toList.take n ++ [c] ++ x.cps.toList.drop n := by
    show ((x.cps.toList.take n).toArray ++ #[c] ++ (x.cps.toList.drop n).toArray).toList = _
    simp
  have d : z ∈ x.cps.toList ↔ z ∈ x.cps.toList.take n ∨ z ∈ x.cps.toList.drop n := by
    conv => lhs; rw [← List.take_append_drop n x.cps.toList]
    exact List.mem_append
  rw [e, d, List.mem_append, List.mem_append, List.mem_singleton]
  constructor
  · rintro ((q | q) | q)
    · exact .inl (.inl q)
    · exact .inr q
    · exact .inl (.inr q)
  · rintro ((q | q) | q)
    · exact .inl (.inl q)
    · exact .inr q
    · exact .inl (.inr q)
theorem put_len {x : Str} {n c : Nat} (h : n ≤ x.length) : (cutS x none (some (n : Int)) ++ (⟨#[c]⟩ : Str) ++ cutS x (some (n : Int)) none).length = x.length + 1 := by
  rw [cutsT h, cutsF h]
  show (txt (x.cps.toList.take n) ++ (⟨#[c]⟩ : Str) ++ txt (x.cps.toList.drop n)).cps.size = x.cps.size + 1
  rw [← Array.length_toList, ← Array.length_toList]
  have e : (txt (x.cps.toList.take n) ++ (⟨#[c]⟩ : Str) ++ txt (x.cps.toList.drop n)).cps.toList = x.cps.toList.take n ++ [c] ++ x.cps.toList.drop n := by
    show ((x.cps.toList.take n).toArray ++ #[c] ++ (x.cps.toList.drop n).toArray).toList = _
    simp
  rw [e, List.length_append, List.length_append, List.length_take, List.length_drop, List.length_singleton]
  have : n ≤ x.cps.toList.length := by rw [Array.length_toList]; exact h
  omega

def sp__law_word : DSp := fun rs θ Φ _ => match rs with
  | [.own a, .d (.int m), .d (.int k)] => (1 ≤ m ∧ m ≤ 6) ∧ (0 ≤ k ∧ k ≤ 40) ∧ Boxed θ a ∧ ∀ (w : Str) (θ' : Th), made w m.toNat = true → w.length ≤ m.toNat + k.toNat → Chg a θ θ' → Φ (.d (.str w)) θ'
  | _ => False

def C__law_word_2_1 : DTS := (dSet 4 (dOp fAdd (dOp fAdd (dSl (dVar 4) oNone (oSome (dVar 6)) fSl) (dOp fIx (dC (.str "abcdef")) (dFn0 sp__law_take (dCons (dVar 0) (dCons (dVar 1) dNil))))) (dSl (dVar 4) (oSome (dVar 6)) oNone fSl)))

def B__law_word_1 : DTS := (dSeq (dSet 6 (dFn0 sp__law_take (dCons (dVar 0) (dCons (dOp fAdd (dCall fLen (dCons (dVar 4) dNil)) (dC (.int 1))) dNil)))) C__law_word_2_1)

def C__law_word_1_1 : DTS := (dRetF (dVar 4))

def C__law_word_1_2 : DTS := (dSeq (dFor (dItR1 (dCons (dFn0 sp__law_take (dCons (dVar 0) (dCons (dOp fAdd (dVar 2) (dC (.int 1))) dNil))) dNil)) (gN 5) B__law_word_1) C__law_word_1_1)

def C__law_word_1_3 : DTS := (dSeq (dWhile (dTest (dOp fNe (dVar 3) (dLst dNil))) (dSet 4 (dOp fAdd (dVar 4) (dPopAt (dVar 3) (dFn0 sp__law_take (dCons (dVar 0) (dCons (dCall fLen (dCons (dVar 3) dNil)) dNil))))))) C__law_word_1_2)

def C__law_word_1_4 : DTS := (dSeq (dSet 4 (dC (.str ""))) C__law_word_1_3)

def T__law_word : DTS := (dSeq (dSet 3 (dNewO (dListC (dCons (dSl (dC (.str "abcdef")) oNone (oSome (dVar 1)) fSl) dNil)))) C__law_word_1_4)

theorem ln__law_word : ∀ rs θ Φ Ex, sp__law_word rs θ Φ Ex → rs.length = 3 := fun rs θ Φ Ex h => by
  unfold sp__law_word at h
  split at h
  all_goals first
    | rfl
    | exact h.elim

theorem rd__law_word : ∀ rs θ Φ Ex, sp__law_word rs θ Φ Ex → T__law_word { nx := fun _ θ' => Φ (.d .none) θ', rt := Φ, ex := fun xd _ θ' => Ex xd θ' } (startR 7 rs) θ := by
  intro rs θ Φ Ex h
  unfold sp__law_word at h
  split at h
  · rename_i a m k
    obtain ⟨⟨m1, m6⟩, ⟨k0, k40⟩, hb, h⟩ := h
    obtain ⟨m, rfl⟩ := Int.eq_ofNat_of_zero_le (show 0 ≤ m by omega)
    obtain ⟨k, rfl⟩ := Int.eq_ofNat_of_zero_le k0
    simp only [Int.toNat_natCast] at h
    have ll : (letters m).length = m := by
      unfold letters
      simp
    unfold T__law_word
    walk_at "rd"
    refine ⟨abc_small, ?_, fun p hp => ?_⟩
    · exact Nat.le_trans (cutS_length _ _ _) abc_small
    have pa : p ≠ a := fun e => hp (e ▸ hb.key)
    have e1 : signsD (cutS ("abcdef" : Str) none (some (m : Int))) = (letters m).map sg := by rw [signsD_eq, abc_take (by omega)]
    rw [e1]
    unfold C__law_word_1_4
    simp only [dSeq, dSet, dC, put]
    unfold C__law_word_1_3
    simp only [dSeq]
    unfold dWhile
    refine ⟨fun n ρ θ2 => ∃ (ls : List Nat) (f : Str) (θ3 : Th), n = ls.length ∧ θ2 = (p, ls.map sg) :: θ3 ∧ Chg a θ θ3 ∧ (∀ c, (c ∈ f.cps.toList ∨ c ∈ ls) ↔ 97 ≤ c ∧ c < 97 + m) ∧ f.length + ls.length ≤ m ∧ ρ = [some (.own a), some (.d (.int (m : Int))), some (.d (.int (k : Int))), some (.own p), some (.d (.str f)), none, none],
      ⟨_, letters m, ("" : Str), θ, rfl, rfl, .refl, fun c => ?_, ?_, rfl⟩, fun n ρ θ2 hI => ?_⟩
    · have : ¬ c ∈ ("" : Str).cps.toList := by
        rw [show ("" : Str).cps.toList = [] from by decide +kernel]
        exact fun z => by cases z
      rw [← mem_letters]
      exact ⟨fun z => z.resolve_left this, .inr⟩
    · have : ("" : Str).length = 0 := by decide +kernel
      omega
    · obtain ⟨ls, f, θ3, rfl, rfl, g3, hm, hl, rfl⟩ := hI
      have low : ∀ c ∈ ls, 97 ≤ c ∧ c < 97 + m := fun c hc => (hm c).mp (.inr hc)
      have pk3 : p ∉ θ3.map (·.1) := by rw [g3.keys]; exact hp
      walk_at "rd"
      simp only [lookup_top]
      refine ⟨by decide, eqOk_sgs (sgs_low low (by omega)), eqOk_nil, ?_⟩
      rw [list_nil_eqv]
      refine ite_b _ (fun q => ?_) (fun q => ?_)
      · have hpos : 0 < ls.length := by
          cases ls with
          | nil => cases q
          | cons _ _ => simp
        simp only [sp__law_take, List.length_map]
        refine ⟨⟨by omega, by omega⟩, (g3.boxed hb).under pa, fun i θq i0 i1 gq => ?_⟩
        obtain ⟨θ4, rfl, g4⟩ := gq.under pa
        have g5 := g3.trans g4
        have pk4 : p ∉ θ4.map (·.1) := by rw [g5.keys]; exact hp
        obtain ⟨c, c1, c2⟩ := sg_at (ls := ls) (d := i.toNat) (by omega)
        simp only [lookup_top, List.length_map]
        refine ⟨⟨i0, i1, ?_⟩, ?_⟩
        · show ls.length ≤ 1000000
          omega
        · rw [c2]
          simp only []
          rw [thSet_top pk4, erase_sgs]
          obtain ⟨q1, q2, q3⟩ := draw_one (f := f) c1
          refine ⟨?_, (ls.eraseIdx i.toNat).length, by omega, ls.eraseIdx i.toNat, f ++ (⟨#[c]⟩ : Str), θ4, rfl, rfl, g5, fun z => by rw [q1 z]; exact hm z, by omega, rfl⟩
          have : (⟨#[c]⟩ : Str).length = 1 := rfl
          show f.length + (⟨#[c]⟩ : Str).length ≤ 1000000
          omega
      · have hz : ls = [] := by
          cases ls with
          | nil => rfl
          | cons _ _ => cases q
        subst hz
        unfold C__law_word_1_2
        simp only [dSeq, dFor, dItR1, dFn0, dCons, dNil, dVar, dOp, dC, nth, fAdd, on2I]
        have hm' : ∀ c, c ∈ f.cps.toList ↔ 97 ≤ c ∧ c < 97 + m := fun c => by
          rw [← hm c]
          exact ⟨.inl, fun z => z.resolve_right (by simp)⟩
        have hl' : f.length ≤ m := by simpa using hl
        refine take_step (a := a) (by omega) (by omega) ((g3.boxed hb).under pa) fun d θq d0 d1 gq => ?_
        obtain ⟨θ4, rfl, g4⟩ := gq.under pa
        simp only [is1I]
        refine ⟨rOk_of d0 (by omega), ?_⟩
        refine forD_inv (fun i ρ θ2 => ∃ (f : Str) (θ3 : Th) (x y : Option RV), θ2 = (p, []) :: θ3 ∧ Chg a θ θ3 ∧ (∀ c, c ∈ f.cps.toList ↔ 97 ≤ c ∧ c < 97 + m) ∧ f.length ≤ m + i ∧ ρ = [some (.own a), some (.d (.int (m : Int))), some (.d (.int (k : Int))), some (.own p), some (.d (.str f)), x, y]) _ 0 _ _ (fun j e ed ρ θ2 K hI hK => ?_) (fun ρ θ2 hI => ?_)
          ⟨f, θ4, none, none, rfl, g3.trans g4, hm', by omega, rfl⟩
        · obtain ⟨f, θ5, x, y, rfl, g5, hf, hfl, rfl⟩ := hI
          have jl : j < d.toNat := by
            have := (List.getElem?_eq_some_iff.mp ed).1
            rw [rangeD_length] at this
            simpa using this
          unfold B__law_word_1
          simp only [gN, put, dSeq, dSet, dFn0, dCons, dNil, dVar, dC, dOp, dCall, nth, fLen, on1, lenD, dat, fAdd, on2I]
          refine ⟨by show _ ≤ 1000000; omega, take_step (a := a) (m := (f.length : Int) + 1) (by omega) (by omega) ((g5.boxed hb).under pa) fun at' θq a0 a1 gq => ?_⟩
          obtain ⟨θ6, rfl, g6⟩ := gq.under pa
          obtain ⟨n, rfl⟩ := Int.eq_ofNat_of_zero_le a0
          unfold C__law_word_2_1
          walk_at "rd"
          simp only [sp__law_take]
          have hn : n ≤ f.length := by omega
          have sm : ∀ i : Nat, i ≤ 100 → small i := fun i hi => by show i ≤ 1000000; omega
          refine ⟨sm _ (by omega), ⟨by omega, by omega⟩, ((g5.trans g6).boxed hb).under pa, fun i θq i0 i1 gq => ?_⟩
          obtain ⟨θ7, rfl, g7⟩ := gq.under pa
          rw [abc_item ⟨i0, by omega⟩]
          have c1 := cutS_length f none (some (n : Int))
          have c2 : (cutS f none (some (n : Int)) ++ (⟨#[97 + i.toNat]⟩ : Str) ++ cutS f (some (n : Int)) none).length = f.length + 1 := put_len hn
          have c3 : (cutS f none (some (n : Int)) ++ (⟨#[97 + i.toNat]⟩ : Str)).length + (cutS f (some (n : Int)) none).length = (cutS f none (some (n : Int)) ++ (⟨#[97 + i.toNat]⟩ : Str) ++ cutS f (some (n : Int)) none).length := by
            show _ = ((cutS f none (some (n : Int)) ++ (⟨#[97 + i.toNat]⟩ : Str)).cps ++ (cutS f (some (n : Int)) none).cps).size
            rw [Array.size_append]
            rfl
          refine ⟨abc_small, ?_⟩
          simp only []
          refine ⟨sm _ ?_, sm _ (by omega), sm _ (by omega), ?_⟩
          · show _ + 1 ≤ 100
            omega
          refine hK _ _ ⟨_, θ7, _, _, rfl, (g5.trans g6).trans g7, fun z => ?_, by omega, rfl⟩
          rw [put_mem hn z, hf z]
          constructor
          · rintro (q | q)
            · exact q
            · omega
          · exact .inl
        · obtain ⟨f, θ5, x, y, rfl, g5, hf, hfl, rfl⟩ := hI
          rw [rangeD_length] at hfl
          unfold C__law_word_1_1
          walk_at "rd"
          refine ⟨_, _, .del p .refl, ?_⟩
          have pk5 : p ∉ θ5.map (·.1) := by rw [g5.keys]; exact hp
          rw [thDel_top pk5]
          exact h f θ5 (made_iff.mpr hf) (by omega) g5
  · exact h.elim

end TlD
set_option Elab.async false
set_option linter.all false
set_option maxRecDepth 100000
set_option maxHeartbeats 4000000
namespace TlD
open PySem PySem.Spec PyProof.Rows L2 GxR TlG
section
variable {c : Cn} {X : Cx}
/-! ### a list of lists of one's own -/
def asO (r : RV) (k : Addr → Prop) : Prop := match r with
  | .own q => k q
  | _ => False
theorem asO_of {K : PySem.W.Frag} {F : Hp} {v : V} {r : RV} {k : Addr → Prop} (d : DV K F v r) (h : asO r k) : ∃ q, v = .ref q ∧ k q := by
  unfold asO at h
  split at h
  · exact ⟨_, d, h⟩
  · exact h.elim
def lcR (G : DGt) (TT : DTT) (TE : DTE) (ρw : Rho) (Φ : List Addr → Th → Prop) : List D → List Addr → Th → Prop
  | [], acc, θ => Φ acc θ
  | d :: ds, acc, θ => G (.d d) ρw fun ρ1 => TT noEx ρ1 θ fun b θ1 => if b = true then TE noEx ρ1 θ1 fun r θ2 => asO r fun q => acc.length < 100000 ∧ lcR G TT TE ρw Φ ds (acc ++ [q]) θ2 else lcR G TT TE ρw Φ ds acc θ1
def dRows (T : DTI) (G : DGt) (TT : DTT) (TE : DTE) (vs : List Nat) : DTE := fun Ex ρ θ Φ => T Ex ρ θ fun items θ1 => lcR G TT TE (wipeR ρ vs) (fun qs θ2 => Φ (.rows qs) θ2) items [] θ1
theorem sim_rows {wi : TI} {T : DTI} {g : TG} {G : DGt} {tt : TT} {TT : DTT} {te : TE} {TE : DTE} {vs us : List Nat} (si : SimI c wi T) (sg : SimG c g G) (kw : KeepW vs g) (mo : MonG g) (st : SimT c tt TT) (se : SimE c te TE) (hv : ∀ v ∈ vs, v ∈ us) :
    SimE c (tLc wi g tt te us) (dRows T G TT TE us) := by
  intro Zh F0 Ex L σ H ρ θ Φ Q S h k
  refine si Zh F0 Ex L σ H ρ θ _ _ S h fun J items H1 θ1 S1 m1 F h1 => ?_
  have m0 := S1.hs.old
  generalize hF1 : vis Zh θ1 H1 = F1 at F m0 m1
  intro D hD
  obtain ⟨nD, _, _⟩ := S1.hs.noP hD
  refine ⟨fun i m H => ∃ θ acc, H D = some (.lst (acc.map V.ref)) ∧ SD c.K c.Ps Zh F1 σ (cutA H D) ρ θ ∧ m + i = items.length + (i - items.length) ∧ lcR G TT TE (wipeR ρ us) (fun qs θ2 => Φ (.rows qs) θ2) (items.drop i) acc θ,
    ⟨items.length, θ1, [], upd_same, by rw [cutA_upd hD, ← hF1]; exact S1.here, by omega, h1⟩, fun i m H hW => ?_⟩
  obtain ⟨θ, acc, eD, S, em, hf⟩ := hW
  have eH := upd_cutA eD
  have SH : SD c.K c.Ps (upd Zh D (.lst (acc.map V.ref))) F1 σ H ρ θ := by
    have z := S.hide (o := .lst (acc.map V.ref)) cutA_same
    rw [eH] at z
    exact z
  cases e : items[i]? with
  | none =>
    have hl : items.length ≤ i := List.getElem?_eq_none_iff.mp e
    rw [List.drop_eq_nil_of_le hl] at hf
    refine .inl ⟨F.stop _ i H θ hl SH.hs, ?_⟩
    have np : cutA H D D = none := cutA_same
    have m := (vis_upd_sub (Zh := Zh) (θ := θ) (o := .lst (acc.map V.ref)) np).mono
    have S2 := (S.base m0).to ((S.base m0).hs.new (o := .lst (acc.map V.ref)) np) m
    have z := k (.ref D) (.rows acc) _ θ S2 ((m1.trans S.hs.old).trans m) ⟨D, rfl, (S.base m0).hs.at np⟩ hf
    rw [eH] at z
    exact z
  | some d =>
    have hl : i < items.length := (List.getElem?_eq_some_iff.mp e).1
    have ed : items[i] = d := (List.getElem?_eq_some_iff.mp e).2
    rw [List.drop_eq_getElem_cons hl, ed] at hf
    refine .inr ⟨F.go _ i H θ hl SH.hs, fun H' => ∃ θ acc, H' D = some (.lst (acc.map V.ref)) ∧ SD c.K c.Ps Zh F1 σ (cutA H' D) ρ θ ∧ lcR G TT TE (wipeR ρ us) (fun qs θ2 => Φ (.rows qs) θ2) (items.drop (i + 1)) acc θ, fun H' z => ?_, fun x H2 hy => ?_⟩
    · obtain ⟨θ', acc', e', S', h'⟩ := z
      exact ⟨m - 1, by omega, θ', acc', e', S', by omega, h'⟩
    · obtain ⟨hs2, m2, dx⟩ := F.yld _ i x H H2 θ d e SH.hs hy
      have S2 := SH.to hs2 m2
      have S2w := S2.wipe us
      refine mo _ _ _ _ _ (fun σ3 H3 q => ⟨(wipe_of q.1), q.2⟩) (kw x (wipe σ us) H2 _ us hv (sg _ F1 x (.d d) _ H2 _ θ _ _ S2w dx hf fun σ3 ρ3 S3 h3 => st _ F1 noEx xl_no σ3 H2 ρ3 θ _ _ S3 h3 fun b H4 θ4 S4 m4 h4 => ?_))
      have back : ∀ {H' : Hp} {θ' : Th}, HS c.K c.Ps (upd Zh D (.lst (acc.map V.ref))) F1 H' θ' → Mono (vis (upd Zh D (.lst (acc.map V.ref))) θ H2) (vis (upd Zh D (.lst (acc.map V.ref))) θ' H') → SD c.K c.Ps Zh F1 σ (cutA H' D) ρ θ' := fun {H' θ'} hs' m' => (S2.to hs' m').unhide nD
      cases b with
      | false =>
        simp only [Bool.false_eq_true, if_false] at h4 ⊢
        exact ⟨θ4, acc, (S4.hs.unhide nD).2, back S4.hs m4, h4⟩
      | true =>
        simp only [if_true] at h4 ⊢
        refine se _ F1 noEx xl_no σ3 H4 ρ3 θ4 _ _ S4 h4 fun v r H5 θ5 S5 m5 d5 h5 => ?_
        obtain ⟨q, rfl, hz, h5⟩ := asO_of d5 h5
        have S6 := back S5.hs (m4.trans m5)
        have eD5 := (S5.hs.unhide nD).2
        have ly : (acc.map V.ref).length < sizeLine := by
          rw [List.length_map]
          exact Nat.lt_of_lt_of_le hz (by decide)
        refine ⟨_, eD5, ly, θ5, acc ++ [q], by rw [List.map_append]; exact upd_same, ?_, h5⟩
        have e7 : cutA (upd H5 D (.lst (acc.map V.ref ++ [V.ref q]))) D = cutA H5 D := by
          funext b
          by_cases cc : b = D
          · rw [cc, cutA_same, cutA_same]
          · rw [cutA_ne cc, upd_ne cc, cutA_ne cc]
        rw [e7]
        exact S6
where
  wipe_of {σ : L2.St} {us : List Nat} {σ3 : L2.St} (h : wipe σ3 us = wipe (wipe σ us) us) : wipe σ3 us = wipe σ us := h.trans (TlG.wipe_wipe σ us)
theorem de_rowsN {elt tg iter : Expr} {ifs : List Expr} {scope : Scope} {own : List (Str × Nat)} {pos : Pos} {wi : TI} {T : DTI} {g : TG} {G : DGt} {tt : TT} {TT : DTT} {te : TE} {TE : DTE} {vs : List Nat} (hc : X.calm = true) (hN : X.N.Nodup) (hi : DI c X tg iter wi T) (ok : BlkOk X.N X.env.scope scope own)
    (hg : ∀ (s : Shared) (H : Hp) (C : Addr) (cl : List (Str × Addr)) (fp : List Addr), DG c (X.blk s H scope (compEnvC scope cl C X.env) fp) tg g G vs) (ht : ∀ (s : Shared) (H : Hp) (C : Addr) (cl : List (Str × Addr)) (fp : List Addr), DTs c (X.blk s H scope (compEnvC scope cl C X.env) fp) ifs tt TT)
    (he : ∀ (s : Shared) (H : Hp) (C : Addr) (cl : List (Str × Addr)) (fp : List Addr), DE c (X.blk s H scope (compEnvC scope cl C X.env) fp) elt te TE) (hv : ∀ v ∈ vs, v ∈ own.map (·.2)) (hs : ∀ x, foldedSetIterable iter X.env x = pure x := by intro _; rfl) :
    DE c X (.ListComp elt [⟨tg, iter, ifs, 0⟩] scope pos) (tLc wi g tt te (own.map (·.2))) (dRows T G TT TE (own.map (·.2))) :=
  ⟨pe_lc hc hN hi.pi ok (fun s H C cl fp => (hg s H C cl fp).pg) (fun s H C cl fp => (ht s H C cl fp).pts) (fun s H C cl fp => (he s H C cl fp).pe) hs,
    sim_rows hi.sim (hg X.s_0 (fun _ => none) 0 [] []).sim (hg X.s_0 (fun _ => none) 0 [] []).kw (hg X.s_0 (fun _ => none) 0 [] []).mo (ht X.s_0 (fun _ => none) 0 [] []).sim (he X.s_0 (fun _ => none) 0 [] []).sim hv⟩
theorem ds_setRows {i : Nat} {y : Str} {py : Pos} {elt tg iter : Expr} {ifs : List Expr} {scope : Scope} {own : List (Str × Nat)} {pos spos : Pos} {wi : TI} {T : DTI} {g : TG} {G : DGt} {tt : TT} {TT : DTT} {te : TE} {TE : DTE} {vs : List Nat} (hc : X.calm = true) (hN : X.N.Nodup) (hy : X.N[i]? = some y) (hyl : X.env.scope.names.lookup y = some .local)
    (hsw : swapsWith (.ListComp elt [⟨tg, iter, ifs, 0⟩] scope pos) (some (.Name y py)) spos.line X.env = pure true) (hi : DI c X tg iter wi T) (ok : BlkOk X.N X.env.scope scope own)
    (hg : ∀ (s : Shared) (H : Hp) (C : Addr) (cl : List (Str × Addr)) (fp : List Addr), DG c (X.blk s H scope (compEnvC scope cl C X.env) fp) tg g G vs) (ht : ∀ (s : Shared) (H : Hp) (C : Addr) (cl : List (Str × Addr)) (fp : List Addr), DTs c (X.blk s H scope (compEnvC scope cl C X.env) fp) ifs tt TT)
    (he : ∀ (s : Shared) (H : Hp) (C : Addr) (cl : List (Str × Addr)) (fp : List Addr), DE c (X.blk s H scope (compEnvC scope cl C X.env) fp) elt te TE) (hv : ∀ v ∈ vs, v ∈ own.map (·.2)) (hs : ∀ x, foldedSetIterable iter X.env x = pure x := by intro _; rfl) :
    DS c X (.Assign [.Name y py] (.ListComp elt [⟨tg, iter, ifs, 0⟩] scope pos) spos) (tAsg (tLc wi g tt te (own.map (·.2))) (gName i)) (dSet i (dRows T G TT TE (own.map (·.2)))) :=
  ⟨ps_setLc hc hN hy hyl hsw hi.pi ok (fun s H C cl fp => (hg s H C cl fp).pg) (fun s H C cl fp => (ht s H C cl fp).pts) (fun s H C cl fp => (he s H C cl fp).pe) hs,
    fun Zh F0 E D L O σ H ρ θ S h => sim_rows hi.sim (hg X.s_0 (fun _ => none) 0 [] []).sim (hg X.s_0 (fun _ => none) 0 [] []).kw (hg X.s_0 (fun _ => none) 0 [] []).mo (ht X.s_0 (fun _ => none) 0 [] []).sim (he X.s_0 (fun _ => none) 0 [] []).sim hv Zh F0 E.ex L σ H ρ θ _ _ S h fun v r H1 θ1 S1 m1 d1 h1 => O.nx _ H1 _ θ1 (S1.set d1) (by rw [← put_set]; exact h1)⟩
/-! one of them -/
def fRowIx : DOp := fun x y θ Φ => asI y fun i => match x with
  | .rows qs => match atI qs i with
    | some q => Φ (.own q) θ
    | none => False
  | _ => False
theorem atI_map {α β : Type} (f : α → β) (l : List α) (i : Int) : atI (l.map f) i = (atI l i).map f := by
  unfold atI
  rw [List.length_map]
  cases ixN l.length i with
  | none => rfl
  | some j =>
    show (l.map f)[j]? = (l[j]?).map f
    rw [List.getElem?_map]
theorem sim_rowIx : SimR c (rIx c.K) fRowIx := fun Zh F0 σ H ρ θ x y rx ry Φ Q S dx dy h k => by
  obtain ⟨i, rfl, h⟩ := asI_of dy h
  cases rx with
  | own _ => exact h.elim
  | seq _ => exact h.elim
  | d _ => exact h.elim
  | rows qs =>
    obtain ⟨a, rfl, hv⟩ := dx
    cases e : atI qs i with
    | none =>
      simp only [e] at h
    | some q =>
      simp only [e] at h
      exact .inl (⟨a, _, i, .ref q, rfl, rfl, .inl (.inl (vis_some hv).1), by rw [atI_map, e]; rfl, k (.ref q) (.own q) H θ S (Mono.refl _) rfl h⟩)
theorem de_ixR {a b : Expr} {ta tb : TE} {Ta Tb : DTE} {pos : Pos} (hK : X.K = c.K) (ha : DE c X a ta Ta) (hb : DE c X b tb Tb) (hs : PlainIx b) : DE c X (.Subscript a b pos) (tOp (rIx c.K) ta tb) (dOp fRowIx Ta Tb) := by
  have p := pe_ix (pos := pos) ix_seq ha.pe hb.pe hs
  rw [hK] at p
  exact ⟨p, sim_op sim_rowIx ha.sim hb.sim⟩
end
/-! numbers -/
def intsN (l : List Nat) : List D := l.map fun n : Nat => PyData.int (n : Int)
theorem intsN_set {l : List Nat} {i v : Nat} : (intsN l).set i (.int (v : Int)) = intsN (l.set i v) := by
  unfold intsN
  rw [List.map_set]
theorem intsN_range {m : Nat} : rangeD 0 (m : Int) = intsN (List.range m) := by
  unfold rangeD intsN
  have : ((m : Int) - 0).toNat = m := by omega
  rw [this]
  refine List.map_congr_left fun i _ => ?_
  rw [Int.zero_add]
theorem intsN_len {l : List Nat} : (intsN l).length = l.length := List.length_map _
theorem intsN_app {l k : List Nat} : intsN (l ++ k) = intsN l ++ intsN k := List.map_append
theorem intsN_get {l : List Nat} {i : Nat} : (intsN l)[i]? = (l[i]?).map fun n : Nat => PyData.int (n : Int) := List.getElem?_map
theorem intsN_in {l : List Nat} {v : Nat} : inD (.int (v : Int)) (intsN l) = decide (v ∈ l) := by
  unfold intsN inD
  induction l with
  | nil => simp
  | cons a l ih =>
    rw [List.map_cons, List.any_cons, ih]
    by_cases e : v = a
    · subst e
      simp [PyData.eqv]
    · have : ¬ ((v : Int) = (a : Int)) := by omega
      have e' : ¬ (a : Int) = (v : Int) := by omega
      simp [PyData.eqv, e, this, e']
theorem intsN_scal {l : List Nat} : (intsN l).all scalD = true := by
  unfold intsN
  rw [List.all_map, List.all_eq_true]
  exact fun _ _ => rfl
theorem atI_natN {α : Type} (l : List α) (n : Nat) : atI l (n : Int) = l[n]? := by
  unfold atI ixN
  rw [if_pos (by omega)]
  by_cases h : (n : Int) < l.length
  · rw [if_pos h]
    show l[(n : Int).toNat]? = _
    rw [Int.toNat_natCast]
  · rw [if_neg h]
    show none = _
    exact (List.getElem?_eq_none (by omega)).symm
theorem gs_len2T {i j k : Nat} : ∀ (ds : List D) (ρ : Rho) (Ψ : Rho → Prop), gsCons (gT (gsCons (gN i) (gsCons (gN j) gsNil))) (gsCons (gN k) gsNil) ds ρ Ψ → ds.length = 2 := fun ds ρ Ψ h => by
  have key : ∀ (d : D) (P : Prop), (gT (gsCons (gN i) (gsCons (gN j) gsNil))) (.d d) ρ (fun _ => P) → P := fun d P h => by
    unfold gT at h
    split at h
    · rename_i es e
      match es, h with
      | [], h => exact h.elim
      | [_], h => exact h.elim
      | [_, _], h => exact h
      | _ :: _ :: _ :: _, h => exact h.elim
    · exact h.elim
  match ds, h with
  | [], h => exact h.elim
  | [d], h => exact (key d False h).elim
  | [_, _], _ => rfl
  | d :: _ :: _ :: _, h => exact (key d False h).elim
end TlD
set_option Elab.async false
set_option linter.all false
set_option maxRecDepth 100000
set_option maxHeartbeats 4000000
namespace TlD
open PySem PySem.Spec PyProof.Rows L2 GxR TlG
local macro_rules | `(tactic| walk_at "rd") => `(tactic| simp only [dSeq, dSet, dAsg, dSetIx, dDrop, dIfS, dFor, dRet, dRetN, dRetF, dNext, dRaise, dVar, dC, dOp, dUn, dCall, dTest, dAnd, dOr, dNot, dAndV, dOrV, dNotV, dIf, dChain, dNil, dCons, dTup, dTup.allD, dLst, dLstO, dNewP, dNewO, dListC, dIsi, dFn0, dFn, dAll, dItT, dItL, dItS, dItR1, dItR2, dItZ, dSl, oNone, oSome, gN, gT, gsNil, gsCons, dSortSet, dRevS, nth, put, startR, fAdd, fSub, fMul, fDiv, fMod, fLt, fLe, fGt, fGe, fLtT, fEq, fNe, fIn, fIsN, fIsB, fLen, fIx, fSl, fTuple, fAbs, fMax, fMin, fDivmod, fStrI, dAppend, dPopAt, on2I, is1I, is2I, is2Z, on1, dat, asD, asB, asI, asS, onOwn, lenD, listD, ixD, List.length_cons, List.length_nil])


def tieN (q : Nat × Nat) : D := tieD ((q.1 : Int), (q.2 : Int))
def namedN (o : List Nat) (q : Nat × Nat) : Int × Int :=
  (if ((o.getD q.2 0 : Nat) : Int) < ((o.getD q.1 0 : Nat) : Int) then ((o.getD q.2 0 : Nat) : Int) else ((o.getD q.1 0 : Nat) : Int),
   if ((o.getD q.2 0 : Nat) : Int) > ((o.getD q.1 0 : Nat) : Int) then ((o.getD q.2 0 : Nat) : Int) else ((o.getD q.1 0 : Nat) : Int))
theorem getD_ok {o : List Nat} {m i : Nat} (h : o.Perm (List.range m)) (hi : i < m) : o[i]? = some (o.getD i 0) ∧ o.getD i 0 < m := by
  have l : o.length = m := by rw [h.length_eq, List.length_range]
  have e : o[i]? = some (o[i]'(by omega)) := List.getElem?_eq_getElem _
  have e2 : o.getD i 0 = o[i]'(by omega) := by
    rw [List.getD_eq_getElem?_getD, e]
    rfl
  refine ⟨by rw [e, e2], ?_⟩
  rw [e2]
  exact List.mem_range.mp (h.mem_iff.mp (List.getElem_mem _))
theorem getD_inj {o : List Nat} {m i j : Nat} (h : o.Perm (List.range m)) (hi : i < m) (hj : j < m) (e : o.getD i 0 = o.getD j 0) : i = j := by
  have nd : o.Nodup := h.nodup_iff.mpr List.nodup_range
  have a := (getD_ok h hi).1
  have b := (getD_ok h hj).1
  rw [e, ← b] at a
  have l : o.length = m := by rw [h.length_eq, List.length_range]
  exact (List.getElem?_inj (by omega) nd).mp a
theorem named_in {o : List Nat} {m : Nat} {q : Nat × Nat} (h : o.Perm (List.range m)) (h1 : q.1 < q.2) (h2 : q.2 < m) : namedN o q ∈ pairs m := by
  have a := (getD_ok h (show q.1 < m by omega)).2
  have b := (getD_ok h h2).2
  have ne : o.getD q.1 0 ≠ o.getD q.2 0 := fun e => by
    have := getD_inj h (by omega) h2 e
    omega
  unfold namedN
  by_cases c : o.getD q.2 0 < o.getD q.1 0
  · rw [if_pos (by omega), if_neg (by omega)]
    exact in_pairs c a
  · rw [if_neg (by omega), if_pos (by omega)]
    exact in_pairs (by omega) b
theorem named_inj {o : List Nat} {m : Nat} {q r : Nat × Nat} (h : o.Perm (List.range m)) (h1 : q.1 < q.2) (h2 : q.2 < m) (k1 : r.1 < r.2) (k2 : r.2 < m) (e : namedN o q = namedN o r) : q = r := by
  have i1 := getD_inj h (show q.1 < m by omega) (show r.1 < m by omega)
  have i2 := getD_inj h h2 k2
  have i3 := getD_inj h (show q.1 < m by omega) k2
  have i4 := getD_inj h h2 (show r.1 < m by omega)
  unfold namedN at e
  have e1 := congrArg Prod.fst e
  have e2 := congrArg Prod.snd e
  simp only [] at e1 e2
  have : q.1 = r.1 ∧ q.2 = r.2 := by
    split at e1 <;> split at e2 <;> split at e1 <;> split at e2
    all_goals first
      | (exfalso; omega)
      | exact ⟨i1 (by omega), i2 (by omega)⟩
      | (exfalso
         have x := i3 (by omega)
         have y := i4 (by omega)
         omega)
  exact Prod.ext this.1 this.2
theorem named_nodup {o : List Nat} {m : Nat} (h : o.Perm (List.range m)) : ∀ {l : List (Nat × Nat)}, l.Nodup → (∀ q ∈ l, q.1 < q.2 ∧ q.2 < m) → (l.map (namedN o)).Nodup
  | [], _, _ => List.nodup_nil
  | q :: l, nd, hl => by
    obtain ⟨n1, n2⟩ := List.nodup_cons.mp nd
    rw [List.map_cons]
    refine List.nodup_cons.mpr ⟨fun z => ?_, named_nodup h n2 fun r hr => hl r (List.mem_cons_of_mem _ hr)⟩
    obtain ⟨r, hr, e⟩ := List.mem_map.mp z
    obtain ⟨a1, a2⟩ := hl q List.mem_cons_self
    obtain ⟨b1, b2⟩ := hl r (List.mem_cons_of_mem _ hr)
    have := named_inj h b1 b2 a1 a2 e
    exact n1 (this ▸ hr)
theorem named_small {o : List Nat} {m : Nat} {q : Nat × Nat} (hm : m ≤ 6) (h : o.Perm (List.range m)) (h1 : q.1 < q.2) (h2 : q.2 < m) : smallP (namedN o q) := by
  obtain ⟨a, b, e, ab, bm⟩ := pairs_in (named_in h h1 h2)
  rw [e]
  exact ⟨⟨by show (0 : Int) ≤ a; omega, by show (a : Int) < 64; omega⟩, by show (0 : Int) ≤ b; omega, by show (b : Int) < 64; omega⟩
theorem swap_perm {o : List Nat} {m i j : Nat} (h : o.Perm (List.range m)) (hi : i < m) (hj : j < m) : ((o.set i (o.getD j 0)).set j (o.getD i 0)).Perm (List.range m) := by
  have l : o.length = m := by rw [h.length_eq, List.length_range]
  have e1 : o.getD i 0 = o[i]'(by omega) := by
    rw [List.getD_eq_getElem?_getD, List.getElem?_eq_getElem (by omega)]
    rfl
  have e2 : o.getD j 0 = o[j]'(by omega) := by
    rw [List.getD_eq_getElem?_getD, List.getElem?_eq_getElem (by omega)]
    rfl
  rw [e1, e2]
  exact (List.set_set_perm (by omega) (by omega)).trans h
theorem intsN_at {o : List Nat} {m i : Nat} (h : o.Perm (List.range m)) (hi : i < m) : atI (intsN o) (i : Int) = some (.int ((o.getD i 0 : Nat) : Int)) := by
  have l : o.length = m := by rw [h.length_eq, List.length_range]
  obtain ⟨x, e1, e2⟩ := atI_some (l := intsN o) (i := (i : Int)) (by omega) (by unfold intsN; rw [List.length_map]; omega)
  rw [e1]
  unfold intsN at e2
  rw [List.getElem?_map, Int.toNat_natCast, (getD_ok h hi).1] at e2
  exact e2.symm

def sp__law_web : DSp := fun rs θ Φ _ => match rs with
  | [.own a, .d (.int lo), .d (.int hi)] => (1 ≤ lo ∧ lo ≤ hi ∧ hi ≤ 6) ∧ Boxed θ a ∧ ∀ (m : Nat) (l : List (Int × Int)) (θ' : Th), lo ≤ m → m ≤ hi → l.Sublist (pairs m) → Chg a θ θ' → Φ (.d (webD m l)) θ'
  | _ => False

def B__law_web_1 : DTS := (dDrop (dAppend (dVar 10) (dTup (dCons (dCall fMin (dCons (dOp fIx (dVar 8) (dVar 12)) (dCons (dOp fIx (dVar 8) (dVar 7)) dNil))) (dCons (dCall fMax (dCons (dOp fIx (dVar 8) (dVar 12)) (dCons (dOp fIx (dVar 8) (dVar 7)) dNil))) dNil)))))

def C__law_web_1_1 : DTS := (dRetF (dTup (dCons (dVar 3) (dCons (dCall fTuple (dCons (dCall fSortL (dCons (dVar 10) dNil)) dNil)) dNil))))

def C__law_web_1_2 : DTS := (dSeq (dFor (dItFz 6) (gT (gsCons (gN 12) (gsCons (gN 7) gsNil))) B__law_web_1) C__law_web_1_1)

def C__law_web_3_1 : DTS := (dSwapIx 8 9 13 (dTup (dCons (dOp fIx (dVar 8) (dVar 13)) (dCons (dOp fIx (dVar 8) (dVar 9)) dNil))))

def B__law_web_2 : DTS := (dSeq (dSet 13 (dFn0 sp__law_take (dCons (dVar 0) (dCons (dVar 3) dNil)))) C__law_web_3_1)

def C__law_web_1_3 : DTS := (dSeq (dSet 10 (dLstO dNil)) C__law_web_1_2)

def C__law_web_1_4 : DTS := (dSeq (dFor (dItR1 (dCons (dOp fMul (dVar 3) (dCall fIntB (dCons (dOp fGt (dVar 4) (dC (.int 0))) dNil))) dNil)) (gN 9) B__law_web_2) C__law_web_1_3)

def C__law_web_5_1 : DTS := (dIfS (dOr (dAnd (dTest (dOp (fIn false) (dVar 4) (dTup (dCons (dC (.int 1)) (dCons (dC (.int 5)) dNil))))) (dTest (dVar 17))) (dAnd (dTest (dOp (fIn false) (dVar 4) (dTup (dCons (dC (.int 0)) (dCons (dC (.int 6)) dNil))))) (dTest (dVar 14)))) (dDrop (dAppend (dVar 6) (dTup (dCons (dVar 12) (dCons (dVar 7) dNil))))) (dIfS (dOr (dTest (dVar 15)) (dOr (dTest (dOp fEq (dVar 4) (dC (.int 3)))) (dTest (dVar 16)))) (dDrop (dAppend (dVar 6) (dTup (dCons (dVar 12) (dCons (dVar 7) dNil))))) dNext))

def C__law_web_5_2 : DTS := (dSeq (dSet 17 (dOrV (dOp fEq (dVar 12) (dVar 11)) (dAndV (dOp fEq (dVar 4) (dC (.int 5))) (dAndV (dOp fEq (dOp fMod (dVar 7) (dC (.int 2))) (dC (.int 0))) (dOp fEq (dVar 12) (dOp fSub (dVar 7) (dC (.int 1)))))))) C__law_web_5_1)

def C__law_web_5_3 : DTS := (dSeq (dSet 16 (dAndV (dOp fEq (dOp fMod (dOp fAdd (dVar 12) (dVar 7)) (dC (.int 2))) (dC (.int 1))) (dAndV (dOp fEq (dVar 4) (dC (.int 4))) (dVar 14)))) C__law_web_5_2)

def C__law_web_5_4 : DTS := (dSeq (dSet 15 (dAndV (dOp (fIn false) (dOp fSub (dVar 7) (dVar 12)) (dTup (dCons (dC (.int 1)) (dCons (dOp fSub (dVar 3) (dC (.int 1))) dNil)))) (dOp fEq (dVar 4) (dC (.int 2))))) C__law_web_5_3)

def B__law_web_3 : DTS := (dSeq (dSet 14 (dOp fLt (dFn0 sp__law_take (dCons (dVar 0) (dCons (dC (.int 4)) dNil))) (dVar 5))) C__law_web_5_4)

def C__law_web_4_1 : DTS := (dFor (dItR1 (dCons (dVar 7) dNil)) (gN 12) B__law_web_3)

def B__law_web_4 : DTS := (dSeq (dSet 11 (dFn0 sp__law_take (dCons (dVar 0) (dCons (dVar 7) dNil)))) C__law_web_4_1)

def C__law_web_1_5 : DTS := (dSeq (dSet 8 (dNewO (dListR (dVar 3)))) C__law_web_1_4)

def C__law_web_1_6 : DTS := (dSeq (dFor (dItR2 (dCons (dC (.int 1)) (dCons (dVar 3) dNil))) (gN 7) B__law_web_4) C__law_web_1_5)

def C__law_web_1_7 : DTS := (dSeq (dSet 6 (dLstO dNil)) C__law_web_1_6)

def C__law_web_1_8 : DTS := (dSeq (dSet 5 (dOp fIx (dLst (dCons (dC (.int 1)) (dCons (dC (.int 2)) (dCons (dC (.int 3)) dNil)))) (dFn0 sp__law_take (dCons (dVar 0) (dCons (dC (.int 3)) dNil))))) C__law_web_1_7)

def C__law_web_1_9 : DTS := (dSeq (dSet 4 (dFn0 sp__law_take (dCons (dVar 0) (dCons (dC (.int 7)) dNil)))) C__law_web_1_8)

def T__law_web : DTS := (dSeq (dSet 3 (dOp fAdd (dVar 1) (dFn0 sp__law_take (dCons (dVar 0) (dCons (dOp fAdd (dOp fSub (dVar 2) (dVar 1)) (dC (.int 1))) dNil))))) C__law_web_1_9)

theorem ln__law_web : ∀ rs θ Φ Ex, sp__law_web rs θ Φ Ex → rs.length = 3 := fun rs θ Φ Ex h => by
  unfold sp__law_web at h
  split at h
  all_goals first
    | rfl
    | exact h.elim

theorem rd__law_web : ∀ rs θ Φ Ex, sp__law_web rs θ Φ Ex → T__law_web { nx := fun _ θ' => Φ (.d .none) θ', rt := Φ, ex := fun xd _ θ' => Ex xd θ' } (startR 18 rs) θ := by
  intro rs θ Φ Ex h
  unfold sp__law_web at h
  split at h
  · rename_i a lo hi
    obtain ⟨⟨l1, lh, h6⟩, hb, h⟩ := h
    unfold T__law_web
    simp only [startR, List.length_cons, List.length_nil, dSeq, dSet, dOp, dVar, dC, dFn0, dCons, dNil, nth, fSub, fAdd, on2I]
    refine take_step (a := a) (by omega) (by omega) hb fun d θ1 d0 d1 g1 => ?_
    obtain ⟨m, em⟩ := Int.eq_ofNat_of_zero_le (show 0 ≤ lo + d by omega)
    simp only [put, em]
    have hm1 : 1 ≤ m := by omega
    have hm6 : m ≤ 6 := by omega
    unfold C__law_web_1_9
    simp only [dSeq, dSet, dFn0, dCons, dNil, dVar, dC, nth]
    refine take_step (a := a) (m := 7) (by decide) (by decide) (g1.boxed hb) fun kd θ2 k0 k7 g2 => ?_
    have g12 := g1.trans g2
    unfold C__law_web_1_8
    walk_at "rd"
    refine ⟨by decide, take_step (a := a) (m := 3) (by decide) (by decide) (g12.boxed hb) fun fl θ3 f0 f3 g3 => ?_⟩
    have g13 := g12.trans g3
    have hfull : ∃ z : Int, atI [PyData.int 1, .int 2, .int 3] fl = some (.int z) := by
      rcases (by omega : fl = 0 ∨ fl = 1 ∨ fl = 2) with rfl | rfl | rfl <;> exact ⟨_, rfl⟩
    obtain ⟨fz, hfz⟩ := hfull
    simp only [hfz]
    unfold C__law_web_1_7
    walk_at "rd"
    refine ⟨by decide, fun p hp => ?_⟩
    have hp0 : p ∉ θ.map (·.1) := by
      rw [← g13.keys]
      exact hp
    have pa : p ≠ a := fun e => hp0 (e ▸ hb.key)
    unfold C__law_web_1_6
    simp only [dSeq, dFor, dItR2, dCons, dNil, dC, dVar, nth, is2I]
    refine ⟨rOk_of (by decide) (by decide), rOk_of (by omega) (by omega), ?_⟩
    refine forD_inv (fun i ρ θ4 => ∃ (l : List (Nat × Nat)) (θ5 : Th) (x7 x11 x12 x14 x15 x16 x17 : Option RV), θ4 = (p, l.map tieN) :: θ5 ∧ Chg a θ θ5 ∧ l.Nodup ∧ (∀ q ∈ l, q.1 < q.2 ∧ q.2 < 1 + i) ∧ l.length ≤ 6 * i ∧
      ρ = [some (.own a), some (.d (.int lo)), some (.d (.int hi)), some (.d (.int (m : Int))), some (.d (.int kd)), some (.d (.int fz)), some (.own p), x7, none, none, none, x11, x12, none, x14, x15, x16, x17]) _ 0 _ _ (fun j d ed ρ θ4 K hI hK => ?_) (fun ρ θ4 hI => ?_)
      ⟨[], θ3, none, none, none, none, none, none, none, rfl, g13, List.nodup_nil, fun _ z => (List.not_mem_nil z).elim, Nat.zero_le _, rfl⟩
    · obtain ⟨l, θ5, x7, x11, x12, x14, x15, x16, x17, rfl, g5, nd, hl, ln, rfl⟩ := hI
      rw [Nat.zero_add] at hl ln hK
      have jm : 1 + j < m := by
        have := (List.getElem?_eq_some_iff.mp ed).1
        rw [rangeD_length] at this
        omega
      have ed := rangeD_get ed
      subst ed
      unfold B__law_web_4
      simp only [gN, put, dSeq, dSet, dFn0, dCons, dNil, dVar, nth]
      refine take_step (a := a) (by omega) (by omega) ((g5.boxed hb).under pa) fun jt θq j0 j1 gq => ?_
      obtain ⟨θ6, rfl, g6⟩ := gq.under pa
      unfold C__law_web_4_1
      simp only [dFor, dItR1, dCons, dNil, dVar, nth, is1I]
      refine ⟨rOk_of (by omega) (by omega), ?_⟩
      refine forD_inv (fun i ρ θ4 => ∃ (l : List (Nat × Nat)) (θ5 : Th) (x12 x14 x15 x16 x17 : Option RV), θ4 = (p, l.map tieN) :: θ5 ∧ Chg a θ θ5 ∧ l.Nodup ∧ (∀ q ∈ l, q.1 < q.2 ∧ (q.2 < 1 + j ∨ q.2 = 1 + j ∧ q.1 < i)) ∧ l.length ≤ 6 * j + i ∧
        ρ = [some (.own a), some (.d (.int lo)), some (.d (.int hi)), some (.d (.int (m : Int))), some (.d (.int kd)), some (.d (.int fz)), some (.own p), some (.d (.int (1 + (j : Int)))), none, none, none, some (.d (.int jt)), x12, none, x14, x15, x16, x17]) _ 0 _ _ (fun i d ed ρ θ4 K' hI hK' => ?_) (fun ρ θ4 hI => ?_)
        ⟨l, θ6, x12, x14, x15, x16, x17, rfl, g5.trans g6, nd, fun q hq => ⟨(hl q hq).1, .inl (hl q hq).2⟩, ln, rfl⟩
      · obtain ⟨l, θ5, x12, x14, x15, x16, x17, rfl, g5, nd, hl, ln, rfl⟩ := hI
        rw [Nat.zero_add] at hl ln hK'
        have ij : i < 1 + j := by
          have := (List.getElem?_eq_some_iff.mp ed).1
          rw [rangeD_length] at this
          omega
        have ed := rangeD_get ed
        subst ed
        unfold B__law_web_3
        simp only [gN, put, dSeq, dSet, dFn0, dCons, dNil, dVar, dC, dOp, nth]
        refine take_step (a := a) (m := 4) (by decide) (by decide) ((g5.boxed hb).under pa) fun dr θq r0 r1 gq => ?_
        obtain ⟨θ7, rfl, g7⟩ := gq.under pa
        have g57 := g5.trans g7
        have pk7 : p ∉ θ7.map (·.1) := by rw [g57.keys]; exact hp0
        simp only [fLt, on2I]
        generalize decide (dr < fz) = b14
        have q1 : ∀ b15 b16 b17 : Bool, C__law_web_5_1 { nx := K', rt := Φ, ex := fun xd x θ' => Ex xd θ', bk := K, ct := K' } [some (.own a), some (.d (.int lo)), some (.d (.int hi)), some (.d (.int (m : Int))), some (.d (.int kd)), some (.d (.int fz)), some (.own p), some (.d (.int (1 + (j : Int)))), none, none, none, some (.d (.int jt)), some (.d (.int (0 + (i : Int)))), none, some (.d (.bool b14)), some (.d (.bool b15)), some (.d (.bool b16)), some (.d (.bool b17))] ((p, l.map tieN) :: θ7) := by
          intro b15 b16 b17
          have yes : small (l.map tieN).length ∧ K' [some (.own a), some (.d (.int lo)), some (.d (.int hi)), some (.d (.int (m : Int))), some (.d (.int kd)), some (.d (.int fz)), some (.own p), some (.d (.int (1 + (j : Int)))), none, none, none, some (.d (.int jt)), some (.d (.int (0 + (i : Int)))), none, some (.d (.bool b14)), some (.d (.bool b15)), some (.d (.bool b16)), some (.d (.bool b17))] (thSet ((p, l.map tieN) :: θ7) p (l.map tieN ++ [.tuple [.int (0 + (i : Int)), .int (1 + (j : Int))]])) := by
            refine ⟨by show _ ≤ 1000000; rw [List.length_map]; omega, ?_⟩
            rw [thSet_top pk7]
            refine hK' _ _ ⟨l ++ [(i, 1 + j)], θ7, _, _, _, _, _, ?_, g57, ?_, ?_, ?_, rfl⟩
            · rw [List.map_append]
              have : tieN (i, 1 + j) = .tuple [.int (0 + (i : Int)), .int (1 + (j : Int))] := by
                unfold tieN tieD
                simp only [Int.zero_add]
                congr 3
              rw [List.map_singleton, this]
            · refine List.nodup_append.mpr ⟨nd, by simp, fun x hx y hy => ?_⟩
              rw [List.mem_singleton.mp hy]
              rintro rfl
              have := (hl _ hx).2
              simp only [] at this
              omega
            · intro q hq
              rcases List.mem_append.mp hq with hq | hq
              · have := hl q hq
                omega
              · rw [List.mem_singleton.mp hq]
                exact ⟨ij, .inr ⟨rfl, by show i < i + 1; omega⟩⟩
            · rw [List.length_append, List.length_singleton]
              omega
          have no : K' [some (.own a), some (.d (.int lo)), some (.d (.int hi)), some (.d (.int (m : Int))), some (.d (.int kd)), some (.d (.int fz)), some (.own p), some (.d (.int (1 + (j : Int)))), none, none, none, some (.d (.int jt)), some (.d (.int (0 + (i : Int)))), none, some (.d (.bool b14)), some (.d (.bool b15)), some (.d (.bool b16)), some (.d (.bool b17))] ((p, l.map tieN) :: θ7) := by
            refine hK' _ _ ⟨l, θ7, _, _, _, _, _, rfl, g57, nd, fun q hq => ?_, by omega, rfl⟩
            have := hl q hq
            omega
          clear hK' hK h
          unfold C__law_web_5_1
          walk_at "rd"
          simp only [lookup_top]
          repeat' first
            | exact no
            | exact ⟨by decide, yes⟩
            | refine ⟨⟨rfl, rfl⟩, ?_⟩
            | refine ⟨eqOk_int _, eqOk_int _, ?_⟩
            | refine ⟨by decide, ?_⟩
            | refine ite_b _ (fun _ => ?_) (fun _ => ?_)
            | split
        clear hK' hK h
        have q2 : ∀ b15 b16 : Bool, C__law_web_5_2 { nx := K', rt := Φ, ex := fun xd x θ' => Ex xd θ', bk := K, ct := K' } [some (.own a), some (.d (.int lo)), some (.d (.int hi)), some (.d (.int (m : Int))), some (.d (.int kd)), some (.d (.int fz)), some (.own p), some (.d (.int (1 + (j : Int)))), none, none, none, some (.d (.int jt)), some (.d (.int (0 + (i : Int)))), none, some (.d (.bool b14)), some (.d (.bool b15)), some (.d (.bool b16)), x17] ((p, l.map tieN) :: θ7) := by
          intro b15 b16
          unfold C__law_web_5_2
          walk_at "rd"
          repeat' first
            | exact q1 _ _ _
            | refine ⟨eqOk_int _, eqOk_int _, ?_⟩
            | refine ⟨by decide, ?_⟩
            | refine ite_b _ (fun _ => ?_) (fun _ => ?_)
            | split
        have q3 : ∀ b15 : Bool, C__law_web_5_3 { nx := K', rt := Φ, ex := fun xd x θ' => Ex xd θ', bk := K, ct := K' } [some (.own a), some (.d (.int lo)), some (.d (.int hi)), some (.d (.int (m : Int))), some (.d (.int kd)), some (.d (.int fz)), some (.own p), some (.d (.int (1 + (j : Int)))), none, none, none, some (.d (.int jt)), some (.d (.int (0 + (i : Int)))), none, some (.d (.bool b14)), some (.d (.bool b15)), x16, x17] ((p, l.map tieN) :: θ7) := by
          intro b15
          unfold C__law_web_5_3
          walk_at "rd"
          repeat' first
            | exact q2 _ _
            | refine ⟨eqOk_int _, eqOk_int _, ?_⟩
            | refine ⟨by decide, ?_⟩
            | refine ite_b _ (fun _ => ?_) (fun _ => ?_)
            | split
        unfold C__law_web_5_4
        walk_at "rd"
        repeat' first
          | exact q3 _
          | refine ⟨⟨rfl, rfl⟩, ?_⟩
          | refine ⟨eqOk_int _, eqOk_int _, ?_⟩
          | refine ⟨by decide, ?_⟩
          | refine ite_b _ (fun _ => ?_) (fun _ => ?_)
          | split
      · obtain ⟨l, θ5, x12, x14, x15, x16, x17, rfl, g5, nd, hl, ln, rfl⟩ := hI
        rw [Nat.zero_add, rangeD_length] at hl ln
        refine hK _ _ ⟨l, θ5, _, _, x12, x14, x15, x16, x17, rfl, g5, nd, fun q hq => ?_, ?_, rfl⟩
        · have := hl q hq
          omega
        · omega
    · obtain ⟨l, θ5, x7, x11, x12, x14, x15, x16, x17, rfl, g5, nd, hl, ln, rfl⟩ := hI
      rw [Nat.zero_add, rangeD_length] at hl ln
      have hlm : ∀ q ∈ l, q.1 < q.2 ∧ q.2 < m := fun q hq => by
        have := hl q hq
        omega
      have ln2 : l.length ≤ 36 := by omega
      clear hl ln
      have pk5 : p ∉ θ5.map (·.1) := by rw [g5.keys]; exact hp0
      unfold C__law_web_1_5
      simp only [dSeq, dSet, dNewO, dListR, dVar, nth, asI, put]
      refine ⟨⟨by omega, by omega⟩, fun o ho => ?_⟩
      have ho0 : o ∉ θ.map (·.1) := by
        rw [← g5.keys]
        exact fun z => ho (List.mem_cons_of_mem _ z)
      have oa : o ≠ a := fun e => ho0 (e ▸ hb.key)
      have op : o ≠ p := fun e => ho (e ▸ List.mem_cons_self)
      rw [intsN_range]
      unfold C__law_web_1_4
      simp only [dSeq, dFor, dItR1, dCons, dNil, dOp, dCall, dVar, dC, nth, fGt, on2I, fIntB, on1, asB, fMul, is1I]
      have hn : ∃ n : Nat, n ≤ m ∧ ((m : Int) * if decide (0 < kd) = true then 1 else 0) = (n : Int) := by
        by_cases c : decide (0 < kd) = true
        · exact ⟨m, Nat.le_refl _, by rw [if_pos c]; omega⟩
        · exact ⟨0, Nat.zero_le _, by rw [if_neg c]; omega⟩
      obtain ⟨n, hnm, en⟩ := hn
      rw [en]
      refine ⟨bits_ok (pow_low (by omega)) (pow_low (by split <;> decide)), rOk_of (by omega) (by omega), ?_⟩
      refine forD_inv (fun i ρ θ4 => ∃ (u : List Nat) (θ6 : Th) (x9 x13 : Option RV), θ4 = (o, intsN u) :: (p, l.map tieN) :: θ6 ∧ Chg a θ θ6 ∧ u.Perm (List.range m) ∧ ρ = [some (.own a), some (.d (.int lo)), some (.d (.int hi)), some (.d (.int (m : Int))), some (.d (.int kd)), some (.d (.int fz)), some (.own p), x7, some (.own o), x9, none, x11, x12, x13, x14, x15, x16, x17]) _ 0 _ _ (fun j d ed ρ θ4 K hI hK => ?_) (fun ρ θ4 hI => ?_)
        ⟨List.range m, θ5, none, none, rfl, g5, .refl _, rfl⟩
      · obtain ⟨u, θ6, x9, x13, rfl, g6, hu, rfl⟩ := hI
        have jm : j < m := by
          have := (List.getElem?_eq_some_iff.mp ed).1
          rw [rangeD_length] at this
          omega
        have ed := rangeD_get ed
        rw [Int.zero_add] at ed
        subst ed
        unfold B__law_web_2
        simp only [gN, put, dSeq, dSet, dFn0, dCons, dNil, dVar, nth]
        refine take_step (a := a) (by omega) (by omega) (((g6.boxed hb).under pa).under oa) fun to θq t0 t1 gq => ?_
        obtain ⟨θr, rfl, gr⟩ := gq.under oa
        obtain ⟨θ7, rfl, g7⟩ := gr.under pa
        have g67 := g6.trans g7
        have ok7 : o ∉ ((p, l.map tieN) :: θ7).map (·.1) := by
          intro z
          rcases List.mem_cons.mp z with z | z
          · exact op z
          · rw [g67.keys] at z
            exact ho0 z
        obtain ⟨t, rfl⟩ := Int.eq_ofNat_of_zero_le t0
        unfold C__law_web_3_1
        have lu : (intsN u).length = m := by
          unfold intsN
          rw [List.length_map, hu.length_eq, List.length_range]
        simp only [dSwapIx, dTup, dTup.allD, dCons, dNil, dOp, dVar, nth, fIx, dat, asI, ixD, lookup_top, intsN_at hu jm, intsN_at hu (show t < m by omega)]
        refine ⟨by show (2 : Nat) ≤ 1000; decide, ?_⟩
        simp only [onOwn, lookup_top, Int.toNat_natCast, lu, thSet_top ok7, intsN_set]
        refine ⟨⟨by omega, by omega⟩, ⟨by omega, ?_⟩, ?_⟩
        · unfold intsN
          rw [List.length_map, List.length_set, hu.length_eq, List.length_range]
          omega
        exact hK _ _ ⟨_, θ7, _, _, rfl, g67, swap_perm hu jm (by omega), rfl⟩
      · obtain ⟨u, θ6, x9, x13, rfl, g6, hu, rfl⟩ := hI
        have pk6 : p ∉ θ6.map (·.1) := by rw [g6.keys]; exact hp0
        have ok6 : o ∉ θ6.map (·.1) := by rw [g6.keys]; exact ho0
        unfold C__law_web_1_3
        walk_at "rd"
        refine ⟨by decide, fun r hr => ?_⟩
        have ro : r ≠ o := fun e => hr (e ▸ List.mem_cons_self)
        have rp : r ≠ p := fun e => hr (e ▸ List.mem_cons_of_mem _ List.mem_cons_self)
        have rk6 : r ∉ θ6.map (·.1) := fun z => hr (List.mem_cons_of_mem _ (List.mem_cons_of_mem _ z))
        have ork : r ∉ ((o, intsN u) :: θ6).map (·.1) := fun z => by
          rcases List.mem_cons.mp z with z | z
          · exact ro z
          · exact rk6 z
        have lp : List.lookup p ((r, []) :: (o, intsN u) :: (p, l.map tieN) :: θ6) = some (l.map tieN) := by
          rw [List.lookup_cons, show (p == r) = false from by simp [Ne.symm rp], List.lookup_cons, show (p == o) = false from by simp [Ne.symm op]]
          exact lookup_top
        have dp : thDel ((r, []) :: (o, intsN u) :: (p, l.map tieN) :: θ6) p = (r, []) :: (o, intsN u) :: θ6 := by
          have := thDel_top (ds := l.map tieN) pk6
          unfold thDel at this ⊢
          rw [List.filter_cons_of_pos (by simpa using rp), List.filter_cons_of_pos (by simpa using op), this]
        unfold C__law_web_1_2
        simp only [dSeq, dFor, dItFz, nth]
        refine ⟨_, lp, ?_⟩
        rw [dp]
        refine forD_inv (fun i ρ θ4 => ∃ (x7 x12 : Option RV), θ4 = (r, ((l.take i).map (namedN u)).map tieD) :: (o, intsN u) :: θ6 ∧ ρ = [some (.own a), some (.d (.int lo)), some (.d (.int hi)), some (.d (.int (m : Int))), some (.d (.int kd)), some (.d (.int fz)), some (.own p), x7, some (.own o), x9, some (.own r), x11, x12, x13, x14, x15, x16, x17]) _ 0 _ _ (fun j d ed ρ θ4 K hI hK => ?_) (fun ρ θ4 hI => ?_)
          ⟨x7, x12, rfl, rfl⟩
        · obtain ⟨x7, x12, rfl, rfl⟩ := hI
          rw [Nat.zero_add] at hK ⊢
          rw [List.getElem?_map] at ed
          cases eq : l[j]? with
          | none => rw [eq] at ed; cases ed
          | some q =>
            rw [eq] at ed
            cases ed
            obtain ⟨q1, q2⟩ := hlm q (List.mem_of_getElem? eq)
            have et : ((l.take (j + 1)).map (namedN u)).map tieD = ((l.take j).map (namedN u)).map tieD ++ [tieD (namedN u q)] := by
              rw [List.take_succ, eq]
              simp
            simp only [tieN, tieD]
            unfold B__law_web_1
            have lo' : ∀ X : List D, List.lookup o ((r, X) :: (o, intsN u) :: θ6) = some (intsN u) := fun X => by
              rw [List.lookup_cons, show (o == r) = false from by simp [Ne.symm ro]]
              exact lookup_top
            walk_at "rd"
            simp only [lookup_top, lo', intsN_at hu (show q.1 < m by omega), intsN_at hu q2]
            refine ⟨by decide, by show _ ≤ 1000000; rw [List.length_map, List.length_map, List.length_take]; omega, ?_⟩
            rw [thSet_top ork]
            refine hK _ _ ⟨_, _, ?_, rfl⟩
            rw [et]
            rfl
        · obtain ⟨x7, x12, rfl, rfl⟩ := hI
          rw [Nat.zero_add, List.length_map, List.take_length]
          unfold C__law_web_1_1
          walk_at "rd"
          simp only [fSortL, on1, dat, lookup_top]
          refine ⟨l.map (namedN u), rfl, by rw [List.length_map]; omega, fun z hz => ?_, named_nodup hu nd hlm, fun l' pm pw => ?_⟩
          · obtain ⟨q, hq, rfl⟩ := List.mem_map.mp hz
            exact named_small hm6 hu (hlm q hq).1 (hlm q hq).2
          · refine ⟨by decide, _, _, .del r (.del o .refl), ?_⟩
            rw [thDel_top ork, thDel_top ok6]
            refine h m l' θ6 (by omega) (by omega) (rising_sub hm6 pw fun z hz => ?_) g6
            obtain ⟨q, hq, rfl⟩ := List.mem_map.mp (pm.mem_iff.mp hz)
            exact named_in hu (hlm q hq).1 (hlm q hq).2
  · exact h.elim

end TlD
set_option Elab.async false
set_option linter.all false
set_option maxRecDepth 100000
set_option maxHeartbeats 4000000
namespace TlD
open PySem PySem.Spec PyProof.Rows L2 GxR TlG
local macro_rules | `(tactic| walk_at "rd") => `(tactic| simp only [dSeq, dSet, dAsg, dSetIx, dDrop, dIfS, dFor, dRet, dRetN, dRetF, dNext, dRaise, dVar, dC, dOp, dUn, dCall, dTest, dAnd, dOr, dNot, dAndV, dOrV, dNotV, dIf, dChain, dNil, dCons, dTup, dTup.allD, dLst, dLstO, dNewP, dNewO, dListC, dIsi, dFn0, dFn, dAll, dItT, dItL, dItS, dItR1, dItR2, dItZ, dSl, oNone, oSome, gN, gT, gsNil, gsCons, dSortSet, dRevS, nth, put, startR, fAdd, fSub, fMul, fDiv, fMod, fLt, fLe, fGt, fGe, fLtT, fEq, fNe, fIn, fIsN, fIsB, fLen, fIx, fSl, fTuple, fAbs, fMax, fMin, fDivmod, fStrI, dAppend, dPopAt, on2I, is1I, is2I, is2Z, on1, dat, asD, asB, asI, asS, onOwn, lenD, listD, ixD, List.length_cons, List.length_nil])


/-! ### long words of few letters -/
theorem ones_few {l : List Str} (nd : l.Nodup) (h : ∀ y ∈ l, ∃ c : Nat, 97 ≤ c ∧ c < 103 ∧ y = ⟨#[c]⟩) : l.length ≤ 6 := by
  have f : ∀ y ∈ l, y ∈ (List.range 6).map fun i => (⟨#[97 + i]⟩ : Str) := fun y hy => by
    obtain ⟨c, h1, h2, rfl⟩ := h y hy
    refine List.mem_map.mpr ⟨c - 97, List.mem_range.mpr (by omega), ?_⟩
    rw [show 97 + (c - 97) = c by omega]
  have key : ∀ (l k : List Str), l.Nodup → (∀ y ∈ l, y ∈ k) → l.length ≤ k.length := by
    intro l
    induction l with
    | nil => intro k _ _; exact Nat.zero_le _
    | cons y l ih =>
      intro k nd h
      obtain ⟨n1, n2⟩ := List.nodup_cons.mp nd
      have hy := h y List.mem_cons_self
      have e := ih (k.erase y) n2 fun z hz => (List.mem_erase_of_ne (fun q => n1 (by rw [← q]; exact hz))).mpr (h z (List.mem_cons_of_mem _ hz))
      rw [List.length_erase_of_mem hy] at e
      have : 0 < k.length := List.length_pos_of_mem hy
      rw [List.length_cons]
      omega
  have := key l _ nd f
  rwa [List.length_map, List.length_range] at this
def abcT (x : Str) : Prop := x.length ≤ 1000 ∧ ∀ c ∈ x.cps.toList, 97 ≤ c ∧ c < 103
section
variable {c : Cn} {X : Cx}
def dSortSetL (T : DTE) : DTE := fun Ex ρ θ Φ => T Ex ρ θ fun r θ1 => asS r fun x => abcT x ∧ ∀ ys : List Str, sortedS ys = true → ys.Nodup → (∀ y : Str, y ∈ ys ↔ ∃ c ∈ x.cps.toList, y = ⟨#[c]⟩) → Φ (.d (.list (ys.map PyData.str))) θ1
theorem de_sortSetL {e : Expr} {te : TE} {T : DTE} {p p2 pos pos2 : Pos} (hc : X.calm = true) (hg : Gl X "sorted") (hm : X.mg "sorted" = none) (hg2 : Gl X "set") (hm2 : X.mg "set" = none) (he : DE c X e te T)
    (he2 : starEach [e] X.env = (false, eval e X.env) :: starEach [] X.env := by rfl) (he1 : starEach [.Call (.Name "set" p2) [e] [] pos2] X.env = (false, eval (.Call (.Name "set" p2) [e] [] pos2) X.env) :: starEach [] X.env := by rfl)
    (hp1 : (backTo pos (starEach [] X.env)).any (·.1) = false := by rfl) (hp2 : (backTo pos2 (starEach [] X.env)).any (·.1) = false := by rfl) :
    DE c X (.Call (.Name "sorted" p) [.Call (.Name "set" p2) [e] [] pos2] [] pos) (tCB (rSortX X) (tCons (tCB (rSetX X) (tCons te tNil)) tNil)) (dSortSetL T) := by
  refine ⟨(de_sortSet hc hg hm hg2 hm2 he he2 he1 hp1 hp2).pe, fun Zh F0 Ex L σ H ρ θ Φ Q S h k => ?_⟩
  refine he.sim Zh F0 Ex L σ H ρ θ _ _ S h fun v r H1 θ1 S1 m1 d1 h1 => ?_
  obtain ⟨x, rfl, ⟨hx, ha⟩, h2⟩ := asS_of d1 h1
  refine ⟨x, rfl, hx, fun p l hp hl nd hm => ⟨p, l, rfl, upd_same, ?_, fun q ys hq pm so => ?_⟩⟩
  · have := ones_few nd fun y hy => by
      obtain ⟨c, hc, e⟩ := (hm y).mp hy
      exact ⟨c, (ha c hc).1, (ha c hc).2, e⟩
    omega
  · have S2 : SD c.K c.Ps Zh F0 σ (upd H1 p (TlS.TxO X.prog X.w p l)) ρ θ1 := S1.to (S1.hs.new hp) (vis_upd_sub hp).mono
    refine newL S2 (k.step (m1.trans (vis_upd_sub hp).mono)) hq (DqAll.strs ys) (h2 ys so (pm.nodup_iff.mpr nd) fun y => ?_)
    rw [pm.mem_iff]
    exact hm y
end
def LongW (x : Str) (m : Nat) : Prop := x.length ≤ 1000 ∧ made x m = true
theorem LongW.rng {x : Str} {m : Nat} (h6 : m ≤ 6) (h : LongW x m) : ∀ c ∈ x.cps.toList, 97 ≤ c ∧ c < 103 := fun c hc => by
  have := (made_iff.mp h.2 c).mp hc
  omega

def sp_has_lettersL : DSp := fun rs θ Φ _ => match rs with
  | [.d (.str x), .d (.int i)] => ∃ m : Nat, i = m ∧ m ≤ 6 ∧ LongW x m ∧ Φ (.d (.bool true)) θ
  | _ => False

def T_has_lettersL : DTS := (dRet (dAndV (dIsi isStrD (dVar 0)) (dOp fEq (dSortSetL (dVar 0)) (dNewP (dListC (dCons (dSl (dC (.str "abcdef")) oNone (oSome (dVar 1)) fSl) dNil))))))

theorem ln_has_lettersL : ∀ rs θ Φ Ex, sp_has_lettersL rs θ Φ Ex → rs.length = 2 := fun rs θ Φ Ex h => by
  unfold sp_has_lettersL at h
  split at h
  all_goals first
    | rfl
    | exact h.elim

theorem rd_has_lettersL : ∀ rs θ Φ Ex, sp_has_lettersL rs θ Φ Ex → T_has_lettersL { nx := fun _ θ' => Φ (.d .none) θ', rt := Φ, ex := fun xd _ θ' => Ex xd θ' } (startR 2 rs) θ := by
  intro rs θ Φ Ex h
  unfold sp_has_lettersL at h
  split at h
  · rename_i x i
    obtain ⟨m, rfl, h6, hx, h⟩ := h
    have rng := hx.rng h6
    unfold T_has_lettersL
    simp only [startR, List.length_cons, List.length_nil, dRet, dAndV, dIsi, dVar, nth, dat, isStrD, asB, if_true, dOp, dSortSetL, asS]
    refine ⟨⟨hx.1, rng⟩, fun ys so nd hm => ?_⟩
    obtain ⟨cs, rfl, inc, hcs⟩ := codesFrom so nd hm
    simp only [dNewP, dListC, dCons, dNil, dSl, dC, oNone, oSome, dVar, nth, fSl, asI, asS, dat]
    refine ⟨by rw [abc_len]; decide, ?_⟩
    rw [List.map_map]
    have e1 : signsD (cutS ("abcdef" : Str) none (some (m : Int))) = (letters m).map sg := by rw [signsD_eq, abc_take h6]
    refine ⟨?_, ?_⟩
    · show (cutS ("abcdef" : Str) none (some (m : Int))).length ≤ 1000000
      exact Nat.le_trans (cutS_length _ _ _) (by rw [abc_len]; decide)
    · rw [e1]
      refine ⟨eqOk_sgs fun c hc2 => by have := rng c ((hcs c).mp hc2); omega, eqOk_sgs fun c hc2 => ?_, ?_⟩
      · have := mem_letters.mp hc2
        omega
      · have : PyData.eqv (.list (cs.map sg)) (.list ((letters m).map sg)) = made x m := by
          show PyData.eqvAll _ _ = _
          rw [eqv_sgs, made_sorted inc hcs]
        show Φ (.d (.bool (PyData.eqv (.list (cs.map sg)) (.list ((letters m).map sg))))) θ
        rw [this, hx.2]
        exact h
  · exact h.elim

def sp_check_wordL (E : Str → Addr) : DSp := fun rs θ Φ _ => match rs with
  | [.d (.str x), .d (.int i)] => ∃ m : Nat, i = m ∧ m ≤ 6 ∧ LongW x m ∧ Φ (.d .none) θ
  | _ => False

def T_check_wordL (E : Str → Addr) : DTS := (dIfS (dNot (dTest (dFn0 sp_has_lettersL (dCons (dVar 0) (dCons (dVar 1) dNil))))) (dRaise (E "NoWord")) dNext)

theorem ln_check_wordL {E : Str → Addr} : ∀ rs θ Φ Ex, sp_check_wordL E rs θ Φ Ex → rs.length = 2 := fun rs θ Φ Ex h => by
  unfold sp_check_wordL at h
  split at h
  all_goals first
    | rfl
    | exact h.elim

theorem rd_check_wordL {E : Str → Addr} : ∀ rs θ Φ Ex, sp_check_wordL E rs θ Φ Ex → T_check_wordL E { nx := fun _ θ' => Φ (.d .none) θ', rt := Φ, ex := fun xd _ θ' => Ex xd θ' } (startR 2 rs) θ := by
  intro rs θ Φ Ex h
  unfold sp_check_wordL at h
  split at h
  · obtain ⟨m, rfl, h6, hx, h⟩ := h
    unfold T_check_wordL
    simp only [startR, List.length_cons, List.length_nil, dIfS, dNot, dTest, dFn0, dCons, dNil, dVar, nth]
    exact ⟨m, rfl, h6, hx, h⟩
  · exact h.elim

def sp_check_word_ofL (E : Str → Addr) : DSp := fun rs θ Φ _ => match rs with
  | [.d w, .d (.str x)] => ∃ (m : Nat) (l : List (Int × Int)), (1 ≤ m ∧ m ≤ 6) ∧ l.Sublist (pairs m) ∧ w = webD m l ∧ LongW x m ∧ Φ (.d .none) θ
  | _ => False

def T_check_word_ofL (E : Str → Addr) : DTS := (dSeq (dDrop (dFn (sp_check_web E) (dCons (dVar 0) dNil))) (dDrop (dFn (sp_check_wordL E) (dCons (dVar 1) (dCons (dOp fIx (dVar 0) (dC (.int 0))) dNil)))))

theorem ln_check_word_ofL {E : Str → Addr} : ∀ rs θ Φ Ex, sp_check_word_ofL E rs θ Φ Ex → rs.length = 2 := fun rs θ Φ Ex h => by
  unfold sp_check_word_ofL at h
  split at h
  all_goals first
    | rfl
    | exact h.elim

theorem rd_check_word_ofL {E : Str → Addr} : ∀ rs θ Φ Ex, sp_check_word_ofL E rs θ Φ Ex → T_check_word_ofL E { nx := fun _ θ' => Φ (.d .none) θ', rt := Φ, ex := fun xd _ θ' => Ex xd θ' } (startR 2 rs) θ := by
  intro rs θ Φ Ex h
  unfold sp_check_word_ofL at h
  split at h
  · obtain ⟨m, l, hm, hl, rfl, hx, h⟩ := h
    have i0 : atI [PyData.int (m : Int), .tuple (l.map tieD)] 0 = some (.int (m : Int)) := rfl
    unfold T_check_word_ofL
    simp only [startR, List.length_cons, List.length_nil, dSeq, dDrop, dFn, dCons, dNil, dVar, nth, sp_check_web]
    rw [web_ok hm.1 hm.2 hl, if_pos rfl]
    simp only [dOp, dVar, dC, nth, fIx, webD, dat, ixD, asI, i0]
    exact ⟨m, rfl, hm.2, hx, h⟩
  · exact h.elim

def sp_firstsL (E : Str → Addr) : DSp := fun rs θ Φ _ => match rs with
  | [.d w, .d (.str x)] => ∃ (m : Nat) (l : List (Int × Int)), (1 ≤ m ∧ m ≤ 6) ∧ l.Sublist (pairs m) ∧ w = webD m l ∧ LongW x m ∧ Φ (.d (.tuple ((seenL x.cps.toList).map fun c : Nat => PyData.int ((c : Int) - 97)))) θ
  | _ => False

def B_firstsL_1 : DTS := (dSeq (dSet 4 (dIndexS (dC (.str "abcdef")) (dVar 3))) (dIfS (dTest (dOp (fIn true) (dVar 4) (dVar 2))) (dDrop (dAppend (dVar 2) (dVar 4))) dNext))

def T_firstsL (E : Str → Addr) : DTS := (dSeq (dDrop (dFn (sp_check_word_ofL E) (dCons (dVar 0) (dCons (dVar 1) dNil)))) (dSeq (dSet 2 (dLstO dNil)) (dSeq (dFor (dItS (dVar 1)) (gN 3) B_firstsL_1) (dRetF (dCall fTuple (dCons (dVar 2) dNil))))))

theorem ln_firstsL {E : Str → Addr} : ∀ rs θ Φ Ex, sp_firstsL E rs θ Φ Ex → rs.length = 2 := fun rs θ Φ Ex h => by
  unfold sp_firstsL at h
  split at h
  all_goals first
    | rfl
    | exact h.elim

theorem rd_firstsL {E : Str → Addr} : ∀ rs θ Φ Ex, sp_firstsL E rs θ Φ Ex → T_firstsL E { nx := fun _ θ' => Φ (.d .none) θ', rt := Φ, ex := fun xd _ θ' => Ex xd θ' } (startR 5 rs) θ := by
  intro rs θ Φ Ex h
  unfold sp_firstsL at h
  split at h
  · rename_i w x
    obtain ⟨m, l, hm, hl, rfl, hw, h⟩ := h
    have rng := hw.rng hm.2
    have sx : signsD x = x.cps.toList.map sg := signsD_eq x
    have xl : x.cps.toList.length = x.length := Array.length_toList
    have ht : x.length ≤ 1000 := hw.1
    unfold T_firstsL
    simp only [startR, List.length_cons, List.length_nil, dSeq, dDrop, dFn, dCons, dNil, dVar, nth]
    refine ⟨m, l, hm, hl, rfl, hw, ?_⟩
    simp only [dSet, dLstO, dNil, dTup.allD, put, dFor, dItS, dVar, nth, asS]
    refine ⟨by decide, fun p hp => ?_⟩
    refine forD_inv (fun j ρ θ6 => ∃ x3 x4, θ6 = (p, (seenL (x.cps.toList.take j)).map fun c : Nat => PyData.int ((c : Int) - 97)) :: θ ∧ ρ = [some (.d (webD m l)), some (.d (.str x)), some (.own p), x3, x4]) _ 0 _ _ (fun j d ed ρ θ6 K3 hI hK3 => ?_) (fun ρ θ6 hI => ?_) ⟨none, none, rfl, rfl⟩
    · obtain ⟨x3, x4, rfl, rfl⟩ := hI
      rw [Nat.zero_add] at hK3 ⊢
      rw [sx, List.getElem?_map] at ed
      cases ec : x.cps.toList[j]? with
      | none =>
        rw [ec] at ed
        cases ed
      | some c =>
        rw [ec] at ed
        cases ed
        have et : x.cps.toList.take (j + 1) = x.cps.toList.take j ++ [c] := by
          rw [List.take_succ, ec]
          rfl
        obtain ⟨c1, c2⟩ := rng c (List.mem_of_getElem? ec)
        obtain ⟨in_, ln⟩ := seen_sub (x.cps.toList.take j)
        rw [List.length_take] at ln
        have low : ∀ d ∈ seenL (x.cps.toList.take j), 97 ≤ d := fun d hd => (rng d (List.mem_of_mem_take (in_ d hd))).1
        unfold B_firstsL_1
        simp only [gN, put, dSeq, dSet, dIndexS, dC, asS, dVar, nth, sg]
        refine ⟨c - 97, [], abc_index c1 c2, ?_⟩
        have e : ((c - 97 : Nat) : Int) = (c : Int) - 97 := by omega
        rw [e]
        simp only [dIfS, dTest, dOp, dVar, nth, fIn, asD, dat, lookup_top, asB, if_true]
        refine ⟨⟨rfl, num_scal _⟩, ?_⟩
        rw [num_in c _ c1 low]
        by_cases q : c ∈ seenL (x.cps.toList.take j)
        · simp only [q, decide_true, Bool.not_true, Bool.false_eq_true, if_false, dNext]
          refine hK3 _ _ ⟨_, _, ?_, rfl⟩
          rw [et, seen_snoc]
          unfold seenStep
          rw [if_pos q]
        · simp only [q, decide_false, Bool.not_false, if_true, dDrop, dAppend, dVar, nth, onOwn, lookup_top, asD]
          refine ⟨?_, ?_⟩
          · rw [List.length_map]
            show _ ≤ 1000000
            omega
          · rw [thSet_top hp]
            refine hK3 _ _ ⟨_, _, ?_, rfl⟩
            rw [et, seen_snoc]
            unfold seenStep
            rw [if_neg q, List.map_append]
            rfl
    · obtain ⟨x3, x4, rfl, rfl⟩ := hI
      have full : x.cps.toList.take (0 + (signsD x).length) = x.cps.toList := by
        rw [sx, List.length_map, Nat.zero_add, List.take_length]
      rw [full]
      walk_at "rd"
      simp only [lookup_top]
      refine ⟨_, _, .del p .refl, ?_⟩
      rw [thDel_top hp]
      exact h
  · exact h.elim

def sp_longerL (E : Str → Addr) : DSp := fun rs θ Φ _ => match rs with
  | [.d w, .d (.str x)] => ∃ (m : Nat) (l : List (Int × Int)), (1 ≤ m ∧ m ≤ 6) ∧ l.Sublist (pairs m) ∧ w = webD m l ∧ LongW x m ∧ Φ (.d (.str (txt (seenL x.cps.toList) ++ x))) θ
  | _ => False

def T_longerL (E : Str → Addr) : DTS := (dRet (dOp fAdd (dJoin (dC (.str "")) (dNewP (dLc (dItT (dFn (sp_firstsL E) (dCons (dVar 0) (dCons (dVar 1) dNil)))) (gN 2) dYes (dOp fIx (dC (.str "abcdef")) (dVar 2)) [2]))) (dVar 1)))

theorem ln_longerL {E : Str → Addr} : ∀ rs θ Φ Ex, sp_longerL E rs θ Φ Ex → rs.length = 2 := fun rs θ Φ Ex h => by
  unfold sp_longerL at h
  split at h
  all_goals first
    | rfl
    | exact h.elim

theorem rd_longerL {E : Str → Addr} : ∀ rs θ Φ Ex, sp_longerL E rs θ Φ Ex → T_longerL E { nx := fun _ θ' => Φ (.d .none) θ', rt := Φ, ex := fun xd _ θ' => Ex xd θ' } (startR 3 rs) θ := by
  intro rs θ Φ Ex h
  unfold sp_longerL at h
  split at h
  · rename_i w x
    obtain ⟨m, l, hm, hl, rfl, hw, h⟩ := h
    have rng := hw.rng hm.2
    have xl : x.cps.toList.length = x.length := Array.length_toList
    have ht : x.length ≤ 1000 := hw.1
    obtain ⟨in_, ln⟩ := seen_sub x.cps.toList
    unfold T_longerL
    walk_at "rd"
    unfold dLc
    walk_at "rd"
    refine ⟨m, l, hm, hl, rfl, hw, ?_⟩
    refine lcD_map letOf _ [] (fun d hd k1 k0 hk => ?_) (by simp; omega) ?_
    · obtain ⟨c, hc, rfl⟩ := List.mem_map.mp hd
      obtain ⟨c1, c2⟩ := rng c (in_ c hc)
      simp only [wipeR, unset]
      walk_at "rd"
      simp only [dYes, if_true]
      rw [abc_item ⟨by omega, by omega⟩]
      exact ⟨abc_small, hk⟩
    · rw [List.nil_append, nums_sgs _ fun c hc => (rng c (in_ c hc)).1]
      simp only [dJoin, dat, seqD]
      rw [strs_signs]
      refine ⟨?_, ?_⟩
      · rw [sum_ones, List.length_map]
        show _ + _ * 0 ≤ 1000000
        omega
      · rw [join_signs]
        have tl : (txt (seenL x.cps.toList)).length = (seenL x.cps.toList).length := by
          show (txt _).cps.size = _
          rw [← Array.length_toList, txt_cps]
        refine ⟨?_, h⟩
        rw [tl]
        show _ ≤ 1000000
        omega
  · exact h.elim

end TlD
set_option Elab.async false
set_option linter.all false
set_option maxRecDepth 100000
set_option maxHeartbeats 4000000
namespace TlD
open PySem PySem.Spec PyProof.Rows L2 GxR TlG
/-! ### the exception that an except suite holds: an own one without fields, its context None -/
structure Held (X : Cx) (C : Addr) (p : Addr × Obj) : Prop where
  hot : L2H.Hot1 X.A p
  cls : Zc (.ref C) none p.2
  mem : p ∈ X.pn
theorem Held.hotC {X : Cx} {C : Addr} {p : Addr × Obj} (q : Held X C p) : L2H.HotC X := ⟨p, q.hot, q.mem⟩
theorem Held.inst {X : Cx} {C : Addr} {p : Addr × Obj} (q : Held X C p) {h : Heap} (g : h.get? p.1 = some p.2) : PySem.W.InstAt h p.1 p.2 C none := by
  obtain ⟨⟨_, vs, dv, _⟩, ⟨e1, e2⟩, _⟩ := q
  obtain ⟨b, oc, od, oda, osl⟩ := p
  dsimp only at dv e1 e2 g ⊢
  subst dv e1 e2
  exact ⟨g, rfl, rfl, trivial⟩
/-! ### isinstance of it -/
theorem cr_held {X : Cx} {C : Addr} {p : Addr × Obj} (E : ExcC X.K C) (q : Held X C p) : CallR X (.builtin "isinstance") (rIsE X.K C p.1) := by
  intro pins s σ H xs us Q I vals want
  obtain ⟨w, cv, b, rfl, same, kit, done⟩ := want
  match us, vals with
  | [u1, u2], .cons r1 (.cons r2 .nil) =>
    have e1 : u1 = Value.ref p.1 := r1
    have e2 : u2 = cv := same u2 r2
    subst e1 e2
    have there := q.inst (I.pin p (List.mem_append_left _ q.mem)).1
    have asks := PySem.W.handS_kitx_exc (x := p.1) (ox := p.2) E.hg E.hk E.hs E.hd E.ha E.hn E.ht E.hm
    exact PySem.W.kia_one asks I.kIn there kit (fun z => nomatch z) fun tk => ⟨V.bl b, H, I.kept (t' := tk) (fun _ _ z => z), rfl, done⟩
def dIsH (a : Addr) (b : Bool) (T : DTE) : DTE := fun Ex ρ θ Φ => T Ex ρ θ fun r θ1 => r = .own a ∧ Φ (.d (.bool b)) θ1
section
variable {c : Cn} {X : Cx} {C : Addr} {p : Addr × Obj}
theorem de_isH {e : Expr} {te : TE} {T : DTE} {nm : Str} {cv : V} {v : Value} {b : Bool} {p1 p2 pos : Pos} (E : ExcC X.K C) (q : Held X C p) (hg : Gl X "isinstance") (hm : X.mg "isinstance" = none) (he : DE c X e te T) (hc : PE X (.Name nm p2) (tC cv))
    (hv : ∀ u, RelV cv u → u = v) (kit : PySem.W.kitOne X.K (.ref C) v = some b)
    (h1 : starEach [e, .Name nm p2] X.env = (false, eval e X.env) :: starEach [.Name nm p2] X.env := by rfl) (h2 : starEach [.Name nm p2] X.env = (false, eval (.Name nm p2) X.env) :: starEach [] X.env := by rfl) (hpl : (backTo pos (starEach [.Name nm p2] X.env)).any (·.1) = false := by rfl) :
    DE c X (.Call (.Name "isinstance" p1) [e, .Name nm p2] [] pos) (tCB (rIsE X.K C p.1) (tCons te (tCons (tC cv) tNil))) (dIsH p.1 b T) := by
  refine ⟨pe_callB (cr_held E q) hg hm (by decide +kernel) (pa_cons he.pe (pa_cons hc pa_nil h2) h1) (by decide) (by decide) h1 hpl, fun Zh F0 Ex L σ H ρ θ Φ Q S h k => ?_⟩
  refine he.sim Zh F0 Ex L σ H ρ θ _ _ S h fun w r H1 θ1 S1 m1 d1 ⟨e1, h1⟩ => ?_
  subst e1
  have e2 : w = .ref p.1 := d1
  subst e2
  exact ⟨cv, v, b, rfl, hv, kit, kB S1 (k.step m1) h1⟩
theorem relv_ref {D : Addr} : ∀ u, RelV (.ref D) u → u = .ref D := fun _ h => h
theorem relv_ty {T : String} : ∀ u, RelV (.ty T) u → u = .type T := fun _ h => h
end
section
variable {c : Cn} {X : Cx} {C : Addr} {p : Addr × Obj}
theorem de_isHc {e : Expr} {te : TE} {T : DTE} {nm : Str} {D : Addr} {b : Bool} {p1 p2 pos : Pos} (E : ExcC X.K C) (q : Held X C p) (hg : Gl X "isinstance") (hm : X.mg "isinstance" = none) (he : DE c X e te T) (hn : Gl X nm) (hv : X.mg nm = some (.ref D)) (kit : PySem.W.kitOne X.K (.ref C) (.ref D) = some b)
    (hd : (nm == ("__debug__" : Str)) = false := by decide)
    (h1 : starEach [e, .Name nm p2] X.env = (false, eval e X.env) :: starEach [.Name nm p2] X.env := by rfl) (h2 : starEach [.Name nm p2] X.env = (false, eval (.Name nm p2) X.env) :: starEach [] X.env := by rfl) (hpl : (backTo pos (starEach [.Name nm p2] X.env)).any (·.1) = false := by rfl) :
    DE c X (.Call (.Name "isinstance" p1) [e, .Name nm p2] [] pos) (tCB (rIsE X.K C p.1) (tCons te (tCons (tC (.ref D)) tNil))) (dIsH p.1 b T) :=
  de_isH E q hg hm he (pe_glob (v := .ref D) hn hv rfl hd) relv_ref kit h1 h2 hpl
theorem de_isHt {e : Expr} {te : TE} {T : DTE} {nm : Str} {t : String} {b : Bool} {p1 p2 pos : Pos} (E : ExcC X.K C) (q : Held X C p) (hg : Gl X "isinstance") (hm : X.mg "isinstance" = none) (he : DE c X e te T) (hn : Gl X nm) (hv : X.mg nm = none) (hb : bootBuiltins nm = some (.type t)) (kit : PySem.W.kitOne X.K (.ref C) (.type t) = some b)
    (hq : nm ≠ "__name__" := by decide) (hd : (nm == ("__debug__" : Str)) = false := by decide)
    (h1 : starEach [e, .Name nm p2] X.env = (false, eval e X.env) :: starEach [.Name nm p2] X.env := by rfl) (h2 : starEach [.Name nm p2] X.env = (false, eval (.Name nm p2) X.env) :: starEach [] X.env := by rfl) (hpl : (backTo pos (starEach [.Name nm p2] X.env)).any (·.1) = false := by rfl) :
    DE c X (.Call (.Name "isinstance" p1) [e, .Name nm p2] [] pos) (tCB (rIsE X.K C p.1) (tCons te (tCons (tC (.ty t)) tNil))) (dIsH p.1 b T) :=
  de_isH E q hg hm he (pe_bltn (v := .ty t) hn hv hb rfl hq hd) relv_ty kit h1 h2 hpl
end
/-! ### defs that are called there -/
abbrev noX : XK := fun _ _ _ => False
abbrev CXno : CXT := fun _ _ _ _ _ _ => False
structure FnP (P : Program) (w : World) (K : PySem.W.Frag) (mg : Str → Option Value) (base : Heap) (k : Nat) (f : Addr) (fd : FuncData) (ps : List Str) (C : Addr) (sp : Addr → Sp) : Prop where
  num : ∀ a vs H Q E, sp a vs H Q E → vs.length = ps.length
  go : ∀ (p : Addr × Obj) (A : Around) (outer : List Env) (s : Shared) (H : Hp) (args : Args) (us : List Value) (vs : List V) (Q : VK), L2H.Hot1 A p → Zc (.ref C) none p.2 → L2H.RoomH k A → L2H.PinOk outer H s p → Env0 P w K mg base A outer s H →
    BindsTo s fd args (ps.zip us) → Vals vs us → sp p.1 vs H Q noX → codeAny (model P w) A (.call (.ref f) args) (CR CXno outer P w H s Q noX) s
abbrev cxP (P : Program) (w : World) (K : PySem.W.Frag) (mg : Str → Option Value) (base : Heap) (N : List Str) (qual : Str) (scope : Scope) (f : Addr) (cd : Value) (A : Around) (outer : List Env) (s : Shared) (H : Hp) (p : Addr × Obj) : Cx :=
  L2H.cxH CXno P w K mg base N qual scope f cd A outer s H noX p
theorem fnp_of {P : Program} {w : World} {K : PySem.W.Frag} {mg : Str → Option Value} {base : Heap} {k : Nat} {f C : Addr} {x qual : Str} {st : Stmt} {fd : FuncData} {cd : Value} {N ps : List Str} {sp : Addr → Sp}
    (F : FunC K x qual st f fd cd) (S : FnScope N ps (defScope st)) (num : ∀ a vs H Q E, sp a vs H Q E → vs.length = ps.length)
    (body : ∀ (p : Addr × Obj) (A : Around) (outer : List Env) (s : Shared) (H : Hp) (vs : List V) (Q : VK), L2H.Hot1 A p → Zc (.ref C) none p.2 → L2H.RoomH k (A.deeper (envOfC qual (defScope st) s.heap.objs.size f cd)) → sp p.1 vs H Q noX →
      ∃ t, PSs (cxP P w K mg base N qual (defScope st) f cd A outer s H p) (defBody st) t ∧ t { nx := fun _ H' => Q .non H', rt := Q } (L2.start N vs) H) : FnP P w K mg base (k + 1) f fd ps C sp := by
  obtain ⟨oc, od, kV, doc, pm, an, ct, osl, rfl, found, code⟩ := F.ex
  refine ⟨num, fun p A outer s H args us vs Q hot cls room pin env binds vals want => ?_⟩
  have kin : K.In s.heap := env.mod.kin.keeps fun b o e => (env.bs b o e).1
  have nolim : s.heap.NoLimit := env.mod.nolimit.keeps fun b o e => (env.bs b o e).1
  refine codeAny_call_function room.depth (kin _ _ found) rfl S.co S.gen rfl (PySem.W.codeRec_of kin code) (binds _ _ _ _ ?_)
  refine wpAny_newFunctionEnv_cells S.kind (fun ⟨n, v⟩ hy => ?_) fun e he s1 made => ?_
  · cases S.par n (List.of_mem_zip hy).1 with
    | inl q => exact .inl q
    | inr q => exact .inr ⟨q, PySem.W.cellsFrom_some _ _ _ (.inl q)⟩
  · subst he
    refine ⟨nolim.keeps made.toInCall.keep, codeAny_func ?_⟩
    obtain ⟨t, ok, go⟩ := body p A outer s H vs Q hot cls (room.deeper _) want
    have I1 : Inv (cxP P w K mg base N qual (defScope st) f cd A outer s H p) [] (L2.start N vs) H s1 := L2H.inv_startH S pin env (num _ _ _ _ _ want) vals made
    refine wpAny_mono (ok.run [] s1 _ H _ I1 go) (fun fl s2 end_ => ?_) fun _ _ end_ => end_
    match fl, end_ with
    | .ret u, ⟨v, σ2, H2, I2, rv, q⟩ => exact ⟨v, H2, I2.os, I2.bare, I2.base, I2.hok, rv, q⟩
    | .next, ⟨σ2, H2, I2, q⟩ => exact ⟨.non, H2, I2.os, I2.bare, I2.base, I2.hok, rfl, q⟩
    | .brk, ⟨_, _, _, q⟩ => exact q.elim
    | .cont, ⟨_, _, _, q⟩ => exact q.elim
theorem cxP_held {P : Program} {w : World} {K : PySem.W.Frag} {mg : Str → Option Value} {base : Heap} {N : List Str} {qual : Str} {scope : Scope} {f C : Addr} {cd : Value} {A : Around} {outer : List Env} {s : Shared} {H : Hp} {p : Addr × Obj} (hot : L2H.Hot1 A p) (cls : Zc (.ref C) none p.2) :
    Held (cxP P w K mg base N qual scope f cd A outer s H p) C p := ⟨hot, cls, List.mem_cons_self⟩
/-- the same over data -/
structure DefP (P : Program) (w : World) (K : PySem.W.Frag) (mg : Str → Option Value) (base : Heap) (Ps : List Addr) (k : Nat) (x : Str) (ps : List Str) (C : Addr) (sp : Addr → DSp) : Prop where
  ex : ∃ f fd, mg x = some (.ref f) ∧ PySem.W.keepIn K (.ref f) = true ∧ Binds K fd ps [] ∧ FnP P w K mg base k f fd ps C (fun a => spOf K Ps (sp a))
theorem defp_of {P : Program} {w : World} {K : PySem.W.Frag} {mg : Str → Option Value} {base : Heap} {Ps : List Addr} {x : Str} {st : Stmt} {N ps : List Str} {k : Nat} {C : Addr} {sp : Addr → DSp} (F : Src K mg x st) (S : FnScope N ps (defScope st))
    (hb : ∀ (kV doc pm : Value) (an : Option Addr) (cdv ct : Value) (us : List Value), us.length = ps.length → bindArgs (PySem.W.fnOf x x (defArgs st) (defBody st) (defScope st) .none kV doc pm an cdv ct) ⟨us, []⟩ = pure (ps.zip us))
    (hl : ∀ a rs θ Φ Ex, sp a rs θ Φ Ex → rs.length = ps.length)
    (hbody : ∀ (p : Addr × Obj) (A : Around) (outer : List Env) (s : Shared) (H : Hp), Held (cxP P w K mg base N x (defScope st) (He.fAd K (x, none)) (.ref (He.codeOf K (x, none))) A outer s H p) C p →
      L2H.RoomH k (A.deeper (envOfC x (defScope st) s.heap.objs.size (He.fAd K (x, none)) (.ref (He.codeOf K (x, none))))) →
      ∃ t T, DSs ⟨K, Ps, fun _ _ _ _ => False⟩ (cxP P w K mg base N x (defScope st) (He.fAd K (x, none)) (.ref (He.codeOf K (x, none))) A outer s H p) (defBody st) t T ∧
        ∀ rs θ Φ Ex, sp p.1 rs θ Φ Ex → T { nx := fun _ θ' => Φ (.d .none) θ', rt := Φ, ex := fun _ _ _ => False } (startR N.length rs) θ) : DefP P w K mg base Ps (k + 1) x ps C sp := by
  obtain ⟨fd, FC⟩ := F.fc
  refine ⟨_, fd, F.gl, FC.kp, F.bd fd FC ps hb, fnp_of FC S (fun a vs H Q E ⟨Zh, θ, rs, _, h2, Φ, Ex, h3, _⟩ => h2.length.trans (hl a _ _ _ _ h3)) fun p A outer s H vs Q hot cls room ⟨Zh, θ, rs, hs, dv, Φ, Ex, h3, back, out⟩ => ?_⟩
  obtain ⟨t, T, d, rd⟩ := hbody p A outer s H (cxP_held hot cls) room
  have hn : vs.length = ps.length := dv.length.trans (hl _ _ _ _ _ h3)
  have hp : ps.length ≤ N.length := by
    have := congrArg List.length S.pre
    rw [List.length_take] at this
    omega
  refine ⟨t, d.ps, d.sim Zh (vis Zh θ H) { nx := fun _ θ' => Φ (.d .none) θ', rt := Φ, ex := fun _ _ _ => False } _ (fun cls d σ H' ρ θ' xd S' x h => (show False from h).elim) ⟨fun σ H' ρ θ' S' h => back (.d .none) θ' h .non H' S'.hs Dq.non, fun v r H' θ' hs' dv h => back r θ' h v H' hs' dv, fun _ _ _ _ _ h => h, fun _ _ _ _ _ h => h⟩ _ H _ θ ⟨hs, fun i r e => ?_, ?_⟩ (rd rs θ Φ Ex h3)⟩
  · obtain ⟨v, h1, h2⟩ := dv.get (startR_get e)
    refine ⟨v, ?_, h2⟩
    have hi : i < vs.length := (List.getElem?_eq_some_iff.mp h1).1
    show (vs.map some ++ List.replicate (N.length - vs.length) none)[i]? = some (some v)
    rw [List.getElem?_append_left (by rw [List.length_map]; exact hi), List.getElem?_map, h1]
    rfl
  · show (vs.map some ++ List.replicate (N.length - vs.length) none).length = (startR N.length rs).length
    rw [startR_length, List.length_append, List.length_map, List.length_replicate]
    omega
def tCallP (sp : Sp) (t : TA) : TE := fun σ H Q => t σ H fun vs H1 => sp vs H1 Q noX
section
variable {c : Cn} {X : Cx} {C : Addr} {p : Addr × Obj}
theorem de_callP {k : Nat} {ps : List Str} {sp : Addr → DSp} {x : Str} {p1 pos : Pos} {e : Expr} {es : List Expr} {ta : TA} {Ta : DTA} (D : DefP X.prog X.w c.K X.mg X.base c.Ps k x ps C sp) (hK : X.K = c.K) (hr : L2H.RoomH k X.A) (q : Held X C p) (hg : Gl X x)
    (ha : DA c X (e :: es) ta Ta) (hdb : (x == ("__debug__" : Str)) = false := by decide) (he : starEach (e :: es) X.env = (false, eval e X.env) :: starEach es X.env := by rfl) (hpl : (backTo pos (starEach es X.env)).any (·.1) = false := by rfl) :
    DE c X (.Call (.Name x p1) (e :: es) [] pos) (tCallP (spOf c.K c.Ps (sp p.1)) ta) (dFn0 (sp p.1) Ta) := by
  obtain ⟨f, fd, hm, hk, hb, F⟩ := D.ex
  refine ⟨⟨fun pins s σ H Q I h => ?_⟩, fun Zh F0 Ex L σ H ρ θ Φ Q S h k => ?_⟩
  · refine wpAny_Call_Name_kw (ld_glob I hg hm ?_ hdb)
    refine PySem.W.callWith_K (h₀ := X.base) I.ok.mod.kin (by rw [hK]; exact hk) (thn (ha.pa.run pos pins s σ H _ I h) fun us s2 ⟨vs, H2, I2, r, want⟩ => ⟨I2.kIn, ?_⟩) he hpl
    have pin := I2.pin p (List.mem_append_left _ q.mem)
    have own : L2H.PinOk X.stack H2 s2 p := ⟨pin.1, pin.2.1, fun z => by
      rcases List.mem_cons.mp (I2.stkSub p.1 z) with z | z
      · exact pin.2.2.1 z
      · exact pin.2.2.2.1 z, pin.2.2.2.2⟩
    have n : us.length = ps.length := r.length.symm.trans (F.num _ _ _ _ _ want)
    have b := hb s2 us (by rw [← hK]; exact I2.kIn) (by rw [List.append_nil]; exact n)
    rw [List.append_nil] at b
    have E0 : Env0 X.prog X.w c.K X.mg X.base X.A X.stack s2 H2 := by rw [← hK]; exact I2.env0
    refine wpAny_call (codeAny_mono (F.go p X.A X.stack s2 H2 ⟨us, []⟩ us vs Q q.hot q.cls hr own E0 b r want) fun rr s' hq => ?_)
    match rr, hq with
    | .error _, hq => exact (show False from hq).elim
    | .ok (.ret u), hq => exact I2.after hq
    | .ok .next, hq => exact (show False from hq).elim
    | .ok .brk, hq => exact (show False from hq).elim
    | .ok .cont, hq => exact (show False from hq).elim
  · refine ha.sim Zh F0 Ex L σ H ρ θ _ _ S h fun vs rs H1 θ1 S1 m1 d1 h1 => ?_
    refine ⟨Zh, θ1, rs, S1.here.hs, d1, _, _, h1, fun r θ' hp v H' hs' dv => ?_, fun xd θ' hp cls d H' hs' dx => hp.elim⟩
    exact k v r H' θ' (S1.to (hs'.base S1.hs.old) hs'.old) (m1.trans hs'.old) dv hp
end
end TlD
set_option Elab.async false
set_option linter.all false
set_option maxRecDepth 100000
set_option maxHeartbeats 4000000
namespace TlD
open PySem PySem.Spec PyProof.Rows L2 GxR TlG
/-! ### a comprehension while an exception is held: the block bears the pins of its def -/
abbrev blkH (X : Cx) (s : Shared) (H : Hp) (scope : Scope) (cenv : Env) (fp : List Addr) : Cx := { X.blk s H scope cenv fp with pn := X.pn }
section
variable {X : Cx}
theorem blkH_ok {s : Shared} {H : Hp} {scope : Scope} {cenv : Env} {fp : List Addr} (k : (X.blk s H scope cenv fp).Ok) : (blkH X s H scope cenv fp).Ok := by
  cases k
  constructor <;> assumption
theorem blkH_at {s : Shared} {H : Hp} {scope : Scope} {cenv : Env} {fp : List Addr} {σ : L2.St} {H' : Hp} {s' : Shared} (J : Inv (X.blk s H scope cenv fp) [] σ H' s')
    (pin : ∀ p ∈ X.pn, s'.heap.get? p.1 = some p.2 ∧ H' p.1 = none ∧ p.1 ≠ cenv.locals ∧ p.1 ∉ frs X.stack ∧ ∀ v, p.2.data ≠ .cell v) : Inv (blkH X s H scope cenv fp) [] σ H' s' :=
  ⟨blkH_ok J.ok, J.os, J.bare, J.base, J.loc, J.cell, J.free, J.freeC, fun p hp => pin p (by simpa using hp), J.hok, J.len⟩
theorem pins_low {pins : List (Addr × Obj)} {σ : L2.St} {H : Hp} {s : Shared} (I : Inv X pins σ H s) {p : Addr × Obj} (hp : p ∈ X.pn) : s.heap.get? p.1 = some p.2 ∧ H p.1 = none ∧ p.1 < s.heap.objs.size ∧ p.1 ∉ frs X.stack ∧ ∀ v, p.2.data ≠ .cell v := by
  have q := I.pin p (List.mem_append_left _ hp)
  refine ⟨q.1, q.2.1, Heap.lt_size q.1, fun z => ?_, q.2.2.2.2⟩
  rcases List.mem_cons.mp (I.stkSub p.1 z) with e | e
  · exact q.2.2.1 e
  · exact q.2.2.2.1 e
/-- its turns, from the entry of the block -/
theorem hot_loop {pins : List (Addr × Obj)} {s : Shared} {σ : L2.St} {H : Hp} {Q : VK} {elt tg iter : Expr} {ifs : List Expr} {scope : Scope} {own : List (Str × Nat)} {pos : Pos} {g : TG} {tt : TT} {te : TE} {J : It} {fp : List Addr} {it D : Addr} {tn : Nat → Heap → Prop}
    {W : Nat → Nat → Hp → Prop} {m0 : Nat} {R : Result → Shared → Prop} {cenv : Env}
    (hot : L2H.HotC X) (hN : X.N.Nodup) (ok : BlkOk X.N X.env.scope scope own) (I : Inv X pins σ H s) (T : L2H.TurnH X.prog X.w X.K tg J fp it tn) (st : tn 0 s.heap) (own_ : ∀ b ∈ fp, FpOk X pins H b ∧ b < s.heap.objs.size)
    (ce : compEnvC scope (cellsFrom (s.heap.objs.size + 1) scope.names (cloFrom X.env.cells scope.names [])) s.heap.objs.size X.env = cenv)
    (pg : PG (blkH X s H scope cenv fp) tg g) (pt : PTs (blkH X s H scope cenv fp) ifs tt) (pe : PE (blkH X s H scope cenv fp) elt te)
    (w0 : W 0 m0 H) (turn : ∀ i m H, W i m H → (J.stop i H ∧ Q (.ref D) H) ∨ (J.go i H ∧ ∃ Nx : Hp → Prop, (∀ H', Nx H' → ∃ m', m' < m ∧ W (i + 1) m' H') ∧ ∀ x H', J.yld i H x H' → g x (wipe σ (own.map (·.2))) H' fun σ2 H2 =>
      wipe σ2 (own.map (·.2)) = wipe σ (own.map (·.2)) ∧ tt σ2 H2 fun b H3 => if b = true then te σ2 H3 fun y H4 => ∃ acc, H4 D = some (.lst acc) ∧ acc.length < sizeLine ∧ Nx (upd H4 D (.lst (acc ++ [y]))) else Nx H3))
    (fin : ∀ s' m H', Inv X pins σ H' s' → Q (.ref D) H' → s'.heap.Ns s.heap.objs.size m → FpOk X pins H' s.heap.objs.size → R (.ok .next) s') :
    codeAny (model X.prog X.w) X.A (.compStart (.ListComp elt [⟨tg, iter, ifs, 0⟩] scope pos) 0 (.ref it) (.ref D) cenv) R { s with heap := pushCells (s.heap.push { cls := .type "dict", data := .dict #[] }) scope.names } := by
  have keep : ∀ b o, s.heap.get? b = some o → (pushCells (s.heap.push { cls := .type "dict", data := .dict #[] }) scope.names).get? b = some o := fun b o e => pushCells_keeps _ _ _ _ (Heap.get?_push_of_some _ e)
  have I0 : Inv (X.blk s H scope cenv fp) [] (wipe σ (own.map (·.2))) H { s with heap := pushCells (s.heap.push { cls := .type "dict", data := .dict #[] }) scope.names } := by
    rw [← ce]
    exact block_start I ok hN own_
  have loc : cenv.locals = s.heap.objs.size := by rw [← ce]; rfl
  have I1 : Inv (blkH X s H scope cenv fp) [] (wipe σ (own.map (·.2))) H { s with heap := pushCells (s.heap.push { cls := .type "dict", data := .dict #[] }) scope.names } := blkH_at I0 fun p hp => by
    obtain ⟨a1, a2, a3, a4, a5⟩ := pins_low I hp
    exact ⟨keep _ _ a1, a2, by rw [loc]; exact Nat.ne_of_lt a3, a4, a5⟩
  have hot1 : L2H.HotC (blkH X s H scope cenv fp) := hot
  obtain ⟨sB, eB⟩ : ∃ z : Shared, z = { s with heap := pushCells (s.heap.push { cls := .type "dict", data := .dict #[] }) scope.names } := ⟨_, rfl⟩
  have st1 : tn 0 sB.heap := T.keep _ _ _ st fun b _ o e => by
    rw [eB]
    exact keep b o e
  rw [← eB] at I1 ⊢
  -- the iterator's objects may turn in the block
  have free : ∀ {σ' : L2.St} {H' : Hp} {s' : Shared}, Inv (blkH X s H scope cenv fp) [] σ' H' s' → (∀ b ∈ fp, H' b = none) → ∀ b ∈ fp, FpOk (blkH X s H scope cenv fp) [] H' b := fun {σ' H' s'} J' z b hb =>
    ⟨z b hb, (J'.ok.exf b hb).1, J'.ok.exfs b hb, .inl hb, fun y cl e => (J'.ok.exf b hb).2 y cl e, fun p hp => (own_ b hb).1.2.2.2.2.2 p (List.mem_append_left _ (by simpa using hp))⟩
  have loop : codeAny (model X.prog X.w) X.A (.compLoop (.ListComp elt [⟨tg, iter, ifs, 0⟩] scope pos) 0 (.ref it) (.ref D) cenv) R sB := by
    refine compLoop_any (fun n s' => ∃ (i : Nat) (H' : Hp), Inv (blkH X s H scope cenv fp) [] (wipe σ (own.map (·.2))) H' s' ∧ tn i s'.heap ∧ (∀ b ∈ fp, H' b = none) ∧ W i n H') ?_ m0 ⟨0, H, I1, st1, fun b hb => (own_ b hb).1.1, w0⟩
    intro n s5 ⟨i, H5, I5, st5, n5, w5⟩
    cases turn i n H5 w5 with
    | inl z =>
      refine thnF (T.done (blkH X s H scope cenv fp) rfl rfl rfl hot1 i [] s5 _ H5 (fun _ _ => False) I5 (free I5 n5) st5 z.1) fun r s6 h6 => ?_
      obtain ⟨er, I6⟩ := h6
      subst er
      have back : Inv X pins σ H5 s6 := I.call' (ch := fp) I6.os I6.base I6.hok I6.bare fun b hb => by
        have q := (own_ b hb).1
        exact ⟨q.2.2.2.1, q.2.1, q.2.2.2.2.1, q.2.2.2.2.2⟩
      have gone : H5 s.heap.objs.size = none := by
        have q : H5 cenv.locals = none := I6.free
        rwa [loc] at q
      obtain ⟨m, q, _⟩ := I6.loc
      have q : s6.heap.Ns cenv.locals m := q
      rw [loc] at q
      exact fin s6 m H5 back z.2 q (I.fpOk (Nat.le_refl _) gone)
    | inr z =>
      obtain ⟨go, Nx, next, step⟩ := z
      refine thnF (T.item (blkH X s H scope cenv fp) rfl rfl rfl hot1 i [] s5 _ H5 (fun _ _ => False) I5 (free I5 n5) st5 go) fun r s6 h6 => ?_
      obtain ⟨u, er, h6⟩ := h6
      subst er
      refine thnF h6 fun _ s7 h7 => ?_
      obtain ⟨x, H7, I7, r7, y7, st7, n7⟩ := h7
      have I8 := I7.pinned (free I7 n7) (T.obj _ _ st7)
      refine thnF (pg.run _ s7 _ H7 x u _ I8 r7 (step x H7 y7)) fun _ s9 h9 => ?_
      obtain ⟨σ9, H9, I9, e9, t9⟩ := h9
      -- behind the turn
      have behind : ∀ {s' : Shared} {H' : Hp}, Inv (blkH X s H scope cenv fp) ([] ++ pinsAt fp s7.heap) σ9 H' s' → Nx H' → ∃ m, m < n ∧ ∃ (i : Nat) (H' : Hp), Inv (blkH X s H scope cenv fp) [] (wipe σ (own.map (·.2))) H' s' ∧ tn i s'.heap ∧ (∀ b ∈ fp, H' b = none) ∧ W i m H' := fun {s' H'} J' nx => by
        obtain ⟨m', less, w'⟩ := next H' nx
        have held : ∀ b ∈ fp, ∀ o, s7.heap.get? b = some o → s'.heap.get? b = some o ∧ H' b = none := fun b hb o e => by
          have q := J'.pin (b, o) (List.mem_append_right _ (by simpa using mem_pinsAt hb e))
          exact ⟨q.1, q.2.1⟩
        refine ⟨m', less, i + 1, H', (J'.unpinned (pins := [])).weak (by rw [← e9, wipe_length]) (fun j v e => (wipe_some (by rw [← e9] at e; exact e)).1), T.keep _ _ _ st7 fun b hb o e => (held b hb o e).1, fun b hb => ?_, w'⟩
        obtain ⟨o, e, _⟩ := T.obj _ _ st7 b hb
        exact (held b hb o e).2
      refine thnF (pt.run _ s9 σ9 H9 _ I9 t9) fun b s10 h10 => ?_
      obtain ⟨H10, I10, t10⟩ := h10
      cases b with
      | false =>
        simp only [Bool.false_eq_true, if_false] at t10 ⊢
        exact behind I10 t10
      | true =>
        simp only [if_true] at t10 ⊢
        refine thnF (pe.run _ s10 σ9 H10 _ I10 t10) fun z s11 h11 => ?_
        obtain ⟨y, H11, I11, r11, acc, at11, few, nx⟩ := h11
        exact app_ok (X := blkH X s H scope cenv fp) I11 at11 few r11 fun s12 I12 => behind I12 nx
  exact codeAny_compStart_list loop (T.self X.A 0 _ _ _ st1 loop)
theorem pe_lcH {elt tg iter : Expr} {ifs : List Expr} {scope : Scope} {own : List (Str × Nat)} {pos : Pos} {wi : TI} {g : TG} {tt : TT} {te : TE} (hot : L2H.HotC X) (hN : X.N.Nodup) (hi : L2H.PIH X tg iter wi) (ok : BlkOk X.N X.env.scope scope own)
    (hg : ∀ (s : Shared) (H : Hp) (B : Addr) (cl : List (Str × Addr)) (fp : List Addr), PG (blkH X s H scope (compEnvC scope cl B X.env) fp) tg g) (ht : ∀ (s : Shared) (H : Hp) (B : Addr) (cl : List (Str × Addr)) (fp : List Addr), PTs (blkH X s H scope (compEnvC scope cl B X.env) fp) ifs tt)
    (he : ∀ (s : Shared) (H : Hp) (B : Addr) (cl : List (Str × Addr)) (fp : List Addr), PE (blkH X s H scope (compEnvC scope cl B X.env) fp) elt te) (hs : ∀ x, foldedSetIterable iter X.env x = pure x := by intro _; rfl) :
    PE X (.ListComp elt [⟨tg, iter, ifs, 0⟩] scope pos) (tLc wi g tt te (own.map (·.2))) := by
  refine ⟨fun pins s σ H Q I want => ?_⟩
  rw [eval_ListComp]
  have capt : ∀ y ∈ scope.names, y.2 = .free → ∃ cell, X.env.cells.lookup y.1 = some cell := fun y hy e => by
    cases ok.free y hy e with
    | inl z => exact I.ok.has _ (.inl z)
    | inr z => exact I.ok.has _ (.inr z)
  refine wpAny_comprehension_free rfl hs (closure_ok capt) ok.kind (fun y hy e => (ok.uniq y hy).trans (congrArg some e)) (thn (hi.run pins s σ H _ I want) fun seq s1 h1 => thn h1 fun itv s2 h2 => ?_)
  obtain ⟨it, fp, tn, J, H2, eit, I2, T, st2, free2, more⟩ := h2
  subst eit
  refine wpAny_newObj_type (newEnv_comp ?_) (by show 0 ≤ sizeLine; decide)
  obtain ⟨W, ⟨m0, w0⟩, turn⟩ := more s2.heap.objs.size (I2.hok.fresh (Nat.le_refl _))
  have low : ∀ b ∈ fp, b < s2.heap.objs.size := fun b hb => by
    obtain ⟨o, e, _⟩ := T.obj _ _ st2 b hb
    exact Heap.lt_size e
  obtain ⟨s3, e3⟩ : ∃ z : Shared, z = { s2 with heap := s2.heap.push { cls := .type "list", data := .seq ([] : List Value).toArray } } := ⟨_, rfl⟩
  have h3 : s3.heap = s2.heap.push { cls := .type "list", data := .seq ([] : List Value).toArray } := by rw [e3]
  have I3 : Inv X pins σ (upd H2 s2.heap.objs.size (.lst [])) s3 := by
    rw [e3]
    exact I2.laid (t' := s2.toks) (fun b o e => Heap.get?_push_of_some _ e) (Nat.le_refl _) ⟨Nat.zero_le _, [], 0, .nil, Heap.get?_push_size _ rfl⟩
  rw [← e3]
  refine hot_loop (Q := Q) hot hN ok I3 T (T.keep _ _ _ st2 fun b _ o e => by rw [h3]; exact Heap.get?_push_of_some _ e) (fun b hb => ⟨⟨?_, (free2 b hb).2⟩, ?_⟩) rfl (hg _ _ _ _ _) (ht _ _ _ _ _) (he _ _ _ _ _) w0 turn fun s' m H' I' q ns fo => ?_
  · rw [upd_ne (Nat.ne_of_lt (low b hb))]
    exact (free2 b hb).1
  · rw [h3, Heap.size_push]
    exact Nat.lt_succ_of_lt (low b hb)
  · refine ⟨m, ns, fun h'' same => ?_⟩
    obtain ⟨f0, f1, f2, f3, f4, f5⟩ := fo
    exact ⟨.ref s2.heap.objs.size, H', I'.turned (t' := s'.toks) (fun b o hb e => (same.2 b hb).trans e) f0 f1 f3 f4 f5, rfl, q⟩
end
/-! ### the same over data -/
section
variable {c : Cn} {X : Cx}
structure DIH (c : Cn) (X : Cx) (tg iter : Expr) (wi : TI) (T : DTI) : Prop where
  pi : L2H.PIH X tg iter wi
  sim : SimI c wi T
theorem dih_range1 {tg a : Expr} {ta : TA} {Ta : DTA} {p pos : Pos} (hg : Gl X "range") (hm : X.mg "range" = none) (h : DA c X [a] ta Ta) (hs : starEach [a] X.env = [(false, eval a X.env)] := by rfl) : DIH c X tg (.Call (.Name "range" p) [a] [] pos) (iRng1 ta) (dItR1 Ta) :=
  ⟨L2H.pi_range1H hg hm h.pa hs, (di_range1 (tg := tg) (p := p) (pos := pos) hg hm h hs).sim⟩
theorem de_lcH {elt tg iter : Expr} {ifs : List Expr} {scope : Scope} {own : List (Str × Nat)} {pos : Pos} {wi : TI} {T : DTI} {g : TG} {G : DGt} {tt : TT} {TT : DTT} {te : TE} {TE : DTE} {vs : List Nat} (hot : L2H.HotC X) (hN : X.N.Nodup) (hi : DIH c X tg iter wi T) (ok : BlkOk X.N X.env.scope scope own)
    (hg : ∀ (s : Shared) (H : Hp) (B : Addr) (cl : List (Str × Addr)) (fp : List Addr), DG c (blkH X s H scope (compEnvC scope cl B X.env) fp) tg g G vs) (ht : ∀ (s : Shared) (H : Hp) (B : Addr) (cl : List (Str × Addr)) (fp : List Addr), DTs c (blkH X s H scope (compEnvC scope cl B X.env) fp) ifs tt TT)
    (he : ∀ (s : Shared) (H : Hp) (B : Addr) (cl : List (Str × Addr)) (fp : List Addr), DE c (blkH X s H scope (compEnvC scope cl B X.env) fp) elt te TE) (hv : ∀ v ∈ vs, v ∈ own.map (·.2)) (hs : ∀ x, foldedSetIterable iter X.env x = pure x := by intro _; rfl) :
    PE X (.ListComp elt [⟨tg, iter, ifs, 0⟩] scope pos) (tLc wi g tt te (own.map (·.2))) ∧ NewL c (tLc wi g tt te (own.map (·.2))) (dLc T G TT TE (own.map (·.2))) :=
  ⟨pe_lcH hot hN hi.pi ok (fun s H B cl fp => (hg s H B cl fp).pg) (fun s H B cl fp => (ht s H B cl fp).pts) (fun s H B cl fp => (he s H B cl fp).pe) hs,
    sim_lc hi.sim (hg X.s_0 (fun _ => none) 0 [] []).sim (hg X.s_0 (fun _ => none) 0 [] []).kw (hg X.s_0 (fun _ => none) 0 [] []).mo (ht X.s_0 (fun _ => none) 0 [] []).sim (he X.s_0 (fun _ => none) 0 [] []).sim hv⟩
end
end TlD
set_option Elab.async false
set_option linter.all false
set_option maxRecDepth 100000
set_option maxHeartbeats 4000000
namespace TlD
open PySem PySem.Spec PyProof.Rows L2 GxR TlG
section
variable {X : Cx} {pins : List (Addr × Obj)} {σ : L2.St} {H : Hp} {s : Shared} {i : Nat} {n : Str}
/-- a name's cell is emptied -/
theorem cell_dropped {kc : Addr} {h' : Heap} (I : Inv X pins σ H s) (hN : X.N.Nodup) (hi : X.N[i]? = some n) (hl : X.env.cells.lookup n = some kc) (hf : X.fn n = true) (same : Heap.SameBut kc s.heap h') (empty : h'.IsCell kc none) :
    Inv X pins (σ.set i none) H { s with heap := h' } := by
  have young : ∀ b o, X.s_0.heap.get? b = some o → b ≠ kc := fun b o e z => by
    have a1 := Heap.lt_size e
    have a2 := I.ok.cab n kc hf hl
    rw [z] at a1
    exact absurd (Nat.lt_of_lt_of_le a1 a2) (Nat.lt_irrefl _)
  have out : H kc = none := I.freeC n kc hl
  have away := I.cne
  constructor
  case ok => exact I.ok
  case os => exact I.os
  case bare => exact I.bare
  case base =>
    constructor
    · intro b o e z1 z2 z3
      rw [show h'.get? b = s.heap.get? b from same.2 b (young b o e)]
      exact I.base.keep b o e z1 z2 z3
    · intro b o e z1 z2 z3
      obtain ⟨sl, q⟩ := I.base.slot b o e z1 z2 z3
      exact ⟨sl, (show h'.get? b = s.heap.get? b from same.2 b (young b o e)).trans q⟩
    · exact I.base.free
    · intro b o e z1
      obtain ⟨o2, q⟩ := I.base.there b o e z1
      exact ⟨o2, (show h'.get? b = s.heap.get? b from same.2 b (young b o e)).trans q⟩
    · exact I.base.tups
    · exact I.base.frzs
    · exact I.base.tbls
  case loc =>
    obtain ⟨m, ns, look⟩ := I.loc
    refine ⟨m, ns.sameBut same (Ne.symm (away n kc hl)), fun j y v e1 e2 e3 => ?_⟩
    have ji : j ≠ i := fun z => by
      subst z
      by_cases short : j < σ.length
      · rw [List.getElem?_set_self short] at e2
        cases e2
      · rw [List.getElem?_eq_none (by rw [List.length_set]; omega)] at e2
        cases e2
    rw [List.getElem?_set_ne (fun z => ji z.symm)] at e2
    obtain ⟨u, rv, q⟩ := look j y v e1 e2 e3
    refine ⟨u, rv, ?_⟩
    cases q with
    | inl q => exact .inl q
    | inr q =>
      obtain ⟨k, c2, lk, z⟩ := q
      refine .inr ⟨k, c2, lk, z.sameBut same fun q => ?_⟩
      subst q
      exact ji (nodup_ix hN e1 (by rw [I.ok.inj _ _ _ lk hl]; exact hi))
  case cell =>
    intro y c2 lk
    by_cases q : c2 = kc
    · exact ⟨none, q ▸ empty⟩
    · obtain ⟨v, z⟩ := I.cell y c2 lk
      exact ⟨v, z.sameBut same q⟩
  case free => exact I.free
  case freeC => exact I.freeC
  case pin =>
    intro p hp
    obtain ⟨a1, a2, a3, a4, a5⟩ := I.pin p hp
    refine ⟨?_, a2, a3, a4, a5⟩
    rw [← a1]
    refine same.2 p.1 fun z => ?_
    obtain ⟨v, o, g, d⟩ := I.cell n kc hl
    rw [← z, a1] at g
    cases g
    exact a5 v d
  case hok =>
    intro b ob e
    refine (I.hok b ob e).stay (fun c2 w2 tr q => (same.2 c2 fun z => ?_).trans q) (fun _ q => q) (fun _ _ q => q)
    subst z
    cases tr with
    | inl q => rw [← q, out] at e; cases e
    | inr q => rw [out] at q; cases q
  case len => rw [List.length_set]; exact I.len
/-- the name of an except clause goes, a cell -/
theorem cell_gone {M : Model} {A : Around} {E : Value → Shared → Prop} {pos : Pos} {Q : Unit → Shared → Prop} (I : Inv X pins σ H s) (hN : X.N.Nodup) (hi : X.N[i]? = some n) (hk : X.env.scope.names.lookup n = some .cell) (hf : X.fn n = true)
    (h : ∀ s', Inv X pins (σ.set i none) H s' → Q () s') : wpAny M A (do bindName X.env n .none; unbindBehindTheSuite X.env n pos) Q E s := by
  have short : i < σ.length := by
    rw [I.len]
    exact (List.getElem?_eq_some_iff.mp hi).1
  refine wpAny_bind (wpAny_bindName (store_ok (v := .non) (u := Value.none) I hN hi (.inr hk) rfl (fun s1 I1 => ?_) (.inl hf)))
  obtain ⟨m, _, look⟩ := I1.loc
  obtain ⟨u, _, q⟩ := look i n .non hi (List.getElem?_set_self short) (.inr (.inl hk))
  have hk' : X.env.kindOf n = some .cell := hk
  cases q with
  | inl q => rw [hk'] at q; cases q.1
  | inr q =>
    obtain ⟨_, kc, lk, z⟩ := q
    unfold unbindBehindTheSuite
    refine wpAny_onRaise (PySem.W.ksm_unbind_cell (.inl hk') lk z fun h' empty same => ?_)
    refine h _ ?_
    have J := cell_dropped I1 hN hi lk hf same empty
    rwa [List.set_set] at J
end
/-! ### try: .. except X as n: a suite that returns -/
def wRet (K : PySem.W.Frag) (cls0 : Value) (i : Nat) (ts : Addr → Value → Option Addr → TS) (D : Ends) : WX := fun cls d σ H =>
  PySem.W.exmOne K cls cls0 = some true ∧ ∀ a, H a = none → ts a cls d { nx := fun _ _ => False, rt := D.rt } (σ.set i (some (.ref a))) H
section
variable {X : Cx} {x n : Str} {cv : Value} {i : Nat} {body suite : List Stmt} {b0 : Stmt} {np pos pos' : Pos} {tb : WX → TS} {ts : Addr → Value → Option Addr → TS}
theorem ps_tryRet (hs : X.stack = X.env :: X.outer) (hf : X.env.frame = some X.env.locals) (hN : X.N.Nodup) (hi : X.N[i]? = some n) (hk : X.env.scope.names.lookup n = some .cell) (hfn : X.fn n = true) (hc : Names X x cv)
    (hb : ∀ (W : WX) (pn : List (Addr × Obj)) (xe : Value → Shared → Prop), L2N.Takes (X.tr pn xe) W → PassesOwn (model X.prog X.w) X.A X.env xe → PSs (X.tr pn xe) body (tb W))
    (hsu : ∀ (a : Addr) (oe : Obj) (cls : Value) (d : Option Addr) (pn : List (Addr × Obj)), L2N.Zn cls d oe → (∃ vs, oe.data = .fields vs) → PSs (X.suite a ((a, oe) :: pn)) (b0 :: suite) (ts a cls d)) :
    PS X (.Try body [.ExceptHandler (some (.Name x np)) (some n) (b0 :: suite) pos'] [] [] pos) (fun D σ H => tb (wRet X.K cv i ts D) D σ H) := by
  refine ⟨fun pins s σ H D I h => wpAny_Try_except ?_⟩
  have running : X.A.frames = some (X.env :: X.outer) := I.ok.frames.trans (congrArg some hs)
  refine wpAny_mono ((hb (wRet X.K cv i ts D) (X.pn ++ pins) _ (fun u s1 air => ?caught) PassesOwn.looking).run [] s σ H D (I.toTry _) h) (fun f s1 end_ => ?ended) fun _ _ z => z
  case ended =>
    match f, end_ with
    | .next, ⟨σ1, H1, I1, q⟩ => exact wpAny_execs_nil ⟨σ1, H1, I1.ofTry I.ok, q⟩
    | .brk, ⟨σ1, H1, I1, q⟩ => exact ⟨σ1, H1, I1.ofTry I.ok, q⟩
    | .cont, ⟨σ1, H1, I1, q⟩ => exact ⟨σ1, H1, I1.ofTry I.ok, q⟩
    | .ret u, ⟨v, σ1, H1, I1, rv, q⟩ => exact ⟨v, σ1, H1, I1.ofTry I.ok, rv, q⟩
  case caught =>
    obtain ⟨a, B, sI, pins1, σ1, H1, cls, d, eu, J0, nb, up, sky, na, os, ag, hit, want⟩ := air
    subst eu
    have J := J0.ofTry I.ok
    -- the object is no frame
    have noFrame : ∀ {g : Heap} {o : Obj} {vs : Array Value}, g.FunFrames B (X.env :: X.outer) → g.get? a = some o → o.data = .fields vs → a ≠ X.env.locals ∧ a ∉ X.fs := fun {g o vs} ff e dd => by
      have q : a ∉ frs (X.env :: X.outer) := fun z => by
        obtain ⟨_, o2, e2, nd⟩ := ff.mem z
        cases e.symm.trans e2
        exact nd _ dd
      refine ⟨fun z => q ?_, fun z => q ?_⟩
      · exact List.mem_filterMap.mpr ⟨X.env, List.mem_cons_self, by rw [hf, z]⟩
      · obtain ⟨env, h1, h2⟩ := List.mem_filterMap.mp z
        exact List.mem_filterMap.mpr ⟨env, List.mem_cons_of_mem _ h1, h2⟩
    show wpAny (model X.prog X.w) X.A (noteFrame (.ref a) X.env) _ _ _
    refine L2N.Sky.land L2N.Zn.steady running hf (by rw [← hs]; exact sky) fun g fl upg => ?_
    obtain ⟨oe, vs, there, known, dd⟩ := fl.there
    obtain ⟨nl, nf⟩ := noFrame fl.2.2.1 there dd
    have Ig : Inv X pins σ1 H1 { s1 with heap := g } := J.landed (s' := { s1 with heap := g }) nb fl.1 (up.trans upg) os ag
    have Sg := Ig.suite there dd na nl nf
    refine wpAny_handleBy_cons (codeAny_handlers_test ?_) (fun q => nomatch q)
    have isOf : PySem.W.Looks (model X.prog X.w) g (typeOf (.ref a)) cls := fun A Q E s2 k q => wpAny_typeOf_ref (k _ _ there) (by rw [known.1]; exact q)
    have asks := PySem.W.exm_one (M := model X.prog X.w) Ig.kIn isOf hit
    have named : ∀ {Q : Value → Shared → Prop} {E : Value → Shared → Prop}, Q cv { s1 with heap := g } → wpAny (model X.prog X.w) (X.A.mark (some (.ref a))) (eval (.Name x np) X.env) Q E { s1 with heap := g } := fun {Q E} q => by
      obtain ⟨h1, h2, h3⟩ := hc
      cases h3 with
      | inl z => exact ld_glob (X := X.suite a ((a, oe) :: (X.pn ++ pins))) Sg h1 z q h2
      | inr z => exact ld_blt (X := X.suite a ((a, oe) :: (X.pn ++ pins))) Sg h1 z.1 z.2.1 q z.2.2 h2
    refine named (asks.here (codeAny_handlers_suite_as ?_))
    refine HandSPX.lands_againZ fl fun g2 fl2 up2 => ?_
    obtain ⟨oe2, vs2, there2, known2, dd2⟩ := fl2.there
    obtain ⟨nl2, nf2⟩ := noFrame fl2.2.2.1 there2 dd2
    have I2 : Inv X pins σ1 H1 { s1 with heap := g2 } := J.landed (s' := { s1 with heap := g2 }) nb fl2.1 ((up.trans upg).trans up2) os ag
    refine store_ok (X := X.suite a ((a, oe2) :: (X.pn ++ pins))) (v := .ref a) (I2.suite there2 dd2 na nl2 nf2) hN hi (.inr hk) rfl (fun s3 S3 => ?_) (.inl hfn)
    refine wpAny_mono ((hsu a oe2 cls d (X.pn ++ pins) known2 ⟨_, dd2⟩).run [] s3 _ H1 _ S3 (want a na)) (fun f s4 end_ => ?_) fun _ _ z => z.elim
    match f, end_ with
    | .next, ⟨_, _, _, q⟩ => exact q.elim
    | .brk, ⟨_, _, _, q⟩ => exact q.elim
    | .cont, ⟨_, _, _, q⟩ => exact q.elim
    | .ret u, ⟨v, σ4, H4, S4, rv, q⟩ => exact cell_gone (S4.unsuite I.ok) hN hi hk hfn fun s5 I5 => ⟨v, _, H4, I5, rv, q⟩
end
/-! ### the same over data -/
/-- mk tells what the suite gives for a class -/
def dTry (i : Nat) (mk : Addr → D → Prop) (Tb : DTS) : DTS := fun E ρ θ =>
  Tb { E with ex := fun xd ρ1 θ1 => ∃ C m, xd = .plain C ∧ mk C m ∧ (∀ a, nth (put ρ1 i (.own a)) i = some (.own a)) ∧ E.rt (.d m) θ1 } ρ θ
def noW : WX := fun _ _ _ _ => False
def tSuite (X : Cx) (suite : List Stmt) (mk : Addr → D → Prop) : Addr → Value → Option Addr → TS := fun a cls d D σ H =>
  ∃ C m, cls = .ref C ∧ d = none ∧ mk C m ∧ ∀ oe pn, Held (X.suite a ((a, oe) :: pn)) C (a, oe) → ∃ t, PSs (X.suite a ((a, oe) :: pn)) suite t ∧ t D σ H
section
variable {c : Cn} {X : Cx} {x n : Str} {cv : Value} {i : Nat} {body suite : List Stmt} {b0 : Stmt} {np pos pos' : Pos} {tb : WX → TS} {Tb : DTS} {mk : Addr → D → Prop}
theorem ds_tryRet (hs : X.stack = X.env :: X.outer) (hf : X.env.frame = some X.env.locals) (hN : X.N.Nodup) (hi : X.N[i]? = some n) (hk : X.env.scope.names.lookup n = some .cell) (hfn : X.fn n = true) (hc : Names X x cv)
    (hb : ∀ (W : WX) (pn : List (Addr × Obj)) (xe : Value → Shared → Prop), L2N.Takes (X.tr pn xe) W → PassesOwn (model X.prog X.w) X.A X.env xe → DSs ⟨c.K, c.Ps, W⟩ (X.tr pn xe) body (tb W) Tb)
    (hsu : ∀ (a : Addr) (oe : Obj) (C : Addr) (m : D) (pn : List (Addr × Obj)), mk C m → Held (X.suite a ((a, oe) :: pn)) C (a, oe) → ∃ t T, DSs ⟨c.K, c.Ps, noW⟩ (X.suite a ((a, oe) :: pn)) (b0 :: suite) t T ∧
      ∀ (E : DEnds) ρ θ, nth ρ i = some (.own a) → E.rt (.d m) θ → T E ρ θ) (hx : ∀ C m, mk C m → PySem.W.exmOne X.K (.ref C) cv = some true) :
    DS c X (.Try body [.ExceptHandler (some (.Name x np)) (some n) (b0 :: suite) pos'] [] [] pos) (fun D σ H => tb (wRet X.K cv i (tSuite X (b0 :: suite) mk) D) D σ H) (dTry i mk Tb) := by
  refine ⟨ps_tryRet hs hf hN hi hk hfn hc (fun W pn xe tk hp => (hb W pn xe tk hp).ps) fun a oe cls d pn kn fl => ⟨fun pins s σ H D I h => ?_⟩, fun Zh F0 E D L O σ H ρ θ S h => ?_⟩
  · obtain ⟨C, m, e1, e2, hm, h⟩ := h
    subst e1 e2
    obtain ⟨vs, dv⟩ := fl
    obtain ⟨t, run, q⟩ := h oe pn ⟨⟨rfl, vs, dv, kn.2.2 vs dv⟩, kn.zc, List.mem_cons_self⟩
    exact run.run pins s σ H D I q
  · let xe0 : Value → Shared → Prop := fun u s1 => wpAny (model X.prog X.w) X.A (noteFrame u X.env) (fun _ s2 => wpAny (model X.prog X.w) X.A (setFlight u none) (fun _ _ => True) (fun _ _ => True) s2) (fun _ _ => True) s1
    have tk : ∀ W, L2N.Takes (X.tr [] xe0) W := fun W u s1 air => by
      obtain ⟨a, B, sI, pins1, σ1, H1, cls, d, eu, J0, nb, up, sky, _⟩ := air
      subst eu
      exact L2N.Sky.land L2N.Zn.steady (J0.ok.frames.trans (congrArg some hs)) hf (by rw [← hs]; exact sky) fun _ _ _ => trivial
    have sim := (hb (wRet X.K cv i (tSuite X (b0 :: suite) mk) D) [] xe0 (tk _) PassesOwn.looking).sim
    refine sim Zh F0 { E with ex := fun xd ρ1 θ1 => ∃ C m, xd = .plain C ∧ mk C m ∧ (∀ a, nth (put ρ1 i (.own a)) i = some (.own a)) ∧ E.rt (.d m) θ1 } D (fun cls d σ1 H1 ρ1 θ1 xd S1 x1 h1 => ?_) ⟨O.nx, O.rt, O.bk, O.ct⟩ σ H ρ θ S h
    obtain ⟨C, m, e1, hm, slot, q⟩ := h1
    subst e1
    obtain ⟨e2, e3⟩ := x1
    subst e2 e3
    refine ⟨hx C m hm, fun a na => ⟨C, m, rfl, rfl, hm, fun oe pn held => ?_⟩⟩
    obtain ⟨t, T, ds, rd⟩ := hsu a oe C m pn hm held
    refine ⟨t, ds.ps, ds.sim Zh F0 { nx := fun _ _ => False, rt := E.rt, ex := fun _ _ _ => False } { nx := fun _ _ => False, rt := D.rt } (fun _ _ _ _ _ _ _ _ _ z => z.elim) ⟨fun _ _ _ _ _ z => z.elim, O.rt, fun _ _ _ _ _ z => z.elim, fun _ _ _ _ _ z => z.elim⟩ _ H1 (put ρ1 i (.own a)) θ1 ?_ (rd _ _ _ (slot a) q)⟩
    rw [put_set]
    exact S1.set rfl
end
end TlD
set_option Elab.async false
set_option linter.all false
set_option maxRecDepth 100000
set_option maxHeartbeats 4000000
namespace TlD
open PySem PySem.Spec PyProof.Rows L2 GxR TlG
/-! ### the laws' marks of a caught error: which of eight classes it is of -/
structure ClsX (K : PySem.W.Frag) (C : Addr) (j : Nat) : Prop where
  few : j < 8
  exc : ExcC K C
  top : PySem.W.kitOne K (.ref C) (.ref (He.ga K "TurnError")) = some true
  val : PySem.W.kitOne K (.ref C) (.type "ValueError") = some true
  is0 : PySem.W.kitOne K (.ref C) (.ref (He.ga K "NoWeb")) = some (decide (j = 0))
  is1 : PySem.W.kitOne K (.ref C) (.ref (He.ga K "NoWord")) = some (decide (j = 1))
  is2 : PySem.W.kitOne K (.ref C) (.ref (He.ga K "NoPlace")) = some (decide (j = 2))
  is3 : PySem.W.kitOne K (.ref C) (.ref (He.ga K "NoNumber")) = some (decide (j = 3))
  is4 : PySem.W.kitOne K (.ref C) (.ref (He.ga K "NoRun")) = some (decide (j = 4))
  is5 : PySem.W.kitOne K (.ref C) (.ref (He.ga K "TooMany")) = some (decide (j = 5))
  is6 : PySem.W.kitOne K (.ref C) (.ref (He.ga K "NoLine")) = some (decide (j = 6))
  is7 : PySem.W.kitOne K (.ref C) (.ref (He.ga K "NoText")) = some (decide (j = 7))
  hit : PySem.W.exmOne K (.ref C) (.ref (He.ga K "TurnError")) = some true
theorem roomH_units {k : Nat} {A : Around} (r : L2H.RoomH k A) : A.units + 64 < cLine := by
  have := r.un
  omega
def marks (j : Nat) : List D := [.bool (decide (j = 0)), .bool (decide (j = 1)), .bool (decide (j = 2)), .bool (decide (j = 3)), .bool (decide (j = 4)), .bool (decide (j = 5)), .bool (decide (j = 6)), .bool (decide (j = 7))]
def sp__law_classes (j : Nat) : Addr → DSp := fun a rs θ Φ _ => rs = [.own a] ∧ Φ (.d (.list (marks j))) θ
def T__law_classes (j : Nat) (a : Addr) : DTS :=
  dSeq (dSet 1 (dLst (dCons (dIsH a (decide (j = 0)) (dVar 0)) (dCons (dIsH a (decide (j = 1)) (dVar 0)) (dCons (dIsH a (decide (j = 2)) (dVar 0)) (dCons (dIsH a (decide (j = 3)) (dVar 0)) dNil))))))
    (dSeq (dSet 1 (dOp fAdd (dVar 1) (dLst (dCons (dIsH a (decide (j = 4)) (dVar 0)) (dCons (dIsH a (decide (j = 5)) (dVar 0)) (dCons (dIsH a (decide (j = 6)) (dVar 0)) (dCons (dIsH a (decide (j = 7)) (dVar 0)) dNil))))))) (dRet (dVar 1)))
theorem ln__law_classes (j : Nat) (a : Addr) (rs : List RV) (θ : Th) (Φ : RK) (Ex : XD → Th → Prop) (h : sp__law_classes j a rs θ Φ Ex) : rs.length = 1 := by
  obtain ⟨rfl, _⟩ := h
  rfl
theorem rd__law_classes (j : Nat) (a : Addr) (rs : List RV) (θ : Th) (Φ : RK) (Ex : XD → Th → Prop) (h : sp__law_classes j a rs θ Φ Ex) : T__law_classes j a { nx := fun _ θ' => Φ (.d .none) θ', rt := Φ, ex := fun _ _ _ => False } (startR 2 rs) θ := by
  obtain ⟨rfl, h⟩ := h
  refine ⟨rfl, rfl, rfl, rfl, by show 4 ≤ 1000; decide, rfl, rfl, rfl, rfl, by show 4 ≤ 1000; decide, ?_, h⟩
  unfold small
  simp
def sp__law_only (j : Nat) : Addr → DSp := fun a rs θ Φ _ => ∃ i : Nat, i < 8 ∧ rs = [.own a, .d (.int i)] ∧ Φ (.d (.bool (decide (j = i)))) θ
def T__law_only (j : Nat) (a : Addr) : DTS :=
  dSeq (dIfS (dOr (dNot (dTest (dIsH a true (dVar 0)))) (dNot (dTest (dIsH a true (dVar 0))))) (dRet (dC (.bool false))) dNext)
    (dRet (dOp fEq (dFn0 (sp__law_classes j a) (dCons (dVar 0) dNil)) (dNewP (dLc (dItR1 (dCons (dC (.int 8)) dNil)) (gN 2) dYes (dOp fEq (dVar 2) (dVar 1)) [2]))))
theorem ln__law_only (j : Nat) (a : Addr) (rs : List RV) (θ : Th) (Φ : RK) (Ex : XD → Th → Prop) (h : sp__law_only j a rs θ Φ Ex) : rs.length = 2 := by
  obtain ⟨i, _, rfl, _⟩ := h
  rfl
theorem only_lc (a : Addr) (i : Nat) (hi : i < 8) (Φ : List D → Th → Prop) (θ : Th) (h : Φ (marks i) θ) :
    dLc (dItR1 (dCons (dC (.int 8)) dNil)) (gN 2) dYes (dOp fEq (dVar 2) (dVar 1)) [2] noEx [some (.own a), some (.d (.int i)), none] θ Φ := by
  refine ⟨by unfold rOk; decide, ?_⟩
  refine lcD_map (fun d => some (.bool (PyData.eqv d (.int i)))) _ [] (fun d hd k1 k0 q => ?_) (by decide) ?_
  · obtain ⟨z, _, rfl⟩ := List.mem_map.mp hd
    exact ⟨⟨rfl, rfl⟩, ⟨rfl, rfl⟩, q⟩
  · have e : ([] : List D) ++ (rangeD 0 8).filterMap (fun d => some (PyData.bool (PyData.eqv d (.int i)))) = marks i := by
      rcases i with _ | _ | _ | _ | _ | _ | _ | _ | i
      all_goals first
        | rfl
        | omega
    rw [e]
    exact h
theorem rd__law_only (j : Nat) (hj : j < 8) (a : Addr) (rs : List RV) (θ : Th) (Φ : RK) (Ex : XD → Th → Prop) (h : sp__law_only j a rs θ Φ Ex) : T__law_only j a { nx := fun _ θ' => Φ (.d .none) θ', rt := Φ, ex := fun _ _ _ => False } (startR 3 rs) θ := by
  obtain ⟨i, hi, rfl, h⟩ := h
  refine ⟨rfl, rfl, rfl, only_lc a i hi _ _ ?_⟩
  have ok : ∀ k, k < 8 → eqOk (.list (marks k)) := fun k hk => by
    rcases k with _ | _ | _ | _ | _ | _ | _ | _ | k
    all_goals first
      | exact ⟨rfl, rfl⟩
      | omega
  have e : PyData.eqv (.list (marks j)) (.list (marks i)) = decide (j = i) := by
    rcases j with _ | _ | _ | _ | _ | _ | _ | _ | j <;> rcases i with _ | _ | _ | _ | _ | _ | _ | _ | i
    all_goals first
      | rfl
      | omega
  refine ⟨ok j hj, ok i hi, ?_⟩
  rw [e]
  exact h
/-! the suite: [n for n in range(8) if only(e, n)], e at slot ie, n at slot in -/
def T_suite (j ie ik : Nat) (a : Addr) : DTS := dRet (dNewP (dLc (dItR1 (dCons (dC (.int 8)) dNil)) (gN ik) (dTest (dFn0 (sp__law_only j a) (dCons (dVar ie) (dCons (dVar ik) dNil)))) (dVar ik) [ik]))
theorem dVar_at {i : Nat} {r : RV} {Ex : ExW} {ρ : Rho} {θ : Th} {Φ : RK} (h : nth ρ i = some r) (q : Φ r θ) : dVar i Ex ρ θ Φ := by
  unfold dVar
  rw [h]
  exact q
theorem rd_suite {j ie ik : Nat} {a : Addr} (hj : j < 8) {E : DEnds} {ρ : Rho} {θ : Th} (hie : ∀ n, nth (put (unset ρ ik) ik (.d (.int n))) ie = some (.own a)) (hik : ∀ n, nth (put (unset ρ ik) ik (.d (.int n))) ik = some (.d (.int n))) (h : E.rt (.d (.list [.int j])) θ) : T_suite j ie ik a E ρ θ := by
  refine ⟨by unfold rOk; decide, ?_⟩
  refine lcD_map (fun d => match d with | .int i => if (j : Int) = i then some (.int i) else none | _ => none) _ [] (fun d hd k1 k0 q => ?_) (by decide) ?_
  · obtain ⟨z, hz, rfl⟩ := List.mem_map.mp hd
    have hz : z < 8 := by simpa using List.mem_range.mp hz
    have e0 : (0 : Int) + (z : Int) = (z : Int) := Int.zero_add _
    rw [e0] at q ⊢
    have ew : wipeR ρ [ik] = unset ρ ik := rfl
    rw [ew]
    unfold gN dTest dFn0 dCons dNil
    refine dVar_at (hie _) ?_
    refine dVar_at (hik _) ?_
    refine ⟨z, hz, rfl, ?_⟩
    show (if decide (j = z) = true then _ else _)
    by_cases c : j = z
    · rw [if_pos (by simpa using c)]
      refine dVar_at (hik _) ?_
      simp only [c, if_true] at q
      exact q
    · rw [if_neg (by simpa using c)]
      have c' : ¬ (j : Int) = (z : Int) := fun e => c (Int.ofNat.inj e)
      simp only [c', if_false] at q
      exact q
  · have e : ([] : List D) ++ (rangeD 0 8).filterMap (fun d => match d with | .int i => if (j : Int) = i then some (.int i) else none | _ => none) = [.int j] := by
      rcases j with _ | _ | _ | _ | _ | _ | _ | _ | j
      all_goals first
        | rfl
        | omega
    rw [e]
    exact h
theorem roomH_mark {k : Nat} {A : Around} {v : Option Value} (r : L2H.RoomH k A) : L2H.RoomH k (A.mark v) := ⟨r.dp, r.un⟩
theorem held_blk {X : Cx} {C : Addr} {p : Addr × Obj} {s : Shared} {H : Hp} {scope : Scope} {cenv : Env} {fp : List Addr} (q : Held X C p) : Held (blkH X s H scope cenv fp) C p := ⟨q.hot, q.cls, q.mem⟩
/-! ### the classes, as they stand in the written part -/
def excB (K : PySem.W.Frag) (C : Addr) : Bool :=
  He.eqO (PySem.W.findIn K (.ref C) "__getattribute__") (some (some (.builtin "BaseException.__getattribute__"))) && (He.eqO (PySem.W.findIn K (.ref C) "__getattr__") (some none) && (decide (PySem.W.subIn K (.ref C) (.type "BaseException") = some true) &&
    (PySem.W.hasDictIn K C && (He.eqO (PySem.W.findIn K (.ref C) "__class__") (some (some (.builtin "object.__class__"))) && (He.eqO (PySem.W.specialIn K (.builtin "object.__class__") "__get__") (some (some (.builtin "getset_descriptor.__get__"))) &&
      (decide (PySem.W.takesIn K (.builtin "object.__class__") = some true) && decide (PySem.W.mroIn K C (.type "object") = some true)))))))
theorem excC_of {K : PySem.W.Frag} {C : Addr} (h : excB K C = true) : ExcC K C := by
  unfold excB at h
  simp only [Bool.and_eq_true, decide_eq_true_eq] at h
  obtain ⟨h1, h2, h3, h4, h5, h6, h7, h8⟩ := h
  exact ⟨He.eqO_ok h1, He.eqO_ok h2, h3, h4, He.eqO_ok h5, He.eqO_ok h6, h7, h8⟩
def isB (K : PySem.W.Frag) (C : Addr) (y : Str) (b : Bool) : Bool := decide (PySem.W.kitOne K (.ref C) (.ref (He.ga K y)) = some b)
def clsB (K : PySem.W.Frag) (q : Str × Nat) : Bool :=
  decide (q.2 < 8) && (excB K (He.ga K q.1) && (isB K (He.ga K q.1) "TurnError" true && (decide (PySem.W.kitOne K (.ref (He.ga K q.1)) (.type "ValueError") = some true) &&
    (isB K (He.ga K q.1) "NoWeb" (decide (q.2 = 0)) && (isB K (He.ga K q.1) "NoWord" (decide (q.2 = 1)) && (isB K (He.ga K q.1) "NoPlace" (decide (q.2 = 2)) && (isB K (He.ga K q.1) "NoNumber" (decide (q.2 = 3)) &&
      (isB K (He.ga K q.1) "NoRun" (decide (q.2 = 4)) && (isB K (He.ga K q.1) "TooMany" (decide (q.2 = 5)) && (isB K (He.ga K q.1) "NoLine" (decide (q.2 = 6)) && (isB K (He.ga K q.1) "NoText" (decide (q.2 = 7)) &&
        decide (PySem.W.exmOne K (.ref (He.ga K q.1)) (.ref (He.ga K "TurnError")) = some true))))))))))))
theorem clsX_of {K : PySem.W.Frag} {q : Str × Nat} (h : clsB K q = true) : ClsX K (He.ga K q.1) q.2 := by
  unfold clsB isB at h
  simp only [Bool.and_eq_true, decide_eq_true_eq] at h
  obtain ⟨h1, h2, h3, h4, h5, h6, h7, h8, h9, h10, h11, h12, h13⟩ := h
  exact ⟨h1, excC_of h2, h3, h4, h5, h6, h7, h8, h9, h10, h11, h12, h13⟩
/-- what the suite gives -/
def mkC (E : Str → Addr) (cs : List (Str × Nat)) : Addr → D → Prop := fun C m => ∃ q ∈ cs, C = E q.1 ∧ m = .list [.int q.2]
/-- the slots in the suite: the error's behind the number's -/
theorem nth_len : ∀ {ρ : Rho} {i : Nat} {r : RV}, nth ρ i = some r → i < ρ.length
  | [], _, _, h => by cases h
  | _ :: _, 0, _, _ => Nat.succ_pos _
  | _ :: t, i + 1, r, h => Nat.succ_lt_succ (nth_len (ρ := t) (i := i) (r := r) h)
theorem nth_put : ∀ {ρ : Rho} {i : Nat} {r : RV}, i < ρ.length → nth (put ρ i r) i = some r
  | [], _, _, h => by cases h
  | _ :: _, 0, _, _ => rfl
  | _ :: t, i + 1, r, h => nth_put (ρ := t) (i := i) (r := r) (Nat.lt_of_succ_lt_succ h)
theorem nth_puts : ∀ {ρ : Rho} {i j : Nat} {r : RV}, i ≠ j → nth (put (unset ρ j) j r) i = nth ρ i
  | [], _, _, _, _ => rfl
  | _ :: _, 0, 0, _, h => absurd rfl h
  | _ :: _, 0, _ + 1, _, _ => rfl
  | _ :: _, _ + 1, 0, _, _ => rfl
  | _ :: t, i + 1, j + 1, r, h => nth_puts (ρ := t) (i := i) (j := j) (r := r) fun e => h (congrArg (· + 1) e)
theorem unset_len : ∀ (ρ : Rho) (i : Nat), (unset ρ i).length = ρ.length
  | [], _ => rfl
  | _ :: _, 0 => rfl
  | _ :: t, i + 1 => congrArg (· + 1) (unset_len t i)
theorem rd_suite_at {j ie ik : Nat} {a : Addr} (hj : j < 8) (hlt : ik < ie) {E : DEnds} {ρ : Rho} {θ : Th} (h1 : nth ρ ie = some (.own a)) (h : E.rt (.d (.list [.int j])) θ) : T_suite j ie ik a E ρ θ :=
  rd_suite hj (fun n => (nth_puts (Nat.ne_of_gt hlt)).trans h1) (fun n => nth_put (by rw [unset_len]; exact Nat.lt_trans hlt (nth_len h1))) h
end TlD
set_option Elab.async false
set_option linter.all false
set_option maxRecDepth 100000
set_option maxHeartbeats 4000000
namespace TlD
open PySem PySem.Spec PyProof.Rows L2 GxR TlG
/-! ### data whose repr is short, put together -/
structure Fit (n w : Nat) (d : D) : Prop where
  fl : flatD d = true
  sh : PyData.showable d = true
  dp : PyData.depth d ≤ n
  lv : PyData.leavesShort 8 d = true
  wt : PyData.weight d ≤ w
theorem Fit.ok {n w : Nat} {d : D} (h : Fit n w d) (hn : n ≤ 64 := by decide) (hw : w ≤ 1048576 := by decide) : shownOk d :=
  ⟨h.fl, h.sh, Nat.le_trans h.dp hn, PyData.shown_fits (B := 8) (by decide) (by decide) h.lv (Nat.le_trans h.wt hw)⟩
theorem ties_depth : ∀ l : List (Int × Int), PyData.depthAll (l.map tieD) ≤ 1
  | [] => Nat.zero_le _
  | p :: l => by
    have ih := ties_depth l
    show max (PyData.depth (tieD p)) (PyData.depthAll (l.map tieD)) ≤ 1
    have e : PyData.depth (tieD p) = 1 := rfl
    omega
theorem fit_web {m : Nat} {l : List (Int × Int)} (hm : m ≤ 6) (hl : l.Sublist (pairs m)) : Fit 3 1000 (webD m l) := by
  obtain ⟨a1, a2, a3⟩ := ties_cases hm fun p hp => hl.subset hp
  obtain ⟨b1, b2, b3⟩ := six_cases hm
  have len : l.length ≤ 15 := Nat.le_trans hl.length_le (pairs_len hm)
  refine ⟨(eqOk_webD m l).1, ?_, ?_, ?_, ?_⟩
  · simp only [webD, PyData.showable, PyData.showableAll] at b1 a1 ⊢
    simp only [a1, b1, Bool.and_self]
  · have := ties_depth l
    show max 0 (max (PyData.depthAll (l.map tieD) + 1) 0) + 1 ≤ 3
    omega
  · simp only [webD, PyData.leavesShort, PyData.leavesShortAll] at b2 a2 ⊢
    simp only [a2, b2, Bool.and_self]
  · show PyData.weight (.int (m : Int)) + 1 + (PyData.weightAll (l.map tieD) + 1 + 0) ≤ 1000
    omega
theorem fit_text {x : Str} (h : x.length ≤ 1000) (hc : ∀ c ∈ x.cps.toList, c < 128) : Fit 0 1000 (.str x) := by
  refine ⟨rfl, by simp only [PyData.showable], Nat.le_refl _, ?_, h⟩
  simp only [PyData.leavesShort, List.all_eq_true, decide_eq_true_eq]
  intro c hcx
  have := hc c hcx
  have e : (16 : Nat) ^ 8 = 4294967296 := by decide
  omega
theorem fit_nat {i : Nat} (h : i ≤ 6) : Fit 0 3 (.int (i : Int)) := by
  obtain ⟨b1, b2, b3⟩ := six_cases h
  exact ⟨rfl, b1, Nat.le_refl _, b2, b3⟩
theorem fit_all {n w : Nat} : ∀ {ds : List D}, (∀ d ∈ ds, Fit n w d) → flatDs ds = true ∧ PyData.showableAll ds = true ∧ PyData.depthAll ds ≤ n ∧ PyData.leavesShortAll 8 ds = true ∧ PyData.weightAll ds ≤ (w + 1) * ds.length
  | [], _ => ⟨rfl, rfl, Nat.zero_le _, rfl, Nat.zero_le _⟩
  | d :: ds, h => by
    obtain ⟨h1, h2, h3, h4, h5⟩ := h d List.mem_cons_self
    obtain ⟨k1, k2, k3, k4, k5⟩ := fit_all (ds := ds) fun e he => h e (List.mem_cons_of_mem _ he)
    refine ⟨?_, ?_, ?_, ?_, ?_⟩
    · show (flatD d && flatDs ds) = true
      rw [h1, k1]; rfl
    · simp only [PyData.showableAll, h2, k2, Bool.and_self]
    · show max (PyData.depth d) (PyData.depthAll ds) ≤ n
      omega
    · simp only [PyData.leavesShortAll, h4, k4, Bool.and_self]
    · show PyData.weight d + 1 + PyData.weightAll ds ≤ (w + 1) * (ds.length + 1)
      rw [Nat.mul_add]
      omega
theorem fit_list {n w : Nat} {ds : List D} (h : ∀ d ∈ ds, Fit n w d) : Fit (n + 1) ((w + 1) * ds.length) (.list ds) := by
  obtain ⟨k1, k2, k3, k4, k5⟩ := fit_all h
  refine ⟨k1, ?_, Nat.succ_le_succ k3, ?_, k5⟩
  · simpa only [PyData.showable] using k2
  · simpa only [PyData.leavesShort] using k4
theorem Fit.up {n w n' w' : Nat} {d : D} (h : Fit n w d) (hn : n ≤ n' := by decide) (hw : w ≤ w' := by decide) : Fit n' w' d := ⟨h.fl, h.sh, Nat.le_trans h.dp hn, h.lv, Nat.le_trans h.wt hw⟩
theorem fit_two {n w : Nat} {x y : D} (h1 : Fit n w x) (h2 : Fit n w y) : Fit (n + 1) ((w + 1) * 2) (.list [x, y]) :=
  fit_list (ds := [x, y]) (List.forall_mem_cons.mpr ⟨h1, List.forall_mem_cons.mpr ⟨h2, fun _ z => nomatch z⟩⟩)
end TlD
set_option Elab.async false
set_option linter.all false
set_option maxRecDepth 100000
set_option maxHeartbeats 4000000
namespace TlD
open PySem PySem.Spec PyProof.Rows L2 GxR TlG
section
variable {c : Cn} {X : Cx}
/-- a, b, c = x, y, z -/
def dPar3 (i j l : Nat) (Ta : DTA) : DTS := fun E ρ θ => Ta E.ex ρ θ fun rs θ1 => match rs with
  | [r, q, s] => E.nx (put (put (put ρ i r) j q) l s) θ1
  | _ => False
theorem ds_par3 {i j l : Nat} {x y z : Str} {a b d : Expr} {ta : TA} {Ta : DTA} {px py pz pt pos : Pos} {kt k2 pt2} (hc : X.calm = true) (hN : X.N.Nodup) (hi : X.N[i]? = some x) (hj : X.N[j]? = some y) (hl : X.N[l]? = some z) (hij : i ≠ j) (hil : i ≠ l) (hjl : j ≠ l)
    (hx : X.env.scope.names.lookup x = some .local) (hy : X.env.scope.names.lookup y = some .local) (hz : X.env.scope.names.lookup z = some .local) (ha : DA c X [a, b, d] ta Ta)
    (hw : swappedStores [.Tuple [.Name x px, .Name y py, .Name z pz] kt pt] (.Tuple [a, b, d] k2 pt2) X.env = pure (some [x, y, z]))
    (hs : swapsWithSole [.Tuple [.Name x px, .Name y py, .Name z pz] kt pt] (.Tuple [a, b, d] k2 pt2) pos.line X.env = pure false := by rfl) :
    DS c X (.Assign [.Tuple [.Name x px, .Name y py, .Name z pz] kt pt] (.Tuple [a, b, d] k2 pt2) pos) (tPar3 i j l ta) (dPar3 i j l Ta) := by
  refine ⟨ps_par3 hc hN hi hj hl hij hil hjl hx hy hz ha.pa hw hs, fun Zh F0 E D L O σ H ρ θ S h => ha.sim Zh F0 E.ex L σ H ρ θ _ _ S h fun vs rs H1 θ1 S1 m1 d1 h1 => ?_⟩
  split at h1
  · cases d1 with
    | cons d2 d3 =>
      cases d3 with
      | cons d4 d5 =>
        cases d5 with
        | cons d6 d7 =>
          cases d7
          exact ⟨_, _, _, rfl, O.nx _ H1 _ θ1 (((S1.set d2).set d4).set d6) (by rw [← put_set, ← put_set, ← put_set]; exact h1)⟩
  · exact h1.elim
/-- a list told n times -/
def fRepL : DOp := fun x y θ Φ => match x, y with
  | .d (.list xs), .d (.int n) => (0 ≤ n ∧ n ≤ 1000) ∧ xs.length ≤ 1000 ∧ Φ (.d (.list (List.replicate n.toNat xs).flatten)) θ
  | _, _ => False
theorem sim_repL : SimR c rRep fRepL := fun Zh F0 σ H ρ θ x y rx ry Φ Q S dx dy h k => by
  unfold fRepL at h
  split at h
  · rename_i xs n
    obtain ⟨⟨h1, h2⟩, hl, h⟩ := h
    cases dy
    cases dx with
    | lst hs ha =>
      refine ⟨_, n, _, rfl, rfl, (vis_some hs).1, by omega, by omega, ?_, fun p np => newL S k np (ha.rep _) h⟩
      rw [ha.length]
      have : xs.length * n.toNat ≤ 1000 * 1000 := Nat.mul_le_mul hl (by omega)
      have e : (1000 * 1000 : Nat) ≤ sizeLine := by decide
      omega
  · exact h.elim
end
/-- a def keeps a lesser promise too -/
theorem Def.weak {P : Program} {w : World} {K : PySem.W.Frag} {mg : Str → Option Value} {base : Heap} {Ps : List Addr} {k : Nat} {x : Str} {ps : List Str} {sp sp' : DSp} (D : Def P w K mg base Ps k x ps sp) (h : ∀ rs θ Φ Ex, sp' rs θ Φ Ex → sp rs θ Φ Ex) : Def P w K mg base Ps k x ps sp' := by
  obtain ⟨f, fd, a, b, c, F⟩ := D.ex
  exact ⟨f, fd, a, b, c, F.imp fun vs H Q E ⟨Zh, θ, rs, h1, h2, Φ, Ex, h3, h4⟩ => ⟨Zh, θ, rs, h1, h2, Φ, Ex, h rs θ Φ Ex h3, h4⟩⟩
end TlD
set_option Elab.async false
set_option linter.all false
set_option maxRecDepth 100000
set_option maxHeartbeats 4000000
namespace TlD
open PySem PySem.Spec PyProof.Rows L2 GxR TlG
section
variable {c : Cn} {X : Cx}
/-! ### a tuple no time -/
theorem tuple_zero (l : Addr) (items : Array Value) (n : Nat) (dd : Option Addr) (sl : Array (Option Value)) (u : Tok) (c1 : (items.isEmpty || (0 : Int) == 1) = false) :
    Meets (Builtin.«tuple.__mul__» ⟨[.ref l, .int 0 u], []⟩) (fun _ R s => s.heap.get? l = some { cls := .type "tuple", dict := dd, data := .seq items n, slots := sl } ∧
      R (.ok (.ret (Value.ref s.heap.objs.size))) { s with heap := s.heap.push { cls := Value.type "tuple", data := Data.seq #[] }, toks := s.toks }) :=
  .of_wp fun prog w A R s ⟨hl, h⟩ => by
    obtain ⟨hp, g, d, tk, os⟩ := s
    have f1 := AutoSeq1.idx_int
    have c2 : (decide ((0 : Int) ≤ 0) || items.isEmpty) = true := by simp
    wp_walk using AutoSeq1.wpAny_loadPart' hl
    repeat (first
      | (refine wpAny_ite_false (decide_eq_false (by rw [c1]; exact Bool.false_ne_true)) ?_; wp_walk using AutoSeq1.wpAny_loadPart' hl))
    exact ⟨_, rfl, h⟩
def rZeroT (K : PySem.W.Frag) : R2 := fun x y H Q => ∃ l xs, x = .ref l ∧ y = .int 0 ∧ SqT K H l xs ∧ xs ≠ [] ∧ ∀ p, H p = none → Q (.ref p) (upd H p (.tup []))
theorem op_zeroT : OpR X (binaryOp .Mult) (rZeroT X.K) := by
  intro pins s σ H x y v u Q I rx ry ⟨l, xs, ex, ey, hT, hne, q⟩
  subst ex ey
  cases rx
  obtain ⟨t, rfl⟩ := ry
  obtain ⟨its, r, ⟨⟨cls, dd, data, sl⟩, ho, hc, n, hd⟩, hs⟩ := I.tuple hT
  simp only at hc hd
  subst hc hd
  have hle : its.length = xs.length := r.length.symm
  have hn : its ≠ [] := fun e => hne (by
    rw [e] at hle
    exact List.eq_nil_of_length_eq_zero hle.symm)
  have hi : its.toArray.isEmpty = false := by
    cases its with
    | nil => exact absurd rfl hn
    | cons a b => rfl
  have c1 : (its.toArray.isEmpty || (0 : Int) == 1) = false := by
    rw [hi, Bool.false_or]
    rfl
  refine wpAny_binaryOp_repeat_ref (T := "tuple") (U := "int") (by decide) ⟨_, ho, rfl⟩ (fun s' => typeIs_int s' 0 t) noFill_tuple_mul F.fills_int_mul F.slot_int_rmul repeat_tuple F.slot_int_index.lookup
    (call_meets F.slot_int_rmul (typeIs_int s 0 t) F.entry_int_rmul (F.args_int_rmul_2 _ _) (int_rmul_tuple 0 t l its.toArray n dd sl)
      ⟨ho, rfl, ⟨_, ho, rfl⟩, call_meets F.slot_tuple_mul ⟨_, ho, rfl⟩ F.entry_tuple_mul (F.args_tuple_mul_2 _ _) (tuple_zero l its.toArray n dd sl t c1) ⟨ho, ?_⟩⟩)
  refine ⟨.ref s.heap.objs.size, _, I.laid (t' := s.toks) (o := .tup []) (fun b ob q => Heap.get?_push_of_some _ q) (Nat.le_refl _) ?_, rfl, q _ (I.hok.fresh (Nat.le_refl _))⟩
  exact ⟨Nat.zero_le _, [], .nil, IsTup.new _ _⟩
def fMulZ : DOp := fun x y θ Φ => match x, y with
  | .d (.tuple xs), .d (.int n) => (0 ≤ n ∧ n ≤ 1000) ∧ xs ≠ [] ∧ xs.length ≤ 1000 ∧ Φ (.d (.tuple (List.replicate n.toNat xs).flatten)) θ
  | _, _ => False
def rMulZ (K : PySem.W.Frag) : R2 := fun x y H Q => rZeroT K x y H Q ∨ rOnceT K x y H Q ∨ rRepT K x y H Q
theorem op_mulZ : OpR X (binaryOp .Mult) (rMulZ X.K) := OpR.or op_zeroT op_mulT
theorem sim_mulZ (hK : X.K = c.K) : SimR c (rMulZ X.K) fMulZ := fun Zh F0 σ H ρ θ x y rx ry Φ Q S dx dy h k => by
  unfold fMulZ at h
  split at h
  · rename_i xs n
    obtain ⟨⟨h1, h2⟩, ne, hl, h⟩ := h
    by_cases c0 : n = 0
    · subst c0
      rw [hK]
      cases dy
      cases dx with
      | tup hs ha =>
        refine .inl ⟨_, _, rfl, rfl, sqT_up hs, fun e => ne ?_, fun p np => newT S k np .nil h⟩
        have := ha.length
        rw [e] at this
        exact List.eq_nil_of_length_eq_zero this.symm
    · exact .inr (sim_mulT hK Zh F0 σ H ρ θ _ _ (.d (.tuple xs)) (.d (.int n)) Φ Q S dx dy ⟨⟨by omega, h2⟩, ne, hl, h⟩ k)
  · exact h.elim
theorem de_popAtC {o e : Expr} {to te : TE} {To T : DTE} {apos cpos : Pos} (hK : X.K = c.K) (ho : DE c X o to To) (he : DE c X e te T)
    (hp : PE X o to → PE X e te → PE X (.Call (.Attribute o "pop" apos) [e] [] cpos) (tBM X.K "list" rPopAt to (tCons te tNil))) :
    DE c X (.Call (.Attribute o "pop" apos) [e] [] cpos) (tBM c.K "list" rPopAt to (tCons te tNil)) (dPopAt To T) := by
  have h := de_popAt ho he hp
  rw [hK] at h
  exact h
end
end TlD
set_option Elab.async false
set_option linter.all false
set_option maxRecDepth 100000
set_option maxHeartbeats 4000000
namespace TlD
open PySem PySem.Spec PyProof.Rows L2 GxR TlG
/-! ### len(set(text)) -/
section
variable {c : Cn} {X : Cx}
def rLenX (P : Program) (w : World) : List V → Hp → VK → Prop := fun xs H Q => ∃ (a : Addr) (l : List Str), xs = [.ref a] ∧ H a = some (TlS.TxO P w a l) ∧ l.length ≤ 1000 ∧ Q (.int (l.length : Nat)) H
def rSetXW (P : Program) (w : World) : List V → Hp → VK → Prop := fun xs H Q => ∃ x : Str, xs = [.str x] ∧ x.cps.size ≤ 1000 ∧ ∀ p l, H p = none → l.length ≤ x.cps.size → l.Nodup → (∀ y : Str, y ∈ l ↔ ∃ c ∈ x.cps.toList, y = ⟨#[c]⟩) → Q (.ref p) (upd H p (TlS.TxO P w p l))
theorem cr_lenX : CallR X (.builtin "len") (rLenX X.prog X.w) := by
  intro pins s σ H vs us Q I r h
  obtain ⟨a, l, rfl, ha, hl, q⟩ := h
  have R : TlS.TxAt X.prog X.w s.heap a l := (I.hok a _ ha).1
  rw [Vals.ref1 r]
  obtain ⟨D, ho, F⟩ := R
  refine call_len_set ho ⟨rfl, rfl, rfl⟩ rfl F.ok.fit (by rw [F.ok.sz]; omega) ⟨.int _, H, I.tok _, ⟨_, by rw [F.ok.sz]⟩, q⟩
def dLenSet (T : DTE) : DTE := fun Ex ρ θ Φ => T Ex ρ θ fun r θ1 => asS r fun x => x.length < 64 ∧ ∀ l : List Str, l.Nodup → (∀ y : Str, y ∈ l ↔ ∃ c ∈ x.cps.toList, y = ⟨#[c]⟩) → Φ (.d (.int (l.length : Nat))) θ1
theorem de_lenSet {P : Program} {w : World} {e : Expr} {te : TE} {T : DTE} {p p2 pos pos2 : Pos} (hP : X.prog = P) (hw : X.w = w) (hc : X.calm = true) (hg : Gl X "len") (hm : X.mg "len" = none) (hg2 : Gl X "set") (hm2 : X.mg "set" = none) (he : DE c X e te T)
    (he2 : starEach [e] X.env = (false, eval e X.env) :: starEach [] X.env := by rfl) (he1 : starEach [.Call (.Name "set" p2) [e] [] pos2] X.env = (false, eval (.Call (.Name "set" p2) [e] [] pos2) X.env) :: starEach [] X.env := by rfl)
    (hp1 : (backTo pos (starEach [] X.env)).any (·.1) = false := by rfl) (hp2 : (backTo pos2 (starEach [] X.env)).any (·.1) = false := by rfl) :
    DE c X (.Call (.Name "len" p) [.Call (.Name "set" p2) [e] [] pos2] [] pos) (tCB (rLenX P w) (tCons (tCB (rSetXW P w) (tCons te tNil)) tNil)) (dLenSet T) := by
  have ps : PE X (.Call (.Name "set" p2) [e] [] pos2) (tCB (rSetXW P w) (tCons te tNil)) := by
    rw [← hP, ← hw]
    exact pe_callTy (TlS.cr_setX hc) hg2 hm2 (by decide +kernel) (pa_cons he.pe pa_nil he2) (by decide) (by decide) he2 hp2
  refine ⟨by
    have q := pe_callB (p := p) (pos := pos) (cr_lenX (X := X)) hg hm boot_len (pa_cons ps pa_nil he1) (by decide) (by decide) he1 hp1
    rw [hP, hw] at q
    exact q, fun Zh F0 Ex L σ H ρ θ Φ Q S h k => ?_⟩
  refine he.sim Zh F0 Ex L σ H ρ θ _ _ S h fun v r H1 θ1 S1 m1 d1 h1 => ?_
  obtain ⟨x, rfl, hx, h2⟩ := asS_of d1 h1
  have hx : x.cps.size < 64 := hx
  refine ⟨x, rfl, by omega, fun p l hp hl nd hm => ⟨p, l, rfl, upd_same, by omega, ?_⟩⟩
  have S2 : SD c.K c.Ps Zh F0 σ (upd H1 p (TlS.TxO P w p l)) ρ θ1 := S1.to (S1.hs.new hp) (vis_upd_sub hp).mono
  exact k _ (.d (.int (l.length : Nat))) _ θ1 S2 (m1.trans (vis_upd_sub hp).mono) (Dq.int _) (h2 l nd hm)
end
end TlD
set_option Elab.async false
set_option linter.all false
set_option maxRecDepth 100000
set_option maxHeartbeats 4000000
namespace TlD
open PySem PySem.Spec PyProof.Rows L2 GxR TlG
section
variable {c : Cn} {X : Cx}
/-! ### a name set to a comprehension with two for -/
theorem ds_setLc2 {i : Nat} {y : Str} {py : Pos} {elt tg iter tg1 iter1 : Expr} {ifs ifs1 : List Expr} {scope : Scope} {own : List (Str × Nat)} {pos spos : Pos} {wi wi1 : TI} {T T1 : DTI} {g g1 : TG} {G G1 : DGt} {tt tt1 : TT} {TT TT1 : DTT} {te : TE} {TE : DTE} {vs vs1 us1 : List Nat} (hc : X.calm = true) (hN : X.N.Nodup)
    (hy : X.N[i]? = some y) (hyl : X.env.scope.names.lookup y = some .local) (hsw : swapsWith (.ListComp elt [⟨tg, iter, ifs, 0⟩, ⟨tg1, iter1, ifs1, 0⟩] scope pos) (some (.Name y py)) spos.line X.env = pure true) (hi : DI c X tg iter wi T) (ok : BlkOk X.N X.env.scope scope own)
    (hg : ∀ (s : Shared) (H : Hp) (C : Addr) (cl : List (Str × Addr)) (fp : List Addr), DG c (X.blk s H scope (compEnvC scope cl C X.env) fp) tg g G vs) (ht : ∀ (s : Shared) (H : Hp) (C : Addr) (cl : List (Str × Addr)) (fp : List Addr), DTs c (X.blk s H scope (compEnvC scope cl C X.env) fp) ifs tt TT)
    (hi1 : ∀ (s : Shared) (H : Hp) (C : Addr) (cl : List (Str × Addr)) (fp : List Addr), DI c (X.blk s H scope (compEnvC scope cl C X.env) fp) tg1 iter1 wi1 T1)
    (hg1 : ∀ (s : Shared) (H : Hp) (C : Addr) (cl : List (Str × Addr)) (fp : List Addr), DG c (X.blk s H scope (compEnvC scope cl C X.env) fp) tg1 g1 G1 vs1) (ht1 : ∀ (s : Shared) (H : Hp) (C : Addr) (cl : List (Str × Addr)) (fp : List Addr), DTs c (X.blk s H scope (compEnvC scope cl C X.env) fp) ifs1 tt1 TT1)
    (he : ∀ (s : Shared) (H : Hp) (C : Addr) (cl : List (Str × Addr)) (fp : List Addr), DE c (X.blk s H scope (compEnvC scope cl C X.env) fp) elt te TE) (hu : us1 = vs1) (hv : ∀ v ∈ vs, v ∈ own.map (·.2)) (hv1 : ∀ v ∈ us1, v ∈ own.map (·.2)) (hs : ∀ x, foldedSetIterable iter X.env x = pure x := by intro _; rfl) (hs1 : ∀ env x, foldedSetIterable iter1 env x = pure x := by intro _ _; rfl) :
    DS c X (.Assign [.Name y py] (.ListComp elt [⟨tg, iter, ifs, 0⟩, ⟨tg1, iter1, ifs1, 0⟩] scope pos) spos) (tAsg (tLc2 wi g tt wi1 g1 tt1 te (own.map (·.2)) us1) (gName i)) (dSet i (dNewP (dLc2 T G TT T1 G1 TT1 TE (own.map (·.2)) us1))) := by
  have nl := (de_lc2N (X := X) (elt := elt) (scope := scope) (pos := pos) hc hN hi ok hg ht hi1 hg1 ht1 he hu hv hv1 hs hs1).2
  subst hu
  exact ⟨ps_setLc2 hc hN hy hyl hsw hi.pi ok hv1 (fun s H C cl fp => (hg s H C cl fp).pg) (fun s H C cl fp => (ht s H C cl fp).pts) (fun s H C cl fp => (hi1 s H C cl fp).pi) (fun s H C cl fp => (hg1 s H C cl fp).pg) (fun s H C cl fp => (ht1 s H C cl fp).pts) (fun s H C cl fp => (he s H C cl fp).pe) hs hs1,
    fun Zh F0 E D L O σ H ρ θ S h => sim_newP nl Zh F0 E.ex L σ H ρ θ _ _ S h fun v r H1 θ1 S1 m1 d1 h1 => O.nx _ H1 _ θ1 (S1.set d1) (by rw [← put_set]; exact h1)⟩
end
/-- the lists of a comprehension with two for, the inner ones made in a row -/
theorem lc2D_flatB {G : DGt} {T1 : DTI} {G1 : DGt} {TT1 : DTT} {TE : DTE} {ρw : Rho} {vs1 : List Nat} {Φ : List D → Th → Prop} {θ : Th} {B : Nat} (f : D → List D) : ∀ (items acc : List D),
    (∀ d ∈ items, ∀ (a : List D) (Ψ : List D → Th → Prop), a.length + (f d).length ≤ B → Ψ (a ++ f d) θ → G (.d d) ρw fun ρ1 => T1 noEx ρ1 θ fun items1 θ2 => lcD G1 TT1 TE (wipeR ρ1 vs1) Ψ items1 a θ2) →
    acc.length + (items.flatMap f).length ≤ B → Φ (acc ++ items.flatMap f) θ → lc2D G dYes T1 G1 TT1 TE ρw vs1 Φ items acc θ
  | [], acc, _, _, h => by simpa [lc2D] using h
  | d :: ds, acc, hs, hl, h => by
    rw [List.flatMap_cons, List.length_append] at hl
    unfold lc2D
    simp only [dYes, if_true]
    refine hs d List.mem_cons_self acc (fun a θ2 => lc2D G dYes T1 G1 TT1 TE ρw vs1 Φ ds a θ2) (by omega) ?_
    refine lc2D_flatB f ds (acc ++ f d) (fun e he => hs e (List.mem_cons_of_mem _ he)) (by rw [List.length_append]; omega) ?_
    rw [List.append_assoc, ← List.flatMap_cons]
    exact h
end TlD
set_option Elab.async false
set_option linter.all false
set_option maxRecDepth 100000
set_option maxHeartbeats 4000000
namespace TlD
open PySem PySem.Spec PyProof.Rows L2 GxR TlG
/-! ### ways, paths, faults: plain facts -/
abbrev NT := Nat × Nat
def natT (p : Int × Int) : NT := (p.1.toNat, p.2.toNat)
def intT (q : NT) : Int × Int := ((q.1 : Int), (q.2 : Int))
def edgeOf (t : NT) (b : Bool) : NT := if b then t else (t.2, t.1)
def edges : List NT → List Bool → List NT
  | t :: l, b :: r => edgeOf t b :: edges l r
  | _, _ => []
def rowOf (e : List NT) (u : Nat) : List Nat := e.filterMap fun p => if p.1 = u then some p.2 else none
def waysE (m : Nat) (e : List NT) : List (List Nat) := (List.range m).map (rowOf e)
def row (W : List (List Nat)) (u : Nat) : List Nat := W.getD u []
theorem row_ways {m : Nat} {e : List NT} {u : Nat} (h : u < m) : row (waysE m e) u = rowOf e u := by
  unfold row waysE
  rw [List.getD_eq_getElem?_getD, List.getElem?_map, List.getElem?_range h]
  rfl
theorem mem_rowOf {e : List NT} {u v : Nat} : v ∈ rowOf e u ↔ (u, v) ∈ e := by
  unfold rowOf
  rw [List.mem_filterMap]
  constructor
  · rintro ⟨⟨a, b⟩, h, z⟩
    by_cases c : a = u
    · subst c
      simp at z
      subst z
      exact h
    · simp [c] at z
  · intro h
    exact ⟨(u, v), h, by simp⟩
theorem ways_step {m : Nat} {e : List NT} {u v : Nat} : (waysE m e).modify u (· ++ [v]) = waysE m (e ++ [(u, v)]) := by
  refine List.ext_getElem? fun i => ?_
  rw [List.getElem?_modify]
  unfold waysE
  rw [List.getElem?_map, List.getElem?_map]
  by_cases hi : i < m
  · rw [List.getElem?_range hi]
    show Option.map _ (some (rowOf e i)) = some (rowOf (e ++ [(u, v)]) i)
    unfold rowOf
    rw [List.filterMap_append]
    by_cases c : u = i
    · subst c
      simp
    · simp [c]
  · rw [List.getElem?_eq_none (by simp; omega)]
    rfl
theorem ways_nil (m : Nat) : waysE m [] = List.replicate m [] := by
  unfold waysE rowOf
  rw [List.eq_replicate_iff]
  simp
theorem edges_snoc : ∀ {l : List NT} {r : List Bool} {t : NT} {b : Bool}, l.length = r.length → edges (l ++ [t]) (r ++ [b]) = edges l r ++ [edgeOf t b]
  | [], [], _, _, _ => rfl
  | x :: l, y :: r, t, b, h => by
    have := edges_snoc (l := l) (r := r) (t := t) (b := b) (by simpa using h)
    simp [edges, this]
  | [], _ :: _, _, _, h => by simp at h
  | _ :: _, [], _, _, h => by simp at h
theorem edges_in : ∀ {l : List NT} {r : List Bool} {p : NT}, p ∈ edges l r → p ∈ l ∨ (p.2, p.1) ∈ l
  | t :: l, b :: r, p, h => by
    rcases List.mem_cons.mp h with rfl | h
    · cases b
      · exact .inr (List.mem_cons_self)
      · exact .inl List.mem_cons_self
    · rcases edges_in h with z | z
      · exact .inl (List.mem_cons_of_mem _ z)
      · exact .inr (List.mem_cons_of_mem _ z)
  | [], _, _, h => by simp [edges] at h
  | _ :: _, [], _, h => by simp [edges] at h
/-- no tie leads both ways, or twice -/
theorem edges_once : ∀ {l : List NT} {r : List Bool}, l.Nodup → (∀ t ∈ l, t.1 < t.2) → (edges l r).Pairwise fun p q => p ≠ q ∧ p ≠ (q.2, q.1)
  | t :: l, b :: r, nd, hl => by
    obtain ⟨n1, n2⟩ := List.nodup_cons.mp nd
    refine List.pairwise_cons.mpr ⟨fun q hq => ?_, edges_once n2 fun t ht => hl t (List.mem_cons_of_mem _ ht)⟩
    have ht := hl t List.mem_cons_self
    have key : ∀ z : NT, z ∈ l → z.1 < z.2 ∧ z ≠ t := fun z hz => ⟨hl z (List.mem_cons_of_mem _ hz), fun e => n1 (e ▸ hz)⟩
    have : (q.1 < q.2 → q ≠ t) ∧ (q.2 < q.1 → (q.2, q.1) ≠ t) := by
      rcases edges_in hq with z | z
      · exact ⟨fun _ => (key _ z).2, fun h => by have := (key _ z).1; omega⟩
      · exact ⟨fun h => by have := (key _ z).1; simp at this; omega, fun _ => (key _ z).2⟩
    obtain ⟨a, a2⟩ := t
    obtain ⟨c, c2⟩ := q
    simp only [] at this ht
    cases b
    · simp only [edgeOf, Bool.false_eq_true, if_false]
      constructor
      · intro e
        simp only [Prod.mk.injEq] at e
        obtain ⟨e1, e2⟩ := e
        subst e1 e2
        exact this.2 (by omega) rfl
      · intro e
        simp only [Prod.mk.injEq] at e
        obtain ⟨e1, e2⟩ := e
        subst e1 e2
        exact this.1 (by omega) rfl
    · simp only [edgeOf, if_true]
      constructor
      · intro e
        simp only [Prod.mk.injEq] at e
        obtain ⟨e1, e2⟩ := e
        subst e1 e2
        exact this.1 (by omega) rfl
      · intro e
        simp only [Prod.mk.injEq] at e
        obtain ⟨e1, e2⟩ := e
        subst e1 e2
        exact this.2 (by omega) rfl
  | [], _, _, _ => by simp [edges]
  | _ :: _, [], _, _ => by simp [edges]
theorem nodup_lt : ∀ (n : Nat) (l : List Nat), l.Nodup → (∀ x ∈ l, x < n) → l.length ≤ n
  | 0, l, _, h => by
    cases l with
    | nil => simp
    | cons a l => exact absurd (h a List.mem_cons_self) (Nat.not_lt_zero _)
  | n + 1, l, nd, h => by
    by_cases c : n ∈ l
    · have := nodup_lt n (l.erase n) (nd.erase n) fun x hx => by
        obtain ⟨a, b⟩ := nd.mem_erase_iff.mp hx
        have := h x b
        omega
      rw [List.length_erase_of_mem c] at this
      omega
    · have := nodup_lt n l nd fun x hx => by
        have := h x hx
        have : x ≠ n := fun e => c (e ▸ hx)
        omega
      omega
/-- what is known of ways -/
structure WOk (m : Nat) (l : List (Int × Int)) (W : List (List Nat)) : Prop where
  len : W.length = m
  lt : ∀ u v, v ∈ row W u → u < m ∧ v < m ∧ u ≠ v
  tied : ∀ u v, v ∈ row W u → ((u : Int), (v : Int)) ∈ l ∨ ((v : Int), (u : Int)) ∈ l
  one : ∀ u v, v ∈ row W u → u ∉ row W v
  nd : ∀ u, (row W u).Nodup
  up : ∀ a b : Nat, ((a : Int), (b : Int)) ∈ l → a < b
theorem nat_int {m : Nat} {p : Int × Int} (h : p ∈ pairs m) : intT (natT p) = p ∧ (natT p).1 < (natT p).2 ∧ (natT p).2 < m := by
  obtain ⟨a, b, rfl, ab, bm⟩ := pairs_in h
  unfold intT natT
  simp
  exact ⟨ab, bm⟩
theorem pairs_nodup {m : Nat} (h : m ≤ 6) : (pairs m).Nodup := by
  rcases (by omega : m = 0 ∨ m = 1 ∨ m = 2 ∨ m = 3 ∨ m = 4 ∨ m = 5 ∨ m = 6) with rfl | rfl | rfl | rfl | rfl | rfl | rfl <;> decide +kernel
theorem row_out {W : List (List Nat)} {u : Nat} (h : ¬ u < W.length) : row W u = [] := by
  unfold row
  rw [List.getD_eq_getElem?_getD, List.getElem?_eq_none (by omega)]
  rfl
theorem ways_ok {m : Nat} {l : List (Int × Int)} {r : List Bool} (hm : m ≤ 6) (hl : l.Sublist (pairs m)) : WOk m l (waysE m (edges (l.map natT) r)) := by
  have inl : ∀ p ∈ l, p ∈ pairs m := fun p hp => hl.subset hp
  have nd : (l.map natT).Nodup := by
    have := hl.nodup (pairs_nodup hm)
    refine List.Pairwise.map natT (R := fun p q => p ∈ pairs m ∧ q ∈ pairs m ∧ p ≠ q) (fun p q ⟨hp, hq, ne⟩ e => ne ?_) ?_
    · rw [← (nat_int hp).1, ← (nat_int hq).1, e]
    · exact this.imp_of_mem fun {p q} hp hq ne => ⟨inl p hp, inl q hq, ne⟩
  have lt : ∀ t ∈ l.map natT, t.1 < t.2 ∧ t.2 < m ∧ intT t ∈ l := fun t ht => by
    obtain ⟨p, hp, rfl⟩ := List.mem_map.mp ht
    obtain ⟨a, b, c⟩ := nat_int (inl p hp)
    exact ⟨b, c, by rw [a]; exact hp⟩
  have once := edges_once (r := r) nd fun t ht => (lt t ht).1
  generalize he : edges (l.map natT) r = e at once
  have mem : ∀ {u v}, v ∈ row (waysE m e) u → u < m ∧ (u, v) ∈ e := fun {u v} h => by
    by_cases c : u < m
    · rw [row_ways c] at h
      exact ⟨c, mem_rowOf.mp h⟩
    · rw [row_out (by simp [waysE]; omega)] at h
      cases h
  have src : ∀ {u v}, (u, v) ∈ e → (u, v) ∈ l.map natT ∨ (v, u) ∈ l.map natT := fun {u v} h => by
    subst he
    exact edges_in h
  refine ⟨by simp [waysE], fun u v h => ?_, fun u v h => ?_, fun u v h h2 => ?_, fun u => ?_, fun a b h => ?_⟩
  · obtain ⟨a, b⟩ := mem h
    rcases src b with z | z
    · have := lt _ z
      simp only [] at this
      omega
    · have := lt _ z
      simp only [] at this
      omega
  · obtain ⟨a, b⟩ := mem h
    rcases src b with z | z
    · exact .inl (lt _ z).2.2
    · exact .inr (lt _ z).2.2
  · have h1 := (mem h).2
    have h3 := (mem h2).2
    have ne : u ≠ v := by
      rcases src h1 with z | z
      · have := lt _ z
        simp only [] at this
        omega
      · have := lt _ z
        simp only [] at this
        omega
    exact pw_two once h1 h3 (by simp; intro e; exact absurd e ne) (fun z => z.2 rfl) (fun z => z.2 rfl)
  · by_cases c : u < m
    · rw [row_ways c]
      unfold rowOf
      refine List.Pairwise.filterMap _ (fun p q hpq a ha b hb => ?_) once
      obtain ⟨p1, p2⟩ := p
      obtain ⟨q1, q2⟩ := q
      simp only [Option.mem_def] at ha hb
      by_cases e1 : p1 = u
      · by_cases e2 : q1 = u
        · simp [e1] at ha
          simp [e2] at hb
          subst ha hb e1 e2
          intro e
          exact hpq.1 (by rw [e])
        · simp [e2] at hb
      · simp [e1] at ha
    · rw [row_out (by simp [waysE]; omega)]
      exact List.nodup_nil
  · have := (nat_int (inl _ h)).2.1
    simpa [natT] using this
where
  pw_two {R : NT → NT → Prop} : ∀ {e : List NT} {p q : NT}, e.Pairwise R → p ∈ e → q ∈ e → p ≠ q → (R p q → False) → (R q p → False) → False
    | _ :: e, p, q, pw, hp, hq, ne, h1, h2 => by
      obtain ⟨a, b⟩ := List.pairwise_cons.mp pw
      rcases List.mem_cons.mp hp with e1 | hp'
      · rcases List.mem_cons.mp hq with e2 | hq'
        · exact ne (e1.trans e2.symm)
        · exact h1 (by rw [e1]; exact a _ hq')
      · rcases List.mem_cons.mp hq with e2 | hq'
        · exact h2 (by rw [e2]; exact a _ hp')
        · exact pw_two b hp' hq' ne h1 h2
end TlD
set_option Elab.async false
set_option linter.all false
set_option maxRecDepth 100000
set_option maxHeartbeats 4000000
namespace TlD
open PySem PySem.Spec PyProof.Rows L2 GxR TlG
def lastN (P : List Nat) : Nat := P.reverse.headD 0
def headN (P : List Nat) : Nat := P.headD 0
theorem lastN_app (P : List Nat) (v : Nat) : lastN (P ++ [v]) = v := by simp [lastN]
theorem headN_app {P : List Nat} (h : P ≠ []) (v : Nat) : headN (P ++ [v]) = headN P := by
  cases P with
  | nil => exact absurd rfl h
  | cons a P => rfl
theorem split_last {P : List Nat} (h : P ≠ []) : ∃ Q, P = Q ++ [lastN P] := by
  rcases List.eq_nil_or_concat P with z | ⟨Q, v, z⟩
  · exact absurd z h
  · rw [List.concat_eq_append] at z
    exact ⟨Q, by rw [z, lastN_app]⟩
theorem last_mem {P : List Nat} (h : P ≠ []) : lastN P ∈ P := by
  obtain ⟨Q, e⟩ := split_last h
  generalize lastN P = v at e
  rw [e]
  simp
theorem head_mem {P : List Nat} (h : P ≠ []) : headN P ∈ P := by
  cases P with
  | nil => exact absurd rfl h
  | cons a P => exact List.mem_cons_self
def ext (W : List (List Nat)) (P : List Nat) : List (List Nat) := ((row W (lastN P)).filter fun v => decide (v ∉ P)).map fun v => P ++ [v]
def lev (m : Nat) (W : List (List Nat)) : Nat → List (List Nat)
  | 0 => (List.range m).map fun u => [u]
  | k + 1 => (lev m W k).flatMap (ext W)
def gapB (m : Nat) (l : List (Int × Int)) (P : List Nat) : Bool := (pairs m).any fun p => !decide (p ∈ l) && (decide (p.1.toNat ∈ P) && decide (p.2.toNat ∈ P))
def faultBy (m : Nat) (l : List (Int × Int)) (W : List (List Nat)) (P : List Nat) : Option Bool :=
  if headN P ∈ row W (lastN P) then some true else if lastN P ∈ row W (headN P) ∧ gapB m l P = true then some false else none
def dfs (m : Nat) (l : List (Int × Int)) (W : List (List Nat)) : Nat → List Nat → Option (Bool × List Nat)
  | 0, P => (faultBy m l W P).map fun b => (b, P)
  | j + 1, P => match faultBy m l W P with
    | some b => some (b, P)
    | none => (ext W P).findSome? (dfs m l W j)
def lawF (m : Nat) (l : List (Int × Int)) (W : List (List Nat)) (P : List Nat) : List (Bool × List Nat) :=
  (if 2 < P.length ∧ headN P ∈ row W (lastN P) then [(true, P)] else []) ++ (if 3 < P.length ∧ lastN P ∈ row W (headN P) ∧ gapB m l P = true then [(false, P)] else [])
def someF (m : Nat) (l : List (Int × Int)) (W : List (List Nat)) : Option (Bool × List Nat) := (List.range m).findSome? fun u => dfs m l W 5 [u]
def chain (W : List (List Nat)) : List Nat → Prop
  | a :: b :: t => b ∈ row W a ∧ chain W (b :: t)
  | _ => True
theorem chain_app {W : List (List Nat)} {v : Nat} : ∀ {P : List Nat}, P ≠ [] → chain W P → v ∈ row W (lastN P) → chain W (P ++ [v])
  | [], h, _, _ => absurd rfl h
  | [a], _, _, h => ⟨h, trivial⟩
  | a :: b :: t, _, h, hv => by
    refine ⟨h.1, chain_app (P := b :: t) (by simp) h.2 ?_⟩
    have : lastN (a :: b :: t) = lastN (b :: t) := by
      unfold lastN
      rw [List.reverse_cons (a := a)]
      cases hq : (b :: t).reverse with
      | nil => simp at hq
      | cons x y => rfl
    rw [← this]
    exact hv
structure Path (m : Nat) (W : List (List Nat)) (P : List Nat) : Prop where
  ne : P ≠ []
  nd : P.Nodup
  lt : ∀ x ∈ P, x < m
  ch : chain W P
section
variable {m : Nat} {l : List (Int × Int)} {W : List (List Nat)} {P Q : List Nat}
theorem mem_ext : Q ∈ ext W P ↔ ∃ v, v ∈ row W (lastN P) ∧ v ∉ P ∧ Q = P ++ [v] := by
  unfold ext
  rw [List.mem_map]
  constructor
  · rintro ⟨v, h, rfl⟩
    obtain ⟨a, b⟩ := List.mem_filter.mp h
    exact ⟨v, a, of_decide_eq_true b, rfl⟩
  · rintro ⟨v, a, b, rfl⟩
    exact ⟨v, List.mem_filter.mpr ⟨a, decide_eq_true b⟩, rfl⟩
theorem Path.ext (ok : WOk m l W) (h : Path m W P) (q : Q ∈ ext W P) : Path m W Q ∧ Q.length = P.length + 1 := by
  obtain ⟨v, a, b, rfl⟩ := mem_ext.mp q
  refine ⟨⟨by simp, ?_, fun x hx => ?_, chain_app h.ne h.ch a⟩, by simp⟩
  · exact List.nodup_append.mpr ⟨h.nd, by simp, fun x hx y hy => by
      rw [List.mem_singleton.mp hy]
      exact fun e => b (e ▸ hx)⟩
  · rcases List.mem_append.mp hx with hx | hx
    · exact h.lt x hx
    · rw [List.mem_singleton.mp hx]
      exact (ok.lt _ _ a).2.1
theorem lev_path (ok : WOk m l W) : ∀ (k : Nat) {P : List Nat}, P ∈ lev m W k → Path m W P ∧ P.length = k + 1
  | 0, P, h => by
    obtain ⟨u, hu, rfl⟩ := List.mem_map.mp h
    exact ⟨⟨by simp, by simp, fun x hx => by rw [List.mem_singleton.mp hx]; exact List.mem_range.mp hu, trivial⟩, rfl⟩
  | k + 1, P, h => by
    obtain ⟨Q, hQ, hP⟩ := List.mem_flatMap.mp h
    obtain ⟨a, b⟩ := lev_path ok k hQ
    obtain ⟨c, d⟩ := a.ext ok hP
    exact ⟨c, by omega⟩
theorem path_len (h : Path m W P) : P.length ≤ m := nodup_lt m P h.nd h.lt
theorem lev_end (ok : WOk m l W) {k : Nat} (h : m ≤ k) : lev m W k = [] := by
  rw [List.eq_nil_iff_forall_not_mem]
  intro P hP
  obtain ⟨a, b⟩ := lev_path ok k hP
  have := path_len a
  omega
theorem path_full (h : Path m W P) (hm : m ≤ P.length) {v : Nat} (hv : v < m) : v ∈ P := by
  refine Classical.byContradiction fun c => ?_
  have := nodup_lt m (v :: P) (List.nodup_cons.mpr ⟨c, h.nd⟩) fun x hx => by
    rcases List.mem_cons.mp hx with rfl | hx
    · exact hv
    · exact h.lt x hx
  simp at this
  omega
theorem lev_size (ok : WOk m l W) (hm : m ≤ 6) : ∀ k, (lev m W k).length ≤ 6 ^ (k + 1)
  | 0 => by simp [lev]; omega
  | k + 1 => by
    have ih := lev_size ok hm k
    have each : ∀ P, (ext W P).length ≤ 6 := fun P => by
      unfold ext
      rw [List.length_map]
      refine Nat.le_trans (List.length_filter_le _ _) (Nat.le_trans (nodup_lt m _ (ok.nd _) fun x hx => (ok.lt _ _ hx).2.1) hm)
    have : ∀ Ps : List (List Nat), (Ps.flatMap (ext W)).length ≤ Ps.length * 6 := by
      intro Ps
      induction Ps with
      | nil => simp
      | cons P Ps ih2 =>
        rw [List.flatMap_cons, List.length_append, List.length_cons]
        have := each P
        omega
    have h1 := this (lev m W k)
    have e : (6 : Nat) ^ (k + 1 + 1) = 6 ^ (k + 1) * 6 := Nat.pow_succ ..
    rw [e]
    exact Nat.le_trans h1 (Nat.mul_le_mul_right 6 ih)
/-- a fault that the program tells is one of the law's -/
theorem fault_law (ok : WOk m l W) (h : Path m W P) {b : Bool} (e : faultBy m l W P = some b) : (b, P) ∈ lawF m l W P := by
  unfold faultBy at e
  unfold lawF
  rw [List.mem_append]
  by_cases c : headN P ∈ row W (lastN P)
  · rw [if_pos c] at e
    cases e
    have l3 : 2 < P.length := by
      match P, h, c with
      | [], h, _ => exact absurd rfl h.ne
      | [u], _, c => exact absurd rfl (ok.lt _ _ c).2.2
      | [u, v], h, c => exact absurd c (fun c => ok.one _ _ h.ch.1 c)
      | _ :: _ :: _ :: _, _, _ => simp
    exact .inl (by rw [if_pos ⟨l3, c⟩]; exact List.mem_cons_self)
  · rw [if_neg c] at e
    by_cases d : lastN P ∈ row W (headN P) ∧ gapB m l P = true
    · rw [if_pos d] at e
      cases e
      have l4 : 3 < P.length := by
        obtain ⟨d1, d2⟩ := d
        unfold gapB at d2
        obtain ⟨p, hp, g⟩ := List.any_eq_true.mp d2
        obtain ⟨x, y, rfl, xy, ym⟩ := pairs_in hp
        simp only [Bool.and_eq_true, Bool.not_eq_true', decide_eq_false_iff_not, decide_eq_true_eq, Int.toNat_natCast] at g
        obtain ⟨g1, g2, g3⟩ := g
        have two : ∀ u v : Nat, v ∈ row W u → (x = u ∧ y = v) ∨ (x = v ∧ y = u) → False := by
          intro u v hv e
          have t := ok.tied _ _ hv
          rcases e with ⟨rfl, rfl⟩ | ⟨rfl, rfl⟩
          · rcases t with z | z
            · exact g1 z
            · have := ok.up _ _ z
              omega
          · rcases t with z | z
            · have := ok.up _ _ z
              omega
            · exact g1 z
        match P, h, d1, g2, g3 with
        | [], h, _, _, _ => exact absurd rfl h.ne
        | [u], _, _, g2, g3 =>
          rw [List.mem_singleton] at g2 g3
          omega
        | [u, v], h, _, g2, g3 =>
          refine absurd trivial fun _ => two u v h.ch.1 ?_
          simp only [List.mem_cons, List.not_mem_nil, or_false] at g2 g3
          omega
        | [u, v, w], h, d1, g2, g3 =>
          have d1 : w ∈ row W u := d1
          simp only [List.mem_cons, List.not_mem_nil, or_false] at g2 g3
          have n1 : ¬ ((x = u ∧ y = v) ∨ (x = v ∧ y = u)) := two u v h.ch.1
          have n2 : ¬ ((x = v ∧ y = w) ∨ (x = w ∧ y = v)) := two v w h.ch.2.1
          have n3 : ¬ ((x = u ∧ y = w) ∨ (x = w ∧ y = u)) := two u w d1
          omega
        | _ :: _ :: _ :: _ :: _, _, _, _, _ => simp
      exact .inr (by rw [if_pos ⟨l4, d⟩]; exact List.mem_cons_self)
    · rw [if_neg d] at e
      cases e
theorem none_law (e : faultBy m l W P = none) : lawF m l W P = [] := by
  unfold faultBy at e
  unfold lawF
  by_cases c : headN P ∈ row W (lastN P)
  · rw [if_pos c] at e
    cases e
  · rw [if_neg c] at e
    by_cases d : lastN P ∈ row W (headN P) ∧ gapB m l P = true
    · rw [if_pos d] at e
      cases e
    · rw [if_neg (fun z => c z.2), if_neg (fun z => d z.2)]
      rfl
theorem dfs_some : ∀ (j : Nat) {P Q : List Nat} {b : Bool}, dfs m l W j P = some (b, Q) → (∃ k, P ∈ lev m W k) → (∃ k, Q ∈ lev m W k) ∧ faultBy m l W Q = some b
  | 0, P, Q, b, h, hP => by
    unfold dfs at h
    cases e : faultBy m l W P with
    | none => rw [e] at h; cases h
    | some c =>
      rw [e] at h
      cases h
      exact ⟨hP, e⟩
  | j + 1, P, Q, b, h, hP => by
    unfold dfs at h
    cases e : faultBy m l W P with
    | some c =>
      rw [e] at h
      cases h
      exact ⟨hP, e⟩
    | none =>
      rw [e] at h
      simp only [] at h
      obtain ⟨R, hR, hd⟩ := List.exists_of_findSome?_eq_some h
      obtain ⟨k, hk⟩ := hP
      exact dfs_some j hd ⟨k + 1, List.mem_flatMap.mpr ⟨P, hk, hR⟩⟩
inductive Below (W : List (List Nat)) : List Nat → List Nat → Prop
  | refl (P : List Nat) : Below W P P
  | step {P R Q : List Nat} : R ∈ ext W P → Below W R Q → Below W P Q
theorem Below.snoc {P Q R : List Nat} (h : Below W P Q) (r : R ∈ ext W Q) : Below W P R := by
  induction h with
  | refl P => exact .step r (.refl _)
  | step a _ ih => exact .step a (ih r)
theorem lev_below : ∀ (k : Nat) {Q : List Nat}, Q ∈ lev m W k → ∃ u, u < m ∧ Below W [u] Q
  | 0, Q, h => by
    obtain ⟨u, hu, rfl⟩ := List.mem_map.mp h
    exact ⟨u, List.mem_range.mp hu, .refl _⟩
  | k + 1, Q, h => by
    obtain ⟨R, hR, hQ⟩ := List.mem_flatMap.mp h
    obtain ⟨u, hu, b⟩ := lev_below k hR
    exact ⟨u, hu, b.snoc hQ⟩
theorem ext_full (ok : WOk m l W) (h : Path m W P) (hm : m ≤ P.length) : ext W P = [] := by
  rw [List.eq_nil_iff_forall_not_mem]
  intro Q hQ
  obtain ⟨v, a, b, _⟩ := mem_ext.mp hQ
  exact b (path_full h hm (ok.lt _ _ a).2.1)
theorem dfs_none (ok : WOk m l W) : ∀ (j : Nat) {P Q : List Nat}, dfs m l W j P = none → Path m W P → m ≤ P.length + j → Below W P Q → faultBy m l W Q = none
  | 0, P, Q, h, hp, hm, hb => by
    cases hb with
    | refl => simpa [dfs] using h
    | step a _ =>
      rw [ext_full ok hp (by omega)] at a
      cases a
  | j + 1, P, Q, h, hp, hm, hb => by
    unfold dfs at h
    cases e : faultBy m l W P with
    | some c => rw [e] at h; cases h
    | none =>
      rw [e] at h
      simp only [] at h
      cases hb with
      | refl => exact e
      | step a b =>
        obtain ⟨c, d⟩ := hp.ext ok a
        exact dfs_none ok j (List.findSome?_eq_none_iff.mp h _ a) c (by omega) b
theorem some_in (ok : WOk m l W) {f : Bool × List Nat} {Ps : List (List Nat)} (hP : ∀ k P, P ∈ lev m W k → P ∈ Ps) (h : someF m l W = some f) : f ∈ Ps.flatMap (lawF m l W) := by
  obtain ⟨u, hu, hd⟩ := List.exists_of_findSome?_eq_some h
  obtain ⟨b, Q⟩ := f
  obtain ⟨⟨k, hk⟩, e⟩ := dfs_some 5 hd ⟨0, List.mem_map.mpr ⟨u, hu, rfl⟩⟩
  exact List.mem_flatMap.mpr ⟨Q, hP k Q hk, fault_law ok (lev_path ok k hk).1 e⟩
theorem some_no (ok : WOk m l W) (hm : m ≤ 6) {Ps : List (List Nat)} (hP : ∀ P ∈ Ps, ∃ k, P ∈ lev m W k) (h : someF m l W = none) : Ps.flatMap (lawF m l W) = [] := by
  rw [List.flatMap_eq_nil_iff]
  intro P hp
  obtain ⟨k, hk⟩ := hP P hp
  obtain ⟨u, hu, b⟩ := lev_below k hk
  have hd := List.findSome?_eq_none_iff.mp h u (List.mem_range.mpr hu)
  exact none_law (dfs_none ok 5 hd (lev_path ok 0 (List.mem_map.mpr ⟨u, List.mem_range.mpr hu, rfl⟩)).1 (by simp; omega) b)
end
end TlD
set_option Elab.async false
set_option linter.all false
set_option maxRecDepth 100000
set_option maxHeartbeats 4000000
namespace TlD
open PySem PySem.Spec PyProof.Rows L2 GxR TlG
/-! ### runs, ways, paths, faults as data -/
def wayI (b : Bool) : Int := if b then 1 else -1
def runD (r : List Bool) : D := .tuple (r.map fun b => .int (wayI b))
def rowsD (W : List (List Nat)) : List D := W.map fun r => .list (intsN r)
def waysD (W : List (List Nat)) : D := .list (rowsD W)
def pathD (P : List Nat) : D := .tuple (intsN P)
def faultD (f : Bool × List Nat) : D := .tuple [.str (if f.1 = true then "round" else "short"), pathD f.2]
def optD : Option (Bool × List Nat) → D
  | some f => faultD f
  | none => .none
/-- own lists that stand as rows -/
structure RowsIn (θ : Th) (qs : List Addr) (W : List (List Nat)) (θ0 : Th) : Prop where
  len : qs.length = W.length
  nd : qs.Nodup
  at_ : ∀ (i : Nat) q r, qs[i]? = some q → W[i]? = some r → θ.lookup q = some (intsN r)
  off : thDels θ qs = θ0
  key : ∀ a ∈ θ.map (·.1), a ∈ qs ∨ a ∈ θ0.map (·.1)
theorem RowsIn.nil (θ : Th) : RowsIn θ [] [] θ := ⟨rfl, List.nodup_nil, fun i q r h => by simp at h, thDels_nil θ, fun a h => .inr h⟩
theorem thDels_out {θ : Th} {q : Addr} {ds : List D} {qs : List Addr} (h : q ∈ qs) : thDels ((q, ds) :: θ) qs = thDels θ qs := by
  unfold thDels
  rw [List.filter_cons_of_neg (by simp [h])]
theorem thDels_id {θ : Th} {qs : List Addr} (h : ∀ a ∈ θ.map (·.1), a ∉ qs) : thDels θ qs = θ := by
  unfold thDels
  rw [List.filter_eq_self]
  intro p hp
  exact decide_eq_true (h p.1 (List.mem_map.mpr ⟨p, hp, rfl⟩))
theorem thDels_snoc {θ : Th} {q : Addr} {qs : List Addr} (h : q ∉ θ.map (·.1)) : thDels θ (qs ++ [q]) = thDels θ qs := by
  unfold thDels
  refine List.filter_congr fun p hp => ?_
  have : p.1 ≠ q := fun e => h (e ▸ List.mem_map.mpr ⟨p, hp, rfl⟩)
  simp [this]
theorem RowsIn.more {θ θ0 : Th} {qs : List Addr} {W : List (List Nat)} {q : Addr} (h : RowsIn θ qs W θ0) (n : q ∉ θ.map (·.1)) (hq : q ∉ qs) : RowsIn ((q, []) :: θ) (qs ++ [q]) (W ++ [[]]) θ0 := by
  refine ⟨by simp [h.len], ?_, fun i p r hp hr => ?_, ?_, fun a ha => ?_⟩
  · exact List.nodup_append.mpr ⟨h.nd, by simp, fun x hx y hy => by
      rw [List.mem_singleton.mp hy]
      exact fun e => hq (e ▸ hx)⟩
  · by_cases c : i < qs.length
    · rw [List.getElem?_append_left c] at hp
      rw [List.getElem?_append_left (by rw [← h.len]; exact c)] at hr
      have ne : p ≠ q := fun e => hq (e ▸ List.mem_of_getElem? hp)
      rw [List.lookup_cons, show (p == q) = false from by simp [ne]]
      exact h.at_ i p r hp hr
    · rw [List.getElem?_append_right (by omega)] at hp
      rw [List.getElem?_append_right (by rw [← h.len]; omega), ← h.len] at hr
      cases e : i - qs.length with
      | zero =>
        rw [e] at hp hr
        cases hp
        cases hr
        exact lookup_top
      | succ k => rw [e] at hp; simp at hp
  · rw [thDels_out (by simp), thDels_snoc n]
    exact h.off
  · rcases List.mem_cons.mp ha with rfl | ha
    · exact .inl (by simp)
    · rcases h.key a ha with z | z
      · exact .inl (by simp [z])
      · exact .inr z
theorem thDels_set {θ : Th} {qs : List Addr} {q : Addr} {ds : List D} (h : q ∈ qs) : thDels (thSet θ q ds) qs = thDels θ qs := by
  unfold thDels thSet
  induction θ with
  | nil => rfl
  | cons p θ ih =>
    rw [List.map_cons, List.filter_cons, List.filter_cons, ih]
    by_cases e : p.1 = q
    · rw [if_pos e]
      have e1 : decide (q ∉ qs) = false := by simp [h]
      have e2 : decide (p.1 ∉ qs) = false := by simp [e, h]
      simp only [e1, e2]
      rfl
    · rw [if_neg e]
theorem RowsIn.set {θ θ0 : Th} {qs : List Addr} {W : List (List Nat)} {i : Nat} {q : Addr} {r : List Nat} (h : RowsIn θ qs W θ0) (hq : qs[i]? = some q) (hr : W[i]? = some r) (v : Nat) :
    RowsIn (thSet θ q (intsN r ++ [.int (v : Int)])) qs (W.modify i (· ++ [v])) θ0 := by
  refine ⟨by simp [h.len], h.nd, fun k p s hp hs => ?_, ?_, fun a ha => ?_⟩
  · rw [lookup_thSet]
    by_cases c : k = i
    · subst c
      rw [hq] at hp
      cases hp
      rw [if_pos rfl, h.at_ k q r hq hr]
      rw [List.getElem?_modify, hr] at hs
      simp at hs
      subst hs
      rw [intsN_app]
      rfl
    · have ne : p ≠ q := fun e => c (by
        subst e
        exact (List.getElem?_inj (List.getElem?_eq_some_iff.mp hp).1 h.nd).mp (hp.trans hq.symm))
      rw [if_neg ne]
      rw [List.getElem?_modify] at hs
      have c' : ¬ i = k := fun e => c e.symm
      exact h.at_ k p s hp (by simpa [c'] using hs)
  · rw [thDels_set (List.mem_of_getElem? hq)]
    exact h.off
  · rw [thSet_keys] at ha
    exact h.key a ha
theorem RowsIn.pair {θ θ0 : Th} {qs : List Addr} {W : List (List Nat)} (h : RowsIn θ qs W θ0) : Paired (fun q ds => θ.lookup q = some ds) qs (W.map intsN) := by
  obtain ⟨len, nd, at_, off, key⟩ := h
  clear nd off key
  induction qs generalizing W with
  | nil =>
    cases W with
    | nil => exact .nil
    | cons _ _ => simp at len
  | cons q qs ih =>
    cases W with
    | nil => simp at len
    | cons r W =>
      exact .cons (at_ 0 q r rfl rfl) (ih (by simpa using len) (fun i p s hp hs => at_ (i + 1) p s (by simpa using hp) (by simpa using hs)))
theorem RowsIn.frz {θ θ0 : Th} {qs : List Addr} {W : List (List Nat)} (h : RowsIn θ qs W θ0) : Frz (.rows qs) θ (.d (waysD W)) θ0 := by
  refine .rows h.pair h.nd ?_
  rw [h.off, List.map_map]
  exact .refl
theorem rows_at {W : List (List Nat)} {u : Nat} (h : u < W.length) : atI (rowsD W) (u : Int) = some (.list (intsN (row W u))) := by
  rw [atI_natN]
  unfold rowsD row
  rw [List.getElem?_map, List.getD_eq_getElem?_getD, List.getElem?_eq_getElem h]
  rfl
theorem path_head {P : List Nat} (h : P ≠ []) : atI (intsN P) 0 = some (.int (headN P : Int)) := by
  have e : (0 : Int) = ((0 : Nat) : Int) := rfl
  rw [e, atI_natN, intsN_get]
  cases P with
  | nil => exact absurd rfl h
  | cons a P => rfl
theorem path_last {P : List Nat} (h : P ≠ []) : atI (intsN P) (-1) = some (.int (lastN P : Int)) := by
  obtain ⟨Q, e⟩ := split_last h
  generalize lastN P = v at e
  subst e
  unfold atI ixN
  rw [intsN_len, List.length_append, List.length_singleton, if_neg (by decide), if_pos (by omega)]
  have : ((-1 : Int) + ((Q.length + 1 : Nat) : Int)).toNat = Q.length := by omega
  show (intsN (Q ++ [v]))[((-1 : Int) + ((Q.length + 1 : Nat) : Int)).toNat]? = _
  rw [this, intsN_get, List.getElem?_append_right (Nat.le_refl _), Nat.sub_self]
  rfl
theorem RowsIn.key_of {θ θ0 : Th} {qs : List Addr} {W : List (List Nat)} (h : RowsIn θ qs W θ0) {q : Addr} (hq : q ∈ qs) : q ∈ θ.map (·.1) := by
  obtain ⟨i, hi⟩ := List.mem_iff_getElem?.mp hq
  have lt := (List.getElem?_eq_some_iff.mp hi).1
  have e : W[i]? = some (W[i]'(by rw [← h.len]; exact lt)) := List.getElem?_eq_getElem _
  exact th_key (h.at_ i q _ hi e)
theorem lcR_new {i : Nat} {ρw : Rho} {Φ : List Addr → Th → Prop} {θ0 : Th} : ∀ (items : List D) (qs : List Addr) (W : List (List Nat)) (θ : Th), RowsIn θ qs W θ0 → qs.length + items.length ≤ 1000 →
    (∀ qs' θ', RowsIn θ' qs' (W ++ List.replicate items.length []) θ0 → Φ qs' θ') → lcR (gN i) dYes (dLstO dNil) ρw Φ items qs θ
  | [], qs, W, θ, h, _, k => k qs θ (by simpa using h)
  | d :: ds, qs, W, θ, h, hl, k => by
    rw [List.length_cons] at hl
    unfold lcR
    simp only [gN, dYes, if_true, dLstO, dNil, dTup.allD, asO]
    refine ⟨by decide, fun p hp => ⟨by omega, ?_⟩⟩
    have hq : p ∉ qs := fun z => hp (h.key_of z)
    refine lcR_new ds (qs ++ [p]) (W ++ [[]]) _ (h.more hp hq) (by simp; omega) fun qs' θ' h' => k qs' θ' ?_
    rw [List.length_cons, List.replicate_succ]
    simpa using h'
theorem rows_atI {qs : List Addr} {u : Nat} (h : u < qs.length) : ∃ q, atI qs (u : Int) = some q ∧ qs[u]? = some q := by
  rw [atI_natN]
  exact ⟨_, List.getElem?_eq_getElem h, List.getElem?_eq_getElem h⟩
theorem zipR_get {l : List (Int × Int)} {r : List Bool} {j : Nat} {d : D} (h : (zipD (l.map tieD) (r.map fun b => PyData.int (wayI b)))[j]? = some d) : ∃ p b, l[j]? = some p ∧ r[j]? = some b ∧ d = .tuple [tieD p, .int (wayI b)] := by
  obtain ⟨x, y, h1, h2, rfl⟩ := zipD_get h
  rw [List.getElem?_map] at h1 h2
  cases e1 : l[j]? with
  | none => rw [e1] at h1; cases h1
  | some p =>
    cases e2 : r[j]? with
    | none => rw [e2] at h2; cases h2
    | some b =>
      rw [e1] at h1
      rw [e2] at h2
      cases h1
      cases h2
      exact ⟨p, b, rfl, rfl, rfl⟩
theorem zipR_len : ∀ {l : List (Int × Int)} {r : List Bool}, r.length ≤ l.length → (zipD (l.map tieD) (r.map fun b => PyData.int (wayI b))).length = r.length
  | l, [], _ => by cases l <;> rfl
  | [], _ :: _, h => by simp at h
  | p :: l, b :: r, h => by
    show (zipD (l.map tieD) (r.map fun b => PyData.int (wayI b))).length + 1 = r.length + 1
    rw [zipR_len (by simpa using h)]
theorem edges_take {l : List NT} {r : List Bool} {j : Nat} {t : NT} {b : Bool} (h1 : l[j]? = some t) (h2 : r[j]? = some b) : edges (l.take (j + 1)) (r.take (j + 1)) = edges (l.take j) (r.take j) ++ [edgeOf t b] := by
  rw [List.take_succ, List.take_succ, h1, h2]
  refine edges_snoc ?_
  have a := (List.getElem?_eq_some_iff.mp h1).1
  have b := (List.getElem?_eq_some_iff.mp h2).1
  rw [List.length_take, List.length_take]
  omega
theorem edges_all : ∀ {l : List NT} {r : List Bool}, r.length ≤ l.length → edges (l.take r.length) (r.take r.length) = edges l r
  | l, r, h => by
    rw [List.take_length]
    induction r generalizing l with
    | nil => cases l <;> simp [edges]
    | cons b r ih =>
      cases l with
      | nil => simp at h
      | cons t l =>
        simp only [List.length_cons, List.take_succ_cons, edges]
        rw [ih l (by simpa using h)]
theorem genD_any {G : DGt} {TE : DTE} {ρw : Rho} {Φ : RK} {θ : Th} (p : D → Bool) : ∀ items : List D,
    (∀ d ∈ items, ∀ K : Bool → Th → Prop, K (p d) θ → G (.d d) ρw fun ρ1 => TE noEx ρ1 θ fun r θ2 => asB r fun k => K k θ2) → Φ (.d (.bool (items.any p))) θ →
    genD G dYes TE ρw (fun k θ2 nx => if k = true then Φ (.d (.bool true)) θ2 else nx) (fun θ2 => Φ (.d (.bool false)) θ2) items θ
  | [], _, h => h
  | d :: ds, hs, h => by
    show G (.d d) ρw fun ρ1 => TE noEx ρ1 θ fun r θ2 => asB r fun k => (fun (k : Bool) (θ2 : Th) => if k = true then Φ (.d (.bool true)) θ2 else genD G dYes TE ρw (fun k θ2 nx => if k = true then Φ (.d (.bool true)) θ2 else nx) (fun θ2 => Φ (.d (.bool false)) θ2) ds θ2) k θ2
    refine hs d List.mem_cons_self _ ?_
    rw [List.any_cons] at h
    cases e : p d with
    | true =>
      rw [e, Bool.true_or] at h
      simp only [if_true]
      exact h
    | false =>
      rw [e, Bool.false_or] at h
      simp only [Bool.false_eq_true, if_false]
      exact genD_any p ds (fun d hd => hs d (List.mem_cons_of_mem _ hd)) h
theorem ways_small {m j : Nat} {l : List (Int × Int)} {r : List Bool} (h6 : m ≤ 6) (hl : l.Sublist (pairs m)) : ∀ z, z < m → ∃ w, (waysE m (edges ((l.map natT).take j) (r.take j)))[z]? = some w ∧ w.length ≤ 1000 := fun z hz => by
  refine ⟨_, List.getElem?_eq_getElem (by simp [waysE]; exact hz), ?_⟩
  simp only [waysE, List.getElem_map]
  refine Nat.le_trans (List.length_filterMap_le _ _) ?_
  have el : ∀ (a : List NT) (c : List Bool), (edges a c).length ≤ a.length := by
    intro a
    induction a with
    | nil => intro c; simp [edges]
    | cons x a ih =>
      intro c
      cases c with
      | nil => simp [edges]
      | cons y c =>
        have := ih c
        simp [edges]
        exact this
  refine Nat.le_trans (el _ _) ?_
  rw [List.length_take, List.length_map]
  have := hl.length_le
  have := pairs_len h6
  omega
/-! sizes -/
def S6 : Nat → Nat
  | 0 => 0
  | k + 1 => S6 k + 6 ^ (k + 1)
theorem levs_succ {m : Nat} {W : List (List Nat)} (k : Nat) : (List.range (k + 1)).flatMap (lev m W) = (List.range k).flatMap (lev m W) ++ lev m W k := by
  rw [List.range_succ, List.flatMap_append]
  simp
theorem levs_len {m : Nat} {l : List (Int × Int)} {W : List (List Nat)} (ok : WOk m l W) (hm : m ≤ 6) : ∀ k, ((List.range k).flatMap (lev m W)).length ≤ 55986 := by
  have a : ∀ k, ((List.range k).flatMap (lev m W)).length ≤ S6 k := by
    intro k
    induction k with
    | zero => simp [S6]
    | succ k ih =>
      rw [levs_succ, List.length_append]
      have := lev_size ok hm k
      show _ ≤ S6 k + 6 ^ (k + 1)
      omega
  have b : ∀ k, ((List.range (6 + k)).flatMap (lev m W)).length = ((List.range 6).flatMap (lev m W)).length := by
    intro k
    induction k with
    | zero => rfl
    | succ k ih =>
      rw [← Nat.add_assoc, levs_succ, lev_end ok (k := 6 + k) (by omega), List.append_nil, ih]
  intro k
  by_cases c : k < 6
  · have h := a k
    have : S6 k ≤ 55986 := by
      rcases (by omega : k = 0 ∨ k = 1 ∨ k = 2 ∨ k = 3 ∨ k = 4 ∨ k = 5) with rfl | rfl | rfl | rfl | rfl | rfl <;> decide
    omega
  · obtain ⟨j, rfl⟩ : ∃ j, k = 6 + j := ⟨k - 6, by omega⟩
    rw [b j]
    have h := a 6
    have : S6 6 ≤ 55986 := by decide
    omega
theorem lev_len {m : Nat} {l : List (Int × Int)} {W : List (List Nat)} (ok : WOk m l W) (hm : m ≤ 6) (k : Nat) : (lev m W k).length ≤ 55986 := by
  have := levs_len ok hm (k + 1)
  rw [levs_succ, List.length_append] at this
  omega
theorem intsN_ints (P : List Nat) : intsN P = (P.map fun n : Nat => (n : Int)).map PyData.int := by
  unfold intsN
  rw [List.map_map]
  rfl
theorem paths_ok : ∀ Ps : List (List Nat), flatDs (Ps.map pathD) = true ∧ PyData.canLayAll0 (Ps.map pathD) = true ∧ PyData.depthAll (Ps.map pathD) ≤ 1
  | [] => ⟨rfl, rfl, by decide⟩
  | P :: Ps => by
    obtain ⟨a, b, c⟩ := paths_ok Ps
    obtain ⟨x, y⟩ := lay_ints (P.map fun n : Nat => (n : Int))
    have z := flat_ints (P.map fun n : Nat => (n : Int))
    rw [← intsN_ints] at x y z
    refine ⟨?_, ?_, ?_⟩
    · show (flatDs (intsN P) && flatDs _) = true
      rw [z, a]
      rfl
    · show (PyData.canLayAll0 (intsN P) && PyData.canLayAll0 _) = true
      rw [x, b]
      rfl
    · show max (PyData.depthAll (intsN P) + 1) (PyData.depthAll _) ≤ 1
      rw [y]
      omega
theorem eqOk_paths (Ps : List (List Nat)) : eqOk (.list (Ps.map pathD)) := by
  obtain ⟨a, b, c⟩ := paths_ok Ps
  refine ⟨a, ?_⟩
  unfold SeqAt.shaped
  rw [Bool.and_eq_true]
  refine ⟨b, decide_eq_true ?_⟩
  show PyData.depthAll _ + 1 ≤ 64
  omega
end TlD
set_option Elab.async false
set_option linter.all false
set_option maxRecDepth 100000
set_option maxHeartbeats 4000000
namespace TlD
open PySem PySem.Spec PyProof.Rows L2 GxR TlG
local macro_rules | `(tactic| walk_at "rd") => `(tactic| simp only [dSeq, dSet, dAsg, dSetIx, dDrop, dIfS, dFor, dRet, dRetN, dRetF, dNext, dRaise, dVar, dC, dOp, dUn, dCall, dTest, dAnd, dOr, dNot, dAndV, dOrV, dNotV, dIf, dChain, dNil, dCons, dTup, dTup.allD, dLst, dLstO, dNewP, dNewO, dListC, dIsi, dFn0, dFn, dAll, dAny, dPar, dItT, dItL, dItS, dItR1, dItR2, dItZ, dSl, oNone, oSome, gN, gT, gsNil, gsCons, dSortSet, dRevS, nth, put, startR, fAdd, fSub, fMul, fDiv, fMod, fLt, fLe, fGt, fGe, fLtT, fEq, fNe, fIn, fIsN, fIsB, fLen, fIx, fSl, fTuple, fAbs, fMax, fMin, fNeg, fDivmod, fStrI, dAppend, dPopAt, on2I, is1I, is2I, is2Z, on1, dat, asD, asB, asI, asS, onOwn, lenD, listD, ixD, List.length_cons, List.length_nil])


def tiedB (l : List (Int × Int)) (a b : Nat) : Bool := decide ((((if b < a then b else a : Nat) : Int), ((if b > a then b else a : Nat) : Int)) ∈ l)
def nearT (m : Nat) (l : List (Int × Int)) (p : Nat) : List Nat := (List.range m).filter fun u => decide (u ≠ p) && tiedB l p u
def turnB (m : Nat) (l : List (Int × Int)) (p : Nat) (q : Int × Int) : Bool := decide (q ∈ l) != (decide (q.1.toNat ∈ nearT m l p) && decide (q.2.toNat ∈ nearT m l p))
def atWeb (m : Nat) (l : List (Int × Int)) (p : Nat) : List (Int × Int) := (pairs m).filter (turnB m l p)
def rowP (m a : Nat) : List (Int × Int) := (List.range (m - (a + 1))).map fun k => ((a : Int), ((a + 1 + k : Nat) : Int))
theorem pairs_rows (m : Nat) : pairs m = (List.range m).flatMap (rowP m) := rfl

def sp__law_tied : DSp := fun rs θ Φ _ => match rs with
  | [.d w, .d (.int a), .d (.int b)] => ∃ (m : Nat) (l : List (Int × Int)) (u v : Nat), w = webD m l ∧ a = u ∧ b = v ∧ Φ (.d (.bool (tiedB l u v))) θ
  | _ => False

def T__law_tied : DTS := (dRet (dOp (fInT false) (dTup (dCons (dCall fMin (dCons (dVar 1) (dCons (dVar 2) dNil))) (dCons (dCall fMax (dCons (dVar 1) (dCons (dVar 2) dNil))) dNil))) (dOp fIx (dVar 0) (dC (.int 1)))))

theorem ln__law_tied : ∀ rs θ Φ Ex, sp__law_tied rs θ Φ Ex → rs.length = 3 := fun rs θ Φ Ex h => by
  unfold sp__law_tied at h
  split at h
  all_goals first
    | rfl
    | exact h.elim

theorem rd__law_tied : ∀ rs θ Φ Ex, sp__law_tied rs θ Φ Ex → T__law_tied { nx := fun _ θ' => Φ (.d .none) θ', rt := Φ, ex := fun xd _ θ' => Ex xd θ' } (startR 3 rs) θ := by
  intro rs θ Φ Ex h
  unfold sp__law_tied at h
  split at h
  · obtain ⟨m, l, u, v, rfl, rfl, rfl, h⟩ := h
    have i1 : atI [PyData.int (m : Int), .tuple (l.map tieD)] 1 = some (.tuple (l.map tieD)) := rfl
    unfold T__law_tied
    walk_at "rd"
    simp only [fInT, webD, dat, i1]
    have e1 : (if (v : Int) < (u : Int) then (v : Int) else (u : Int)) = ((if v < u then v else u : Nat) : Int) := by
      by_cases c : v < u
      · rw [if_pos c, if_pos (by omega)]
      · rw [if_neg c, if_neg (by omega)]
    have e2 : (if (v : Int) > (u : Int) then (v : Int) else (u : Int)) = ((if v > u then v else u : Nat) : Int) := by
      by_cases c : v > u
      · rw [if_pos c, if_pos (by omega)]
      · rw [if_neg c, if_neg (by omega)]
    have an := any_tie (((if v < u then v else u : Nat) : Int), ((if v > u then v else u : Nat) : Int)) l
    simp only [tieD] at an
    rw [e1, e2]
    refine ⟨by show (2 : Nat) ≤ 1000; decide, eqOk_tie (((if v < u then v else u : Nat) : Int), ((if v > u then v else u : Nat) : Int)), (eqOk_ties _).1, ?_⟩
    simp only [Bool.false_eq_true, if_false]
    rw [an]
    exact h
  · exact h.elim

def sp__law_at : DSp := fun rs θ Φ _ => match rs with
  | [.d w, .d (.int i)] => ∃ (m : Nat) (l : List (Int × Int)) (p : Nat), m ≤ 6 ∧ l.Sublist (pairs m) ∧ w = webD m l ∧ i = p ∧ p < m ∧ Φ (.d (webD m (atWeb m l p))) θ
  | _ => False

def B__law_at_1 : DTS := (dIfS (dTest (dOp fNe (dOp (fInT false) (dTup (dCons (dVar 4) (dCons (dVar 5) dNil))) (dOp fIx (dVar 0) (dC (.int 1)))) (dAndV (dOp (fIn false) (dVar 4) (dVar 2)) (dOp (fIn false) (dVar 5) (dVar 2))))) (dDrop (dAppend (dVar 3) (dTup (dCons (dVar 4) (dCons (dVar 5) dNil))))) dNext)

def B__law_at_2 : DTS := (dFor (dItR2 (dCons (dOp fAdd (dVar 4) (dC (.int 1))) (dCons (dOp fIx (dVar 0) (dC (.int 0))) dNil))) (gN 5) B__law_at_1)

def C__law_at_1_1 : DTS := (dRetF (dTup (dCons (dOp fIx (dVar 0) (dC (.int 0))) (dCons (dCall fTuple (dCons (dVar 3) dNil)) dNil))))

def C__law_at_1_2 : DTS := (dSeq (dFor (dItR1 (dCons (dOp fIx (dVar 0) (dC (.int 0))) dNil)) (gN 4) B__law_at_2) C__law_at_1_1)

def C__law_at_1_3 : DTS := (dSeq (dSet 3 (dLstO dNil)) C__law_at_1_2)

def T__law_at : DTS := (dSeq (dSet 2 (dNewP (dLc (dItR1 (dCons (dOp fIx (dVar 0) (dC (.int 0))) dNil)) (gN 5) (dAnd (dTest (dOp fNe (dVar 5) (dVar 1))) (dTest (dFn0 sp__law_tied (dCons (dVar 0) (dCons (dVar 1) (dCons (dVar 5) dNil)))))) (dVar 5) [5]))) C__law_at_1_3)

theorem ln__law_at : ∀ rs θ Φ Ex, sp__law_at rs θ Φ Ex → rs.length = 2 := fun rs θ Φ Ex h => by
  unfold sp__law_at at h
  split at h
  all_goals first
    | rfl
    | exact h.elim

theorem rd__law_at : ∀ rs θ Φ Ex, sp__law_at rs θ Φ Ex → T__law_at { nx := fun _ θ' => Φ (.d .none) θ', rt := Φ, ex := fun xd _ θ' => Ex xd θ' } (startR 6 rs) θ := by
  intro rs θ Φ Ex h
  unfold sp__law_at at h
  split at h
  · obtain ⟨m, l, p, h6, hl, rfl, rfl, pm, h⟩ := h
    have i0 : atI [PyData.int (m : Int), .tuple (l.map tieD)] 0 = some (.int (m : Int)) := rfl
    have i1 : atI [PyData.int (m : Int), .tuple (l.map tieD)] 1 = some (.tuple (l.map tieD)) := rfl
    unfold T__law_at
    simp only [startR, List.length_cons, List.length_nil, dSeq, dSet, dNewP]
    unfold dLc
    simp only [dItR1, dCons, dNil, dOp, dVar, dC, nth, fIx, webD, asI, dat, ixD, i0, is1I]
    refine ⟨rOk_of (by omega) (by omega), ?_⟩
    rw [intsN_range]
    refine lcD_map (fun d => match d with | .int v => if (decide (v.toNat ≠ p) && tiedB l p v.toNat) = true then some d else none | _ => none) _ [] (fun d hd k1 k0 hk => ?_) (by rw [intsN_len]; simp; omega) ?_
    · obtain ⟨v, hv, rfl⟩ := List.mem_map.mp hd
      simp only [Int.toNat_natCast] at hk
      simp only [wipeR, unset, gN, put, dAnd, dTest, dOp, dVar, nth, fNe, dat, asB]
      refine ⟨eqOk_int _, eqOk_int _, ?_⟩
      have en : (!PyData.eqv (.int (v : Int)) (.int (p : Int))) = decide (v ≠ p) := by
        by_cases c : v = p
        · subst c
          simp [PyData.eqv]
        · have : ¬ (v : Int) = (p : Int) := by omega
          simp [PyData.eqv, c, this]
      rw [en]
      by_cases c : v = p
      · have cf : decide (v ≠ p) = false := by simp [c]
        simp only [cf, Bool.false_and, Bool.false_eq_true, if_false] at hk ⊢
        exact hk
      · have cf : decide (v ≠ p) = true := by simp [c]
        simp only [cf, Bool.true_and, if_true, dFn0, dCons, dNil, dVar, nth] at hk ⊢
        refine ⟨m, l, p, v, rfl, rfl, rfl, ?_⟩
        cases g : tiedB l p v with
        | true =>
          rw [g] at hk
          simp only [if_true, asD] at hk ⊢
          exact hk
        | false =>
          rw [g] at hk
          simp only [Bool.false_eq_true, if_false] at hk ⊢
          exact hk
    · have ef : (intsN (List.range m)).filterMap (fun d => match d with | .int v => if (decide (v.toNat ≠ p) && tiedB l p v.toNat) = true then some d else none | _ => none) = intsN (nearT m l p) := by
        unfold intsN nearT
        rw [List.filterMap_map, ← List.filterMap_eq_map, List.filterMap_filter]
        congr 1
      rw [List.nil_append, ef]
      simp only [put]
      unfold C__law_at_1_3
      simp only [dSeq, dSet, dLstO, dNil, dTup.allD, put]
      refine ⟨by decide, fun q hq => ?_⟩
      unfold C__law_at_1_2
      simp only [dSeq, dFor, dItR1, dCons, dNil, dOp, dVar, dC, nth, fIx, asI, dat, ixD, i0, is1I]
      refine ⟨rOk_of (by omega) (by omega), ?_⟩
      refine forD_inv (fun i ρ θ1 => ∃ (x4 x5 : Option RV), θ1 = (q, ((((List.range i).flatMap (rowP m)).filter (turnB m l p)).map tieD)) :: θ ∧ i ≤ m ∧ ρ = [some (.d (.tuple [.int (m : Int), .tuple (l.map tieD)])), some (.d (.int (p : Int))), some (.d (.list (intsN (nearT m l p)))), some (.own q), x4, x5]) _ 0 _ _ (fun i d ed ρ θ1 K hI hK => ?_) (fun ρ θ1 hI => ?_) ⟨none, none, rfl, Nat.zero_le _, rfl⟩
      · obtain ⟨x4, x5, rfl, im, rfl⟩ := hI
        rw [Nat.zero_add] at hK im ⊢
        have i_m : i < m := by
          have := (List.getElem?_eq_some_iff.mp ed).1
          rw [rangeD_length] at this
          omega
        have ed := rangeD_get ed
        rw [Int.zero_add] at ed
        subst ed
        have er : (List.range (i + 1)).flatMap (rowP m) = (List.range i).flatMap (rowP m) ++ rowP m i := by
          rw [List.range_succ, List.flatMap_append]
          simp
        unfold B__law_at_2
        simp only [gN, put, dFor, dItR2, dCons, dNil, dOp, dVar, dC, nth, fAdd, on2I, fIx, asI, dat, ixD, i0, is2I]
        refine ⟨rOk_of (by omega) (by omega), rOk_of (by omega) (by omega), ?_⟩
        have rl : (rowP m i).length = m - (i + 1) := by simp [rowP]
        refine forD_inv (fun j ρ θ1 => ∃ (x5 : Option RV), θ1 = (q, ((((List.range i).flatMap (rowP m) ++ (rowP m i).take j).filter (turnB m l p)).map tieD)) :: θ ∧ ρ = [some (.d (.tuple [.int (m : Int), .tuple (l.map tieD)])), some (.d (.int (p : Int))), some (.d (.list (intsN (nearT m l p)))), some (.own q), some (.d (.int (i : Int))), x5]) _ 0 _ _ (fun j d ed ρ θ1 K2 hI hK2 => ?_) (fun ρ θ1 hI => ?_) ⟨_, by rw [List.take_zero, List.append_nil], rfl⟩
        · obtain ⟨x5, rfl, rfl⟩ := hI
          rw [Nat.zero_add] at hK2 ⊢
          have jm : j < m - (i + 1) := by
            have := (List.getElem?_eq_some_iff.mp ed).1
            rw [rangeD_length] at this
            omega
          have ed := rangeD_get ed
          have e2 : ((i : Int) + 1 + (j : Nat)) = ((i + 1 + j : Nat) : Int) := by omega
          rw [e2] at ed
          subst ed
          have ej : (rowP m i)[j]? = some ((i : Int), ((i + 1 + j : Nat) : Int)) := by
            unfold rowP
            rw [List.getElem?_map, List.getElem?_range jm]
            rfl
          have et : (rowP m i).take (j + 1) = (rowP m i).take j ++ [((i : Int), ((i + 1 + j : Nat) : Int))] := by
            rw [List.take_succ, ej]
            rfl
          have an := any_tie ((i : Int), ((i + 1 + j : Nat) : Int)) l
          simp only [tieD] at an
          have sz : (((List.range i).flatMap (rowP m) ++ (rowP m i).take j).filter (turnB m l p)).length ≤ 1000 := by
            refine Nat.le_trans (List.length_filter_le _ _) ?_
            have : ((List.range i).flatMap (rowP m)).length ≤ (pairs m).length := by
              rw [pairs_rows]
              have e : List.range m = List.range i ++ (List.range m).drop i := by
                conv => lhs; rw [← List.take_append_drop i (List.range m)]
                rw [List.take_range, Nat.min_eq_left im]
              rw [e, List.flatMap_append, List.length_append]
              omega
            have := pairs_len h6
            rw [List.length_append, List.length_take]
            omega
          generalize hF : ((List.range i).flatMap (rowP m) ++ (rowP m i).take j) = F at sz
          have key : turnB m l p ((i : Int), ((i + 1 + j : Nat) : Int)) = (decide (((i : Int), ((i + 1 + j : Nat) : Int)) ∈ l) != (decide (i ∈ nearT m l p) && decide ((i + 1 + j) ∈ nearT m l p))) := by
            unfold turnB
            simp only [Int.toNat_natCast]
          have last : ∀ b : Bool, turnB m l p ((i : Int), ((i + 1 + j : Nat) : Int)) = b → (if b = true then small ((F.filter (turnB m l p)).map tieD).length ∧ K2 [some (.d (.tuple [.int (m : Int), .tuple (l.map tieD)])), some (.d (.int (p : Int))), some (.d (.list (intsN (nearT m l p)))), some (.own q), some (.d (.int (i : Int))), some (.d (.int ((i + 1 + j : Nat) : Int)))] (thSet ((q, (F.filter (turnB m l p)).map tieD) :: θ) q ((F.filter (turnB m l p)).map tieD ++ [.tuple [.int (i : Int), .int ((i + 1 + j : Nat) : Int)]])) else K2 [some (.d (.tuple [.int (m : Int), .tuple (l.map tieD)])), some (.d (.int (p : Int))), some (.d (.list (intsN (nearT m l p)))), some (.own q), some (.d (.int (i : Int))), some (.d (.int ((i + 1 + j : Nat) : Int)))] ((q, (F.filter (turnB m l p)).map tieD) :: θ)) := by
            intro b hb
            subst hF
            have e3 : (((List.range i).flatMap (rowP m) ++ (rowP m i).take (j + 1)).filter (turnB m l p)).map tieD = (((List.range i).flatMap (rowP m) ++ (rowP m i).take j).filter (turnB m l p)).map tieD ++ (if b = true then [.tuple [.int (i : Int), .int ((i + 1 + j : Nat) : Int)]] else []) := by
              rw [et, ← List.append_assoc, List.filter_append, List.map_append]
              congr 1
              rw [List.filter_cons, hb]
              cases b with
              | true => rfl
              | false => rfl
            cases b with
            | true =>
              rw [if_pos rfl] at e3 ⊢
              refine ⟨by rw [List.length_map]; show _ ≤ 1000000; omega, ?_⟩
              rw [thSet_top hq, ← e3]
              exact hK2 _ _ ⟨_, rfl, rfl⟩
            | false =>
              rw [if_neg Bool.false_ne_true] at e3 ⊢
              rw [List.append_nil] at e3
              rw [← e3]
              exact hK2 _ _ ⟨_, rfl, rfl⟩
          unfold B__law_at_1
          walk_at "rd"
          simp only [fInT, dat, i1]
          refine ⟨by show (2 : Nat) ≤ 1000; decide, eqOk_tie ((i : Int), ((i + 1 + j : Nat) : Int)), (eqOk_ties _).1, ?_⟩
          simp only [Bool.false_eq_true, if_false, an, lookup_top]
          refine ⟨⟨rfl, intsN_scal⟩, ?_⟩
          simp only [intsN_in]
          have fin := last _ rfl
          rw [key] at fin
          by_cases z : i ∈ nearT m l p
          · simp only [z, decide_true, if_true, Bool.true_and] at fin ⊢
            refine ⟨⟨rfl, intsN_scal⟩, eqOk_bool _, eqOk_bool _, ?_⟩
            rw [show (!PyData.eqv (.bool (decide (((i : Int), ((i + 1 + j : Nat) : Int)) ∈ l))) (.bool (decide ((i + 1 + j) ∈ nearT m l p)))) = (decide (((i : Int), ((i + 1 + j : Nat) : Int)) ∈ l) != decide ((i + 1 + j) ∈ nearT m l p)) from by
              cases decide (((i : Int), ((i + 1 + j : Nat) : Int)) ∈ l) <;> cases decide ((i + 1 + j) ∈ nearT m l p) <;> rfl]
            revert fin
            generalize (decide (((i : Int), ((i + 1 + j : Nat) : Int)) ∈ l) != decide ((i + 1 + j) ∈ nearT m l p)) = b
            intro fin
            cases b with
            | true =>
              rw [if_pos rfl] at fin ⊢
              exact ⟨by decide, fin⟩
            | false =>
              rw [if_neg Bool.false_ne_true] at fin ⊢
              exact fin
          · simp only [z, decide_false, Bool.false_eq_true, if_false, Bool.false_and] at fin ⊢
            refine ⟨eqOk_bool _, eqOk_bool _, ?_⟩
            rw [show (!PyData.eqv (.bool (decide (((i : Int), ((i + 1 + j : Nat) : Int)) ∈ l))) (.bool false)) = (decide (((i : Int), ((i + 1 + j : Nat) : Int)) ∈ l) != false) from by
              cases decide (((i : Int), ((i + 1 + j : Nat) : Int)) ∈ l) <;> rfl]
            revert fin
            generalize (decide (((i : Int), ((i + 1 + j : Nat) : Int)) ∈ l) != false) = b
            intro fin
            cases b with
            | true =>
              rw [if_pos rfl] at fin ⊢
              exact ⟨by decide, fin⟩
            | false =>
              rw [if_neg Bool.false_ne_true] at fin ⊢
              exact fin
        · obtain ⟨x5, rfl, rfl⟩ := hI
          rw [Nat.zero_add, rangeD_length]
          have : ((m : Int) - ((i : Int) + 1)).toNat = (rowP m i).length := by rw [rl]; omega
          rw [this, List.take_length, ← er]
          exact hK _ _ ⟨_, _, rfl, by omega, rfl⟩
      · obtain ⟨x4, x5, rfl, _, rfl⟩ := hI
        rw [Nat.zero_add, rangeD_length]
        have : ((m : Int) - 0).toNat = m := by omega
        rw [this, ← pairs_rows]
        unfold C__law_at_1_1
        walk_at "rd"
        simp only [i0, lookup_top]
        refine ⟨by show (2 : Nat) ≤ 1000; decide, _, _, .del q .refl, ?_⟩
        rw [thDel_top hq]
        exact h
  · exact h.elim

/-- what stands ahead of the first c, between both, behind the last -/
def wordAt (x : Str) (c : Nat) : Str := txt (x.cps.toList.takeWhile (fun d => decide (d ≠ c)) ++ [c] ++ (((x.cps.toList.dropWhile fun d => decide (d ≠ c)).drop 1).takeWhile fun d => decide (d ≠ c)).reverse ++ [c] ++ ((((x.cps.toList.dropWhile fun d => decide (d ≠ c)).drop 1).dropWhile fun d => decide (d ≠ c)).drop 1))

end TlD
set_option Elab.async false
set_option linter.all false
set_option maxRecDepth 100000
set_option maxHeartbeats 4000000
namespace TlD
open PySem PySem.Spec PyProof.Rows L2 GxR TlG
section
variable {c : Cn} {X : Cx}
/-! ### a, b, c = a list -/
def gTupL (K : PySem.W.Frag) (n : Nat) (t : TGs) : TG := fun v σ H Q => ∃ a xs, v = .ref a ∧ SqL K H a xs ∧ xs.length = n ∧ t xs σ H Q
theorem pg_tupL {es : List Expr} {k : Nat} {t : TGs} {n : Nat} {pos : Pos} (hc : X.calm = true) (h : PGs X es t)
    (hn : (assignEach es X.env).length = n := by rfl) (hst : (assignEach es X.env).findIdx? (·.1) = none := by rfl) : PG X (.Tuple es k pos) (gTupL X.K n t) := by
  refine ⟨fun pins s σ H v u Q I r hw => ?_⟩
  obtain ⟨a, xs, e1, hq, hl, hw⟩ := hw
  subst e1
  cases r
  obtain ⟨its, rv, ht, hz⟩ := I.list hq
  have hL : s.heap.IsList a its.toArray := by
    obtain ⟨o, n, e, c, d, z⟩ := ht
    exact ⟨o, e, c, n, z⟩
  rw [assign_Tuple]
  refine wpAny_bind (wpAny_standAt ?_)
  unfold unpack
  have hs : (assignEach es X.env).length = its.toArray.size := by
    have := rv.length
    simp
    omega
  rw [hs, hst]
  refine wpAny_bind (wpAny_holding (PySem.W.kun_itemsOf (I.ok.hd hc) hL fun h' hx => ?_))
  have I1 : Inv X pins σ H { s with heap := h' } := I.kept (t' := s.toks) fun b o e => hx b o (Nat.ne_of_lt (Heap.lt_size e)) e
  exact h.run pins _ σ H xs _ Q I1 (by simpa using rv) hw
def gTL (Gs : DGs) : DGt := fun r ρ Ψ => match r with
  | .d (.list ds) => Gs ds ρ Ψ
  | _ => False
theorem dg_tupL {es : List Expr} {k : Nat} {pos : Pos} {Gs : DGs} {vs : List Nat} {n : Nat} (hc : X.calm = true) (h : DGsJ c X es gs Gs vs) (hK : X.K = c.K) (hl : ∀ ds ρ Ψ, Gs ds ρ Ψ → ds.length = n)
    (hp : (assignEach es X.env).length = n := by rfl) (hst : (assignEach es X.env).findIdx? (·.1) = none := by rfl) : DG c X (.Tuple es k pos) (gTupL c.K n gs) (gTL Gs) vs := by
  obtain ⟨ps, ss, kws, mos⟩ := h
  refine ⟨by rw [← hK]; exact pg_tupL hc ps hp hst, fun Zh F0 x r σ H ρ θ Ψ Q S d h k => ?_, fun x σ H Q us hv h => ?_, fun x σ H Q Q' k h => ?_⟩
  · cases r with
    | own _ => exact h.elim
    | seq _ => exact h.elim
    | rows _ => exact h.elim
    | d x =>
      cases x with
      | list ds =>
        cases d with
        | lst h1 h2 =>
        refine ⟨_, _, rfl, sqL_up (.inl (.inl h1)), ?_, ss Zh F0 _ _ σ H ρ θ Ψ Q S h2 h k⟩
        rw [h2.length]
        exact hl _ _ _ h
      | _ => exact h.elim
  · obtain ⟨a, xs, e, h1, h2, h3⟩ := h
    exact ⟨a, xs, e, h1, h2, kws _ _ _ _ _ hv h3⟩
  · obtain ⟨a, xs, e, h1, h2, h3⟩ := h
    exact ⟨a, xs, e, h1, h2, mos _ _ _ _ _ k h3⟩
theorem gs_len3 {i j k : Nat} : ∀ (ds : List D) (ρ : Rho) (Ψ : Rho → Prop), gsCons (gN i) (gsCons (gN j) (gsCons (gN k) gsNil)) ds ρ Ψ → ds.length = 3
  | [], _, _, h => h.elim
  | [_], _, _, h => h.elim
  | [_, _], _, _, h => h.elim
  | [_, _, _], _, _, _ => rfl
  | _ :: _ :: _ :: _ :: _, _, _, h => h.elim
end
end TlD
set_option Elab.async false
set_option linter.all false
set_option maxRecDepth 100000
set_option maxHeartbeats 4000000
namespace TlD
open PySem PySem.Spec PyProof.Rows L2 GxR TlG

theorem txt_app (a b : List Nat) : txt a ++ txt b = txt (a ++ b) := by
  show (⟨a.toArray ++ b.toArray⟩ : Str) = _
  simp [txt]
theorem txt_len (a : List Nat) : (txt a).length = a.length := by
  show a.toArray.size = _
  simp
/-- a word with a sign twice, and this turned at the sign -/
def dbl (A B C : List Nat) (c : Nat) : Str := txt (A ++ [c] ++ B ++ [c] ++ C)
theorem dbl_split {A B C : List Nat} {c : Nat} (hc : c < 256) (a : c ∉ A) (b : c ∉ B) (d : c ∉ C) : Txt.split (dbl A B C c) (⟨#[c]⟩ : Str) = [txt A, txt B, txt C] := by
  have e : dbl A B C c = Txt.join (⟨#[c]⟩ : Str) [txt A, txt B, txt C] := by
    show _ = txt A ++ txt [c] ++ txt B ++ txt [c] ++ txt C
    rw [txt_app, txt_app, txt_app, txt_app]
    rfl
  rw [e]
  refine TL.split_join (s := c) (S := []) rfl ?_ (by simp) fun p hp => ?_
  · simp [hc]
  · rcases List.mem_cons.mp hp with rfl | hp
    · rw [TL.tl, txt_cps]; exact a
    rcases List.mem_cons.mp hp with rfl | hp
    · rw [TL.tl, txt_cps]; exact b
    · rw [List.mem_singleton.mp hp, TL.tl, txt_cps]; exact d
theorem cut_at {c : Nat} : ∀ {L : List Nat} {n : Nat}, cnt L c = n + 1 → ∃ A R, L = A ++ c :: R ∧ c ∉ A ∧ cnt R c = n
  | [], n, h => by cases h
  | x :: L, n, h => by
    by_cases e : x = c
    · subst e
      refine ⟨[], L, rfl, List.not_mem_nil, ?_⟩
      unfold cnt at h ⊢
      rw [List.filter_cons_of_pos (by simp)] at h
      exact Nat.succ.inj h
    · have h' : cnt L c = n + 1 := by
        unfold cnt at h ⊢
        rw [List.filter_cons_of_neg (by simp [e])] at h
        exact h
      obtain ⟨A, R, rfl, a, r⟩ := cut_at h'
      refine ⟨x :: A, R, rfl, fun q => ?_, r⟩
      rcases List.mem_cons.mp q with q | q
      · exact e q.symm
      · exact a q
theorem cnt_none {c : Nat} {L : List Nat} (h : cnt L c = 0) : c ∉ L := fun q => by
  unfold cnt at h
  have := List.eq_nil_of_length_eq_zero h
  have m : c ∈ L.filter fun d => decide (d = c) := List.mem_filter.mpr ⟨q, by simp⟩
  rw [this] at m
  cases m
theorem cut_twice {c : Nat} {x : Str} (h : cnt x.cps.toList c = 2) : ∃ A B C, x = dbl A B C c ∧ c ∉ A ∧ c ∉ B ∧ c ∉ C := by
  obtain ⟨A, R, e, a, r⟩ := cut_at h
  obtain ⟨B, C, rfl, b, d⟩ := cut_at r
  refine ⟨A, B, C, ?_, a, b, cnt_none d⟩
  have : x = txt x.cps.toList := by simp [txt]
  rw [this, e]
  unfold dbl
  congr 1
  simp

def sp_web_at (E : Str → Addr) : DSp := fun rs θ Φ _ => match rs with
  | [.d w, .d (.int i)] => ∃ (m : Nat) (l : List (Int × Int)) (p : Nat), (1 ≤ m ∧ m ≤ 6) ∧ l.Sublist (pairs m) ∧ w = webD m l ∧ i = p ∧ p < m ∧ Φ (.d (webD m (atWeb m l p))) θ
  | _ => False
def sp_word_at (E : Str → Addr) : DSp := fun rs θ Φ _ => match rs with
  | [.d w, .d (.str x), .d (.int i)] => ∃ (m : Nat) (l : List (Int × Int)) (p : Nat) (A B C : List Nat), (1 ≤ m ∧ m ≤ 6) ∧ l.Sublist (pairs m) ∧ w = webD m l ∧ made x m = true ∧ x.length ≤ 12 ∧ (∀ j < m, cnt x.cps.toList (97 + j) = 2) ∧ i = p ∧ p < m ∧ x = dbl A B C (97 + p) ∧ (97 + p) ∉ A ∧ (97 + p) ∉ B ∧ (97 + p) ∉ C ∧ Φ (.d (.str (dbl A B.reverse C (97 + p)))) θ
  | _ => False
theorem lap4_small (n : Nat) : rOk (if (if (4 : Int) < (n : Int) then 4 else (n : Int)) > 1 then (if (4 : Int) < (n : Int) then 4 else (n : Int)) else 1) := by
  refine rOk_of ?_ ?_ <;> split <;> split <;> omega

end TlD
set_option Elab.async false
set_option linter.all false
set_option maxRecDepth 100000
set_option maxHeartbeats 4000000
namespace TlD
open PySem PySem.Spec PyProof.Rows L2 GxR TlG
local macro_rules | `(tactic| walk_at "rd") => `(tactic| simp only [dSeq, dSet, dAsg, dSetIx, dDrop, dIfS, dFor, dRet, dRetN, dRetF, dNext, dRaise, dVar, dC, dOp, dUn, dCall, dTest, dAnd, dOr, dNot, dAndV, dOrV, dNotV, dIf, dChain, dNil, dCons, dTup, dTup.allD, dLst, dLstO, dNewP, dNewO, dListC, dIsi, dFn0, dFn, dAll, dItT, dItL, dItS, dItR1, dItR2, dItZ, dSl, oNone, oSome, gN, gT, gsNil, gsCons, dSortSet, dRevS, nth, put, startR, fAdd, fSub, fMul, fDiv, fMod, fLt, fLe, fGt, fGe, fLtT, fEq, fNe, fIn, fIsN, fIsB, fLen, fIx, fSl, fTuple, fAbs, fMax, fMin, fDivmod, fStrI, dAppend, dPopAt, on2I, is1I, is2I, is2Z, on1, dat, asD, asB, asI, asS, onOwn, lenD, listD, ixD, List.length_cons, List.length_nil])


def strL (L : List Nat) : D := .str (txt L)
def appW (m : Nat) : Nat → List (List Nat)
  | 0 => [[]]
  | n + 1 => (appW m n).flatMap fun t => (List.range m).map fun i => t ++ [97 + i]
theorem appW_len (m : Nat) : ∀ n, (appW m n).length = m ^ n
  | 0 => rfl
  | n + 1 => by
    have ih := appW_len m n
    have : ∀ l : List (List Nat), (l.flatMap fun t => (List.range m).map fun i => t ++ [97 + i]).length = l.length * m := by
      intro l
      induction l with
      | nil => simp
      | cons t l ih => rw [List.flatMap_cons, List.length_append, ih, List.length_map, List.length_range, List.length_cons, Nat.succ_mul]; omega
    show ((appW m n).flatMap fun t => (List.range m).map fun i => t ++ [97 + i]).length = _
    rw [this, ih, Nat.pow_succ]
theorem appW_small {m n : Nat} (hm : m ≤ 3) (hn : n ≤ 6) : (appW m n).length ≤ 729 := by
  rw [appW_len]
  exact Nat.le_trans (Nat.pow_le_pow_left hm n) (Nat.le_trans (Nat.pow_le_pow_right (by decide) hn) (by decide))
theorem appW_mem {m : Nat} : ∀ {n : Nat} {t : List Nat}, t ∈ appW m n → t.length = n ∧ ∀ c ∈ t, 97 ≤ c ∧ c < 97 + m
  | 0, t, h => by
    rw [List.mem_singleton.mp h]
    exact ⟨rfl, fun c hc => by cases hc⟩
  | n + 1, t, h => by
    obtain ⟨s, hs, ht⟩ := List.mem_flatMap.mp h
    obtain ⟨i, hi, rfl⟩ := List.mem_map.mp ht
    obtain ⟨a, b⟩ := appW_mem hs
    have := List.mem_range.mp hi
    refine ⟨by simp [a], fun c hc => ?_⟩
    rcases List.mem_append.mp hc with q | q
    · exact b c q
    · rw [List.mem_singleton.mp q]
      omega
def nextD (m : Nat) : D → List D
  | .str t => (List.range m).map fun i => strL (t.cps.toList ++ [97 + i])
  | _ => []
theorem next_all {m : Nat} (Ls : List (List Nat)) : (Ls.map strL).flatMap (nextD m) = (Ls.flatMap fun t => (List.range m).map fun i => t ++ [97 + i]).map strL := by
  induction Ls with
  | nil => rfl
  | cons t Ls ih =>
    rw [List.map_cons, List.flatMap_cons, List.flatMap_cons, List.map_append, ih]
    congr 1
    show (List.range m).map (fun i => strL ((txt t).cps.toList ++ [97 + i])) = _
    rw [txt_cps, List.map_map]
    rfl
theorem empty_txt : PyData.str ("" : Str) = strL [] := by
  unfold strL txt
  congr 1
theorem sg_txt (c : Nat) : sg c = strL [c] := rfl
def wordsM (m n : Nat) : List (List Nat) := (appW m n).filter fun t => made (txt t) m
def shownW (m : Nat) (l : List (Int × Int)) (n : Nat) : List (List Nat) := (wordsM m n).filter fun t => decide (shown (txt t) m = l)

def sp_check_few (E : Str → Addr) : DSp := fun rs θ Φ Ex => match rs with
  | [.d (.int a), .d (.int b)] => if a > b then Ex (.plain (E "TooMany")) θ else Φ (.d .none) θ
  | _ => False

def T_check_few (E : Str → Addr) : DTS := (dIfS (dTest (dOp fGt (dVar 0) (dVar 1))) (dRaise (E "TooMany")) dNext)

theorem ln_check_few {E : Str → Addr} : ∀ rs θ Φ Ex, sp_check_few E rs θ Φ Ex → rs.length = 2 := fun rs θ Φ Ex h => by
  unfold sp_check_few at h
  split at h
  all_goals first
    | rfl
    | exact h.elim

theorem rd_check_few {E : Str → Addr} : ∀ rs θ Φ Ex, sp_check_few E rs θ Φ Ex → T_check_few E { nx := fun _ θ' => Φ (.d .none) θ', rt := Φ, ex := fun xd _ θ' => Ex xd θ' } (startR 2 rs) θ := by
  intro rs θ Φ Ex h
  unfold sp_check_few at h
  split at h
  · rename_i a b
    unfold T_check_few
    walk_at "rd"
    by_cases c : a > b
    · rw [if_pos c] at h
      simp only [c, decide_true, if_true]
      exact h
    · rw [if_neg c] at h
      simp only [c, decide_false, Bool.false_eq_true, if_false]
      exact h
  · exact h.elim

def sp_all_words : DSp := fun rs θ Φ _ => match rs with
  | [.d (.int a), .d (.int b)] => ∃ (m n : Nat), a = m ∧ b = n ∧ m ≤ 3 ∧ n ≤ 6 ∧ Φ (.d (.list ((wordsM m n).map strL))) θ
  | _ => False

def B_all_words_1 : DTS := (dSet 2 (dNewP (dLc2 (dItL (dVar 2)) (gN 4) dYes (dItS (dSl (dC (.str "abcdef")) oNone (oSome (dVar 0)) fSl)) (gN 5) dYes (dOp fAdd (dVar 4) (dVar 5)) [4, 5] [5])))

def C_all_words_1_1 : DTS := (dRet (dNewP (dLc (dItL (dVar 2)) (gN 4) (dTest (dFn0 sp_has_letters (dCons (dVar 4) (dCons (dVar 0) dNil)))) (dVar 4) [4])))

def C_all_words_1_2 : DTS := (dSeq (dFor (dItR1 (dCons (dVar 1) dNil)) (gN 3) B_all_words_1) C_all_words_1_1)

def T_all_words : DTS := (dSeq (dSet 2 (dLst (dCons (dC (.str "")) dNil))) C_all_words_1_2)

theorem ln_all_words : ∀ rs θ Φ Ex, sp_all_words rs θ Φ Ex → rs.length = 2 := fun rs θ Φ Ex h => by
  unfold sp_all_words at h
  split at h
  all_goals first
    | rfl
    | exact h.elim

theorem rd_all_words : ∀ rs θ Φ Ex, sp_all_words rs θ Φ Ex → T_all_words { nx := fun _ θ' => Φ (.d .none) θ', rt := Φ, ex := fun xd _ θ' => Ex xd θ' } (startR 6 rs) θ := by
  intro rs θ Φ Ex h
  unfold sp_all_words at h
  split at h
  · obtain ⟨m, n, rfl, rfl, m3, n6, h⟩ := h
    have sm : ∀ i : Nat, i ≤ 3000 → small i := fun i hi => by show i ≤ 1000000; omega
    unfold T_all_words
    simp only [startR, List.length_cons, List.length_nil, dSeq, dSet, dLst, dTup.allD, dCons, dNil, dC, put]
    refine ⟨by decide, ?_⟩
    unfold C_all_words_1_2
    simp only [dSeq, dFor, dItR1, dCons, dNil, dVar, nth, is1I]
    refine ⟨rOk_of (by omega) (by omega), ?_⟩
    refine forD_inv (fun i ρ θ1 => θ1 = θ ∧ i ≤ n ∧ ∃ x3, ρ = [some (.d (.int (m : Int))), some (.d (.int (n : Int))), some (.d (.list ((appW m i).map strL))), x3, none, none]) _ 0 _ _ (fun i d ed ρ θ1 K hI hK => ?_) (fun ρ θ1 hI => ?_) ⟨rfl, Nat.zero_le _, none, by rw [empty_txt]; rfl⟩
    · obtain ⟨rfl, il, x3, rfl⟩ := hI
      rw [Nat.zero_add] at hK il
      have im : i < n := by
        have := (List.getElem?_eq_some_iff.mp ed).1
        rw [rangeD_length] at this
        omega
      have al := appW_small m3 (show i + 1 ≤ 6 by omega)
      unfold B_all_words_1
      simp only [gN, put, dSet, dNewP]
      unfold dLc2
      simp only [dItL, dVar, nth, Nat.zero_add]
      refine lc2D_flatB (B := 1000) (nextD m) _ [] (fun d hd a Ψ hB hΨ => ?_) ?_ ?_
      · obtain ⟨t, ht, rfl⟩ := List.mem_map.mp hd
        obtain ⟨tl, _⟩ := appW_mem ht
        simp only [wipeR, unset, gN, put, dItS, dSl, oNone, oSome, dC, dVar, nth, asI, dat, fSl]
        refine ⟨abc_small, ?_⟩
        rw [six_abc (by omega)]
        have en : nextD m (strL t) = (List.range m).map fun i => strL (t ++ [97 + i]) := by
          show (List.range m).map (fun i => strL ((txt t).cps.toList ++ [97 + i])) = _
          rw [txt_cps]
        rw [en] at hB hΨ
        refine lcD_map (fun d => match d with | .str s => some (strL (t ++ s.cps.toList)) | _ => none) _ a (fun d hd k1 k0 hk => ?_) (by rw [List.length_map]; rw [List.length_map] at hB; omega) ?_
        · obtain ⟨i, hi, rfl⟩ := List.mem_map.mp hd
          simp only [wipeR, unset, gN, put, dYes, if_true, dOp, dVar, nth, fAdd, asD, strL, sg]
          rw [show (⟨#[97 + i]⟩ : Str) = txt [97 + i] from rfl, txt_app]
          simp only [txt_len, List.length_singleton]
          exact ⟨sm _ (by omega), hk⟩
        · have ef : ((List.range m).map fun i => sg (97 + i)).filterMap (fun d => match d with | .str s => some (strL (t ++ s.cps.toList)) | _ => none) = (List.range m).map fun i => strL (t ++ [97 + i]) := by
            rw [List.filterMap_map, ← List.filterMap_eq_map]
            rfl
          rw [ef]
          exact hΨ
      · rw [next_all, List.length_map]
        show 0 + (appW m (i + 1)).length ≤ 1000
        omega
      · rw [List.nil_append, next_all]
        exact hK _ _ ⟨rfl, by omega, _, rfl⟩
    · obtain ⟨rfl, _, x3, rfl⟩ := hI
      have em : ((n : Int) - 0).toNat = n := by omega
      rw [Nat.zero_add, rangeD_length, em]
      have al := appW_small m3 n6
      unfold C_all_words_1_1
      simp only [dRet, dNewP]
      unfold dLc
      simp only [dItL, dVar, nth]
      refine lcD_map (fun d => match d with | .str s => if made s m = true then some d else none | _ => none) _ [] (fun d hd k1 k0 hk => ?_) (by simp; omega) ?_
      · obtain ⟨t, ht, rfl⟩ := List.mem_map.mp hd
        obtain ⟨tl, tc⟩ := appW_mem ht
        simp only [wipeR, unset, gN, put, dTest, dFn0, dCons, dNil, dVar, nth, strL, sp_has_letters]
        refine ⟨⟨by omega, by omega⟩, ⟨by rw [txt_len]; omega, fun c hc => by rw [txt_cps] at hc; have := tc c hc; omega⟩, ?_⟩
        rw [Int.toNat_natCast]
        show asB (.d (.bool (made (txt t) m))) _
        simp only [asB, asD]
        have hk : (match (if made (txt t) m = true then some (strL t) else none) with | some y => k1 y θ1 | none => k0 θ1) := hk
        cases c : made (txt t) m with
        | true => rw [c] at hk; exact hk
        | false => rw [c] at hk; exact hk
      · have ef : ((appW m n).map strL).filterMap (fun d => match d with | .str s => if made s m = true then some d else none | _ => none) = (wordsM m n).map strL := by
          unfold wordsM
          rw [List.filterMap_map, ← List.filterMap_eq_map, List.filterMap_filter]
          congr 1
        rw [List.nil_append, ef]
        exact h
  · exact h.elim

end TlD
set_option Elab.async false
set_option linter.all false
set_option maxRecDepth 100000
set_option maxHeartbeats 4000000
namespace TlD
open PySem PySem.Spec PyProof.Rows L2 GxR TlG
local macro_rules | `(tactic| walk_at "rd") => `(tactic| simp only [dSeq, dSet, dAsg, dSetIx, dDrop, dIfS, dFor, dRet, dRetN, dRetF, dNext, dRaise, dVar, dC, dOp, dUn, dCall, dTest, dAnd, dOr, dNot, dAndV, dOrV, dNotV, dIf, dChain, dNil, dCons, dTup, dTup.allD, dLst, dLstO, dNewP, dNewO, dListC, dIsi, dFn0, dFn, dAll, dItT, dItL, dItS, dItR1, dItR2, dItZ, dSl, oNone, oSome, gN, gT, gsNil, gsCons, dSortSet, dRevS, nth, put, startR, fAdd, fSub, fMul, fDiv, fMod, fLt, fLe, fGt, fGe, fLtT, fEq, fNe, fIn, fIsN, fIsB, fLen, fIx, fSl, fTuple, fAbs, fMax, fMin, fDivmod, fStrI, dAppend, dPopAt, on2I, is1I, is2I, is2Z, on1, dat, asD, asB, asI, asS, onOwn, lenD, listD, ixD, List.length_cons, List.length_nil])


/-! ### webs beside one another -/
def besT (m : Nat) (l k : List (Int × Int)) : List (Int × Int) := l ++ k.map fun p => (p.1 + (m : Int), p.2 + (m : Int))
theorem bes_len15 {m : Nat} {l : List (Int × Int)} (h6 : m ≤ 6) (hl : l.Sublist (pairs m)) : l.length ≤ 15 := Nat.le_trans hl.length_le (pairs_len h6)
theorem bes_in {m n : Nat} {l k : List (Int × Int)} (hl : l.Sublist (pairs m)) (hk : k.Sublist (pairs n)) : ∀ p ∈ besT m l k, p ∈ pairs (m + n) := fun p hp => by
  rcases List.mem_append.mp hp with z | z
  · obtain ⟨a, b, rfl, ab, bm⟩ := pairs_in (hl.subset z)
    exact in_pairs ab (by omega)
  · obtain ⟨q, hq, rfl⟩ := List.mem_map.mp z
    obtain ⟨a, b, rfl, ab, bm⟩ := pairs_in (hk.subset hq)
    have e1 : (a : Int) + (m : Int) = ((a + m : Nat) : Int) := by omega
    have e2 : (b : Int) + (m : Int) = ((b + m : Nat) : Int) := by omega
    show ((a : Int) + (m : Int), (b : Int) + (m : Int)) ∈ _
    rw [e1, e2]
    exact in_pairs (by omega) (by omega)
theorem fit_ties {m : Nat} {l : List (Int × Int)} (hm : m ≤ 6) (hl : ∀ p ∈ l, p ∈ pairs m) (len : l.length ≤ 30) : Fit 3 1000 (webD m l) := by
  obtain ⟨a1, a2, a3⟩ := ties_cases hm hl
  obtain ⟨b1, b2, b3⟩ := six_cases hm
  refine ⟨(eqOk_webD m l).1, ?_, ?_, ?_, ?_⟩
  · simp only [webD, PyData.showable, PyData.showableAll] at b1 a1 ⊢
    simp only [a1, b1, Bool.and_self]
  · have := ties_depth l
    show max 0 (max (PyData.depthAll (l.map tieD) + 1) 0) + 1 ≤ 3
    omega
  · simp only [webD, PyData.leavesShort, PyData.leavesShortAll] at b2 a2 ⊢
    simp only [a2, b2, Bool.and_self]
  · show PyData.weight (.int (m : Int)) + 1 + (PyData.weightAll (l.map tieD) + 1 + 0) ≤ 1000
    omega
/-- the word made longer; the other's letters moved up -/
def lonT (x : Str) : Str := txt (seenL x.cps.toList) ++ x
def upT (m : Nat) (y : Str) : Str := txt (y.cps.toList.map (· + m))
theorem txt_n (L : List Nat) : (txt L).length = L.length := by
  show (txt L).cps.size = _
  rw [← Array.length_toList, txt_cps]
theorem cat_n (x y : Str) : (x ++ y).length = x.length + y.length := by
  show (x.cps ++ y.cps).size = _
  rw [Array.size_append]
  rfl
theorem lon_len (x : Str) : (lonT x).length ≤ 2 * x.length := by
  have := (seen_sub x.cps.toList).2
  have e : x.cps.toList.length = x.length := Array.length_toList
  unfold lonT
  rw [cat_n, txt_n]
  omega
theorem up_len (m : Nat) (y : Str) : (upT m y).length = y.length := by
  unfold upT
  rw [txt_n, List.length_map]
  exact Array.length_toList
def upD (m : Nat) : D → Option D
  | .str s => match s.cps.toList with
    | [c] => some (sg (c + m))
    | _ => none
  | _ => none
theorem up_all (m : Nat) : ∀ cs : List Nat, (cs.map sg).filterMap (upD m) = (cs.map (· + m)).map sg
  | [] => rfl
  | c :: cs => by
    rw [List.map_cons, List.filterMap_cons, up_all m cs]
    rfl
/-- "".join of the other's letters moved up, its reading -/
theorem up_join {m n : Nat} {y : Str} {θ : Th} {Φ : RK} (h6 : m + n ≤ 6) (hy : LongW y n) (h : Φ (.d (.str (upT m y))) θ) {items : List D} (hi : items = signsD y) :
    dJoin (dC (.str "")) (dC (.list (items.filterMap (upD m)))) noEx [] θ Φ := by
  have rng := hy.rng (m := n) (by omega)
  subst hi
  rw [signsD_eq, up_all]
  simp only [dJoin, dC, dat, asS, seqD]
  rw [strs_signs]
  have e : y.cps.toList.length = y.length := Array.length_toList
  have hl := hy.1
  refine ⟨?_, ?_⟩
  · rw [sum_ones, List.length_map, List.length_map]
    show _ + _ * 0 ≤ 1000000
    omega
  · rw [join_signs]
    exact h

def sp_check_beside (E : Str → Addr) : DSp := fun rs θ Φ Ex => match rs with
  | [.d w, .d o] => ∃ (m n : Nat) (l k : List (Int × Int)), w = webD m l ∧ o = webD n k ∧ (if m + n ≤ 6 then Φ (.d .none) θ else Ex (.plain (E "TooMany")) θ)
  | _ => False

def T_check_beside (E : Str → Addr) : DTS := (dDrop (dFn (sp_check_few E) (dCons (dOp fAdd (dOp fIx (dVar 0) (dC (.int 0))) (dOp fIx (dVar 1) (dC (.int 0)))) (dCons (dC (.int 6)) dNil))))

theorem ln_check_beside {E : Str → Addr} : ∀ rs θ Φ Ex, sp_check_beside E rs θ Φ Ex → rs.length = 2 := fun rs θ Φ Ex h => by
  unfold sp_check_beside at h
  split at h
  all_goals first
    | rfl
    | exact h.elim

theorem rd_check_beside {E : Str → Addr} : ∀ rs θ Φ Ex, sp_check_beside E rs θ Φ Ex → T_check_beside E { nx := fun _ θ' => Φ (.d .none) θ', rt := Φ, ex := fun xd _ θ' => Ex xd θ' } (startR 2 rs) θ := by
  intro rs θ Φ Ex h
  unfold sp_check_beside at h
  split at h
  · obtain ⟨m, n, l, k, rfl, rfl, h⟩ := h
    have i0 (m : Nat) (l : List (Int × Int)) : atI [PyData.int (m : Int), .tuple (l.map tieD)] 0 = some (.int (m : Int)) := rfl
    unfold T_check_beside
    walk_at "rd"
    simp only [webD, i0, sp_check_few]
    by_cases c : m + n ≤ 6
    · rw [if_pos c] at h
      rw [if_neg (by omega)]
      exact h
    · rw [if_neg c] at h
      rw [if_pos (by omega)]
      exact h
  · exact h.elim

def sp_beside (E : Str → Addr) : DSp := fun rs θ Φ Ex => match rs with
  | [.d w, .d o] => ∃ (m n : Nat) (l k : List (Int × Int)), (1 ≤ m ∧ m ≤ 6) ∧ (1 ≤ n ∧ n ≤ 6) ∧ l.Sublist (pairs m) ∧ k.Sublist (pairs n) ∧ w = webD m l ∧ o = webD n k ∧ (if m + n ≤ 6 then Φ (.d (webD (m + n) (besT m l k))) θ else Ex (.plain (E "TooMany")) θ)
  | _ => False

def T_beside (E : Str → Addr) : DTS := (dSeq (dDrop (dFn (sp_check_web E) (dCons (dVar 0) dNil))) (dSeq (dDrop (dFn (sp_check_web E) (dCons (dVar 1) dNil))) (dSeq (dDrop (dFn (sp_check_beside E) (dCons (dVar 0) (dCons (dVar 1) dNil)))) (dSeq (dSet 2 (dOp fIx (dVar 0) (dC (.int 0)))) (dRet (dTup (dCons (dOp fAdd (dVar 2) (dOp fIx (dVar 1) (dC (.int 0)))) (dCons (dOp fCatT (dOp fIx (dVar 0) (dC (.int 1))) (dCall fTuple (dCons (dNewP (dLc (dItT (dOp fIx (dVar 1) (dC (.int 1)))) (gT (gsCons (gN 3) (gsCons (gN 4) gsNil))) dYes (dTup (dCons (dOp fAdd (dVar 3) (dVar 2)) (dCons (dOp fAdd (dVar 4) (dVar 2)) dNil))) [3, 4])) dNil))) dNil))))))))

theorem ln_beside {E : Str → Addr} : ∀ rs θ Φ Ex, sp_beside E rs θ Φ Ex → rs.length = 2 := fun rs θ Φ Ex h => by
  unfold sp_beside at h
  split at h
  all_goals first
    | rfl
    | exact h.elim

theorem rd_beside {E : Str → Addr} : ∀ rs θ Φ Ex, sp_beside E rs θ Φ Ex → T_beside E { nx := fun _ θ' => Φ (.d .none) θ', rt := Φ, ex := fun xd _ θ' => Ex xd θ' } (startR 5 rs) θ := by
  intro rs θ Φ Ex h
  unfold sp_beside at h
  split at h
  · obtain ⟨m, n, l, k, hm, hn, hl, hk, rfl, rfl, h⟩ := h
    have i0 (m : Nat) (l : List (Int × Int)) : atI [PyData.int (m : Int), .tuple (l.map tieD)] 0 = some (.int (m : Int)) := rfl
    have i1 (m : Nat) (l : List (Int × Int)) : atI [PyData.int (m : Int), .tuple (l.map tieD)] 1 = some (.tuple (l.map tieD)) := rfl
    have l15 := bes_len15 hm.2 hl
    have k15 := bes_len15 hn.2 hk
    unfold T_beside
    simp only [startR, List.length_cons, List.length_nil, dSeq, dDrop, dFn, dCons, dNil, dVar, nth, sp_check_web]
    rw [web_ok hm.1 hm.2 hl, if_pos rfl, web_ok hn.1 hn.2 hk, if_pos rfl]
    refine ⟨m, n, l, k, rfl, rfl, ?_⟩
    by_cases c : m + n ≤ 6
    · rw [if_pos c] at h ⊢
      simp only [dSet, dOp, dVar, dC, nth, fIx, webD, asI, dat, ixD, i0, i1, put, dRet, dTup, dTup.allD, dCons, dNil, fAdd, fCatT, dCall, dNewP]
      unfold dLc
      simp only [dItT, dOp, dVar, dC, nth, fIx, asI, dat, ixD, i1]
      refine lcD_map (fun d => match d with | .tuple [.int a, .int b] => some (tieD (a + (m : Int), b + (m : Int))) | _ => none) _ [] (fun d hd k1 k0 hq => ?_) (by simp; omega) ?_
      · obtain ⟨p, hp, rfl⟩ := List.mem_map.mp hd
        simp only [wipeR, unset, gT, gsCons, gsNil, gN, put, tieD, dYes, if_true, dTup, dTup.allD, dCons, dNil, dOp, dVar, nth, fAdd, asD] at hq ⊢
        exact ⟨by show (2 : Nat) ≤ 1000; decide, hq⟩
      · have ef : (k.map tieD).filterMap (fun d => match d with | .tuple [.int a, .int b] => some (tieD (a + (m : Int), b + (m : Int))) | _ => none) = (k.map fun p => (p.1 + (m : Int), p.2 + (m : Int))).map tieD := by
          rw [List.filterMap_map, List.map_map, ← List.filterMap_eq_map]
          congr 1
        rw [List.nil_append, ef]
        simp only [fTuple, on1, dat]
        have em : (m : Int) + (n : Int) = ((m + n : Nat) : Int) := by omega
        have el : l.map tieD ++ (k.map fun p => (p.1 + (m : Int), p.2 + (m : Int))).map tieD = (besT m l k).map tieD := by
          unfold besT
          rw [List.map_append]
        rw [em, el]
        refine ⟨?_, by show (2 : Nat) ≤ 1000; decide, h⟩
        rw [List.length_map, List.length_map, List.length_map]
        show _ ≤ 1000000
        omega
    · rw [if_neg c] at h ⊢
      exact h
  · exact h.elim

def sp_word_beside (E : Str → Addr) : DSp := fun rs θ Φ Ex => match rs with
  | [.d w, .d (.str x), .d o, .d (.str y)] => ∃ (m n : Nat) (l k : List (Int × Int)), (1 ≤ m ∧ m ≤ 6) ∧ (1 ≤ n ∧ n ≤ 6) ∧ l.Sublist (pairs m) ∧ k.Sublist (pairs n) ∧ w = webD m l ∧ o = webD n k ∧ LongW x m ∧ LongW y n ∧
      (if m + n ≤ 6 then Φ (.d (.str (lonT x ++ upT m y))) θ else Ex (.plain (E "TooMany")) θ)
  | _ => False

def T_word_beside (E : Str → Addr) : DTS := (dSeq (dDrop (dFn (sp_check_web E) (dCons (dVar 0) dNil))) (dSeq (dDrop (dFn (sp_check_web E) (dCons (dVar 2) dNil))) (dSeq (dDrop (dFn (sp_check_wordL E) (dCons (dVar 1) (dCons (dOp fIx (dVar 0) (dC (.int 0))) dNil)))) (dSeq (dDrop (dFn (sp_check_wordL E) (dCons (dVar 3) (dCons (dOp fIx (dVar 2) (dC (.int 0))) dNil)))) (dSeq (dDrop (dFn (sp_check_beside E) (dCons (dVar 0) (dCons (dVar 2) dNil)))) (dRet (dOp fAdd (dFn (sp_longerL E) (dCons (dVar 0) (dCons (dVar 1) dNil))) (dJoin (dC (.str "")) (dNewP (dLc (dItS (dVar 3)) (gN 4) dYes (dOp fIx (dC (.str "abcdef")) (dOp fAdd (dIndexS (dC (.str "abcdef")) (dVar 4)) (dOp fIx (dVar 0) (dC (.int 0))))) [4]))))))))))

theorem ln_word_beside {E : Str → Addr} : ∀ rs θ Φ Ex, sp_word_beside E rs θ Φ Ex → rs.length = 4 := fun rs θ Φ Ex h => by
  unfold sp_word_beside at h
  split at h
  all_goals first
    | rfl
    | exact h.elim

theorem rd_word_beside {E : Str → Addr} : ∀ rs θ Φ Ex, sp_word_beside E rs θ Φ Ex → T_word_beside E { nx := fun _ θ' => Φ (.d .none) θ', rt := Φ, ex := fun xd _ θ' => Ex xd θ' } (startR 5 rs) θ := by
  intro rs θ Φ Ex h
  unfold sp_word_beside at h
  split at h
  · rename_i w x o y
    obtain ⟨m, n, l, k, hm, hn, hl, hk, rfl, rfl, hx, hy, h⟩ := h
    have i0 (m : Nat) (l : List (Int × Int)) : atI [PyData.int (m : Int), .tuple (l.map tieD)] 0 = some (.int (m : Int)) := rfl
    unfold T_word_beside
    simp only [startR, List.length_cons, List.length_nil, dSeq, dDrop, dFn, dCons, dNil, dVar, nth, sp_check_web]
    rw [web_ok hm.1 hm.2 hl, if_pos rfl, web_ok hn.1 hn.2 hk, if_pos rfl]
    simp only [dOp, dVar, dC, nth, fIx, webD, dat, ixD, asI, i0]
    refine ⟨m, rfl, hm.2, hx, n, rfl, hn.2, hy, m, n, l, k, rfl, rfl, ?_⟩
    by_cases c : m + n ≤ 6
    · rw [if_pos c] at h ⊢
      have rng := hy.rng hn.2
      have xl := hx.1
      have yl := hy.1
      have lx := lon_len x
      simp only [dRet, dOp, dFn, dCons, dNil, dVar, nth]
      refine ⟨m, l, hm, hl, rfl, hx, ?_⟩
      simp only [dJoin, dC, dNewP, dat, asS]
      unfold dLc
      simp only [dItS, dVar, nth, asS]
      refine lcD_map (upD m) _ [] (fun d hd k1 k0 hq => ?_) (by rw [signsD_eq, List.length_map]; have e : y.cps.size ≤ 1000 := yl; simp; omega) ?_
      · rw [signsD_eq] at hd
        obtain ⟨ch, hc, rfl⟩ := List.mem_map.mp hd
        obtain ⟨c1, c2⟩ := rng ch hc
        have lt : ch < 97 + n := by
          have := (made_iff.mp hy.2 ch).mp hc
          omega
        simp only [wipeR, unset, gN, put, dYes, if_true, dOp, dIndexS, dC, asS, dVar, nth, sg, fIx, dat, ixD, asI, i0]
        refine ⟨ch - 97, [], abc_index c1 c2, ?_⟩
        have e2 : ((ch - 97 : Nat) : Int) + (m : Int) = ((ch - 97 + m : Nat) : Int) := by omega
        simp only [fAdd, e2]
        rw [abc_at (by omega)]
        refine ⟨abc_small, ?_⟩
        have e3 : 97 + (ch - 97 + m) = ch + m := by omega
        rw [e3]
        exact hq
      · rw [List.nil_append]
        have j := up_join (Φ := fun r θ1 => fAdd (.d (.str (lonT x))) r θ1 Φ) (θ := θ) c hy ?_ rfl
        · simp only [dJoin, dC, dat, asS] at j
          exact j
        · refine ⟨?_, h⟩
          rw [up_len]
          show _ ≤ 1000000
          omega
    · rw [if_neg c] at h ⊢
      exact h
  · exact h.elim

end TlD
set_option Elab.async false
set_option linter.all false
set_option maxRecDepth 100000
set_option maxHeartbeats 4000000
namespace TlD
open PySem PySem.Spec PyProof.Rows L2 GxR TlG


def sp__law_longer : DSp := fun rs θ Φ _ => match rs with
  | [.d (.int i), .d (.str x)] => x.length ≤ 1000 ∧ Φ (.d (.str (lonT x))) θ
  | _ => False

def T__law_longer : DTS := (dSeq (dSet 2 (dC (.str ""))) (dSeq (dFor (dItS (dVar 1)) (gN 3) (dIfS (dTest (dOp (fInS true) (dVar 3) (dVar 2))) (dSet 2 (dOp fAdd (dVar 2) (dVar 3))) dNext)) (dRet (dOp fAdd (dVar 2) (dVar 1)))))

theorem ln__law_longer : ∀ rs θ Φ Ex, sp__law_longer rs θ Φ Ex → rs.length = 2 := fun rs θ Φ Ex h => by
  unfold sp__law_longer at h
  split at h
  all_goals first
    | rfl
    | exact h.elim

theorem rd__law_longer : ∀ rs θ Φ Ex, sp__law_longer rs θ Φ Ex → T__law_longer { nx := fun _ θ' => Φ (.d .none) θ', rt := Φ, ex := fun xd _ θ' => Ex xd θ' } (startR 4 rs) θ := by
  intro rs θ Φ Ex h
  unfold sp__law_longer at h
  split at h
  · rename_i i x
    obtain ⟨hl, h⟩ := h
    have sx : signsD x = x.cps.toList.map sg := signsD_eq x
    have xl : x.cps.toList.length = x.length := Array.length_toList
    unfold T__law_longer
    simp only [startR, List.length_cons, List.length_nil, dSeq, dSet, dC, put, dFor, dItS, dVar, nth, asS]
    refine forD_inv (fun j ρ θ6 => ∃ x3, θ6 = θ ∧ ρ = [some (.d (.int i)), some (.d (.str x)), some (.d (.str (txt (seenL (x.cps.toList.take j))))), x3]) _ 0 _ _ (fun j d ed ρ θ6 K3 hI hK3 => ?_) (fun ρ θ6 hI => ?_) ⟨none, rfl, rfl⟩
    · obtain ⟨x3, rfl, rfl⟩ := hI
      rw [Nat.zero_add] at hK3 ⊢
      rw [sx, List.getElem?_map] at ed
      cases ec : x.cps.toList[j]? with
      | none =>
        rw [ec] at ed
        cases ed
      | some c =>
        rw [ec] at ed
        cases ed
        have et : x.cps.toList.take (j + 1) = x.cps.toList.take j ++ [c] := by
          rw [List.take_succ, ec]
          rfl
        simp only [gN, put, dIfS, dTest, dOp, dVar, nth, fInS, asS, sg, asB, if_true]
        refine ⟨c, rfl, ?_⟩
        have len := (seen_sub (x.cps.toList.take j)).2
        rw [List.length_take] at len
        by_cases q : c ∈ seenL (x.cps.toList.take j)
        · have q1 : decide (c ∈ (txt (seenL (x.cps.toList.take j))).cps.toList) = true := decide_eq_true (by simpa [txt] using q)
          simp only [q1, Bool.not_true, Bool.false_eq_true, if_false, dNext]
          refine hK3 _ _ ⟨some (.d (.str ⟨#[c]⟩)), rfl, ?_⟩
          rw [et, seen_snoc]
          unfold seenStep
          rw [if_pos q]
        · have q1 : decide (c ∈ (txt (seenL (x.cps.toList.take j))).cps.toList) = false := decide_eq_false (by simpa [txt] using q)
          simp only [q1, Bool.not_false, if_true, dSet, dOp, dVar, nth, fAdd]
          refine ⟨?_, ?_⟩
          · have e1 : (txt (seenL (x.cps.toList.take j))).length = (seenL (x.cps.toList.take j)).length := txt_n _
            have e2 : (⟨#[c]⟩ : Str).length = 1 := rfl
            rw [e1, e2]
            show (seenL (x.cps.toList.take j)).length + 1 ≤ 1000000
            omega
          · refine hK3 _ _ ⟨some (.d (.str ⟨#[c]⟩)), rfl, ?_⟩
            rw [et, seen_snoc]
            unfold seenStep
            rw [if_neg q]
            have : txt (seenL (x.cps.toList.take j)) ++ (⟨#[c]⟩ : Str) = txt (seenL (x.cps.toList.take j) ++ [c]) := by
              show (⟨(seenL (x.cps.toList.take j)).toArray ++ #[c]⟩ : Str) = _
              simp [txt]
            rw [this]
            rfl
    · obtain ⟨x3, rfl, rfl⟩ := hI
      have full : x.cps.toList.take (0 + (signsD x).length) = x.cps.toList := by
        rw [sx, List.length_map, Nat.zero_add, List.take_length]
      rw [full]
      simp only [dRet, dOp, dVar, nth, fAdd]
      have len := (seen_sub x.cps.toList).2
      refine ⟨?_, h⟩
      rw [txt_n]
      show _ ≤ 1000000
      omega
  · exact h.elim

def sp__law_told (E : Str → Addr) : DSp := fun rs θ Φ _ => match rs with
  | [.d (.int i), .d w, .d (.str x), .d o, .d (.str y)] => ∃ (m n : Nat) (l k : List (Int × Int)), (1 ≤ m ∧ m ≤ 6) ∧ (1 ≤ n ∧ n ≤ 6) ∧ l.Sublist (pairs m) ∧ k.Sublist (pairs n) ∧ w = webD m l ∧ o = webD n k ∧ LongW x m ∧ LongW y n ∧
      Φ (.d (if m + n ≤ 6 then (if i = 0 then webD (m + n) (besT m l k) else .str (lonT x ++ upT m y)) else .list [.int 5])) θ
  | _ => False

def T__law_told (E : Str → Addr) : DTS := (dTry 6 (mkC E [("TooMany", 5)]) (dRet (dIf (dTest (dOp fEq (dVar 0) (dC (.int 0)))) (dFn (sp_beside E) (dCons (dVar 1) (dCons (dVar 3) dNil))) (dFn (sp_word_beside E) (dCons (dVar 1) (dCons (dVar 2) (dCons (dVar 3) (dCons (dVar 4) dNil))))))))

theorem ln__law_told {E : Str → Addr} : ∀ rs θ Φ Ex, sp__law_told E rs θ Φ Ex → rs.length = 5 := fun rs θ Φ Ex h => by
  unfold sp__law_told at h
  split at h
  all_goals first
    | rfl
    | exact h.elim

theorem rd__law_told {E : Str → Addr} : ∀ rs θ Φ Ex, sp__law_told E rs θ Φ Ex → T__law_told E { nx := fun _ θ' => Φ (.d .none) θ', rt := Φ, ex := fun xd _ θ' => Ex xd θ' } (startR 7 rs) θ := by
  intro rs θ Φ Ex h
  unfold sp__law_told at h
  split at h
  · rename_i i w x o y
    obtain ⟨m, n, l, k, hm, hn, hl, hk, rfl, rfl, hx, hy, h⟩ := h
    have eqi : PyData.eqv (.int i) (.int 0) = decide (i = 0) := by
      by_cases z : i = 0 <;> simp [PyData.eqv, z]
    unfold T__law_told
    simp only [startR, List.length_cons, List.length_nil, dTry, dRet, dIf, dTest, dOp, dFn, dCons, dNil, dVar, dC, nth, fEq, dat, asB]
    refine ⟨eqOk_int _, eqOk_int _, ?_⟩
    rw [eqi]
    by_cases i0 : i = 0
    · rw [if_pos (by simpa using i0)]
      refine ⟨m, n, l, k, hm, hn, hl, hk, rfl, rfl, ?_⟩
      by_cases c : m + n ≤ 6
      · rw [if_pos c] at h ⊢
        rw [if_pos i0] at h
        exact h
      · rw [if_neg c] at h ⊢
        exact ⟨_, _, rfl, ⟨("TooMany", 5), List.mem_cons_self, rfl, rfl⟩, fun _ => rfl, h⟩
    · rw [if_neg (by simpa using i0)]
      refine ⟨m, n, l, k, hm, hn, hl, hk, rfl, rfl, hx, hy, ?_⟩
      by_cases c : m + n ≤ 6
      · rw [if_pos c] at h ⊢
        rw [if_neg i0] at h
        exact h
      · rw [if_neg c] at h ⊢
        exact ⟨_, _, rfl, ⟨("TooMany", 5), List.mem_cons_self, rfl, rfl⟩, fun _ => rfl, h⟩
  · exact h.elim

def dues52 (m n : Nat) (l k : List (Int × Int)) (x y : Str) : List D := if m + n ≤ 6 then [webD (m + n) (besT m l k), .str (lonT x ++ upT m y)] else [.list [.int 5], .list [.int 5]]
theorem lon_low {x : Str} (h : ∀ c ∈ x.cps.toList, c < 128) : ∀ c ∈ (lonT x).cps.toList, c < 128 := fun c hc => by
  unfold lonT at hc
  have e : (txt (seenL x.cps.toList) ++ x).cps.toList = seenL x.cps.toList ++ x.cps.toList := by
    show ((txt (seenL x.cps.toList)).cps ++ x.cps).toList = _
    rw [Array.toList_append, txt_cps]
  rw [e, List.mem_append] at hc
  rcases hc with z | z
  · exact h c ((seen_sub x.cps.toList).1 c z)
  · exact h c z
theorem dues52_ok {m n : Nat} {l k : List (Int × Int)} {x y : Str} (hm : m ≤ 6) (hn : n ≤ 6) (hl : l.Sublist (pairs m)) (hk : k.Sublist (pairs n)) (hx : LongW x m) (hy : LongW y n) (xl : x.length ≤ 200) (yl : y.length ≤ 200) : shownOk (.list (dues52 m n l k x y)) := by
  unfold dues52
  by_cases c : m + n ≤ 6
  · rw [if_pos c]
    have l15 := bes_len15 hm hl
    have k15 := bes_len15 hn hk
    refine (fit_two (fit_ties c (bes_in hl hk) (by unfold besT; rw [List.length_append, List.length_map]; omega)) (fit_text ?_ ?_).up).ok
    · have := lon_len x
      rw [cat_n, up_len]
      omega
    · intro ch hc
      have e : (lonT x ++ upT m y).cps.toList = (lonT x).cps.toList ++ y.cps.toList.map (· + m) := by
        show ((lonT x).cps ++ (upT m y).cps).toList = _
        rw [Array.toList_append]
        unfold upT
        rw [txt_cps]
      rw [e, List.mem_append] at hc
      rcases hc with z | z
      · exact lon_low (fun c hc => by have := hx.rng hm c hc; omega) ch z
      · obtain ⟨u, hu, rfl⟩ := List.mem_map.mp z
        have := hy.rng hn u hu
        show u + m < 128
        omega
  · rw [if_neg c]
    have five : Fit 1 4 (.list [.int 5]) := fit_list (ds := [.int 5]) (List.forall_mem_cons.mpr ⟨fit_nat (i := 5) (by decide), fun _ z => nomatch z⟩)
    exact (fit_two five five).ok
theorem eighty : LongW (repS 80 ("a" : Str)) 1 := ⟨by decide +kernel, by decide +kernel⟩

def C_law_3_1 (E : Str → Addr) : DTS := (dIfS (dTest (dOp (fNeS true) (dCall fRepr (dCons (dNewP (dLc (dItR1 (dCons (dC (.int 2)) dNil)) (gN 12) dYes (dFn0 (sp__law_told E) (dCons (dVar 12) (dCons (dVar 7) (dCons (dVar 9) (dCons (dVar 8) (dCons (dVar 10) dNil)))))) [12])) dNil)) (dCall fRepr (dCons (dVar 6) dNil)))) (dRetF (dC (.bool false))) dNext)

def C_law_3_2 (E : Str → Addr) : DTS := (dSeq (dIfS (dTest (dOp fLt (dOp fAdd (dVar 4) (dOp fIx (dVar 8) (dC (.int 0)))) (dC (.int 7)))) (dSeq (dSet 11 (dOp fCatT (dOp fIx (dVar 7) (dC (.int 1))) (dCall fTuple (dCons (dNewP (dLc (dItT (dOp fIx (dVar 8) (dC (.int 1)))) (gT (gsCons (gN 13) (gsCons (gN 14) gsNil))) dYes (dTup (dCons (dOp fAdd (dVar 13) (dVar 4)) (dCons (dOp fAdd (dVar 14) (dVar 4)) dNil))) [13, 14])) dNil)))) (dSeq (dSet 6 (dLstO (dCons (dTup (dCons (dOp fAdd (dVar 4) (dOp fIx (dVar 8) (dC (.int 0)))) (dCons (dVar 11) dNil))) dNil))) (dDrop (dAppend (dVar 6) (dOp fAdd (dFn0 sp__law_longer (dCons (dVar 4) (dCons (dVar 9) dNil))) (dJoin (dC (.str "")) (dNewP (dLc (dItS (dVar 10)) (gN 13) dYes (dOp fIx (dC (.str "abcdef")) (dOp fAdd (dIndexS (dC (.str "abcdef")) (dVar 13)) (dVar 4))) [13])))))))) dNext) (C_law_3_1 E))

def C_law_3_3 (E : Str → Addr) : DTS := (dSeq (dSet 6 (dLstO (dCons (dLst (dCons (dC (.int 5)) dNil)) (dCons (dLst (dCons (dC (.int 5)) dNil)) dNil)))) (C_law_3_2 E))

def C_law_3_4 (E : Str → Addr) : DTS := (dSeq (dAsg (dTup (dCons (dFn0 sp__law_word (dCons (dVar 2) (dCons (dVar 4) (dCons (dVar 5) dNil)))) (dCons (dFn0 sp__law_word (dCons (dVar 2) (dCons (dOp fIx (dVar 8) (dC (.int 0))) (dCons (dVar 5) dNil)))) dNil))) (gT (gsCons (gN 9) (gsCons (gN 10) gsNil)))) (C_law_3_3 E))

def C_law_3_5 (E : Str → Addr) : DTS := (dSeq (dSet 5 (dOp fIx (dLst (dCons (dC (.int 4)) (dCons (dC (.int 4)) (dCons (dC (.int 30)) dNil)))) (dFn0 sp__law_take (dCons (dVar 2) (dCons (dC (.int 3)) dNil))))) (C_law_3_4 E))

def C_law_3_6 (E : Str → Addr) : DTS := (dSeq (dSet 4 (dOp fIx (dVar 7) (dC (.int 0)))) (C_law_3_5 E))

def B_law_1 (E : Str → Addr) : DTS := (dSeq (dAsg (dTup (dCons (dFn0 sp__law_web (dCons (dVar 2) (dCons (dC (.int 1)) (dCons (dVar 3) dNil)))) (dCons (dFn0 sp__law_web (dCons (dVar 2) (dCons (dC (.int 1)) (dCons (dVar 3) dNil)))) dNil))) (gT (gsCons (gN 7) (gsCons (gN 8) gsNil)))) (C_law_3_6 E))

def C_law_2_1 (E : Str → Addr) : DTS := (dFor (dItT (dTup (dCons (dC (.int 3)) (dCons (dC (.int 5)) dNil)))) (gN 3) (B_law_1 E))

def B_law_2 (E : Str → Addr) : DTS := (dSeq (dSet 2 (dFn0 sp_n_box (dCons (dVar 0) (dCons (dVar 1) dNil)))) (C_law_2_1 E))

def C_law_1_1 (E : Str → Addr) : DTS := (dRetF (dOp fEq (dFn0 (sp__law_told E) (dCons (dC (.int 1)) (dCons (dTup (dCons (dC (.int 1)) (dCons (dTup dNil) dNil))) (dCons (dOp fMul (dC (.str "a")) (dC (.int 80))) (dCons (dTup (dCons (dC (.int 1)) (dCons (dTup dNil) dNil))) (dCons (dOp fMul (dC (.str "a")) (dC (.int 80))) dNil)))))) (dOp fAdd (dOp fMul (dC (.str "a")) (dC (.int 81))) (dOp fMul (dC (.str "b")) (dC (.int 80))))))

def T_law (E : Str → Addr) : DTS := (dSeq (dFor (dItR1 (dCons (dCall fMax (dCons (dC (.int 1)) (dCons (dCall fMin (dCons (dCall fLen (dCons (dVar 0) dNil)) (dCons (dC (.int 4)) dNil))) dNil))) dNil)) (gN 1) (B_law_2 E)) (C_law_1_1 E))

-- slots: ['_law_script', '_law_k', '_law_box_here', '_law_most', '_law_many', '_law_size', '_law_dues', '_law_web_here', '_law_other', '_law_word_here', '_law_more', '_law_ties', '_law_kind', '_law_one', '_law_two']

theorem rd_law {E : Str → Addr} : ∀ rs θ Φ Ex, spLaw rs θ Φ Ex → T_law E { nx := fun _ θ' => Φ (.d .none) θ', rt := Φ, ex := fun xd _ θ' => Ex xd θ' } (startR 15 rs) θ := by
  intro rs θ Φ Ex h
  obtain ⟨ns, hl, hb, rfl, rfl, h⟩ := h
  unfold T_law
  simp only [startR, List.length_cons, List.length_nil, dSeq, dFor, dItR1, dCons, dNil, dCall, dC, dVar, nth, fLen, on1, dat, lenD, fMin, fMax, is2I, is1I, List.length_map]
  refine ⟨lap4_small _, ?_⟩
  refine forD_all (fun ρ _ => ∃ x1 x2 x3 x4 x5 x6 x7 x8 x9 x10 x11 x12 x13 x14, ρ = [some (.seq (ns.map PyData.int)), x1, x2, x3, x4, x5, x6, x7, x8, x9, x10, x11, x12, x13, x14]) ⟨none, none, none, none, none, none, none, none, none, none, none, none, none, none, rfl⟩ (fun ρ θ ⟨x1, x2, x3, x4, x5, x6, x7, x8, x9, x10, x11, x12, x13, x14, e⟩ => ?_) (fun d hd ρ θ K ⟨x1, x2, x3, x4, x5, x6, x7, x8, x9, x10, x11, x12, x13, x14, e⟩ hK => ?_)
  · subst e
    unfold C_law_1_1
    have e0 : webD 1 [] = .tuple [.int 1, .tuple []] := rfl
    simp only [dRetF, dOp, dFn0, dTup, dTup.allD, dCons, dNil, dC, fMul]
    refine ⟨by show (0 : Nat) ≤ 1000; decide, by show (2 : Nat) ≤ 1000; decide, ⟨by decide, by decide, by decide +kernel⟩, by show (0 : Nat) ≤ 1000; decide, by show (2 : Nat) ≤ 1000; decide, ⟨by decide, by decide, by decide +kernel⟩, ?_⟩
    refine ⟨1, 1, [], [], ⟨by decide, by decide⟩, ⟨by decide, by decide⟩, List.nil_sublist _, List.nil_sublist _, rfl, rfl, eighty, eighty, ?_⟩
    rw [if_pos (by decide), if_neg (by decide)]
    refine ⟨⟨by decide, by decide, by decide +kernel⟩, ⟨by decide, by decide, by decide +kernel⟩, ?_⟩
    simp only [fAdd, fEq, dat]
    refine ⟨by show _ ≤ 1000000; decide +kernel, ⟨rfl, by decide +kernel⟩, ⟨rfl, by decide +kernel⟩, _, _, .refl, ?_⟩
    have e : PyData.eqv (.str (lonT (repS 80 ("a" : Str)) ++ upT 1 (repS 80 ("a" : Str)))) (.str (repS 81 ("a" : Str) ++ repS 80 ("b" : Str))) = true := by decide +kernel
    rw [e]
    exact h _
  · subst e
    obtain ⟨k, rfl, hk⟩ := range_ints hd
    unfold B_law_2
    simp only [gN, put, dSeq, dSet, dFn0, dCons, dNil, dVar, dC, nth]
    refine ⟨⟨ns, rfl⟩, ⟨by omega, ?_⟩, fun p n0 hp => ?_⟩
    · have : (if (if (4 : Int) < (ns.length : Int) then 4 else (ns.length : Int)) > 1 then (if (4 : Int) < (ns.length : Int) then 4 else (ns.length : Int)) else 1) ≤ (6 : Int) := by
        split <;> split <;> omega
      omega
    have b0 : Boxed ((p, [PyData.int n0]) :: θ) p := ⟨n0, lookup_top⟩
    unfold C_law_2_1
    simp only [dFor, dItT, dTup, dTup.allD, dCons, dNil, dC, dat]
    refine ⟨by show (2 : Nat) ≤ 1000; decide, ?_⟩
    refine forD_all (fun ρ θ1 => Boxed θ1 p ∧ ∃ x3 x4 x5 x6 x7 x8 x9 x10 x11 x12 x13 x14, ρ = [some (.seq (ns.map PyData.int)), some (.d (.int (0 + (k : Int)))), some (.own p), x3, x4, x5, x6, x7, x8, x9, x10, x11, x12, x13, x14]) ⟨b0, _, _, _, _, _, _, _, _, _, _, _, _, rfl⟩ (fun ρ θ1 ⟨_, x3, x4, x5, x6, x7, x8, x9, x10, x11, x12, x13, x14, e⟩ => ?_) (fun d hd2 ρ θ1 K2 ⟨b1, x3, x4, x5, x6, x7, x8, x9, x10, x11, x12, x13, x14, e⟩ hK2 => ?_)
    · subst e
      exact hK _ _ ⟨_, _, _, _, _, _, _, _, _, _, _, _, _, _, rfl⟩
    · subst e
      have hmost : ∃ z : Int, d = .int z ∧ 1 ≤ z ∧ z ≤ 6 := by
        simp only [List.mem_cons, List.not_mem_nil, or_false] at hd2
        rcases hd2 with rfl | rfl
        · exact ⟨3, rfl, by decide, by decide⟩
        · exact ⟨5, rfl, by decide, by decide⟩
      obtain ⟨z, rfl, z1, z6⟩ := hmost
      unfold B_law_1
      simp only [gN, put, dSeq, dAsg, dTup, dFn0, dCons, dNil, dVar, dC, nth]
      refine ⟨⟨by decide, z1, z6⟩, b1, fun m l θ2 m1 m6 hlm g2 => ⟨⟨by decide, z1, z6⟩, g2.boxed b1, fun n kl θ3 n1 n6 hkn g3 => ?_⟩⟩
      simp only [dTup.allD, gT, gsCons, gsNil, gN, put]
      refine ⟨by show (2 : Nat) ≤ 1000; decide, ?_⟩
      have hm1 : 1 ≤ m := by omega
      have hm6 : m ≤ 6 := by omega
      have hn1 : 1 ≤ n := by omega
      have hn6 : n ≤ 6 := by omega
      have b3 : Boxed θ3 p := g3.boxed (g2.boxed b1)
      have i0 (m : Nat) (l : List (Int × Int)) : atI [PyData.int (m : Int), .tuple (l.map tieD)] 0 = some (.int (m : Int)) := rfl
      have i1 (m : Nat) (l : List (Int × Int)) : atI [PyData.int (m : Int), .tuple (l.map tieD)] 1 = some (.tuple (l.map tieD)) := rfl
      unfold C_law_3_6
      simp only [dSeq, dSet, dOp, dVar, dC, nth, fIx, webD, dat, ixD, asI, i0, put]
      unfold C_law_3_5
      simp only [dSeq, dSet, dOp, dLst, dTup.allD, dFn0, dCons, dNil, dVar, dC, nth]
      refine ⟨by show (3 : Nat) ≤ 1000; decide, take_step (a := p) (m := 3) (by decide) (by decide) b3 fun t θ4 t0 t3 g4 => ?_⟩
      have b4 := g4.boxed b3
      have hsz : ∃ s : Int, atI [PyData.int 4, .int 4, .int 30] t = some (.int s) ∧ 0 ≤ s ∧ s ≤ 30 := by
        rcases (by omega : t = 0 ∨ t = 1 ∨ t = 2) with rfl | rfl | rfl
        · exact ⟨4, rfl, by decide, by decide⟩
        · exact ⟨4, rfl, by decide, by decide⟩
        · exact ⟨30, rfl, by decide, by decide⟩
      obtain ⟨s, es, s0, s30⟩ := hsz
      simp only [fIx, dat, ixD, asI, es, put]
      unfold C_law_3_4
      simp only [dSeq, dAsg, dTup, dFn0, dCons, dNil, dOp, dVar, dC, nth, fIx, dat, ixD, asI, i0]
      refine ⟨⟨by omega, by omega⟩, ⟨s0, by omega⟩, b4, fun x θ5 hx xl g5 => ⟨⟨by omega, by omega⟩, ⟨s0, by omega⟩, g5.boxed b4, fun y θ6 hy yl g6 => ?_⟩⟩
      simp only [dTup.allD, gT, gsCons, gsNil, gN, put]
      refine ⟨by show (2 : Nat) ≤ 1000; decide, ?_⟩
      rw [Int.toNat_natCast] at hx xl hy yl
      have b6 : Boxed θ6 p := g6.boxed (g5.boxed b4)
      have hxW : LongW x m := ⟨by omega, hx⟩
      have hyW : LongW y n := ⟨by omega, hy⟩
      unfold C_law_3_3
      simp only [put, dSeq, dSet, dLstO, dLst, dTup.allD, dCons, dNil, dC]
      refine ⟨by show (1 : Nat) ≤ 1000; decide, by show (1 : Nat) ≤ 1000; decide, by show (2 : Nat) ≤ 1000; decide, fun q hq => ?_⟩
      have np : q ≠ p := fun e => hq (by rw [e]; exact b6.key)
      have fin : ∀ (EE : DEnds) (q2 : Addr) (θ7 : Th) (y11 y12 y13 y14 : Option RV), (∀ ρ', (∃ x3 x4 x5 x6 x7 x8 x9 x10 x11 x12 x13 x14, ρ' = [some (.seq (ns.map PyData.int)), some (.d (.int (0 + (k : Int)))), some (.own p), x3, x4, x5, x6, x7, x8, x9, x10, x11, x12, x13, x14]) → EE.nx ρ' θ7) → θ7.lookup q2 = some (dues52 m n l kl x y) →
          C_law_3_1 E EE [some (.seq (ns.map PyData.int)), some (.d (.int (0 + (k : Int)))), some (.own p), some (.d (.int z)), some (.d (.int (m : Int))), some (.d (.int s)), some (.own q2), some (.d (webD m l)), some (.d (webD n kl)), some (.d (.str x)), some (.d (.str y)), y11, y12, y13, y14] θ7 := fun EE q2 θ7 y11 y12 y13 y14 nx hq2 => by
        have so := dues52_ok hm6 hn6 hlm hkn hxW hyW (by omega) (by omega)
        unfold C_law_3_1
        simp only [dIfS, dTest, dOp, dCall, dNewP, dCons, dNil]
        refine ⟨by unfold rOk; decide, ?_⟩
        refine lcD_map (fun d => match d with | .int i => some (if m + n ≤ 6 then (if i = 0 then webD (m + n) (besT m l kl) else .str (lonT x ++ upT m y)) else .list [.int 5]) | _ => none) _ [] (fun d hd k1 k0 hk => ?_) (by decide) ?_
        · obtain ⟨zz, hz, rfl⟩ := List.mem_map.mp hd
          exact ⟨m, n, l, kl, ⟨hm1, hm6⟩, ⟨hn1, hn6⟩, hlm, hkn, rfl, rfl, hxW, hyW, hk⟩
        · have e : ([] : List D) ++ (rangeD 0 2).filterMap (fun d => match d with | .int i => some (if m + n ≤ 6 then (if i = 0 then webD (m + n) (besT m l kl) else .str (lonT x ++ upT m y)) else .list [.int 5]) | _ => none) = dues52 m n l kl x y := by
            unfold dues52
            by_cases c : m + n ≤ 6
            · simp only [if_pos c]; rfl
            · simp only [if_neg c]; rfl
          rw [e]
          simp only [fRepr, on1, dat, dVar, nth, hq2]
          refine ⟨so, so, ?_⟩
          simp only [fNeS, asS, asB, decide_true, Bool.not_true, Bool.false_eq_true, if_false, if_true, dNext]
          exact nx _ ⟨_, _, _, _, _, _, _, _, _, _, _, _, rfl⟩
      unfold C_law_3_2
      simp only [dSeq, dIfS, dTest, dOp, dVar, dC, nth, fIx, webD, dat, ixD, asI, i0, fAdd, fLt, on2I, asB]
      by_cases c : m + n ≤ 6
      · have c2 : (m : Int) + (n : Int) < 7 := by omega
        simp only [c2, decide_true, if_true, dSet, dSeq]
        have l15 := bes_len15 hm6 hlm
        have k15 := bes_len15 hn6 hkn
        simp only [dOp, dVar, dC, nth, fIx, asI, dat, ixD, i1, dCall, dCons, dNil, dNewP]
        unfold dLc
        simp only [dItT, dOp, dVar, dC, nth, fIx, asI, dat, ixD, i1]
        refine lcD_map (fun d => match d with | .tuple [.int a, .int b] => some (tieD (a + (m : Int), b + (m : Int))) | _ => none) _ [] (fun d hd k1 k0 hq => ?_) (by simp; omega) ?_
        · obtain ⟨pr, hp2, rfl⟩ := List.mem_map.mp hd
          simp only [wipeR, unset, gT, gsCons, gsNil, gN, put, tieD, dYes, if_true, dTup, dTup.allD, dCons, dNil, dOp, dVar, nth, fAdd, asD] at hq ⊢
          exact ⟨by show (2 : Nat) ≤ 1000; decide, hq⟩
        · have ef : (kl.map tieD).filterMap (fun d => match d with | .tuple [.int a, .int b] => some (tieD (a + (m : Int), b + (m : Int))) | _ => none) = (kl.map fun p => (p.1 + (m : Int), p.2 + (m : Int))).map tieD := by
            rw [List.filterMap_map, List.map_map, ← List.filterMap_eq_map]
            congr 1
          rw [List.nil_append, ef]
          have em : (m : Int) + (n : Int) = ((m + n : Nat) : Int) := by omega
          have el : l.map tieD ++ (kl.map fun p => (p.1 + (m : Int), p.2 + (m : Int))).map tieD = (besT m l kl).map tieD := by
            unfold besT
            rw [List.map_append]
          simp only [fTuple, on1, dat, fCatT]
          refine ⟨by rw [List.length_map, List.length_map, List.length_map]; show _ ≤ 1000000; omega, ?_⟩
          simp only [put, dLstO, dTup, dTup.allD, dCons, dNil, dOp, dVar, dC, nth, fIx, dat, ixD, asI, i0, fAdd, em, el]
          refine ⟨by show (2 : Nat) ≤ 1000; decide, by show (1 : Nat) ≤ 1000; decide, fun q2 hq2 => ?_⟩
          simp only [put, dDrop, dAppend, dOp, dFn0, dCons, dNil, dVar, nth, onOwn, lookup_top]
          refine ⟨hxW.1, ?_⟩
          have rng := hyW.rng hn6
          simp only [dJoin, dC, dNewP, dat, asS]
          simp only [dItS, dVar, nth, asS]
          refine lcD_map (upD m) _ [] (fun d hd k1 k0 hq => ?_) (by rw [signsD_eq, List.length_map]; have e : y.cps.size ≤ 1000 := hyW.1; simp; omega) ?_
          · rw [signsD_eq] at hd
            obtain ⟨ch, hc, rfl⟩ := List.mem_map.mp hd
            obtain ⟨c1, c2⟩ := rng ch hc
            have lt : ch < 97 + n := by
              have := (made_iff.mp hy ch).mp hc
              omega
            simp only [wipeR, unset, gN, put, dYes, if_true, dOp, dIndexS, dC, asS, dVar, nth, sg, fIx, dat, ixD, asI]
            refine ⟨ch - 97, [], abc_index c1 c2, ?_⟩
            have e2 : ((ch - 97 : Nat) : Int) + (m : Int) = ((ch - 97 + m : Nat) : Int) := by omega
            simp only [fAdd, e2]
            rw [abc_at (by omega)]
            refine ⟨abc_small, ?_⟩
            have e3 : 97 + (ch - 97 + m) = ch + m := by omega
            rw [e3]
            exact hq
          · rw [List.nil_append]
            have yl : y.cps.toList.length = y.length := Array.length_toList
            rw [signsD_eq, up_all]
            simp only [seqD]
            rw [strs_signs]
            have lx := lon_len x
            have eu : txt (y.cps.toList.map (· + m)) = upT m y := rfl
            refine ⟨by rw [sum_ones, List.length_map, List.length_map]; show _ + _ * 0 ≤ 1000000; omega, ?_⟩
            rw [join_signs, eu]
            simp only [fAdd]
            refine ⟨by rw [up_len]; show _ ≤ 1000000; omega, ?_⟩
            simp only [asD, lookup_top]
            refine ⟨by show (1 : Nat) ≤ 1000000; decide, ?_⟩
            have b7 : Boxed ((q, [PyData.list [.int 5], .list [.int 5]]) :: θ6) p := Boxed.under np b6
            have np2 : q2 ≠ p := fun e => hq2 (by rw [e]; exact b7.key)
            rw [thSet_top hq2]
            refine fin _ q2 _ _ _ _ _ (fun ρ' z => hK2 _ _ ⟨Boxed.under np2 b7, z⟩) ?_
            unfold dues52
            rw [if_pos c, lookup_top]
            rfl
      · have c2 : ¬ (m : Int) + (n : Int) < 7 := by omega
        simp only [c2, decide_false, Bool.false_eq_true, if_false, dNext]
        refine fin _ q _ _ _ _ _ (fun ρ' z => hK2 _ _ ⟨Boxed.under np b6, z⟩) ?_
        unfold dues52
        rw [if_neg c, lookup_top]

end TlD
set_option Elab.async false
set_option linter.all false
set_option maxRecDepth 100000
set_option maxHeartbeats 4000000
namespace TlK
open PySem PySem.Spec PyProof.Rows L2 GxR TlG TlD
def top (i : Nat) : Stmt := PySem.Challenge.pw_turnletters_k52_webs_beside_one_another.main.body.getD i (.Pass ⟨0, 0, 0, 0⟩)
abbrev s_is_whole : Stmt := top 13
abbrev s_is_number : Stmt := top 14
abbrev s_is_many : Stmt := top 15
abbrev s_is_place : Stmt := top 16
abbrev s_is_tie : Stmt := top 17
abbrev s_is_rising : Stmt := top 18
abbrev s_is_web : Stmt := top 19
abbrev s_has_letters : Stmt := top 20
abbrev s_check_web : Stmt := top 21
abbrev s_check_word : Stmt := top 22
abbrev s_check_few : Stmt := top 23
abbrev s_check_word_of : Stmt := top 24
abbrev s_firsts : Stmt := top 26
abbrev s_longer : Stmt := top 27
abbrev s_check_beside : Stmt := top 29
abbrev s_beside : Stmt := top 30
abbrev s_word_beside : Stmt := top 31
abbrev s__law_box : Stmt := top 33
abbrev s__law_take : Stmt := top 34
abbrev s__law_web : Stmt := top 35
abbrev s__law_word : Stmt := top 36
abbrev s__law_longer : Stmt := top 37
abbrev s__law_classes : Stmt := top 38
abbrev s__law_only : Stmt := top 39
abbrev s__law_told : Stmt := top 40
abbrev s_law : Stmt := top 41
theorem sc_is_whole : FnScope ["thing"] ["thing"] (defScope s_is_whole) := ⟨rfl, rfl, rfl, by decide +kernel, rfl, by decide +kernel, by decide +kernel⟩
theorem sc_is_number : FnScope ["thing", "least", "most"] ["thing", "least", "most"] (defScope s_is_number) := ⟨rfl, rfl, rfl, by decide +kernel, rfl, by decide +kernel, by decide +kernel⟩
theorem sc_is_many : FnScope ["thing"] ["thing"] (defScope s_is_many) := ⟨rfl, rfl, rfl, by decide +kernel, rfl, by decide +kernel, by decide +kernel⟩
theorem sc_is_place : FnScope ["thing", "many"] ["thing", "many"] (defScope s_is_place) := ⟨rfl, rfl, rfl, by decide +kernel, rfl, by decide +kernel, by decide +kernel⟩
theorem sc_is_tie : FnScope ["thing", "many", "one", "other"] ["thing", "many"] (defScope s_is_tie) := ⟨rfl, rfl, rfl, by decide +kernel, rfl, by decide +kernel, by decide +kernel⟩
theorem sc_is_rising : FnScope ["row", "less", "more"] ["row"] (defScope s_is_rising) := ⟨rfl, rfl, rfl, by decide +kernel, rfl, by decide +kernel, by decide +kernel⟩
theorem sc_is_web : FnScope ["thing", "many", "ties", "tie"] ["thing"] (defScope s_is_web) := ⟨rfl, rfl, rfl, by decide +kernel, rfl, by decide +kernel, by decide +kernel⟩
theorem sc_has_letters : FnScope ["thing", "many"] ["thing", "many"] (defScope s_has_letters) := ⟨rfl, rfl, rfl, by decide +kernel, rfl, by decide +kernel, by decide +kernel⟩
theorem sc_check_web : FnScope ["thing"] ["thing"] (defScope s_check_web) := ⟨rfl, rfl, rfl, by decide +kernel, rfl, by decide +kernel, by decide +kernel⟩
theorem sc_check_word : FnScope ["thing", "many"] ["thing", "many"] (defScope s_check_word) := ⟨rfl, rfl, rfl, by decide +kernel, rfl, by decide +kernel, by decide +kernel⟩
theorem sc_check_few : FnScope ["many", "most"] ["many", "most"] (defScope s_check_few) := ⟨rfl, rfl, rfl, by decide +kernel, rfl, by decide +kernel, by decide +kernel⟩
theorem sc_check_word_of : FnScope ["web", "thing"] ["web", "thing"] (defScope s_check_word_of) := ⟨rfl, rfl, rfl, by decide +kernel, rfl, by decide +kernel, by decide +kernel⟩
theorem sc_firsts : FnScope ["web", "word", "found", "letter", "place"] ["web", "word"] (defScope s_firsts) := ⟨rfl, rfl, rfl, by decide +kernel, rfl, by decide +kernel, by decide +kernel⟩
theorem sc_longer : FnScope ["web", "word", "place"] ["web", "word"] (defScope s_longer) := ⟨rfl, rfl, rfl, by decide +kernel, rfl, by decide +kernel, by decide +kernel⟩
theorem sc_check_beside : FnScope ["web", "other"] ["web", "other"] (defScope s_check_beside) := ⟨rfl, rfl, rfl, by decide +kernel, rfl, by decide +kernel, by decide +kernel⟩
theorem sc_beside : FnScope ["web", "other", "many", "less", "more"] ["web", "other"] (defScope s_beside) := ⟨rfl, rfl, rfl, by decide +kernel, rfl, by decide +kernel, by decide +kernel⟩
theorem sc_word_beside : FnScope ["web", "word", "other", "more", "letter"] ["web", "word", "other", "more"] (defScope s_word_beside) := ⟨rfl, rfl, rfl, by decide +kernel, rfl, by decide +kernel, by decide +kernel⟩
theorem sc__law_box : FnScope ["_law_script", "_law_k", "_law_here", "_law_number", "_law_j", "_law_part"] ["_law_script", "_law_k"] (defScope s__law_box) := ⟨rfl, rfl, rfl, by decide +kernel, rfl, by decide +kernel, by decide +kernel⟩
theorem sc__law_take : FnScope ["_law_box_here", "_law_many", "_law_left", "_law_digit"] ["_law_box_here", "_law_many"] (defScope s__law_take) := ⟨rfl, rfl, rfl, by decide +kernel, rfl, by decide +kernel, by decide +kernel⟩
theorem sc__law_web : FnScope ["_law_box_here", "_law_least", "_law_most", "_law_places", "_law_kind", "_law_full", "_law_ties", "_law_other", "_law_order", "_law_at", "_law_found", "_law_joint", "_law_one", "_law_to", "_law_drawn", "_law_ring", "_law_lots", "_law_tree"] ["_law_box_here", "_law_least", "_law_most"] (defScope s__law_web) := ⟨rfl, rfl, rfl, by decide +kernel, rfl, by decide +kernel, by decide +kernel⟩
theorem sc__law_word : FnScope ["_law_box_here", "_law_many", "_law_more", "_law_left", "_law_found", "_law_turn", "_law_at"] ["_law_box_here", "_law_many", "_law_more"] (defScope s__law_word) := ⟨rfl, rfl, rfl, by decide +kernel, rfl, by decide +kernel, by decide +kernel⟩
theorem sc__law_longer : FnScope ["_law_many", "_law_word_here", "_law_found", "_law_letter"] ["_law_many", "_law_word_here"] (defScope s__law_longer) := ⟨rfl, rfl, rfl, by decide +kernel, rfl, by decide +kernel, by decide +kernel⟩
theorem sc__law_classes : FnScope ["_law_e", "_law_found"] ["_law_e"] (defScope s__law_classes) := ⟨rfl, rfl, rfl, by decide +kernel, rfl, by decide +kernel, by decide +kernel⟩
theorem sc__law_only : FnScope ["_law_e", "_law_place", "_law_k"] ["_law_e", "_law_place"] (defScope s__law_only) := ⟨rfl, rfl, rfl, by decide +kernel, rfl, by decide +kernel, by decide +kernel⟩
theorem sc__law_told : FnScope ["_law_kind", "_law_web_here", "_law_word_here", "_law_other", "_law_more", "_law_number", "_law_e"] ["_law_kind", "_law_web_here", "_law_word_here", "_law_other", "_law_more"] (defScope s__law_told) := ⟨rfl, rfl, rfl, by decide +kernel, rfl, by decide +kernel, by decide +kernel⟩
theorem sc_law : FnScope ["_law_script", "_law_k", "_law_box_here", "_law_most", "_law_many", "_law_size", "_law_dues", "_law_web_here", "_law_other", "_law_word_here", "_law_more", "_law_ties", "_law_kind", "_law_one", "_law_two"] ["_law_script"] (defScope s_law) := ⟨rfl, rfl, rfl, by decide +kernel, rfl, by decide +kernel, by decide +kernel⟩
structure Fx (K : PySem.W.Frag) (mg : Str → Option Value) : Prop where
  s_is_whole : Src K mg "is_whole" s_is_whole
  s_is_number : Src K mg "is_number" s_is_number
  s_is_many : Src K mg "is_many" s_is_many
  s_is_place : Src K mg "is_place" s_is_place
  s_is_tie : Src K mg "is_tie" s_is_tie
  s_is_rising : Src K mg "is_rising" s_is_rising
  s_is_web : Src K mg "is_web" s_is_web
  s_has_letters : Src K mg "has_letters" s_has_letters
  s_check_web : Src K mg "check_web" s_check_web
  s_check_word : Src K mg "check_word" s_check_word
  s_check_few : Src K mg "check_few" s_check_few
  s_check_word_of : Src K mg "check_word_of" s_check_word_of
  s_firsts : Src K mg "firsts" s_firsts
  s_longer : Src K mg "longer" s_longer
  s_check_beside : Src K mg "check_beside" s_check_beside
  s_beside : Src K mg "beside" s_beside
  s_word_beside : Src K mg "word_beside" s_word_beside
  s__law_box : Src K mg "_law_box" s__law_box
  s__law_take : Src K mg "_law_take" s__law_take
  s__law_web : Src K mg "_law_web" s__law_web
  s__law_word : Src K mg "_law_word" s__law_word
  s__law_longer : Src K mg "_law_longer" s__law_longer
  s__law_classes : Src K mg "_law_classes" s__law_classes
  s__law_only : Src K mg "_law_only" s__law_only
  s__law_told : Src K mg "_law_told" s__law_told
  s_law : Src K mg "law" s_law
  b_ValueError : mg "ValueError" = none
  b_all : mg "all" = none
  b_bool : mg "bool" = none
  b_divmod : mg "divmod" = none
  b_int : mg "int" = none
  b_isinstance : mg "isinstance" = none
  b_len : mg "len" = none
  b_list : mg "list" = none
  b_max : mg "max" = none
  b_min : mg "min" = none
  b_range : mg "range" = none
  b_repr : mg "repr" = none
  b_set : mg "set" = none
  b_sorted : mg "sorted" = none
  b_str : mg "str" = none
  b_tuple : mg "tuple" = none
  b_zip : mg "zip" = none
  c_LETTERS : ∃ t, mg "LETTERS" = some (.str "abcdef" t)
  c_MOST_PLACES : ∃ t, mg "MOST_PLACES" = some (.int 6 t)
  e_NoWeb : ExcF K mg "NoWeb"
  e_NoWord : ExcF K mg "NoWord"
  e_TooMany : ExcF K mg "TooMany"
  g_TurnError : mg "TurnError" = some (.ref (He.ga K "TurnError"))
  g_NoWeb : mg "NoWeb" = some (.ref (He.ga K "NoWeb"))
  g_NoWord : mg "NoWord" = some (.ref (He.ga K "NoWord"))
  g_NoPlace : mg "NoPlace" = some (.ref (He.ga K "NoPlace"))
  g_NoNumber : mg "NoNumber" = some (.ref (He.ga K "NoNumber"))
  g_NoRun : mg "NoRun" = some (.ref (He.ga K "NoRun"))
  g_TooMany : mg "TooMany" = some (.ref (He.ga K "TooMany"))
  g_NoLine : mg "NoLine" = some (.ref (He.ga K "NoLine"))
  g_NoText : mg "NoText" = some (.ref (He.ga K "NoText"))
  hx : ∀ q ∈ ([("TooMany", 5)] : List (Str × Nat)), ClsX K (He.ga K q.1) q.2
structure Bx (K : PySem.W.Frag) (mg : Str → Option Value) (base : Heap) (Ps : List Addr) : Prop where
  t_is_rising : GxR.TabB base mg (He.codeOf K ("is_rising", none)) (He.tabOf K (He.codeOf K ("is_rising", none)))
  p_is_rising : He.tabOf K (He.codeOf K ("is_rising", none)) ∈ Ps
  t_is_web : GxR.TabB base mg (He.codeOf K ("is_web", none)) (He.tabOf K (He.codeOf K ("is_web", none)))
  p_is_web : He.tabOf K (He.codeOf K ("is_web", none)) ∈ Ps
section
variable {P : Program} {w : World} {K : PySem.W.Frag} {mg : Str → Option Value} {base : Heap} {Ps : List Addr}
theorem ok_is_whole (X : Fx K mg)  : Def P w K mg base Ps 1 "is_whole" ["thing"] sp_is_whole :=
  def_of X.s_is_whole sc_is_whole (fun _ _ _ _ _ _ us hl => match us, hl with | [_], _ => rfl) ln_is_whole fun A outer s H E hr tk hp => ⟨_, T_is_whole, (dss_one (ds_ret (de_and (de_isic rfl kit_int rfl X.b_isinstance rfl X.b_int (by decide +kernel) (de_pe (pv 0))) (de_one (de_not (de_isic rfl kit_bool rfl X.b_isinstance rfl X.b_bool (by decide +kernel) (de_pe (pv 0)))))))), rd_is_whole⟩
theorem ok_is_number (X : Fx K mg) (D_is_whole : Def P w K mg base Ps 1 "is_whole" ["thing"] sp_is_whole) : Def P w K mg base Ps 2 "is_number" ["thing", "least", "most"] sp_is_number :=
  def_of X.s_is_number sc_is_number (fun _ _ _ _ _ _ us hl => match us, hl with | [_, _, _], _ => rfl) ln_is_number fun A outer s H E hr tk hp => ⟨_, T_is_number, (dss_one (ds_ret (de_and (de_call D_is_whole rfl (hr.mono (by decide)) rfl (da_cons (de_pe (pv 0)) da_nil)) (de_one (de_chain op_le op_le sim_le sim_le (de_pe (pv 1)) (de_pe (pv 0)) (de_pe (pv 2))))))), rd_is_number⟩
theorem ok_is_many (X : Fx K mg) (D_is_number : Def P w K mg base Ps 2 "is_number" ["thing", "least", "most"] sp_is_number) : Def P w K mg base Ps 3 "is_many" ["thing"] sp_is_many :=
  def_of X.s_is_many sc_is_many (fun _ _ _ _ _ _ us hl => match us, hl with | [_], _ => rfl) ln_is_many fun A outer s H E hr tk hp => ⟨_, T_is_many, (dss_one (ds_ret (de_call D_is_number rfl (hr.mono (by decide)) rfl (da_cons (de_pe (pv 0)) (da_cons de_int (da_cons (by exact (de_gint (i := 6) rfl X.c_MOST_PLACES)) da_nil)))))), rd_is_many⟩
theorem ok_is_place (X : Fx K mg) (D_is_number : Def P w K mg base Ps 2 "is_number" ["thing", "least", "most"] sp_is_number) : Def P w K mg base Ps 3 "is_place" ["thing", "many"] sp_is_place :=
  def_of X.s_is_place sc_is_place (fun _ _ _ _ _ _ us hl => match us, hl with | [_, _], _ => rfl) ln_is_place fun A outer s H E hr tk hp => ⟨_, T_is_place, (dss_one (ds_ret (de_call D_is_number rfl (hr.mono (by decide)) rfl (da_cons (de_pe (pv 0)) (da_cons de_int (da_cons (by exact (de_op op_sub sim_sub (de_pe (pv 1)) de_int)) da_nil)))))), rd_is_place⟩
theorem ok_is_tie (X : Fx K mg) (D_is_place : Def P w K mg base Ps 3 "is_place" ["thing", "many"] sp_is_place) : Def P w K mg base Ps 4 "is_tie" ["thing", "many"] sp_is_tie :=
  def_of X.s_is_tie sc_is_tie (fun _ _ _ _ _ _ us hl => match us, hl with | [_, _], _ => rfl) ln_is_tie fun A outer s H E hr tk hp => ⟨_, T_is_tie, (dss_cons (ds_if (DW.dt (dw_or (dt_not (dt_val (de_isic rfl kit_tup rfl X.b_isinstance rfl X.b_tuple (by decide +kernel) (de_pe (pv 0))))) (dw_or1 (dt_cmp (op_neD hr.units) (sim_ne rfl) (nomark _) (de_callB call_len (sim_len rfl) rfl X.b_len boot_len (da_cons (de_pe (pv 0)) da_nil)) de_int)))) (dss_one (ds_ret de_bl)) dss_nil) (dss_cons (ds_asg (de_pe (pv 0)) (dg_tup rfl (dgs_cons (dg_name (i := 2) sc_is_tie.nd rfl (by first | exact Or.inl rfl | exact Or.inr rfl)) (dgs_cons (dg_name (i := 3) sc_is_tie.nd rfl (by first | exact Or.inl rfl | exact Or.inr rfl)) dgs_nil)) rfl (gs_len2)) (fun p q => ps_asg p q)) (dss_one (ds_ret (de_and (de_call D_is_place rfl (hr.mono (by decide)) rfl (da_cons (de_pe (pv 2)) (da_cons (de_pe (pv 1)) da_nil))) (de_and (de_call D_is_place rfl (hr.mono (by decide)) rfl (da_cons (de_pe (pv 3)) (da_cons (de_pe (pv 1)) da_nil))) (de_one (de_cmp op_lt sim_lt (nomark _) (de_pe (pv 2)) (de_pe (pv 3)))))))))), rd_is_tie⟩
theorem ok_is_rising (X : Fx K mg) (B : Bx K mg base Ps)  : Def P w K mg base Ps 2 "is_rising" ["row"] sp_is_rising :=
  def_of X.s_is_rising sc_is_rising (fun _ _ _ _ _ _ us hl => match us, hl with | [_], _ => rfl) ln_is_rising fun A outer s H E hr tk hp => ⟨_, T_is_rising, (dss_one (ds_ret (de_all (k := 0) (own := [("less", 1), ("more", 2)]) (hr.mono (by decide)) sc_is_rising.nd rfl X.b_all B.t_is_rising B.p_is_rising rfl (di_zip rfl rfl X.b_zip (da_cons (de_pe (pv 0)) (da_cons (by exact (de_slicec rfl (de_pe (pv 0)) (do_some de_int) do_none)) da_nil))) (blkOk_by (N := ["row", "less", "more"]) (sc := defScope s_is_rising) (by decide +kernel)) ⟨rfl, by decide +kernel, rfl⟩ (fun _ _ _ _ _ _ _ r => (dg_tup rfl (dgs_cons (dg_name (i := 1) sc_is_rising.nd rfl (by first | exact Or.inl rfl | exact Or.inr rfl)) (dgs_cons (dg_name (i := 2) sc_is_rising.nd rfl (by first | exact Or.inl rfl | exact Or.inr rfl)) dgs_nil)) rfl (gs_len2))) (fun _ _ _ _ _ _ _ r => dts_nil) (fun _ _ _ _ _ _ _ r => (de_cmp (op_ltX r.units0) (sim_ltX rfl) (nomark _) (de_pe (pv 1)) (de_pe (pv 2)))) (by decide)))), rd_is_rising⟩
theorem ok_is_web (X : Fx K mg) (B : Bx K mg base Ps) (D_is_tie : Def P w K mg base Ps 4 "is_tie" ["thing", "many"] sp_is_tie) (D_is_rising : Def P w K mg base Ps 2 "is_rising" ["row"] sp_is_rising) (D_is_many : Def P w K mg base Ps 3 "is_many" ["thing"] sp_is_many) : Def P w K mg base Ps 6 "is_web" ["thing"] sp_is_web :=
  def_of X.s_is_web sc_is_web (fun _ _ _ _ _ _ us hl => match us, hl with | [_], _ => rfl) ln_is_web fun A outer s H E hr tk hp => ⟨_, T_is_web, (dss_cons (ds_if (DW.dt (dw_or (dt_not (dt_val (de_isic rfl kit_tup rfl X.b_isinstance rfl X.b_tuple (by decide +kernel) (de_pe (pv 0))))) (dw_or1 (dt_cmp (op_neD hr.units) (sim_ne rfl) (nomark _) (de_callB call_len (sim_len rfl) rfl X.b_len boot_len (da_cons (de_pe (pv 0)) da_nil)) de_int)))) (dss_one (ds_ret de_bl)) dss_nil) (dss_cons (ds_asg (de_pe (pv 0)) (dg_tup rfl (dgs_cons (dg_name (i := 1) sc_is_web.nd rfl (by first | exact Or.inl rfl | exact Or.inr rfl)) (dgs_cons (dg_name (i := 2) sc_is_web.nd rfl (by first | exact Or.inl rfl | exact Or.inr rfl)) dgs_nil)) rfl (gs_len2)) (fun p q => ps_asg p q)) (dss_cons (ds_if (DW.dt (dw_or (dt_not (dt_val (de_call D_is_many rfl (hr.mono (by decide)) rfl (da_cons (de_pe (pv 1)) da_nil)))) (dw_or1 (dt_not (dt_val (de_isic rfl kit_tup rfl X.b_isinstance rfl X.b_tuple (by decide +kernel) (de_pe (pv 2)))))))) (dss_one (ds_ret de_bl)) dss_nil) (dss_one (ds_ret (de_and (de_all (k := 4) (own := [("tie", 3)]) (hr.mono (by decide)) sc_is_web.nd rfl X.b_all B.t_is_web B.p_is_web rfl (di_tup rfl (de_pe (pv 2))) (blkOk_by (N := ["thing", "many", "ties", "tie"]) (sc := defScope s_is_web) (by decide +kernel)) ⟨rfl, by decide +kernel, rfl⟩ (fun _ _ _ _ _ _ _ r => (dg_name (i := 3) sc_is_web.nd rfl (by first | exact Or.inl rfl | exact Or.inr rfl))) (fun _ _ _ _ _ _ _ r => dts_nil) (fun _ _ _ _ _ _ _ r => (de_call D_is_tie rfl (r.mono (by decide)) rfl (da_cons (de_pe (pv 3)) (da_cons (de_pe (pv 1)) da_nil)))) (by decide)) (de_one (de_call D_is_rising rfl (hr.mono (by decide)) rfl (da_cons (de_pe (pv 2)) da_nil))))))))), rd_is_web⟩
theorem ok_has_letters (X : Fx K mg)  : Def P w K mg base Ps 1 "has_letters" ["thing", "many"] sp_has_lettersL :=
  def_of X.s_has_letters sc_has_letters (fun _ _ _ _ _ _ us hl => match us, hl with | [_, _], _ => rfl) ln_has_lettersL fun A outer s H E hr tk hp => ⟨_, T_has_lettersL, (dss_one (ds_ret (de_and (de_isic rfl kit_str rfl X.b_isinstance rfl X.b_str (by decide +kernel) (de_pe (pv 0))) (de_one (de_cmp (op_eqD hr.units) (sim_eq rfl) (nomark _) (de_sortSetL rfl rfl X.b_sorted rfl X.b_set (de_pe (pv 0))) (de_newP (new_listc rfl rfl rfl X.b_list (by decide +kernel) (da_cons (by exact (de_slicec rfl (de_gstr (z := "abcdef") rfl X.c_LETTERS) do_none (do_some (de_pe (pv 1))))) da_nil)))))))), rd_has_lettersL⟩
theorem ok_check_web (X : Fx K mg) (D_is_web : Def P w K mg base Ps 6 "is_web" ["thing"] sp_is_web) : Def P w K mg base Ps 7 "check_web" ["thing"] (sp_check_web (He.ga K)) :=
  def_of X.s_check_web sc_check_web (fun _ _ _ _ _ _ us hl => match us, hl with | [_], _ => rfl) ln_check_web fun A outer s H E hr tk hp => ⟨_, T_check_web (He.ga K), (dss_one (ds_if (dt_not (dt_val (de_call D_is_web rfl (hr.mono (by decide)) rfl (da_cons (de_pe (pv 0)) da_nil)))) (dss_one (ds_raiseE X.e_NoWeb rfl tk rfl)) dss_nil)), rd_check_web⟩
theorem ok_check_word (X : Fx K mg) (D_has_letters : Def P w K mg base Ps 1 "has_letters" ["thing", "many"] sp_has_lettersL) : Def P w K mg base Ps 2 "check_word" ["thing", "many"] (sp_check_wordL (He.ga K)) :=
  def_of X.s_check_word sc_check_word (fun _ _ _ _ _ _ us hl => match us, hl with | [_, _], _ => rfl) ln_check_wordL fun A outer s H E hr tk hp => ⟨_, T_check_wordL (He.ga K), (dss_one (ds_if (dt_not (dt_val (de_call D_has_letters rfl (hr.mono (by decide)) rfl (da_cons (de_pe (pv 0)) (da_cons (de_pe (pv 1)) da_nil))))) (dss_one (ds_raiseE X.e_NoWord rfl tk rfl)) dss_nil)), rd_check_wordL⟩
theorem ok_check_few (X : Fx K mg)  : Def P w K mg base Ps 1 "check_few" ["many", "most"] (sp_check_few (He.ga K)) :=
  def_of X.s_check_few sc_check_few (fun _ _ _ _ _ _ us hl => match us, hl with | [_, _], _ => rfl) ln_check_few fun A outer s H E hr tk hp => ⟨_, T_check_few (He.ga K), (dss_one (ds_if (dt_cmp op_gt sim_gt (nomark _) (de_pe (pv 0)) (de_pe (pv 1))) (dss_one (ds_raiseE X.e_TooMany rfl tk rfl)) dss_nil)), rd_check_few⟩
theorem ok_check_word_of (X : Fx K mg) (D_check_word : Def P w K mg base Ps 2 "check_word" ["thing", "many"] (sp_check_wordL (He.ga K))) (D_check_web : Def P w K mg base Ps 7 "check_web" ["thing"] (sp_check_web (He.ga K))) : Def P w K mg base Ps 8 "check_word_of" ["web", "thing"] (sp_check_word_ofL (He.ga K)) :=
  def_of X.s_check_word_of sc_check_word_of (fun _ _ _ _ _ _ us hl => match us, hl with | [_, _], _ => rfl) ln_check_word_ofL fun A outer s H E hr tk hp => ⟨_, T_check_word_ofL (He.ga K), (dss_cons (ds_expr (de_callX D_check_web rfl (hr.mono (by decide)) rfl tk (da_cons (de_pe (pv 0)) da_nil))) (dss_one (ds_expr (de_callX D_check_word rfl (hr.mono (by decide)) rfl tk (da_cons (de_pe (pv 1)) (da_cons (by exact (de_ixc rfl (de_pe (pv 0)) de_int (fun _ _ => rfl))) da_nil)))))), rd_check_word_ofL⟩
theorem ok_firsts (X : Fx K mg) (D_check_word_of : Def P w K mg base Ps 8 "check_word_of" ["web", "thing"] (sp_check_word_ofL (He.ga K))) : Def P w K mg base Ps 9 "firsts" ["web", "word"] (sp_firstsL (He.ga K)) :=
  def_of X.s_firsts sc_firsts (fun _ _ _ _ _ _ us hl => match us, hl with | [_, _], _ => rfl) ln_firstsL fun A outer s H E hr tk hp => ⟨_, T_firstsL (He.ga K), (dss_cons (ds_expr (de_callX D_check_word_of rfl (hr.mono (by decide)) rfl tk (da_cons (de_pe (pv 0)) (da_cons (de_pe (pv 1)) da_nil)))) (dss_cons (ds_set (i := 2) sc_firsts.nd rfl (by first | exact Or.inl rfl | exact Or.inr rfl) (de_lstO da_nil)) (dss_cons (ds_for hp rfl (di_str (de_pe (pv 1))) (dg_name (i := 3) sc_firsts.nd rfl (by first | exact Or.inl rfl | exact Or.inr rfl)) (dss_cons (ds_set (i := 4) sc_firsts.nd rfl (by first | exact Or.inl rfl | exact Or.inr rfl) (by exact (de_indexS rfl (de_gstr (z := "abcdef") rfl X.c_LETTERS) (by exact (de_pe (pv 3)))))) (dss_one (ds_if (dt_cmp op_notIn_seq (sim_in rfl) (by rfl) (de_pe (pv 4)) (de_pe (pv 2))) (dss_one (ds_expr (de_append (de_pe (pv 2)) (de_pe (pv 4)) (fun a b => pe_bm PySem.F.plainAttrs_list PySem.F.slot_list_append PySem.F.type_list_append mt_append a (pa_cons b pa_nil))))) dss_nil)))) (dss_one (ds_retF (de_callTy call_tuple_of (sim_tuple rfl) rfl X.b_tuple (by decide +kernel) (da_cons (de_pe (pv 2)) da_nil))))))), rd_firstsL⟩
theorem ok_longer (X : Fx K mg) (D_firsts : Def P w K mg base Ps 9 "firsts" ["web", "word"] (sp_firstsL (He.ga K))) : Def P w K mg base Ps 10 "longer" ["web", "word"] (sp_longerL (He.ga K)) :=
  def_of X.s_longer sc_longer (fun _ _ _ _ _ _ us hl => match us, hl with | [_, _], _ => rfl) ln_longerL fun A outer s H E hr tk hp => ⟨_, T_longerL (He.ga K), (dss_one (ds_ret (de_op op_addA sim_add (de_join rfl de_str (de_newP (de_lcN (own := [("place", 2)]) (vs := _) rfl sc_longer.nd (di_tup rfl (de_callX D_firsts rfl (hr.mono (by decide)) rfl tk (da_cons (de_pe (pv 0)) (da_cons (de_pe (pv 1)) da_nil)))) (blkOk_by (N := ["web", "word", "place"]) (sc := defScope s_longer) (by decide +kernel)) (fun _ _ _ _ _ => (dg_name (i := 2) sc_longer.nd rfl (by first | exact Or.inl rfl | exact Or.inr rfl))) (fun _ _ _ _ _ => dts_nil) (fun _ _ _ _ _ => (de_ixc rfl (de_gstr (z := "abcdef") rfl X.c_LETTERS) (de_pe (pv 2)) (fun _ _ => rfl))) (by decide)))) (de_pe (pv 1))))), rd_longerL⟩
theorem ok_check_beside (X : Fx K mg) (D_check_few : Def P w K mg base Ps 1 "check_few" ["many", "most"] (sp_check_few (He.ga K))) : Def P w K mg base Ps 2 "check_beside" ["web", "other"] (sp_check_beside (He.ga K)) :=
  def_of X.s_check_beside sc_check_beside (fun _ _ _ _ _ _ us hl => match us, hl with | [_, _], _ => rfl) ln_check_beside fun A outer s H E hr tk hp => ⟨_, T_check_beside (He.ga K), (dss_one (ds_expr (de_callX D_check_few rfl (hr.mono (by decide)) rfl tk (da_cons (by exact (de_op op_addA sim_add (de_ixc rfl (de_pe (pv 0)) de_int (fun _ _ => rfl)) (de_ixc rfl (de_pe (pv 1)) de_int (fun _ _ => rfl)))) (da_cons (by exact (de_gint (i := 6) rfl X.c_MOST_PLACES)) da_nil))))), rd_check_beside⟩
theorem ok_beside (X : Fx K mg) (D_check_beside : Def P w K mg base Ps 2 "check_beside" ["web", "other"] (sp_check_beside (He.ga K))) (D_check_web : Def P w K mg base Ps 7 "check_web" ["thing"] (sp_check_web (He.ga K))) : Def P w K mg base Ps 8 "beside" ["web", "other"] (sp_beside (He.ga K)) :=
  def_of X.s_beside sc_beside (fun _ _ _ _ _ _ us hl => match us, hl with | [_, _], _ => rfl) ln_beside fun A outer s H E hr tk hp => ⟨_, T_beside (He.ga K), (dss_cons (ds_expr (de_callX D_check_web rfl (hr.mono (by decide)) rfl tk (da_cons (de_pe (pv 0)) da_nil))) (dss_cons (ds_expr (de_callX D_check_web rfl (hr.mono (by decide)) rfl tk (da_cons (de_pe (pv 1)) da_nil))) (dss_cons (ds_expr (de_callX D_check_beside rfl (hr.mono (by decide)) rfl tk (da_cons (de_pe (pv 0)) (da_cons (de_pe (pv 1)) da_nil)))) (dss_cons (ds_set (i := 2) sc_beside.nd rfl (by first | exact Or.inl rfl | exact Or.inr rfl) (de_ixc rfl (de_pe (pv 0)) de_int (fun _ _ => rfl))) (dss_one (ds_ret (de_tup (by exact (da_cons (by exact (de_op op_addA sim_add (de_pe (pv 2)) (de_ixc rfl (de_pe (pv 1)) de_int (fun _ _ => rfl)))) (da_cons (by exact (de_op op_catA sim_catT (de_ixc rfl (de_pe (pv 0)) de_int (fun _ _ => rfl)) (de_callTy call_tuple_of (sim_tuple rfl) rfl X.b_tuple (by decide +kernel) (da_cons (by exact (de_newP (de_lcN (own := [("less", 3), ("more", 4)]) (vs := _) rfl sc_beside.nd (di_tup rfl (de_ixc rfl (de_pe (pv 1)) de_int (fun _ _ => rfl))) (blkOk_by (N := ["web", "other", "many", "less", "more"]) (sc := defScope s_beside) (by decide +kernel)) (fun _ _ _ _ _ => (dg_tup rfl (dgs_cons (dg_name (i := 3) sc_beside.nd rfl (by first | exact Or.inl rfl | exact Or.inr rfl)) (dgs_cons (dg_name (i := 4) sc_beside.nd rfl (by first | exact Or.inl rfl | exact Or.inr rfl)) dgs_nil)) rfl (gs_len2))) (fun _ _ _ _ _ => dts_nil) (fun _ _ _ _ _ => (de_tup (by exact (da_cons (by exact (de_op op_addA sim_add (de_pe (pv 3)) (de_pe (pv 2)))) (da_cons (by exact (de_op op_addA sim_add (de_pe (pv 4)) (de_pe (pv 2)))) da_nil))))) (by decide)))) da_nil)))) da_nil)))))))))), rd_beside⟩
theorem ok_word_beside (X : Fx K mg) (D_longer : Def P w K mg base Ps 10 "longer" ["web", "word"] (sp_longerL (He.ga K))) (D_check_beside : Def P w K mg base Ps 2 "check_beside" ["web", "other"] (sp_check_beside (He.ga K))) (D_check_word : Def P w K mg base Ps 2 "check_word" ["thing", "many"] (sp_check_wordL (He.ga K))) (D_check_web : Def P w K mg base Ps 7 "check_web" ["thing"] (sp_check_web (He.ga K))) : Def P w K mg base Ps 11 "word_beside" ["web", "word", "other", "more"] (sp_word_beside (He.ga K)) :=
  def_of X.s_word_beside sc_word_beside (fun _ _ _ _ _ _ us hl => match us, hl with | [_, _, _, _], _ => rfl) ln_word_beside fun A outer s H E hr tk hp => ⟨_, T_word_beside (He.ga K), (dss_cons (ds_expr (de_callX D_check_web rfl (hr.mono (by decide)) rfl tk (da_cons (de_pe (pv 0)) da_nil))) (dss_cons (ds_expr (de_callX D_check_web rfl (hr.mono (by decide)) rfl tk (da_cons (de_pe (pv 2)) da_nil))) (dss_cons (ds_expr (de_callX D_check_word rfl (hr.mono (by decide)) rfl tk (da_cons (de_pe (pv 1)) (da_cons (by exact (de_ixc rfl (de_pe (pv 0)) de_int (fun _ _ => rfl))) da_nil)))) (dss_cons (ds_expr (de_callX D_check_word rfl (hr.mono (by decide)) rfl tk (da_cons (de_pe (pv 3)) (da_cons (by exact (de_ixc rfl (de_pe (pv 2)) de_int (fun _ _ => rfl))) da_nil)))) (dss_cons (ds_expr (de_callX D_check_beside rfl (hr.mono (by decide)) rfl tk (da_cons (de_pe (pv 0)) (da_cons (de_pe (pv 2)) da_nil)))) (dss_one (ds_ret (de_op op_addA sim_add (de_callX D_longer rfl (hr.mono (by decide)) rfl tk (da_cons (de_pe (pv 0)) (da_cons (de_pe (pv 1)) da_nil))) (de_join rfl de_str (de_newP (de_lcN (own := [("letter", 4)]) (vs := _) rfl sc_word_beside.nd (di_str (de_pe (pv 3))) (blkOk_by (N := ["web", "word", "other", "more", "letter"]) (sc := defScope s_word_beside) (by decide +kernel)) (fun _ _ _ _ _ => (dg_name (i := 4) sc_word_beside.nd rfl (by first | exact Or.inl rfl | exact Or.inr rfl))) (fun _ _ _ _ _ => dts_nil) (fun _ _ _ _ _ => (de_ixc rfl (de_gstr (z := "abcdef") rfl X.c_LETTERS) (de_op op_addA sim_add (by exact (de_indexS rfl (de_gstr (z := "abcdef") rfl X.c_LETTERS) (by exact (de_pe (pv 4))))) (de_ixc rfl (de_pe (pv 0)) de_int (fun _ _ => rfl))) (fun _ _ => rfl))) (by decide)))))))))))), rd_word_beside⟩
theorem ok__law_box (X : Fx K mg)  : Def P w K mg base Ps 1 "_law_box" ["_law_script", "_law_k"] sp_n_box :=
  def_of X.s__law_box sc__law_box (fun _ _ _ _ _ _ us hl => match us, hl with | [_, _], _ => rfl) ln_n_box fun A outer s H E hr tk hp => ⟨_, T_n_box, (dss_cons (ds_set (i := 2) sc__law_box.nd rfl (by first | exact Or.inl rfl | exact Or.inr rfl) (de_op op_addA sim_add (de_op op_mulA sim_mul de_int (de_pe (pv 1))) de_int)) (dss_cons (ds_if (dt_cmp op_lt sim_lt (nomark _) (de_pe (pv 1)) (de_callB call_len (sim_len rfl) rfl X.b_len boot_len (da_cons (de_pe (pv 0)) da_nil))) (dss_one (ds_set (i := 2) sc__law_box.nd rfl (by first | exact Or.inl rfl | exact Or.inr rfl) (de_ixc rfl (de_pe (pv 0)) (de_pe (pv 1)) (fun _ _ => rfl)))) dss_nil) (dss_cons (ds_if (dt_cmp (op_eqD hr.units) (sim_eq rfl) (nomark _) (de_op op_mod sim_mod (de_pe (pv 2)) de_int) de_int) (dss_one (ds_ret (de_lstO (da_cons (by exact (de_op op_fdiv sim_div (de_pe (pv 2)) de_int)) da_nil)))) dss_nil) (dss_cons (ds_set (i := 3) sc__law_box.nd rfl (by first | exact Or.inl rfl | exact Or.inr rfl) de_int) (dss_cons (ds_for hp rfl (di_range1 rfl X.b_range (da_cons de_int da_nil)) (dg_name (i := 4) sc__law_box.nd rfl (by first | exact Or.inl rfl | exact Or.inr rfl)) (dss_cons (ds_set (i := 5) sc__law_box.nd rfl (by first | exact Or.inl rfl | exact Or.inr rfl) (de_op op_mod sim_mod (de_op op_addA sim_add (de_op op_addA sim_add (de_op op_mulA sim_mul (de_op op_mod sim_mod (de_pe (pv 2)) de_int) de_int) (de_op op_mulA sim_mul de_int (de_pe (pv 4)))) de_int) de_int)) (dss_cons (ds_set (i := 5) sc__law_box.nd rfl (by first | exact Or.inl rfl | exact Or.inr rfl) (de_op op_mod sim_mod (de_op op_mulA sim_mul (de_pe (pv 5)) (de_pe (pv 5))) de_int)) (dss_one (ds_set (i := 3) sc__law_box.nd rfl (by first | exact Or.inl rfl | exact Or.inr rfl) (de_op op_addA sim_add (de_op op_mulA sim_mul (de_pe (pv 3)) de_int) (de_op op_mod sim_mod (de_op op_mulA sim_mul (de_pe (pv 5)) (de_op op_addA sim_add (de_pe (pv 5)) de_int)) de_int))))))) (dss_one (ds_ret (de_lstO (da_cons (de_pe (pv 3)) da_nil))))))))), rd_n_box⟩
theorem ok__law_take (X : Fx K mg)  : Def P w K mg base Ps 1 "_law_take" ["_law_box_here", "_law_many"] sp__law_take :=
  def_of X.s__law_take sc__law_take (fun _ _ _ _ _ _ us hl => match us, hl with | [_, _], _ => rfl) ln__law_take fun A outer s H E hr tk hp => ⟨_, T__law_take, (dss_cons (ds_asg (de_callB call_divmod sim_divmod rfl X.b_divmod (by decide +kernel) (da_cons (by exact (de_ixc rfl (de_pe (pv 0)) de_int (fun _ _ => rfl))) (da_cons (de_pe (pv 1)) da_nil))) (dg_tup rfl (dgs_cons (dg_name (i := 2) sc__law_take.nd rfl (by first | exact Or.inl rfl | exact Or.inr rfl)) (dgs_cons (dg_name (i := 3) sc__law_take.nd rfl (by first | exact Or.inl rfl | exact Or.inr rfl)) dgs_nil)) rfl (gs_len2)) (fun p q => ps_asg p q)) (dss_cons (ds_setIx (de_pe (pv 2)) (de_pe (pv 0)) de_int (fun a b c => ps_asg a (pg_sub b c set_list))) (dss_one (ds_ret (de_pe (pv 3)))))), rd__law_take⟩
theorem ok__law_web (X : Fx K mg) (D__law_take : Def P w K mg base Ps 1 "_law_take" ["_law_box_here", "_law_many"] sp__law_take) : Def P w K mg base Ps 2 "_law_web" ["_law_box_here", "_law_least", "_law_most"] sp__law_web :=
  def_of X.s__law_web sc__law_web (fun _ _ _ _ _ _ us hl => match us, hl with | [_, _, _], _ => rfl) ln__law_web fun A outer s H E hr tk hp => ⟨_, T__law_web, (dss_cons (ds_set (i := 3) sc__law_web.nd rfl (by first | exact Or.inl rfl | exact Or.inr rfl) (de_op op_addA sim_add (de_pe (pv 1)) (de_call D__law_take rfl (hr.mono (by decide)) rfl (da_cons (de_pe (pv 0)) (da_cons (by exact (de_op op_addA sim_add (de_op op_sub sim_sub (de_pe (pv 2)) (de_pe (pv 1))) de_int)) da_nil))))) (dss_cons (ds_set (i := 4) sc__law_web.nd rfl (by first | exact Or.inl rfl | exact Or.inr rfl) (de_call D__law_take rfl (hr.mono (by decide)) rfl (da_cons (de_pe (pv 0)) (da_cons de_int da_nil)))) (dss_cons (ds_set (i := 5) sc__law_web.nd rfl (by first | exact Or.inl rfl | exact Or.inr rfl) (de_ixc rfl (de_lst (da_cons de_int (da_cons de_int (da_cons de_int da_nil)))) (de_call D__law_take rfl (hr.mono (by decide)) rfl (da_cons (de_pe (pv 0)) (da_cons de_int da_nil))) (fun _ _ => rfl))) (dss_cons (ds_set (i := 6) sc__law_web.nd rfl (by first | exact Or.inl rfl | exact Or.inr rfl) (de_lstO da_nil)) (dss_cons (ds_for hp rfl (di_range2 rfl X.b_range (da_cons de_int (da_cons (de_pe (pv 3)) da_nil))) (dg_name (i := 7) sc__law_web.nd rfl (by first | exact Or.inl rfl | exact Or.inr rfl)) (dss_cons (ds_set (i := 11) sc__law_web.nd rfl (by first | exact Or.inl rfl | exact Or.inr rfl) (de_call D__law_take rfl (hr.mono (by decide)) rfl (da_cons (de_pe (pv 0)) (da_cons (de_pe (pv 7)) da_nil)))) (dss_one (ds_for hp rfl (di_range1 rfl X.b_range (da_cons (de_pe (pv 7)) da_nil)) (dg_name (i := 12) sc__law_web.nd rfl (by first | exact Or.inl rfl | exact Or.inr rfl)) (dss_cons (ds_set (i := 14) sc__law_web.nd rfl (by first | exact Or.inl rfl | exact Or.inr rfl) (de_cmp op_lt sim_lt (nomark _) (de_call D__law_take rfl (hr.mono (by decide)) rfl (da_cons (de_pe (pv 0)) (da_cons de_int da_nil))) (de_pe (pv 5)))) (dss_cons (ds_set (i := 15) sc__law_web.nd rfl (by first | exact Or.inl rfl | exact Or.inr rfl) (de_and (de_cmp op_in_seq (sim_in rfl) (by rfl) (de_op op_sub sim_sub (de_pe (pv 7)) (de_pe (pv 12))) (de_tup (by exact (da_cons de_int (da_cons (by exact (de_op op_sub sim_sub (de_pe (pv 3)) de_int)) da_nil))))) (de_one (de_cmp (op_eqD hr.units) (sim_eq rfl) (nomark _) (de_pe (pv 4)) de_int)))) (dss_cons (ds_set (i := 16) sc__law_web.nd rfl (by first | exact Or.inl rfl | exact Or.inr rfl) (de_and (de_cmp (op_eqD hr.units) (sim_eq rfl) (nomark _) (de_op op_mod sim_mod (de_op op_addA sim_add (de_pe (pv 12)) (de_pe (pv 7))) de_int) de_int) (de_and (de_cmp (op_eqD hr.units) (sim_eq rfl) (nomark _) (de_pe (pv 4)) de_int) (de_one (de_pe (pv 14)))))) (dss_cons (ds_set (i := 17) sc__law_web.nd rfl (by first | exact Or.inl rfl | exact Or.inr rfl) (de_or (de_cmp (op_eqD hr.units) (sim_eq rfl) (nomark _) (de_pe (pv 12)) (de_pe (pv 11))) (de_one (de_and (de_cmp (op_eqD hr.units) (sim_eq rfl) (nomark _) (de_pe (pv 4)) de_int) (de_and (de_cmp (op_eqD hr.units) (sim_eq rfl) (nomark _) (de_op op_mod sim_mod (de_pe (pv 7)) de_int) de_int) (de_one (de_cmp (op_eqD hr.units) (sim_eq rfl) (nomark _) (de_pe (pv 12)) (de_op op_sub sim_sub (de_pe (pv 7)) de_int)))))))) (dss_one (ds_if (DW.dt (dw_or (DW.dt (dw_and (dt_cmp op_in_seq (sim_in rfl) (by rfl) (de_pe (pv 4)) (de_tup (by exact (da_cons de_int (da_cons de_int da_nil))))) (dw_and1 (dt_val (de_pe (pv 17)))))) (dw_or1 (DW.dt (dw_and (dt_cmp op_in_seq (sim_in rfl) (by rfl) (de_pe (pv 4)) (de_tup (by exact (da_cons de_int (da_cons de_int da_nil))))) (dw_and1 (dt_val (de_pe (pv 14))))))))) (dss_one (ds_expr (de_append (de_pe (pv 6)) (de_tup (by exact (da_cons (de_pe (pv 12)) (da_cons (de_pe (pv 7)) da_nil)))) (fun a b => pe_bm PySem.F.plainAttrs_list PySem.F.slot_list_append PySem.F.type_list_append mt_append a (pa_cons b pa_nil))))) (dss_one (ds_if (DW.dt (dw_or (dt_val (de_pe (pv 15))) (dw_or (dt_cmp (op_eqD hr.units) (sim_eq rfl) (nomark _) (de_pe (pv 4)) de_int) (dw_or1 (dt_val (de_pe (pv 16))))))) (dss_one (ds_expr (de_append (de_pe (pv 6)) (de_tup (by exact (da_cons (de_pe (pv 12)) (da_cons (de_pe (pv 7)) da_nil)))) (fun a b => pe_bm PySem.F.plainAttrs_list PySem.F.slot_list_append PySem.F.type_list_append mt_append a (pa_cons b pa_nil))))) dss_nil)))))))))))) (dss_cons (ds_set (i := 8) sc__law_web.nd rfl (by first | exact Or.inl rfl | exact Or.inr rfl) (de_newO (new_listRg rfl rfl X.b_list rfl X.b_range (de_pe (pv 3))))) (dss_cons (ds_for hp rfl (di_range1 rfl X.b_range (da_cons (by exact (de_op op_mulA sim_mul (de_pe (pv 3)) (de_callTy call_int1 sim_intB rfl X.b_int (by decide +kernel) (da_cons (by exact (de_cmp op_gt sim_gt (nomark _) (de_pe (pv 4)) de_int)) da_nil)))) da_nil)) (dg_name (i := 9) sc__law_web.nd rfl (by first | exact Or.inl rfl | exact Or.inr rfl)) (dss_cons (ds_set (i := 13) sc__law_web.nd rfl (by first | exact Or.inl rfl | exact Or.inr rfl) (de_call D__law_take rfl (hr.mono (by decide)) rfl (da_cons (de_pe (pv 0)) (da_cons (de_pe (pv 3)) da_nil)))) (dss_one (ds_swapIx rfl rfl (de_tup (by exact (da_cons (by exact (de_ixc rfl (de_pe (pv 8)) (de_pe (pv 13)) (fun _ _ => rfl))) (da_cons (by exact (de_ixc rfl (de_pe (pv 8)) (de_pe (pv 9)) (fun _ _ => rfl))) da_nil)))) (pv 8) (pv 8) (pv 9) (pv 13))))) (dss_cons (ds_set (i := 10) sc__law_web.nd rfl (by first | exact Or.inl rfl | exact Or.inr rfl) (de_lstO da_nil)) (dss_cons (ds_for hp rfl (di_fz rfl (pv 6)) (dg_tup rfl (dgs_cons (dg_name (i := 12) sc__law_web.nd rfl (by first | exact Or.inl rfl | exact Or.inr rfl)) (dgs_cons (dg_name (i := 7) sc__law_web.nd rfl (by first | exact Or.inl rfl | exact Or.inr rfl)) dgs_nil)) rfl (gs_len2)) (dss_one (ds_expr (de_append (de_pe (pv 10)) (de_tup (by exact (da_cons (by exact (de_callB (call_min2 rfl) sim_min rfl X.b_min (by decide +kernel) (da_cons (by exact (de_ixc rfl (de_pe (pv 8)) (de_pe (pv 12)) (fun _ _ => rfl))) (da_cons (by exact (de_ixc rfl (de_pe (pv 8)) (de_pe (pv 7)) (fun _ _ => rfl))) da_nil)))) (da_cons (by exact (de_callB (call_max2 rfl) sim_max rfl X.b_max (by decide +kernel) (da_cons (by exact (de_ixc rfl (de_pe (pv 8)) (de_pe (pv 12)) (fun _ _ => rfl))) (da_cons (by exact (de_ixc rfl (de_pe (pv 8)) (de_pe (pv 7)) (fun _ _ => rfl))) da_nil)))) da_nil)))) (fun a b => pe_bm PySem.F.plainAttrs_list PySem.F.slot_list_append PySem.F.type_list_append mt_append a (pa_cons b pa_nil)))))) (dss_one (ds_retF (de_tup (by exact (da_cons (de_pe (pv 3)) (da_cons (by exact (de_callTy call_tuple_of (sim_tuple rfl) rfl X.b_tuple (by decide +kernel) (da_cons (by exact (de_callB (cr_sortT (d := 2) (B := 64) (by decide)) sim_sortL rfl X.b_sorted (by decide +kernel) (da_cons (de_pe (pv 10)) da_nil))) da_nil))) da_nil))))))))))))))), rd__law_web⟩
theorem ok__law_word (X : Fx K mg) (D__law_take : Def P w K mg base Ps 1 "_law_take" ["_law_box_here", "_law_many"] sp__law_take) : Def P w K mg base Ps 2 "_law_word" ["_law_box_here", "_law_many", "_law_more"] sp__law_word :=
  def_of X.s__law_word sc__law_word (fun _ _ _ _ _ _ us hl => match us, hl with | [_, _, _], _ => rfl) ln__law_word fun A outer s H E hr tk hp => ⟨_, T__law_word, (dss_cons (ds_set (i := 3) sc__law_word.nd rfl (by first | exact Or.inl rfl | exact Or.inr rfl) (de_newO (new_listc rfl rfl rfl X.b_list (by decide +kernel) (da_cons (by exact (de_slicec rfl de_str do_none (do_some (de_pe (pv 1))))) da_nil)))) (dss_cons (ds_set (i := 4) sc__law_word.nd rfl (by first | exact Or.inl rfl | exact Or.inr rfl) de_str) (dss_cons (ds_while hp (dt_cmp (op_neD hr.units) (sim_ne rfl) (nomark _) (de_pe (pv 3)) (de_lst da_nil)) (dss_one (ds_set (i := 4) sc__law_word.nd rfl (by first | exact Or.inl rfl | exact Or.inr rfl) (de_op op_addA sim_add (de_pe (pv 4)) (de_popAt (de_pe (pv 3)) (de_call D__law_take rfl (hr.mono (by decide)) rfl (da_cons (de_pe (pv 0)) (da_cons (by exact (de_callB call_len (sim_len rfl) rfl X.b_len boot_len (da_cons (de_pe (pv 3)) da_nil))) da_nil))) (fun a b => pe_bm PySem.F.plainAttrs_list PySem.F.slot_list_pop PySem.F.type_list_pop mt_popAt a (pa_cons b pa_nil))))))) (dss_cons (ds_for hp rfl (di_range1 rfl X.b_range (da_cons (by exact (de_call D__law_take rfl (hr.mono (by decide)) rfl (da_cons (de_pe (pv 0)) (da_cons (by exact (de_op op_addA sim_add (de_pe (pv 2)) de_int)) da_nil)))) da_nil)) (dg_name (i := 5) sc__law_word.nd rfl (by first | exact Or.inl rfl | exact Or.inr rfl)) (dss_cons (ds_set (i := 6) sc__law_word.nd rfl (by first | exact Or.inl rfl | exact Or.inr rfl) (de_call D__law_take rfl (hr.mono (by decide)) rfl (da_cons (de_pe (pv 0)) (da_cons (by exact (de_op op_addA sim_add (de_callB call_len (sim_len rfl) rfl X.b_len boot_len (da_cons (de_pe (pv 4)) da_nil)) de_int)) da_nil)))) (dss_one (ds_set (i := 4) sc__law_word.nd rfl (by first | exact Or.inl rfl | exact Or.inr rfl) (de_op op_addA sim_add (de_op op_addA sim_add (de_slicec rfl (de_pe (pv 4)) do_none (do_some (de_pe (pv 6)))) (de_ixc rfl de_str (de_call D__law_take rfl (hr.mono (by decide)) rfl (da_cons (de_pe (pv 0)) (da_cons (de_pe (pv 1)) da_nil))) (fun _ _ => rfl))) (de_slicec rfl (de_pe (pv 4)) (do_some (de_pe (pv 6))) do_none)))))) (dss_one (ds_retF (de_pe (pv 4)))))))), rd__law_word⟩
theorem ok__law_longer (X : Fx K mg)  : Def P w K mg base Ps 1 "_law_longer" ["_law_many", "_law_word_here"] sp__law_longer :=
  def_of X.s__law_longer sc__law_longer (fun _ _ _ _ _ _ us hl => match us, hl with | [_, _], _ => rfl) ln__law_longer fun A outer s H E hr tk hp => ⟨_, T__law_longer, (dss_cons (ds_set (i := 2) sc__law_longer.nd rfl (by first | exact Or.inl rfl | exact Or.inr rfl) de_str) (dss_cons (ds_for hp rfl (di_str (de_pe (pv 1))) (dg_name (i := 3) sc__law_longer.nd rfl (by first | exact Or.inl rfl | exact Or.inr rfl)) (dss_one (ds_if (dt_cmp op_notIn_str sim_inSt (by rfl) (de_pe (pv 3)) (de_pe (pv 2))) (dss_one (ds_set (i := 2) sc__law_longer.nd rfl (by first | exact Or.inl rfl | exact Or.inr rfl) (de_op op_addA sim_add (de_pe (pv 2)) (de_pe (pv 3))))) dss_nil))) (dss_one (ds_ret (de_op op_addA sim_add (de_pe (pv 2)) (de_pe (pv 1))))))), rd__law_longer⟩
theorem ok__law_classes (X : Fx K mg)  : ∀ z ∈ ([("TooMany", 5)] : List (Str × Nat)), DefP P w K mg base Ps 1 "_law_classes" ["_law_e"] (He.ga K z.1) (sp__law_classes z.2) := fun z hz =>
  defp_of X.s__law_classes sc__law_classes (fun _ _ _ _ _ _ us hl => match us, hl with | [_], _ => rfl) (ln__law_classes z.2) fun p A outer s H q hr => ⟨_, T__law_classes z.2 p.1, (dss_cons (ds_set (i := 1) sc__law_classes.nd rfl (by first | exact Or.inl rfl | exact Or.inr rfl) (de_lst (da_cons (by exact (de_isHc (X.hx z hz).exc q rfl X.b_isinstance (de_pe (pv 0)) rfl X.g_NoWeb (X.hx z hz).is0)) (da_cons (by exact (de_isHc (X.hx z hz).exc q rfl X.b_isinstance (de_pe (pv 0)) rfl X.g_NoWord (X.hx z hz).is1)) (da_cons (by exact (de_isHc (X.hx z hz).exc q rfl X.b_isinstance (de_pe (pv 0)) rfl X.g_NoPlace (X.hx z hz).is2)) (da_cons (by exact (de_isHc (X.hx z hz).exc q rfl X.b_isinstance (de_pe (pv 0)) rfl X.g_NoNumber (X.hx z hz).is3)) da_nil)))))) (dss_cons (ds_set (i := 1) sc__law_classes.nd rfl (by first | exact Or.inl rfl | exact Or.inr rfl) (de_op op_addA sim_add (de_pe (pv 1)) (de_lst (da_cons (by exact (de_isHc (X.hx z hz).exc q rfl X.b_isinstance (de_pe (pv 0)) rfl X.g_NoRun (X.hx z hz).is4)) (da_cons (by exact (de_isHc (X.hx z hz).exc q rfl X.b_isinstance (de_pe (pv 0)) rfl X.g_TooMany (X.hx z hz).is5)) (da_cons (by exact (de_isHc (X.hx z hz).exc q rfl X.b_isinstance (de_pe (pv 0)) rfl X.g_NoLine (X.hx z hz).is6)) (da_cons (by exact (de_isHc (X.hx z hz).exc q rfl X.b_isinstance (de_pe (pv 0)) rfl X.g_NoText (X.hx z hz).is7)) da_nil))))))) (dss_one (ds_ret (de_pe (pv 1)))))), rd__law_classes z.2 p.1⟩
theorem ok__law_only (X : Fx K mg) (D__law_classes : ∀ q ∈ ([("TooMany", 5)] : List (Str × Nat)), DefP P w K mg base Ps 1 "_law_classes" ["_law_e"] (He.ga K q.1) (sp__law_classes q.2)) : ∀ z ∈ ([("TooMany", 5)] : List (Str × Nat)), DefP P w K mg base Ps 2 "_law_only" ["_law_e", "_law_place"] (He.ga K z.1) (sp__law_only z.2) := fun z hz =>
  defp_of X.s__law_only sc__law_only (fun _ _ _ _ _ _ us hl => match us, hl with | [_, _], _ => rfl) (ln__law_only z.2) fun p A outer s H q hr => ⟨_, T__law_only z.2 p.1, (dss_cons (ds_if (DW.dt (dw_or (dt_not (dt_val (by exact (de_isHc (X.hx z hz).exc q rfl X.b_isinstance (de_pe (pv 0)) rfl X.g_TurnError (X.hx z hz).top)))) (dw_or1 (dt_not (dt_val (by exact (de_isHt (X.hx z hz).exc q rfl X.b_isinstance (de_pe (pv 0)) rfl X.b_ValueError (by decide +kernel) (X.hx z hz).val))))))) (dss_one (ds_ret de_bl)) dss_nil) (dss_one (ds_ret (de_cmp (op_eqD (roomH_units hr)) (sim_eq rfl) (nomark _) (by exact (de_callP (D__law_classes z hz) rfl (hr.mono (by decide)) q rfl (da_cons (de_pe (pv 0)) da_nil))) (de_newP (de_lcH (own := [("_law_k", 2)]) (vs := _) q.hotC sc__law_only.nd (by exact (dih_range1 rfl X.b_range (da_cons de_int da_nil))) (blkOk_by (N := ["_law_e", "_law_place", "_law_k"]) (sc := defScope s__law_only) (by decide +kernel)) (fun _ _ _ _ _ => (dg_name (i := 2) sc__law_only.nd rfl (by first | exact Or.inl rfl | exact Or.inr rfl))) (fun _ _ _ _ _ => dts_nil) (fun _ _ _ _ _ => (de_cmp (op_eqD (roomH_units hr)) (sim_eq rfl) (nomark _) (de_pe (pv 2)) (de_pe (pv 1)))) (by decide))))))), rd__law_only z.2 (X.hx z hz).few p.1⟩
theorem ok__law_told (X : Fx K mg) (D__law_only : ∀ q ∈ ([("TooMany", 5)] : List (Str × Nat)), DefP P w K mg base Ps 2 "_law_only" ["_law_e", "_law_place"] (He.ga K q.1) (sp__law_only q.2)) (D_beside : Def P w K mg base Ps 8 "beside" ["web", "other"] (sp_beside (He.ga K))) (D_word_beside : Def P w K mg base Ps 11 "word_beside" ["web", "word", "other", "more"] (sp_word_beside (He.ga K))) : Def P w K mg base Ps 12 "_law_told" ["_law_kind", "_law_web_here", "_law_word_here", "_law_other", "_law_more"] (sp__law_told (He.ga K)) :=
  def_of X.s__law_told sc__law_told (fun _ _ _ _ _ _ us hl => match us, hl with | [_, _, _, _, _], _ => rfl) ln__law_told fun A outer s H E hr tk hp => ⟨_, T__law_told (He.ga K), (dss_one (ds_tryRet (i := 6) (mk := mkC (He.ga K) [("TooMany", 5)]) rfl rfl sc__law_told.nd rfl rfl rfl ⟨rfl, by decide, .inl X.g_TurnError⟩ (fun W pn xe tk hp => (dss_one (ds_ret (de_if (dt_cmp (op_eqD hr.units) (sim_eq rfl) (nomark _) (de_pe (pv 0)) de_int) (de_callX D_beside rfl (hr.mono (by decide)) rfl tk (da_cons (de_pe (pv 1)) (da_cons (de_pe (pv 3)) da_nil))) (de_callX D_word_beside rfl (hr.mono (by decide)) rfl tk (da_cons (de_pe (pv 1)) (da_cons (de_pe (pv 2)) (da_cons (de_pe (pv 3)) (da_cons (de_pe (pv 4)) da_nil))))))))) (fun a oe C m pn hm q => (by
    obtain ⟨q0, hq, eC, em⟩ := hm
    subst eC em
    exact ⟨_, _, dss_one (ds_ret (de_newP (de_lcH (own := [("_law_number", 5)]) (vs := _) q.hotC sc__law_told.nd (by exact (dih_range1 rfl X.b_range (da_cons de_int da_nil))) (blkOk_by (N := ["_law_kind", "_law_web_here", "_law_word_here", "_law_other", "_law_more", "_law_number", "_law_e"]) (sc := defScope s__law_told) (by decide +kernel)) (fun _ _ _ _ _ => (dg_name (i := 5) sc__law_told.nd rfl (by first | exact Or.inl rfl | exact Or.inr rfl))) (fun _ _ _ _ _ => (dts_one (dt_val (de_callP (D__law_only q0 hq) rfl (roomH_mark (L2H.roomH_of (hr.mono (by decide)))) (held_blk q) rfl (da_cons (de_pe (pv 6)) (da_cons (de_pe (pv 5)) da_nil)))))) (fun _ _ _ _ _ => (de_pe (pv 5))) (by decide)))), fun E0 ρ0 θ0 h1 h2 => rd_suite_at (X.hx q0 hq).few (by decide) h1 h2⟩)) (fun C m hm => by
    obtain ⟨q0, hq, eC, em⟩ := hm
    subst eC em
    exact (X.hx q0 hq).hit))), rd__law_told⟩
theorem ok_law (X : Fx K mg) (D__law_told : Def P w K mg base Ps 12 "_law_told" ["_law_kind", "_law_web_here", "_law_word_here", "_law_other", "_law_more"] (sp__law_told (He.ga K))) (D__law_longer : Def P w K mg base Ps 1 "_law_longer" ["_law_many", "_law_word_here"] sp__law_longer) (D__law_word : Def P w K mg base Ps 2 "_law_word" ["_law_box_here", "_law_many", "_law_more"] sp__law_word) (D__law_take : Def P w K mg base Ps 1 "_law_take" ["_law_box_here", "_law_many"] sp__law_take) (D__law_web : Def P w K mg base Ps 2 "_law_web" ["_law_box_here", "_law_least", "_law_most"] sp__law_web) (D__law_box : Def P w K mg base Ps 1 "_law_box" ["_law_script", "_law_k"] sp_n_box) {fd : FuncData} (FC : FunC K "law" "law" s_law (He.fAd K ("law", none)) fd (.ref (He.codeOf K ("law", none)))) : Outer P w K mg base (L2N.CX P w) (He.fAd K ("law", none)) fd ["_law_script"] (spOf K Ps spLaw) :=
  outer_data (k := 12) FC sc_law ⟨rfl, by decide, by decide⟩ (fun rs θ Φ Ex h => by
    obtain ⟨ns, _, _, rfl, _⟩ := h
    rfl) fun s H E hr tk hp => ⟨_, T_law (He.ga K), (dss_cons (ds_for hp rfl (di_range1 rfl X.b_range (da_cons (by exact (de_callB (call_max2 rfl) sim_max rfl X.b_max (by decide +kernel) (da_cons de_int (da_cons (by exact (de_callB (call_min2 rfl) sim_min rfl X.b_min (by decide +kernel) (da_cons (by exact (de_callB call_len (sim_len rfl) rfl X.b_len boot_len (da_cons (de_pe (pv 0)) da_nil))) (da_cons de_int da_nil)))) da_nil)))) da_nil)) (dg_name (i := 1) sc_law.nd rfl (by first | exact Or.inl rfl | exact Or.inr rfl)) (dss_cons (ds_set (i := 2) sc_law.nd rfl (by first | exact Or.inl rfl | exact Or.inr rfl) (de_call D__law_box rfl (hr.mono (by decide)) rfl (da_cons (de_pe (pv 0)) (da_cons (de_pe (pv 1)) da_nil)))) (dss_one (ds_for hp rfl (di_tup rfl (de_tup (by exact (da_cons de_int (da_cons de_int da_nil))))) (dg_name (i := 3) sc_law.nd rfl (by first | exact Or.inl rfl | exact Or.inr rfl)) (dss_cons (ds_asg (de_tup (by exact (da_cons (by exact (de_call D__law_web rfl (hr.mono (by decide)) rfl (da_cons (de_pe (pv 2)) (da_cons de_int (da_cons (de_pe (pv 3)) da_nil))))) (da_cons (by exact (de_call D__law_web rfl (hr.mono (by decide)) rfl (da_cons (de_pe (pv 2)) (da_cons de_int (da_cons (de_pe (pv 3)) da_nil))))) da_nil)))) (dg_tup rfl (dgs_cons (dg_name (i := 7) sc_law.nd rfl (by first | exact Or.inl rfl | exact Or.inr rfl)) (dgs_cons (dg_name (i := 8) sc_law.nd rfl (by first | exact Or.inl rfl | exact Or.inr rfl)) dgs_nil)) rfl (gs_len2)) (fun p q => ps_asg p q)) (dss_cons (ds_set (i := 4) sc_law.nd rfl (by first | exact Or.inl rfl | exact Or.inr rfl) (de_ixc rfl (de_pe (pv 7)) de_int (fun _ _ => rfl))) (dss_cons (ds_set (i := 5) sc_law.nd rfl (by first | exact Or.inl rfl | exact Or.inr rfl) (de_ixc rfl (de_lst (da_cons de_int (da_cons de_int (da_cons de_int da_nil)))) (de_call D__law_take rfl (hr.mono (by decide)) rfl (da_cons (de_pe (pv 2)) (da_cons de_int da_nil))) (fun _ _ => rfl))) (dss_cons (ds_asg (de_tup (by exact (da_cons (by exact (de_call D__law_word rfl (hr.mono (by decide)) rfl (da_cons (de_pe (pv 2)) (da_cons (de_pe (pv 4)) (da_cons (de_pe (pv 5)) da_nil))))) (da_cons (by exact (de_call D__law_word rfl (hr.mono (by decide)) rfl (da_cons (de_pe (pv 2)) (da_cons (by exact (de_ixc rfl (de_pe (pv 8)) de_int (fun _ _ => rfl))) (da_cons (de_pe (pv 5)) da_nil))))) da_nil)))) (dg_tup rfl (dgs_cons (dg_name (i := 9) sc_law.nd rfl (by first | exact Or.inl rfl | exact Or.inr rfl)) (dgs_cons (dg_name (i := 10) sc_law.nd rfl (by first | exact Or.inl rfl | exact Or.inr rfl)) dgs_nil)) rfl (gs_len2)) (fun p q => ps_asg p q)) (dss_cons (ds_set (i := 6) sc_law.nd rfl (by first | exact Or.inl rfl | exact Or.inr rfl) (de_lstO (da_cons (by exact (de_lst (da_cons de_int da_nil))) (da_cons (by exact (de_lst (da_cons de_int da_nil))) da_nil)))) (dss_cons (ds_if (dt_cmp op_lt sim_lt (nomark _) (de_op op_addA sim_add (de_pe (pv 4)) (de_ixc rfl (de_pe (pv 8)) de_int (fun _ _ => rfl))) de_int) (dss_cons (ds_set (i := 11) sc_law.nd rfl (by first | exact Or.inl rfl | exact Or.inr rfl) (de_op op_catA sim_catT (de_ixc rfl (de_pe (pv 7)) de_int (fun _ _ => rfl)) (de_callTy call_tuple_of (sim_tuple rfl) rfl X.b_tuple (by decide +kernel) (da_cons (by exact (de_newP (de_lcN (own := [("_law_one", 13), ("_law_two", 14)]) (vs := _) rfl sc_law.nd (di_tup rfl (de_ixc rfl (de_pe (pv 8)) de_int (fun _ _ => rfl))) (blkOk_by (N := ["_law_script", "_law_k", "_law_box_here", "_law_most", "_law_many", "_law_size", "_law_dues", "_law_web_here", "_law_other", "_law_word_here", "_law_more", "_law_ties", "_law_kind", "_law_one", "_law_two"]) (sc := defScope s_law) (by decide +kernel)) (fun _ _ _ _ _ => (dg_tup rfl (dgs_cons (dg_name (i := 13) sc_law.nd rfl (by first | exact Or.inl rfl | exact Or.inr rfl)) (dgs_cons (dg_name (i := 14) sc_law.nd rfl (by first | exact Or.inl rfl | exact Or.inr rfl)) dgs_nil)) rfl (gs_len2))) (fun _ _ _ _ _ => dts_nil) (fun _ _ _ _ _ => (de_tup (by exact (da_cons (by exact (de_op op_addA sim_add (de_pe (pv 13)) (de_pe (pv 4)))) (da_cons (by exact (de_op op_addA sim_add (de_pe (pv 14)) (de_pe (pv 4)))) da_nil))))) (by decide)))) da_nil)))) (dss_cons (ds_set (i := 6) sc_law.nd rfl (by first | exact Or.inl rfl | exact Or.inr rfl) (de_lstO (da_cons (by exact (de_tup (by exact (da_cons (by exact (de_op op_addA sim_add (de_pe (pv 4)) (de_ixc rfl (de_pe (pv 8)) de_int (fun _ _ => rfl)))) (da_cons (de_pe (pv 11)) da_nil))))) da_nil))) (dss_one (ds_expr (de_append (de_pe (pv 6)) (de_op op_addA sim_add (de_call D__law_longer rfl (hr.mono (by decide)) rfl (da_cons (de_pe (pv 4)) (da_cons (de_pe (pv 9)) da_nil))) (de_join rfl de_str (de_newP (de_lcN (own := [("_law_one", 13)]) (vs := _) rfl sc_law.nd (di_str (de_pe (pv 10))) (blkOk_by (N := ["_law_script", "_law_k", "_law_box_here", "_law_most", "_law_many", "_law_size", "_law_dues", "_law_web_here", "_law_other", "_law_word_here", "_law_more", "_law_ties", "_law_kind", "_law_one", "_law_two"]) (sc := defScope s_law) (by decide +kernel)) (fun _ _ _ _ _ => (dg_name (i := 13) sc_law.nd rfl (by first | exact Or.inl rfl | exact Or.inr rfl))) (fun _ _ _ _ _ => dts_nil) (fun _ _ _ _ _ => (de_ixc rfl de_str (de_op op_addA sim_add (by exact (de_indexS rfl de_str (by exact (de_pe (pv 13))))) (de_pe (pv 4))) (fun _ _ => rfl))) (by decide))))) (fun a b => pe_bm PySem.F.plainAttrs_list PySem.F.slot_list_append PySem.F.type_list_append mt_append a (pa_cons b pa_nil))))))) dss_nil) (dss_one (ds_if (dt_cmp op_ne sim_neS (nomark _) (de_repr rfl rfl (room66 hr) rfl X.b_repr (de_newP (de_lcN (own := [("_law_kind", 12)]) (vs := _) rfl sc_law.nd (di_range1 rfl X.b_range (da_cons de_int da_nil)) (blkOk_by (N := ["_law_script", "_law_k", "_law_box_here", "_law_most", "_law_many", "_law_size", "_law_dues", "_law_web_here", "_law_other", "_law_word_here", "_law_more", "_law_ties", "_law_kind", "_law_one", "_law_two"]) (sc := defScope s_law) (by decide +kernel)) (fun _ _ _ _ _ => (dg_name (i := 12) sc_law.nd rfl (by first | exact Or.inl rfl | exact Or.inr rfl))) (fun _ _ _ _ _ => dts_nil) (fun _ _ _ _ _ => (de_call D__law_told rfl (hr.mono (by decide)) rfl (da_cons (de_pe (pv 12)) (da_cons (de_pe (pv 7)) (da_cons (de_pe (pv 9)) (da_cons (de_pe (pv 8)) (da_cons (de_pe (pv 10)) da_nil))))))) (by decide)))) (de_repr rfl rfl (room66 hr) rfl X.b_repr (de_pe (pv 6)))) (dss_one (ds_retF de_bl)) dss_nil)))))))))))) (dss_one (ds_retF (de_cmp (op_eqD hr.units) (sim_eq rfl) (nomark _) (de_call D__law_told rfl (hr.mono (by decide)) rfl (da_cons de_int (da_cons (by exact (de_tup (by exact (da_cons de_int (da_cons (by exact (de_tup (by exact da_nil))) da_nil))))) (da_cons (by exact (de_op op_mulA sim_mul de_str de_int)) (da_cons (by exact (de_tup (by exact (da_cons de_int (da_cons (by exact (de_tup (by exact da_nil))) da_nil))))) (da_cons (by exact (de_op op_mulA sim_mul de_str de_int)) da_nil)))))) (de_op op_addA sim_add (de_op op_mulA sim_mul de_str de_int) (de_op op_mulA sim_mul de_str de_int)))))), rd_law⟩
end
def fa : List He.Fa := ([.glo "is_whole", .glo "is_number", .glo "is_many", .glo "is_place", .glo "is_tie", .glo "is_rising", .glo "is_web", .glo "has_letters", .glo "check_web", .glo "check_word", .glo "check_few", .glo "check_word_of", .glo "firsts", .glo "longer", .glo "check_beside", .glo "beside", .glo "word_beside", .glo "_law_box", .glo "_law_take", .glo "_law_web", .glo "_law_word", .glo "_law_longer", .glo "_law_classes", .glo "_law_only", .glo "_law_told", .glo "law", .free "ValueError", .free "all", .free "bool", .free "divmod"] : List He.Fa) ++ ([.free "int", .free "isinstance", .free "len", .free "list", .free "max", .free "min", .free "range", .free "repr", .free "set", .free "sorted", .free "str", .free "tuple", .free "zip", .str "LETTERS" "abcdef", .int "MOST_PLACES" 6, .glo "NoWeb", .exc "NoWeb", .glo "NoWord", .exc "NoWord", .glo "TooMany", .exc "TooMany", .glo "TurnError", .glo "NoPlace", .glo "NoNumber", .glo "NoRun", .glo "NoLine", .glo "NoText"] : List He.Fa)
def fn : List He.DefD := [defD "is_whole" s_is_whole, defD "is_number" s_is_number, defD "is_many" s_is_many, defD "is_place" s_is_place, defD "is_tie" s_is_tie, defD "is_rising" s_is_rising, defD "is_web" s_is_web, defD "has_letters" s_has_letters, defD "check_web" s_check_web, defD "check_word" s_check_word, defD "check_few" s_check_few, defD "check_word_of" s_check_word_of, defD "firsts" s_firsts, defD "longer" s_longer, defD "check_beside" s_check_beside, defD "beside" s_beside, defD "word_beside" s_word_beside, defD "_law_box" s__law_box, defD "_law_take" s__law_take, defD "_law_web" s__law_web, defD "_law_word" s__law_word, defD "_law_longer" s__law_longer, defD "_law_classes" s__law_classes, defD "_law_only" s__law_only, defD "_law_told" s__law_told, defD "law" s_law]
def tf : List He.Defn := [("is_rising", none), ("is_web", none)]
abbrev R : PySem.W.OpenRow := PySem.W.OpenLaw.row PySem.Challenge.rw_turnletters_k52_webs_beside_one_another
def ex : PySem.W.Frag → Bool := fun K => ([("TooMany", 5)] : List (Str × Nat)).all (clsB K)
abbrev hk : PySem.W.Hook := He.hookX 4 fa fn [] tf ex
def ob (s : PySem.W.SharedT) : He.AlX := He.obsX 4 fa fn [] tf ex (HandSHeadRun.getT s)
theorem ob_eq (s : PySem.W.SharedT) : ob s = hk.obs s.abs := He.obsX_eq (HandSHeadRun.getT_eq s)
def loose : List Str := (["TurnError", "NoWeb", "NoWord", "NoPlace", "NoNumber", "NoRun", "TooMany", "NoLine", "NoText", "LETTERS", "MOST_PLACES", "is_whole", "is_number", "is_many", "is_place", "is_tie", "is_rising", "is_web", "has_letters", "check_web", "check_word", "check_few", "check_word_of", "firsts", "longer"] : List Str) ++ (["check_beside", "beside", "word_beside", "_law_box", "_law_take", "_law_web", "_law_word", "_law_longer", "_law_classes", "_law_only", "_law_told"] : List Str)
theorem run (w : World) : HandSHeadRun.RunEq R (PySem.W.view R.prog [41]) hk ob 15000 loose w := by
  intro os
  kernel_rfl
theorem fx_of {K : PySem.W.Frag} {h : Heap} {mg : Str → Option Value} (X : K.In h) (G : h.Ns mainGlobals mg) (c : He.SaysD fa fn K) (cb : ex K = true) : Fx K mg where
  s_is_whole := by
    obtain ⟨fd, F⟩ := c.def_ 0 (d := defD "is_whole" s_is_whole) rfl
    exact src_of (He.glo_ok X G (c.fact 0 (f := .glo "is_whole") rfl)) F
  s_is_number := by
    obtain ⟨fd, F⟩ := c.def_ 1 (d := defD "is_number" s_is_number) rfl
    exact src_of (He.glo_ok X G (c.fact 1 (f := .glo "is_number") rfl)) F
  s_is_many := by
    obtain ⟨fd, F⟩ := c.def_ 2 (d := defD "is_many" s_is_many) rfl
    exact src_of (He.glo_ok X G (c.fact 2 (f := .glo "is_many") rfl)) F
  s_is_place := by
    obtain ⟨fd, F⟩ := c.def_ 3 (d := defD "is_place" s_is_place) rfl
    exact src_of (He.glo_ok X G (c.fact 3 (f := .glo "is_place") rfl)) F
  s_is_tie := by
    obtain ⟨fd, F⟩ := c.def_ 4 (d := defD "is_tie" s_is_tie) rfl
    exact src_of (He.glo_ok X G (c.fact 4 (f := .glo "is_tie") rfl)) F
  s_is_rising := by
    obtain ⟨fd, F⟩ := c.def_ 5 (d := defD "is_rising" s_is_rising) rfl
    exact src_of (He.glo_ok X G (c.fact 5 (f := .glo "is_rising") rfl)) F
  s_is_web := by
    obtain ⟨fd, F⟩ := c.def_ 6 (d := defD "is_web" s_is_web) rfl
    exact src_of (He.glo_ok X G (c.fact 6 (f := .glo "is_web") rfl)) F
  s_has_letters := by
    obtain ⟨fd, F⟩ := c.def_ 7 (d := defD "has_letters" s_has_letters) rfl
    exact src_of (He.glo_ok X G (c.fact 7 (f := .glo "has_letters") rfl)) F
  s_check_web := by
    obtain ⟨fd, F⟩ := c.def_ 8 (d := defD "check_web" s_check_web) rfl
    exact src_of (He.glo_ok X G (c.fact 8 (f := .glo "check_web") rfl)) F
  s_check_word := by
    obtain ⟨fd, F⟩ := c.def_ 9 (d := defD "check_word" s_check_word) rfl
    exact src_of (He.glo_ok X G (c.fact 9 (f := .glo "check_word") rfl)) F
  s_check_few := by
    obtain ⟨fd, F⟩ := c.def_ 10 (d := defD "check_few" s_check_few) rfl
    exact src_of (He.glo_ok X G (c.fact 10 (f := .glo "check_few") rfl)) F
  s_check_word_of := by
    obtain ⟨fd, F⟩ := c.def_ 11 (d := defD "check_word_of" s_check_word_of) rfl
    exact src_of (He.glo_ok X G (c.fact 11 (f := .glo "check_word_of") rfl)) F
  s_firsts := by
    obtain ⟨fd, F⟩ := c.def_ 12 (d := defD "firsts" s_firsts) rfl
    exact src_of (He.glo_ok X G (c.fact 12 (f := .glo "firsts") rfl)) F
  s_longer := by
    obtain ⟨fd, F⟩ := c.def_ 13 (d := defD "longer" s_longer) rfl
    exact src_of (He.glo_ok X G (c.fact 13 (f := .glo "longer") rfl)) F
  s_check_beside := by
    obtain ⟨fd, F⟩ := c.def_ 14 (d := defD "check_beside" s_check_beside) rfl
    exact src_of (He.glo_ok X G (c.fact 14 (f := .glo "check_beside") rfl)) F
  s_beside := by
    obtain ⟨fd, F⟩ := c.def_ 15 (d := defD "beside" s_beside) rfl
    exact src_of (He.glo_ok X G (c.fact 15 (f := .glo "beside") rfl)) F
  s_word_beside := by
    obtain ⟨fd, F⟩ := c.def_ 16 (d := defD "word_beside" s_word_beside) rfl
    exact src_of (He.glo_ok X G (c.fact 16 (f := .glo "word_beside") rfl)) F
  s__law_box := by
    obtain ⟨fd, F⟩ := c.def_ 17 (d := defD "_law_box" s__law_box) rfl
    exact src_of (He.glo_ok X G (c.fact 17 (f := .glo "_law_box") rfl)) F
  s__law_take := by
    obtain ⟨fd, F⟩ := c.def_ 18 (d := defD "_law_take" s__law_take) rfl
    exact src_of (He.glo_ok X G (c.fact 18 (f := .glo "_law_take") rfl)) F
  s__law_web := by
    obtain ⟨fd, F⟩ := c.def_ 19 (d := defD "_law_web" s__law_web) rfl
    exact src_of (He.glo_ok X G (c.fact 19 (f := .glo "_law_web") rfl)) F
  s__law_word := by
    obtain ⟨fd, F⟩ := c.def_ 20 (d := defD "_law_word" s__law_word) rfl
    exact src_of (He.glo_ok X G (c.fact 20 (f := .glo "_law_word") rfl)) F
  s__law_longer := by
    obtain ⟨fd, F⟩ := c.def_ 21 (d := defD "_law_longer" s__law_longer) rfl
    exact src_of (He.glo_ok X G (c.fact 21 (f := .glo "_law_longer") rfl)) F
  s__law_classes := by
    obtain ⟨fd, F⟩ := c.def_ 22 (d := defD "_law_classes" s__law_classes) rfl
    exact src_of (He.glo_ok X G (c.fact 22 (f := .glo "_law_classes") rfl)) F
  s__law_only := by
    obtain ⟨fd, F⟩ := c.def_ 23 (d := defD "_law_only" s__law_only) rfl
    exact src_of (He.glo_ok X G (c.fact 23 (f := .glo "_law_only") rfl)) F
  s__law_told := by
    obtain ⟨fd, F⟩ := c.def_ 24 (d := defD "_law_told" s__law_told) rfl
    exact src_of (He.glo_ok X G (c.fact 24 (f := .glo "_law_told") rfl)) F
  s_law := by
    obtain ⟨fd, F⟩ := c.def_ 25 (d := defD "law" s_law) rfl
    exact src_of (He.glo_ok X G (c.fact 25 (f := .glo "law") rfl)) F
  b_ValueError := He.free_ok X G (c.fact 26 (f := .free "ValueError") rfl)
  b_all := He.free_ok X G (c.fact 27 (f := .free "all") rfl)
  b_bool := He.free_ok X G (c.fact 28 (f := .free "bool") rfl)
  b_divmod := He.free_ok X G (c.fact 29 (f := .free "divmod") rfl)
  b_int := He.free_ok X G (c.fact 30 (f := .free "int") rfl)
  b_isinstance := He.free_ok X G (c.fact 31 (f := .free "isinstance") rfl)
  b_len := He.free_ok X G (c.fact 32 (f := .free "len") rfl)
  b_list := He.free_ok X G (c.fact 33 (f := .free "list") rfl)
  b_max := He.free_ok X G (c.fact 34 (f := .free "max") rfl)
  b_min := He.free_ok X G (c.fact 35 (f := .free "min") rfl)
  b_range := He.free_ok X G (c.fact 36 (f := .free "range") rfl)
  b_repr := He.free_ok X G (c.fact 37 (f := .free "repr") rfl)
  b_set := He.free_ok X G (c.fact 38 (f := .free "set") rfl)
  b_sorted := He.free_ok X G (c.fact 39 (f := .free "sorted") rfl)
  b_str := He.free_ok X G (c.fact 40 (f := .free "str") rfl)
  b_tuple := He.free_ok X G (c.fact 41 (f := .free "tuple") rfl)
  b_zip := He.free_ok X G (c.fact 42 (f := .free "zip") rfl)
  c_LETTERS := He.str_ok X G (c.fact 43 (f := .str "LETTERS" "abcdef") rfl)
  c_MOST_PLACES := He.int_ok X G (c.fact 44 (f := .int "MOST_PLACES" 6) rfl)
  e_NoWeb := excF_of X G (c.fact 45 (f := .glo "NoWeb") rfl) (c.fact 46 (f := .exc "NoWeb") rfl)
  e_NoWord := excF_of X G (c.fact 47 (f := .glo "NoWord") rfl) (c.fact 48 (f := .exc "NoWord") rfl)
  e_TooMany := excF_of X G (c.fact 49 (f := .glo "TooMany") rfl) (c.fact 50 (f := .exc "TooMany") rfl)
  g_TurnError := He.glo_ok X G (c.fact 51 (f := .glo "TurnError") rfl)
  g_NoWeb := He.glo_ok X G (c.fact 45 (f := .glo "NoWeb") rfl)
  g_NoWord := He.glo_ok X G (c.fact 47 (f := .glo "NoWord") rfl)
  g_NoPlace := He.glo_ok X G (c.fact 52 (f := .glo "NoPlace") rfl)
  g_NoNumber := He.glo_ok X G (c.fact 53 (f := .glo "NoNumber") rfl)
  g_NoRun := He.glo_ok X G (c.fact 54 (f := .glo "NoRun") rfl)
  g_TooMany := He.glo_ok X G (c.fact 49 (f := .glo "TooMany") rfl)
  g_NoLine := He.glo_ok X G (c.fact 55 (f := .glo "NoLine") rfl)
  g_NoText := He.glo_ok X G (c.fact 56 (f := .glo "NoText") rfl)
  hx := fun q hq => clsX_of (List.all_eq_true.mp cb q hq)
theorem law_facts {w : World} {K : PySem.W.Frag} {h : Heap} {mg : Str → Option Value} (X : K.In h) (G : h.Ns mainGlobals mg) (c : He.SaysX fa fn [] tf ex w h K) : LawO PySem.Challenge.rw_turnletters_k52_webs_beside_one_another w K 63 "_law_script" mg (He.fAd K ("law", none)) h := by
  obtain ⟨fd, F⟩ := c.t.d.def_ 25 (d := defD "law" s_law) rfl
  have S := (fx_of X G c.t.d c.more).s_law
  obtain ⟨fd2, FC⟩ := S.fc
  have e : fd2 = fd := func_one FC F
  subst e
  refine ⟨fd2, tf.map (He.cT K), fun p hp => ?_, fun p hp => ?_, fun p hp => ?_, fun s u => ?_, by decide, fun base KB GB TB => ?_⟩
  · obtain ⟨q, hq, rfl⟩ := List.mem_map.mp hp
    exact c.empty q hq
  · obtain ⟨q, hq, rfl⟩ := List.mem_map.mp hp
    exact c.out q hq
  · obtain ⟨q, hq, rfl⟩ := List.mem_map.mp hp
    exact PySem.W.codeHd_of_K X (c.hd q hq)
  · exact FunD.bindsA (ps := ["_law_script"]) F (fun _ _ _ _ _ _ us hl => match us, hl with | [_], _ => rfl) s [u] rfl
  · have FX := fx_of KB GB c.t.d c.more
    have tb : ∀ q ∈ tf, GxR.TabB base mg (He.cT K q).1 (He.cT K q).2 ∧ (He.cT K q).2 ∈ (tf.map (He.cT K)).map (·.2) := fun q hq => by
      have z := TB (He.cT K q) (List.mem_map.mpr ⟨q, hq, rfl⟩)
      exact ⟨⟨z.code, z.bm, z.gP⟩, List.mem_map.mpr ⟨_, List.mem_map.mpr ⟨q, hq, rfl⟩, rfl⟩⟩
    have BX : Bx K mg base ((tf.map (He.cT K)).map (·.2)) := {
      t_is_rising := (tb ("is_rising", none) (by unfold tf; simp)).1
      p_is_rising := (tb ("is_rising", none) (by unfold tf; simp)).2
      t_is_web := (tb ("is_web", none) (by unfold tf; simp)).1
      p_is_web := (tb ("is_web", none) (by unfold tf; simp)).2
    }
    have d_is_whole := ok_is_whole (P := (PySem.Challenge.rw_turnletters_k52_webs_beside_one_another).prog) (w := w) (base := base) (Ps := (tf.map (He.cT K)).map (·.2)) FX 
    have d_is_number := ok_is_number (P := (PySem.Challenge.rw_turnletters_k52_webs_beside_one_another).prog) (w := w) (base := base) (Ps := (tf.map (He.cT K)).map (·.2)) FX d_is_whole
    have d_is_many := ok_is_many (P := (PySem.Challenge.rw_turnletters_k52_webs_beside_one_another).prog) (w := w) (base := base) (Ps := (tf.map (He.cT K)).map (·.2)) FX d_is_number
    have d_is_place := ok_is_place (P := (PySem.Challenge.rw_turnletters_k52_webs_beside_one_another).prog) (w := w) (base := base) (Ps := (tf.map (He.cT K)).map (·.2)) FX d_is_number
    have d_is_tie := ok_is_tie (P := (PySem.Challenge.rw_turnletters_k52_webs_beside_one_another).prog) (w := w) (base := base) (Ps := (tf.map (He.cT K)).map (·.2)) FX d_is_place
    have d_is_rising := ok_is_rising (P := (PySem.Challenge.rw_turnletters_k52_webs_beside_one_another).prog) (w := w) (base := base) (Ps := (tf.map (He.cT K)).map (·.2)) FX BX 
    have d_is_web := ok_is_web (P := (PySem.Challenge.rw_turnletters_k52_webs_beside_one_another).prog) (w := w) (base := base) (Ps := (tf.map (He.cT K)).map (·.2)) FX BX d_is_tie d_is_rising d_is_many
    have d_has_letters := ok_has_letters (P := (PySem.Challenge.rw_turnletters_k52_webs_beside_one_another).prog) (w := w) (base := base) (Ps := (tf.map (He.cT K)).map (·.2)) FX 
    have d_check_web := ok_check_web (P := (PySem.Challenge.rw_turnletters_k52_webs_beside_one_another).prog) (w := w) (base := base) (Ps := (tf.map (He.cT K)).map (·.2)) FX d_is_web
    have d_check_word := ok_check_word (P := (PySem.Challenge.rw_turnletters_k52_webs_beside_one_another).prog) (w := w) (base := base) (Ps := (tf.map (He.cT K)).map (·.2)) FX d_has_letters
    have d_check_few := ok_check_few (P := (PySem.Challenge.rw_turnletters_k52_webs_beside_one_another).prog) (w := w) (base := base) (Ps := (tf.map (He.cT K)).map (·.2)) FX 
    have d_check_word_of := ok_check_word_of (P := (PySem.Challenge.rw_turnletters_k52_webs_beside_one_another).prog) (w := w) (base := base) (Ps := (tf.map (He.cT K)).map (·.2)) FX d_check_word d_check_web
    have d_firsts := ok_firsts (P := (PySem.Challenge.rw_turnletters_k52_webs_beside_one_another).prog) (w := w) (base := base) (Ps := (tf.map (He.cT K)).map (·.2)) FX d_check_word_of
    have d_longer := ok_longer (P := (PySem.Challenge.rw_turnletters_k52_webs_beside_one_another).prog) (w := w) (base := base) (Ps := (tf.map (He.cT K)).map (·.2)) FX d_firsts
    have d_check_beside := ok_check_beside (P := (PySem.Challenge.rw_turnletters_k52_webs_beside_one_another).prog) (w := w) (base := base) (Ps := (tf.map (He.cT K)).map (·.2)) FX d_check_few
    have d_beside := ok_beside (P := (PySem.Challenge.rw_turnletters_k52_webs_beside_one_another).prog) (w := w) (base := base) (Ps := (tf.map (He.cT K)).map (·.2)) FX d_check_beside d_check_web
    have d_word_beside := ok_word_beside (P := (PySem.Challenge.rw_turnletters_k52_webs_beside_one_another).prog) (w := w) (base := base) (Ps := (tf.map (He.cT K)).map (·.2)) FX d_longer d_check_beside d_check_word d_check_web
    have d__law_box := ok__law_box (P := (PySem.Challenge.rw_turnletters_k52_webs_beside_one_another).prog) (w := w) (base := base) (Ps := (tf.map (He.cT K)).map (·.2)) FX 
    have d__law_take := ok__law_take (P := (PySem.Challenge.rw_turnletters_k52_webs_beside_one_another).prog) (w := w) (base := base) (Ps := (tf.map (He.cT K)).map (·.2)) FX 
    have d__law_web := ok__law_web (P := (PySem.Challenge.rw_turnletters_k52_webs_beside_one_another).prog) (w := w) (base := base) (Ps := (tf.map (He.cT K)).map (·.2)) FX d__law_take
    have d__law_word := ok__law_word (P := (PySem.Challenge.rw_turnletters_k52_webs_beside_one_another).prog) (w := w) (base := base) (Ps := (tf.map (He.cT K)).map (·.2)) FX d__law_take
    have d__law_longer := ok__law_longer (P := (PySem.Challenge.rw_turnletters_k52_webs_beside_one_another).prog) (w := w) (base := base) (Ps := (tf.map (He.cT K)).map (·.2)) FX 
    have d__law_classes := ok__law_classes (P := (PySem.Challenge.rw_turnletters_k52_webs_beside_one_another).prog) (w := w) (base := base) (Ps := (tf.map (He.cT K)).map (·.2)) FX 
    have d__law_only := ok__law_only (P := (PySem.Challenge.rw_turnletters_k52_webs_beside_one_another).prog) (w := w) (base := base) (Ps := (tf.map (He.cT K)).map (·.2)) FX d__law_classes
    have d__law_told := ok__law_told (P := (PySem.Challenge.rw_turnletters_k52_webs_beside_one_another).prog) (w := w) (base := base) (Ps := (tf.map (He.cT K)).map (·.2)) FX d__law_only d_beside d_word_beside
    exact ok_law FX d__law_told d__law_longer d__law_word d__law_take d__law_web d__law_box FC
end TlK
open PySem PySem.W PySem.Calls PyProof.Rows
set_option maxRecDepth 100000 in
set_option maxHeartbeats 0 in
theorem PySem.Challenge.cw_turnletters_k52_webs_beside_one_another_holds : PySem.Challenge.rw_turnletters_k52_webs_beside_one_another.Holds := by
  w_on; o_law
  refine HandSHeadRun.head_any (r := OpenLaw.row PySem.Challenge.rw_turnletters_k52_webs_beside_one_another) (q := view (OpenLaw.row PySem.Challenge.rw_turnletters_k52_webs_beside_one_another).prog [41]) (H := TlK.hk) (ob := TlK.ob) (M := 15000) (loose := TlK.loose) (d := HandSHeadRun.topDef (OpenLaw.row PySem.Challenge.rw_turnletters_k52_webs_beside_one_another).prog 41) (kwd := []) TlK.ob_eq
    (by kernel_rfl) (fun s => by kernel_rfl) TlK.run (by kernel_rfl) (by kernel_rfl) (by kernel_rfl) (by rfl) (by first | assumption | decide +kernel) (by decide +kernel) ⟨rfl, rfl, rfl, rfl, rfl, by decide +kernel⟩ ?hw ?hc
  case hw => w_witness2
  case hc =>
    refine TlD.walk_outer (l := PySem.Challenge.rw_turnletters_k52_webs_beside_one_another) (n := 63) (x := "_law_script") rfl (by kernel_rfl) ?F
    intro w mg fa h Y G hmg0
    obtain ⟨K, KX, c⟩ := Y
    have hmg : mg ("law" : PySem.Str) = some (.ref fa) := by
      have e : (HandSHeadRun.topDef (OpenLaw.row PySem.Challenge.rw_turnletters_k52_webs_beside_one_another).prog 41).name = ("law" : PySem.Str) := by kernel_rfl
      rw [← e]
      exact hmg0
    have ef := hmg.symm.trans (He.glo_ok KX G (c.t.d.fact 25 (f := .glo "law") rfl))
    cases ef
    exact ⟨K, KX, TlK.law_facts KX G c⟩
