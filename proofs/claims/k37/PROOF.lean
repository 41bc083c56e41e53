import PyProof.Rows.All
import Wide.All
import OpenK.AllK
import Wide.FinOn
import KE.OsRunLaw
import HandS.ForMost
import HandS.Evl
import HandS.MakeKw
import HandS.MakeKwOnly
import HandS.IsInst
import PyProof.ReprRoads
import HandS.Zip
import PyProof.Rows.SetFrom
import PyProof.ReprLen
import HandS.OwnEq
import PyProof.NeKinds
import HandS.Deep
import HandS.Style
import KE.KSortedM
import HandS.Flow
import HandS.TupAny
import HandS.Exc
import HandS.ExcIs
import HandS.ExcField
import KE.KExcIs
import HandS.WordsExc
import HandS.SetFor
import HandS.NamedTupSort
import KE.DataMinMax
import HandS.DictComp
import HandS.DictTup
import HandS.Walk
import KE.KDictWalk
import HandS.Defaults
import HandS.SortRule
import HandS.Text
import HandS.StrMore
import HandS.FStr
import PyProof.StrBlock2
import PyProof.StrLaws
import HandS.Conv
import HandS.SetKeys
import HandS.ListItems
import PyProof.EnumMake
import PyProof.TupleOfSeq
import PyProof.DictWalks
import HandS.Iter
import HandS.DictSubView0
import PySem.Challenge.RW_ringless_k37_rings_told
set_option Elab.async false
set_option linter.all false
set_option maxRecDepth 100000
/-! the head by two kernel runs, where the top asks one row of the world: nothing of the top's way is written out -/
namespace MyG
open PySem PySem.W PySem.Calls PyProof.Rows
theorem left_two {p q : Program} {loose : List PySem.Str} {Xt : Shared → Bool} {K : Params → Frag} {as : List Addr} {ek : ∀ P, as = (K P).map (·.1)} {N M : Nat} (row : String)
    (e : opening p = plainProg p.main.scope.names) (hN : Nat.ble 600 N = true) (f : ∀ s, fenceModules? p s = some s) (le : Nat.ble M N = true)
    (run : ∀ (b : Bool) (w : World) (os : OsState), (HeadRun.endF (HeadRun.stepQ (HeadRun.denQ HeadRun.tabQ) p (w.withFollow row b)) M p (w.withFollow row b) os).map (fun s => (HeadRun.looksF p (boot_heap (w.withFollow row b).params) s.abs, HeadRun.seenQ q loose (importedModules p.main.body) Xt s.abs, as.map (HeadRun.getT s))) = some (true, openGood q loose, (K (w.withFollow row b).params).map fun x => some x.2)) :
    LeftO p q loose Xt (Hook.obs (kHook K as ek)) (Hook.val (kHook K as ek)) N true :=
  HeadRun.left_oneK (M := M) e hN f le fun w os => by
    have z := run (w.params.followText row) w os
    rw [World.withFollow_self] at z
    exact z
/-- the same for a program with imports at its head -/
theorem left_twoI {p q : Program} {loose : List PySem.Str} {Xt : Shared → Bool} {K : Params → Frag} {as : List Addr} {ek : ∀ P, as = (K P).map (·.1)} {N : Nat} (row : String)
    (run : ∀ (b : Bool) (w : World), (HeadRun.wholeF (fun p => HeadRun.stepQ (HeadRun.denQ HeadRun.tabQ) p (w.withFollow row b)) HeadRun.fenceQ N p).map (fun x => (HeadRun.looksF p x.1.heap x.2.abs, HeadRun.seenQ q loose (importedModules p.main.body) Xt x.2.abs, as.map (HeadRun.getT x.2))) = some (true, openGood q loose, (K (w.withFollow row b).params).map fun x => some x.2)) :
    LeftO p q loose Xt (Hook.obs (kHook K as ek)) (Hook.val (kHook K as ek)) N true :=
  HeadRun.left_impK fun w => by
    have z := run (w.params.followText row) w
    rw [World.withFollow_self] at z
    exact z
theorem run_parts {X T1 T2 T3 T4 T5 L B : Type} {o : Option X} {l : X → L} {ob : X → B} {S : X → T1 × T2 × T3 × T4 × T5} {l0 : L} {b0 : B} {e1 : T1} {e2 : T2} {e3 : T3} {e4 : T4} {e5 : T5}
    (h1 : o.map (fun x => (l x, ob x, (S x).1)) = some (l0, b0, e1)) (h2 : o.map (fun x => ((S x).2.1, (S x).2.2.1, (S x).2.2.2.1)) = some (e2, e3, e4)) (h3 : o.map (fun x => (S x).2.2.2.2) = some e5) :
    o.map (fun x => (l x, S x, ob x)) = some (l0, (e1, e2, e3, e4, e5), b0) := by
  cases o with
  | none => cases h1
  | some x =>
    have h1 := Option.some.inj h1
    have h2 := Option.some.inj h2
    have h3 := Option.some.inj h3
    dsimp only at h1 h2 h3
    obtain ⟨a1, a2⟩ := Prod.mk.inj h1
    obtain ⟨a3, a4⟩ := Prod.mk.inj a2
    obtain ⟨b1, b2⟩ := Prod.mk.inj h2
    obtain ⟨b3, b4⟩ := Prod.mk.inj b2
    show some (l x, S x, ob x) = _
    rw [a1, a3, ← a4, ← b1, ← b3, ← b4, ← h3]
end MyG

namespace HdTop
open PySem PySem.W PySem.Calls PyProof.Rows
abbrev R : OpenRow := OpenLaw.row PySem.Challenge.rw_ringless_k37_rings_told
def keep : List Nat := [0, 1, 3, 5, 6, 7, 9, 10, 11, 12, 13, 14, 15, 16, 17, 19, 20, 21, 23, 24, 25, 26, 27, 28, 29, 30, 31, 32]
local macro_rules | `(tactic| o_head $H) => `(tactic| assumption)
theorem pre : R.Holds → R.Holds := by
  intro h
  k_head
abbrev q : Program := view R.prog keep
abbrev loose : List PySem.Str := ["kept"]
def ob : List Addr := [2, 3, 33, 35, 36, 38, 39, 40, 41, 44, 45, 46, 53, 54, 55, 56, 59, 66, 67, 68, 71, 74, 79, 80, 82, 83, 85, 86, 87, 88, 89, 92, 94, 95, 97, 98, 99, 102, 103, 104, 107, 108, 109, 112, 113, 121, 123, 124, 126, 127, 128, 130, 131, 133, 134, 135, 137, 138, 140, 141, 142, 144, 145, 147, 148, 149, 151, 152, 154, 155, 156, 159, 160, 161, 163, 164, 166, 167, 168, 170, 171, 173, 174, 175, 177, 178, 180, 181, 182, 184, 185, 187, 188, 189, 191, 192, 194, 195, 196, 197, 198, 199, 200, 203, 206, 207, 208, 211, 212, 213, 216, 217, 218, 221, 222, 223, 225, 226, 228, 229, 230, 232, 233, 235, 236, 237, 240, 241, 242, 244, 245, 247, 248, 249, 252, 253, 254, 257, 258, 259, 261, 262, 264, 265, 266, 269, 270, 271, 274, 275]
abbrev Xt : Shared → Bool := fun s => xlAt q [] s && recOk (RowW.records R.toRowW) s
noncomputable abbrev Wr (w : World) := HeadRun.wholeF (fun p => HeadRun.stepQ (HeadRun.denQ HeadRun.tabQ) p w) HeadRun.fenceQ 4472 R.prog
noncomputable abbrev Sq (x : Shared × SharedT) := HeadRun.seenQ q loose (importedModules R.prog.main.body) Xt x.2.abs
set_option maxHeartbeats 0 in
theorem ra_ : ∀ w : World, (Wr  w).map (fun x => (HeadRun.looksF R.prog x.1.heap x.2.abs, ob.map (HeadRun.getT x.2), (Sq x).1)) = some (true, (pre.heap_1 w.params).map fun x => some x.2, expectedOf q) := by
  intro w
  kernel_rfl
set_option maxHeartbeats 0 in
theorem rb_ : ∀ w : World, (Wr  w).map (fun x => ((Sq x).2.1, (Sq x).2.2.1, (Sq x).2.2.2.1)) = some (bltViewBooted, true, true) := by
  intro w
  kernel_rfl
set_option maxHeartbeats 0 in
theorem rc_ : ∀ w : World, (Wr  w).map (fun x => (Sq x).2.2.2.2) = some (pinGoodD (drecsOf q), plainGoodE q (looseW q loose), plainGoodD q loose, wideGood q, clsGoodW q loose) := by
  intro w
  kernel_rfl
theorem ek : ∀ P, ob = (pre.heap_1 P).map (·.1) := fun P => by kernel_rfl
theorem left : LeftO R.prog q loose Xt (Hook.obs (kHook pre.heap_1 ob ek)) (Hook.val (kHook pre.heap_1 ob ek)) 4472 true := by
  refine HeadRun.left_impK ?_
  intro w
  exact MyG.run_parts (ra_ w) (rb_ w) (rc_ w)
end HdTop

set_option maxHeartbeats 2000000
/-! My own additions to the hand layer: defs that know that no repr is under way (so that they may call repr), repr of data, a method called by keywords alone. -/
namespace MyG
open PySem PySem.Spec PyProof.Rows L2

/-- a promise that is kept where no guarded call is under way -/
structure FnOkG (P : Program) (w : World) (K : PySem.W.Frag) (mg : Str → Option Value) (base : Heap) (CX : CXT) (k : Nat) (f : Addr) (fd : FuncData) (ps : List Str) (sp : Sp) : Prop where
  lenG : ∀ vs H Q E, sp vs H Q E → vs.length = ps.length
  runG : ∀ (A : Around) (fr : List Env) (s : Shared) (H : Hp) (as : Args) (us : List Value) (vs : List V) (Q : VK) (E : XK), A.guards = some [] → Room k A → Env0 P w K mg base A fr s H →
    BindsTo s fd as (ps.zip us) → Vals vs us → sp vs H Q E → codeAny (model P w) A (.call (.ref f) as) (CR CX fr P w H s Q E) s

section
variable {P : Program} {w : World} {K : PySem.W.Frag} {mg : Str → Option Value} {base : Heap} {CX : CXT} {k : Nat} {f : Addr} {fd : FuncData} {ps N : List Str} {sp : Sp} {x q : Str} {st : Stmt}
theorem FnOkG.of (F : FnOk P w K mg base CX k f fd ps sp) : FnOkG P w K mg base CX k f fd ps sp :=
  ⟨F.len, fun A fr s H as us vs Q E _ => F.run A fr s H as us vs Q E⟩

/-- a def's body, where no guarded call is under way: for defs from which nothing is raised -/
theorem okG (F : Fun K x q st f fd) (S : FnScope N ps (defScope st)) (hlen : ∀ vs H Q E, sp vs H Q E → vs.length = ps.length)
    (hbody : ∀ (cdv : Value) (A : Around) (fr : List Env) (s : Shared) (H : Hp) (vs : List V) (Q : VK) (E : XK), (A.deeper (envOfC q (defScope st) s.heap.objs.size f cdv)).guards = some [] →
      Room k (A.deeper (envOfC q (defScope st) s.heap.objs.size f cdv)) → sp vs H Q E →
      ∃ t, PSs (cxOf CX0 P w K mg base N q (defScope st) f cdv A fr s H E).nox (defBody st) t ∧ t { nx := fun _ H' => Q .non H', rt := Q } (start N vs) H) :
    FnOkG P w K mg base CX0 (k + 1) f fd ps sp := by
  obtain ⟨oc, od, kV, doc, pm, an, cdv, ct, osl, hfd, hlook, hcode⟩ := F.ex
  subst hfd
  constructor
  · exact hlen
  intro A fr s H as us vs Q E hgd room e0 hbind rel hs
  have kin : K.In s.heap := e0.mod.kin.keeps (fun b o h => (e0.bs b o h).1)
  have nol : s.heap.NoLimit := e0.mod.nolimit.keeps (fun b o h => (e0.bs b o h).1)
  have params : ∀ y ∈ ps.zip us, (defScope st).names.lookup y.1 = some .local ∨ ((defScope st).names.lookup y.1 = some .cell ∧ ((cellsFrom (s.heap.objs.size + 1) (defScope st).names []).lookup y.1).isSome = true) := by
    intro y hy
    have hy1 : y.1 ∈ ps := (List.of_mem_zip (show (y.1, y.2) ∈ ps.zip us from hy)).1
    cases S.par y.1 hy1 with
    | inl h => exact Or.inl h
    | inr h => exact Or.inr ⟨h, PySem.W.cellsFrom_some _ _ _ (Or.inl h)⟩
  refine codeAny_call_function room.depth (kin _ _ hlook) rfl S.co S.gen rfl (PySem.W.codeRec_of kin hcode) (hbind _ _ _ _ ?_)
  refine wpAny_newFunctionEnv_cells S.kind params (fun env henv s1 hin => ?_)
  subst henv
  obtain ⟨t, hterm, hread⟩ := hbody cdv A fr s H vs Q E hgd (room.deeper _) hs
  have inv := inv_start (CX := CX0) (E := E) S room.hd e0 (hlen _ _ _ _ hs) rel hin
  refine ⟨nol.keeps hin.toInCall.keep, codeAny_func (wpAny_mono (hterm.nox.run [] s1 (start N vs) H _ inv hread) ?_ (fun _ _ h => h))⟩
  intro fl s' hsp
  match fl, hsp with
  | .ret u, hsp =>
    obtain ⟨v, σ', H', J, rv, hq⟩ := hsp
    exact ⟨v, H', J.os, J.bare, J.base, J.hok, rv, hq⟩
  | .next, hsp =>
    obtain ⟨σ', H', J, hq⟩ := hsp
    exact ⟨V.non, H', J.os, J.bare, J.base, J.hok, rfl, hq⟩
  | .brk, hsp => exact hsp.choose_spec.choose_spec.2.elim
  | .cont, hsp => exact hsp.choose_spec.choose_spec.2.elim
end

section
variable {X : Cx} {CX : CXT} {k : Nat} {f C : Addr} {fd : FuncData} {ps ks : List Str} {sp : Sp} {dvs : List V} {ds : List Value} {E : XK} {x m : Str} {p pos apos : Pos} {e o : Expr} {es : List Expr} {ta : TE} {t tk : TA} {kws : List Keyword}
  {g : List Value → List Value → List Value} {gV : List V → List V → List V}
theorem runG_fn {pins : List (Addr × Obj)} {σ : L2.St} {H : Hp} {s : Shared} {Q : VK} {us : List Value} {vs : List V} (F : FnOkG X.prog X.w X.K X.mg X.base CX k f fd ps sp) (hgd : X.A.guards = some []) (room : Room k X.A) (hb : Binds X.K fd ps ds)
    (hd : Vals dvs ds) (hx : Passes CX X E) (I : Inv X pins σ H s) (r : Vals vs us) (h : sp (vs ++ dvs) H Q E) : wpAny (model X.prog X.w) X.A (call (.ref f) us) (EP X pins σ Q) X.xe s := by
  have rel : Vals (vs ++ dvs) (us ++ ds) := r.append hd
  have hlen : (us ++ ds).length = ps.length := rel.length.symm.trans (F.lenG _ _ _ _ h)
  refine wpAny_call (codeAny_mono (F.runG X.A X.stack s H ⟨us, []⟩ (us ++ ds) (vs ++ dvs) Q E hgd room I.env0 (hb s us I.kIn hlen) rel h) (fun r s' hq => ?_))
  match r, hq with
  | .error e, hq => exact hx pins σ H s e s' I hq
  | .ok (.ret u), hq => exact I.after hq
/-- f(e, ..) -/
theorem pe_callG (F : FnOkG X.prog X.w X.K X.mg X.base CX k f fd ps sp) (hgd : X.A.guards = some []) (room : Room k X.A) (hg : Gl X x) (hm : X.mg x = some (.ref f)) (hk : PySem.W.keepIn X.K (.ref f) = true) (hb : Binds X.K fd ps ds) (hd : Vals dvs ds)
    (hx : Passes CX X E) (ha : PA X (e :: es) t) (hdb : (x == ("__debug__" : Str)) = false := by decide) (he : starEach (e :: es) X.env = (false, eval e X.env) :: starEach es X.env := by rfl)
    (hpl : (backTo pos (starEach es X.env)).any (·.1) = false := by rfl) : PE X (.Call (.Name x p) (e :: es) [] pos) (tCall sp dvs E t) := by
  constructor
  intro pins s σ H Q I h
  refine wpAny_Call_Name_kw (ld_glob I hg hm (PySem.W.callWith_K (h₀ := X.base) I.ok.mod.kin hk (thn (ha.run pos pins s σ H _ I h) ?_) he hpl) hdb)
  rintro us s1 ⟨vs, H1, I1, r, hq⟩
  exact ⟨I1.kIn, runG_fn F hgd room hb hd hx I1 r hq⟩

/-- o.m(k = v, ..): keywords alone -/
def tMethK (C : Addr) (m : Str) (n : Nat) (sp : Sp) (gV : List V → List V → List V) (E : XK) (ta : TE) (tk : TA) : TE := fun σ H Q => ta σ H fun x H1 => ∃ a dx fs, x = .ref a ∧ H1 a = some (.ins C dx fs) ∧ fs.lookup m = none ∧
  tk σ H1 fun zs H2 => zs.length = n ∧ sp (gV [x] zs) H2 Q E
theorem pe_methK0 {pl : Sem Bool} (he : PE X o ta) (c : Cls X.K C) (hm : Meth X.K C m f) (F : FnOk X.prog X.w X.K X.mg X.base CX k f fd ps sp) (room : Room k X.A) (hb : KBn X.K fd ps 1 ks g gV) (hx : Passes CX X E) (hkw : PK X kws tk)
    (hall : (backToKw pos (keywordEach kws X.env)).all (·.1.isSome) = true := by rfl) (hks : (backToKw pos (keywordEach kws X.env)).filterMap (·.1) = ks := by rfl)
    (hpl : ((backTo pos (starEach [] X.env)).any (·.1) || (backToKw pos (keywordEach kws X.env)).any (·.1.isNone)) = false := by rfl)
    (ht : eval (.Call (.Attribute o m apos) [] kws pos) X.env = (do
      let ov ← eval o X.env
      standAt apos.atName
      let (f, first) ← holding [ov] (getMethod ov m pl)
      callWith pos f first (backTo pos (starEach [] X.env)) (backToKw pos (keywordEach kws X.env))) := by rfl) :
    PE X (.Call (.Attribute o m apos) [] kws pos) (tMethK C m ks.length sp gV E ta tk) := by
  constructor
  intro pins s σ H Q I h
  refine PySem.W.methodCall_KW (pl := pl) (thn (he.run pins s σ H _ I h) ?_) ht
  rintro u s1 ⟨x, H1, I1, rx, a, dx, fs, ex, ea, l, hq⟩
  subst ex
  obtain rfl : u = Value.ref a := rx
  refine getmeth_ok I1 ea c hm l (PySem.W.callWith_KW0 (h₀ := X.base) I1.ok.mod.kin hm.kp hall (thn (hkw.run pos pins s1 σ H1 _ I1 hq) ?_) hpl)
  rintro ws s2 ⟨zs, H2, I2, rz, l2, hs⟩
  refine ⟨I2.kIn, ?_⟩
  rw [hks]
  exact run_fnN (us := [.ref a]) (vs := [.ref a]) F room hb hx I2 (.cons rfl .nil) rz rfl l2 hs
end

/-- how keywords bind, for a def without defaults -/
theorem kbn_of {K : PySem.W.Frag} {x q : Str} {st : Stmt} {f : Addr} {fd : FuncData} {ps ks : List Str} {n : Nat} {g : List Value → List Value → List Value} {gV : List V → List V → List V} (F : Fun K x q st f fd)
    (h : ∀ (kV doc pm : Value) (an : Option Addr) (cdv ct : Value) (us ws : List Value), us.length = n → ws.length = ks.length → bindArgs (PySem.W.fnOf x q (defArgs st) (defBody st) (defScope st) .none kV doc pm an cdv ct) ⟨us, ks.zip ws⟩ = pure (ps.zip (g us ws)))
    (rel : ∀ {vs : List V} {us : List Value} {zs : List V} {ws : List Value}, Vals vs us → Vals zs ws → Vals (gV vs zs) (g us ws)) : KBn K fd ps n ks g gV := by
  obtain ⟨oc, od, kV, doc, pm, an, cdv, ct, osl, hfd, hlook, hcode⟩ := F.ex
  subst hfd
  exact ⟨fun s us ws _ l1 l2 => .of_eq (h kV doc pm an cdv ct us ws l1 l2), rel⟩

/-! ### repr of data -/
section
variable {X : Cx}
def rReprD (K : PySem.W.Frag) : List V → Hp → VK → Prop := fun xs H Q => ∃ x d, xs = [x] ∧ Dp K H x d ∧ d.showable = true ∧ d.hasDict = false ∧ d.depth ≤ 40 ∧ d.shown.length ≤ sizeLine ∧ Q (.str d.shown) H
theorem call_reprD {k : Nat} (hgd : X.A.guards = some []) (room : Room k X.A) : CallR X (.builtin "repr") (rReprD X.K) := by
  intro pins s σ H xs us Q I r h
  obtain ⟨x, d, rfl, hd, hs, hnd, hdep, hsz, hq⟩ := h
  obtain ⟨u, rfl, rx⟩ := vals1 r
  have un := room.units
  have fin : ∀ h' v tk, (∀ b o, s.heap.get? b = some o → h'.get? b = some o) → EP X pins σ Q (.str d.shown v) { s with heap := h', toks := tk } := fun h' v tk kp => ⟨.str d.shown, H, I.kept kp, ⟨_, rfl⟩, hq⟩
  obtain ⟨as, rd⟩ := Dp.reads I d x u hd rx
  cases rd with
  | none => exact PySem.P.repr_of_none (fin s.heap _ _ fun _ _ e => e)
  | bool b => cases b <;> exact PySem.P.repr_of_bool (fin s.heap _ _ fun _ _ e => e)
  | int i t =>
    refine PySem.P.repr_of_int (by simpa [PyData.showable] using hs) (fin s.heap _ _ fun _ _ e => e)
  | str y t => exact PySem.P.repr_of_str (fin s.heap _ _ fun _ _ e => e) hsz
  | list h1 h2 h3 h4 => exact repr_of_reads' (.list h1 h2 h3 h4) hs (fun z => by rw [hnd] at z; cases z) hgd (by omega) (fun _ _ e => e) fin hsz
  | tuple h1 h2 h3 h4 => exact repr_of_reads' (.tuple h1 h2 h3 h4) hs (fun z => by rw [hnd] at z; cases z) hgd (by omega) (fun _ _ e => e) fin hsz
  | dict h1 h2 h3 h4 h5 => simp [PyData.hasDict] at hnd
end
end MyG

/-! ### the law's own call, and the end of a row -/
namespace MyG
open PySem PySem.Spec PyProof.Rows L2
section
variable {P : Program} {w : World} {K : PySem.W.Frag} {mg mb : Str → Option Value} {CX : CXT} {k : Nat} {fa a : Addr} {fd : FuncData} {x : Str} {sp : Sp} {s₁ : Shared} {vs : List Value} {ns : List Int}
/-- from one abstract heap that knows at most the script -/
theorem lawG_at (H : Hp) (KX : K.In s₁.heap) (hns : s₁.heap.Ns mainGlobals mg) (hb : s₁.heap.Ns builtinsNs mb) (hbb : ∀ x : Str, x ≠ "__name__" → mb x = bootBuiltins x) (hlim : s₁.heap.NoLimit) (hgen : s₁.gens = #[])
    (ha : s₁.heap.get? a = some { cls := .type "list", data := .seq vs.toArray }) (room : Room k callerA)
    (F : ∀ base : Heap, K.In base → base.Ns mainGlobals mg → FnOkG P w K mg base CX k fa fd [x] sp) (hbind : ∀ (s : Shared) (u : Value), BindsTo s fd ⟨[u], []⟩ [(x, u)])
    (hsp : sp [.ref a] H (fun v _ => v = .bl true) fun _ _ _ => False) (hCX : ∀ e s', CX [] H s₁ (fun _ _ _ => False) e s' → False)
    (only : Only H) (hok : HOk P w H s₁.heap) (hA : ∀ b, H b ≠ none → b = a) (hK : H a ≠ none → K.lookup a = none) :
    codeAny (model P w) callerA (.call (.ref fa) ⟨[.ref a], []⟩) (fun r s' => r = .ok (.ret (.bool true)) ∧ OldK s₁.heap s'.heap ∧ s'.os = s₁.os ∧ AllBare s'.gens) s₁ := by
  have free : ∀ b : Addr, b ≠ a → H b = none := fun b hb => by
    cases e : H b with
    | none => rfl
    | some u => exact absurd (hA b (by rw [e]; exact fun z => nomatch z)) hb
  have hid : ∀ {b : Addr} {o : Obj}, s₁.heap.get? b = some o → H b = none → (hidT s₁.heap H).get? b = some o := fun h1 h2 => hidT_get h1 h2
  have dictFree : ∀ {b : Addr} {o : Obj} {es : Array DictEntry} {ep : Nat}, s₁.heap.get? b = some o → o.data = .dict es ep → H b = none := by
    intro b o es ep h1 h2
    by_cases hb : b = a
    · rw [hb, ha] at h1
      obtain rfl := Option.some.inj h1
      exact absurd h2 (fun z => nomatch z)
    · exact free b hb
  have nsH : ∀ {b : Addr} {m : Str → Option Value}, s₁.heap.Ns b m → (hidT s₁.heap H).Ns b m := by
    rintro b m ⟨o, es, ep, h1, h2, h3⟩
    exact ⟨o, es, ep, hid h1 (dictFree h1 h2), h2, h3⟩
  have kin : K.In (hidT s₁.heap H) := by
    intro b o h1
    refine hid (KX b o h1) ?_
    by_cases hb : b = a
    · cases e : H a with
      | none => rw [hb]; exact e
      | some u =>
        have z := hK (by rw [e]; exact fun z => nomatch z)
        rw [hb, z] at h1
        cases h1
    · exact free b hb
  have md : Mod K mg (hidT s₁.heap H) := by
    obtain ⟨mc, l1, l2⟩ := hlim
    exact ⟨kin, nsH hns, ⟨mb, nsH hb, hbb⟩, ⟨mc, nsH l1, l2⟩⟩
  have env : Env0 P w K mg (hidT s₁.heap H) callerA [] s₁ H := { frames := rfl, mod := md, bs := fun b o h1 => of_hidT h1, bsz := Nat.le_of_eq (hidT_size _ _), funs := trivial, frf := fun b hb => (List.not_mem_nil hb).elim, hok := hok, bare := .of_eq hgen }
  refine codeAny_mono ((F _ kin (nsH hns)).runG callerA [] s₁ H ⟨[.ref a], []⟩ [.ref a] [.ref a] _ _ rfl room env (hbind s₁ (.ref a)) (.cons rfl .nil) hsp) ?_
  intro r s' hr
  match r, hr with
  | .error e, hr => exact (hCX e s' hr).elim
  | .ok (.ret u), hr =>
    obtain ⟨v, H', hos, hbare, un, hok', rv, hv⟩ := hr
    obtain rfl : v = V.bl true := hv
    obtain rfl : u = Value.bool true := rv
    refine ⟨rfl, OldK.of_keep ?_, hos, hbare⟩
    intro b o h1
    rcases only b with z | ⟨ob, xs, z⟩
    · exact un.keep b o h1 z (fun q => (List.not_mem_nil q).elim) (fun q => (List.not_mem_nil q).elim)
    · have e1 := (hok b _ z).1
      have e2 := (hok' b _ (un.frzs b ob _ z)).1
      rw [h1] at e1
      rw [Option.some.inj e1]
      exact e2
theorem law_callG (KX : K.In s₁.heap) (hns : s₁.heap.Ns mainGlobals mg) (hb : s₁.heap.Ns builtinsNs mb) (hbb : ∀ x : Str, x ≠ "__name__" → mb x = bootBuiltins x) (hlim : s₁.heap.NoLimit) (hgen : s₁.gens = #[])
    (ha : s₁.heap.get? a = some { cls := .type "list", data := .seq vs.toArray }) (hi : IntsAre vs ns) (hl : ns.length ≤ sizeLine) (room : Room k callerA)
    (F : ∀ base : Heap, K.In base → base.Ns mainGlobals mg → FnOkG P w K mg base CX k fa fd [x] sp) (hbind : ∀ (s : Shared) (u : Value), BindsTo s fd ⟨[u], []⟩ [(x, u)])
    (hsp : ∀ H : Hp, Only H → SqL K H a (ns.map V.int) → sp [.ref a] H (fun v _ => v = .bl true) fun _ _ _ => False) (hCX : ∀ H e s', CX [] H s₁ (fun _ _ _ => False) e s' → False) :
    codeAny (model P w) callerA (.call (.ref fa) ⟨[.ref a], []⟩) (fun r s' => r = .ok (.ret (.bool true)) ∧ OldK s₁.heap s'.heap ∧ s'.os = s₁.os ∧ AllBare s'.gens) s₁ := by
  have rv := vals_ints hi
  have lenV := hi.length
  cases hk : K.lookup a with
  | some o =>
    have e1 := KX a o hk
    rw [ha] at e1
    obtain rfl := Option.some.inj e1
    have only : Only (fun _ => none) := fun b => .inl rfl
    refine lawG_at (fun _ => none) KX hns hb hbb hlim hgen ha room F hbind (hsp _ only ?_) (hCX _) only (fun b u z => nomatch z) (fun b z => absurd rfl z) (fun z => absurd rfl z)
    exact .inr ⟨_, vs.toArray, _, hk, rfl, rfl, rfl, by rw [List.size_toArray, lenV]; exact hl, by simpa using rv⟩
  | none =>
    have at_a : ∀ {o : HO}, (fun b => if b = a then some o else none : Hp) a = some o := if_pos rfl
    have off_a : ∀ {o : HO} {b : Addr}, b ≠ a → (fun b => if b = a then some o else none : Hp) b = none := fun h => if_neg h
    have only : Only (fun b => if b = a then some (.frz { cls := .type "list", data := .seq vs.toArray } (.lst (ns.map V.int))) else none) := fun b => by
      by_cases hb : b = a
      · exact .inr ⟨_, _, by rw [hb]; exact at_a⟩
      · exact .inl (off_a hb)
    refine lawG_at _ KX hns hb hbb hlim hgen ha room F hbind (hsp _ only (.inl (.inr ⟨_, at_a⟩))) (hCX _) only ?_ ?_ (fun _ => hk)
    · intro b u z
      by_cases hb : b = a
      · subst hb
        obtain rfl := Option.some.inj (at_a.symm.trans z)
        exact ⟨ha, by rw [List.length_map]; exact hl, vs, _, rv, ha⟩
      · exact absurd ((off_a hb).symm.trans z) (fun q => nomatch q)
    · intro b z
      by_cases hb : b = a
      · exact hb
      · exact absurd (off_a hb) z
end
theorem walk_ofG {l : PySem.W.OpenLaw} {n k : Nat} {q : Program} {loose : List Str} {XP : (Str → Option Value) → Heap → Prop} {YP : World → Heap → Prop} {d : DefRec} {K : Params → PySem.W.Frag} {CX : World → CXT} {sp : World → Sp} {x : Str}
    (hn : l.most = some n) (hn2 : n ≤ sizeLine) (hdf : d.params.defaults = []) (room : Room k callerA) (hY : ∀ (w : World) (h : Heap), YP w h → (K w.params).In h)
    (F : ∀ (w : World) (mg : Str → Option Value) (fa : Addr) (h : Heap), (K w.params).In h → h.Ns mainGlobals mg → mg d.name = some (.ref fa) →
      ∃ fd : FuncData, (∀ (s : Shared) (u : Value), BindsTo s fd ⟨[u], []⟩ [(x, u)]) ∧ ∀ base : Heap, (K w.params).In base → base.Ns mainGlobals mg → FnOkG l.prog w (K w.params) mg base (CX w) k fa fd [x] (sp w))
    (hsp : ∀ (w : World) (H : Hp) (a : Addr) (ns : List Int), ns.length ≤ n → Only H → SqL (K w.params) H a (ns.map V.int) → sp w [.ref a] H (fun v _ => v = .bl true) fun _ _ _ => False)
    (hCX : ∀ (w : World) (H : Hp) (s : Shared) (e : Value) (s' : Shared), CX w [] H s (fun _ _ _ => False) e s' → False) : PySem.W.WalkO q loose XP YP l.row.toRowW d [] (fun f vs => PySem.call f vs) := by
  refine Att.attach_call hn hdf ?_
  intro w s₀ s₁ mg mb fa o pm cd doc a vs ns G Y ho hd hcd hmg hobj hints hlen hgen
  obtain ⟨fd, hbind, hF⟩ := F w mg fa _ (hY w _ Y) G.T.g hmg
  exact law_callG (hY w _ Y) G.T.g G.T.b G.T.builtins G.T.nolimit hgen hobj hints (Nat.le_trans hlen hn2) room hF hbind (hsp w · a ns hlen · ·) (fun H e s' => hCX w H s₁ e s')
end MyG

set_option maxHeartbeats 2000000
/-! len(set(xs)) of whole numbers, alike or not; what stands for a thing of any kind. -/
namespace MyG
open PySem PySem.Spec PyProof.Rows L2 Evl
theorem met_len {ns : List Int} : ∀ i, i ≤ ns.length → (firstMet (fun i => ns.getD i 0) i).length = i → (ns.take i).Nodup
  | 0, _, _ => by simp
  | i + 1, hi, h => by
    have hlt : i < ns.length := hi
    rw [firstMet_succ] at h
    unfold step_dedup at h
    have le := firstMet_length_le (fun i => ns.getD i 0) i
    by_cases c : (firstMet (fun i => ns.getD i 0) i).any (· == ns.getD i 0) = true
    · rw [if_pos c] at h
      omega
    · rw [if_neg c, List.length_append, List.length_singleton] at h
      have ih := met_len i (Nat.le_of_lt hlt) (by omega)
      rw [firstMet_any] at c
      rw [List.take_add_one, List.getElem?_eq_getElem hlt]
      show (ns.take i ++ [ns[i]]).Nodup
      rw [List.nodup_append]
      refine ⟨ih, by simp, fun a ha b hb e => c ?_⟩
      obtain rfl := List.mem_singleton.mp hb
      subst e
      rw [List.any_eq_true]
      obtain ⟨j, hj, ej⟩ := List.getElem_of_mem ha
      rw [List.length_take] at hj
      refine ⟨ns.getD j 0, List.mem_map.mpr ⟨j, List.mem_range.mpr (by omega), rfl⟩, ?_⟩
      rw [List.getElem_take] at ej
      rw [List.getD_eq_getElem?_getD, List.getD_eq_getElem?_getD, List.getElem?_eq_getElem hlt, List.getElem?_eq_getElem (by omega : j < ns.length)]
      show (ns[j] == ns[i]) = true
      rw [ej]
      exact beq_self_eq_true _
theorem met_iff (ns : List Int) : (firstMet (fun i => ns.getD i 0) ns.length).length = ns.length ↔ ns.Nodup := by
  constructor
  · intro h
    have z := met_len ns.length (Nat.le_refl _) h
    rwa [List.take_length] at z
  · intro h
    rw [RZ.firstMet_nodup h ns.length (Nat.le_refl _), List.take_length]
def tLenSetG (K : PySem.W.Frag) (ta : TE) : TE := fun σ H Q => ta σ H fun x H1 => ∃ (l : Addr) (ns : List Int), x = .ref l ∧ SqL K H1 l (ns.map V.int) ∧ ns.length ≤ 4000 ∧ ∀ n : Nat, (n = ns.length ↔ ns.Nodup) → Q (.int n) H1
theorem pe_lenSetG {X : Cx} {a : Expr} {ta : TE} {p p2 q pos : Pos} (hg : Gl X "len") (hm : X.mg "len" = none) (hg2 : Gl X "set") (hm2 : X.mg "set" = none) (ha : PE X a ta) (hc : X.calm = true := by rfl)
    (na : starEach [a] X.env = (false, eval a X.env) :: starEach [] X.env := by rfl) : PE X (.Call (.Name "len" p) [.Call (.Name "set" p2) [a] [] q] [] pos) (tLenSetG X.K ta) := by
  constructor
  intro pins s σ H Q I h
  refine Call_ (ld_blt I hg hm boot_len (callWith_builtin1 (args_cons ?_ rfl) rfl rfl))
  refine Call_ (ld_blt I hg2 hm2 boot_set (callWith_type1 (args_cons (thn (ha.run pins s σ H _ I h) ?_) na) na rfl))
  rintro v s1 ⟨x, H1, I1, r1, l, ns, rfl, hq, hl, q1⟩
  refine args_nil ?_
  cases r1
  obtain ⟨its, r, pl, hz⟩ := I1.list hq
  have size : its.toArray.size = ns.length := by rw [List.size_toArray, ← r.length, List.length_map]
  refine call_set_list (I1.ok.hd hc) pl.isList (ns := ns) (by simpa using r.ints) (by rw [size]; unfold scanBound; omega) (fun h' tk hS hk => args_nil ?_)
  rw [size] at hS
  have le := firstMet_length_le (fun i => ns.getD i 0) ns.length
  obtain ⟨o, es, ep, t, ho, hex, hd, _, _, _, hf, hn⟩ := hS
  have I2 : Inv X pins σ H1 { s1 with heap := h', toks := tk } := I1.kept fun b o e => hk b o (Heap.lt_size e) e
  exact call_len_set ho hex hd hf (by rw [hn]; omega) ⟨.int ((firstMet (fun i => ns.getD i 0) ns.length).length : Nat), H1, I2.tok _, ⟨_, by rw [hn]⟩, q1 _ (met_iff ns)⟩
/-! ### a thing of any kind, and its kind -/
inductive AnyT (H : Hp) : V → String → Prop
  | non : AnyT H .non "NoneType"
  | bl (b : Bool) : AnyT H (.bl b) "bool"
  | int (i : Int) : AnyT H (.int i) "int"
  | str (x : Str) : AnyT H (.str x) "str"
  | lst {a : Addr} {xs : List V} (h : H a = some (.lst xs)) : AnyT H (.ref a) "list"
  | tup {a : Addr} {xs : List V} (h : H a = some (.tup xs)) : AnyT H (.ref a) "tuple"
  | dK {a : Addr} {xs : List (Key × V)} (h : H a = some (.dK xs)) : AnyT H (.ref a) "dict"
theorem AnyT.ext {H H' : Hp} (e : Ex H H') {x : V} {t : String} (h : AnyT H x t) : AnyT H' x t := by
  cases h with
  | non => exact .non
  | bl b => exact .bl b
  | int i => exact .int i
  | str x => exact .str x
  | lst h => exact .lst (e _ _ h)
  | tup h => exact .tup (e _ _ h)
  | dK h => exact .dK (e _ _ h)
theorem AnyT.ty {K : PySem.W.Frag} {H : Hp} {x : V} {t : String} (h : AnyT H x t) : TyX K H x (.type t) := by
  cases h with
  | non => exact .base .non
  | bl b => exact .base (.bl b)
  | int i => exact .base (.int i)
  | str x => exact .base (.str x)
  | lst h => exact .base (.lst h)
  | tup h => exact .base (.tup h)
  | dK h => exact .base (.dK h)
abbrev kinds7 : List String := ["NoneType", "bool", "int", "str", "list", "tuple", "dict"]
theorem AnyT.mem {H : Hp} {x : V} {t : String} (h : AnyT H x t) : t ∈ kinds7 := by
  cases h <;> decide
theorem kit7 : (kinds7.all fun t => decide (kitB t "int" = some (t == "int" || t == "bool")) && decide (kitB t "bool" = some (t == "bool")) && decide (kitB t "list" = some (t == "list")) && decide (kitB t "tuple" = some (t == "tuple")) && decide (kitB t "str" = some (t == "str")) && decide (kitB t "dict" = some (t == "dict"))) = true := by decide +kernel
theorem kit_all {t : String} (h : t ∈ kinds7) : kitB t "int" = some (t == "int" || t == "bool") ∧ kitB t "bool" = some (t == "bool") ∧ kitB t "list" = some (t == "list") ∧ kitB t "tuple" = some (t == "tuple") ∧ kitB t "str" = some (t == "str") ∧ kitB t "dict" = some (t == "dict") := by
  have z := List.all_eq_true.mp kit7 t h
  simp only [Bool.and_eq_true, decide_eq_true_eq] at z
  exact ⟨z.1.1.1.1.1, z.1.1.1.1.2, z.1.1.1.2, z.1.1.2, z.1.2, z.2⟩
/-- isinstance(x, T) of a thing of any kind -/
theorem isi_int {K : PySem.W.Frag} {H : Hp} {x : V} {t : String} {Q : VK} (h : AnyT H x t) (q : Q (.bl (t == "int" || t == "bool")) H) : rIsi K [x, .ty "int"] H Q := ⟨x, .ty "int", .type t, .type "int", _, rfl, .ty _, h.ty, kit_ty (kit_all h.mem).1, q⟩
theorem isi_bool {K : PySem.W.Frag} {H : Hp} {x : V} {t : String} {Q : VK} (h : AnyT H x t) (q : Q (.bl (t == "bool")) H) : rIsi K [x, .ty "bool"] H Q := ⟨x, .ty "bool", .type t, .type "bool", _, rfl, .ty _, h.ty, kit_ty (kit_all h.mem).2.1, q⟩
theorem isi_list {K : PySem.W.Frag} {H : Hp} {x : V} {t : String} {Q : VK} (h : AnyT H x t) (q : Q (.bl (t == "list")) H) : rIsi K [x, .ty "list"] H Q := ⟨x, .ty "list", .type t, .type "list", _, rfl, .ty _, h.ty, kit_ty (kit_all h.mem).2.2.1, q⟩
theorem isi_tuple {K : PySem.W.Frag} {H : Hp} {x : V} {t : String} {Q : VK} (h : AnyT H x t) (q : Q (.bl (t == "tuple")) H) : rIsi K [x, .ty "tuple"] H Q := ⟨x, .ty "tuple", .type t, .type "tuple", _, rfl, .ty _, h.ty, kit_ty (kit_all h.mem).2.2.2.1, q⟩
theorem isi_str {K : PySem.W.Frag} {H : Hp} {x : V} {t : String} {Q : VK} (h : AnyT H x t) (q : Q (.bl (t == "str")) H) : rIsi K [x, .ty "str"] H Q := ⟨x, .ty "str", .type t, .type "str", _, rfl, .ty _, h.ty, kit_ty (kit_all h.mem).2.2.2.2.1, q⟩
theorem isi_dict {K : PySem.W.Frag} {H : Hp} {x : V} {t : String} {Q : VK} (h : AnyT H x t) (q : Q (.bl (t == "dict")) H) : rIsi K [x, .ty "dict"] H Q := ⟨x, .ty "dict", .type t, .type "dict", _, rfl, .ty _, h.ty, kit_ty (kit_all h.mem).2.2.2.2.2, q⟩
end MyG

set_option maxHeartbeats 2000000
/-! Data that can be shown and compared, by its size. -/
namespace MyG
open PySem PySem.Spec PyProof.Rows L2 Evl
/-- k: how deep, L: how long its text is at most -/
structure Small (d : PyData) (k L : Nat) : Prop where
  sh : d.showable = true
  nd : d.hasDict = false
  dp : d.depth ≤ k
  ln : d.shown.length ≤ L
  cl : d.canLay0 = true
structure SmallAll (ds : List PyData) (k L : Nat) : Prop where
  sh : PyData.showableAll ds = true
  nd : PyData.hasDictAll ds = false
  dp : PyData.depthAll ds ≤ k
  ln : ((PyData.shownAll ds).map (·.length)).sum ≤ ds.length * L
  ll : (PyData.shownAll ds).length = ds.length
  cl : PyData.canLayAll0 ds = true
theorem Small.all {k L : Nat} : ∀ {ds : List PyData}, (∀ d ∈ ds, Small d k L) → SmallAll ds k L
  | [], _ => ⟨rfl, rfl, Nat.zero_le _, Nat.zero_le _, rfl, rfl⟩
  | d :: ds, h => by
    have h1 := h d (List.mem_cons_self ..)
    have h2 := Small.all fun e he => h e (List.mem_cons_of_mem d he)
    refine ⟨?_, ?_, ?_, ?_, ?_, ?_⟩
    · simp only [PyData.showableAll, h1.sh, h2.sh, Bool.and_self]
    · simp only [PyData.hasDictAll, h1.nd, h2.nd, Bool.or_self]
    · simp only [PyData.depthAll]; exact Nat.max_le.mpr ⟨h1.dp, h2.dp⟩
    · have a := h1.ln
      have b := h2.ln
      simp only [PyData.shownAll, List.map_cons, List.sum_cons, List.length_cons]
      rw [Nat.add_mul, Nat.one_mul]
      omega
    · simp only [PyData.shownAll, List.length_cons, h2.ll]
    · simp only [PyData.canLayAll0, h1.cl, h2.cl, Bool.and_self]
theorem small_list {k L : Nat} {ds : List PyData} (h : ∀ d ∈ ds, Small d k L) : Small (.list ds) (k + 1) (ds.length * (L + 2) + 3) := by
  have a := Small.all h
  refine ⟨by simpa only [PyData.showable] using a.sh, by simpa only [PyData.hasDict] using a.nd, by simp only [PyData.depth]; have := a.dp; omega, ?_, by simpa only [PyData.canLay0] using a.cl⟩
  simp only [PyData.shown]
  have b := listText_len_le (PyData.shownAll ds)
  have c := a.ln
  rw [a.ll] at b
  rw [Nat.mul_add]
  omega
theorem small_tuple {k L : Nat} {ds : List PyData} (h : ∀ d ∈ ds, Small d k L) : Small (.tuple ds) (k + 1) (ds.length * (L + 2) + 3) := by
  have a := Small.all h
  refine ⟨by simpa only [PyData.showable] using a.sh, by simpa only [PyData.hasDict] using a.nd, by simp only [PyData.depth]; have := a.dp; omega, ?_, by simpa only [PyData.canLay0] using a.cl⟩
  simp only [PyData.shown]
  have b := tupleText_len_le (PyData.shownAll ds)
  have c := a.ln
  rw [a.ll] at b
  rw [Nat.mul_add]
  omega
theorem Small.mono {d : PyData} {k L k' L' : Nat} (h : Small d k L) (hk : k ≤ k') (hL : L ≤ L') : Small d k' L' := ⟨h.sh, h.nd, Nat.le_trans h.dp hk, Nat.le_trans h.ln hL, h.cl⟩
theorem Small.shaped {d : PyData} {k L : Nat} (h : Small d k L) (hk : k ≤ 64) : SeqAt.shaped d = true := by
  unfold SeqAt.shaped
  rw [h.cl, decide_eq_true (Nat.le_trans h.dp hk)]
  rfl
theorem small_int {i : Int} (h : i.natAbs < 10 ^ 9) : Small (.int i) 0 10 := by
  have h9 : i.natAbs < 2 ^ 1920 := Nat.lt_of_lt_of_le h (by decide +kernel)
  refine ⟨?_, rfl, Nat.le_refl _, ?_, rfl⟩
  · simp only [PyData.showable]
    refine decide_eq_true ?_
    by_cases z : i.natAbs = 0
    · rw [z]; decide
    · exact (Nat.log2_lt z).mpr h9
  · simp only [PyData.shown]
    have := int_text_length_le10 (a := i) (k := 9) (by decide) h
    rw [PySem.ofString_length]
    exact this
/-! ### data in a heap -/
theorem dp_ints {K : PySem.W.Frag} {H : Hp} : ∀ ns : List Int, DpAll K H (ns.map V.int) (ns.map PyData.int)
  | [] => .nil
  | n :: ns => .cons (.int n) (dp_ints ns)
mutual
theorem Dp.ext {K : PySem.W.Frag} {H H' : Hp} (e : Ex H H') : ∀ {v : V} {d : PyData}, Dp K H v d → Dp K H' v d
  | _, _, .non => .non
  | _, _, .bl b => .bl b
  | _, _, .int i => .int i
  | _, _, .str x => .str x
  | _, _, .lst h a => .lst (ex_l e h) (DpAll.ext e a)
  | _, _, .tup h a => .tup (ex_t e h) (DpAll.ext e a)
theorem DpAll.ext {K : PySem.W.Frag} {H H' : Hp} (e : Ex H H') : ∀ {vs : List V} {ds : List PyData}, DpAll K H vs ds → DpAll K H' vs ds
  | _, _, .nil => .nil
  | _, _, .cons h a => .cons (Dp.ext e h) (DpAll.ext e a)
end
theorem eqvAll_ints_nil {ns : List Int} : PyData.eqvAll (ns.map PyData.int) [] = ns.isEmpty := by
  cases ns with
  | nil => rfl
  | cons x r => rfl
theorem repr_ok {K : PySem.W.Frag} {x : V} {d : PyData} {H : Hp} {Q : VK} {k L : Nat} (h : Dp K H x d) (s : Small d k L) (hk : k ≤ 40) (hL : L ≤ 16000000) (q : Q (.str d.shown) H) : rReprD K [x] H Q :=
  ⟨x, d, rfl, h, s.sh, s.nd, Nat.le_trans s.dp hk, Nat.le_trans (Nat.le_trans s.ln hL) (by rw [sizeLine_eq]; decide), q⟩
end MyG

/-! ### one layer of a reading opened -/
namespace MyG
open PySem PySem.Spec PyProof.Rows L2 Evl
section
variable {σ : L2.St} {H : Hp} {Q : VK} {ta tb : TE} {t : TT} {tt tu : TS} {D : Ends} {g : TG} {as tr : TA}
theorem un_and (h : ta σ H fun x H1 => ∃ c, x = .bl c ∧ if c = true then tb σ H1 Q else Q (.bl false) H1) : tAndV ta tb σ H Q := h
theorem un_or (h : ta σ H fun x H1 => ∃ c, x = .bl c ∧ if c = true then Q (.bl true) H1 else tb σ H1 Q) : tOrV ta tb σ H Q := h
theorem un_cb {r : List V → Hp → VK → Prop} (h : as σ H fun vs H1 => r vs H1 Q) : tCB r as σ H Q := h
theorem un_call {sp : Sp} {dvs : List V} {E : XK} (h : as σ H fun vs H1 => sp (vs ++ dvs) H1 Q E) : tCall sp dvs E as σ H Q := h
theorem un_cons {R : List V → Hp → Prop} (h : ta σ H fun x H1 => tr σ H1 fun xs H2 => R (x :: xs) H2) : tCons ta tr σ H R := h
theorem un_op {r : R2} (h : ta σ H fun x H1 => tb σ H1 fun y H2 => r x y H2 Q) : tOp r ta tb σ H Q := h
theorem un_test {R : Bool → Hp → Prop} (h : ta σ H fun x H' => ∃ k, x = .bl k ∧ R k H') : tTest ta σ H R := h
theorem un_lst (h : as σ H fun xs H1 => xs.length ≤ sizeLine ∧ ∀ p, H1 p = none → Q (.ref p) (upd H1 p (.lst xs))) : tLst as σ H Q := h
theorem un_ret (h : ta σ H D.rt) : tRet ta D σ H := h
theorem un_asg (h : ta σ H fun x H1 => g x σ H1 D.nx) : tAsg ta g D σ H := h
theorem un_seq (h : tt { D with nx := tu D } σ H) : tSeq tt tu D σ H := h
theorem un_if (h : t σ H fun b H1 => if b = true then tt D σ H1 else tu D σ H1) : tIfS t tt tu D σ H := h
end
end MyG
namespace MyG
open PySem PySem.Spec PyProof.Rows L2 Evl
section
variable {σ : L2.St} {H : Hp} {ta : TE} {t : TT} {R : Bool → Hp → Prop}
theorem un_not (h : t σ H fun c H1 => R (!c) H1) : tNot t σ H R := h
theorem un_tB (h : ta σ H fun x H1 => ∃ c, x = .bl c ∧ R c H1) : tB ta σ H R := h
theorem un_c {v : V} {Q : VK} (h : Q v H) : tC v σ H Q := h
theorem un_next {D : Ends} (h : D.nx σ H) : tNext D σ H := h
theorem un_yes (h : R true H) : tYes σ H R := h
end
end MyG

/-! ### the layer's rules with the written part named (for the blocks of comprehensions) -/
namespace MyG
open PySem PySem.Spec PyProof.Rows L2 Evl
section
variable {X : Cx} {K : PySem.W.Frag}
def rLenQ (K : PySem.W.Frag) : List V → Hp → VK → Prop := fun xs H Q => ∃ p ys, xs = [.ref p] ∧ (SqL K H p ys ∨ SqT K H p ys) ∧ Q (.int ys.length) H
def rListQ (K : PySem.W.Frag) : List V → Hp → VK → Prop := fun xs H Q => ∃ p ys, xs = [.ref p] ∧ (SqL K H p ys ∨ SqT K H p ys) ∧ ∀ l, H l = none → Q (.ref l) (upd H l (.lst ys))
theorem ix_listK (h : X.K = K) : IxR X (rIxL K) := by subst h; exact ix_list
theorem ix_tupK (h : X.K = K) : IxR X (rIxT K) := by subst h; exact ix_tup
theorem op_inK (h : X.K = K) : OpR X (compareOp .In) (rIn K false) := by subst h; exact op_in_seq
theorem op_niK (h : X.K = K) : OpR X (compareOp .NotIn) (rIn K true) := by subst h; exact op_notIn_seq
theorem op_eqK (h : X.K = K) (hu : X.A.units + 64 < cLine) : OpR X (compareOp .Eq) (rEqD K) := by subst h; exact op_eqD hu
theorem op_neK (h : X.K = K) (hu : X.A.units + 64 < cLine) : OpR X (compareOp .NotEq) (rNeD K) := by subst h; exact op_neD hu
theorem sl_listK (h : X.K = K) : SlR X (rSlL K) := by subst h; exact sl_list
theorem sl_tupK (h : X.K = K) : SlR X (rSlT K) := by subst h; exact sl_tup
theorem catTK (h : X.K = K) : OpR X (binaryOp .Add) (rCatT K) := by subst h; exact op_catT
theorem lenK (h : X.K = K) : CallR X (.builtin "len") (rLenQ K) := by subst h; exact call_len_seq
theorem listK (h : X.K = K) : CallR X (.type "list") (rListQ K) := by subst h; exact call_list_of
theorem sumK (h : X.K = K) (hc : X.calm = true) : CallR X (.builtin "sum") (rSum K) := by subst h; exact cr_sum hc
theorem allK (h : X.K = K) (hc : X.calm = true) : CallR X (.builtin "all") (rAll K) := by subst h; exact cr_all hc
theorem sortedK (h : X.K = K) : CallR X (.builtin "sorted") (rSorted K) := by subst h; exact cr_sorted
theorem isiK (h : X.K = K) : CallR X (.builtin "isinstance") (rIsi K) := by subst h; exact call_isi
theorem reprK {k : Nat} (h : X.K = K) (hgd : X.A.guards = some []) (room : Room k X.A) : CallR X (.builtin "repr") (rReprD K) := by subst h; exact call_reprD hgd room
theorem fldK {e : Expr} {ta : TE} {f : Str} {pos : Pos} (h : X.K = K) (he : PE X e ta) (hb : attributeBase e f X.env (eval e X.env) = eval e X.env) : PE X (.Attribute e f pos) (tFld K ta f) := by subst h; exact pe_fld he hb
theorem iListK {tg l : Expr} {tl : TE} (h : X.K = K) (hl : PE X l tl) : PI X tg l (iList K tl) := by subst h; exact pi_list hl
theorem iTupK {tg l : Expr} {tl : TE} (h : X.K = K) (hl : PE X l tl) : PI X tg l (iTup K tl) := by subst h; exact pi_tup hl
theorem lenSetK {a : Expr} {ta : TE} {p p2 q pos : Pos} (h : X.K = K) (hg : Gl X "len") (hm : X.mg "len" = none) (hg2 : Gl X "set") (hm2 : X.mg "set" = none) (ha : PE X a ta) (hc : X.calm = true := by rfl)
    (na : starEach [a] X.env = (false, eval a X.env) :: starEach [] X.env := by rfl) : PE X (.Call (.Name "len" p) [.Call (.Name "set" p2) [a] [] q] [] pos) (tLenSetG K ta) := by subst h; exact pe_lenSetG hg hm hg2 hm2 ha hc na
end
end MyG

set_option maxHeartbeats 2000000
/-! == and != where an instance with an own __eq__ stands on one side. -/
namespace MyG
open PySem PySem.Spec PyProof.Rows
section
variable {prog : Program} {w : World} {A : Around} {E : Value → Shared → Prop} {h : Heap} {g : Array GenState} {d : Drawn} {t : Nat} {os : OsState} {x C dx : Addr} {Q : Value → Shared → Prop}
/-- what the built-in == says of an instance on its right: it declines -/
def Declines (prog : Program) (w : World) (A : Around) (h : Heap) (id : String) (u : Value) (x : Addr) : Prop :=
  ∀ (E : Value → Shared → Prop) (Q : Value → Shared → Prop) (g : Array GenState) (d : Drawn) (t : Nat) (os : OsState), (∀ tk, Q .notImplemented ⟨h, g, d, tk, os⟩) → wpAny (model prog w) A (call (.builtin id) [u, .ref x]) Q E ⟨h, g, d, t, os⟩
theorem dec_none : Declines prog w A h "NoneType.__eq__" .none x := by
  intro E Q g d t os q
  refine wpAny_call_entry F.slot_NoneType_eq (typeIs_none _) F.entry_NoneType_eq ?_ (F.args_NoneType_eq_2 _ _)
  unfold Builtin.«NoneType.__eq__»
  repeat wp_step
  all_goals exact ⟨_, rfl, q _⟩
theorem dec_int {i : Int} {tk : Tok} (hx : h.get? x = some (PySem.W.instObj C dx)) : Declines prog w A h "int.__eq__" (.int i tk) x := by
  intro E Q g d t os q
  refine wpAny_call_entry F.slot_int_eq (typeIs_int _ _ _) F.entry_int_eq ?_ (F.args_int_eq_2 _ _)
  unfold Builtin.«int.__eq__»
  repeat wp_step
  all_goals exact ⟨_, rfl, q _⟩
theorem dec_bool {b : Bool} (hx : h.get? x = some (PySem.W.instObj C dx)) : Declines prog w A h "int.__eq__" (.bool b) x := by
  intro E Q g d t os q
  refine wpAny_call_entry F.slot_bool_eq (PySem.typeIs_bool _ _) F.entry_int_eq ?_ (F.args_int_eq_2 _ _)
  unfold Builtin.«int.__eq__»
  repeat wp_step
  all_goals exact ⟨_, rfl, q _⟩
theorem dec_str {y : Str} {tk : Tok} (hx : h.get? x = some (PySem.W.instObj C dx)) : Declines prog w A h "str.__eq__" (.str y tk) x := by
  intro E Q g d t os q
  refine wpAny_call_entry F.slot_str_eq (typeIs_str _ _ _) F.entry_str_eq ?_ (F.args_str_eq_2 _ _)
  unfold Builtin.«str.__eq__» Builtin.Str.strCompare
  repeat wp_step
  all_goals exact ⟨_, rfl, q _⟩
theorem inst_not {T : String} (hx : h.get? x = some (PySem.W.instObj C dx)) (hs : PySem.W.Looks (model prog w) h (isSubtype (.ref C) (.type T)) false) {A : Around} {E : Value → Shared → Prop} {Q : Bool → Shared → Prop} (q : Q false ⟨h, g, d, t, os⟩) :
    wpAny (model prog w) A (isInstance (.ref x) (.type T)) Q E ⟨h, g, d, t, os⟩ := by
  unfold isInstance
  exact wpAny_bind (wpAny_typeOf_ref hx (hs.at q))
theorem dec_list {l : Addr} {o : Obj} (hl : h.get? l = some o) (hlc : o.cls = .type "list") (hx : h.get? x = some (PySem.W.instObj C dx)) (hs : PySem.W.Looks (model prog w) h (isSubtype (.ref C) (.type "list")) false) : Declines prog w A h "list.__eq__" (.ref l) x := by
  intro E Q g d t os q
  refine wpAny_call_entry F.slot_list_eq ⟨_, hl, hlc⟩ F.entry_list_eq ?_ (F.args_list_eq_2 _ _)
  unfold Builtin.«list.__eq__»
  repeat (first | (refine wpAny_bind (m := isInstance (.ref x) (.type "list")) (inst_not hx hs ?_)) | wp_step)
  all_goals exact ⟨_, rfl, q _⟩
theorem dec_tuple {l : Addr} {o : Obj} (hl : h.get? l = some o) (hlc : o.cls = .type "tuple") (hx : h.get? x = some (PySem.W.instObj C dx)) (hs : PySem.W.Looks (model prog w) h (isSubtype (.ref C) (.type "tuple")) false) : Declines prog w A h "tuple.__eq__" (.ref l) x := by
  intro E Q g d t os q
  refine wpAny_call_entry F.slot_tuple_eq ⟨_, hl, hlc⟩ F.entry_tuple_eq ?_ (F.args_tuple_eq_2 _ _)
  unfold Builtin.«tuple.__eq__»
  repeat (first | (refine wpAny_bind (m := isInstance (.ref x) (.type "tuple")) (inst_not hx hs ?_)) | wp_step)
  all_goals exact ⟨_, rfl, q _⟩
theorem dec_dict {l : Addr} {o : Obj} (hl : h.get? l = some o) (hlc : o.cls = .type "dict") (hx : h.get? x = some (PySem.W.instObj C dx)) (hs : PySem.W.Looks (model prog w) h (isSubtype (.ref C) (.type "dict")) false) : Declines prog w A h "dict.__eq__" (.ref l) x := by
  intro E Q g d t os q
  refine wpAny_call_entry F.slot_dict_eq ⟨_, hl, hlc⟩ F.entry_dict_eq ?_ (F.args_dict_eq_2 _ _)
  unfold Builtin.«dict.__eq__»
  repeat (first | (refine wpAny_bind (m := isInstance (.ref x) (.type "dict")) (inst_not hx hs ?_)) | wp_step)
  all_goals exact ⟨_, rfl, q _⟩
/-- u == x, u of a built-in type whose == declines, x an instance: the other way about, by its own -/
theorem rc_right {u : Value} {T id : String} {K : PySem.W.Frag} {f : Addr} (hT : ∀ s : Shared, s.heap = h → s.TypeIs u T) (hs1 : Slot T (cmpInfo .Eq).2.1 id) (dec : Declines prog w A h id u x) (KX : K.In h) (hx : h.get? x = some (PySem.W.instObj C dx))
    (hs : PySem.W.Looks (model prog w) h (isSubtype (.ref C) (.type T)) false) (he : PySem.W.findIn K (.ref C) "__eq__" = some (some (.ref f))) (hf : PySem.W.isFn K (.ref f) = true) (hu : A.units < cLine)
    (I : PySem.W.InstAt h x (PySem.W.instObj C dx) C none ∨ ∃ od, PySem.W.InstAt h x (PySem.W.instObj C dx) C (some od))
    (hcall : ∀ tk, wpAny (model prog w) A (call (.ref f) [.ref x, u]) (fun v s' => ∃ b, v = .bool b ∧ Q v s') E ⟨h, g, d, tk, os⟩) :
    wpAny (model prog w) A (richCompare .Eq u (.ref x)) Q E ⟨h, g, d, t, os⟩ := by
  obtain ⟨od, I⟩ : ∃ od, PySem.W.InstAt h x (PySem.W.instObj C dx) C od := by
    rcases I with I | ⟨od, I⟩
    · exact ⟨_, I⟩
    · exact ⟨_, I⟩
  unfold richCompare
  rw [(hT ⟨h, g, d, t, os⟩ rfl).oneThing_none]
  refine wpAny_holding (wpAny_bind (wpAny_cRoomFor hu ?_))
  rw [cmpInfo_Eq]
  dsimp only
  refine wpAny_bind (wpAny_typeOf (hT _ rfl) (wpAny_bind (wpAny_typeOf_ref hx ?_)))
  rw [show (Value.type T != (PySem.W.instObj C dx).cls) = true from rfl, if_pos rfl]
  refine wpAny_bind (hs.at ?_)
  simp only [Bool.false_eq_true, if_false, Bool.not_false, if_true]
  refine wpAny_bind (m := tryCompare u _ (.ref x)) (wpAny_tryCompare_declines (hT _ rfl) hs1 (dec _ _ _ _ _ _ fun tk => ⟨rfl, ?_⟩))
  refine wpAny_bind (m := tryCompare (.ref x) _ u) ?_
  unfold tryCompare
  refine wpAny_bind (PySem.W.ifBound_K (KX) I he hf (wpAny_mono (hcall tk) (fun v s' hv => ?_) fun _ _ e => e))
  obtain ⟨b, rfl, hq⟩ := hv
  exact wpAny_pure (wpAny_pure hq)
/-- x != b by the built-in !=, which asks the own == -/
theorem ne_own {b tb : Value} {K : PySem.W.Frag} {f : Addr} {od : Option Obj} (KX : K.In h) (I : PySem.W.InstAt h x (PySem.W.instObj C dx) C od) (hb : PySem.W.Looks (model prog w) h (typeOf b) tb) (hn : PySem.W.notFirst K C tb = true)
    (he : PySem.W.findIn K (.ref C) "__eq__" = some (some (.ref f))) (hf : PySem.W.isFn K (.ref f) = true) (hne : PySem.W.findIn K (.ref C) "__ne__" = some (some (.builtin "object.__ne__"))) (hob : PySem.W.subIn K (.ref C) (.type "object") = some true) (hu : A.units + 1 < cLine)
    (hcall : ∀ tk, wpAny (model prog w) A.in1 (call (.ref f) [.ref x, b]) (fun v s' => ∃ k, v = .bool k ∧ Q (.bool (!k)) s') E ⟨h, g, d, tk, os⟩) :
    wpAny (model prog w) A (richCompare .NotEq (.ref x) b) Q E ⟨h, g, d, t, os⟩ := by
  have hx := I.at_
  -- the built-in's own body
  have body : ∀ tk, wpAny (model prog w) A.in1 (Builtin.«object.__ne__» ⟨[.ref x, b], []⟩) (fun fin s' => ∃ k, fin = .done (.ret (.bool k)) ∧ Q (.bool k) s') E ⟨h, g, d, tk, os⟩ := by
    intro tk
    unfold Builtin.«object.__ne__»
    repeat (first
      | with_reducible refine wpAny_cRoomFor hu ?_
      | (refine wpAny_bind (m := callSpecialIfBound? (.ref x) (Str.ofString "__eq__") [b]) (PySem.W.ifBound_K KX I he hf (wpAny_mono (hcall _) (fun r s' hr => by
            obtain ⟨k, rfl, hq⟩ := hr
            repeat (first | exact ⟨_, rfl, hq⟩ | (refine wpAny_bind (m := truthy (.bool _)) (wpAny_truthy_bool ?_)) | wp_step)) fun _ _ e => e)))
      | wp_step)
  have chk : ∀ tk {Q' : Unit → Shared → Prop} {E' : Value → Shared → Prop}, Q' () ⟨h, g, d, tk, os⟩ → wpAny (model prog w) A.in1 (checkBuiltinCall "object.__ne__" ⟨[.ref x, b], []⟩) Q' E' ⟨h, g, d, tk, os⟩ := by
    intro tk Q' E' hq
    simp only [checkBuiltinCall, F.cmpKind_ne, F.cmpSplit_ne]
    refine wpAny_bind ?_
    · unfold isInstance
      repeat (first | (with_reducible refine wpAny_loadPart_at hx ?_) | wp_step)
      refine (PySem.W.looks_subIn KX hob).at ?_
      simp only [Bool.not_true, Bool.false_eq_true, if_false]
      have ha := F.cmpArgs_ne (.ref x) b
      cases hsig : Manifest.signature? "object.__ne__" with
      | none => exact wpAny_pure hq
      | some sig =>
        simp only [argsOk, hsig] at ha
        have h2 : Bind.checkArgs "object.__ne__" sig ⟨[.ref x, b], []⟩ = pure () := ha
        show wpAny _ _ (Bind.checkArgs "object.__ne__" sig ⟨[.ref x, b], []⟩) Q' E' _
        rw [h2]
        exact wpAny_pure hq
  have one : ∀ tk, wpAny (model prog w) A (tryCompare (.ref x) "__ne__" b) (fun r s' => ∃ k, r = some (.bool k) ∧ Q (.bool k) s') E ⟨h, g, d, tk, os⟩ := by
    intro tk
    unfold tryCompare
    have inner : ∀ tk, wpAny (model prog w) A (call (.builtin "object.__ne__") [.ref x, b]) (fun v s' => ∃ k, v = .bool k ∧ Q (.bool k) s') E ⟨h, g, d, tk, os⟩ := by
      intro tk
      refine wpAny_call (codeAny_call_builtin F.slot_range_iterator_ne.plain F.cmpEntry_ne (chk tk ?_))
      refine wpAny_mono (body tk) (fun fin s' hf => ?_) fun _ _ e => e
      obtain ⟨k, rfl, hq⟩ := hf
      exact ⟨k, rfl, hq⟩
    refine wpAny_bind (m := callSpecialIfBound? (.ref x) "__ne__" [b]) ?_
    simp only [callSpecialIfBound?, bindSpecialIfBound?]
    refine wpAny_holding (wpAny_bind (wpAny_bind (wpAny_bind (I.type.at ((PySem.W.looks_findIn KX hne).at ?_)))))
    simp only [F.slot_range_iterator_ne.bind]
    refine wpAny_bind (wpAny_askSetting (wpAny_ite ?_))
    have fin : ∀ tk, wpAny (model prog w) A (call (.builtin "object.__ne__") ([.ref x] ++ [b]) >>= fun v => pure (some v)) (fun a s' => wpAny (model prog w) A (match a with
        | some .notImplemented | none => pure none
        | some v => pure (some v)) (fun r s' => ∃ k, r = some (.bool k) ∧ Q (.bool k) s') E s') E ⟨h, g, d, tk, os⟩ := fun tk =>
      wpAny_bind (wpAny_mono (inner tk) (fun v s' hv => by
        obtain ⟨k, rfl, hq⟩ := hv
        exact wpAny_pure (wpAny_pure ⟨k, rfl, hq⟩)) fun _ _ e => e)
    split
    · exact wpAny_bind (wpAny_pure (wpAny_pure (fin _)))
    · exact wpAny_tryCatch (wpAny_bind (wpAny_pure (wpAny_pure (fin _))))
  unfold richCompare
  simp only [oneThing_ref]
  refine wpAny_holding (wpAny_bind (wpAny_cRoomFor (Nat.lt_of_succ_lt hu) ?_))
  rw [cmpInfo_NotEq]
  dsimp only
  refine wpAny_bind (I.type.at (wpAny_bind (hb.at ?_)))
  by_cases q : (Value.ref C != tb) = true
  · rw [if_pos q]
    have e : PySem.W.subIn K tb (.ref C) = some false := by
      rcases Bool.or_eq_true_iff.mp hn with e | e
      · rw [beq_iff_eq.mp e] at q
        simp at q
      · exact beq_iff_eq.mp e
    refine wpAny_bind ((PySem.W.looks_subIn KX e).at ?_)
    simp only [Bool.false_eq_true, if_false]
    refine wpAny_bind (wpAny_mono (one _) (fun r s' hr => ?_) fun _ _ e => e)
    obtain ⟨k, rfl, hq⟩ := hr
    exact wpAny_pure hq
  · rw [if_neg q]
    refine wpAny_bind (wpAny_pure ?_)
    simp only [Bool.false_eq_true, if_false]
    refine wpAny_bind (wpAny_mono (one _) (fun r s' hr => ?_) fun _ _ e => e)
    obtain ⟨k, rfl, hq⟩ := hr
    exact wpAny_pure hq
end
end MyG

/-! ### the same over the layer -/
namespace MyG
open PySem PySem.Spec PyProof.Rows L2 Evl
/-- what is written of a class with an own __eq__ (f) and no own __ne__ -/
structure EqC (K : PySem.W.Frag) (C f : Addr) : Prop where
  he : PySem.W.findIn K (.ref C) "__eq__" = some (some (.ref f))
  hf : PySem.W.isFn K (.ref f) = true
  ne : PySem.W.findIn K (.ref C) "__ne__" = some (some (.builtin "object.__ne__"))
  ob : PySem.W.subIn K (.ref C) (.type "object") = some true
  no : ∀ T ∈ kinds7, PySem.W.subIn K (.ref C) (.type T) = some false
/-- an instance of the class at C, or a thing of a built-in kind -/
def AnyI (C : Addr) (H : Hp) (y : V) : Prop := (∃ t, AnyT H y t) ∨ ∃ b dy gs, y = .ref b ∧ H b = some (.ins C dy gs)
theorem mro7 : (kinds7.all fun t => match fastBuiltinMro t with
  | some l => l.all fun v => match v with
    | .ref _ => false
    | _ => true
  | none => false) = true := by decide +kernel
theorem first7 {K : PySem.W.Frag} {C : Addr} {t : String} (h : t ∈ kinds7) : PySem.W.notFirst K C (.type t) = true := by
  have z := List.all_eq_true.mp mro7 t h
  unfold PySem.W.notFirst
  rw [Bool.or_eq_true]
  right
  show (((fastBuiltinMro t).map (·.contains (.ref C))) == some false) = true
  cases e : fastBuiltinMro t with
  | none => rw [e] at z; cases z
  | some l =>
    rw [e] at z
    have z' : ∀ v ∈ l, (match v with | .ref _ => false | _ => true) = true := List.all_eq_true.mp z
    have n : l.contains (.ref C) = false := by
      cases c : l.contains (.ref C) with
      | false => rfl
      | true =>
        have m := List.contains_iff_mem.mp c
        exact absurd (z' _ m) Bool.false_ne_true
    simp only [Option.map_some, n]
    rfl
section
variable {X : Cx} {pins : List (Addr × Obj)} {σ : L2.St} {H : Hp} {s : Shared} {C f : Addr} {fd : FuncData} {ps : List Str} {n : Nat} {sp : Sp} {CX : CXT} {E : XK}
theorem any_type {y : V} {v : Value} {t : String} (I : Inv X pins σ H s) (r : RelV y v) (a : AnyT H y t) : ∀ s' : Shared, s'.heap = s.heap → s'.TypeIs v t := by
  intro s' hs
  cases a with
  | non => cases (show v = Value.none from r); exact typeIs_none _
  | bl b => cases (show v = Value.bool b from r); exact PySem.typeIs_bool _ _
  | int i => obtain ⟨k, rfl⟩ := (show ∃ k, v = Value.int i k from r); exact typeIs_int _ _ _
  | str x => obtain ⟨k, rfl⟩ := (show ∃ k, v = Value.str x k from r); exact typeIs_str _ _ _
  | @lst a xs h =>
    cases (show v = Value.ref a from r)
    obtain ⟨_, _, k, _, e⟩ := I.hok a _ h
    exact ⟨_, by rw [hs]; exact e, rfl⟩
  | @tup a xs h =>
    cases (show v = Value.ref a from r)
    obtain ⟨_, _, _, o, e, e2, _⟩ := I.hok a _ h
    exact ⟨o, by rw [hs]; exact e, e2⟩
  | @dK a xs h =>
    cases (show v = Value.ref a from r)
    obtain ⟨_, _, _, _, o, _, _, e, e2, _⟩ := I.hok a _ h
    exact ⟨o, by rw [hs]; exact e, e2.1⟩
theorem any_looks {y : V} {v : Value} {M : Model} {t : String} (I : Inv X pins σ H s) (r : RelV y v) (a : AnyT H y t) : PySem.W.Looks M s.heap (typeOf v) (.type t) := by
  intro A Q E s' k q
  have J : s'.TypeIs v t := by
    cases a with
    | non => cases (show v = Value.none from r); exact typeIs_none _
    | bl b => cases (show v = Value.bool b from r); exact PySem.typeIs_bool _ _
    | int i => obtain ⟨k, rfl⟩ := (show ∃ k, v = Value.int i k from r); exact typeIs_int _ _ _
    | str x => obtain ⟨k, rfl⟩ := (show ∃ k, v = Value.str x k from r); exact typeIs_str _ _ _
    | @lst a xs h =>
      cases (show v = Value.ref a from r)
      obtain ⟨_, _, n, _, e⟩ := I.hok a _ h
      exact ⟨_, k _ _ e, rfl⟩
    | @tup a xs h =>
      cases (show v = Value.ref a from r)
      obtain ⟨_, _, _, o, e, e2, _⟩ := I.hok a _ h
      exact ⟨o, k _ _ e, e2⟩
    | @dK a xs h =>
      cases (show v = Value.ref a from r)
      obtain ⟨_, _, _, _, o, _, _, e, e2, _⟩ := I.hok a _ h
      exact ⟨o, k _ _ e, e2.1⟩
  exact wpAny_typeOf J q
def rEqL (C : Addr) (sp : Sp) (E : XK) : R2 := fun x y H Q => ∃ a dx fs, x = .ref a ∧ H a = some (.ins C dx fs) ∧ AnyI C H y ∧ sp [.ref a, y] H (fun v H' => ∃ k, v = .bl k ∧ Q (.bl k) H') E
def rNeL (C : Addr) (sp : Sp) (E : XK) : R2 := fun x y H Q => ∃ a dx fs, x = .ref a ∧ H a = some (.ins C dx fs) ∧ AnyI C H y ∧ sp [.ref a, y] H (fun v H' => ∃ k, v = .bl k ∧ Q (.bl (!k)) H') E
def rEqR (C : Addr) (sp : Sp) (E : XK) : R2 := fun y x H Q => ∃ a dx fs t, x = .ref a ∧ H a = some (.ins C dx fs) ∧ AnyT H y t ∧ sp [.ref a, y] H (fun v H' => ∃ k, v = .bl k ∧ Q (.bl k) H') E
/-- the own __eq__, called wherever there is room -/
theorem run_eq {A : Around} {v : Value} {y : V} {a : Addr} {Q : VK} (F : FnOk X.prog X.w X.K X.mg X.base CX n f fd ps sp) (room : Room n A) (fr : A.frames = X.A.frames) (hb : Binds X.K fd ps []) (hx : Passes CX X E) (I : Inv X pins σ H s) (r : RelV y v) (h : sp [.ref a, y] H Q E) :
    wpAny (model X.prog X.w) A (call (.ref f) [.ref a, v]) (EP X pins σ Q) X.xe s := by
  have e0 : Env0 X.prog X.w X.K X.mg X.base A X.stack s H := { I.env0 with frames := by rw [fr]; exact I.env0.frames }
  have rel : Vals [V.ref a, y] [Value.ref a, v] := .cons rfl (.cons r .nil)
  have hl : [Value.ref a, v].length = ps.length := rel.length.symm.trans (F.len _ _ _ _ h)
  have b := hb s [Value.ref a, v] I.kIn (by rw [List.append_nil]; exact hl)
  rw [List.append_nil] at b
  refine wpAny_call (codeAny_mono (F.run A X.stack s H ⟨[.ref a, v], []⟩ [.ref a, v] [.ref a, y] Q E room e0 b rel h) (fun r s' hq => ?_))
  match r, hq with
  | .error e, hq => exact hx pins σ H s e s' I hq
  | .ok (.ret u), hq => exact I.after hq
theorem op_eqL (c : EqC X.K C f) (F : FnOk X.prog X.w X.K X.mg X.base CX n f fd ps sp) (room : Room n X.A) (hb : Binds X.K fd ps []) (hx : Passes CX X E) : OpR X (compareOp .Eq) (rEqL C sp E) := by
  intro pins s σ H x y v u Q I rx ry h
  obtain ⟨a, dx, fs, rfl, ha, hy, hs⟩ := h
  cases rx
  obtain ⟨mA, J, _⟩ := ins_get I.hok ha
  obtain ⟨od, J, _⟩ := J.look
  obtain ⟨m, hF⟩ := I.fr
  show wpAny (model X.prog X.w) X.A (richCompare .Eq (.ref a) u) (EP X pins σ Q) X.xe s
  have go : wpAny (model X.prog X.w) X.A (call (.ref f) [.ref a, u]) (PySem.W.CmpBack (EP X pins σ Q)) X.xe s := by
    refine wpAny_mono (run_eq F room rfl hb hx I ry hs) (fun w s' hw => ?_) fun _ _ e => e
    obtain ⟨z, H', I', rz, k, rfl, hq⟩ := hw
    cases rz
    exact ⟨.bl k, H', I', rfl, hq⟩
  rcases hy with ⟨t, ht⟩ | ⟨b, dy, gs, rfl, hb'⟩
  · exact PySem.W.cmp_K (op := .Eq) (tb := .type t) room.units0 hF I.ok.mod.kin J (any_looks I ry ht) (first7 ht.mem) c.he c.hf go
  · cases ry
    obtain ⟨mB, J', _⟩ := ins_get I.hok hb'
    obtain ⟨od', J', _⟩ := J'.look
    exact PySem.W.cmp_K (op := .Eq) (tb := .ref C) room.units0 hF I.ok.mod.kin J J'.type (by simp [PySem.W.notFirst]) c.he c.hf go
theorem op_neL (c : EqC X.K C f) (F : FnOk X.prog X.w X.K X.mg X.base CX n f fd ps sp) (room : Room (n + 1) X.A) (hb : Binds X.K fd ps []) (hx : Passes CX X E) : OpR X (compareOp .NotEq) (rNeL C sp E) := by
  intro pins s σ H x y v u Q I rx ry h
  obtain ⟨a, dx, fs, rfl, ha, hy, hs⟩ := h
  cases rx
  obtain ⟨mA, J, _⟩ := ins_get I.hok ha
  obtain ⟨od, J, _⟩ := J.look
  show wpAny (model X.prog X.w) X.A (richCompare .NotEq (.ref a) u) (EP X pins σ Q) X.xe s
  have un := room.units
  obtain ⟨hp, g, d, tk, os⟩ := s
  have go : ∀ tk', wpAny (model X.prog X.w) X.A.in1 (call (.ref f) [.ref a, u]) (fun v s' => ∃ k, v = .bool k ∧ EP X pins σ Q (.bool (!k)) s') X.xe ⟨hp, g, d, tk', os⟩ := by
    intro tk'
    refine wpAny_mono (run_eq F room.in1 rfl hb hx (I.tok tk') ry hs) (fun w s' hw => ?_) fun _ _ e => e
    obtain ⟨z, H', I', rz, k, rfl, hq⟩ := hw
    cases rz
    exact ⟨k, rfl, .bl (!k), H', I', rfl, hq⟩
  rcases hy with ⟨t, ht⟩ | ⟨b, dy, gs, rfl, hb'⟩
  · exact ne_own (tb := .type t) I.kIn J (any_looks I ry ht) (first7 ht.mem) c.he c.hf c.ne c.ob (by omega) go
  · cases ry
    obtain ⟨mB, J', _⟩ := ins_get I.hok hb'
    obtain ⟨od', J', _⟩ := J'.look
    exact ne_own (tb := .ref C) I.kIn J J'.type (by simp [PySem.W.notFirst]) c.he c.hf c.ne c.ob (by omega) go
theorem op_eqRt (c : EqC X.K C f) (F : FnOk X.prog X.w X.K X.mg X.base CX n f fd ps sp) (room : Room n X.A) (hb : Binds X.K fd ps []) (hx : Passes CX X E) : OpR X (compareOp .Eq) (rEqR C sp E) := by
  intro pins s σ H y x u v Q I ry rx h
  obtain ⟨a, dx, fs, t, rfl, ha, ht, hs⟩ := h
  cases rx
  obtain ⟨mA, J, _⟩ := ins_get I.hok ha
  obtain ⟨od, J, _⟩ := J.look
  have un := room.units0
  have hT := any_type I ry ht
  have sub := PySem.W.looks_subIn (M := model X.prog X.w) I.kIn (c.no t ht.mem)
  show wpAny (model X.prog X.w) X.A (richCompare .Eq u (.ref a)) (EP X pins σ Q) X.xe s
  have hx' := J.at_
  have ok := I.hok
  obtain ⟨hp, g, d, tk, os⟩ := s
  have go : ∀ tk', wpAny (model X.prog X.w) X.A (call (.ref f) [.ref a, u]) (fun v s' => ∃ k, v = .bool k ∧ EP X pins σ Q v s') X.xe ⟨hp, g, d, tk', os⟩ := by
    intro tk'
    refine wpAny_mono (run_eq F room rfl hb hx (I.tok tk') ry hs) (fun w s' hw => ?_) fun _ _ e => e
    obtain ⟨z, H', I', rz, k, rfl, hq⟩ := hw
    cases rz
    exact ⟨k, rfl, .bl k, H', I', rfl, hq⟩
  have fin : ∀ {id : String}, Slot t (cmpInfo .Eq).2.1 id → Declines X.prog X.w X.A hp id u a → wpAny (model X.prog X.w) X.A (richCompare .Eq u (.ref a)) (EP X pins σ Q) X.xe ⟨hp, g, d, tk, os⟩ := fun {id} sl dec =>
    rc_right hT sl dec I.kIn hx' sub c.he c.hf un (.inr ⟨_, J⟩) go
  cases ht with
  | non => cases (show u = Value.none from ry); exact fin PySem.F.slot_NoneType_eq dec_none
  | bl b => cases (show u = Value.bool b from ry); exact fin PySem.F.slot_bool_eq (dec_bool hx')
  | int i => obtain ⟨k, rfl⟩ := (show ∃ k, u = Value.int i k from ry); exact fin PySem.F.slot_int_eq (dec_int hx')
  | str z => obtain ⟨k, rfl⟩ := (show ∃ k, u = Value.str z k from ry); exact fin PySem.F.slot_str_eq (dec_str hx')
  | @lst b xs h =>
    cases (show u = Value.ref b from ry)
    obtain ⟨_, _, k, _, e⟩ := ok b _ h
    exact fin PySem.F.slot_list_eq (dec_list e rfl hx' sub)
  | @tup b xs h =>
    cases (show u = Value.ref b from ry)
    obtain ⟨_, _, _, o, e, e2, _⟩ := ok b _ h
    exact fin PySem.F.slot_tuple_eq (dec_tuple e e2 hx' sub)
  | @dK b xs h =>
    cases (show u = Value.ref b from ry)
    obtain ⟨_, _, _, _, o, _, _, e, e2, _⟩ := ok b _ h
    exact fin PySem.F.slot_dict_eq (dec_dict e e2.1 hx' sub)
end
end MyG

set_option maxHeartbeats 2000000
/-! a tuple in a list of tuples -/
namespace L2
open PySem PySem.Spec PyProof.Rows
theorem hu65 {k : Nat} {A : Around} (r : Room k A) : A.units + 65 < cLine := by have := r.un; omega
section
variable {X : Cx} {K : PySem.W.Frag}
theorem op_inDK (h : X.K = K) (hu : X.A.units + 65 < cLine) : OpR X (compareOp .In) (rInD K) := by subst h; exact op_inD hu
theorem op_niDK (h : X.K = K) (hu : X.A.units + 65 < cLine) : OpR X (compareOp .NotIn) (rNotInD K) := by subst h; exact op_notInD hu
end
end L2

set_option maxHeartbeats 2000000
/-! isinstance of an own class, data alike, lists cut. -/
namespace MyG
open PySem PySem.Spec PyProof.Rows L2 Evl
/-- what isinstance asks of a class -/
structure IsiC (K : PySem.W.Frag) (C : Addr) : Prop where
  ca : PySem.W.findIn K (.ref C) "__class__" = some (some (.builtin "object.__class__"))
  cn : PySem.W.specialIn K (.builtin "object.__class__") "__get__" = some (some (.builtin "getset_descriptor.__get__"))
  ct : PySem.W.takesIn K (.builtin "object.__class__") = some true
  cm : PySem.W.mroIn K C (.type "object") = some true
  ko : ∀ T ∈ kinds7, PySem.W.kitOne K (.type T) (.ref C) = some false
theorem all7 {P : String → Prop} (h1 : P "NoneType") (h2 : P "bool") (h3 : P "int") (h4 : P "str") (h5 : P "list") (h6 : P "tuple") (h7 : P "dict") : ∀ T ∈ kinds7, P T := by
  intro T h
  simp only [kinds7, List.mem_cons, List.not_mem_nil, or_false] at h
  rcases h with rfl | rfl | rfl | rfl | rfl | rfl | rfl <;> assumption
theorem kit_self {K : PySem.W.Frag} {C : Addr} : PySem.W.kitOne K (.ref C) (.ref C) = some true := by
  unfold PySem.W.kitOne
  rw [if_pos (beq_self_eq_true _)]
theorem isi_ins {K : PySem.W.Frag} {H : Hp} {C a dx : Addr} {fs : List (Str × V)} {Q : VK} (q : IsiC K C) (cl : Cls K C) (h : H a = some (.ins C dx fs)) (k : Q (.bl true) H) : rIsi K [.ref a, .ref C] H Q :=
  ⟨.ref a, .ref C, .ref C, .ref C, true, rfl, .own C, .base (.ins h cl q.ca q.cn q.ct q.cm), kit_self, k⟩
theorem isi_no {K : PySem.W.Frag} {H : Hp} {C : Addr} {x : V} {t : String} {Q : VK} (q : IsiC K C) (h : AnyT H x t) (k : Q (.bl false) H) : rIsi K [x, .ref C] H Q :=
  ⟨x, .ref C, .type t, .ref C, false, rfl, .own C, h.ty, q.ko t h.mem, k⟩
theorem revLK {X : Cx} {K : PySem.W.Frag} {e : Expr} {te : TE} {k : Nat} {p1 p2 p3 pos : Pos} (h : X.K = K) (he : PE X e te) : PE X (.Subscript e (.Slice none none (some (.UnaryOp .USub (.Constant (.int 1) k p1) p2)) p3) pos) (tRevL K te) := by subst h; exact pe_revL he
/-! ### data alike -/
theorem eqv_int (a b : Int) : PyData.eqv (.int a) (.int b) = decide (a = b) := by
  unfold PyData.eqv
  first | rfl | simp
theorem eqvAll_ints : ∀ ns ms : List Int, PyData.eqvAll (ns.map PyData.int) (ms.map PyData.int) = decide (ns = ms)
  | [], [] => by simp [PyData.eqvAll]
  | [], m :: ms => by simp [PyData.eqvAll]
  | n :: ns, [] => by simp [PyData.eqvAll]
  | n :: ns, m :: ms => by
    simp only [List.map_cons, PyData.eqvAll, eqvAll_ints ns ms, eqv_int]
    by_cases h : n = m <;> simp [h]
theorem eqv_ints (ns ms : List Int) : PyData.eqv (.list (ns.map PyData.int)) (.list (ms.map PyData.int)) = decide (ns = ms) := by
  rw [← eqvAll_ints]
  simp only [PyData.eqv]
end MyG

set_option maxHeartbeats 2000000
/-! More values that are known: len, list, sorted, repr, lists put together. -/
namespace MyG
open PySem PySem.Spec PyProof.Rows L2 Evl
section
variable {K : PySem.W.Frag} {σ : L2.St} {H : Hp} {ta tb te : TE}
theorem ev_lenQ {p : Addr} {xs : List V} (ha : Ev te σ H (.ref p)) (h : H p = some (.lst xs)) : Ev (tCB (rLenQ K) (tCons te tNil)) σ H (.int (xs.length : Int)) := fun H1 e Q q =>
  ha H1 e _ fun H2 e2 => ⟨p, xs, rfl, .inl (SqL.of ((e.trans e2) _ _ h)), q H2 e2⟩
theorem el_cat {a : Addr} {xs zs : List V} (h1 : Ev ta σ H (.ref a)) (ha : H a = some (.lst xs)) (h2 : ∀ H1, Ex H H1 → EvL tb σ H1 zs) (hl : xs.length + zs.length ≤ 1000) : EvL (tOp rCat ta tb) σ H (xs ++ zs) := fun H1 e Q q =>
  h1 H1 e _ fun H2 e2 => h2 H2 (e.trans e2) H2 (Ex.refl _) _ fun p H3 hp e3 h3 => ⟨a, p, xs, zs, rfl, rfl, e3 _ _ (e2 _ _ (e _ _ ha)), h3, Nat.le_of_lt (small1000 hl), fun t ht => q t _ (fresh_back (e2.trans e3) ht) ((e2.trans e3).trans (Ex.new ht)) upd_same⟩
theorem un_tup {as : TA} {Q : VK} (h : as σ H fun xs H1 => xs.length ≤ sizeLine ∧ ∀ p, H1 p = none → Q (.ref p) (upd H1 p (.tup xs))) : tTup as σ H Q := h
theorem el_listQ {p : Addr} {xs : List V} (ha : Ev te σ H (.ref p)) (h : H p = some (.lst xs)) : EvL (tCB (rListQ K) (tCons te tNil)) σ H xs := fun H1 e Q q =>
  ha H1 e _ fun H2 e2 => ⟨p, xs, rfl, .inl (SqL.of ((e.trans e2) _ _ h)), fun l hl => q l _ (fresh_back e2 hl) (e2.trans (Ex.new hl)) upd_same⟩
theorem el_revL {p : Addr} {xs : List V} (ha : Ev te σ H (.ref p)) (h : H p = some (.lst xs)) : EvL (tRevL K te) σ H xs.reverse := fun H1 e Q q =>
  ha H1 e _ fun H2 e2 => ⟨p, xs, rfl, SqL.of ((e.trans e2) _ _ h), fun l hl => q l _ (fresh_back e2 hl) (e2.trans (Ex.new hl)) upd_same⟩
theorem el_sorted {p : Addr} {ns qs : List Int} (ha : Ev te σ H (.ref p)) (h : H p = some (.lst (ns.map V.int))) (hl : ns.length < 64) (pm : qs.Perm ns) (so : qs.Pairwise (· ≤ ·)) : EvL (tCB (rSorted K) (tCons te tNil)) σ H (qs.map V.int) := fun H1 e Q q =>
  ha H1 e _ fun H2 e2 => ⟨p, ns, rfl, SqL.of ((e.trans e2) _ _ h), hl, fun ns' l pm' so' hl' => by
    obtain rfl : ns' = qs := PySem.W.ksm_same (pm'.trans pm.symm) so' so
    exact q l _ (fresh_back e2 hl') (e2.trans (Ex.new hl')) upd_same⟩
theorem ev_reprL {xs : List V} {ds : List PyData} {k L : Nat} (ha : EvL te σ H xs) (hd : ∀ H1, Ex H H1 → DpAll K H1 xs ds) (s : Small (.list ds) k L) (hk : k ≤ 40 := by decide) (hL : L ≤ 16000000 := by decide) : Ev (tCB (rReprD K) (tCons te tNil)) σ H (.str (PyData.shown (.list ds))) := fun H1 e Q q =>
  ha H1 e _ fun p H2 hp e2 h2 => ⟨.ref p, .list ds, rfl, .lst (SqL.of h2) (hd H2 (e.trans e2)), s.sh, s.nd, Nat.le_trans s.dp hk, Nat.le_trans (Nat.le_trans s.ln hL) (by rw [sizeLine_eq]; decide), q H2 e2⟩
theorem ev_repr {x : V} {d : PyData} {k L : Nat} (ha : Ev te σ H x) (hd : ∀ H1, Ex H H1 → Dp K H1 x d) (s : Small d k L) (hk : k ≤ 40 := by decide) (hL : L ≤ 16000000 := by decide) : Ev (tCB (rReprD K) (tCons te tNil)) σ H (.str (PyData.shown d)) := fun H1 e Q q =>
  ha H1 e _ fun H2 e2 => ⟨x, d, rfl, hd H2 (e.trans e2), s.sh, s.nd, Nat.le_trans s.dp hk, Nat.le_trans (Nat.le_trans s.ln hL) (by rw [sizeLine_eq]; decide), q H2 e2⟩
theorem dp_bls {H : Hp} : ∀ bs : List Bool, DpAll K H (bs.map V.bl) (bs.map PyData.bool)
  | [] => .nil
  | b :: bs => .cons (.bl b) (dp_bls bs)
end
theorem cut_lo (xs : List V) {k : Nat} (h : k ≤ xs.length) : cutV xs none (some (k : Int)) = xs.take k := by
  unfold cutV
  rw [HT.sIx_none, HT.sIx_nat, List.drop_zero]
  congr 1
  omega
theorem cut_hi (xs : List V) {k : Nat} (h : k ≤ xs.length) : cutV xs (some (k : Int)) none = xs.drop k := by
  unfold cutV
  rw [HT.sIx_none, HT.sIx_nat, show min k xs.length = k by omega]
  rw [List.take_of_length_le (by rw [List.length_drop]; omega)]
theorem small_bool (b : Bool) : Small (.bool b) 0 10 := by
  refine ⟨rfl, rfl, Nat.le_refl _, ?_, rfl⟩
  cases b <;> decide +kernel
theorem small_bools {bs : List Bool} {N : Nat} (hl : bs.length ≤ N) : Small (.list (bs.map PyData.bool)) 1 (N * 12 + 3) := by
  have h := small_list (k := 0) (L := 10) (ds := bs.map PyData.bool) (fun d hd => by
    obtain ⟨x, _, rfl⟩ := List.mem_map.mp hd
    exact small_bool x)
  refine h.mono (Nat.le_refl _) ?_
  rw [List.length_map]
  have := Nat.mul_le_mul_right 12 hl
  omega
end MyG

set_option maxHeartbeats 2000000
/-! Letters: values of one of two classes, t[:0:-1], isinstance with a tuple of kinds. -/
namespace MyG
open PySem PySem.Spec PyProof.Rows L2 Evl HT
/-! ### one of two rules, as the value is -/
def tEi (t1 t2 : TE) : TE := fun σ H Q => t1 σ H Q ∨ t2 σ H Q
theorem pe_either {X : Cx} {e : Expr} {t1 t2 : TE} (h1 : PE X e t1) (h2 : PE X e t2) : PE X e (tEi t1 t2) := ⟨fun pins s σ H Q I h => h.elim (h1.run pins s σ H Q I) (h2.run pins s σ H Q I)⟩
section
variable {t1 t2 : TE} {σ : L2.St} {H : Hp}
theorem ei_l {Q : VK} (h : t1 σ H Q) : tEi t1 t2 σ H Q := .inl h
theorem ei_r {Q : VK} (h : t2 σ H Q) : tEi t1 t2 σ H Q := .inr h
theorem ev_l {v : V} (h : Ev t1 σ H v) : Ev (tEi t1 t2) σ H v := fun H1 e Q q => .inl (h H1 e Q q)
theorem ev_r {v : V} (h : Ev t2 σ H v) : Ev (tEi t1 t2) σ H v := fun H1 e Q q => .inr (h H1 e Q q)
theorem eu_l {xs : List V} (h : EvU t1 σ H xs) : EvU (tEi t1 t2) σ H xs := fun H1 e Q q => .inl (h H1 e Q q)
theorem eu_r {xs : List V} (h : EvU t2 σ H xs) : EvU (tEi t1 t2) σ H xs := fun H1 e Q q => .inr (h H1 e Q q)
end
/-! ### t[:0:-1], t a tuple -/
theorem fm_take {α : Type} (r : List α) : ∀ k, k ≤ r.length → (List.range k).filterMap (fun m => r[m]?) = r.take k
  | 0, _ => by simp
  | k + 1, h => by
    rw [List.range_succ, List.filterMap_append, fm_take r k (by omega), List.take_add_one]
    simp [List.getElem?_eq_getElem (show k < r.length by omega)]
theorem back_ix {α : Type} (l : List α) : ((List.range (l.length - 1)).filterMap fun (m : Nat) => l[(((l.length : Nat) : Int) - 1 + (m : Int) * -1).toNat]?) = (l.drop 1).reverse := by
  have e : (List.range (l.length - 1)).filterMap (fun (m : Nat) => l[(((l.length : Nat) : Int) - 1 + (m : Int) * -1).toNat]?) = (List.range (l.length - 1)).filterMap (fun m => l.reverse[m]?) := by
    have z := congrArg (List.filterMap id) (List.map_congr_left (l := List.range (l.length - 1)) (f := fun (m : Nat) => l[(((l.length : Nat) : Int) - 1 + (m : Int) * -1).toNat]?) (g := fun m => l.reverse[m]?) fun m hm => by
      have := List.mem_range.mp hm
      rw [List.getElem?_reverse (by omega)]
      congr 1
      omega)
    rw [List.filterMap_map, List.filterMap_map] at z
    exact z
  rw [e, fm_take _ _ (by rw [List.length_reverse]; omega), List.take_reverse]
  by_cases h : l.length = 0
  · rw [List.length_eq_zero_iff.mp h]; rfl
  · rw [show l.length - (l.length - 1) = 1 by omega]
section
variable {prog : Program} {w : World} {A : Around} {E : Value → Shared → Prop} {s : Shared}
theorem sliceApplied_back {sl : Addr} {vl vu vs : Value} {n : Nat} {Q : Int × Int × Nat → Shared → Prop} (hs : s.heap.IsSliceOf sl vl vu vs) (pl : IsPart vl none) (pu : IsPart vu (some 0)) (ps : IsPart vs (some (-1)))
    (h : Q (((n : Nat) : Int) - 1, -1, n - 1) s) : wpAny (model prog w) A (Builtin.Slice.sliceApplied (.ref sl) (pure (n : Int))) Q E s := by
  obtain ⟨os, hos, hcs, hds⟩ := id hs
  unfold Builtin.Slice.sliceApplied Builtin.Slice.sliceFields
  refine wpAny_bind (wpAny_bind (wpAny_field hos hds (x := vl) rfl (wpAny_bind (wpAny_field hos hds (x := vu) rfl (wpAny_bind (wpAny_field hos hds (x := vs) rfl (wpAny_pure ?_)))))))
  refine wpAny_bind (slicePart_ ps ?_)
  show wpAny _ _ (if ((-1 : Int) == 0) = true then _ else _) _ _ s
  rw [if_neg (by decide)]
  refine wpAny_bind (slicePart_ pl (wpAny_bind (slicePart_ pu (wpAny_bind (wpAny_pure ?_)))))
  have e : Builtin.Slice.sliceAdjust none (some 0) (-1) (n : Int) = ((n : Int) - 1, (if (0 : Int) ≤ (n : Int) - 1 then 0 else (n : Int) - 1)) := by
    unfold Builtin.Slice.sliceAdjust
    simp only [show ((-1 : Int) < 0) = True by simp, if_true, show ¬ ((0 : Int) < 0) by decide, if_false]
    congr 1
  have e2 : Builtin.Slice.slicePlaces ((n : Int) - 1) (if (0 : Int) ≤ (n : Int) - 1 then 0 else (n : Int) - 1) (-1) = n - 1 := by
    unfold Builtin.Slice.slicePlaces
    have h1 : ¬ ((-1 : Int) > 0) := by omega
    simp only [h1, if_false, show (-(-1) : Int) = 1 by rfl, Int.ediv_one]
    split <;> split <;> omega
  show wpAny _ _ (match Builtin.Slice.sliceAdjust none (some 0) (-1) (n : Int) with | (lo, hi) => pure (lo, (-1 : Int), Builtin.Slice.slicePlaces lo hi (-1))) _ _ s
  rw [e]
  show wpAny _ _ (pure ((n : Int) - 1, (-1 : Int), Builtin.Slice.slicePlaces ((n : Int) - 1) (if (0 : Int) ≤ (n : Int) - 1 then 0 else (n : Int) - 1) (-1))) _ _ s
  rw [e2]
  exact wpAny_pure h
theorem getItem_tuple_back {t sl : Addr} {items : Array Value} {vl vu vs : Value} {Q : Value → Shared → Prop} (ht : IsTup s.heap t items) (hs : s.heap.IsSliceOf sl vl vu vs) (pl : IsPart vl none) (pu : IsPart vu (some 0)) (ps : IsPart vs (some (-1)))
    (h : Q (.ref s.heap.objs.size) { s with heap := s.heap.push { cls := .type "tuple", data := .seq ((items.toList.drop 1).reverse).toArray } })
    (hsz : items.size ≤ sizeLine) : wpAny (model prog w) A (getItem (.ref t) (.ref sl)) Q E s := by
  have htake : sizeOk (.seq ((items.toList.drop 1).reverse).toArray) := by
    show ((items.toList.drop 1).reverse).toArray.size ≤ sizeLine
    rw [List.size_toArray, List.length_reverse, List.length_drop, Array.length_toList]
    omega
  obtain ⟨os, hos, hcs, hds⟩ := id hs
  have hTs : s.TypeIs (.ref sl) "slice" := ⟨os, hos, hcs⟩
  unfold getItem
  try with_reducible refine wpAny_holding ?_
  first | refine wpAny_bind (wpAny_pure ?_) | skip
  refine wpAny_bind (wpAny_sequenceKey ht.typeIs (by decide) ?_)
  refine wpAny_bind (wpAny_callSpecial?_slot (name := Str.ofString "__getitem__") ht.typeIs PyProof.Rows.slot_tuple_getitem
    (wpAny_call_entry PyProof.Rows.slot_tuple_getitem ht.typeIs entry_tuple_getitem ?_ (args_tuple_getitem _ _)))
  show wpAny _ _ (Builtin.Tuple.tupleItemsOf (.ref t) >>= _) _ _ s
  refine wpAny_bind (tupleItemsOf_ ht ?_)
  refine wpAny_bind (wpAny_typeOf hTs ?_)
  rw [if_pos (by decide)]
  refine wpAny_bind (sliceApplied_back hs pl pu ps ?_)
  have hno : ¬ (((((items.size : Nat) : Int) - 1) == 0 && (-1 : Int) == 1 && (items.size - 1) == items.size) = true) := by
    intro q
    rw [Bool.and_eq_true, Bool.and_eq_true] at q
    exact absurd q.1.2 (by decide)
  show wpAny _ _ (if ((((items.size : Nat) : Int) - 1) == 0 && (-1 : Int) == 1 && (items.size - 1) == items.size) = true then _ else _) _ _ s
  have hp : ((List.range (items.size - 1)).filterMap fun (m : Nat) => items[(((items.size : Nat) : Int) - 1 + (m : Int) * -1).toNat]?).toArray = ((items.toList.drop 1).reverse).toArray := by
    rw [← back_ix]
    rw [Array.length_toList]
    simp only [Array.getElem?_toList]
  rw [if_neg hno, hp]
  first
    | exact wpAny_bind (m := Builtin.Tuple.tupleExact _) (wpAny_newObj_type (wpAny_pure ⟨_, rfl, wpAny_pure h⟩) htake)
    | exact wpAny_bind (m := Builtin.Tuple.tupleExact _) (wpAny_newObj_type (wpAny_bind (wpAny_pure (wpAny_pure ⟨_, rfl, wpAny_pure h⟩))) htake)
    | exact wpAny_bind (wpAny_bind (m := Builtin.Tuple.tupleExact _) (wpAny_newObj_type (wpAny_pure (wpAny_pure ⟨_, rfl, wpAny_pure h⟩)) htake))
    | exact wpAny_bind (wpAny_bind (m := Builtin.Tuple.tupleExact _) (wpAny_newObj_type (wpAny_pure ⟨_, rfl, wpAny_pure h⟩) htake))
end
def tBackT (K : PySem.W.Frag) (te : TE) : TE := fun σ H Q => te σ H fun x H1 => ∃ a xs, x = .ref a ∧ SqT K H1 a xs ∧ ∀ p, H1 p = none → Q (.ref p) (upd H1 p (.tup (xs.drop 1).reverse))
theorem vals_back {xs : List V} {us : List Value} (r : Vals xs us) : Vals (xs.drop 1).reverse (us.drop 1).reverse := by
  cases r with
  | nil => exact .nil
  | cons _ r => exact L2.Vals.reverse r
theorem backTK {X : Cx} {K : PySem.W.Frag} {e : Expr} {te : TE} {k k0 : Nat} {p0 p1 p2 p3 pos : Pos} (hK : X.K = K) (he : PE X e te) : PE X (.Subscript e (.Slice none (some (.Constant (.int 0) k0 p0)) (some (.UnaryOp .USub (.Constant (.int 1) k p1) p2)) p3) pos) (tBackT K te) := by
  subst hK
  refine ⟨fun pins s σ H Q I h => ?_⟩
  refine Subscript_ (thn (he.run pins s σ H _ I h) fun v s1 ⟨x, H1, I1, r1, q1⟩ => ?_)
  obtain ⟨a, xs, ex, hx, q⟩ := q1
  subst ex
  cases r1
  have hst : PO X (some (.UnaryOp .USub (.Constant (.int 1) k p1) p2)) (tPart (tUn (rU fun i => .int (-i)) (tC (.int 1)))) := po_some (pe_un un_neg pe_int)
  have hup : PO X (some (.Constant (.int 0) k0 p0)) (tPart (tC (.int 0))) := po_some pe_int
  refine wpAny_Slice (thn (po_none.run pins s1 σ H1 (fun o H2 => o = none ∧ H2 = H1) I1 ⟨rfl, rfl⟩) fun vl s2 ⟨l, H2, I2, pl, el, e2⟩ => ?_)
  subst el e2
  refine thn (hup.run pins s2 σ H2 (fun o H3 => o = some 0 ∧ H3 = H2) I2 ⟨0, rfl, rfl, rfl⟩) fun vu s3 ⟨u, H3, I3, pu, eu, e3⟩ => ?_
  subst eu e3
  refine thn (hst.run pins s3 σ H3 (fun o H4 => o = some (-1) ∧ H4 = H3) I3 ⟨1, rfl, -1, rfl, rfl, rfl⟩) fun vs s4 ⟨o, H4, I4, ps, eo, e4⟩ => ?_
  subst eo e4
  have I5 : Inv X pins σ H4 { s4 with heap := s4.heap.push { cls := .type "slice", data := .fields #[vl, vu, vs] } } := I4.kept (t' := s4.toks) fun b ob q => Heap.get?_push_of_some _ q
  obtain ⟨its, r, ht, hz⟩ := I5.tuple hx
  have hlen := r.length
  show wpAny (model X.prog X.w) X.A (subscriptTail e (.Slice none (some (.Constant (.int 0) k0 p0)) (some (.UnaryOp .USub (.Constant (.int 1) k p1) p2)) p3) (.ref a) (.ref s4.heap.objs.size)) (EP X pins σ Q) X.xe { s4 with heap := s4.heap.push { cls := .type "slice", data := .fields #[vl, vu, vs] } }
  refine tail_any (ops := [.ref a, .ref s4.heap.objs.size]) ht.typeIs (PyProof.Rows.slot_tuple_getitem.lookup) ?_ (by with_unfolding_all rfl)
  refine getItem_tuple_back ht (Heap.IsSliceOf.new _ vl vu vs) pl pu ps ?_ (by rw [List.size_toArray]; omega)
  refine ⟨.ref _, _, I5.laid (t' := s4.toks) (o := .tup (xs.drop 1).reverse) (fun b ob q => Heap.get?_push_of_some _ q) (Nat.le_refl _) ?_, rfl, q _ (I5.hok.fresh (Nat.le_refl _))⟩
  exact ⟨by rw [List.length_reverse, List.length_drop]; omega, _, vals_back r, IsTup.new _ _⟩
/-! ### isinstance with a tuple of kinds -/
theorem isiTK {X : Cx} {K : PySem.W.Frag} (h : X.K = K) : CallR X (.builtin "isinstance") (rIsiT K) := by subst h; exact call_isiT
/-- isinstance(x, (list, tuple)) -/
theorem ev_isiLT {K : PySem.W.Frag} {σ : L2.St} {H : Hp} {te : TE} {x : V} {t : String} (h : Ev te σ H x) (ht : AnyT H x t) : Ev (tCB (rIsiT K) (tCons te (tCons (tTup (tCons (tC (.ty "list")) (tCons (tC (.ty "tuple")) tNil))) tNil))) σ H (.bl (t == "list" || t == "tuple")) := fun H1 e Q q =>
  h H1 e _ fun H2 e2 => ⟨by show 2 ≤ sizeLine; decide, fun p hp => ⟨x, p, [.ty "list", .ty "tuple"], .type t, [.type "list", .type "tuple"], _, rfl, upd_same, .cons (.ty _) (.cons (.ty _) .nil), ((ht.ext (e.trans e2)).ext (Ex.new hp)).ty, by
    have k := kit_all ht.mem
    unfold PySem.W.kitAny
    rw [kit_ty k.2.2.1]
    cases t == "list" with
    | true => rfl
    | false =>
      show PySem.W.kitAny _ _ _ = _
      unfold PySem.W.kitAny
      rw [kit_ty k.2.2.2.1]
      cases t == "tuple" with
      | true => rfl
      | false => rfl, q _ (e2.trans (Ex.new hp))⟩⟩
theorem ev_isiO {K : PySem.W.Frag} {σ : L2.St} {H : Hp} {te : TE} {x : V} {t T : String} {b : Bool} (h : Ev te σ H x) (ht : AnyT H x t) (hb : kitB t T = some b) : Ev (tCB (rIsi K) (tCons te (tCons (tC (.ty T)) tNil))) σ H (.bl b) := fun H1 e Q q =>
  h H1 e _ fun H2 e2 => ⟨x, .ty T, .type t, .type T, b, rfl, .ty _, (ht.ext (e.trans e2)).ty, kit_ty hb, q H2 e2⟩
/-! ### data that are tracked -/
mutual
inductive Dq (H : Hp) : V → PyData → Prop
  | non : Dq H .non .none
  | bl (b : Bool) : Dq H (.bl b) (.bool b)
  | int (i : Int) : Dq H (.int i) (.int i)
  | str (x : Str) : Dq H (.str x) (.str x)
  | lst {a : Addr} {xs : List V} {ds : List PyData} : H a = some (.lst xs) → DqAll H xs ds → Dq H (.ref a) (.list ds)
  | tup {a : Addr} {xs : List V} {ds : List PyData} : H a = some (.tup xs) → DqAll H xs ds → Dq H (.ref a) (.tuple ds)
inductive DqAll (H : Hp) : List V → List PyData → Prop
  | nil : DqAll H [] []
  | cons {v : V} {vs : List V} {d : PyData} {ds : List PyData} : Dq H v d → DqAll H vs ds → DqAll H (v :: vs) (d :: ds)
end
mutual
theorem Dq.ext {H H' : Hp} (e : Ex H H') : ∀ {v : V} {d : PyData}, Dq H v d → Dq H' v d
  | _, _, .non => .non
  | _, _, .bl b => .bl b
  | _, _, .int i => .int i
  | _, _, .str x => .str x
  | _, _, .lst h a => .lst (e _ _ h) (DqAll.ext e a)
  | _, _, .tup h a => .tup (e _ _ h) (DqAll.ext e a)
theorem DqAll.ext {H H' : Hp} (e : Ex H H') : ∀ {vs : List V} {ds : List PyData}, DqAll H vs ds → DqAll H' vs ds
  | _, _, .nil => .nil
  | _, _, .cons h a => .cons (Dq.ext e h) (DqAll.ext e a)
end
mutual
theorem Dq.dp {K : PySem.W.Frag} {H : Hp} : ∀ {v : V} {d : PyData}, Dq H v d → Dp K H v d
  | _, _, .non => .non
  | _, _, .bl b => .bl b
  | _, _, .int i => .int i
  | _, _, .str x => .str x
  | _, _, .lst h a => .lst (SqL.of h) (DqAll.dp a)
  | _, _, .tup h a => .tup (SqT.of h) (DqAll.dp a)
theorem DqAll.dp {K : PySem.W.Frag} {H : Hp} : ∀ {vs : List V} {ds : List PyData}, DqAll H vs ds → DpAll K H vs ds
  | _, _, .nil => .nil
  | _, _, .cons h a => .cons (Dq.dp h) (DqAll.dp a)
end
def kindD : PyData → String
  | .none => "NoneType"
  | .bool _ => "bool"
  | .int _ => "int"
  | .str _ => "str"
  | .list _ => "list"
  | .tuple _ => "tuple"
  | _ => "dict"
theorem Dq.any {H : Hp} {v : V} {d : PyData} (h : Dq H v d) : AnyT H v (kindD d) := by
  cases h with
  | non => exact .non
  | bl b => exact .bl b
  | int i => exact .int i
  | str x => exact .str x
  | lst h _ => exact .lst h
  | tup h _ => exact .tup h
theorem DqAll.len {H : Hp} : ∀ {vs : List V} {ds : List PyData}, DqAll H vs ds → vs.length = ds.length
  | _, _, .nil => rfl
  | _, _, .cons _ a => by rw [List.length_cons, List.length_cons, DqAll.len a]
theorem DqAll.at {H : Hp} : ∀ {vs : List V} {ds : List PyData} {i : Nat} {v : V}, DqAll H vs ds → vs[i]? = some v → ∃ d, ds[i]? = some d ∧ Dq H v d
  | _, _, 0, _, .cons h _, e => by
    rw [List.getElem?_cons_zero] at e
    obtain rfl := Option.some.inj e
    exact ⟨_, rfl, h⟩
  | _, _, i + 1, _, .cons _ a, e => by
    rw [List.getElem?_cons_succ] at e
    obtain ⟨d, h1, h2⟩ := DqAll.at a e
    exact ⟨d, h1, h2⟩
/-- what an own walk of at most k layers can look through -/
def alk : Nat → PyData → Bool
  | 0, _ => false
  | k + 1, .list ds => decide (ds.length ≤ 1000) && ds.all (alk k)
  | k + 1, .tuple ds => decide (ds.length ≤ 1000) && ds.all (alk k)
  | _ + 1, .none => true
  | _ + 1, .bool _ => true
  | _ + 1, .int _ => true
  | _ + 1, .str _ => true
  | _, _ => false
/-- data alike -/
def sp_alike (k : Nat) : Sp := fun vs H Q _ => ∃ x y d, vs = [x, y] ∧ Dq H x d ∧ Dq H y d ∧ alk k d = true ∧ ∀ H', Ex H H' → Q (.bl true) H'
/-! ### own ==, the other thing of any class -/
def AnyJ (K : PySem.W.Frag) (C : Addr) (H : Hp) (y : V) : Prop := (∃ t, AnyT H y t) ∨ ∃ b D dy gs, y = .ref b ∧ H b = some (.ins D dy gs) ∧ PySem.W.notFirst K C (.ref D) = true
theorem notFirst_self {K : PySem.W.Frag} {C : Addr} : PySem.W.notFirst K C (.ref C) = true := by simp [PySem.W.notFirst]
theorem notFirst_other {K : PySem.W.Frag} {C D : Addr} (h : PySem.W.subIn K (.ref D) (.ref C) = some false) : PySem.W.notFirst K C (.ref D) = true := by simp [PySem.W.notFirst, h]
def rEqJ (K : PySem.W.Frag) (C : Addr) (sp : Sp) (E : XK) : R2 := fun x y H Q => ∃ a dx fs, x = .ref a ∧ H a = some (.ins C dx fs) ∧ AnyJ K C H y ∧ sp [.ref a, y] H (fun v H' => ∃ k, v = .bl k ∧ Q (.bl k) H') E
def rNeJ (K : PySem.W.Frag) (C : Addr) (sp : Sp) (E : XK) : R2 := fun x y H Q => ∃ a dx fs, x = .ref a ∧ H a = some (.ins C dx fs) ∧ AnyJ K C H y ∧ sp [.ref a, y] H (fun v H' => ∃ k, v = .bl k ∧ Q (.bl (!k)) H') E
section
variable {X : Cx} {K : PySem.W.Frag} {pins : List (Addr × Obj)} {σ : L2.St} {H : Hp} {s : Shared} {C f : Addr} {fd : FuncData} {ps : List Str} {n : Nat} {sp : Sp} {CX : CXT} {E : XK}
theorem op_eqJ (hK : X.K = K) (c : EqC K C f) (F : FnOk X.prog X.w X.K X.mg X.base CX n f fd ps sp) (room : Room n X.A) (hb : Binds X.K fd ps []) (hx : Passes CX X E) : OpR X (compareOp .Eq) (rEqJ K C sp E) := by
  subst hK
  intro pins s σ H x y v u Q I rx ry h
  obtain ⟨a, dx, fs, rfl, ha, hy, hs⟩ := h
  cases rx
  obtain ⟨mA, J, _⟩ := ins_get I.hok ha
  obtain ⟨od, J, _⟩ := J.look
  obtain ⟨m, hF⟩ := I.fr
  show wpAny (model X.prog X.w) X.A (richCompare .Eq (.ref a) u) (EP X pins σ Q) X.xe s
  have go : wpAny (model X.prog X.w) X.A (call (.ref f) [.ref a, u]) (PySem.W.CmpBack (EP X pins σ Q)) X.xe s := by
    refine wpAny_mono (run_eq F room rfl hb hx I ry hs) (fun w s' hw => ?_) fun _ _ e => e
    obtain ⟨z, H', I', rz, k, rfl, hq⟩ := hw
    cases rz
    exact ⟨.bl k, H', I', rfl, hq⟩
  rcases hy with ⟨t, ht⟩ | ⟨b, D, dy, gs, rfl, hb', hn⟩
  · exact PySem.W.cmp_K (op := .Eq) (tb := .type t) room.units0 hF I.ok.mod.kin J (any_looks I ry ht) (first7 ht.mem) c.he c.hf go
  · cases ry
    obtain ⟨mB, J', _⟩ := ins_get I.hok hb'
    obtain ⟨od', J', _⟩ := J'.look
    exact PySem.W.cmp_K (op := .Eq) (tb := .ref D) room.units0 hF I.ok.mod.kin J J'.type hn c.he c.hf go
theorem op_neJ (hK : X.K = K) (c : EqC K C f) (F : FnOk X.prog X.w X.K X.mg X.base CX n f fd ps sp) (room : Room (n + 1) X.A) (hb : Binds X.K fd ps []) (hx : Passes CX X E) : OpR X (compareOp .NotEq) (rNeJ K C sp E) := by
  subst hK
  intro pins s σ H x y v u Q I rx ry h
  obtain ⟨a, dx, fs, rfl, ha, hy, hs⟩ := h
  cases rx
  obtain ⟨mA, J, _⟩ := ins_get I.hok ha
  obtain ⟨od, J, _⟩ := J.look
  show wpAny (model X.prog X.w) X.A (richCompare .NotEq (.ref a) u) (EP X pins σ Q) X.xe s
  have un := room.units
  obtain ⟨hp, g, d, tk, os⟩ := s
  have go : ∀ tk', wpAny (model X.prog X.w) X.A.in1 (call (.ref f) [.ref a, u]) (fun v s' => ∃ k, v = .bool k ∧ EP X pins σ Q (.bool (!k)) s') X.xe ⟨hp, g, d, tk', os⟩ := by
    intro tk'
    refine wpAny_mono (run_eq F room.in1 rfl hb hx (I.tok tk') ry hs) (fun w s' hw => ?_) fun _ _ e => e
    obtain ⟨z, H', I', rz, k, rfl, hq⟩ := hw
    cases rz
    exact ⟨k, rfl, .bl (!k), H', I', rfl, hq⟩
  rcases hy with ⟨t, ht⟩ | ⟨b, D, dy, gs, rfl, hb', hn⟩
  · exact ne_own (tb := .type t) I.kIn J (any_looks I ry ht) (first7 ht.mem) c.he c.hf c.ne c.ob (by omega) go
  · cases ry
    obtain ⟨mB, J', _⟩ := ins_get I.hok hb'
    obtain ⟨od', J', _⟩ := J'.look
    exact ne_own (tb := .ref D) I.kIn J J'.type hn c.he c.hf c.ne c.ob (by omega) go
end
/-- isinstance of an instance of the class at D with the class at C -/
theorem isi_insD {K : PySem.W.Frag} {H : Hp} {C D a dx : Addr} {fs : List (Str × V)} {b : Bool} {Q : VK} (q : IsiC K D) (cl : Cls K D) (kb : PySem.W.kitOne K (.ref D) (.ref C) = some b) (h : H a = some (.ins D dx fs)) (k : Q (.bl b) H) : rIsi K [.ref a, .ref C] H Q :=
  ⟨.ref a, .ref C, .ref D, .ref C, b, rfl, .own C, .base (.ins h cl q.ca q.cn q.ct q.cm), kb, k⟩
/-! ### x or y, by truth -/
theorem orTK {X : Cx} {K : PySem.W.Frag} {a b : Expr} {ta tb : TE} {rest : List Expr} {pos : Pos} (h : X.K = K) (ha : PE X a ta) (hb : PE X (.BoolOp .Or (b :: rest) pos) tb) : PE X (.BoolOp .Or (a :: b :: rest) pos) (tOrT K ta tb) := by subst h; exact pe_orT ha hb
section
variable {K : PySem.W.Frag} {σ : L2.St} {H : Hp} {ta tb te : TE}
theorem el_or1 {xs : List V} (h : EvL ta σ H xs) (hne : xs ≠ []) : EvL (tOrT K ta tb) σ H xs := fun H1 e Q q =>
  h H1 e _ fun p H2 hp e2 h2 => ⟨true, .inl ⟨xs, SqL.of h2, by cases xs with | nil => exact absurd rfl hne | cons _ _ => rfl⟩, iteT (q p H2 hp e2 h2)⟩
theorem el_or2 {ys : List V} (h : EvL ta σ H []) (h2 : EvL tb σ H ys) : EvL (tOrT K ta tb) σ H ys := fun H1 e Q q =>
  h H1 e _ fun p H2 hp e2 hx => ⟨false, .inl ⟨[], SqL.of hx, rfl⟩, iteF (h2 H2 (e.trans e2) Q fun p' H3 hp' e3 h3 => q p' H3 (fresh_back e2 hp') (e2.trans e3) h3)⟩
theorem el_or {xs ys : List V} (h : EvL ta σ H xs) (h2 : xs = [] → EvL tb σ H ys) : EvL (tOrT K ta tb) σ H (if xs.isEmpty then ys else xs) := by
  cases xs with
  | nil => exact el_or2 h (h2 rfl)
  | cons x r => exact el_or1 h (by simp)
theorem given_allF (ys : List V) : given ys.length (fun _ => true) (fun i => ys.getD i .non) = ys := by
  unfold given
  rw [List.filter_eq_self.mpr (fun _ _ => rfl)]
  refine List.ext_getElem (by simp) (fun i h1 h2 => ?_)
  rw [List.getElem_map, List.getElem_range, List.getD_eq_getElem?_getD, List.getElem?_eq_getElem h2]
  rfl
/-- [e for x in a new list], each thing as it is -/
theorem el_mapF {xs ys : List V} {tl : TE} {j : Nat} {vs : List Nat} (h : EvL tl σ H xs) (hz : xs.length ≤ 40000) (hl : ys.length = xs.length)
    (hw : ∀ x, wipe ((wipe σ vs).set j (some x)) vs = wipe σ vs) (he : ∀ (i : Nat) (x y : V) H1, Ex H H1 → xs[i]? = some x → ys[i]? = some y → Ev te ((wipe σ vs).set j (some x)) H1 y) : EvL (tLc (iList K tl) (gName j) tYes te vs) σ H ys := by
  have k := el_lcNL (K := K) (t := tYes) (te := te) (fun _ => true) (fun i => ys.getD i .non) h hz hw (fun i x H1 e hi => fun H1 _ _ q => q H1 (Ex.refl H1)) (fun i x H1 e hi _ => by
    have h1 := (List.getElem?_eq_some_iff.mp hi).1
    have h2 : i < ys.length := by omega
    rw [show ys.getD i .non = ys[i] by rw [List.getD_eq_getElem?_getD, List.getElem?_eq_getElem h2]; rfl]
    exact he i x _ H1 e hi (List.getElem?_eq_getElem h2))
  rw [← hl, given_allF] at k
  exact k
theorem cut_all (xs : List V) {k : Nat} (h : xs.length ≤ k) : cutV xs none (some (k : Int)) = xs := by
  unfold cutV
  rw [sIx_none, sIx_nat, List.drop_zero, Nat.min_eq_right h, Nat.sub_zero, List.take_length]
end
section
variable {K : PySem.W.Frag} {σ : L2.St} {H : Hp} {ta tb te : TE} {x : V} {t : String}
theorem ev_isi_int (h : Ev te σ H x) (ht : AnyT H x t) : Ev (tCB (rIsi K) (tCons te (tCons (tC (.ty "int")) tNil))) σ H (.bl (t == "int" || t == "bool")) := ev_isiO h ht (kit_all ht.mem).1
theorem ev_isi_bool (h : Ev te σ H x) (ht : AnyT H x t) : Ev (tCB (rIsi K) (tCons te (tCons (tC (.ty "bool")) tNil))) σ H (.bl (t == "bool")) := ev_isiO h ht (kit_all ht.mem).2.1
theorem ev_isi_list (h : Ev te σ H x) (ht : AnyT H x t) : Ev (tCB (rIsi K) (tCons te (tCons (tC (.ty "list")) tNil))) σ H (.bl (t == "list")) := ev_isiO h ht (kit_all ht.mem).2.2.1
theorem ev_isi_tuple (h : Ev te σ H x) (ht : AnyT H x t) : Ev (tCB (rIsi K) (tCons te (tCons (tC (.ty "tuple")) tNil))) σ H (.bl (t == "tuple")) := ev_isiO h ht (kit_all ht.mem).2.2.2.1
theorem ev_isi_str (h : Ev te σ H x) (ht : AnyT H x t) : Ev (tCB (rIsi K) (tCons te (tCons (tC (.ty "str")) tNil))) σ H (.bl (t == "str")) := ev_isiO h ht (kit_all ht.mem).2.2.2.2.1
theorem ev_isi_dict (h : Ev te σ H x) (ht : AnyT H x t) : Ev (tCB (rIsi K) (tCons te (tCons (tC (.ty "dict")) tNil))) σ H (.bl (t == "dict")) := ev_isiO h ht (kit_all ht.mem).2.2.2.2.2
theorem ev_isN (h : Ev te σ H x) : Ev (tOp (fun x y H Q => y = V.non ∧ Q (V.bl (decide (x = V.non))) H) te (tC V.non)) σ H (.bl (decide (x = .non))) := ev_op h ev_c fun H1 e Q q => ⟨rfl, q H1 (Ex.refl H1)⟩
theorem ev_allN {bs : List Bool} (h : EvL te σ H (bs.map V.bl)) : Ev (tCB (rAll K) (tCons te tNil)) σ H (.bl (bs.all id)) := fun H1 e Q q => h H1 e _ fun p H2 hp e2 h2 => ⟨p, bs, rfl, SqL.of h2, q H2 e2⟩
theorem ev_lenT {p : Addr} {xs : List V} (ha : Ev te σ H (.ref p)) (h : H p = some (.tup xs)) : Ev (tCB (rLenQ K) (tCons te tNil)) σ H (.int (xs.length : Int)) := fun H1 e Q q =>
  ha H1 e _ fun H2 e2 => ⟨p, xs, rfl, .inr (SqT.of ((e.trans e2) _ _ h)), q H2 e2⟩
/-- [e for k in range(n)], known for each k -/
theorem el_mapR {ta : TA} {j : Nat} {vs : List Nat} {ys : List V} (h : EvA ta σ H [.int (ys.length : Int)]) (hn : ys.length ≤ 40000) (hw : ∀ x, wipe ((wipe σ vs).set j (some x)) vs = wipe σ vs)
    (he : ∀ (i : Nat) (y : V) H1, Ex H H1 → ys[i]? = some y → Ev te ((wipe σ vs).set j (some (.int (i : Int)))) H1 y) : EvL (tLc (iRng1 ta) (gName j) tYes te vs) σ H ys := by
  have k := el_lcR1 (t := tYes) (te := te) (fun _ => true) (fun i => ys.getD i .non) h (by omega) hw (fun i H1 e hi => fun H1 _ _ q => q H1 (Ex.refl H1)) (fun i H1 e hi _ => by
    have h2 : i < ys.length := by omega
    rw [show ys.getD i .non = ys[i] by rw [List.getD_eq_getElem?_getD, List.getElem?_eq_getElem h2]; rfl]
    exact he i _ H1 e (List.getElem?_eq_getElem h2))
  rw [Int.toNat_natCast, given_allF] at k
  exact k
/-- xs[i], xs a list or a tuple -/
theorem ev_ixq {tk : TE} {p : Addr} {xs : List V} {i : Nat} {v : V} (h : H p = some (.lst xs) ∨ H p = some (.tup xs)) (ha : Ev te σ H (.ref p)) (hk : Ev tk σ H (.int (i : Int))) (hi : xs[i]? = some v) : Ev (tEi (tOp (rIxL K) te tk) (tOp (rIxT K) te tk)) σ H v := by
  rcases h with h | h
  · exact ev_l (ev_op ha hk (rv_ixL (SqL.of h) (atI_nat hi)))
  · exact ev_r (ev_op ha hk (rv_ixT (SqT.of h) (atI_nat hi)))
theorem ev_lenA {p : Addr} {xs : List V} (ha : Ev te σ H (.ref p)) (h : H p = some (.lst xs) ∨ H p = some (.tup xs)) : Ev (tCB (rLenQ K) (tCons te tNil)) σ H (.int (xs.length : Int)) := h.elim (ev_lenQ ha) (ev_lenT ha)
end
section
variable {K : PySem.W.Frag} {σ : L2.St} {H : Hp} {ta tb te : TE}
theorem ev_fld {f : Str} {p C dx : Addr} {fs : List (Str × V)} {v : V} (ha : Ev te σ H (.ref p)) (h : H p = some (.ins C dx fs)) (cl : Cls K C) (nf : PySem.W.findIn K (.ref C) f = some none) (lk : fs.lookup f = some v) : Ev (tFld K te f) σ H v := fun H1 e Q q =>
  ha H1 e _ fun H2 e2 => ⟨p, C, dx, fs, v, rfl, (e.trans e2) _ _ h, cl, nf, lk, q H2 e2⟩
theorem EvU.mono {H' : Hp} {xs : List V} (e : Ex H H') (h : EvU te σ H xs) : EvU te σ H' xs := fun H1 a Q q => h H1 (e.trans a) Q q
theorem eu_sl {tl th : TO} {a : Addr} {xs : List V} {lo hi : Option Int} (h : Ev te σ H (.ref a)) (h1 : EvO tl σ H lo) (h2 : EvO th σ H hi) (hs : H a = some (.tup xs)) (hw : ¬ (HT.sIx xs.length 0 lo = 0 ∧ HT.sIx xs.length xs.length hi = xs.length)) : EvU (tSl (rSlT K) te tl th) σ H (cutV xs lo hi) := fun H1 e Q q =>
  h H1 e _ fun H2 e2 => h1 H2 (e.trans e2) _ fun H3 e3 => h2 H3 ((e.trans e2).trans e3) _ fun H4 e4 => ⟨a, xs, rfl, SqT.of ((((e.trans e2).trans e3).trans e4) _ _ hs), hw, fun p hp => q p _ (fresh_back ((e2.trans e3).trans e4) hp) (((e2.trans e3).trans e4).trans (Ex.new hp)) upd_same⟩
theorem eu_back {a : Addr} {xs : List V} (h : Ev te σ H (.ref a)) (hs : H a = some (.tup xs)) : EvU (tBackT K te) σ H (xs.drop 1).reverse := fun H1 e Q q =>
  h H1 e _ fun H2 e2 => ⟨a, xs, rfl, SqT.of ((e.trans e2) _ _ hs), fun p hp => q p _ (fresh_back e2 hp) (e2.trans (Ex.new hp)) upd_same⟩
theorem eu_cat {xs ys : List V} (h1 : EvU ta σ H xs) (h2 : EvU tb σ H ys) (hx : xs ≠ []) (hl : xs.length + ys.length ≤ 1000) : EvU (tOp (rCatT K) ta tb) σ H (xs ++ ys) := fun H1 e Q q =>
  h1 H1 e _ fun p H2 hp e2 hxs => h2 H2 (e.trans e2) _ fun r H3 hr e3 hys => ⟨p, r, xs, ys, rfl, rfl, SqT.of (e3 _ _ hxs), SqT.of hys, hx, Nat.le_trans hl (by decide), (fun z => by
    subst z
    rw [List.append_nil] at q
    exact q p H3 hp (e2.trans e3) (e3 _ _ hxs)), fun _ t ht => q t _ (fresh_back (e2.trans e3) ht) ((e2.trans e3).trans (Ex.new ht)) upd_same⟩
theorem eu_if {t : TT} {b : Bool} {xs : List V} (h : EvT t σ H b) (h1 : b = true → EvU ta σ H xs) (h2 : b = false → EvU tb σ H xs) : EvU (tIf t ta tb) σ H xs := fun H1 e Q q => h H1 e _ fun H2 e2 => by
  cases b with
  | true => exact iteT (h1 rfl H2 (e.trans e2) Q fun p H3 hp e3 hx => q p H3 (fresh_back e2 hp) (e2.trans e3) hx)
  | false => exact iteF (h2 rfl H2 (e.trans e2) Q fun p H3 hp e3 hx => q p H3 (fresh_back e2 hp) (e2.trans e3) hx)
theorem eu_is {xs ys : List V} (h : EvU te σ H xs) (e : xs = ys) : EvU te σ H ys := by rw [← e]; exact h
end
/-! ### a value that is such data -/
def EvQ (te : TE) (σ : L2.St) (H : Hp) (d : PyData) : Prop := ∀ H1, Ex H H1 → ∀ Q : VK, (∀ v H2, Ex H1 H2 → Dq H2 v d → Q v H2) → te σ H1 Q
def EvQA (ta : TA) (σ : L2.St) (H : Hp) (ds : List PyData) : Prop := ∀ H1, Ex H H1 → ∀ Q : List V → Hp → Prop, (∀ vs H2, Ex H1 H2 → DqAll H2 vs ds → Q vs H2) → ta σ H1 Q
section
variable {K : PySem.W.Frag} {σ : L2.St} {H : Hp} {ta tb te : TE} {d : PyData}
theorem ed_ev {v : V} (h : Ev te σ H v) (hd : Dq H v d) : EvQ te σ H d := fun H1 e Q q => h H1 e Q fun H2 e2 => q v H2 e2 (hd.ext (e.trans e2))
theorem ed_tup {xs : List V} {ds : List PyData} (h : EvU te σ H xs) (hd : DqAll H xs ds) : EvQ te σ H (.tuple ds) := fun H1 e Q q => h H1 e Q fun p H2 hp e2 h2 => q _ H2 e2 (.tup h2 (hd.ext (e.trans e2)))
theorem ed_list {xs : List V} {ds : List PyData} (h : EvL te σ H xs) (hd : DqAll H xs ds) : EvQ te σ H (.list ds) := fun H1 e Q q => h H1 e Q fun p H2 hp e2 h2 => q _ H2 e2 (.lst h2 (hd.ext (e.trans e2)))
theorem EvQ.mono {H' : Hp} (e : Ex H H') (h : EvQ te σ H d) : EvQ te σ H' d := fun H1 a Q q => h H1 (e.trans a) Q q
theorem eda_nil : EvQA tNil σ H [] := fun H1 _ _ q => q _ H1 (Ex.refl H1) .nil
theorem eda_cons {tr : TA} {ds : List PyData} (h : EvQ te σ H d) (hr : EvQA tr σ H ds) : EvQA (tCons te tr) σ H (d :: ds) := fun H1 e Q q =>
  h H1 e _ fun v H2 e2 hv => hr H2 (e.trans e2) _ fun vs H3 e3 hs => q _ H3 (e2.trans e3) (.cons (hv.ext e3) hs)
theorem ed_lst {tr : TA} {ds : List PyData} (h : EvQA tr σ H ds) (hl : ds.length ≤ 1000) : EvQ (tLst tr) σ H (.list ds) := fun H1 e Q q =>
  h H1 e _ fun vs H2 e2 hs => ⟨by rw [hs.len]; exact Nat.le_trans hl (by decide), fun p hp => q _ _ (e2.trans (Ex.new hp)) (.lst upd_same (hs.ext (Ex.new hp)))⟩
theorem ed_tp {tr : TA} {ds : List PyData} (h : EvQA tr σ H ds) (hl : ds.length ≤ 1000) : EvQ (tTup tr) σ H (.tuple ds) := fun H1 e Q q =>
  h H1 e _ fun vs H2 e2 hs => ⟨by rw [hs.len]; exact Nat.le_trans hl (by decide), fun p hp => q _ _ (e2.trans (Ex.new hp)) (.tup upd_same (hs.ext (Ex.new hp)))⟩
theorem ed_is {d' : PyData} (h : EvQ te σ H d) (e : d = d') : EvQ te σ H d' := by rw [← e]; exact h
/-- [x] * k, x a truth -/
theorem ed_repB {b : Bool} {k : Nat} (h : Ev te σ H (.bl b)) (hk : k ≤ 1000) : EvQ (tOp rRep (tLst (tCons te tNil)) (tC (.int (k : Int)))) σ H (.list (List.replicate k (.bool b))) := fun H1 e Q q =>
  h H1 e _ fun H2 e2 => ⟨by show 1 ≤ sizeLine; decide, fun p hp => ⟨p, k, [.bl b], rfl, rfl, upd_same, by omega, by omega, by
    rw [Int.toNat_natCast]
    show 1 * k ≤ sizeLine
    exact Nat.le_trans (by omega : 1 * k ≤ 1000) (by decide), fun r hr => by
    rw [Int.toNat_natCast]
    refine q _ _ ((e2.trans (Ex.new hp)).trans (Ex.new hr)) (.lst upd_same ?_)
    induction k with
    | zero => exact .nil
    | succ n ih => 
      have z : ∀ m, DqAll (upd (upd H2 p (.lst [.bl b])) r (.lst (List.replicate (n + 1) [V.bl b]).flatten)) (List.replicate m [V.bl b]).flatten (List.replicate m (.bool b)) := by
        intro m
        induction m with
        | zero => exact .nil
        | succ m ih => exact .cons (.bl b) ih
      exact z (n + 1)⟩⟩
theorem ev_alike {k : Nat} (ha : EvQ ta σ H d) (hb : EvQ tb σ H d) (hk : alk k d = true) : Ev (tCall (sp_alike k) [] E0 (tCons ta (tCons tb tNil))) σ H (.bl true) := fun H1 e Q q =>
  ha H1 e _ fun v H2 e2 hv => hb H2 (e.trans e2) _ fun u H3 e3 hu => ⟨v, u, d, rfl, hv.ext e3, hu, hk, fun H4 e4 => q H4 ((e2.trans e3).trans e4)⟩
end
end MyG

set_option maxHeartbeats 2000000
/-! An exception that is kept in a name behind its try: what stands at its address, isinstance of it, its fields, the try that keeps it. -/
namespace MyG
open PySem PySem.Spec PyProof.Rows L2 Evl
/-- an exception at a, of the class cls, its own dict at d -/
def XO (a : Addr) (cls : Value) (d : Option Addr) : HO := .ext fun h => ∃ (o : Obj) (fv : Array Value), h.get? a = some o ∧ Zc cls d o ∧ o.data = .fields fv
section
variable {P : Program} {w : World} {H : Hp} {h : Heap} {a : Addr} {o : Obj} {fv : Array Value} {cls : Value} {d : Option Addr}
theorem xo_ok (e : h.get? a = some o) (z : Zc cls d o) (hd : o.data = .fields fv) : ObjOk P w H h a (XO a cls d) :=
  ⟨⟨o, fv, e, z, hd⟩, ⟨o, e⟩, fun h1 h2 ⟨o1, f1, e1, z1, d1⟩ k => ⟨o1, f1, k _ e1, z1, d1⟩⟩
theorem xo_at (x : ObjOk P w H h a (XO a cls d)) : ∃ (o : Obj) (fv : Array Value), h.get? a = some o ∧ Zc cls d o ∧ o.data = .fields fv := x.1
end
section
variable {X : Cx} {pins : List (Addr × Obj)} {σ : L2.St} {H : Hp} {s : Shared} {a : Addr} {o : Obj} {fv : Array Value} {cls : Value} {d : Option Addr}
/-- an object of the heap, not tracked so far, is tracked as a kept exception -/
theorem tell_exc (I : Inv X pins σ H s) (e : s.heap.get? a = some o) (z : Zc cls d o) (hd : o.data = .fields fv) (na : H a = none) (nL : a ≠ X.env.locals) (np : ∀ p ∈ X.pn ++ pins, p.1 ≠ a) (n0 : ∀ ob, X.s_0.heap.get? a = some ob → a ∈ X.ex) :
    Inv X pins σ (upd H a (XO a cls d)) s := by
  have other : ∀ {b : Addr} {u : HO}, H b = some u → upd H a (XO a cls d) b = some u := fun {b u} hb => by rw [upd_ne (ne_of_none hb na)]; exact hb
  refine { ok := I.ok, os := I.os, bare := I.bare, loc := I.loc, cell := I.cell, len := I.len, base := ?_, free := ?_, freeC := ?_, pin := ?_, hok := ?_ }
  · refine { keep := I.base.keep, slot := I.base.slot, there := I.base.there, free := fun b ob hb hn hx => ?_, tups := fun b xs hb => other (I.base.tups b xs hb), frzs := fun b ob u hb => other (I.base.frzs b ob u hb), tbls := fun b ps hb => ?_ }
    · have hne : b ≠ a := fun q => by
        subst q
        exact hx (n0 ob hb)
      rw [upd_ne hne]
      exact I.base.free b ob hb hn hx
    · obtain ⟨more, hm⟩ := I.base.tbls b ps hb
      exact ⟨more, other hm⟩
  · rw [upd_ne nL.symm]
    exact I.free
  · intro x c hc
    have hne : c ≠ a := fun q => by
      subst q
      obtain ⟨v, hv⟩ := I.cell x c hc
      obtain ⟨oc, h1, h2⟩ : ∃ oc, s.heap.get? c = some oc ∧ oc.data = .cell v := by
        first
          | exact ⟨_, hv, rfl⟩
          | exact hv
          | (obtain ⟨oc, k1, k2⟩ := hv; exact ⟨oc, k1, k2.2⟩)
          | (obtain ⟨oc, k1, k2⟩ := hv; exact ⟨oc, k1, k2⟩)
      rw [e] at h1
      cases h1
      rw [hd] at h2
      cases h2
    rw [upd_ne hne]
    exact I.freeC x c hc
  · intro p hp
    obtain ⟨h1, h2, h3⟩ := I.pin p hp
    exact ⟨h1, by rw [upd_ne (np p hp)]; exact h2, h3⟩
  · intro b u hb
    by_cases q : b = a
    · subst q
      rw [upd_same] at hb
      cases hb
      exact xo_ok e z hd
    · rw [upd_ne q] at hb
      exact (I.hok b u hb).stay (fun _ _ _ k => k) (fun _ k => other k) (fun _ _ k => other k)
/-- the kept exception's object, its dict with it -/
theorem xo_inst {C dd : Addr} {fs : List (Str × V)} (I : Inv X pins σ H s) (ha : H a = some (XO a (.ref C) d)) (hd : d = none ∨ (d = some dd ∧ H dd = some (.xd fs))) :
    ∃ (o : Obj) (od : Option Obj), PySem.W.InstAt s.heap a o C od := by
  obtain ⟨o, fv, e, z, k⟩ := xo_at (I.hok a _ ha)
  rcases hd with rfl | ⟨rfl, hdd⟩
  · refine ⟨o, none, ?_⟩
    obtain ⟨oc, od, oda, osl⟩ := o
    obtain ⟨z1, z2⟩ := z
    dsimp only at z1 z2 k
    subst z1 z2 k
    exact ⟨e, rfl, rfl, trivial⟩
  · obtain ⟨mA, hns, _⟩ := (show ObjOk X.prog X.w H s.heap dd (.xd fs) from I.hok dd _ hdd)
    obtain ⟨od, ho, _⟩ := lookIn_ns hns
    exact ⟨o, some od, e, z.1, by unfold PySem.W.notCls; rw [k] <;> rfl, by rw [z.2]; exact ho⟩
end
end MyG
namespace MyG
open PySem PySem.Spec PyProof.Rows L2 Evl
section
variable {X : Cx} {K : PySem.W.Frag}
/-- what stands in the abstract heap of a kept exception -/
def ExcAt (H : Hp) (a C : Addr) (d : Option Addr) : Prop := H a = some (XO a (.ref C) d) ∧ (d = none ∨ ∃ dd fs, d = some dd ∧ H dd = some (.xd fs))
theorem ExcAt.ext {H H' : Hp} {a C : Addr} {d : Option Addr} (e : Ex H H') (h : ExcAt H a C d) : ExcAt H' a C d :=
  ⟨e _ _ h.1, h.2.imp id fun ⟨dd, fs, h1, h2⟩ => ⟨dd, fs, h1, e _ _ h2⟩⟩
theorem cls_some {C : Addr} (h : PySem.W.hasDictIn K C = true) : (PySem.W.clsIn K C).isSome = true := by
  unfold PySem.W.hasDictIn at h
  cases q : PySem.W.clsIn K C with
  | none =>
    rw [q] at h
    cases h
  | some _ => rfl
/-- isinstance(e, c), e kept -/
def rIsX (K : PySem.W.Frag) : List V → Hp → VK → Prop := fun xs H Q => ∃ (a C : Addr) (d : Option Addr) (c : V) (cv : Value) (b : Bool), xs = [.ref a, c] ∧ ExcAt H a C d ∧ ExcC K C ∧ ClsV c cv ∧ PySem.W.kitOne K (.ref C) cv = some b ∧ Q (.bl b) H
theorem call_isX (hK : X.K = K) : CallR X (.builtin "isinstance") (rIsX K) := by
  subst hK
  intro pins s σ H xs us Q I r hh
  obtain ⟨a, C, d, c, cv, b, ex, ea, xc, cl, eb, q⟩ := hh
  subst ex
  cases r with
  | cons r1 t1 =>
    cases t1 with
    | cons r2 t2 =>
      cases t2
      cases r1
      rw [cl.eq r2]
      obtain ⟨o, od, J⟩ : ∃ (o : Obj) (od : Option Obj), PySem.W.InstAt s.heap a o C od := by
        obtain ⟨h1, h2 | ⟨dd, fs, h2, h3⟩⟩ := ea
        · exact xo_inst (dd := a) (fs := []) I h1 (.inl h2)
        · exact xo_inst I h1 (.inr ⟨h2, h3⟩)
      refine PySem.W.kia_one (PySem.W.kitx_exc (cls_some xc.hd) xc.hg xc.hk xc.hs xc.ha xc.hn xc.ht xc.hm) I.kIn J eb (fun z => nomatch z) fun tk => ?_
      exact ⟨.bl b, H, I.tok tk, rfl, q⟩
/-- isinstance(e, (c1, c2, ..)), e kept, the tuple just laid -/
def rIsXT (K : PySem.W.Frag) : List V → Hp → VK → Prop := fun xs H Q => ∃ (a C : Addr) (d : Option Addr) (tp : Addr) (cs : List V) (ws : List Value) (b : Bool), xs = [.ref a, .ref tp] ∧ H tp = some (.tup cs) ∧ Paired ClsV cs ws ∧ ExcAt H a C d ∧ ExcC K C ∧ PySem.W.kitAny K (.ref C) ws = some b ∧ Q (.bl b) H
theorem call_isXT (hK : X.K = K) : CallR X (.builtin "isinstance") (rIsXT K) := by
  subst hK
  intro pins s σ H xs us Q I r hh
  obtain ⟨a, C, d, tp, cs, ws, b, ex, hT, k, ea, xc, eb, q⟩ := hh
  subst ex
  cases r with
  | cons r1 t1 =>
    cases t1 with
    | cons r2 t2 =>
      cases t2
      cases r1
      cases r2
      obtain ⟨o, od, J⟩ : ∃ (o : Obj) (od : Option Obj), PySem.W.InstAt s.heap a o C od := by
        obtain ⟨h1, h2 | ⟨dd, fs, h2, h3⟩⟩ := ea
        · exact xo_inst (dd := a) (fs := []) I h1 (.inl h2)
        · exact xo_inst I h1 (.inr ⟨h2, h3⟩)
      obtain ⟨_, its, rv, ob, h1, h2, n, h3⟩ := (show ObjOk X.prog X.w H s.heap tp (.tup cs) from I.hok tp _ hT)
      have e3 := ClsV.all k rv
      subst e3
      obtain ⟨oc, od2, dt, sl⟩ := ob
      simp only at h2 h3
      subst h2 h3
      refine PySem.W.kia_tup (PySem.W.kitx_exc (cls_some xc.hd) xc.hg xc.hk xc.hs xc.ha xc.hn xc.ht xc.hm) I.kIn J h1 eb (fun z => nomatch z) fun tk => ?_
      exact ⟨.bl b, H, I.tok tk, rfl, q⟩
/-- e.f, e kept -/
def tXv (K : PySem.W.Frag) (ta : TE) (f : Str) : TE := fun σ H Q => ta σ H fun x H1 => ∃ (a C dd : Addr) (fs : List (Str × V)) (v : V), x = .ref a ∧ H1 a = some (XO a (.ref C) (some dd)) ∧ H1 dd = some (.xd fs) ∧ XfC K C ∧ PySem.W.findIn K (.ref C) f = some none ∧ fs.lookup f = some v ∧ Q v H1
theorem pe_xv (hK : X.K = K) {e : Expr} {ta : TE} {f : Str} {pos : Pos} (he : PE X e ta) (hb : attributeBase e f X.env (eval e X.env) = eval e X.env := by rfl) : PE X (.Attribute e f pos) (tXv K ta f) := by
  subst hK
  constructor
  intro pins s σ H Q I hh
  refine attr_of hb (thn (he.run pins s σ H _ I hh) ?_)
  rintro u s1 ⟨x, H1, I1, rx, a, C, dd, fs, v, ex, ea, ed, xf, hno, hl, q⟩
  subst ex
  cases rx
  obtain ⟨o, fv, eo, z, k⟩ := xo_at (I1.hok a _ ea)
  obtain ⟨mA, hns, hrel⟩ := (show ObjOk X.prog X.w H1 s1.heap dd (.xd fs) from I1.hok dd _ ed)
  obtain ⟨od, hod, hlk⟩ := lookIn_ns hns
  obtain ⟨u, hu, ru⟩ := RelO.some_of (o := mA f) (v := v) (by rw [← hl]; exact hrel f)
  have J : PySem.W.InstAt s1.heap a o C (some od) := ⟨eo, z.1, by unfold PySem.W.notCls; rw [k] <;> rfl, by rw [z.2]; exact hod⟩
  refine HandSPX.exc_get I1.kIn J xf.ga xf.gg xf.exC (PySem.W.findObj_own xf.hdC hno rfl ?_) (handed_of ru) ⟨v, H1, I1.tok _, ru, q⟩
  rw [hlk, hu]
end
end MyG
/-! ### try: .. except x as n: .., the exception known behind it -/
namespace MyG
open PySem PySem.Spec PyProof.Rows L2 Evl
/-- as wAs says it; behind the suite the exception stands tracked at its address -/
def wKeep (K : PySem.W.Frag) (c : Value) (i : Nat) (ts : Addr → Value → Option Addr → TS) (Wout : WX) (D : Ends) : WX := fun cls d σ H =>
  ∃ b, PySem.W.exmOne K cls c = some b ∧
    (b = true → ∀ a, H a = none → ts a cls d
      { nx := fun σ1 H1 => D.nx (σ1.set i none) (upd H1 a (XO a cls d)), rt := D.rt, bk := fun σ1 H1 => D.bk (σ1.set i none) (upd H1 a (XO a cls d)), ct := fun σ1 H1 => D.ct (σ1.set i none) (upd H1 a (XO a cls d)) }
      (σ.set i (some (.ref a))) H) ∧ (b = false → Wout cls d σ H)
section
variable {X : Cx} {x n : Str} {c : Value} {i : Nat} {body suite : List Stmt} {b₀ : Stmt} {np pos pos' : Pos} {tb : WX → TS} {ts : Addr → Value → Option Addr → TS} {Wout : WX}
theorem ps_try_keep (hs : X.stack = X.env :: X.outer) (hf : X.env.frame = some X.env.locals) (hN : X.N.Nodup) (hi : X.N[i]? = some n) (hln : X.env.kindOf n = some .local) (hc : Names X x c) (tk : Takes X Wout)
    (hb : ∀ (W : WX) (pn : List (Addr × Obj)) (xe : Value → Shared → Prop), Takes (X.tr pn xe) W → PassesOwn (model X.prog X.w) X.A X.env xe → PSs (X.tr pn xe) body (tb W))
    (hsu : ∀ (a : Addr) (oe : Obj) (cls : Value) (d : Option Addr) (pn : List (Addr × Obj)), Zc cls d oe → (∃ vs, oe.data = .fields vs) → PSs (X.suite a ((a, oe) :: pn)) (b₀ :: suite) (ts a cls d)) :
    PS X (.Try body [.ExceptHandler (some (.Name x np)) (some n) (b₀ :: suite) pos'] [] [] pos) (fun D σ H => tb (wKeep X.K c i ts Wout D) D σ H) := by
  constructor
  intro pins s σ H D I hread
  have okX := I.ok
  have frames : X.A.frames = some (X.env :: X.outer) := okX.frames.trans (congrArg some hs)
  have here : Loc X.env.scope n := Or.inl hln
  let W := wKeep X.K c i ts Wout D
  let H1 : ExceptHandler := .ExceptHandler (some (.Name x np)) (some n) (b₀ :: suite) pos'
  let xe : Value → Shared → Prop := fun e s₁ => wpAny (model X.prog X.w) X.A (noteFrame e X.env) (fun _ s₂ => wpAny (model X.prog X.w) X.A (setFlight e none) (fun _ s₃ => wpAny (model X.prog X.w) X.A (handleBy e X.env [H1]) (SP X pins D) X.xe s₃) X.xe s₂) X.xe s₁
  -- an exception of the body
  have caught : Takes (X.tr (X.pn ++ pins) xe) W := by
    rintro u s' ⟨a, B, sI, pinsB, σB, HB, cls, d, rfl, IB, nb, up, sky, na, os, ag, b, hb1, yes, no⟩
    have J : Inv X pins σB HB sI := IB.ofTry okX
    have sky' : Sky B (X.env :: X.outer) a (Zc cls d) X.env.locals s'.heap := hs ▸ sky
    show wpAny (model X.prog X.w) X.A (noteFrame (.ref a) X.env) _ _ _
    refine Sky.land Zc.steady frames hf sky' fun h3 fl3 up3 => ?_
    have up' := up.trans up3
    have J3 : Inv X pins σB HB { s' with heap := h3 } := J.landed nb fl3.1 up' os ag
    obtain ⟨o3, f3, ge3, gz3, gd3⟩ := fl3.there
    have notFrame : a ∉ frs (X.env :: X.outer) := fun hm => by
      obtain ⟨_, o', e', hnf⟩ := fl3.2.2.1.mem hm
      rw [ge3] at e'
      cases e'
      exact hnf _ gd3
    have aL : a ≠ X.env.locals := fun q => notFrame (List.mem_filterMap.mpr ⟨X.env, List.mem_cons_self, by rw [hf, q]⟩)
    have aF : a ∉ X.fs := fun hm => by
      obtain ⟨e, he, q⟩ := List.mem_filterMap.mp hm
      exact notFrame (List.mem_filterMap.mpr ⟨e, List.mem_cons_of_mem _ he, q⟩)
    -- it is new
    have fresh : sI.heap.get? a = none := by
      cases q : sI.heap.get? a with
      | none => rfl
      | some ob =>
        have z := nb a ob q (by rw [hs]; exact notFrame)
        rw [fl3.2.1] at z
        cases z
    have new0 : ∀ ob, X.s_0.heap.get? a = some ob → a ∈ X.ex := fun ob q => by
      by_cases hx : a ∈ X.ex
      · exact hx
      · obtain ⟨o', z⟩ := J.base.there a ob q hx
        rw [fresh] at z
        cases z
    have newP : ∀ p ∈ X.pn ++ pins, p.1 ≠ a := fun p hp q => by
      have z := (J.pin p hp).1
      rw [q, fresh] at z
      cases z
    have S3 := J3.suite ge3 gd3 na aL aF
    refine wpAny_handleBy_cons (codeAny_handlers_test ?_) (by intro q; cases q)
    have LT : PySem.W.Looks (model X.prog X.w) h3 (typeOf (.ref a)) cls := fun A' Q' E' s1 k q => wpAny_typeOf_ref (k _ _ ge3) (by rw [gz3.1]; exact q)
    have LM := PySem.W.exm_one (M := model X.prog X.w) J3.kIn LT hb1
    have name : ∀ {Q : Value → Shared → Prop} {E : Value → Shared → Prop}, Q c { s' with heap := h3 } → wpAny (model X.prog X.w) (X.A.mark (some (.ref a))) (eval (.Name x np) X.env) Q E { s' with heap := h3 } := by
      intro Q E q
      rcases hc with ⟨hg, hdb, hm | ⟨hm, hv, hnn⟩⟩
      · exact ld_glob (X := X.suite a ((a, o3) :: (X.pn ++ pins))) S3 hg hm q hdb
      · exact ld_blt (X := X.suite a ((a, o3) :: (X.pn ++ pins))) S3 hg hm hv q hnn hdb
    refine name (LM.here ?_)
    cases b with
    | true =>
      refine codeAny_handlers_suite_as (HandSPX.lands_againZ fl3 fun h4 fl4 up4 => ?_)
      have J4 : Inv X pins σB HB { s' with heap := h4 } := J.landed nb fl4.1 (up'.trans up4) os ag
      obtain ⟨o4, f4, ge4, gz4, gd4⟩ := fl4.there
      have S4 := J4.suite ge4 gd4 na aL aF
      refine store_ok (X := X.suite a ((a, o4) :: (X.pn ++ pins))) (v := .ref a) S4 hN hi here rfl (fun s5 S5 => ?_) (.inr hln)
      have leave : ∀ {σ6 : L2.St} {H6 : Hp} {s6 : Shared} {Q : Shared → Prop} (kept : Bool), Inv (X.suite a ((a, o4) :: (X.pn ++ pins))) [] σ6 H6 s6 → (∀ s7, Inv X pins (σ6.set i none) (if kept = true then upd H6 a (XO a cls d) else H6) s7 → Q s7) →
          wpAny (model X.prog X.w) X.A (do bindName X.env n .none; unbindBehindTheSuite X.env n pos') (fun _ s7 => Q s7) X.xe s6 := by
        intro σ6 H6 s6 Q kept S6 hq
        have I6 : Inv X pins σ6 H6 s6 := S6.unsuite okX
        obtain ⟨g1, g2, _⟩ := S6.pin (a, o4) (List.mem_append_left _ List.mem_cons_self)
        cases kept with
        | true => exact gone_ok (tell_exc I6 g1 gz4 gd4 g2 aL newP new0) hN hi hln hq
        | false => exact gone_ok I6 hN hi hln hq
      refine wpAny_mono ((hsu a o4 cls d (X.pn ++ pins) gz4 ⟨_, gd4⟩).run [] s5 _ HB _ S5 (yes rfl a na)) (fun f s6 hsp => ?_) (fun _ _ z => z.elim)
      cases f with
      | next =>
        obtain ⟨σ6, H6, S6, q6⟩ := hsp
        exact leave true S6 fun s7 J7 => ⟨_, _, J7, q6⟩
      | brk =>
        obtain ⟨σ6, H6, S6, q6⟩ := hsp
        exact leave true S6 fun s7 J7 => ⟨_, _, J7, q6⟩
      | cont =>
        obtain ⟨σ6, H6, S6, q6⟩ := hsp
        exact leave true S6 fun s7 J7 => ⟨_, _, J7, q6⟩
      | ret u =>
        obtain ⟨v6, σ6, H6, S6, r6, q6⟩ := hsp
        exact leave false S6 fun s7 J7 => ⟨_, _, _, J7, r6, q6⟩
    | false =>
      show wpAny _ X.A (handleBy (.ref a) X.env []) _ _ _
      refine wpAny_handleBy_nil ?_
      obtain ⟨k1, k2, k3, oe, fv, T, oT, ft, ge, gz, gd, g1, gr⟩ := id fl3
      unfold PySem.passOn
      refine wpAny_bind (wpAny_field ge gd g1 ?_)
      rw [if_neg (by simp : ¬ ((Value.ref T == Value.none) = true))]
      have up_ : wpAny (model X.prog X.w) X.A (setFlight (.ref a) X.env.frame) (fun _ s4 => wpAny (model X.prog X.w) X.A (throw (.ref a) : Sem Flow) (SP X pins D) X.xe s4) X.xe { s' with heap := h3 } := by
        rw [hf]
        refine HandSPX.setFlight_upZ fl3 fun h4 held up4 => wpAny_throw (tk _ _ ?_)
        exact ⟨a, B, sI, pins, σB, HB, cls, d, rfl, J, nb, up'.trans up4, .inr (.inr (hs.symm ▸ held)), na, os, ag, no rfl⟩
      first
        | exact wpAny_bind (wpAny_pure (wpAny_bind up_))
        | exact wpAny_bind up_
  refine wpAny_Try_except (wpAny_mono ((hb W (X.pn ++ pins) xe caught PassesOwn.looking).run [] s σ H D (I.toTry _) hread) (fun f s1 hsp => ?_) (fun _ _ he => he))
  cases f with
  | next =>
    obtain ⟨σ1, H1', J1, q⟩ := hsp
    exact wpAny_execs_nil ⟨σ1, H1', J1.ofTry okX, q⟩
  | brk =>
    obtain ⟨σ1, H1', J1, q⟩ := hsp
    exact ⟨σ1, H1', J1.ofTry okX, q⟩
  | cont =>
    obtain ⟨σ1, H1', J1, q⟩ := hsp
    exact ⟨σ1, H1', J1.ofTry okX, q⟩
  | ret u =>
    obtain ⟨v, σ1, H1', J1, r, q⟩ := hsp
    exact ⟨v, σ1, H1', J1.ofTry okX, r, q⟩
end
end MyG

set_option maxHeartbeats 1000000
/-! worlds: a drawing state, what is known, and regions that change; the same for all laws -/
namespace MyG
open PySem PySem.Spec PyProof.Rows L2 Evl
/-! ### the drawing state: a list [cells, place, last] at s, the cells at c -/
structure Sta (s c : Addr) (H : Hp) : Prop where
  ne : s ≠ c
  ex : ∃ (cells : List Int) (i j : Int), H s = some (.lst [.ref c, .int i, .int j]) ∧ H c = some (.lst (cells.map V.int)) ∧ cells ≠ [] ∧ (∀ x ∈ cells, 0 ≤ x) ∧ 0 ≤ i ∧ 0 ≤ j ∧ j < 2147483647
def Off (s c : Addr) (H H' : Hp) : Prop := ∀ a, a ≠ s → a ≠ c → H' a = H a
structure Wd (s c : Addr) (B H : Hp) : Prop where
  ex : Ex B H
  ns : B s = none
  nc : B c = none
  st : Sta s c H
theorem Sta.ext {s c : Addr} {H H' : Hp} (h : Sta s c H) (e : Ex H H') : Sta s c H' :=
  ⟨h.ne, let ⟨cells, i, j, h1, h2, r⟩ := h.ex; ⟨cells, i, j, e _ _ h1, e _ _ h2, r⟩⟩
theorem Sta.s_some {s c : Addr} {H : Hp} (h : Sta s c H) : ∃ o, H s = some o := let ⟨_, _, _, h1, _⟩ := h.ex; ⟨_, h1⟩
theorem Sta.c_some {s c : Addr} {H : Hp} (h : Sta s c H) : ∃ o, H c = some o := let ⟨_, _, _, _, h2, _⟩ := h.ex; ⟨_, h2⟩
theorem Sta.ne_s {s c p : Addr} {H : Hp} (h : Sta s c H) (hp : H p = none) : p ≠ s := fun e => by
  obtain ⟨o, z⟩ := h.s_some
  rw [e, z] at hp
  cases hp
theorem Sta.ne_c {s c p : Addr} {H : Hp} (h : Sta s c H) (hp : H p = none) : p ≠ c := fun e => by
  obtain ⟨o, z⟩ := h.c_some
  rw [e, z] at hp
  cases hp
theorem Sta.upd {s c p : Addr} {H : Hp} {o : HO} (h : Sta s c H) (hs : p ≠ s) (hc : p ≠ c) : Sta s c (upd H p o) :=
  ⟨h.ne, let ⟨cells, i, j, h1, h2, r⟩ := h.ex; ⟨cells, i, j, by rw [upd_ne hs.symm]; exact h1, by rw [upd_ne hc.symm]; exact h2, r⟩⟩
section
variable {s c p : Addr} {B H H' : Hp} {o : HO}
theorem Wd.off (h : Wd s c B H) (st : Sta s c H') (f : Off s c H H') : Wd s c B H' := ⟨fun a u e => by
  rw [f a (fun z => by rw [z, h.ns] at e; cases e) (fun z => by rw [z, h.nc] at e; cases e)]
  exact h.ex a u e, h.ns, h.nc, st⟩
theorem Wd.ext (h : Wd s c B H) (e : Ex H H') : Wd s c B H' := ⟨h.ex.trans e, h.ns, h.nc, h.st.ext e⟩
theorem Wd.mut (h : Wd s c B H) (hp : B p = none) (hs : p ≠ s) (hc : p ≠ c) : Wd s c B (upd H p o) := ⟨h.ex.mut hp, h.ns, h.nc, h.st.upd hs hc⟩
theorem Wd.know (h : Wd s c B H) (hp : H p = some o) (hs : p ≠ s) (hc : p ≠ c) : Wd s c (upd B p o) H := ⟨fun a u e => by
  by_cases z : a = p
  · rw [z, upd_same] at e
    rw [z, ← e]
    exact hp
  · rw [upd_ne z] at e
    exact h.ex a u e, by rw [upd_ne hs.symm]; exact h.ns, by rw [upd_ne hc.symm]; exact h.nc, h.st⟩
theorem Wd.none_of (h : Wd s c B H) (hp : H p = none) : B p = none := fresh_back h.ex hp
theorem ex_know (hp : B p = none) : Ex B (upd B p o) := Ex.new hp
end
/-- all but the state -/
def beside (s c : Addr) (H : Hp) : Hp := fun a => if a = s ∨ a = c then none else H a
theorem beside_some {s c a : Addr} {H : Hp} {o : HO} (h1 : a ≠ s) (h2 : a ≠ c) (h : H a = some o) : beside s c H a = some o := by
  unfold beside
  rw [if_neg (by intro z; rcases z with z | z <;> contradiction)]
  exact h
theorem beside_none {s c a : Addr} {H : Hp} (h : beside s c H a = none) (h1 : a ≠ s) (h2 : a ≠ c) : H a = none := by
  unfold beside at h
  rwa [if_neg (by intro z; rcases z with z | z <;> contradiction)] at h
theorem beside_wd {s c : Addr} {H : Hp} (st : Sta s c H) : Wd s c (beside s c H) H := by
  refine ⟨fun a o h => ?_, ?_, ?_, st⟩
  · unfold beside at h
    split at h
    · cases h
    · exact h
  · unfold beside; rw [if_pos (.inl rfl)]
  · unfold beside; rw [if_pos (.inr rfl)]
/-! ### regions of the heap that change -/
/-- M became M' while the heap became H', and nothing else changed -/
structure Chg (M M' H H' : Hp) : Prop where
  now : Ex M' H'
  frame : ∀ a o, M a = none → H a = some o → H' a = some o
  fresh : ∀ a, M' a ≠ none → M a ≠ none ∨ H a = none
/-- what no region has in common -/
def Dj (M N : Hp) : Prop := ∀ a, M a = none ∨ N a = none
theorem Dj.symm {M N : Hp} (h : Dj M N) : Dj N M := fun a => (h a).symm
theorem Chg.keep {M M' H H' N : Hp} (c : Chg M M' H H') (d : Dj N M) (e : Ex N H) : Ex N H' ∧ Dj N M' := by
  refine ⟨fun a o ha => ?_, fun a => ?_⟩
  · rcases d a with z | z
    · rw [z] at ha; cases ha
    · exact c.frame a o z (e a o ha)
  · cases hn : N a with
    | none => exact .inl rfl
    | some o =>
      right
      cases hm : M' a with
      | none => rfl
      | some o' =>
        exfalso
        rcases d a with z | z
        · rw [z] at hn; cases hn
        · rcases c.fresh a (by rw [hm]; exact fun q => by cases q) with k | k
          · exact k z
          · have := e a o hn
            rw [k] at this
            cases this
theorem Chg.id {M H : Hp} (e : Ex M H) : Chg M M H H := ⟨e, fun _ _ _ h => h, fun _ h => .inl h⟩
theorem Chg.ext {M H H' : Hp} (e : Ex M H) (h : Ex H H') : Chg M M H H' := ⟨e.trans h, fun a o _ z => h a o z, fun _ h => .inl h⟩
theorem Chg.trans {M1 M2 M3 H1 H2 H3 : Hp} (a : Chg M1 M2 H1 H2) (b : Chg M2 M3 H2 H3) : Chg M1 M3 H1 H3 := by
  refine ⟨b.now, fun x o hm hx => ?_, fun x hx => ?_⟩
  · have h2 := a.frame x o hm hx
    refine b.frame x o ?_ h2
    cases q : M2 x with
    | none => rfl
    | some o' =>
      exfalso
      rcases a.fresh x (by rw [q]; exact fun z => by cases z) with k | k
      · exact k hm
      · rw [k] at hx; cases hx
  · rcases b.fresh x hx with k | k
    · exact a.fresh x k
    · cases h1 : H1 x with
      | none => exact .inr rfl
      | some o =>
        left
        intro hm
        have := a.frame x o hm h1
        rw [k] at this
        cases this
theorem Chg.put {M H : Hp} {r : Addr} {o0 o : HO} (e : Ex M H) (hr : M r = some o0) : Chg M (upd M r o) H (upd H r o) := by
  refine ⟨fun a u ha => ?_, fun a u hm ha => ?_, fun a ha => ?_⟩
  · by_cases z : a = r
    · rw [z, upd_same] at ha ⊢
      exact ha
    · rw [upd_ne z] at ha ⊢
      exact e a u ha
  · rw [upd_ne fun z => by rw [z, hr] at hm; cases hm]
    exact ha
  · by_cases z : a = r
    · left
      rw [z, hr]
      exact fun q => by cases q
    · rw [upd_ne z] at ha
      exact .inl ha
/-- a new object joins the region -/
theorem Chg.new {M H : Hp} {r : Addr} {o : HO} (e : Ex M H) (hr : H r = none) : Chg M (upd M r o) H (upd H r o) := by
  refine ⟨fun a u ha => ?_, fun a u hm ha => ?_, fun a ha => ?_⟩
  · by_cases z : a = r
    · rw [z, upd_same] at ha ⊢
      exact ha
    · rw [upd_ne z] at ha ⊢
      exact e a u ha
  · rw [upd_ne fun z => by rw [z, hr] at ha; cases ha]
    exact ha
  · by_cases z : a = r
    · exact .inr (by rw [z]; exact hr)
    · rw [upd_ne z] at ha
      exact .inl ha
def emp : Hp := fun _ => none
theorem ex_emp {H : Hp} : Ex emp H := fun _ _ h => nomatch h
/-- two regions together -/
def un (M N : Hp) : Hp := fun a => (N a).or (M a)
theorem un_r {M N : Hp} {a : Addr} {o : HO} (h : N a = some o) : un M N a = some o := by
  unfold un
  rw [h]
  rfl
theorem un_l {M N : Hp} {a : Addr} (h : N a = none) : un M N a = M a := by
  unfold un
  rw [h]
  rfl
theorem Chg.un {M N H H1 H2 : Hp} (a : Chg emp M H H1) (b : Chg emp N H1 H2) : Chg emp (un M N) H H2 := by
  refine ⟨fun x o hx => ?_, fun x o _ hx => b.frame x o rfl (a.frame x o rfl hx), fun x hx => ?_⟩
  · cases hn : N x with
    | some o' =>
      rw [un_r hn] at hx
      rw [← hx]
      exact b.now x o' hn
    | none =>
      rw [un_l hn] at hx
      exact b.frame x o rfl (a.now x o hx)
  · right
    cases hn : N x with
    | some o' =>
      rcases b.fresh x (by rw [hn]; exact fun q => by cases q) with k | k
      · exact absurd rfl k
      · cases h : H x with
        | none => rfl
        | some o =>
          have := a.frame x o rfl h
          rw [k] at this
          cases this
    | none =>
      rw [un_l hn] at hx
      rcases a.fresh x hx with k | k
      · exact absurd rfl k
      · exact k
theorem unlock_ex {H H' : Hp} {e : Addr} {od : Obj} {u : HO} (he : H e = some u) (h : Ex (upd H e (.frz od u)) H') : Ex H (upd H' e u) := fun a o ha => by
  by_cases z : a = e
  · rw [z, upd_same, ← he, ← z, ha]
  · rw [upd_ne z]
    exact h a o (by rw [upd_ne z]; exact ha)
theorem Chg.unlock {N H H' : Hp} {e : Addr} {od : Obj} {u : HO} (he : H e = some u) (c : Chg emp N (upd H e (.frz od u)) H') : Chg emp N H (upd H' e u) := by
  have hN : N e = none := by
    cases q : N e with
    | none => rfl
    | some o =>
      rcases c.fresh e (by rw [q]; exact fun z => by cases z) with k | k
      · exact absurd rfl k
      · rw [upd_same] at k; cases k
  refine ⟨fun a o ha => ?_, fun a o _ ha => unlock_ex he (fun x y hx => c.frame x y rfl hx) a o ha, fun a ha => ?_⟩
  · rw [upd_ne fun z => by rw [z, hN] at ha; cases ha]
    exact c.now a o ha
  · rcases c.fresh a ha with k | k
    · exact absurd rfl k
    · right
      by_cases z : a = e
      · rw [z, hN] at ha
        exact absurd rfl ha
      · rw [upd_ne z] at k
        exact k
def one (p : Addr) (o : HO) : Hp := upd (fun _ => none) p o
/-! ### lists -/
theorem paired_at {α β : Type} {R : α → β → Prop} : ∀ {xs : List α} {ys : List β} {i : Nat} {x : α}, Paired R xs ys → xs[i]? = some x → ∃ y, ys[i]? = some y ∧ R x y
  | _, _, _, _, .nil, e => by simp at e
  | _, _, 0, _, .cons r _, e => by simp at e; subst e; exact ⟨_, rfl, r⟩
  | _, _, i + 1, x, .cons _ t, e => by
    obtain ⟨y, h1, h2⟩ := paired_at (i := i) (x := x) t (by simpa using e)
    exact ⟨y, by simpa using h1, h2⟩
theorem paired_at0 {α β : Type} {R : α → β → Prop} : ∀ {xs : List α} {ys : List β} {i : Nat} {y : β}, Paired R xs ys → ys[i]? = some y → ∃ x, xs[i]? = some x ∧ R x y
  | _, _, _, _, .nil, e => by simp at e
  | _, _, 0, _, .cons r _, e => by simp at e; subst e; exact ⟨_, rfl, r⟩
  | _, _, i + 1, y, .cons _ t, e => by
    obtain ⟨x, h1, h2⟩ := paired_at0 (i := i) (y := y) t (by simpa using e)
    exact ⟨x, by simpa using h1, h2⟩
theorem take_snoc {α : Type} {l : List α} {i : Nat} {x : α} (h : l[i]? = some x) : l.take (i + 1) = l.take i ++ [x] := by
  rw [List.take_add_one, h]
  rfl
theorem len_lt {n : Nat} (h : n ≤ 100000) : n < sizeLine := Nat.lt_of_le_of_lt h (by decide)
theorem seq0 {n : Nat} (h : 0 < n) : seqIndex? 0 n = some 0 := (ixN_seq (Evl.ixN_nat h)).1
theorem paired_mem {α β : Type} {R S : α → β → Prop} : ∀ {xs : List α} {ys : List β}, Paired R xs ys → (∀ x y, x ∈ xs → R x y → S x y) → Paired S xs ys
  | _, _, .nil, _ => .nil
  | _, _, .cons h t, f => .cons (f _ _ (List.mem_cons_self ..) h) (paired_mem t fun x y hx => f x y (List.mem_cons_of_mem _ hx))
theorem map_set_same {α β : Type} {f : α → β} : ∀ {l : List α} {k : Nat} {x y : α}, l[k]? = some x → f y = f x → (l.set k y).map f = l.map f
  | [], _, _, _, h, _ => by simp at h
  | a :: l, 0, x, y, h, e => by
    obtain rfl : a = x := by simpa using h
    show f y :: l.map f = f a :: l.map f
    rw [e]
  | a :: l, k + 1, x, y, h, e => by
    show f a :: (l.set k y).map f = f a :: l.map f
    rw [map_set_same (show l[k]? = some x by simpa using h) e]
theorem erase_set {α : Type} : ∀ {l : List α} {k : Nat} {x : α}, (l.set k x).eraseIdx k = l.eraseIdx k
  | [], _, _ => rfl
  | a :: l, 0, x => rfl
  | a :: l, k + 1, x => by
    show a :: (l.set k x).eraseIdx k = a :: l.eraseIdx k
    rw [erase_set]
/-! ### helpers of draws -/
theorem fmod_bd {a m : Int} (h : 0 < m) : 0 ≤ a.fmod m ∧ a.fmod m < m := ⟨Int.fmod_nonneg_of_pos a h, Int.fmod_lt_of_pos a h⟩
theorem ints_at {ns : List Int} {k : Int} (h0 : 0 ≤ k) (h1 : k < (ns.length : Int)) : ∃ x, ns[k.toNat]? = some x ∧ atI (ns.map V.int) k = some (.int x) ∧ x ∈ ns := by
  have hk : k.toNat < ns.length := by omega
  refine ⟨ns[k.toNat], List.getElem?_eq_getElem hk, ?_, List.getElem_mem hk⟩
  refine at_of (j := k.toNat) (by omega) ?_
  rw [List.getElem?_map, List.getElem?_eq_getElem hk]
  rfl
theorem map_set_int (ns : List Int) (j : Nat) (y : Int) : (ns.map V.int).set j (.int y) = (ns.set j y).map V.int := by
  rw [List.map_set]
theorem mem_set {ns : List Int} {j : Nat} {y : Int} (h : ∀ x ∈ ns, 0 ≤ x) (hy : 0 ≤ y) : ∀ x ∈ ns.set j y, 0 ≤ x := fun x hx => by
  rcases List.mem_or_eq_of_mem_set hx with e | e
  · exact h x e
  · rw [e]; exact hy
theorem go_L {te : TE} {σ : L2.St} {H : Hp} {xs : List V} {Q : VK} (h : EvL te σ H xs) (k : ∀ p H1, H p = none → Ex H H1 → H1 p = some (.lst xs) → Q (.ref p) H1) : te σ H Q := h H (Ex.refl H) Q k
theorem go_U {te : TE} {σ : L2.St} {H : Hp} {xs : List V} {Q : VK} (h : EvU te σ H xs) (k : ∀ p H1, H p = none → Ex H H1 → H1 p = some (.tup xs) → Q (.ref p) H1) : te σ H Q := h H (Ex.refl H) Q k
theorem go_V {te : TE} {σ : L2.St} {H : Hp} {v : V} {Q : VK} (h : Ev te σ H v) (k : ∀ H1, Ex H H1 → Q v H1) : te σ H Q := h H (Ex.refl H) Q k
theorem et_yes {σ : L2.St} {H : Hp} : EvT tYes σ H true := fun H1 _ _ q => q H1 (Ex.refl H1)
theorem given_all (ys : List V) : given ys.length (fun _ => true) (fun i => ys.getD i .non) = ys := by
  unfold given
  rw [List.filter_eq_self.mpr (fun _ _ => rfl)]
  refine List.ext_getElem (by simp) (fun i h1 h2 => ?_)
  rw [List.getElem_map, List.getElem_range, List.getD_eq_getElem?_getD, List.getElem?_eq_getElem h2]
  rfl
theorem el_map {K : PySem.W.Frag} {σ : L2.St} {H : Hp} {te : TE} {a : Addr} {xs ys : List V} {tl : TE} {j : Nat} {vs : List Nat} (h : Ev tl σ H (.ref a)) (hx : SqL K H a xs) (hz : xs.length ≤ 40000) (hl : ys.length = xs.length)
    (hw : ∀ x, wipe ((wipe σ vs).set j (some x)) vs = wipe σ vs) (he : ∀ (i : Nat) (x y : V) H1, Ex H H1 → xs[i]? = some x → ys[i]? = some y → Ev te ((wipe σ vs).set j (some x)) H1 y) : EvL (tLc (iList K tl) (gName j) tYes te vs) σ H ys := by
  have k := el_lcL (K := K) (t := tYes) (te := te) (fun _ => true) (fun i => ys.getD i .non) h hx hz hw (fun i x H1 e hi => et_yes) (fun i x H1 e hi _ => by
    have h1 := (List.getElem?_eq_some_iff.mp hi).1
    have h2 : i < ys.length := by omega
    rw [show ys.getD i .non = ys[i] by rw [List.getD_eq_getElem?_getD, List.getElem?_eq_getElem h2]; rfl]
    exact he i x _ H1 e hi (List.getElem?_eq_getElem h2))
  rw [← hl, given_all] at k
  exact k
/-! ### a world: what is known (B), the state that draws change (s, c), and regions that change (Rs), no two with anything in common -/
structure Wld (s c : Addr) (B : Hp) (Rs : List Hp) (H : Hp) : Prop where
  w : Wd s c B H
  ex : ∀ R ∈ Rs, Ex R H
  off : ∀ R ∈ Rs, R s = none ∧ R c = none
  dj : ∀ R ∈ Rs, Dj B R
  pw : Rs.Pairwise Dj
section
variable {s c p : Addr} {B B' M M' H H' : Hp} {Rs Rs' : List Hp} {o : HO}
theorem Wld.st (W : Wld s c B Rs H) : Sta s c H := W.w.st
theorem Wld.fresh (W : Wld s c B Rs H) (hp : H p = none) : ∀ R ∈ Rs, R p = none := fun R hR => fresh_back (W.ex R hR) hp
theorem Wld.drawn (W : Wld s c B Rs H) (st : Sta s c H') (f : Off s c H H') : Wld s c B Rs H' := ⟨W.w.off st f, fun R hR a u e => by
  obtain ⟨h1, h2⟩ := W.off R hR
  rw [f a (fun z => by rw [z, h1] at e; cases e) (fun z => by rw [z, h2] at e; cases e)]
  exact W.ex R hR a u e, W.off, W.dj, W.pw⟩
/-- nothing but the state is otherwise -/
def Kept (s c : Addr) (H H' : Hp) : Prop := ∀ a o, a ≠ s → a ≠ c → H a = some o → H' a = some o
theorem Wld.kept (W : Wld s c B Rs H) (st : Sta s c H') (f : Kept s c H H') : Wld s c B Rs H' := ⟨⟨fun a u e => f a u (fun z => by rw [z, W.w.ns] at e; cases e) (fun z => by rw [z, W.w.nc] at e; cases e) (W.w.ex a u e), W.w.ns, W.w.nc, st⟩, fun R hR a u e => by
  obtain ⟨h1, h2⟩ := W.off R hR
  exact f a u (fun z => by rw [z, h1] at e; cases e) (fun z => by rw [z, h2] at e; cases e) (W.ex R hR a u e), W.off, W.dj, W.pw⟩
theorem Wld.ext (W : Wld s c B Rs H) (e : Ex H H') : Wld s c B Rs H' := ⟨W.w.ext e, fun R hR => (W.ex R hR).trans e, W.off, W.dj, W.pw⟩
theorem Wld.know (W : Wld s c B Rs H) (hp : H p = some o) (hs : p ≠ s) (hc : p ≠ c) (hR : ∀ R ∈ Rs, R p = none) : Wld s c (upd B p o) Rs H := ⟨W.w.know hp hs hc, W.ex, W.off, fun R h a => by
  by_cases z : a = p
  · rw [z]
    exact .inr (hR R h)
  · rw [upd_ne z]
    exact W.dj R h a, W.pw⟩
theorem Wld.newK (W : Wld s c B Rs H) (hp : H p = none) : Wld s c (upd B p o) Rs (upd H p o) := (W.ext (Ex.new hp)).know upd_same (W.st.ne_s hp) (W.st.ne_c hp) (W.fresh hp)
/-- what is new becomes known -/
theorem Wld.knew (W : Wld s c B Rs H) (e : Ex H H') (hp : H p = none) (hp' : H' p = some o) : Wld s c (upd B p o) Rs H' := (W.ext e).know hp' (W.st.ne_s hp) (W.st.ne_c hp) (W.fresh hp)
theorem Wld.none (W : Wld s c B Rs H) (hp : H p = none) : B p = none := W.w.none_of hp
theorem Wld.perm (W : Wld s c B Rs H) (pm : Rs.Perm Rs') : Wld s c B Rs' H := ⟨W.w, fun R h => W.ex R (pm.mem_iff.mpr h), fun R h => W.off R (pm.mem_iff.mpr h), fun R h => W.dj R (pm.mem_iff.mpr h), (pm.pairwise_iff fun h => h.symm).mp W.pw⟩
theorem Wld.drop (W : Wld s c B (M :: Rs) H) : Wld s c B Rs H := ⟨W.w, fun R h => W.ex R (List.mem_cons_of_mem _ h), fun R h => W.off R (List.mem_cons_of_mem _ h), fun R h => W.dj R (List.mem_cons_of_mem _ h), (List.pairwise_cons.mp W.pw).2⟩
theorem Wld.swap (W : Wld s c B (M :: M' :: Rs) H) : Wld s c B (M' :: M :: Rs) H := W.perm (List.Perm.swap _ _ _)
theorem Dj.chg {N : Hp} (d : Dj N M) (e : Ex N H) (ch : Chg M M' H H') : Dj N M' := (ch.keep d e).2
theorem Wld.chg (W : Wld s c B (M :: Rs) H) (ch : Chg M M' H H') : Wld s c B (M' :: Rs) H' := by
  have hM : M ∈ M :: Rs := List.mem_cons_self ..
  obtain ⟨ms, mc⟩ := W.off M hM
  have pw := List.pairwise_cons.mp W.pw
  have out : ∀ {a : Addr} {o : HO}, M a = Option.none → H a = some o → M' a = Option.none := fun {a o} h1 h2 => by
    cases q : M' a with
    | none => rfl
    | some u =>
      rcases ch.fresh a (by rw [q]; exact fun z => by cases z) with k | k
      · exact absurd h1 k
      · rw [k] at h2
        cases h2
  obtain ⟨so, hs⟩ := W.st.s_some
  obtain ⟨co, hc⟩ := W.st.c_some
  have sta : Sta s c H' := ⟨W.st.ne, by
    obtain ⟨cells, i, j, h1, h2, r⟩ := W.st.ex
    exact ⟨cells, i, j, ch.frame _ _ ms h1, ch.frame _ _ mc h2, r⟩⟩
  refine ⟨⟨(ch.keep (W.dj M hM) W.w.ex).1, W.w.ns, W.w.nc, sta⟩, fun R hR => ?_, fun R hR => ?_, fun R hR => ?_, List.pairwise_cons.mpr ⟨fun R hR => ?_, pw.2⟩⟩
  · rcases List.mem_cons.mp hR with rfl | hR
    · exact ch.now
    · exact (ch.keep (pw.1 R hR).symm (W.ex R (List.mem_cons_of_mem _ hR))).1
  · rcases List.mem_cons.mp hR with rfl | hR
    · exact ⟨out ms hs, out mc hc⟩
    · exact W.off R (List.mem_cons_of_mem _ hR)
  · rcases List.mem_cons.mp hR with rfl | hR
    · exact (ch.keep (W.dj M hM) W.w.ex).2
    · exact W.dj R (List.mem_cons_of_mem _ hR)
  · exact ((ch.keep (pw.1 R hR).symm (W.ex R (List.mem_cons_of_mem _ hR))).2).symm
theorem Wld.emp (W : Wld s c B Rs H) : Wld s c B (emp :: Rs) H := by
  refine ⟨W.w, fun R h => ?_, fun R h => ?_, fun R h => ?_, List.pairwise_cons.mpr ⟨fun R h a => .inl rfl, W.pw⟩⟩
  all_goals rcases List.mem_cons.mp h with rfl | h
  · exact fun a o z => by cases z
  · exact W.ex R h
  · exact ⟨rfl, rfl⟩
  · exact W.off R h
  · exact fun a => .inr rfl
  · exact W.dj R h
/-- new objects as a region -/
theorem Wld.add (W : Wld s c B Rs H) (ch : Chg MyG.emp M' H H') : Wld s c B (M' :: Rs) H' := W.emp.chg ch
theorem Wld.one (W : Wld s c B Rs H) (hp : H p = Option.none) : Wld s c B (upd MyG.emp p o :: Rs) (upd H p o) := W.add (Chg.new (fun a o z => by cases z) hp)
theorem Wld.less (W : Wld s c B' Rs H) (e : Ex B B') : Wld s c B Rs H := ⟨⟨e.trans W.w.ex, fresh_back e W.w.ns, fresh_back e W.w.nc, W.w.st⟩, W.ex, W.off, fun R h a => by
  rcases W.dj R h a with z | z
  · exact .inl (fresh_back e z)
  · exact .inr z, W.pw⟩
end
end MyG

set_option maxHeartbeats 2000000
/-! Promises put together: a def that is called rightly or refuses. -/
namespace MyG
open PySem PySem.Spec PyProof.Rows L2 Evl
section
variable {P : Program} {w : World} {K : PySem.W.Frag} {mg : Str → Option Value} {base : Heap} {k j : Nat} {f : Addr} {fd : FuncData} {ps : List Str} {sp sp' : Sp}
theorem fn_lift (F : FnOk P w K mg base CX0 k f fd ps sp) : FnOk P w K mg base (L2.CX P w) k f fd ps sp := ⟨F.len, fun A outer s H args us vs Q E room e0 b r h => codeAny_mono (F.run A outer s H args us vs Q E room e0 b r h) fun r s' hr => by
  match r, hr with
  | .ok (.ret u), hr => exact hr
  | .error e, hr => exact False.elim hr⟩
theorem fn_or {CX : CXT} (F : FnOk P w K mg base CX k f fd ps sp) (G : FnOk P w K mg base CX k f fd ps sp') : FnOk P w K mg base CX k f fd ps (fun vs H Q E => sp vs H Q E ∨ sp' vs H Q E) :=
  ⟨fun vs H Q E h => h.elim (F.len vs H Q E) (G.len vs H Q E), fun A outer s H args us vs Q E room e0 b r h => h.elim (F.run A outer s H args us vs Q E room e0 b r) (G.run A outer s H args us vs Q E room e0 b r)⟩
end
/-! ### xs.count(y), flat things -/
section
variable {X : Cx}
def rCountF (K : PySem.W.Frag) : V → List V → Hp → VK → Prop := fun x xs H Q => ∃ (a : Addr) (ys : List V) (y : V), x = V.ref a ∧ xs = [y] ∧ SqL K H a ys ∧ flatV y = true ∧ ys.all flatV = true ∧ Q (.int ((ys.countP fun z => eqV z y : Nat) : Int)) H
theorem count_eqU {y : V} : ∀ {ys : List V} {us : List Value}, Vals ys us → ys.all flatV = true → us.countP (eqU y) = ys.countP fun z => eqV z y
  | _, _, .nil, _ => rfl
  | _, _, .cons (a := z) (b := u) h t, f => by
    rw [List.all_cons, Bool.and_eq_true] at f
    rw [List.countP_cons, List.countP_cons, count_eqU t f.2, eqU_of h f.1]
theorem mt_countF : MtR X "list.count" (rCountF X.K) := by
  intro pins s σ H x xs v us Q I rx rxs h
  obtain ⟨a, ys, y, rfl, rfl, hs, fy, fys, q⟩ := h
  cases rx
  cases rxs with
  | cons ry rt =>
    rename_i uy ut
    cases rt
    obtain ⟨its, rv, ⟨⟨cls, dd, data, sl⟩, n, ho, hc, hdn, hd⟩, hlen⟩ := I.list hs
    simp only at hc hd
    subst hc hd
    refine call_meets PySem.F.slot_list_count ⟨_, ho, rfl⟩ PySem.F.entry_list_count (PySem.F.args_list_count_2 _ _)
      (SeqAt.list_countAt a its.toArray n dd sl uy (eqU y)) ⟨ho, fun u' hu' => mem_eqAt ry fy rv fys u' (by simpa using hu'), ?_⟩
    have ec : its.toArray.toList.countP (eqU y) = ys.countP fun z => eqV z y := count_eqU rv fys
    refine ⟨.int ((ys.countP fun z => eqV z y : Nat) : Int), H, I.tok _, ⟨s.toks, ?_⟩, q⟩
    show Value.int ((its.toArray.toList.countP (eqU y) : Nat) : Int) s.toks = Value.int ((ys.countP fun z => eqV z y : Nat) : Int) s.toks
    rw [ec]
end
section
variable {K : PySem.W.Frag} {σ : L2.St} {H : Hp} {te : TE} {C D a : Addr} {d : Option Addr} {b : Bool}
theorem ev_isX (ha : Ev te σ H (.ref a)) (h : ExcAt H a C d) (e : ExcC K C) (k : PySem.W.kitOne K (.ref C) (.ref D) = some b) : Ev (tCB (rIsX K) (tCons te (tCons (tC (.ref D)) tNil))) σ H (.bl b) := fun H1 e1 Q q =>
  ha H1 e1 _ fun H2 e2 => ⟨a, C, d, .ref D, .ref D, b, rfl, h.ext (e1.trans e2), e, .own D, k, q H2 e2⟩
theorem ev_isXt {T : String} (ha : Ev te σ H (.ref a)) (h : ExcAt H a C d) (e : ExcC K C) (k : PySem.W.kitOne K (.ref C) (.type T) = some b) : Ev (tCB (rIsX K) (tCons te (tCons (tC (.ty T)) tNil))) σ H (.bl b) := fun H1 e1 Q q =>
  ha H1 e1 _ fun H2 e2 => ⟨a, C, d, .ty T, .type T, b, rfl, h.ext (e1.trans e2), e, .ty T, k, q H2 e2⟩
theorem ev_isX2 {D1 D2 : Addr} {b1 b2 : Bool} (ha : Ev te σ H (.ref a)) (h : ExcAt H a C d) (e : ExcC K C) (k1 : PySem.W.kitOne K (.ref C) (.ref D1) = some b1) (k2 : PySem.W.kitOne K (.ref C) (.ref D2) = some b2) :
    Ev (tCB (rIsXT K) (tCons te (tCons (tTup (tCons (tC (.ref D1)) (tCons (tC (.ref D2)) tNil))) tNil))) σ H (.bl (b1 || b2)) := fun H1 e1 Q q =>
  ha H1 e1 _ fun H2 e2 => ⟨by show 2 ≤ sizeLine; decide, fun p hp => ⟨a, C, d, p, [.ref D1, .ref D2], [.ref D1, .ref D2], _, rfl, upd_same, .cons (.own _) (.cons (.own _) .nil), (h.ext (e1.trans e2)).ext (Ex.new hp), e, by
    unfold PySem.W.kitAny
    rw [k1]
    cases b1 with
    | true => rfl
    | false =>
      show PySem.W.kitAny _ _ _ = _
      unfold PySem.W.kitAny
      rw [k2]
      cases b2 <;> rfl, q _ (e2.trans (Ex.new hp))⟩⟩
theorem ev_count {xs : List V} {y : V} (ha : Ev te σ H (.ref a)) (h : H a = some (.lst xs)) (fy : flatV y = true) (fx : xs.all flatV = true) : Ev (tBM K "list" (rCountF K) te (tCons (tC y) tNil)) σ H (.int ((xs.countP fun z => eqV z y : Nat) : Int)) := fun H1 e1 Q q =>
  ha H1 e1 _ fun H2 e2 => ⟨.inl ⟨rfl, xs, SqL.of ((e1.trans e2) _ _ h)⟩, a, xs, y, rfl, rfl, SqL.of ((e1.trans e2) _ _ h), fy, fx, q H2 e2⟩
theorem ev_index {xs : List V} {y z : V} {j : Nat} (ha : Ev te σ H (.ref a)) (h : H a = some (.lst xs)) (fy : flatV y = true) (fx : xs.all flatV = true) (hz : xs[j]? = some z) (hj : eqV z y = true) (hno : ∀ (m : Nat) (z' : V), m < j → xs[m]? = some z' → eqV z' y = false) : Ev (tBM K "list" (rIndex K) te (tCons (tC y) tNil)) σ H (.int (j : Nat)) := fun H1 e1 Q q =>
  ha H1 e1 _ fun H2 e2 => ⟨.inl ⟨rfl, xs, SqL.of ((e1.trans e2) _ _ h)⟩, a, xs, y, j, z, rfl, rfl, SqL.of ((e1.trans e2) _ _ h), fy, fx, hz, hj, hno, q H2 e2⟩
theorem ev_xv {f : Str} {dd : Addr} {fs : List (Str × V)} {v : V} (ha : Ev te σ H (.ref a)) (h : H a = some (XO a (.ref C) (some dd))) (hd : H dd = some (.xd fs)) (x : XfC K C) (no : PySem.W.findIn K (.ref C) f = some none) (lk : fs.lookup f = some v) : Ev (tXv K te f) σ H v := fun H1 e1 Q q =>
  ha H1 e1 _ fun H2 e2 => ⟨a, C, dd, fs, v, rfl, (e1.trans e2) _ _ h, (e1.trans e2) _ _ hd, x, no, lk, q H2 e2⟩
theorem el_catN {ta tb : TE} {xs zs : List V} (h1 : EvL ta σ H xs) (h2 : EvL tb σ H zs) (hl : xs.length + zs.length ≤ 1000) : EvL (tOp rCat ta tb) σ H (xs ++ zs) := fun H1 e Q q =>
  h1 H1 e _ fun p H2 hp e2 hx => h2 H2 (e.trans e2) _ fun r H3 hr e3 hz => ⟨p, r, xs, zs, rfl, rfl, e3 _ _ hx, hz, Nat.le_trans hl (by decide), fun t ht => q t _ (fresh_back (e2.trans e3) ht) ((e2.trans e3).trans (Ex.new ht)) upd_same⟩
/-- a list that stands, in a place where a new one may stand too: it is known by what it holds -/
theorem el_catV {tb : TE} {p : Addr} {ta : TE} {xs zs : List V} (h1 : EvL ta σ H xs) (h2 : Ev tb σ H (.ref p)) (hz : H p = some (.lst zs)) (hl : xs.length + zs.length ≤ 1000) : EvL (tOp rCat ta tb) σ H (xs ++ zs) := fun H1 e Q q =>
  h1 H1 e _ fun r H2 hr e2 hx => h2 H2 (e.trans e2) _ fun H3 e3 => ⟨r, p, xs, zs, rfl, rfl, e3 _ _ hx, ((e.trans e2).trans e3) _ _ hz, Nat.le_trans hl (by decide), fun t ht => q t _ (fresh_back (e2.trans e3) ht) ((e2.trans e3).trans (Ex.new ht)) upd_same⟩
/-- a list that is known -/
theorem ev_lst_ix {xs : List V} {tk : TE} {j : Nat} {v : V} (h : EvL te σ H xs) (hk : ∀ H1, Ex H H1 → Ev tk σ H1 (.int (j : Nat))) (hj : xs[j]? = some v) : Ev (tOp (rIxL K) te tk) σ H v := fun H1 e Q q =>
  h H1 e _ fun p H2 hp e2 hx => hk H2 (e.trans e2) H2 (Ex.refl _) _ fun H3 e3 => ⟨p, xs, j, v, rfl, rfl, SqL.of (e3 _ _ hx), atI_nat hj, q H3 (e2.trans e3)⟩
end
end MyG

set_option maxHeartbeats 4000000
/-! min(xs) of a list of tuples of ints: the comparison looks at the heap. -/
namespace MyG
open PySem PySem.Spec PyProof.Rows
/-- a comparison that asks what stands where the walk is -/
def CmpAt (prog : Program) (w : World) (A : Around) (op : CmpOp) (P : Nat → Value → Prop) (St : Nat → Heap → Prop) (bt : Nat → Nat → Bool) : Prop :=
  ∀ (i j k : Nat) (u v : Value) (s : Shared) (Q E : Value → Shared → Prop), St k s.heap → P i u → P j v → Q (.bool (bt i j)) s → wpAny (model prog w) A (richCompare op u v) Q E s
section
variable {prog : Program} {w : World} {A : Around} {R : Result → Shared → Prop} {I S : Addr} {fp wr : List Addr} {n : Nat} {P : Nat → Value → Prop} {St : Nat → Heap → Prop} {bt : Nat → Nat → Bool}
abbrev bestO (v : Value) (c : Nat) : Obj := { cls := .type "list", dict := none, data := .seq #[v, v] c, slots := #[] }
theorem minName : (toString "min" ++ toString ".loop" : String) = "min.loop" := by decide
theorem min_turns (W : Walks prog w A.in1 I fp wr n P St) (cmp : CmpAt prog w A.in1 .Lt P St bt) (hS : S ∉ fp) : ∀ (k j : Nat), n - (j + 1) = k → j + 1 ≤ n → ∀ (s : Shared) (best : Value) (c : Nat), St (j + 1) s.heap → P (argBest bt j) best → s.heap.get? S = some (bestO best c) →
    (∀ v h' tk, P (argBest bt (n - 1)) v → (∀ b o, b ∉ wr → b ≠ S → s.heap.get? b = some o → h'.get? b = some o) → R (.ok (.ret v)) { s with heap := h', toks := tk }) → codeAny (model prog w) A (.builtin "min.loop" ⟨[.ref I, .none, .ref S], []⟩) R s
  | 0, j, hk, hj, s, best, c, st, pb, at_, fin => by
    have last : j + 1 = n := by omega
    subst last
    refine codeAny_builtin F.entry_min_loop ?_
    rw [Around.under_plainId F.plain_min_loop _]
    show wpAny _ A.in1 (seqItems? (.ref S) >>= _) _ _ s
    refine wpAny_bind (wpAny_seqItems at_ rfl ?_)
    refine wpAny_bind (m := tryCatch (pyNext (.ref I)) _) (wpAny_tryCatch (W.done s _ _ st fun h1 t1 keep => ?_))
    refine wpAny_bind (m := updateSeq S (fun _ => #[])) (wpAny_updateSeq (keep S _ (fun z => hS (W.sub _ z)) at_) rfl (wpAny_bind (wpAny_letGo (wpAny_pure ?_))))
    exact fin best _ t1 pb fun b o hw hs e => (Heap.get?_update_other _ _ fun z => hs z.symm).trans (keep b o hw e)
  | k + 1, j, hk, hj, s, best, c, st, pb, at_, fin => by
    have more : j + 1 < n := by omega
    refine codeAny_builtin F.entry_min_loop ?_
    rw [Around.under_plainId F.plain_min_loop _]
    show wpAny _ A.in1 (seqItems? (.ref S) >>= _) _ _ s
    refine wpAny_bind (wpAny_seqItems at_ rfl ?_)
    refine wpAny_bind (m := tryCatch (pyNext (.ref I)) _) (wpAny_tryCatch (W.item (j + 1) s _ _ more st fun v h1 t1 pv st1 keep => ?_))
    have at1 := keep S _ (fun z => hS (W.sub _ z)) at_
    refine wpAny_bind (m := tryCatch (holding [v, v] (richCompare .Lt v best >>= _)) _) (wpAny_tryCatch (wpAny_holding (wpAny_bind (cmp (j + 1) (argBest bt j) (j + 2) v best _ _ _ st1 pv pb ?_))))
    refine wpAny_bind (wpAny_holding (wpAny_truthy_bool ?_))
    refine wpAny_bind (wpAny_letGo (wpAny_pure ?_))
    by_cases hb : bt (j + 1) (argBest bt j) = true
    · rw [hb]
      simp only [if_true]
      refine wpAny_bind ?_
      refine wpAny_updateSeq at1 rfl (wpAny_bind (wpAny_letGo ?_))
      rw [minName]
      refine wpAny_pure ⟨plainId_quiet F.plain_min_loop _, min_turns W cmp hS k (j + 1) (by omega) more _ v _ (W.frame _ _ _ st1 fun b hbf o e => (Heap.get?_update_other _ _ fun z : S = b => hS (z ▸ hbf)).trans e) ?_ (Heap.get?_update_self _ at1 rfl) fun u h2 t2 pu keep2 => ?_⟩
      · unfold argBest
        rw [if_pos hb]
        exact pv
      · exact fin u h2 t2 pu fun b o hw hs e => keep2 b o hw hs ((Heap.get?_update_other _ _ fun z => hs z.symm).trans (keep b o hw e))
    · rw [Bool.not_eq_true] at hb
      rw [hb]
      simp only [Bool.false_eq_true, if_false]
      refine wpAny_bind (wpAny_letGo ?_)
      rw [minName]
      refine wpAny_pure ⟨plainId_quiet F.plain_min_loop _, min_turns W cmp hS k (j + 1) (by omega) more _ best c st1 ?_ at1 fun u h2 t2 pu keep2 => fin u h2 t2 pu fun b o hw hs e => keep2 b o hw hs (keep b o hw e)⟩
      unfold argBest
      rw [if_neg (by rw [hb]; exact Bool.false_ne_true)]
      exact pb
theorem min_starts (W : Walks prog w A.in1 I fp wr n P St) (cmp : CmpAt prog w A.in1 .Lt P St bt) (hS : S ∉ fp) (hn : 0 < n) {s : Shared} {c : Nat} (st : St 0 s.heap) (at_ : s.heap.get? S = some { cls := .type "list", dict := none, data := .seq #[] c, slots := #[] })
    (fin : ∀ v h' tk, P (argBest bt (n - 1)) v → (∀ b o, b ∉ wr → b ≠ S → s.heap.get? b = some o → h'.get? b = some o) → R (.ok (.ret v)) { s with heap := h', toks := tk }) : codeAny (model prog w) A (.builtin "min.loop" ⟨[.ref I, .none, .ref S], []⟩) R s := by
  refine codeAny_builtin F.entry_min_loop ?_
  rw [Around.under_plainId F.plain_min_loop _]
  show wpAny _ A.in1 (seqItems? (.ref S) >>= _) _ _ s
  refine wpAny_bind (wpAny_seqItems at_ rfl ?_)
  refine wpAny_bind (m := tryCatch (pyNext (.ref I)) _) (wpAny_tryCatch (W.item 0 s _ _ hn st fun v h1 t1 pv st1 keep => ?_))
  have at1 := keep S _ (fun z => hS (W.sub _ z)) at_
  refine wpAny_bind (m := updateSeq S (fun _ => #[v, v])) (wpAny_updateSeq at1 rfl ?_)
  rw [minName]
  refine wpAny_pure ⟨plainId_quiet F.plain_min_loop _, min_turns W cmp hS _ 0 rfl hn _ v _ (W.frame _ _ _ st1 fun b hbf o e => (Heap.get?_update_other _ _ fun z : S = b => hS (z ▸ hbf)).trans e) pv (Heap.get?_update_self _ at1 rfl) fun u h2 t2 pu keep2 => ?_⟩
  exact fin u h2 t2 pu fun b o hw hs e => keep2 b o hw hs ((Heap.get?_update_other _ _ fun z => hs z.symm).trans (keep b o hw e))
/-- a walk beside which other things stand -/
theorem walks_with {T : List Addr} {G : Heap → Prop} {A : Around} (W : Walks prog w A I fp wr n P St) (hT : ∀ b ∈ T, b ∉ wr) (hG : ∀ h h', G h → (∀ b ∈ T, ∀ o, h.get? b = some o → h'.get? b = some o) → G h') : Walks prog w A I (fp ++ T) wr n P (fun i h => St i h ∧ G h) where
  sub := fun b hb => List.mem_append_left _ (W.sub b hb)
  frame := fun i h h' st keep => ⟨W.frame i h h' st.1 fun b hb => keep b (List.mem_append_left _ hb), hG h h' st.2 fun b hb => keep b (List.mem_append_right _ hb)⟩
  item := fun i s Q E hi st hQ => W.item i s Q E hi st.1 fun v h' tk pv st' keep => hQ v h' tk pv ⟨st', hG _ _ st.2 fun b hb o e => keep b o (hT b hb) e⟩ keep
  done := fun s Q E st hQ => W.done s Q E st.1 hQ
  self := fun i s Q E st hQ => W.self i s Q E st.1 hQ
end
section
variable {prog : Program} {w : World} {A : Around} {E : Value → Shared → Prop} {s : Shared}
theorem call_minA {x : Value} {Q : Value → Shared → Prop}
    (h : wpAny (model prog w) A.in1 (pyIter x) (fun it s2 => ∃ I fp wr n P St bt, it = .ref I ∧ Walks prog w A.in1 I fp wr n P St ∧ St 0 s2.heap ∧ (∀ b ∈ fp, b < s2.heap.objs.size) ∧ 0 < n ∧ CmpAt prog w A.in1 .Lt P St bt ∧
      ∀ v h' tk, P (argBest bt (n - 1)) v → (∀ b o, b ∉ wr → s2.heap.get? b = some o → h'.get? b = some o) → Q v { s2 with heap := h', toks := tk }) E s) : wpAny (model prog w) A (call (.builtin "min") [x]) Q E s := by
  refine call_function_tree F.kind_min F.plain_min F.entry_min (F.args_min1 _) ?_
  show wpAny _ A.in1 (Builtin.Builtins.bindParams "min" ["key", "default"] 0 ⟨[], []⟩ >>= _) _ _ s
  refine wpAny_bind (wpAny_of_eq (show Builtin.Builtins.bindParams "min" ["key", "default"] 0 ⟨[], []⟩ = pure [none, none] from rfl) (wpAny_bind (wpAny_pure ?_)))
  refine wpAny_bind (wpAny_mono h (fun it s2 h2 => ?_) fun _ _ e => e)
  obtain ⟨I, fp, wr, n, P, St, bt, rfl, W, st, below, hn, cmp, q⟩ := h2
  refine wpAny_bind (wpAny_newObj_type ?_)
  rw [minName]
  refine wpAny_pure ⟨plainId_quiet F.plain_min_loop _, min_starts W cmp (fun hm => Nat.lt_irrefl _ (below _ hm)) hn (W.frame _ _ _ st fun b _ o e => Heap.get?_push_of_some _ e) (Heap.get?_push_size _ rfl) fun v h' tk pv keep => ?_⟩
  exact q v h' tk pv fun b o hw e => keep b o hw (Nat.ne_of_lt (Heap.lt_size e)) (Heap.get?_push_of_some _ e)
/-- which one the walk keeps: none is less -/
theorem best_least (k : Nat → List Int) : ∀ m, argBest (fun i j => HT.lexLt (k i) (k j)) m ≤ m ∧ ∀ i, i ≤ m → HT.lexLt (k i) (k (argBest (fun i j => HT.lexLt (k i) (k j)) m)) = false
  | 0 => ⟨Nat.le_refl _, fun i hi => by
    obtain rfl : i = 0 := by omega
    show HT.lexLt (k 0) (k 0) = false
    cases h : HT.lexLt (k 0) (k 0) with
    | false => rfl
    | true => rw [NtL.lex_asym _ _ h] at h; cases h⟩
  | m + 1 => by
    obtain ⟨h1, h2⟩ := best_least k m
    unfold argBest
    by_cases hb : HT.lexLt (k (m + 1)) (k (argBest (fun i j => HT.lexLt (k i) (k j)) m)) = true
    · rw [if_pos hb]
      refine ⟨Nat.le_refl _, fun i hi => ?_⟩
      by_cases e : i = m + 1
      · subst e
        cases h : HT.lexLt (k (m + 1)) (k (m + 1)) with
        | false => rfl
        | true => rw [NtL.lex_asym _ _ h] at h; cases h
      · exact NtL.lex_tr _ _ _ (NtL.lex_asym _ _ hb) (h2 i (by omega))
    · rw [if_neg hb]
      refine ⟨by omega, fun i hi => ?_⟩
      by_cases e : i = m + 1
      · subst e
        exact Bool.not_eq_true _ ▸ hb
      · exact h2 i (by omega)
end
end MyG
namespace MyG
open PySem PySem.Spec PyProof.Rows L2
section
variable {X : Cx} {K : PySem.W.Frag}
/-- min(xs), xs a list of tuples of ints: one of them, and none is less -/
def rMinT (K : PySem.W.Frag) : List V → Hp → VK → Prop := fun vs H Q => ∃ (a : Addr) (rs : List (Addr × List Int)), vs = [.ref a] ∧ SqL K H a (rs.map fun r => V.ref r.1) ∧ rs ≠ [] ∧ (∀ r ∈ rs, SqT K H r.1 (r.2.map V.int)) ∧ ∀ r ∈ rs, (∀ q ∈ rs, HT.lexLt q.2 r.2 = false) → Q (.ref r.1) H
theorem refs_map : ∀ {rs : List (Addr × List Int)} {us : List Value}, Vals (rs.map fun r => V.ref r.1) us → us = rs.map fun r => Value.ref r.1
  | [], us, r => by
    rw [List.map_nil] at r
    cases r
    rfl
  | p :: rs, us, r => by
    rw [List.map_cons] at r
    cases r with
    | cons h t =>
      cases h
      rw [List.map_cons, ← refs_map t]
theorem cr_minT (hK : X.K = K) (hc : X.calm = true) (hu : X.A.units + 1 < cLine) : CallR X (.builtin "min") (rMinT K) := by
  subst hK
  intro pins s σ H vs us Q I r h
  obtain ⟨a, rs, rfl, hs, hne, ht, q⟩ := h
  obtain ⟨its, rv, hl, _⟩ := I.list hs
  rw [Vals.ref1 r]
  have ei := refs_map rv
  have hin : ∀ p ∈ rs, ∃ items, IsTup s.heap p.1 items ∧ IntsAre items.toList p.2 := fun p hp => by
    obtain ⟨it2, r2, p2, _⟩ := I.tuple (ht p hp)
    exact ⟨it2.toArray, p2, by simpa using intsAre_of r2⟩
  let G : Heap → Prop := fun h' => ∀ p ∈ rs, ∃ items, IsTup h' p.1 items ∧ IntsAre items.toList p.2
  have hlt : ∀ p ∈ rs, p.1 < s.heap.objs.size := fun p hp => by
    obtain ⟨_, h1, _⟩ := hin p hp
    exact h1.lt
  refine call_minA (wpAny_pyIter_list hl.isList ?_)
  have hal : a < s.heap.objs.size := by
    obtain ⟨_, _, e, _⟩ := hl
    exact Heap.lt_size e
  have W0 := Walks.list (prog := X.prog) (w := X.w) (A := X.A.in1) (I.ok.hd hc) s.heap.objs.size a (Nat.ne_of_lt hal) its.toArray
  have W := walks_with (T := rs.map (·.1)) (G := G) W0 (fun b hb => by
      obtain ⟨p, hp, rfl⟩ := List.mem_map.mp hb
      intro z
      have e : p.1 = s.heap.objs.size := List.mem_singleton.mp z
      have h := hlt p hp
      rw [e] at h
      exact Nat.lt_irrefl _ h) (fun h1 h2 g keep p hp => by
      obtain ⟨items, h3, h4⟩ := g p hp
      obtain ⟨o, ho, hc, n, hd⟩ := h3
      exact ⟨items, ⟨o, keep p.1 (List.mem_map.mpr ⟨p, hp, rfl⟩) o ho, hc, n, hd⟩, h4⟩)
  have hsz : its.toArray.size = rs.length := by rw [List.size_toArray, ei, List.length_map]
  have hpos : 0 < its.toArray.size := by
    rw [hsz]
    exact List.length_pos_iff.mpr hne
  have at_ : ∀ {i : Nat} {u : Value}, its.toArray[i]? = some u → ∃ p, rs[i]? = some p ∧ u = .ref p.1 := fun {i u} e => by
    have e2 : its[i]? = some u := by simpa using e
    rw [ei, List.getElem?_map] at e2
    obtain ⟨p, hp, rfl⟩ := Option.map_eq_some_iff.mp e2
    exact ⟨p, hp, rfl⟩
  let key : Nat → List Int := fun i => (rs.getD i (0, [])).2
  have hkey : ∀ {i : Nat} {p : Addr × List Int}, rs[i]? = some p → key i = p.2 := fun {i p} e => by
    show (rs.getD i (0, [])).2 = p.2
    rw [List.getD_eq_getElem?_getD, e]
    rfl
  refine ⟨_, _, _, _, _, _, fun i j => HT.lexLt (key i) (key j), rfl, W, ⟨⟨⟨_, Heap.get?_push_size _ rfl, rfl, rfl⟩, hl.isList.push _⟩, fun p hp => ?_⟩, fun b hb => ?_, hpos, fun i j k u v s2 Q2 E2 st hi hj q2 => ?_, fun v h' tk pv keep => ?_⟩
  · obtain ⟨items, ⟨o, ho, hc', n, hd⟩, h4⟩ := hin p hp
    exact ⟨items, ⟨o, Heap.get?_push_of_some _ ho, hc', n, hd⟩, h4⟩
  · show b < (s.heap.push _).objs.size
    rw [Heap.size_push]
    rcases List.mem_append.mp hb with hb | hb
    · rcases List.mem_cons.mp hb with rfl | hb
      · exact Nat.lt_succ_self _
      · obtain rfl := List.mem_singleton.mp hb
        exact Nat.lt_succ_of_lt hal
    · obtain ⟨p, hp, rfl⟩ := List.mem_map.mp hb
      exact Nat.lt_succ_of_lt (hlt p hp)
  · obtain ⟨p, hp, rfl⟩ := at_ hi
    obtain ⟨p', hp', rfl⟩ := at_ hj
    obtain ⟨it1, t1, n1⟩ := st.2 p (List.mem_of_getElem? hp)
    obtain ⟨it2, t2, n2⟩ := st.2 p' (List.mem_of_getElem? hp')
    refine HT.lt_tupInts t1 t2 n1 n2 hu ?_
    rw [← hkey hp, ← hkey hp']
    exact q2
  · obtain ⟨p, hp, rfl⟩ := at_ pv
    obtain ⟨b1, b2⟩ := best_least key (its.toArray.size - 1)
    refine ⟨.ref p.1, H, I.kept (t' := tk) fun b o e => ?_, rfl, q p (List.mem_of_getElem? hp) fun z hz => ?_⟩
    · exact keep b o (fun z => by
        have e2 : b = s.heap.objs.size := List.mem_singleton.mp z
        have h := Heap.lt_size e
        rw [e2] at h
        exact Nat.lt_irrefl _ h) (Heap.get?_push_of_some _ e)
    · obtain ⟨i, hi⟩ := List.mem_iff_getElem?.mp hz
      have hil := (List.getElem?_eq_some_iff.mp hi).1
      have := b2 i (by omega)
      rw [hkey hi, hkey hp] at this
      exact this
end
end MyG

set_option maxHeartbeats 1000000
/-! min(xs) of a list of things that read as data, alike: lists of ints; pairs of an int and a list of ints. -/
namespace MyG
open PySem PySem.Spec PyProof.Rows L2
section
variable {X : Cx} {K : PySem.W.Frag}
def rMinD (K : PySem.W.Frag) : List V → Hp → VK → Prop := fun vs H Q => ∃ (a : Addr) (xs : List V) (d : PyData) (ds : List PyData), vs = [.ref a] ∧ SqL K H a xs ∧ DpAll K H xs (d :: ds) ∧ W.AlikeAll (d :: ds) ∧ PyData.depthAll (d :: ds) ≤ 50 ∧ ∀ (i : Nat) (x : V), xs[i]? = some x → (d :: ds)[i]? = some (W.minD d ds) → Q x H
theorem minD_mem : ∀ (ds : List PyData) (d : PyData), W.minD d ds ∈ d :: ds
  | [], d => List.mem_singleton_self _
  | e :: ds, d => by
    show W.minD (if W.dataLt e d then e else d) ds ∈ _
    have := minD_mem ds (if W.dataLt e d then e else d)
    rcases List.mem_cons.mp this with h | h
    · rw [h]
      split
      · exact List.mem_cons_of_mem _ (List.mem_cons_self ..)
      · exact List.mem_cons_self ..
    · exact List.mem_cons_of_mem _ (List.mem_cons_of_mem _ h)
theorem vals_at : ∀ {xs : List V} {us : List Value} {i : Nat} {u : Value}, Vals xs us → us[i]? = some u → ∃ x, xs[i]? = some x ∧ RelV x u
  | _, _, 0, u, .cons r _, h => by
    obtain rfl := Option.some.inj h
    exact ⟨_, rfl, r⟩
  | _, _, i + 1, u, .cons _ t, h => vals_at (i := i) t h
theorem cr_minD (hK : X.K = K) (hc : X.calm = true) (hu : X.A.units + 64 < cLine) : CallR X (.builtin "min") (rMinD K) := by
  subst hK
  intro pins s σ H vs us Q I r h
  obtain ⟨a, xs, d, ds, rfl, hs, hd, al, dp, q⟩ := h
  obtain ⟨its, rv, hl, _⟩ := I.list hs
  rw [Vals.ref1 r]
  obtain ⟨as, hr⟩ := Dp.readsAll I (d :: ds) xs its hd rv
  refine W.min_list_data (I.ok.hd hc) hl.isList (vs := its.toArray) (by simpa using hr) al (by omega) fun i v h' tk bs hv hrd keep => ?_
  have hv : its[i]? = some v := by simpa using hv
  obtain ⟨x, hx, rx⟩ := vals_at rv hv
  obtain ⟨cs, r1, il, im, _⟩ := W.readsAll_at hr i v hv
  have e := W.alike_unique _ _ v _ _ (al.1 _ im _ (minD_mem ds d)) (W.reads_keeps keep r1) hrd
  refine ⟨x, H, I.kept (t' := tk) keep, rx, q i x hx ?_⟩
  rw [List.getD_eq_getElem?_getD, List.getElem?_eq_getElem il] at e
  rw [List.getElem?_eq_getElem il]
  exact congrArg some e
end
/-! ### lists of ints, pairs of an int and such a list -/
section
open PySem.W
theorem lex_ints : ∀ ns ms : List Int, PyProof.Rows.lexLt itemOrd (keyToksAll (ns.map PyData.int)) (keyToksAll (ms.map PyData.int)) = HT.lexLt ns ms
  | [], [] => rfl
  | [], m :: ms => by
    show PyProof.Rows.lexLt itemOrd [.inl 0] (.inl 1 :: _) = true
    rw [lex_diff (O := itemOrd) (by intro z; cases z)]
    rfl
  | n :: ns, [] => by
    show PyProof.Rows.lexLt itemOrd (.inl 1 :: _) [.inl 0] = false
    rw [lex_diff (O := itemOrd) (by intro z; cases z)]
    rfl
  | n :: ns, m :: ms => by
    show PyProof.Rows.lexLt itemOrd (.inl 1 :: (.inl n :: keyToksAll (ns.map PyData.int))) (.inl 1 :: (.inl m :: keyToksAll (ms.map PyData.int))) = _
    rw [lex_self (O := itemOrd), HT.lexLt_cons]
    by_cases e : n = m
    · rw [if_pos e, e, lex_self (O := itemOrd)]
      exact lex_ints ns ms
    · rw [if_neg e, lex_diff (O := itemOrd) (by intro z; cases z; exact e rfl)]
      rfl
theorem lt_lists (ns ms : List Int) : dataLt (.list (ns.map PyData.int)) (.list (ms.map PyData.int)) = HT.lexLt ns ms := by
  rw [dataLt_list, lex_ints]
theorem lt_pairs (n m : Int) (ns ms : List Int) : dataLt (.tuple [.int n, .list (ns.map PyData.int)]) (.tuple [.int m, .list (ms.map PyData.int)]) = HT.lexLt (n :: ns) (m :: ms) := by
  rw [dataLt_tuple, HT.lexLt_cons]
  show PyProof.Rows.lexLt itemOrd (.inl 1 :: (.inl n :: (.inl 1 :: (keyToksAll (ns.map PyData.int) ++ [.inl 0])))) (.inl 1 :: (.inl m :: (.inl 1 :: (keyToksAll (ms.map PyData.int) ++ [.inl 0])))) = _
  rw [lex_self (O := itemOrd)]
  by_cases e : n = m
  · rw [if_pos e, e, lex_self (O := itemOrd), lex_self (O := itemOrd)]
    exact lex_end ns ms
  · rw [if_neg e, lex_diff (O := itemOrd) (by intro z; cases z; exact e rfl)]
    rfl
where lex_end : ∀ ns ms : List Int, PyProof.Rows.lexLt itemOrd (keyToksAll (ns.map PyData.int) ++ [.inl 0]) (keyToksAll (ms.map PyData.int) ++ [.inl 0]) = HT.lexLt ns ms
  | [], [] => rfl
  | [], m :: ms => by
    show PyProof.Rows.lexLt itemOrd (.inl 0 :: _) (.inl 1 :: _) = true
    rw [lex_diff (O := itemOrd) (by intro z; cases z)]
    rfl
  | n :: ns, [] => by
    show PyProof.Rows.lexLt itemOrd (.inl 1 :: _) (.inl 0 :: _) = false
    rw [lex_diff (O := itemOrd) (by intro z; cases z)]
    rfl
  | n :: ns, m :: ms => by
    show PyProof.Rows.lexLt itemOrd (.inl 1 :: (.inl n :: (keyToksAll (ns.map PyData.int) ++ [.inl 0]))) (.inl 1 :: (.inl m :: (keyToksAll (ms.map PyData.int) ++ [.inl 0]))) = _
    rw [lex_self (O := itemOrd), HT.lexLt_cons]
    by_cases e : n = m
    · rw [if_pos e, e, lex_self (O := itemOrd)]
      exact lex_end ns ms
    · rw [if_neg e, lex_diff (O := itemOrd) (by intro z; cases z; exact e rfl)]
      rfl
theorem alike_ints : ∀ ns ms : List Int, alikeAll (ns.map PyData.int) (ms.map PyData.int) = true
  | [], _ => rfl
  | _ :: _, [] => rfl
  | _ :: ns, _ :: ms => alike_ints ns ms
theorem depth_intsAll (ns : List Int) : PyData.depthAll (ns.map PyData.int) ≤ 1 := by
  induction ns with
  | nil => decide
  | cons n ns ih =>
    simp only [List.map_cons, PyData.depthAll, PyData.depth, Nat.max_le]
    omega
/-- data by keys: the least of them -/
theorem minD_key {α : Type} (f : α → PyData) (g : α → List Int) (h : ∀ x y, dataLt (f x) (f y) = HT.lexLt (g x) (g y)) : ∀ (xs : List α) (x : α), ∃ z ∈ x :: xs, minD (f x) (xs.map f) = f z ∧ ∀ y ∈ x :: xs, HT.lexLt (g y) (g z) = false
  | [], x => ⟨x, List.mem_singleton_self _, rfl, fun y hy => by
    rw [List.mem_singleton.mp hy]
    cases e : HT.lexLt (g x) (g x) with
    | false => rfl
    | true => rw [NtL.lex_asym _ _ e] at e; cases e⟩
  | e :: xs, x => by
    have st : minD (f x) ((e :: xs).map f) = minD (if dataLt (f e) (f x) then f e else f x) (xs.map f) := rfl
    rw [st, h]
    by_cases c : HT.lexLt (g e) (g x) = true
    · rw [if_pos c]
      obtain ⟨z, m, q, le⟩ := minD_key f g h xs e
      refine ⟨z, List.mem_cons_of_mem _ m, q, fun y hy => ?_⟩
      rcases List.mem_cons.mp hy with rfl | hy
      · exact NtL.lex_tr _ _ _ (le e (List.mem_cons_self ..)) (NtL.lex_asym _ _ c)
      · exact le y hy
    · rw [if_neg c]
      obtain ⟨z, m, q, le⟩ := minD_key f g h xs x
      refine ⟨z, ?_, q, fun y hy => ?_⟩
      · rcases List.mem_cons.mp m with rfl | m
        · exact List.mem_cons_self ..
        · exact List.mem_cons_of_mem _ (List.mem_cons_of_mem _ m)
      · rcases List.mem_cons.mp hy with rfl | hy
        · exact le y (List.mem_cons_self ..)
        · rcases List.mem_cons.mp hy with rfl | hy
          · exact NtL.lex_tr _ _ _ (le x (List.mem_cons_self ..)) (by simpa using c)
          · exact le y (List.mem_cons_of_mem _ hy)
end
end MyG

set_option maxHeartbeats 1000000
/-! dict comprehensions whose keys may be tuples, with one clause and with two; walks of the values and the items of dicts with tuple keys -/
namespace L2
open PySem PySem.Spec PyProof.Rows
theorem tupleKind_room {P : Program} {w : World} {A : Around} (hu : A.units < cLine) : (tupleKind (mixKind P w)).room A := hu
section
variable {X : Cx} {pins : List (Addr × Obj)} {σ : St} {H H' : Hp} {s : Shared} {E : Value → Shared → Prop} {D : Addr} {y v : V} {u r : Value} {Q : Unit → Shared → Prop}
/-- a comprehension's store, whatever the dict's keys are -/
theorem d_dictSetG (hu : X.A.units < cLine) (I : Inv X pins σ H s) (g : DPut H D y v H') (ry : RelV y u) (rv : RelV v r) (h : ∀ s', Inv X pins σ H' s' → Q () s') : wpAny (model X.prog X.w) X.A (dictSet D u r) Q E s := by
  rcases g with ⟨kvs, k, e, rfl, l, rfl⟩ | ⟨kvs, k, b, e, rfl, eb, l, rfl⟩
  · exact d_dictSet I e l ry rv h
  · cases (show u = Value.ref b from ry)
    obtain ⟨z, nsys, xs, rel, dd⟩ := dt_of I.hok e
    have few : xs.length ≤ sizeLine := by rw [← Paired.length rel]; exact z
    refine wpAny_dictSet_heap (hsz := few) (tupleKind_room hu) (key_of I.hok eb) dd fun h' dd' same => h _ ?_
    obtain ⟨q, es, ep, hq, c2, c3, c4, _, c5⟩ := dd'
    refine d_write I (by rw [e]; exact True.intro) same ⟨q, hq⟩ ⟨?_, nsys, _, (rel.put k eb rv).keeps fun c ys ec => ?_, q, es, ep, hq, c2, c3, c4, c5⟩
    · have := length_putK kvs k v
      omega
    · rw [upd_ne (ne_of ec e (fun z => nomatch z))]
      exact ec
end
/-- an empty dict, its keys to be single (false) or tuples (true) -/
def dE : Bool → HO | false => .dK [] | true => .dT []
theorem dE_ok {P : Program} {w : World} {H : Hp} (k : Bool) (h : Heap) (hb : sysModules < h.objs.size) : ObjOk P w H (h.push { cls := .type "dict", data := .dict #[] }) h.objs.size (dE k) := by
  cases k with
  | false => exact dk_empty h hb
  | true => exact dt_empty h hb

/-! ### the turns of a dict comprehension with two clauses -/
section
variable (kx vx t0 i0 t1 i1 : Expr) (f0 f1 : List Expr) (sc : Scope) (pos : Pos) (it : Value) (D : Addr) (env : Env)
/-- {kx: vx for t0 in i0 if .. for t1 in i1 if ..} -/
abbrev dX2 : Expr := .DictComp kx vx [⟨t0, i0, f0, 0⟩, ⟨t1, i1, f1, 0⟩] sc pos
theorem dX2_turn0 : compTurn (dX2 kx vx t0 i0 t1 i1 f0 f1 sc pos) 0 it (.ref D) env = (do
    standAt i0.pos
    match ← pyNext it with
    | none => pure (.done .next)
    | some v =>
      letOwnedTupleGo t0 it v
      assign t0 env v
      let mut good := true
      for c in f0 do
        if good then good ← isTrue c env (eval c env)
      if good then
        let x ← eval i1 env
        standAt i1.pos
        let x ← foldedSetIterable i1 env x
        let _ ← runOwn (.compStart (dX2 kx vx t0 i0 t1 i1 f0 f1 sc pos) 1 (← holding [x] (pyIter x)) (.ref D) env) env
      again (.compLoop (dX2 kx vx t0 i0 t1 i1 f0 f1 sc pos) 0 it (.ref D) env)) := by rfl
theorem dX2_turn1 : compTurn (dX2 kx vx t0 i0 t1 i1 f0 f1 sc pos) 1 it (.ref D) env = (do
    standAt i1.pos
    match ← pyNext it with
    | none => pure (.done .next)
    | some v =>
      letOwnedTupleGo t1 it v
      assign t1 env v
      let mut good := true
      for c in f1 do
        if good then good ← isTrue c env (eval c env)
      if good then
        (do
          let a ← eval kx env
          let b ← holding [a] (eval vx env)
          standAt { kx.pos with endLine := vx.pos.endLine, endCol := vx.pos.endCol }
          holding [a, b] (dictSet D a b))
      again (.compLoop (dX2 kx vx t0 i0 t1 i1 f0 f1 sc pos) 1 it (.ref D) env)) := by rfl
end

section
variable {prog : Program} {w : World} {A : Around} {R : Result → Shared → Prop} {kx vx t0 i0 t1 i1 : Expr} {f0 f1 : List Expr} {sc : Scope} {pos : Pos} {it : Value} {D : Addr} {env : Env}
/-- where a step of a comprehension ends badly: nowhere -/
abbrev bad (prog : Program) (w : World) (A : Around) (env : Env) (R : Result → Shared → Prop) : Value → Shared → Prop := notedBy (model prog w) A env fun e s' => R (.error e) s'
/-- a clause's tests -/
abbrev tests (fs : List Expr) (env : Env) : Sem Bool := forIn fs true fun c r => if r = true then do let ok ← isTrue c env (eval c env); pure (ForInStep.yield ok) else pure (ForInStep.yield r)
theorem dX2_loop0 (fld : ∀ x, foldedSetIterable i1 env x = pure x) (I : Nat → Shared → Prop)
    (turn : ∀ n s, I n s → wpAny (model prog w) A (pyNext it) (fun r s1 => match r with
      | none => R (.ok .next) s1
      | some v => wpAny (model prog w) A (letOwnedTupleGo t0 it v) (fun _ s2 => wpAny (model prog w) A (assign t0 env v) (fun _ s3 => wpAny (model prog w) A (tests f0 env) (fun ok s4 =>
            if ok = true then wpAny (model prog w) A (eval i1 env) (fun x s5 => wpAny (model prog w) A (pyIter x) (fun jt s6 =>
              codeAny (model prog w) A (.compStart (dX2 kx vx t0 i0 t1 i1 f0 f1 sc pos) 1 jt (.ref D) env) (fun r s' => match r with
                | .ok _ => ∃ m, m < n ∧ I m s'
                | .error _ => False) s6) (bad prog w A env R) s5) (bad prog w A env R) s4
            else ∃ m, m < n ∧ I m s4) (bad prog w A env R) s3) (bad prog w A env R) s2) (bad prog w A env R) s1) (bad prog w A env R) s)
    (n : Nat) {s : Shared} (h : I n s) : codeAny (model prog w) A (.compLoop (dX2 kx vx t0 i0 t1 i1 f0 f1 sc pos) 0 it (.ref D) env) R s := by
  refine codeAny_loop rfl I (fun n s hI => ?_) n h
  show wpAny _ A ((compTurn (dX2 kx vx t0 i0 t1 i1 f0 f1 sc pos) 0 it (.ref D) env).onRaise (fun x => do noteFrame x env; theTreesLotGoes x)) _ _ s
  refine wpAny_noted ?_
  rw [dX2_turn0]
  refine wpAny_bind (wpAny_standAt (wpAny_bind (wpAny_mono (turn n s hI) (fun r s1 k1 => ?_) fun _ _ z => z)))
  cases r with
  | none => exact wpAny_pure k1
  | some v =>
    refine wpAny_bind (wpAny_mono k1 (fun _ s2 k2 => wpAny_bind (wpAny_mono k2 (fun _ s3 k3 => wpAny_bind (wpAny_mono k3 (fun ok s4 k4 => ?_) fun _ _ z => z)) fun _ _ z => z)) fun _ _ z => z)
    cases ok with
    | false => exact wpAny_pure ⟨rfl, k4⟩
    | true =>
      refine wpAny_bind (wpAny_mono k4 (fun x s5 k5 => ?_) fun _ _ z => z)
      refine wpAny_bind (wpAny_standAt (wpAny_bind (wpAny_of_eq (fld x) (wpAny_bind (wpAny_holding (wpAny_mono k5 (fun jt s6 k6 => ?_) fun _ _ z => z))))))
      refine wpAny_bind (wpAny_runOwn ?_)
      rw [Around.mark_none]
      refine codeAny_mono k6 fun r s' hr => ?_
      cases r with
      | ok f => first | exact wpAny_pure ⟨rfl, hr⟩ | exact wpAny_bind (wpAny_pure (wpAny_pure ⟨rfl, hr⟩))
      | error e => exact hr.elim
theorem dX2_loop1 (I : Nat → Shared → Prop)
    (turn : ∀ n s, I n s → wpAny (model prog w) A (pyNext it) (fun r s1 => match r with
      | none => R (.ok .next) s1
      | some v => wpAny (model prog w) A (letOwnedTupleGo t1 it v) (fun _ s2 => wpAny (model prog w) A (assign t1 env v) (fun _ s3 => wpAny (model prog w) A (tests f1 env) (fun ok s4 =>
            if ok = true then wpAny (model prog w) A (eval kx env) (fun a s5 => wpAny (model prog w) A (eval vx env) (fun b s6 =>
              wpAny (model prog w) A (dictSet D a b) (fun _ s7 => ∃ m, m < n ∧ I m s7) (bad prog w A env R) s6) (bad prog w A env R) s5) (bad prog w A env R) s4
            else ∃ m, m < n ∧ I m s4) (bad prog w A env R) s3) (bad prog w A env R) s2) (bad prog w A env R) s1) (bad prog w A env R) s)
    (n : Nat) {s : Shared} (h : I n s) : codeAny (model prog w) A (.compLoop (dX2 kx vx t0 i0 t1 i1 f0 f1 sc pos) 1 it (.ref D) env) R s := by
  refine codeAny_loop rfl I (fun n s hI => ?_) n h
  show wpAny _ A ((compTurn (dX2 kx vx t0 i0 t1 i1 f0 f1 sc pos) 1 it (.ref D) env).onRaise (fun x => do noteFrame x env; theTreesLotGoes x)) _ _ s
  refine wpAny_noted ?_
  rw [dX2_turn1]
  refine wpAny_bind (wpAny_standAt (wpAny_bind (wpAny_mono (turn n s hI) (fun r s1 k1 => ?_) fun _ _ z => z)))
  cases r with
  | none => exact wpAny_pure k1
  | some v =>
    refine wpAny_bind (wpAny_mono k1 (fun _ s2 k2 => wpAny_bind (wpAny_mono k2 (fun _ s3 k3 => wpAny_bind (wpAny_mono k3 (fun ok s4 k4 => ?_) fun _ _ z => z)) fun _ _ z => z)) fun _ _ z => z)
    cases ok with
    | false => exact wpAny_pure ⟨rfl, k4⟩
    | true => exact wpAny_bind (wpAny_bind (wpAny_mono k4 (fun a s5 k5 => wpAny_bind (wpAny_holding (wpAny_mono k5 (fun b s6 k6 => wpAny_bind (wpAny_standAt (wpAny_holding (wpAny_mono k6 (fun _ s7 k7 => wpAny_pure ⟨rfl, k7⟩) fun _ _ z => z)))) fun _ _ z => z))) fun _ _ z => z))
/-- a clause's start -/
theorem dX2_start {d : Nat} (hg : d = 0 ∨ d = 1) {s : Shared} (h0 : codeAny (model prog w) A (.compLoop (dX2 kx vx t0 i0 t1 i1 f0 f1 sc pos) d it (.ref D) env) R s)
    (h : wpAny (model prog w) A (pyIter it) (fun jt s' => codeAny (model prog w) A (.compLoop (dX2 kx vx t0 i0 t1 i1 f0 f1 sc pos) d jt (.ref D) env) R s') (bad prog w A env R) s) :
    codeAny (model prog w) A (.compStart (dX2 kx vx t0 i0 t1 i1 f0 f1 sc pos) d it (.ref D) env) R s := by
  refine codeAny_of_tree ?_
  show wpAny _ _ ((compStart (dX2 kx vx t0 i0 t1 i1 f0 f1 sc pos) d it (.ref D) env).onRaise (fun x => do noteFrame x env; standAt theWindowsPlace)) _ _ s
  refine wpAny_notedAt ?_
  unfold compStart
  rcases hg with rfl | rfl <;>
  · show wpAny _ _ (ask >>= _) _ _ s
    refine wpAny_bind (wpAny_askSetting (wpAny_ite ?_))
    split
    · first | exact wpAny_bind (wpAny_pure (wpAny_pure (And.intro rfl h0))) | exact wpAny_pure (And.intro rfl h0)
    · first
        | exact wpAny_bind (wpAny_rule (wpAny_bind (wpAny_standAt (wpAny_bind (wpAny_mono h (fun _ _ k => wpAny_pure (And.intro rfl k)) fun _ _ z => z)))))
        | (refine wpAny_bind (wpAny_rule ?_); show wpAny _ _ (standAt i0.pos >>= _) _ _ s; exact wpAny_bind (wpAny_standAt (wpAny_bind (wpAny_mono h (fun _ _ k => wpAny_pure (And.intro rfl k)) fun _ _ z => z))))
        | (refine wpAny_bind (wpAny_rule ?_); show wpAny _ _ (standAt i1.pos >>= _) _ _ s; exact wpAny_bind (wpAny_standAt (wpAny_bind (wpAny_mono h (fun _ _ k => wpAny_pure (And.intro rfl k)) fun _ _ z => z))))
end

/-- what a block's part must be, whatever the block's frame is -/
abbrev InBlk (X : Cx) (scope : Scope) (p : Cx → Prop) : Prop := ∀ (s : Shared) (H : Hp) (C : Addr) (cl : List (Str × Addr)) (fp : List Addr), p (X.blk s H scope (compEnvC scope cl C X.env) fp)
/-- the walk of a clause: it stops, or a turn is made -/
def wlk (J : It) (g : TG) (σ0 : St) (vs : List Nat) (tt : TT) (ready : Hp → Prop) (body : (Hp → Prop) → St → Hp → Prop) (H0 : Hp) : Prop := ∃ W : Nat → Nat → Hp → Prop, (∃ m, W 0 m H0) ∧ ∀ i m H, W i m H →
  (J.stop i H ∧ ready H) ∨ (J.go i H ∧ ∃ Nx : Hp → Prop, (∀ H', Nx H' → ∃ m', m' < m ∧ W (i + 1) m' H') ∧ ∀ x H', J.yld i H x H' → g x (wipe σ0 vs) H' fun σ2 H2 => wipe σ2 vs = wipe σ0 vs ∧ tt σ2 H2 fun b H3 => if b = true then body Nx σ2 H3 else Nx H3)
/-- the store of a turn -/
def dSto (D : Addr) (tk tv : TE) : (Hp → Prop) → St → Hp → Prop := fun Nx σ H => tk σ H fun y H4 => tv σ H4 fun z H5 => ∃ H6, DPut H5 D y z H6 ∧ Nx H6
/-- {k: v for target in iter if ..}: D the new dict, of the kind wanted -/
def tDcG (kd : Bool) (wi : TI) (g : TG) (tt : TT) (tk tv : TE) (vs : List Nat) : TE := fun σ H Q => wi σ H fun J H1 => ∀ D, H1 D = none → wlk J g σ vs tt (Q (.ref D)) (dSto D tk tv) (upd H1 D (dE kd))
/-- .. with two clauses -/
def tDc2G (kd : Bool) (wi : TI) (g : TG) (tt : TT) (wj : TI) (g1 : TG) (tt1 : TT) (tk tv : TE) (vs vs1 : List Nat) : TE := fun σ H Q => wi σ H fun J H1 => ∀ D, H1 D = none →
  wlk J g σ vs tt (Q (.ref D)) (fun Nx σ2 H3 => wj σ2 H3 fun J1 H4 => wlk J1 g1 σ2 vs1 tt1 Nx (dSto D tk tv) H4) (upd H1 D (dE kd))
section
variable {X : Cx} {tg iter : Expr} {ifs : List Expr} {scope : Scope} {own : List (Str × Nat)} {wi : TI} {g : TG} {tt : TT} {tk tv : TE} {kx vx : Expr} {pos pos' : Pos} {pins : List (Addr × Obj)} {s : Shared} {σ : St} {H : Hp} {Q : VK} {Qf : Value → Shared → Prop} {use : Option (Value → Sem Unit)} {kd : Bool}
/-- a dict comprehension's frame: what its first clause's loop must do, and what is given to it -/
theorem d_frame {rest : List Comprehension} {L : It → Addr → Hp → Prop} (hc : X.calm = true) (hN : X.N.Nodup) (I : Inv X pins σ H s) (hi : PI X tg iter wi) (ok : BlkOk X.N X.env.scope scope own) (hs : ∀ x, foldedSetIterable iter X.env x = pure x)
    (h : wi σ H fun J H1 => ∀ D, H1 D = none → L J D (upd H1 D (dE kd)))
    (hRR : ∀ D C s' m H', Inv X pins σ H' s' → Q (.ref D) H' → s'.heap.Ns C m → FpOk X pins H' C → compPost (model X.prog X.w) X.A X.xe use Qf (.ref D) C (.ok .next) s')
    (hL : ∀ (J : It) (D it C : Addr) (cl : List (Str × Addr)) (fp : List Addr) (tn : Nat → Heap → Prop) (s3 s4 : Shared) (H3 : Hp), Turn X.prog X.w X.K tg J fp it tn → L J D H3 → Inv (X.blk s3 H3 scope (compEnvC scope cl C X.env) fp) [] (wipe σ (own.map (·.2))) H3 s4 → tn 0 s4.heap → (∀ b ∈ fp, H3 b = none) →
      (∀ s6 H5, Inv (X.blk s3 H3 scope (compEnvC scope cl C X.env) fp) [] (wipe σ (own.map (·.2))) H5 s6 → Q (.ref D) H5 → compPost (model X.prog X.w) X.A X.xe use Qf (.ref D) C (.ok .next) s6) →
      codeAny (model X.prog X.w) X.A (.compLoop (.DictComp kx vx (⟨tg, iter, ifs, 0⟩ :: rest) scope pos) 0 (.ref it) (.ref D) (compEnvC scope cl C X.env)) (compPost (model X.prog X.w) X.A X.xe use Qf (.ref D) C) s4) :
    wpAny (model X.prog X.w) X.A (comprehension (.DictComp kx vx (⟨tg, iter, ifs, 0⟩ :: rest) scope pos) scope X.env pos' newDict false (eval iter X.env) use) Qf X.xe s := by
  have free : ∀ y ∈ scope.names, y.2 = .free → ∃ c, X.env.cells.lookup y.1 = some c := fun y hy e => I.ok.has _ (ok.free y hy e)
  refine wpAny_comprehension_free (use := use) rfl hs (closure_ok free) ok.kind (fun y hy e => by rw [ok.uniq y hy, e]) (thn (hi.run pins s σ H _ I h) fun xv s1 hx => thn hx fun itv s2 k2 => ?_)
  obtain ⟨it, fp, tn, J, H2, rfl, I2, T, st2, f2, q⟩ := k2
  refine wpAny_newObj_type (newEnv_comp ?_)
  generalize hD : s2.heap.objs.size = D
  have Dn : H2 D = none := I2.hok.fresh (Nat.le_of_eq hD)
  have l0 := q D Dn
  generalize e3 : ({ s2 with heap := s2.heap.push { cls := .type "dict", data := .dict #[] } } : Shared) = s3
  have I3 : Inv X pins σ (upd H2 D (dE kd)) s3 := by
    subst e3 hD
    exact I2.laid (t' := s2.toks) (fun b o e => Heap.get?_push_of_some _ e) (Nat.le_refl _) (dE_ok kd s2.heap I2.big)
  have hp3 : s3.heap = s2.heap.push { cls := .type "dict", data := .dict #[] } := by rw [← e3]
  have f3 : ∀ b ∈ fp, FpOk X pins (upd H2 D (dE kd)) b ∧ b < s3.heap.objs.size := fun b hb => by
    obtain ⟨o, e, _⟩ := T.obj _ _ st2 b hb
    have lt := Heap.lt_size e
    refine ⟨⟨?_, (f2 b hb).2⟩, by rw [hp3, Heap.size_push]; exact Nat.lt_succ_of_lt lt⟩
    rw [upd_ne (by rw [← hD]; exact Nat.ne_of_lt lt)]
    exact (f2 b hb).1
  have st3 : tn 0 s3.heap := T.keep _ _ _ st2 fun b _ o e => by rw [hp3]; exact Heap.get?_push_of_some _ e
  have I4 := block_start I3 ok hN f3
  show codeAny _ _ (.compStart _ 0 (.ref it) (.ref D) (compEnvC scope (cellsFrom (s3.heap.objs.size + 1) scope.names (cloFrom X.env.cells scope.names [])) s3.heap.objs.size X.env)) (compPost (model X.prog X.w) X.A X.xe use Qf (.ref D) s3.heap.objs.size) { s3 with heap := pushCells (s3.heap.push { cls := .type "dict", data := .dict #[] }) scope.names }
  generalize e4 : ({ s3 with heap := pushCells (s3.heap.push { cls := .type "dict", data := .dict #[] }) scope.names } : Shared) = s4 at I4 ⊢
  have st4 : tn 0 s4.heap := T.keep _ _ _ st3 fun b _ o e => by rw [← e4]; exact pushCells_keeps _ _ _ _ (Heap.get?_push_of_some _ e)
  have loop := hL J D it s3.heap.objs.size (cellsFrom (s3.heap.objs.size + 1) scope.names (cloFrom X.env.cells scope.names [])) fp tn s3 s4 (upd H2 D (dE kd)) T l0 I4 st4 (fun b hb => (f3 b hb).1.1) fun s6 H5 I6 qq => by
    have I7 : Inv X pins σ H5 s6 := I3.call' (ch := fp) I6.os I6.base I6.hok I6.bare fun b hb => ⟨(f3 b hb).1.2.2.2.1, (f3 b hb).1.2.1, (f3 b hb).1.2.2.2.2.1, (f3 b hb).1.2.2.2.2.2⟩
    have nC : H5 s3.heap.objs.size = none := I6.free
    obtain ⟨m, hn, _⟩ := I6.loc
    exact hRR D s3.heap.objs.size s6 m H5 I7 qq hn (I3.fpOk (Nat.le_refl _) nC)
  exact codeAny_compStart_dict loop (T.self X.A 0 _ _ _ st4 loop)
end

/-- one turn of a clause's loop, in the block -/
theorem turn_ok {Y : Cx} {tg : Expr} {ifs : List Expr} {P0 : List (Addr × Obj)} {J : It} {fp : List Addr} {it : Addr} {tn : Nat → Heap → Prop} {g : TG} {tt : TT} {vs : List Nat} {σ0 : St} {i : Nat} {s5 : Shared} {H5 : Hp} {ready : Hp → Prop} {body : St → Hp → Prop} {Nx : Hp → Prop} {Rn Bd Nn : Shared → Prop} {E : Value → Shared → Prop}
    (hx : Y.xe = fun _ _ => False) (hc : Y.calm = true) (T : Turn Y.prog Y.w Y.K tg J fp it tn) (pg : PG Y tg g) (pt : PTs Y ifs tt) (hf : ∀ H', (∀ b ∈ fp, H' b = none) → ∀ b ∈ fp, FpOk Y P0 H' b)
    (I5 : Inv Y P0 (wipe σ0 vs) H5 s5) (st5 : tn i s5.heap) (n5 : ∀ b ∈ fp, H5 b = none)
    (step : (J.stop i H5 ∧ ready H5) ∨ (J.go i H5 ∧ ∀ x H', J.yld i H5 x H' → g x (wipe σ0 vs) H' fun σ2 H2 => wipe σ2 vs = wipe σ0 vs ∧ tt σ2 H2 fun b H3 => if b = true then body σ2 H3 else Nx H3))
    (hstop : ∀ s6, Inv Y P0 (wipe σ0 vs) H5 s6 → ready H5 → Rn s6)
    (hno : ∀ s' H', Inv Y P0 (wipe σ0 vs) H' s' → tn (i + 1) s'.heap → (∀ b ∈ fp, H' b = none) → Nx H' → Nn s')
    (hyes : ∀ (pl : List (Addr × Obj)) s9 σ8 H9, Inv Y (P0 ++ pl) σ8 H9 s9 → body σ8 H9 → wipe σ8 vs = wipe σ0 vs →
      (∀ σ9 s' H', Inv Y (P0 ++ pl) σ9 H' s' → (wipe σ0 vs).length = σ9.length → (∀ (j : Nat) v, (wipe σ0 vs)[j]? = some (some v) → σ9[j]? = some (some v)) → Inv Y P0 (wipe σ0 vs) H' s' ∧ tn (i + 1) s'.heap ∧ ∀ b ∈ fp, H' b = none) → Bd s9) :
    wpAny (model Y.prog Y.w) Y.A (pyNext (.ref it)) (fun r s1 => match r with
      | none => Rn s1
      | some v => wpAny (model Y.prog Y.w) Y.A (letOwnedTupleGo tg (.ref it) v) (fun _ s2 => wpAny (model Y.prog Y.w) Y.A (assign tg Y.env v) (fun _ s3 => wpAny (model Y.prog Y.w) Y.A (tests ifs Y.env) (fun ok s4 => if ok = true then Bd s4 else Nn s4) E s3) E s2) E s1) E s5 := by
  rcases step with ⟨stop, qq⟩ | ⟨go, step⟩
  · refine thnF (T.done Y rfl rfl rfl hc i P0 s5 _ H5 (fun _ _ => False) I5 (hf _ n5) st5 stop) fun r s6 ⟨hr, I6⟩ => ?_
    subst hr
    exact hstop s6 I6 qq
  · refine thnF (T.item Y rfl rfl rfl hc i P0 s5 _ H5 (fun _ _ => False) I5 (hf _ n5) st5 go) fun r s6 ⟨u, hr, k6⟩ => ?_
    subst hr
    refine thnF k6 fun _ s7 ⟨x, H7, I7, r7, y7, st7, n7⟩ => ?_
    have I7' := I7.pinned (hf _ n7) (T.obj _ _ st7)
    have asg := pg.run _ s7 _ H7 x u _ I7' r7 (step x H7 y7)
    rw [hx] at asg
    refine thnF asg fun _ s8 ⟨σ8, H8, I8, hw, q8⟩ => ?_
    have tst := pt.run _ s8 σ8 H8 _ I8 q8
    rw [hx] at tst
    refine thnF tst fun b s9 ⟨H9, I9, q9⟩ => ?_
    have back : ∀ σ9 s' H', Inv Y (P0 ++ pinsAt fp s7.heap) σ9 H' s' → (wipe σ0 vs).length = σ9.length → (∀ (j : Nat) v, (wipe σ0 vs)[j]? = some (some v) → σ9[j]? = some (some v)) → Inv Y P0 (wipe σ0 vs) H' s' ∧ tn (i + 1) s'.heap ∧ ∀ b ∈ fp, H' b = none := fun σ9 s' H' I' hl hk => by
      have pin : ∀ b ∈ fp, ∀ o, s7.heap.get? b = some o → s'.heap.get? b = some o ∧ H' b = none := fun b hb o e =>
        let z := I'.pin (b, o) (List.mem_append_right _ (List.mem_append_right _ (mem_pinsAt hb e)))
        ⟨z.1, z.2.1⟩
      refine ⟨I'.unpinned.weak hl hk, T.keep _ _ _ st7 fun b hb o e => (pin b hb o e).1, fun b hb => ?_⟩
      obtain ⟨o, e, _⟩ := T.obj _ _ st7 b hb
      exact (pin b hb o e).2
    have hl8 : (wipe σ0 vs).length = σ8.length := by rw [← hw, wipe_length]
    have hk8 : ∀ (j : Nat) v, (wipe σ0 vs)[j]? = some (some v) → σ8[j]? = some (some v) := fun j v e => by
      rw [← hw] at e
      exact (wipe_some e).1
    cases b with
    | false =>
      simp only [Bool.false_eq_true, if_false] at q9 ⊢
      obtain ⟨a1, a2, a3⟩ := back σ8 s9 H9 I9 hl8 hk8
      exact hno s9 H9 a1 a2 a3 q9
    | true =>
      simp only [if_true] at q9 ⊢
      exact hyes _ s9 σ8 H9 I9 q9 hw back
section
variable {X : Cx} {tg iter : Expr} {ifs : List Expr} {scope : Scope} {own : List (Str × Nat)} {wi : TI} {g : TG} {tt : TT} {tk tv : TE} {kx vx : Expr} {pos pos' : Pos} {pins : List (Addr × Obj)} {s : Shared} {σ : St} {H : Hp} {Q : VK} {Qf : Value → Shared → Prop} {use : Option (Value → Sem Unit)} {kd : Bool}
theorem dcG_core (hu : X.A.units < cLine) (hc : X.calm = true) (hN : X.N.Nodup) (I : Inv X pins σ H s) (hi : PI X tg iter wi) (ok : BlkOk X.N X.env.scope scope own) (hs : ∀ x, foldedSetIterable iter X.env x = pure x)
    (hg : InBlk X scope fun Y => PG Y tg g) (ht : InBlk X scope fun Y => PTs Y ifs tt) (hk : InBlk X scope fun Y => PE Y kx tk) (he : InBlk X scope fun Y => PE Y vx tv)
    (h : tDcG kd wi g tt tk tv (own.map (·.2)) σ H Q)
    (hRR : ∀ D C s' m H', Inv X pins σ H' s' → Q (.ref D) H' → s'.heap.Ns C m → FpOk X pins H' C → compPost (model X.prog X.w) X.A X.xe use Qf (.ref D) C (.ok .next) s') :
    wpAny (model X.prog X.w) X.A (comprehension (.DictComp kx vx [⟨tg, iter, ifs, 0⟩] scope pos) scope X.env pos' newDict false (eval iter X.env) use) Qf X.xe s := by
  refine d_frame (kd := kd) (L := fun (J : It) (D : Addr) (H3 : Hp) => wlk J g σ (own.map fun x : Str × Nat => x.2) tt (Q (.ref D)) (dSto D tk tv) H3) hc hN I hi ok hs h hRR fun J D it C cl fp tn s3 s4 H3 T l0 I4 st4 n4 fin => ?_
  obtain ⟨W, ⟨m0, w0⟩, turn⟩ := l0
  have hf : ∀ H', (∀ b ∈ fp, H' b = none) → ∀ b ∈ fp, FpOk (X.blk s3 H3 scope (compEnvC scope cl C X.env) fp) [] H' b := fun H' hn b hb =>
    ⟨hn b hb, (I4.ok.exf b hb).1, I4.ok.exfs b hb, .inl hb, fun x c e => (I4.ok.exf b hb).2 x c e, fun p hp => absurd (show p ∈ ([] : List (Addr × Obj)) ++ [] from hp) (by simp)⟩
  refine compLoop_anyD (fun n s' => ∃ i H', Inv (X.blk s3 H3 scope (compEnvC scope cl C X.env) fp) [] (wipe σ (own.map (·.2))) H' s' ∧ tn i s'.heap ∧ (∀ b ∈ fp, H' b = none) ∧ W i n H') ?_ m0 ⟨0, H3, I4, st4, n4, w0⟩
  rintro n s5 ⟨i, H5, I5, st5, n5, w5⟩
  have alt := turn i n H5 w5
  rcases alt with ⟨stop, qq⟩ | ⟨go, Nx, hNx, step⟩
  · exact turn_ok (Y := X.blk s3 H3 scope (compEnvC scope cl C X.env) fp) (ready := Q (.ref D)) (body := fun _ _ => False) (Nx := fun _ => False) rfl hc T (hg ..) (ht ..) hf I5 st5 n5 (.inl ⟨stop, qq⟩) (fun s6 I6 q => fin s6 H5 I6 q) (fun _ _ _ _ _ z => z.elim) (fun _ _ _ _ _ z => z.elim)
  · refine turn_ok (Y := X.blk s3 H3 scope (compEnvC scope cl C X.env) fp) (ready := fun _ => False) (body := dSto D tk tv Nx) (Nx := Nx) rfl hc T (hg ..) (ht ..) hf I5 st5 n5 (.inr ⟨go, step⟩) (fun _ _ z => z.elim) (fun s' H' a1 a2 a3 nx => ?_) (fun pl s9 σ8 H9 I9 q9 hw back => ?_)
    · obtain ⟨m, hm, w'⟩ := hNx H' nx
      exact ⟨m, hm, i + 1, H', a1, a2, a3, w'⟩
    · refine thnF ((hk ..).run _ s9 σ8 H9 _ I9 q9) fun a s10 ⟨ya, H10, I10, r10, q10⟩ => ?_
      refine thnF ((he ..).run _ s10 σ8 H10 _ I10 q10) fun b s11 ⟨yb, H11, I11, r11, H12, put, nx⟩ => ?_
      refine d_dictSetG (X := X.blk s3 H3 scope (compEnvC scope cl C X.env) fp) hu I11 put r10 r11 fun s12 I12 => ?_
      obtain ⟨m, hm, w'⟩ := hNx H12 nx
      obtain ⟨a1, a2, a3⟩ := back σ8 s12 H12 I12 (by rw [← hw, wipe_length]) fun j v e => by
        rw [← hw] at e
        exact (wipe_some e).1
      exact ⟨m, hm, i + 1, H12, a1, a2, a3, w'⟩
theorem dc2G_core {tg1 iter1 : Expr} {ifs1 : List Expr} {vs1 : List Nat} {wj : TI} {g1 : TG} {tt1 : TT} (hu : X.A.units < cLine) (hc : X.calm = true) (hN : X.N.Nodup) (I : Inv X pins σ H s) (hi : PI X tg iter wi) (ok : BlkOk X.N X.env.scope scope own) (hv : ∀ i ∈ vs1, i ∈ own.map (·.2)) (hs : ∀ x, foldedSetIterable iter X.env x = pure x)
    (hg : InBlk X scope fun Y => PG Y tg g) (ht : InBlk X scope fun Y => PTs Y ifs tt) (hi1 : InBlk X scope fun Y => PI Y tg1 iter1 wj) (hg1 : InBlk X scope fun Y => PG Y tg1 g1) (ht1 : InBlk X scope fun Y => PTs Y ifs1 tt1)
    (hk : InBlk X scope fun Y => PE Y kx tk) (he : InBlk X scope fun Y => PE Y vx tv) (hs1 : ∀ env x, foldedSetIterable iter1 env x = pure x)
    (h : tDc2G kd wi g tt wj g1 tt1 tk tv (own.map (·.2)) vs1 σ H Q)
    (hRR : ∀ D C s' m H', Inv X pins σ H' s' → Q (.ref D) H' → s'.heap.Ns C m → FpOk X pins H' C → compPost (model X.prog X.w) X.A X.xe use Qf (.ref D) C (.ok .next) s') :
    wpAny (model X.prog X.w) X.A (comprehension (dX2 kx vx tg iter tg1 iter1 ifs ifs1 scope pos) scope X.env pos' newDict false (eval iter X.env) use) Qf X.xe s := by
  refine d_frame (kd := kd) (L := fun (J : It) (D : Addr) (H3 : Hp) => wlk J g σ (own.map fun x : Str × Nat => x.2) tt (Q (.ref D)) (fun Nx σ2 H3 => wj σ2 H3 fun J1 H4 => wlk J1 g1 σ2 vs1 tt1 Nx (dSto D tk tv) H4) H3) hc hN I hi ok hs h hRR fun J D it C cl fp tn s3 s4 H3 T l0 I4 st4 n4 fin => ?_
  obtain ⟨W, ⟨m0, w0⟩, turn⟩ := l0
  generalize hce : compEnvC scope cl C X.env = ce at *
  have pg : PG (X.blk s3 H3 scope ce fp) tg g := by rw [← hce]; exact hg ..
  have pt : PTs (X.blk s3 H3 scope ce fp) ifs tt := by rw [← hce]; exact ht ..
  have pj : PI (X.blk s3 H3 scope ce fp) tg1 iter1 wj := by rw [← hce]; exact hi1 ..
  have pg1 : PG (X.blk s3 H3 scope ce fp) tg1 g1 := by rw [← hce]; exact hg1 ..
  have pt1 : PTs (X.blk s3 H3 scope ce fp) ifs1 tt1 := by rw [← hce]; exact ht1 ..
  have pk : PE (X.blk s3 H3 scope ce fp) kx tk := by rw [← hce]; exact hk ..
  have pe : PE (X.blk s3 H3 scope ce fp) vx tv := by rw [← hce]; exact he ..
  clear hg ht hi1 hg1 ht1 hk he h
  have hf : ∀ H', (∀ b ∈ fp, H' b = none) → ∀ b ∈ fp, FpOk (X.blk s3 H3 scope ce fp) [] H' b := fun H' hn b hb =>
    ⟨hn b hb, (I4.ok.exf b hb).1, I4.ok.exfs b hb, .inl hb, fun x c e => (I4.ok.exf b hb).2 x c e, fun p hp => absurd (show p ∈ ([] : List (Addr × Obj)) ++ [] from hp) (by simp)⟩
  refine dX2_loop0 (hs1 ce) (fun n s' => ∃ i H', Inv (X.blk s3 H3 scope ce fp) [] (wipe σ (own.map (·.2))) H' s' ∧ tn i s'.heap ∧ (∀ b ∈ fp, H' b = none) ∧ W i n H') ?_ m0 ⟨0, H3, I4, st4, n4, w0⟩
  rintro n s5 ⟨i, H5, I5, st5, n5, w5⟩
  rcases turn i n H5 w5 with ⟨stop, qq⟩ | ⟨go, Nx, hNx, step⟩
  · exact turn_ok (Y := X.blk s3 H3 scope ce fp) (ready := Q (.ref D)) (body := fun _ _ => False) (Nx := fun _ => False) rfl hc T pg pt hf I5 st5 n5 (.inl ⟨stop, qq⟩) (fun s6 I6 q => fin s6 H5 I6 q) (fun _ _ _ _ _ z => z.elim) (fun _ _ _ _ _ z => z.elim)
  · refine turn_ok (Y := X.blk s3 H3 scope ce fp) (ready := fun _ => False) (body := fun σ2 H3 => wj σ2 H3 fun J1 H4 => wlk J1 g1 σ2 vs1 tt1 Nx (dSto D tk tv) H4) (Nx := Nx) rfl hc T pg pt hf I5 st5 n5 (.inr ⟨go, step⟩) (fun _ _ z => z.elim) (fun s' H' a1 a2 a3 nx => ?_) (fun pl s9 σ8 H9 I9 q9 hw back => ?_)
    · obtain ⟨m, hm, w'⟩ := hNx H' nx
      exact ⟨m, hm, i + 1, H', a1, a2, a3, w'⟩
    · refine thnF (pj.run _ s9 σ8 H9 _ I9 q9) fun xv s10 hx => thnF hx fun jt s11 k11 => ?_
      obtain ⟨it1, fp1, tn1, J1, H11, rfl, I11, T1, st11, f11, W1, ⟨m1, w1⟩, turn1⟩ := k11
      have hf1 : ∀ H', (∀ b ∈ fp1, H' b = none) → ∀ b ∈ fp1, FpOk (X.blk s3 H3 scope ce fp) ([] ++ pl) H' b := fun H' hn b hb => ⟨hn b hb, (f11 b hb).2⟩
      have e8 : wipe (wipe σ8 vs1) (own.map (·.2)) = wipe σ (own.map (·.2)) ∨ True := .inr True.intro
      have hl : (wipe σ (own.map (·.2))).length = (wipe σ8 vs1).length := by rw [← hw, wipe_length, wipe_length]
      have hk9 : ∀ (j : Nat) v, (wipe σ (own.map (·.2)))[j]? = some (some v) → (wipe σ8 vs1)[j]? = some (some v) := fun j v e => by
        rw [← hw] at e
        obtain ⟨a1, a2⟩ := wipe_some e
        rw [wipe_out fun z => a2 (hv j z)]
        exact a1
      have loop1 : codeAny (model X.prog X.w) X.A (.compLoop (dX2 kx vx tg iter tg1 iter1 ifs ifs1 scope pos) 1 (.ref it1) (.ref D) ce) (fun r s' => match r with
          | .ok _ => ∃ m, m < n ∧ ∃ i H', Inv (X.blk s3 H3 scope ce fp) [] (wipe σ (own.map (·.2))) H' s' ∧ tn i s'.heap ∧ (∀ b ∈ fp, H' b = none) ∧ W i m H'
          | .error _ => False) s11 := by
        refine dX2_loop1 (fun k s' => ∃ j H', Inv (X.blk s3 H3 scope ce fp) ([] ++ pl) (wipe σ8 vs1) H' s' ∧ tn1 j s'.heap ∧ (∀ b ∈ fp1, H' b = none) ∧ W1 j k H') ?_ m1 ⟨0, H11, I11.weak (wipe_length _ _) (fun j v e => (wipe_some e).1), st11, fun b hb => (f11 b hb).1, w1⟩
        rintro k s12 ⟨j, H12, I12, st12, n12, w12⟩
        rcases turn1 j k H12 w12 with ⟨stop1, nx1⟩ | ⟨go1, Nx1, hNx1, step1⟩
        · refine turn_ok (Y := X.blk s3 H3 scope ce fp) (ready := Nx) (body := fun _ _ => False) (Nx := fun _ => False) rfl hc T1 pg1 pt1 hf1 I12 st12 n12 (.inl ⟨stop1, nx1⟩) (fun s6 I6 q => ?_) (fun _ _ _ _ _ z => z.elim) (fun _ _ _ _ _ z => z.elim)
          obtain ⟨m, hm, w'⟩ := hNx H12 q
          obtain ⟨a1, a2, a3⟩ := back _ s6 H12 I6 hl hk9
          exact ⟨m, hm, i + 1, H12, a1, a2, a3, w'⟩
        · refine turn_ok (Y := X.blk s3 H3 scope ce fp) (ready := fun _ => False) (body := dSto D tk tv Nx1) (Nx := Nx1) rfl hc T1 pg1 pt1 hf1 I12 st12 n12 (.inr ⟨go1, step1⟩) (fun _ _ z => z.elim) (fun s' H' a1 a2 a3 nx => ?_) (fun pl1 s13 σ13 H13 I13 q13 hw1 back1 => ?_)
          · obtain ⟨m, hm, w'⟩ := hNx1 H' nx
            exact ⟨m, hm, j + 1, H', a1, a2, a3, w'⟩
          · refine thnF (pk.run _ s13 σ13 H13 _ I13 q13) fun a s14 ⟨ya, H14, I14, r14, q14⟩ => ?_
            refine thnF (pe.run _ s14 σ13 H14 _ I14 q14) fun b s15 ⟨yb, H15, I15, r15, H16, put, nx⟩ => ?_
            refine d_dictSetG (X := X.blk s3 H3 scope ce fp) hu I15 put r14 r15 fun s16 I16 => ?_
            obtain ⟨m, hm, w'⟩ := hNx1 H16 nx
            obtain ⟨a1, a2, a3⟩ := back1 σ13 s16 H16 I16 (by rw [← hw1, wipe_length]) fun j v e => by
              rw [← hw1] at e
              exact (wipe_some e).1
            exact ⟨m, hm, j + 1, H16, a1, a2, a3, w'⟩
      exact dX2_start (.inr rfl) loop1 (T1.self X.A 0 _ _ _ st11 loop1)
theorem pe_dcG (hu : X.A.units < cLine) (hc : X.calm = true) (hN : X.N.Nodup) (hi : PI X tg iter wi) (ok : BlkOk X.N X.env.scope scope own) (hg : InBlk X scope fun Y => PG Y tg g) (ht : InBlk X scope fun Y => PTs Y ifs tt) (hk : InBlk X scope fun Y => PE Y kx tk) (he : InBlk X scope fun Y => PE Y vx tv)
    (hs : ∀ x, foldedSetIterable iter X.env x = pure x := by intro _; rfl) : PE X (.DictComp kx vx [⟨tg, iter, ifs, 0⟩] scope pos) (tDcG kd wi g tt tk tv (own.map (·.2))) := by
  refine ⟨fun pins s σ H Q I h => ?_⟩
  rw [arm_eval_DictComp]
  refine dcG_core hu hc hN I hi ok hs hg ht hk he h fun D C s' m H' I' q hn f => ⟨m, hn, fun h'' sb => ?_⟩
  obtain ⟨f0, f1, f2, f3, f4, f5⟩ := f
  exact ⟨.ref D, H', I'.turned (t' := s'.toks) (fun b o hb e => (sb.2 b hb).trans e) f0 f1 f3 f4 f5, rfl, q⟩
theorem pe_dc2G {tg1 iter1 : Expr} {ifs1 : List Expr} {vs1 : List Nat} {wj : TI} {g1 : TG} {tt1 : TT} (hu : X.A.units < cLine) (hc : X.calm = true) (hN : X.N.Nodup) (hi : PI X tg iter wi) (ok : BlkOk X.N X.env.scope scope own) (hv : ∀ i ∈ vs1, i ∈ own.map (·.2)) (hg : InBlk X scope fun Y => PG Y tg g) (ht : InBlk X scope fun Y => PTs Y ifs tt)
    (hi1 : InBlk X scope fun Y => PI Y tg1 iter1 wj) (hg1 : InBlk X scope fun Y => PG Y tg1 g1) (ht1 : InBlk X scope fun Y => PTs Y ifs1 tt1) (hk : InBlk X scope fun Y => PE Y kx tk) (he : InBlk X scope fun Y => PE Y vx tv)
    (hs : ∀ x, foldedSetIterable iter X.env x = pure x := by intro _; rfl) (hs1 : ∀ env x, foldedSetIterable iter1 env x = pure x := by intro _ _; rfl) : PE X (dX2 kx vx tg iter tg1 iter1 ifs ifs1 scope pos) (tDc2G kd wi g tt wj g1 tt1 tk tv (own.map (·.2)) vs1) := by
  refine ⟨fun pins s σ H Q I h => ?_⟩
  rw [arm_eval_DictComp]
  refine dc2G_core hu hc hN I hi ok hv hs hg ht hi1 hg1 ht1 hk he hs1 h fun D C s' m H' I' q hn f => ⟨m, hn, fun h'' sb => ?_⟩
  obtain ⟨f0, f1, f2, f3, f4, f5⟩ := f
  exact ⟨.ref D, H', I'.turned (t' := s'.toks) (fun b o hb e => (sb.2 b hb).trans e) f0 f1 f3 f4 f5, rfl, q⟩
end

/-! ### the values and the items of a locked dict whose keys are tuples -/
section
variable {X : Cx} {pins : List (Addr × Obj)} {σ : St} {H : Hp} {s : Shared} {d : Addr} {o : Obj} {kvs : List (List Key × V)}
theorem Inv.frzTV (I : Inv X pins σ H s) (h : H d = some (.frz o (.dT kvs))) :
    (d == sysModules) = false ∧ s.heap.get? d = some o ∧ o.ExactDict ∧ ∃ (es : Array DictEntry) (ep : Nat), o.data = .dict es ep ∧ es.size = kvs.length ∧
      ∀ (i : Nat) (k : List Key) (v : V) (hi : i < es.size), kvs[i]? = some (k, v) → ∃ q : Addr, es[i].key = .ref q ∧ H q = some (.tup (k.map kV)) ∧ RelV v es[i].val := by
  obtain ⟨hd, z, nsys, xs, pr, o', es, ep, ho, hx, hdt, he, _⟩ := I.hok d _ h
  rw [hd] at ho
  cases ho
  refine ⟨nsys, hd, hx, es, ep, hdt, ?_, fun i k v hi e => ?_⟩
  · rw [size_of_entries he, Paired.length pr]
  · obtain ⟨b, hb, e1, e2, e3⟩ := paired_get pr e
    have q := entry_at he i
    rw [hb, Array.getElem?_eq_getElem hi] at q
    have q : es[i] = _ := Option.some.inj q
    rw [q]
    exact ⟨b.2.1, rfl, e2, e3⟩
end
/-- the values -/
def Itdt (d : Addr) (o : Obj) (kvs : List (List Key × V)) : It :=
  ⟨fun i H => H d = some (.frz o (.dT kvs)) ∧ i < kvs.length, fun i H x H' => H' = H ∧ ∃ k, kvs[i]? = some (k, x), fun i H => H d = some (.frz o (.dT kvs)) ∧ kvs.length ≤ i⟩
/-- the pairs: the key's own tuple and the value -/
def Itit (d : Addr) (o : Obj) (kvs : List (List Key × V)) : It :=
  ⟨fun i H => H d = some (.frz o (.dT kvs)) ∧ i < kvs.length, fun i H x H' => ∃ T k v q, kvs[i]? = some (k, v) ∧ H q = some (.tup (k.map kV)) ∧ x = .ref T ∧ H T = none ∧ H' = upd H T (.tup [.ref q, v]), fun i H => H d = some (.frz o (.dT kvs)) ∧ kvs.length ≤ i⟩
section
variable {P : Program} {w : World} {K : PySem.W.Frag} {tg : Expr} {d : Addr} {o : Obj} {es : Array DictEntry} {ep : Nat} {kvs : List (List Key × V)}
theorem turn_valsT (it : Addr) (hod : o.data = .dict es ep) : Turn P w K tg (Itdt d o kvs) [it] it (fun i h => h.IsValIter it d i kvs.length ep) where
  mem := List.mem_singleton.mpr rfl
  obj := fun i h st b hb => by
    obtain rfl := List.mem_singleton.mp hb
    obtain ⟨oi, e, _, dd⟩ := st
    exact ⟨oi, e, fun v z => by rw [dd] at z; cases z⟩
  keep := fun i h h' st k => st.at fun oi e => k it (List.mem_singleton.mpr rfl) oi e
  item := by
    intro X hP hw hK hc i pins s σ H E I hf st ⟨hd, hi⟩
    subst hP hw hK
    obtain ⟨f0, f1, f2, f3, f4, f5⟩ := hf it (List.mem_singleton.mpr rfl)
    obtain ⟨nsys, hgd, hx, es', ep', hdt, hsz, ent⟩ := I.frzTV hd
    obtain ⟨rfl, rfl⟩ := dict_ep hod hdt
    obtain ⟨⟨k, v⟩, hkv⟩ : ∃ p, kvs[i]? = some p := ⟨kvs[i], List.getElem?_eq_getElem hi⟩
    have hi' : i < es'.size := by omega
    obtain ⟨q, _, _, rv⟩ := ent i k v hi' hkv
    rw [← hsz] at st
    refine wpAny_pyNext_values_item_raw st ⟨o, hgd, hx, hdt⟩ hi' fun h' st' sb => ?_
    have I1 : Inv X pins σ H { s with heap := h' } := I.turned (t' := s.toks) (fun b ob hb e => (sb.2 b hb).trans e) f0 f1 f3 f4 f5
    obtain ⟨oi, e, c, dd⟩ := id st'
    refine ⟨_, rfl, go_of (s := { s with heap := h' }) e c dd (by decide) ⟨v, H, I1, rv, ⟨rfl, k, hkv⟩, ?_, fun b hb => (hf b hb).1⟩⟩
    rw [← hsz]
    exact st'
  done := by
    intro X hP hw hK hc i pins s σ H E I hf st ⟨hd, hi⟩
    subst hP hw hK
    obtain ⟨f0, f1, f2, f3, f4, f5⟩ := hf it (List.mem_singleton.mpr rfl)
    obtain ⟨nsys, hgd, hx, es', ep', hdt, hsz, ent⟩ := I.frzTV hd
    obtain ⟨rfl, rfl⟩ := dict_ep hod hdt
    rw [← hsz] at st
    exact wpAny_pyNext_values_end_raw (I.ok.hd hc) st ⟨o, hgd, hx, hdt⟩ (by omega) fun h' eb => ⟨rfl, I.turned (t' := s.toks) (fun b ob hb e => eb b ob hb e) f0 f1 f3 f4 f5⟩
  self := fun A i s Q E st h => wpAny_pyIter_valiter st h
theorem turn_itemsT {elts : List Expr} {kk : Nat} {tpos : Pos} (it : Addr) (hod : o.data = .dict es ep) : Turn P w K (.Tuple elts kk tpos) (Itit d o kvs) [it] it (fun i h => ∃ ok ov, IsItemIter h it d i kvs.length ep ok ov) where
  mem := List.mem_singleton.mpr rfl
  obj := fun i h st b hb => by
    obtain rfl := List.mem_singleton.mp hb
    obtain ⟨ok, ov, e⟩ := st
    exact ⟨_, e, fun v z => nomatch z⟩
  keep := fun i h h' st k => let ⟨ok, ov, e⟩ := st; ⟨ok, ov, k it (List.mem_singleton.mpr rfl) _ e⟩
  item := by
    intro X hP hw hK hc i pins s σ H E I hf st ⟨hd, hi⟩
    subst hP hw hK
    obtain ⟨nsys, hgd, hx, es', ep', hdt, hsz, ent⟩ := I.frzTV hd
    obtain ⟨rfl, rfl⟩ := dict_ep hod hdt
    obtain ⟨⟨k, v⟩, hkv⟩ : ∃ p, kvs[i]? = some p := ⟨kvs[i], List.getElem?_eq_getElem hi⟩
    have hi' : i < es'.size := by omega
    obtain ⟨q, ek, hq, rv⟩ := ent i k v hi' hkv
    obtain ⟨ok, ov, he⟩ := st
    rw [← hsz] at he
    have lt := Heap.lt_size he
    refine wpAny_pyNext_items_item_raw he ⟨o, hgd, hx, hdt⟩ hi' fun h' ho hT hz hk => ?_
    refine ⟨_, rfl, wpAny_letOwnedTupleGo_items (s := { s with heap := h' }) ho fun h2 he2 sb => ?_⟩
    have hT2 := (sb.2 _ (Nat.ne_of_gt lt)).trans hT
    rw [ek] at hT2
    have new : ObjOk X.prog X.w (upd H s.heap.objs.size (.tup [.ref q, v])) h2 s.heap.objs.size (.tup [.ref q, v]) :=
      ⟨by show 2 ≤ sizeLine; decide, [.ref q, es'[i].val], .cons rfl (.cons rv .nil), ⟨_, hT2, rfl, _, rfl⟩⟩
    have I1 : Inv X pins σ (upd H s.heap.objs.size (.tup [.ref q, v])) { s with heap := h2 } :=
      I.turnedNew (t' := s.toks) (ch := [it]) (fun b ob hb e => (sb.2 b fun z => hb (List.mem_singleton.mpr z)).trans (hk b ob (fun z => hb (List.mem_singleton.mpr z)) e)) hf (Nat.le_refl _) new
    have st2 : ∃ ok ov, IsItemIter h2 it d (i + 1) kvs.length ep' ok ov := by
      rw [← hsz]
      exact ⟨_, _, he2⟩
    refine ⟨.ref s.heap.objs.size, _, I1, rfl, ⟨_, k, v, q, hkv, hq, rfl, I.hok.fresh (Nat.le_refl _), rfl⟩, st2, fun b hb => ?_⟩
    · obtain rfl := List.mem_singleton.mp hb
      rw [upd_ne (Nat.ne_of_lt lt)]
      exact (hf b hb).1
  done := by
    intro X hP hw hK hc i pins s σ H E I hf st ⟨hd, hi⟩
    subst hP hw hK
    obtain ⟨f0, f1, f2, f3, f4, f5⟩ := hf it (List.mem_singleton.mpr rfl)
    obtain ⟨nsys, hgd, hx, es', ep', hdt, hsz, ent⟩ := I.frzTV hd
    obtain ⟨rfl, rfl⟩ := dict_ep hod hdt
    obtain ⟨ok, ov, he⟩ := st
    rw [← hsz] at he
    exact wpAny_pyNext_items_end_raw (I.ok.hd hc) he ⟨o, hgd, hx, hdt⟩ (by omega) fun h' eb => ⟨rfl, I.turned (t' := s.toks) (fun b ob hb e => eb b ob hb e) f0 f1 f3 f4 f5⟩
  self := fun A i s Q E st h => let ⟨_, _, e⟩ := st; PySem.W.kcp_self e h
end
def iValsT (td : TE) : TI := fun σ H R => td σ H fun x H1 => ∃ d o kvs, x = .ref d ∧ H1 d = some (.frz o (.dT kvs)) ∧ R (Itdt d o kvs) H1
def iItemsT (td : TE) : TI := fun σ H R => td σ H fun x H1 => ∃ d o kvs, x = .ref d ∧ H1 d = some (.frz o (.dT kvs)) ∧ R (Itit d o kvs) H1
section
variable {X : Cx} {tg e : Expr} {td : TE} {apos cpos : Pos}
theorem noD_of {d : Addr} {o : Obj} {s : Shared} (hgd : s.heap.get? d = some o) (hx : o.ExactDict) : ∀ b, Value.ref d = .ref b → ∃ ob, s.heap.get? b = some ob ∧ ob.dict = none := fun b q => by
  cases q
  exact ⟨o, hgd, hx.2.1⟩
theorem pi_valuesT (he : PE X e td) (hbase : attributeBase e "values" X.env (eval e X.env) = eval e X.env := by rfl) (hline : (apos.endLine == cpos.line) = true := by rfl) : PI X tg (.Call (.Attribute e "values" apos) [] [] cpos) (iValsT td) := by
  refine ⟨fun pins s σ H R I h => ?_⟩
  refine wpAny_Call_method (T := "dict") (id := "dict.values") hbase rfl hline F.plainAttrs_dict F.slot_dict_values F.type_dict_values (thn (he.run pins s σ H _ I h) fun u s1 ⟨x, H1, I1, rx, d, o, kvs, ex, hd, q⟩ => ?_)
  subst ex
  obtain rfl : u = Value.ref d := rx
  obtain ⟨nsys, hgd, hx, es, ep, hdt, hsz, ent⟩ := I1.frzTV hd
  have raw : s1.heap.DictRaw d es ep := ⟨o, hgd, hx, hdt⟩
  refine ⟨raw.typeIs, noD_of hgd hx, ?_⟩
  have I2 : Inv X pins σ H1 { s1 with heap := s1.heap.push { cls := .type "dict_values", data := .fields #[.ref d] } } := I1.kept (t' := s1.toks) fun b ob q => Heap.get?_push_of_some _ q
  have fin : wpAny (model X.prog X.w) X.A (pyIter (.ref s1.heap.objs.size)) (PIE X pins σ tg R) X.xe { s1 with heap := s1.heap.push { cls := .type "dict_values", data := .fields #[.ref d] } } := by
    refine wpAny_pyIter_values_raw ⟨_, Heap.get?_push_size _ rfl, rfl, rfl⟩ (raw.at fun _ z => Heap.get?_push_of_some _ z) (pi_one (tk := s1.toks) I2 _ (turn_valsT _ hdt) ⟨_, Heap.get?_push_size _ rfl, rfl, ?_⟩ q)
    rw [hsz] <;> rfl
  show wpAny _ _ (callWith cpos (.builtin "dict.values") [.ref d] [] []) _ X.xe s1
  exact method_meetsIn F.slot_dict_values F.entry_dict_values rfl (PySem.evalArgs_none ⟨rfl, raw.typeIs, F.args_dict_values_1 _, _, meets_dict_values_raw d nsys, ⟨⟨es, ep, raw⟩, fin⟩⟩)
theorem pi_itemsT {elts : List Expr} {kk : Nat} {tpos : Pos} (he : PE X e td) (hbase : attributeBase e "items" X.env (eval e X.env) = eval e X.env := by rfl) (hline : (apos.endLine == cpos.line) = true := by rfl) :
    PI X (.Tuple elts kk tpos) (.Call (.Attribute e "items" apos) [] [] cpos) (iItemsT td) := by
  refine ⟨fun pins s σ H R I h => ?_⟩
  refine wpAny_Call_method (T := "dict") (id := "dict.items") hbase rfl hline F.plainAttrs_dict F.slot_dict_items F.type_dict_items (thn (he.run pins s σ H _ I h) fun u s1 ⟨x, H1, I1, rx, d, o, kvs, ex, hd, q⟩ => ?_)
  subst ex
  obtain rfl : u = Value.ref d := rx
  obtain ⟨nsys, hgd, hx, es, ep, hdt, hsz, ent⟩ := I1.frzTV hd
  have raw : s1.heap.DictRaw d es ep := ⟨o, hgd, hx, hdt⟩
  refine ⟨raw.typeIs, noD_of hgd hx, ?_⟩
  have I2 : Inv X pins σ H1 { s1 with heap := s1.heap.push { cls := .type "dict_items", data := .fields #[.ref d] } } := I1.kept (t' := s1.toks) fun b ob q => Heap.get?_push_of_some _ q
  have fin : wpAny (model X.prog X.w) X.A (pyIter (.ref s1.heap.objs.size)) (PIE X pins σ (.Tuple elts kk tpos) R) X.xe { s1 with heap := s1.heap.push { cls := .type "dict_items", data := .fields #[.ref d] } } := by
    refine wpAny_pyIter_items_raw ⟨_, Heap.get?_push_size _ rfl, rfl, rfl⟩ (raw.at fun _ z => Heap.get?_push_of_some _ z) (pi_one (tk := s1.toks) I2 _ (turn_itemsT _ hdt) ⟨.none, .none, ?_⟩ q)
    rw [← hsz]
    exact Heap.get?_push_size _ rfl
  show wpAny _ _ (callWith cpos (.builtin "dict.items") [.ref d] [] []) _ X.xe s1
  exact method_meetsIn F.slot_dict_items F.entry_dict_items rfl (PySem.evalArgs_none ⟨rfl, raw.typeIs, F.args_dict_items_1 _, _, meets_dict_items_raw d nsys, ⟨⟨es, ep, raw⟩, fin⟩⟩)
end
section
variable {d : Addr} {o : Obj} {kvs : List (List Key × V)}
theorem walk_valuesT : Walk (Itdt d o kvs) kvs.length (fun H => H d = some (.frz o (.dT kvs))) (fun i H x H' => H' = H ∧ ∃ k, kvs[i]? = some (k, x)) :=
  ⟨fun _ _ hi q => ⟨q, hi⟩, fun _ q => ⟨q, Nat.le_refl _⟩, fun _ _ _ _ _ _ y => y⟩
theorem walk_itemsT : Walk (Itit d o kvs) kvs.length (fun H => H d = some (.frz o (.dT kvs))) (fun i H x H' => ∃ T k v q, kvs[i]? = some (k, v) ∧ H q = some (.tup (k.map kV)) ∧ x = .ref T ∧ H T = none ∧ H' = upd H T (.tup [.ref q, v])) :=
  ⟨fun _ _ hi q => ⟨q, hi⟩, fun _ q => ⟨q, Nat.le_refl _⟩, fun _ _ _ _ _ _ y => y⟩
/-- a dict comprehension's clause over a known walk: Pv by the turn and the heap -/
theorem wlk_it {J : It} {n : Nat} {G : Hp → Prop} {Y : Nat → Hp → V → Hp → Prop} (w : Walk J n G Y) {g : TG} {tt : TT} {vs : List Nat} {σ0 : St} {ready : Hp → Prop} {body : (Hp → Prop) → St → Hp → Prop} {H0 : Hp} (Pv : Nat → Hp → Prop) (h0 : Pv 0 H0) (hG : ∀ i H, i ≤ n → Pv i H → G H)
    (hs : ∀ i x H H', i < n → Pv i H → Y i H x H' → g x (wipe σ0 vs) H' fun σ2 H2 => wipe σ2 vs = wipe σ0 vs ∧ tt σ2 H2 fun b H3 => if b = true then body (Pv (i + 1)) σ2 H3 else Pv (i + 1) H3) (hd : ∀ H, Pv n H → ready H) :
    wlk J g σ0 vs tt ready body H0 := by
  refine ⟨fun i m H => m = n - i ∧ i ≤ n ∧ Pv i H, ⟨n, by simp, Nat.zero_le _, h0⟩, ?_⟩
  rintro i m H ⟨rfl, hi, p⟩
  have q := hG i H hi p
  by_cases hlt : i < n
  · exact .inr ⟨w.goes i H hlt q, Pv (i + 1), fun H' p' => ⟨n - (i + 1), by omega, rfl, hlt, p'⟩, fun x H' y => hs i x H H' hlt p (w.yields i H x H' hlt q y)⟩
  · obtain rfl : i = n := by omega
    exact .inl ⟨w.stops H q, hd H p⟩
end
end L2

set_option maxHeartbeats 1000000
/-! which value goes to which parameter, where a call has keywords and keyword-only defaults fill up -/
namespace L2
open PySem PySem.Spec PyProof.Rows
/-- picks: (0, i) the i-th positional value, (1, i) of the defaults, (2, i) of the keywords -/
def kg {α : Type} (ps : List (Nat × Nat)) (us mv ws : List α) : List α := ps.filterMap fun p => (if p.1 = 0 then us else if p.1 = 1 then mv else ws)[p.2]?
theorem vals_ix {vs : List V} {us : List Value} (h : Vals vs us) (i : Nat) : (vs[i]? = none ∧ us[i]? = none) ∨ ∃ v u, vs[i]? = some v ∧ us[i]? = some u ∧ RelV v u := by
  induction h generalizing i with
  | nil => exact .inl ⟨by simp, by simp⟩
  | @cons v u vs us r t ih =>
    cases i with
    | zero => exact .inr ⟨v, u, rfl, rfl, r⟩
    | succ i => simpa using ih i
theorem kg_rel {vs mz zs : List V} {us mv ws : List Value} (h1 : Vals vs us) (h2 : Vals mz mv) (h3 : Vals zs ws) : ∀ ps : List (Nat × Nat), Vals (kg ps vs mz zs) (kg ps us mv ws)
  | [] => .nil
  | p :: ps => by
    have ih := kg_rel h1 h2 h3 ps
    have k : ((if p.1 = 0 then vs else if p.1 = 1 then mz else zs)[p.2]? = none ∧ (if p.1 = 0 then us else if p.1 = 1 then mv else ws)[p.2]? = none) ∨ ∃ v u, (if p.1 = 0 then vs else if p.1 = 1 then mz else zs)[p.2]? = some v ∧ (if p.1 = 0 then us else if p.1 = 1 then mv else ws)[p.2]? = some u ∧ RelV v u := by
      by_cases a : p.1 = 0
      · rw [if_pos a, if_pos a]; exact vals_ix h1 _
      · rw [if_neg a, if_neg a]
        by_cases b : p.1 = 1
        · rw [if_pos b, if_pos b]; exact vals_ix h2 _
        · rw [if_neg b, if_neg b]; exact vals_ix h3 _
    unfold kg at ih ⊢
    rcases k with ⟨k1, k2⟩ | ⟨v, u, k1, k2, r⟩
    · rw [List.filterMap_cons, List.filterMap_cons, k1, k2]
      exact ih
    · rw [List.filterMap_cons, List.filterMap_cons, k1, k2]
      exact .cons r ih
section
variable {X : Cx} {CX : CXT} {k n1 : Nat} {f C : Addr} {fd : FuncData} {ps ks : List Str} {sp : Sp} {E : XK} {m : Str} {pos apos : Pos} {e o : Expr} {es : List Expr} {ta : TE} {t tk : TA} {kws : List Keyword}
  {g : List Value → List Value → List Value} {gV : List V → List V → List V}
/-- o.m(x, .., k = v, ..) -/
def tMethKn (C : Addr) (m : Str) (n1 n : Nat) (sp : Sp) (gV : List V → List V → List V) (E : XK) (ta : TE) (t tk : TA) : TE := fun σ H Q => ta σ H fun x H1 => ∃ a dx fs, x = .ref a ∧ H1 a = some (.ins C dx fs) ∧ fs.lookup m = none ∧
  t σ H1 fun vs H2 => tk σ H2 fun zs H3 => vs.length = n1 ∧ zs.length = n ∧ sp (gV (x :: vs) zs) H3 Q E
theorem pe_methKn {pl : Sem Bool} (he : PE X o ta) (c : Cls X.K C) (hm : Meth X.K C m f) (F : FnOk X.prog X.w X.K X.mg X.base CX k f fd ps sp) (room : Room k X.A) (hb : KBn X.K fd ps (n1 + 1) ks g gV) (hx : Passes CX X E) (ha : PA X (e :: es) t) (hkw : PK X kws tk)
    (hall : (backToKw pos (keywordEach kws X.env)).all (·.1.isSome) = true := by rfl) (hks : (backToKw pos (keywordEach kws X.env)).filterMap (·.1) = ks := by rfl)
    (hst : starEach (e :: es) X.env = (false, eval e X.env) :: starEach es X.env := by rfl)
    (hpl : ((backTo pos (starEach (e :: es) X.env)).any (·.1) || (backToKw pos (keywordEach kws X.env)).any (·.1.isNone)) = false := by rfl)
    (ht : eval (.Call (.Attribute o m apos) (e :: es) kws pos) X.env = (do
      let ov ← eval o X.env
      standAt apos.atName
      let (f, first) ← holding [ov] (getMethod ov m pl)
      callWith pos f first (backTo pos (starEach (e :: es) X.env)) (backToKw pos (keywordEach kws X.env))) := by rfl) :
    PE X (.Call (.Attribute o m apos) (e :: es) kws pos) (tMethKn C m n1 ks.length sp gV E ta t tk) := by
  constructor
  intro pins s σ H Q I h
  refine PySem.W.methodCall_KW (pl := pl) (thn (he.run pins s σ H _ I h) ?_) ht
  rintro u s1 ⟨x, H1, I1, rx, a, dx, fs, ex, ea, l, hq⟩
  subst ex
  obtain rfl : u = Value.ref a := rx
  refine getmeth_ok I1 ea c hm l (PySem.W.callWith_KW (h₀ := X.base) I1.ok.mod.kin hm.kp hall (thn (ha.run pos pins s1 σ H1 _ I1 hq) ?_) hpl hst)
  rintro us s2 ⟨vs, H2, I2, r, hq2⟩
  refine thn (hkw.run pos pins s2 σ H2 _ I2 hq2) ?_
  rintro ws s3 ⟨zs, H3, I3, rz, l1, l2, hs⟩
  refine ⟨I3.kIn, ?_⟩
  rw [hks]
  exact run_fnN (us := .ref a :: us) (vs := .ref a :: vs) F room hb hx I3 (.cons rfl r) rz (congrArg (· + 1) l1) l2 hs
end
end L2

set_option maxHeartbeats 1000000
/-! sorted(xs) of a list of tuples of ints -/
namespace L2
open PySem PySem.Spec PyProof.Rows
theorem lex_asym : ∀ xs ys : List Int, HT.lexLt xs ys = true → HT.lexLt ys xs = false
  | [], [], h => by cases h
  | [], _ :: _, _ => rfl
  | _ :: _, [], h => by cases h
  | x :: xs, y :: ys, h => by
    rw [HT.lexLt_cons] at h ⊢
    by_cases e : x = y
    · rw [if_pos e] at h
      rw [if_pos e.symm]
      exact lex_asym xs ys h
    · rw [if_neg e] at h
      rw [if_neg (fun q => e q.symm)]
      have := of_decide_eq_true h
      exact decide_eq_false (by omega)
theorem lex_tr : ∀ xs ys zs : List Int, HT.lexLt ys xs = false → HT.lexLt zs ys = false → HT.lexLt zs xs = false
  | [], _, [], _, _ => rfl
  | [], _, _ :: _, _, _ => rfl
  | _ :: _, [], _, h, _ => by cases h
  | _ :: _, _ :: _, [], _, h => by cases h
  | x :: xs, y :: ys, z :: zs, h1, h2 => by
    rw [HT.lexLt_cons] at h1 h2 ⊢
    by_cases e : y = x
    · rw [if_pos e] at h1
      by_cases e2 : z = y
      · rw [if_pos e2] at h2
        rw [if_pos (e2.trans e)]
        exact lex_tr xs ys zs h1 h2
      · rw [if_neg e2] at h2
        rw [if_neg (fun q => e2 (q.trans e.symm))]
        have := of_decide_eq_false h2
        exact decide_eq_false (by omega)
    · rw [if_neg e] at h1
      have a1 := of_decide_eq_false h1
      by_cases e2 : z = y
      · rw [if_neg (fun q => e (e2.symm.trans q))]
        exact decide_eq_false (by omega)
      · rw [if_neg e2] at h2
        have a2 := of_decide_eq_false h2
        rw [if_neg (by omega)]
        exact decide_eq_false (by omega)
def TupI (h : Heap) (v : Value) (xs : List Int) : Prop := ∃ (a : Addr) (o : Obj) (its : Array Value) (n : Nat), v = .ref a ∧ h.get? a = some o ∧ o.cls = .type "tuple" ∧ o.data = .seq its n ∧ Vals (xs.map V.int) its.toList
theorem TupI.keeps {h h' : Heap} {v : Value} {xs : List Int} (t : TupI h v xs) (k : ∀ b o, h.get? b = some o → o.cls = .type "tuple" → h'.get? b = some o) : TupI h' v xs := by
  obtain ⟨a, o, its, n, e, h1, h2, h3, h4⟩ := t
  exact ⟨a, o, its, n, e, k _ _ h1 h2, h2, h3, h4⟩
section
variable {prog : Program} {w : World} {A : Around} {s : Shared}
theorem kat_ints {Q : Bool → Shared → Prop} : ∀ {xs ys : List Int} {us vs : List Value}, Vals (xs.map V.int) us → Vals (ys.map V.int) vs → ∀ i : Nat, Q (HT.lexLt xs ys) s → PySem.W.KatLex prog w A true (decide (us.length < vs.length)) Q (us.zip vs) i s
  | [], [], _, _, .nil, .nil, i, q => PySem.W.kat_nil q
  | [], _ :: _, _, _, .nil, .cons _ _, i, q => by
    refine PySem.W.kat_nil ?_
    rw [decide_eq_true (by simp)]
    exact q
  | _ :: _, [], _, _, .cons _ _, .nil, i, q => by
    refine PySem.W.kat_nil ?_
    rw [decide_eq_false (by simp)]
    exact q
  | x :: xs, y :: ys, _, _, .cons (l₂ := us) r r', .cons (l₂ := vs) t t', i, q => by
    obtain ⟨a, rfl⟩ := r
    obtain ⟨b, rfl⟩ := t
    rw [show (decide ((Value.int x a :: us).length < (Value.int y b :: vs).length)) = decide (us.length < vs.length) by simp]
    refine PySem.W.kat_cons (SeqAt.EqAt.int_int x a y b prog w _ _ ?_)
    rw [HT.lexLt_cons] at q
    refine PySem.W.kat_go (fun e => ?_) (fun e => ?_)
    · have ex : x = y := by simpa using e
      rw [if_pos ex] at q
      exact PySem.W.kat_yes (kat_ints r' t' (i + 1) q)
    · have ex : ¬ x = y := by simpa using e
      rw [if_neg ex] at q
      refine PySem.W.kat_no ?_
      cases i with
      | zero => exact oneLt_int q
      | succ i =>
        rw [show (true && (i + 1 == 0)) = false by simp]
        exact PySem.W.kat_one _ _ (PyProof.Rows.lt_int q)
theorem swo_ints (k : Value → List Int) : SrtO.Swo fun v u => HT.lexLt (k v) (k u) := ⟨fun x y h => lex_asym _ _ h, fun x y z h1 h2 => lex_tr _ _ _ h1 h2⟩
theorem tupI_firsts {h : Heap} {k : Value → List Int} : ∀ {vs : List Value}, (∀ v ∈ vs, k v ≠ [] ∧ TupI h v (k v)) → ∃ fs : List Value, PySem.W.KatTups h vs fs ∧ fs.length = vs.length ∧ ∀ f ∈ fs, ∃ x t, f = Value.int x t
  | [], _ => ⟨[], PySem.W.KatTups.nil, rfl, fun _ hm => by simp at hm⟩
  | v :: vs, hp => by
    obtain ⟨fs, h1, h2, h3⟩ := tupI_firsts (vs := vs) fun v' hm => hp v' (List.mem_cons_of_mem _ hm)
    obtain ⟨ne, a, o, its, n, e, ho, hc, hd, hv⟩ := hp v (List.mem_cons_self ..)
    subst e
    cases hk : k (.ref a) with
    | nil => exact absurd hk ne
    | cons x xs =>
      rw [hk, List.map_cons] at hv
      obtain ⟨it⟩ := its
      dsimp only at hv
      cases hv with
      | @cons _ u _ us r t =>
        obtain ⟨tk, rfl⟩ := r
        refine ⟨.int x tk :: fs, PySem.W.KatTups.cons ho hc hd rfl h1, by rw [List.length_cons, List.length_cons, h2], fun f hm => ?_⟩
        rcases List.mem_cons.mp hm with rfl | hm
        · exact ⟨x, tk, rfl⟩
        · exact h3 f hm
theorem ints_sortable {a : Addr} {vs : List Value} {k : Value → List Int} (h0 : 0 < vs.length) (hp : ∀ v ∈ vs, k v ≠ [] ∧ TupI s.heap v (k v)) (ha : ∀ o, s.heap.get? a = some o → o.cls ≠ .type "tuple") : SrtO.SortableO prog w A s a vs fun v u => HT.lexLt (k v) (k u) := by
  intro h' keep
  have hp' : ∀ v ∈ vs, k v ≠ [] ∧ TupI h' v (k v) := fun v hm => ⟨(hp v hm).1, (hp v hm).2.keeps fun b o e c => keep b o (fun z => by subst z; exact ha o e c) e⟩
  obtain ⟨fs, h1, h2, h3⟩ := tupI_firsts hp'
  refine ⟨tuples' true, fun Q E hq => ?_, fun p q hm hm' => ?_⟩
  · refine PySem.W.kat_kind (T := .type "int") h1 (by omega) (fun f hm => ?_) (by rfl) ?_
    · obtain ⟨x, t, rfl⟩ := h3 f hm
      exact PySem.W.Looks.now
    · have e : (Value.type "int" != Value.type "tuple") = true := by first | decide +kernel | rfl | decide
      rw [e]
      exact hq
  · have h1 := (hp' _ hm).2
    have h2 := (hp' _ hm').2
    show wpAny (model prog w) A (keyLt' (tuples' true) p.1 q.1) (fun r s' => s' = { s with heap := h' } ∧ r = HT.lexLt (k p.1) (k q.1)) (fun _ _ => False) _
    generalize k p.1 = xs at h1 ⊢
    generalize k q.1 = ys at h2 ⊢
    obtain ⟨a1, o1, i1, n1, e1, g1, c1, d1, v1⟩ := h1
    obtain ⟨a2, o2, i2, n2, e2, g2, c2, d2, v2⟩ := h2
    rw [e1, e2]
    refine PySem.W.kat_lt g1 d1 g2 d2 ?_
    obtain ⟨i1⟩ := i1
    obtain ⟨i2⟩ := i2
    exact kat_ints v1 v2 0 ⟨rfl, rfl⟩
end
abbrev ltK (k : V → List Int) (x y : V) : Bool := HT.lexLt (k x) (k y)
theorem ltK_swo (k : V → List Int) : SrtO.Swo (ltK k) := ⟨fun x y h => lex_asym _ _ h, fun x y z h1 h2 => lex_tr _ _ _ h1 h2⟩
/-- sorted(xs), xs a list of tuples of ints, none of them empty: a new list, sorted -/
def rSortedTO (K : PySem.W.Frag) : List V → Hp → VK → Prop := fun vs H Q => ∃ (a : Addr) (xs : List V) (k : V → List Int), vs = [V.ref a] ∧ SqL K H a xs ∧ (∀ x ∈ xs, k x ≠ [] ∧ ∃ t, x = V.ref t ∧ H t = some (.tup ((k x).map V.int))) ∧
  ∀ ys p, SrtO.Srtd (ltK k) ys → ys.Perm xs → H p = none → Q (.ref p) (upd H p (.lst ys))
theorem cr_sortedTO {X : Cx} : CallR X (.builtin "sorted") (rSortedTO X.K) := by
  intro pins s σ H vs us Q I r h
  obtain ⟨a, xs, k, rfl, hs, hx, q⟩ := h
  obtain ⟨its, rv, hl, hz⟩ := I.list hs
  obtain ⟨u, rfl, ru⟩ := vals1 r
  obtain rfl : u = Value.ref a := ru
  obtain ⟨e1, e2⟩ := refs_back rv fun x m => by
    obtain ⟨_, t, e, _⟩ := hx x m
    exact ⟨t, e⟩
  have hp : ∀ v ∈ its, k (backV v) ≠ [] ∧ TupI s.heap v (k (backV v)) := fun v hv => by
    obtain ⟨t, rfl⟩ := e2 v hv
    have hm : V.ref t ∈ xs := by rw [e1]; exact List.mem_map.mpr ⟨_, hv, rfl⟩
    obtain ⟨ne, t', e, ht⟩ := hx _ hm
    cases e
    obtain ⟨_, its2, r2, o, ho, hc, n, hd⟩ := I.hok _ _ ht
    exact ⟨ne, t, o, _, n, rfl, ho, hc, hd, r2⟩
  refine SrtO.sorted_ord (ltv := fun v u => HT.lexLt (k (backV v)) (k (backV u))) (swo_ints fun v => k (backV v)) hl.isList (by rw [← rv.length]; exact hz) (fun h2 h₁ a ha kk => ?_) fun out h1 h2 => ?_
  · refine ints_sortable (s := { s with heap := h₁ }) (k := fun v => k (backV v)) (by omega) (fun v hm => ⟨(hp v hm).1, (hp v hm).2.keeps fun b o e _ => (kk b o e).2⟩) fun o e => ?_
    have e' : some o = some (seqObj "list" its.toArray 0) := e.symm.trans ha
    cases e'
    intro c
    exact absurd (Value.type.inj c) (by decide)
  · have h3 : ∀ u ∈ out, ∃ a, u = Value.ref a := fun u hu => e2 u (h2.perm.mem_iff.mp hu)
    have hb : SrtO.Stb (ltK k) (out.map backV) xs := by
      rw [e1]
      exact SrtO.Stb.map (ltK_swo k) backV h2
    refine ⟨.ref (s.heap.objs.size + 1), upd H (s.heap.objs.size + 1) (.lst (out.map backV)), I.laid (t' := s.toks) (fun b o e => sortedAll_old e) (Nat.le_succ _) ⟨?_, out, _, vals_back h3, (sortedAll_at s.heap its out.toArray).choose_spec⟩, rfl, q _ _ (SrtO.srtd_map h1) hb.perm (I.hok.fresh (Nat.le_succ _))⟩
    rw [hb.len]
    exact hz
theorem sortedTK {X : Cx} {K : PySem.W.Frag} (h : X.K = K) : CallR X (.builtin "sorted") (rSortedTO K) := by subst h; exact cr_sortedTO
end L2

set_option maxHeartbeats 2000000
/-! Texts: a text times a number, join with the written part named, f(k = v); words of rows, rows of texts. -/
namespace MyG
open PySem PySem.Spec PyProof.Rows L2 Evl
section
variable {X : Cx}
/-- a text times an int -/
def rMulS : R2 := fun x y H Q => ∃ a k, x = .str a ∧ y = .int k ∧ MulOk a k ∧ Q (.str (Txt.mul a k)) H
theorem op_mulS : OpR X (binaryOp .Mult) rMulS := by
  intro pins s σ H x y v u Q I rx ry h
  obtain ⟨a, k, rfl, rfl, hok, q⟩ := h
  obtain ⟨t, rfl⟩ := rx
  obtain ⟨t2, rfl⟩ := ry
  exact SB.mul hok fun t' k' => ⟨.str _, H, I.tok _, ⟨_, rfl⟩, q⟩
def rJoinK (K : PySem.W.Frag) : V → List V → Hp → VK → Prop := fun x xs H Q => ∃ a p, ∃ ys : List Str, x = .str a ∧ xs = [.ref p] ∧ (SqL K H p (ys.map V.str) ∨ SqT K H p (ys.map V.str)) ∧
      (ys.map (·.length)).sum + ys.length * a.length ≤ 16777216 ∧ Q (.str (Txt.join a ys)) H
theorem joinK {K : PySem.W.Frag} {o e : Expr} {to te : TE} {apos pos : Pos} (h : X.K = K) (ho : PE X o to) (he : PE X e te) (hs : starEach [e] X.env = [(false, eval e X.env)] := by rfl) (hbase : attributeBase o "join" X.env (eval o X.env) = eval o X.env := by rfl) (hline : (apos.endLine == pos.line) = true := by rfl) :
    PE X (.Call (.Attribute o "join" apos) [e] [] pos) (tM1 (rJoinK K) to te) := by
  subst h
  exact pe_join ho he hs hbase hline
end
section
variable {X : Cx} {CX : CXT} {k : Nat} {f : Addr} {fd : FuncData} {ps ks : List Str} {sp : Sp} {E : XK} {x : Str} {p pos : Pos} {tk : TA} {kws : List Keyword} {g : List Value → List Value → List Value} {gV : List V → List V → List V}
/-- f(k = v, ..): keywords alone -/
def tCallK0 (n : Nat) (sp : Sp) (gV : List V → List V → List V) (E : XK) (tk : TA) : TE := fun σ H Q => tk σ H fun zs H2 => zs.length = n ∧ sp (gV [] zs) H2 Q E
theorem pe_callK0 (F : FnOk X.prog X.w X.K X.mg X.base CX k f fd ps sp) (room : Room k X.A) (hg : Gl X x) (hm : X.mg x = some (.ref f)) (hk : PySem.W.keepIn X.K (.ref f) = true) (hb : KBn X.K fd ps 0 ks g gV) (hx : Passes CX X E) (hkw : PK X kws tk)
    (hall : (backToKw pos (keywordEach kws X.env)).all (·.1.isSome) = true := by rfl) (hks : (backToKw pos (keywordEach kws X.env)).filterMap (·.1) = ks := by rfl) (hdb : (x == ("__debug__" : Str)) = false := by decide)
    (hpl : ((backTo pos (starEach [] X.env)).any (·.1) || (backToKw pos (keywordEach kws X.env)).any (·.1.isNone)) = false := by rfl) :
    PE X (.Call (.Name x p) [] kws pos) (tCallK0 ks.length sp gV E tk) := by
  constructor
  intro pins s σ H Q I h
  refine wpAny_Call_Name_kw (ld_glob I hg hm (PySem.W.callWith_KW0 (h₀ := X.base) I.ok.mod.kin hk hall (thn (hkw.run pos pins s σ H _ I h) ?_) hpl) hdb)
  rintro ws s2 ⟨zs, H2, I2, rz, l2, hs⟩
  refine ⟨I2.kIn, ?_⟩
  rw [hks]
  exact run_fnN (us := []) (vs := []) F room hb hx I2 .nil rz rfl l2 hs
end
/-! ### words of a row -/
open TL
def wordsL (l : List Nat) : List (List Nat) := (spl [32] 0 [] l).filter (fun w => !w.isEmpty)
theorem pre32 (c : Nat) (r : List Nat) : pre [32] (c :: r) = (c == 32) := by
  unfold pre
  simp only [List.length_singleton, List.take_succ_cons, List.take_zero]
  by_cases h : c = 32
  · subst h; rfl
  · have e : (c == 32) = false := by simpa using h
    rw [e]
    simp [h]
theorem wordsL_blank (l : List Nat) : wordsL (32 :: l) = wordsL l := by
  unfold wordsL
  rw [spl_hit (by rw [pre32]; rfl)]
  rfl
theorem wordsL_blanks : ∀ (k : Nat) (l : List Nat), wordsL (List.replicate k 32 ++ l) = wordsL l
  | 0, l => rfl
  | k + 1, l => by
    rw [List.replicate_succ, List.cons_append, wordsL_blank, wordsL_blanks k l]
theorem wordsL_word {w l : List Nat} (h : 32 ∉ w) (hne : w ≠ []) : wordsL (w ++ 32 :: l) = w :: wordsL l := by
  unfold wordsL
  rw [show w ++ 32 :: l = w ++ ([32] ++ l) from rfl, spl_part1 (s := 32) (S := []) h, List.nil_append, List.filter_cons, if_pos (by cases w; exact absurd rfl hne; rfl)]
theorem wordsL_one {w : List Nat} (h : 32 ∉ w) (hne : w ≠ []) : wordsL w = [w] := by
  unfold wordsL
  rw [spl_last1 (s := 32) (S := []) h, List.nil_append, List.filter_cons, if_pos (by cases w; exact absurd rfl hne; rfl)]
  rfl
theorem wordsL_nil : wordsL [] = [] := rfl
theorem spl_snoc : ∀ (l acc : List Nat), spl [32] 0 acc (l ++ [32]) = spl [32] 0 acc l ++ [[]]
  | [], acc => by
    rw [List.nil_append, spl_hit (by rw [pre32]; rfl), spl_nil, spl_nil]
    rfl
  | c :: r, acc => by
    by_cases h : c = 32
    · subst h
      rw [List.cons_append, spl_hit (by rw [pre32]; rfl), spl_hit (by rw [pre32]; rfl)]
      show acc :: spl [32] 0 [] (r ++ [32]) = acc :: spl [32] 0 [] r ++ [[]]
      rw [spl_snoc r []]
      rfl
    · have e : pre [32] (c :: r) = false := by rw [pre32]; simpa using h
      have e' : pre [32] (c :: (r ++ [32])) = false := by rw [pre32]; simpa using h
      rw [List.cons_append, spl_miss e', spl_miss e, spl_snoc r (acc ++ [c])]
theorem wordsL_end (l : List Nat) : wordsL (l ++ [32]) = wordsL l := by
  unfold wordsL
  rw [spl_snoc, List.filter_append]
  simp
theorem wordsL_ends : ∀ (k : Nat) (l : List Nat), wordsL (l ++ List.replicate k 32) = wordsL l
  | 0, l => by rw [List.replicate_zero, List.append_nil]
  | k + 1, l => by
    rw [List.replicate_succ', ← List.append_assoc, wordsL_end, wordsL_ends k l]
theorem wordsL_join : ∀ {ws : List (List Nat)}, (∀ w ∈ ws, 32 ∉ w ∧ w ≠ []) → wordsL (joinL [32] ws) = ws
  | [], _ => rfl
  | [w], h => by
    have k := h w (List.mem_singleton.mpr rfl)
    exact wordsL_one k.1 k.2
  | w :: v :: r, h => by
    have k := h w (List.mem_cons_self ..)
    show wordsL (w ++ (32 :: joinL [32] (v :: r))) = _
    rw [wordsL_word k.1 k.2, wordsL_join fun z hz => h z (List.mem_cons_of_mem _ hz)]
/-- rstrip(" ") takes blanks away, nothing else -/
theorem rstrip_blanks (x y : Str) (hy : tl y = [32]) : ∃ k, tl x = tl (Txt.rstripChars x y) ++ List.replicate k 32 := by
  have hy' : y = ⟨#[32]⟩ := ext_tl (by rw [hy])
  subst hy'
  unfold Txt.rstripChars
  rw [stripBy_eq]
  have f := hi_facts (Array.contains #[32]) x 0 (Nat.zero_le _)
  have lo0 : stripLo (Array.contains #[32]) false x = 0 := rfl
  rw [lo0]
  obtain ⟨_, h2, h3, _⟩ := f
  generalize stripHi (Array.contains #[32]) true x 0 = j at h2 h3
  refine ⟨x.length - j, ?_⟩
  have e : tl (Builtin.Str.strSub x 0 j) = (tl x).take j := by
    show (Builtin.Str.strSub x 0 j).cps.toList = _
    rw [PySem.StrLaws.strSub_toList, List.drop_zero, Nat.sub_zero]
  rw [e]
  have hx : x.length = (tl x).length := len_tl x
  refine (List.take_append_drop j (tl x)).symm.trans (congrArg _ ?_)
  refine List.ext_getElem (by rw [List.length_drop, List.length_replicate]; omega) (fun i h1 h4 => ?_)
  rw [List.getElem_drop, List.getElem_replicate]
  rw [List.length_drop] at h1
  have k := h3 (j + i) (by omega) (by omega)
  have g : x.cps.getD (j + i) 0 = (tl x)[j + i]'(by omega) := by
    rw [← getD_list, List.getD_eq_getElem?_getD, List.getElem?_eq_getElem (by show j + i < (tl x).length; omega)]
    rfl
  rw [g] at k
  simpa using k
/-! ### numbers as figures -/
theorem numL_head {n : Nat} (h : n ≠ 0) : ∃ c r, numL n = c :: r ∧ c ≠ 48 := by
  induction n using Nat.strongRecOn with
  | _ n ih =>
    by_cases h10 : n < 10
    · exact ⟨48 + n, [], numL_lt h10, by omega⟩
    · obtain ⟨c, r, e, hc⟩ := ih (n / 10) (by omega) (by omega)
      exact ⟨c, r ++ [48 + n % 10], by rw [numL_step (by omega), e]; rfl, hc⟩
end MyG
namespace MyG
open PySem PySem.Spec PyProof.Rows L2 Evl
section
variable {X : Cx} {K : PySem.W.Frag}
def tTruth (K : PySem.W.Frag) (ta : TE) : TT := fun σ H Q => ta σ H fun x H' => ∃ k, TruV K x H' k ∧ Q k H'
theorem truthK {a : Expr} {ta : TE} (h : X.K = K) (ha : PE X a ta) (he : ∀ whole, isTrue a X.env whole = (do let v ← whole; standAt a.pos; holding [v] (truthy v))) : PT X a (tTruth K ta) := by
  subst h
  exact pt_truth ha he
def rTupOfK (K : PySem.W.Frag) : List V → Hp → VK → Prop := fun xs H Q => ∃ p ys, xs = [.ref p] ∧ ((SqL K H p ys ∧ ∀ l, H l = none → Q (.ref l) (upd H l (.tup ys))) ∨ (SqT K H p ys ∧ Q (.ref p) H))
theorem tupleK (h : X.K = K) : CallR X (.type "tuple") (rTupOfK K) := by subst h; exact call_tuple_of
end
end MyG
namespace MyG
open PySem PySem.Spec PyProof.Rows L2 Evl TL
abbrev HALL : List Nat := [104, 97, 108, 108]
abbrev LINK : List Nat := [108, 105, 110, 107]
def hallW (p : Int) : List (List Nat) := [HALL, numL p.toNat]
def linkW (r : Int × Int × Int) : List (List Nat) := [LINK, numL r.1.toNat, numL r.2.1.toNat, numL r.2.2.toNat]
def writtenL (ps : List Int) (rs : List (Int × Int × Int)) : List Nat := ((ps.map hallW ++ rs.map linkW).map (fun w => joinL [32] w ++ [10])).flatten
/-- a text's rows, as words, those without words left out -/
def linesL (l : List Nat) : List (List (List Nat)) := ((spl [10] 0 [] l).map wordsL).filter (fun w => !w.isEmpty)
theorem given_filter {α : Type} (p : α → Bool) (g : α → V) : ∀ ys : List α, given ys.length (fun i => (ys[i]?.map p).getD false) (fun i => (ys[i]?.map g).getD .non) = (ys.filter p).map g
  | [] => rfl
  | y :: r => by
    have ih := given_filter p g r
    unfold given at ih ⊢
    rw [List.length_cons, List.range_succ_eq_map, List.filter_cons, List.filter_map]
    cases hp : p y with
    | true =>
      rw [if_pos (by simp [hp]), List.filter_cons, if_pos hp, List.map_cons, List.map_cons, List.map_map, ← ih]
      congr 1
    | false =>
      rw [if_neg (by simp [hp]), List.filter_cons, if_neg (by rw [hp]; exact Bool.false_ne_true), List.map_map, ← ih]
      congr 1
theorem split_tl (z y : Str) {c : Nat} (hy : tl y = [c]) (hc : c < 256) : (Txt.split z y).map tl = spl [c] 0 [] (tl z) := by
  rw [split_spl z y (by rw [hy]; simp) (kind_ok (by
    have : y = ⟨#[c]⟩ := ext_tl hy
    subst this
    simpa using hc)), hy]
theorem words_tl (z y : Str) (hy : tl y = [32]) : ((Txt.split z y).filter fun w => w.length != 0).map tl = wordsL (tl z) := by
  unfold wordsL
  rw [← split_tl z y hy (by decide), List.filter_map]
  congr 1
  refine List.filter_congr fun w _ => ?_
  show (w.length != 0) = !(tl w).isEmpty
  rw [len_tl]
  cases tl w <;> rfl
theorem spl_lines {parts : List (List Nat)} (hne : parts ≠ []) (h : ∀ p ∈ parts, 10 ∉ p) : spl [10] 0 [] (joinL [10] parts) = parts := spl_join (s := 10) (S := []) hne h
theorem joinL_end : ∀ ps : List (List Nat), (ps.map (fun w => w ++ [10])).flatten = joinL [10] (ps ++ [[]])
  | [] => rfl
  | [p] => by simp [joinL]
  | p :: q :: r => by
    have ih := joinL_end (q :: r)
    rw [List.map_cons, List.flatten_cons, ih]
    show p ++ [10] ++ joinL [10] ((q :: r) ++ [[]]) = p ++ ([10] ++ joinL [10] ((q :: r) ++ [[]]))
    rw [List.append_assoc]
theorem hallW_ok (p : Int) : ∀ w ∈ hallW p, 32 ∉ w ∧ w ≠ [] ∧ 10 ∉ w := by
  intro w hw
  simp only [hallW, List.mem_cons, List.not_mem_nil, or_false] at hw
  rcases hw with rfl | rfl
  · decide
  · exact ⟨numL_free (by decide), numL_ne _, numL_free (by decide)⟩
theorem linkW_ok (r : Int × Int × Int) : ∀ w ∈ linkW r, 32 ∉ w ∧ w ≠ [] ∧ 10 ∉ w := by
  intro w hw
  simp only [linkW, List.mem_cons, List.not_mem_nil, or_false] at hw
  rcases hw with rfl | rfl | rfl | rfl
  · decide
  all_goals exact ⟨numL_free (by decide), numL_ne _, numL_free (by decide)⟩
theorem rowW_ok {ps : List Int} {rs : List (Int × Int × Int)} {ws : List (List Nat)} (h : ws ∈ ps.map hallW ++ rs.map linkW) : (∀ w ∈ ws, 32 ∉ w ∧ w ≠ [] ∧ 10 ∉ w) ∧ ws ≠ [] := by
  rcases List.mem_append.mp h with h | h
  · obtain ⟨p, _, rfl⟩ := List.mem_map.mp h
    exact ⟨hallW_ok p, by simp [hallW]⟩
  · obtain ⟨r, _, rfl⟩ := List.mem_map.mp h
    exact ⟨linkW_ok r, by simp [linkW]⟩
theorem joinL_free {c : Nat} (hc : c ≠ 32) : ∀ {ws : List (List Nat)}, (∀ w ∈ ws, c ∉ w) → c ∉ joinL [32] ws
  | [], _ => by simp [joinL]
  | [w], h => h w (List.mem_singleton.mpr rfl)
  | w :: v :: r, h => by
    show c ∉ w ++ ([32] ++ joinL [32] (v :: r))
    have ih := joinL_free hc fun z hz => h z (List.mem_cons_of_mem w hz)
    simp only [List.mem_append, List.mem_singleton, not_or]
    exact ⟨h w (List.mem_cons_self ..), hc, ih⟩
/-- lines whose words are W -/
theorem linesL_of {parts : List (List Nat)} {W : List (List (List Nat))} (hne : parts ≠ []) (h : ∀ p ∈ parts, 10 ∉ p) (hw : (parts.map wordsL).filter (fun w => !w.isEmpty) = W) : linesL (joinL [10] parts) = W := by
  unfold linesL
  rw [spl_lines hne h, hw]
theorem rows_words {W : List (List (List Nat))} (h : ∀ ws ∈ W, (∀ w ∈ ws, 32 ∉ w ∧ w ≠ [] ∧ 10 ∉ w) ∧ ws ≠ []) : ((W.map (joinL [32])).map wordsL).filter (fun w => !w.isEmpty) = W := by
  rw [List.map_map]
  have e : W.map (wordsL ∘ joinL [32]) = W := by
    refine (List.map_congr_left (g := id) fun ws hws => ?_).trans (List.map_id _)
    exact wordsL_join fun w hw => ⟨((h ws hws).1 w hw).1, ((h ws hws).1 w hw).2.1⟩
  rw [e]
  exact List.filter_eq_self.mpr fun ws hws => by
    have := (h ws hws).2
    cases ws
    · exact absurd rfl this
    · rfl
end MyG
namespace MyG
open PySem TL
theorem pre1 (c d : Nat) (r : List Nat) : pre [c] (d :: r) = (d == c) := by
  unfold pre
  simp only [List.length_singleton, List.take_succ_cons, List.take_zero]
  by_cases h : d = c
  · subst h; simp
  · have e : (d == c) = false := by simpa using h
    rw [e]
    simp [h]
theorem spl_many (c : Nat) : ∀ (l acc : List Nat), (spl [c] 0 acc l).length ≤ l.length + 1
  | [], acc => by rw [spl_nil]; exact Nat.le_refl _
  | d :: r, acc => by
    cases h : pre [c] (d :: r) with
    | true =>
      rw [spl_hit h]
      have := spl_many c r []
      show (spl [c] 0 [] r).length + 1 ≤ r.length + 1 + 1
      omega
    | false =>
      rw [spl_miss h, List.length_cons]
      have := spl_many c r (acc ++ [d])
      omega
theorem spl_short (c : Nat) : ∀ (l acc : List Nat), ∀ p ∈ spl [c] 0 acc l, p.length ≤ acc.length + l.length
  | [], acc => by
    rw [spl_nil]
    intro p hp
    rw [List.mem_singleton.mp hp]
    exact Nat.le_refl _
  | d :: r, acc => by
    intro p hp
    cases h : pre [c] (d :: r) with
    | true =>
      rw [spl_hit h] at hp
      rw [List.length_cons]
      rcases List.mem_cons.mp hp with rfl | hp
      · omega
      · have := spl_short c r [] p hp
        rw [List.length_nil] at this
        omega
    | false =>
      rw [spl_miss h] at hp
      have := spl_short c r (acc ++ [d]) p hp
      rw [List.length_append, List.length_singleton] at this
      rw [List.length_cons]
      omega
theorem split_bounds (z y : Str) {c : Nat} (hy : tl y = [c]) (hc : c < 256) : (Txt.split z y).length ≤ z.length + 1 ∧ ∀ w ∈ Txt.split z y, w.length ≤ z.length := by
  have e := split_tl z y hy hc
  refine ⟨?_, fun w hw => ?_⟩
  · have := spl_many c (tl z) []
    rw [← e, List.length_map] at this
    rw [len_tl z]
    exact this
  · have := spl_short c (tl z) [] (tl w) (by rw [← e]; exact List.mem_map_of_mem hw)
    rw [len_tl w, len_tl z]
    simpa using this
end MyG
namespace MyG
open PySem PySem.Spec PyProof.Rows L2 Evl
theorem given_all' (ys : List V) : given ys.length (fun _ => true) (fun i => ys.getD i .non) = ys := by
  unfold given
  rw [List.filter_eq_self.mpr (fun _ _ => rfl)]
  refine List.ext_getElem (by simp) (fun i h1 h2 => ?_)
  rw [List.getElem_map, List.getElem_range, List.getD_eq_getElem?_getD, List.getElem?_eq_getElem h2]
  rfl
theorem el_mapN {K : PySem.W.Frag} {σ : L2.St} {H : Hp} {te : TE} {xs ys : List V} {tl : TE} {j : Nat} {vs : List Nat} (h : EvL tl σ H xs) (hz : xs.length ≤ 40000) (hl : ys.length = xs.length)
    (hw : ∀ x, wipe ((wipe σ vs).set j (some x)) vs = wipe σ vs) (he : ∀ (i : Nat) (x y : V) H1, Ex H H1 → xs[i]? = some x → ys[i]? = some y → Ev te ((wipe σ vs).set j (some x)) H1 y) : EvL (tLc (iList K tl) (gName j) tYes te vs) σ H ys := by
  have k := el_lcNL (K := K) (t := tYes) (te := te) (fun _ => true) (fun i => ys.getD i .non) h hz hw (fun i x H1 e hi => fun H1 _ _ q => q H1 (Ex.refl H1)) (fun i x H1 e hi _ => by
    have h1 := (List.getElem?_eq_some_iff.mp hi).1
    have h2 : i < ys.length := by omega
    rw [show ys.getD i .non = ys[i] by rw [List.getD_eq_getElem?_getD, List.getElem?_eq_getElem h2]; rfl]
    exact he i x _ H1 e hi (List.getElem?_eq_getElem h2))
  rw [← hl, given_all'] at k
  exact k
end MyG
namespace MyG
open PySem PySem.Spec PyProof.Rows L2 Evl TL
def numS (i : Int) : Str := Str.ofString (toString i)
theorem tl_numS {i : Int} (h : 0 ≤ i) : tl (numS i) = numL i.toNat := by
  obtain ⟨n, rfl⟩ : ∃ n : Nat, i = (n : Int) := ⟨i.toNat, by omega⟩
  exact tl_num n
theorem numS_len {i : Int} (h : 0 ≤ i) (h2 : i < 10000) : (numS i).length ≤ 4 := by
  rw [len_tl, tl_numS h]
  exact numL_len (k := 4) (by decide) (by omega)
theorem log_small {i : Int} (h : 0 ≤ i) (h2 : i < 10000) : i.natAbs.log2 < 1920 := by
  by_cases z : i.natAbs = 0
  · rw [z]; decide
  · exact (Nat.log2_lt z).mpr (Nat.lt_of_lt_of_le (show i.natAbs < 10000 by omega) (by decide +kernel))
/-- f"hall {p}\n", f"link {..} {..} {..}\n" -/
def hallF (p : Int) : Str := Str.empty ++ "hall " ++ numS p ++ "\n"
def linkF (r : Int × Int × Int) : Str := Str.empty ++ "link " ++ numS r.1 ++ " " ++ numS r.2.1 ++ " " ++ numS r.2.2 ++ "\n"
/-- "hall " + str(p), " ".join(["link", ..]) -/
def hallR (p : Int) : Str := "hall " ++ numS p
def linkR (r : Int × Int × Int) : Str := Txt.join " " ["link", numS r.1, numS r.2.1, numS r.2.2]
theorem tl_h : tl ("hall " : Str) = [104, 97, 108, 108, 32] := by decide +kernel
theorem tl_l : tl ("link " : Str) = [108, 105, 110, 107, 32] := by decide +kernel
theorem tl_lk : tl ("link" : Str) = [108, 105, 110, 107] := by decide +kernel
theorem tl_b : tl (" " : Str) = [32] := by decide +kernel
theorem tl_n : tl ("\n" : Str) = [10] := by decide +kernel
theorem tl_e : tl Str.empty = [] := rfl
theorem tl_hallF {p : Int} (h : 0 ≤ p) : tl (hallF p) = joinL [32] (hallW p) ++ [10] := by
  unfold hallF
  rw [tl_append, tl_append, tl_append, tl_e, tl_h, tl_n, tl_numS h]
  rfl
theorem tl_hallR {p : Int} (h : 0 ≤ p) : tl (hallR p) = joinL [32] (hallW p) := by
  unfold hallR
  rw [tl_append, tl_h, tl_numS h]
  rfl
theorem tl_linkF {r : Int × Int × Int} (h1 : 0 ≤ r.1) (h2 : 0 ≤ r.2.1) (h3 : 0 ≤ r.2.2) : tl (linkF r) = joinL [32] (linkW r) ++ [10] := by
  unfold linkF
  rw [tl_append, tl_append, tl_append, tl_append, tl_append, tl_append, tl_append, tl_e, tl_l, tl_n, tl_b, tl_numS h1, tl_numS h2, tl_numS h3]
  simp [linkW, joinL]
theorem tl_linkR {r : Int × Int × Int} (h1 : 0 ≤ r.1) (h2 : 0 ≤ r.2.1) (h3 : 0 ≤ r.2.2) : tl (linkR r) = joinL [32] (linkW r) := by
  unfold linkR
  rw [join_eq, tl_join, tl_b]
  simp only [List.map_cons, List.map_nil, tl_lk, tl_numS h1, tl_numS h2, tl_numS h3]
  rfl
theorem joinL_nil : ∀ ps : List (List Nat), joinL [] ps = ps.flatten
  | [] => rfl
  | [p] => by simp [joinL]
  | p :: q :: r => by
    show p ++ ([] ++ joinL [] (q :: r)) = _
    rw [joinL_nil (q :: r), List.nil_append]
    rfl
theorem sum_bound {N : Nat} : ∀ {ys : List Str}, (∀ y ∈ ys, y.length ≤ N) → (ys.map (·.length)).sum ≤ N * ys.length
  | [], _ => Nat.zero_le _
  | y :: r, h => by
    have a := h y (List.mem_cons_self ..)
    have b := sum_bound fun z hz => h z (List.mem_cons_of_mem y hz)
    rw [List.map_cons, List.sum_cons, List.length_cons, Nat.mul_add, Nat.mul_one]
    omega
theorem app_len (x y : Str) : (x ++ y).length = x.length + y.length := by
  rw [len_tl, tl_append, List.length_append, ← len_tl, ← len_tl]
theorem len_lits : ("hall " : Str).length = 5 ∧ ("link " : Str).length = 5 ∧ ("link" : Str).length = 4 ∧ (" " : Str).length = 1 ∧ ("\n" : Str).length = 1 ∧ Str.empty.length = 0 := by decide +kernel
end MyG
namespace MyG
open PySem PySem.Spec PyProof.Rows L2 Evl TL
theorem str_ok {x : Str} (hc : ∀ c ∈ tl x, c < 128) : (PyData.str x).canLay0 = true := by
  simp only [PyData.canLay0]
  unfold PyData.strOk
  rw [Array.all_eq_true_iff_forall_mem]
  intro c h
  exact decide_eq_true (Nat.lt_trans (hc c (Array.mem_toList_iff.mpr h)) (by decide))
theorem small_str {x : Str} {N : Nat} (hl : x.length ≤ N) (hc : ∀ c ∈ tl x, c < 128) : Small (.str x) 0 (10 * N + 2) := by
  refine ⟨rfl, rfl, Nat.le_refl _, ?_, str_ok hc⟩
  have h := PySem.StrLaws.reprText_len x fun c hc' => Nat.lt_trans (hc c hc') (by decide)
  simp only [PyData.shown]
  omega
theorem joinL_small {N : Nat} (hN : 32 < N) : ∀ {ws : List (List Nat)}, (∀ w ∈ ws, ∀ c ∈ w, c < N) → ∀ c ∈ joinL [32] ws, c < N
  | [], _, c, hc => by simp [joinL] at hc
  | [w], h, c, hc => h w (List.mem_singleton.mpr rfl) c hc
  | w :: v :: r, h, c, hc => by
    have hc' : c ∈ w ++ ([32] ++ joinL [32] (v :: r)) := hc
    rcases List.mem_append.mp hc' with k | k
    · exact h w (List.mem_cons_self ..) c k
    · rcases List.mem_append.mp k with k | k
      · rw [List.mem_singleton.mp k]; exact hN
      · exact joinL_small hN (fun z hz => h z (List.mem_cons_of_mem w hz)) c k
theorem rowW_small {ps : List Int} {rs : List (Int × Int × Int)} {ws : List (List Nat)} (h : ws ∈ ps.map hallW ++ rs.map linkW) : ∀ w ∈ ws, ∀ c ∈ w, c < 128 := by
  have num : ∀ n : Nat, ∀ c ∈ numL n, c < 128 := fun n c hc => by
    have := numL_digits n c hc
    omega
  rcases List.mem_append.mp h with h | h
  · obtain ⟨p, _, rfl⟩ := List.mem_map.mp h
    intro w hw
    simp only [hallW, List.mem_cons, List.not_mem_nil, or_false] at hw
    rcases hw with rfl | rfl
    · decide
    · exact num _
  · obtain ⟨r, _, rfl⟩ := List.mem_map.mp h
    intro w hw
    simp only [linkW, List.mem_cons, List.not_mem_nil, or_false] at hw
    rcases hw with rfl | rfl | rfl | rfl
    · decide
    · exact num _
    · exact num _
    · exact num _
theorem written_small {ps : List Int} {rs : List (Int × Int × Int)} : ∀ c ∈ writtenL ps rs, c < 128 := by
  intro c hc
  unfold writtenL at hc
  obtain ⟨l, hl, hc⟩ := List.mem_flatten.mp hc
  obtain ⟨ws, hws, rfl⟩ := List.mem_map.mp hl
  rcases List.mem_append.mp hc with hc | hc
  · exact joinL_small (by decide) (rowW_small hws) c hc
  · rw [List.mem_singleton.mp hc]; decide
/-- a comprehension over a known list that gives each thing as it is -/
theorem el_mapN' {K : PySem.W.Frag} {σ : L2.St} {H : Hp} {te : TE} {a : Addr} {xs : List V} {tl : TE} {j : Nat} {vs : List Nat} (h : Ev tl σ H (.ref a)) (hx : H a = some (.lst xs)) (hz : xs.length ≤ 40000)
    (hw : ∀ x, wipe ((wipe σ vs).set j (some x)) vs = wipe σ vs) (he : ∀ (i : Nat) (x : V) H1, Ex H H1 → xs[i]? = some x → Ev te ((wipe σ vs).set j (some x)) H1 x) : EvL (tLc (iList K tl) (gName j) tYes te vs) σ H xs := by
  have k := el_lcL (K := K) (t := tYes) (te := te) (fun _ => true) (fun i => xs.getD i .non) h (SqL.of hx) hz hw (fun i x H1 e hi => fun H1 _ _ q => q H1 (Ex.refl H1)) (fun i x H1 e hi _ => by
    rw [show xs.getD i .non = x by rw [List.getD_eq_getElem?_getD, hi]; rfl]
    exact he i x H1 e hi)
  rw [given_all'] at k
  exact k
/-- and over a known tuple -/
theorem el_mapTN' {K : PySem.W.Frag} {σ : L2.St} {H : Hp} {te : TE} {a : Addr} {xs : List V} {tl : TE} {j : Nat} {vs : List Nat} (h : Ev tl σ H (.ref a)) (hx : SqT K H a xs) (hz : xs.length ≤ 40000)
    (hw : ∀ x, wipe ((wipe σ vs).set j (some x)) vs = wipe σ vs) (he : ∀ (i : Nat) (x : V) H1, Ex H H1 → xs[i]? = some x → Ev te ((wipe σ vs).set j (some x)) H1 x) : EvL (tLc (iTup K tl) (gName j) tYes te vs) σ H xs := fun H0 e Q q =>
  h H0 e _ fun H1 e1 => ⟨a, rfl, ⟨xs, ex_t (e.trans e1) hx⟩, fun Dl hD => by
    refine lc_tup (xs := xs) (fun i H' => Ex H1 H' ∧ H' Dl = some (.lst (xs.take i))) ⟨Ex.new hD, upd_same⟩ (fun i H' _ p => ex_t ((e.trans e1).trans p.1) hx) (fun i x H' hi p => ⟨hw x, un_yes (iteT ?_)⟩) (fun H' p => q Dl H' (fresh_back e1 hD) (e1.trans p.1) ?_)
    · have h1 := (List.getElem?_eq_some_iff.mp hi).1
      refine he i x H' ((e.trans e1).trans p.1) hi H' (Ex.refl _) _ (fun H2 e2 => ⟨_, e2 _ _ p.2, ?_, (p.1.trans e2).mut hD, ?_⟩)
      · rw [List.length_take]; exact sz_lt (by omega)
      · rw [upd_same, List.take_add_one, hi]; rfl
    · rw [p.2, List.take_length]⟩
end MyG

set_option maxHeartbeats 2000000
/-! a list, tuple or dict is in no tuple of texts -/
namespace MyG
open PySem PySem.SeqAt
theorem str_eq_declines_dict (b : Str) (u : Tok) (l : Addr) (c : Value) (es : Array DictEntry) (ep : Nat) (dd : Option Addr) (sl : Array (Option Value)) :
    Meets (Builtin.«str.__eq__» ⟨[.str b u, .ref l], []⟩) (fun _ R s => s.heap.get? l = some { cls := c, dict := dd, data := .dict es ep, slots := sl } ∧ R (.ok (.ret .notImplemented)) s) :=
  .of_wp fun prog w A R s h => by obtain ⟨hp, g, d, tk, os⟩ := s; obtain ⟨hl, h⟩ := h; wp_walk using wpAny_loadPart' hl, wpAny_load hl; exact ⟨_, rfl, h⟩
theorem dict_eq_declines_str (l : Addr) (es : Array DictEntry) (ep : Nat) (dd : Option Addr) (sl : Array (Option Value)) (b : Str) (u : Tok) :
    Meets (Builtin.«dict.__eq__» ⟨[.ref l, .str b u], []⟩) (fun _ R s => s.heap.get? l = some { cls := .type "dict", dict := dd, data := .dict es ep, slots := sl } ∧ R (.ok (.ret .notImplemented)) s) :=
  .of_wp fun prog w A R s h => by obtain ⟨hp, g, d, tk, os⟩ := s; obtain ⟨hl, h⟩ := h; have f1 := F.sub_str_dict; wp_walk using wpAny_loadPart' hl; exact ⟨_, rfl, h⟩
end MyG
namespace MyG
open PySem PySem.Spec PyProof.Rows L2
section
variable {A : Around} {s : Shared}
theorem RcAt.str_dict {l : Addr} {es : Array DictEntry} {ep : Nat} {dd : Option Addr} {sl : Array (Option Value)} (b : Str) (u : Tok) (ho : s.heap.get? l = some { cls := .type "dict", dict := dd, data := .dict es ep, slots := sl }) (hu : A.units < cLine) : SeqAt.RcAt A s (.str b u) (.ref l) false := fun prog w E Q h =>
  SeqAt.rc_eq_decline_or (k := false) (typeIs_str s b u) ⟨_, ho, rfl⟩ (by decide) F.sub_dict_str F.slot_str_eq F.slot_dict_eq_refl
    (fun _ hq => call_meets F.slot_str_eq (typeIs_str s b u) F.entry_str_eq (F.args_str_eq_2 _ _) (str_eq_declines_dict b u l (.type "dict") es ep dd sl) ⟨ho, hq⟩)
    (fun _ hq => call_meets F.slot_dict_eq_refl ⟨_, ho, rfl⟩ F.entry_dict_eq (F.args_dict_eq_2 _ _) (dict_eq_declines_str l es ep dd sl b u) ⟨ho, hq⟩)
    (fun _ hq => wpAny_of_eq (rfl : isSame (.str b u) (.ref l) = pure false) hq) (.inr hu) h
theorem EqAt.str_dict {l : Addr} {es : Array DictEntry} {ep : Nat} {dd : Option Addr} {sl : Array (Option Value)} (b : Str) (u : Tok) (ho : s.heap.get? l = some { cls := .type "dict", dict := dd, data := .dict es ep, slots := sl }) (hu : A.units < cLine) : SeqAt.EqAt A s (.str b u) (.ref l) false := fun prog w E Q h => by
  unfold eqBool
  refine wpAny_holding ?_
  refine wpAny_ite_split (fun hab => absurd (eq_of_beq hab) nofun) (fun _ => ?_)
  exact wpAny_bind (RcAt.str_dict b u ho hu prog w E _ (wpAny_truthy_bool h))
end
/-- a list, a tuple or a dict -/
def Holds (K : PySem.W.Frag) (H : Hp) (x : V) : Prop := ∃ a, x = .ref a ∧ ((∃ ys, SqL K H a ys) ∨ (∃ ys, SqT K H a ys) ∨ ∃ kvs, H a = some (.dK kvs))
/-- x not in a tuple of texts, x flat, or a list, tuple or dict -/
def rNiA (K : PySem.W.Frag) : R2 := fun x y H Q => rIn K true x y H Q ∨ ∃ (p : Addr) (zs : List Str), y = .ref p ∧ SqT K H p (zs.map V.str) ∧ Holds K H x ∧ Q (.bl true) H
theorem op_niA {X : Cx} {K : PySem.W.Frag} (hK : X.K = K) (hu65 : X.A.units + 64 < cLine) : OpR X (compareOp .NotIn) (rNiA K) := by
  subst hK
  have hu : X.A.in1.units < cLine := Nat.lt_of_le_of_lt (show X.A.units + 1 ≤ X.A.units + 64 by omega) hu65
  intro pins s σ H x y v u Q I rx ry h
  rcases h with h | ⟨p, zs, rfl, hq, ⟨a, rfl, hx⟩, q⟩
  · exact op_notIn_seq pins s σ H x y v u Q I rx ry h
  cases ry
  cases rx
  obtain ⟨its, r, pl, hz⟩ := I.tuple hq
  have allS : ∀ w ∈ its, ∃ b t, w = Value.str b t := by
    have go : ∀ {zs : List Str} {us : List Value}, Vals (zs.map V.str) us → ∀ w ∈ us, ∃ b t, w = Value.str b t := fun {zs} => by
      induction zs with
      | nil => intro us hv; cases hv; intro w hw; cases hw
      | cons z zs ih =>
        intro us hv
        cases hv with
        | cons rz rt =>
          intro w hw
          rcases List.mem_cons.mp hw with rfl | hw
          · obtain ⟨t, rfl⟩ := rz
            exact ⟨z, t, rfl⟩
          · exact ih rt w hw
    exact go r
  have eqs : ∀ w ∈ its, SeqAt.EqAt X.A.in1 s w (.ref a) false := fun w hw => by
    obtain ⟨b, t, rfl⟩ := allS w hw
    rcases hx with ⟨ys, hy⟩ | ⟨ys, hy⟩ | ⟨kvs, hk⟩
    · obtain ⟨_, _, pl', _⟩ := I.list hy
      exact SeqAt.EqAt.str_list b t pl'.isList hu
    · obtain ⟨_, _, pl', _⟩ := I.tuple hy
      exact SeqAt.EqAt.str_tuple b t pl' hu
    · obtain ⟨_, _, _, _, ⟨cls, dd, data, sl⟩, es, ep, ho, ⟨hc, _, _⟩, hd, _⟩ := dk_of I.hok hk
      simp only at hc hd
      subst hc hd
      exact EqAt.str_dict b t ho hu
  refine SeqAt.notIn_tupleAt (fun _ => false) pl (fun w hw => eqs w (by simpa using hw)) ⟨.bl true, H, I, (by show Value.bool _ = _; simp), q⟩
end MyG

set_option maxHeartbeats 2000000
namespace K37
open PySem PySem.Spec PyProof.Rows L2 Evl MyG
def perm_1_0 {α : Type} : List α → List α
  | [x, y] => [y, x]
  | l => l
theorem perm_rel_1_0 {vs : List V} {us : List Value} {zs : List V} {ws : List Value} (h : Vals vs us) (k : Vals zs ws) : Vals (vs ++ perm_1_0 zs) (us ++ perm_1_0 ws) := by
  refine h.append ?_
  match zs, ws, k with
  | [], _, .nil => exact .nil
  | [x], _, .cons r .nil => exact .cons r .nil
  | [x, y], _, .cons r (.cons q .nil) => exact .cons q (.cons r .nil)
  | x :: y :: z :: t, _, .cons r (.cons q (.cons p l)) => exact .cons r (.cons q (.cons p l))
def top (i : Nat) : Stmt := PySem.Challenge.pw_ringless_k37_rings_told.main.body.getD i (.Pass ⟨0, 0, 0, 0⟩)
abbrev s_l_begun : Stmt := (top 23)
abbrev n_l_begun : List Str := ["_law_script", "_law_cell"]
theorem sc_l_begun : FnScope ["_law_script", "_law_cell"] ["_law_script"] (defScope s_l_begun) := ⟨rfl, rfl, rfl, by decide +kernel, rfl, by decide +kernel, by decide +kernel⟩
abbrev s_l_draw : Stmt := (top 24)
abbrev n_l_draw : List Str := ["_law_draws", "_law_many", "_law_cells", "_law_at", "_law_cell"]
theorem sc_l_draw : FnScope ["_law_draws", "_law_many", "_law_cells", "_law_at", "_law_cell"] ["_law_draws", "_law_many"] (defScope s_l_draw) := ⟨rfl, rfl, rfl, by decide +kernel, rfl, by decide +kernel, by decide +kernel⟩
abbrev s_l_pick : Stmt := (top 25)
abbrev n_l_pick : List Str := ["_law_draws", "_law_some_here"]
theorem sc_l_pick : FnScope ["_law_draws", "_law_some_here"] ["_law_draws", "_law_some_here"] (defScope s_l_pick) := ⟨rfl, rfl, rfl, by decide +kernel, rfl, by decide +kernel, by decide +kernel⟩
abbrev s_l_town : Stmt := (top 26)
abbrev n_l_town : List Str := ["_law_draws", "_law_least", "_law_many", "_law_way", "_law_halls", "_law_k", "_law_hall", "_law_one", "_law_chain", "_law_few", "_law_other"]
theorem sc_l_town : FnScope ["_law_draws", "_law_least", "_law_many", "_law_way", "_law_halls", "_law_k", "_law_hall", "_law_one", "_law_chain", "_law_few", "_law_other"] ["_law_draws", "_law_least"] (defScope s_l_town) := ⟨rfl, rfl, rfl, by decide +kernel, rfl, by decide +kernel, by decide +kernel⟩
abbrev s_l_parts : Stmt := (top 27)
abbrev n_l_parts : List Str := ["_law_chain", "_law_some_here", "_law_part", "_law_again", "_law_k", "_law_one", "_law_other", "_law_cost", "_law_first", "_law_second", "_law_hall"]
theorem sc_l_parts : FnScope ["_law_chain", "_law_some_here", "_law_part", "_law_again", "_law_k", "_law_one", "_law_other", "_law_cost", "_law_first", "_law_second", "_law_hall"] ["_law_chain", "_law_some_here"] (defScope s_l_parts) := ⟨rfl, rfl, rfl, by decide +kernel, rfl, by decide +kernel, by decide +kernel⟩
abbrev s_l_ways : Stmt := (top 28)
abbrev n_l_ways : List Str := ["_law_chain", "_law_some_here", "_law_here", "_law_goal", "_law_met", "_law_found", "_law_k", "_law_one", "_law_other", "_law_cost", "_law_there", "_law_rest"]
theorem sc_l_ways : FnScope ["_law_chain", "_law_some_here", "_law_here", "_law_goal", "_law_met", "_law_found", "_law_k", "_law_one", "_law_other", "_law_cost", "_law_there", "_law_rest"] ["_law_chain", "_law_some_here", "_law_here", "_law_goal", "_law_met"] (defScope s_l_ways) := ⟨rfl, rfl, rfl, by decide +kernel, rfl, by decide +kernel, by decide +kernel⟩
abbrev s_l_ring : Stmt := (top 29)
abbrev n_l_ring : List Str := ["_law_chain", "_law_some_here", "_law_found", "_law_k", "_law_one", "_law_other", "_law_cost", "_law_way", "_law_link"]
theorem sc_l_ring : FnScope ["_law_chain", "_law_some_here", "_law_found", "_law_k", "_law_one", "_law_other", "_law_cost", "_law_way", "_law_link"] ["_law_chain", "_law_some_here"] (defScope s_l_ring) := ⟨rfl, rfl, rfl, by decide +kernel, rfl, by decide +kernel, by decide +kernel⟩
abbrev s_l_some : Stmt := (top 30)
abbrev n_l_some : List Str := ["_law_draws", "_law_chain", "_law_left", "_law_found", "_law_k"]
theorem sc_l_some : FnScope ["_law_draws", "_law_chain", "_law_left", "_law_found", "_law_k"] ["_law_draws", "_law_chain"] (defScope s_l_some) := ⟨rfl, rfl, rfl, by decide +kernel, rfl, by decide +kernel, by decide +kernel⟩
abbrev s_l_right : Stmt := (top 31)
abbrev n_l_right : List Str := ["_law_town_here", "_law_house", "_law_some_here", "_law_chain", "_law_handed", "_law_wanted", "_law_found", "_law_k"]
theorem sc_l_right : FnScope ["_law_town_here", "_law_house", "_law_some_here", "_law_chain", "_law_handed", "_law_wanted", "_law_found", "_law_k"] ["_law_town_here", "_law_house", "_law_some_here"] (defScope s_l_right) := ⟨rfl, rfl, rfl, by decide +kernel, rfl, by decide +kernel, by decide +kernel⟩
abbrev s_is_number : Stmt := (top 13)
abbrev n_is_number : List Str := ["thing"]
theorem sc_is_number : FnScope ["thing"] ["thing"] (defScope s_is_number) := ⟨rfl, rfl, rfl, by decide +kernel, rfl, by decide +kernel, by decide +kernel⟩
abbrev s__are_halls : Stmt := (top 14)
abbrev n__are_halls : List Str := ["things", "thing"]
theorem sc__are_halls : FnScope ["things", "thing"] ["things"] (defScope s__are_halls) := ⟨rfl, rfl, rfl, by decide +kernel, rfl, by decide +kernel, by decide +kernel⟩
abbrev s__is_link : Stmt := (top 15)
abbrev n__is_link : List Str := ["thing", "halls", "one", "other", "cost", "part"]
theorem sc__is_link : FnScope ["thing", "halls", "one", "other", "cost", "part"] ["thing", "halls"] (defScope s__is_link) := ⟨rfl, rfl, rfl, by decide +kernel, rfl, by decide +kernel, by decide +kernel⟩
abbrev s__are_links : Stmt := (top 16)
abbrev n__are_links : List Str := ["things", "halls", "thing"]
theorem sc__are_links : FnScope ["things", "halls", "thing"] ["things", "halls"] (defScope s__are_links) := ⟨rfl, rfl, rfl, by decide +kernel, rfl, by decide +kernel, by decide +kernel⟩
abbrev s_Net___init__ : Stmt := (inClass (top 17) 0)
abbrev n_Net___init__ : List Str := ["self", "halls", "links"]
theorem sc_Net___init__ : FnScope ["self", "halls", "links"] ["self", "halls", "links"] (defScope s_Net___init__) := ⟨rfl, rfl, rfl, by decide +kernel, rfl, by decide +kernel, by decide +kernel⟩
abbrev s_Net_ends : Stmt := (inClass (top 17) 8)
abbrev n_Net_ends : List Str := ["self", "link", "one", "other", "_"]
theorem sc_Net_ends : FnScope ["self", "link", "one", "other", "_"] ["self", "link"] (defScope s_Net_ends) := ⟨rfl, rfl, rfl, by decide +kernel, rfl, by decide +kernel, by decide +kernel⟩
abbrev s_Net__link : Stmt := (inClass (top 17) 10)
abbrev n_Net__link : List Str := ["self", "link"]
theorem sc_Net__link : FnScope ["self", "link"] ["self", "link"] (defScope s_Net__link) := ⟨rfl, rfl, rfl, by decide +kernel, rfl, by decide +kernel, by decide +kernel⟩
abbrev s_ring : Stmt := (top 19)
abbrev n_ring : List Str := ["net", "links", "rising", "many", "rings", "some"]
theorem sc_ring : FnScope ["net", "links", "rising", "many", "rings", "some"] ["net", "links"] (defScope s_ring) := ⟨rfl, rfl, rfl, by decide +kernel, rfl, by decide +kernel, by decide +kernel⟩
abbrev s__closes : Stmt := (top 20)
abbrev n__closes : List Str := ["net", "links", "link", "hall"]
theorem sc__closes : FnScope ["net", "links", "link", "hall"] ["net", "links"] (defScope s__closes) := ⟨rfl, rfl, rfl, by decide +kernel, rfl, by decide +kernel, by decide +kernel⟩
abbrev s__at : Stmt := (top 21)
abbrev n__at : List Str := ["net", "links", "hall", "link"]
theorem sc__at : FnScope ["net", "links", "hall", "link"] ["net", "links", "hall"] (defScope s__at) := ⟨rfl, rfl, rfl, by decide +kernel, rfl, by decide +kernel, by decide +kernel⟩
abbrev s_law : Stmt := (top 32)
abbrev n_law : List Str := ["_law_script", "_law_draws", "_law_towns", "_law_houses", "_law_which", "_law_turn", "_law_town_here"]
theorem sc_law : FnScope ["_law_script", "_law_draws", "_law_towns", "_law_houses", "_law_which", "_law_turn", "_law_town_here"] ["_law_script"] (defScope s_law) := ⟨rfl, rfl, rfl, by decide +kernel, rfl, by decide +kernel, by decide +kernel⟩
structure Tx (K : PySem.W.Frag) (mg : Str → Option Value) where
  c_Net : Addr
  g_Net : mg "Net" = some (.ref c_Net)
  cl_Net : Cls K c_Net
  a_l_begun : Addr
  d_l_begun : FuncData
  F_l_begun : Fun K "_law_begun" "_law_begun" s_l_begun a_l_begun d_l_begun
  b_l_begun : Binds K d_l_begun ["_law_script"] []
  g_l_begun : mg "_law_begun" = some (.ref a_l_begun)
  a_l_draw : Addr
  d_l_draw : FuncData
  F_l_draw : Fun K "_law_draw" "_law_draw" s_l_draw a_l_draw d_l_draw
  b_l_draw : Binds K d_l_draw ["_law_draws", "_law_many"] []
  g_l_draw : mg "_law_draw" = some (.ref a_l_draw)
  a_l_pick : Addr
  d_l_pick : FuncData
  F_l_pick : Fun K "_law_pick" "_law_pick" s_l_pick a_l_pick d_l_pick
  b_l_pick : Binds K d_l_pick ["_law_draws", "_law_some_here"] []
  g_l_pick : mg "_law_pick" = some (.ref a_l_pick)
  a_l_town : Addr
  d_l_town : FuncData
  F_l_town : Fun K "_law_town" "_law_town" s_l_town a_l_town d_l_town
  b_l_town : Binds K d_l_town ["_law_draws", "_law_least"] []
  g_l_town : mg "_law_town" = some (.ref a_l_town)
  a_l_parts : Addr
  d_l_parts : FuncData
  F_l_parts : Fun K "_law_parts" "_law_parts" s_l_parts a_l_parts d_l_parts
  b_l_parts : Binds K d_l_parts ["_law_chain", "_law_some_here"] []
  g_l_parts : mg "_law_parts" = some (.ref a_l_parts)
  a_l_ways : Addr
  d_l_ways : FuncData
  F_l_ways : Fun K "_law_ways" "_law_ways" s_l_ways a_l_ways d_l_ways
  b_l_ways : Binds K d_l_ways ["_law_chain", "_law_some_here", "_law_here", "_law_goal", "_law_met"] []
  g_l_ways : mg "_law_ways" = some (.ref a_l_ways)
  a_l_ring : Addr
  d_l_ring : FuncData
  F_l_ring : Fun K "_law_ring" "_law_ring" s_l_ring a_l_ring d_l_ring
  b_l_ring : Binds K d_l_ring ["_law_chain", "_law_some_here"] []
  g_l_ring : mg "_law_ring" = some (.ref a_l_ring)
  a_l_some : Addr
  d_l_some : FuncData
  F_l_some : Fun K "_law_some" "_law_some" s_l_some a_l_some d_l_some
  b_l_some : Binds K d_l_some ["_law_draws", "_law_chain"] []
  g_l_some : mg "_law_some" = some (.ref a_l_some)
  a_l_right : Addr
  d_l_right : FuncData
  F_l_right : Fun K "_law_right" "_law_right" s_l_right a_l_right d_l_right
  b_l_right : Binds K d_l_right ["_law_town_here", "_law_house", "_law_some_here"] []
  g_l_right : mg "_law_right" = some (.ref a_l_right)
  a_is_number : Addr
  d_is_number : FuncData
  F_is_number : Fun K "is_number" "is_number" s_is_number a_is_number d_is_number
  b_is_number : Binds K d_is_number ["thing"] []
  g_is_number : mg "is_number" = some (.ref a_is_number)
  a__are_halls : Addr
  d__are_halls : FuncData
  F__are_halls : Fun K "_are_halls" "_are_halls" s__are_halls a__are_halls d__are_halls
  b__are_halls : Binds K d__are_halls ["things"] []
  g__are_halls : mg "_are_halls" = some (.ref a__are_halls)
  a__is_link : Addr
  d__is_link : FuncData
  F__is_link : Fun K "_is_link" "_is_link" s__is_link a__is_link d__is_link
  b__is_link : Binds K d__is_link ["thing", "halls"] []
  g__is_link : mg "_is_link" = some (.ref a__is_link)
  a__are_links : Addr
  d__are_links : FuncData
  F__are_links : Fun K "_are_links" "_are_links" s__are_links a__are_links d__are_links
  b__are_links : Binds K d__are_links ["things", "halls"] []
  g__are_links : mg "_are_links" = some (.ref a__are_links)
  a_Net___init__ : Addr
  d_Net___init__ : FuncData
  F_Net___init__ : Fun K "__init__" "Net.__init__" s_Net___init__ a_Net___init__ d_Net___init__
  b_Net___init__ : Binds K d_Net___init__ ["self", "halls", "links"] []
  m_Net : Mk K c_Net a_Net___init__
  a_Net_ends : Addr
  d_Net_ends : FuncData
  F_Net_ends : Fun K "ends" "Net.ends" s_Net_ends a_Net_ends d_Net_ends
  b_Net_ends : Binds K d_Net_ends ["self", "link"] []
  me_Net_ends : Meth K c_Net "ends" a_Net_ends
  a_Net__link : Addr
  d_Net__link : FuncData
  F_Net__link : Fun K "_link" "Net._link" s_Net__link a_Net__link d_Net__link
  b_Net__link : Binds K d_Net__link ["self", "link"] []
  me_Net__link : Meth K c_Net "_link" a_Net__link
  a_ring : Addr
  d_ring : FuncData
  F_ring : Fun K "ring" "ring" s_ring a_ring d_ring
  b_ring : Binds K d_ring ["net", "links"] []
  g_ring : mg "ring" = some (.ref a_ring)
  kb_ring_links_net : KBn K d_ring ["net", "links"] 0 ["links", "net"] (fun us ws => us ++ perm_1_0 ws) (fun us ws => us ++ perm_1_0 ws)
  a__closes : Addr
  d__closes : FuncData
  F__closes : Fun K "_closes" "_closes" s__closes a__closes d__closes
  b__closes : Binds K d__closes ["net", "links"] []
  g__closes : mg "_closes" = some (.ref a__closes)
  a__at : Addr
  d__at : FuncData
  F__at : Fun K "_at" "_at" s__at a__at d__at
  b__at : Binds K d__at ["net", "links", "hall"] []
  g__at : mg "_at" = some (.ref a__at)
  a_law : Addr
  d_law : FuncData
  F_law : Fun K "law" "law" s_law a_law d_law
  b_law : Binds K d_law ["_law_script"] []
  g_law : mg "law" = some (.ref a_law)
  n_Net__handed : NoAttr K c_Net "_handed"
  n_Net__rising : NoAttr K c_Net "_rising"
  n_Net__links : NoAttr K c_Net "_links"
  z_abs : mg "abs" = none
  z_len : mg "len" = none
  z_range : mg "range" = none
  z_list : mg "list" = none
  z_sorted : mg "sorted" = none
  z_all : mg "all" = none
  z_isinstance : mg "isinstance" = none
  z_set : mg "set" = none
  z_tuple : mg "tuple" = none
  z_int : mg "int" = none
  z_bool : mg "bool" = none
  z_enumerate : mg "enumerate" = none
  z_min : mg "min" = none
  z_dict : mg "dict" = none
  z_sum : mg "sum" = none
  z_str : mg "str" = none
  t_MOST_HALLS : Tok
  v_MOST_HALLS : mg "MOST_HALLS" = some (.int (8) t_MOST_HALLS)
  t_MOST_LINKS : Tok
  v_MOST_LINKS : mg "MOST_LINKS" = some (.int (12) t_MOST_LINKS)
  t_LAST_HALL : Tok
  v_LAST_HALL : mg "LAST_HALL" = some (.int (999) t_LAST_HALL)
  t_MOST_COST : Tok
  v_MOST_COST : mg "MOST_COST" = some (.int (30) t_MOST_COST)
  v_combinations : mg "combinations" = some (.type "itertools.combinations")
end K37

set_option maxHeartbeats 2000000
namespace K37
open PySem PySem.Spec PyProof.Rows L2 Evl MyG
def sp_state (K : PySem.W.Frag) : Sp := fun vs H Q _ => ∃ (a : Addr) (ns : List Int), vs = [.ref a] ∧ SqL K H a (ns.map V.int) ∧ ns.length ≤ 63 ∧ ∀ s c H', Ex H H' → H s = none → H c = none → Sta s c H' → Q (.ref s) H'
def sp_draw : Sp := fun vs H Q _ => ∃ (s c : Addr) (m : Int), vs = [.ref s, .int m] ∧ Sta s c H ∧ 0 < m ∧ m < 1073741824 ∧ ∀ r H', 0 ≤ r → r < m → Sta s c H' → Off s c H H' → Q (.int r) H'
def sp_pick : Sp := fun vs H Q _ => ∃ (s c p : Addr) (xs : List V), vs = [.ref s, .ref p] ∧ Sta s c H ∧ H p = some (.lst xs) ∧ p ≠ s ∧ p ≠ c ∧ 0 < xs.length ∧ xs.length ≤ 100000 ∧ ∀ (k : Nat) x H', xs[k]? = some x → Sta s c H' → Off s c H H' → Q x H'
section
variable {P : Program} {w : World} {K : PySem.W.Frag} {mg : Str → Option Value} {base : Heap}
theorem ok_draw (T : Tx K mg) : FnOk P w K mg base CX0 1 T.a_l_draw T.d_l_draw ["_law_draws", "_law_many"] sp_draw := by
  refine T.F_l_draw.ok sc_l_draw (fun vs H Q E h => ?_) (fun cdv A outer s H vs Q E hr h => ?_)
  · obtain ⟨_, _, _, rfl, _⟩ := h
    rfl
  · obtain ⟨s, c, m, rfl, hst, hm0, hm1, q⟩ := h
    refine ⟨_, (pss_cons (ps_set (i := 2) sc_l_draw.nd rfl (Or.inl rfl) (pe_ix (ix_listK (K := K) rfl) (pv 0) pe_int (fun _ _ => rfl)))
  (pss_cons (ps_set (i := 3) sc_l_draw.nd rfl (Or.inl rfl) (pe_op op_modN (pe_ix (ix_listK (K := K) rfl) (pv 0) pe_int (fun _ _ => rfl)) (pe_callB (lenK (K := K) rfl) (by rfl) T.z_len (by decide +kernel) (pa_cons (pv 2) pa_nil))))
  (pss_cons (ps_set (i := 4) sc_l_draw.nd rfl (Or.inl rfl) (pe_ix (ix_listK (K := K) rfl) (pv 2) (pv 3) (fun _ _ => rfl)))
  (pss_cons (ps_if (pt_cmpR op_ge (pv 4) pe_int (nomark _)) (pss_cons (ps_asg (pe_op op_fdivN (pv 4) (pv 1)) (pg_sub (pv 2) (pv 3) set_list))
  (pss_one (ps_ret (pe_op op_modN (pv 4) (pv 1))))) pss_nil)
  (pss_cons (ps_asg (pe_op op_add (pe_ix (ix_listK (K := K) rfl) (pv 0) pe_int (fun _ _ => rfl)) pe_int) (pg_sub (pv 0) pe_int set_list))
  (pss_cons (ps_asg (pe_op op_modN (pe_op op_add (pe_op op_add (pe_op op_mul (pe_ix (ix_listK (K := K) rfl) (pv 0) pe_int (fun _ _ => rfl)) pe_int) (pv 4)) pe_int) pe_int) (pg_sub (pv 0) pe_int set_list))
  (pss_one (ps_ret (pe_op op_modN (pe_op op_fdivN (pe_op op_modN (pe_op op_mul (pe_ix (ix_listK (K := K) rfl) (pv 0) pe_int (fun _ _ => rfl)) (pe_ix (ix_listK (K := K) rfl) (pv 0) pe_int (fun _ _ => rfl))) pe_int) pe_int) (pv 1)))))))))), ?_⟩
    obtain ⟨nsc, cells, i, j, hs, hc, hne, hpos, hi, hj0, hj1⟩ := hst
    have hlen : 0 < (cells.length : Int) := by
      have := List.length_pos_iff.mpr hne
      omega
    -- cells = state[0]; at = state[1] % len(cells)
    refine ⟨_, rfl, s, _, 0, _, rfl, rfl, SqL.of hs, atI_nat (j := 0) rfl, _, rfl, s, _, 1, _, rfl, rfl, SqL.of hs, atI_nat (j := 1) rfl, _, rfl, c, _, rfl, .inl (SqL.of hc), _, _, rfl, rfl, ?_, ?_⟩
    · rw [List.length_map]; omega
    rw [List.length_map]
    have hat := fmod_bd (a := i) hlen
    generalize hdef : i.fmod (cells.length : Int) = at_ at hat
    obtain ⟨x, hx, hxa, hxm⟩ := ints_at hat.1 hat.2
    have hx0 := hpos x hxm
    -- cell = cells[at]
    refine ⟨_, rfl, _, rfl, c, _, at_, _, rfl, congrArg V.int hdef, SqL.of hc, hxa, ?_⟩
    -- if cell >= ..
    refine ⟨_, rfl, x, _, rfl, rfl, _, rfl, ite2 (fun _ => ?_) (fun _ => ?_)⟩
    · -- cells[at] = cell // many
      refine ⟨_, rfl, _, rfl, x, m, rfl, rfl, ⟨by omega, by omega⟩, _, rfl, _, rfl, c, _, at_, at_.toNat, rfl, congrArg V.int hdef, hc, ?_, ?_⟩
      · have e : at_ = (at_.toNat : Int) := by omega
        rw [e]
        exact Evl.ixN_nat (by rw [List.length_map]; omega)
      refine ⟨_, rfl, _, rfl, x, m, rfl, rfl, by omega, ?_⟩
      have hb := fmod_bd (a := x) hm0
      refine q _ _ hb.1 hb.2 ⟨nsc, cells.set at_.toNat (x.fdiv m), i, j, ?_, ?_, ?_, ?_, hi, hj0, hj1⟩ (fun a ha hac => upd_ne hac)
      · rw [upd_ne nsc]; exact hs
      · rw [upd_same, map_set_int]
      · exact fun z => hne (by simpa using z)
      · refine mem_set hpos ?_
        rw [Int.fdiv_eq_ediv_of_nonneg _ (by omega)]
        exact Int.ediv_nonneg hx0 (by omega)
    · -- state[1] = state[1] + 1
      refine ⟨_, rfl, s, _, 1, _, rfl, rfl, SqL.of hs, atI_nat (j := 1) rfl, _, _, rfl, rfl, _, rfl, s, _, 1, 1, rfl, rfl, hs, Evl.ixN_nat (j := 1) (by show 1 < 3; decide), ?_⟩
      have hs1 : (upd H s (.lst ([V.ref c, .int i, .int j].set 1 (.int (i + 1))))) s = some (.lst [.ref c, .int (i + 1), .int j]) := upd_same
      -- state[2] = ..
      refine ⟨_, rfl, s, _, 2, _, rfl, rfl, SqL.of hs1, atI_nat (j := 2) rfl, _, _, rfl, rfl, .inl ⟨by omega, by omega⟩, _, rfl, _, _, rfl, rfl, _, _, rfl, rfl, _, _, rfl, rfl, (by show (2147483647 : Int) ≠ 0; decide), _, rfl, s, _, 2, 2, rfl, rfl, hs1, Evl.ixN_nat (j := 2) (by show 2 < 3; decide), ?_⟩
      have hb := fmod_bd (a := j * 48271 + x + 12345) (m := 2147483647) (by decide)
      generalize hdj : (j * 48271 + x + 12345).fmod 2147483647 = j' at hb
      have hs2 : (upd (upd H s (.lst ([V.ref c, .int i, .int j].set 1 (.int (i + 1))))) s (.lst ([V.ref c, .int (i + 1), .int j].set 2 (.int ((j * 48271 + x + 12345).fmod 2147483647))))) s = some (.lst [.ref c, .int (i + 1), .int j']) := by
        rw [upd_same, hdj]
        rfl
      -- return ..
      refine ⟨_, rfl, s, _, 2, _, rfl, rfl, SqL.of hs2, atI_nat (j := 2) rfl, _, rfl, s, _, 2, _, rfl, rfl, SqL.of hs2, atI_nat (j := 2) rfl, _, _, rfl, rfl, .inl ⟨by omega, by omega⟩, _, _, rfl, rfl, (by show (2147483629 : Int) ≠ 0; decide), _, _, rfl, rfl, ⟨by show (16 : Int) ≠ 0; decide, by show (16 : Int).natAbs < 1073741824; decide⟩, _, rfl, _, _, rfl, rfl, by omega, ?_⟩
      have hb2 := fmod_bd (a := ((j' * j').fmod 2147483629).fdiv 16) hm0
      refine q _ _ hb2.1 hb2.2 ⟨nsc, cells, i + 1, j', hs2, ?_, hne, hpos, by omega, hb.1, hb.2⟩ (fun a ha hac => ?_)
      · rw [upd_ne nsc.symm, upd_ne nsc.symm]; exact hc
      · rw [upd_ne ha, upd_ne ha]
theorem shaped_ints (cells : List Int) : SeqAt.shaped (.list (cells.map PyData.int)) = true := by
  have cl : PyData.canLayAll0 (cells.map PyData.int) = true ∧ PyData.depthAll (cells.map PyData.int) = 0 := by
    induction cells with
    | nil => exact ⟨rfl, rfl⟩
    | cons x r ih => exact ⟨by simp only [List.map_cons, PyData.canLayAll0, PyData.canLay0, ih.1, Bool.and_self], by simp only [List.map_cons, PyData.depthAll, PyData.depth, ih.2]; rfl⟩
  unfold SeqAt.shaped
  simp [PyData.canLay0, cl.1, PyData.depth, cl.2]
theorem ok_begun (T : Tx K mg) : FnOk P w K mg base CX0 1 T.a_l_begun T.d_l_begun ["_law_script"] (sp_state K) := by
  refine T.F_l_begun.ok sc_l_begun (fun vs H Q E h => ?_) (fun cdv A outer s H vs Q E hr h => ?_)
  · obtain ⟨_, _, rfl, _⟩ := h
    rfl
  · obtain ⟨a, ns, rfl, hS, hlen, q⟩ := h
    refine ⟨_, (pss_one (ps_ret (pe_lst (pa_cons (pe_op op_cat (pe_lc (own := [("_law_cell", 1)]) (g := (gName 1)) (tt := tYes) rfl sc_l_begun.nd (iListK (K := K) rfl (pv 0)) (blkOk_by (N := n_l_begun) (sc := defScope s_l_begun) (by decide +kernel)) (fun _ _ _ _ _ => (pg_name (i := 1) sc_l_begun.nd rfl (Or.inl rfl))) (fun _ _ _ _ _ => pts_nil) (fun _ _ _ _ _ => (pe_callB call_abs (by rfl) T.z_abs (by decide +kernel) (pa_cons (pv 1) pa_nil)))) (pe_op op_rep (pe_lst (pa_cons pe_int pa_nil)) (pe_callTy call_int1 (by rfl) T.z_int (by decide +kernel) (pa_cons (pe_cmpR op_eq (pe_callB (lenK (K := K) rfl) (by rfl) T.z_len (by decide +kernel) (pa_cons (pv 0) pa_nil)) pe_int (nomark _)) pa_nil)))) (pa_cons pe_int (pa_cons pe_int pa_nil)))))), ?_⟩
    generalize hg : ns.map (fun i => if i < 0 then -i else i) = cells
    have pos : ∀ x ∈ cells, 0 ≤ x := fun x hx => by
      rw [← hg] at hx
      obtain ⟨y, _, rfl⟩ := List.mem_map.mp hx
      split <;> omega
    have lc : cells.length = ns.length := by rw [← hg, List.length_map]
    refine un_ret ?_
    unfold tLst tCons tOp
    dsimp only
    refine go_L (xs := cells.map V.int) (el_map (xs := ns.map V.int) (a := a) (ev_var rfl) hS (by rw [List.length_map]; omega) (by rw [← hg]; simp) (fun x => rfl) (fun i x y H1 e hx hy => ?_)) (fun c H1 hc e1 h1 => ?_)
    · rw [← hg, List.getElem?_map, List.getElem?_map] at hy
      rw [List.getElem?_map] at hx
      cases hi : ns[i]? with
      | none =>
        rw [hi] at hx
        cases hx
      | some z =>
        rw [hi] at hx hy
        obtain rfl := Option.some.inj hx
        obtain rfl := Option.some.inj hy
        exact fun H2 e2 Q q => ⟨_, rfl, z, rfl, q _ (Ex.refl _)⟩
    · refine ⟨by show 1 ≤ sizeLine; decide, fun u hu => ?_⟩
      have eu := Ex.new (o := .lst [.int 1]) hu
      refine ⟨_, rfl, a, _, rfl, .inl ((hS.ext e1).ext eu), rfl, .inr ⟨_, rfl, ?_⟩⟩
      rw [List.length_map]
      refine ⟨u, _, [.int 1], rfl, rfl, upd_same, ?_, ?_, ?_, fun v hv => ?_⟩
      · split <;> decide
      · split <;> decide
      · rw [List.length_singleton]
        split <;> decide
      have ev := Ex.new (o := .lst (List.replicate (if (decide (V.int (ns.length : Nat) = V.int 0)) = true then (1 : Int) else 0).toNat [V.int 1]).flatten) hv
      have tail : ∃ ts : List Int, (List.replicate (if (decide (V.int (ns.length : Nat) = V.int 0)) = true then (1 : Int) else 0).toNat [V.int 1]).flatten = ts.map V.int ∧ cells ++ ts ≠ [] ∧ (∀ x ∈ ts, 0 ≤ x) ∧ ts.length ≤ 1 := by
        cases cells with
        | nil =>
          have : ns.length = 0 := by rw [← lc]; rfl
          rw [this]
          exact ⟨[1], rfl, by simp, by simp, by decide⟩
        | cons z zs =>
          have : ¬ (V.int (ns.length : Nat) = V.int 0) := fun e => by
            have := V.int.inj e
            rw [← lc, List.length_cons] at this
            omega
          rw [decide_eq_false this]
          exact ⟨[], rfl, by simp, by simp, by decide⟩
      obtain ⟨ts, ht, tne, tpos, tl⟩ := tail
      rw [ht] at ev
      have hv' : (upd (upd H1 u (.lst [.int 1])) v (.lst (ts.map V.int))) v = some (.lst (ts.map V.int)) := upd_same
      rw [ht]
      refine ⟨c, v, _, _, rfl, rfl, ev _ _ (eu _ _ h1), hv', Nat.le_of_lt (len_lt (by rw [List.length_map, List.length_map]; omega)), fun c2 hc2 => ?_⟩
      have e2 := Ex.new (o := .lst (cells.map V.int ++ ts.map V.int)) hc2
      refine ⟨by show 3 ≤ sizeLine; decide, fun s hs => ?_⟩
      have ex := e1.trans (eu.trans (ev.trans e2))
      have ne : c2 ≠ s := ne_of_none upd_same hs
      refine q s c2 _ (ex.trans (Ex.new hs)) (fresh_back ex hs) (fresh_back (e1.trans (eu.trans ev)) hc2) ⟨ne.symm, cells ++ ts, 0, 1, upd_same, ?_, tne, fun x hx => ?_, by decide, by decide, by decide⟩
      · rw [upd_ne ne, List.map_append]
        exact upd_same
      · rcases List.mem_append.mp hx with h | h
        · exact pos x h
        · exact tpos x h
theorem ok_pick (T : Tx K mg) : FnOk P w K mg base CX0 2 T.a_l_pick T.d_l_pick ["_law_draws", "_law_some_here"] sp_pick := by
  have G_l_draw := ok_draw (P := P) (w := w) (base := base) T
  refine T.F_l_pick.ok sc_l_pick (fun vs H Q E h => ?_) (fun cdv A outer s H vs Q E hr h => ?_)
  · obtain ⟨_, _, _, _, rfl, _⟩ := h
    rfl
  · obtain ⟨s, c, p, xs, rfl, st, hp, ps, pc, l0, l1, q⟩ := h
    refine ⟨_, (pss_one (ps_ret (pe_ix (ix_listK (K := K) rfl) (pv 1) (pe_call G_l_draw (hr.mono (by decide)) (by rfl) T.g_l_draw T.F_l_draw.kp T.b_l_draw .nil pass0 (pa_cons (pv 0) (pa_cons (pe_callB (lenK (K := K) rfl) (by rfl) T.z_len (by decide +kernel) (pa_cons (pv 1) pa_nil)) pa_nil))) (fun _ _ => rfl)))), ?_⟩
    refine ⟨_, rfl, _, rfl, _, rfl, p, xs, rfl, .inl (SqL.of hp), s, c, _, rfl, st, by omega, by omega, fun r H1 r0 r1 st1 off1 => ?_⟩
    obtain ⟨k, rfl⟩ : ∃ k : Nat, r = (k : Int) := ⟨r.toNat, by omega⟩
    obtain ⟨x, hx⟩ : ∃ x, xs[k]? = some x := ⟨_, List.getElem?_eq_getElem (by omega)⟩
    exact ⟨p, xs, k, x, rfl, rfl, SqL.of ((off1 p ps pc).trans hp), atI_nat hx, q k x H1 hx st1 off1⟩
end
end K37

set_option maxHeartbeats 2000000
namespace K37
open PySem PySem.Spec PyProof.Rows L2 Evl MyG
/-! ### places drawn -/
structure Places (ps : List Int) : Prop where
  nd : ps.Nodup
  l0 : 1 ≤ ps.length
  l1 : ps.length ≤ 8
  bd : ∀ x ∈ ps, 0 ≤ x ∧ x ≤ 999
theorem inV_ints (z : Int) : ∀ ns : List Int, inV (.int z) (ns.map V.int) = decide (z ∈ ns)
  | [] => by simp [inV]
  | n :: ns => by
    have ih := inV_ints z ns
    unfold inV at ih ⊢
    rw [List.map_cons, List.any_cons, ih]
    have e : eqV (.int n) (.int z) = decide (n = z) := by first | rfl | simp [eqV]
    rw [e]
    by_cases h : n = z
    · subst h; simp
    · have h' : ¬ z = n := fun q => h q.symm
      simp [h, h']
theorem flat_ints (ns : List Int) : (ns.map V.int).all flatV = true := by
  rw [List.all_eq_true]
  intro x hx
  obtain ⟨n, _, rfl⟩ := List.mem_map.mp hx
  rfl
theorem len8 {n : Nat} (h : n ≤ 1000) : n < sizeLine := small1000 h
theorem nodup_snoc {xs : List Int} {z : Int} (h : xs.Nodup) (hz : ¬ z ∈ xs) : (xs ++ [z]).Nodup := by
  rw [List.nodup_append]
  refine ⟨h, by simp, fun a ha b hb => ?_⟩
  obtain rfl := List.mem_singleton.mp hb
  exact fun e => hz (e ▸ ha)
abbrev Row := Int × Int × Int
def rowV (r : Row) : List V := [.int r.1, .int r.2.1, .int r.2.2]
def RowsAt (B : Hp) : List V → List Row → Prop := Paired fun (v : V) (r : Row) => ∃ a, v = .ref a ∧ B a = some (.tup (rowV r))
structure RoadOk (ps : List Int) (r : Row) : Prop where
  m1 : r.1 ∈ ps
  m2 : r.2.1 ∈ ps
  ne : r.1 ≠ r.2.1
  c0 : 1 ≤ r.2.2
  c1 : r.2.2 ≤ 30
structure Roads (ps : List Int) (rs : List Row) : Prop where
  len : rs.length ≤ 12
  ok : ∀ r ∈ rs, RoadOk ps r
theorem RowsAt.mono {B B' : Hp} (e : Ex B B') {vs : List V} {rs : List Row} (h : RowsAt B vs rs) : RowsAt B' vs rs := Paired.mapP h fun _ _ ⟨a, h1, h2⟩ => ⟨a, h1, e _ _ h2⟩
theorem RowsAt.len {B : Hp} {vs : List V} {rs : List Row} (h : RowsAt B vs rs) : vs.length = rs.length := Paired.length h
theorem RowsAt.snoc {B : Hp} {a : Addr} {r : Row} (ha : B a = some (.tup (rowV r))) : ∀ {vs : List V} {rs : List Row}, RowsAt B vs rs → RowsAt B (vs ++ [.ref a]) (rs ++ [r])
  | _, _, .nil => .cons ⟨a, rfl, ha⟩ .nil
  | _, _, .cons h t => .cons h (RowsAt.snoc ha t)
theorem len_sub : ∀ (ys xs : List Int), ys.Nodup → (∀ y ∈ ys, y ∈ xs) → ys.length ≤ xs.length
  | [], _, _, _ => Nat.zero_le _
  | y :: ys, xs, nd, h => by
    rw [List.nodup_cons] at nd
    have hy := h y (List.mem_cons_self ..)
    have k := len_sub ys (xs.erase y) nd.2 (fun z hz => (List.mem_erase_of_ne (fun e => nd.1 (by rw [← e]; exact hz))).mpr (h z (List.mem_cons_of_mem _ hz)))
    rw [List.length_erase_of_mem hy] at k
    have := List.length_pos_of_mem hy
    rw [List.length_cons]
    omega

theorem first_free {ps : List Int} (l : ps.length ≤ 7) (x : Int) (hx : 0 ≤ x ∧ x ≤ 999) : ∃ v r, (x :: ([0, 1, 2, 3, 4, 5, 6, 7, 8] : List Int)).filter (fun z => !decide (z ∈ ps)) = v :: r ∧ ¬ v ∈ ps ∧ 0 ≤ v ∧ v ≤ 999 := by
  cases h : (x :: ([0, 1, 2, 3, 4, 5, 6, 7, 8] : List Int)).filter (fun z => !decide (z ∈ ps)) with
  | nil =>
    exfalso
    have all : ∀ z ∈ ([0, 1, 2, 3, 4, 5, 6, 7, 8] : List Int), z ∈ ps := fun z hz => by
      have := List.filter_eq_nil_iff.mp h z (List.mem_cons_of_mem _ hz)
      simpa using this
    have := len_sub _ ps (by decide) all
    have h9 : ([0, 1, 2, 3, 4, 5, 6, 7, 8] : List Int).length = 9 := rfl
    omega
  | cons v r =>
    have m : v ∈ (x :: ([0, 1, 2, 3, 4, 5, 6, 7, 8] : List Int)).filter (fun z => !decide (z ∈ ps)) := by rw [h]; exact List.mem_cons_self ..
    obtain ⟨m1, m2⟩ := List.mem_filter.mp m
    refine ⟨v, r, rfl, by simpa using m2, ?_⟩
    simp only [List.mem_cons, List.not_mem_nil, or_false] at m1
    omega
theorem filt_take {xs : List Int} {q : Int → Bool} {i : Nat} {x : Int} (h : xs[i]? = some x) : (xs.take (i + 1)).filter q = (xs.take i).filter q ++ (if q x = true then [x] else []) := by
  rw [take_snoc h, List.filter_append]
  by_cases z : q x = true
  · rw [List.filter_cons_of_pos z, if_pos z]; rfl
  · rw [List.filter_cons_of_neg z, if_neg z]; rfl
theorem seq_mid {A R : TS} {D : Ends} {σ : L2.St} {H : Hp} (P : L2.St → Hp → Prop) (hA : ∀ N : L2.St → Hp → Prop, (∀ σ' H', P σ' H' → N σ' H') → A { D with nx := N } σ H) (hR : ∀ σ' H', P σ' H' → R D σ' H') : tSeq A R D σ H := hA (R D) hR
def sp_town : Sp := fun vs H Q _ => ∃ (s c : Addr) (B : Hp) (least : Int), vs = [.ref s, .int least] ∧ Wd s c B H ∧ 1 ≤ least ∧ least ≤ 2 ∧
  ∀ (t p l : Addr) (ps : List Int) (ts : List V) (rs : List Row) (B' H' : Hp), Ex B B' → Wd s c B' H' → B' t = some (.tup [.ref p, .ref l]) → B' p = some (.lst (ps.map V.int)) → B' l = some (.lst ts) → RowsAt B' ts rs → Places ps → Roads ps rs → Q (.ref t) H'
section
variable {P : Program} {w : World} {K : PySem.W.Frag} {mg : Str → Option Value} {base : Heap}
theorem ok_town (T : Tx K mg) : FnOk P w K mg base CX0 3 T.a_l_town T.d_l_town ["_law_draws", "_law_least"] sp_town := by
  have G_l_draw := ok_draw (P := P) (w := w) (base := base) T
  have G_l_pick := ok_pick (P := P) (w := w) (base := base) T
  refine T.F_l_town.ok sc_l_town (fun vs H Q E h => ?_) (fun cdv A outer s0 H vs Q E hr h => ?_)
  · obtain ⟨_, _, _, _, rfl, _⟩ := h
    rfl
  · obtain ⟨s, c, B, least, rfl, W, l0, l1, q⟩ := h
    refine ⟨_, (pss_cons (ps_set (i := 2) sc_l_town.nd rfl (Or.inl rfl) (pe_op op_add (pv 1) (pe_call G_l_draw (hr.mono (by decide)) (by rfl) T.g_l_draw T.F_l_draw.kp T.b_l_draw .nil pass0 (pa_cons (pv 0) (pa_cons (pe_op op_sub pe_int (pv 1)) pa_nil)))))
  (pss_cons (ps_set (i := 3) sc_l_town.nd rfl (Or.inl rfl) (pe_call G_l_draw (hr.mono (by decide)) (by rfl) T.g_l_draw T.F_l_draw.kp T.b_l_draw .nil pass0 (pa_cons (pv 0) (pa_cons pe_int pa_nil))))
  (pss_cons (ps_set (i := 4) sc_l_town.nd rfl (Or.inr rfl) (pe_lst pa_nil))
  (pss_cons (ps_for PassesOwn.never rfl (pi_range1 rfl T.z_range (pa_cons (pv 2) pa_nil)) (pg_name (i := 5) sc_l_town.nd rfl (Or.inl rfl))
   (pss_cons (ps_set (i := 6) sc_l_town.nd rfl (Or.inl rfl) (pe_ix (ix_listK (K := K) rfl) (pe_lst (pa_cons (pv 5) (pa_cons (pe_op op_sub pe_int (pe_op op_mul pe_int (pv 5))) (pa_cons (pe_call G_l_draw (hr.mono (by decide)) (by rfl) T.g_l_draw T.F_l_draw.kp T.b_l_draw .nil pass0 (pa_cons (pv 0) (pa_cons pe_int pa_nil))) pa_nil)))) (pv 3) (fun _ _ => rfl)))
  (pss_one (ps_expr (pe_bm PySem.F.plainAttrs_list PySem.F.slot_list_append PySem.F.type_list_append mt_append (pv 4) (pa_cons (pe_ix (ix_listK (K := K) rfl) (pe_lc (own := [("_law_one", 7)]) (g := (gName 7)) rfl sc_l_town.nd (iListK (K := K) rfl (pe_op op_cat (pe_lst (pa_cons (pv 6) pa_nil)) (pe_listRg rfl (by rfl) T.z_list (prg_1 (by rfl) T.z_range pe_int)))) (blkOk_by (N := n_l_town) (sc := defScope s_l_town) (by decide +kernel)) (fun _ _ _ _ _ => (pg_name (i := 7) sc_l_town.nd rfl (Or.inl rfl))) (fun _ _ _ _ _ => (pts_one (pt_cmpR (op_niK (K := K) rfl) (pv 7) (pv 4) (by rfl)))) (fun _ _ _ _ _ => (pv 7))) pe_int (fun _ _ => rfl)) pa_nil))))))
  (pss_cons (ps_set (i := 8) sc_l_town.nd rfl (Or.inl rfl) (pe_lst pa_nil))
  (pss_cons (ps_set (i := 9) sc_l_town.nd rfl (Or.inl rfl) (pe_ifExp (pt_cmpR op_gt (pv 2) pe_int (nomark _)) (pe_op op_add pe_int (pe_call G_l_draw (hr.mono (by decide)) (by rfl) T.g_l_draw T.F_l_draw.kp T.b_l_draw .nil pass0 (pa_cons (pv 0) (pa_cons (pe_op op_sub (pv 2) pe_int) pa_nil)))) pe_int))
  (pss_cons (ps_for PassesOwn.never rfl (pi_range1 rfl T.z_range (pa_cons (pe_op op_mul (pe_call G_l_draw (hr.mono (by decide)) (by rfl) T.g_l_draw T.F_l_draw.kp T.b_l_draw .nil pass0 (pa_cons (pv 0) (pa_cons pe_int pa_nil))) (pe_callTy call_int1 (by rfl) T.z_int (by decide +kernel) (pa_cons (pe_cmpR op_gt (pv 2) pe_int (nomark _)) pa_nil))) pa_nil)) (pg_name (i := 5) sc_l_town.nd rfl (Or.inl rfl))
   (pss_cons (ps_set (i := 7) sc_l_town.nd rfl (Or.inr rfl) (pe_call G_l_pick (hr.mono (by decide)) (by rfl) T.g_l_pick T.F_l_pick.kp T.b_l_pick .nil pass0 (pa_cons (pv 0) (pa_cons (pe_slice (sl_listK (K := K) rfl) (pv 4) po_none (po_some (pv 9))) pa_nil))))
  (pss_cons (ps_set (i := 10) sc_l_town.nd rfl (Or.inl rfl) (pe_call G_l_pick (hr.mono (by decide)) (by rfl) T.g_l_pick T.F_l_pick.kp T.b_l_pick .nil pass0 (pa_cons (pv 0) (pa_cons (pe_lc (own := [("_law_hall", 6)]) (g := (gName 6)) rfl sc_l_town.nd (iListK (K := K) rfl (pe_slice (sl_listK (K := K) rfl) (pv 4) po_none (po_some (pv 9)))) (blkOk_by (N := n_l_town) (sc := defScope s_l_town) (by decide +kernel)) (fun _ _ _ _ _ => (pg_name (i := 6) sc_l_town.nd rfl (Or.inl rfl))) (fun _ _ _ _ _ => (pts_one (pt_cmpR op_ne (pv 6) (pv 7) (nomark _)))) (fun _ _ _ _ _ => (pv 6))) pa_nil))))
  (pss_one (ps_expr (pe_bm PySem.F.plainAttrs_list PySem.F.slot_list_append PySem.F.type_list_append mt_append (pv 8) (pa_cons (pe_tup (pa_cons (pv 7) (pa_cons (pv 10) (pa_cons (pe_op op_add pe_int (pe_call G_l_draw (hr.mono (by decide)) (by rfl) T.g_l_draw T.F_l_draw.kp T.b_l_draw .nil pass0 (pa_cons (pv 0) (pa_cons (pe_call G_l_pick (hr.mono (by decide)) (by rfl) T.g_l_pick T.F_l_pick.kp T.b_l_pick .nil pass0 (pa_cons (pv 0) (pa_cons (pe_lst (pa_cons pe_int (pa_cons pe_int (pa_cons pe_int pa_nil)))) pa_nil))) pa_nil)))) pa_nil)))) pa_nil)))))))
  (pss_one (ps_ret (pe_tup (pa_cons (pv 4) (pa_cons (pv 8) pa_nil)))))))))))), ?_⟩
    refine ⟨_, rfl, _, rfl, _, rfl, _, _, rfl, rfl, s, c, _, rfl, W.st, by omega, by omega, fun r1 H1 r10 r11 st1 off1 => ⟨_, _, rfl, rfl, ?_⟩⟩
    have W1 := W.off st1 off1
    have m1 : 1 ≤ least + r1 := by omega
    have m8 : least + r1 ≤ 8 := by omega
    dsimp only
    generalize least + r1 = m at m1 m8
    show tSeq _ _ _ _ _
    refine ⟨_, rfl, s, c, 3, rfl, W1.st, by decide, by decide, fun w H2 w0 w1 st2 off2 => ?_⟩
    have W2 := W1.off st2 off2
    show tSeq _ _ _ _ _
    refine ⟨Nat.zero_le _, fun p hp => ?_⟩
    have sp' := W2.st.ne_s hp
    have cp' := W2.st.ne_c hp
    have bp := W2.none_of hp
    show tSeq _ _ _ _ _
    refine ⟨_, rfl, m, rfl, by omega, by omega, ?_⟩
    refine for_it (walk_range (lo := 0) (n := m.toNat)) (fun i σ H' => ∃ (y5 y6 y7 y8 y9 y10 : Option V) (ps : List Int), σ = [some (.ref s), some (.int least), some (.int m), some (.int w), some (.ref p), y5, y6, y7, y8, y9, y10] ∧ Wd s c B H' ∧ H' p = some (.lst (ps.map V.int)) ∧ ps.Nodup ∧ ps.length = i ∧ ∀ x ∈ ps, 0 ≤ x ∧ x ≤ 999)
      ⟨_, _, _, _, _, _, [], rfl, W2.ext (Ex.new hp), upd_same, List.nodup_nil, rfl, fun x h => absurd h (by simp)⟩ (fun _ _ _ _ _ => True.intro) ?_ ?_
    · rintro i x σ Ha Ha' hi ⟨y5, y6, y7, y8, y9, y10, ps, rfl, W3, h3, nd, lp, bd⟩ ⟨rfl, rfl⟩
      have hi' : i < m.toNat := hi
      show tSeq _ _ _ _ _
      refine ⟨_, rfl, _, rfl, _, _, rfl, rfl, .inl (by decide), _, _, rfl, rfl, _, rfl, s, c, 1000, rfl, W3.st, by decide, by decide, fun d H4 d0 d1 st4 off4 => ⟨by show 3 ≤ sizeLine; decide, fun u hu => ?_⟩⟩
      have W4 := (W3.off st4 off4).ext (Ex.new (o := .lst [.int (0 + (i : Int)), .int (999 - 3 * (0 + (i : Int))), .int d]) hu)
      have h4 : (upd H4 u (.lst [.int (0 + (i : Int)), .int (999 - 3 * (0 + (i : Int))), .int d])) p = some (.lst (ps.map V.int)) := (Ex.new hu) _ _ ((off4 p sp' cp').trans h3)
      obtain ⟨x, hx, hx2⟩ : ∃ x, atI [V.int (0 + (i : Int)), .int (999 - 3 * (0 + (i : Int))), .int d] w = some (.int x) ∧ 0 ≤ x ∧ x ≤ 999 := by
        rcases (show w = 0 ∨ w = 1 ∨ w = 2 by omega) with rfl | rfl | rfl
        · exact ⟨_, rfl, by omega, by omega⟩
        · exact ⟨_, rfl, by omega, by omega⟩
        · exact ⟨_, rfl, by omega, by omega⟩
      refine ⟨_, rfl, u, _, w, _, rfl, rfl, SqL.of upd_same, hx, ?_⟩
      have W4 : Wd s c B (upd H4 u (.lst [V.int (0 + (i : Int)), .int (999 - 3 * (0 + (i : Int))), .int d])) := W4
      generalize upd H4 u (.lst [V.int (0 + (i : Int)), .int (999 - 3 * (0 + (i : Int))), .int d]) = H5 at W4 h4 ⊢
      refine ⟨_, rfl, .inl ⟨rfl, _, SqL.of h4⟩, _, rfl, by show 1 ≤ sizeLine; decide, fun v hv => ?_⟩
      have ev := Ex.new (o := .lst [.int x]) hv
      refine ⟨9, rfl, RgOk.of_le (by decide) (by decide) (by decide) (by decide), fun g hg => ?_⟩
      have eg := Ex.new (o := .lst (rgV 0 9)) hg
      refine ⟨v, g, [.int x], rgV 0 9, rfl, rfl, eg _ _ upd_same, upd_same, by show 1 + 9 ≤ sizeLine; decide, fun cc hcc => ?_⟩
      have ecc := Ex.new (o := .lst ([V.int x] ++ rgV 0 9)) hcc
      have exx := ev.trans (eg.trans ecc)
      have hc0 : (upd (upd (upd H5 v (.lst [.int x])) g (.lst (rgV 0 9))) cc (.lst ([V.int x] ++ rgV 0 9))) cc = some (.lst ((x :: ([0, 1, 2, 3, 4, 5, 6, 7, 8] : List Int)).map V.int)) := upd_same
      generalize upd (upd (upd H5 v (.lst [.int x])) g (.lst (rgV 0 9))) cc (.lst ([V.int x] ++ rgV 0 9)) = H6 at exx hc0 ⊢
      have h6 := exx _ _ h4
      have W6 := W4.ext exx
      obtain ⟨fv, fr, hfl, nin, fb⟩ := first_free (ps := ps) (by omega) x hx2
      refine ⟨cc, rfl, ⟨_, SqL.of hc0⟩, fun D hD => lc_it walk_list (fun j H' => Ex H6 H' ∧ H' D = some (.lst ((((x :: ([0, 1, 2, 3, 4, 5, 6, 7, 8] : List Int)).take j).filter fun z => !decide (z ∈ ps)).map V.int))) ⟨Ex.new hD, upd_same⟩ (fun j H' _ z => SqL.of (z.1 _ _ hc0)) ?_ ?_⟩
      · rintro j y Hb Hb' hj ⟨ex, hDb⟩ ⟨rfl, hy⟩
        rw [List.getElem?_map] at hy
        cases hq : (x :: ([0, 1, 2, 3, 4, 5, 6, 7, 8] : List Int))[j]? with
        | none => rw [hq] at hy; cases hy
        | some z =>
          rw [hq] at hy
          obtain rfl := Option.some.inj hy
          have ft := filt_take (q := fun z => !decide (z ∈ ps)) hq
          have few : (((x :: ([0, 1, 2, 3, 4, 5, 6, 7, 8] : List Int)).take j).filter fun z => !decide (z ∈ ps)).length ≤ 100 := Nat.le_trans (List.length_filter_le _ _) (by rw [List.length_take]; exact Nat.le_trans (Nat.min_le_right _ _) (by show 10 ≤ 100; decide))
          refine ⟨rfl, _, rfl, _, rfl, p, _, rfl, .inl (SqL.of (ex _ _ h6)), rfl, flat_ints _, _, rfl, ?_⟩
          rw [if_pos rfl, inV_ints]
          refine ite2 (fun cz => ?_) (fun cz => ?_)
          · refine ⟨_, rfl, _, hDb, len_lt (by rw [List.length_map]; omega), ex.mut hD, ?_⟩
            rw [upd_same, ft, if_pos cz, List.map_append]
            rfl
          · refine ⟨ex, ?_⟩
            rw [ft, if_neg cz, List.append_nil]
            exact hDb
      rintro H7 ⟨ex, hD7⟩
      rw [List.take_of_length_le (by rw [List.length_map]; exact Nat.le_refl _), hfl] at hD7
      have h7 := ex _ _ h6
      have W7 := W6.ext ex
      refine ⟨D, _, 0, _, rfl, rfl, SqL.of hD7, atI_nat (j := 0) rfl, p, _, _, rfl, rfl, h7, len_lt (by rw [List.length_map]; omega), ?_⟩
      refine ⟨_, _, _, _, _, _, ps ++ [fv], rfl, W7.mut bp sp' cp', ?_, nodup_snoc nd nin, by rw [List.length_append, lp]; rfl, fun z hz => ?_⟩
      · rw [upd_same, List.map_append]
        rfl
      · rcases List.mem_append.mp hz with hz | hz
        · exact bd z hz
        · rw [List.mem_singleton.mp hz]
          exact fb
    · rintro σ H3 ⟨y5, y6, y7, y8, y9, y10, ps, rfl, W3, h3, nd, lp, bd⟩
      have plc : Places ps := ⟨nd, by omega, by omega, bd⟩
      have WP := W3.know h3 sp' cp'
      have eP : Ex B (upd B p (.lst (ps.map V.int))) := ex_know bp
      have kP : (upd B p (.lst (ps.map V.int))) p = some (.lst (ps.map V.int)) := upd_same
      have lpm : (ps.length : Int) = m := by omega
      clear W3 h3
      generalize upd B p (.lst (ps.map V.int)) = B1 at WP eP kP
      show tSeq _ _ _ _ _
      refine ⟨Nat.zero_le _, fun l hl => ?_⟩
      have sl := WP.st.ne_s hl
      have cl := WP.st.ne_c hl
      have bl := WP.none_of hl
      have W4 := WP.ext (Ex.new (o := .lst []) hl)
      have h4 : (upd H3 l (.lst [])) l = some (.lst []) := upd_same
      generalize upd H3 l (.lst []) = H4 at W4 h4
      dsimp only
      show tSeq _ _ _ [some (V.ref s), some (V.int least), some (V.int m), some (V.int w), some (V.ref p), y5, y6, y7, some (V.ref l), y9, y10] _
      refine seq_mid (fun σ H' => ∃ (y5 y6 y7 y10 : Option V) (few : Int), σ = [some (.ref s), some (.int least), some (.int m), some (.int w), some (.ref p), y5, y6, y7, some (.ref l), some (.int few), y10] ∧ Wd s c B1 H' ∧ H' l = some (.lst []) ∧ (1 < m → 2 ≤ few ∧ few ≤ m)) (fun Nx hN => ?_) ?_
      · refine ⟨_, rfl, _, _, rfl, rfl, _, rfl, ite2 (fun cm => ?_) (fun cm => ?_)⟩
        · have cm : 1 < m := of_decide_eq_true cm
          refine ⟨_, rfl, _, rfl, _, _, rfl, rfl, s, c, _, rfl, W4.st, by omega, by omega, fun d H5 d0 d1 st5 off5 => ⟨_, _, rfl, rfl, hN _ _ ⟨_, _, _, _, _, rfl, W4.off st5 off5, (off5 l sl cl).trans h4, fun _ => by omega⟩⟩⟩
        · have cm : ¬ 1 < m := fun z => cm (decide_eq_true z)
          exact hN _ _ ⟨_, _, _, _, _, rfl, W4, h4, fun z => absurd z cm⟩
      clear W4 h4
      rintro σ H5 ⟨y5, y6, y7, y10, few, rfl, W5, h5, hfew⟩
      show tSeq _ _ _ [some (V.ref s), some (V.int least), some (V.int m), some (V.int w), some (V.ref p), y5, y6, y7, some (V.ref l), some (V.int few), y10] _
      refine ⟨_, rfl, s, c, 13, rfl, W5.st, by decide, by decide, fun t H6 t0 t1 st6 off6 => ⟨_, rfl, _, _, rfl, rfl, .inr ⟨_, rfl, ?_⟩⟩⟩
      have W6 := W5.off st6 off6
      have h6 := (off6 l sl cl).trans h5
      obtain ⟨n, hn, n12, nm, n0⟩ : ∃ n : Int, t * (if decide (1 < m) = true then 1 else 0) = n ∧ n ≤ 12 ∧ (0 < n → 1 < m) ∧ 0 ≤ n := by
        by_cases z : 1 < m
        · rw [decide_eq_true z, if_pos rfl]
          exact ⟨t, by omega, by omega, fun _ => z, by omega⟩
        · rw [decide_eq_false z, if_neg (by decide)]
          exact ⟨0, by omega, by decide, fun h => absurd h (by decide), by decide⟩
      refine ⟨_, _, rfl, rfl, .inl ⟨by omega, by omega⟩, n, congrArg (fun z => [V.int z]) hn, by omega, by omega, ?_⟩
      refine for_it (walk_range (lo := 0) (n := n.toNat)) (fun i σ H' => ∃ (y5 y6 y7 y10 : Option V) (B' : Hp) (ts : List V) (rs : List Row), σ = [some (.ref s), some (.int least), some (.int m), some (.int w), some (.ref p), y5, y6, y7, some (.ref l), some (.int few), y10] ∧ Ex B1 B' ∧ B' l = none ∧ Wd s c B' H' ∧ H' l = some (.lst ts) ∧ RowsAt B' ts rs ∧ rs.length = i ∧ ∀ r ∈ rs, RoadOk ps r)
        ⟨_, _, _, _, B1, [], [], rfl, Ex.refl _, bl, W6, h6, .nil, rfl, fun r h => absurd h (by simp)⟩ (fun _ _ _ _ _ => True.intro) ?_ ?_
      · rintro i x σ Ha Ha' hi ⟨y5, y6, y7, y10, B', ts, rs, rfl, eB, bl', W7, h7, hts, lr, ok⟩ ⟨rfl, rfl⟩
        have hi' : i < n.toNat := hi
        obtain ⟨f2, fm⟩ := hfew (nm (by omega))
        obtain ⟨f, rfl⟩ : ∃ f : Nat, few = (f : Int) := ⟨few.toNat, by omega⟩
        have cut : cutV (ps.map V.int) none (some (f : Int)) = (ps.take f).map V.int := by rw [cut_lo _ (by rw [List.length_map]; omega), List.map_take]
        have ltk : (ps.take f).length = f := by rw [List.length_take]; omega
        have hp7 := W7.ex _ _ (eB _ _ kP)
        show tSeq _ _ _ _ _
        refine ⟨_, rfl, _, rfl, _, rfl, (f : Int), rfl, p, _, rfl, SqL.of hp7, fun u hu => ?_⟩
        rw [cut]
        have W8 := W7.ext (Ex.new (o := .lst ((ps.take f).map V.int)) hu)
        have h8 := Ex.new (o := .lst ((ps.take f).map V.int)) hu _ _ h7
        refine ⟨s, c, u, _, rfl, W8.st, upd_same, W7.st.ne_s hu, W7.st.ne_c hu, by rw [List.length_map]; omega, by rw [List.length_map]; omega, fun k1 x1 H9 hk1 st9 off9 => ?_⟩
        rw [List.getElem?_map] at hk1
        obtain ⟨one, hone, rfl⟩ : ∃ one, (ps.take f)[k1]? = some one ∧ x1 = .int one := by
          cases q : (ps.take f)[k1]? with
          | none => rw [q] at hk1; cases hk1
          | some z => rw [q] at hk1; exact ⟨z, rfl, (Option.some.inj hk1).symm⟩
        have m1 : one ∈ ps := List.take_subset _ _ (List.mem_of_getElem? hone)
        have W9 := W8.off st9 off9
        have h9 := (off9 l sl cl).trans h8
        clear W8 h8 off9 st9
        have hp9 := W9.ex _ _ (eB _ _ kP)
        show tSeq _ _ _ _ _
        refine ⟨_, rfl, _, rfl, _, rfl, (f : Int), rfl, p, _, rfl, SqL.of hp9, fun u2 hu2 => ?_⟩
        rw [cut]
        have e10 := Ex.new (o := .lst ((ps.take f).map V.int)) hu2
        have hu2' : (upd H9 u2 (.lst ((ps.take f).map V.int))) u2 = some (.lst ((ps.take f).map V.int)) := upd_same
        have W10 := W9.ext e10
        have h10 := e10 _ _ h9
        generalize upd H9 u2 (.lst ((ps.take f).map V.int)) = H10 at W10 h10 hu2'
        refine ⟨u2, rfl, ⟨_, SqL.of hu2'⟩, fun D hD => lc_it walk_list (fun j H' => Ex H10 H' ∧ H' D = some (.lst ((((ps.take f).take j).filter fun z => !decide (V.int z = V.int one)).map V.int))) ⟨Ex.new hD, upd_same⟩ (fun j H' _ z => SqL.of (z.1 _ _ hu2')) ?_ ?_⟩
        · rintro j y Hb Hb' hj ⟨ex, hDb⟩ ⟨rfl, hy⟩
          rw [List.getElem?_map] at hy
          cases hq : (ps.take f)[j]? with
          | none => rw [hq] at hy; cases hy
          | some z =>
            rw [hq] at hy
            obtain rfl := Option.some.inj hy
            have ft := filt_take (q := fun z => !decide (V.int z = V.int one)) hq
            have few' : (((ps.take f).take j).filter fun z => !decide (V.int z = V.int one)).length ≤ 100 := Nat.le_trans (List.length_filter_le _ _) (by rw [List.length_take]; omega)
            refine ⟨rfl, _, rfl, _, rfl, rfl, _, rfl, ?_⟩
            refine ite2 (fun cz => ?_) (fun cz => ?_)
            · refine ⟨_, rfl, _, hDb, len_lt (by rw [List.length_map]; omega), ex.mut hD, ?_⟩
              rw [upd_same, ft, if_pos cz, List.map_append]
              rfl
            · refine ⟨ex, ?_⟩
              rw [ft, if_neg cz, List.append_nil]
              exact hDb
        rintro H11 ⟨ex, hD11⟩
        rw [List.take_of_length_le (by rw [List.length_map]; exact Nat.le_refl _)] at hD11
        have W11 := W10.ext ex
        have h11 := ex _ _ h10
        have fne : 0 < ((ps.take f).filter fun z => !decide (V.int z = V.int one)).length := by
          refine List.length_pos_iff.mpr fun e => ?_
          have all : ∀ z ∈ ps.take f, z ∈ [one] := fun z hz => by
            have := List.filter_eq_nil_iff.mp e z hz
            simpa using this
          have := len_sub _ [one] ((List.take_sublist f ps).nodup nd) all
          rw [ltk] at this
          have h1 : ([one] : List Int).length = 1 := rfl
          omega
        have fle : ((ps.take f).filter fun z => !decide (V.int z = V.int one)).length ≤ 8 := Nat.le_trans (List.length_filter_le _ _) (by omega)
        refine ⟨s, c, D, _, rfl, W11.st, hD11, W10.st.ne_s hD, W10.st.ne_c hD, by rw [List.length_map]; exact fne, by rw [List.length_map]; omega, fun k2 x2 H12 hk2 st12 off12 => ?_⟩
        rw [List.getElem?_map] at hk2
        obtain ⟨oth, hoth, rfl⟩ : ∃ oth, ((ps.take f).filter fun z => !decide (V.int z = V.int one))[k2]? = some oth ∧ x2 = .int oth := by
          cases q : ((ps.take f).filter fun z => !decide (V.int z = V.int one))[k2]? with
          | none => rw [q] at hk2; cases hk2
          | some z => rw [q] at hk2; exact ⟨z, rfl, (Option.some.inj hk2).symm⟩
        obtain ⟨m2, ne2⟩ := List.mem_filter.mp (List.mem_of_getElem? hoth)
        have m2 := List.take_subset _ _ m2
        have ne2 : oth ≠ one := by simpa using ne2
        have W12 := W11.off st12 off12
        have h12 := (off12 l sl cl).trans h11
        clear W11 h11 off12 st12 W10 h10
        dsimp only
        refine ⟨_, rfl, .inl ⟨rfl, _, SqL.of h12⟩, _, rfl, _, rfl, _, rfl, _, rfl, by show 3 ≤ sizeLine; decide, fun v hv => ?_⟩
        have W13 := W12.ext (Ex.new (o := .lst [.int 1, .int 3, .int 30]) hv)
        have h13 := Ex.new (o := .lst [.int 1, .int 3, .int 30]) hv _ _ h12
        refine ⟨s, c, v, [.int 1, .int 3, .int 30], rfl, W13.st, upd_same, W12.st.ne_s hv, W12.st.ne_c hv, by decide, by decide, fun k3 x3 H14 hk3 st14 off14 => ?_⟩
        obtain ⟨g, rfl, g1, g30⟩ : ∃ g : Int, x3 = .int g ∧ 1 ≤ g ∧ g ≤ 30 := by
          have h3 := (List.getElem?_eq_some_iff.mp hk3).1
          have h3 : k3 < 3 := h3
          rcases (show k3 = 0 ∨ k3 = 1 ∨ k3 = 2 by omega) with rfl | rfl | rfl
          · exact ⟨1, (Option.some.inj hk3).symm, by decide, by decide⟩
          · exact ⟨3, (Option.some.inj hk3).symm, by decide, by decide⟩
          · exact ⟨30, (Option.some.inj hk3).symm, by decide, by decide⟩
        have W14 := W13.off st14 off14
        have h14 := (off14 l sl cl).trans h13
        refine ⟨s, c, g, rfl, W14.st, by omega, by omega, fun cst H15 cs0 cs1 st15 off15 => ⟨_, _, rfl, rfl, by show 3 ≤ sizeLine; decide, fun T3 hT3 => ?_⟩⟩
        have W15 := W14.off st15 off15
        have h15 := (off15 l sl cl).trans h14
        have eT := Ex.new (o := .tup [.int one, .int oth, .int (1 + cst)]) hT3
        have W16 := (W15.ext eT).know (o := .tup [.int one, .int oth, .int (1 + cst)]) upd_same (W15.st.ne_s hT3) (W15.st.ne_c hT3)
        have h16 := eT _ _ h15
        have lT : l ≠ T3 := ne_of_none h15 hT3
        have lts := Paired.length hts
        refine ⟨l, ts, .ref T3, rfl, rfl, h16, len_lt (by omega), ?_⟩
        have eBT : Ex B' (upd B' T3 (.tup [.int one, .int oth, .int (1 + cst)])) := ex_know (W15.none_of hT3)
        have hsn : RowsAt (upd B' T3 (.tup [.int one, .int oth, .int (1 + cst)])) (ts ++ [.ref T3]) (rs ++ [(one, oth, 1 + cst)]) := RowsAt.snoc (a := T3) (r := (one, oth, 1 + cst)) upd_same (hts.mono eBT)
        have bl16 : (upd B' T3 (.tup [.int one, .int oth, .int (1 + cst)])) l = none := by rw [upd_ne lT]; exact bl'
        refine ⟨_, _, _, _, _, ts ++ [.ref T3], rs ++ [(one, oth, 1 + cst)], rfl, eB.trans eBT, bl16, W16.mut bl16 sl cl, upd_same, hsn, by rw [List.length_append, lr]; rfl, fun r hr => ?_⟩
        rcases List.mem_append.mp hr with h | h
        · exact ok r h
        · rw [List.mem_singleton.mp h]
          exact ⟨m1, m2, fun e => ne2 e.symm, by show 1 ≤ 1 + cst; omega, by show 1 + cst ≤ 30; omega⟩
      · rintro σ H8 ⟨y5, y6, y7, y10, B', ts, rs, rfl, eB, bl', W8, h8, hts, lr, ok⟩
        refine ⟨_, rfl, _, rfl, by show 2 ≤ sizeLine; decide, fun t9 ht9 => ?_⟩
        have WL := W8.know h8 sl cl
        have eL := ex_know (o := .lst ts) bl'
        have W9 := (WL.ext (Ex.new (o := .tup [.ref p, .ref l]) ht9)).know (o := .tup [.ref p, .ref l]) upd_same (WL.st.ne_s ht9) (WL.st.ne_c ht9)
        have eT := ex_know (o := .tup [.ref p, .ref l]) (WL.none_of ht9)
        exact q t9 p l ps ts rs _ _ (eP.trans (eB.trans (eL.trans eT))) W9 upd_same (eT _ _ (eL _ _ (eB _ _ kP))) (eT _ _ upd_same) (hts.mono (eL.trans eT)) plc ⟨by omega, ok⟩
end
end K37

set_option maxHeartbeats 2000000
namespace K37
open PySem PySem.Spec PyProof.Rows L2 Evl MyG
/-! ### what makes a net -/
def sp_isnum : Sp := fun vs H Q _ => ∃ x t, vs = [x] ∧ AnyT H x t ∧ Q (.bl (t == "int")) H
def hallV : V → Bool
  | .int i => decide (0 ≤ i) && decide (i ≤ 999)
  | _ => false
def hallsB (xs : List V) : Bool := decide (1 ≤ xs.length) && (decide (xs.length ≤ 8) && (xs.all hallV && decide xs.Nodup))
def sp_areh : Sp := fun vs H Q _ => ∃ x t, vs = [x] ∧ AnyT H x t ∧ (t ≠ "list" → Q (.bl false) H) ∧ (t = "list" → ∃ a xs, x = .ref a ∧ H a = some (.lst xs) ∧ xs.length ≤ 1000 ∧ (∀ y ∈ xs, ∃ ty, AnyT H y ty) ∧ ∀ H', Ex H H' → Q (.bl (hallsB xs)) H')
theorem int_of' {H : Hp} {x : V} {t : String} (h : AnyT H x t) (e : t = "int") : ∃ i, x = .int i := by
  cases h with
  | int i => exact ⟨i, rfl⟩
  | _ => exact absurd e (by decide)
theorem int_of {H : Hp} {x : V} (h : AnyT H x "int") : ∃ i, x = .int i := int_of' h rfl
theorem not_int {H : Hp} {x : V} {t : String} (h : AnyT H x t) (ht : t ≠ "int") : hallV x = false := by
  cases h with
  | int i => exact absurd rfl ht
  | _ => rfl
theorem ints_of {xs : List V} (h : xs.all hallV = true) : ∃ ns : List Int, xs = ns.map V.int := by
  induction xs with
  | nil => exact ⟨[], rfl⟩
  | cons x r ih =>
    rw [List.all_cons, Bool.and_eq_true] at h
    obtain ⟨ns, rfl⟩ := ih h.2
    cases x with
    | int i => exact ⟨i :: ns, rfl⟩
    | _ => exact absurd h.1 (by simp [hallV])
theorem nodup_ints {ns : List Int} : (ns.map V.int).Nodup ↔ ns.Nodup := by
  constructor
  · intro h
    exact List.Pairwise.of_map V.int (fun a b (hab : V.int a ≠ V.int b) (e : a = b) => hab (by rw [e])) h
  · intro h
    exact List.Pairwise.map _ (fun a b (hab : a ≠ b) (e : V.int a = V.int b) => hab (V.int.inj e)) h
section
variable {P : Program} {w : World} {K : PySem.W.Frag} {mg : Str → Option Value} {base : Heap}
theorem ok_isnum (T : Tx K mg) : FnOk P w K mg base CX0 1 T.a_is_number T.d_is_number ["thing"] sp_isnum := by
  refine T.F_is_number.ok sc_is_number (fun vs H Q E h => ?_) (fun cdv A outer s H vs Q E hr h => ?_)
  · obtain ⟨_, _, rfl, _⟩ := h
    rfl
  · obtain ⟨x, t, rfl, ht, q⟩ := h
    refine ⟨_, (pss_one (ps_ret (pe_and (pe_callB (isiK (K := K) rfl) (by rfl) T.z_isinstance (by decide +kernel) (pa_cons (pv 0) (pa_cons (pe_bltn (v := .ty "int") (by rfl) T.z_int (by decide +kernel) rfl) pa_nil))) (pe_one (pe_not (pe_callB (isiK (K := K) rfl) (by rfl) T.z_isinstance (by decide +kernel) (pa_cons (pv 0) (pa_cons (pe_bltn (v := .ty "bool") (by rfl) T.z_bool (by decide +kernel) rfl) pa_nil)))))))), ?_⟩
    refine ⟨_, rfl, ?_⟩
    refine ⟨_, .ty "int", _, .type "int", _, rfl, .ty _, ht.ty, kit_ty (kit_all ht.mem).1, ?_⟩
    refine ⟨_, rfl, ?_⟩
    cases hb : (t == "int" || t == "bool") with
    | true =>
      refine iteT ?_
      refine ⟨_, rfl, ?_⟩
      refine ⟨_, .ty "bool", _, .type "bool", _, rfl, .ty _, ht.ty, kit_ty (kit_all ht.mem).2.1, ?_⟩
      refine ⟨_, rfl, ?_⟩
      rw [Bool.or_eq_true] at hb
      rcases hb with e | e
      · rw [eq_of_beq e] at q ⊢
        exact q
      · rw [eq_of_beq e] at q ⊢
        exact q
    | false =>
      refine iteF ?_
      rw [Bool.or_eq_false_iff] at hb
      rw [hb.1] at q
      exact q
theorem ok_areh (T : Tx K mg) : FnOk P w K mg base CX0 2 T.a__are_halls T.d__are_halls ["things"] sp_areh := by
  have G_is_number := ok_isnum (P := P) (w := w) (base := base) T
  refine T.F__are_halls.ok sc__are_halls (fun vs H Q E h => ?_) (fun cdv A outer s H vs Q E hr h => ?_)
  · obtain ⟨_, _, rfl, _⟩ := h
    rfl
  · obtain ⟨x, t, rfl, ht, q1, q2⟩ := h
    refine ⟨_, (pss_one (ps_ret (pe_and (pe_callB (isiK (K := K) rfl) (by rfl) T.z_isinstance (by decide +kernel) (pa_cons (pv 0) (pa_cons (pe_bltn (v := .ty "list") (by rfl) T.z_list (by decide +kernel) rfl) pa_nil))) (pe_and (pe_chain op_le op_le pe_int (pe_callB (lenK (K := K) rfl) (by rfl) T.z_len (by decide +kernel) (pa_cons (pv 0) pa_nil)) (pe_glob (v := .int (8)) rfl T.v_MOST_HALLS ⟨_, rfl⟩)) (pe_and (pe_callB (allK (K := K) rfl rfl) (by rfl) T.z_all (by decide +kernel) (pa_cons (pe_lc (own := [("thing", 1)]) (g := (gName 1)) (tt := tYes) rfl sc__are_halls.nd (iListK (K := K) rfl (pv 0)) (blkOk_by (N := n__are_halls) (sc := defScope s__are_halls) (by decide +kernel)) (fun _ _ _ _ _ => (pg_name (i := 1) sc__are_halls.nd rfl (Or.inl rfl))) (fun _ _ _ _ _ => pts_nil) (fun _ _ _ _ _ => (pe_and (pe_call G_is_number (hr.mono (by decide)) (by rfl) T.g_is_number T.F_is_number.kp T.b_is_number .nil pass0 (pa_cons (pv 1) pa_nil)) (pe_one (pe_chain op_le op_le pe_int (pv 1) (pe_glob (v := .int (999)) rfl T.v_LAST_HALL ⟨_, rfl⟩)))))) pa_nil)) (pe_one (pe_cmpR op_eq (lenSetK (K := K) rfl (by rfl) T.z_len (by rfl) T.z_set (pv 0)) (pe_callB (lenK (K := K) rfl) (by rfl) T.z_len (by decide +kernel) (pa_cons (pv 0) pa_nil)) (nomark _)))))))), ?_⟩
    refine ⟨_, rfl, ?_⟩
    refine ⟨_, .ty "list", _, .type "list", _, rfl, .ty _, ht.ty, kit_ty (kit_all ht.mem).2.2.1, ?_⟩
    refine ⟨_, rfl, ?_⟩
    by_cases e : t = "list"
    · subst e
      obtain ⟨a, xs, rfl, ha, hz, hany, q⟩ := q2 rfl
      refine iteT ?_
      -- 1 <= len(things) <= MOST_HALLS
      refine ⟨_, rfl, a, _, rfl, .inl (SqL.of ha), 1, _, rfl, rfl, _, rfl, ?_⟩
      by_cases l1 : 1 ≤ xs.length
      · rw [decide_eq_true (show (1 : Int) ≤ (xs.length : Int) by omega)]
        refine iteT ⟨_, 8, rfl, rfl, _, rfl, ?_⟩
        by_cases l2 : xs.length ≤ 8
        · rw [decide_eq_true (show (xs.length : Int) ≤ 8 by omega)]
          refine iteT ?_
          -- all([..])
          refine un_and (un_cb (un_cons ?_))
          refine go_L (el_map (ys := (xs.map hallV).map V.bl) (ev_var rfl) (SqL.of ha) (by omega) (by simp) (fun _ => rfl) (fun i x y H1 e1 hx hy => ?_)) (fun p H1 hp e1 h1 => ?_)
          · have hxm := List.mem_of_getElem? hx
            rw [List.map_map, List.getElem?_map, hx] at hy
            obtain rfl := Option.some.inj hy
            obtain ⟨ty, hty⟩ := hany x hxm
            intro H2 e2 Q q
            refine ⟨_, rfl, x, ty, rfl, (hty.ext e1).ext e2, _, rfl, ?_⟩
            by_cases ei : ty = "int"
            · subst ei
              obtain ⟨i, rfl⟩ := int_of hty
              refine iteT ⟨_, rfl, 0, i, rfl, rfl, _, rfl, ?_⟩
              by_cases h0 : 0 ≤ i
              · rw [decide_eq_true h0]
                refine iteT ⟨i, 999, rfl, rfl, ?_⟩
                have z := q H2 (Ex.refl _)
                show Q (.bl (decide (i ≤ 999))) H2
                have ez : hallV (.int i) = decide (i ≤ 999) := by
                  show (decide (0 ≤ i) && decide (i ≤ 999)) = _
                  rw [decide_eq_true h0, Bool.true_and]
                rw [← ez]
                exact z
              · rw [decide_eq_false h0]
                refine iteF ?_
                have z := q H2 (Ex.refl _)
                have ez : hallV (.int i) = false := by
                  show (decide (0 ≤ i) && decide (i ≤ 999)) = _
                  rw [decide_eq_false h0, Bool.false_and]
                rw [← ez]
                exact z
            · have eb : (ty == "int") = false := beq_eq_false_iff_ne.mpr ei
              rw [eb]
              refine iteF ?_
              have z := q H2 (Ex.refl _)
              have ez := not_int hty ei
              rw [← ez]
              exact z
          · refine ⟨p, xs.map hallV, rfl, SqL.of h1, _, rfl, ?_⟩
            have eall : (xs.map hallV).all id = xs.all hallV := by rw [List.all_map]; rfl
            rw [eall]
            cases hall : xs.all hallV with
            | true =>
              refine iteT ?_
              -- len(set(things)) == len(things)
              obtain ⟨ns, rfl⟩ := ints_of hall
              refine ⟨_, rfl, a, ns, rfl, SqL.of (e1 _ _ ha), by rw [List.length_map] at hz; omega, fun n hn => ⟨_, rfl, a, _, rfl, .inl (SqL.of (e1 _ _ ha)), rfl, ?_⟩⟩
              have z := q H1 e1
              have ez : hallsB (ns.map V.int) = decide (V.int (n : Int) = V.int ((ns.map V.int).length : Nat)) := by
                unfold hallsB
                rw [decide_eq_true l1, decide_eq_true l2, hall, Bool.true_and, Bool.true_and, Bool.true_and]
                refine decide_eq_decide.mpr (nodup_ints.trans (hn.symm.trans ?_))
                rw [List.length_map]
                exact ⟨fun e => by rw [e], fun e => by have := V.int.inj e; omega⟩
              rw [← ez]
              exact z
            | false =>
              refine iteF ?_
              have z := q H1 e1
              have ez : hallsB xs = false := by
                unfold hallsB
                rw [hall, Bool.false_and, Bool.and_false, Bool.and_false]
              rw [ez] at z
              exact z
        · rw [decide_eq_false (show ¬ (xs.length : Int) ≤ 8 by omega)]
          refine iteF ?_
          have z := q H (Ex.refl _)
          have ez : hallsB xs = false := by
            unfold hallsB
            rw [decide_eq_false l2, Bool.false_and, Bool.and_false]
          rw [ez] at z
          exact z
      · rw [decide_eq_false (show ¬ (1 : Int) ≤ (xs.length : Int) by omega)]
        refine iteF ⟨_, rfl, iteF ?_⟩
        have z := q H (Ex.refl _)
        have ez : hallsB xs = false := by
          unfold hallsB
          rw [decide_eq_false l1, Bool.false_and]
        rw [ez] at z
        exact z
    · have eb : (t == "list") = false := beq_eq_false_iff_ne.mpr e
      rw [eb]
      exact iteF (q1 e)
end
end K37

set_option maxHeartbeats 2000000
namespace K37
open PySem PySem.Spec PyProof.Rows L2 Evl MyG
def linkB (hs : List Int) : List V → Bool
  | [.int a, .int b, .int c] => decide (a ∈ hs) && (decide (b ∈ hs) && (!decide (a = b) && (decide (1 ≤ c) && decide (c ≤ 30))))
  | _ => false
def sp_isl : Sp := fun vs H Q _ => ∃ x t h hs, vs = [x, .ref h] ∧ AnyT H x t ∧ H h = some (.lst (hs.map V.int)) ∧ (t ≠ "tuple" → Q (.bl false) H) ∧
  (t = "tuple" → ∃ a xs, x = .ref a ∧ H a = some (.tup xs) ∧ xs.length ≤ 1000 ∧ (∀ y ∈ xs, ∃ ty, AnyT H y ty) ∧ ∀ H', Ex H H' → Q (.bl (linkB hs xs)) H')
theorem el_mapT {K : PySem.W.Frag} {σ : L2.St} {H : Hp} {te : TE} {a : Addr} {xs ys : List V} {tl : TE} {j : Nat} {vs : List Nat} (h : Ev tl σ H (.ref a)) (hx : SqT K H a xs) (hz : xs.length ≤ 40000) (hl : ys.length = xs.length)
    (hw : ∀ x, wipe ((wipe σ vs).set j (some x)) vs = wipe σ vs) (he : ∀ (i : Nat) (x y : V) H1, Ex H H1 → xs[i]? = some x → ys[i]? = some y → Ev te ((wipe σ vs).set j (some x)) H1 y) : EvL (tLc (iTup K tl) (gName j) tYes te vs) σ H ys := fun H0 e Q q =>
  h H0 e _ fun H1 e1 => ⟨a, rfl, ⟨xs, ex_t (e.trans e1) hx⟩, fun Dl hD => by
    refine lc_tup (xs := xs) (fun i H' => Ex H1 H' ∧ H' Dl = some (.lst (ys.take i))) ⟨Ex.new hD, upd_same⟩ (fun i H' _ p => ex_t ((e.trans e1).trans p.1) hx) (fun i x H' hi p => ⟨hw x, un_yes (iteT ?_)⟩) (fun H' p => q Dl H' (fresh_back e1 hD) (e1.trans p.1) ?_)
    · have h1 := (List.getElem?_eq_some_iff.mp hi).1
      have h2 : i < ys.length := by omega
      refine he i x ys[i] H' ((e.trans e1).trans p.1) hi (List.getElem?_eq_getElem h2) H' (Ex.refl _) _ (fun H2 e2 => ⟨_, e2 _ _ p.2, ?_, (p.1.trans e2).mut hD, ?_⟩)
      · rw [List.length_take]; exact sz_lt (by omega)
      · rw [upd_same, List.take_add_one, List.getElem?_eq_getElem h2]; rfl
    · rw [p.2, ← hl, List.take_length]⟩
theorem link_no (hs : List Int) {xs : List V} (h : xs.all (fun x => match x with | .int _ => true | _ => false) = false) : linkB hs xs = false := by
  unfold linkB
  split
  · exact absurd h (by simp)
  · rfl
section
variable {P : Program} {w : World} {K : PySem.W.Frag} {mg : Str → Option Value} {base : Heap}
theorem ok_isl (T : Tx K mg) : FnOk P w K mg base CX0 2 T.a__is_link T.d__is_link ["thing", "halls"] sp_isl := by
  have G_is_number := ok_isnum (P := P) (w := w) (base := base) T
  refine T.F__is_link.ok sc__is_link (fun vs H Q E h => ?_) (fun cdv A outer s H vs Q E hr h => ?_)
  · obtain ⟨_, _, _, _, rfl, _⟩ := h
    rfl
  · obtain ⟨x, t, h, hs, rfl, ht, hh, q1, q2⟩ := h
    refine ⟨_, (pss_cons (ps_if (PW.pt (pw_or (pt_not (pt_val (pe_callB (isiK (K := K) rfl) (by rfl) T.z_isinstance (by decide +kernel) (pa_cons (pv 0) (pa_cons (pe_bltn (v := .ty "tuple") (by rfl) T.z_tuple (by decide +kernel) rfl) pa_nil))))) (pw_or1 (pt_cmpR op_ne (pe_callB (lenK (K := K) rfl) (by rfl) T.z_len (by decide +kernel) (pa_cons (pv 0) pa_nil)) pe_int (nomark _))))) (pss_one (ps_ret pe_bl)) pss_nil)
  (pss_cons (ps_if (pt_not (pt_val (pe_callB (allK (K := K) rfl rfl) (by rfl) T.z_all (by decide +kernel) (pa_cons (pe_lc (own := [("part", 5)]) (g := (gName 5)) (tt := tYes) rfl sc__is_link.nd (iTupK (K := K) rfl (pv 0)) (blkOk_by (N := n__is_link) (sc := defScope s__is_link) (by decide +kernel)) (fun _ _ _ _ _ => (pg_name (i := 5) sc__is_link.nd rfl (Or.inl rfl))) (fun _ _ _ _ _ => pts_nil) (fun _ _ _ _ _ => (pe_call G_is_number (hr.mono (by decide)) (by rfl) T.g_is_number T.F_is_number.kp T.b_is_number .nil pass0 (pa_cons (pv 5) pa_nil)))) pa_nil)))) (pss_one (ps_ret pe_bl)) pss_nil)
  (pss_cons (ps_asg (pv 0) (pg_tup rfl (pgs_cons (pg_name (i := 2) sc__is_link.nd rfl (Or.inl rfl)) (pgs_cons (pg_name (i := 3) sc__is_link.nd rfl (Or.inl rfl)) (pgs_cons (pg_name (i := 4) sc__is_link.nd rfl (Or.inl rfl)) pgs_nil)))))
  (pss_one (ps_ret (pe_and (pe_cmpR (op_inK (K := K) rfl) (pv 2) (pv 1) (by rfl)) (pe_and (pe_cmpR (op_inK (K := K) rfl) (pv 3) (pv 1) (by rfl)) (pe_and (pe_cmpR op_ne (pv 2) (pv 3) (nomark _)) (pe_one (pe_chain op_le op_le pe_int (pv 4) (pe_glob (v := .int (30)) rfl T.v_MOST_COST ⟨_, rfl⟩))))))))))), ?_⟩
    refine ⟨_, rfl, ?_⟩
    refine ⟨_, .ty "tuple", _, .type "tuple", _, rfl, .ty _, ht.ty, kit_ty (kit_all ht.mem).2.2.2.1, _, rfl, ?_⟩
    by_cases e : t = "tuple"
    · subst e
      obtain ⟨a, xs, rfl, ha, hz, hany, q⟩ := q2 rfl
      refine iteF ?_
      -- len(thing) != 3
      refine ⟨_, rfl, a, _, rfl, .inr (SqT.of ha), rfl, _, rfl, ?_⟩
      by_cases l3 : xs.length = 3
      · rw [show decide (V.int (xs.length : Nat) = V.int 3) = true from decide_eq_true (by rw [l3]; rfl)]
        refine iteF ?_
        -- if not all([..])
        let isI : V → Bool := fun x => match x with | .int _ => true | _ => false
        refine un_next ?_
        dsimp only
        refine un_seq (un_if (un_not (un_tB (un_cb (un_cons ?_)))))
        refine go_L (el_mapT (ys := (xs.map isI).map V.bl) (ev_var rfl) (SqT.of ha) (by omega) (by simp) (fun _ => rfl) (fun i x y H1 e1 hx hy => ?_)) (fun p H1 hp e1 h1 => ?_)
        · have hxm := List.mem_of_getElem? hx
          rw [List.map_map, List.getElem?_map, hx] at hy
          obtain rfl := Option.some.inj hy
          obtain ⟨ty, hty⟩ := hany x hxm
          intro H2 e2 Q q
          refine ⟨_, rfl, x, ty, rfl, (hty.ext e1).ext e2, ?_⟩
          have z := q H2 (Ex.refl _)
          have ez : isI x = (ty == "int") := by
            cases hty <;> rfl
          rw [← ez]
          exact z
        · refine ⟨p, xs.map isI, rfl, SqL.of h1, _, rfl, ?_⟩
          have eall : (xs.map isI).all id = xs.all isI := by rw [List.all_map]; rfl
          rw [eall]
          cases hall : xs.all isI with
          | false =>
            refine iteT ?_
            have z := q H1 e1
            rw [link_no hs hall] at z
            exact z
          | true =>
            refine iteF ?_
            obtain ⟨o, u, v, rfl⟩ : ∃ o u v : Int, xs = [.int o, .int u, .int v] := by
              match xs, l3, hall with
              | [x1, x2, x3], _, hall =>
                rw [List.all_eq_true] at hall
                have f : ∀ x, isI x = true → ∃ i, x = .int i := fun x hx => by
                  cases x with
                  | int i => exact ⟨i, rfl⟩
                  | _ => exact absurd hx (by simp [isI])
                obtain ⟨o, rfl⟩ := f x1 (hall x1 (by simp))
                obtain ⟨u, rfl⟩ := f x2 (hall x2 (by simp))
                obtain ⟨v, rfl⟩ := f x3 (hall x3 (by simp))
                exact ⟨o, u, v, rfl⟩
            have hh1 := e1 _ _ hh
            -- one, other, cost = thing
            refine ⟨_, rfl, a, _, rfl, SqT.of (e1 _ _ ha), rfl, _, _, rfl, _, _, rfl, _, _, rfl, rfl, ?_⟩
            -- return ..
            have z := q H1 e1
            have ez : linkB hs [.int o, .int u, .int v] = (decide (o ∈ hs) && (decide (u ∈ hs) && (!decide (o = u) && (decide (1 ≤ v) && decide (v ≤ 30))))) := rfl
            rw [ez] at z
            refine ⟨_, rfl, _, rfl, h, _, rfl, .inl (SqL.of hh1), rfl, flat_ints hs, _, rfl, ?_⟩
            rw [inV_ints]
            cases d1 : decide (o ∈ hs) with
            | false =>
              rw [d1] at z
              exact iteF z
            | true =>
              rw [d1] at z
              refine iteT ⟨_, rfl, _, rfl, h, _, rfl, .inl (SqL.of hh1), rfl, flat_ints hs, _, rfl, ?_⟩
              rw [inV_ints]
              cases d2 : decide (u ∈ hs) with
              | false =>
                rw [d2] at z
                exact iteF z
              | true =>
                rw [d2] at z
                refine iteT ⟨_, rfl, _, rfl, rfl, _, rfl, ?_⟩
                have e3 : decide (V.int o = V.int u) = decide (o = u) := decide_eq_decide.mpr ⟨fun e => V.int.inj e, fun e => by rw [e]⟩
                rw [e3]
                cases d3 : decide (o = u) with
                | true =>
                  rw [d3] at z
                  exact iteF z
                | false =>
                  rw [d3] at z
                  refine iteT ⟨_, rfl, 1, v, rfl, rfl, _, rfl, ?_⟩
                  cases d4 : decide (1 ≤ v) with
                  | false =>
                    rw [d4] at z
                    exact iteF z
                  | true =>
                    rw [d4] at z
                    exact iteT ⟨v, 30, rfl, rfl, z⟩
      · rw [show decide (V.int (xs.length : Nat) = V.int 3) = false from decide_eq_false (fun e => l3 (by have := V.int.inj e; omega))]
        refine iteT ?_
        have z := q H (Ex.refl _)
        have ez : linkB hs xs = false := by
          unfold linkB
          split
          · exact absurd rfl l3
          · rfl
        rw [ez] at z
        exact z
    · have eb : (t == "tuple") = false := beq_eq_false_iff_ne.mpr e
      rw [eb]
      exact iteT (q1 e)
end
end K37

set_option maxHeartbeats 2000000
namespace K37
open PySem PySem.Spec PyProof.Rows L2 Evl MyG
/-- what each thing of a list of links is: a tuple of these, or none -/
def ThingsAt (H : Hp) : List V → List (Option (List V)) → Prop := Paired fun (x : V) (d : Option (List V)) => match d with
  | none => ∃ t, AnyT H x t ∧ t ≠ "tuple"
  | some ys => ∃ a, x = .ref a ∧ H a = some (.tup ys) ∧ ys.length ≤ 1000 ∧ ∀ y ∈ ys, ∃ ty, AnyT H y ty
def thingB (hs : List Int) : Option (List V) → Bool
  | none => false
  | some ys => linkB hs ys
def linksB (hs : List Int) (ds : List (Option (List V))) : Bool := decide (ds.length ≤ 12) && ds.all (thingB hs)
def sp_arel : Sp := fun vs H Q _ => ∃ x t h hs, vs = [x, .ref h] ∧ AnyT H x t ∧ H h = some (.lst (hs.map V.int)) ∧ (t ≠ "list" → Q (.bl false) H) ∧
  (t = "list" → ∃ a xs ds, x = .ref a ∧ H a = some (.lst xs) ∧ xs.length ≤ 1000 ∧ ThingsAt H xs ds ∧ ∀ H', Ex H H' → Q (.bl (linksB hs ds)) H')
theorem paired_at {α β : Type} {R : α → β → Prop} : ∀ {xs : List α} {ys : List β} {i : Nat} {x : α}, Paired R xs ys → xs[i]? = some x → ∃ y, ys[i]? = some y ∧ R x y
  | _, _, _, _, .nil, e => by simp at e
  | _, _, 0, _, .cons r _, e => by simp at e; subst e; exact ⟨_, rfl, r⟩
  | _, _, i + 1, x, .cons _ t, e => by
    obtain ⟨y, h1, h2⟩ := paired_at (i := i) (x := x) t (by simpa using e)
    exact ⟨y, by simpa using h1, h2⟩
section
variable {P : Program} {w : World} {K : PySem.W.Frag} {mg : Str → Option Value} {base : Heap}
theorem ok_arel (T : Tx K mg) : FnOk P w K mg base CX0 3 T.a__are_links T.d__are_links ["things", "halls"] sp_arel := by
  have G__is_link := ok_isl (P := P) (w := w) (base := base) T
  refine T.F__are_links.ok sc__are_links (fun vs H Q E h => ?_) (fun cdv A outer s H vs Q E hr h => ?_)
  · obtain ⟨_, _, _, _, rfl, _⟩ := h
    rfl
  · obtain ⟨x, t, h, hs, rfl, ht, hh, q1, q2⟩ := h
    refine ⟨_, (pss_one (ps_ret (pe_and (pe_callB (isiK (K := K) rfl) (by rfl) T.z_isinstance (by decide +kernel) (pa_cons (pv 0) (pa_cons (pe_bltn (v := .ty "list") (by rfl) T.z_list (by decide +kernel) rfl) pa_nil))) (pe_and (pe_cmpR op_le (pe_callB (lenK (K := K) rfl) (by rfl) T.z_len (by decide +kernel) (pa_cons (pv 0) pa_nil)) (pe_glob (v := .int (12)) rfl T.v_MOST_LINKS ⟨_, rfl⟩) (nomark _)) (pe_one (pe_callB (allK (K := K) rfl rfl) (by rfl) T.z_all (by decide +kernel) (pa_cons (pe_lc (own := [("thing", 2)]) (g := (gName 2)) (tt := tYes) rfl sc__are_links.nd (iListK (K := K) rfl (pv 0)) (blkOk_by (N := n__are_links) (sc := defScope s__are_links) (by decide +kernel)) (fun _ _ _ _ _ => (pg_name (i := 2) sc__are_links.nd rfl (Or.inl rfl))) (fun _ _ _ _ _ => pts_nil) (fun _ _ _ _ _ => (pe_call G__is_link (hr.mono (by decide)) (by rfl) T.g__is_link T.F__is_link.kp T.b__is_link .nil pass0 (pa_cons (pv 2) (pa_cons (pv 1) pa_nil))))) pa_nil))))))), ?_⟩
    refine ⟨_, rfl, ?_⟩
    refine ⟨_, .ty "list", _, .type "list", _, rfl, .ty _, ht.ty, kit_ty (kit_all ht.mem).2.2.1, _, rfl, ?_⟩
    by_cases e : t = "list"
    · subst e
      obtain ⟨a, xs, ds, rfl, ha, hz, hds, q⟩ := q2 rfl
      have ldx : xs.length = ds.length := Paired.length hds
      refine iteT ?_
      -- len(things) <= MOST_LINKS
      refine ⟨_, rfl, a, _, rfl, .inl (SqL.of ha), _, 12, rfl, rfl, _, rfl, ?_⟩
      by_cases l2 : xs.length ≤ 12
      · rw [decide_eq_true (show (xs.length : Int) ≤ 12 by omega)]
        refine iteT ?_
        refine un_cb (un_cons ?_)
        refine go_L (el_map (ys := (ds.map (thingB hs)).map V.bl) (ev_var rfl) (SqL.of ha) (by omega) (by simp [ldx]) (fun _ => rfl) (fun i x y H1 e1 hx hy => ?_)) (fun p H1 hp e1 h1 => ?_)
        · obtain ⟨d, hd, hR⟩ := paired_at hds hx
          rw [List.map_map, List.getElem?_map, hd] at hy
          obtain rfl := Option.some.inj hy
          intro H2 e2 Q q
          have z := q H2 (Ex.refl _)
          have ee := e1.trans e2
          cases d with
          | none =>
            obtain ⟨t, hty, hne⟩ := hR
            exact ⟨_, rfl, _, rfl, x, t, h, hs, rfl, hty.ext ee, ee _ _ hh, fun _ => z, fun e => absurd e hne⟩
          | some ys =>
            obtain ⟨b, rfl, hb, hbl, hby⟩ := hR
            exact ⟨_, rfl, _, rfl, .ref b, "tuple", h, hs, rfl, .tup (ee _ _ hb), ee _ _ hh, fun e => absurd rfl e, fun _ => ⟨b, ys, rfl, ee _ _ hb, hbl, fun y hy => let ⟨ty, k⟩ := hby y hy; ⟨ty, k.ext ee⟩, fun H3 e3 => q H3 e3⟩⟩
        · refine ⟨p, ds.map (thingB hs), rfl, SqL.of h1, ?_⟩
          have z := q H1 e1
          have eall : (ds.map (thingB hs)).all id = linksB hs ds := by
            unfold linksB
            rw [decide_eq_true (show ds.length ≤ 12 by omega), Bool.true_and, List.all_map]
            rfl
          rw [eall]
          exact z
      · rw [decide_eq_false (show ¬ (xs.length : Int) ≤ 12 by omega)]
        refine iteF ?_
        have z := q H (Ex.refl _)
        have ez : linksB hs ds = false := by
          unfold linksB
          rw [decide_eq_false (show ¬ ds.length ≤ 12 by omega), Bool.false_and]
        rw [ez] at z
        exact z
    · have eb : (t == "list") = false := beq_eq_false_iff_ne.mpr e
      rw [eb]
      exact iteF (q1 e)
end
/-! ### a net -/
def nf (h r l : Addr) : List (Str × V) := putF "_links" (.ref l) (putF "_rising" (.ref r) (putF "_handed" (.ref h) []))
theorem hr_ : ¬ (("_handed" : Str) = "_rising") := by decide +kernel
theorem hl_ : ¬ (("_handed" : Str) = "_links") := by decide +kernel
theorem rl_ : ¬ (("_rising" : Str) = "_links") := by decide +kernel
theorem nf_h (h r l : Addr) : (nf h r l).lookup ("_handed" : Str) = some (.ref h) := by
  unfold nf
  rw [lookup_putF, if_neg hl_, lookup_putF, if_neg hr_, lookup_putF, if_pos rfl]
theorem nf_r (h r l : Addr) : (nf h r l).lookup ("_rising" : Str) = some (.ref r) := by
  unfold nf
  rw [lookup_putF, if_neg rl_, lookup_putF, if_pos rfl]
theorem nf_l (h r l : Addr) : (nf h r l).lookup ("_links" : Str) = some (.ref l) := by
  unfold nf
  rw [lookup_putF, if_pos rfl]
theorem nf_no (h r l : Addr) {m : Str} (h1 : ¬ m = "_links") (h2 : ¬ m = "_rising") (h3 : ¬ m = "_handed") : (nf h r l).lookup m = none := by
  unfold nf
  rw [lookup_putF, if_neg h1, lookup_putF, if_neg h2, lookup_putF, if_neg h3]
  rfl
structure NetAt (C : Addr) (B : Hp) (n : Addr) (ps qs : List Int) (rs : List Row) : Prop where
  ex : ∃ dx h r l ts, B n = some (.ins C dx (nf h r l)) ∧ B h = some (.lst (ps.map V.int)) ∧ B r = some (.lst (qs.map V.int)) ∧ B l = some (.lst ts) ∧ RowsAt B ts rs
  pm : qs.Perm ps
  so : qs.Pairwise (· ≤ ·)
theorem halls_ok {ps : List Int} (h : Places ps) : hallsB (ps.map V.int) = true := by
  unfold hallsB
  rw [List.length_map, decide_eq_true h.l0, decide_eq_true h.l1, decide_eq_true (nodup_ints.mpr h.nd)]
  rw [Bool.true_and, Bool.true_and, Bool.and_true, List.all_map, List.all_eq_true]
  intro x hx
  obtain ⟨h0, h1⟩ := h.bd x hx
  show (decide (0 ≤ x) && decide (x ≤ 999)) = true
  rw [decide_eq_true h0, decide_eq_true h1]
  rfl
theorem links_ok {ps : List Int} {rs : List Row} (h : Roads ps rs) : linksB ps (rs.map fun r => some (rowV r)) = true := by
  unfold linksB
  rw [List.length_map, decide_eq_true h.len, Bool.true_and, List.all_map, List.all_eq_true]
  intro r hr
  have k := h.ok r hr
  show (decide (r.1 ∈ ps) && (decide (r.2.1 ∈ ps) && (!decide (r.1 = r.2.1) && (decide (1 ≤ r.2.2) && decide (r.2.2 ≤ 30))))) = true
  rw [decide_eq_true k.m1, decide_eq_true k.m2, decide_eq_false k.ne, decide_eq_true k.c0, decide_eq_true k.c1]
  rfl
theorem row_int {r : Row} {y : V} (h : y ∈ rowV r) : ∃ i, y = .int i := by
  simp only [rowV, List.mem_cons, List.not_mem_nil, or_false] at h
  rcases h with rfl | rfl | rfl <;> exact ⟨_, rfl⟩
theorem rows_things {B H : Hp} (e : Ex B H) : ∀ {ts : List V} {rs : List Row}, RowsAt B ts rs → ThingsAt H ts (rs.map fun r => some (rowV r))
  | _, _, .nil => .nil
  | _, _, .cons ⟨a, h1, h2⟩ t => .cons ⟨a, h1, e _ _ h2, by show 3 ≤ 1000; decide, fun y hy => by
      obtain ⟨i, rfl⟩ := row_int hy
      exact ⟨"int", .int i⟩⟩ (rows_things e t)
def sp_init (C : Addr) : Sp := fun vs H Q _ => ∃ (dx n a b : Addr) (ps : List Int) (ts : List V) (rs : List Row) (B : Hp), vs = [.ref n, .ref a, .ref b] ∧ H n = some (.ins C dx []) ∧ Ex B H ∧ B n = none ∧ H a = some (.lst (ps.map V.int)) ∧ H b = some (.lst ts) ∧
  Places ps ∧ Roads ps rs ∧ RowsAt B ts rs ∧ ∀ (H' : Hp) (h r l : Addr) (qs : List Int), (∀ x o, x ≠ n → H x = some o → H' x = some o) → H h = none → H r = none → H l = none → H' n = some (.ins C dx (nf h r l)) → H' h = some (.lst (ps.map V.int)) →
    H' r = some (.lst (qs.map V.int)) → qs.Perm ps → qs.Pairwise (· ≤ ·) → H' l = some (.lst ts) → Q .non H'
section
variable {P : Program} {w : World} {K : PySem.W.Frag} {mg : Str → Option Value} {base : Heap}
theorem ok_init (T : Tx K mg) : FnOk P w K mg base CX0 4 T.a_Net___init__ T.d_Net___init__ ["self", "halls", "links"] (sp_init T.c_Net) := by
  have G__are_halls := ok_areh (P := P) (w := w) (base := base) T
  have G__are_links := ok_arel (P := P) (w := w) (base := base) T
  refine T.F_Net___init__.ok sc_Net___init__ (fun vs H Q E h => ?_) (fun cdv A outer s H vs Q E hr h => ?_)
  · obtain ⟨_, _, _, _, _, _, _, _, rfl, _⟩ := h
    rfl
  · obtain ⟨dx, n, a, b, ps, ts, rs, B, rfl, hn, eB, nB, ha, hb, hP, hR, hrs, q⟩ := h
    refine ⟨_, (pss_cons (ps_if (pt_not (pt_val (pe_call G__are_halls (hr.mono (by decide)) (by rfl) T.g__are_halls T.F__are_halls.kp T.b__are_halls .nil pass0 (pa_cons (pv 1) pa_nil)))) (pss_one ps_never) pss_nil)
  (pss_cons (ps_if (pt_not (pt_val (pe_call G__are_links (hr.mono (by decide)) (by rfl) T.g__are_links T.F__are_links.kp T.b__are_links .nil pass0 (pa_cons (pv 2) (pa_cons (pv 1) pa_nil))))) (pss_one ps_never) pss_nil)
  (pss_cons (ps_fld (pv 0) (pe_callTy (listK (K := K) rfl) (by rfl) T.z_list (by decide +kernel) (pa_cons (pv 1) pa_nil)) rfl)
  (pss_cons (ps_fld (pv 0) (pe_callB (sortedK (K := K) rfl) (by rfl) T.z_sorted (by decide +kernel) (pa_cons (pv 1) pa_nil)) rfl)
  (pss_one (ps_fld (pv 0) (pe_callTy (listK (K := K) rfl) (by rfl) T.z_list (by decide +kernel) (pa_cons (pv 2) pa_nil)) rfl)))))), ?_⟩
    have lts := hrs.len
    refine ⟨_, rfl, .ref a, "list", rfl, .lst ha, fun e => absurd rfl e, fun _ => ⟨a, _, rfl, ha, by rw [List.length_map]; have := hP.l1; omega, fun y hy => ?_, fun H1 e1 => ⟨_, rfl, ?_⟩⟩⟩
    · obtain ⟨i, _, rfl⟩ := List.mem_map.mp hy
      exact ⟨"int", .int i⟩
    rw [halls_ok hP]
    refine iteF ?_
    refine ⟨_, rfl, _, rfl, .ref b, "list", a, ps, rfl, .lst (e1 _ _ hb), e1 _ _ ha, fun e => absurd rfl e, fun _ => ⟨b, ts, _, rfl, e1 _ _ hb, by have := hR.len; omega, rows_things (eB.trans e1) hrs, fun H2 e2 => ⟨_, rfl, ?_⟩⟩⟩
    rw [links_ok hR]
    refine iteF ?_
    have e12 := e1.trans e2
    have n2 := e12 _ _ hn
    -- self._handed = list(halls)
    refine ⟨_, rfl, a, _, rfl, .inl (SqL.of (e12 _ _ ha)), fun h hh => ?_⟩
    have nh := ne_of_none n2 hh
    refine ⟨_, rfl, n, T.c_Net, dx, [], rfl, (by rw [upd_ne nh]; exact n2), T.cl_Net, T.n_Net__handed, (by show 0 < 1000; decide), ?_⟩
    -- self._rising = sorted(halls)
    have na : a ≠ n := ne_of ha hn (by intro z; cases z)
    have nah := ne_of_none (e12 _ _ ha) hh
    refine ⟨_, rfl, a, ps, rfl, SqL.of (by rw [upd_ne na, upd_ne nah]; exact e12 _ _ ha), by have := hP.l1; omega, fun qs r hp hso hr' => ?_⟩
    have nrn : r ≠ n := fun z => by rw [z, upd_same] at hr'; cases hr'
    have nrh : r ≠ h := fun z => by rw [z, upd_ne nh.symm, upd_same] at hr'; cases hr'
    have hr0 : H2 r = none := by rw [upd_ne nrn, upd_ne nrh] at hr'; exact hr'
    refine ⟨_, rfl, n, T.c_Net, dx, _, rfl, Eq.trans (upd_ne nrn.symm) upd_same, T.cl_Net, T.n_Net__rising, (by show 1 < 1000; decide), ?_⟩
    -- self._links = list(links)
    have nb : b ≠ n := ne_of hb hn (by intro z; cases z)
    have nbh := ne_of_none (e12 _ _ hb) hh
    have nbr := ne_of_none (e12 _ _ hb) hr0
    refine ⟨_, rfl, b, ts, rfl, .inl (SqL.of (by rw [upd_ne nb, upd_ne nbr, upd_ne nb, upd_ne nbh]; exact e12 _ _ hb)), fun l hl => ?_⟩
    have nln : l ≠ n := fun z => by rw [z, upd_same] at hl; cases hl
    have nlr : l ≠ r := fun z => by rw [z, upd_ne nrn, upd_same] at hl; cases hl
    have nlh : l ≠ h := fun z => by rw [z, upd_ne nh.symm, upd_ne nrh.symm, upd_ne nh.symm, upd_same] at hl; cases hl
    have hl0 : H2 l = none := by rw [upd_ne nln, upd_ne nlr, upd_ne nln, upd_ne nlh] at hl; exact hl
    refine ⟨_, rfl, n, T.c_Net, dx, _, rfl, Eq.trans (upd_ne nln.symm) upd_same, T.cl_Net, T.n_Net__links, (by show 2 < 1000; decide), ?_⟩
    refine q _ h r l qs (fun x o hx e => ?_) (fresh_back e12 hh) (fresh_back e12 hr0) (fresh_back e12 hl0) upd_same ?_ ?_ hp hso ?_
    · have e2' := e12 _ _ e
      rw [upd_ne hx, upd_ne (ne_of_none e2' hl0), upd_ne hx, upd_ne (ne_of_none e2' hr0), upd_ne hx, upd_ne (ne_of_none e2' hh)]
      exact e2'
    · rw [upd_ne nh.symm, upd_ne nlh.symm, upd_ne nh.symm, upd_ne nrh.symm, upd_ne nh.symm, upd_same]
    · rw [upd_ne nrn, upd_ne nlr.symm, upd_ne nrn, upd_same]
    · rw [upd_ne nln, upd_same]
end
end K37

set_option maxHeartbeats 4000000
namespace K37
open PySem PySem.Spec PyProof.Rows L2 Evl MyG
/-! ### what many laws share: texts of data, nets made -/
/-- what can be shown -/
structure Shows (K : PySem.W.Frag) (H : Hp) (x : V) (d : PyData) : Prop where
  dp : Dp K H x d
  sh : d.showable = true
  nd : d.hasDict = false
  dt : d.depth ≤ 40
  ln : d.shown.length ≤ sizeLine
theorem Shows.of {K : PySem.W.Frag} {H : Hp} {x : V} {d : PyData} {k L : Nat} (h : Dp K H x d) (s : Small d k L) (hk : k ≤ 40 := by decide) (hL : L ≤ 16000000 := by decide) : Shows K H x d :=
  ⟨h, s.sh, s.nd, Nat.le_trans s.dp hk, Nat.le_trans (Nat.le_trans s.ln hL) (by rw [sizeLine_eq]; decide)⟩
theorem small_ints {ns : List Int} {N : Nat} (hl : ns.length ≤ N) (hb : ∀ x ∈ ns, x.natAbs < 10 ^ 9) : Small (.list (ns.map PyData.int)) 1 (N * 12 + 3) := by
  have h := small_list (k := 0) (L := 10) (ds := ns.map PyData.int) (fun d hd => by
    obtain ⟨x, hx, rfl⟩ := List.mem_map.mp hd
    exact small_int (hb x hx))
  refine h.mono (Nat.le_refl _) ?_
  rw [List.length_map]
  have := Nat.mul_le_mul_right 12 hl
  omega
theorem fork {te : TE} {σ : L2.St} {H : Hp} {Q : VK} (G : V → Hp → Prop) (h : ∀ K' : VK, (∀ x H', G x H' → K' x H') → te σ H K') (k : ∀ x H', G x H' → Q x H') : te σ H Q := h Q k
/-- a net that was made, and what it was made of, known behind -/
theorem net_made {s c : Addr} {B H3 H' : Hp} {C n dx h r l : Addr} {ps qs : List Int} {ts : List V} {rs : List Row} (W : Wd s c B H3) (hn : H3 n = none) (hdx : H3 dx = none)
    (frame : ∀ x o, x ≠ n → (upd (upd H3 dx (.own n)) n (.ins C dx [])) x = some o → H' x = some o) (hh : (upd (upd H3 dx (.own n)) n (.ins C dx [])) h = none) (hr : (upd (upd H3 dx (.own n)) n (.ins C dx [])) r = none) (hl : (upd (upd H3 dx (.own n)) n (.ins C dx [])) l = none)
    (e1 : H' n = some (.ins C dx (nf h r l))) (e2 : H' h = some (.lst (ps.map V.int))) (e3 : H' r = some (.lst (qs.map V.int))) (pm : qs.Perm ps) (so : qs.Pairwise (· ≤ ·)) (e4 : H' l = some (.lst ts)) (hrs : RowsAt B ts rs) :
    ∃ B3, Ex B B3 ∧ Wd s c B3 H' ∧ NetAt C B3 n ps qs rs ∧ (∀ x, B x = none → H3 x ≠ none → B3 x = none) ∧ Ex H3 H' := by
  have ne : ∀ {p : Addr}, (upd (upd H3 dx (.own n)) n (.ins C dx [])) p = none → p ≠ n ∧ H3 p = none := fun {p} hp => by
    have h1 : p ≠ n := fun z => by rw [z, upd_same] at hp; cases hp
    have h2 : p ≠ dx := fun z => by rw [upd_ne h1, z, upd_same] at hp; cases hp
    rw [upd_ne h1, upd_ne h2] at hp
    exact ⟨h1, hp⟩
  have exH : Ex H3 H' := fun x o e => frame x o (ne_of_none e hn) (by rw [upd_ne (ne_of_none e hn), upd_ne (ne_of_none e hdx)]; exact e)
  obtain ⟨hn1, h3⟩ := ne hh
  obtain ⟨rn1, r3⟩ := ne hr
  obtain ⟨ln1, l3⟩ := ne hl
  have W1 := W.ext exH
  have stn : ∀ {p : Addr}, H3 p = none → p ≠ s ∧ p ≠ c := fun hp => ⟨W.st.ne_s hp, W.st.ne_c hp⟩
  have W2 := W1.know e2 (stn h3).1 (stn h3).2
  have W3 := W2.know e3 (stn r3).1 (stn r3).2
  have W4 := W3.know e4 (stn l3).1 (stn l3).2
  have W5 := W4.know e1 (stn hn).1 (stn hn).2
  have step : ∀ {B : Hp} {p : Addr} {o : HO}, H' p = some o → Ex B H' → Ex B (upd B p o) := fun {B p o} hp eB a u ea => by
    by_cases z : a = p
    · rw [z, upd_same, ← hp, ← z]
      exact eB a u ea
    · rw [upd_ne z]; exact ea
  have eB := (step e2 W1.ex).trans ((step e3 W2.ex).trans ((step e4 W3.ex).trans (step e1 W4.ex)))
  refine ⟨_, eB, W5, ⟨⟨dx, h, r, l, ts, upd_same, ?_, ?_, ?_, hrs.mono eB⟩, pm, so⟩, fun x hx hk => ?_, exH⟩
  · have := W5.ex
    cases q : (upd (upd (upd (upd B h (.lst (ps.map V.int))) r (.lst (qs.map V.int))) l (.lst ts)) n (.ins C dx (nf h r l))) h with
    | some o => rw [← this _ _ q]; exact e2
    | none =>
      exfalso
      by_cases z1 : h = n
      · rw [z1, upd_same] at q; cases q
      by_cases z2 : h = l
      · rw [upd_ne z1, z2, upd_same] at q; cases q
      by_cases z3 : h = r
      · rw [upd_ne z1, upd_ne z2, z3, upd_same] at q; cases q
      · rw [upd_ne z1, upd_ne z2, upd_ne z3, upd_same] at q; cases q
  · have := W5.ex
    cases q : (upd (upd (upd (upd B h (.lst (ps.map V.int))) r (.lst (qs.map V.int))) l (.lst ts)) n (.ins C dx (nf h r l))) r with
    | some o => rw [← this _ _ q]; exact e3
    | none =>
      exfalso
      by_cases z1 : r = n
      · rw [z1, upd_same] at q; cases q
      by_cases z2 : r = l
      · rw [upd_ne z1, z2, upd_same] at q; cases q
      · rw [upd_ne z1, upd_ne z2, upd_same] at q; cases q
  · have := W5.ex
    cases q : (upd (upd (upd (upd B h (.lst (ps.map V.int))) r (.lst (qs.map V.int))) l (.lst ts)) n (.ins C dx (nf h r l))) l with
    | some o => rw [← this _ _ q]; exact e4
    | none =>
      exfalso
      by_cases z1 : l = n
      · rw [z1, upd_same] at q; cases q
      · rw [upd_ne z1, upd_same] at q; cases q
  · have nx : ∀ {p : Addr}, H3 p = none → x ≠ p := fun hp z => hk (by rw [z]; exact hp)
    rw [upd_ne (nx hn), upd_ne (nx l3), upd_ne (nx r3), upd_ne (nx h3)]
    exact hx
def rowD (r : Row) : PyData := .tuple [.int r.1, .int r.2.1, .int r.2.2]
theorem dp_rows {K : PySem.W.Frag} {B : Hp} : ∀ {ts : List V} {rs : List Row}, RowsAt B ts rs → DpAll K B ts (rs.map rowD)
  | _, _, .nil => .nil
  | _, _, .cons ⟨a, h1, h2⟩ t => .cons (by rw [h1]; exact .tup (SqT.of h2) (.cons (.int _) (.cons (.int _) (.cons (.int _) .nil)))) (dp_rows t)
theorem small_row {ps : List Int} {r : Row} (hP : Places ps) (h : RoadOk ps r) : Small (rowD r) 1 39 := by
  have b1 := hP.bd _ h.m1
  have b2 := hP.bd _ h.m2
  have c0 := h.c0
  have c1 := h.c1
  have k := small_tuple (k := 0) (L := 10) (ds := [.int r.1, .int r.2.1, .int r.2.2]) (fun d hd => by
    simp only [List.mem_cons, List.not_mem_nil, or_false] at hd
    rcases hd with rfl | rfl | rfl <;> exact small_int (by omega))
  exact k
theorem small_rows {ps : List Int} {rs : List Row} (hP : Places ps) (hR : Roads ps rs) : Small (.list (rs.map rowD)) 2 (12 * 41 + 3) := by
  have h := small_list (k := 1) (L := 39) (ds := rs.map rowD) (fun d hd => by
    obtain ⟨r, hr, rfl⟩ := List.mem_map.mp hd
    exact small_row hP (hR.ok r hr))
  refine h.mono (Nat.le_refl _) ?_
  rw [List.length_map]
  have := Nat.mul_le_mul_right 41 hR.len
  omega
def sp_law (K : PySem.W.Frag) : Sp := fun vs H Q _ => ∃ (a : Addr) (ns : List Int), vs = [.ref a] ∧ SqL K H a (ns.map V.int) ∧ ns.length ≤ 63 ∧ ∀ H', Q (.bl true) H'
theorem law_start (K : PySem.W.Frag) (H : Hp) (a : Addr) (ns : List Int) (hl : ns.length ≤ 63) (hS : SqL K H a (ns.map V.int)) : sp_law K [.ref a] H (fun v _ => v = .bl true) fun _ _ _ => False := ⟨a, ns, rfl, hS, hl, fun _ => rfl⟩
theorem rows_at {B : Hp} {ts : List V} {rs : List Row} {k : Nat} {r : Row} (h : RowsAt B ts rs) (hr : rs[k]? = some r) : ∃ a, ts[k]? = some (.ref a) ∧ B a = some (.tup (rowV r)) := by
  have hl := h.len
  have hk : k < ts.length := by
    have := (List.getElem?_eq_some_iff.mp hr).1
    omega
  obtain ⟨y, h1, a, h2, h3⟩ := paired_at h (List.getElem?_eq_getElem hk)
  rw [hr] at h1
  obtain rfl := Option.some.inj h1
  exact ⟨a, by rw [List.getElem?_eq_getElem hk, h2], h3⟩
end K37

set_option maxHeartbeats 2000000
namespace K37
open PySem PySem.Spec PyProof.Rows L2 Evl MyG
def sp_nlink (C : Addr) : Sp := fun vs H Q _ => ∃ (n : Addr) (B : Hp) (ps qs : List Int) (rs : List Row) (k : Nat) (r : Row), vs = [.ref n, .int (k : Int)] ∧ Ex B H ∧ NetAt C B n ps qs rs ∧ rs[k]? = some r ∧ rs.length ≤ 12 ∧ ∀ a H', Ex H H' → B a = some (.tup (rowV r)) → Q (.ref a) H'
section
variable {P : Program} {w : World} {K : PySem.W.Frag} {mg : Str → Option Value} {base : Heap}
theorem ok_nlink (T : Tx K mg) : FnOk P w K mg base CX0 2 T.a_Net__link T.d_Net__link ["self", "link"] (sp_nlink T.c_Net) := by
  have G_is_number := ok_isnum (P := P) (w := w) (base := base) T
  refine T.F_Net__link.ok sc_Net__link (fun vs H Q E h => ?_) (fun cdv A outer s H vs Q E hr h => ?_)
  · obtain ⟨_, _, _, _, _, _, _, rfl, _⟩ := h
    rfl
  · obtain ⟨n, B, ps, qs, rs, k, r, rfl, eB, hN, hk, h12, q⟩ := h
    refine ⟨_, (pss_cons (ps_if (PW.pt (pw_or (pt_not (pt_val (pe_call G_is_number (hr.mono (by decide)) (by rfl) T.g_is_number T.F_is_number.kp T.b_is_number .nil pass0 (pa_cons (pv 1) pa_nil)))) (pw_or1 (pt_not (pt_chain op_le op_lt pe_int (pv 1) (pe_callB (lenK (K := K) rfl) (by rfl) T.z_len (by decide +kernel) (pa_cons (fldK (K := K) rfl (pv 0) rfl) pa_nil))))))) (pss_one ps_never) pss_nil)
  (pss_one (ps_ret (pe_ix (ix_listK (K := K) rfl) (fldK (K := K) rfl (pv 0) rfl) (pv 1) (fun _ _ => rfl))))), ?_⟩
    obtain ⟨dx, h, r', l, ts, hn, hh, hr1, hl, hrs⟩ := hN.ex
    have hlen := hrs.len
    have hk1 := (List.getElem?_eq_some_iff.mp hk).1
    obtain ⟨a, ha1, ha2⟩ := rows_at hrs hk
    -- not is_number(link) or not 0 <= link < len(self._links)
    refine ⟨_, rfl, _, "int", rfl, .int _, _, rfl, ?_⟩
    refine iteF ⟨_, rfl, 0, k, rfl, rfl, _, rfl, ?_⟩
    rw [decide_eq_true (show (0 : Int) ≤ (k : Int) by omega)]
    refine iteT ⟨_, rfl, n, T.c_Net, dx, _, _, rfl, eB _ _ hn, T.cl_Net, T.n_Net__links, nf_l _ _ _, l, _, rfl, .inl (SqL.of (eB _ _ hl)), k, _, rfl, rfl, _, rfl, ?_⟩
    rw [decide_eq_true (show (k : Int) < (ts.length : Int) by omega)]
    refine iteF ?_
    refine ⟨_, rfl, n, T.c_Net, dx, _, _, rfl, eB _ _ hn, T.cl_Net, T.n_Net__links, nf_l _ _ _, _, rfl, l, _, k, _, rfl, rfl, SqL.of (eB _ _ hl), atI_nat ha1, q a _ (Ex.refl _) ha2⟩
end
/-! ### the ends of a link -/
def lo (r : Row) : Int := if r.1 ≤ r.2.1 then r.1 else r.2.1
def hi (r : Row) : Int := if r.1 ≤ r.2.1 then r.2.1 else r.1
theorem two_sorted {a b : Int} {xs : List Int} (pm : xs.Perm [a, b]) (so : xs.Pairwise (· ≤ ·)) : xs = [if a ≤ b then a else b, if a ≤ b then b else a] := by
  have hl := pm.length_eq
  match xs, hl with
  | [x, y], _ =>
    rw [List.pairwise_cons] at so
    have xy := so.1 y (by simp)
    have hx : x = a ∨ x = b := by simpa using pm.mem_iff.mp (show x ∈ [x, y] by simp)
    have hy : y = a ∨ y = b := by simpa using pm.mem_iff.mp (show y ∈ [x, y] by simp)
    have ha : a = x ∨ a = y := by simpa using pm.mem_iff.mpr (show a ∈ [a, b] by simp)
    have hb : b = x ∨ b = y := by simpa using pm.mem_iff.mpr (show b ∈ [a, b] by simp)
    by_cases c : a ≤ b
    · rw [if_pos c, if_pos c]
      congr 1
      · omega
      · congr 1
        omega
    · rw [if_neg c, if_neg c]
      congr 1
      · omega
      · congr 1
        omega
def sp_nends (C : Addr) : Sp := fun vs H Q _ => ∃ (n : Addr) (B : Hp) (ps qs : List Int) (rs : List Row) (k : Nat) (r : Row), vs = [.ref n, .int (k : Int)] ∧ Ex B H ∧ NetAt C B n ps qs rs ∧ rs[k]? = some r ∧ rs.length ≤ 12 ∧
  ∀ p H', H p = none → Ex H H' → H' p = some (.lst [.int (lo r), .int (hi r)]) → Q (.ref p) H'
section
variable {P : Program} {w : World} {K : PySem.W.Frag} {mg : Str → Option Value} {base : Heap}
theorem ok_nends (T : Tx K mg) : FnOk P w K mg base CX0 3 T.a_Net_ends T.d_Net_ends ["self", "link"] (sp_nends T.c_Net) := by
  have G_Net__link := ok_nlink (P := P) (w := w) (base := base) T
  refine T.F_Net_ends.ok sc_Net_ends (fun vs H Q E h => ?_) (fun cdv A outer s H vs Q E hr h => ?_)
  · obtain ⟨_, _, _, _, _, _, _, rfl, _⟩ := h
    rfl
  · obtain ⟨n, B, ps, qs, rs, k, r, rfl, eB, hN, hk, h12, q⟩ := h
    refine ⟨_, (pss_cons (ps_asg (pe_meth (pv 0) T.cl_Net T.me_Net__link G_Net__link (hr.mono (by decide)) T.b_Net__link .nil pass0 (pa_cons (pv 1) pa_nil)) (pg_tup rfl (pgs_cons (pg_name (i := 2) sc_Net_ends.nd rfl (Or.inl rfl)) (pgs_cons (pg_name (i := 3) sc_Net_ends.nd rfl (Or.inl rfl)) (pgs_cons (pg_name (i := 4) sc_Net_ends.nd rfl (Or.inl rfl)) pgs_nil)))))
  (pss_one (ps_ret (pe_callB (sortedK (K := K) rfl) (by rfl) T.z_sorted (by decide +kernel) (pa_cons (pe_lst (pa_cons (pv 2) (pa_cons (pv 3) pa_nil))) pa_nil))))), ?_⟩
    obtain ⟨dx, hx, r', l, ts, hn, hh, hr1, hl, hrs⟩ := id hN.ex
    refine ⟨_, rfl, n, dx, _, rfl, eB _ _ hn, nf_no _ _ _ (by decide +kernel) (by decide +kernel) (by decide +kernel), _, rfl, n, B, ps, qs, rs, k, r, rfl, eB, hN, hk, h12, fun a H1 e ha => ?_⟩
    refine ⟨a, _, rfl, SqT.of (e _ _ (eB _ _ ha)), rfl, _, _, rfl, _, _, rfl, _, _, rfl, rfl, ?_⟩
    refine ⟨_, rfl, _, rfl, by show 2 ≤ sizeLine; decide, fun p hp => ⟨p, [r.1, r.2.1], rfl, SqL.of upd_same, by show 2 < 64; decide, fun ns u pm so hu => ?_⟩⟩
    obtain rfl := two_sorted pm so
    exact q u _ (fresh_back (e.trans (Ex.new (o := .lst [.int r.1, .int r.2.1]) hp)) hu) ((e.trans (Ex.new hp)).trans (Ex.new hu)) upd_same
end
end K37

set_option maxHeartbeats 1000000
namespace K37
open PySem PySem.Spec PyProof.Rows L2 Evl MyG
/-! ### parts joined -/
def kvI (kv : List (Int × Int)) : List (Key × V) := kv.map fun e => (Sum.inl e.1, V.int e.2)
def lookI (kv : List (Int × Int)) (h : Int) : Option Int := (kv.find? fun e => decide (e.1 = h)).map (·.2)
def setd (kv : List (Int × Int)) (h : Int) : List (Int × Int) := match lookI kv h with
  | some _ => kv
  | none => kv ++ [(h, h)]
def joinI (kv : List (Int × Int)) (f g : Int) : List (Int × Int) := kv.map fun e => (e.1, if e.2 = g then f else e.2)
/-- one more link: the parts, whether it joins what was one -/
def partS (r : Row) (z : List (Int × Int) × Bool) : List (Int × Int) × Bool :=
  let f := (lookI z.1 r.1).getD r.1
  let kv1 := setd z.1 r.1
  let g := (lookI kv1 r.2.1).getD r.2.1
  (joinI (setd kv1 r.2.1) f g, z.2 || decide (f = g))
def partsF (rs : List Row) : List (Int × Int) × Bool := rs.foldl (fun z r => partS r z) ([], false)
theorem partsF_snoc (rs : List Row) (r : Row) : partsF (rs ++ [r]) = partS r (partsF rs) := by
  unfold partsF
  rw [List.foldl_append]
  rfl
theorem look_kvI : ∀ (kv : List (Int × Int)) (h : Int), valV (kvI kv) (Sum.inl h) = (lookI kv h).map V.int
  | [], _ => rfl
  | e :: kv, h => by
    have ih := look_kvI kv h
    unfold kvI lookI at ih ⊢
    rw [List.map_cons]
    by_cases z : e.1 = h
    · rw [valV_pos (by rw [z]), List.find?_cons_of_pos (by simpa using z)]
      rfl
    · rw [valV_neg (fun q => z (Sum.inl.inj q)), List.find?_cons_of_neg (by simpa using z)]
      exact ih
theorem look_none {kv : List (Int × Int)} {h : Int} (e : lookI kv h = none) : ¬ h ∈ kv.map (·.1) := fun m => by
  obtain ⟨x, hx, rfl⟩ := List.mem_map.mp m
  unfold lookI at e
  have := List.find?_eq_none.mp (Option.map_eq_none_iff.mp e) x hx
  exact this (by simp)
theorem setd_put {kv : List (Int × Int)} {h : Int} (e : lookI kv h = none) : putK (kvI kv) (Sum.inl h) (.int h) = kvI (setd kv h) := by
  rw [putK_new _ (by rw [look_kvI, e]; rfl)]
  unfold setd
  rw [e]
  unfold kvI
  rw [List.map_append]
  rfl
theorem setd_some {kv : List (Int × Int)} {h v : Int} (e : lookI kv h = some v) : setd kv h = kv := by
  unfold setd
  rw [e]
theorem setd_nd {kv : List (Int × Int)} {h : Int} (nd : (kv.map (·.1)).Nodup) : ((setd kv h).map (·.1)).Nodup := by
  unfold setd
  cases e : lookI kv h with
  | some _ => exact nd
  | none =>
    show ((kv ++ [(h, h)]).map (·.1)).Nodup
    rw [List.map_append, List.nodup_append]
    refine ⟨nd, by simp, fun a ha b hb => ?_⟩
    obtain rfl : b = h := by simpa using hb
    exact fun q => look_none e (by rw [← q]; exact ha)
theorem setd_len {kv : List (Int × Int)} {h : Int} : (setd kv h).length ≤ kv.length + 1 := by
  unfold setd
  cases lookI kv h with
  | some _ => exact Nat.le_succ _
  | none =>
    show (kv ++ [(h, h)]).length ≤ _
    rw [List.length_append]
    exact Nat.le_refl _
theorem join_keys (kv : List (Int × Int)) (f g : Int) : (joinI kv f g).map (·.1) = kv.map (·.1) := by
  unfold joinI
  rw [List.map_map]
  rfl
/-- the first i are joined -/
def joinT (kv : List (Int × Int)) (f g : Int) (i : Nat) : List (Int × Int) := joinI (kv.take i) f g ++ kv.drop i
theorem joinT_step {kv : List (Int × Int)} {f g : Int} {i : Nat} {e : Int × Int} (nd : (kv.map (·.1)).Nodup) (h : kv[i]? = some e) :
    valV (kvI (joinT kv f g i)) (Sum.inl e.1) = some (.int e.2) ∧ (e.2 = g → putK (kvI (joinT kv f g i)) (Sum.inl e.1) (.int f) = kvI (joinT kv f g (i + 1))) ∧ (e.2 ≠ g → joinT kv f g i = joinT kv f g (i + 1)) := by
  obtain ⟨hi, he⟩ := List.getElem?_eq_some_iff.mp h
  have dr : kv.drop i = e :: kv.drop (i + 1) := by rw [List.drop_eq_getElem_cons hi, he]
  have ta := take_snoc h
  have nd2 : (kv.take i ++ e :: kv.drop (i + 1)).map (·.1) = kv.map (·.1) := by rw [← dr, List.take_append_drop]
  have nd3 : ((kv.take i).map (·.1) ++ e.1 :: (kv.drop (i + 1)).map (·.1)).Nodup := by
    rw [← List.map_cons, ← List.map_append, nd2]
    exact nd
  rw [List.nodup_append] at nd3
  have n1 : ¬ e.1 ∈ (kv.take i).map (·.1) := fun m => nd3.2.2 _ m _ (List.mem_cons_self ..) rfl
  have val : ∀ (a b : List (Int × Int)), ¬ e.1 ∈ a.map (·.1) → lookI (a ++ e :: b) e.1 = some e.2 := fun a b n => by
    unfold lookI
    rw [List.find?_append, List.find?_eq_none.mpr (fun x hx => by simpa using fun q => n (List.mem_map.mpr ⟨x, hx, q⟩))]
    simp
  have lk : lookI (joinT kv f g i) e.1 = some e.2 := by
    unfold joinT
    rw [dr]
    exact val _ _ (by rw [join_keys]; exact n1)
  have stp : ∀ x : Int, joinI (kv.take (i + 1)) f g ++ kv.drop (i + 1) = joinI (kv.take i) f g ++ (e.1, if e.2 = g then f else e.2) :: kv.drop (i + 1) := fun x => by
    rw [ta]
    unfold joinI
    rw [List.map_append, List.append_assoc]
    rfl
  refine ⟨by rw [look_kvI, lk]; rfl, fun z => ?_, fun z => ?_⟩
  · have p1 : putK (kvI (joinT kv f g i)) (Sum.inl e.1) (.int f) = (kvI (joinT kv f g i)).map fun kv => if kv.1 = Sum.inl e.1 then (kv.1, V.int f) else kv := by
      unfold putK
      rw [if_pos (by rw [valV_any, look_kvI, lk]; rfl)]
    rw [p1]
    unfold joinT
    rw [stp 0, if_pos z, dr]
    have same : ∀ {l : List (Int × Int)}, ¬ e.1 ∈ l.map (·.1) → ((kvI l).map fun kv => if kv.1 = Sum.inl e.1 then (kv.1, V.int f) else kv) = kvI l := fun {l} n => by
      unfold kvI
      rw [List.map_map]
      refine List.map_congr_left fun x hx => ?_
      show (if (Sum.inl x.1 : Key) = Sum.inl e.1 then _ else _) = _
      rw [if_neg fun q => n (List.mem_map.mpr ⟨x, hx, Sum.inl.inj q⟩)]
    have sp : ∀ (a b : List (Int × Int)), kvI (a ++ b) = kvI a ++ kvI b := fun a b => by unfold kvI; rw [List.map_append]
    have sc : ∀ (x : Int × Int) (b : List (Int × Int)), kvI (x :: b) = (Sum.inl x.1, V.int x.2) :: kvI b := fun x b => rfl
    rw [sp, List.map_append, same (by rw [join_keys]; exact n1), sc, List.map_cons, same (by
      have := nd3.2.1
      rw [List.nodup_cons] at this
      exact this.1), if_pos rfl, sp, sc]
  · unfold joinT
    rw [stp 0, if_neg z, dr]
theorem setd_go {H : Hp} {p : Addr} {kv : List (Int × Int)} {h : Int} {Q : VK} (hd : H p = some (.dK (kvI kv))) (q : ∀ H', (∀ H0 : Hp, H0 p = none → Ex H0 H → Ex H0 H') → H' p = some (.dK (kvI (setd kv h))) → Q (.int ((lookI kv h).getD h)) H') :
    (∀ v, valV (kvI kv) (Sum.inl h) = some v → Q v H) ∧ (valV (kvI kv) (Sum.inl h) = none → Q (.int h) (upd H p (.dK (putK (kvI kv) (Sum.inl h) (.int h))))) := by
  have lk := look_kvI kv h
  cases e : lookI kv h with
  | some x =>
    rw [e] at lk
    rw [lk]
    refine ⟨fun v z => ?_, fun z => absurd z (by simp)⟩
    have z : some (V.int x) = some v := z
    obtain rfl := Option.some.inj z
    have := q H (fun _ _ e => e) (by rw [setd_some e]; exact hd)
    rw [e] at this
    exact this
  | none =>
    rw [e] at lk
    rw [lk]
    refine ⟨fun v z => absurd z (by simp), fun _ => ?_⟩
    have := q (upd H p (.dK (putK (kvI kv) (Sum.inl h) (.int h)))) (fun H0 n ex => ex.mut n) (by rw [upd_same, setd_put e])
    rw [e] at this
    exact this
def sp_parts : Sp := fun vs H Q _ => ∃ (L S : Addr) (ts : List V) (rs : List Row) (ks : List Nat), vs = [.ref L, .ref S] ∧ H L = some (.lst ts) ∧ RowsAt H ts rs ∧ H S = some (.lst (ks.map fun (k : Nat) => V.int (k : Int))) ∧ ks.length ≤ 100 ∧ (∀ k ∈ ks, k < rs.length) ∧
  ∀ t d H', H t = none → Ex H H' → H' d = some (.dK (kvI (partsF (ks.map fun k => rs.getD k (0, 0, 0))).1)) → H' t = some (.tup [.ref d, .bl (partsF (ks.map fun k => rs.getD k (0, 0, 0))).2]) → Q (.ref t) H'
section
variable {P : Program} {w : World} {K : PySem.W.Frag} {mg : Str → Option Value} {base : Heap}
theorem ok_parts (T : Tx K mg) : FnOk P w K mg base CX0 1 T.a_l_parts T.d_l_parts ["_law_chain", "_law_some_here"] sp_parts := by
  refine T.F_l_parts.ok sc_l_parts (fun vs H Q E h => ?_) (fun cdv A outer s H vs Q E hr h => ?_)
  · obtain ⟨_, _, _, _, _, rfl, _⟩ := h
    rfl
  · obtain ⟨L, S, ts, rs, ks, rfl, hL, hts, hS, kl, kb, q⟩ := h
    refine ⟨_, (pss_cons (ps_set (i := 2) sc_l_parts.nd rfl (Or.inl rfl) pe_dnewK)
  (pss_cons (ps_set (i := 3) sc_l_parts.nd rfl (Or.inl rfl) pe_bl)
  (pss_cons (ps_for PassesOwn.never rfl (iListK (K := K) rfl (pv 1)) (pg_name (i := 4) sc_l_parts.nd rfl (Or.inl rfl))
   (pss_cons (ps_asg (pe_ix (ix_listK (K := K) rfl) (pv 0) (pv 4) (fun _ _ => rfl)) (pg_tup rfl (pgs_cons (pg_name (i := 5) sc_l_parts.nd rfl (Or.inl rfl)) (pgs_cons (pg_name (i := 6) sc_l_parts.nd rfl (Or.inl rfl)) (pgs_cons (pg_name (i := 7) sc_l_parts.nd rfl (Or.inl rfl)) pgs_nil)))))
  (pss_cons (ps_par (i := 8) (j := 9) rfl sc_l_parts.nd rfl rfl (by decide) rfl rfl (pa_cons (pe_dsetd (pv 2) (pv 5) (pv 5) ⟨rfl, rfl, rfl, rfl⟩) (pa_cons (pe_dsetd (pv 2) (pv 6) (pv 6) ⟨rfl, rfl, rfl, rfl⟩) pa_nil)) (by rfl))
  (pss_cons (ps_set (i := 3) sc_l_parts.nd rfl (Or.inl rfl) (pe_or (pv 3) (pe_one (pe_cmpR op_eq (pv 8) (pv 9) (nomark _)))))
  (pss_one (ps_for PassesOwn.never rfl (iListK (K := K) rfl (pe_callTy (call_listD rfl) (by rfl) T.z_list (by decide +kernel) (pa_cons (pv 2) pa_nil))) (pg_name (i := 10) sc_l_parts.nd rfl (Or.inl rfl))
   (pss_one (ps_if (pt_cmpR op_eq (pe_dget (Nat.lt_of_le_of_lt (Nat.add_le_add_left (by decide) _) hr.units) (pv 2) (pv 10) (fun _ _ => rfl)) (pv 9) (nomark _)) (pss_one (ps_dput (hu_of hr) (pv 2) (pv 10) (pv 8) rfl)) pss_nil))))))))
  (pss_one (ps_ret (pe_tup (pa_cons (pv 2) (pa_cons (pv 3) pa_nil)))))))), ?_⟩
    refine fun p hp => ?_
    have e0 := Ex.new (o := .dK []) hp
    show tSeq (tFor (iList K (tVar 1)) _ _) _ _ _ _
    refine ⟨_, rfl, S, rfl, ⟨_, SqL.of (e0 _ _ hS)⟩, for_it (walk_list (xs := ks.map fun (k : Nat) => V.int (k : Int))) (fun i σ H' => ∃ (y4 y5 y6 y7 y8 y9 y10 : Option V), σ = [some (.ref L), some (.ref S), some (.ref p), some (.bl (partsF ((ks.take i).map fun k => rs.getD k (0, 0, 0))).2), y4, y5, y6, y7, y8, y9, y10] ∧ Ex H H' ∧ H' p = some (.dK (kvI (partsF ((ks.take i).map fun k => rs.getD k (0, 0, 0))).1)) ∧
      ((partsF ((ks.take i).map fun k => rs.getD k (0, 0, 0))).1.map (·.1)).Nodup ∧ (partsF ((ks.take i).map fun k => rs.getD k (0, 0, 0))).1.length ≤ 2 * i)
      ⟨_, _, _, _, _, _, _, rfl, e0, upd_same, List.nodup_nil, Nat.zero_le _⟩ (fun i σ H' _ ⟨_, _, _, _, _, _, _, _, ex, _⟩ => SqL.of (ex _ _ hS)) ?_ ?_⟩
    · rintro i x σ Ha Ha' hi ⟨y4, y5, y6, y7, y8, y9, y10, rfl, ex, hd, nd, ln⟩ ⟨rfl, hx⟩
      obtain ⟨k, hk, rfl⟩ : ∃ k : Nat, ks[i]? = some k ∧ x = .int (k : Int) := by
        rw [List.getElem?_map] at hx
        cases z : ks[i]? with
        | none => rw [z] at hx; cases hx
        | some k => rw [z] at hx; exact ⟨k, rfl, (Option.some.inj hx).symm⟩
      have hkl := kb k (List.mem_of_getElem? hk)
      have hi' : i < ks.length := (List.getElem?_eq_some_iff.mp hk).1
      obtain ⟨r, hr⟩ : ∃ r, rs[k]? = some r := ⟨_, List.getElem?_eq_getElem hkl⟩
      have gd : rs.getD k (0, 0, 0) = r := by rw [List.getD_eq_getElem?_getD, hr]; rfl
      have stp : partsF ((ks.take (i + 1)).map fun k => rs.getD k (0, 0, 0)) = partS r (partsF ((ks.take i).map fun k => rs.getD k (0, 0, 0))) := by
        rw [take_snoc hk, List.map_append, ← gd]
        exact partsF_snoc _ _
      rw [stp]
      generalize partsF ((ks.take i).map fun k => rs.getD k (0, 0, 0)) = z at hd nd ln
      obtain ⟨kv, ag⟩ := z
      obtain ⟨y, hy, a, rfl, ha⟩ := paired_at0 hts hr
      have hda := ex _ _ ha
      have hdom : ∀ {b : Addr} {o : HO}, H b = some o → b ≠ p := fun h z => by rw [z, hp] at h; cases h
      have rL := ex _ _ hL
      refine ⟨_, rfl, _, rfl, L, ts, (k : Int), _, rfl, rfl, SqL.of rL, atI_nat hy, a, _, rfl, SqT.of hda, rfl, _, _, rfl, _, _, rfl, _, _, rfl, rfl, ?_⟩
      dsimp only at hd nd ln
      dsimp only
      show tSeq (tPar 8 9 _) _ _ _ _
      have few : kv.length ≤ 200 := by omega
      have kvl : ∀ kv : List (Int × Int), (kvI kv).length = kv.length := fun kv => by unfold kvI; rw [List.length_map]
      -- both ends
      refine ⟨_, rfl, p, rfl, .inl ⟨_, .inl hd⟩, _, rfl, _, rfl, kvI kv, Sum.inl r.1, hd, rfl, len_lt (by rw [kvl]; omega), ?_⟩
      apply setd_go (h := r.1) hd
      intro H1 k1 hd1
      have ex1 := k1 H hp ex
      have l1 := setd_len (kv := kv) (h := r.1)
      refine ⟨_, rfl, p, rfl, .inl ⟨_, .inl hd1⟩, _, rfl, _, rfl, kvI (setd kv r.1), Sum.inl r.2.1, hd1, rfl, len_lt (by rw [kvl]; omega), ?_⟩
      apply setd_go (h := r.2.1) hd1
      intro H2 k2 hd2
      have ex2 := k2 H hp ex1
      have l2 := setd_len (kv := setd kv r.1) (h := r.2.1)
      have nd2 := setd_nd (h := r.2.1) (setd_nd (h := r.1) nd)
      refine ⟨_, _, rfl, ?_⟩
      dsimp only
      show tSeq (tAsg _ (gName 3)) _ _ _ _
      unfold partS
      dsimp only
      generalize hf : (lookI kv r.1).getD r.1 = f
      generalize hg : (lookI (setd kv r.1) r.2.1).getD r.2.1 = g
      generalize setd (setd kv r.1) r.2.1 = kv2 at hd2 nd2 l2
      refine seq_mid (fun σ H' => σ = [some (.ref L), some (.ref S), some (.ref p), some (.bl (ag || decide (f = g))), some (.int (k : Int)), some (.int r.1), some (.int r.2.1), some (.int r.2.2), some (.int f), some (.int g), y10] ∧ H' = H2) (fun Nx hN => ?_) ?_
      · cases ag with
        | true => exact ⟨_, rfl, true, rfl, iteT (hN _ _ ⟨rfl, rfl⟩)⟩
        | false =>
          refine ⟨_, rfl, false, rfl, iteF ⟨_, rfl, _, rfl, rfl, ?_⟩⟩
          have e : decide (V.int f = V.int g) = (false || decide (f = g)) := by
            by_cases z : f = g
            · rw [decide_eq_true (congrArg V.int z), decide_eq_true z]; rfl
            · rw [decide_eq_false fun q => z (V.int.inj q), decide_eq_false z]; rfl
          rw [e]
          exact hN _ _ ⟨rfl, rfl⟩
      rintro σ H3 ⟨rfl, rfl⟩
      refine ⟨_, rfl, p, _, rfl, .inl hd2, fun u hu => ?_⟩
      have eu := Ex.new (o := .lst ((kvI kv2).map fun kv => kV kv.1)) hu
      have hu' : (upd H3 u (.lst ((kvI kv2).map fun kv => kV kv.1))) u = some (.lst ((kv2.map (·.1)).map V.int)) := by
        rw [upd_same]
        unfold kvI
        rw [List.map_map, List.map_map]
        rfl
      have hd3 := eu _ _ hd2
      have ex3 := ex2.trans eu
      have up : u ≠ p := fun z => by rw [z, hd2] at hu; cases hu
      have uH : H u = none := fresh_back ex2 hu
      generalize upd H3 u (.lst ((kvI kv2).map fun kv => kV kv.1)) = H4 at hu' hd3 ex3
      refine ⟨u, rfl, ⟨_, SqL.of hu'⟩, for_it (walk_list (xs := (kv2.map (·.1)).map V.int)) (fun j σ H' => ∃ y10, σ = [some (.ref L), some (.ref S), some (.ref p), some (.bl (ag || decide (f = g))), some (.int (k : Int)), some (.int r.1), some (.int r.2.1), some (.int r.2.2), some (.int f), some (.int g), y10] ∧ Ex H H' ∧ H' u = some (.lst ((kv2.map (·.1)).map V.int)) ∧ H' p = some (.dK (kvI (joinT kv2 f g j))))
        ⟨_, rfl, ex3, hu', by unfold joinT joinI; exact hd3⟩ (fun j σ H' _ ⟨_, _, _, h, _⟩ => SqL.of h) ?_ ?_⟩
      · rintro j x σ Hb Hb' hj ⟨y10, rfl, exb, hub, hdb⟩ ⟨rfl, hx⟩
        obtain ⟨e, he, rfl⟩ : ∃ e, kv2[j]? = some e ∧ x = .int e.1 := by
          rw [List.getElem?_map, List.getElem?_map] at hx
          cases z : kv2[j]? with
          | none => rw [z] at hx; cases hx
          | some e => rw [z] at hx; exact ⟨e, rfl, (Option.some.inj hx).symm⟩
        obtain ⟨s1, s2, s3⟩ := joinT_step (f := f) (g := g) nd2 he
        refine ⟨_, rfl, _, rfl, p, .int e.2, rfl, ?_, _, rfl, rfl, _, rfl, ?_⟩
        · rw [← s1]
          exact DGet.k (k := Sum.inl e.1) hdb
        · by_cases z : e.2 = g
          · rw [decide_eq_true (congrArg V.int z)]
            refine iteT ⟨_, rfl, _, rfl, _, rfl, p, _, rfl, DPut.k (k := Sum.inl e.1) hdb (len_lt ?_), ?_⟩
            · unfold kvI joinT
              rw [List.length_map, List.length_append]
              unfold joinI
              rw [List.length_map, List.length_take, List.length_drop]
              omega
            · rw [s2 z]
              refine ⟨_, rfl, exb.mut hp, ?_, upd_same⟩
              rw [upd_ne up]
              exact hub
          · rw [decide_eq_false fun q => z (V.int.inj q)]
            refine iteF ⟨_, rfl, exb, hub, ?_⟩
            rw [← s3 z]
            exact hdb
      · rintro σ H5 ⟨y10, rfl, exb, hub, hdb⟩
        rw [List.length_map, List.length_map] at hdb
        have jf : joinT kv2 f g kv2.length = joinI kv2 f g := by
          unfold joinT
          rw [List.take_length, List.drop_length, List.append_nil]
        rw [jf] at hdb
        refine ⟨_, _, _, _, _, _, _, rfl, exb, hdb, ?_, ?_⟩
        · rw [join_keys]
          exact nd2
        · unfold joinI
          rw [List.length_map]
          omega
    · rintro σ H' ⟨y4, y5, y6, y7, y8, y9, y10, rfl, ex, hd, nd, ln⟩
      have e1 : ks.take (ks.map fun (k : Nat) => V.int (k : Int)).length = ks := by rw [List.length_map, List.take_length]
      rw [e1] at hd
      refine ⟨_, rfl, _, rfl, by show 2 ≤ sizeLine; decide, fun t ht => ?_⟩
      rw [e1]
      have et := Ex.new (o := .tup [.ref p, .bl (partsF (ks.map fun k => rs.getD k (0, 0, 0))).2]) ht
      exact q t p _ (fresh_back ex ht) (ex.trans et) (et _ _ hd) upd_same
end
end K37

set_option maxHeartbeats 1000000
namespace K37
open PySem PySem.Spec PyProof.Rows L2 Evl MyG
/-- pairs of numbers, as tuples -/
def PrsAt (H : Hp) : List V → List (Int × Int) → Prop := Paired fun (x : V) (e : Int × Int) => ∃ t, x = .ref t ∧ H t = some (.tup [.int e.1, .int e.2])
theorem PrsAt.keep {H H' : Hp} (e : ∀ a ys, H a = some (.tup ys) → H' a = some (.tup ys)) {xs : List V} {es : List (Int × Int)} (h : PrsAt H xs es) : PrsAt H' xs es := Paired.mapP h fun _ _ ⟨a, h1, h2⟩ => ⟨a, h1, e _ _ h2⟩
theorem PrsAt.snoc {H : Hp} {t : Addr} {e : Int × Int} (h : H t = some (.tup [.int e.1, .int e.2])) : ∀ {xs : List V} {es : List (Int × Int)}, PrsAt H xs es → PrsAt H (xs ++ [.ref t]) (es ++ [e])
  | _, _, .nil => .cons ⟨t, rfl, h⟩ .nil
  | _, _, .cons a r => .cons a (PrsAt.snoc h r)
theorem PrsAt.last {H : Hp} {e : Int × Int} : ∀ {es : List (Int × Int)} {xs : List V}, PrsAt H xs (es ++ [e]) → ∃ xs0 t, xs = xs0 ++ [.ref t] ∧ PrsAt H xs0 es ∧ H t = some (.tup [.int e.1, .int e.2])
  | [], _, .cons ⟨t, h1, h2⟩ .nil => ⟨[], t, by rw [h1]; rfl, .nil, h2⟩
  | _ :: es, _, .cons a r => by
    obtain ⟨xs0, t, h1, h2, h3⟩ := PrsAt.last (es := es) r
    exact ⟨_ :: xs0, t, by rw [h1]; rfl, .cons a h2, h3⟩
theorem first_ix : ∀ {ks : List Int} {k : Int}, k ∈ ks → ∃ j : Nat, ks[j]? = some k ∧ ∀ m : Nat, m < j → ks[m]? ≠ some k
  | [], _, h => nomatch h
  | a :: ks, k, h => by
    by_cases z : a = k
    · exact ⟨0, by rw [z]; rfl, fun m hm => absurd hm (Nat.not_lt_zero _)⟩
    · obtain ⟨j, h1, h2⟩ := first_ix (ks := ks) (k := k) (by
        rcases List.mem_cons.mp h with q | q
        · exact absurd q.symm z
        · exact q)
      refine ⟨j + 1, h1, fun m hm => ?_⟩
      cases m with
      | zero => intro e; exact z (by simpa using e)
      | succ m => exact h2 m (by omega)
theorem eqv_ints (ns : List Int) : PyData.eqv (.list (ns.map PyData.int)) (.list []) = ns.isEmpty := by
  cases ns <;> simp [PyData.eqv, PyData.eqvAll]
end K37

set_option maxHeartbeats 1000000
namespace K37
open PySem PySem.Spec PyProof.Rows L2 Evl MyG
def touchI (rs : List Row) (h k : Int) : Bool := match rs[k.toNat]? with
  | some r => decide (h = r.1) || decide (h = r.2.1)
  | none => false
def thereF (rs : List Row) (ks : List Int) (h : Int) : List Int := ks.filter (touchI rs h)
theorem touch_ends {rs : List Row} {k : Nat} {r : Row} (h : Int) (hk : rs[k]? = some r) : inV (.int h) [.int (lo r), .int (hi r)] = touchI rs h (k : Int) := by
  have e : ([.int (lo r), .int (hi r)] : List V) = [lo r, hi r].map V.int := rfl
  rw [e, inV_ints]
  unfold touchI
  rw [Int.toNat_natCast, hk]
  show decide (h ∈ [lo r, hi r]) = (decide (h = r.1) || decide (h = r.2.1))
  rw [← Bool.decide_or]
  refine decide_eq_decide.mpr ?_
  unfold lo hi
  by_cases z : r.1 ≤ r.2.1
  · rw [if_pos z, if_pos z]; simp
  · rw [if_neg z, if_neg z]; simp [or_comm]
theorem touch_two {rs : List Row} {k : Nat} {r : Row} (h : Int) (hk : rs[k]? = some r) : inV (.int h) [.int r.1, .int r.2.1] = touchI rs h (k : Int) := by
  have e : ([.int r.1, .int r.2.1] : List V) = [r.1, r.2.1].map V.int := rfl
  rw [e, inV_ints]
  unfold touchI
  rw [Int.toNat_natCast, hk]
  show decide (h ∈ [r.1, r.2.1]) = (decide (h = r.1) || decide (h = r.2.1))
  rw [← Bool.decide_or]
  exact decide_eq_decide.mpr (by simp)
end K37

set_option maxHeartbeats 1000000
/-! Parts joined by links: whether a link joins what was one, in any order; a leaf; two leaves of every tree. -/
namespace Uf
abbrev Ed := Int × Int
def stepR (r : Int → Int) (e : Ed) : Int → Int := fun h => if r h = r e.2 then r e.1 else r h
def againF : (Int → Int) → List Ed → Bool
  | _, [] => false
  | r, e :: L => decide (r e.1 = r e.2) || againF (stepR r e) L
def Ker (r s : Int → Int) : Prop := ∀ x y, r x = r y ↔ s x = s y
theorem step_iff {r : Int → Int} {e : Ed} {x y : Int} : stepR r e x = stepR r e y ↔ r x = r y ∨ (r x = r e.1 ∧ r y = r e.2) ∨ (r x = r e.2 ∧ r y = r e.1) := by
  unfold stepR
  split <;> split <;> omega
theorem Ker.step {r s : Int → Int} (k : Ker r s) (e : Ed) : Ker (stepR r e) (stepR s e) := fun x y => by
  rw [step_iff, step_iff, k x y, k x e.1, k y e.2, k x e.2, k y e.1]
theorem again_ker : ∀ {L : List Ed} {r s : Int → Int}, Ker r s → againF r L = againF s L
  | [], _, _, _ => rfl
  | e :: L, r, s, k => by
    unfold againF
    rw [again_ker (k.step e), decide_eq_decide.mpr (k e.1 e.2)]
theorem step_le {r : Int → Int} {e : Ed} {x y : Int} (h : r x = r y) : stepR r e x = stepR r e y := step_iff.mpr (.inl h)
theorem step_in (r : Int → Int) (e : Ed) : stepR r e e.1 = stepR r e e.2 := step_iff.mpr (.inr (.inl ⟨rfl, rfl⟩))
/-- the least that joins them -/
theorem step_min {r t : Int → Int} {e : Ed} (k : ∀ x y, r x = r y → t x = t y) (h : t e.1 = t e.2) (x y : Int) (z : stepR r e x = stepR r e y) : t x = t y := by
  rcases step_iff.mp z with z | ⟨z1, z2⟩ | ⟨z1, z2⟩
  · exact k _ _ z
  · exact (k _ _ z1).trans (h.trans (k _ _ z2).symm)
  · exact (k _ _ z1).trans (h.symm.trans (k _ _ z2).symm)
theorem swap_le (r : Int → Int) (a b : Ed) (x y : Int) : stepR (stepR r a) b x = stepR (stepR r a) b y → stepR (stepR r b) a x = stepR (stepR r b) a y :=
  step_min (step_min (fun _ _ h => step_le (step_le h)) (step_in _ a)) (step_le (step_in r b)) x y
theorem step_swap (r : Int → Int) (a b : Ed) : Ker (stepR (stepR r a) b) (stepR (stepR r b) a) := fun x y => ⟨swap_le r a b x y, swap_le r b a x y⟩
theorem again_swap (r : Int → Int) (a b : Ed) (L : List Ed) : againF r (a :: b :: L) = againF r (b :: a :: L) := by
  show (decide (r a.1 = r a.2) || (decide (stepR r a b.1 = stepR r a b.2) || againF (stepR (stepR r a) b) L)) = (decide (r b.1 = r b.2) || (decide (stepR r b a.1 = stepR r b a.2) || againF (stepR (stepR r b) a) L))
  rw [again_ker (step_swap r a b), ← Bool.or_assoc, ← Bool.or_assoc, ← Bool.decide_or, ← Bool.decide_or]
  congr 1
  refine decide_eq_decide.mpr ?_
  rw [step_iff, step_iff]
  omega
theorem again_perm {L M : List Ed} (p : L.Perm M) : ∀ r, againF r L = againF r M := by
  induction p with
  | nil => exact fun _ => rfl
  | cons e _ ih => exact fun r => by unfold againF; rw [ih]
  | swap a b L => exact fun r => again_swap r b a L
  | trans _ _ h1 h2 => exact fun r => (h1 r).trans (h2 r)
theorem again_app : ∀ (L : List Ed) (r : Int → Int) (e : Ed), againF r (L ++ [e]) = (againF r L || decide (L.foldl stepR r e.1 = L.foldl stepR r e.2))
  | [], r, e => by
    show (decide (r e.1 = r e.2) || false) = (false || decide (r e.1 = r e.2))
    rw [Bool.or_false, Bool.false_or]
  | a :: L, r, e => by
    show (decide (r a.1 = r a.2) || againF (stepR r a) (L ++ [e])) = _
    rw [again_app L]
    show _ = ((decide (r a.1 = r a.2) || againF (stepR r a) L) || decide (L.foldl stepR (stepR r a) e.1 = L.foldl stepR (stepR r a) e.2))
    rw [Bool.or_assoc]
/-- a hall that no link meets is alone -/
theorem alone {h : Int} : ∀ (L : List Ed) (r : Int → Int), (∀ e ∈ L, e.1 ≠ h ∧ e.2 ≠ h) → (∀ x, r x = h ↔ x = h) → ∀ x, L.foldl stepR r x = h ↔ x = h
  | [], _, _, k => k
  | e :: L, r, n, k => by
    have ne := n e (List.mem_cons_self ..)
    refine alone L (stepR r e) (fun z hz => n z (List.mem_cons_of_mem _ hz)) fun x => ?_
    have k1 := k e.1
    have k2 := k e.2
    have kx := k x
    unfold stepR
    split
    · rename_i q
      constructor
      · intro z
        exact absurd (k1.mp z) ne.1
      · intro z
        rw [q] at kx
        exact absurd (k2.mp (kx.mpr z)) ne.2
    · exact kx
theorem again_leaf {L M : List Ed} {e : Ed} {h : Int} (p : L.Perm (e :: M)) (he : e.1 ≠ e.2) (ends : e.1 = h ∨ e.2 = h) (n : ∀ z ∈ M, z.1 ≠ h ∧ z.2 ≠ h) : againF id L = againF id M := by
  rw [again_perm (p.trans (List.perm_append_singleton e M).symm) id, again_app]
  have al := alone M id n (fun x => Iff.rfl)
  have : decide (M.foldl stepR id e.1 = M.foldl stepR id e.2) = false := by
    refine decide_eq_false fun q => ?_
    rcases ends with z | z
    · have a1 := (al e.1).mpr z
      rw [q] at a1
      exact he (z.trans ((al e.2).mp a1).symm)
    · have a1 := (al e.2).mpr z
      rw [← q] at a1
      exact he (((al e.1).mp a1).trans z.symm)
  rw [this, Bool.or_false]
/-- how many links meet h -/
def deg (L : List Ed) (h : Int) : Nat := L.countP fun e => decide (e.1 = h) || decide (e.2 = h)
theorem deg_app (L : List Ed) (e : Ed) (h : Int) : deg (L ++ [e]) h = deg L h + (if e.1 = h ∨ e.2 = h then 1 else 0) := by
  unfold deg
  rw [List.countP_append, List.countP_singleton]
  congr 1
  by_cases a : e.1 = h ∨ e.2 = h
  · rw [if_pos a, if_pos (by simpa using a)]
  · rw [if_neg a, if_neg (by simpa using a)]
def Two (L : List Ed) : Prop := ∀ h, 1 ≤ deg L h → ∃ u v, u ≠ v ∧ deg L u = 1 ∧ deg L v = 1 ∧ L.foldl stepR id u = L.foldl stepR id h ∧ L.foldl stepR id v = L.foldl stepR id h
theorem snoc_ind {P : List Ed → Prop} (h0 : P []) (hs : ∀ L e, P L → P (L ++ [e])) (L : List Ed) : P L := by
  have : P L.reverse.reverse := by
    induction L.reverse with
    | nil => exact h0
    | cons e M ih => rw [List.reverse_cons]; exact hs _ _ ih
  rwa [List.reverse_reverse] at this
theorem two_leaves (L : List Ed) : (∀ e ∈ L, e.1 ≠ e.2) → againF id L = false → Two L := by
  refine snoc_ind (P := fun L => (∀ e ∈ L, e.1 ≠ e.2) → againF id L = false → Two L) ?_ ?_ L
  · intro _ _ h z
    exact absurd z (by simp [deg])
  · intro L e ih ne ag
    rw [again_app, Bool.or_eq_false_iff] at ag
    have nr := of_decide_eq_false ag.2
    have two := ih (fun z hz => ne z (List.mem_append_left _ hz)) ag.1
    have ee := ne e (List.mem_append_right _ (List.mem_singleton_self e))
    generalize hr : L.foldl stepR id = r at nr
    have two' : ∀ h, 1 ≤ deg L h → ∃ u v, u ≠ v ∧ deg L u = 1 ∧ deg L v = 1 ∧ r u = r h ∧ r v = r h := by rw [← hr]; exact two
    have side : ∀ a b, (a = e.1 ∧ b = e.2 ∨ a = e.2 ∧ b = e.1) → ∃ u, r u = r a ∧ deg (L ++ [e]) u = 1 := fun a b hab => by
      have rab : r a ≠ r b := by
        rcases hab with ⟨rfl, rfl⟩ | ⟨rfl, rfl⟩
        · exact nr
        · exact fun z => nr z.symm
      by_cases z : deg L a = 0
      · refine ⟨a, rfl, ?_⟩
        rw [deg_app, z, if_pos (by rcases hab with ⟨h1, _⟩ | ⟨h1, _⟩ <;> simp [h1])]
      · obtain ⟨u, v, uv, du, dv, ru, rv⟩ := two' a (by omega)
        have pick : ∀ w, w ≠ a → deg L w = 1 → r w = r a → ∃ u, r u = r a ∧ deg (L ++ [e]) u = 1 := fun w wa dw rw' => by
          refine ⟨w, rw', ?_⟩
          have wb : w ≠ b := fun q => rab (by rw [← rw', q])
          rw [deg_app, dw, if_neg]
          rcases hab with ⟨h1, h2⟩ | ⟨h1, h2⟩
          · rw [h1] at wa
            rw [h2] at wb
            exact fun q => q.elim (fun q => wa q.symm) fun q => wb q.symm
          · rw [h1] at wa
            rw [h2] at wb
            exact fun q => q.elim (fun q => wb q.symm) fun q => wa q.symm
        by_cases q : u = a
        · exact pick v (fun h => uv (q.trans h.symm)) dv rv
        · exact pick u q du ru
    obtain ⟨u, ru, du⟩ := side e.1 e.2 (.inl ⟨rfl, rfl⟩)
    obtain ⟨v, rv, dv⟩ := side e.2 e.1 (.inr ⟨rfl, rfl⟩)
    intro h dh
    have fo : (L ++ [e]).foldl stepR id = stepR r e := by rw [List.foldl_append, hr]; rfl
    rw [fo]
    by_cases c : r h = r e.1 ∨ r h = r e.2
    · refine ⟨u, v, fun z => nr (by rw [← ru, ← rv, z]), du, dv, step_iff.mpr ?_, step_iff.mpr ?_⟩
      · rcases c with c | c
        · exact .inl (ru.trans c.symm)
        · exact .inr (.inl ⟨ru, c⟩)
      · rcases c with c | c
        · exact .inr (.inr ⟨rv, c⟩)
        · exact .inl (rv.trans c.symm)
    · have hn : ¬ (e.1 = h ∨ e.2 = h) := fun q => c (q.imp (fun q => by rw [q]) fun q => by rw [q])
      rw [deg_app, if_neg hn] at dh
      obtain ⟨u, v, uv, du, dv, ru, rv⟩ := two' h dh
      have keep : ∀ w, deg L w = 1 → r w = r h → deg (L ++ [e]) w = 1 := fun w dw rw' => by
        rw [deg_app, dw, if_neg]
        exact fun q => c (q.imp (fun q => by rw [← rw', q]) fun q => by rw [← rw', q])
      exact ⟨u, v, uv, keep u du ru, keep v dv rv, step_iff.mpr (.inl ru), step_iff.mpr (.inl rv)⟩
/-- links with no ring among them have a hall where just one is -/
theorem has_leaf {L : List Ed} (ne : ∀ e ∈ L, e.1 ≠ e.2) (ag : againF id L = false) (h : L ≠ []) : ∃ u, deg L u = 1 := by
  cases L with
  | nil => exact absurd rfl h
  | cons e M =>
    obtain ⟨u, _, _, du, _⟩ := two_leaves (e :: M) ne ag e.1 (by
      unfold deg
      rw [List.countP_cons_of_pos (by simp)]
      omega)
    exact ⟨u, du⟩
end Uf

set_option maxHeartbeats 1000000
namespace K37
open PySem PySem.Spec PyProof.Rows L2 Evl MyG
/-! ### the parts kept in a dict are the parts of Uf -/
def repK (kv : List (Int × Int)) (h : Int) : Int := (lookI kv h).getD h
def VK2 (kv : List (Int × Int)) : Prop := ∀ h v, lookI kv h = some v → (lookI kv v).isSome = true
theorem look_setd (kv : List (Int × Int)) (h x : Int) : lookI (setd kv h) x = if x = h then some (repK kv h) else lookI kv x := by
  unfold setd repK
  cases e : lookI kv h with
  | some v =>
    by_cases z : x = h
    · rw [if_pos z, z]; exact e
    · rw [if_neg z]
  | none =>
    show lookI (kv ++ [(h, h)]) x = _
    unfold lookI at e ⊢
    rw [List.find?_append]
    by_cases z : x = h
    · subst z
      rw [if_pos rfl, Option.map_eq_none_iff.mp e]
      simp
    · rw [if_neg z]
      have : ([(h, h)] : List (Int × Int)).find? (fun e => decide (e.1 = x)) = none := by
        rw [List.find?_cons_of_neg (by simpa using fun q => z q.symm)]
        rfl
      rw [this, Option.or_none]
theorem look_join (kv : List (Int × Int)) (f g x : Int) : lookI (joinI kv f g) x = (lookI kv x).map fun v => if v = g then f else v := by
  unfold lookI joinI
  rw [List.find?_map, Option.map_map, Option.map_map]
  rfl
theorem rep_setd (kv : List (Int × Int)) (h x : Int) : repK (setd kv h) x = repK kv x := by
  show (lookI (setd kv h) x).getD x = _
  rw [look_setd]
  by_cases z : x = h
  · rw [if_pos z, z]; rfl
  · rw [if_neg z]; rfl
theorem vk_setd {kv : List (Int × Int)} (k : VK2 kv) (h : Int) : VK2 (setd kv h) := fun x v e => by
  rw [look_setd] at e ⊢
  by_cases z : x = h
  · rw [if_pos z] at e
    obtain rfl := Option.some.inj e
    by_cases q : repK kv h = h
    · rw [if_pos q]; rfl
    · rw [if_neg q]
      unfold repK at q ⊢
      cases hh : lookI kv h with
      | none => rw [hh] at q; exact absurd rfl q
      | some v => exact k h v hh
  · rw [if_neg z] at e
    by_cases q : v = h
    · rw [if_pos q]; rfl
    · rw [if_neg q]; exact k x v e
theorem partS_rep {kv : List (Int × Int)} {b : Bool} (k : VK2 kv) (r : Row) : repK (partS r (kv, b)).1 = Uf.stepR (repK kv) (r.1, r.2.1) ∧ VK2 (partS r (kv, b)).1 ∧ (partS r (kv, b)).2 = (b || decide (repK kv r.1 = repK kv r.2.1)) := by
  have hf : (lookI kv r.1).getD r.1 = repK kv r.1 := rfl
  have hg : (lookI (setd kv r.1) r.2.1).getD r.2.1 = repK kv r.2.1 := rep_setd kv r.1 r.2.1
  have k2 : VK2 (setd (setd kv r.1) r.2.1) := vk_setd (vk_setd k _) _
  have e2 : ∀ x, repK (setd (setd kv r.1) r.2.1) x = repK kv x := fun x => by rw [rep_setd, rep_setd]
  have lg : lookI (setd (setd kv r.1) r.2.1) r.2.1 = some (repK kv r.2.1) := by rw [look_setd, if_pos rfl, rep_setd]
  have lf : lookI (setd (setd kv r.1) r.2.1) r.1 = some (repK kv r.1) := by
    rw [look_setd]
    by_cases z : r.1 = r.2.1
    · rw [if_pos z, rep_setd, z]
    · rw [if_neg z, look_setd, if_pos rfl]
  have p1 : (partS r (kv, b)).1 = joinI (setd (setd kv r.1) r.2.1) (repK kv r.1) (repK kv r.2.1) := by
    show joinI (setd (setd kv r.1) r.2.1) ((lookI kv r.1).getD r.1) ((lookI (setd kv r.1) r.2.1).getD r.2.1) = _
    rw [hg]
    rfl
  refine ⟨funext fun x => ?_, ?_, ?_⟩
  · rw [p1]
    show (lookI (joinI _ _ _) x).getD x = if repK kv x = repK kv r.2.1 then repK kv r.1 else repK kv x
    rw [look_join]
    have ex := e2 x
    unfold repK at ex
    cases hx : lookI (setd (setd kv r.1) r.2.1) x with
    | some v =>
      rw [hx] at ex
      have ex : v = repK kv x := ex
      rw [← ex]
      rfl
    | none =>
      rw [hx] at ex
      have ex : x = repK kv x := ex
      show x = _
      rw [if_neg, ← ex]
      intro z
      have := k2 _ _ lg
      rw [← z, ← ex, hx] at this
      cases this
  · rw [p1]
    intro x v e
    rw [look_join] at e ⊢
    rw [Option.isSome_map]
    cases hx : lookI (setd (setd kv r.1) r.2.1) x with
    | none => rw [hx] at e; cases e
    | some u =>
      rw [hx] at e
      have e : (if u = repK kv r.2.1 then repK kv r.1 else u) = v := Option.some.inj e
      by_cases q : u = repK kv r.2.1
      · rw [if_pos q] at e
        rw [← e]
        exact k2 _ _ lf
      · rw [if_neg q] at e
        rw [← e]
        exact k2 _ _ hx
  · show (b || decide ((lookI kv r.1).getD r.1 = (lookI (setd kv r.1) r.2.1).getD r.2.1)) = _
    rw [hg]
    rfl
def edgeF (r : Row) : Uf.Ed := (r.1, r.2.1)
theorem parts_from : ∀ (rs : List Row) (kv : List (Int × Int)) (b : Bool), VK2 kv → (rs.foldl (fun z r => partS r z) (kv, b)).2 = (b || Uf.againF (repK kv) (rs.map edgeF))
  | [], kv, b, _ => (Bool.or_false b).symm
  | r :: rs, kv, b, k => by
    obtain ⟨h1, h2, h3⟩ := partS_rep (b := b) k r
    show (rs.foldl (fun z r => partS r z) (partS r (kv, b))).2 = _
    have e : partS r (kv, b) = ((partS r (kv, b)).1, (partS r (kv, b)).2) := rfl
    rw [e, parts_from rs _ _ h2, h1, h3, Bool.or_assoc]
    rfl
/-- whether links close a ring -/
theorem parts_again (rs : List Row) : (partsF rs).2 = Uf.againF id (rs.map edgeF) := by
  unfold partsF
  rw [parts_from rs [] false (fun h v e => by cases e), Bool.false_or]
  rfl
end K37

set_option maxHeartbeats 2000000
/-! for some in combinations(xs, r): each choice, in its order, in a new tuple. -/
namespace MyCo
open PySem PySem.Spec PyProof.Rows
abbrev CN : String := "itertools.combinations"
theorem slotN : Slot CN "__next__" "itertools.combinations.__next__" :=
  .of (owner := "itertools.combinations") (n := "__next__") (by rw [typeLookup_type, builtinLookup_eq_fast]; kernel_rfl) (by decide +kernel) (by decide +kernel) (by decide +kernel) (by first | exact .inl (by decide +kernel) | exact .inr (by decide +kernel)) (by rw [isSubtype_type]; kernel_rfl)
theorem slotI : Slot CN "__iter__" "itertools.combinations.__iter__" :=
  .of (owner := "itertools.combinations") (n := "__iter__") (by rw [typeLookup_type, builtinLookup_eq_fast]; kernel_rfl) (by decide +kernel) (by decide +kernel) (by decide +kernel) (by first | exact .inl (by decide +kernel) | exact .inr (by decide +kernel)) (by rw [isSubtype_type]; kernel_rfl)
theorem slotInit : Slot CN "__init__" "object.__init__" :=
  .of (owner := "object") (n := "__init__") (by rw [typeLookup_type, builtinLookup_eq_fast]; kernel_rfl) (by decide +kernel) (by decide +kernel) (by decide +kernel) (by first | exact .inl (by decide +kernel) | exact .inr (by decide +kernel)) (by rw [isSubtype_type]; kernel_rfl)
theorem entN : entryFor table "itertools.combinations.__next__" = some Builtin.«itertools.combinations.__next__» := entryFor_of_tree (by kernel_rfl)
theorem entI : entryFor table "itertools.combinations.__iter__" = some Builtin.«dict_keyiterator.__iter__» :=
  entryFor_alias (id' := "dict_keyiterator.__iter__") (by kernel_rfl) (by first | rfl | decide +kernel | (unfold String.splitOn; simp +decide [String.splitOnAux])) (by decide +kernel) (by kernel_rfl)
theorem entNew : entryFor table "itertools.combinations.__new__" = some Builtin.«itertools.combinations.__new__» := entryFor_of_tree (by kernel_rfl)
theorem argN (a : Value) : argsOk "itertools.combinations.__next__" ⟨[a], []⟩ := by unfold argsOk; kernel_rfl
theorem argI (a : Value) : argsOk "itertools.combinations.__iter__" ⟨[a], []⟩ := by unfold argsOk; kernel_rfl
theorem mroC : mroOf (.type CN) = pure [.type CN, .type "object"] := by rw [mroOf_type]; kernel_rfl
theorem lookNew : typeLookup (.type CN) "__new__" = pure (some (.builtin "itertools.combinations.__new__")) := by rw [typeLookup_type, builtinLookup_eq_fast]; kernel_rfl
theorem called : TypeCalled CN "itertools.combinations.__new__" "object.__init__" :=
  ⟨by decide +kernel, by decide +kernel, ⟨_, _, mroC⟩, madeBy_type mroC lookNew (by decide +kernel), by decide +kernel, by rw [isSubtype_type]; kernel_rfl, slotInit⟩
theorem tyCall (a b : Value) : checkTypeCall CN ⟨[a, b], []⟩ = pure () := by kernel_rfl
theorem newCall (a b : Value) : checkBuiltinCall "itertools.combinations.__new__" ⟨[.type CN, a, b], []⟩ = pure () := by kernel_rfl
theorem argInit (o a b : Value) : argsOk "object.__init__" ⟨[o, a, b], []⟩ := by unfold argsOk; kernel_rfl
theorem KFBif {α : Type} {M : Model} {A : Around} {E : Value → Shared → Prop} {s : Shared} {a b : Sem α} {Q : α → Shared → Prop} (h : wpAny M A a Q E s) : wpAny M A (if (!false) = true then a else b) Q E s := h
/-- the row of choices -/
def recAt (pl : Addr) (st : Int) (last : Value) (ixs : List Nat) : Obj := { cls := .type CN, dict := none, data := .fields ([.ref pl, rawInt st, last] ++ ixs.map fun (i : Nat) => rawInt (i : Int)).toArray, slots := #[] }
def IsC (h : Heap) (it pl : Addr) (st : Int) (last : Value) (ixs : List Nat) : Prop := h.get? it = some (recAt pl st last ixs)
def IsP (h : Heap) (pl : Addr) (us : List Value) : Prop := ∃ o n, h.get? pl = some o ∧ o.data = .seq us.toArray n ∧ ∀ v, o.data ≠ .cell v
/-- the choice that comes next -/
def stepC (n : Nat) (ix : List Nat) : Option (List Nat) :=
  match (List.range ix.length).reverse.find? (fun k => ix.getD k 0 != k + n - ix.length) with
  | none => none
  | some k => some (ix.take k ++ (List.range (ix.length - k)).map (fun j => ix.getD k 0 + 1 + j))
def tupOf (us : List Value) (ix : List Nat) : List Value := ix.map fun i => us.getD i .none
section
variable {prog : Program} {w : World} {A : Around} {E : Value → Shared → Prop} {s : Shared} {it pl : Addr} {st : Int} {last : Value} {ixs nx : List Nat} {us : List Value}
theorem numbers {Q : List Nat → Shared → Prop} (he : IsC s.heap it pl st last ixs) (h : Q ixs s) : wpAny (model prog w) A (Builtin.Itertools.itNumbersFrom (.ref it) 3) Q E s := by
  unfold Builtin.Itertools.itNumbersFrom
  refine wpAny_bind (wpAny_load he (wpAny_pure ?_))
  refine cast (congrArg (fun z => Q z s) (Eq.symm ?_)) h
  show List.map _ (ixs.map fun (i : Nat) => rawInt (i : Int)) = ixs
  rw [List.map_map]
  exact (List.map_congr_left fun i _ => rfl).trans (List.map_id ixs)
theorem status {Q : Int → Shared → Prop} (he : IsC s.heap it pl st last ixs) (h : Q st s) : wpAny (model prog w) A (Builtin.Itertools.itIntField (.ref it) 1) Q E s := by
  unfold Builtin.Itertools.itIntField
  exact wpAny_bind (wpAny_field he rfl (x := rawInt st) rfl (wpAny_pure h))
theorem pool {Q : Array Value → Shared → Prop} (hp : IsP s.heap pl us) (h : Q us.toArray s) : wpAny (model prog w) A (Builtin.Itertools.itPoolItems (.ref pl)) Q E s := by
  unfold Builtin.Itertools.itPoolItems
  obtain ⟨o, n, h1, h2, _⟩ := hp
  exact wpAny_bind (wpAny_seqItems h1 h2 (wpAny_pure h))
theorem IsP.ext {h h' : Heap} (k : ∀ o, h.get? pl = some o → h'.get? pl = some o) (hp : IsP h pl us) : IsP h' pl us := let ⟨o, n, h1, h2⟩ := hp; ⟨o, n, k _ h1, h2⟩
theorem ext3 (a b c : Value) (r m : List Value) : (([a, b, c] ++ r).toArray.extract 0 3 ++ m.toArray) = ([a, b, c] ++ m).toArray := by
  apply Array.toList_inj.mp
  simp
theorem rec_size : (([Value.ref pl, rawInt st, last] ++ ixs.map fun (i : Nat) => rawInt (i : Int)).toArray).size = 3 + ixs.length := by simp; omega
/-- the tuple is laid, kept and told -/
theorem hand {Q : Fin → Shared → Prop} (he : IsC s.heap it pl st last nx) (hp : IsP s.heap pl us) (l : nx.length ≤ 1000)
    (h : ∀ h', IsC h' it pl st (.ref s.heap.objs.size) nx → h'.get? s.heap.objs.size = some { cls := .type "tuple", data := .seq (tupOf us nx).toArray } → h'.objs.size = s.heap.objs.size + 1 → (∀ b o, b ≠ it → s.heap.get? b = some o → h'.get? b = some o) → Q (.done (.ret (.ref s.heap.objs.size))) { s with heap := h' }) :
    wpAny (model prog w) A ((Builtin.Itertools.itPoolItems (.ref pl) >>= fun items => newTuple (nx.map fun i => items.getD i .none)) >>= fun result => field (.ref it) 2 >>= fun before => setField (.ref it) 2 result >>= fun _ => letGo [before] [result] >>= fun _ => (ret result : Sem Fin)) Q E s := by
  refine wpAny_bind (wpAny_bind (pool hp ?_))
  unfold newTuple
  have tl : (nx.map fun i => us.toArray.getD i .none) = tupOf us nx := by
    unfold tupOf
    refine List.map_congr_left fun i _ => ?_
    simp [Array.getD, List.getD_eq_getElem?_getD]
    split
    · rename_i z; rw [List.getElem?_eq_getElem z]; rfl
    · rename_i z; rw [List.getElem?_eq_none (by omega)]; rfl
  rw [tl]
  refine wpAny_newObj_type ?_ (by show (tupOf us nx).toArray.size ≤ sizeLine; rw [List.size_toArray]; unfold tupOf; rw [List.length_map]; exact Nat.le_trans l (by decide))
  have hn := Heap.lt_size he
  have he1 : IsC (s.heap.push { cls := .type "tuple", data := .seq (tupOf us nx).toArray }) it pl st last nx := Heap.get?_push_of_some _ he
  have hT := Heap.get?_push_size s.heap (o := { cls := .type "tuple", data := .seq (tupOf us nx).toArray }) rfl
  have hz := Heap.size_push s.heap { cls := .type "tuple", data := .seq (tupOf us nx).toArray }
  refine wpAny_bind (wpAny_field he1 rfl (x := last) rfl ?_)
  refine wpAny_bind (wpAny_setField_rec he1 (by rw [rec_size]; omega) fun h' hh sb => wpAny_bind (wpAny_letGo ?_))
  refine wpAny_pure (h h' ?_ ?_ ?_ fun b o nb hb => ?_)
  · unfold IsC
    rw [hh]
    rfl
  · exact (sb.2 _ (Nat.ne_of_gt hn)).trans hT
  · rw [sb.1, hz]
  · exact (sb.2 b nb).trans (Heap.get?_push_of_some _ hb)
theorem run_first {Q : Fin → Shared → Prop} (he : IsC s.heap it pl 0 last ixs) (hp : IsP s.heap pl us) (ne : pl ≠ it) (l : ixs.length ≤ 1000)
    (h : ∀ h', IsC h' it pl 1 (.ref s.heap.objs.size) ixs → h'.get? s.heap.objs.size = some { cls := .type "tuple", data := .seq (tupOf us ixs).toArray } → h'.objs.size = s.heap.objs.size + 1 → (∀ b o, b ≠ it → s.heap.get? b = some o → h'.get? b = some o) → Q (.done (.ret (.ref s.heap.objs.size))) { s with heap := h' }) :
    wpAny (model prog w) A (Builtin.«itertools.combinations.__next__» ⟨[.ref it], []⟩) Q E s := by
  show wpAny _ _ (field (.ref it) 0 >>= _) _ _ s
  refine wpAny_bind (wpAny_field he rfl (x := .ref pl) rfl ?_)
  refine wpAny_bind (numbers he ?_)
  refine wpAny_bind (status he ?_)
  dsimp only
  refine wpAny_bind (wpAny_setField_rec he (by rw [rec_size]; omega) fun h1 hh sb => ?_)
  have he1 : IsC h1 it pl 1 last ixs := by
    unfold IsC
    rw [hh]
    rfl
  have hs1 : h1.objs.size = s.heap.objs.size := sb.1
  refine hand (s := { s with heap := h1 }) he1 (hp.ext fun o ho => (sb.2 pl ne).trans ho) l fun h' a b c d => ?_
  simp only [hs1] at a b c ⊢
  exact h h' a b c fun x o nx hx => d x o nx ((sb.2 x nx).trans hx)
theorem run_next {Q : Fin → Shared → Prop} (he : IsC s.heap it pl 1 last ixs) (hp : IsP s.heap pl us) (ne : pl ≠ it) (l : nx.length ≤ 1000) (hs : stepC us.length ixs = some nx)
    (h : ∀ h', IsC h' it pl 1 (.ref s.heap.objs.size) nx → h'.get? s.heap.objs.size = some { cls := .type "tuple", data := .seq (tupOf us nx).toArray } → h'.objs.size = s.heap.objs.size + 1 → (∀ b o, b ≠ it → s.heap.get? b = some o → h'.get? b = some o) → Q (.done (.ret (.ref s.heap.objs.size))) { s with heap := h' }) :
    wpAny (model prog w) A (Builtin.«itertools.combinations.__next__» ⟨[.ref it], []⟩) Q E s := by
  show wpAny _ _ (field (.ref it) 0 >>= _) _ _ s
  refine wpAny_bind (wpAny_field he rfl (x := .ref pl) rfl ?_)
  refine wpAny_bind (numbers he ?_)
  refine wpAny_bind (status he ?_)
  dsimp only
  refine wpAny_bind (pool hp ?_)
  split
  rotate_left
  · rename_i heq
    have z : (none : Option (List Nat)) = some nx := heq.symm.trans hs
    cases z
  rename_i nx' heq
  have z : some nx' = some nx := heq.symm.trans hs
  obtain rfl := (Option.some.inj z).symm
  refine wpAny_bind ?_
  unfold Builtin.Itertools.itSetNumbersFrom
  refine wpAny_updateFields he rfl ?_ ?_
  rotate_left
  · show (Array.extract _ 0 3 ++ _).size ≤ sizeLine + 3
    rw [ext3, List.size_toArray, List.length_append, List.length_map]
    have : (1000 : Nat) ≤ sizeLine := by decide
    show 3 + nx.length ≤ _
    omega
  have he1 : IsC (s.heap.update it (Obj.mapFields fun fs => fs.extract 0 3 ++ (nx.map fun (n : Nat) => rawInt (n : Int)).toArray)) it pl 1 last nx := by
    unfold IsC
    rw [Heap.get?_update_self _ he rfl]
    congr 1
    show ({ cls := _, dict := _, data := .fields _, slots := _ } : Obj) = _
    unfold recAt
    congr 2
    exact ext3 _ _ _ _ _
  have sb := Heap.SameBut.update s.heap it (Obj.mapFields fun fs => fs.extract 0 3 ++ (nx.map fun (n : Nat) => rawInt (n : Int)).toArray)
  generalize s.heap.update it (Obj.mapFields fun fs => fs.extract 0 3 ++ (nx.map fun (n : Nat) => rawInt (n : Int)).toArray) = h1 at he1 sb ⊢
  have hs1 : h1.objs.size = s.heap.objs.size := sb.1
  refine hand (s := { s with heap := h1 }) he1 (hp.ext fun o ho => (sb.2 pl ne).trans ho) l fun h' a b c d => ?_
  simp only [hs1] at a b c ⊢
  exact h h' a b c fun x o nx hx => d x o nx ((sb.2 x nx).trans hx)
theorem run_end {Q : Fin → Shared → Prop} (hh : A.handled = none) (he : IsC s.heap it pl 1 last ixs) (hp : IsP s.heap pl us) (hs : stepC us.length ixs = none)
    (h : ∀ h' e oe, (∀ b o, b ≠ it → s.heap.get? b = some o → h'.get? b = some o) → h'.get? e = some oe → oe.cls = .type "StopIteration" → E (.ref e) { s with heap := h' }) :
    wpAny (model prog w) A (Builtin.«itertools.combinations.__next__» ⟨[.ref it], []⟩) Q E s := by
  show wpAny _ _ (field (.ref it) 0 >>= _) _ _ s
  refine wpAny_bind (wpAny_field he rfl (x := .ref pl) rfl ?_)
  refine wpAny_bind (numbers he ?_)
  refine wpAny_bind (status he ?_)
  dsimp only
  refine wpAny_bind (pool hp ?_)
  split
  · rename_i nx' heq
    have z : some nx' = none := heq.symm.trans hs
    cases z
  refine wpAny_bind (wpAny_setField_rec he (by rw [rec_size]; omega) fun h1 hh1 sb => ?_)
  exact DVw.raise_stop (s := { s with heap := h1 }) hh fun h' e oe k a b => h h' e oe (fun x o nx hx => k x o ((sb.2 x nx).trans hx)) a b
/-- more chosen than there are: it ends at once -/
theorem run_none {Q : Fin → Shared → Prop} (hh : A.handled = none) (he : IsC s.heap it pl 2 last ixs)
    (h : ∀ h' e oe, (∀ b o, b ≠ it → s.heap.get? b = some o → h'.get? b = some o) → h'.get? e = some oe → oe.cls = .type "StopIteration" → E (.ref e) { s with heap := h' }) :
    wpAny (model prog w) A (Builtin.«itertools.combinations.__next__» ⟨[.ref it], []⟩) Q E s := by
  show wpAny _ _ (field (.ref it) 0 >>= _) _ _ s
  refine wpAny_bind (wpAny_field he rfl (x := .ref pl) rfl ?_)
  refine wpAny_bind (numbers he ?_)
  refine wpAny_bind (status he ?_)
  dsimp only
  refine wpAny_bind (wpAny_rule ?_)
  exact DVw.raise_stop hh fun h' e oe k a b => h h' e oe (fun x o _ hx => k x o hx) a b
theorem typ (he : IsC s.heap it pl st last ixs) : s.TypeIs (.ref it) CN := ⟨_, he, rfl⟩
theorem next_of {Q : Option Value → Shared → Prop} (hT : s.TypeIs (.ref it) CN) (h : wpAny (model prog w) A.in1 (Builtin.«itertools.combinations.__next__» ⟨[.ref it], []⟩) (fun fin s' => ∃ v, fin = .done (.ret v) ∧ Q (some v) s') (fun e s' => (∃ x oe, e = .ref x ∧ s'.heap.get? x = some oe ∧ oe.cls = .type "StopIteration") ∧ Q none s') s) : wpAny (model prog w) A (pyNext (.ref it)) Q E s := by
  unfold pyNext
  refine wpAny_bind (wpAny_attempt (wpAny_callSpecial?_slot (name := Str.ofString "__next__") hT slotN
    (wpAny_call_entry slotN hT entN ?_ (argN _))))
  refine wpAny_mono h (fun fin s' ⟨v, e, q⟩ => ⟨v, e, wpAny_pure q⟩) fun e s' ⟨⟨x, oe, ex, ho, hc⟩, q⟩ => ?_
  subst ex
  dsimp only
  refine wpAny_bind (wpAny_isInstance (T := "StopIteration") (b := true) ⟨oe, ho, hc⟩ isSubtype_stop ?_)
  exact wpAny_pure q
theorem iter_of {Q : Value → Shared → Prop} (hT : s.TypeIs (.ref it) CN) (h : Q (.ref it) s) : wpAny (model prog w) A (pyIter (.ref it)) Q E s := by
  refine wpAny_pyIter_slot hT slotI (wpAny_call_entry slotI hT entI ?_ (argI _))
  show wpAny _ _ (ret (.ref it)) _ _ s
  exact wpAny_pure ⟨_, rfl, CN, _, hT, slotN.lookup, h⟩
theorem bindN (l : Addr) (r : Int) (t : Tok) : Builtin.Itertools.itBindNamed "combinations" ["iterable", "r"] 2 2 [.ref l, .int r t] [] = pure [some (.ref l), some (.int r t)] := by kernel_rfl
theorem classN (a b : Value) : Builtin.Itertools.itClassAndRest "combinations" ⟨[.type CN, a, b], []⟩ = pure (.type CN, [a, b]) := by
  first | kernel_rfl | (unfold Builtin.Itertools.itClassAndRest; kernel_rfl)
/-- all of a list, in a new list that is thrown away -/
theorem gather {Q : List Value → Shared → Prop} (l : Addr) {o : Obj} {us : Array Value} {n : Nat} (ho : s.heap.get? l = some o) (hc : o.cls = .type "list") (hd : o.data = .seq us n) (hz : us.size ≤ sizeLine)
    (k : ∀ h', s.heap.objs.size ≤ h'.objs.size → (∀ b u, s.heap.get? b = some u → h'.get? b = some u) → Q us.toList { s with heap := h' }) : wpAny (model prog w) A (collect (.ref l)) Q E s := by
  unfold collect; refine wpAny_bind (wpAny_runValue (codeAny_builtin F.entry_proto_collect ?_)); rw [Around.under_plainId F.plain_proto_collect _]
  show wpAny _ A.in1 (newList [] >>= fun z => again (.builtin "list.__iadd__" ⟨[z, .ref l], []⟩)) _ _ s
  refine wpAny_bind (wpAny_newObj_type (wpAny_pure ⟨plainId_quiet F.plain_list_iadd _, codeAny_builtin F.entry_list_iadd ?_⟩)); rw [Around.under_plainId F.plain_list_iadd _]
  show wpAny _ A.in1 (Builtin.List.listExtendWith (.ref s.heap.objs.size) (.ref l) (.ref s.heap.objs.size)) _ _ _
  have p1 : (s.heap.push { cls := .type "list", data := .seq ([] : List Value).toArray }).get? s.heap.objs.size = some { cls := .type "list", data := .seq #[] 0 } := Heap.get?_push_size _ rfl
  have p2 := Heap.get?_update_self (Obj.mapSeq (· ++ us)) p1 rfl
  have sb := Heap.SameBut.update (s.heap.push { cls := .type "list", data := .seq ([] : List Value).toArray }) s.heap.objs.size (Obj.mapSeq (· ++ us))
  have last : wpAny (model prog w) A (match Value.ref s.heap.objs.size with | Value.ref a => (do match (← load a).data with | Data.seq xs _ => pure xs.toList | _ => unsupported "internal:collect") | _ => unsupported "internal:collect") Q E
      { s with heap := (s.heap.push { cls := .type "list", data := .seq ([] : List Value).toArray }).update s.heap.objs.size (Obj.mapSeq (· ++ us)) } := by
    show wpAny _ A (load s.heap.objs.size >>= _) _ _ _
    refine wpAny_bind (wpAny_load p2 (wpAny_pure ?_))
    have e : ((#[] : Array Value) ++ us).toList = us.toList := by simp
    show Q ((#[] : Array Value) ++ us).toList _
    rw [e]; refine k _ (by rw [sb.1, Heap.size_push]; omega) fun b u hb => ?_; exact (Heap.get?_update_other _ _ (Nat.ne_of_gt (Heap.lt_size hb))).trans (Heap.get?_push_of_some _ hb)
  refine wpAny_mono (wpAny_extend_seq (hsz := hz) (A := A) (R := fun r t => r = .ok (.ret (.ref s.heap.objs.size)) ∧ t = { s with heap := (s.heap.push { cls := .type "list", data := .seq ([] : List Value).toArray }).update s.heap.objs.size (Obj.mapSeq (· ++ us)) }) (s := { s with heap := s.heap.push { cls := .type "list", data := .seq ([] : List Value).toArray } }) _ l _ 0 (.inl rfl) p1 (Heap.get?_push_of_some _ ho) hc hd ⟨rfl, rfl⟩) (fun f t h => ?_) (fun e t h => absurd h.1 (by simp))
  cases f with
  | done f => obtain ⟨e, rfl⟩ := h; cases e; exact last
  | again c => exact ⟨h.1, codeAny_mono h.2 fun r t hr => by obtain ⟨rfl, rfl⟩ := hr; exact last⟩
theorem new_run {Q : Fin → Shared → Prop} {l : Addr} {r : Nat} {t : Tok} (hl : s.heap.IsList l us.toArray) (lu : us.length ≤ 1000) (lr : r ≤ 1000)
    (h : ∀ h' : Heap, s.heap.objs.size ≤ h'.objs.size → (∀ b o, s.heap.get? b = some o → h'.get? b = some o) → Q (.done (.ret (.ref (h'.objs.size + 1)))) { s with heap := (h'.push { cls := .type "tuple", data := .seq us.toArray }).push (recAt h'.objs.size (if r > us.length then 2 else 0) .none (List.range r)) }) :
    wpAny (model prog w) A (Builtin.«itertools.combinations.__new__» ⟨[.type CN, .ref l, .int (r : Int) t], []⟩) Q E s := by
  show wpAny _ _ ((Builtin.Itertools.itClassAndRest "combinations" ⟨[.type CN, .ref l, .int (r : Int) t], []⟩ >>= _) >>= _) _ _ _
  refine wpAny_bind (wpAny_bind (wpAny_of_eq (classN _ _) ?_))
  dsimp only
  refine wpAny_bind (wpAny_of_eq (bindN l r t) ?_)
  dsimp only
  unfold Builtin.Itertools.itSsizeArg
  refine wpAny_bind (wpAny_bind (wpAny_of_eq (a := (r : Int)) (by rfl) ?_))
  have c1 : ¬ ((decide ((r : Int) < -(2 ^ 63 : Int)) || decide ((r : Int) ≥ 2 ^ 63)) = true) := by
    rw [Bool.or_eq_true, decide_eq_true_iff, decide_eq_true_iff]
    omega
  rw [if_neg c1]
  refine wpAny_pure ?_
  obtain ⟨⟨oc, od, odt, os⟩, hlo, hlc, nl, hld⟩ := hl
  refine wpAny_bind (gather l hlo hlc hld (by rw [List.size_toArray]; exact Nat.le_trans lu (by decide)) fun h' zl kp => ?_)
  have c2 : ¬ ((r : Int) < 0) := by omega
  rw [if_neg c2]
  have c3 : ¬ (Builtin.Itertools.itTooMany (r : Int) = true) := by
    unfold Builtin.Itertools.itTooMany
    rw [decide_eq_true_iff]
    omega
  rw [if_neg c3]
  unfold newTuple
  refine wpAny_bind (wpAny_newObj_type ?_ (by show us.toArray.toList.toArray.size ≤ sizeLine; rw [List.size_toArray, Array.length_toList, List.size_toArray]; exact Nat.le_trans lu (by decide)))
  refine wpAny_pure ?_
  dsimp only
  have nd : typeHasDict (.type CN) = false := by kernel_rfl
  unfold Builtin.Itertools.itNewRecord
  rw [nd]
  refine wpAny_bind ?_
  refine KFBif ?_
  refine wpAny_newObj_type ?_ (by show (List.toArray _).size ≤ sizeLine + 2; rw [rec_size, List.length_range, Int.toNat_natCast]; exact Nat.le_trans (show 3 + r ≤ 1003 by omega) (by decide))
  refine wpAny_pure ?_
  have := h h' zl kp
  rw [Heap.size_push]
  exact this
theorem new_meets {l : Addr} {r : Nat} {t : Tok} (lu : us.length ≤ 1000) (lr : r ≤ 1000) : Meets (Builtin.«itertools.combinations.__new__» ⟨[.type CN, .ref l, .int (r : Int) t], []⟩) (fun _ R s => s.heap.IsList l us.toArray ∧ ∀ h' : Heap, s.heap.objs.size ≤ h'.objs.size → (∀ b o, s.heap.get? b = some o → h'.get? b = some o) →
    R (.ok (.ret (.ref (h'.objs.size + 1)))) { s with heap := (h'.push { cls := .type "tuple", data := .seq us.toArray }).push (recAt h'.objs.size (if r > us.length then 2 else 0) .none (List.range r)) }) :=
  .of_wp fun prog w A R s ⟨hl, h⟩ => new_run hl lu lr fun h' zl kp => ⟨_, rfl, h h' zl kp⟩
theorem call_comb {Q : Value → Shared → Prop} {l : Addr} {r : Nat} {t : Tok} (hl : s.heap.IsList l us.toArray) (lu : us.length ≤ 1000) (lr : r ≤ 1000)
    (h : ∀ (h' : Heap) (pl it : Addr), s.heap.objs.size ≤ pl → s.heap.objs.size ≤ it → pl ≠ it → (∀ b o, s.heap.get? b = some o → h'.get? b = some o) → IsC h' it pl (if r > us.length then 2 else 0) .none (List.range r) → IsP h' pl us → Q (.ref it) { s with heap := h' }) :
    wpAny (model prog w) A (call (.type CN) [.ref l, .int (r : Int) t]) Q E s := by
  refine callType_new called (by decide) (tyCall _ _) (newCall _ _) (fun obj => argInit obj _ _) entNew (new_meets lu lr) ⟨hl, fun h' le kp => ?_⟩
  have hz : (h'.push { cls := .type "tuple", data := .seq us.toArray }).objs.size = h'.objs.size + 1 := Heap.size_push ..
  have hi : IsC ((h'.push { cls := .type "tuple", data := .seq us.toArray }).push (recAt h'.objs.size (if r > us.length then 2 else 0) .none (List.range r))) (h'.objs.size + 1) h'.objs.size (if r > us.length then 2 else 0) .none (List.range r) := by
    have := Heap.get?_push_size (h'.push { cls := .type "tuple", data := .seq us.toArray }) (o := recAt h'.objs.size (if r > us.length then 2 else 0) .none (List.range r)) rfl
    rw [hz] at this
    exact this
  exact ⟨⟨_, hi, rfl⟩, h _ h'.objs.size (h'.objs.size + 1) le (Nat.le_succ_of_le le) (Nat.ne_of_lt (Nat.lt_succ_self _)) (fun b o hb => Heap.get?_push_of_some _ (Heap.get?_push_of_some _ (kp b o hb))) hi ⟨_, _, Heap.get?_push_of_some _ (Heap.get?_push_size _ rfl), rfl, fun v q => nomatch q⟩⟩
end
end MyCo
namespace L2
open PySem PySem.Spec PyProof.Rows MyCo
/-- what is chosen, as values -/
def tupV (xs : List V) (ix : List Nat) : List V := ix.map fun i => xs.getD i .non
def ItC (xs : List V) (cs : List (List Nat)) : It :=
  ⟨fun i _ => i < cs.length, fun i H v H' => ∃ T c, v = .ref T ∧ H T = none ∧ cs[i]? = some c ∧ H' = upd H T (.tup (tupV xs c)), fun i _ => cs.length ≤ i⟩
structure Chain (n r : Nat) (cs : List (List Nat)) : Prop where
  none : n < r → cs = []
  first : r ≤ n → cs[0]? = some (List.range r)
  next : ∀ (j : Nat) c, cs[j]? = some c → stepC n c = cs[j + 1]?
  few : ∀ c ∈ cs, c.length ≤ 1000
theorem tupV_vals {xs : List V} {us : List Value} (r : Vals xs us) : ∀ c : List Nat, Vals (tupV xs c) (tupOf us c)
  | [] => .nil
  | i :: c => by
    refine .cons ?_ (tupV_vals r c)
    show RelV (xs.getD i .non) (us.getD i .none)
    rw [List.getD_eq_getElem?_getD, List.getD_eq_getElem?_getD]
    cases h : xs[i]? with
    | none => rw [r.none_of h]; exact rfl
    | some x =>
      obtain ⟨u, hu, ru⟩ := r.get h
      rw [hu]
      exact ru
def TnC (us : List Value) (it pl : Addr) (cs : List (List Nat)) (i : Nat) (h : Heap) : Prop :=
  IsP h pl us ∧ ∃ (st : Int) (last : Value) (ixs : List Nat), IsC h it pl st last ixs ∧ ((i = 0 ∧ cs = [] ∧ st = 2) ∨ (i = 0 ∧ st = 0 ∧ cs[0]? = some ixs) ∨ ∃ j, i = j + 1 ∧ st = 1 ∧ cs[j]? = some ixs)
theorem turn_comb {P : Program} {w : World} {K : PySem.W.Frag} {tg : Expr} {xs : List V} {us : List Value} {cs : List (List Nat)} {it pl : Addr} {r : Nat} (rv : Vals xs us) (ch : Chain us.length r cs) (ne : pl ≠ it) :
    Turn P w K tg (ItC xs cs) [it, pl] it (TnC us it pl cs) where
  mem := by simp
  obj := fun i h st b hb => by
    obtain ⟨⟨o, n, h1, h2, h3⟩, st, last, ixs, hc, _⟩ := st
    have e : b = it ∨ b = pl := by simpa using hb
    rcases e with rfl | rfl
    · exact ⟨_, hc, fun v q => nomatch q⟩
    · exact ⟨o, h1, h3⟩
  keep := fun i h h' st k => by
    obtain ⟨hp, st, last, ixs, hc, c⟩ := st
    exact ⟨hp.ext fun o ho => k pl (by simp) o ho, st, last, ixs, k it (by simp) _ hc, c⟩
  item := by
    intro X hP hw hK hcalm i pins s σ H E I hf st hg
    subst hP hw hK
    obtain ⟨hp, st, last, ixs, hc, cas⟩ := st
    have hil : it < s.heap.objs.size := Heap.lt_size hc
    have hpl : pl < s.heap.objs.size := let ⟨o, n, h1, _⟩ := hp; Heap.lt_size h1
    have done : ∀ (c : List Nat) (h' : Heap), cs[i]? = some c → IsC h' it pl 1 (.ref s.heap.objs.size) c → h'.get? s.heap.objs.size = some { cls := .type "tuple", data := .seq (tupOf us c).toArray } → h'.objs.size = s.heap.objs.size + 1 → (∀ b o, b ≠ it → s.heap.get? b = some o → h'.get? b = some o) →
        ∃ u, some (Value.ref s.heap.objs.size) = some u ∧ wpAny (model X.prog X.w) X.A (letOwnedTupleGo tg (.ref it) u) (fun _ s2 => ∃ x H', Inv X pins σ H' s2 ∧ RelV x u ∧ (ItC xs cs).yld i H x H' ∧ TnC us it pl cs (i + 1) s2.heap ∧ ∀ b ∈ [it, pl], H' b = none) E { s with heap := h' } := fun c h' hcs hc' hT hz kp => by
      refine ⟨_, rfl, go_of (n := CN) (s := { s with heap := h' }) hc' rfl rfl (by decide +kernel) ?_⟩
      have hn : H s.heap.objs.size = none := I.hok.fresh (Nat.le_refl _)
      have new : ObjOk X.prog X.w (upd H s.heap.objs.size (.tup (tupV xs c))) h' s.heap.objs.size (.tup (tupV xs c)) :=
        ⟨by unfold tupV; rw [List.length_map]; exact Nat.le_trans (ch.few c (List.mem_of_getElem? hcs)) (by decide), tupOf us c, tupV_vals rv c, ⟨_, hT, rfl, _, rfl⟩⟩
      have I1 : Inv X pins σ (upd H s.heap.objs.size (.tup (tupV xs c))) { s with heap := h', toks := s.toks } :=
        I.turnedNew (ch := [it, pl]) (fun b o hb q => kp b o (fun z => hb (by simp [z])) q) hf (Nat.le_refl _) new
      refine ⟨.ref s.heap.objs.size, _, I1, rfl, ⟨_, c, rfl, hn, hcs, rfl⟩, ⟨hp.ext fun o ho => kp pl o ne ho, 1, _, c, hc', .inr (.inr ⟨i, rfl, rfl, hcs⟩)⟩, fun b hb => ?_⟩
      have hb' : b < s.heap.objs.size := by
        have e : b = it ∨ b = pl := by simpa using hb
        rcases e with z | z
        · rw [z]; exact hil
        · rw [z]; exact hpl
      rw [upd_ne (Nat.ne_of_lt hb')]
      exact (hf b hb).1
    refine next_of (typ hc) ?_
    have hg : i < cs.length := hg
    rcases cas with ⟨rfl, rfl, _⟩ | ⟨rfl, rfl, h0⟩ | ⟨j, rfl, rfl, hj⟩
    · cases hg
    · exact run_first hc hp ne (ch.few _ (List.mem_of_getElem? h0)) fun h' a b c d => ⟨_, rfl, done ixs h' h0 a b c d⟩
    · have hn := List.getElem?_eq_getElem hg
      refine run_next (nx := cs[j + 1]) hc hp ne (ch.few _ (List.getElem_mem hg)) ((ch.next j ixs hj).trans hn) fun h' a b c d => ⟨_, rfl, done _ h' hn a b c d⟩
  done := by
    intro X hP hw hK hcalm i pins s σ H E I hf st hg
    subst hP hw hK
    obtain ⟨hp, st, last, ixs, hc, cas⟩ := st
    have hh : X.A.handled = none := I.ok.hd hcalm
    have fin : ∀ (h' : Heap) (e : Addr) (oe : Obj), (∀ b o, b ≠ it → s.heap.get? b = some o → h'.get? b = some o) → h'.get? e = some oe → oe.cls = .type "StopIteration" → (∃ x oe', Value.ref e = .ref x ∧ h'.get? x = some oe' ∧ oe'.cls = .type "StopIteration") ∧ (none : Option Value) = none ∧ Inv X pins σ H { s with heap := h' } := fun h' e oe kp he hc => by
      obtain ⟨f0, f1, f2, f3, f4, f5⟩ := hf it (by simp)
      exact ⟨⟨e, oe, rfl, he, hc⟩, rfl, I.turned (t' := s.toks) (fun b o hb q => kp b o hb q) f0 f1 f3 f4 f5⟩
    refine next_of (typ hc) ?_
    have hg : cs.length ≤ i := hg
    rcases cas with ⟨rfl, rfl, rfl⟩ | ⟨rfl, rfl, h0⟩ | ⟨j, rfl, rfl, hj⟩
    · exact run_none hh hc fin
    · have := (List.getElem?_eq_some_iff.mp h0).1
      omega
    · exact run_end hh hc hp ((ch.next j ixs hj).trans (List.getElem?_eq_none hg)) fin
  self := fun A i s Q E st h => let ⟨_, _, _, _, hc, _⟩ := st; iter_of (typ hc) h
def iComb (K : PySem.W.Frag) (ta : TA) : TI := fun σ H R => ta σ H fun vs H1 => ∃ (a : Addr) (xs : List V) (r : Nat) (cs : List (List Nat)), vs = [.ref a, .int (r : Int)] ∧ SqL K H1 a xs ∧ xs.length ≤ 1000 ∧ r ≤ 1000 ∧ Chain xs.length r cs ∧ R (ItC xs cs) H1
theorem pi_comb {X : Cx} {x : Str} {e1 e2 tg : Expr} {ta : TA} {p pos : Pos} (hg : Gl X x) (hm : X.mg x = some (.type CN)) (ha : PA X [e1, e2] ta) (hd : (x == ("__debug__" : Str)) = false := by decide) (hs : starEach [e1, e2] X.env = (false, eval e1 X.env) :: starEach [e2] X.env := by rfl) (hp : (backTo pos (starEach [e2] X.env)).any (·.1) = false := by rfl) :
    PI X tg (.Call (.Name x p) [e1, e2] [] pos) (iComb X.K ta) := by
  refine ⟨fun pins s σ H R I h => ?_⟩
  refine Call_ (ld_glob (hd := hd) I hg hm (PyProof.Rows.callWith_type1 (thn (ha.run pos pins s σ H _ I h) fun us s1 ⟨vs, H1, I1, r1, q1⟩ => ?_) hs hp))
  obtain ⟨a, xs, r, cs, ex, hq, lx, lr, ch, q⟩ := q1
  subst ex
  cases r1 with
  | cons ra rr =>
    cases rr with
    | cons rb rz =>
      cases rz
      cases ra
      obtain ⟨t, rfl⟩ := rb
      obtain ⟨its, rv, p', hz⟩ := I1.list hq
      have le := rv.length
      refine call_comb p'.isList (by omega) lr fun h' pl it h1 h2 ne kp hc hpl => iter_of (s := { s1 with heap := h' }) (typ hc) ?_
      have I2 : Inv X pins σ H1 { s1 with heap := h' } := I1.kept (t' := s1.toks) kp
      rw [le] at ch
      refine ⟨it, [it, pl], _, ItC xs cs, H1, rfl, I2, turn_comb rv ch ne, ⟨hpl, _, _, _, hc, ?_⟩, fun b hb => ?_, q⟩
      · by_cases z : r > its.length
        · exact .inl ⟨rfl, ch.none z, by rw [if_pos z]⟩
        · exact .inr (.inl ⟨rfl, by rw [if_neg z], ch.first (by omega)⟩)
      · have e' : b = it ∨ b = pl := by simpa using hb
        have hle : s1.heap.objs.size ≤ b := by
          rcases e' with z | z
          · rw [z]; exact h2
          · rw [z]; exact h1
        exact I1.fpOk hle (I1.hok.fresh hle)
theorem pi_combK {X : Cx} {K : PySem.W.Frag} {x : Str} {e1 e2 tg : Expr} {ta : TA} {p pos : Pos} (h : X.K = K) (hg : Gl X x) (hm : X.mg x = some (.type CN)) (ha : PA X [e1, e2] ta) (hd : (x == ("__debug__" : Str)) = false := by decide) (hs : starEach [e1, e2] X.env = (false, eval e1 X.env) :: starEach [e2] X.env := by rfl) (hp : (backTo pos (starEach [e2] X.env)).any (·.1) = false := by rfl) :
    PI X tg (.Call (.Name x p) [e1, e2] [] pos) (iComb K ta) := by subst h; exact pi_comb hg hm ha hd hs hp
theorem walk_comb {xs : List V} {cs : List (List Nat)} : Walk (ItC xs cs) cs.length (fun _ => True) (fun i H v H' => ∃ T c, v = .ref T ∧ H T = none ∧ cs[i]? = some c ∧ H' = upd H T (.tup (tupV xs c))) :=
  ⟨fun _ _ hi _ => hi, fun _ _ => Nat.le_refl _, fun _ _ _ _ _ _ y => y⟩
end L2

set_option maxHeartbeats 4000000
/-! All choices of so many of a list, in their order; what closes among a forest: nothing. -/
namespace MyG
open PySem PySem.Spec PyProof.Rows L2 MyCo
def subsL {α : Type} : List α → Nat → List (List α)
  | _, 0 => [[]]
  | [], _ + 1 => []
  | x :: xs, r + 1 => (subsL xs r).map (x :: ·) ++ subsL xs (r + 1)
theorem subs_map {α β : Type} (f : α → β) : ∀ (xs : List α) (r : Nat), subsL (xs.map f) r = (subsL xs r).map (·.map f)
  | [], 0 => rfl
  | _ :: _, 0 => rfl
  | [], _ + 1 => rfl
  | x :: xs, r + 1 => by
    show ((subsL (xs.map f) r).map (f x :: ·) ++ subsL (xs.map f) (r + 1)) = ((subsL xs r).map (x :: ·) ++ subsL xs (r + 1)).map (·.map f)
    rw [subs_map f xs r, subs_map f xs (r + 1), List.map_append, List.map_map, List.map_map]
    rfl
theorem mem_subs {α : Type} : ∀ {xs : List α} {r : Nat} {c : List α}, c ∈ subsL xs r ↔ c.Sublist xs ∧ c.length = r
  | xs, 0, c => by
    have e : subsL xs 0 = [[]] := by cases xs <;> rfl
    rw [e, List.mem_singleton]
    exact ⟨fun h => by rw [h]; exact ⟨List.nil_sublist _, rfl⟩, fun h => List.length_eq_zero_iff.mp h.2⟩
  | [], r + 1, c => by
    show c ∈ ([] : List (List α)) ↔ _
    refine ⟨fun h => (by cases h), fun h => ?_⟩
    have e := List.sublist_nil.mp h.1
    rw [e] at h
    cases h.2
  | x :: xs, r + 1, c => by
    show c ∈ (subsL xs r).map (x :: ·) ++ subsL xs (r + 1) ↔ _
    rw [List.mem_append, List.mem_map]
    constructor
    · rintro (⟨d, hd, rfl⟩ | h)
      · obtain ⟨h1, h2⟩ := mem_subs.mp hd
        exact ⟨h1.cons_cons x, by rw [List.length_cons, h2]⟩
      · obtain ⟨h1, h2⟩ := mem_subs.mp h
        exact ⟨h1.cons x, h2⟩
    · rintro ⟨h1, h2⟩
      cases h1 with
      | cons _ h => exact .inr (mem_subs.mpr ⟨h, h2⟩)
      | cons_cons _ h => exact .inl ⟨_, mem_subs.mpr ⟨h, by simpa using h2⟩, rfl⟩
def walkB (n : Nat) : List (List Nat) → Bool
  | [] => true
  | [c] => decide (stepC n c = none)
  | c :: d :: r => decide (stepC n c = some d) && walkB n (d :: r)
theorem walkB_at {n : Nat} : ∀ {l : List (List Nat)}, walkB n l = true → ∀ (j : Nat) c, l[j]? = some c → stepC n c = l[j + 1]?
  | [], _, _, _, h => by cases h
  | [c], w, 0, _, h => by
    obtain rfl := Option.some.inj h
    exact of_decide_eq_true w
  | [_], _, _ + 1, _, h => by cases h
  | c :: d :: r, w, 0, _, h => by
    obtain rfl := Option.some.inj h
    rw [walkB, Bool.and_eq_true] at w
    exact of_decide_eq_true w.1
  | c :: d :: r, w, j + 1, e, h => by
    rw [walkB, Bool.and_eq_true] at w
    exact walkB_at w.2 j e h
theorem chain_all : ∀ n < 13, ∀ r < 13, r ≤ n → ((subsL (List.range n) r)[0]? == some (List.range r) && walkB n (subsL (List.range n) r)) = true := by decide +kernel
theorem chain_subs {n r : Nat} (hn : n ≤ 12) (hr : r ≤ 12) : Chain n r (subsL (List.range n) r) := by
  refine ⟨fun h => ?_, fun h => ?_, fun j c hc => ?_, fun c hc => ?_⟩
  · refine List.eq_nil_iff_forall_not_mem.mpr fun c hc => ?_
    obtain ⟨h1, h2⟩ := mem_subs.mp hc
    have := h1.length_le
    rw [List.length_range] at this
    omega
  · have := chain_all n (by omega) r (by omega) h
    rw [Bool.and_eq_true] at this
    exact eq_of_beq this.1
  · by_cases h : r ≤ n
    · have := chain_all n (by omega) r (by omega) h
      rw [Bool.and_eq_true] at this
      exact walkB_at this.2 j c hc
    · exfalso
      obtain ⟨h1, h2⟩ := mem_subs.mp (List.mem_of_getElem? hc)
      have := h1.length_le
      rw [List.length_range] at this
      omega
  · obtain ⟨h1, h2⟩ := mem_subs.mp hc
    omega
/-- as values -/
theorem range_map {α : Type} (xs : List α) (d : α) : (List.range xs.length).map (fun i => xs.getD i d) = xs := by
  refine List.ext_getElem? fun i => ?_
  rw [List.getElem?_map]
  by_cases h : i < xs.length
  · rw [List.getElem?_range h, List.getElem?_eq_getElem h]
    show some (xs.getD i d) = _
    rw [List.getD_eq_getElem?_getD, List.getElem?_eq_getElem h]
    rfl
  · rw [List.getElem?_eq_none (by rw [List.length_range]; omega), List.getElem?_eq_none (by omega)]
    rfl
theorem subs_vals (xs : List V) (r : Nat) : (subsL (List.range xs.length) r).map (tupV xs) = subsL xs r := by
  have := subs_map (fun i => xs.getD i V.non) (List.range xs.length) r
  rw [range_map] at this
  rw [this]
  rfl
end MyG
namespace Uf
theorem again_pre : ∀ (M L : List Ed) (r : Int → Int), againF r (L ++ M) = false → againF r L = false
  | [], L, r, h => by rw [List.append_nil] at h; exact h
  | e :: M, L, r, h => by
    have h2 : againF r ((L ++ [e]) ++ M) = false := by rw [List.append_assoc]; exact h
    have := again_pre M (L ++ [e]) r h2
    rw [again_app, Bool.or_eq_false_iff] at this
    exact this.1
theorem sub_perm {α : Type} : ∀ {L M : List α}, M.Sublist L → ∃ R, L.Perm (M ++ R)
  | _, _, .slnil => ⟨[], .nil⟩
  | _, _, .cons a h => by
    obtain ⟨R, p⟩ := sub_perm h
    exact ⟨a :: R, (p.cons a).trans List.perm_middle.symm⟩
  | _, _, .cons_cons a h => by
    obtain ⟨R, p⟩ := sub_perm h
    exact ⟨R, p.cons a⟩
theorem again_sub {L M : List Ed} (s : M.Sublist L) (h : againF id L = false) : againF id M = false := by
  obtain ⟨R, p⟩ := sub_perm s
  rw [again_perm p] at h
  exact again_pre R M id h
/-- of a forest nothing closes -/
theorem none_closes {L : List Ed} (ne : ∀ e ∈ L, e.1 ≠ e.2) (ag : againF id L = false) (h : L ≠ []) : ∃ e ∈ L, deg L e.1 = 1 ∨ deg L e.2 = 1 := by
  obtain ⟨u, hu⟩ := has_leaf ne ag h
  have : 0 < L.countP fun e => decide (e.1 = u) || decide (e.2 = u) := by
    show 0 < deg L u
    omega
  obtain ⟨e, he, hp⟩ := List.countP_pos_iff.mp this
  rw [Bool.or_eq_true, decide_eq_true_iff, decide_eq_true_iff] at hp
  rcases hp with rfl | rfl
  · exact ⟨e, he, .inl hu⟩
  · exact ⟨e, he, .inr hu⟩
end Uf

set_option maxHeartbeats 1000000
/-! Ways along links without meeting a hall twice, and the rings that they close (pure). -/
namespace Rp
abbrev Ed := Int × Int
section
variable (ed : Int → Ed)
def tch (h k : Int) : Bool := decide ((ed k).1 = h) || decide ((ed k).2 = h)
def far (h k : Int) : Int := if h = (ed k).1 then (ed k).2 else (ed k).1
def dg (ks : List Int) (h : Int) : Nat := ks.countP (tch ed h)
def waysF (some : List Int) (goal : Int) : Nat → Int → List Int → List (List Int)
  | 0, _, _ => []
  | n + 1, here, met => if here = goal then [[]] else some.flatMap fun k => if tch ed here k = true ∧ far ed here k ∉ met then (waysF some goal n (far ed here k) (met ++ [far ed here k])).map (k :: ·) else []
inductive Way (some : List Int) (goal : Int) : Int → List Int → List Int → Prop
  | done {met : List Int} : Way some goal goal met []
  | step {here : Int} {met : List Int} {k : Int} {w : List Int} : here ≠ goal → k ∈ some → tch ed here k = true → far ed here k ∉ met → Way some goal (far ed here k) (met ++ [far ed here k]) w → Way some goal here met (k :: w)
end
section
variable {ed : Int → Ed} {some : List Int} {goal : Int}
theorem ways_way : ∀ {n : Nat} {here : Int} {met w : List Int}, w ∈ waysF ed some goal n here met → Way ed some goal here met w
  | 0, _, _, _, h => by cases h
  | n + 1, here, met, w, h => by
    unfold waysF at h
    split at h
    · rename_i e
      subst e
      rw [List.mem_singleton.mp h]
      exact .done
    · rename_i ne
      obtain ⟨k, hk, h⟩ := List.mem_flatMap.mp h
      split at h
      · rename_i c
        obtain ⟨w', hw, rfl⟩ := List.mem_map.mp h
        exact .step ne hk c.1 c.2 (ways_way hw)
      · cases h
def unmet (ps met : List Int) : Nat := (ps.filter fun h => decide (h ∉ met)).length
theorem unmet_lt {ps met : List Int} {h : Int} (hp : h ∈ ps) (hm : h ∉ met) : unmet ps (met ++ [h]) < unmet ps met := by
  unfold unmet
  have e : (ps.filter fun x => decide (x ∉ met ++ [h])) = (ps.filter fun x => decide (x ∉ met)).filter fun x => decide (x ≠ h) := by
    rw [List.filter_filter]
    congr 1
    funext x
    rw [← Bool.decide_and]
    refine decide_eq_decide.mpr ?_
    rw [List.mem_append, List.mem_singleton, not_or]
    exact ⟨fun ⟨a, b⟩ => ⟨b, a⟩, fun ⟨a, b⟩ => ⟨b, a⟩⟩
  rw [e]
  exact List.length_filter_lt_length_iff_exists.mpr ⟨h, List.mem_filter.mpr ⟨hp, decide_eq_true hm⟩, by simp⟩
theorem way_ways {ps : List Int} (hp : ∀ k ∈ some, (ed k).1 ∈ ps ∧ (ed k).2 ∈ ps) : ∀ {here : Int} {met w : List Int}, Way ed some goal here met w → ∀ n, unmet ps met < n → w ∈ waysF ed some goal n here met := by
  intro here met w h
  induction h with
  | done =>
    intro n hn
    match n, hn with
    | n + 1, _ =>
      unfold waysF
      rw [if_pos rfl]
      exact List.mem_singleton_self _
  | @step here met k w ne hk ht hf _ ih =>
    intro n hn
    match n, hn with
    | n + 1, hn =>
      unfold waysF
      rw [if_neg ne]
      refine List.mem_flatMap.mpr ⟨k, hk, ?_⟩
      rw [if_pos ⟨ht, hf⟩]
      refine List.mem_map.mpr ⟨w, ih n ?_, rfl⟩
      have : far ed here k ∈ ps := by
        unfold far
        split
        · exact (hp k hk).2
        · exact (hp k hk).1
      have := unmet_lt this hf
      omega
/-! ### how many -/
def okP (here : Int) (met : List Int) (x : Int) : Bool := decide (x ∉ met) || decide (x = here)
def left (ed : Int → Ed) (some : List Int) (here : Int) (met : List Int) : Nat := some.countP fun k => okP here met (ed k).1 && okP here met (ed k).2
theorem flat_le {f : Int → List (List Int)} {D : Int → Bool} {M : Nat} : ∀ {some : List Int}, (∀ k ∈ some, (f k).length ≤ if D k then M else 0) → (some.flatMap f).length ≤ some.countP D * M
  | [], _ => Nat.zero_le _
  | k :: ks, h => by
    rw [List.flatMap_cons, List.length_append, List.countP_cons, Nat.add_mul]
    have h1 := h k (List.mem_cons_self ..)
    have h2 := flat_le (f := f) (D := D) (M := M) (some := ks) fun j hj => h j (List.mem_cons_of_mem _ hj)
    split at h1
    · rw [if_pos (by assumption), Nat.one_mul]; omega
    · rw [if_neg (by assumption), Nat.zero_mul]; omega
theorem count_split {p q r : Int → Bool} : ∀ {some : List Int}, (∀ k ∈ some, (q k = true → p k = true ∧ r k = false) ∧ (r k = true → p k = true)) → some.countP q + some.countP r ≤ some.countP p
  | [], _ => Nat.le_refl _
  | k :: ks, h => by
    have h1 := h k (List.mem_cons_self ..)
    have h2 := count_split (p := p) (q := q) (r := r) (some := ks) fun j hj => h j (List.mem_cons_of_mem _ hj)
    rw [List.countP_cons, List.countP_cons, List.countP_cons]
    cases hq : q k with
    | true =>
      obtain ⟨a, b⟩ := h1.1 hq
      rw [a, b]
      simp only [if_true, Bool.false_eq_true, if_false]
      omega
    | false =>
      cases hr : r k with
      | true =>
        rw [h1.2 hr]
        simp only [if_true, Bool.false_eq_true, if_false]
        omega
      | false =>
        simp only [Bool.false_eq_true, if_false]
        split <;> omega
theorem ways_len : ∀ {n : Nat} {here : Int} {met : List Int}, here ∈ met → (waysF ed some goal n here met).length ≤ 2 ^ left ed some here met
  | 0, _, _, _ => Nat.zero_le _
  | n + 1, here, met, hm => by
    unfold waysF
    split
    · exact Nat.one_le_two_pow
    · let D : Int → Bool := fun k => decide (tch ed here k = true ∧ far ed here k ∉ met)
      have le := flat_le (some := some) (f := fun k => if tch ed here k = true ∧ far ed here k ∉ met then (waysF ed some goal n (far ed here k) (met ++ [far ed here k])).map (k :: ·) else []) (D := D) (M := 2 ^ (left ed some here met - some.countP D)) fun k hk => by
        by_cases c : tch ed here k = true ∧ far ed here k ∉ met
        · rw [if_pos c, if_pos (decide_eq_true c), List.length_map]
          refine Nat.le_trans (ways_len (List.mem_append_right _ (List.mem_singleton_self _))) (Nat.pow_le_pow_right (by decide) ?_)
          have sp := count_split (some := some) (p := fun k => okP here met (ed k).1 && okP here met (ed k).2) (q := D) (r := fun j => okP (far ed here k) (met ++ [far ed here k]) (ed j).1 && okP (far ed here k) (met ++ [far ed here k]) (ed j).2) fun j hj => by
            have ok' : ∀ x, okP (far ed here k) (met ++ [far ed here k]) x = true → x ∉ met := fun x h => by
              unfold okP at h
              rw [Bool.or_eq_true, decide_eq_true_iff, decide_eq_true_iff] at h
              rcases h with h | rfl
              · exact fun z => h (List.mem_append_left _ z)
              · exact c.2
            refine ⟨fun q => ?_, fun r => ?_⟩
            · obtain ⟨t, f⟩ := of_decide_eq_true q
              unfold tch at t
              rw [Bool.or_eq_true, decide_eq_true_iff, decide_eq_true_iff] at t
              unfold far at f
              refine ⟨?_, ?_⟩
              · unfold okP
                split at f
                · rename_i e
                  rw [Bool.and_eq_true, Bool.or_eq_true, Bool.or_eq_true, decide_eq_true_iff, decide_eq_true_iff, decide_eq_true_iff, decide_eq_true_iff]
                  exact ⟨.inr e.symm, .inl f⟩
                · rename_i e
                  rw [Bool.and_eq_true, Bool.or_eq_true, Bool.or_eq_true, decide_eq_true_iff, decide_eq_true_iff, decide_eq_true_iff, decide_eq_true_iff]
                  exact ⟨.inl f, .inr (t.resolve_left fun z => e z.symm)⟩
              · cases z : okP (far ed here k) (met ++ [far ed here k]) (ed j).1 && okP (far ed here k) (met ++ [far ed here k]) (ed j).2 with
                | false => rfl
                | true =>
                  rw [Bool.and_eq_true] at z
                  rcases t with t | t
                  · exact absurd (t ▸ hm) (ok' _ z.1)
                  · exact absurd (t ▸ hm) (ok' _ z.2)
            · rw [Bool.and_eq_true] at r ⊢
              have a := ok' _ r.1
              have b := ok' _ r.2
              unfold okP
              rw [Bool.or_eq_true, Bool.or_eq_true, decide_eq_true_iff, decide_eq_true_iff]
              exact ⟨.inl a, .inl (decide_eq_true b)⟩
          unfold left at sp ⊢
          omega
        · rw [if_neg c]
          exact Nat.zero_le _
      refine Nat.le_trans le ?_
      have dl : some.countP D ≤ left ed some here met := by
        have sp := count_split (some := some) (p := fun k => okP here met (ed k).1 && okP here met (ed k).2) (q := D) (r := fun _ => false) fun j hj => by
          refine ⟨fun q => ⟨?_, rfl⟩, fun r => by cases r⟩
          obtain ⟨t, f⟩ := of_decide_eq_true q
          unfold tch at t
          rw [Bool.or_eq_true, decide_eq_true_iff, decide_eq_true_iff] at t
          unfold far at f
          unfold okP
          split at f
          · rename_i e
            rw [Bool.and_eq_true, Bool.or_eq_true, Bool.or_eq_true, decide_eq_true_iff, decide_eq_true_iff, decide_eq_true_iff, decide_eq_true_iff]
            exact ⟨.inr e.symm, .inl f⟩
          · rename_i e
            rw [Bool.and_eq_true, Bool.or_eq_true, Bool.or_eq_true, decide_eq_true_iff, decide_eq_true_iff, decide_eq_true_iff, decide_eq_true_iff]
            exact ⟨.inl f, .inr (t.resolve_left fun z => e z.symm)⟩
        unfold left
        omega
      calc some.countP D * 2 ^ (left ed some here met - some.countP D) ≤ 2 ^ some.countP D * 2 ^ (left ed some here met - some.countP D) := Nat.mul_le_mul_right _ (Nat.le_of_lt Nat.lt_two_pow_self)
        _ = 2 ^ left ed some here met := by rw [← Nat.pow_add, Nat.add_sub_cancel' dl]
theorem ways_few {n : Nat} {here : Int} {met : List Int} (hm : here ∈ met) : (waysF ed some goal n here met).length ≤ 2 ^ some.length := Nat.le_trans (ways_len hm) (Nat.pow_le_pow_right (by decide) List.countP_le_length)
end
end Rp

set_option maxHeartbeats 1000000
/-! A way and the link that closes it make a ring; where links close, there is such a ring; the least of them (pure). -/
namespace Rp
section
variable {ed : Int → Ed} {some : List Int} {goal : Int}
theorem tch_far {h k : Int} (t : tch ed h k = true) (ne : (ed k).1 ≠ (ed k).2) : far ed h k ≠ h ∧ ∀ x, tch ed x k = true ↔ x = h ∨ x = far ed h k := by
  unfold tch at t
  rw [Bool.or_eq_true, decide_eq_true_iff, decide_eq_true_iff] at t
  have q : ∀ x, tch ed x k = true ↔ ((ed k).1 = x ∨ (ed k).2 = x) := fun x => by
    unfold tch
    rw [Bool.or_eq_true, decide_eq_true_iff, decide_eq_true_iff]
  unfold far
  split
  · rename_i e
    refine ⟨fun z => ne (e.symm.trans z.symm), fun x => ?_⟩
    rw [q]
    exact ⟨fun z => z.elim (fun z => .inl (z.symm.trans e.symm)) (fun z => .inr z.symm), fun z => z.elim (fun z => .inl (e.symm.trans z.symm)) (fun z => .inr z.symm)⟩
  · rename_i e
    have e2 := t.resolve_left fun z => e z.symm
    refine ⟨fun z => e z.symm, fun x => ?_⟩
    rw [q]
    exact ⟨fun z => z.elim (fun z => .inr z.symm) (fun z => .inl (z.symm.trans e2)), fun z => z.elim (fun z => .inr (e2.trans z.symm)) (fun z => .inl z.symm)⟩
theorem dg_cons (ed : Int → Ed) (k : Int) (w : List Int) (x : Int) : dg ed (k :: w) x = dg ed w x + if tch ed x k = true then 1 else 0 := List.countP_cons ..
/-! ### what a way meets -/
theorem way_here {here : Int} {met w : List Int} (h : Way ed some goal here met w) (e : here = goal) : w = [] := by
  cases h with
  | done => rfl
  | step ne => exact absurd e ne
structure WayD (ed : Int → Ed) (here goal : Int) (met w : List Int) : Prop where
  h1 : dg ed w here = 1
  g1 : dg ed w goal = 1
  two : ∀ x, x ≠ here → x ≠ goal → dg ed w x = 0 ∨ dg ed w x = 2
  non : ∀ x ∈ met, x ≠ here → dg ed w x = 0
  nd : w.Nodup
theorem way_deg (ne : ∀ k ∈ some, (ed k).1 ≠ (ed k).2) : ∀ {here : Int} {met w : List Int}, Way ed some goal here met w → here ∈ met → goal ∉ met → WayD ed here goal met w := by
  intro here met w h
  induction h with
  | done => exact fun a b => absurd a b
  | @step here met k w hne hk ht hf hw ih =>
    intro hm hg
    obtain ⟨fne, tk⟩ := tch_far ht (ne k hk)
    by_cases e : far ed here k = goal
    · have w0 := way_here hw e
      subst w0
      have d : ∀ x, dg ed [k] x = if x = here ∨ x = goal then 1 else 0 := fun x => by
        rw [dg_cons]
        show 0 + _ = _
        rw [Nat.zero_add]
        by_cases c : x = here ∨ x = goal
        · rw [if_pos c, if_pos ((tk x).mpr (by rw [e]; exact c))]
        · rw [if_neg c, if_neg (fun z => c (by rw [← e]; exact (tk x).mp z))]
      refine ⟨by rw [d, if_pos (.inl rfl)], by rw [d, if_pos (.inr rfl)], fun x h1 h2 => .inl (by rw [d, if_neg (by rintro (z | z); exact h1 z; exact h2 z)]), fun x hx h1 => by rw [d, if_neg]; rintro (z | z); exact h1 z; exact hg (z ▸ hx), by simp⟩
    · have hg' : goal ∉ met ++ [far ed here k] := fun z => by
        rcases List.mem_append.mp z with z | z
        · exact hg z
        · exact e (List.mem_singleton.mp z).symm
      obtain ⟨h1, g1, two, non, nd⟩ := ih (List.mem_append_right _ (List.mem_singleton_self _)) hg'
      have dh : dg ed w here = 0 := non here (List.mem_append_left _ hm) fun z => fne z.symm
      have d : ∀ x, dg ed (k :: w) x = dg ed w x + if x = here ∨ x = far ed here k then 1 else 0 := fun x => by
        rw [dg_cons]
        congr 1
        by_cases c : x = here ∨ x = far ed here k
        · rw [if_pos c, if_pos ((tk x).mpr c)]
        · rw [if_neg c, if_neg fun z => c ((tk x).mp z)]
      refine ⟨by rw [d, dh, if_pos (.inl rfl)], ?_, fun x a b => ?_, fun x hx a => ?_, ?_⟩
      · rw [d, g1, if_neg]
        rintro (z | z)
        · exact hne z.symm
        · exact e z.symm
      · rw [d]
        by_cases c : x = far ed here k
        · rw [if_pos (.inr c), c, h1]; exact .inr rfl
        · rw [if_neg (by rintro (z | z); exact a z; exact c z)]
          exact two x c b
      · have xf : x ≠ far ed here k := fun z => hf (z ▸ hx)
        rw [d, if_neg (by rintro (z | z); exact a z; exact xf z)]
        exact non x (List.mem_append_left _ hx) xf
      · refine List.nodup_cons.mpr ⟨fun hkw => ?_, nd⟩
        have : 0 < dg ed w here := List.countP_pos_iff.mpr ⟨k, hkw, ht⟩
        omega
theorem way_sub : ∀ {here : Int} {met w : List Int}, Way ed some goal here met w → ∀ j ∈ w, j ∈ some := by
  intro here met w h
  induction h with
  | done => exact fun _ h => by cases h
  | step _ hk _ _ _ ih =>
    intro j hj
    rcases List.mem_cons.mp hj with rfl | hj
    · exact hk
    · exact ih j hj
theorem way_mono {some' : List Int} (s : ∀ k ∈ some, k ∈ some') : ∀ {here : Int} {met w : List Int}, Way ed some goal here met w → Way ed some' goal here met w := by
  intro here met w h
  induction h with
  | done => exact .done
  | step ne hk ht hf _ ih => exact .step ne (s _ hk) ht hf ih
/-! ### rings -/
def Closed (ed : Int → Ed) (js : List Int) : Prop := ∀ k ∈ js, dg ed js (ed k).1 = 2 ∧ dg ed js (ed k).2 = 2
/-- what the law goes: a link, a way from its one end to its other without it; sorted -/
def IsCyc (ed : Int → Ed) (ks C : List Int) : Prop := ∃ k ∈ ks, ∃ w, Way ed (ks.filter fun j => decide (j ≠ k)) (ed k).2 (ed k).1 [(ed k).1] w ∧ C.Perm (k :: w) ∧ C.Pairwise (· ≤ ·)
theorem dg_perm {a b : List Int} (p : a.Perm b) (x : Int) : dg ed a x = dg ed b x := p.countP_eq _
theorem cyc_ok {ks C : List Int} (ne : ∀ k ∈ ks, (ed k).1 ≠ (ed k).2) (h : IsCyc ed ks C) : (∀ j ∈ C, j ∈ ks) ∧ C.Nodup ∧ Closed ed C ∧ 2 ≤ C.length := by
  obtain ⟨k, hk, w, hw, p, so⟩ := h
  have nk := ne k hk
  have sub := way_sub hw
  have sub' : ∀ j ∈ w, j ∈ ks ∧ j ≠ k := fun j hj => by
    obtain ⟨a, b⟩ := List.mem_filter.mp (sub j hj)
    exact ⟨a, of_decide_eq_true b⟩
  obtain ⟨h1, g1, two, non, nd⟩ := way_deg (fun j hj => ne j (List.mem_filter.mp hj).1) hw (List.mem_singleton_self _) fun z => nk (List.mem_singleton.mp z).symm
  have tk : ∀ x, tch ed x k = true ↔ x = (ed k).1 ∨ x = (ed k).2 := fun x => by
    unfold tch
    rw [Bool.or_eq_true, decide_eq_true_iff, decide_eq_true_iff]
    exact ⟨fun z => z.elim (fun z => .inl z.symm) (fun z => .inr z.symm), fun z => z.elim (fun z => .inl z.symm) (fun z => .inr z.symm)⟩
  have d : ∀ x, dg ed C x = 0 ∨ dg ed C x = 2 := fun x => by
    rw [dg_perm p, dg_cons]
    by_cases a : x = (ed k).1
    · rw [if_pos ((tk x).mpr (.inl a)), a, h1]; exact .inr rfl
    · by_cases b : x = (ed k).2
      · rw [if_pos ((tk x).mpr (.inr b)), b, g1]; exact .inr rfl
      · rw [if_neg (fun z => ((tk x).mp z).elim a b)]
        exact two x a b
  refine ⟨fun j hj => ?_, p.nodup_iff.mpr (List.nodup_cons.mpr ⟨fun z => (sub' k z).2 rfl, nd⟩), fun j hj => ?_, ?_⟩
  · rcases List.mem_cons.mp (p.mem_iff.mp hj) with rfl | z
    · exact hk
    · exact (sub' j z).1
  · have p1 : 0 < dg ed C (ed j).1 := List.countP_pos_iff.mpr ⟨j, hj, by unfold tch; rw [decide_eq_true rfl, Bool.true_or]⟩
    have p2 : 0 < dg ed C (ed j).2 := List.countP_pos_iff.mpr ⟨j, hj, by unfold tch; rw [decide_eq_true (p := (ed j).2 = (ed j).2) rfl, Bool.or_true]⟩
    have := d (ed j).1
    have := d (ed j).2
    omega
  · rw [p.length_eq, List.length_cons]
    cases w with
    | nil => cases h1
    | cons _ _ => rw [List.length_cons]; omega
/-! ### where links close there is a way round -/
inductive Trail (ed : Int → Ed) (E : List Int) (goal : Int) : Int → List Int → Prop
  | nil : Trail ed E goal goal []
  | cons {here k : Int} {vs : List Int} : k ∈ E → tch ed here k = true → Trail ed E goal (far ed here k) vs → Trail ed E goal here (far ed here k :: vs)
theorem trail_cut {E : List Int} {x : Int} : ∀ {here : Int} {vs : List Int}, Trail ed E goal here vs → x ∈ vs → ∃ vs2, Trail ed E goal x vs2 ∧ vs2.length < vs.length ∧ ∀ y ∈ vs2, y ∈ vs := by
  intro here vs h
  induction h with
  | nil => exact fun z => by cases z
  | @cons here k vs hk ht tr ih =>
    intro hx
    rcases List.mem_cons.mp hx with rfl | hx
    · exact ⟨vs, tr, Nat.lt_succ_self _, fun y hy => List.mem_cons_of_mem _ hy⟩
    · obtain ⟨vs2, a, b, c⟩ := ih hx
      exact ⟨vs2, a, Nat.lt_succ_of_lt b, fun y hy => List.mem_cons_of_mem _ (c y hy)⟩
theorem trail_way {E : List Int} : ∀ (n : Nat) {here : Int} {met vs : List Int}, vs.length ≤ n → Trail ed E goal here vs → (∀ x ∈ vs, x ∈ met → x = here) → here ∈ met → ∃ w, Way ed E goal here met w
  | n, here, met, vs, hn, tr, hv, hm => by
    by_cases e : here = goal
    · subst e; exact ⟨[], .done⟩
    cases tr with
    | nil => exact absurd rfl e
    | @cons _ k vs hk ht tr =>
      match n, hn with
      | n + 1, hn =>
        have hn : vs.length ≤ n := Nat.le_of_succ_le_succ hn
        by_cases c : here ∈ far ed here k :: vs
        · obtain ⟨vs2, a, b, d⟩ := trail_cut (.cons hk ht tr) c
          rw [List.length_cons] at b
          exact trail_way n (by omega) a (fun x hx => hv x (d x hx)) hm
        · rw [List.mem_cons, not_or] at c
          have fm : far ed here k ∉ met := fun z => c.1 (hv _ (List.mem_cons_self ..) z).symm
          obtain ⟨w, hw⟩ := trail_way n (met := met ++ [far ed here k]) hn tr (fun x hx hxm => by
            rcases List.mem_append.mp hxm with z | z
            · exact absurd (hv x (List.mem_cons_of_mem _ hx) z ▸ hx) c.2
            · exact List.mem_singleton.mp z) (List.mem_append_right _ (List.mem_singleton_self _))
          exact ⟨k :: w, .step e hk ht fm hw⟩
def Cn (ed : Int → Ed) (E : List Int) (x y : Int) : Prop := ∃ vs, Trail ed E y x vs
theorem Cn.trans {E : List Int} {x y z : Int} (h : Cn ed E x y) (g : Cn ed E y z) : Cn ed E x z := by
  obtain ⟨vs, h⟩ := h
  induction h with
  | nil => exact g
  | cons hk ht _ ih =>
    obtain ⟨us, h⟩ := ih
    exact ⟨_, .cons hk ht h⟩
theorem far_far {h k : Int} (t : tch ed h k = true) (ne : (ed k).1 ≠ (ed k).2) : tch ed (far ed h k) k = true ∧ far ed (far ed h k) k = h := by
  obtain ⟨a, b⟩ := tch_far t ne
  have t2 := (b (far ed h k)).mpr (.inr rfl)
  obtain ⟨c, d⟩ := tch_far t2 ne
  refine ⟨t2, ?_⟩
  rcases (b _).mp ((d (far ed (far ed h k) k)).mpr (.inr rfl)) with z | z
  · exact z
  · exact absurd z c
theorem Cn.symm {E : List Int} (ne : ∀ k ∈ E, (ed k).1 ≠ (ed k).2) {x y : Int} (h : Cn ed E x y) : Cn ed E y x := by
  obtain ⟨vs, h⟩ := h
  induction h with
  | nil => exact ⟨_, .nil⟩
  | @cons here k vs hk ht _ ih =>
    obtain ⟨a, b⟩ := far_far ht (ne k hk)
    refine ih.trans ⟨[far ed (far ed here k) k], .cons hk a ?_⟩
    rw [b]
    exact .nil
theorem Cn.link {E : List Int} {k : Int} (hk : k ∈ E) : Cn ed E (ed k).1 (ed k).2 := by
  refine ⟨[far ed (ed k).1 k], .cons hk (by unfold tch; rw [decide_eq_true rfl, Bool.true_or]) ?_⟩
  unfold far
  rw [if_pos rfl]
  exact .nil
theorem fold_cn {E : List Int} (ne : ∀ k ∈ E, (ed k).1 ≠ (ed k).2) : ∀ (L : List Int) (r : Int → Int), (∀ k ∈ L, k ∈ E) → (∀ x y, r x = r y → Cn ed E x y) → ∀ x y, (L.map ed).foldl Uf.stepR r x = (L.map ed).foldl Uf.stepR r y → Cn ed E x y
  | [], _, _, h => h
  | k :: L, r, s, h => by
    have hk := s k (List.mem_cons_self ..)
    refine fold_cn ne L (Uf.stepR r (ed k)) (fun j hj => s j (List.mem_cons_of_mem _ hj)) fun x y z => ?_
    rcases Uf.step_iff.mp z with z | ⟨z1, z2⟩ | ⟨z1, z2⟩
    · exact h x y z
    · exact (h _ _ z1).trans ((Cn.link hk).trans (h _ _ z2.symm))
    · exact (h _ _ z1).trans (((Cn.link hk).symm ne).trans (h _ _ z2.symm))
theorem again_at : ∀ (L : List Int) (r : Int → Int), Uf.againF r (L.map ed) = true → ∃ a k b, L = a ++ k :: b ∧ (a.map ed).foldl Uf.stepR r (ed k).1 = (a.map ed).foldl Uf.stepR r (ed k).2
  | [], _, h => by cases h
  | k :: L, r, h => by
    have h : (decide (r (ed k).1 = r (ed k).2) || Uf.againF (Uf.stepR r (ed k)) (L.map ed)) = true := h
    rw [Bool.or_eq_true, decide_eq_true_iff] at h
    rcases h with h | h
    · exact ⟨[], k, L, rfl, h⟩
    · obtain ⟨a, j, b, e, q⟩ := again_at L _ h
      exact ⟨k :: a, j, b, by rw [e]; rfl, q⟩
theorem again_cyc {ks : List Int} (ne : ∀ k ∈ ks, (ed k).1 ≠ (ed k).2) (nd : ks.Nodup) (h : Uf.againF id (ks.map ed) = true) : ∃ k ∈ ks, ∃ w, Way ed (ks.filter fun j => decide (j ≠ k)) (ed k).2 (ed k).1 [(ed k).1] w := by
  obtain ⟨a, k, b, rfl, q⟩ := again_at ks id h
  have hk : k ∈ a ++ k :: b := List.mem_append_right _ (List.mem_cons_self ..)
  obtain ⟨vs, tr⟩ := fold_cn (ed := ed) (E := a) (fun j hj => ne j (List.mem_append_left _ hj)) a id (fun _ h => h) (fun x y z => ⟨[], by rw [show x = y from z]; exact .nil⟩) _ _ q
  obtain ⟨w, hw⟩ := trail_way (met := [(ed k).1]) vs.length (Nat.le_refl _) tr (fun x _ hm => List.mem_singleton.mp hm) (List.mem_singleton_self _)
  refine ⟨k, hk, w, way_mono (fun j hj => List.mem_filter.mpr ⟨List.mem_append_left _ hj, ?_⟩) hw⟩
  rw [List.nodup_append] at nd
  have n : j ≠ k := nd.2.2 j hj k (List.mem_cons_self ..)
  simpa using n
/-! ### the least -/
theorem lex_eq : ∀ {xs ys : List Int}, HT.lexLt xs ys = false → HT.lexLt ys xs = false → xs = ys
  | [], [], _, _ => rfl
  | [], _ :: _, h, _ => by rw [HT.lexLt_nil_cons] at h; cases h
  | _ :: _, [], _, h => by rw [HT.lexLt_nil_cons] at h; cases h
  | x :: xs, y :: ys, h1, h2 => by
    rw [HT.lexLt_cons] at h1 h2
    by_cases e : x = y
    · rw [if_pos e] at h1
      rw [if_pos e.symm] at h2
      rw [e, lex_eq h1 h2]
    · rw [if_neg e] at h1
      rw [if_neg (Ne.symm e)] at h2
      have := of_decide_eq_false h1
      have := of_decide_eq_false h2
      omega
theorem lex_irr (xs : List Int) : HT.lexLt xs xs = false := by
  cases h : HT.lexLt xs xs with
  | false => rfl
  | true => rw [NtL.lex_asym _ _ h] at h; cases h
theorem sorted_sub : ∀ {ls C : List Int}, ls.Pairwise (· < ·) → C.Pairwise (· < ·) → (∀ j ∈ C, j ∈ ls) → C.Sublist ls
  | _, [], _, _, _ => List.nil_sublist _
  | [], c :: C, _, _, h => by cases h c (List.mem_cons_self ..)
  | l :: ls, c :: C, hl, hc, h => by
    rw [List.pairwise_cons] at hl hc
    rcases List.mem_cons.mp (h c (List.mem_cons_self ..)) with rfl | hm
    · refine (sorted_sub hl.2 hc.2 fun j hj => ?_).cons_cons _
      rcases List.mem_cons.mp (h j (List.mem_cons_of_mem _ hj)) with rfl | z
      · exact absurd (hc.1 _ hj) (by omega)
      · exact z
    · have lc := hl.1 c hm
      refine (sorted_sub hl.2 (List.pairwise_cons.mpr hc) fun j hj => ?_).cons _
      rcases List.mem_cons.mp (h j hj) with rfl | z
      · rcases List.mem_cons.mp hj with rfl | z
        · omega
        · have := hc.1 _ z; omega
      · exact z
/-- the shortest of what closes, of several the least -/
structure IsRing (ed : Int → Ed) (ls R : List Int) : Prop where
  sub : R.Sublist ls
  two : 2 ≤ R.length
  clo : Closed ed R
  min : ∀ T, T.Sublist ls → T ≠ [] → Closed ed T → R.length ≤ T.length ∧ (T.length = R.length → HT.lexLt T R = false)
theorem IsRing.uniq {ls R R' : List Int} (h : IsRing ed ls R) (h' : IsRing ed ls R') : R = R' := by
  have n : ∀ {S : List Int}, 2 ≤ S.length → S ≠ [] := fun h z => by rw [z] at h; simp at h
  obtain ⟨a, b⟩ := h.min R' h'.sub (n h'.two) h'.clo
  obtain ⟨c, d⟩ := h'.min R h.sub (n h.two) h.clo
  exact lex_eq (d (by omega)) (b (by omega))
variable {ks ls : List Int}
theorem srt_exists (w : List Int) : ∃ C : List Int, C.Perm w ∧ C.Pairwise (· ≤ ·) := ⟨w.mergeSort, List.mergeSort_perm _ _, (List.pairwise_mergeSort (le := fun a b => decide (a ≤ b)) (fun a b c h1 h2 => by simp at *; omega) (fun a b => by simp; omega) w).imp fun h => of_decide_eq_true h⟩
theorem cyc_in (ne : ∀ k ∈ ks, (ed k).1 ≠ (ed k).2) (pm : ls.Perm ks) (so : ls.Pairwise (· < ·)) {C : List Int} (h : IsCyc ed ks C) : C.Sublist ls := by
  obtain ⟨a, b, _, _⟩ := cyc_ok ne h
  obtain ⟨_, _, _, _, _, sc⟩ := h
  exact sorted_sub so (sc.imp_of_mem (fun {x y} hx hy l => l) |>.and b |>.imp fun {x y} ⟨l, n⟩ => by omega) fun j hj => pm.mem_iff.mpr (a j hj)
/-- what closes holds such a ring -/
theorem cyc_of (ne : ∀ k ∈ ks, (ed k).1 ≠ (ed k).2) (pm : ls.Perm ks) (so : ls.Pairwise (· < ·)) {T : List Int} (s : T.Sublist ls) (t0 : T ≠ []) (c : Closed ed T) : ∃ C, IsCyc ed ks C ∧ C.Sublist T := by
  have neT : ∀ k ∈ T, (ed k).1 ≠ (ed k).2 := fun k hk => ne k (pm.mem_iff.mp (s.subset hk))
  have dgd : ∀ x, Uf.deg (T.map ed) x = dg ed T x := fun x => by
    unfold Uf.deg dg
    rw [List.countP_map]
    rfl
  have ag : Uf.againF id (T.map ed) = true := by
    cases z : Uf.againF id (T.map ed) with
    | true => rfl
    | false =>
      obtain ⟨e, he, hd⟩ := Uf.none_closes (fun e he => by
        obtain ⟨k, hk, rfl⟩ := List.mem_map.mp he
        exact neT k hk) z (by simpa using t0)
      obtain ⟨k, hk, rfl⟩ := List.mem_map.mp he
      obtain ⟨c1, c2⟩ := c k hk
      rw [dgd, dgd] at hd
      omega
  have soT : T.Pairwise (· < ·) := so.sublist s
  obtain ⟨k, hk, w, hw⟩ := again_cyc neT (soT.imp fun h => by omega) ag
  obtain ⟨C, p, sc⟩ := srt_exists (k :: w)
  have hT : IsCyc ed T C := ⟨k, hk, w, hw, p, sc⟩
  refine ⟨C, ⟨k, pm.mem_iff.mp (s.subset hk), w, way_mono (fun j hj => ?_) hw, p, sc⟩, cyc_in neT (List.Perm.refl _) soT hT⟩
  obtain ⟨a, b⟩ := List.mem_filter.mp hj
  exact List.mem_filter.mpr ⟨pm.mem_iff.mp (s.subset a), b⟩
theorem least_ring (ne : ∀ k ∈ ks, (ed k).1 ≠ (ed k).2) (pm : ls.Perm ks) (so : ls.Pairwise (· < ·)) {C : List Int} (h : IsCyc ed ks C) (le : ∀ C', IsCyc ed ks C' → HT.lexLt ((C'.length : Int) :: C') ((C.length : Int) :: C) = false) : IsRing ed ls C := by
  obtain ⟨_, nd, clo, two⟩ := cyc_ok ne h
  refine ⟨cyc_in ne pm so h, two, clo, fun T s t0 c => ?_⟩
  obtain ⟨C', h', s'⟩ := cyc_of ne pm so s t0 c
  have l := le C' h'
  rw [HT.lexLt_cons] at l
  have sl := s'.length_le
  by_cases e : (C'.length : Int) = (C.length : Int)
  · rw [if_pos e] at l
    refine ⟨by omega, fun tl => ?_⟩
    have : C' = T := s'.eq_of_length (by omega)
    rw [← this]
    exact l
  · rw [if_neg e] at l
    have := of_decide_eq_false l
    exact ⟨by omega, fun tl => by omega⟩
theorem cyc_again (ne : ∀ k ∈ ks, (ed k).1 ≠ (ed k).2) (pm : ls.Perm ks) (so : ls.Pairwise (· < ·)) : Uf.againF id (ks.map ed) = true ↔ ∃ C, IsCyc ed ks C := by
  have nd : ks.Nodup := pm.nodup_iff.mp (so.imp fun h => by omega)
  constructor
  · intro h
    obtain ⟨k, hk, w, hw⟩ := again_cyc ne nd h
    obtain ⟨C, p, sc⟩ := srt_exists (k :: w)
    exact ⟨C, k, hk, w, hw, p, sc⟩
  · rintro ⟨C, h⟩
    obtain ⟨_, _, clo, two⟩ := cyc_ok ne h
    have sub := cyc_in ne pm so h
    rw [← Uf.again_perm (pm.map ed)]
    cases z : Uf.againF id (ls.map ed) with
    | true => rfl
    | false =>
      have z2 := Uf.again_sub (sub.map ed) z
      obtain ⟨e, he, hd⟩ := Uf.none_closes (fun e he => by
        obtain ⟨k, hk, rfl⟩ := List.mem_map.mp he
        exact ne k (pm.mem_iff.mp (sub.subset hk))) z2 (by intro q; rw [List.map_eq_nil_iff] at q; rw [q] at two; simp at two)
      obtain ⟨k, hk, rfl⟩ := List.mem_map.mp he
      obtain ⟨c1, c2⟩ := clo k hk
      have dgd : ∀ x, Uf.deg (C.map ed) x = dg ed C x := fun x => by
        unfold Uf.deg dg
        rw [List.countP_map]
        rfl
      rw [dgd, dgd] at hd
      omega
end
end Rp

set_option maxHeartbeats 1000000
namespace K37
open PySem PySem.Spec PyProof.Rows L2 Evl MyG
/-! ### ways and rings, as the law goes them -/
def edR (rs : List Row) (k : Int) : Int × Int := ((rs.getD k.toNat (0, 0, 0)).1, (rs.getD k.toNat (0, 0, 0)).2.1)
def WaysAt (H : Hp) : List V → List (List Int) → Prop := Paired fun (v : V) (w : List Int) => ∃ a, v = .ref a ∧ H a = some (.lst (w.map V.int))
theorem WaysAt.ext {H H' : Hp} (e : Ex H H') {xs : List V} {ws : List (List Int)} (h : WaysAt H xs ws) : WaysAt H' xs ws := Paired.mapP h fun _ _ ⟨a, h1, h2⟩ => ⟨a, h1, e _ _ h2⟩
theorem WaysAt.ne {H : Hp} {D : Addr} {xs : List V} {ws : List (List Int)} (h : WaysAt H xs ws) (hD : H D = some (.lst xs)) : ∀ {a : Addr}, V.ref a ∈ xs → (∃ w : List Int, H a = some (.lst (w.map V.int))) → a ≠ D := fun {a} m ⟨w, hw⟩ z => by
  rw [z, hD] at hw
  have e : xs = w.map V.int := HO.lst.inj (Option.some.inj hw)
  rw [e] at m
  obtain ⟨_, _, k⟩ := List.mem_map.mp m
  cases k
theorem WaysAt.put {H : Hp} {D : Addr} {o : HO} {xs : List V} {ws : List (List Int)} (h : WaysAt H xs ws) (hD : H D = some (.lst xs)) : WaysAt (upd H D o) xs ws := by
  have key : ∀ {ys : List V} {us : List (List Int)}, WaysAt H ys us → (∀ y ∈ ys, y ∈ xs) → WaysAt (upd H D o) ys us := fun {ys us} h1 s => by
    induction h1 with
    | nil => exact .nil
    | cons h1 _ ih =>
      obtain ⟨a, rfl, h2⟩ := h1
      exact .cons ⟨a, rfl, by rw [upd_ne (h.ne hD (s _ (List.mem_cons_self ..)) ⟨_, h2⟩)]; exact h2⟩ (ih fun y hy => s y (List.mem_cons_of_mem _ hy))
  exact key h fun _ h => h
theorem WaysAt.app {H : Hp} : ∀ {xs ys : List V} {ws us : List (List Int)}, WaysAt H xs ws → WaysAt H ys us → WaysAt H (xs ++ ys) (ws ++ us)
  | _, _, _, _, .nil, h => h
  | _, _, _, _, .cons h t, g => .cons h (WaysAt.app t g)
theorem ways_short {rs : List Row} {ks : List Int} {goal : Int} : ∀ {n : Nat} {here : Int} {met w : List Int}, w ∈ Rp.waysF (edR rs) ks goal n here met → w.length < n
  | 0, _, _, _, h => by cases h
  | n + 1, here, met, w, h => by
    unfold Rp.waysF at h
    split at h
    · rw [List.mem_singleton.mp h]; exact Nat.succ_pos _
    · obtain ⟨k, _, h⟩ := List.mem_flatMap.mp h
      split at h
      · obtain ⟨w', hw, rfl⟩ := List.mem_map.mp h
        exact Nat.succ_lt_succ (ways_short hw)
      · cases h
theorem flat_part {α β : Type} (f : α → List β) (ks : List α) (i : Nat) : ((ks.take i).flatMap f).length ≤ (ks.flatMap f).length := by
  have e : ks.flatMap f = (ks.take i).flatMap f ++ (ks.drop i).flatMap f := by rw [← List.flatMap_append, List.take_append_drop]
  rw [e, List.length_append]
  exact Nat.le_add_right _ _
theorem ed_at {rs : List Row} {j : Nat} {r : Row} (hr : rs[j]? = some r) : edR rs (j : Int) = (r.1, r.2.1) := by
  unfold edR
  rw [Int.toNat_natCast, List.getD_eq_getElem?_getD, hr]
  rfl
theorem tch_at {rs : List Row} {j : Nat} {r : Row} (h : Int) (hr : rs[j]? = some r) : inV (.int h) [.int r.1, .int r.2.1] = Rp.tch (edR rs) h (j : Int) := by
  rw [touch_two h hr]
  unfold touchI Rp.tch
  rw [Int.toNat_natCast, hr, ed_at hr]
  show (decide (h = r.1) || decide (h = r.2.1)) = (decide (r.1 = h) || decide (r.2.1 = h))
  rw [decide_eq_decide.mpr (eq_comm (a := h) (b := r.1)), decide_eq_decide.mpr (eq_comm (a := h) (b := r.2.1))]
theorem fork_e {te : TE} {σ : L2.St} {H : Hp} {Q : VK} (G : V → Hp → Prop) (h : ∀ Q' : VK, (∀ v H', G v H' → Q' v H') → te σ H Q') (k : ∀ v H', G v H' → Q v H') : te σ H Q := h Q k
def sp_ways (m : Nat) : Sp := fun vs H Q _ => ∃ (L S M : Addr) (ts : List V) (rs : List Row) (ps ks met : List Int) (here goal : Int), vs = [.ref L, .ref S, .int here, .int goal, .ref M] ∧ H L = some (.lst ts) ∧ RowsAt H ts rs ∧ H S = some (.lst (ks.map V.int)) ∧ H M = some (.lst (met.map V.int)) ∧ ks.length ≤ 12 ∧ met.length + m ≤ 20 ∧ here ∈ met ∧
  (∀ k ∈ ks, 0 ≤ k ∧ k < rs.length) ∧ (∀ k ∈ ks, (edR rs k).1 ∈ ps ∧ (edR rs k).2 ∈ ps) ∧ Rp.unmet ps met < m ∧ ∀ p xs H', H p = none → Ex H H' → H' p = some (.lst xs) → WaysAt H' xs (Rp.waysF (edR rs) ks goal m here met) → Q (.ref p) H'
section
variable {P : Program} {w : World} {K : PySem.W.Frag} {mg : Str → Option Value} {base : Heap}
theorem ok_ways (T : Tx K mg) : ∀ m : Nat, FnOk P w K mg base CX0 (m + 1) T.a_l_ways T.d_l_ways ["_law_chain", "_law_some_here", "_law_here", "_law_goal", "_law_met"] (sp_ways m)
  | 0 => by
    refine T.F_l_ways.ok sc_l_ways (fun vs H Q E h => ?_) (fun cdv A outer s H vs Q E hr h => ?_)
    · obtain ⟨_, _, _, _, _, _, _, _, _, _, rfl, _⟩ := h
      rfl
    · obtain ⟨_, _, _, _, _, _, _, _, _, _, _, _, _, _, _, _, _, _, _, _, z, _⟩ := h
      exact absurd z (Nat.not_lt_zero _)
  | m + 1 => by
    have G_l_ways := ok_ways T m
    refine T.F_l_ways.ok sc_l_ways (fun vs H Q E h => ?_) (fun cdv A outer s H vs Q E hr h => ?_)
    · obtain ⟨_, _, _, _, _, _, _, _, _, _, rfl, _⟩ := h
      rfl
    · obtain ⟨L, S, M, ts, rs, ps, ks, met, here, goal, rfl, hL, hts, hS, hM, kl, ml, hm, kb, kp, um, q⟩ := h
      refine ⟨_, (pss_cons (ps_if (pt_cmpR op_eq (pv 2) (pv 3) (nomark _)) (pss_one (ps_ret (pe_lst (pa_cons (pe_lst pa_nil) pa_nil)))) pss_nil)
  (pss_cons (ps_set (i := 5) sc_l_ways.nd rfl (Or.inl rfl) (pe_lst pa_nil))
  (pss_cons (ps_for PassesOwn.never rfl (iListK (K := K) rfl (pv 1)) (pg_name (i := 6) sc_l_ways.nd rfl (Or.inr rfl))
   (pss_cons (ps_asg (pe_ix (ix_listK (K := K) rfl) (pv 0) (pv 6) (fun _ _ => rfl)) (pg_tup rfl (pgs_cons (pg_name (i := 7) sc_l_ways.nd rfl (Or.inl rfl)) (pgs_cons (pg_name (i := 8) sc_l_ways.nd rfl (Or.inl rfl)) (pgs_cons (pg_name (i := 9) sc_l_ways.nd rfl (Or.inl rfl)) pgs_nil)))))
  (pss_one (ps_if (pt_cmpR (op_inK (K := K) rfl) (pv 2) (pe_tup (pa_cons (pv 7) (pa_cons (pv 8) pa_nil))) (by rfl)) (pss_cons (ps_set (i := 10) sc_l_ways.nd rfl (Or.inl rfl) (pe_ifExp (pt_cmpR op_eq (pv 2) (pv 7) (nomark _)) (pv 8) (pv 7)))
  (pss_one (ps_if (pt_cmpR (op_niK (K := K) rfl) (pv 10) (pv 4) (by rfl)) (pss_one (ps_set (i := 5) sc_l_ways.nd rfl (Or.inl rfl) (pe_op op_cat (pv 5) (pe_lc (own := [("_law_rest", 11)]) (g := (gName 11)) (tt := tYes) rfl sc_l_ways.nd (iListK (K := K) rfl (pe_call G_l_ways hr (by rfl) T.g_l_ways T.F_l_ways.kp T.b_l_ways .nil pass0 (pa_cons (pv 0) (pa_cons (pv 1) (pa_cons (pv 10) (pa_cons (pv 3) (pa_cons (pe_op op_cat (pv 4) (pe_lst (pa_cons (pv 10) pa_nil))) pa_nil))))))) (blkOk_by (N := n_l_ways) (sc := defScope s_l_ways) (by decide +kernel)) (fun _ _ _ _ _ => (pg_name (i := 11) sc_l_ways.nd rfl (Or.inl rfl))) (fun _ _ _ _ _ => pts_nil) (fun _ _ _ _ _ => (pe_op op_cat (pe_lst (pa_cons (pv 6) pa_nil)) (pv 11))))))) pss_nil))) pss_nil))))
  (pss_one (ps_ret (pv 5)))))), ?_⟩
      refine un_seq (s_if (b := decide (V.int here = .int goal)) (et_test (ev_op (ev_var rfl) (ev_var rfl) (rv_eq rfl))) (fun c H1 e1 => ?_) (fun c H1 e1 => un_next ?_))
      · have hg : here = goal := V.int.inj (of_decide_eq_true c)
        refine un_ret ⟨Nat.zero_le _, fun p hp => ⟨by show 1 ≤ sizeLine; decide, fun p2 hp2 => ?_⟩⟩
        have ep := Ex.new (o := .lst []) hp
        have ep2 := Ex.new (o := .lst [.ref p]) hp2
        refine q p2 [.ref p] _ (fresh_back (e1.trans ep) hp2) (e1.trans (ep.trans ep2)) upd_same ?_
        unfold Rp.waysF
        rw [if_pos hg]
        exact .cons ⟨p, rfl, ep2 _ _ upd_same⟩ .nil
      have hg : here ≠ goal := fun z => of_decide_eq_false c (by rw [z])
      have ew : Rp.waysF (edR rs) ks goal (m + 1) here met = ks.flatMap fun k => if Rp.tch (edR rs) here k = true ∧ Rp.far (edR rs) here k ∉ met then (Rp.waysF (edR rs) ks goal m (Rp.far (edR rs) here k) (met ++ [Rp.far (edR rs) here k])).map (k :: ·) else [] := by
        unfold Rp.waysF
        rw [if_neg hg]
        cases m <;> rfl
      have p12 : 2 ^ ks.length ≤ 2 ^ 12 := Nat.pow_le_pow_right (by decide) kl
      have p12 : 2 ^ ks.length ≤ 4096 := p12
      have tot := Rp.ways_few (ed := edR rs) (some := ks) (goal := goal) (n := m + 1) hm
      rw [ew] at q tot
      generalize hf : (fun k => if Rp.tch (edR rs) here k = true ∧ Rp.far (edR rs) here k ∉ met then (Rp.waysF (edR rs) ks goal m (Rp.far (edR rs) here k) (met ++ [Rp.far (edR rs) here k])).map (k :: ·) else []) = f at q tot
      have part := fun i => flat_part f ks i
      dsimp only
      refine un_seq (un_asg ⟨Nat.zero_le _, fun F0 hF0 => ?_⟩)
      have eF := Ex.new (o := .lst []) hF0
      have e0 := e1.trans eF
      have hF : (upd H1 F0 (.lst [])) F0 = some (.lst []) := upd_same
      have fF := fresh_back e1 hF0
      generalize upd H1 F0 (.lst []) = H2 at e0 hF ⊢
      clear eF hF0 c e1
      dsimp only
      refine un_seq (?_ : tFor _ _ _ _ _ _)
      refine ⟨_, rfl, S, rfl, ⟨_, SqL.of (e0 _ _ hS)⟩, for_it (walk_list (xs := ks.map V.int)) (fun i σ H' => ∃ (F : Addr) (xs : List V) (y6 y7 y8 y9 y10 y11 : Option V), σ = [some (.ref L), some (.ref S), some (.int here), some (.int goal), some (.ref M), some (.ref F), y6, y7, y8, y9, y10, y11] ∧ Ex H H' ∧ H F = none ∧ H' F = some (.lst xs) ∧ WaysAt H' xs ((ks.take i).flatMap f))
        ⟨F0, [], _, _, _, _, _, _, rfl, e0, fF, hF, .nil⟩ (fun i σ H' _ ⟨_, _, _, _, _, _, _, _, _, e, _⟩ => SqL.of (e _ _ hS)) ?_ ?_⟩
      · rintro i x σ Ha Ha' hi ⟨F, xs, y6, y7, y8, y9, y10, y11, rfl, ea, hFn, hF, hxs⟩ ⟨rfl, hx⟩
        rw [List.getElem?_map] at hx
        obtain ⟨k, hk, rfl⟩ := Option.map_eq_some_iff.mp hx
        obtain ⟨k0, k1⟩ := kb k (List.mem_of_getElem? hk)
        obtain ⟨j, rfl⟩ : ∃ j : Nat, k = (j : Int) := ⟨k.toNat, by omega⟩
        have hj : j < rs.length := by omega
        have hr := List.getElem?_eq_getElem hj
        generalize rs[j] = r at hr
        obtain ⟨u, hu, b, rfl, hb⟩ : ∃ u, ts[j]? = some u ∧ ∃ b, u = .ref b ∧ Ha' b = some (.tup (rowV r)) := by
          have lt := Paired.length hts
          obtain ⟨u, hu⟩ : ∃ u, ts[j]? = some u := ⟨_, List.getElem?_eq_getElem (by omega)⟩
          obtain ⟨r', hr', b, hb1, hb2⟩ := paired_at hts hu
          rw [hr] at hr'
          obtain rfl := Option.some.inj hr'
          exact ⟨u, hu, b, hb1, ea _ _ hb2⟩
        have tk : (ks.take (i + 1)).flatMap f = (ks.take i).flatMap f ++ f (j : Int) := by rw [take_snoc hk, List.flatMap_append, List.flatMap_singleton]
        have fk : f (j : Int) = if Rp.tch (edR rs) here (j : Int) = true ∧ Rp.far (edR rs) here (j : Int) ∉ met then (Rp.waysF (edR rs) ks goal m (Rp.far (edR rs) here (j : Int)) (met ++ [Rp.far (edR rs) here (j : Int)])).map ((j : Int) :: ·) else [] := by rw [← hf]
        refine un_seq (un_asg (go_V (v := .ref b) (ev_op (ev_var rfl) (ev_var rfl) (rv_ixL (SqL.of (ea _ _ hL)) (atI_nat hu))) fun H7 e7 => ⟨b, _, rfl, SqT.of (e7 _ _ hb), rfl, _, _, rfl, _, _, rfl, _, _, rfl, rfl, ?_⟩))
        dsimp only
        refine s_if (b := Rp.tch (edR rs) here (j : Int)) (et_is (et_test (ev_opU (ev_var rfl) (eu_tup (ea_cons (ev_var rfl) (ea_cons (ev_var rfl) ea_nil)) (by show 2 ≤ 100000; decide)) fun p H2 hp e2 => rv_isT (SqT.of hp) rfl rfl)) (tch_at here hr)) (fun c H8 e8 => ?_) (fun c H8 e8 => un_next ?_)
        rotate_left
        · have z : f (j : Int) = [] := by rw [fk, if_neg fun z => by rw [c] at z; cases z.1]
          have e68 := e7.trans e8
          exact ⟨F, xs, _, _, _, _, _, _, rfl, ea.trans e68, hFn, e68 _ _ hF, by rw [tk, z, List.append_nil]; exact hxs.ext e68⟩
        refine un_seq (un_asg (fork_e (G := fun v H' => Ex H8 H' ∧ v = .int (Rp.far (edR rs) here (j : Int))) (fun Q' kk => ?_) (fun v H9 ⟨e9, ev⟩ => ?_)))
        · refine (et_test (ev_op (ev_var rfl) (ev_var rfl) (rv_eq rfl))) H8 (Ex.refl _) _ fun H9 e9 => ite2 (fun c2 => ⟨_, rfl, kk _ _ ⟨e9, ?_⟩⟩) (fun c2 => ⟨_, rfl, kk _ _ ⟨e9, ?_⟩⟩)
          · unfold Rp.far
            rw [ed_at hr, if_pos (V.int.inj (of_decide_eq_true c2))]
          · unfold Rp.far
            rw [ed_at hr, if_neg fun z : here = r.1 => c2 (decide_eq_true (by rw [z]))]
        subst ev
        have fm : Rp.far (edR rs) here (j : Int) ∈ ps := by
          have := kp _ (List.mem_of_getElem? hk)
          unfold Rp.far
          split
          · exact this.2
          · exact this.1
        generalize hfar : Rp.far (edR rs) here (j : Int) = fr at fk fm ⊢
        have e79 := e7.trans (e8.trans e9)
        have ea9 := ea.trans e79
        dsimp only
        refine s_if (b := decide (fr ∉ met)) (et_is (et_test (ev_op (ev_var rfl) (ev_var rfl) (rv_niL (SqL.of (ea9 _ _ hM)) rfl (flat_ints met)))) (by rw [inV_ints, ← decide_not])) (fun c2 H10 e10 => ?_) (fun c2 H10 e10 => un_next ?_)
        rotate_left
        · have z : f (j : Int) = [] := by rw [fk, if_neg fun z => of_decide_eq_false c2 z.2]
          have e69 := e79.trans e10
          exact ⟨F, xs, _, _, _, _, _, _, rfl, ea.trans e69, hFn, e69 _ _ hF, by rw [tk, z, List.append_nil]; exact hxs.ext e69⟩
        have c2 := of_decide_eq_true c2
        have fk2 : f (j : Int) = (Rp.waysF (edR rs) ks goal m fr (met ++ [fr])).map ((j : Int) :: ·) := by rw [fk, if_pos ⟨c, c2⟩]
        have few := Rp.ways_few (ed := edR rs) (some := ks) (goal := goal) (n := m) (here := fr) (met := met ++ [fr]) (List.mem_append_right _ (List.mem_singleton_self _))
        have ea10 := ea9.trans e10
        have hF10 := e10 _ _ (e79 _ _ hF)
        have hxs10 := hxs.ext (e79.trans e10)
        clear e79 ea9 e7 e8 e9 e10 hF hxs
        refine un_asg ⟨_, rfl, _, rfl, _, rfl, _, rfl, _, rfl, _, rfl, _, rfl, by show 1 ≤ sizeLine; decide, fun p hp => ⟨M, p, met.map V.int, [.int fr], rfl, rfl, (Ex.new hp) _ _ (ea10 _ _ hM), upd_same, ?_, fun M2 hM2 => ?_⟩⟩
        · rw [List.length_map]
          show met.length + 1 ≤ 2 ^ 24
          omega
        have e12 := (Ex.new (o := .lst [.int fr]) hp).trans (Ex.new (o := .lst (met.map V.int ++ [.int fr])) hM2)
        have hM3 : (upd (upd H10 p (.lst [.int fr])) M2 (.lst (met.map V.int ++ [.int fr]))) M2 = some (.lst ((met ++ [fr]).map V.int)) := by rw [upd_same, List.map_append]; rfl
        generalize upd (upd H10 p (.lst [.int fr])) M2 (.lst (met.map V.int ++ [.int fr])) = H12 at e12 hM3 ⊢
        have ea12 := ea10.trans e12
        refine ⟨L, S, M2, ts, rs, ps, ks, met ++ [fr], fr, goal, rfl, ea12 _ _ hL, hts.mono ea12, ea12 _ _ hS, hM3, kl, by rw [List.length_append, List.length_singleton]; omega, List.mem_append_right _ (List.mem_singleton_self _), kb, kp, ?_, fun Wl xs2 H13 hWl e13 h13 ws => ⟨Wl, rfl, ⟨_, SqL.of h13⟩, fun D hD => ?_⟩⟩
        · have := Rp.unmet_lt fm c2
          omega
        have lw := Paired.length ws
        refine lc_it (walk_list (xs := xs2)) (fun n H' => ∃ zs, Ex H13 H' ∧ H' D = some (.lst zs) ∧ WaysAt H' zs (((Rp.waysF (edR rs) ks goal m fr (met ++ [fr])).take n).map ((j : Int) :: ·))) ⟨[], Ex.new hD, upd_same, .nil⟩ (fun n H' _ ⟨_, e, _⟩ => SqL.of (e _ _ h13)) ?_ ?_
        · rintro n x Hb Hb' hn ⟨zs, eb, hDb, hzs⟩ ⟨rfl, hx⟩
          obtain ⟨w, hw, a, rfl, haw⟩ := paired_at ws hx
          have sh := ways_short (List.mem_of_getElem? hw)
          have haw := eb _ _ haw
          have lz := Paired.length hzs
          rw [List.length_map, List.length_take] at lz
          refine ⟨rfl, un_yes (iteT ⟨_, rfl, by show 1 ≤ sizeLine; decide, fun p1 hp1 => ⟨_, rfl, p1, a, [.int (j : Int)], w.map V.int, rfl, rfl, upd_same, (Ex.new hp1) _ _ haw, ?_, fun p2 hp2 => ?_⟩⟩)⟩
          · rw [List.length_map]
            show 1 + w.length ≤ 2 ^ 24
            omega
          have e2 := (Ex.new (o := .lst [.int (j : Int)]) hp1).trans (Ex.new (o := .lst ([.int (j : Int)] ++ w.map V.int)) hp2)
          have hp3 : (upd (upd Hb' p1 (.lst [.int (j : Int)])) p2 (.lst ([.int (j : Int)] ++ w.map V.int))) p2 = some (.lst (((j : Int) :: w).map V.int)) := upd_same
          have np : p2 ≠ D := fun z => by
            have := (Ex.new (o := .lst [.int (j : Int)]) hp1) _ _ hDb
            rw [← z, hp2] at this
            cases this
          generalize upd (upd Hb' p1 (.lst [.int (j : Int)])) p2 (.lst ([.int (j : Int)] ++ w.map V.int)) = Hc at e2 hp3 ⊢
          have hDc := e2 _ _ hDb
          refine ⟨zs, hDc, len_lt (by omega), zs ++ [.ref p2], (eb.trans e2).mut hD, upd_same, ?_⟩
          rw [take_snoc hw, List.map_append]
          refine WaysAt.app ((hzs.ext e2).put hDc) (.cons ⟨p2, rfl, by rw [upd_ne np]; exact hp3⟩ .nil)
        · rintro H14 ⟨zs, e14, hD14, hzs⟩
          rw [lw, List.take_length, ← fk2] at hzs
          have eE : Ex H10 H14 := e12.trans (e13.trans e14)
          have lx := Paired.length hxs10
          have lz := Paired.length hzs
          have pa := part i
          have pb := part (i + 1)
          rw [tk, List.length_append] at pb
          refine ⟨F, D, xs, zs, rfl, rfl, eE _ _ hF10, hD14, ?_, fun F2 hF2 => ?_⟩
          · show xs.length + zs.length ≤ 2 ^ 24
            omega
          have eF2 := Ex.new (o := .lst (xs ++ zs)) hF2
          refine ⟨F2, xs ++ zs, _, _, _, _, _, _, rfl, ea10.trans (eE.trans eF2), fresh_back (ea10.trans eE) hF2, upd_same, ?_⟩
          rw [tk]
          exact WaysAt.app ((hxs10.ext eE).ext eF2) (hzs.ext eF2)
      · rintro σ H9 ⟨F, xs, y6, y7, y8, y9, y10, y11, rfl, ea, hFn, hF, hxs⟩
        rw [List.length_map, List.take_length] at hxs
        exact ⟨_, rfl, q F xs H9 hFn ea hF hxs⟩
end
end K37

set_option maxHeartbeats 1000000
namespace K37
open PySem PySem.Spec PyProof.Rows L2 Evl MyG
/-! ### the least of the rings that the law goes -/
theorem el_filtV {K : PySem.W.Frag} {σ : L2.St} {H : Hp} {tl : TE} {t : TT} {j : Nat} {vs : List Nat} {xs : List V} (p : V → Bool) (h : ∀ H1, Ex H H1 → ∀ Q : VK, (∀ a H2, Ex H1 H2 → H2 a = some (.lst xs) → Q (.ref a) H2) → tl σ H1 Q) (hz : xs.length ≤ 40000)
    (hw : ∀ x, wipe ((wipe σ vs).set j (some x)) vs = wipe σ vs) (hj : ∀ x, ((wipe σ vs).set j (some x))[j]? = some (some x)) (ht : ∀ z ∈ xs, ∀ H1, Ex H H1 → EvT t ((wipe σ vs).set j (some z)) H1 (p z)) : EvL (tLc (iList K tl) (gName j) t (tVar j) vs) σ H (xs.filter p) := fun H0 e0 Q q => h H0 e0 _ fun a H1 e1 ha => by
  refine ⟨a, rfl, ⟨_, SqL.of ha⟩, fun D hD => ?_⟩
  refine lc_it (walk_list (xs := xs)) (fun n H' => Ex H1 H' ∧ H' D = some (.lst ((xs.take n).filter p))) ⟨Ex.new hD, upd_same⟩ (fun n H' _ ⟨e, _⟩ => SqL.of (e _ _ ha)) ?_ ?_
  · rintro n x Ha Ha' hn ⟨ea, hDa⟩ ⟨rfl, hx⟩
    refine ⟨hw _, ht x (List.mem_of_getElem? hx) Ha' (e0.trans (e1.trans ea)) Ha' (Ex.refl _) _ fun H3 e3 => ?_⟩
    rw [take_snoc hx, List.filter_append]
    cases hp : p x with
    | false =>
      rw [if_neg Bool.false_ne_true, List.filter_cons_of_neg (by rw [hp]; decide), List.filter_nil, List.append_nil]
      exact ⟨ea.trans e3, e3 _ _ hDa⟩
    | true =>
      rw [if_pos rfl, List.filter_cons_of_pos hp, List.filter_nil]
      have l := List.length_filter_le p (xs.take n)
      rw [List.length_take] at l
      exact ⟨_, hj _, _, e3 _ _ hDa, len_lt (by omega), (ea.trans e3).mut hD, upd_same⟩
  · rintro H' ⟨ea, hDa⟩
    rw [List.take_length] at hDa
    exact q D H' (fresh_back e1 hD) (e1.trans ea) hDa
def CycAt (H : Hp) : List V → List (List Int) → Prop := Paired fun (v : V) (C : List Int) => ∃ t l, v = .ref t ∧ H t = some (.tup [.int (C.length : Int), .ref l]) ∧ H l = some (.lst (C.map V.int))
theorem CycAt.ext {H H' : Hp} (e : Ex H H') {xs : List V} {cs : List (List Int)} (h : CycAt H xs cs) : CycAt H' xs cs := Paired.mapP h fun _ _ ⟨t, l, h1, h2, h3⟩ => ⟨t, l, h1, e _ _ h2, e _ _ h3⟩
theorem CycAt.refs {H : Hp} : ∀ {xs : List V} {cs : List (List Int)}, CycAt H xs cs → ∀ x ∈ xs, ∃ t, x = .ref t
  | _, _, .cons ⟨t, _, h, _⟩ g, x, hx => by
    rcases List.mem_cons.mp hx with rfl | hx
    · exact ⟨t, h⟩
    · exact CycAt.refs g x hx
/-- a list of numbers is another one than a list of refs -/
theorem ints_ne {H : Hp} {F l : Addr} {xs : List V} {C : List Int} (hx : ∀ x ∈ xs, ∃ t, x = V.ref t) (hF : H F = some (.lst xs)) (hl : H l = some (.lst (C.map V.int))) (c : xs ≠ [] ∨ C ≠ []) : l ≠ F := fun z => by
  rw [z, hF] at hl
  have e : xs = C.map V.int := HO.lst.inj (Option.some.inj hl)
  match xs, C, e, c with
  | [], [], _, c => exact c.elim (fun z => z rfl) fun z => z rfl
  | x :: xs, n :: C, e, _ =>
    obtain ⟨t, rfl⟩ := hx x (List.mem_cons_self ..)
    cases e
theorem CycAt.put {H : Hp} {F : Addr} {o : HO} {xs : List V} {cs : List (List Int)} (h : CycAt H xs cs) (hF : H F = some (.lst xs)) : CycAt (upd H F o) xs cs := by
  have rf := h.refs
  have key : ∀ {ys : List V} {us : List (List Int)}, CycAt H ys us → xs ≠ [] ∨ ys = [] → CycAt (upd H F o) ys us := fun {ys us} h1 c => by
    induction h1 with
    | nil => exact .nil
    | cons h1 _ ih =>
      obtain ⟨t, l, rfl, h2, h3⟩ := h1
      have c := c.resolve_right (by simp)
      exact .cons ⟨t, l, rfl, by rw [upd_ne (ne_of h2 hF (by intro z; cases z))]; exact h2, by rw [upd_ne (ints_ne rf hF h3 (.inl c))]; exact h3⟩ (ih (.inl c))
  exact key h (by cases xs with | nil => exact .inr rfl | cons _ _ => exact .inl (by simp))
theorem CycAt.snoc {H : Hp} {v : V} {C : List Int} : ∀ {xs : List V} {cs : List (List Int)}, CycAt H xs cs → (∃ t l, v = .ref t ∧ H t = some (.tup [.int (C.length : Int), .ref l]) ∧ H l = some (.lst (C.map V.int))) → CycAt H (xs ++ [v]) (cs ++ [C])
  | _, _, .nil, h => .cons h .nil
  | _, _, .cons g t, h => .cons g (CycAt.snoc t h)
def fC (C : List Int) : PyData := .tuple [.int (C.length : Int), .list (C.map PyData.int)]
theorem dp_cyc {K : PySem.W.Frag} {H : Hp} : ∀ {xs : List V} {cs : List (List Int)}, CycAt H xs cs → DpAll K H xs (cs.map fC)
  | _, _, .nil => .nil
  | _, _, .cons ⟨t, l, h1, h2, h3⟩ g => .cons (by rw [h1]; exact .tup (SqT.of h2) (.cons (.int _) (.cons (.lst (SqL.of h3) (dp_ints _)) .nil))) (dp_cyc g)
theorem lay_intsAll (ns : List Int) : PyData.canLayAll0 (ns.map PyData.int) = true := by
  induction ns with
  | nil => rfl
  | cons x r ih => simp only [List.map_cons, PyData.canLayAll0, PyData.canLay0, ih, Bool.and_self]
theorem depth_cyc (cs : List (List Int)) : PyData.depthAll (cs.map fC) ≤ 4 := by
  induction cs with
  | nil => decide
  | cons C cs ih =>
    have := depth_intsAll C
    simp only [List.map_cons, PyData.depthAll, PyData.depth, fC, Nat.max_le] at ih ⊢
    omega
theorem shaped_cyc (cs : List (List Int)) : SeqAt.shaped (.list (cs.map fC)) = true := by
  have cl : PyData.canLay0 (.list (cs.map fC)) = true := by
    simp only [PyData.canLay0]
    induction cs with
    | nil => rfl
    | cons C cs ih => simp only [List.map_cons, PyData.canLayAll0, PyData.canLay0, fC, lay_intsAll, ih, Bool.and_self]
  have dp := depth_cyc cs
  unfold SeqAt.shaped
  rw [cl, Bool.true_and]
  refine decide_eq_true ?_
  simp only [PyData.depth]
  omega
theorem alike_cyc (cs : List (List Int)) : W.AlikeAll (cs.map fC) := by
  refine ⟨fun x hx y hy => ?_, fun x hx => ?_⟩
  · obtain ⟨C, _, rfl⟩ := List.mem_map.mp hx
    obtain ⟨D, _, rfl⟩ := List.mem_map.mp hy
    show PySem.W.alikeAll [_, _] [_, _] = true
    simp only [PySem.W.alikeAll, PySem.W.alike, alike_ints, Bool.and_self]
  · obtain ⟨C, _, rfl⟩ := List.mem_map.mp hx
    intro z
    cases z
theorem ints_inj : ∀ {ns ms : List Int}, ns.map PyData.int = ms.map PyData.int → ns = ms
  | [], [], _ => rfl
  | n :: ns, m :: ms, h => by
    have h : PyData.int n :: ns.map PyData.int = PyData.int m :: ms.map PyData.int := h
    injection h with h1 h2
    injection h1 with h1
    rw [h1, ints_inj h2]
theorem fC_inj {C D : List Int} (h : fC C = fC D) : C = D := by
  unfold fC at h
  injection h with h
  injection h with _ h
  injection h with h _
  injection h with h
  exact ints_inj h
theorem rv_cycNil {K : PySem.W.Frag} {H : Hp} {F p : Addr} {xs : List V} {cs : List (List Int)} (hF : H F = some (.lst xs)) (hx : CycAt H xs cs) (hp : H p = some (.lst [])) : RV (rNeD K) (.ref F) (.ref p) H (.bl (!cs.isEmpty)) := fun H1 e Q k =>
  ⟨_, .list [], .lst (SqL.of (e _ _ hF)) (dp_cyc (hx.ext e)), .lst (SqL.of (e _ _ hp)) .nil, shaped_cyc cs, by decide, by
    have : PyData.eqv (.list (cs.map fC)) (.list []) = cs.isEmpty := by cases cs <;> rfl
    rw [this]
    exact k H1 (Ex.refl _)⟩
def KpF (F : Addr) (H H' : Hp) : Prop := ∀ a o, a ≠ F → H a = some o → H' a = some o
theorem KpF.ext {F : Addr} {H H' H2 : Hp} (k : KpF F H H') (e : Ex H' H2) : KpF F H H2 := fun a o n h => e _ _ (k a o n h)
theorem KpF.put {F : Addr} {H H' : Hp} {o : HO} (k : KpF F H H') : KpF F H (upd H' F o) := fun a u n h => by rw [upd_ne n]; exact k a u n h
theorem ed_ne {rs : List Row} {ks : List Int} {goal : Int} {n : Nat} {here : Int} {met w : List Int} (h : w ∈ Rp.waysF (edR rs) ks goal n here met) (ne : here ≠ goal) : w ≠ [] := fun z => by
  subst z
  cases Rp.ways_way h with
  | done => exact ne rfl
def sp_lring : Sp := fun vs H Q _ => ∃ (L S : Addr) (ts : List V) (rs : List Row) (ps ks : List Int), vs = [.ref L, .ref S] ∧ H L = some (.lst ts) ∧ RowsAt H ts rs ∧ H S = some (.lst (ks.map V.int)) ∧ ks.length ≤ 12 ∧ ks.Nodup ∧ ps.length ≤ 8 ∧
  (∀ k ∈ ks, 0 ≤ k ∧ k < rs.length) ∧ (∀ k ∈ ks, (edR rs k).1 ∈ ps ∧ (edR rs k).2 ∈ ps) ∧ (∀ k ∈ ks, (edR rs k).1 ≠ (edR rs k).2) ∧
  (Uf.againF id (ks.map (edR rs)) = false → ∀ H', Ex H H' → Q .non H') ∧
  (Uf.againF id (ks.map (edR rs)) = true → ∀ R p H', Ex H H' → H' p = some (.lst (R.map V.int)) → (∀ ls, ls.Perm ks → ls.Pairwise (· < ·) → Rp.IsRing (edR rs) ls R) → Q (.ref p) H')
section
variable {P : Program} {w : World} {K : PySem.W.Frag} {mg : Str → Option Value} {base : Heap}
theorem ok_lring (T : Tx K mg) : FnOk P w K mg base CX0 11 T.a_l_ring T.d_l_ring ["_law_chain", "_law_some_here"] sp_lring := by
  have G_l_ways := ok_ways (P := P) (w := w) (base := base) T 9
  refine T.F_l_ring.ok sc_l_ring (fun vs H Q E h => ?_) (fun cdv A outer s0 H vs Q E hr h => ?_)
  · obtain ⟨_, _, _, _, _, _, rfl, _⟩ := h
    rfl
  · obtain ⟨L, S, ts, rs, ps, ks, rfl, hL, hts, hS, kl, nd, p8, kb, kp, ne, q1, q2⟩ := h
    refine ⟨_, (pss_cons (ps_set (i := 2) sc_l_ring.nd rfl (Or.inl rfl) (pe_lst pa_nil))
  (pss_cons (ps_for PassesOwn.never rfl (iListK (K := K) rfl (pv 1)) (pg_name (i := 3) sc_l_ring.nd rfl (Or.inr rfl))
   (pss_cons (ps_asg (pe_ix (ix_listK (K := K) rfl) (pv 0) (pv 3) (fun _ _ => rfl)) (pg_tup rfl (pgs_cons (pg_name (i := 4) sc_l_ring.nd rfl (Or.inl rfl)) (pgs_cons (pg_name (i := 5) sc_l_ring.nd rfl (Or.inl rfl)) (pgs_cons (pg_name (i := 6) sc_l_ring.nd rfl (Or.inl rfl)) pgs_nil)))))
  (pss_one (ps_for PassesOwn.never rfl (iListK (K := K) rfl (pe_call G_l_ways (hr.mono (by decide)) (by rfl) T.g_l_ways T.F_l_ways.kp T.b_l_ways .nil pass0 (pa_cons (pv 0) (pa_cons (pe_lc (own := [("_law_link", 8)]) (g := (gName 8)) rfl sc_l_ring.nd (iListK (K := K) rfl (pv 1)) (blkOk_by (N := n_l_ring) (sc := defScope s_l_ring) (by decide +kernel)) (fun _ _ _ _ _ => (pg_name (i := 8) sc_l_ring.nd rfl (Or.inl rfl))) (fun _ _ _ _ _ => (pts_one (pt_cmpR op_ne (pv 8) (pv 3) (nomark _)))) (fun _ _ _ _ _ => (pv 8))) (pa_cons (pv 4) (pa_cons (pv 5) (pa_cons (pe_lst (pa_cons (pv 4) pa_nil)) pa_nil))))))) (pg_name (i := 7) sc_l_ring.nd rfl (Or.inl rfl))
   (pss_one (ps_expr (pe_bm PySem.F.plainAttrs_list PySem.F.slot_list_append PySem.F.type_list_append mt_append (pv 2) (pa_cons (pe_tup (pa_cons (pe_op op_add (pe_callB (lenK (K := K) rfl) (by rfl) T.z_len (by decide +kernel) (pa_cons (pv 7) pa_nil)) pe_int) (pa_cons (pe_callB (sortedK (K := K) rfl) (by rfl) T.z_sorted (by decide +kernel) (pa_cons (pe_op op_cat (pe_lst (pa_cons (pv 3) pa_nil)) (pv 7)) pa_nil)) pa_nil))) pa_nil))))))))
  (pss_one (ps_ret (pe_ifExp (pt_cmpR (op_neK (K := K) rfl hr.units) (pv 2) (pe_lst pa_nil) (nomark _)) (pe_ix (ix_tupK (K := K) rfl) (pe_callB (cr_minD (K := K) rfl rfl hr.units) (by rfl) T.z_min (by decide +kernel) (pa_cons (pv 2) pa_nil)) pe_int (fun _ _ => rfl)) pe_non))))), ?_⟩
    refine un_seq (un_asg ⟨Nat.zero_le _, fun F hF0 => ?_⟩)
    have e0 := Ex.new (o := .lst []) hF0
    have hF : (upd H F (.lst [])) F = some (.lst []) := upd_same
    generalize upd H F (.lst []) = H1 at e0 hF ⊢
    dsimp only
    have ks1 : ∀ (k : Int), (ks.filter fun j => decide (j ≠ k)).length ≤ 12 := fun k => Nat.le_trans (List.length_filter_le _ _) kl
    have p12 : ∀ (k : Int), 2 ^ (ks.filter fun j => decide (j ≠ k)).length ≤ 4096 := fun k => (Nat.pow_le_pow_right (by decide) (ks1 k) : 2 ^ (ks.filter fun j => decide (j ≠ k)).length ≤ 2 ^ 12)
    refine un_seq (?_ : tFor _ _ _ _ _ _)
    refine ⟨_, rfl, S, rfl, ⟨_, SqL.of (e0 _ _ hS)⟩, for_it (walk_list (xs := ks.map V.int)) (fun i σ H' => ∃ (xs : List V) (cs : List (List Int)) (y3 y4 y5 y6 y7 y8 : Option V), σ = [some (.ref L), some (.ref S), some (.ref F), y3, y4, y5, y6, y7, y8] ∧ Ex H H' ∧ H' F = some (.lst xs) ∧ CycAt H' xs cs ∧ cs.length ≤ 4096 * i ∧ (∀ C ∈ cs, Rp.IsCyc (edR rs) ks C) ∧
        ∀ k ∈ ks.take i, ∀ w, Rp.Way (edR rs) (ks.filter fun j => decide (j ≠ k)) (edR rs k).2 (edR rs k).1 [(edR rs k).1] w → ∃ C ∈ cs, C.Perm (k :: w))
      ⟨[], [], _, _, _, _, _, _, rfl, e0, hF, .nil, Nat.zero_le _, (fun C h => by cases h), fun k h => by cases h⟩ (fun i σ H' _ ⟨_, _, _, _, _, _, _, _, _, e, _⟩ => SqL.of (e _ _ hS)) ?_ ?_⟩
    · rintro i x σ Ha Ha' hi ⟨xs, cs, y3, y4, y5, y6, y7, y8, rfl, ea, hF, hxs, lc, cyc, all⟩ ⟨rfl, hx⟩
      rw [List.getElem?_map] at hx
      obtain ⟨k, hk, rfl⟩ := Option.map_eq_some_iff.mp hx
      have mk := List.mem_of_getElem? hk
      have ki : i < ks.length := (List.getElem?_eq_some_iff.mp hk).1
      obtain ⟨k0, k1⟩ := kb k mk
      obtain ⟨j, rfl⟩ : ∃ j : Nat, k = (j : Int) := ⟨k.toNat, by omega⟩
      have hj : j < rs.length := by omega
      have hr := List.getElem?_eq_getElem hj
      generalize rs[j] = r at hr
      obtain ⟨u, hu, b, rfl, hb⟩ : ∃ u, ts[j]? = some u ∧ ∃ b, u = .ref b ∧ Ha' b = some (.tup (rowV r)) := by
        have lt := Paired.length hts
        obtain ⟨u, hu⟩ : ∃ u, ts[j]? = some u := ⟨_, List.getElem?_eq_getElem (by omega)⟩
        obtain ⟨r', hr', b, hb1, hb2⟩ := paired_at hts hu
        rw [hr] at hr'
        obtain rfl := Option.some.inj hr'
        exact ⟨u, hu, b, hb1, ea _ _ hb2⟩
      have er := ed_at hr
      have nek := ne _ mk
      have kpk := kp _ mk
      rw [er] at nek kpk
      refine un_seq (un_asg (go_V (v := .ref b) (ev_op (ev_var rfl) (ev_var rfl) (rv_ixL (SqL.of (ea _ _ hL)) (atI_nat hu))) fun H7 e7 => ⟨b, _, rfl, SqT.of (e7 _ _ hb), rfl, _, _, rfl, _, _, rfl, _, _, rfl, rfl, ?_⟩))
      dsimp only
      have ea7 := ea.trans e7
      have hF7 := e7 _ _ hF
      have hxs7 := hxs.ext e7
      clear ea e7 hF hxs hb
      -- the links but this one
      refine (?_ : tFor _ _ _ _ _ _)
      refine ⟨_, rfl, ?_⟩
      have ev := el_filtV (K := K) (tl := tVar 1) (t := tTest (tOp rNe (tVar 8) (tVar 3))) (j := 8) (vs := List.map (fun x => x.snd) [(Str.ofString "_law_link", 8)]) (xs := ks.map V.int) (H := H7) (σ := [some (.ref L), some (.ref S), some (.ref F), some (.int (j : Int)), some (.int r.1), some (.int r.2.1), some (.int r.2.2), y7, y8])
        (fun v => !decide (v = .int (j : Int))) (fun H1 e1 Q q => ⟨_, rfl, q S H1 (Ex.refl _) ((ea7.trans e1) _ _ hS)⟩) (by rw [List.length_map]; omega) (fun _ => rfl) (fun _ => rfl) fun z hz H1 e1 => by
          obtain ⟨n, _, rfl⟩ := List.mem_map.mp hz
          exact et_test (ev_op (ev_var rfl) (ev_var rfl) (rv_ne rfl))
      have efl : (ks.map V.int).filter (fun v => !decide (v = .int (j : Int))) = (ks.filter fun i => decide (i ≠ (j : Int))).map V.int := by
        rw [List.filter_map]
        congr 1
        refine List.filter_congr fun n _ => ?_
        show (!decide (V.int n = V.int (j : Int))) = decide (n ≠ (j : Int))
        rw [← decide_not]
        exact decide_eq_decide.mpr ⟨fun z y => z (by rw [y]), fun z y => z (V.int.inj y)⟩
      rw [efl] at ev
      refine ev H7 (Ex.refl _) _ fun S2 H8 hS2 e8 h8 => ⟨_, rfl, _, rfl, _, rfl, by show 1 ≤ sizeLine; decide, fun M hM => ?_⟩
      have eM := Ex.new (o := .lst [.int r.1]) hM
      have hM9 : (upd H8 M (.lst [.int r.1])) M = some (.lst ([r.1].map V.int)) := upd_same
      generalize upd H8 M (.lst [.int r.1]) = H9 at eM hM9 ⊢
      have ea9 := ea7.trans (e8.trans eM)
      have hF9 := eM _ _ (e8 _ _ hF7)
      have hxs9 := (hxs7.ext e8).ext eM
      refine ⟨L, S2, M, ts, rs, ps, ks.filter fun i => decide (i ≠ (j : Int)), [r.1], r.1, r.2.1, rfl, ea9 _ _ hL, hts.mono ea9, eM _ _ h8, hM9, ks1 _, by show 1 + 9 ≤ 20; decide, List.mem_singleton_self _, fun n hn => kb n (List.mem_filter.mp hn).1, fun n hn => kp n (List.mem_filter.mp hn).1, Nat.lt_of_le_of_lt (List.length_filter_le _ _) (by omega), fun Wl xs2 H10 hWl e10 h10 ws => ⟨Wl, rfl, ⟨_, SqL.of h10⟩, ?_⟩⟩
      have few := Rp.ways_few (ed := edR rs) (some := ks.filter fun i => decide (i ≠ (j : Int))) (goal := r.2.1) (n := 9) (here := r.1) (met := [r.1]) (List.mem_singleton_self _)
      have p12j := p12 (j : Int)
      have lw := Paired.length ws
      have hF10 := e10 _ _ hF9
      have hxs10 := hxs9.ext e10
      have ea10 := ea9.trans e10
      have WF : Wl ≠ F := fun z => by rw [z, hF9] at hWl; cases hWl
      have tkn : ∀ z ∈ ks.take (i + 1), z ∈ ks.take i ∨ z = (j : Int) := fun z hz => by
        rw [take_snoc hk] at hz
        rcases List.mem_append.mp hz with h | h
        · exact .inl h
        · exact .inr (List.mem_singleton.mp h)
      refine for_it (walk_list (xs := xs2)) (fun n σ H' => ∃ (xs : List V) (cs : List (List Int)) (y7 y8 : Option V), σ = [some (.ref L), some (.ref S), some (.ref F), some (.int (j : Int)), some (.int r.1), some (.int r.2.1), some (.int r.2.2), y7, y8] ∧ Ex H H' ∧ KpF F H10 H' ∧ H' F = some (.lst xs) ∧ CycAt H' xs cs ∧ cs.length ≤ 4096 * i + n ∧ (∀ C ∈ cs, Rp.IsCyc (edR rs) ks C) ∧
          (∀ k ∈ ks.take i, ∀ w, Rp.Way (edR rs) (ks.filter fun j => decide (j ≠ k)) (edR rs k).2 (edR rs k).1 [(edR rs k).1] w → ∃ C ∈ cs, C.Perm (k :: w)) ∧
          ∀ w ∈ (Rp.waysF (edR rs) (ks.filter fun i => decide (i ≠ (j : Int))) r.2.1 9 r.1 [r.1]).take n, ∃ C ∈ cs, C.Perm ((j : Int) :: w))
        ⟨xs, cs, _, _, rfl, ea10, fun _ _ _ h => h, hF10, hxs10, by omega, cyc, all, fun w h => by cases h⟩ (fun n σ H' _ ⟨_, _, _, _, _, _, kp', _⟩ => SqL.of (kp' _ _ WF h10)) ?_ ?_
      · rintro n x σ Hb Hb' hn ⟨xs, cs, y7, y8, rfl, eb, kpb, hFb, hxsb, lcb, cycb, allb, hereb⟩ ⟨rfl, hx⟩
        obtain ⟨w, hw, a, rfl, haw⟩ := paired_at ws hx
        have mw := List.mem_of_getElem? hw
        have w0 := ed_ne mw nek
        have aF : a ≠ F := ints_ne hxs10.refs hF10 haw (.inr w0)
        have haw := kpb _ _ aF haw
        have sh := ways_short mw
        have wl : n < (Rp.waysF (edR rs) (ks.filter fun i => decide (i ≠ (j : Int))) r.2.1 9 r.1 [r.1]).length := (List.getElem?_eq_some_iff.mp hw).1
        refine (?_ : tDrop _ _ _ _)
        refine ⟨_, rfl, .inl ⟨rfl, _, SqL.of hFb⟩, _, rfl, a, _, rfl, .inl (SqL.of haw), _, _, rfl, rfl, _, rfl, by show 1 ≤ sizeLine; decide, fun p1 hp1 => ⟨_, rfl, p1, a, [.int (j : Int)], w.map V.int, rfl, rfl, upd_same, (Ex.new hp1) _ _ haw, by rw [List.length_map]; show 1 + w.length ≤ 2 ^ 24; omega, fun p2 hp2 => ⟨p2, (j : Int) :: w, rfl, SqL.of upd_same, by rw [List.length_cons]; omega, fun ls l pm so hl => ⟨by show 2 ≤ sizeLine; decide, fun t ht => ?_⟩⟩⟩⟩
        have e2 := (Ex.new (o := .lst [.int (j : Int)]) hp1).trans ((Ex.new (o := .lst ([.int (j : Int)] ++ w.map V.int)) hp2).trans (Ex.new (o := .lst (ls.map V.int)) hl))
        have hl2 : (upd (upd (upd Hb' p1 (.lst [.int (j : Int)])) p2 (.lst ([.int (j : Int)] ++ w.map V.int))) l (.lst (ls.map V.int))) l = some (.lst (ls.map V.int)) := upd_same
        have el : (((w.map V.int).length : Int) + 1) = (ls.length : Int) := by
          rw [List.length_map, pm.length_eq, List.length_cons]
          rfl
        have et := Ex.new (o := .tup [.int (((w.map V.int).length : Int) + 1), .ref l]) ht
        have ht2 : (upd (upd (upd (upd Hb' p1 (.lst [.int (j : Int)])) p2 (.lst ([.int (j : Int)] ++ w.map V.int))) l (.lst (ls.map V.int))) t (.tup [.int (((w.map V.int).length : Int) + 1), .ref l])) t = some (.tup [.int (ls.length : Int), .ref l]) := by rw [upd_same, el]
        have e4 := e2.trans et
        have hFd := e4 _ _ hFb
        have hxd := hxsb.ext e4
        have hld := et _ _ hl2
        have lx := Paired.length hxsb
        have wcyc : Rp.Way (edR rs) (ks.filter fun z => decide (z ≠ (j : Int))) (edR rs (j : Int)).2 (edR rs (j : Int)).1 [(edR rs (j : Int)).1] w := by rw [er]; exact Rp.ways_way mw
        refine ⟨F, xs, .ref t, rfl, rfl, hFd, len_lt (by omega), xs ++ [.ref t], cs ++ [ls], _, _, rfl, (eb.trans e4).mut hF0, (kpb.ext e4).put, upd_same, ?_, by rw [List.length_append, List.length_singleton]; omega, fun C hC => ?_, fun z hz v hv => ?_, fun v hv => ?_⟩
        · refine (hxd.put hFd).snoc ⟨t, l, rfl, ?_, ?_⟩
          · rw [upd_ne (ne_of ht2 hFd (by intro z; cases z))]; exact ht2
          · have lne : ls ≠ [] := fun z => by have := pm.length_eq; rw [z] at this; simp at this
            rw [upd_ne (ints_ne hxd.refs hFd hld (.inr lne))]; exact hld
        · rcases List.mem_append.mp hC with m | m
          · exact cycb C m
          · rw [List.mem_singleton.mp m]
            exact ⟨(j : Int), mk, w, wcyc, pm, so⟩
        · obtain ⟨C, m, pc⟩ := allb z hz v hv
          exact ⟨C, List.mem_append_left _ m, pc⟩
        · rw [take_snoc hw] at hv
          rcases List.mem_append.mp hv with m | m
          · obtain ⟨C, m, pc⟩ := hereb v m
            exact ⟨C, List.mem_append_left _ m, pc⟩
          · rw [List.mem_singleton.mp m]
            exact ⟨ls, List.mem_append_right _ (List.mem_singleton_self _), pm⟩
      · rintro σ H11 ⟨xs, cs, y7, y8, rfl, eb, kpb, hFb, hxsb, lcb, cycb, allb, hereb⟩
        rw [lw, List.take_length] at hereb
        refine ⟨xs, cs, _, _, _, _, _, _, rfl, eb, hFb, hxsb, by omega, cycb, fun z hz v hv => ?_⟩
        rcases tkn z hz with m | rfl
        · exact allb z m v hv
        · refine hereb v ?_
          have := Rp.way_ways (ps := ps) (fun n hn => kp n (List.mem_filter.mp hn).1) hv 9 (Nat.lt_of_le_of_lt (List.length_filter_le _ _) (by omega))
          rw [er] at this
          exact this
    · rintro σ H9 ⟨xs, cs, y3, y4, y5, y6, y7, y8, rfl, ea, hF, hxs, lc, cyc, all⟩
      rw [List.length_map, List.take_length] at all
      have full : ∀ C, Rp.IsCyc (edR rs) ks C → C ∈ cs := fun C ⟨k, hk, w, hw, pm, so⟩ => by
        obtain ⟨D, m, pd⟩ := all k hk w hw
        obtain ⟨_, _, _, _, _, sd⟩ := cyc D m
        have : C = D := (pm.trans pd.symm).eq_of_pairwise (fun a b _ _ h1 h2 => Int.le_antisymm h1 h2) so sd
        rw [this]
        exact m
      obtain ⟨ls, pl, sl⟩ := Rp.srt_exists ks
      have sl : ls.Pairwise (· < ·) := (sl.and (pl.nodup_iff.mpr nd)).imp fun {x y} ⟨l, n⟩ => by omega
      have ca := Rp.cyc_again (ed := edR rs) ne pl sl
      dsimp only
      refine un_ret ((et_test (ev_opL (ev_var rfl) (el_lst ea_nil (Nat.zero_le _)) fun p H10 hp e10 => rv_cycNil (e10 _ _ hF) (hxs.ext e10) hp)) H9 (Ex.refl _) _ fun H10 e10 => ite2 (fun c => ?_) (fun c => ?_))
      · have c0 : cs ≠ [] := by
          intro z
          rw [z] at c
          cases c
        obtain ⟨c1, cs', rfl⟩ := List.exists_cons_of_ne_nil c0
        have ag := ca.mpr ⟨c1, cyc c1 (List.mem_cons_self ..)⟩
        obtain ⟨z, mz, ez, lez⟩ := minD_key fC (fun C => (C.length : Int) :: C) (fun C D => lt_pairs _ _ _ _) cs' c1
        refine ⟨_, rfl, F, xs, fC c1, cs'.map fC, rfl, SqL.of (e10 _ _ hF), dp_cyc (hxs.ext e10), alike_cyc (c1 :: cs'), Nat.le_trans (depth_cyc (c1 :: cs')) (by decide), fun n x hx hd => ?_⟩
        obtain ⟨C, hC, t, l, rfl, ht, hl⟩ := paired_at hxs hx
        have : C = z := by
          rw [ez] at hd
          have h2 : ((c1 :: cs').map fC)[n]? = some (fC z) := hd
          rw [List.getElem?_map, hC] at h2
          exact fC_inj (Option.some.inj h2)
        subst this
        show rIxT K (.ref t) (.int 1) H10 Q
        refine rv_ixT (K := K) (i := 1) (v := .ref l) (SqT.of (e10 _ _ ht)) rfl H10 (Ex.refl _) Q fun H11 e11 => ?_
        refine q2 ag C l H11 (ea.trans (e10.trans e11)) (e11 _ _ (e10 _ _ hl)) fun ls pl sl => Rp.least_ring ne pl sl (cyc C mz) fun C' hC' => lez C' (full C' hC')
      · have c0 : cs = [] := by
          cases cs with
          | nil => rfl
          | cons _ _ => exact absurd rfl c
        have ag : Uf.againF id (ks.map (edR rs)) = false := by
          cases z : Uf.againF id (ks.map (edR rs)) with
          | false => rfl
          | true =>
            obtain ⟨C, hC⟩ := ca.mp z
            have := full C hC
            rw [c0] at this
            cases this
        exact q1 ag H10 (ea.trans e10)
end
end K37

set_option maxHeartbeats 1000000
namespace K37
open PySem PySem.Spec PyProof.Rows L2 Evl MyG
theorem it_by {J : It} {n : Nat} {G : Hp → Prop} {Y : Nat → Hp → V → Hp → Prop} (w : Walk J n G Y) {H0 : Hp} {Fin : Hp → Prop} {body : (Hp → Prop) → V → Hp → Prop} (Pv : Nat → Hp → Prop) (h0 : Pv 0 H0) (hG : ∀ i H, i ≤ n → Pv i H → G H)
    (hs : ∀ i x H H', i < n → Pv i H → Y i H x H' → body (Pv (i + 1)) x H') (hd : ∀ H, Pv n H → Fin H) :
    ∃ W : Nat → Nat → Hp → Prop, (∃ m, W 0 m H0) ∧ ∀ i m H, W i m H → (J.stop i H ∧ Fin H) ∨ (J.go i H ∧ ∃ Nx : Hp → Prop, (∀ H', Nx H' → ∃ m', m' < m ∧ W (i + 1) m' H') ∧ ∀ x H', J.yld i H x H' → body Nx x H') := by
  refine ⟨fun i m H => m = n - i ∧ i ≤ n ∧ Pv i H, ⟨n, by simp, Nat.zero_le _, h0⟩, ?_⟩
  rintro i m H ⟨rfl, hi, p⟩
  have q := hG i H hi p
  by_cases hlt : i < n
  · exact .inr ⟨w.goes i H hlt q, Pv (i + 1), fun H' p' => ⟨n - (i + 1), by omega, rfl, hlt, p'⟩, fun x H' y => hs i x H H' hlt p (w.yields i H x H' hlt q y)⟩
  · have e : i = n := by omega
    subst e
    exact .inl ⟨w.stops H q, hd H p⟩
def rowG (rs : List Row) (k : Nat) : Row := rs.getD k (0, 0, 0)
theorem rowG_at {rs : List Row} {k : Nat} {r : Row} (hr : rs[k]? = some r) : rowG rs k = r := by
  unfold rowG
  rw [List.getD_eq_getElem?_getD, hr]
  rfl
/-- whether each hall of some links is at two of them -/
def closB (rs : List Row) (js : List Int) : Bool := js.all fun k => decide ((thereF rs js (lo (rowG rs k.toNat))).length = 2) && decide ((thereF rs js (hi (rowG rs k.toNat))).length = 2)
/-! ### ring -/
def sp_atT (C : Addr) : Sp := fun vs H Q _ => ∃ (n p : Addr) (B : Hp) (ps qs : List Int) (rs : List Row) (ks : List Int) (h : Int), vs = [.ref n, .ref p, .int h] ∧ Ex B H ∧ NetAt C B n ps qs rs ∧ rs.length ≤ 12 ∧ H p = some (.tup (ks.map V.int)) ∧ ks.length ≤ 1000 ∧ (∀ k ∈ ks, 0 ≤ k ∧ k < rs.length) ∧ RetL ((thereF rs ks h).map V.int) H Q
def sp_closes (C : Addr) : Sp := fun vs H Q _ => ∃ (n p : Addr) (B : Hp) (ps qs : List Int) (rs : List Row) (ks : List Int), vs = [.ref n, .ref p] ∧ Ex B H ∧ NetAt C B n ps qs rs ∧ rs.length ≤ 12 ∧ H p = some (.tup (ks.map V.int)) ∧ ks.length ≤ 12 ∧ (∀ k ∈ ks, 0 ≤ k ∧ k < rs.length) ∧ RetV (.bl (closB rs ks)) H Q
def sp_ring (C : Addr) : Sp := fun vs H Q _ => ∃ (n p : Addr) (B : Hp) (ps qs : List Int) (rs : List Row) (ks : List Int), vs = [.ref n, .ref p] ∧ Ex B H ∧ NetAt C B n ps qs rs ∧ rs.length ≤ 12 ∧ (∀ r ∈ rs, r.1 ≠ r.2.1) ∧ H p = some (.lst (ks.map V.int)) ∧ ks.length ≤ 12 ∧ ks.Nodup ∧ (∀ k ∈ ks, 0 ≤ k ∧ k < rs.length) ∧
  (Uf.againF id (ks.map (edR rs)) = false → ∀ H', Ex H H' → Q .non H') ∧
  (Uf.againF id (ks.map (edR rs)) = true → ∀ R p H', H p = none → Ex H H' → H' p = some (.lst (R.map V.int)) → (∀ ls, ls.Perm ks → ls.Pairwise (· < ·) → Rp.IsRing (edR rs) ls R) → Q (.ref p) H')
theorem touch_tch {rs : List Row} {h k : Int} (hk : 0 ≤ k ∧ k < rs.length) : touchI rs h k = Rp.tch (edR rs) h k := by
  obtain ⟨j, rfl⟩ : ∃ j : Nat, k = (j : Int) := ⟨k.toNat, by omega⟩
  have hj : j < rs.length := by omega
  have hr := List.getElem?_eq_getElem hj
  rw [← touch_two h hr, tch_at h hr]
theorem there_dg {rs : List Row} {js : List Int} (jb : ∀ k ∈ js, 0 ≤ k ∧ k < rs.length) (h : Int) : (thereF rs js h).length = Rp.dg (edR rs) js h := by
  unfold thereF Rp.dg
  rw [← List.countP_eq_length_filter]
  exact List.countP_congr fun k hk => by rw [touch_tch (jb k hk)]
theorem close_iff {rs : List Row} {js : List Int} (jb : ∀ k ∈ js, 0 ≤ k ∧ k < rs.length) : closB rs js = true ↔ Rp.Closed (edR rs) js := by
  unfold closB
  rw [List.all_eq_true]
  have one : ∀ k ∈ js, (decide ((thereF rs js (lo (rowG rs k.toNat))).length = 2) && decide ((thereF rs js (hi (rowG rs k.toNat))).length = 2)) = true ↔ Rp.dg (edR rs) js (edR rs k).1 = 2 ∧ Rp.dg (edR rs) js (edR rs k).2 = 2 := fun k hk => by
    have hk' := jb k hk
    obtain ⟨j, rfl⟩ : ∃ j : Nat, k = (j : Int) := ⟨k.toNat, by omega⟩
    have hj : j < rs.length := by omega
    have hr := List.getElem?_eq_getElem hj
    rw [there_dg jb, there_dg jb, ed_at hr, Int.toNat_natCast, rowG_at hr, Bool.and_eq_true, decide_eq_true_iff, decide_eq_true_iff]
    unfold lo hi
    split
    · exact Iff.rfl
    · exact and_comm
  exact ⟨fun h k hk => (one k hk).mp (h k hk), fun h k hk => (one k hk).mpr (h k hk)⟩
theorem close_two {rs : List Row} {T : List Int} (h : Rp.Closed (edR rs) T) (t0 : T ≠ []) : 2 ≤ T.length := by
  obtain ⟨k, T, rfl⟩ := List.exists_cons_of_ne_nil t0
  have h1 := (h k (List.mem_cons_self ..)).1
  have : Rp.dg (edR rs) (k :: T) (edR rs k).1 ≤ (k :: T).length := List.countP_le_length
  omega
theorem subs_len {α : Type} : ∀ (xs : List α) (r : Nat), (subsL xs r).length ≤ 2 ^ xs.length
  | [], 0 => Nat.le_refl _
  | [], r + 1 => Nat.zero_le _
  | x :: xs, 0 => Nat.one_le_two_pow
  | x :: xs, r + 1 => by
    have h1 := subs_len xs r
    have h2 := subs_len xs (r + 1)
    show ((subsL xs r).map (x :: ·) ++ subsL xs (r + 1)).length ≤ 2 ^ (xs.length + 1)
    rw [List.length_append, List.length_map, Nat.pow_succ]
    omega
def lC (C : List Int) : PyData := .list (C.map PyData.int)
theorem dp_ways {K : PySem.W.Frag} {H : Hp} : ∀ {xs : List V} {cs : List (List Int)}, WaysAt H xs cs → DpAll K H xs (cs.map lC)
  | _, _, .nil => .nil
  | _, _, .cons ⟨a, h1, h2⟩ g => .cons (by rw [h1]; exact .lst (SqL.of h2) (dp_ints _)) (dp_ways g)
theorem alike_lists (cs : List (List Int)) : W.AlikeAll (cs.map lC) := by
  refine ⟨fun x hx y hy => ?_, fun x hx => ?_⟩
  · obtain ⟨C, _, rfl⟩ := List.mem_map.mp hx
    obtain ⟨D, _, rfl⟩ := List.mem_map.mp hy
    show PySem.W.alike (.list _) (.list _) = true
    simp only [PySem.W.alike, alike_ints]
  · obtain ⟨C, _, rfl⟩ := List.mem_map.mp hx
    intro z
    cases z
theorem depth_lists (cs : List (List Int)) : PyData.depthAll (cs.map lC) ≤ 4 := by
  induction cs with
  | nil => decide
  | cons C cs ih =>
    have := depth_intsAll C
    simp only [List.map_cons, PyData.depthAll, PyData.depth, lC, Nat.max_le] at ih ⊢
    omega
theorem lC_inj {C D : List Int} (h : lC C = lC D) : C = D := by
  unfold lC at h
  injection h with h
  exact ints_inj h
theorem el_filtU {K : PySem.W.Frag} {σ : L2.St} {H : Hp} {te : TE} {t : TT} {j : Nat} {vs : List Nat} {xs : List V} (p : V → Bool) (h : ∀ H1, Ex H H1 → ∀ Q : VK, (∀ a H2, Ex H1 H2 → H2 a = some (.tup xs) → Q (.ref a) H2) → te σ H1 Q) (hz : xs.length ≤ 40000)
    (hw : ∀ x, wipe ((wipe σ vs).set j (some x)) vs = wipe σ vs) (hj : ∀ x, ((wipe σ vs).set j (some x))[j]? = some (some x)) (ht : ∀ z ∈ xs, ∀ H1, Ex H H1 → EvT t ((wipe σ vs).set j (some z)) H1 (p z)) : EvL (tLc (iTup K te) (gName j) t (tVar j) vs) σ H (xs.filter p) := fun H0 e0 Q q => h H0 e0 _ fun a H1 e1 ha => by
  refine ⟨a, rfl, ⟨_, SqT.of ha⟩, fun D hD => ?_⟩
  refine lc_it (walk_tup (xs := xs)) (fun n H' => Ex H1 H' ∧ H' D = some (.lst ((xs.take n).filter p))) ⟨Ex.new hD, upd_same⟩ (fun n H' _ ⟨e, _⟩ => SqT.of (e _ _ ha)) ?_ ?_
  · rintro n x Ha Ha' hn ⟨ea, hDa⟩ ⟨rfl, hx⟩
    refine ⟨hw _, ht x (List.mem_of_getElem? hx) Ha' (e0.trans (e1.trans ea)) Ha' (Ex.refl _) _ fun H3 e3 => ?_⟩
    rw [take_snoc hx, List.filter_append]
    cases hp : p x with
    | false =>
      rw [if_neg Bool.false_ne_true, List.filter_cons_of_neg (by rw [hp]; decide), List.filter_nil, List.append_nil]
      exact ⟨ea.trans e3, e3 _ _ hDa⟩
    | true =>
      rw [if_pos rfl, List.filter_cons_of_pos hp, List.filter_nil]
      have l := List.length_filter_le p (xs.take n)
      rw [List.length_take] at l
      exact ⟨_, hj _, _, e3 _ _ hDa, len_lt (by omega), (ea.trans e3).mut hD, upd_same⟩
  · rintro H' ⟨ea, hDa⟩
    rw [List.take_length] at hDa
    exact q D H' (fresh_back e1 hD) (e1.trans ea) hDa
def touV (rs : List Row) (h : Int) : V → Bool
  | .int k => touchI rs h k
  | _ => false
theorem touV_filter (rs : List Row) (h : Int) (ks : List Int) : (ks.map V.int).filter (touV rs h) = (thereF rs ks h).map V.int := by
  rw [List.filter_map]
  rfl
def closL (rs : List Row) (ks : List Int) (k : Int) : List Bool := [decide ((thereF rs ks (lo (rowG rs k.toNat))).length = 2), decide ((thereF rs ks (hi (rowG rs k.toNat))).length = 2)]
theorem closL_all (rs : List Row) (ks js : List Int) : (js.flatMap (closL rs ks)).all id = js.all fun k => decide ((thereF rs ks (lo (rowG rs k.toNat))).length = 2) && decide ((thereF rs ks (hi (rowG rs k.toNat))).length = 2) := by
  rw [List.all_flatMap]
  congr 1
  funext k
  unfold closL
  simp
theorem closL_len (rs : List Row) (ks : List Int) : ∀ js : List Int, (js.flatMap (closL rs ks)).length = 2 * js.length
  | [] => rfl
  | j :: js => by
    rw [List.flatMap_cons, List.length_append, closL_len rs ks js, List.length_cons]
    show 2 + _ = _
    omega
section
variable {P : Program} {w : World} {K : PySem.W.Frag} {mg : Str → Option Value} {base : Heap}
theorem ok_atT (T : Tx K mg) : FnOk P w K mg base CX0 4 T.a__at T.d__at ["net", "links", "hall"] (sp_atT T.c_Net) := by
  have G_Net_ends := ok_nends (P := P) (w := w) (base := base) T
  refine T.F__at.ok sc__at (fun vs H Q E h => ?_) (fun cdv A outer s H vs Q E hr h => ?_)
  · obtain ⟨_, _, _, _, _, _, _, _, rfl, _⟩ := h
    rfl
  · obtain ⟨n, p, B, ps, qs, rs, ks, h, rfl, eB, hN, h12, hp, kl, kb, q⟩ := h
    refine ⟨_, (pss_one (ps_ret (pe_lc (own := [("link", 3)]) (g := (gName 3)) rfl sc__at.nd (iTupK (K := K) rfl (pv 1)) (blkOk_by (N := n__at) (sc := defScope s__at) (by decide +kernel)) (fun _ _ _ _ _ => (pg_name (i := 3) sc__at.nd rfl (Or.inl rfl))) (fun _ _ _ _ _ => (pts_one (pt_cmpR (op_inK (K := K) rfl) (pv 2) (pe_meth (pv 0) T.cl_Net T.me_Net_ends G_Net_ends (hr.mono (by decide)) T.b_Net_ends .nil pass0 (pa_cons (pv 3) pa_nil)) (by rfl)))) (fun _ _ _ _ _ => (pv 3))))), ?_⟩
    obtain ⟨dx, hx, r', l, ts, hn, hh, hr1, hl, hrs⟩ := id hN.ex
    have ev := el_filtU (K := K) (te := tVar 1) (j := 3) (vs := List.map (fun x => x.snd) [(Str.ofString "link", 3)]) (t := tTest (tOp (rIn K false) (tVar 2) (tMeth T.c_Net "ends" (sp_nends T.c_Net) [] E0 (tVar 0) (tCons (tVar 3) tNil)))) (xs := ks.map V.int) (H := H)
      (σ := L2.start ["net", "links", "hall", "link"] [.ref n, .ref p, .int h]) (touV rs h) (fun H1 e1 Q q => ⟨_, rfl, q p H1 (Ex.refl _) (e1 _ _ hp)⟩) (by rw [List.length_map]; omega) (fun _ => rfl) (fun _ => rfl)
      (fun z hz H1 e1 => by
        obtain ⟨k, hk, rfl⟩ := List.mem_map.mp hz
        obtain ⟨k0, k1⟩ := kb k hk
        obtain ⟨m, rfl⟩ : ∃ m : Nat, k = (m : Int) := ⟨k.toNat, by omega⟩
        have hm : m < rs.length := by omega
        have hr := List.getElem?_eq_getElem hm
        show EvT _ _ H1 (touchI rs h (m : Int))
        rw [← touch_ends h hr]
        refine et_test (ev_opL (ev_var rfl) (xs := [.int (lo rs[m]), .int (hi rs[m])]) (fun H2 e2 Q q => ?_) fun p H2 hp e2 => rv_isL (SqL.of hp) rfl rfl)
        have eB2 := eB.trans (e1.trans e2)
        exact ⟨_, rfl, n, dx, _, rfl, eB2 _ _ hn, nf_no _ _ _ (by decide +kernel) (by decide +kernel) (by decide +kernel), _, rfl, n, B, ps, qs, rs, m, _, rfl, eB2, hN, hr, h12, fun p H3 hp e3 h3 => q p H3 hp e3 h3⟩)
    rw [touV_filter] at ev
    exact s_retL ev fun p H1 hp e1 h1 => q p H1 hp e1 h1
theorem ok_closes (T : Tx K mg) : FnOk P w K mg base CX0 5 T.a__closes T.d__closes ["net", "links"] (sp_closes T.c_Net) := by
  have G_Net_ends := ok_nends (P := P) (w := w) (base := base) T
  have G__at := ok_atT (P := P) (w := w) (base := base) T
  refine T.F__closes.ok sc__closes (fun vs H Q E h => ?_) (fun cdv A outer s H vs Q E hr h => ?_)
  · obtain ⟨_, _, _, _, _, _, _, rfl, _⟩ := h
    rfl
  · obtain ⟨n, p, B, ps, qs, rs, ks, rfl, eB, hN, h12, hp, kl, kb, q⟩ := h
    refine ⟨_, (pss_one (ps_ret (pe_callB (allK (K := K) rfl rfl) (by rfl) T.z_all (by decide +kernel) (pa_cons (pe_lc2 (own := [("link", 2), ("hall", 3)]) (vs1 := [3]) (g := (gName 2)) (tt := tYes) (g1 := (gName 3)) (tt1 := tYes) rfl sc__closes.nd (iTupK (K := K) rfl (pv 1)) (blkOk_by (N := n__closes) (sc := defScope s__closes) (by decide +kernel)) (by decide) (fun _ _ _ _ _ => (pg_name (i := 2) sc__closes.nd rfl (Or.inl rfl))) (fun _ _ _ _ _ => pts_nil) (fun _ _ _ _ _ => (iListK (K := K) rfl (pe_meth (pv 0) T.cl_Net T.me_Net_ends G_Net_ends (hr.mono (by decide)) T.b_Net_ends .nil pass0 (pa_cons (pv 2) pa_nil)))) (fun _ _ _ _ _ => (pg_name (i := 3) sc__closes.nd rfl (Or.inl rfl))) (fun _ _ _ _ _ => pts_nil) (fun _ _ _ _ _ => (pe_cmpR op_eq (pe_callB (lenK (K := K) rfl) (by rfl) T.z_len (by decide +kernel) (pa_cons (pe_call G__at (hr.mono (by decide)) (by rfl) T.g__at T.F__at.kp T.b__at .nil pass0 (pa_cons (pv 0) (pa_cons (pv 1) (pa_cons (pv 3) pa_nil)))) pa_nil)) pe_int (nomark _)))) pa_nil)))), ?_⟩
    obtain ⟨dx, hx, r', l, ts, hn, hh, hr1, hl, hrs⟩ := id hN.ex
    refine s_ret (v := .bl (closB rs ks)) ?_ fun H1 e1 => q H1 e1
    rw [show closB rs ks = (ks.flatMap (closL rs ks)).all id from (closL_all rs ks ks).symm]
    refine ev_allN fun H0 e0 Q0 q0 => ?_
    have hp0 := e0 _ _ hp
    refine ⟨_, rfl, p, rfl, ⟨_, SqT.of hp0⟩, fun D hD => it_by (walk_tup (xs := ks.map V.int)) (fun i H' => Ex H0 H' ∧ H' D = some (.lst (((ks.take i).flatMap (closL rs ks)).map V.bl))) ⟨Ex.new hD, upd_same⟩ (fun i H' _ ⟨e, _⟩ => SqT.of (e _ _ hp0)) ?_ ?_⟩
    · rintro i x Ha Ha' hix ⟨ea, hDa⟩ ⟨rfl, hx⟩
      rw [List.getElem?_map] at hx
      cases hk : ks[i]? with
      | none => rw [hk] at hx; cases hx
      | some k =>
        rw [hk] at hx
        obtain rfl := Option.some.inj hx
        obtain ⟨k0, k1⟩ := kb k (List.mem_of_getElem? hk)
        obtain ⟨m, rfl⟩ : ∃ m : Nat, k = (m : Int) := ⟨k.toNat, by omega⟩
        have hm : m < rs.length := by omega
        have hi' : i < ks.length := (List.getElem?_eq_some_iff.mp hk).1
        have hr := List.getElem?_eq_getElem hm
        have er : rowG rs (m : Int).toNat = rs[m] := by rw [Int.toNat_natCast]; exact rowG_at hr
        have lt := closL_len rs ks (ks.take i)
        rw [List.length_take] at lt
        have ea' := eB.trans (e0.trans ea)
        refine ⟨rfl, un_yes (iteT ⟨_, rfl, n, dx, _, rfl, ea' _ _ hn, nf_no _ _ _ (by decide +kernel) (by decide +kernel) (by decide +kernel), _, rfl, n, B, ps, qs, rs, m, _, rfl, ea', hN, hr, h12, fun pe H4 hpe e4 h4 => ⟨pe, rfl, ⟨_, SqL.of h4⟩, ?_⟩⟩)⟩
        have hD4 := e4 _ _ hDa
        refine it_by (walk_list (xs := [.int (lo rs[m]), .int (hi rs[m])])) (fun j H' => Ex H0 H' ∧ H' pe = some (.lst [.int (lo rs[m]), .int (hi rs[m])]) ∧ H' D = some (.lst (((ks.take i).flatMap (closL rs ks) ++ (closL rs ks (m : Int)).take j).map V.bl)))
          ⟨ea.trans e4, h4, by rw [List.take_zero, List.append_nil]; exact hD4⟩ (fun j H' _ ⟨_, h, _⟩ => SqL.of h) ?_ ?_
        · rintro j y Hb Hb' hj ⟨eb, hpb, hDb⟩ ⟨rfl, hy⟩
          have hj2 : j < 2 := hj
          obtain ⟨u, hu, rfl⟩ : ∃ u, (closL rs ks (m : Int))[j]? = some (decide ((thereF rs ks u).length = 2)) ∧ y = .int u := by
            unfold closL
            rw [er]
            match j, hy with
            | 0, hy => exact ⟨_, rfl, (Option.some.inj hy).symm⟩
            | 1, hy => exact ⟨_, rfl, (Option.some.inj hy).symm⟩
            | j + 2, hy => cases hy
          have eb' := eB.trans (e0.trans eb)
          refine ⟨rfl, un_yes (iteT ⟨_, rfl, _, rfl, _, rfl, n, p, B, ps, qs, rs, ks, u, rfl, eb', hN, h12, eb _ _ hp0, by omega, kb, fun pa H6 hpa e6 h6 => ⟨pa, _, rfl, .inl (SqL.of h6), ?_⟩⟩)⟩
          refine ⟨rfl, ?_⟩
          have peD : pe ≠ D := fun z => by rw [z, hDa] at hpe; cases hpe
          refine ⟨_, e6 _ _ hDb, len_lt ?_, (eb.trans e6).mut hD, ?_, ?_⟩
          · rw [List.length_map, List.length_append, lt, List.length_take]
            have : (closL rs ks (m : Int)).length = 2 := rfl
            omega
          · rw [upd_ne peD]; exact e6 _ _ hpb
          · have e : decide (V.int (((thereF rs ks u).map V.int).length : Int) = V.int 2) = decide ((thereF rs ks u).length = 2) := decide_eq_decide.mpr ⟨fun z => by have := V.int.inj z; rw [List.length_map] at this; omega, fun z => by rw [List.length_map, z]; rfl⟩
            rw [upd_same, take_snoc hu, ← List.append_assoc, e]
            simp only [List.map_append, List.map_cons, List.map_nil]
        · rintro H5 ⟨e5, _, hD5⟩
          refine ⟨e5, ?_⟩
          rw [hD5, take_snoc hk, List.flatMap_append, List.flatMap_singleton]
          rfl
    · rintro H5 ⟨e5, hD5⟩
      rw [List.length_map, List.take_length] at hD5
      exact q0 D H5 hD e5 hD5
theorem ok_ring (T : Tx K mg) : FnOk P w K mg base CX0 6 T.a_ring T.d_ring ["net", "links"] (sp_ring T.c_Net) := by
  have G__closes := ok_closes (P := P) (w := w) (base := base) T
  refine T.F_ring.ok sc_ring (fun vs H Q E h => ?_) (fun cdv A outer s H vs Q E hr h => ?_)
  · obtain ⟨_, _, _, _, _, _, _, rfl, _⟩ := h
    rfl
  · obtain ⟨n, p, B, ps, qs, rs, ks, rfl, eB, hN, h12, ne, hp, kl, nd, kb, q1, q2⟩ := h
    refine ⟨_, (pss_cons (ps_set (i := 2) sc_ring.nd rfl (Or.inl rfl) (pe_callB (sortedK (K := K) rfl) (by rfl) T.z_sorted (by decide +kernel) (pa_cons (pv 1) pa_nil)))
  (pss_cons (ps_for PassesOwn.never rfl (pi_range2 rfl T.z_range (pa_cons pe_int (pa_cons (pe_op op_add (pe_callB (lenK (K := K) rfl) (by rfl) T.z_len (by decide +kernel) (pa_cons (pv 2) pa_nil)) pe_int) pa_nil))) (pg_name (i := 3) sc_ring.nd rfl (Or.inl rfl))
   (pss_cons (ps_setLc (i := 4) (own := [("some", 5)]) (g := (gName 5)) rfl sc_ring.nd rfl rfl (sw_true rfl rfl rfl (by decide +kernel)) (pi_combK (K := K) rfl (by rfl) T.v_combinations (pa_cons (pv 2) (pa_cons (pv 3) pa_nil))) (blkOk_by (N := n_ring) (sc := defScope s_ring) (by decide +kernel)) (fun _ _ _ _ _ => (pg_name (i := 5) sc_ring.nd rfl (Or.inl rfl))) (fun _ _ _ _ _ => (pts_one (pt_val (pe_call G__closes (hr.mono (by decide)) (by rfl) T.g__closes T.F__closes.kp T.b__closes .nil pass0 (pa_cons (pv 0) (pa_cons (pv 5) pa_nil)))))) (fun _ _ _ _ _ => (pe_callTy (listK (K := K) rfl) (by rfl) T.z_list (by decide +kernel) (pa_cons (pv 5) pa_nil))))
  (pss_one (ps_if (truthK (K := K) rfl (pv 4) (fun _ => rfl)) (pss_one (ps_ret (pe_callB (cr_minD (K := K) rfl rfl hr.units) (by rfl) T.z_min (by decide +kernel) (pa_cons (pv 4) pa_nil)))) pss_nil))))
  (pss_one (ps_ret pe_non)))), ?_⟩
    refine un_seq (un_asg ⟨_, rfl, p, ks, rfl, SqL.of hp, by omega, fun ls l pm so hl => ?_⟩)
    have el := Ex.new (o := .lst (ls.map V.int)) hl
    have hl0 : (upd H l (.lst (ls.map V.int))) l = some (.lst (ls.map V.int)) := upd_same
    have lb : ∀ k ∈ ls, 0 ≤ k ∧ k < rs.length := fun k hk => kb k (pm.mem_iff.mp hk)
    have ll : ls.length ≤ 12 := by rw [pm.length_eq]; exact kl
    have sl : ls.Pairwise (· < ·) := (so.and (pm.nodup_iff.mpr nd)).imp fun {x y} ⟨l, n⟩ => by omega
    have nek : ∀ k ∈ ks, (edR rs k).1 ≠ (edR rs k).2 := fun k hk => by
      have hk' := kb k hk
      obtain ⟨j, rfl⟩ : ∃ j : Nat, k = (j : Int) := ⟨k.toNat, by omega⟩
      have hj : j < rs.length := by omega
      rw [ed_at (List.getElem?_eq_getElem hj)]
      exact ne _ (List.getElem_mem hj)
    have ca := Rp.cyc_again (ed := edR rs) nek pm sl
    generalize upd H l (.lst (ls.map V.int)) = H0 at el hl0 ⊢
    dsimp only
    refine un_seq (?_ : tFor _ _ _ _ _ _)
    refine ⟨_, rfl, l, _, rfl, .inl (SqL.of hl0), _, _, rfl, rfl, _, _, rfl, ?_, for_it walk_range (fun i σ H' => ∃ y3 y4 y5, σ = [some (.ref n), some (.ref p), some (.ref l), y3, y4, y5] ∧ Ex H0 H' ∧ ∀ T : List Int, T.Sublist ls → T ≠ [] → Rp.Closed (edR rs) T → 2 + i ≤ T.length)
      ⟨_, _, _, rfl, Ex.refl _, fun T _ t0 c => close_two c t0⟩ (fun _ _ _ _ _ => trivial) ?_ ?_⟩
    · rw [List.length_map]
      refine ⟨by decide, by decide, ?_, ?_⟩ <;> omega
    · rintro i x σ Ha Ha' hi ⟨y3, y4, y5, rfl, ea, low⟩ ⟨rfl, rfl⟩
      rw [List.length_map] at hi
      have hr : 2 + i ≤ ls.length := by omega
      have hla := ea _ _ hl0
      have fit : ∀ j : Nat, ((subsL (List.range (ls.map V.int).length) (2 + i))[j]?).map (tupV (ls.map V.int)) = ((subsL ls (2 + i))[j]?).map (·.map V.int) := fun j => by
        rw [← List.getElem?_map, ← List.getElem?_map, subs_vals, subs_map]
      have slen := subs_len ls (2 + i)
      have p12 : 2 ^ ls.length ≤ 4096 := (Nat.pow_le_pow_right (by decide) ll : 2 ^ ls.length ≤ 2 ^ 12)
      have flen : (subsL (List.range (ls.map V.int).length) (2 + i)).length = (subsL ls (2 + i)).length := by
        have := congrArg List.length (subs_vals (ls.map V.int) (2 + i))
        rw [subs_map] at this
        exact (List.length_map (tupV (ls.map V.int))).symm.trans (this.trans (List.length_map _))
      refine un_seq (un_asg ⟨_, rfl, _, rfl, l, ls.map V.int, 2 + i, subsL (List.range (ls.map V.int).length) (2 + i), rfl, SqL.of hla, by rw [List.length_map]; omega, by omega, by rw [List.length_map]; exact chain_subs ll (by omega), fun D hD => ?_⟩)
      refine lc_it walk_comb (fun i' H' => ∃ xs, Ex Ha' H' ∧ H' D = some (.lst xs) ∧ WaysAt H' xs (((subsL ls (2 + i)).take i').filter (closB rs)) ∧ ∀ a, V.ref a ∈ xs → Ha' a = none) ⟨[], Ex.new hD, upd_same, .nil, fun a h => by cases h⟩ (fun _ _ _ _ => trivial) ?_ ?_
      · rintro j y Hb Hb' hj ⟨xs, eb, hDb, hxs, fr⟩ ⟨Tt, c, rfl, hT, hc, rfl⟩
        have et := Ex.new (o := .tup (tupV (ls.map V.int) c)) hT
        obtain ⟨js, hjs, ej⟩ : ∃ js, (subsL ls (2 + i))[j]? = some js ∧ js.map V.int = tupV (ls.map V.int) c := by
          have := fit j
          rw [hc] at this
          obtain ⟨js, h1, h2⟩ := Option.map_eq_some_iff.mp this.symm
          exact ⟨js, h1, h2⟩
        obtain ⟨sj, lj⟩ := mem_subs.mp (List.mem_of_getElem? hjs)
        have hT' : (upd Hb Tt (.tup (tupV (ls.map V.int) c))) Tt = some (.tup (js.map V.int)) := by rw [upd_same, ej]
        have hDb' := et _ _ hDb
        have hxs' := hxs.ext et
        have eb' := el.trans (ea.trans (eb.trans et))
        have eb2 := eb.trans et
        generalize upd Hb Tt (.tup (tupV (ls.map V.int) c)) = Hb' at hT' hDb' eb' et hxs' eb2 ⊢
        have jb : ∀ k ∈ js, 0 ≤ k ∧ k < rs.length := fun k hk => lb k (sj.subset hk)
        refine ⟨rfl, et_B (ev_call (dvs := []) (vs := [.ref n, .ref Tt]) (z := .bl (closB rs js)) (ea_cons (ev_var rfl) (ea_cons (ev_var rfl) ea_nil)) fun H1 e1 Q1 q1 E1 => ?_) Hb' (Ex.refl _) _ fun H3 e3 => ?_⟩
        · exact ⟨n, Tt, B, ps, qs, rs, js, rfl, eB.trans (eb'.trans e1), hN, h12, e1 _ _ hT', by omega, jb, fun H2 e2 => q1 H2 e2⟩
        rw [take_snoc hjs, List.filter_append]
        cases cl : closB rs js with
        | false =>
          rw [if_neg Bool.false_ne_true, List.filter_cons_of_neg (by rw [cl]; decide), List.filter_nil, List.append_nil]
          exact ⟨xs, eb2.trans e3, e3 _ _ hDb', hxs'.ext e3, fr⟩
        | true =>
          rw [if_pos rfl, List.filter_cons_of_pos cl, List.filter_nil]
          refine ⟨_, rfl, Tt, _, rfl, .inr (SqT.of (e3 _ _ hT')), fun l2 hl2 => ?_⟩
          have e4 := Ex.new (o := .lst (js.map V.int)) hl2
          have hD4 := e4 _ _ (e3 _ _ hDb')
          have nl : l2 ≠ D := fun z => by rw [z, e3 _ _ hDb'] at hl2; cases hl2
          have lx := Paired.length hxs'
          have lf := List.length_filter_le (closB rs) ((subsL ls (2 + i)).take j)
          rw [List.length_take] at lf
          refine ⟨xs, hD4, len_lt (by omega), xs ++ [.ref l2], (eb2.trans (e3.trans e4)).mut hD, upd_same, ?_, fun b hb => ?_⟩
          rotate_left
          · rcases List.mem_append.mp hb with m | m
            · exact fr b m
            · have : b = l2 := V.ref.inj (List.mem_singleton.mp m)
              rw [this]
              exact fresh_back (eb2.trans e3) hl2
          exact WaysAt.app (((hxs'.ext e3).ext e4).put hD4) (.cons ⟨l2, rfl, by rw [upd_ne nl]; exact upd_same⟩ .nil)
      · rintro H5 ⟨xs, e5, hD5, hxs, fr⟩
        rw [flen, List.take_length] at hxs
        have lx := Paired.length hxs
        have inF : ∀ T : List Int, T.Sublist ls → T.length = 2 + i → Rp.Closed (edR rs) T → T ∈ (subsL ls (2 + i)).filter (closB rs) := fun T s l c => List.mem_filter.mpr ⟨mem_subs.mpr ⟨s, l⟩, (close_iff fun k hk => lb k (s.subset hk)).mpr c⟩
        refine ⟨_, rfl, !xs.isEmpty, .inl ⟨_, SqL.of hD5, rfl⟩, ite2 (fun c => ?_) (fun c => ?_)⟩
        rotate_left
        · have x0 : xs = [] := by
            cases xs with
            | nil => rfl
            | cons _ _ => exact absurd rfl c
          rw [x0] at lx
          have w0 : (subsL ls (2 + i)).filter (closB rs) = [] := List.eq_nil_of_length_eq_zero lx.symm
          refine ⟨_, _, _, rfl, ea.trans e5, fun T s t0 c => ?_⟩
          have h2 := low T s t0 c
          by_cases e : T.length = 2 + i
          · have := inF T s e c
            rw [w0] at this
            cases this
          · omega
        · have w0 : (subsL ls (2 + i)).filter (closB rs) ≠ [] := by
            intro z
            rw [z] at lx
            have x0 := List.eq_nil_of_length_eq_zero lx
            rw [x0] at c
            cases c
          obtain ⟨c1, cs', ew⟩ := List.exists_cons_of_ne_nil w0
          have hxs' := hxs
          rw [ew] at hxs'
          obtain ⟨z, mz, ez, lez⟩ := minD_key lC (fun C => C) (fun C D => lt_lists _ _) cs' c1
          have mz2 : z ∈ (subsL ls (2 + i)).filter (closB rs) := by rw [ew]; exact mz
          obtain ⟨m1, m2⟩ := List.mem_filter.mp mz2
          obtain ⟨sz, lz⟩ := mem_subs.mp m1
          have cz := (close_iff fun k hk => lb k (sz.subset hk)).mp m2
          have z0 : z ≠ [] := fun e => by rw [e] at lz; simp at lz; omega
          have ring : Rp.IsRing (edR rs) ls z := ⟨sz, by omega, cz, fun T s t0 c => by
            have h2 := low T s t0 c
            refine ⟨by omega, fun tl => lez T ?_⟩
            rw [← ew]
            exact inF T s (by omega) c⟩
          have ag : Uf.againF id (ks.map (edR rs)) = true := by
            obtain ⟨C, hC, _⟩ := Rp.cyc_of nek pm sl sz z0 cz
            exact ca.mpr ⟨C, hC⟩
          refine ⟨_, rfl, D, xs, lC c1, cs'.map lC, rfl, SqL.of hD5, dp_ways hxs', alike_lists (c1 :: cs'), Nat.le_trans (depth_lists (c1 :: cs')) (by decide), fun m x hx hd => ?_⟩
          obtain ⟨C, hC, a, rfl, haa⟩ := paired_at hxs' hx
          have : C = z := by
            rw [ez] at hd
            have h2 : ((c1 :: cs').map lC)[m]? = some (lC z) := hd
            rw [List.getElem?_map, hC] at h2
            exact lC_inj (Option.some.inj h2)
          subst this
          refine q2 ag C a H5 (fresh_back (el.trans ea) (fr a (List.mem_of_getElem? hx))) (el.trans (ea.trans e5)) haa fun ls' pl' sl' => ?_
          have : ls' = ls := (pl'.trans pm.symm).eq_of_pairwise (fun a b _ _ h1 h2 => by omega) sl' sl
          rw [this]
          exact ring
    · rintro σ H5 ⟨y3, y4, y5, rfl, e5, low⟩
      rw [List.length_map] at low
      have ag : Uf.againF id (ks.map (edR rs)) = false := by
        cases z : Uf.againF id (ks.map (edR rs)) with
        | false => rfl
        | true =>
          obtain ⟨C, hC⟩ := ca.mp z
          obtain ⟨_, _, cl, two⟩ := Rp.cyc_ok nek hC
          have s := Rp.cyc_in nek pm sl hC
          have := low C s (fun e => by rw [e] at two; simp at two) cl
          have := s.length_le
          omega
      exact q1 ag H5 (el.trans e5)
end
end K37

set_option maxHeartbeats 1000000
namespace K37
open PySem PySem.Spec PyProof.Rows L2 Evl MyG
theorem fork_if {tc : TT} {tu tw : TS} {D : Ends} {σ : L2.St} {H : Hp} (G : Bool → Hp → Prop) (h : ∀ R' : Bool → Hp → Prop, (∀ b H', G b H' → R' b H') → tc σ H R') (k1 : ∀ H', G true H' → tu D σ H') (k2 : ∀ H', G false H' → tw D σ H') : tIfS tc tu tw D σ H := h _ fun b H' g => by
  cases b with
  | true => exact k1 H' g
  | false => exact k2 H' g
def natV (ks : List Nat) : List V := ks.map fun (k : Nat) => V.int (k : Int)
theorem natV_int (ks : List Nat) : natV ks = (ks.map fun (k : Nat) => (k : Int)).map V.int := by
  unfold natV
  rw [List.map_map]
  rfl
theorem rgV_nat (n : Nat) : rgV 0 (n : Int) = natV (List.range n) := by
  unfold rgV natV
  rw [Int.sub_zero, Int.toNat_natCast]
  exact List.map_congr_left fun k _ => by rw [Int.zero_add]
theorem map_erase {α β : Type} (f : α → β) : ∀ (xs : List α) (k : Nat), (xs.map f).eraseIdx k = (xs.eraseIdx k).map f
  | [], _ => rfl
  | _ :: _, 0 => rfl
  | x :: xs, k + 1 => by
    show f x :: (xs.map f).eraseIdx k = f x :: (xs.eraseIdx k).map f
    rw [map_erase f xs k]
theorem erase_perm {α : Type} : ∀ {xs : List α} {k : Nat} {x : α}, xs[k]? = some x → xs.Perm (x :: xs.eraseIdx k)
  | [], _, _, h => by cases h
  | y :: ys, 0, x, h => by
    obtain rfl := Option.some.inj h
    exact .refl _
  | y :: ys, k + 1, x, h => ((erase_perm (xs := ys) (k := k) h).cons y).trans (.swap _ _ _)
/-- some of a net's links, unlike -/
def sp_some : Sp := fun vs H Q _ => ∃ (s c L : Addr) (B : Hp) (ts : List V) (rs : List Row), vs = [.ref s, .ref L] ∧ Wd s c B H ∧ B L = some (.lst ts) ∧ RowsAt B ts rs ∧ rs.length ≤ 12 ∧
  ∀ (S : Addr) (ks : List Nat) (H' : Hp), Wd s c B H' → H S = none → S ≠ s → S ≠ c → H' S = some (.lst (natV ks)) → ks.Nodup → (∀ k ∈ ks, k < rs.length) → Q (.ref S) H'
section
variable {P : Program} {w : World} {K : PySem.W.Frag} {mg : Str → Option Value} {base : Heap}
theorem ok_some (T : Tx K mg) : FnOk P w K mg base CX0 3 T.a_l_some T.d_l_some ["_law_draws", "_law_chain"] sp_some := by
  have G_l_draw := ok_draw (P := P) (w := w) (base := base) T
  refine T.F_l_some.ok sc_l_some (fun vs H Q E h => ?_) (fun cdv A outer s0 H vs Q E hr h => ?_)
  · obtain ⟨_, _, _, _, _, _, rfl, _⟩ := h
    rfl
  · obtain ⟨s, c, L, B, ts, rs, rfl, W, hL, hts, l12, q⟩ := h
    have lts := hts.len
    refine ⟨_, (pss_cons (ps_set (i := 2) sc_l_some.nd rfl (Or.inl rfl) (pe_listRg rfl (by rfl) T.z_list (prg_1 (by rfl) T.z_range (pe_callB (lenK (K := K) rfl) (by rfl) T.z_len (by decide +kernel) (pa_cons (pv 1) pa_nil)))))
  (pss_cons (ps_set (i := 3) sc_l_some.nd rfl (Or.inl rfl) (pe_lst pa_nil))
  (pss_cons (ps_for PassesOwn.never rfl (pi_range1 rfl T.z_range (pa_cons (pe_call G_l_draw (hr.mono (by decide)) (by rfl) T.g_l_draw T.F_l_draw.kp T.b_l_draw .nil pass0 (pa_cons (pv 0) (pa_cons (pe_op op_add (pe_callB (lenK (K := K) rfl) (by rfl) T.z_len (by decide +kernel) (pa_cons (pv 1) pa_nil)) pe_int) pa_nil))) pa_nil)) (pg_name (i := 4) sc_l_some.nd rfl (Or.inl rfl))
   (pss_one (ps_expr (pe_bm PySem.F.plainAttrs_list PySem.F.slot_list_append PySem.F.type_list_append mt_append (pv 3) (pa_cons (pe_bm PySem.F.plainAttrs_list PySem.F.slot_list_pop PySem.F.type_list_pop mt_popAt (pv 2) (pa_cons (pe_call G_l_draw (hr.mono (by decide)) (by rfl) T.g_l_draw T.F_l_draw.kp T.b_l_draw .nil pass0 (pa_cons (pv 0) (pa_cons (pe_callB (lenK (K := K) rfl) (by rfl) T.z_len (by decide +kernel) (pa_cons (pv 2) pa_nil)) pa_nil))) pa_nil)) pa_nil)))))
  (pss_one (ps_ret (pv 3)))))), ?_⟩
    refine un_seq (un_asg ⟨_, rfl, L, ts, rfl, .inl (SqL.of (W.ex _ _ hL)), _, rfl, RgOk.of_le (by omega) (by omega) (by omega) (by omega), fun l hl => ?_⟩)
    rw [lts, rgV_nat]
    refine ⟨Nat.zero_le _, fun f hf => ?_⟩
    have el := Ex.new (o := .lst (natV (List.range rs.length))) hl
    have ef := Ex.new (o := .lst []) hf
    have lf : l ≠ f := ne_of_none (H := upd H l (.lst (natV (List.range rs.length)))) upd_same hf
    have fH : H f = none := fresh_back el hf
    have hl0 : (upd (upd H l (.lst (natV (List.range rs.length)))) f (.lst [])) l = some (.lst (natV (List.range rs.length))) := ef _ _ upd_same
    have hf0 : (upd (upd H l (.lst (natV (List.range rs.length)))) f (.lst [])) f = some (.lst []) := upd_same
    have W0 := W.ext (el.trans ef)
    generalize upd (upd H l (.lst (natV (List.range rs.length)))) f (.lst []) = H0 at hl0 hf0 W0 ⊢
    have ls := W.st.ne_s hl
    have lc := W.st.ne_c hl
    have fs := W.st.ne_s fH
    have fc := W.st.ne_c fH
    have lB := W.none_of hl
    have fB := W.none_of fH
    dsimp only
    refine ⟨_, rfl, _, rfl, L, ts, rfl, .inl (SqL.of (W0.ex _ _ hL)), _, _, rfl, rfl, s, c, _, rfl, W0.st, by omega, by omega, fun m H2 m0 m1 st2 off2 => ?_⟩
    have W2 := W0.off st2 off2
    have hl2 : H2 l = _ := (off2 l ls lc).trans hl0
    have hf2 : H2 f = _ := (off2 f fs fc).trans hf0
    refine ⟨m, rfl, by omega, by omega, for_it (walk_range (lo := 0) (n := m.toNat)) (fun i σ H' => ∃ (y4 : Option V) (left found : List Nat), σ = [some (.ref s), some (.ref L), some (.ref l), some (.ref f), y4] ∧ Wd s c B H' ∧ H' l = some (.lst (natV left)) ∧ H' f = some (.lst (natV found)) ∧
        (found ++ left).Nodup ∧ (∀ k ∈ found ++ left, k < rs.length) ∧ left.length + i = rs.length ∧ found.length ≤ i)
      ⟨_, List.range rs.length, [], rfl, W2, hl2, hf2, List.nodup_range, (fun k hk => List.mem_range.mp hk), by rw [List.length_range]; rfl, Nat.zero_le _⟩ (fun _ _ _ _ _ => True.intro) ?_ ?_⟩
    · rintro i x σ Ha Ha' hi ⟨y4, left, found, rfl, Wa, hla, hfa, nd, kb, ll, lfd⟩ ⟨rfl, rfl⟩
      have hi' : (i : Int) < m := by omega
      have l0 : 0 < left.length := by omega
      have lv : (natV left).length = left.length := List.length_map ..
      dsimp only
      refine (?_ : tDrop _ _ _ _)
      refine ⟨_, rfl, .inl ⟨rfl, _, SqL.of hfa⟩, _, rfl, .inl ⟨rfl, _, SqL.of hla⟩, _, rfl, _, rfl, l, _, rfl, .inl (SqL.of hla), s, c, _, rfl, Wa.st, by omega, by omega, fun d Hb d0 d1 stb offb => ?_⟩
      have Wb := Wa.off stb offb
      have hlb : Hb l = _ := (offb l ls lc).trans hla
      have hfb : Hb f = _ := (offb f fs fc).trans hfa
      obtain ⟨j, rfl⟩ : ∃ j : Nat, d = (j : Int) := ⟨d.toNat, by omega⟩
      rw [lv] at d1
      have hj : j < left.length := by omega
      have hk := List.getElem?_eq_getElem hj
      have hkv : (natV left)[j]? = some (.int ((left[j] : Nat) : Int)) := by
        unfold natV
        rw [List.getElem?_map, hk]
        rfl
      refine ⟨l, _, (j : Int), j, _, rfl, rfl, hlb, by omega, by omega, (ixN_seq (Evl.ixN_nat (by omega))).1, hkv, ?_⟩
      have er : (natV left).eraseIdx j = natV (left.eraseIdx j) := map_erase _ _ _
      rw [er]
      have Wc : Wd s c B (upd Hb l (.lst (natV (left.eraseIdx j)))) := Wb.mut lB ls lc
      have hlc : (upd Hb l (.lst (natV (left.eraseIdx j)))) l = some (.lst (natV (left.eraseIdx j))) := upd_same
      have hfc : (upd Hb l (.lst (natV (left.eraseIdx j)))) f = some (.lst (natV found)) := by rw [upd_ne lf.symm]; exact hfb
      have pe := erase_perm hk
      have ple : (left.eraseIdx j).length = left.length - 1 := List.length_eraseIdx_of_lt hj
      have pp : (found ++ left).Perm ((found ++ [left[j]]) ++ left.eraseIdx j) := by
        rw [List.append_assoc]
        exact List.Perm.append_left _ pe
      have nd2 := pp.nodup_iff.mp nd
      have kb2 : ∀ k ∈ (found ++ [left[j]]) ++ left.eraseIdx j, k < rs.length := fun k hk => kb k (pp.mem_iff.mpr hk)
      have en : natV found ++ [V.int ((left[j] : Nat) : Int)] = natV (found ++ [left[j]]) := by unfold natV; rw [List.map_append]; rfl
      refine ⟨f, _, _, rfl, rfl, hfc, len_lt (by show (natV found).length ≤ 100000; unfold natV; rw [List.length_map]; omega), ?_⟩
      exact ⟨_, left.eraseIdx j, found ++ [left[j]], rfl, Wc.mut fB fs fc, by rw [upd_ne lf]; exact hlc, by rw [upd_same, en], nd2, kb2, by omega, by rw [List.length_append, List.length_singleton]; omega⟩
    · rintro σ H3 ⟨y4, left, found, rfl, W3, hl3, hf3, nd, kb, ll, lfd⟩
      exact ⟨_, rfl, q f found H3 W3 fH fs fc hf3 ((List.sublist_append_left _ _).nodup nd) fun k hk => kb k (List.mem_append_left _ hk)⟩
end
end K37

set_option maxHeartbeats 1000000
namespace K37
open PySem PySem.Spec PyProof.Rows L2 Evl MyG
/-! ### whether all is right -/
theorem un_par2 {i j : Nat} {ta : TA} {D : Ends} {σ : L2.St} {H : Hp} (h : ta σ H fun vs H1 => ∃ u v, vs = [u, v] ∧ D.nx ((σ.set i (some u)).set j (some v)) H1) : tPar i j ta D σ H := h
theorem un_parF {i j : Nat} {ta tb : TE} {D : Ends} {σ : L2.St} {H : Hp} (G : V → Hp → Prop) (h : ∀ Q' : VK, (∀ v H', G v H' → Q' v H') → ta σ H Q') (k : ∀ v H', G v H' → tb σ H' fun u H2 => ∃ x y, [v, u] = [x, y] ∧ D.nx ((σ.set i (some x)).set j (some y)) H2) : tPar i j (tCons ta (tCons tb tNil)) D σ H := un_par2 (h _ fun v H' g => k v H' g)
theorem go_call {sp : Sp} {ta : TA} {σ : L2.St} {H : Hp} {vs : List V} {Q : VK} (hv : EvA ta σ H vs) (k : ∀ H1, Ex H H1 → sp vs H1 Q E0) : tCall sp [] E0 ta σ H Q := hv H (Ex.refl _) _ fun H1 e => by
  rw [List.append_nil]
  exact k H1 e
/-- what the law's own going tells -/
def Wan (rs : List Row) (ks : List Int) (c : Bool) (H : Hp) (v : V) : Prop := (c = false ∧ v = .non) ∨ (c = true ∧ ∃ R a, v = .ref a ∧ H a = some (.lst (R.map V.int)) ∧ ∀ ls, ls.Perm ks → ls.Pairwise (· < ·) → Rp.IsRing (edR rs) ls R)
theorem Wan.ext {rs : List Row} {ks : List Int} {c : Bool} {H H' : Hp} {v : V} (h : Wan rs ks c H v) (e : Ex H H') : Wan rs ks c H' v := by
  rcases h with h | ⟨c, R, a, h1, h2, h3⟩
  · exact .inl h
  · exact .inr ⟨c, R, a, h1, e _ _ h2, h3⟩
theorem Wan.isN {rs : List Row} {ks : List Int} {c : Bool} {H : Hp} {v : V} (h : Wan rs ks c H v) : decide (v = V.non) = !c := by
  rcases h with ⟨rfl, rfl⟩ | ⟨rfl, R, a, rfl, _⟩
  · rw [decide_eq_true rfl]; rfl
  · exact decide_eq_false (by intro z; cases z)
theorem el_noneL {K : PySem.W.Frag} {σ : L2.St} {H : Hp} {tl : TE} {t : TT} {j : Nat} {vs : List Nat} {xs : List V} {L : Addr} (h : Ev tl σ H (.ref L)) (hL : H L = some (.lst xs)) (hz : xs.length ≤ 40000)
    (hw : ∀ x, wipe ((wipe σ vs).set j (some x)) vs = wipe σ vs) (hj : ∀ x, ((wipe σ vs).set j (some x))[j]? = some (some x)) (ht : ∀ z ∈ xs, ∀ H1, Ex H H1 → EvT t ((wipe σ vs).set j (some z)) H1 false) : EvL (tLc (iList K tl) (gName j) t (tVar j) vs) σ H [] := by
  have k := el_filtV (K := K) (σ := σ) (H := H) (tl := tl) (t := t) (j := j) (vs := vs) (xs := xs) (fun _ => false) (fun H1 e1 Q q => h H1 e1 _ fun H2 e2 => q L H2 e2 ((e1.trans e2) _ _ hL)) hz hw hj ht
  rw [List.filter_eq_nil_iff.mpr fun _ _ => Bool.false_ne_true] at k
  exact k

theorem ev_isN0 {K : PySem.W.Frag} {te : TE} {σ : L2.St} {H : Hp} (h : Ev te σ H .non) : Ev (tOp (fun x y H Q => y = V.non ∧ Q (V.bl (decide (x = V.non))) H) te (tC V.non)) σ H (.bl true) := by
  have := ev_isN h
  rwa [decide_eq_true rfl] at this
theorem rv_eqInts {K : PySem.W.Frag} {H : Hp} {a b : Addr} {ns : List Int} (ha : H a = some (.lst (ns.map V.int))) (hb : H b = some (.lst (ns.map V.int))) : RV (rEqD K) (.ref a) (.ref b) H (.bl true) := fun H1 e Q k => by
  refine ⟨_, _, .lst (SqL.of (e _ _ ha)) (dp_ints _), .lst (SqL.of (e _ _ hb)) (dp_ints _), shaped_ints _, shaped_ints _, ?_⟩
  rw [SeqAt.eqv_refl _ (SeqAt.canLay_of_shaped (shaped_ints _))]
  exact k H1 (Ex.refl _)
theorem rv_neInts {K : PySem.W.Frag} {H : Hp} {a b : Addr} {ns : List Int} (ha : H a = some (.lst (ns.map V.int))) (hb : H b = some (.lst (ns.map V.int))) : RV (rNeD K) (.ref a) (.ref b) H (.bl false) := fun H1 e Q k => by
  refine ⟨_, _, .lst (SqL.of (e _ _ ha)) (dp_ints _), .lst (SqL.of (e _ _ hb)) (dp_ints _), shaped_ints _, shaped_ints _, ?_⟩
  rw [SeqAt.eqv_refl _ (SeqAt.canLay_of_shaped (shaped_ints _))]
  exact k H1 (Ex.refl _)
theorem rv_neNil0 {K : PySem.W.Frag} {H : Hp} {a b : Addr} (ha : H a = some (.lst [])) (hb : H b = some (.lst [])) : RV (rNeD K) (.ref a) (.ref b) H (.bl false) := fun H1 e Q k =>
  ⟨.list [], .list [], .lst (SqL.of (e _ _ ha)) .nil, .lst (SqL.of (e _ _ hb)) .nil, by decide, by decide, k H1 (Ex.refl _)⟩
theorem nat_ints {ls : List Int} (h : ∀ k ∈ ls, 0 ≤ k) : ls.map V.int = natV (ls.map Int.toNat) := by
  unfold natV
  rw [List.map_map]
  refine List.map_congr_left fun k hk => ?_
  have := h k hk
  show V.int k = V.int ((k.toNat : Nat) : Int)
  rw [Int.toNat_of_nonneg this]
def sp_lright (C : Addr) : Sp := fun vs H Q _ => ∃ (t p l n S : Addr) (B : Hp) (ts : List V) (ps qs : List Int) (rs : List Row) (ks : List Int), vs = [.ref t, .ref n, .ref S] ∧ H t = some (.tup [.ref p, .ref l]) ∧ H l = some (.lst ts) ∧ RowsAt H ts rs ∧ Ex B H ∧ NetAt C B n ps qs rs ∧ Places ps ∧ Roads ps rs ∧ H S = some (.lst (ks.map V.int)) ∧ ks.length ≤ 12 ∧ ks.Nodup ∧ (∀ k ∈ ks, 0 ≤ k ∧ k < (rs.length : Int)) ∧
  ∀ H', Ex H H' → Q (.bl true) H'
section
variable {P : Program} {w : World} {K : PySem.W.Frag} {mg : Str → Option Value} {base : Heap}
theorem ok_right (T : Tx K mg) : FnOk P w K mg base CX0 13 T.a_l_right T.d_l_right ["_law_town_here", "_law_house", "_law_some_here"] (sp_lright T.c_Net) := by
  have G_l_parts := ok_parts (P := P) (w := w) (base := base) T
  have G_l_ring := ok_lring (P := P) (w := w) (base := base) T
  have G_ring := ok_ring (P := P) (w := w) (base := base) T
  refine T.F_l_right.ok sc_l_right (fun vs H Q E h => ?_) (fun cdv A outer s0 H vs Q E hr h => ?_)
  · obtain ⟨_, _, _, _, _, _, _, _, _, _, _, rfl, _⟩ := h
    rfl
  · obtain ⟨t, p, l, n, S, B, ts, ps, qs, rs, ks, rfl, ht, hl, hts, eB, net, plc, rds, hS, kl, nd, kb, q⟩ := h
    refine ⟨_, (pss_cons (ps_set (i := 3) sc_l_right.nd rfl (Or.inl rfl) (pe_ix (ix_tupK (K := K) rfl) (pv 0) pe_int (fun _ _ => rfl)))
  (pss_cons (ps_par (i := 4) (j := 5) rfl sc_l_right.nd rfl rfl (by decide) rfl rfl (pa_cons (pe_callTy (listK (K := K) rfl) (by rfl) T.z_list (by decide +kernel) (pa_cons (pv 2) pa_nil)) (pa_cons (pe_call G_l_ring (hr.mono (by decide)) (by rfl) T.g_l_ring T.F_l_ring.kp T.b_l_ring .nil pass0 (pa_cons (pv 3) (pa_cons (pe_callB (sortedK (K := K) rfl) (by rfl) T.z_sorted (by decide +kernel) (pa_cons (pv 2) pa_nil)) pa_nil))) pa_nil)) (by rfl))
  (pss_cons (ps_if (pt_cmpR op_eq (pe_cmpR op_isN (pv 5) pe_non (nomark _)) (pe_ix (ix_tupK (K := K) rfl) (pe_call G_l_parts (hr.mono (by decide)) (by rfl) T.g_l_parts T.F_l_parts.kp T.b_l_parts .nil pass0 (pa_cons (pv 3) (pa_cons (pe_callB (sortedK (K := K) rfl) (by rfl) T.z_sorted (by decide +kernel) (pa_cons (pv 2) pa_nil)) pa_nil))) pe_int (fun _ _ => rfl)) (nomark _)) (pss_one (ps_ret pe_bl)) pss_nil)
  (pss_cons (ps_set (i := 6) sc_l_right.nd rfl (Or.inl rfl) (pe_call G_ring (hr.mono (by decide)) (by rfl) T.g_ring T.F_ring.kp T.b_ring .nil pass0 (pa_cons (pv 1) (pa_cons (pv 4) pa_nil))))
  (pss_cons (ps_if (pt_cmpR op_isN (pv 5) pe_non (nomark _)) (pss_one (ps_ret (pe_and (pe_cmpR op_isN (pv 6) pe_non (nomark _)) (pe_and (pe_cmpR op_isN (pe_callK0 G_ring (hr.mono (by decide)) (by rfl) T.g_ring T.F_ring.kp T.kb_ring_links_net pass0 (pk_cons (pv 4) (pk_cons (pv 1) pk_nil))) pe_non (nomark _)) (pe_one (pe_cmpR (op_eqK (K := K) rfl hr.units) (pv 4) (pv 2) (nomark _))))))) pss_nil)
  (pss_cons (ps_if (PW.pt (pw_or (pt_not (pt_val (pe_callB (isiK (K := K) rfl) (by rfl) T.z_isinstance (by decide +kernel) (pa_cons (pv 6) (pa_cons (pe_bltn (v := .ty "list") (by rfl) T.z_list (by decide +kernel) rfl) pa_nil))))) (pw_or (pt_cmpR (op_neK (K := K) rfl hr.units) (pv 6) (pv 5) (nomark _)) (pw_or1 (pt_cmpR (op_neK (K := K) rfl hr.units) (pe_lc (own := [("_law_k", 7)]) (g := (gName 7)) rfl sc_l_right.nd (iListK (K := K) rfl (pv 6)) (blkOk_by (N := n_l_right) (sc := defScope s_l_right) (by decide +kernel)) (fun _ _ _ _ _ => (pg_name (i := 7) sc_l_right.nd rfl (Or.inl rfl))) (fun _ _ _ _ _ => (pts_one (pt_val (pe_callB (isiK (K := K) rfl) (by rfl) T.z_isinstance (by decide +kernel) (pa_cons (pv 7) (pa_cons (pe_bltn (v := .ty "bool") (by rfl) T.z_bool (by decide +kernel) rfl) pa_nil)))))) (fun _ _ _ _ _ => (pv 7))) (pe_lst pa_nil) (nomark _)))))) (pss_one (ps_ret pe_bl)) pss_nil)
  (pss_cons (ps_expr (pe_bm PySem.F.plainAttrs_list PySem.F.slot_list_append PySem.F.type_list_append mt_append (pv 6) (pa_cons pe_int pa_nil)))
  (pss_one (ps_ret (pe_and (pe_cmpR (op_eqK (K := K) rfl hr.units) (pe_callK0 G_ring (hr.mono (by decide)) (by rfl) T.g_ring T.F_ring.kp T.kb_ring_links_net pass0 (pk_cons (pv 4) (pk_cons (pv 1) pk_nil))) (pv 5) (nomark _)) (pe_one (pe_cmpR (op_eqK (K := K) rfl hr.units) (pv 4) (pv 2) (nomark _))))))))))))), ?_⟩
    have l12 := rds.len
    have a1 : atI [V.ref p, .ref l] 1 = some (.ref l) := rfl
    obtain ⟨ls, pls, sle⟩ := Rp.srt_exists ks
    have sls : ls.Pairwise (· < ·) := (sle.and (pls.nodup_iff.mpr nd)).imp fun {x y} ⟨l, n⟩ => by omega
    have lk : ls.length ≤ 12 := by rw [pls.length_eq]; exact kl
    have lb : ∀ k ∈ ls, 0 ≤ k ∧ k < (rs.length : Int) := fun k hk => kb k (pls.mem_iff.mp hk)
    have ind : ls.Nodup := pls.nodup_iff.mpr nd
    have one : ∀ {ls2 : List Int}, ls2.Perm ks → ls2.Pairwise (· ≤ ·) → ls2 = ls := fun {ls2} p2 s2 => (p2.trans pls.symm).eq_of_pairwise (fun a b _ _ h1 h2 => Int.le_antisymm h1 h2) s2 sle
    have at_ : ∀ k ∈ ls, ∃ r, r ∈ rs ∧ edR rs k = (r.1, r.2.1) := fun k hk => by
      obtain ⟨k0, k1⟩ := lb k hk
      obtain ⟨j, rfl⟩ : ∃ j : Nat, k = (j : Int) := ⟨k.toNat, by omega⟩
      have hj : j < rs.length := by omega
      exact ⟨_, List.getElem_mem hj, ed_at (List.getElem?_eq_getElem hj)⟩
    have edp : ∀ k ∈ ls, (edR rs k).1 ∈ ps ∧ (edR rs k).2 ∈ ps := fun k hk => by
      obtain ⟨r, hr, e⟩ := at_ k hk
      rw [e]
      exact ⟨(rds.ok r hr).m1, (rds.ok r hr).m2⟩
    have edn : ∀ k ∈ ls, (edR rs k).1 ≠ (edR rs k).2 := fun k hk => by
      obtain ⟨r, hr, e⟩ := at_ k hk
      rw [e]
      exact (rds.ok r hr).ne
    generalize hc' : Uf.againF id (ls.map (edR rs)) = cl
    have hck : Uf.againF id (ks.map (edR rs)) = cl := by rw [← Uf.again_perm (pls.map _) id]; exact hc'
    refine un_seq (un_asg (go_V (v := .ref l) (ev_op (ev_var rfl) ev_c (rv_ixT (SqT.of ht) a1)) fun H1 e1 => ?_))
    dsimp only
    refine un_seq (un_parF (G := fun v H' => ∃ g, v = .ref g ∧ Ex H H' ∧ H' g = some (.lst (ks.map V.int))) (fun Q' kk => ?_) (fun v H2 ⟨g, ev, e2, hg⟩ => ?_))
    · exact ⟨_, rfl, S, _, rfl, .inl (SqL.of (e1 _ _ hS)), fun g hg => kk _ _ ⟨g, rfl, e1.trans (Ex.new hg), upd_same⟩⟩
    subst ev
    refine fork_e (G := fun v H' => Ex H2 H' ∧ Wan rs ls cl H' v) (fun Q' kk => ?_) (fun v H3 ⟨e3, wan⟩ => ⟨_, _, rfl, ?_⟩)
    · refine ⟨_, rfl, _, rfl, S, ks, rfl, SqL.of (e2 _ _ hS), by omega, fun ls2 l2 pm2 so2 hl2 => ?_⟩
      have := one pm2 so2
      subst this
      have el := Ex.new (o := .lst (ls2.map V.int)) hl2
      have e02 := e2.trans el
      exact ⟨l, l2, ts, rs, ps, ls2, rfl, e02 _ _ hl, hts.mono e02, upd_same, lk, ind, plc.l1, lb, edp, edn, fun z H3 e3 => kk _ _ ⟨el.trans e3, .inl ⟨hc'.symm.trans z, rfl⟩⟩, fun z R p H3 e3 hp ir => kk _ _ ⟨el.trans e3, .inr ⟨hc'.symm.trans z, R, p, rfl, hp, ir⟩⟩⟩
    have e03 := e2.trans e3
    have hg := e3 _ _ hg
    clear e1 e2 e3
    dsimp only
    refine un_seq (s_if (b := false) (et_is (et_test (ev_op (y := .bl cl) (ev_isN (ev_var rfl)) (fun H5 e5 Q' q' => ?_) (rv_eq rfl))) ?_) (fun z => by cases z) (fun _ H4 e4 => un_next ?_))
    · have e05 := e03.trans e5
      refine ⟨_, rfl, _, rfl, S, ks, rfl, SqL.of (e05 _ _ hS), by omega, fun ls2 l2 pm2 so2 hl2 => ?_⟩
      have := one pm2 so2
      subst this
      have el := Ex.new (o := .lst (ls2.map V.int)) hl2
      have e06 := e05.trans el
      refine ⟨l, l2, ts, rs, ls2.map Int.toNat, rfl, e06 _ _ hl, hts.mono e06, ?_, by rw [List.length_map]; omega, fun k hk => ?_, fun t2 d2 H7 ht2 e7 hd htt => ⟨t2, _, 1, _, rfl, rfl, SqT.of htt, rfl, ?_⟩⟩
      · rw [upd_same, nat_ints fun k hk => (lb k hk).1]
        rfl
      · obtain ⟨j, hj, rfl⟩ := List.mem_map.mp hk
        have := lb j hj
        omega
      · have pf : (partsF ((ls2.map Int.toNat).map fun k => rs.getD k (0, 0, 0))).2 = cl := by
          rw [parts_again, ← hc', List.map_map, List.map_map]
          rfl
        rw [pf]
        exact q' H7 (el.trans e7)
    · rw [wan.isN]
      exact decide_eq_false (by intro z; have z := V.bl.inj z; cases cl <;> cases z)
    have wan := wan.ext e4
    have e04 := e03.trans e4
    have hg := e4 _ _ hg
    have hS4 := e04 _ _ hS
    have eB4 := eB.trans e04
    clear e03 e4
    dsimp only
    have ne : ∀ r ∈ rs, r.1 ≠ r.2.1 := fun r hr => (rds.ok r hr).ne
    refine un_seq (un_asg (fork_e (G := fun v H' => Ex H4 H' ∧ ((cl = false ∧ v = .non) ∨ (cl = true ∧ ∃ R a, v = .ref a ∧ H4 a = none ∧ H' a = some (.lst (R.map V.int)) ∧ ∀ ls', ls'.Perm ks → ls'.Pairwise (· < ·) → Rp.IsRing (edR rs) ls' R))) (fun Q' kk => ?_) (fun v2 H5 ⟨e5, fo⟩ => ?_)))
    · exact ⟨_, rfl, _, rfl, n, g, B, ps, qs, rs, ks, rfl, eB4, net, l12, ne, hg, kl, nd, kb, fun z H6 e6 => kk _ _ ⟨e6, .inl ⟨hck.symm.trans z, rfl⟩⟩, fun z R p H6 hp0 e6 hp ir => kk _ _ ⟨e6, .inr ⟨hck.symm.trans z, R, p, rfl, hp0, hp, ir⟩⟩⟩
    dsimp only
    rcases wan with ⟨c0, rfl⟩ | ⟨c1, R, a, rfl, ha, ir⟩
    · subst c0
      rcases fo with ⟨_, rfl⟩ | ⟨z, _⟩
      rotate_left
      · cases z
      refine un_seq (s_if (b := true) (et_test (ev_isN0 (K := K) (ev_var rfl))) (fun _ H6 e6 => ?_) (fun z => by cases z))
      have e56 := e5.trans e6
      refine un_ret (go_V (v := .bl true) (ev_andV (a := true) (b := true) (ev_isN0 (K := K) (ev_var rfl)) fun _ => ev_andV (a := true) (b := true) (ev_isN0 (K := K) fun H7 e7 Q' q' => ?_) fun _ => ev_op (ev_var rfl) (ev_var rfl) (rv_eqInts (e56 _ _ hg) (e56 _ _ hS4))) fun H7 e7 => q H7 (e04.trans (e56.trans e7)))
      have e47 := e56.trans e7
      exact ⟨_, rfl, _, rfl, rfl, n, g, B, ps, qs, rs, ks, rfl, eB4.trans e47, net, l12, ne, e47 _ _ hg, kl, nd, kb, fun z H8 e8 => q' H8 e8, fun z => by rw [hck] at z; cases z⟩
    · subst c1
      rcases fo with ⟨z, _⟩ | ⟨_, R', f, rfl, hf0, hf, ir'⟩
      · cases z
      have er : R' = R := (ir' ls pls sls).uniq (ir ls (List.Perm.refl _) sls)
      subst er
      have ha5 := e5 _ _ ha
      refine un_seq (s_if (b := false) (et_is (et_test (ev_isN (ev_var rfl))) (decide_eq_false (by intro z; cases z))) (fun z => by cases z) (fun _ H6 e6 => un_next ?_))
      dsimp only
      have hf6 := e6 _ _ hf
      have ha6 := e6 _ _ ha5
      have rl : R'.length ≤ 12 := Nat.le_trans (ir ls (List.Perm.refl _) sls).sub.length_le lk
      refine un_seq (s_if (b := false) (et_or (a := false) (b := false) (et_is (et_not (et_B (ev_isi_list (ev_var rfl) (AnyT.lst hf6)))) rfl) fun _ => et_or (a := false) (b := false) (et_test (ev_op (ev_var rfl) (ev_var rfl) (rv_neInts hf6 ha6))) fun _ => et_test (ev_opLL (xs := []) (ys := []) (el_noneL (ev_var rfl) hf6 (by rw [List.length_map]; omega) (fun _ => rfl) (fun _ => rfl) fun z hz H7 e7 => ?_) (el_lst ea_nil (Nat.zero_le _)) fun p q H9 h9 h9' e9 => rv_neNil0 h9 h9')) (fun z => by cases z) (fun _ H7 e7 => un_next ?_))
      · obtain ⟨k, _, rfl⟩ := List.mem_map.mp hz
        exact et_is (et_B (ev_isi_bool (ev_var rfl) (AnyT.int k))) rfl
      dsimp only
      have hf7 := e7 _ _ hf6
      have e47 := e5.trans (e6.trans e7)
      refine un_seq (?_ : tDrop _ _ _ _)
      refine ⟨_, rfl, .inl ⟨rfl, _, SqL.of hf7⟩, f, _, .int 99, rfl, rfl, hf7, len_lt (by rw [List.length_map]; omega), ?_⟩
      have e48 : Ex H4 (upd H7 f (.lst (R'.map V.int ++ [.int 99]))) := e47.mut hf0
      generalize upd H7 f (.lst (R'.map V.int ++ [.int 99])) = H8 at e48 ⊢
      dsimp only
      refine un_ret (go_V (v := .bl true) (ev_andV (a := true) (b := true) (fun H9 e9 Q' q' => ?_) fun _ => ev_op (ev_var rfl) (ev_var rfl) (rv_eqInts (e48 _ _ hg) (e48 _ _ hS4))) fun H9 e9 => q H9 (e04.trans (e48.trans e9)))
      have e49 := e48.trans e9
      refine ⟨_, rfl, _, rfl, rfl, n, g, B, ps, qs, rs, ks, rfl, eB4.trans e49, net, l12, ne, e49 _ _ hg, kl, nd, kb, fun z => (by rw [hck] at z; cases z), fun z R2 p2 H10 hp0 e10 hp ir2 => ?_⟩
      have er2 : R2 = R' := (ir2 ls pls sls).uniq (ir ls (List.Perm.refl _) sls)
      subst er2
      exact ⟨_, rfl, rv_eqInts (K := K) hp (e10 _ _ (e49 _ _ ha)) H10 (Ex.refl _) Q' fun H11 e11 => q' H11 (e10.trans e11)⟩
end
end K37

set_option maxHeartbeats 1000000
namespace K37
open PySem PySem.Spec PyProof.Rows L2 Evl MyG
theorem NetAt.mono {C n : Addr} {B B' : Hp} {ps qs : List Int} {rs : List Row} (e : Ex B B') (h : NetAt C B n ps qs rs) : NetAt C B' n ps qs rs :=
  ⟨let ⟨dx, h', r, l, ts, h1, h2, h3, h4, h5⟩ := h.ex; ⟨dx, h', r, l, ts, e _ _ h1, e _ _ h2, e _ _ h3, e _ _ h4, h5.mono e⟩, h.pm, h.so⟩
theorem mk_net {P : Program} {w : World} {K : PySem.W.Frag} {mg : Str → Option Value} {base : Heap} (T : Tx K mg) {s c t p l : Addr} {B H : Hp} {ps : List Int} {rs : List Row} {ts : List V} {σ : L2.St} {Q : VK} (W : Wd s c B H) (ht : B t = some (.tup [.ref p, .ref l])) (hp : B p = some (.lst (ps.map V.int))) (hl : B l = some (.lst ts)) (hts : RowsAt B ts rs) (plc : Places ps) (rds : Roads ps rs) (z6 : σ[6]? = some (some (.ref t)))
    (k : ∀ (G : Hp) (n : Addr) (qs : List Int) (H' : Hp), Ex B G → Wd s c G H' → NetAt T.c_Net G n ps qs rs → (∀ x, B x = none → H x ≠ none → G x = none) → Ex H H' → Q (.ref n) H') :
    tMake T.c_Net (sp_init T.c_Net) [] E0 (tCons (tOp (rIxT K) (tVar 6) (tC (V.int 0))) (tCons (tOp (rIxT K) (tVar 6) (tC (V.int 1))) tNil)) σ H Q := by
  refine ⟨_, z6, t, _, 0, .ref p, rfl, rfl, SqT.of (W.ex _ _ ht), rfl, _, z6, t, _, 1, .ref l, rfl, rfl, SqT.of (W.ex _ _ ht), rfl, fun n dx hn1 hdx ned => ⟨dx, n, p, l, ps, ts, rs, B, rfl, upd_same, ?_, ?_, ?_, ?_, plc, rds, hts, fun H2 h r l' qs frame hh hr' hl' n4 h4 r4 pm so l4 => ⟨rfl, ?_⟩⟩⟩
  · exact fun x o e => by
      have := W.ex _ _ e
      rw [upd_ne (ne_of_none this hn1), upd_ne (ne_of_none this hdx)]; exact this
  · exact W.none_of hn1
  · have := W.ex _ _ hp
    rw [upd_ne (ne_of_none this hn1), upd_ne (ne_of_none this hdx)]; exact this
  · have := W.ex _ _ hl
    rw [upd_ne (ne_of_none this hn1), upd_ne (ne_of_none this hdx)]; exact this
  obtain ⟨B2, eB2, W2, net, fr, e12⟩ := net_made W hn1 hdx frame hh hr' hl' n4 h4 r4 pm so l4 hts
  exact k B2 n qs H2 eB2 W2 net fr e12
section
variable {P : Program} {w : World} {K : PySem.W.Frag} {mg : Str → Option Value} {base : Heap}
theorem ok_law (T : Tx K mg) : FnOkG P w K mg base CX0 16 T.a_law T.d_law ["_law_script"] (sp_law K) := by
  have G_l_begun := ok_begun (P := P) (w := w) (base := base) T
  have G_l_town := ok_town (P := P) (w := w) (base := base) T
  have G_l_some := ok_some (P := P) (w := w) (base := base) T
  have G_l_right := ok_right (P := P) (w := w) (base := base) T
  have G_ring := ok_ring (P := P) (w := w) (base := base) T
  have G_Net___init__ := ok_init (P := P) (w := w) (base := base) T
  refine okG T.F_law sc_law (fun vs H Q E h => ?_) (fun cdv A outer s0 H vs Q E hgd hr h => ?_)
  · obtain ⟨_, _, rfl, _⟩ := h
    rfl
  · obtain ⟨a, ns, rfl, ha, hn, q⟩ := h
    refine ⟨_, (pss_cons (ps_set (i := 1) sc_law.nd rfl (Or.inl rfl) (pe_call G_l_begun (hr.mono (by decide)) (by rfl) T.g_l_begun T.F_l_begun.kp T.b_l_begun .nil pass0 (pa_cons (pv 0) pa_nil)))
  (pss_cons (ps_set (i := 2) sc_law.nd rfl (Or.inl rfl) (pe_lst (pa_cons (pe_call G_l_town (hr.mono (by decide)) (by rfl) T.g_l_town T.F_l_town.kp T.b_l_town .nil pass0 (pa_cons (pv 1) (pa_cons pe_int pa_nil))) (pa_cons (pe_call G_l_town (hr.mono (by decide)) (by rfl) T.g_l_town T.F_l_town.kp T.b_l_town .nil pass0 (pa_cons (pv 1) (pa_cons pe_int pa_nil))) pa_nil))))
  (pss_cons (ps_setLc (i := 3) (own := [("_law_town_here", 6)]) (g := (gName 6)) (tt := tYes) rfl sc_law.nd rfl rfl (sw_true rfl rfl rfl (by decide +kernel)) (iListK (K := K) rfl (pv 2)) (blkOk_by (N := n_law) (sc := defScope s_law) (by decide +kernel)) (fun _ _ _ _ _ => (pg_name (i := 6) sc_law.nd rfl (Or.inl rfl))) (fun _ _ _ _ _ => pts_nil) (fun _ _ _ _ _ => (pe_make T.m_Net G_Net___init__ (hr.mono (by decide)) (by rfl) T.g_Net T.b_Net___init__ .nil pass0 (pa_cons (pe_ix (ix_tupK (K := K) rfl) (pv 6) pe_int (fun _ _ => rfl)) (pa_cons (pe_ix (ix_tupK (K := K) rfl) (pv 6) pe_int (fun _ _ => rfl)) pa_nil)))))
  (pss_cons (ps_for PassesOwn.never rfl (iListK (K := K) rfl (pe_lst (pa_cons pe_int (pa_cons pe_int pa_nil)))) (pg_name (i := 4) sc_law.nd rfl (Or.inl rfl))
   (pss_one (ps_if (pt_not (pt_val (pe_call G_l_right (hr.mono (by decide)) (by rfl) T.g_l_right T.F_l_right.kp T.b_l_right .nil pass0 (pa_cons (pe_ix (ix_listK (K := K) rfl) (pv 2) (pv 4) (fun _ _ => rfl)) (pa_cons (pe_ix (ix_listK (K := K) rfl) (pv 3) (pv 4) (fun _ _ => rfl)) (pa_cons (pe_listRg rfl (by rfl) T.z_list (prg_1 (by rfl) T.z_range (pe_callB (lenK (K := K) rfl) (by rfl) T.z_len (by decide +kernel) (pa_cons (pe_ix (ix_tupK (K := K) rfl) (pe_ix (ix_listK (K := K) rfl) (pv 2) (pv 4) (fun _ _ => rfl)) pe_int (fun _ _ => rfl)) pa_nil)))) pa_nil)))))) (pss_one (ps_ret pe_bl)) pss_nil)))
  (pss_cons (ps_for PassesOwn.never rfl (pi_range1 rfl T.z_range (pa_cons pe_int pa_nil)) (pg_name (i := 5) sc_law.nd rfl (Or.inl rfl))
   (pss_cons (ps_set (i := 4) sc_law.nd rfl (Or.inl rfl) (pe_op op_modN (pv 5) pe_int))
  (pss_one (ps_if (pt_not (pt_val (pe_call G_l_right (hr.mono (by decide)) (by rfl) T.g_l_right T.F_l_right.kp T.b_l_right .nil pass0 (pa_cons (pe_ix (ix_listK (K := K) rfl) (pv 2) (pv 4) (fun _ _ => rfl)) (pa_cons (pe_ix (ix_listK (K := K) rfl) (pv 3) (pv 4) (fun _ _ => rfl)) (pa_cons (pe_call G_l_some (hr.mono (by decide)) (by rfl) T.g_l_some T.F_l_some.kp T.b_l_some .nil pass0 (pa_cons (pv 1) (pa_cons (pe_ix (ix_tupK (K := K) rfl) (pe_ix (ix_listK (K := K) rfl) (pv 2) (pv 4) (fun _ _ => rfl)) pe_int (fun _ _ => rfl)) pa_nil))) pa_nil)))))) (pss_one (ps_ret pe_bl)) pss_nil))))
  (pss_one (ps_ret (pe_cmpR op_isN (pe_call G_ring (hr.mono (by decide)) (by rfl) T.g_ring T.F_ring.kp T.b_ring .nil pass0 (pa_cons (pe_ix (ix_listK (K := K) rfl) (pv 3) pe_int (fun _ _ => rfl)) (pa_cons (pe_lst pa_nil) pa_nil))) pe_non (nomark _))))))))), ?_⟩
    refine un_seq (un_asg ⟨_, rfl, a, ns, rfl, ha, hn, fun s c H1 e1 hs hc st => ?_⟩)
    dsimp only
    refine un_seq (un_asg ⟨_, rfl, s, c, _, 1, rfl, beside_wd st, by decide, by decide, fun t0 p0 l0 ps0 ts0 rs0 B2 H2 eB2 W2 ht0 hp0 hl0 hts0 pl0 rd0 => ⟨_, rfl, s, c, B2, 2, rfl, W2, by decide, by decide, fun t1 p1 l1 ps1 ts1 rs1 B3 H3 eB3 W3 ht1 hp1 hl1 hts1 pl1 rd1 => ⟨by show 2 ≤ sizeLine; decide, fun L hL => ?_⟩⟩⟩)
    have W4 := (W3.ext (Ex.new (o := .lst [.ref t0, .ref t1]) hL)).know (o := .lst [.ref t0, .ref t1]) upd_same (W3.st.ne_s hL) (W3.st.ne_c hL)
    have e34 : Ex B3 (upd B3 L (.lst [.ref t0, .ref t1])) := ex_know (W3.none_of hL)
    have kL : (upd B3 L (.lst [.ref t0, .ref t1])) L = some (.lst [.ref t0, .ref t1]) := upd_same
    generalize upd B3 L (.lst [.ref t0, .ref t1]) = B4 at W4 e34 kL
    generalize upd H3 L (.lst [.ref t0, .ref t1]) = H4 at W4 ⊢
    have e24 := eB3.trans e34
    have ht0 := e24 _ _ ht0
    have hp0 := e24 _ _ hp0
    have hl0 := e24 _ _ hl0
    have hts0 := hts0.mono e24
    have ht1 := e34 _ _ ht1
    have hp1 := e34 _ _ hp1
    have hl1 := e34 _ _ hl1
    have hts1 := hts1.mono e34
    clear e24 e34 eB2 eB3 W2 W3 hL
    dsimp only
    refine un_seq (un_asg ?_)
    refine ⟨_, rfl, L, rfl, ⟨_, SqL.of (W4.ex _ _ kL)⟩, fun D hD => lc_it (walk_list (xs := [V.ref t0, .ref t1])) (fun i H' => ∃ G, Ex B4 G ∧ Wd s c G H' ∧ G D = none ∧ (i = 0 → H' D = some (.lst [])) ∧ (i = 1 → ∃ n0 qs0, H' D = some (.lst [.ref n0]) ∧ NetAt T.c_Net G n0 ps0 qs0 rs0) ∧ (i = 2 → ∃ n0 n1 qs0 qs1, H' D = some (.lst [.ref n0, .ref n1]) ∧ NetAt T.c_Net G n0 ps0 qs0 rs0 ∧ NetAt T.c_Net G n1 ps1 qs1 rs1))
      ⟨B4, Ex.refl _, W4.ext (Ex.new hD), W4.none_of hD, fun _ => upd_same, fun z => by omega, fun z => by omega⟩ (fun i H' _ ⟨G, e, W, _⟩ => SqL.of (W.ex _ _ (e _ _ kL))) ?_ ?_⟩
    · rintro i x Ha Ha' hi ⟨G, eG, Wa, gD, i0, i1, i2⟩ ⟨rfl, hx⟩
      have hi : i < 2 := hi
      have Ds := W4.st.ne_s hD
      have Dc := W4.st.ne_c hD
      rcases (show i = 0 ∨ i = 1 by omega) with rfl | rfl
      · obtain rfl : V.ref t0 = x := Option.some.inj hx
        have hDa := i0 rfl
        refine ⟨rfl, un_yes (iteT (mk_net (P := P) (w := w) (base := base) T Wa (eG _ _ ht0) (eG _ _ hp0) (eG _ _ hl0) (hts0.mono eG) pl0 rd0 rfl fun G2 n qs H6 eG2 W6 net fr e6 => ?_))⟩
        have gD2 := fr D gD (by rw [hDa]; intro z; cases z)
        exact ⟨[], e6 _ _ hDa, by decide, G2, eG.trans eG2, W6.mut gD2 Ds Dc, gD2, fun z => by omega, fun _ => ⟨n, qs, upd_same, net⟩, fun z => by omega⟩
      · obtain rfl : V.ref t1 = x := Option.some.inj hx
        obtain ⟨n0, qs0, hDa, net0⟩ := i1 rfl
        refine ⟨rfl, un_yes (iteT (mk_net (P := P) (w := w) (base := base) T Wa (eG _ _ ht1) (eG _ _ hp1) (eG _ _ hl1) (hts1.mono eG) pl1 rd1 rfl fun G2 n qs H6 eG2 W6 net fr e6 => ?_))⟩
        have gD2 := fr D gD (by rw [hDa]; intro z; cases z)
        exact ⟨[.ref n0], e6 _ _ hDa, by show 1 < sizeLine; decide, G2, eG.trans eG2, W6.mut gD2 Ds Dc, gD2, fun z => by omega, fun z => by omega, fun _ => ⟨n0, n, qs0, qs, upd_same, NetAt.mono eG2 net0, net⟩⟩
    · rintro H5 ⟨G0, eG0, W5, gD, _, _, i2⟩
      obtain ⟨n0, n1, qs0, qs1, hD5, net0, net1⟩ := i2 rfl
      have Ds := W4.st.ne_s hD
      have Dc := W4.st.ne_c hD
      have W6 := W5.know hD5 Ds Dc
      have eK : Ex G0 (upd G0 D (.lst [.ref n0, .ref n1])) := ex_know gD
      have kD : (upd G0 D (.lst [.ref n0, .ref n1])) D = some (.lst [.ref n0, .ref n1]) := upd_same
      have net0 := NetAt.mono eK net0
      have net1 := NetAt.mono eK net1
      generalize upd G0 D (.lst [.ref n0, .ref n1]) = G at W6 eK kD net0 net1
      have eG := eG0.trans eK
      have kL := eG _ _ kL
      have town : ∀ z : Int, z = 0 ∨ z = 1 → ∃ (t p l n : Addr) (ts : List V) (ps qs : List Int) (rs : List Row), atI [V.ref t0, .ref t1] z = some (.ref t) ∧ atI [V.ref n0, .ref n1] z = some (.ref n) ∧ G t = some (.tup [.ref p, .ref l]) ∧ G l = some (.lst ts) ∧ RowsAt G ts rs ∧ NetAt T.c_Net G n ps qs rs ∧ Places ps ∧ Roads ps rs := fun z hz => by
        rcases hz with rfl | rfl
        · exact ⟨t0, p0, l0, n0, ts0, ps0, qs0, rs0, rfl, rfl, eG _ _ ht0, eG _ _ hl0, hts0.mono eG, net0, pl0, rd0⟩
        · exact ⟨t1, p1, l1, n1, ts1, ps1, qs1, rs1, rfl, rfl, eG _ _ ht1, eG _ _ hl1, hts1.mono eG, net1, pl1, rd1⟩
      clear W5 W4 eG0 eK i2 hD5 gD hD
      dsimp only
      refine un_seq (?_ : tFor _ _ _ _ _ _)
      refine ⟨by show 2 ≤ sizeLine; decide, fun X hX => ⟨X, rfl, ⟨_, SqL.of upd_same⟩, ?_⟩⟩
      have eX := Ex.new (o := .lst [.int 0, .int 1]) hX
      have W7 := W6.ext eX
      have hX7 : (upd H5 X (.lst [.int 0, .int 1])) X = some (.lst [.int 0, .int 1]) := upd_same
      generalize upd H5 X (.lst [.int 0, .int 1]) = H7 at W7 hX7 ⊢
      refine for_it (walk_list (xs := [V.int 0, .int 1])) (fun i σ H' => ∃ y4 y5 y6, σ = [some (.ref a), some (.ref s), some (.ref L), some (.ref D), y4, y5, y6] ∧ Ex H7 H') ⟨_, _, _, rfl, Ex.refl _⟩ (fun i σ H' _ ⟨_, _, _, _, e⟩ => SqL.of (e _ _ hX7)) ?_ ?_
      · rintro i x σ Ha Ha' hi ⟨y4, y5, y6, rfl, ea⟩ ⟨rfl, hx⟩
        have hi : i < 2 := hi
        obtain ⟨z, hz, rfl⟩ : ∃ z : Int, (z = 0 ∨ z = 1) ∧ x = .int z := by
          rcases (show i = 0 ∨ i = 1 by omega) with rfl | rfl
          · exact ⟨0, .inl rfl, (Option.some.inj hx).symm⟩
          · exact ⟨1, .inr rfl, (Option.some.inj hx).symm⟩
        obtain ⟨t, p, l, n, ts, ps, qs, rs, at1, an1, ht, hl, hts, net, pl, rd⟩ := town z hz
        have Wa := W7.ext ea
        have a1 : atI [V.ref p, .ref l] 1 = some (.ref l) := rfl
        refine s_if (b := false) (et_is (et_not (et_B (b := true) fun H8 e8 Q' q' => ?_)) rfl) (fun z => by cases z) (fun _ H8 e8 => un_next ⟨_, _, _, rfl, ea.trans e8⟩)
        have gx := Wa.ex.trans e8
        have lts := hts.len
        refine ⟨_, rfl, _, rfl, L, _, z, _, rfl, rfl, SqL.of (gx _ _ kL), at1, _, rfl, _, rfl, D, _, z, _, rfl, rfl, SqL.of (gx _ _ kD), an1, _, rfl, _, rfl, L, _, z, _, rfl, rfl, SqL.of (gx _ _ kL), at1, t, _, 1, _, rfl, rfl, SqT.of (gx _ _ ht), a1, l, ts, rfl, .inl (SqL.of (gx _ _ hl)), _, rfl, RgOk.of_le (by have := rd.len; omega) (by have := rd.len; omega) (by have := rd.len; omega) (by have := rd.len; omega), fun S hS => ?_⟩
        rw [lts, rgV_nat]
        have eS := Ex.new (o := .lst (natV (List.range rs.length))) hS
        have gs := gx.trans eS
        refine ⟨t, p, l, n, S, G, ts, ps, qs, rs, (List.range rs.length).map fun (k : Nat) => (k : Int), rfl, gs _ _ ht, gs _ _ hl, hts.mono gs, gs, net, pl, rd, by rw [upd_same, natV_int], by rw [List.length_map, List.length_range]; exact rd.len, List.pairwise_map.mpr (List.nodup_range.imp fun h e => h (by omega)), fun k hk => ?_, fun H9 e9 => q' H9 (eS.trans e9)⟩
        obtain ⟨j, hj, rfl⟩ := List.mem_map.mp hk
        have := List.mem_range.mp hj
        omega
      · rintro σ H8 ⟨y4, y5, y6, rfl, e78⟩
        have W8 := W7.ext e78
        dsimp only
        refine un_seq (?_ : tFor _ _ _ _ _ _)
        refine ⟨12, rfl, by decide, by decide, for_it (walk_range (lo := 0) (n := 12)) (fun i σ H' => ∃ y4 y5 y6, σ = [some (.ref a), some (.ref s), some (.ref L), some (.ref D), y4, y5, y6] ∧ Wd s c G H') ⟨_, _, _, rfl, W8⟩ (fun _ _ _ _ _ => True.intro) ?_ ?_⟩
        · rintro i x σ Ha Ha' hi ⟨y4, y5, y6, rfl, Wa⟩ ⟨rfl, hx⟩
          obtain rfl : x = V.int (0 + (i : Int)) := hx
          show tSeq _ _ _ _ _
          refine un_seq (un_asg ⟨_, rfl, _, _, rfl, rfl, by show (2 : Int) ≠ 0; decide, ?_⟩)
          have hz : (0 + (i : Int)).fmod 2 = 0 ∨ (0 + (i : Int)).fmod 2 = 1 := by
            rw [Int.fmod_eq_emod_of_nonneg _ (by decide)]
            omega
          obtain ⟨t, p, l, n, ts, ps, qs, rs, at1, an1, ht, hl, hts, net, pl, rd⟩ := town _ hz
          have a1 : atI [V.ref p, .ref l] 1 = some (.ref l) := rfl
          dsimp only
          refine fork_if (G := fun b H' => b = false ∧ Wd s c G H') (fun R' kk => ?_) (fun H' g => by cases g.1) (fun H' g => un_next ⟨_, _, _, rfl, g.2⟩)
          refine ⟨_, rfl, _, rfl, L, _, (0 + (i : Int)).fmod 2, _, rfl, rfl, SqL.of (Wa.ex _ _ kL), at1, _, rfl, _, rfl, D, _, (0 + (i : Int)).fmod 2, _, rfl, rfl, SqL.of (Wa.ex _ _ kD), an1, _, rfl, _, rfl, _, rfl, L, _, (0 + (i : Int)).fmod 2, _, rfl, rfl, SqL.of (Wa.ex _ _ kL), at1, t, _, 1, _, rfl, rfl, SqT.of (Wa.ex _ _ ht), a1, s, c, l, G, ts, rs, rfl, Wa, hl, hts, rd.len, fun S ks H9 W9 hS0 Ss Sc hS nd kb => ?_⟩
          have kl : ks.length ≤ 12 := by
            have h1 := len_sub (ks.map fun (k : Nat) => (k : Int)) ((List.range rs.length).map fun (k : Nat) => (k : Int)) (List.pairwise_map.mpr (nd.imp fun h e => h (by omega))) (fun y hy => by
              obtain ⟨k, hk, rfl⟩ := List.mem_map.mp hy
              exact List.mem_map.mpr ⟨k, List.mem_range.mpr (kb k hk), rfl⟩)
            rw [List.length_map, List.length_map, List.length_range] at h1
            have := rd.len
            omega
          refine ⟨t, p, l, n, S, G, ts, ps, qs, rs, ks.map fun (k : Nat) => (k : Int), rfl, W9.ex _ _ ht, W9.ex _ _ hl, hts.mono W9.ex, W9.ex, net, pl, rd, by rw [hS, natV_int], by rw [List.length_map]; exact kl, List.pairwise_map.mpr (nd.imp fun h e => h (by omega)), fun k hk => ?_, fun H10 e10 => ⟨true, rfl, kk _ _ ⟨rfl, W9.ext e10⟩⟩⟩
          obtain ⟨j, hj, rfl⟩ := List.mem_map.mp hk
          have := kb j hj
          omega
        · rintro σ H9 ⟨y4, y5, y6, rfl, W9⟩
          dsimp only
          refine un_ret (go_V (v := .bl true) (ev_isN0 (K := K) fun H10 e10 Q' q' => ?_) fun H10 e10 => q H10)
          have gx := W9.ex.trans e10
          refine ⟨_, rfl, D, _, 0, _, rfl, rfl, SqL.of (gx _ _ kD), rfl, Nat.zero_le _, fun S hS => ?_⟩
          have eS := Ex.new (o := .lst []) hS
          exact ⟨n0, S, G, ps0, qs0, rs0, [], rfl, gx.trans eS, net0, rd0.len, fun r hr => (rd0.ok r hr).ne, upd_same, Nat.zero_le _, .nil, (fun k hk => by cases hk), fun _ H11 e11 => q' H11 (eS.trans e11), fun z => by cases z⟩
end
end K37

set_option maxHeartbeats 8000000
namespace K37
open PySem PySem.Spec PyProof.Rows L2 Evl MyG
/-! ### what the top has written -/
theorem all_mk {l : PySem.W.OpenLaw} {w : World} {K : PySem.W.Frag} {h : Heap} {mg : Str → Option Value} {fa : Addr} (X : K.In h) (G : h.Ns mainGlobals mg) (hfa : mg "law" = some (.ref fa))
    {C_Net : Addr}
    {f_l_begun : Addr} {od_l_begun an_l_begun : Option Addr} {sl_l_begun : Array (Option Value)} {oc_l_begun kV_l_begun dc_l_begun pm_l_begun cd_l_begun ct_l_begun : Value}
    {f_l_draw : Addr} {od_l_draw an_l_draw : Option Addr} {sl_l_draw : Array (Option Value)} {oc_l_draw kV_l_draw dc_l_draw pm_l_draw cd_l_draw ct_l_draw : Value}
    {f_l_pick : Addr} {od_l_pick an_l_pick : Option Addr} {sl_l_pick : Array (Option Value)} {oc_l_pick kV_l_pick dc_l_pick pm_l_pick cd_l_pick ct_l_pick : Value}
    {f_l_town : Addr} {od_l_town an_l_town : Option Addr} {sl_l_town : Array (Option Value)} {oc_l_town kV_l_town dc_l_town pm_l_town cd_l_town ct_l_town : Value}
    {f_l_parts : Addr} {od_l_parts an_l_parts : Option Addr} {sl_l_parts : Array (Option Value)} {oc_l_parts kV_l_parts dc_l_parts pm_l_parts cd_l_parts ct_l_parts : Value}
    {f_l_ways : Addr} {od_l_ways an_l_ways : Option Addr} {sl_l_ways : Array (Option Value)} {oc_l_ways kV_l_ways dc_l_ways pm_l_ways cd_l_ways ct_l_ways : Value}
    {f_l_ring : Addr} {od_l_ring an_l_ring : Option Addr} {sl_l_ring : Array (Option Value)} {oc_l_ring kV_l_ring dc_l_ring pm_l_ring cd_l_ring ct_l_ring : Value}
    {f_l_some : Addr} {od_l_some an_l_some : Option Addr} {sl_l_some : Array (Option Value)} {oc_l_some kV_l_some dc_l_some pm_l_some cd_l_some ct_l_some : Value}
    {f_l_right : Addr} {od_l_right an_l_right : Option Addr} {sl_l_right : Array (Option Value)} {oc_l_right kV_l_right dc_l_right pm_l_right cd_l_right ct_l_right : Value}
    {f_is_number : Addr} {od_is_number an_is_number : Option Addr} {sl_is_number : Array (Option Value)} {oc_is_number kV_is_number dc_is_number pm_is_number cd_is_number ct_is_number : Value}
    {f__are_halls : Addr} {od__are_halls an__are_halls : Option Addr} {sl__are_halls : Array (Option Value)} {oc__are_halls kV__are_halls dc__are_halls pm__are_halls cd__are_halls ct__are_halls : Value}
    {f__is_link : Addr} {od__is_link an__is_link : Option Addr} {sl__is_link : Array (Option Value)} {oc__is_link kV__is_link dc__is_link pm__is_link cd__is_link ct__is_link : Value}
    {f__are_links : Addr} {od__are_links an__are_links : Option Addr} {sl__are_links : Array (Option Value)} {oc__are_links kV__are_links dc__are_links pm__are_links cd__are_links ct__are_links : Value}
    {f_Net___init__ : Addr} {od_Net___init__ an_Net___init__ : Option Addr} {sl_Net___init__ : Array (Option Value)} {oc_Net___init__ kV_Net___init__ dc_Net___init__ pm_Net___init__ cd_Net___init__ ct_Net___init__ : Value}
    {f_Net_ends : Addr} {od_Net_ends an_Net_ends : Option Addr} {sl_Net_ends : Array (Option Value)} {oc_Net_ends kV_Net_ends dc_Net_ends pm_Net_ends cd_Net_ends ct_Net_ends : Value}
    {f_Net__link : Addr} {od_Net__link an_Net__link : Option Addr} {sl_Net__link : Array (Option Value)} {oc_Net__link kV_Net__link dc_Net__link pm_Net__link cd_Net__link ct_Net__link : Value}
    {f_ring : Addr} {od_ring an_ring : Option Addr} {sl_ring : Array (Option Value)} {oc_ring kV_ring dc_ring pm_ring cd_ring ct_ring : Value}
    {f__closes : Addr} {od__closes an__closes : Option Addr} {sl__closes : Array (Option Value)} {oc__closes kV__closes dc__closes pm__closes cd__closes ct__closes : Value}
    {f__at : Addr} {od__at an__at : Option Addr} {sl__at : Array (Option Value)} {oc__at kV__at dc__at pm__at cd__at ct__at : Value}
    {f_law : Addr} {od_law an_law : Option Addr} {sl_law : Array (Option Value)} {oc_law kV_law dc_law pm_law cd_law ct_law : Value}
    {t_MOST_HALLS : Tok}
    {t_MOST_LINKS : Tok}
    {t_LAST_HALL : Tok}
    {t_MOST_COST : Tok}
    (aC_Net : PySem.W.nsIn K mainGlobals "Net" = some (some (.ref C_Net)))
    (pg_Net : PySem.W.plainGet K C_Net Str.empty = true)
    (hd_Net : PySem.W.hasDictIn K C_Net = true)
    (po_Net : PySem.W.plainOver K C_Net = true)
    (sa_Net : PySem.W.findIn K (.ref C_Net) "__setattr__" = some (some (.builtin "object.__setattr__")))
    (mk_Net : PySem.W.makesIn K C_Net = true)
    (kc_Net : PySem.W.keepIn K (.ref C_Net) = true)
    (a_l_begun : PySem.W.nsIn K mainGlobals "_law_begun" = some (some (.ref f_l_begun)))
    (l_l_begun : K.lookup f_l_begun = some ⟨oc_l_begun, od_l_begun, .func (PySem.W.fnOf "_law_begun" "_law_begun" (defArgs s_l_begun) (defBody s_l_begun) (defScope s_l_begun) .none kV_l_begun dc_l_begun pm_l_begun an_l_begun cd_l_begun ct_l_begun), sl_l_begun⟩)
    (c_l_begun : PySem.W.codeIn K cd_l_begun "_law_begun" = true)
    (k_l_begun : PySem.W.keepIn K (.ref f_l_begun) = true)
    (a_l_draw : PySem.W.nsIn K mainGlobals "_law_draw" = some (some (.ref f_l_draw)))
    (l_l_draw : K.lookup f_l_draw = some ⟨oc_l_draw, od_l_draw, .func (PySem.W.fnOf "_law_draw" "_law_draw" (defArgs s_l_draw) (defBody s_l_draw) (defScope s_l_draw) .none kV_l_draw dc_l_draw pm_l_draw an_l_draw cd_l_draw ct_l_draw), sl_l_draw⟩)
    (c_l_draw : PySem.W.codeIn K cd_l_draw "_law_draw" = true)
    (k_l_draw : PySem.W.keepIn K (.ref f_l_draw) = true)
    (a_l_pick : PySem.W.nsIn K mainGlobals "_law_pick" = some (some (.ref f_l_pick)))
    (l_l_pick : K.lookup f_l_pick = some ⟨oc_l_pick, od_l_pick, .func (PySem.W.fnOf "_law_pick" "_law_pick" (defArgs s_l_pick) (defBody s_l_pick) (defScope s_l_pick) .none kV_l_pick dc_l_pick pm_l_pick an_l_pick cd_l_pick ct_l_pick), sl_l_pick⟩)
    (c_l_pick : PySem.W.codeIn K cd_l_pick "_law_pick" = true)
    (k_l_pick : PySem.W.keepIn K (.ref f_l_pick) = true)
    (a_l_town : PySem.W.nsIn K mainGlobals "_law_town" = some (some (.ref f_l_town)))
    (l_l_town : K.lookup f_l_town = some ⟨oc_l_town, od_l_town, .func (PySem.W.fnOf "_law_town" "_law_town" (defArgs s_l_town) (defBody s_l_town) (defScope s_l_town) .none kV_l_town dc_l_town pm_l_town an_l_town cd_l_town ct_l_town), sl_l_town⟩)
    (c_l_town : PySem.W.codeIn K cd_l_town "_law_town" = true)
    (k_l_town : PySem.W.keepIn K (.ref f_l_town) = true)
    (a_l_parts : PySem.W.nsIn K mainGlobals "_law_parts" = some (some (.ref f_l_parts)))
    (l_l_parts : K.lookup f_l_parts = some ⟨oc_l_parts, od_l_parts, .func (PySem.W.fnOf "_law_parts" "_law_parts" (defArgs s_l_parts) (defBody s_l_parts) (defScope s_l_parts) .none kV_l_parts dc_l_parts pm_l_parts an_l_parts cd_l_parts ct_l_parts), sl_l_parts⟩)
    (c_l_parts : PySem.W.codeIn K cd_l_parts "_law_parts" = true)
    (k_l_parts : PySem.W.keepIn K (.ref f_l_parts) = true)
    (a_l_ways : PySem.W.nsIn K mainGlobals "_law_ways" = some (some (.ref f_l_ways)))
    (l_l_ways : K.lookup f_l_ways = some ⟨oc_l_ways, od_l_ways, .func (PySem.W.fnOf "_law_ways" "_law_ways" (defArgs s_l_ways) (defBody s_l_ways) (defScope s_l_ways) .none kV_l_ways dc_l_ways pm_l_ways an_l_ways cd_l_ways ct_l_ways), sl_l_ways⟩)
    (c_l_ways : PySem.W.codeIn K cd_l_ways "_law_ways" = true)
    (k_l_ways : PySem.W.keepIn K (.ref f_l_ways) = true)
    (a_l_ring : PySem.W.nsIn K mainGlobals "_law_ring" = some (some (.ref f_l_ring)))
    (l_l_ring : K.lookup f_l_ring = some ⟨oc_l_ring, od_l_ring, .func (PySem.W.fnOf "_law_ring" "_law_ring" (defArgs s_l_ring) (defBody s_l_ring) (defScope s_l_ring) .none kV_l_ring dc_l_ring pm_l_ring an_l_ring cd_l_ring ct_l_ring), sl_l_ring⟩)
    (c_l_ring : PySem.W.codeIn K cd_l_ring "_law_ring" = true)
    (k_l_ring : PySem.W.keepIn K (.ref f_l_ring) = true)
    (a_l_some : PySem.W.nsIn K mainGlobals "_law_some" = some (some (.ref f_l_some)))
    (l_l_some : K.lookup f_l_some = some ⟨oc_l_some, od_l_some, .func (PySem.W.fnOf "_law_some" "_law_some" (defArgs s_l_some) (defBody s_l_some) (defScope s_l_some) .none kV_l_some dc_l_some pm_l_some an_l_some cd_l_some ct_l_some), sl_l_some⟩)
    (c_l_some : PySem.W.codeIn K cd_l_some "_law_some" = true)
    (k_l_some : PySem.W.keepIn K (.ref f_l_some) = true)
    (a_l_right : PySem.W.nsIn K mainGlobals "_law_right" = some (some (.ref f_l_right)))
    (l_l_right : K.lookup f_l_right = some ⟨oc_l_right, od_l_right, .func (PySem.W.fnOf "_law_right" "_law_right" (defArgs s_l_right) (defBody s_l_right) (defScope s_l_right) .none kV_l_right dc_l_right pm_l_right an_l_right cd_l_right ct_l_right), sl_l_right⟩)
    (c_l_right : PySem.W.codeIn K cd_l_right "_law_right" = true)
    (k_l_right : PySem.W.keepIn K (.ref f_l_right) = true)
    (a_is_number : PySem.W.nsIn K mainGlobals "is_number" = some (some (.ref f_is_number)))
    (l_is_number : K.lookup f_is_number = some ⟨oc_is_number, od_is_number, .func (PySem.W.fnOf "is_number" "is_number" (defArgs s_is_number) (defBody s_is_number) (defScope s_is_number) .none kV_is_number dc_is_number pm_is_number an_is_number cd_is_number ct_is_number), sl_is_number⟩)
    (c_is_number : PySem.W.codeIn K cd_is_number "is_number" = true)
    (k_is_number : PySem.W.keepIn K (.ref f_is_number) = true)
    (a__are_halls : PySem.W.nsIn K mainGlobals "_are_halls" = some (some (.ref f__are_halls)))
    (l__are_halls : K.lookup f__are_halls = some ⟨oc__are_halls, od__are_halls, .func (PySem.W.fnOf "_are_halls" "_are_halls" (defArgs s__are_halls) (defBody s__are_halls) (defScope s__are_halls) .none kV__are_halls dc__are_halls pm__are_halls an__are_halls cd__are_halls ct__are_halls), sl__are_halls⟩)
    (c__are_halls : PySem.W.codeIn K cd__are_halls "_are_halls" = true)
    (k__are_halls : PySem.W.keepIn K (.ref f__are_halls) = true)
    (a__is_link : PySem.W.nsIn K mainGlobals "_is_link" = some (some (.ref f__is_link)))
    (l__is_link : K.lookup f__is_link = some ⟨oc__is_link, od__is_link, .func (PySem.W.fnOf "_is_link" "_is_link" (defArgs s__is_link) (defBody s__is_link) (defScope s__is_link) .none kV__is_link dc__is_link pm__is_link an__is_link cd__is_link ct__is_link), sl__is_link⟩)
    (c__is_link : PySem.W.codeIn K cd__is_link "_is_link" = true)
    (k__is_link : PySem.W.keepIn K (.ref f__is_link) = true)
    (a__are_links : PySem.W.nsIn K mainGlobals "_are_links" = some (some (.ref f__are_links)))
    (l__are_links : K.lookup f__are_links = some ⟨oc__are_links, od__are_links, .func (PySem.W.fnOf "_are_links" "_are_links" (defArgs s__are_links) (defBody s__are_links) (defScope s__are_links) .none kV__are_links dc__are_links pm__are_links an__are_links cd__are_links ct__are_links), sl__are_links⟩)
    (c__are_links : PySem.W.codeIn K cd__are_links "_are_links" = true)
    (k__are_links : PySem.W.keepIn K (.ref f__are_links) = true)
    (a_Net___init__ : PySem.W.findIn K (.ref C_Net) "__init__" = some (some (.ref f_Net___init__)))
    (i_Net___init__ : PySem.W.isFn K (.ref f_Net___init__) = true)
    (l_Net___init__ : K.lookup f_Net___init__ = some ⟨oc_Net___init__, od_Net___init__, .func (PySem.W.fnOf "__init__" "Net.__init__" (defArgs s_Net___init__) (defBody s_Net___init__) (defScope s_Net___init__) .none kV_Net___init__ dc_Net___init__ pm_Net___init__ an_Net___init__ cd_Net___init__ ct_Net___init__), sl_Net___init__⟩)
    (c_Net___init__ : PySem.W.codeIn K cd_Net___init__ "Net.__init__" = true)
    (k_Net___init__ : PySem.W.keepIn K (.ref f_Net___init__) = true)
    (a_Net_ends : PySem.W.findIn K (.ref C_Net) "ends" = some (some (.ref f_Net_ends)))
    (i_Net_ends : PySem.W.isFn K (.ref f_Net_ends) = true)
    (l_Net_ends : K.lookup f_Net_ends = some ⟨oc_Net_ends, od_Net_ends, .func (PySem.W.fnOf "ends" "Net.ends" (defArgs s_Net_ends) (defBody s_Net_ends) (defScope s_Net_ends) .none kV_Net_ends dc_Net_ends pm_Net_ends an_Net_ends cd_Net_ends ct_Net_ends), sl_Net_ends⟩)
    (c_Net_ends : PySem.W.codeIn K cd_Net_ends "Net.ends" = true)
    (k_Net_ends : PySem.W.keepIn K (.ref f_Net_ends) = true)
    (a_Net__link : PySem.W.findIn K (.ref C_Net) "_link" = some (some (.ref f_Net__link)))
    (i_Net__link : PySem.W.isFn K (.ref f_Net__link) = true)
    (l_Net__link : K.lookup f_Net__link = some ⟨oc_Net__link, od_Net__link, .func (PySem.W.fnOf "_link" "Net._link" (defArgs s_Net__link) (defBody s_Net__link) (defScope s_Net__link) .none kV_Net__link dc_Net__link pm_Net__link an_Net__link cd_Net__link ct_Net__link), sl_Net__link⟩)
    (c_Net__link : PySem.W.codeIn K cd_Net__link "Net._link" = true)
    (k_Net__link : PySem.W.keepIn K (.ref f_Net__link) = true)
    (a_ring : PySem.W.nsIn K mainGlobals "ring" = some (some (.ref f_ring)))
    (l_ring : K.lookup f_ring = some ⟨oc_ring, od_ring, .func (PySem.W.fnOf "ring" "ring" (defArgs s_ring) (defBody s_ring) (defScope s_ring) .none kV_ring dc_ring pm_ring an_ring cd_ring ct_ring), sl_ring⟩)
    (c_ring : PySem.W.codeIn K cd_ring "ring" = true)
    (k_ring : PySem.W.keepIn K (.ref f_ring) = true)
    (a__closes : PySem.W.nsIn K mainGlobals "_closes" = some (some (.ref f__closes)))
    (l__closes : K.lookup f__closes = some ⟨oc__closes, od__closes, .func (PySem.W.fnOf "_closes" "_closes" (defArgs s__closes) (defBody s__closes) (defScope s__closes) .none kV__closes dc__closes pm__closes an__closes cd__closes ct__closes), sl__closes⟩)
    (c__closes : PySem.W.codeIn K cd__closes "_closes" = true)
    (k__closes : PySem.W.keepIn K (.ref f__closes) = true)
    (a__at : PySem.W.nsIn K mainGlobals "_at" = some (some (.ref f__at)))
    (l__at : K.lookup f__at = some ⟨oc__at, od__at, .func (PySem.W.fnOf "_at" "_at" (defArgs s__at) (defBody s__at) (defScope s__at) .none kV__at dc__at pm__at an__at cd__at ct__at), sl__at⟩)
    (c__at : PySem.W.codeIn K cd__at "_at" = true)
    (k__at : PySem.W.keepIn K (.ref f__at) = true)
    (a_law : PySem.W.nsIn K mainGlobals "law" = some (some (.ref f_law)))
    (l_law : K.lookup f_law = some ⟨oc_law, od_law, .func (PySem.W.fnOf "law" "law" (defArgs s_law) (defBody s_law) (defScope s_law) .none kV_law dc_law pm_law an_law cd_law ct_law), sl_law⟩)
    (c_law : PySem.W.codeIn K cd_law "law" = true)
    (k_law : PySem.W.keepIn K (.ref f_law) = true)
    (na_Net__handed : PySem.W.findIn K (.ref C_Net) "_handed" = some none)
    (na_Net__rising : PySem.W.findIn K (.ref C_Net) "_rising" = some none)
    (na_Net__links : PySem.W.findIn K (.ref C_Net) "_links" = some none)
    (z_abs : PySem.W.nsIn K mainGlobals "abs" = some none)
    (z_len : PySem.W.nsIn K mainGlobals "len" = some none)
    (z_range : PySem.W.nsIn K mainGlobals "range" = some none)
    (z_list : PySem.W.nsIn K mainGlobals "list" = some none)
    (z_sorted : PySem.W.nsIn K mainGlobals "sorted" = some none)
    (z_all : PySem.W.nsIn K mainGlobals "all" = some none)
    (z_isinstance : PySem.W.nsIn K mainGlobals "isinstance" = some none)
    (z_set : PySem.W.nsIn K mainGlobals "set" = some none)
    (z_tuple : PySem.W.nsIn K mainGlobals "tuple" = some none)
    (z_int : PySem.W.nsIn K mainGlobals "int" = some none)
    (z_bool : PySem.W.nsIn K mainGlobals "bool" = some none)
    (z_enumerate : PySem.W.nsIn K mainGlobals "enumerate" = some none)
    (z_min : PySem.W.nsIn K mainGlobals "min" = some none)
    (z_dict : PySem.W.nsIn K mainGlobals "dict" = some none)
    (z_sum : PySem.W.nsIn K mainGlobals "sum" = some none)
    (z_str : PySem.W.nsIn K mainGlobals "str" = some none)
    (v_MOST_HALLS : PySem.W.nsIn K mainGlobals "MOST_HALLS" = some (some (.int (8) t_MOST_HALLS)))
    (v_MOST_LINKS : PySem.W.nsIn K mainGlobals "MOST_LINKS" = some (some (.int (12) t_MOST_LINKS)))
    (v_LAST_HALL : PySem.W.nsIn K mainGlobals "LAST_HALL" = some (some (.int (999) t_LAST_HALL)))
    (v_MOST_COST : PySem.W.nsIn K mainGlobals "MOST_COST" = some (some (.int (30) t_MOST_COST)))
    (v_combinations : PySem.W.nsIn K mainGlobals "combinations" = some (some (.type "itertools.combinations"))) :
    ∃ fd : FuncData, (∀ (s : Shared) (v : Value), BindsTo s fd ⟨[v], []⟩ [("_law_script", v)]) ∧ ∀ base : Heap, K.In base → base.Ns mainGlobals mg → FnOkG l.prog w K mg base CX0 16 fa fd ["_law_script"] (sp_law K) := by
  have e := hfa.symm.trans (PySem.W.mg_of X G a_law)
  cases e
  have F_l_begun := fun_mk (st := s_l_begun) l_l_begun c_l_begun k_l_begun
  have b_l_begun := F_l_begun.binds (ps := ["_law_script"]) fun _ _ _ _ _ _ us hl => match us, hl with | [_], _ => rfl
  have F_l_draw := fun_mk (st := s_l_draw) l_l_draw c_l_draw k_l_draw
  have b_l_draw := F_l_draw.binds (ps := ["_law_draws", "_law_many"]) fun _ _ _ _ _ _ us hl => match us, hl with | [_, _], _ => rfl
  have F_l_pick := fun_mk (st := s_l_pick) l_l_pick c_l_pick k_l_pick
  have b_l_pick := F_l_pick.binds (ps := ["_law_draws", "_law_some_here"]) fun _ _ _ _ _ _ us hl => match us, hl with | [_, _], _ => rfl
  have F_l_town := fun_mk (st := s_l_town) l_l_town c_l_town k_l_town
  have b_l_town := F_l_town.binds (ps := ["_law_draws", "_law_least"]) fun _ _ _ _ _ _ us hl => match us, hl with | [_, _], _ => rfl
  have F_l_parts := fun_mk (st := s_l_parts) l_l_parts c_l_parts k_l_parts
  have b_l_parts := F_l_parts.binds (ps := ["_law_chain", "_law_some_here"]) fun _ _ _ _ _ _ us hl => match us, hl with | [_, _], _ => rfl
  have F_l_ways := fun_mk (st := s_l_ways) l_l_ways c_l_ways k_l_ways
  have b_l_ways := F_l_ways.binds (ps := ["_law_chain", "_law_some_here", "_law_here", "_law_goal", "_law_met"]) fun _ _ _ _ _ _ us hl => match us, hl with | [_, _, _, _, _], _ => rfl
  have F_l_ring := fun_mk (st := s_l_ring) l_l_ring c_l_ring k_l_ring
  have b_l_ring := F_l_ring.binds (ps := ["_law_chain", "_law_some_here"]) fun _ _ _ _ _ _ us hl => match us, hl with | [_, _], _ => rfl
  have F_l_some := fun_mk (st := s_l_some) l_l_some c_l_some k_l_some
  have b_l_some := F_l_some.binds (ps := ["_law_draws", "_law_chain"]) fun _ _ _ _ _ _ us hl => match us, hl with | [_, _], _ => rfl
  have F_l_right := fun_mk (st := s_l_right) l_l_right c_l_right k_l_right
  have b_l_right := F_l_right.binds (ps := ["_law_town_here", "_law_house", "_law_some_here"]) fun _ _ _ _ _ _ us hl => match us, hl with | [_, _, _], _ => rfl
  have F_is_number := fun_mk (st := s_is_number) l_is_number c_is_number k_is_number
  have b_is_number := F_is_number.binds (ps := ["thing"]) fun _ _ _ _ _ _ us hl => match us, hl with | [_], _ => rfl
  have F__are_halls := fun_mk (st := s__are_halls) l__are_halls c__are_halls k__are_halls
  have b__are_halls := F__are_halls.binds (ps := ["things"]) fun _ _ _ _ _ _ us hl => match us, hl with | [_], _ => rfl
  have F__is_link := fun_mk (st := s__is_link) l__is_link c__is_link k__is_link
  have b__is_link := F__is_link.binds (ps := ["thing", "halls"]) fun _ _ _ _ _ _ us hl => match us, hl with | [_, _], _ => rfl
  have F__are_links := fun_mk (st := s__are_links) l__are_links c__are_links k__are_links
  have b__are_links := F__are_links.binds (ps := ["things", "halls"]) fun _ _ _ _ _ _ us hl => match us, hl with | [_, _], _ => rfl
  have F_Net___init__ := fun_mk (st := s_Net___init__) l_Net___init__ c_Net___init__ k_Net___init__
  have b_Net___init__ := F_Net___init__.binds (ps := ["self", "halls", "links"]) fun _ _ _ _ _ _ us hl => match us, hl with | [_, _, _], _ => rfl
  have F_Net_ends := fun_mk (st := s_Net_ends) l_Net_ends c_Net_ends k_Net_ends
  have b_Net_ends := F_Net_ends.binds (ps := ["self", "link"]) fun _ _ _ _ _ _ us hl => match us, hl with | [_, _], _ => rfl
  have F_Net__link := fun_mk (st := s_Net__link) l_Net__link c_Net__link k_Net__link
  have b_Net__link := F_Net__link.binds (ps := ["self", "link"]) fun _ _ _ _ _ _ us hl => match us, hl with | [_, _], _ => rfl
  have F_ring := fun_mk (st := s_ring) l_ring c_ring k_ring
  have b_ring := F_ring.binds (ps := ["net", "links"]) fun _ _ _ _ _ _ us hl => match us, hl with | [_, _], _ => rfl
  have F__closes := fun_mk (st := s__closes) l__closes c__closes k__closes
  have b__closes := F__closes.binds (ps := ["net", "links"]) fun _ _ _ _ _ _ us hl => match us, hl with | [_, _], _ => rfl
  have F__at := fun_mk (st := s__at) l__at c__at k__at
  have b__at := F__at.binds (ps := ["net", "links", "hall"]) fun _ _ _ _ _ _ us hl => match us, hl with | [_, _, _], _ => rfl
  have F_law := fun_mk (st := s_law) l_law c_law k_law
  have b_law := F_law.binds (ps := ["_law_script"]) fun _ _ _ _ _ _ us hl => match us, hl with | [_], _ => rfl
  let T : Tx K mg := {
    c_Net := C_Net,
    g_Net := PySem.W.mg_of X G aC_Net,
    cl_Net := ⟨pg_Net, hd_Net, po_Net, sa_Net⟩,
    a_l_begun := f_l_begun,
    d_l_begun := _,
    F_l_begun := F_l_begun,
    b_l_begun := b_l_begun,
    g_l_begun := PySem.W.mg_of X G a_l_begun,
    a_l_draw := f_l_draw,
    d_l_draw := _,
    F_l_draw := F_l_draw,
    b_l_draw := b_l_draw,
    g_l_draw := PySem.W.mg_of X G a_l_draw,
    a_l_pick := f_l_pick,
    d_l_pick := _,
    F_l_pick := F_l_pick,
    b_l_pick := b_l_pick,
    g_l_pick := PySem.W.mg_of X G a_l_pick,
    a_l_town := f_l_town,
    d_l_town := _,
    F_l_town := F_l_town,
    b_l_town := b_l_town,
    g_l_town := PySem.W.mg_of X G a_l_town,
    a_l_parts := f_l_parts,
    d_l_parts := _,
    F_l_parts := F_l_parts,
    b_l_parts := b_l_parts,
    g_l_parts := PySem.W.mg_of X G a_l_parts,
    a_l_ways := f_l_ways,
    d_l_ways := _,
    F_l_ways := F_l_ways,
    b_l_ways := b_l_ways,
    g_l_ways := PySem.W.mg_of X G a_l_ways,
    a_l_ring := f_l_ring,
    d_l_ring := _,
    F_l_ring := F_l_ring,
    b_l_ring := b_l_ring,
    g_l_ring := PySem.W.mg_of X G a_l_ring,
    a_l_some := f_l_some,
    d_l_some := _,
    F_l_some := F_l_some,
    b_l_some := b_l_some,
    g_l_some := PySem.W.mg_of X G a_l_some,
    a_l_right := f_l_right,
    d_l_right := _,
    F_l_right := F_l_right,
    b_l_right := b_l_right,
    g_l_right := PySem.W.mg_of X G a_l_right,
    a_is_number := f_is_number,
    d_is_number := _,
    F_is_number := F_is_number,
    b_is_number := b_is_number,
    g_is_number := PySem.W.mg_of X G a_is_number,
    a__are_halls := f__are_halls,
    d__are_halls := _,
    F__are_halls := F__are_halls,
    b__are_halls := b__are_halls,
    g__are_halls := PySem.W.mg_of X G a__are_halls,
    a__is_link := f__is_link,
    d__is_link := _,
    F__is_link := F__is_link,
    b__is_link := b__is_link,
    g__is_link := PySem.W.mg_of X G a__is_link,
    a__are_links := f__are_links,
    d__are_links := _,
    F__are_links := F__are_links,
    b__are_links := b__are_links,
    g__are_links := PySem.W.mg_of X G a__are_links,
    a_Net___init__ := f_Net___init__,
    d_Net___init__ := _,
    F_Net___init__ := F_Net___init__,
    b_Net___init__ := b_Net___init__,
    m_Net := ⟨mk_Net, a_Net___init__, i_Net___init__, kc_Net⟩,
    a_Net_ends := f_Net_ends,
    d_Net_ends := _,
    F_Net_ends := F_Net_ends,
    b_Net_ends := b_Net_ends,
    me_Net_ends := ⟨a_Net_ends, i_Net_ends, k_Net_ends⟩,
    a_Net__link := f_Net__link,
    d_Net__link := _,
    F_Net__link := F_Net__link,
    b_Net__link := b_Net__link,
    me_Net__link := ⟨a_Net__link, i_Net__link, k_Net__link⟩,
    a_ring := f_ring,
    d_ring := _,
    F_ring := F_ring,
    b_ring := b_ring,
    g_ring := PySem.W.mg_of X G a_ring,
    kb_ring_links_net := kbn_of F_ring (fun kV doc pm an cdv ct us ws l1 l2 => match us, l1, ws, l2 with | [], _, [_, _], _ => rfl) perm_rel_1_0,
    a__closes := f__closes,
    d__closes := _,
    F__closes := F__closes,
    b__closes := b__closes,
    g__closes := PySem.W.mg_of X G a__closes,
    a__at := f__at,
    d__at := _,
    F__at := F__at,
    b__at := b__at,
    g__at := PySem.W.mg_of X G a__at,
    a_law := _,
    d_law := _,
    F_law := F_law,
    b_law := b_law,
    g_law := PySem.W.mg_of X G a_law,
    n_Net__handed := na_Net__handed,
    n_Net__rising := na_Net__rising,
    n_Net__links := na_Net__links,
    z_abs := PySem.W.mg_none_of X G z_abs,
    z_len := PySem.W.mg_none_of X G z_len,
    z_range := PySem.W.mg_none_of X G z_range,
    z_list := PySem.W.mg_none_of X G z_list,
    z_sorted := PySem.W.mg_none_of X G z_sorted,
    z_all := PySem.W.mg_none_of X G z_all,
    z_isinstance := PySem.W.mg_none_of X G z_isinstance,
    z_set := PySem.W.mg_none_of X G z_set,
    z_tuple := PySem.W.mg_none_of X G z_tuple,
    z_int := PySem.W.mg_none_of X G z_int,
    z_bool := PySem.W.mg_none_of X G z_bool,
    z_enumerate := PySem.W.mg_none_of X G z_enumerate,
    z_min := PySem.W.mg_none_of X G z_min,
    z_dict := PySem.W.mg_none_of X G z_dict,
    z_sum := PySem.W.mg_none_of X G z_sum,
    z_str := PySem.W.mg_none_of X G z_str,
    t_MOST_HALLS := t_MOST_HALLS,
    v_MOST_HALLS := PySem.W.mg_of X G v_MOST_HALLS,
    t_MOST_LINKS := t_MOST_LINKS,
    v_MOST_LINKS := PySem.W.mg_of X G v_MOST_LINKS,
    t_LAST_HALL := t_LAST_HALL,
    v_LAST_HALL := PySem.W.mg_of X G v_LAST_HALL,
    t_MOST_COST := t_MOST_COST,
    v_MOST_COST := PySem.W.mg_of X G v_MOST_COST,
    v_combinations := PySem.W.mg_of X G v_combinations }
  exact ⟨_, fun s v => .of_eq rfl, fun base _ _ => ok_law T⟩
end K37
open PySem PySem.W PyProof.Rows
open PySem PySem.W PySem.Calls PyProof.Rows
set_option maxHeartbeats 0 in
theorem PySem.Challenge.cw_ringless_k37_rings_told_holds : PySem.Challenge.rw_ringless_k37_rings_told.Holds := by
  w_on; o_law
  refine holds_open (q := HdTop.q) (loose := HdTop.loose) (Xt := HdTop.Xt) (XP := XL HdTop.q []) (Yf := Hook.obs (kHook HdTop.pre.heap_1 HdTop.ob HdTop.ek)) (Ya := Hook.val (kHook HdTop.pre.heap_1 HdTop.ob HdTop.ek)) (YP := Hook.says (kHook HdTop.pre.heap_1 HdTop.ob HdTop.ek)) (N := 4472) HdTop.left (Hook.of (kHook HdTop.pre.heap_1 HdTop.ob HdTop.ek)) (Hook.keeps (kHook HdTop.pre.heap_1 HdTop.ob HdTop.ek)) (fun s e => xl_of s (Bool.and_eq_true_iff.mp e).1) XL.keeps (by rfl) (by rfl) (by rfl) (fun s e => recFacts_of (Bool.and_eq_true_iff.mp e).2) (by rfl) (by first | assumption | decide +kernel) (by decide +kernel) ⟨rfl, rfl, rfl, rfl, rfl, by decide +kernel⟩ ?hw ?hc
  case hw => w_witness2
  k_fill
  refine MyG.walk_ofG (l := PySem.Challenge.rw_ringless_k37_rings_told) (n := 63) (k := 16) (x := "_law_script") (CX := fun _ => L2.CX0) (sp := fun w => K37.sp_law _) rfl (by decide) rfl ⟨rfl, by decide, by decide⟩ (fun w h Y => PySem.W.kIn_of Y) ?F (fun w H a ns hl _ hS => K37.law_start _ _ _ _ hl hS) (fun _ _ _ _ _ h => h)
  case F =>
    intro w mg fa h KX G hmg
    refine' K37.all_mk KX G hmg ?aC_Net ?pg_Net ?hd_Net ?po_Net ?sa_Net ?mk_Net ?kc_Net ?a_l_begun ?l_l_begun ?c_l_begun ?k_l_begun ?a_l_draw ?l_l_draw ?c_l_draw ?k_l_draw ?a_l_pick ?l_l_pick ?c_l_pick ?k_l_pick ?a_l_town ?l_l_town ?c_l_town ?k_l_town ?a_l_parts ?l_l_parts ?c_l_parts ?k_l_parts ?a_l_ways ?l_l_ways ?c_l_ways ?k_l_ways ?a_l_ring ?l_l_ring ?c_l_ring ?k_l_ring ?a_l_some ?l_l_some ?c_l_some ?k_l_some ?a_l_right ?l_l_right ?c_l_right ?k_l_right ?a_is_number ?l_is_number ?c_is_number ?k_is_number ?a__are_halls ?l__are_halls ?c__are_halls ?k__are_halls ?a__is_link ?l__is_link ?c__is_link ?k__is_link ?a__are_links ?l__are_links ?c__are_links ?k__are_links ?a_Net___init__ ?i_Net___init__ ?l_Net___init__ ?c_Net___init__ ?k_Net___init__ ?a_Net_ends ?i_Net_ends ?l_Net_ends ?c_Net_ends ?k_Net_ends ?a_Net__link ?i_Net__link ?l_Net__link ?c_Net__link ?k_Net__link ?a_ring ?l_ring ?c_ring ?k_ring ?a__closes ?l__closes ?c__closes ?k__closes ?a__at ?l__at ?c__at ?k__at ?a_law ?l_law ?c_law ?k_law ?na_Net__handed ?na_Net__rising ?na_Net__links ?z_abs ?z_len ?z_range ?z_list ?z_sorted ?z_all ?z_isinstance ?z_set ?z_tuple ?z_int ?z_bool ?z_enumerate ?z_min ?z_dict ?z_sum ?z_str ?v_MOST_HALLS ?v_MOST_LINKS ?v_LAST_HALL ?v_MOST_COST ?v_combinations
    (case aC_Net => k_is)
    (case pg_Net => k_is)
    (case hd_Net => k_is)
    (case po_Net => k_is)
    (case sa_Net => k_is)
    (case mk_Net => k_is)
    (case kc_Net => k_is)
    (case a_l_begun => k_is)
    (case l_l_begun => k_is)
    (case c_l_begun => k_is)
    (case k_l_begun => k_is)
    (case a_l_draw => k_is)
    (case l_l_draw => k_is)
    (case c_l_draw => k_is)
    (case k_l_draw => k_is)
    (case a_l_pick => k_is)
    (case l_l_pick => k_is)
    (case c_l_pick => k_is)
    (case k_l_pick => k_is)
    (case a_l_town => k_is)
    (case l_l_town => k_is)
    (case c_l_town => k_is)
    (case k_l_town => k_is)
    (case a_l_parts => k_is)
    (case l_l_parts => k_is)
    (case c_l_parts => k_is)
    (case k_l_parts => k_is)
    (case a_l_ways => k_is)
    (case l_l_ways => k_is)
    (case c_l_ways => k_is)
    (case k_l_ways => k_is)
    (case a_l_ring => k_is)
    (case l_l_ring => k_is)
    (case c_l_ring => k_is)
    (case k_l_ring => k_is)
    (case a_l_some => k_is)
    (case l_l_some => k_is)
    (case c_l_some => k_is)
    (case k_l_some => k_is)
    (case a_l_right => k_is)
    (case l_l_right => k_is)
    (case c_l_right => k_is)
    (case k_l_right => k_is)
    (case a_is_number => k_is)
    (case l_is_number => k_is)
    (case c_is_number => k_is)
    (case k_is_number => k_is)
    (case a__are_halls => k_is)
    (case l__are_halls => k_is)
    (case c__are_halls => k_is)
    (case k__are_halls => k_is)
    (case a__is_link => k_is)
    (case l__is_link => k_is)
    (case c__is_link => k_is)
    (case k__is_link => k_is)
    (case a__are_links => k_is)
    (case l__are_links => k_is)
    (case c__are_links => k_is)
    (case k__are_links => k_is)
    (case a_Net___init__ => k_is)
    (case i_Net___init__ => k_is)
    (case l_Net___init__ => k_is)
    (case c_Net___init__ => k_is)
    (case k_Net___init__ => k_is)
    (case a_Net_ends => k_is)
    (case i_Net_ends => k_is)
    (case l_Net_ends => k_is)
    (case c_Net_ends => k_is)
    (case k_Net_ends => k_is)
    (case a_Net__link => k_is)
    (case i_Net__link => k_is)
    (case l_Net__link => k_is)
    (case c_Net__link => k_is)
    (case k_Net__link => k_is)
    (case a_ring => k_is)
    (case l_ring => k_is)
    (case c_ring => k_is)
    (case k_ring => k_is)
    (case a__closes => k_is)
    (case l__closes => k_is)
    (case c__closes => k_is)
    (case k__closes => k_is)
    (case a__at => k_is)
    (case l__at => k_is)
    (case c__at => k_is)
    (case k__at => k_is)
    (case a_law => k_is)
    (case l_law => k_is)
    (case c_law => k_is)
    (case k_law => k_is)
    (case na_Net__handed => k_is)
    (case na_Net__rising => k_is)
    (case na_Net__links => k_is)
    (case z_abs => k_is)
    (case z_len => k_is)
    (case z_range => k_is)
    (case z_list => k_is)
    (case z_sorted => k_is)
    (case z_all => k_is)
    (case z_isinstance => k_is)
    (case z_set => k_is)
    (case z_tuple => k_is)
    (case z_int => k_is)
    (case z_bool => k_is)
    (case z_enumerate => k_is)
    (case z_min => k_is)
    (case z_dict => k_is)
    (case z_sum => k_is)
    (case z_str => k_is)
    (case v_MOST_HALLS => k_is)
    (case v_MOST_LINKS => k_is)
    (case v_LAST_HALL => k_is)
    (case v_MOST_COST => k_is)
    (case v_combinations => k_is)
