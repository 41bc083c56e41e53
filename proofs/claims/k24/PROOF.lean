import PyProof.Rows.All
import Wide.All
import OpenK.AllK
import Wide.FinOn
import HandS.ForMost
import HandS.Evl
import HandS.MakeKw
import HandS.MakeKwOnly
import HandS.IsInst
import PyProof.ReprRoads
import HandS.Zip
import PyProof.Rows.SetFrom
import PyProof.ReprLen
import HandS.OwnEq
import PyProof.NeKinds
import HandS.Style
import KE.KSortedM
import HandS.Flow
import HandS.TupAny
import HandS.DictComp
import HandS.DictTup
import HandS.Walk
import KE.KDictWalk
import HandS.Defaults
import HandS.Exc
import HandS.ExcIs
import HandS.ExcField
import KE.KExcIs
import HandS.WordsExc
import HandS.SetFor
import HandS.ExcOwn
import HandS.NestedK
import HandS.ExcInit
import KE.KExcSuper
import HandS.HotCalls
import HandS.Words
import HandS.NamedTupSort
import HandS.TupLe
import HandS.Star
import HandS.More
import KE.KDictLaws
import HandS.Small
import KE.KRevSl
import HandS.WordsDict
import HandS.FStr
import KE.RegKSuper
import PySem.Challenge.RW_ringless_k24_refused_steps
set_option Elab.async false
set_option linter.all false
set_option maxRecDepth 100000
set_option maxHeartbeats 2000000
/-! My own additions to the hand layer: defs that know that no repr is under way (so that they may call repr), repr of data, a method called by keywords alone. -/
namespace MyG
open PySem PySem.Spec PyProof.Rows L2

/-- a promise that is kept where no guarded call is under way -/
structure FnOkG (P : Program) (w : World) (K : PySem.W.Frag) (mg : Str → Option Value) (base : Heap) (CX : CXT) (k : Nat) (f : Addr) (fd : FuncData) (ps : List Str) (sp : Sp) : Prop where
  lenG : ∀ vs H Q E, sp vs H Q E → vs.length = ps.length
  runG : ∀ (A : Around) (fr : List Env) (s : Shared) (H : Hp) (as : Args) (us : List Value) (vs : List V) (Q : VK) (E : XK), A.guards = some [] → Room k A → Env0 P w K mg base A fr s H →
    BindsTo s fd as (ps.zip us) → Vals vs us → sp vs H Q E → codeAny (model P w) A (.call (.ref f) as) (CR CX fr P w H s Q E) s

section
variable {P : Program} {w : World} {K : PySem.W.Frag} {mg : Str → Option Value} {base : Heap} {CX : CXT} {k : Nat} {f : Addr} {fd : FuncData} {ps N : List Str} {sp : Sp} {x q : Str} {st : Stmt}
theorem FnOkG.of (F : FnOk P w K mg base CX k f fd ps sp) : FnOkG P w K mg base CX k f fd ps sp :=
  ⟨F.len, fun A fr s H as us vs Q E _ => F.run A fr s H as us vs Q E⟩

/-- a def's body, where no guarded call is under way: for defs from which nothing is raised -/
theorem okG (F : Fun K x q st f fd) (S : FnScope N ps (defScope st)) (hlen : ∀ vs H Q E, sp vs H Q E → vs.length = ps.length)
    (hbody : ∀ (cdv : Value) (A : Around) (fr : List Env) (s : Shared) (H : Hp) (vs : List V) (Q : VK) (E : XK), (A.deeper (envOfC q (defScope st) s.heap.objs.size f cdv)).guards = some [] →
      Room k (A.deeper (envOfC q (defScope st) s.heap.objs.size f cdv)) → sp vs H Q E →
      ∃ t, PSs (cxOf CX0 P w K mg base N q (defScope st) f cdv A fr s H E).nox (defBody st) t ∧ t { nx := fun _ H' => Q .non H', rt := Q } (start N vs) H) :
    FnOkG P w K mg base CX0 (k + 1) f fd ps sp := by
  obtain ⟨oc, od, kV, doc, pm, an, cdv, ct, osl, hfd, hlook, hcode⟩ := F.ex
  subst hfd
  constructor
  · exact hlen
  intro A fr s H as us vs Q E hgd room e0 hbind rel hs
  have kin : K.In s.heap := e0.mod.kin.keeps (fun b o h => (e0.bs b o h).1)
  have nol : s.heap.NoLimit := e0.mod.nolimit.keeps (fun b o h => (e0.bs b o h).1)
  have params : ∀ y ∈ ps.zip us, (defScope st).names.lookup y.1 = some .local ∨ ((defScope st).names.lookup y.1 = some .cell ∧ ((cellsFrom (s.heap.objs.size + 1) (defScope st).names []).lookup y.1).isSome = true) := by
    intro y hy
    have hy1 : y.1 ∈ ps := (List.of_mem_zip (show (y.1, y.2) ∈ ps.zip us from hy)).1
    cases S.par y.1 hy1 with
    | inl h => exact Or.inl h
    | inr h => exact Or.inr ⟨h, PySem.W.cellsFrom_some _ _ _ (Or.inl h)⟩
  refine codeAny_call_function room.depth (kin _ _ hlook) rfl S.co S.gen rfl (PySem.W.codeRec_of kin hcode) (hbind _ _ _ _ ?_)
  refine wpAny_newFunctionEnv_cells S.kind params (fun env henv s1 hin => ?_)
  subst henv
  obtain ⟨t, hterm, hread⟩ := hbody cdv A fr s H vs Q E hgd (room.deeper _) hs
  have inv := inv_start (CX := CX0) (E := E) S room.hd e0 (hlen _ _ _ _ hs) rel hin
  refine ⟨nol.keeps hin.toInCall.keep, codeAny_func (wpAny_mono (hterm.nox.run [] s1 (start N vs) H _ inv hread) ?_ (fun _ _ h => h))⟩
  intro fl s' hsp
  match fl, hsp with
  | .ret u, hsp =>
    obtain ⟨v, σ', H', J, rv, hq⟩ := hsp
    exact ⟨v, H', J.os, J.bare, J.base, J.hok, rv, hq⟩
  | .next, hsp =>
    obtain ⟨σ', H', J, hq⟩ := hsp
    exact ⟨V.non, H', J.os, J.bare, J.base, J.hok, rfl, hq⟩
  | .brk, hsp => exact hsp.choose_spec.choose_spec.2.elim
  | .cont, hsp => exact hsp.choose_spec.choose_spec.2.elim
end

section
variable {X : Cx} {CX : CXT} {k : Nat} {f C : Addr} {fd : FuncData} {ps ks : List Str} {sp : Sp} {dvs : List V} {ds : List Value} {E : XK} {x m : Str} {p pos apos : Pos} {e o : Expr} {es : List Expr} {ta : TE} {t tk : TA} {kws : List Keyword}
  {g : List Value → List Value → List Value} {gV : List V → List V → List V}
theorem runG_fn {pins : List (Addr × Obj)} {σ : L2.St} {H : Hp} {s : Shared} {Q : VK} {us : List Value} {vs : List V} (F : FnOkG X.prog X.w X.K X.mg X.base CX k f fd ps sp) (hgd : X.A.guards = some []) (room : Room k X.A) (hb : Binds X.K fd ps ds)
    (hd : Vals dvs ds) (hx : Passes CX X E) (I : Inv X pins σ H s) (r : Vals vs us) (h : sp (vs ++ dvs) H Q E) : wpAny (model X.prog X.w) X.A (call (.ref f) us) (EP X pins σ Q) X.xe s := by
  have rel : Vals (vs ++ dvs) (us ++ ds) := r.append hd
  have hlen : (us ++ ds).length = ps.length := rel.length.symm.trans (F.lenG _ _ _ _ h)
  refine wpAny_call (codeAny_mono (F.runG X.A X.stack s H ⟨us, []⟩ (us ++ ds) (vs ++ dvs) Q E hgd room I.env0 (hb s us I.kIn hlen) rel h) (fun r s' hq => ?_))
  match r, hq with
  | .error e, hq => exact hx pins σ H s e s' I hq
  | .ok (.ret u), hq => exact I.after hq
/-- f(e, ..) -/
theorem pe_callG (F : FnOkG X.prog X.w X.K X.mg X.base CX k f fd ps sp) (hgd : X.A.guards = some []) (room : Room k X.A) (hg : Gl X x) (hm : X.mg x = some (.ref f)) (hk : PySem.W.keepIn X.K (.ref f) = true) (hb : Binds X.K fd ps ds) (hd : Vals dvs ds)
    (hx : Passes CX X E) (ha : PA X (e :: es) t) (hdb : (x == ("__debug__" : Str)) = false := by decide) (he : starEach (e :: es) X.env = (false, eval e X.env) :: starEach es X.env := by rfl)
    (hpl : (backTo pos (starEach es X.env)).any (·.1) = false := by rfl) : PE X (.Call (.Name x p) (e :: es) [] pos) (tCall sp dvs E t) := by
  constructor
  intro pins s σ H Q I h
  refine wpAny_Call_Name_kw (ld_glob I hg hm (PySem.W.callWith_K (h₀ := X.base) I.ok.mod.kin hk (thn (ha.run pos pins s σ H _ I h) ?_) he hpl) hdb)
  rintro us s1 ⟨vs, H1, I1, r, hq⟩
  exact ⟨I1.kIn, runG_fn F hgd room hb hd hx I1 r hq⟩

/-- o.m(k = v, ..): keywords alone -/
def tMethK (C : Addr) (m : Str) (n : Nat) (sp : Sp) (gV : List V → List V → List V) (E : XK) (ta : TE) (tk : TA) : TE := fun σ H Q => ta σ H fun x H1 => ∃ a dx fs, x = .ref a ∧ H1 a = some (.ins C dx fs) ∧ fs.lookup m = none ∧
  tk σ H1 fun zs H2 => zs.length = n ∧ sp (gV [x] zs) H2 Q E
theorem pe_methK0 {pl : Sem Bool} (he : PE X o ta) (c : Cls X.K C) (hm : Meth X.K C m f) (F : FnOk X.prog X.w X.K X.mg X.base CX k f fd ps sp) (room : Room k X.A) (hb : KBn X.K fd ps 1 ks g gV) (hx : Passes CX X E) (hkw : PK X kws tk)
    (hall : (backToKw pos (keywordEach kws X.env)).all (·.1.isSome) = true := by rfl) (hks : (backToKw pos (keywordEach kws X.env)).filterMap (·.1) = ks := by rfl)
    (hpl : ((backTo pos (starEach [] X.env)).any (·.1) || (backToKw pos (keywordEach kws X.env)).any (·.1.isNone)) = false := by rfl)
    (ht : eval (.Call (.Attribute o m apos) [] kws pos) X.env = (do
      let ov ← eval o X.env
      standAt apos.atName
      let (f, first) ← holding [ov] (getMethod ov m pl)
      callWith pos f first (backTo pos (starEach [] X.env)) (backToKw pos (keywordEach kws X.env))) := by rfl) :
    PE X (.Call (.Attribute o m apos) [] kws pos) (tMethK C m ks.length sp gV E ta tk) := by
  constructor
  intro pins s σ H Q I h
  refine PySem.W.methodCall_KW (pl := pl) (thn (he.run pins s σ H _ I h) ?_) ht
  rintro u s1 ⟨x, H1, I1, rx, a, dx, fs, ex, ea, l, hq⟩
  subst ex
  obtain rfl : u = Value.ref a := rx
  refine getmeth_ok I1 ea c hm l (PySem.W.callWith_KW0 (h₀ := X.base) I1.ok.mod.kin hm.kp hall (thn (hkw.run pos pins s1 σ H1 _ I1 hq) ?_) hpl)
  rintro ws s2 ⟨zs, H2, I2, rz, l2, hs⟩
  refine ⟨I2.kIn, ?_⟩
  rw [hks]
  exact run_fnN (us := [.ref a]) (vs := [.ref a]) F room hb hx I2 (.cons rfl .nil) rz rfl l2 hs
end

/-- how keywords bind, for a def without defaults -/
theorem kbn_of {K : PySem.W.Frag} {x q : Str} {st : Stmt} {f : Addr} {fd : FuncData} {ps ks : List Str} {n : Nat} {g : List Value → List Value → List Value} {gV : List V → List V → List V} (F : Fun K x q st f fd)
    (h : ∀ (kV doc pm : Value) (an : Option Addr) (cdv ct : Value) (us ws : List Value), us.length = n → ws.length = ks.length → bindArgs (PySem.W.fnOf x q (defArgs st) (defBody st) (defScope st) .none kV doc pm an cdv ct) ⟨us, ks.zip ws⟩ = pure (ps.zip (g us ws)))
    (rel : ∀ {vs : List V} {us : List Value} {zs : List V} {ws : List Value}, Vals vs us → Vals zs ws → Vals (gV vs zs) (g us ws)) : KBn K fd ps n ks g gV := by
  obtain ⟨oc, od, kV, doc, pm, an, cdv, ct, osl, hfd, hlook, hcode⟩ := F.ex
  subst hfd
  exact ⟨fun s us ws _ l1 l2 => .of_eq (h kV doc pm an cdv ct us ws l1 l2), rel⟩

/-! ### repr of data -/
section
variable {X : Cx}
def rReprD (K : PySem.W.Frag) : List V → Hp → VK → Prop := fun xs H Q => ∃ x d, xs = [x] ∧ Dp K H x d ∧ d.showable = true ∧ d.hasDict = false ∧ d.depth ≤ 40 ∧ d.shown.length ≤ sizeLine ∧ Q (.str d.shown) H
theorem call_reprD {k : Nat} (hgd : X.A.guards = some []) (room : Room k X.A) : CallR X (.builtin "repr") (rReprD X.K) := by
  intro pins s σ H xs us Q I r h
  obtain ⟨x, d, rfl, hd, hs, hnd, hdep, hsz, hq⟩ := h
  obtain ⟨u, rfl, rx⟩ := vals1 r
  have un := room.units
  have fin : ∀ h' v tk, (∀ b o, s.heap.get? b = some o → h'.get? b = some o) → EP X pins σ Q (.str d.shown v) { s with heap := h', toks := tk } := fun h' v tk kp => ⟨.str d.shown, H, I.kept kp, ⟨_, rfl⟩, hq⟩
  obtain ⟨as, rd⟩ := Dp.reads I d x u hd rx
  cases rd with
  | none => exact PySem.P.repr_of_none (fin s.heap _ _ fun _ _ e => e)
  | bool b => cases b <;> exact PySem.P.repr_of_bool (fin s.heap _ _ fun _ _ e => e)
  | int i t =>
    refine PySem.P.repr_of_int (by simpa [PyData.showable] using hs) (fin s.heap _ _ fun _ _ e => e)
  | str y t => exact PySem.P.repr_of_str (fin s.heap _ _ fun _ _ e => e) hsz
  | list h1 h2 h3 h4 => exact repr_of_reads' (.list h1 h2 h3 h4) hs (fun z => by rw [hnd] at z; cases z) hgd (by omega) (fun _ _ e => e) fin hsz
  | tuple h1 h2 h3 h4 => exact repr_of_reads' (.tuple h1 h2 h3 h4) hs (fun z => by rw [hnd] at z; cases z) hgd (by omega) (fun _ _ e => e) fin hsz
  | dict h1 h2 h3 h4 h5 => simp [PyData.hasDict] at hnd
end
end MyG

/-! ### the law's own call, and the end of a row -/
namespace MyG
open PySem PySem.Spec PyProof.Rows L2
section
variable {P : Program} {w : World} {K : PySem.W.Frag} {mg mb : Str → Option Value} {CX : CXT} {k : Nat} {fa a : Addr} {fd : FuncData} {x : Str} {sp : Sp} {s₁ : Shared} {vs : List Value} {ns : List Int}
/-- from one abstract heap that knows at most the script -/
theorem lawG_at (H : Hp) (KX : K.In s₁.heap) (hns : s₁.heap.Ns mainGlobals mg) (hb : s₁.heap.Ns builtinsNs mb) (hbb : ∀ x : Str, x ≠ "__name__" → mb x = bootBuiltins x) (hlim : s₁.heap.NoLimit) (hgen : s₁.gens = #[])
    (ha : s₁.heap.get? a = some { cls := .type "list", data := .seq vs.toArray }) (room : Room k callerA)
    (F : ∀ base : Heap, K.In base → base.Ns mainGlobals mg → FnOkG P w K mg base CX k fa fd [x] sp) (hbind : ∀ (s : Shared) (u : Value), BindsTo s fd ⟨[u], []⟩ [(x, u)])
    (hsp : sp [.ref a] H (fun v _ => v = .bl true) fun _ _ _ => False) (hCX : ∀ e s', CX [] H s₁ (fun _ _ _ => False) e s' → False)
    (only : Only H) (hok : HOk P w H s₁.heap) (hA : ∀ b, H b ≠ none → b = a) (hK : H a ≠ none → K.lookup a = none) :
    codeAny (model P w) callerA (.call (.ref fa) ⟨[.ref a], []⟩) (fun r s' => r = .ok (.ret (.bool true)) ∧ OldK s₁.heap s'.heap ∧ s'.os = s₁.os ∧ AllBare s'.gens) s₁ := by
  have free : ∀ b : Addr, b ≠ a → H b = none := fun b hb => by
    cases e : H b with
    | none => rfl
    | some u => exact absurd (hA b (by rw [e]; exact fun z => nomatch z)) hb
  have hid : ∀ {b : Addr} {o : Obj}, s₁.heap.get? b = some o → H b = none → (hidT s₁.heap H).get? b = some o := fun h1 h2 => hidT_get h1 h2
  have dictFree : ∀ {b : Addr} {o : Obj} {es : Array DictEntry} {ep : Nat}, s₁.heap.get? b = some o → o.data = .dict es ep → H b = none := by
    intro b o es ep h1 h2
    by_cases hb : b = a
    · rw [hb, ha] at h1
      obtain rfl := Option.some.inj h1
      exact absurd h2 (fun z => nomatch z)
    · exact free b hb
  have nsH : ∀ {b : Addr} {m : Str → Option Value}, s₁.heap.Ns b m → (hidT s₁.heap H).Ns b m := by
    rintro b m ⟨o, es, ep, h1, h2, h3⟩
    exact ⟨o, es, ep, hid h1 (dictFree h1 h2), h2, h3⟩
  have kin : K.In (hidT s₁.heap H) := by
    intro b o h1
    refine hid (KX b o h1) ?_
    by_cases hb : b = a
    · cases e : H a with
      | none => rw [hb]; exact e
      | some u =>
        have z := hK (by rw [e]; exact fun z => nomatch z)
        rw [hb, z] at h1
        cases h1
    · exact free b hb
  have md : Mod K mg (hidT s₁.heap H) := by
    obtain ⟨mc, l1, l2⟩ := hlim
    exact ⟨kin, nsH hns, ⟨mb, nsH hb, hbb⟩, ⟨mc, nsH l1, l2⟩⟩
  have env : Env0 P w K mg (hidT s₁.heap H) callerA [] s₁ H := { frames := rfl, mod := md, bs := fun b o h1 => of_hidT h1, bsz := Nat.le_of_eq (hidT_size _ _), funs := trivial, frf := fun b hb => (List.not_mem_nil hb).elim, hok := hok, bare := .of_eq hgen }
  refine codeAny_mono ((F _ kin (nsH hns)).runG callerA [] s₁ H ⟨[.ref a], []⟩ [.ref a] [.ref a] _ _ rfl room env (hbind s₁ (.ref a)) (.cons rfl .nil) hsp) ?_
  intro r s' hr
  match r, hr with
  | .error e, hr => exact (hCX e s' hr).elim
  | .ok (.ret u), hr =>
    obtain ⟨v, H', hos, hbare, un, hok', rv, hv⟩ := hr
    obtain rfl : v = V.bl true := hv
    obtain rfl : u = Value.bool true := rv
    refine ⟨rfl, OldK.of_keep ?_, hos, hbare⟩
    intro b o h1
    rcases only b with z | ⟨ob, xs, z⟩
    · exact un.keep b o h1 z (fun q => (List.not_mem_nil q).elim) (fun q => (List.not_mem_nil q).elim)
    · have e1 := (hok b _ z).1
      have e2 := (hok' b _ (un.frzs b ob _ z)).1
      rw [h1] at e1
      rw [Option.some.inj e1]
      exact e2
theorem law_callG (KX : K.In s₁.heap) (hns : s₁.heap.Ns mainGlobals mg) (hb : s₁.heap.Ns builtinsNs mb) (hbb : ∀ x : Str, x ≠ "__name__" → mb x = bootBuiltins x) (hlim : s₁.heap.NoLimit) (hgen : s₁.gens = #[])
    (ha : s₁.heap.get? a = some { cls := .type "list", data := .seq vs.toArray }) (hi : IntsAre vs ns) (hl : ns.length ≤ sizeLine) (room : Room k callerA)
    (F : ∀ base : Heap, K.In base → base.Ns mainGlobals mg → FnOkG P w K mg base CX k fa fd [x] sp) (hbind : ∀ (s : Shared) (u : Value), BindsTo s fd ⟨[u], []⟩ [(x, u)])
    (hsp : ∀ H : Hp, Only H → SqL K H a (ns.map V.int) → sp [.ref a] H (fun v _ => v = .bl true) fun _ _ _ => False) (hCX : ∀ H e s', CX [] H s₁ (fun _ _ _ => False) e s' → False) :
    codeAny (model P w) callerA (.call (.ref fa) ⟨[.ref a], []⟩) (fun r s' => r = .ok (.ret (.bool true)) ∧ OldK s₁.heap s'.heap ∧ s'.os = s₁.os ∧ AllBare s'.gens) s₁ := by
  have rv := vals_ints hi
  have lenV := hi.length
  cases hk : K.lookup a with
  | some o =>
    have e1 := KX a o hk
    rw [ha] at e1
    obtain rfl := Option.some.inj e1
    have only : Only (fun _ => none) := fun b => .inl rfl
    refine lawG_at (fun _ => none) KX hns hb hbb hlim hgen ha room F hbind (hsp _ only ?_) (hCX _) only (fun b u z => nomatch z) (fun b z => absurd rfl z) (fun z => absurd rfl z)
    exact .inr ⟨_, vs.toArray, _, hk, rfl, rfl, rfl, by rw [List.size_toArray, lenV]; exact hl, by simpa using rv⟩
  | none =>
    have at_a : ∀ {o : HO}, (fun b => if b = a then some o else none : Hp) a = some o := if_pos rfl
    have off_a : ∀ {o : HO} {b : Addr}, b ≠ a → (fun b => if b = a then some o else none : Hp) b = none := fun h => if_neg h
    have only : Only (fun b => if b = a then some (.frz { cls := .type "list", data := .seq vs.toArray } (.lst (ns.map V.int))) else none) := fun b => by
      by_cases hb : b = a
      · exact .inr ⟨_, _, by rw [hb]; exact at_a⟩
      · exact .inl (off_a hb)
    refine lawG_at _ KX hns hb hbb hlim hgen ha room F hbind (hsp _ only (.inl (.inr ⟨_, at_a⟩))) (hCX _) only ?_ ?_ (fun _ => hk)
    · intro b u z
      by_cases hb : b = a
      · subst hb
        obtain rfl := Option.some.inj (at_a.symm.trans z)
        exact ⟨ha, by rw [List.length_map]; exact hl, vs, _, rv, ha⟩
      · exact absurd ((off_a hb).symm.trans z) (fun q => nomatch q)
    · intro b z
      by_cases hb : b = a
      · exact hb
      · exact absurd (off_a hb) z
end
theorem walk_ofG {l : PySem.W.OpenLaw} {n k : Nat} {q : Program} {loose : List Str} {XP : (Str → Option Value) → Heap → Prop} {YP : World → Heap → Prop} {d : DefRec} {K : Params → PySem.W.Frag} {CX : World → CXT} {sp : World → Sp} {x : Str}
    (hn : l.most = some n) (hn2 : n ≤ sizeLine) (hdf : d.params.defaults = []) (room : Room k callerA) (hY : ∀ (w : World) (h : Heap), YP w h → (K w.params).In h)
    (F : ∀ (w : World) (mg : Str → Option Value) (fa : Addr) (h : Heap), (K w.params).In h → h.Ns mainGlobals mg → mg d.name = some (.ref fa) →
      ∃ fd : FuncData, (∀ (s : Shared) (u : Value), BindsTo s fd ⟨[u], []⟩ [(x, u)]) ∧ ∀ base : Heap, (K w.params).In base → base.Ns mainGlobals mg → FnOkG l.prog w (K w.params) mg base (CX w) k fa fd [x] (sp w))
    (hsp : ∀ (w : World) (H : Hp) (a : Addr) (ns : List Int), ns.length ≤ n → Only H → SqL (K w.params) H a (ns.map V.int) → sp w [.ref a] H (fun v _ => v = .bl true) fun _ _ _ => False)
    (hCX : ∀ (w : World) (H : Hp) (s : Shared) (e : Value) (s' : Shared), CX w [] H s (fun _ _ _ => False) e s' → False) : PySem.W.WalkO q loose XP YP l.row.toRowW d [] (fun f vs => PySem.call f vs) := by
  refine Att.attach_call hn hdf ?_
  intro w s₀ s₁ mg mb fa o pm cd doc a vs ns G Y ho hd hcd hmg hobj hints hlen hgen
  obtain ⟨fd, hbind, hF⟩ := F w mg fa _ (hY w _ Y) G.T.g hmg
  exact law_callG (hY w _ Y) G.T.g G.T.b G.T.builtins G.T.nolimit hgen hobj hints (Nat.le_trans hlen hn2) room hF hbind (hsp w · a ns hlen · ·) (fun H e s' => hCX w H s₁ e s')
end MyG

set_option maxHeartbeats 2000000
/-! len(set(xs)) of whole numbers, alike or not; what stands for a thing of any kind. -/
namespace MyG
open PySem PySem.Spec PyProof.Rows L2 Evl
theorem met_len {ns : List Int} : ∀ i, i ≤ ns.length → (firstMet (fun i => ns.getD i 0) i).length = i → (ns.take i).Nodup
  | 0, _, _ => by simp
  | i + 1, hi, h => by
    have hlt : i < ns.length := hi
    rw [firstMet_succ] at h
    unfold step_dedup at h
    have le := firstMet_length_le (fun i => ns.getD i 0) i
    by_cases c : (firstMet (fun i => ns.getD i 0) i).any (· == ns.getD i 0) = true
    · rw [if_pos c] at h
      omega
    · rw [if_neg c, List.length_append, List.length_singleton] at h
      have ih := met_len i (Nat.le_of_lt hlt) (by omega)
      rw [firstMet_any] at c
      rw [List.take_add_one, List.getElem?_eq_getElem hlt]
      show (ns.take i ++ [ns[i]]).Nodup
      rw [List.nodup_append]
      refine ⟨ih, by simp, fun a ha b hb e => c ?_⟩
      obtain rfl := List.mem_singleton.mp hb
      subst e
      rw [List.any_eq_true]
      obtain ⟨j, hj, ej⟩ := List.getElem_of_mem ha
      rw [List.length_take] at hj
      refine ⟨ns.getD j 0, List.mem_map.mpr ⟨j, List.mem_range.mpr (by omega), rfl⟩, ?_⟩
      rw [List.getElem_take] at ej
      rw [List.getD_eq_getElem?_getD, List.getD_eq_getElem?_getD, List.getElem?_eq_getElem hlt, List.getElem?_eq_getElem (by omega : j < ns.length)]
      show (ns[j] == ns[i]) = true
      rw [ej]
      exact beq_self_eq_true _
theorem met_iff (ns : List Int) : (firstMet (fun i => ns.getD i 0) ns.length).length = ns.length ↔ ns.Nodup := by
  constructor
  · intro h
    have z := met_len ns.length (Nat.le_refl _) h
    rwa [List.take_length] at z
  · intro h
    rw [RZ.firstMet_nodup h ns.length (Nat.le_refl _), List.take_length]
def tLenSetG (K : PySem.W.Frag) (ta : TE) : TE := fun σ H Q => ta σ H fun x H1 => ∃ (l : Addr) (ns : List Int), x = .ref l ∧ SqL K H1 l (ns.map V.int) ∧ ns.length ≤ 4000 ∧ ∀ n : Nat, (n = ns.length ↔ ns.Nodup) → Q (.int n) H1
theorem pe_lenSetG {X : Cx} {a : Expr} {ta : TE} {p p2 q pos : Pos} (hg : Gl X "len") (hm : X.mg "len" = none) (hg2 : Gl X "set") (hm2 : X.mg "set" = none) (ha : PE X a ta) (hc : X.calm = true := by rfl)
    (na : starEach [a] X.env = (false, eval a X.env) :: starEach [] X.env := by rfl) : PE X (.Call (.Name "len" p) [.Call (.Name "set" p2) [a] [] q] [] pos) (tLenSetG X.K ta) := by
  constructor
  intro pins s σ H Q I h
  refine Call_ (ld_blt I hg hm boot_len (callWith_builtin1 (args_cons ?_ rfl) rfl rfl))
  refine Call_ (ld_blt I hg2 hm2 boot_set (callWith_type1 (args_cons (thn (ha.run pins s σ H _ I h) ?_) na) na rfl))
  rintro v s1 ⟨x, H1, I1, r1, l, ns, rfl, hq, hl, q1⟩
  refine args_nil ?_
  cases r1
  obtain ⟨its, r, pl, hz⟩ := I1.list hq
  have size : its.toArray.size = ns.length := by rw [List.size_toArray, ← r.length, List.length_map]
  refine call_set_list (I1.ok.hd hc) pl.isList (ns := ns) (by simpa using r.ints) (by rw [size]; unfold scanBound; omega) (fun h' tk hS hk => args_nil ?_)
  rw [size] at hS
  have le := firstMet_length_le (fun i => ns.getD i 0) ns.length
  obtain ⟨o, es, ep, t, ho, hex, hd, _, _, _, hf, hn⟩ := hS
  have I2 : Inv X pins σ H1 { s1 with heap := h', toks := tk } := I1.kept fun b o e => hk b o (Heap.lt_size e) e
  exact call_len_set ho hex hd hf (by rw [hn]; omega) ⟨.int ((firstMet (fun i => ns.getD i 0) ns.length).length : Nat), H1, I2.tok _, ⟨_, by rw [hn]⟩, q1 _ (met_iff ns)⟩
/-! ### a thing of any kind, and its kind -/
inductive AnyT (H : Hp) : V → String → Prop
  | non : AnyT H .non "NoneType"
  | bl (b : Bool) : AnyT H (.bl b) "bool"
  | int (i : Int) : AnyT H (.int i) "int"
  | str (x : Str) : AnyT H (.str x) "str"
  | lst {a : Addr} {xs : List V} (h : H a = some (.lst xs)) : AnyT H (.ref a) "list"
  | tup {a : Addr} {xs : List V} (h : H a = some (.tup xs)) : AnyT H (.ref a) "tuple"
  | dK {a : Addr} {xs : List (Key × V)} (h : H a = some (.dK xs)) : AnyT H (.ref a) "dict"
theorem AnyT.ext {H H' : Hp} (e : Ex H H') {x : V} {t : String} (h : AnyT H x t) : AnyT H' x t := by
  cases h with
  | non => exact .non
  | bl b => exact .bl b
  | int i => exact .int i
  | str x => exact .str x
  | lst h => exact .lst (e _ _ h)
  | tup h => exact .tup (e _ _ h)
  | dK h => exact .dK (e _ _ h)
theorem AnyT.ty {K : PySem.W.Frag} {H : Hp} {x : V} {t : String} (h : AnyT H x t) : TyX K H x (.type t) := by
  cases h with
  | non => exact .base .non
  | bl b => exact .base (.bl b)
  | int i => exact .base (.int i)
  | str x => exact .base (.str x)
  | lst h => exact .base (.lst h)
  | tup h => exact .base (.tup h)
  | dK h => exact .base (.dK h)
abbrev kinds7 : List String := ["NoneType", "bool", "int", "str", "list", "tuple", "dict"]
theorem AnyT.mem {H : Hp} {x : V} {t : String} (h : AnyT H x t) : t ∈ kinds7 := by
  cases h <;> decide
theorem kit7 : (kinds7.all fun t => decide (kitB t "int" = some (t == "int" || t == "bool")) && decide (kitB t "bool" = some (t == "bool")) && decide (kitB t "list" = some (t == "list")) && decide (kitB t "tuple" = some (t == "tuple")) && decide (kitB t "str" = some (t == "str")) && decide (kitB t "dict" = some (t == "dict"))) = true := by decide +kernel
theorem kit_all {t : String} (h : t ∈ kinds7) : kitB t "int" = some (t == "int" || t == "bool") ∧ kitB t "bool" = some (t == "bool") ∧ kitB t "list" = some (t == "list") ∧ kitB t "tuple" = some (t == "tuple") ∧ kitB t "str" = some (t == "str") ∧ kitB t "dict" = some (t == "dict") := by
  have z := List.all_eq_true.mp kit7 t h
  simp only [Bool.and_eq_true, decide_eq_true_eq] at z
  exact ⟨z.1.1.1.1.1, z.1.1.1.1.2, z.1.1.1.2, z.1.1.2, z.1.2, z.2⟩
/-- isinstance(x, T) of a thing of any kind -/
theorem isi_int {K : PySem.W.Frag} {H : Hp} {x : V} {t : String} {Q : VK} (h : AnyT H x t) (q : Q (.bl (t == "int" || t == "bool")) H) : rIsi K [x, .ty "int"] H Q := ⟨x, .ty "int", .type t, .type "int", _, rfl, .ty _, h.ty, kit_ty (kit_all h.mem).1, q⟩
theorem isi_bool {K : PySem.W.Frag} {H : Hp} {x : V} {t : String} {Q : VK} (h : AnyT H x t) (q : Q (.bl (t == "bool")) H) : rIsi K [x, .ty "bool"] H Q := ⟨x, .ty "bool", .type t, .type "bool", _, rfl, .ty _, h.ty, kit_ty (kit_all h.mem).2.1, q⟩
theorem isi_list {K : PySem.W.Frag} {H : Hp} {x : V} {t : String} {Q : VK} (h : AnyT H x t) (q : Q (.bl (t == "list")) H) : rIsi K [x, .ty "list"] H Q := ⟨x, .ty "list", .type t, .type "list", _, rfl, .ty _, h.ty, kit_ty (kit_all h.mem).2.2.1, q⟩
theorem isi_tuple {K : PySem.W.Frag} {H : Hp} {x : V} {t : String} {Q : VK} (h : AnyT H x t) (q : Q (.bl (t == "tuple")) H) : rIsi K [x, .ty "tuple"] H Q := ⟨x, .ty "tuple", .type t, .type "tuple", _, rfl, .ty _, h.ty, kit_ty (kit_all h.mem).2.2.2.1, q⟩
theorem isi_str {K : PySem.W.Frag} {H : Hp} {x : V} {t : String} {Q : VK} (h : AnyT H x t) (q : Q (.bl (t == "str")) H) : rIsi K [x, .ty "str"] H Q := ⟨x, .ty "str", .type t, .type "str", _, rfl, .ty _, h.ty, kit_ty (kit_all h.mem).2.2.2.2.1, q⟩
theorem isi_dict {K : PySem.W.Frag} {H : Hp} {x : V} {t : String} {Q : VK} (h : AnyT H x t) (q : Q (.bl (t == "dict")) H) : rIsi K [x, .ty "dict"] H Q := ⟨x, .ty "dict", .type t, .type "dict", _, rfl, .ty _, h.ty, kit_ty (kit_all h.mem).2.2.2.2.2, q⟩
end MyG

set_option maxHeartbeats 2000000
/-! Data that can be shown and compared, by its size. -/
namespace MyG
open PySem PySem.Spec PyProof.Rows L2 Evl
/-- k: how deep, L: how long its text is at most -/
structure Small (d : PyData) (k L : Nat) : Prop where
  sh : d.showable = true
  nd : d.hasDict = false
  dp : d.depth ≤ k
  ln : d.shown.length ≤ L
  cl : d.canLay0 = true
structure SmallAll (ds : List PyData) (k L : Nat) : Prop where
  sh : PyData.showableAll ds = true
  nd : PyData.hasDictAll ds = false
  dp : PyData.depthAll ds ≤ k
  ln : ((PyData.shownAll ds).map (·.length)).sum ≤ ds.length * L
  ll : (PyData.shownAll ds).length = ds.length
  cl : PyData.canLayAll0 ds = true
theorem Small.all {k L : Nat} : ∀ {ds : List PyData}, (∀ d ∈ ds, Small d k L) → SmallAll ds k L
  | [], _ => ⟨rfl, rfl, Nat.zero_le _, Nat.zero_le _, rfl, rfl⟩
  | d :: ds, h => by
    have h1 := h d (List.mem_cons_self ..)
    have h2 := Small.all fun e he => h e (List.mem_cons_of_mem d he)
    refine ⟨?_, ?_, ?_, ?_, ?_, ?_⟩
    · simp only [PyData.showableAll, h1.sh, h2.sh, Bool.and_self]
    · simp only [PyData.hasDictAll, h1.nd, h2.nd, Bool.or_self]
    · simp only [PyData.depthAll]; exact Nat.max_le.mpr ⟨h1.dp, h2.dp⟩
    · have a := h1.ln
      have b := h2.ln
      simp only [PyData.shownAll, List.map_cons, List.sum_cons, List.length_cons]
      rw [Nat.add_mul, Nat.one_mul]
      omega
    · simp only [PyData.shownAll, List.length_cons, h2.ll]
    · simp only [PyData.canLayAll0, h1.cl, h2.cl, Bool.and_self]
theorem small_list {k L : Nat} {ds : List PyData} (h : ∀ d ∈ ds, Small d k L) : Small (.list ds) (k + 1) (ds.length * (L + 2) + 3) := by
  have a := Small.all h
  refine ⟨by simpa only [PyData.showable] using a.sh, by simpa only [PyData.hasDict] using a.nd, by simp only [PyData.depth]; have := a.dp; omega, ?_, by simpa only [PyData.canLay0] using a.cl⟩
  simp only [PyData.shown]
  have b := listText_len_le (PyData.shownAll ds)
  have c := a.ln
  rw [a.ll] at b
  rw [Nat.mul_add]
  omega
theorem small_tuple {k L : Nat} {ds : List PyData} (h : ∀ d ∈ ds, Small d k L) : Small (.tuple ds) (k + 1) (ds.length * (L + 2) + 3) := by
  have a := Small.all h
  refine ⟨by simpa only [PyData.showable] using a.sh, by simpa only [PyData.hasDict] using a.nd, by simp only [PyData.depth]; have := a.dp; omega, ?_, by simpa only [PyData.canLay0] using a.cl⟩
  simp only [PyData.shown]
  have b := tupleText_len_le (PyData.shownAll ds)
  have c := a.ln
  rw [a.ll] at b
  rw [Nat.mul_add]
  omega
theorem Small.mono {d : PyData} {k L k' L' : Nat} (h : Small d k L) (hk : k ≤ k') (hL : L ≤ L') : Small d k' L' := ⟨h.sh, h.nd, Nat.le_trans h.dp hk, Nat.le_trans h.ln hL, h.cl⟩
theorem Small.shaped {d : PyData} {k L : Nat} (h : Small d k L) (hk : k ≤ 64) : SeqAt.shaped d = true := by
  unfold SeqAt.shaped
  rw [h.cl, decide_eq_true (Nat.le_trans h.dp hk)]
  rfl
theorem small_int {i : Int} (h : i.natAbs < 10 ^ 9) : Small (.int i) 0 10 := by
  have h9 : i.natAbs < 2 ^ 1920 := Nat.lt_of_lt_of_le h (by decide +kernel)
  refine ⟨?_, rfl, Nat.le_refl _, ?_, rfl⟩
  · simp only [PyData.showable]
    refine decide_eq_true ?_
    by_cases z : i.natAbs = 0
    · rw [z]; decide
    · exact (Nat.log2_lt z).mpr h9
  · simp only [PyData.shown]
    have := int_text_length_le10 (a := i) (k := 9) (by decide) h
    rw [PySem.ofString_length]
    exact this
/-! ### data in a heap -/
theorem dp_ints {K : PySem.W.Frag} {H : Hp} : ∀ ns : List Int, DpAll K H (ns.map V.int) (ns.map PyData.int)
  | [] => .nil
  | n :: ns => .cons (.int n) (dp_ints ns)
mutual
theorem Dp.ext {K : PySem.W.Frag} {H H' : Hp} (e : Ex H H') : ∀ {v : V} {d : PyData}, Dp K H v d → Dp K H' v d
  | _, _, .non => .non
  | _, _, .bl b => .bl b
  | _, _, .int i => .int i
  | _, _, .str x => .str x
  | _, _, .lst h a => .lst (ex_l e h) (DpAll.ext e a)
  | _, _, .tup h a => .tup (ex_t e h) (DpAll.ext e a)
theorem DpAll.ext {K : PySem.W.Frag} {H H' : Hp} (e : Ex H H') : ∀ {vs : List V} {ds : List PyData}, DpAll K H vs ds → DpAll K H' vs ds
  | _, _, .nil => .nil
  | _, _, .cons h a => .cons (Dp.ext e h) (DpAll.ext e a)
end
theorem eqvAll_ints_nil {ns : List Int} : PyData.eqvAll (ns.map PyData.int) [] = ns.isEmpty := by
  cases ns with
  | nil => rfl
  | cons x r => rfl
theorem repr_ok {K : PySem.W.Frag} {x : V} {d : PyData} {H : Hp} {Q : VK} {k L : Nat} (h : Dp K H x d) (s : Small d k L) (hk : k ≤ 40) (hL : L ≤ 16000000) (q : Q (.str d.shown) H) : rReprD K [x] H Q :=
  ⟨x, d, rfl, h, s.sh, s.nd, Nat.le_trans s.dp hk, Nat.le_trans (Nat.le_trans s.ln hL) (by rw [sizeLine_eq]; decide), q⟩
end MyG

/-! ### one layer of a reading opened -/
namespace MyG
open PySem PySem.Spec PyProof.Rows L2 Evl
section
variable {σ : L2.St} {H : Hp} {Q : VK} {ta tb : TE} {t : TT} {tt tu : TS} {D : Ends} {g : TG} {as tr : TA}
theorem un_and (h : ta σ H fun x H1 => ∃ c, x = .bl c ∧ if c = true then tb σ H1 Q else Q (.bl false) H1) : tAndV ta tb σ H Q := h
theorem un_or (h : ta σ H fun x H1 => ∃ c, x = .bl c ∧ if c = true then Q (.bl true) H1 else tb σ H1 Q) : tOrV ta tb σ H Q := h
theorem un_cb {r : List V → Hp → VK → Prop} (h : as σ H fun vs H1 => r vs H1 Q) : tCB r as σ H Q := h
theorem un_call {sp : Sp} {dvs : List V} {E : XK} (h : as σ H fun vs H1 => sp (vs ++ dvs) H1 Q E) : tCall sp dvs E as σ H Q := h
theorem un_cons {R : List V → Hp → Prop} (h : ta σ H fun x H1 => tr σ H1 fun xs H2 => R (x :: xs) H2) : tCons ta tr σ H R := h
theorem un_op {r : R2} (h : ta σ H fun x H1 => tb σ H1 fun y H2 => r x y H2 Q) : tOp r ta tb σ H Q := h
theorem un_test {R : Bool → Hp → Prop} (h : ta σ H fun x H' => ∃ k, x = .bl k ∧ R k H') : tTest ta σ H R := h
theorem un_lst (h : as σ H fun xs H1 => xs.length ≤ sizeLine ∧ ∀ p, H1 p = none → Q (.ref p) (upd H1 p (.lst xs))) : tLst as σ H Q := h
theorem un_ret (h : ta σ H D.rt) : tRet ta D σ H := h
theorem un_asg (h : ta σ H fun x H1 => g x σ H1 D.nx) : tAsg ta g D σ H := h
theorem un_seq (h : tt { D with nx := tu D } σ H) : tSeq tt tu D σ H := h
theorem un_if (h : t σ H fun b H1 => if b = true then tt D σ H1 else tu D σ H1) : tIfS t tt tu D σ H := h
end
end MyG
namespace MyG
open PySem PySem.Spec PyProof.Rows L2 Evl
section
variable {σ : L2.St} {H : Hp} {ta : TE} {t : TT} {R : Bool → Hp → Prop}
theorem un_not (h : t σ H fun c H1 => R (!c) H1) : tNot t σ H R := h
theorem un_tB (h : ta σ H fun x H1 => ∃ c, x = .bl c ∧ R c H1) : tB ta σ H R := h
theorem un_c {v : V} {Q : VK} (h : Q v H) : tC v σ H Q := h
theorem un_next {D : Ends} (h : D.nx σ H) : tNext D σ H := h
theorem un_yes (h : R true H) : tYes σ H R := h
end
end MyG

/-! ### the layer's rules with the written part named (for the blocks of comprehensions) -/
namespace MyG
open PySem PySem.Spec PyProof.Rows L2 Evl
section
variable {X : Cx} {K : PySem.W.Frag}
def rLenQ (K : PySem.W.Frag) : List V → Hp → VK → Prop := fun xs H Q => ∃ p ys, xs = [.ref p] ∧ (SqL K H p ys ∨ SqT K H p ys) ∧ Q (.int ys.length) H
def rListQ (K : PySem.W.Frag) : List V → Hp → VK → Prop := fun xs H Q => ∃ p ys, xs = [.ref p] ∧ (SqL K H p ys ∨ SqT K H p ys) ∧ ∀ l, H l = none → Q (.ref l) (upd H l (.lst ys))
theorem ix_listK (h : X.K = K) : IxR X (rIxL K) := by subst h; exact ix_list
theorem ix_tupK (h : X.K = K) : IxR X (rIxT K) := by subst h; exact ix_tup
theorem op_inK (h : X.K = K) : OpR X (compareOp .In) (rIn K false) := by subst h; exact op_in_seq
theorem op_niK (h : X.K = K) : OpR X (compareOp .NotIn) (rIn K true) := by subst h; exact op_notIn_seq
theorem op_eqK (h : X.K = K) (hu : X.A.units + 64 < cLine) : OpR X (compareOp .Eq) (rEqD K) := by subst h; exact op_eqD hu
theorem op_neK (h : X.K = K) (hu : X.A.units + 64 < cLine) : OpR X (compareOp .NotEq) (rNeD K) := by subst h; exact op_neD hu
theorem sl_listK (h : X.K = K) : SlR X (rSlL K) := by subst h; exact sl_list
theorem sl_tupK (h : X.K = K) : SlR X (rSlT K) := by subst h; exact sl_tup
theorem catTK (h : X.K = K) : OpR X (binaryOp .Add) (rCatT K) := by subst h; exact op_catT
theorem lenK (h : X.K = K) : CallR X (.builtin "len") (rLenQ K) := by subst h; exact call_len_seq
theorem listK (h : X.K = K) : CallR X (.type "list") (rListQ K) := by subst h; exact call_list_of
theorem sumK (h : X.K = K) (hc : X.calm = true) : CallR X (.builtin "sum") (rSum K) := by subst h; exact cr_sum hc
theorem allK (h : X.K = K) (hc : X.calm = true) : CallR X (.builtin "all") (rAll K) := by subst h; exact cr_all hc
theorem sortedK (h : X.K = K) : CallR X (.builtin "sorted") (rSorted K) := by subst h; exact cr_sorted
theorem isiK (h : X.K = K) : CallR X (.builtin "isinstance") (rIsi K) := by subst h; exact call_isi
theorem reprK {k : Nat} (h : X.K = K) (hgd : X.A.guards = some []) (room : Room k X.A) : CallR X (.builtin "repr") (rReprD K) := by subst h; exact call_reprD hgd room
theorem fldK {e : Expr} {ta : TE} {f : Str} {pos : Pos} (h : X.K = K) (he : PE X e ta) (hb : attributeBase e f X.env (eval e X.env) = eval e X.env) : PE X (.Attribute e f pos) (tFld K ta f) := by subst h; exact pe_fld he hb
theorem iListK {tg l : Expr} {tl : TE} (h : X.K = K) (hl : PE X l tl) : PI X tg l (iList K tl) := by subst h; exact pi_list hl
theorem iTupK {tg l : Expr} {tl : TE} (h : X.K = K) (hl : PE X l tl) : PI X tg l (iTup K tl) := by subst h; exact pi_tup hl
theorem lenSetK {a : Expr} {ta : TE} {p p2 q pos : Pos} (h : X.K = K) (hg : Gl X "len") (hm : X.mg "len" = none) (hg2 : Gl X "set") (hm2 : X.mg "set" = none) (ha : PE X a ta) (hc : X.calm = true := by rfl)
    (na : starEach [a] X.env = (false, eval a X.env) :: starEach [] X.env := by rfl) : PE X (.Call (.Name "len" p) [.Call (.Name "set" p2) [a] [] q] [] pos) (tLenSetG K ta) := by subst h; exact pe_lenSetG hg hm hg2 hm2 ha hc na
end
end MyG

set_option maxHeartbeats 2000000
/-! == and != where an instance with an own __eq__ stands on one side. -/
namespace MyG
open PySem PySem.Spec PyProof.Rows
section
variable {prog : Program} {w : World} {A : Around} {E : Value → Shared → Prop} {h : Heap} {g : Array GenState} {d : Drawn} {t : Nat} {os : OsState} {x C dx : Addr} {Q : Value → Shared → Prop}
/-- what the built-in == says of an instance on its right: it declines -/
def Declines (prog : Program) (w : World) (A : Around) (h : Heap) (id : String) (u : Value) (x : Addr) : Prop :=
  ∀ (E : Value → Shared → Prop) (Q : Value → Shared → Prop) (g : Array GenState) (d : Drawn) (t : Nat) (os : OsState), (∀ tk, Q .notImplemented ⟨h, g, d, tk, os⟩) → wpAny (model prog w) A (call (.builtin id) [u, .ref x]) Q E ⟨h, g, d, t, os⟩
theorem dec_none : Declines prog w A h "NoneType.__eq__" .none x := by
  intro E Q g d t os q
  refine wpAny_call_entry F.slot_NoneType_eq (typeIs_none _) F.entry_NoneType_eq ?_ (F.args_NoneType_eq_2 _ _)
  unfold Builtin.«NoneType.__eq__»
  repeat wp_step
  all_goals exact ⟨_, rfl, q _⟩
theorem dec_int {i : Int} {tk : Tok} (hx : h.get? x = some (PySem.W.instObj C dx)) : Declines prog w A h "int.__eq__" (.int i tk) x := by
  intro E Q g d t os q
  refine wpAny_call_entry F.slot_int_eq (typeIs_int _ _ _) F.entry_int_eq ?_ (F.args_int_eq_2 _ _)
  unfold Builtin.«int.__eq__»
  repeat wp_step
  all_goals exact ⟨_, rfl, q _⟩
theorem dec_bool {b : Bool} (hx : h.get? x = some (PySem.W.instObj C dx)) : Declines prog w A h "int.__eq__" (.bool b) x := by
  intro E Q g d t os q
  refine wpAny_call_entry F.slot_bool_eq (PySem.typeIs_bool _ _) F.entry_int_eq ?_ (F.args_int_eq_2 _ _)
  unfold Builtin.«int.__eq__»
  repeat wp_step
  all_goals exact ⟨_, rfl, q _⟩
theorem dec_str {y : Str} {tk : Tok} (hx : h.get? x = some (PySem.W.instObj C dx)) : Declines prog w A h "str.__eq__" (.str y tk) x := by
  intro E Q g d t os q
  refine wpAny_call_entry F.slot_str_eq (typeIs_str _ _ _) F.entry_str_eq ?_ (F.args_str_eq_2 _ _)
  unfold Builtin.«str.__eq__» Builtin.Str.strCompare
  repeat wp_step
  all_goals exact ⟨_, rfl, q _⟩
theorem inst_not {T : String} (hx : h.get? x = some (PySem.W.instObj C dx)) (hs : PySem.W.Looks (model prog w) h (isSubtype (.ref C) (.type T)) false) {A : Around} {E : Value → Shared → Prop} {Q : Bool → Shared → Prop} (q : Q false ⟨h, g, d, t, os⟩) :
    wpAny (model prog w) A (isInstance (.ref x) (.type T)) Q E ⟨h, g, d, t, os⟩ := by
  unfold isInstance
  exact wpAny_bind (wpAny_typeOf_ref hx (hs.at q))
theorem dec_list {l : Addr} {o : Obj} (hl : h.get? l = some o) (hlc : o.cls = .type "list") (hx : h.get? x = some (PySem.W.instObj C dx)) (hs : PySem.W.Looks (model prog w) h (isSubtype (.ref C) (.type "list")) false) : Declines prog w A h "list.__eq__" (.ref l) x := by
  intro E Q g d t os q
  refine wpAny_call_entry F.slot_list_eq ⟨_, hl, hlc⟩ F.entry_list_eq ?_ (F.args_list_eq_2 _ _)
  unfold Builtin.«list.__eq__»
  repeat (first | (refine wpAny_bind (m := isInstance (.ref x) (.type "list")) (inst_not hx hs ?_)) | wp_step)
  all_goals exact ⟨_, rfl, q _⟩
theorem dec_tuple {l : Addr} {o : Obj} (hl : h.get? l = some o) (hlc : o.cls = .type "tuple") (hx : h.get? x = some (PySem.W.instObj C dx)) (hs : PySem.W.Looks (model prog w) h (isSubtype (.ref C) (.type "tuple")) false) : Declines prog w A h "tuple.__eq__" (.ref l) x := by
  intro E Q g d t os q
  refine wpAny_call_entry F.slot_tuple_eq ⟨_, hl, hlc⟩ F.entry_tuple_eq ?_ (F.args_tuple_eq_2 _ _)
  unfold Builtin.«tuple.__eq__»
  repeat (first | (refine wpAny_bind (m := isInstance (.ref x) (.type "tuple")) (inst_not hx hs ?_)) | wp_step)
  all_goals exact ⟨_, rfl, q _⟩
theorem dec_dict {l : Addr} {o : Obj} (hl : h.get? l = some o) (hlc : o.cls = .type "dict") (hx : h.get? x = some (PySem.W.instObj C dx)) (hs : PySem.W.Looks (model prog w) h (isSubtype (.ref C) (.type "dict")) false) : Declines prog w A h "dict.__eq__" (.ref l) x := by
  intro E Q g d t os q
  refine wpAny_call_entry F.slot_dict_eq ⟨_, hl, hlc⟩ F.entry_dict_eq ?_ (F.args_dict_eq_2 _ _)
  unfold Builtin.«dict.__eq__»
  repeat (first | (refine wpAny_bind (m := isInstance (.ref x) (.type "dict")) (inst_not hx hs ?_)) | wp_step)
  all_goals exact ⟨_, rfl, q _⟩
/-- u == x, u of a built-in type whose == declines, x an instance: the other way about, by its own -/
theorem rc_right {u : Value} {T id : String} {K : PySem.W.Frag} {f : Addr} (hT : ∀ s : Shared, s.heap = h → s.TypeIs u T) (hs1 : Slot T (cmpInfo .Eq).2.1 id) (dec : Declines prog w A h id u x) (KX : K.In h) (hx : h.get? x = some (PySem.W.instObj C dx))
    (hs : PySem.W.Looks (model prog w) h (isSubtype (.ref C) (.type T)) false) (he : PySem.W.findIn K (.ref C) "__eq__" = some (some (.ref f))) (hf : PySem.W.isFn K (.ref f) = true) (hu : A.units < cLine)
    (I : PySem.W.InstAt h x (PySem.W.instObj C dx) C none ∨ ∃ od, PySem.W.InstAt h x (PySem.W.instObj C dx) C (some od))
    (hcall : ∀ tk, wpAny (model prog w) A (call (.ref f) [.ref x, u]) (fun v s' => ∃ b, v = .bool b ∧ Q v s') E ⟨h, g, d, tk, os⟩) :
    wpAny (model prog w) A (richCompare .Eq u (.ref x)) Q E ⟨h, g, d, t, os⟩ := by
  obtain ⟨od, I⟩ : ∃ od, PySem.W.InstAt h x (PySem.W.instObj C dx) C od := by
    rcases I with I | ⟨od, I⟩
    · exact ⟨_, I⟩
    · exact ⟨_, I⟩
  unfold richCompare
  rw [(hT ⟨h, g, d, t, os⟩ rfl).oneThing_none]
  refine wpAny_holding (wpAny_bind (wpAny_cRoomFor hu ?_))
  rw [cmpInfo_Eq]
  dsimp only
  refine wpAny_bind (wpAny_typeOf (hT _ rfl) (wpAny_bind (wpAny_typeOf_ref hx ?_)))
  rw [show (Value.type T != (PySem.W.instObj C dx).cls) = true from rfl, if_pos rfl]
  refine wpAny_bind (hs.at ?_)
  simp only [Bool.false_eq_true, if_false, Bool.not_false, if_true]
  refine wpAny_bind (m := tryCompare u _ (.ref x)) (wpAny_tryCompare_declines (hT _ rfl) hs1 (dec _ _ _ _ _ _ fun tk => ⟨rfl, ?_⟩))
  refine wpAny_bind (m := tryCompare (.ref x) _ u) ?_
  unfold tryCompare
  refine wpAny_bind (PySem.W.ifBound_K (KX) I he hf (wpAny_mono (hcall tk) (fun v s' hv => ?_) fun _ _ e => e))
  obtain ⟨b, rfl, hq⟩ := hv
  exact wpAny_pure (wpAny_pure hq)
/-- x != b by the built-in !=, which asks the own == -/
theorem ne_own {b tb : Value} {K : PySem.W.Frag} {f : Addr} {od : Option Obj} (KX : K.In h) (I : PySem.W.InstAt h x (PySem.W.instObj C dx) C od) (hb : PySem.W.Looks (model prog w) h (typeOf b) tb) (hn : PySem.W.notFirst K C tb = true)
    (he : PySem.W.findIn K (.ref C) "__eq__" = some (some (.ref f))) (hf : PySem.W.isFn K (.ref f) = true) (hne : PySem.W.findIn K (.ref C) "__ne__" = some (some (.builtin "object.__ne__"))) (hob : PySem.W.subIn K (.ref C) (.type "object") = some true) (hu : A.units + 1 < cLine)
    (hcall : ∀ tk, wpAny (model prog w) A.in1 (call (.ref f) [.ref x, b]) (fun v s' => ∃ k, v = .bool k ∧ Q (.bool (!k)) s') E ⟨h, g, d, tk, os⟩) :
    wpAny (model prog w) A (richCompare .NotEq (.ref x) b) Q E ⟨h, g, d, t, os⟩ := by
  have hx := I.at_
  -- the built-in's own body
  have body : ∀ tk, wpAny (model prog w) A.in1 (Builtin.«object.__ne__» ⟨[.ref x, b], []⟩) (fun fin s' => ∃ k, fin = .done (.ret (.bool k)) ∧ Q (.bool k) s') E ⟨h, g, d, tk, os⟩ := by
    intro tk
    unfold Builtin.«object.__ne__»
    repeat (first
      | with_reducible refine wpAny_cRoomFor hu ?_
      | (refine wpAny_bind (m := callSpecialIfBound? (.ref x) (Str.ofString "__eq__") [b]) (PySem.W.ifBound_K KX I he hf (wpAny_mono (hcall _) (fun r s' hr => by
            obtain ⟨k, rfl, hq⟩ := hr
            repeat (first | exact ⟨_, rfl, hq⟩ | (refine wpAny_bind (m := truthy (.bool _)) (wpAny_truthy_bool ?_)) | wp_step)) fun _ _ e => e)))
      | wp_step)
  have chk : ∀ tk {Q' : Unit → Shared → Prop} {E' : Value → Shared → Prop}, Q' () ⟨h, g, d, tk, os⟩ → wpAny (model prog w) A.in1 (checkBuiltinCall "object.__ne__" ⟨[.ref x, b], []⟩) Q' E' ⟨h, g, d, tk, os⟩ := by
    intro tk Q' E' hq
    simp only [checkBuiltinCall, F.cmpKind_ne, F.cmpSplit_ne]
    refine wpAny_bind ?_
    · unfold isInstance
      repeat (first | (with_reducible refine wpAny_loadPart_at hx ?_) | wp_step)
      refine (PySem.W.looks_subIn KX hob).at ?_
      simp only [Bool.not_true, Bool.false_eq_true, if_false]
      have ha := F.cmpArgs_ne (.ref x) b
      cases hsig : Manifest.signature? "object.__ne__" with
      | none => exact wpAny_pure hq
      | some sig =>
        simp only [argsOk, hsig] at ha
        have h2 : Bind.checkArgs "object.__ne__" sig ⟨[.ref x, b], []⟩ = pure () := ha
        show wpAny _ _ (Bind.checkArgs "object.__ne__" sig ⟨[.ref x, b], []⟩) Q' E' _
        rw [h2]
        exact wpAny_pure hq
  have one : ∀ tk, wpAny (model prog w) A (tryCompare (.ref x) "__ne__" b) (fun r s' => ∃ k, r = some (.bool k) ∧ Q (.bool k) s') E ⟨h, g, d, tk, os⟩ := by
    intro tk
    unfold tryCompare
    have inner : ∀ tk, wpAny (model prog w) A (call (.builtin "object.__ne__") [.ref x, b]) (fun v s' => ∃ k, v = .bool k ∧ Q (.bool k) s') E ⟨h, g, d, tk, os⟩ := by
      intro tk
      refine wpAny_call (codeAny_call_builtin F.slot_range_iterator_ne.plain F.cmpEntry_ne (chk tk ?_))
      refine wpAny_mono (body tk) (fun fin s' hf => ?_) fun _ _ e => e
      obtain ⟨k, rfl, hq⟩ := hf
      exact ⟨k, rfl, hq⟩
    refine wpAny_bind (m := callSpecialIfBound? (.ref x) "__ne__" [b]) ?_
    simp only [callSpecialIfBound?, bindSpecialIfBound?]
    refine wpAny_holding (wpAny_bind (wpAny_bind (wpAny_bind (I.type.at ((PySem.W.looks_findIn KX hne).at ?_)))))
    simp only [F.slot_range_iterator_ne.bind]
    refine wpAny_bind (wpAny_askSetting (wpAny_ite ?_))
    have fin : ∀ tk, wpAny (model prog w) A (call (.builtin "object.__ne__") ([.ref x] ++ [b]) >>= fun v => pure (some v)) (fun a s' => wpAny (model prog w) A (match a with
        | some .notImplemented | none => pure none
        | some v => pure (some v)) (fun r s' => ∃ k, r = some (.bool k) ∧ Q (.bool k) s') E s') E ⟨h, g, d, tk, os⟩ := fun tk =>
      wpAny_bind (wpAny_mono (inner tk) (fun v s' hv => by
        obtain ⟨k, rfl, hq⟩ := hv
        exact wpAny_pure (wpAny_pure ⟨k, rfl, hq⟩)) fun _ _ e => e)
    split
    · exact wpAny_bind (wpAny_pure (wpAny_pure (fin _)))
    · exact wpAny_tryCatch (wpAny_bind (wpAny_pure (wpAny_pure (fin _))))
  unfold richCompare
  simp only [oneThing_ref]
  refine wpAny_holding (wpAny_bind (wpAny_cRoomFor (Nat.lt_of_succ_lt hu) ?_))
  rw [cmpInfo_NotEq]
  dsimp only
  refine wpAny_bind (I.type.at (wpAny_bind (hb.at ?_)))
  by_cases q : (Value.ref C != tb) = true
  · rw [if_pos q]
    have e : PySem.W.subIn K tb (.ref C) = some false := by
      rcases Bool.or_eq_true_iff.mp hn with e | e
      · rw [beq_iff_eq.mp e] at q
        simp at q
      · exact beq_iff_eq.mp e
    refine wpAny_bind ((PySem.W.looks_subIn KX e).at ?_)
    simp only [Bool.false_eq_true, if_false]
    refine wpAny_bind (wpAny_mono (one _) (fun r s' hr => ?_) fun _ _ e => e)
    obtain ⟨k, rfl, hq⟩ := hr
    exact wpAny_pure hq
  · rw [if_neg q]
    refine wpAny_bind (wpAny_pure ?_)
    simp only [Bool.false_eq_true, if_false]
    refine wpAny_bind (wpAny_mono (one _) (fun r s' hr => ?_) fun _ _ e => e)
    obtain ⟨k, rfl, hq⟩ := hr
    exact wpAny_pure hq
end
end MyG

/-! ### the same over the layer -/
namespace MyG
open PySem PySem.Spec PyProof.Rows L2 Evl
/-- what is written of a class with an own __eq__ (f) and no own __ne__ -/
structure EqC (K : PySem.W.Frag) (C f : Addr) : Prop where
  he : PySem.W.findIn K (.ref C) "__eq__" = some (some (.ref f))
  hf : PySem.W.isFn K (.ref f) = true
  ne : PySem.W.findIn K (.ref C) "__ne__" = some (some (.builtin "object.__ne__"))
  ob : PySem.W.subIn K (.ref C) (.type "object") = some true
  no : ∀ T ∈ kinds7, PySem.W.subIn K (.ref C) (.type T) = some false
/-- an instance of the class at C, or a thing of a built-in kind -/
def AnyI (C : Addr) (H : Hp) (y : V) : Prop := (∃ t, AnyT H y t) ∨ ∃ b dy gs, y = .ref b ∧ H b = some (.ins C dy gs)
theorem mro7 : (kinds7.all fun t => match fastBuiltinMro t with
  | some l => l.all fun v => match v with
    | .ref _ => false
    | _ => true
  | none => false) = true := by decide +kernel
theorem first7 {K : PySem.W.Frag} {C : Addr} {t : String} (h : t ∈ kinds7) : PySem.W.notFirst K C (.type t) = true := by
  have z := List.all_eq_true.mp mro7 t h
  unfold PySem.W.notFirst
  rw [Bool.or_eq_true]
  right
  show (((fastBuiltinMro t).map (·.contains (.ref C))) == some false) = true
  cases e : fastBuiltinMro t with
  | none => rw [e] at z; cases z
  | some l =>
    rw [e] at z
    have z' : ∀ v ∈ l, (match v with | .ref _ => false | _ => true) = true := List.all_eq_true.mp z
    have n : l.contains (.ref C) = false := by
      cases c : l.contains (.ref C) with
      | false => rfl
      | true =>
        have m := List.contains_iff_mem.mp c
        exact absurd (z' _ m) Bool.false_ne_true
    simp only [Option.map_some, n]
    rfl
section
variable {X : Cx} {pins : List (Addr × Obj)} {σ : L2.St} {H : Hp} {s : Shared} {C f : Addr} {fd : FuncData} {ps : List Str} {n : Nat} {sp : Sp} {CX : CXT} {E : XK}
theorem any_type {y : V} {v : Value} {t : String} (I : Inv X pins σ H s) (r : RelV y v) (a : AnyT H y t) : ∀ s' : Shared, s'.heap = s.heap → s'.TypeIs v t := by
  intro s' hs
  cases a with
  | non => cases (show v = Value.none from r); exact typeIs_none _
  | bl b => cases (show v = Value.bool b from r); exact PySem.typeIs_bool _ _
  | int i => obtain ⟨k, rfl⟩ := (show ∃ k, v = Value.int i k from r); exact typeIs_int _ _ _
  | str x => obtain ⟨k, rfl⟩ := (show ∃ k, v = Value.str x k from r); exact typeIs_str _ _ _
  | @lst a xs h =>
    cases (show v = Value.ref a from r)
    obtain ⟨_, _, k, _, e⟩ := I.hok a _ h
    exact ⟨_, by rw [hs]; exact e, rfl⟩
  | @tup a xs h =>
    cases (show v = Value.ref a from r)
    obtain ⟨_, _, _, o, e, e2, _⟩ := I.hok a _ h
    exact ⟨o, by rw [hs]; exact e, e2⟩
  | @dK a xs h =>
    cases (show v = Value.ref a from r)
    obtain ⟨_, _, _, _, o, _, _, e, e2, _⟩ := I.hok a _ h
    exact ⟨o, by rw [hs]; exact e, e2.1⟩
theorem any_looks {y : V} {v : Value} {M : Model} {t : String} (I : Inv X pins σ H s) (r : RelV y v) (a : AnyT H y t) : PySem.W.Looks M s.heap (typeOf v) (.type t) := by
  intro A Q E s' k q
  have J : s'.TypeIs v t := by
    cases a with
    | non => cases (show v = Value.none from r); exact typeIs_none _
    | bl b => cases (show v = Value.bool b from r); exact PySem.typeIs_bool _ _
    | int i => obtain ⟨k, rfl⟩ := (show ∃ k, v = Value.int i k from r); exact typeIs_int _ _ _
    | str x => obtain ⟨k, rfl⟩ := (show ∃ k, v = Value.str x k from r); exact typeIs_str _ _ _
    | @lst a xs h =>
      cases (show v = Value.ref a from r)
      obtain ⟨_, _, n, _, e⟩ := I.hok a _ h
      exact ⟨_, k _ _ e, rfl⟩
    | @tup a xs h =>
      cases (show v = Value.ref a from r)
      obtain ⟨_, _, _, o, e, e2, _⟩ := I.hok a _ h
      exact ⟨o, k _ _ e, e2⟩
    | @dK a xs h =>
      cases (show v = Value.ref a from r)
      obtain ⟨_, _, _, _, o, _, _, e, e2, _⟩ := I.hok a _ h
      exact ⟨o, k _ _ e, e2.1⟩
  exact wpAny_typeOf J q
def rEqL (C : Addr) (sp : Sp) (E : XK) : R2 := fun x y H Q => ∃ a dx fs, x = .ref a ∧ H a = some (.ins C dx fs) ∧ AnyI C H y ∧ sp [.ref a, y] H (fun v H' => ∃ k, v = .bl k ∧ Q (.bl k) H') E
def rNeL (C : Addr) (sp : Sp) (E : XK) : R2 := fun x y H Q => ∃ a dx fs, x = .ref a ∧ H a = some (.ins C dx fs) ∧ AnyI C H y ∧ sp [.ref a, y] H (fun v H' => ∃ k, v = .bl k ∧ Q (.bl (!k)) H') E
def rEqR (C : Addr) (sp : Sp) (E : XK) : R2 := fun y x H Q => ∃ a dx fs t, x = .ref a ∧ H a = some (.ins C dx fs) ∧ AnyT H y t ∧ sp [.ref a, y] H (fun v H' => ∃ k, v = .bl k ∧ Q (.bl k) H') E
/-- the own __eq__, called wherever there is room -/
theorem run_eq {A : Around} {v : Value} {y : V} {a : Addr} {Q : VK} (F : FnOk X.prog X.w X.K X.mg X.base CX n f fd ps sp) (room : Room n A) (fr : A.frames = X.A.frames) (hb : Binds X.K fd ps []) (hx : Passes CX X E) (I : Inv X pins σ H s) (r : RelV y v) (h : sp [.ref a, y] H Q E) :
    wpAny (model X.prog X.w) A (call (.ref f) [.ref a, v]) (EP X pins σ Q) X.xe s := by
  have e0 : Env0 X.prog X.w X.K X.mg X.base A X.stack s H := { I.env0 with frames := by rw [fr]; exact I.env0.frames }
  have rel : Vals [V.ref a, y] [Value.ref a, v] := .cons rfl (.cons r .nil)
  have hl : [Value.ref a, v].length = ps.length := rel.length.symm.trans (F.len _ _ _ _ h)
  have b := hb s [Value.ref a, v] I.kIn (by rw [List.append_nil]; exact hl)
  rw [List.append_nil] at b
  refine wpAny_call (codeAny_mono (F.run A X.stack s H ⟨[.ref a, v], []⟩ [.ref a, v] [.ref a, y] Q E room e0 b rel h) (fun r s' hq => ?_))
  match r, hq with
  | .error e, hq => exact hx pins σ H s e s' I hq
  | .ok (.ret u), hq => exact I.after hq
theorem op_eqL (c : EqC X.K C f) (F : FnOk X.prog X.w X.K X.mg X.base CX n f fd ps sp) (room : Room n X.A) (hb : Binds X.K fd ps []) (hx : Passes CX X E) : OpR X (compareOp .Eq) (rEqL C sp E) := by
  intro pins s σ H x y v u Q I rx ry h
  obtain ⟨a, dx, fs, rfl, ha, hy, hs⟩ := h
  cases rx
  obtain ⟨mA, J, _⟩ := ins_get I.hok ha
  obtain ⟨od, J, _⟩ := J.look
  obtain ⟨m, hF⟩ := I.fr
  show wpAny (model X.prog X.w) X.A (richCompare .Eq (.ref a) u) (EP X pins σ Q) X.xe s
  have go : wpAny (model X.prog X.w) X.A (call (.ref f) [.ref a, u]) (PySem.W.CmpBack (EP X pins σ Q)) X.xe s := by
    refine wpAny_mono (run_eq F room rfl hb hx I ry hs) (fun w s' hw => ?_) fun _ _ e => e
    obtain ⟨z, H', I', rz, k, rfl, hq⟩ := hw
    cases rz
    exact ⟨.bl k, H', I', rfl, hq⟩
  rcases hy with ⟨t, ht⟩ | ⟨b, dy, gs, rfl, hb'⟩
  · exact PySem.W.cmp_K (op := .Eq) (tb := .type t) room.units0 hF I.ok.mod.kin J (any_looks I ry ht) (first7 ht.mem) c.he c.hf go
  · cases ry
    obtain ⟨mB, J', _⟩ := ins_get I.hok hb'
    obtain ⟨od', J', _⟩ := J'.look
    exact PySem.W.cmp_K (op := .Eq) (tb := .ref C) room.units0 hF I.ok.mod.kin J J'.type (by simp [PySem.W.notFirst]) c.he c.hf go
theorem op_neL (c : EqC X.K C f) (F : FnOk X.prog X.w X.K X.mg X.base CX n f fd ps sp) (room : Room (n + 1) X.A) (hb : Binds X.K fd ps []) (hx : Passes CX X E) : OpR X (compareOp .NotEq) (rNeL C sp E) := by
  intro pins s σ H x y v u Q I rx ry h
  obtain ⟨a, dx, fs, rfl, ha, hy, hs⟩ := h
  cases rx
  obtain ⟨mA, J, _⟩ := ins_get I.hok ha
  obtain ⟨od, J, _⟩ := J.look
  show wpAny (model X.prog X.w) X.A (richCompare .NotEq (.ref a) u) (EP X pins σ Q) X.xe s
  have un := room.units
  obtain ⟨hp, g, d, tk, os⟩ := s
  have go : ∀ tk', wpAny (model X.prog X.w) X.A.in1 (call (.ref f) [.ref a, u]) (fun v s' => ∃ k, v = .bool k ∧ EP X pins σ Q (.bool (!k)) s') X.xe ⟨hp, g, d, tk', os⟩ := by
    intro tk'
    refine wpAny_mono (run_eq F room.in1 rfl hb hx (I.tok tk') ry hs) (fun w s' hw => ?_) fun _ _ e => e
    obtain ⟨z, H', I', rz, k, rfl, hq⟩ := hw
    cases rz
    exact ⟨k, rfl, .bl (!k), H', I', rfl, hq⟩
  rcases hy with ⟨t, ht⟩ | ⟨b, dy, gs, rfl, hb'⟩
  · exact ne_own (tb := .type t) I.kIn J (any_looks I ry ht) (first7 ht.mem) c.he c.hf c.ne c.ob (by omega) go
  · cases ry
    obtain ⟨mB, J', _⟩ := ins_get I.hok hb'
    obtain ⟨od', J', _⟩ := J'.look
    exact ne_own (tb := .ref C) I.kIn J J'.type (by simp [PySem.W.notFirst]) c.he c.hf c.ne c.ob (by omega) go
theorem op_eqRt (c : EqC X.K C f) (F : FnOk X.prog X.w X.K X.mg X.base CX n f fd ps sp) (room : Room n X.A) (hb : Binds X.K fd ps []) (hx : Passes CX X E) : OpR X (compareOp .Eq) (rEqR C sp E) := by
  intro pins s σ H y x u v Q I ry rx h
  obtain ⟨a, dx, fs, t, rfl, ha, ht, hs⟩ := h
  cases rx
  obtain ⟨mA, J, _⟩ := ins_get I.hok ha
  obtain ⟨od, J, _⟩ := J.look
  have un := room.units0
  have hT := any_type I ry ht
  have sub := PySem.W.looks_subIn (M := model X.prog X.w) I.kIn (c.no t ht.mem)
  show wpAny (model X.prog X.w) X.A (richCompare .Eq u (.ref a)) (EP X pins σ Q) X.xe s
  have hx' := J.at_
  have ok := I.hok
  obtain ⟨hp, g, d, tk, os⟩ := s
  have go : ∀ tk', wpAny (model X.prog X.w) X.A (call (.ref f) [.ref a, u]) (fun v s' => ∃ k, v = .bool k ∧ EP X pins σ Q v s') X.xe ⟨hp, g, d, tk', os⟩ := by
    intro tk'
    refine wpAny_mono (run_eq F room rfl hb hx (I.tok tk') ry hs) (fun w s' hw => ?_) fun _ _ e => e
    obtain ⟨z, H', I', rz, k, rfl, hq⟩ := hw
    cases rz
    exact ⟨k, rfl, .bl k, H', I', rfl, hq⟩
  have fin : ∀ {id : String}, Slot t (cmpInfo .Eq).2.1 id → Declines X.prog X.w X.A hp id u a → wpAny (model X.prog X.w) X.A (richCompare .Eq u (.ref a)) (EP X pins σ Q) X.xe ⟨hp, g, d, tk, os⟩ := fun {id} sl dec =>
    rc_right hT sl dec I.kIn hx' sub c.he c.hf un (.inr ⟨_, J⟩) go
  cases ht with
  | non => cases (show u = Value.none from ry); exact fin PySem.F.slot_NoneType_eq dec_none
  | bl b => cases (show u = Value.bool b from ry); exact fin PySem.F.slot_bool_eq (dec_bool hx')
  | int i => obtain ⟨k, rfl⟩ := (show ∃ k, u = Value.int i k from ry); exact fin PySem.F.slot_int_eq (dec_int hx')
  | str z => obtain ⟨k, rfl⟩ := (show ∃ k, u = Value.str z k from ry); exact fin PySem.F.slot_str_eq (dec_str hx')
  | @lst b xs h =>
    cases (show u = Value.ref b from ry)
    obtain ⟨_, _, k, _, e⟩ := ok b _ h
    exact fin PySem.F.slot_list_eq (dec_list e rfl hx' sub)
  | @tup b xs h =>
    cases (show u = Value.ref b from ry)
    obtain ⟨_, _, _, o, e, e2, _⟩ := ok b _ h
    exact fin PySem.F.slot_tuple_eq (dec_tuple e e2 hx' sub)
  | @dK b xs h =>
    cases (show u = Value.ref b from ry)
    obtain ⟨_, _, _, _, o, _, _, e, e2, _⟩ := ok b _ h
    exact fin PySem.F.slot_dict_eq (dec_dict e e2.1 hx' sub)
end
end MyG

set_option maxHeartbeats 2000000
/-! x in [y], both instances with an own __eq__. -/
namespace MyG
open PySem PySem.SeqAt
open AutoSeq1 (wpAny_loadPart')
open MeetsSeq MeetsSeq2 MeetsSeq3 SeqRoads2
section
variable {prog : Program} {w : World} {A : Around} {E : Value → Shared → Prop} {R : Result → Shared → Prop}
theorem end_loop {l : Addr} {items : Array Value} {x : Value} {i n : Nat} {s : Shared} (hl : s.heap.get? l = some { cls := .type "list", data := .seq items n }) (hi : items[i]? = none) (h : ∀ tk, R (.ok (.ret (.bool false))) { s with toks := tk }) :
    wpAny (model prog w) A.in1 (Builtin.«list.__contains__.loop» ⟨[.ref l, x, rawInt (i : Int)], []⟩) (GQ.FinOf prog w A R) (fun e s' => R (.error e) s') s := by
  obtain ⟨hp, g, d, tk, os⟩ := s
  wp_walk using wpAny_loadPart' hl
  have hi' : items[((i : Nat) : Int).toNat]? = none := by simpa using hi
  rw [hi']
  wp_walk
  exact h _
theorem one_loop {l : Addr} {items : Array Value} {u x : Value} {i n : Nat} {s : Shared} (hl : s.heap.get? l = some { cls := .type "list", data := .seq items n }) (hi : items[i]? = some u)
    (he : ∀ tk, wpAny (model prog w) A.in1 (eqBool u x) (fun k s' => (∃ (its : Array Value) (m : Nat), s'.heap.get? l = some { cls := .type "list", data := .seq its m } ∧ its[i + 1]? = none) ∧ ∀ tk', R (.ok (.ret (.bool k))) { s' with toks := tk' }) (fun e s' => R (.error e) s') { s with toks := tk }) :
    wpAny (model prog w) A.in1 (Builtin.«list.__contains__.loop» ⟨[.ref l, x, rawInt (i : Int)], []⟩) (GQ.FinOf prog w A R) (fun e s' => R (.error e) s') s := by
  obtain ⟨hp, g, d, tk, os⟩ := s
  wp_walk using wpAny_loadPart' hl
  have hi' : items[((i : Nat) : Int).toNat]? = some u := by simpa using hi
  rw [hi']
  refine wpAny_bind (wpAny_mono (he _) (fun k s' hk => ?_) fun _ _ e => e)
  obtain ⟨⟨its, m, hv, hn⟩, hR⟩ := hk
  cases k with
  | true =>
    obtain ⟨hp', g', d', tk', os'⟩ := s'
    wp_walk
    exact hR _
  | false =>
    obtain ⟨hp', g', d', tk', os'⟩ := s'
    have hc : ((i : Int) + 1) = ((i + 1 : Nat) : Int) := by push_cast; rfl
    wp_walk
    rw [hc]
    refine ⟨plainId_quiet plain_contains_loop _, codeAny_builtin entry_contains_loop ?_⟩
    rw [Around.under_plainId plain_contains_loop _]
    exact end_loop hv hn hR
theorem contains_one {l : Addr} {items : Array Value} {u x : Value} {n : Nat} {s : Shared} {Q : Value → Shared → Prop} (hl : s.heap.get? l = some { cls := .type "list", data := .seq items n }) (h0 : items[0]? = some u)
    (he : ∀ tk, wpAny (model prog w) A.in1 (eqBool u x) (fun k s' => (∃ (its : Array Value) (m : Nat), s'.heap.get? l = some { cls := .type "list", data := .seq its m } ∧ its[0 + 1]? = none) ∧ ∀ tk', Q (.bool k) { s' with toks := tk' }) E { s with toks := tk }) :
    wpAny (model prog w) A (compareOp .In x (.ref l)) Q E s := by
  show wpAny _ A (do return .bool (← contains (.ref l) x)) Q E s
  refine wpAny_bind (wpAny_contains_slot ⟨_, hl, rfl⟩ F.slot_list_contains (wpAny_mono (GQ.call_here (Q := fun v s' => ∃ k, v = .bool k ∧ ∀ tk', Q (.bool k) { s' with toks := tk' }) F.slot_list_contains ⟨_, hl, rfl⟩ F.entry_list_contains (F.args_list_contains_2 _ _) ?_) (fun v s' hv => ?_) fun _ _ e => e))
  · obtain ⟨hp, g, d, tk, os⟩ := s
    unfold Builtin.«list.__contains__»
    wp_walk
    refine ⟨plainId_quiet plain_contains_loop _, codeAny_builtin entry_contains_loop ?_⟩
    rw [Around.under_plainId plain_contains_loop _]
    exact one_loop (R := wants (fun v s' => ∃ k, v = .bool k ∧ ∀ tk', Q (.bool k) { s' with toks := tk' }) E) hl h0 (fun tk => wpAny_mono (he tk) (fun k s' hk => ⟨hk.1, fun tk' => ⟨k, rfl, hk.2⟩⟩) fun _ _ e => e)
  · obtain ⟨k, rfl, hq⟩ := hv
    exact wpAny_truthy_bool (wpAny_pure (hq _))
end
end MyG
namespace MyG
open PySem PySem.Spec PyProof.Rows L2 Evl
/-- x in [o]: o's own __eq__ is asked -/
def rInI (C : Addr) (sp : Sp) (E : XK) : R2 := fun x y H Q => ∃ a o p dx fs dy gs, x = .ref a ∧ y = .ref p ∧ H p = some (.lst [.ref o]) ∧ H a = some (.ins C dx fs) ∧ H o = some (.ins C dy gs) ∧ o ≠ a ∧
  sp [.ref o, .ref a] H (fun v H' => ∃ k, v = .bl k ∧ H' p = some (.lst [.ref o]) ∧ Q (.bl k) H') E
section
variable {X : Cx} {pins : List (Addr × Obj)} {σ : L2.St} {H : Hp} {s : Shared} {C f : Addr} {fd : FuncData} {ps : List Str} {n : Nat} {sp : Sp} {CX : CXT} {E : XK}
theorem op_inI (c : EqC X.K C f) (F : FnOk X.prog X.w X.K X.mg X.base CX n f fd ps sp) (room : Room (n + 1) X.A) (hb : Binds X.K fd ps []) (hx : Passes CX X E) : OpR X (compareOp .In) (rInI C sp E) := by
  intro pins s σ H x y v u Q I rx ry h
  obtain ⟨a, o, p, dx, fs, dy, gs, rfl, rfl, hp, ha, ho, hne, hs⟩ := h
  cases rx
  cases ry
  obtain ⟨_, us, k, rr, e⟩ := I.hok p _ hp
  obtain ⟨u0, rfl, h0⟩ : ∃ u0, us = [u0] ∧ u0 = Value.ref o := by
    cases rr with
    | cons r t =>
      cases t
      cases r
      exact ⟨_, rfl, rfl⟩
  subst h0
  refine contains_one (items := _) e (u := .ref o) rfl (fun tk => ?_)
  have I' := I.tok tk
  obtain ⟨mB, J, _⟩ := ins_get I'.hok ho
  obtain ⟨od, J, _⟩ := J.look
  obtain ⟨mA, J2, _⟩ := ins_get I'.hok ha
  obtain ⟨od2, J2, _⟩ := J2.look
  obtain ⟨m, hF⟩ := I'.fr
  refine GQ.eqBool_refG hne ?_
  refine PySem.W.cmp_K (op := .Eq) (tb := .ref C) room.in1.units0 hF I'.ok.mod.kin J J2.type (by simp [PySem.W.notFirst]) c.he c.hf ?_
  refine wpAny_mono (run_eq F room.in1 rfl hb hx I' (y := .ref a) (show RelV (V.ref a) (Value.ref a) from rfl) hs) (fun w s' hw => ?_) fun _ _ e => e
  obtain ⟨z, H', I'', rz, k, rfl, hl, hq⟩ := hw
  cases rz
  obtain ⟨_, vs, m', rr', e'⟩ := I''.hok p _ hl
  refine ⟨k, rfl, ⟨_, _, e', ?_⟩, fun tk' => ⟨.bl k, H', I''.tok tk', rfl, hq⟩⟩
  cases rr' with
  | cons r t =>
    cases t
    rfl
end
end MyG

set_option maxHeartbeats 2000000
/-! isinstance of an own class, data alike, lists cut. -/
namespace MyG
open PySem PySem.Spec PyProof.Rows L2 Evl
/-- what isinstance asks of a class -/
structure IsiC (K : PySem.W.Frag) (C : Addr) : Prop where
  ca : PySem.W.findIn K (.ref C) "__class__" = some (some (.builtin "object.__class__"))
  cn : PySem.W.specialIn K (.builtin "object.__class__") "__get__" = some (some (.builtin "getset_descriptor.__get__"))
  ct : PySem.W.takesIn K (.builtin "object.__class__") = some true
  cm : PySem.W.mroIn K C (.type "object") = some true
  ko : ∀ T ∈ kinds7, PySem.W.kitOne K (.type T) (.ref C) = some false
theorem all7 {P : String → Prop} (h1 : P "NoneType") (h2 : P "bool") (h3 : P "int") (h4 : P "str") (h5 : P "list") (h6 : P "tuple") (h7 : P "dict") : ∀ T ∈ kinds7, P T := by
  intro T h
  simp only [kinds7, List.mem_cons, List.not_mem_nil, or_false] at h
  rcases h with rfl | rfl | rfl | rfl | rfl | rfl | rfl <;> assumption
theorem kit_self {K : PySem.W.Frag} {C : Addr} : PySem.W.kitOne K (.ref C) (.ref C) = some true := by
  unfold PySem.W.kitOne
  rw [if_pos (beq_self_eq_true _)]
theorem isi_ins {K : PySem.W.Frag} {H : Hp} {C a dx : Addr} {fs : List (Str × V)} {Q : VK} (q : IsiC K C) (cl : Cls K C) (h : H a = some (.ins C dx fs)) (k : Q (.bl true) H) : rIsi K [.ref a, .ref C] H Q :=
  ⟨.ref a, .ref C, .ref C, .ref C, true, rfl, .own C, .base (.ins h cl q.ca q.cn q.ct q.cm), kit_self, k⟩
theorem isi_no {K : PySem.W.Frag} {H : Hp} {C : Addr} {x : V} {t : String} {Q : VK} (q : IsiC K C) (h : AnyT H x t) (k : Q (.bl false) H) : rIsi K [x, .ref C] H Q :=
  ⟨x, .ref C, .type t, .ref C, false, rfl, .own C, h.ty, q.ko t h.mem, k⟩
theorem revLK {X : Cx} {K : PySem.W.Frag} {e : Expr} {te : TE} {k : Nat} {p1 p2 p3 pos : Pos} (h : X.K = K) (he : PE X e te) : PE X (.Subscript e (.Slice none none (some (.UnaryOp .USub (.Constant (.int 1) k p1) p2)) p3) pos) (tRevL K te) := by subst h; exact pe_revL he
/-! ### data alike -/
theorem eqv_int (a b : Int) : PyData.eqv (.int a) (.int b) = decide (a = b) := by
  unfold PyData.eqv
  first | rfl | simp
theorem eqvAll_ints : ∀ ns ms : List Int, PyData.eqvAll (ns.map PyData.int) (ms.map PyData.int) = decide (ns = ms)
  | [], [] => by simp [PyData.eqvAll]
  | [], m :: ms => by simp [PyData.eqvAll]
  | n :: ns, [] => by simp [PyData.eqvAll]
  | n :: ns, m :: ms => by
    simp only [List.map_cons, PyData.eqvAll, eqvAll_ints ns ms, eqv_int]
    by_cases h : n = m <;> simp [h]
theorem eqv_ints (ns ms : List Int) : PyData.eqv (.list (ns.map PyData.int)) (.list (ms.map PyData.int)) = decide (ns = ms) := by
  rw [← eqvAll_ints]
  simp only [PyData.eqv]
end MyG

set_option maxHeartbeats 2000000
/-! More values that are known: len, list, sorted, repr, lists put together. -/
namespace MyG
open PySem PySem.Spec PyProof.Rows L2 Evl
section
variable {K : PySem.W.Frag} {σ : L2.St} {H : Hp} {ta tb te : TE}
theorem ev_lenQ {p : Addr} {xs : List V} (ha : Ev te σ H (.ref p)) (h : H p = some (.lst xs)) : Ev (tCB (rLenQ K) (tCons te tNil)) σ H (.int (xs.length : Int)) := fun H1 e Q q =>
  ha H1 e _ fun H2 e2 => ⟨p, xs, rfl, .inl (SqL.of ((e.trans e2) _ _ h)), q H2 e2⟩
theorem el_cat {a : Addr} {xs zs : List V} (h1 : Ev ta σ H (.ref a)) (ha : H a = some (.lst xs)) (h2 : ∀ H1, Ex H H1 → EvL tb σ H1 zs) (hl : xs.length + zs.length ≤ 1000) : EvL (tOp rCat ta tb) σ H (xs ++ zs) := fun H1 e Q q =>
  h1 H1 e _ fun H2 e2 => h2 H2 (e.trans e2) H2 (Ex.refl _) _ fun p H3 hp e3 h3 => ⟨a, p, xs, zs, rfl, rfl, e3 _ _ (e2 _ _ (e _ _ ha)), h3, Nat.le_of_lt (small1000 hl), fun t ht => q t _ (fresh_back (e2.trans e3) ht) ((e2.trans e3).trans (Ex.new ht)) upd_same⟩
theorem un_tup {as : TA} {Q : VK} (h : as σ H fun xs H1 => xs.length ≤ sizeLine ∧ ∀ p, H1 p = none → Q (.ref p) (upd H1 p (.tup xs))) : tTup as σ H Q := h
theorem el_listQ {p : Addr} {xs : List V} (ha : Ev te σ H (.ref p)) (h : H p = some (.lst xs)) : EvL (tCB (rListQ K) (tCons te tNil)) σ H xs := fun H1 e Q q =>
  ha H1 e _ fun H2 e2 => ⟨p, xs, rfl, .inl (SqL.of ((e.trans e2) _ _ h)), fun l hl => q l _ (fresh_back e2 hl) (e2.trans (Ex.new hl)) upd_same⟩
theorem el_revL {p : Addr} {xs : List V} (ha : Ev te σ H (.ref p)) (h : H p = some (.lst xs)) : EvL (tRevL K te) σ H xs.reverse := fun H1 e Q q =>
  ha H1 e _ fun H2 e2 => ⟨p, xs, rfl, SqL.of ((e.trans e2) _ _ h), fun l hl => q l _ (fresh_back e2 hl) (e2.trans (Ex.new hl)) upd_same⟩
theorem el_sorted {p : Addr} {ns qs : List Int} (ha : Ev te σ H (.ref p)) (h : H p = some (.lst (ns.map V.int))) (hl : ns.length < 64) (pm : qs.Perm ns) (so : qs.Pairwise (· ≤ ·)) : EvL (tCB (rSorted K) (tCons te tNil)) σ H (qs.map V.int) := fun H1 e Q q =>
  ha H1 e _ fun H2 e2 => ⟨p, ns, rfl, SqL.of ((e.trans e2) _ _ h), hl, fun ns' l pm' so' hl' => by
    obtain rfl : ns' = qs := PySem.W.ksm_same (pm'.trans pm.symm) so' so
    exact q l _ (fresh_back e2 hl') (e2.trans (Ex.new hl')) upd_same⟩
theorem ev_reprL {xs : List V} {ds : List PyData} {k L : Nat} (ha : EvL te σ H xs) (hd : ∀ H1, Ex H H1 → DpAll K H1 xs ds) (s : Small (.list ds) k L) (hk : k ≤ 40 := by decide) (hL : L ≤ 16000000 := by decide) : Ev (tCB (rReprD K) (tCons te tNil)) σ H (.str (PyData.shown (.list ds))) := fun H1 e Q q =>
  ha H1 e _ fun p H2 hp e2 h2 => ⟨.ref p, .list ds, rfl, .lst (SqL.of h2) (hd H2 (e.trans e2)), s.sh, s.nd, Nat.le_trans s.dp hk, Nat.le_trans (Nat.le_trans s.ln hL) (by rw [sizeLine_eq]; decide), q H2 e2⟩
theorem ev_repr {x : V} {d : PyData} {k L : Nat} (ha : Ev te σ H x) (hd : ∀ H1, Ex H H1 → Dp K H1 x d) (s : Small d k L) (hk : k ≤ 40 := by decide) (hL : L ≤ 16000000 := by decide) : Ev (tCB (rReprD K) (tCons te tNil)) σ H (.str (PyData.shown d)) := fun H1 e Q q =>
  ha H1 e _ fun H2 e2 => ⟨x, d, rfl, hd H2 (e.trans e2), s.sh, s.nd, Nat.le_trans s.dp hk, Nat.le_trans (Nat.le_trans s.ln hL) (by rw [sizeLine_eq]; decide), q H2 e2⟩
theorem dp_bls {H : Hp} : ∀ bs : List Bool, DpAll K H (bs.map V.bl) (bs.map PyData.bool)
  | [] => .nil
  | b :: bs => .cons (.bl b) (dp_bls bs)
end
theorem cut_lo (xs : List V) {k : Nat} (h : k ≤ xs.length) : cutV xs none (some (k : Int)) = xs.take k := by
  unfold cutV
  rw [HT.sIx_none, HT.sIx_nat, List.drop_zero]
  congr 1
  omega
theorem cut_hi (xs : List V) {k : Nat} (h : k ≤ xs.length) : cutV xs (some (k : Int)) none = xs.drop k := by
  unfold cutV
  rw [HT.sIx_none, HT.sIx_nat, show min k xs.length = k by omega]
  rw [List.take_of_length_le (by rw [List.length_drop]; omega)]
theorem small_bool (b : Bool) : Small (.bool b) 0 10 := by
  refine ⟨rfl, rfl, Nat.le_refl _, ?_, rfl⟩
  cases b <;> decide +kernel
theorem small_bools {bs : List Bool} {N : Nat} (hl : bs.length ≤ N) : Small (.list (bs.map PyData.bool)) 1 (N * 12 + 3) := by
  have h := small_list (k := 0) (L := 10) (ds := bs.map PyData.bool) (fun d hd => by
    obtain ⟨x, _, rfl⟩ := List.mem_map.mp hd
    exact small_bool x)
  refine h.mono (Nat.le_refl _) ?_
  rw [List.length_map]
  have := Nat.mul_le_mul_right 12 hl
  omega
end MyG

set_option maxHeartbeats 2000000
/-! Letters: values of one of two classes, t[:0:-1], isinstance with a tuple of kinds. -/
namespace MyG
open PySem PySem.Spec PyProof.Rows L2 Evl HT
/-! ### one of two rules, as the value is -/
def tEi (t1 t2 : TE) : TE := fun σ H Q => t1 σ H Q ∨ t2 σ H Q
theorem pe_either {X : Cx} {e : Expr} {t1 t2 : TE} (h1 : PE X e t1) (h2 : PE X e t2) : PE X e (tEi t1 t2) := ⟨fun pins s σ H Q I h => h.elim (h1.run pins s σ H Q I) (h2.run pins s σ H Q I)⟩
section
variable {t1 t2 : TE} {σ : L2.St} {H : Hp}
theorem ei_l {Q : VK} (h : t1 σ H Q) : tEi t1 t2 σ H Q := .inl h
theorem ei_r {Q : VK} (h : t2 σ H Q) : tEi t1 t2 σ H Q := .inr h
theorem ev_l {v : V} (h : Ev t1 σ H v) : Ev (tEi t1 t2) σ H v := fun H1 e Q q => .inl (h H1 e Q q)
theorem ev_r {v : V} (h : Ev t2 σ H v) : Ev (tEi t1 t2) σ H v := fun H1 e Q q => .inr (h H1 e Q q)
theorem eu_l {xs : List V} (h : EvU t1 σ H xs) : EvU (tEi t1 t2) σ H xs := fun H1 e Q q => .inl (h H1 e Q q)
theorem eu_r {xs : List V} (h : EvU t2 σ H xs) : EvU (tEi t1 t2) σ H xs := fun H1 e Q q => .inr (h H1 e Q q)
end
/-! ### t[:0:-1], t a tuple -/
theorem fm_take {α : Type} (r : List α) : ∀ k, k ≤ r.length → (List.range k).filterMap (fun m => r[m]?) = r.take k
  | 0, _ => by simp
  | k + 1, h => by
    rw [List.range_succ, List.filterMap_append, fm_take r k (by omega), List.take_add_one]
    simp [List.getElem?_eq_getElem (show k < r.length by omega)]
theorem back_ix {α : Type} (l : List α) : ((List.range (l.length - 1)).filterMap fun (m : Nat) => l[(((l.length : Nat) : Int) - 1 + (m : Int) * -1).toNat]?) = (l.drop 1).reverse := by
  have e : (List.range (l.length - 1)).filterMap (fun (m : Nat) => l[(((l.length : Nat) : Int) - 1 + (m : Int) * -1).toNat]?) = (List.range (l.length - 1)).filterMap (fun m => l.reverse[m]?) := by
    have z := congrArg (List.filterMap id) (List.map_congr_left (l := List.range (l.length - 1)) (f := fun (m : Nat) => l[(((l.length : Nat) : Int) - 1 + (m : Int) * -1).toNat]?) (g := fun m => l.reverse[m]?) fun m hm => by
      have := List.mem_range.mp hm
      rw [List.getElem?_reverse (by omega)]
      congr 1
      omega)
    rw [List.filterMap_map, List.filterMap_map] at z
    exact z
  rw [e, fm_take _ _ (by rw [List.length_reverse]; omega), List.take_reverse]
  by_cases h : l.length = 0
  · rw [List.length_eq_zero_iff.mp h]; rfl
  · rw [show l.length - (l.length - 1) = 1 by omega]
section
variable {prog : Program} {w : World} {A : Around} {E : Value → Shared → Prop} {s : Shared}
theorem sliceApplied_back {sl : Addr} {vl vu vs : Value} {n : Nat} {Q : Int × Int × Nat → Shared → Prop} (hs : s.heap.IsSliceOf sl vl vu vs) (pl : IsPart vl none) (pu : IsPart vu (some 0)) (ps : IsPart vs (some (-1)))
    (h : Q (((n : Nat) : Int) - 1, -1, n - 1) s) : wpAny (model prog w) A (Builtin.Slice.sliceApplied (.ref sl) (pure (n : Int))) Q E s := by
  obtain ⟨os, hos, hcs, hds⟩ := id hs
  unfold Builtin.Slice.sliceApplied Builtin.Slice.sliceFields
  refine wpAny_bind (wpAny_bind (wpAny_field hos hds (x := vl) rfl (wpAny_bind (wpAny_field hos hds (x := vu) rfl (wpAny_bind (wpAny_field hos hds (x := vs) rfl (wpAny_pure ?_)))))))
  refine wpAny_bind (slicePart_ ps ?_)
  show wpAny _ _ (if ((-1 : Int) == 0) = true then _ else _) _ _ s
  rw [if_neg (by decide)]
  refine wpAny_bind (slicePart_ pl (wpAny_bind (slicePart_ pu (wpAny_bind (wpAny_pure ?_)))))
  have e : Builtin.Slice.sliceAdjust none (some 0) (-1) (n : Int) = ((n : Int) - 1, (if (0 : Int) ≤ (n : Int) - 1 then 0 else (n : Int) - 1)) := by
    unfold Builtin.Slice.sliceAdjust
    simp only [show ((-1 : Int) < 0) = True by simp, if_true, show ¬ ((0 : Int) < 0) by decide, if_false]
    congr 1
  have e2 : Builtin.Slice.slicePlaces ((n : Int) - 1) (if (0 : Int) ≤ (n : Int) - 1 then 0 else (n : Int) - 1) (-1) = n - 1 := by
    unfold Builtin.Slice.slicePlaces
    have h1 : ¬ ((-1 : Int) > 0) := by omega
    simp only [h1, if_false, show (-(-1) : Int) = 1 by rfl, Int.ediv_one]
    split <;> split <;> omega
  show wpAny _ _ (match Builtin.Slice.sliceAdjust none (some 0) (-1) (n : Int) with | (lo, hi) => pure (lo, (-1 : Int), Builtin.Slice.slicePlaces lo hi (-1))) _ _ s
  rw [e]
  show wpAny _ _ (pure ((n : Int) - 1, (-1 : Int), Builtin.Slice.slicePlaces ((n : Int) - 1) (if (0 : Int) ≤ (n : Int) - 1 then 0 else (n : Int) - 1) (-1))) _ _ s
  rw [e2]
  exact wpAny_pure h
theorem getItem_tuple_back {t sl : Addr} {items : Array Value} {vl vu vs : Value} {Q : Value → Shared → Prop} (ht : IsTup s.heap t items) (hs : s.heap.IsSliceOf sl vl vu vs) (pl : IsPart vl none) (pu : IsPart vu (some 0)) (ps : IsPart vs (some (-1)))
    (h : Q (.ref s.heap.objs.size) { s with heap := s.heap.push { cls := .type "tuple", data := .seq ((items.toList.drop 1).reverse).toArray } })
    (hsz : items.size ≤ sizeLine) : wpAny (model prog w) A (getItem (.ref t) (.ref sl)) Q E s := by
  have htake : sizeOk (.seq ((items.toList.drop 1).reverse).toArray) := by
    show ((items.toList.drop 1).reverse).toArray.size ≤ sizeLine
    rw [List.size_toArray, List.length_reverse, List.length_drop, Array.length_toList]
    omega
  obtain ⟨os, hos, hcs, hds⟩ := id hs
  have hTs : s.TypeIs (.ref sl) "slice" := ⟨os, hos, hcs⟩
  unfold getItem
  try with_reducible refine wpAny_holding ?_
  first | refine wpAny_bind (wpAny_pure ?_) | skip
  refine wpAny_bind (wpAny_sequenceKey ht.typeIs (by decide) ?_)
  refine wpAny_bind (wpAny_callSpecial?_slot (name := Str.ofString "__getitem__") ht.typeIs PyProof.Rows.slot_tuple_getitem
    (wpAny_call_entry PyProof.Rows.slot_tuple_getitem ht.typeIs entry_tuple_getitem ?_ (args_tuple_getitem _ _)))
  show wpAny _ _ (Builtin.Tuple.tupleItemsOf (.ref t) >>= _) _ _ s
  refine wpAny_bind (tupleItemsOf_ ht ?_)
  refine wpAny_bind (wpAny_typeOf hTs ?_)
  rw [if_pos (by decide)]
  refine wpAny_bind (sliceApplied_back hs pl pu ps ?_)
  have hno : ¬ (((((items.size : Nat) : Int) - 1) == 0 && (-1 : Int) == 1 && (items.size - 1) == items.size) = true) := by
    intro q
    rw [Bool.and_eq_true, Bool.and_eq_true] at q
    exact absurd q.1.2 (by decide)
  show wpAny _ _ (if ((((items.size : Nat) : Int) - 1) == 0 && (-1 : Int) == 1 && (items.size - 1) == items.size) = true then _ else _) _ _ s
  have hp : ((List.range (items.size - 1)).filterMap fun (m : Nat) => items[(((items.size : Nat) : Int) - 1 + (m : Int) * -1).toNat]?).toArray = ((items.toList.drop 1).reverse).toArray := by
    rw [← back_ix]
    rw [Array.length_toList]
    simp only [Array.getElem?_toList]
  rw [if_neg hno, hp]
  first
    | exact wpAny_bind (m := Builtin.Tuple.tupleExact _) (wpAny_newObj_type (wpAny_pure ⟨_, rfl, wpAny_pure h⟩) htake)
    | exact wpAny_bind (m := Builtin.Tuple.tupleExact _) (wpAny_newObj_type (wpAny_bind (wpAny_pure (wpAny_pure ⟨_, rfl, wpAny_pure h⟩))) htake)
    | exact wpAny_bind (wpAny_bind (m := Builtin.Tuple.tupleExact _) (wpAny_newObj_type (wpAny_pure (wpAny_pure ⟨_, rfl, wpAny_pure h⟩)) htake))
    | exact wpAny_bind (wpAny_bind (m := Builtin.Tuple.tupleExact _) (wpAny_newObj_type (wpAny_pure ⟨_, rfl, wpAny_pure h⟩) htake))
end
def tBackT (K : PySem.W.Frag) (te : TE) : TE := fun σ H Q => te σ H fun x H1 => ∃ a xs, x = .ref a ∧ SqT K H1 a xs ∧ ∀ p, H1 p = none → Q (.ref p) (upd H1 p (.tup (xs.drop 1).reverse))
theorem vals_back {xs : List V} {us : List Value} (r : Vals xs us) : Vals (xs.drop 1).reverse (us.drop 1).reverse := by
  cases r with
  | nil => exact .nil
  | cons _ r => exact L2.Vals.reverse r
theorem backTK {X : Cx} {K : PySem.W.Frag} {e : Expr} {te : TE} {k k0 : Nat} {p0 p1 p2 p3 pos : Pos} (hK : X.K = K) (he : PE X e te) : PE X (.Subscript e (.Slice none (some (.Constant (.int 0) k0 p0)) (some (.UnaryOp .USub (.Constant (.int 1) k p1) p2)) p3) pos) (tBackT K te) := by
  subst hK
  refine ⟨fun pins s σ H Q I h => ?_⟩
  refine Subscript_ (thn (he.run pins s σ H _ I h) fun v s1 ⟨x, H1, I1, r1, q1⟩ => ?_)
  obtain ⟨a, xs, ex, hx, q⟩ := q1
  subst ex
  cases r1
  have hst : PO X (some (.UnaryOp .USub (.Constant (.int 1) k p1) p2)) (tPart (tUn (rU fun i => .int (-i)) (tC (.int 1)))) := po_some (pe_un un_neg pe_int)
  have hup : PO X (some (.Constant (.int 0) k0 p0)) (tPart (tC (.int 0))) := po_some pe_int
  refine wpAny_Slice (thn (po_none.run pins s1 σ H1 (fun o H2 => o = none ∧ H2 = H1) I1 ⟨rfl, rfl⟩) fun vl s2 ⟨l, H2, I2, pl, el, e2⟩ => ?_)
  subst el e2
  refine thn (hup.run pins s2 σ H2 (fun o H3 => o = some 0 ∧ H3 = H2) I2 ⟨0, rfl, rfl, rfl⟩) fun vu s3 ⟨u, H3, I3, pu, eu, e3⟩ => ?_
  subst eu e3
  refine thn (hst.run pins s3 σ H3 (fun o H4 => o = some (-1) ∧ H4 = H3) I3 ⟨1, rfl, -1, rfl, rfl, rfl⟩) fun vs s4 ⟨o, H4, I4, ps, eo, e4⟩ => ?_
  subst eo e4
  have I5 : Inv X pins σ H4 { s4 with heap := s4.heap.push { cls := .type "slice", data := .fields #[vl, vu, vs] } } := I4.kept (t' := s4.toks) fun b ob q => Heap.get?_push_of_some _ q
  obtain ⟨its, r, ht, hz⟩ := I5.tuple hx
  have hlen := r.length
  show wpAny (model X.prog X.w) X.A (subscriptTail e (.Slice none (some (.Constant (.int 0) k0 p0)) (some (.UnaryOp .USub (.Constant (.int 1) k p1) p2)) p3) (.ref a) (.ref s4.heap.objs.size)) (EP X pins σ Q) X.xe { s4 with heap := s4.heap.push { cls := .type "slice", data := .fields #[vl, vu, vs] } }
  refine tail_any (ops := [.ref a, .ref s4.heap.objs.size]) ht.typeIs (PyProof.Rows.slot_tuple_getitem.lookup) ?_ (by with_unfolding_all rfl)
  refine getItem_tuple_back ht (Heap.IsSliceOf.new _ vl vu vs) pl pu ps ?_ (by rw [List.size_toArray]; omega)
  refine ⟨.ref _, _, I5.laid (t' := s4.toks) (o := .tup (xs.drop 1).reverse) (fun b ob q => Heap.get?_push_of_some _ q) (Nat.le_refl _) ?_, rfl, q _ (I5.hok.fresh (Nat.le_refl _))⟩
  exact ⟨by rw [List.length_reverse, List.length_drop]; omega, _, vals_back r, IsTup.new _ _⟩
/-! ### isinstance with a tuple of kinds -/
theorem isiTK {X : Cx} {K : PySem.W.Frag} (h : X.K = K) : CallR X (.builtin "isinstance") (rIsiT K) := by subst h; exact call_isiT
/-- isinstance(x, (list, tuple)) -/
theorem ev_isiLT {K : PySem.W.Frag} {σ : L2.St} {H : Hp} {te : TE} {x : V} {t : String} (h : Ev te σ H x) (ht : AnyT H x t) : Ev (tCB (rIsiT K) (tCons te (tCons (tTup (tCons (tC (.ty "list")) (tCons (tC (.ty "tuple")) tNil))) tNil))) σ H (.bl (t == "list" || t == "tuple")) := fun H1 e Q q =>
  h H1 e _ fun H2 e2 => ⟨by show 2 ≤ sizeLine; decide, fun p hp => ⟨x, p, [.ty "list", .ty "tuple"], .type t, [.type "list", .type "tuple"], _, rfl, upd_same, .cons (.ty _) (.cons (.ty _) .nil), ((ht.ext (e.trans e2)).ext (Ex.new hp)).ty, by
    have k := kit_all ht.mem
    unfold PySem.W.kitAny
    rw [kit_ty k.2.2.1]
    cases t == "list" with
    | true => rfl
    | false =>
      show PySem.W.kitAny _ _ _ = _
      unfold PySem.W.kitAny
      rw [kit_ty k.2.2.2.1]
      cases t == "tuple" with
      | true => rfl
      | false => rfl, q _ (e2.trans (Ex.new hp))⟩⟩
theorem ev_isiO {K : PySem.W.Frag} {σ : L2.St} {H : Hp} {te : TE} {x : V} {t T : String} {b : Bool} (h : Ev te σ H x) (ht : AnyT H x t) (hb : kitB t T = some b) : Ev (tCB (rIsi K) (tCons te (tCons (tC (.ty T)) tNil))) σ H (.bl b) := fun H1 e Q q =>
  h H1 e _ fun H2 e2 => ⟨x, .ty T, .type t, .type T, b, rfl, .ty _, (ht.ext (e.trans e2)).ty, kit_ty hb, q H2 e2⟩
/-! ### data that are tracked -/
mutual
inductive Dq (H : Hp) : V → PyData → Prop
  | non : Dq H .non .none
  | bl (b : Bool) : Dq H (.bl b) (.bool b)
  | int (i : Int) : Dq H (.int i) (.int i)
  | str (x : Str) : Dq H (.str x) (.str x)
  | lst {a : Addr} {xs : List V} {ds : List PyData} : H a = some (.lst xs) → DqAll H xs ds → Dq H (.ref a) (.list ds)
  | tup {a : Addr} {xs : List V} {ds : List PyData} : H a = some (.tup xs) → DqAll H xs ds → Dq H (.ref a) (.tuple ds)
inductive DqAll (H : Hp) : List V → List PyData → Prop
  | nil : DqAll H [] []
  | cons {v : V} {vs : List V} {d : PyData} {ds : List PyData} : Dq H v d → DqAll H vs ds → DqAll H (v :: vs) (d :: ds)
end
mutual
theorem Dq.ext {H H' : Hp} (e : Ex H H') : ∀ {v : V} {d : PyData}, Dq H v d → Dq H' v d
  | _, _, .non => .non
  | _, _, .bl b => .bl b
  | _, _, .int i => .int i
  | _, _, .str x => .str x
  | _, _, .lst h a => .lst (e _ _ h) (DqAll.ext e a)
  | _, _, .tup h a => .tup (e _ _ h) (DqAll.ext e a)
theorem DqAll.ext {H H' : Hp} (e : Ex H H') : ∀ {vs : List V} {ds : List PyData}, DqAll H vs ds → DqAll H' vs ds
  | _, _, .nil => .nil
  | _, _, .cons h a => .cons (Dq.ext e h) (DqAll.ext e a)
end
mutual
theorem Dq.dp {K : PySem.W.Frag} {H : Hp} : ∀ {v : V} {d : PyData}, Dq H v d → Dp K H v d
  | _, _, .non => .non
  | _, _, .bl b => .bl b
  | _, _, .int i => .int i
  | _, _, .str x => .str x
  | _, _, .lst h a => .lst (SqL.of h) (DqAll.dp a)
  | _, _, .tup h a => .tup (SqT.of h) (DqAll.dp a)
theorem DqAll.dp {K : PySem.W.Frag} {H : Hp} : ∀ {vs : List V} {ds : List PyData}, DqAll H vs ds → DpAll K H vs ds
  | _, _, .nil => .nil
  | _, _, .cons h a => .cons (Dq.dp h) (DqAll.dp a)
end
def kindD : PyData → String
  | .none => "NoneType"
  | .bool _ => "bool"
  | .int _ => "int"
  | .str _ => "str"
  | .list _ => "list"
  | .tuple _ => "tuple"
  | _ => "dict"
theorem Dq.any {H : Hp} {v : V} {d : PyData} (h : Dq H v d) : AnyT H v (kindD d) := by
  cases h with
  | non => exact .non
  | bl b => exact .bl b
  | int i => exact .int i
  | str x => exact .str x
  | lst h _ => exact .lst h
  | tup h _ => exact .tup h
theorem DqAll.len {H : Hp} : ∀ {vs : List V} {ds : List PyData}, DqAll H vs ds → vs.length = ds.length
  | _, _, .nil => rfl
  | _, _, .cons _ a => by rw [List.length_cons, List.length_cons, DqAll.len a]
theorem DqAll.at {H : Hp} : ∀ {vs : List V} {ds : List PyData} {i : Nat} {v : V}, DqAll H vs ds → vs[i]? = some v → ∃ d, ds[i]? = some d ∧ Dq H v d
  | _, _, 0, _, .cons h _, e => by
    rw [List.getElem?_cons_zero] at e
    obtain rfl := Option.some.inj e
    exact ⟨_, rfl, h⟩
  | _, _, i + 1, _, .cons _ a, e => by
    rw [List.getElem?_cons_succ] at e
    obtain ⟨d, h1, h2⟩ := DqAll.at a e
    exact ⟨d, h1, h2⟩
/-- what an own walk of at most k layers can look through -/
def alk : Nat → PyData → Bool
  | 0, _ => false
  | k + 1, .list ds => decide (ds.length ≤ 1000) && ds.all (alk k)
  | k + 1, .tuple ds => decide (ds.length ≤ 1000) && ds.all (alk k)
  | _ + 1, .none => true
  | _ + 1, .bool _ => true
  | _ + 1, .int _ => true
  | _ + 1, .str _ => true
  | _, _ => false
/-- data alike -/
def sp_alike (k : Nat) : Sp := fun vs H Q _ => ∃ x y d, vs = [x, y] ∧ Dq H x d ∧ Dq H y d ∧ alk k d = true ∧ ∀ H', Ex H H' → Q (.bl true) H'
/-! ### own ==, the other thing of any class -/
def AnyJ (K : PySem.W.Frag) (C : Addr) (H : Hp) (y : V) : Prop := (∃ t, AnyT H y t) ∨ ∃ b D dy gs, y = .ref b ∧ H b = some (.ins D dy gs) ∧ PySem.W.notFirst K C (.ref D) = true
theorem notFirst_self {K : PySem.W.Frag} {C : Addr} : PySem.W.notFirst K C (.ref C) = true := by simp [PySem.W.notFirst]
theorem notFirst_other {K : PySem.W.Frag} {C D : Addr} (h : PySem.W.subIn K (.ref D) (.ref C) = some false) : PySem.W.notFirst K C (.ref D) = true := by simp [PySem.W.notFirst, h]
def rEqJ (K : PySem.W.Frag) (C : Addr) (sp : Sp) (E : XK) : R2 := fun x y H Q => ∃ a dx fs, x = .ref a ∧ H a = some (.ins C dx fs) ∧ AnyJ K C H y ∧ sp [.ref a, y] H (fun v H' => ∃ k, v = .bl k ∧ Q (.bl k) H') E
def rNeJ (K : PySem.W.Frag) (C : Addr) (sp : Sp) (E : XK) : R2 := fun x y H Q => ∃ a dx fs, x = .ref a ∧ H a = some (.ins C dx fs) ∧ AnyJ K C H y ∧ sp [.ref a, y] H (fun v H' => ∃ k, v = .bl k ∧ Q (.bl (!k)) H') E
section
variable {X : Cx} {K : PySem.W.Frag} {pins : List (Addr × Obj)} {σ : L2.St} {H : Hp} {s : Shared} {C f : Addr} {fd : FuncData} {ps : List Str} {n : Nat} {sp : Sp} {CX : CXT} {E : XK}
theorem op_eqJ (hK : X.K = K) (c : EqC K C f) (F : FnOk X.prog X.w X.K X.mg X.base CX n f fd ps sp) (room : Room n X.A) (hb : Binds X.K fd ps []) (hx : Passes CX X E) : OpR X (compareOp .Eq) (rEqJ K C sp E) := by
  subst hK
  intro pins s σ H x y v u Q I rx ry h
  obtain ⟨a, dx, fs, rfl, ha, hy, hs⟩ := h
  cases rx
  obtain ⟨mA, J, _⟩ := ins_get I.hok ha
  obtain ⟨od, J, _⟩ := J.look
  obtain ⟨m, hF⟩ := I.fr
  show wpAny (model X.prog X.w) X.A (richCompare .Eq (.ref a) u) (EP X pins σ Q) X.xe s
  have go : wpAny (model X.prog X.w) X.A (call (.ref f) [.ref a, u]) (PySem.W.CmpBack (EP X pins σ Q)) X.xe s := by
    refine wpAny_mono (run_eq F room rfl hb hx I ry hs) (fun w s' hw => ?_) fun _ _ e => e
    obtain ⟨z, H', I', rz, k, rfl, hq⟩ := hw
    cases rz
    exact ⟨.bl k, H', I', rfl, hq⟩
  rcases hy with ⟨t, ht⟩ | ⟨b, D, dy, gs, rfl, hb', hn⟩
  · exact PySem.W.cmp_K (op := .Eq) (tb := .type t) room.units0 hF I.ok.mod.kin J (any_looks I ry ht) (first7 ht.mem) c.he c.hf go
  · cases ry
    obtain ⟨mB, J', _⟩ := ins_get I.hok hb'
    obtain ⟨od', J', _⟩ := J'.look
    exact PySem.W.cmp_K (op := .Eq) (tb := .ref D) room.units0 hF I.ok.mod.kin J J'.type hn c.he c.hf go
theorem op_neJ (hK : X.K = K) (c : EqC K C f) (F : FnOk X.prog X.w X.K X.mg X.base CX n f fd ps sp) (room : Room (n + 1) X.A) (hb : Binds X.K fd ps []) (hx : Passes CX X E) : OpR X (compareOp .NotEq) (rNeJ K C sp E) := by
  subst hK
  intro pins s σ H x y v u Q I rx ry h
  obtain ⟨a, dx, fs, rfl, ha, hy, hs⟩ := h
  cases rx
  obtain ⟨mA, J, _⟩ := ins_get I.hok ha
  obtain ⟨od, J, _⟩ := J.look
  show wpAny (model X.prog X.w) X.A (richCompare .NotEq (.ref a) u) (EP X pins σ Q) X.xe s
  have un := room.units
  obtain ⟨hp, g, d, tk, os⟩ := s
  have go : ∀ tk', wpAny (model X.prog X.w) X.A.in1 (call (.ref f) [.ref a, u]) (fun v s' => ∃ k, v = .bool k ∧ EP X pins σ Q (.bool (!k)) s') X.xe ⟨hp, g, d, tk', os⟩ := by
    intro tk'
    refine wpAny_mono (run_eq F room.in1 rfl hb hx (I.tok tk') ry hs) (fun w s' hw => ?_) fun _ _ e => e
    obtain ⟨z, H', I', rz, k, rfl, hq⟩ := hw
    cases rz
    exact ⟨k, rfl, .bl (!k), H', I', rfl, hq⟩
  rcases hy with ⟨t, ht⟩ | ⟨b, D, dy, gs, rfl, hb', hn⟩
  · exact ne_own (tb := .type t) I.kIn J (any_looks I ry ht) (first7 ht.mem) c.he c.hf c.ne c.ob (by omega) go
  · cases ry
    obtain ⟨mB, J', _⟩ := ins_get I.hok hb'
    obtain ⟨od', J', _⟩ := J'.look
    exact ne_own (tb := .ref D) I.kIn J J'.type hn c.he c.hf c.ne c.ob (by omega) go
end
/-- isinstance of an instance of the class at D with the class at C -/
theorem isi_insD {K : PySem.W.Frag} {H : Hp} {C D a dx : Addr} {fs : List (Str × V)} {b : Bool} {Q : VK} (q : IsiC K D) (cl : Cls K D) (kb : PySem.W.kitOne K (.ref D) (.ref C) = some b) (h : H a = some (.ins D dx fs)) (k : Q (.bl b) H) : rIsi K [.ref a, .ref C] H Q :=
  ⟨.ref a, .ref C, .ref D, .ref C, b, rfl, .own C, .base (.ins h cl q.ca q.cn q.ct q.cm), kb, k⟩
/-! ### x or y, by truth -/
theorem orTK {X : Cx} {K : PySem.W.Frag} {a b : Expr} {ta tb : TE} {rest : List Expr} {pos : Pos} (h : X.K = K) (ha : PE X a ta) (hb : PE X (.BoolOp .Or (b :: rest) pos) tb) : PE X (.BoolOp .Or (a :: b :: rest) pos) (tOrT K ta tb) := by subst h; exact pe_orT ha hb
section
variable {K : PySem.W.Frag} {σ : L2.St} {H : Hp} {ta tb te : TE}
theorem el_or1 {xs : List V} (h : EvL ta σ H xs) (hne : xs ≠ []) : EvL (tOrT K ta tb) σ H xs := fun H1 e Q q =>
  h H1 e _ fun p H2 hp e2 h2 => ⟨true, .inl ⟨xs, SqL.of h2, by cases xs with | nil => exact absurd rfl hne | cons _ _ => rfl⟩, iteT (q p H2 hp e2 h2)⟩
theorem el_or2 {ys : List V} (h : EvL ta σ H []) (h2 : EvL tb σ H ys) : EvL (tOrT K ta tb) σ H ys := fun H1 e Q q =>
  h H1 e _ fun p H2 hp e2 hx => ⟨false, .inl ⟨[], SqL.of hx, rfl⟩, iteF (h2 H2 (e.trans e2) Q fun p' H3 hp' e3 h3 => q p' H3 (fresh_back e2 hp') (e2.trans e3) h3)⟩
theorem el_or {xs ys : List V} (h : EvL ta σ H xs) (h2 : xs = [] → EvL tb σ H ys) : EvL (tOrT K ta tb) σ H (if xs.isEmpty then ys else xs) := by
  cases xs with
  | nil => exact el_or2 h (h2 rfl)
  | cons x r => exact el_or1 h (by simp)
theorem given_allF (ys : List V) : given ys.length (fun _ => true) (fun i => ys.getD i .non) = ys := by
  unfold given
  rw [List.filter_eq_self.mpr (fun _ _ => rfl)]
  refine List.ext_getElem (by simp) (fun i h1 h2 => ?_)
  rw [List.getElem_map, List.getElem_range, List.getD_eq_getElem?_getD, List.getElem?_eq_getElem h2]
  rfl
/-- [e for x in a new list], each thing as it is -/
theorem el_mapF {xs ys : List V} {tl : TE} {j : Nat} {vs : List Nat} (h : EvL tl σ H xs) (hz : xs.length ≤ 40000) (hl : ys.length = xs.length)
    (hw : ∀ x, wipe ((wipe σ vs).set j (some x)) vs = wipe σ vs) (he : ∀ (i : Nat) (x y : V) H1, Ex H H1 → xs[i]? = some x → ys[i]? = some y → Ev te ((wipe σ vs).set j (some x)) H1 y) : EvL (tLc (iList K tl) (gName j) tYes te vs) σ H ys := by
  have k := el_lcNL (K := K) (t := tYes) (te := te) (fun _ => true) (fun i => ys.getD i .non) h hz hw (fun i x H1 e hi => fun H1 _ _ q => q H1 (Ex.refl H1)) (fun i x H1 e hi _ => by
    have h1 := (List.getElem?_eq_some_iff.mp hi).1
    have h2 : i < ys.length := by omega
    rw [show ys.getD i .non = ys[i] by rw [List.getD_eq_getElem?_getD, List.getElem?_eq_getElem h2]; rfl]
    exact he i x _ H1 e hi (List.getElem?_eq_getElem h2))
  rw [← hl, given_allF] at k
  exact k
theorem cut_all (xs : List V) {k : Nat} (h : xs.length ≤ k) : cutV xs none (some (k : Int)) = xs := by
  unfold cutV
  rw [sIx_none, sIx_nat, List.drop_zero, Nat.min_eq_right h, Nat.sub_zero, List.take_length]
end
section
variable {K : PySem.W.Frag} {σ : L2.St} {H : Hp} {ta tb te : TE} {x : V} {t : String}
theorem ev_isi_int (h : Ev te σ H x) (ht : AnyT H x t) : Ev (tCB (rIsi K) (tCons te (tCons (tC (.ty "int")) tNil))) σ H (.bl (t == "int" || t == "bool")) := ev_isiO h ht (kit_all ht.mem).1
theorem ev_isi_bool (h : Ev te σ H x) (ht : AnyT H x t) : Ev (tCB (rIsi K) (tCons te (tCons (tC (.ty "bool")) tNil))) σ H (.bl (t == "bool")) := ev_isiO h ht (kit_all ht.mem).2.1
theorem ev_isi_list (h : Ev te σ H x) (ht : AnyT H x t) : Ev (tCB (rIsi K) (tCons te (tCons (tC (.ty "list")) tNil))) σ H (.bl (t == "list")) := ev_isiO h ht (kit_all ht.mem).2.2.1
theorem ev_isi_tuple (h : Ev te σ H x) (ht : AnyT H x t) : Ev (tCB (rIsi K) (tCons te (tCons (tC (.ty "tuple")) tNil))) σ H (.bl (t == "tuple")) := ev_isiO h ht (kit_all ht.mem).2.2.2.1
theorem ev_isi_str (h : Ev te σ H x) (ht : AnyT H x t) : Ev (tCB (rIsi K) (tCons te (tCons (tC (.ty "str")) tNil))) σ H (.bl (t == "str")) := ev_isiO h ht (kit_all ht.mem).2.2.2.2.1
theorem ev_isi_dict (h : Ev te σ H x) (ht : AnyT H x t) : Ev (tCB (rIsi K) (tCons te (tCons (tC (.ty "dict")) tNil))) σ H (.bl (t == "dict")) := ev_isiO h ht (kit_all ht.mem).2.2.2.2.2
theorem ev_isN (h : Ev te σ H x) : Ev (tOp (fun x y H Q => y = V.non ∧ Q (V.bl (decide (x = V.non))) H) te (tC V.non)) σ H (.bl (decide (x = .non))) := ev_op h ev_c fun H1 e Q q => ⟨rfl, q H1 (Ex.refl H1)⟩
theorem ev_allN {bs : List Bool} (h : EvL te σ H (bs.map V.bl)) : Ev (tCB (rAll K) (tCons te tNil)) σ H (.bl (bs.all id)) := fun H1 e Q q => h H1 e _ fun p H2 hp e2 h2 => ⟨p, bs, rfl, SqL.of h2, q H2 e2⟩
theorem ev_lenT {p : Addr} {xs : List V} (ha : Ev te σ H (.ref p)) (h : H p = some (.tup xs)) : Ev (tCB (rLenQ K) (tCons te tNil)) σ H (.int (xs.length : Int)) := fun H1 e Q q =>
  ha H1 e _ fun H2 e2 => ⟨p, xs, rfl, .inr (SqT.of ((e.trans e2) _ _ h)), q H2 e2⟩
/-- [e for k in range(n)], known for each k -/
theorem el_mapR {ta : TA} {j : Nat} {vs : List Nat} {ys : List V} (h : EvA ta σ H [.int (ys.length : Int)]) (hn : ys.length ≤ 40000) (hw : ∀ x, wipe ((wipe σ vs).set j (some x)) vs = wipe σ vs)
    (he : ∀ (i : Nat) (y : V) H1, Ex H H1 → ys[i]? = some y → Ev te ((wipe σ vs).set j (some (.int (i : Int)))) H1 y) : EvL (tLc (iRng1 ta) (gName j) tYes te vs) σ H ys := by
  have k := el_lcR1 (t := tYes) (te := te) (fun _ => true) (fun i => ys.getD i .non) h (by omega) hw (fun i H1 e hi => fun H1 _ _ q => q H1 (Ex.refl H1)) (fun i H1 e hi _ => by
    have h2 : i < ys.length := by omega
    rw [show ys.getD i .non = ys[i] by rw [List.getD_eq_getElem?_getD, List.getElem?_eq_getElem h2]; rfl]
    exact he i _ H1 e (List.getElem?_eq_getElem h2))
  rw [Int.toNat_natCast, given_allF] at k
  exact k
/-- xs[i], xs a list or a tuple -/
theorem ev_ixq {tk : TE} {p : Addr} {xs : List V} {i : Nat} {v : V} (h : H p = some (.lst xs) ∨ H p = some (.tup xs)) (ha : Ev te σ H (.ref p)) (hk : Ev tk σ H (.int (i : Int))) (hi : xs[i]? = some v) : Ev (tEi (tOp (rIxL K) te tk) (tOp (rIxT K) te tk)) σ H v := by
  rcases h with h | h
  · exact ev_l (ev_op ha hk (rv_ixL (SqL.of h) (atI_nat hi)))
  · exact ev_r (ev_op ha hk (rv_ixT (SqT.of h) (atI_nat hi)))
theorem ev_lenA {p : Addr} {xs : List V} (ha : Ev te σ H (.ref p)) (h : H p = some (.lst xs) ∨ H p = some (.tup xs)) : Ev (tCB (rLenQ K) (tCons te tNil)) σ H (.int (xs.length : Int)) := h.elim (ev_lenQ ha) (ev_lenT ha)
end
section
variable {K : PySem.W.Frag} {σ : L2.St} {H : Hp} {ta tb te : TE}
theorem ev_fld {f : Str} {p C dx : Addr} {fs : List (Str × V)} {v : V} (ha : Ev te σ H (.ref p)) (h : H p = some (.ins C dx fs)) (cl : Cls K C) (nf : PySem.W.findIn K (.ref C) f = some none) (lk : fs.lookup f = some v) : Ev (tFld K te f) σ H v := fun H1 e Q q =>
  ha H1 e _ fun H2 e2 => ⟨p, C, dx, fs, v, rfl, (e.trans e2) _ _ h, cl, nf, lk, q H2 e2⟩
theorem EvU.mono {H' : Hp} {xs : List V} (e : Ex H H') (h : EvU te σ H xs) : EvU te σ H' xs := fun H1 a Q q => h H1 (e.trans a) Q q
theorem eu_sl {tl th : TO} {a : Addr} {xs : List V} {lo hi : Option Int} (h : Ev te σ H (.ref a)) (h1 : EvO tl σ H lo) (h2 : EvO th σ H hi) (hs : H a = some (.tup xs)) (hw : ¬ (HT.sIx xs.length 0 lo = 0 ∧ HT.sIx xs.length xs.length hi = xs.length)) : EvU (tSl (rSlT K) te tl th) σ H (cutV xs lo hi) := fun H1 e Q q =>
  h H1 e _ fun H2 e2 => h1 H2 (e.trans e2) _ fun H3 e3 => h2 H3 ((e.trans e2).trans e3) _ fun H4 e4 => ⟨a, xs, rfl, SqT.of ((((e.trans e2).trans e3).trans e4) _ _ hs), hw, fun p hp => q p _ (fresh_back ((e2.trans e3).trans e4) hp) (((e2.trans e3).trans e4).trans (Ex.new hp)) upd_same⟩
theorem eu_back {a : Addr} {xs : List V} (h : Ev te σ H (.ref a)) (hs : H a = some (.tup xs)) : EvU (tBackT K te) σ H (xs.drop 1).reverse := fun H1 e Q q =>
  h H1 e _ fun H2 e2 => ⟨a, xs, rfl, SqT.of ((e.trans e2) _ _ hs), fun p hp => q p _ (fresh_back e2 hp) (e2.trans (Ex.new hp)) upd_same⟩
theorem eu_cat {xs ys : List V} (h1 : EvU ta σ H xs) (h2 : EvU tb σ H ys) (hx : xs ≠ []) (hl : xs.length + ys.length ≤ 1000) : EvU (tOp (rCatT K) ta tb) σ H (xs ++ ys) := fun H1 e Q q =>
  h1 H1 e _ fun p H2 hp e2 hxs => h2 H2 (e.trans e2) _ fun r H3 hr e3 hys => ⟨p, r, xs, ys, rfl, rfl, SqT.of (e3 _ _ hxs), SqT.of hys, hx, Nat.le_trans hl (by decide), (fun z => by
    subst z
    rw [List.append_nil] at q
    exact q p H3 hp (e2.trans e3) (e3 _ _ hxs)), fun _ t ht => q t _ (fresh_back (e2.trans e3) ht) ((e2.trans e3).trans (Ex.new ht)) upd_same⟩
theorem eu_if {t : TT} {b : Bool} {xs : List V} (h : EvT t σ H b) (h1 : b = true → EvU ta σ H xs) (h2 : b = false → EvU tb σ H xs) : EvU (tIf t ta tb) σ H xs := fun H1 e Q q => h H1 e _ fun H2 e2 => by
  cases b with
  | true => exact iteT (h1 rfl H2 (e.trans e2) Q fun p H3 hp e3 hx => q p H3 (fresh_back e2 hp) (e2.trans e3) hx)
  | false => exact iteF (h2 rfl H2 (e.trans e2) Q fun p H3 hp e3 hx => q p H3 (fresh_back e2 hp) (e2.trans e3) hx)
theorem eu_is {xs ys : List V} (h : EvU te σ H xs) (e : xs = ys) : EvU te σ H ys := by rw [← e]; exact h
end
/-! ### a value that is such data -/
def EvQ (te : TE) (σ : L2.St) (H : Hp) (d : PyData) : Prop := ∀ H1, Ex H H1 → ∀ Q : VK, (∀ v H2, Ex H1 H2 → Dq H2 v d → Q v H2) → te σ H1 Q
def EvQA (ta : TA) (σ : L2.St) (H : Hp) (ds : List PyData) : Prop := ∀ H1, Ex H H1 → ∀ Q : List V → Hp → Prop, (∀ vs H2, Ex H1 H2 → DqAll H2 vs ds → Q vs H2) → ta σ H1 Q
section
variable {K : PySem.W.Frag} {σ : L2.St} {H : Hp} {ta tb te : TE} {d : PyData}
theorem ed_ev {v : V} (h : Ev te σ H v) (hd : Dq H v d) : EvQ te σ H d := fun H1 e Q q => h H1 e Q fun H2 e2 => q v H2 e2 (hd.ext (e.trans e2))
theorem ed_tup {xs : List V} {ds : List PyData} (h : EvU te σ H xs) (hd : DqAll H xs ds) : EvQ te σ H (.tuple ds) := fun H1 e Q q => h H1 e Q fun p H2 hp e2 h2 => q _ H2 e2 (.tup h2 (hd.ext (e.trans e2)))
theorem ed_list {xs : List V} {ds : List PyData} (h : EvL te σ H xs) (hd : DqAll H xs ds) : EvQ te σ H (.list ds) := fun H1 e Q q => h H1 e Q fun p H2 hp e2 h2 => q _ H2 e2 (.lst h2 (hd.ext (e.trans e2)))
theorem EvQ.mono {H' : Hp} (e : Ex H H') (h : EvQ te σ H d) : EvQ te σ H' d := fun H1 a Q q => h H1 (e.trans a) Q q
theorem eda_nil : EvQA tNil σ H [] := fun H1 _ _ q => q _ H1 (Ex.refl H1) .nil
theorem eda_cons {tr : TA} {ds : List PyData} (h : EvQ te σ H d) (hr : EvQA tr σ H ds) : EvQA (tCons te tr) σ H (d :: ds) := fun H1 e Q q =>
  h H1 e _ fun v H2 e2 hv => hr H2 (e.trans e2) _ fun vs H3 e3 hs => q _ H3 (e2.trans e3) (.cons (hv.ext e3) hs)
theorem ed_lst {tr : TA} {ds : List PyData} (h : EvQA tr σ H ds) (hl : ds.length ≤ 1000) : EvQ (tLst tr) σ H (.list ds) := fun H1 e Q q =>
  h H1 e _ fun vs H2 e2 hs => ⟨by rw [hs.len]; exact Nat.le_trans hl (by decide), fun p hp => q _ _ (e2.trans (Ex.new hp)) (.lst upd_same (hs.ext (Ex.new hp)))⟩
theorem ed_tp {tr : TA} {ds : List PyData} (h : EvQA tr σ H ds) (hl : ds.length ≤ 1000) : EvQ (tTup tr) σ H (.tuple ds) := fun H1 e Q q =>
  h H1 e _ fun vs H2 e2 hs => ⟨by rw [hs.len]; exact Nat.le_trans hl (by decide), fun p hp => q _ _ (e2.trans (Ex.new hp)) (.tup upd_same (hs.ext (Ex.new hp)))⟩
theorem ed_is {d' : PyData} (h : EvQ te σ H d) (e : d = d') : EvQ te σ H d' := by rw [← e]; exact h
/-- [x] * k, x a truth -/
theorem ed_repB {b : Bool} {k : Nat} (h : Ev te σ H (.bl b)) (hk : k ≤ 1000) : EvQ (tOp rRep (tLst (tCons te tNil)) (tC (.int (k : Int)))) σ H (.list (List.replicate k (.bool b))) := fun H1 e Q q =>
  h H1 e _ fun H2 e2 => ⟨by show 1 ≤ sizeLine; decide, fun p hp => ⟨p, k, [.bl b], rfl, rfl, upd_same, by omega, by omega, by
    rw [Int.toNat_natCast]
    show 1 * k ≤ sizeLine
    exact Nat.le_trans (by omega : 1 * k ≤ 1000) (by decide), fun r hr => by
    rw [Int.toNat_natCast]
    refine q _ _ ((e2.trans (Ex.new hp)).trans (Ex.new hr)) (.lst upd_same ?_)
    induction k with
    | zero => exact .nil
    | succ n ih => 
      have z : ∀ m, DqAll (upd (upd H2 p (.lst [.bl b])) r (.lst (List.replicate (n + 1) [V.bl b]).flatten)) (List.replicate m [V.bl b]).flatten (List.replicate m (.bool b)) := by
        intro m
        induction m with
        | zero => exact .nil
        | succ m ih => exact .cons (.bl b) ih
      exact z (n + 1)⟩⟩
theorem ev_alike {k : Nat} (ha : EvQ ta σ H d) (hb : EvQ tb σ H d) (hk : alk k d = true) : Ev (tCall (sp_alike k) [] E0 (tCons ta (tCons tb tNil))) σ H (.bl true) := fun H1 e Q q =>
  ha H1 e _ fun v H2 e2 hv => hb H2 (e.trans e2) _ fun u H3 e3 hu => ⟨v, u, d, rfl, hv.ext e3, hu, hk, fun H4 e4 => q H4 ((e2.trans e3).trans e4)⟩
end
end MyG

set_option maxHeartbeats 1000000
/-! dict comprehensions whose keys may be tuples, with one clause and with two; walks of the values and the items of dicts with tuple keys -/
namespace L2
open PySem PySem.Spec PyProof.Rows
theorem tupleKind_room {P : Program} {w : World} {A : Around} (hu : A.units < cLine) : (tupleKind (mixKind P w)).room A := hu
section
variable {X : Cx} {pins : List (Addr × Obj)} {σ : St} {H H' : Hp} {s : Shared} {E : Value → Shared → Prop} {D : Addr} {y v : V} {u r : Value} {Q : Unit → Shared → Prop}
/-- a comprehension's store, whatever the dict's keys are -/
theorem d_dictSetG (hu : X.A.units < cLine) (I : Inv X pins σ H s) (g : DPut H D y v H') (ry : RelV y u) (rv : RelV v r) (h : ∀ s', Inv X pins σ H' s' → Q () s') : wpAny (model X.prog X.w) X.A (dictSet D u r) Q E s := by
  rcases g with ⟨kvs, k, e, rfl, l, rfl⟩ | ⟨kvs, k, b, e, rfl, eb, l, rfl⟩
  · exact d_dictSet I e l ry rv h
  · cases (show u = Value.ref b from ry)
    obtain ⟨z, nsys, xs, rel, dd⟩ := dt_of I.hok e
    have few : xs.length ≤ sizeLine := by rw [← Paired.length rel]; exact z
    refine wpAny_dictSet_heap (hsz := few) (tupleKind_room hu) (key_of I.hok eb) dd fun h' dd' same => h _ ?_
    obtain ⟨q, es, ep, hq, c2, c3, c4, _, c5⟩ := dd'
    refine d_write I (by rw [e]; exact True.intro) same ⟨q, hq⟩ ⟨?_, nsys, _, (rel.put k eb rv).keeps fun c ys ec => ?_, q, es, ep, hq, c2, c3, c4, c5⟩
    · have := length_putK kvs k v
      omega
    · rw [upd_ne (ne_of ec e (fun z => nomatch z))]
      exact ec
end
/-- an empty dict, its keys to be single (false) or tuples (true) -/
def dE : Bool → HO | false => .dK [] | true => .dT []
theorem dE_ok {P : Program} {w : World} {H : Hp} (k : Bool) (h : Heap) (hb : sysModules < h.objs.size) : ObjOk P w H (h.push { cls := .type "dict", data := .dict #[] }) h.objs.size (dE k) := by
  cases k with
  | false => exact dk_empty h hb
  | true => exact dt_empty h hb

/-! ### the turns of a dict comprehension with two clauses -/
section
variable (kx vx t0 i0 t1 i1 : Expr) (f0 f1 : List Expr) (sc : Scope) (pos : Pos) (it : Value) (D : Addr) (env : Env)
/-- {kx: vx for t0 in i0 if .. for t1 in i1 if ..} -/
abbrev dX2 : Expr := .DictComp kx vx [⟨t0, i0, f0, 0⟩, ⟨t1, i1, f1, 0⟩] sc pos
theorem dX2_turn0 : compTurn (dX2 kx vx t0 i0 t1 i1 f0 f1 sc pos) 0 it (.ref D) env = (do
    standAt i0.pos
    match ← pyNext it with
    | none => pure (.done .next)
    | some v =>
      letOwnedTupleGo t0 it v
      assign t0 env v
      let mut good := true
      for c in f0 do
        if good then good ← isTrue c env (eval c env)
      if good then
        let x ← eval i1 env
        standAt i1.pos
        let x ← foldedSetIterable i1 env x
        let _ ← runOwn (.compStart (dX2 kx vx t0 i0 t1 i1 f0 f1 sc pos) 1 (← holding [x] (pyIter x)) (.ref D) env) env
      again (.compLoop (dX2 kx vx t0 i0 t1 i1 f0 f1 sc pos) 0 it (.ref D) env)) := by rfl
theorem dX2_turn1 : compTurn (dX2 kx vx t0 i0 t1 i1 f0 f1 sc pos) 1 it (.ref D) env = (do
    standAt i1.pos
    match ← pyNext it with
    | none => pure (.done .next)
    | some v =>
      letOwnedTupleGo t1 it v
      assign t1 env v
      let mut good := true
      for c in f1 do
        if good then good ← isTrue c env (eval c env)
      if good then
        (do
          let a ← eval kx env
          let b ← holding [a] (eval vx env)
          standAt { kx.pos with endLine := vx.pos.endLine, endCol := vx.pos.endCol }
          holding [a, b] (dictSet D a b))
      again (.compLoop (dX2 kx vx t0 i0 t1 i1 f0 f1 sc pos) 1 it (.ref D) env)) := by rfl
end

section
variable {prog : Program} {w : World} {A : Around} {R : Result → Shared → Prop} {kx vx t0 i0 t1 i1 : Expr} {f0 f1 : List Expr} {sc : Scope} {pos : Pos} {it : Value} {D : Addr} {env : Env}
/-- where a step of a comprehension ends badly: nowhere -/
abbrev bad (prog : Program) (w : World) (A : Around) (env : Env) (R : Result → Shared → Prop) : Value → Shared → Prop := notedBy (model prog w) A env fun e s' => R (.error e) s'
/-- a clause's tests -/
abbrev tests (fs : List Expr) (env : Env) : Sem Bool := forIn fs true fun c r => if r = true then do let ok ← isTrue c env (eval c env); pure (ForInStep.yield ok) else pure (ForInStep.yield r)
theorem dX2_loop0 (fld : ∀ x, foldedSetIterable i1 env x = pure x) (I : Nat → Shared → Prop)
    (turn : ∀ n s, I n s → wpAny (model prog w) A (pyNext it) (fun r s1 => match r with
      | none => R (.ok .next) s1
      | some v => wpAny (model prog w) A (letOwnedTupleGo t0 it v) (fun _ s2 => wpAny (model prog w) A (assign t0 env v) (fun _ s3 => wpAny (model prog w) A (tests f0 env) (fun ok s4 =>
            if ok = true then wpAny (model prog w) A (eval i1 env) (fun x s5 => wpAny (model prog w) A (pyIter x) (fun jt s6 =>
              codeAny (model prog w) A (.compStart (dX2 kx vx t0 i0 t1 i1 f0 f1 sc pos) 1 jt (.ref D) env) (fun r s' => match r with
                | .ok _ => ∃ m, m < n ∧ I m s'
                | .error _ => False) s6) (bad prog w A env R) s5) (bad prog w A env R) s4
            else ∃ m, m < n ∧ I m s4) (bad prog w A env R) s3) (bad prog w A env R) s2) (bad prog w A env R) s1) (bad prog w A env R) s)
    (n : Nat) {s : Shared} (h : I n s) : codeAny (model prog w) A (.compLoop (dX2 kx vx t0 i0 t1 i1 f0 f1 sc pos) 0 it (.ref D) env) R s := by
  refine codeAny_loop rfl I (fun n s hI => ?_) n h
  show wpAny _ A ((compTurn (dX2 kx vx t0 i0 t1 i1 f0 f1 sc pos) 0 it (.ref D) env).onRaise (fun x => do noteFrame x env; theTreesLotGoes x)) _ _ s
  refine wpAny_noted ?_
  rw [dX2_turn0]
  refine wpAny_bind (wpAny_standAt (wpAny_bind (wpAny_mono (turn n s hI) (fun r s1 k1 => ?_) fun _ _ z => z)))
  cases r with
  | none => exact wpAny_pure k1
  | some v =>
    refine wpAny_bind (wpAny_mono k1 (fun _ s2 k2 => wpAny_bind (wpAny_mono k2 (fun _ s3 k3 => wpAny_bind (wpAny_mono k3 (fun ok s4 k4 => ?_) fun _ _ z => z)) fun _ _ z => z)) fun _ _ z => z)
    cases ok with
    | false => exact wpAny_pure ⟨rfl, k4⟩
    | true =>
      refine wpAny_bind (wpAny_mono k4 (fun x s5 k5 => ?_) fun _ _ z => z)
      refine wpAny_bind (wpAny_standAt (wpAny_bind (wpAny_of_eq (fld x) (wpAny_bind (wpAny_holding (wpAny_mono k5 (fun jt s6 k6 => ?_) fun _ _ z => z))))))
      refine wpAny_bind (wpAny_runOwn ?_)
      rw [Around.mark_none]
      refine codeAny_mono k6 fun r s' hr => ?_
      cases r with
      | ok f => first | exact wpAny_pure ⟨rfl, hr⟩ | exact wpAny_bind (wpAny_pure (wpAny_pure ⟨rfl, hr⟩))
      | error e => exact hr.elim
theorem dX2_loop1 (I : Nat → Shared → Prop)
    (turn : ∀ n s, I n s → wpAny (model prog w) A (pyNext it) (fun r s1 => match r with
      | none => R (.ok .next) s1
      | some v => wpAny (model prog w) A (letOwnedTupleGo t1 it v) (fun _ s2 => wpAny (model prog w) A (assign t1 env v) (fun _ s3 => wpAny (model prog w) A (tests f1 env) (fun ok s4 =>
            if ok = true then wpAny (model prog w) A (eval kx env) (fun a s5 => wpAny (model prog w) A (eval vx env) (fun b s6 =>
              wpAny (model prog w) A (dictSet D a b) (fun _ s7 => ∃ m, m < n ∧ I m s7) (bad prog w A env R) s6) (bad prog w A env R) s5) (bad prog w A env R) s4
            else ∃ m, m < n ∧ I m s4) (bad prog w A env R) s3) (bad prog w A env R) s2) (bad prog w A env R) s1) (bad prog w A env R) s)
    (n : Nat) {s : Shared} (h : I n s) : codeAny (model prog w) A (.compLoop (dX2 kx vx t0 i0 t1 i1 f0 f1 sc pos) 1 it (.ref D) env) R s := by
  refine codeAny_loop rfl I (fun n s hI => ?_) n h
  show wpAny _ A ((compTurn (dX2 kx vx t0 i0 t1 i1 f0 f1 sc pos) 1 it (.ref D) env).onRaise (fun x => do noteFrame x env; theTreesLotGoes x)) _ _ s
  refine wpAny_noted ?_
  rw [dX2_turn1]
  refine wpAny_bind (wpAny_standAt (wpAny_bind (wpAny_mono (turn n s hI) (fun r s1 k1 => ?_) fun _ _ z => z)))
  cases r with
  | none => exact wpAny_pure k1
  | some v =>
    refine wpAny_bind (wpAny_mono k1 (fun _ s2 k2 => wpAny_bind (wpAny_mono k2 (fun _ s3 k3 => wpAny_bind (wpAny_mono k3 (fun ok s4 k4 => ?_) fun _ _ z => z)) fun _ _ z => z)) fun _ _ z => z)
    cases ok with
    | false => exact wpAny_pure ⟨rfl, k4⟩
    | true => exact wpAny_bind (wpAny_bind (wpAny_mono k4 (fun a s5 k5 => wpAny_bind (wpAny_holding (wpAny_mono k5 (fun b s6 k6 => wpAny_bind (wpAny_standAt (wpAny_holding (wpAny_mono k6 (fun _ s7 k7 => wpAny_pure ⟨rfl, k7⟩) fun _ _ z => z)))) fun _ _ z => z))) fun _ _ z => z))
/-- a clause's start -/
theorem dX2_start {d : Nat} (hg : d = 0 ∨ d = 1) {s : Shared} (h0 : codeAny (model prog w) A (.compLoop (dX2 kx vx t0 i0 t1 i1 f0 f1 sc pos) d it (.ref D) env) R s)
    (h : wpAny (model prog w) A (pyIter it) (fun jt s' => codeAny (model prog w) A (.compLoop (dX2 kx vx t0 i0 t1 i1 f0 f1 sc pos) d jt (.ref D) env) R s') (bad prog w A env R) s) :
    codeAny (model prog w) A (.compStart (dX2 kx vx t0 i0 t1 i1 f0 f1 sc pos) d it (.ref D) env) R s := by
  refine codeAny_of_tree ?_
  show wpAny _ _ ((compStart (dX2 kx vx t0 i0 t1 i1 f0 f1 sc pos) d it (.ref D) env).onRaise (fun x => do noteFrame x env; standAt theWindowsPlace)) _ _ s
  refine wpAny_notedAt ?_
  unfold compStart
  rcases hg with rfl | rfl <;>
  · show wpAny _ _ (ask >>= _) _ _ s
    refine wpAny_bind (wpAny_askSetting (wpAny_ite ?_))
    split
    · first | exact wpAny_bind (wpAny_pure (wpAny_pure (And.intro rfl h0))) | exact wpAny_pure (And.intro rfl h0)
    · first
        | exact wpAny_bind (wpAny_rule (wpAny_bind (wpAny_standAt (wpAny_bind (wpAny_mono h (fun _ _ k => wpAny_pure (And.intro rfl k)) fun _ _ z => z)))))
        | (refine wpAny_bind (wpAny_rule ?_); show wpAny _ _ (standAt i0.pos >>= _) _ _ s; exact wpAny_bind (wpAny_standAt (wpAny_bind (wpAny_mono h (fun _ _ k => wpAny_pure (And.intro rfl k)) fun _ _ z => z))))
        | (refine wpAny_bind (wpAny_rule ?_); show wpAny _ _ (standAt i1.pos >>= _) _ _ s; exact wpAny_bind (wpAny_standAt (wpAny_bind (wpAny_mono h (fun _ _ k => wpAny_pure (And.intro rfl k)) fun _ _ z => z))))
end

/-- what a block's part must be, whatever the block's frame is -/
abbrev InBlk (X : Cx) (scope : Scope) (p : Cx → Prop) : Prop := ∀ (s : Shared) (H : Hp) (C : Addr) (cl : List (Str × Addr)) (fp : List Addr), p (X.blk s H scope (compEnvC scope cl C X.env) fp)
/-- the walk of a clause: it stops, or a turn is made -/
def wlk (J : It) (g : TG) (σ0 : St) (vs : List Nat) (tt : TT) (ready : Hp → Prop) (body : (Hp → Prop) → St → Hp → Prop) (H0 : Hp) : Prop := ∃ W : Nat → Nat → Hp → Prop, (∃ m, W 0 m H0) ∧ ∀ i m H, W i m H →
  (J.stop i H ∧ ready H) ∨ (J.go i H ∧ ∃ Nx : Hp → Prop, (∀ H', Nx H' → ∃ m', m' < m ∧ W (i + 1) m' H') ∧ ∀ x H', J.yld i H x H' → g x (wipe σ0 vs) H' fun σ2 H2 => wipe σ2 vs = wipe σ0 vs ∧ tt σ2 H2 fun b H3 => if b = true then body Nx σ2 H3 else Nx H3)
/-- the store of a turn -/
def dSto (D : Addr) (tk tv : TE) : (Hp → Prop) → St → Hp → Prop := fun Nx σ H => tk σ H fun y H4 => tv σ H4 fun z H5 => ∃ H6, DPut H5 D y z H6 ∧ Nx H6
/-- {k: v for target in iter if ..}: D the new dict, of the kind wanted -/
def tDcG (kd : Bool) (wi : TI) (g : TG) (tt : TT) (tk tv : TE) (vs : List Nat) : TE := fun σ H Q => wi σ H fun J H1 => ∀ D, H1 D = none → wlk J g σ vs tt (Q (.ref D)) (dSto D tk tv) (upd H1 D (dE kd))
/-- .. with two clauses -/
def tDc2G (kd : Bool) (wi : TI) (g : TG) (tt : TT) (wj : TI) (g1 : TG) (tt1 : TT) (tk tv : TE) (vs vs1 : List Nat) : TE := fun σ H Q => wi σ H fun J H1 => ∀ D, H1 D = none →
  wlk J g σ vs tt (Q (.ref D)) (fun Nx σ2 H3 => wj σ2 H3 fun J1 H4 => wlk J1 g1 σ2 vs1 tt1 Nx (dSto D tk tv) H4) (upd H1 D (dE kd))
section
variable {X : Cx} {tg iter : Expr} {ifs : List Expr} {scope : Scope} {own : List (Str × Nat)} {wi : TI} {g : TG} {tt : TT} {tk tv : TE} {kx vx : Expr} {pos pos' : Pos} {pins : List (Addr × Obj)} {s : Shared} {σ : St} {H : Hp} {Q : VK} {Qf : Value → Shared → Prop} {use : Option (Value → Sem Unit)} {kd : Bool}
/-- a dict comprehension's frame: what its first clause's loop must do, and what is given to it -/
theorem d_frame {rest : List Comprehension} {L : It → Addr → Hp → Prop} (hc : X.calm = true) (hN : X.N.Nodup) (I : Inv X pins σ H s) (hi : PI X tg iter wi) (ok : BlkOk X.N X.env.scope scope own) (hs : ∀ x, foldedSetIterable iter X.env x = pure x)
    (h : wi σ H fun J H1 => ∀ D, H1 D = none → L J D (upd H1 D (dE kd)))
    (hRR : ∀ D C s' m H', Inv X pins σ H' s' → Q (.ref D) H' → s'.heap.Ns C m → FpOk X pins H' C → compPost (model X.prog X.w) X.A X.xe use Qf (.ref D) C (.ok .next) s')
    (hL : ∀ (J : It) (D it C : Addr) (cl : List (Str × Addr)) (fp : List Addr) (tn : Nat → Heap → Prop) (s3 s4 : Shared) (H3 : Hp), Turn X.prog X.w X.K tg J fp it tn → L J D H3 → Inv (X.blk s3 H3 scope (compEnvC scope cl C X.env) fp) [] (wipe σ (own.map (·.2))) H3 s4 → tn 0 s4.heap → (∀ b ∈ fp, H3 b = none) →
      (∀ s6 H5, Inv (X.blk s3 H3 scope (compEnvC scope cl C X.env) fp) [] (wipe σ (own.map (·.2))) H5 s6 → Q (.ref D) H5 → compPost (model X.prog X.w) X.A X.xe use Qf (.ref D) C (.ok .next) s6) →
      codeAny (model X.prog X.w) X.A (.compLoop (.DictComp kx vx (⟨tg, iter, ifs, 0⟩ :: rest) scope pos) 0 (.ref it) (.ref D) (compEnvC scope cl C X.env)) (compPost (model X.prog X.w) X.A X.xe use Qf (.ref D) C) s4) :
    wpAny (model X.prog X.w) X.A (comprehension (.DictComp kx vx (⟨tg, iter, ifs, 0⟩ :: rest) scope pos) scope X.env pos' newDict false (eval iter X.env) use) Qf X.xe s := by
  have free : ∀ y ∈ scope.names, y.2 = .free → ∃ c, X.env.cells.lookup y.1 = some c := fun y hy e => I.ok.has _ (ok.free y hy e)
  refine wpAny_comprehension_free (use := use) rfl hs (closure_ok free) ok.kind (fun y hy e => by rw [ok.uniq y hy, e]) (thn (hi.run pins s σ H _ I h) fun xv s1 hx => thn hx fun itv s2 k2 => ?_)
  obtain ⟨it, fp, tn, J, H2, rfl, I2, T, st2, f2, q⟩ := k2
  refine wpAny_newObj_type (newEnv_comp ?_)
  generalize hD : s2.heap.objs.size = D
  have Dn : H2 D = none := I2.hok.fresh (Nat.le_of_eq hD)
  have l0 := q D Dn
  generalize e3 : ({ s2 with heap := s2.heap.push { cls := .type "dict", data := .dict #[] } } : Shared) = s3
  have I3 : Inv X pins σ (upd H2 D (dE kd)) s3 := by
    subst e3 hD
    exact I2.laid (t' := s2.toks) (fun b o e => Heap.get?_push_of_some _ e) (Nat.le_refl _) (dE_ok kd s2.heap I2.big)
  have hp3 : s3.heap = s2.heap.push { cls := .type "dict", data := .dict #[] } := by rw [← e3]
  have f3 : ∀ b ∈ fp, FpOk X pins (upd H2 D (dE kd)) b ∧ b < s3.heap.objs.size := fun b hb => by
    obtain ⟨o, e, _⟩ := T.obj _ _ st2 b hb
    have lt := Heap.lt_size e
    refine ⟨⟨?_, (f2 b hb).2⟩, by rw [hp3, Heap.size_push]; exact Nat.lt_succ_of_lt lt⟩
    rw [upd_ne (by rw [← hD]; exact Nat.ne_of_lt lt)]
    exact (f2 b hb).1
  have st3 : tn 0 s3.heap := T.keep _ _ _ st2 fun b _ o e => by rw [hp3]; exact Heap.get?_push_of_some _ e
  have I4 := block_start I3 ok hN f3
  show codeAny _ _ (.compStart _ 0 (.ref it) (.ref D) (compEnvC scope (cellsFrom (s3.heap.objs.size + 1) scope.names (cloFrom X.env.cells scope.names [])) s3.heap.objs.size X.env)) (compPost (model X.prog X.w) X.A X.xe use Qf (.ref D) s3.heap.objs.size) { s3 with heap := pushCells (s3.heap.push { cls := .type "dict", data := .dict #[] }) scope.names }
  generalize e4 : ({ s3 with heap := pushCells (s3.heap.push { cls := .type "dict", data := .dict #[] }) scope.names } : Shared) = s4 at I4 ⊢
  have st4 : tn 0 s4.heap := T.keep _ _ _ st3 fun b _ o e => by rw [← e4]; exact pushCells_keeps _ _ _ _ (Heap.get?_push_of_some _ e)
  have loop := hL J D it s3.heap.objs.size (cellsFrom (s3.heap.objs.size + 1) scope.names (cloFrom X.env.cells scope.names [])) fp tn s3 s4 (upd H2 D (dE kd)) T l0 I4 st4 (fun b hb => (f3 b hb).1.1) fun s6 H5 I6 qq => by
    have I7 : Inv X pins σ H5 s6 := I3.call' (ch := fp) I6.os I6.base I6.hok I6.bare fun b hb => ⟨(f3 b hb).1.2.2.2.1, (f3 b hb).1.2.1, (f3 b hb).1.2.2.2.2.1, (f3 b hb).1.2.2.2.2.2⟩
    have nC : H5 s3.heap.objs.size = none := I6.free
    obtain ⟨m, hn, _⟩ := I6.loc
    exact hRR D s3.heap.objs.size s6 m H5 I7 qq hn (I3.fpOk (Nat.le_refl _) nC)
  exact codeAny_compStart_dict loop (T.self X.A 0 _ _ _ st4 loop)
end

/-- one turn of a clause's loop, in the block -/
theorem turn_ok {Y : Cx} {tg : Expr} {ifs : List Expr} {P0 : List (Addr × Obj)} {J : It} {fp : List Addr} {it : Addr} {tn : Nat → Heap → Prop} {g : TG} {tt : TT} {vs : List Nat} {σ0 : St} {i : Nat} {s5 : Shared} {H5 : Hp} {ready : Hp → Prop} {body : St → Hp → Prop} {Nx : Hp → Prop} {Rn Bd Nn : Shared → Prop} {E : Value → Shared → Prop}
    (hx : Y.xe = fun _ _ => False) (hc : Y.calm = true) (T : Turn Y.prog Y.w Y.K tg J fp it tn) (pg : PG Y tg g) (pt : PTs Y ifs tt) (hf : ∀ H', (∀ b ∈ fp, H' b = none) → ∀ b ∈ fp, FpOk Y P0 H' b)
    (I5 : Inv Y P0 (wipe σ0 vs) H5 s5) (st5 : tn i s5.heap) (n5 : ∀ b ∈ fp, H5 b = none)
    (step : (J.stop i H5 ∧ ready H5) ∨ (J.go i H5 ∧ ∀ x H', J.yld i H5 x H' → g x (wipe σ0 vs) H' fun σ2 H2 => wipe σ2 vs = wipe σ0 vs ∧ tt σ2 H2 fun b H3 => if b = true then body σ2 H3 else Nx H3))
    (hstop : ∀ s6, Inv Y P0 (wipe σ0 vs) H5 s6 → ready H5 → Rn s6)
    (hno : ∀ s' H', Inv Y P0 (wipe σ0 vs) H' s' → tn (i + 1) s'.heap → (∀ b ∈ fp, H' b = none) → Nx H' → Nn s')
    (hyes : ∀ (pl : List (Addr × Obj)) s9 σ8 H9, Inv Y (P0 ++ pl) σ8 H9 s9 → body σ8 H9 → wipe σ8 vs = wipe σ0 vs →
      (∀ σ9 s' H', Inv Y (P0 ++ pl) σ9 H' s' → (wipe σ0 vs).length = σ9.length → (∀ (j : Nat) v, (wipe σ0 vs)[j]? = some (some v) → σ9[j]? = some (some v)) → Inv Y P0 (wipe σ0 vs) H' s' ∧ tn (i + 1) s'.heap ∧ ∀ b ∈ fp, H' b = none) → Bd s9) :
    wpAny (model Y.prog Y.w) Y.A (pyNext (.ref it)) (fun r s1 => match r with
      | none => Rn s1
      | some v => wpAny (model Y.prog Y.w) Y.A (letOwnedTupleGo tg (.ref it) v) (fun _ s2 => wpAny (model Y.prog Y.w) Y.A (assign tg Y.env v) (fun _ s3 => wpAny (model Y.prog Y.w) Y.A (tests ifs Y.env) (fun ok s4 => if ok = true then Bd s4 else Nn s4) E s3) E s2) E s1) E s5 := by
  rcases step with ⟨stop, qq⟩ | ⟨go, step⟩
  · refine thnF (T.done Y rfl rfl rfl hc i P0 s5 _ H5 (fun _ _ => False) I5 (hf _ n5) st5 stop) fun r s6 ⟨hr, I6⟩ => ?_
    subst hr
    exact hstop s6 I6 qq
  · refine thnF (T.item Y rfl rfl rfl hc i P0 s5 _ H5 (fun _ _ => False) I5 (hf _ n5) st5 go) fun r s6 ⟨u, hr, k6⟩ => ?_
    subst hr
    refine thnF k6 fun _ s7 ⟨x, H7, I7, r7, y7, st7, n7⟩ => ?_
    have I7' := I7.pinned (hf _ n7) (T.obj _ _ st7)
    have asg := pg.run _ s7 _ H7 x u _ I7' r7 (step x H7 y7)
    rw [hx] at asg
    refine thnF asg fun _ s8 ⟨σ8, H8, I8, hw, q8⟩ => ?_
    have tst := pt.run _ s8 σ8 H8 _ I8 q8
    rw [hx] at tst
    refine thnF tst fun b s9 ⟨H9, I9, q9⟩ => ?_
    have back : ∀ σ9 s' H', Inv Y (P0 ++ pinsAt fp s7.heap) σ9 H' s' → (wipe σ0 vs).length = σ9.length → (∀ (j : Nat) v, (wipe σ0 vs)[j]? = some (some v) → σ9[j]? = some (some v)) → Inv Y P0 (wipe σ0 vs) H' s' ∧ tn (i + 1) s'.heap ∧ ∀ b ∈ fp, H' b = none := fun σ9 s' H' I' hl hk => by
      have pin : ∀ b ∈ fp, ∀ o, s7.heap.get? b = some o → s'.heap.get? b = some o ∧ H' b = none := fun b hb o e =>
        let z := I'.pin (b, o) (List.mem_append_right _ (List.mem_append_right _ (mem_pinsAt hb e)))
        ⟨z.1, z.2.1⟩
      refine ⟨I'.unpinned.weak hl hk, T.keep _ _ _ st7 fun b hb o e => (pin b hb o e).1, fun b hb => ?_⟩
      obtain ⟨o, e, _⟩ := T.obj _ _ st7 b hb
      exact (pin b hb o e).2
    have hl8 : (wipe σ0 vs).length = σ8.length := by rw [← hw, wipe_length]
    have hk8 : ∀ (j : Nat) v, (wipe σ0 vs)[j]? = some (some v) → σ8[j]? = some (some v) := fun j v e => by
      rw [← hw] at e
      exact (wipe_some e).1
    cases b with
    | false =>
      simp only [Bool.false_eq_true, if_false] at q9 ⊢
      obtain ⟨a1, a2, a3⟩ := back σ8 s9 H9 I9 hl8 hk8
      exact hno s9 H9 a1 a2 a3 q9
    | true =>
      simp only [if_true] at q9 ⊢
      exact hyes _ s9 σ8 H9 I9 q9 hw back
section
variable {X : Cx} {tg iter : Expr} {ifs : List Expr} {scope : Scope} {own : List (Str × Nat)} {wi : TI} {g : TG} {tt : TT} {tk tv : TE} {kx vx : Expr} {pos pos' : Pos} {pins : List (Addr × Obj)} {s : Shared} {σ : St} {H : Hp} {Q : VK} {Qf : Value → Shared → Prop} {use : Option (Value → Sem Unit)} {kd : Bool}
theorem dcG_core (hu : X.A.units < cLine) (hc : X.calm = true) (hN : X.N.Nodup) (I : Inv X pins σ H s) (hi : PI X tg iter wi) (ok : BlkOk X.N X.env.scope scope own) (hs : ∀ x, foldedSetIterable iter X.env x = pure x)
    (hg : InBlk X scope fun Y => PG Y tg g) (ht : InBlk X scope fun Y => PTs Y ifs tt) (hk : InBlk X scope fun Y => PE Y kx tk) (he : InBlk X scope fun Y => PE Y vx tv)
    (h : tDcG kd wi g tt tk tv (own.map (·.2)) σ H Q)
    (hRR : ∀ D C s' m H', Inv X pins σ H' s' → Q (.ref D) H' → s'.heap.Ns C m → FpOk X pins H' C → compPost (model X.prog X.w) X.A X.xe use Qf (.ref D) C (.ok .next) s') :
    wpAny (model X.prog X.w) X.A (comprehension (.DictComp kx vx [⟨tg, iter, ifs, 0⟩] scope pos) scope X.env pos' newDict false (eval iter X.env) use) Qf X.xe s := by
  refine d_frame (kd := kd) (L := fun (J : It) (D : Addr) (H3 : Hp) => wlk J g σ (own.map fun x : Str × Nat => x.2) tt (Q (.ref D)) (dSto D tk tv) H3) hc hN I hi ok hs h hRR fun J D it C cl fp tn s3 s4 H3 T l0 I4 st4 n4 fin => ?_
  obtain ⟨W, ⟨m0, w0⟩, turn⟩ := l0
  have hf : ∀ H', (∀ b ∈ fp, H' b = none) → ∀ b ∈ fp, FpOk (X.blk s3 H3 scope (compEnvC scope cl C X.env) fp) [] H' b := fun H' hn b hb =>
    ⟨hn b hb, (I4.ok.exf b hb).1, I4.ok.exfs b hb, .inl hb, fun x c e => (I4.ok.exf b hb).2 x c e, fun p hp => absurd (show p ∈ ([] : List (Addr × Obj)) ++ [] from hp) (by simp)⟩
  refine compLoop_anyD (fun n s' => ∃ i H', Inv (X.blk s3 H3 scope (compEnvC scope cl C X.env) fp) [] (wipe σ (own.map (·.2))) H' s' ∧ tn i s'.heap ∧ (∀ b ∈ fp, H' b = none) ∧ W i n H') ?_ m0 ⟨0, H3, I4, st4, n4, w0⟩
  rintro n s5 ⟨i, H5, I5, st5, n5, w5⟩
  have alt := turn i n H5 w5
  rcases alt with ⟨stop, qq⟩ | ⟨go, Nx, hNx, step⟩
  · exact turn_ok (Y := X.blk s3 H3 scope (compEnvC scope cl C X.env) fp) (ready := Q (.ref D)) (body := fun _ _ => False) (Nx := fun _ => False) rfl hc T (hg ..) (ht ..) hf I5 st5 n5 (.inl ⟨stop, qq⟩) (fun s6 I6 q => fin s6 H5 I6 q) (fun _ _ _ _ _ z => z.elim) (fun _ _ _ _ _ z => z.elim)
  · refine turn_ok (Y := X.blk s3 H3 scope (compEnvC scope cl C X.env) fp) (ready := fun _ => False) (body := dSto D tk tv Nx) (Nx := Nx) rfl hc T (hg ..) (ht ..) hf I5 st5 n5 (.inr ⟨go, step⟩) (fun _ _ z => z.elim) (fun s' H' a1 a2 a3 nx => ?_) (fun pl s9 σ8 H9 I9 q9 hw back => ?_)
    · obtain ⟨m, hm, w'⟩ := hNx H' nx
      exact ⟨m, hm, i + 1, H', a1, a2, a3, w'⟩
    · refine thnF ((hk ..).run _ s9 σ8 H9 _ I9 q9) fun a s10 ⟨ya, H10, I10, r10, q10⟩ => ?_
      refine thnF ((he ..).run _ s10 σ8 H10 _ I10 q10) fun b s11 ⟨yb, H11, I11, r11, H12, put, nx⟩ => ?_
      refine d_dictSetG (X := X.blk s3 H3 scope (compEnvC scope cl C X.env) fp) hu I11 put r10 r11 fun s12 I12 => ?_
      obtain ⟨m, hm, w'⟩ := hNx H12 nx
      obtain ⟨a1, a2, a3⟩ := back σ8 s12 H12 I12 (by rw [← hw, wipe_length]) fun j v e => by
        rw [← hw] at e
        exact (wipe_some e).1
      exact ⟨m, hm, i + 1, H12, a1, a2, a3, w'⟩
theorem dc2G_core {tg1 iter1 : Expr} {ifs1 : List Expr} {vs1 : List Nat} {wj : TI} {g1 : TG} {tt1 : TT} (hu : X.A.units < cLine) (hc : X.calm = true) (hN : X.N.Nodup) (I : Inv X pins σ H s) (hi : PI X tg iter wi) (ok : BlkOk X.N X.env.scope scope own) (hv : ∀ i ∈ vs1, i ∈ own.map (·.2)) (hs : ∀ x, foldedSetIterable iter X.env x = pure x)
    (hg : InBlk X scope fun Y => PG Y tg g) (ht : InBlk X scope fun Y => PTs Y ifs tt) (hi1 : InBlk X scope fun Y => PI Y tg1 iter1 wj) (hg1 : InBlk X scope fun Y => PG Y tg1 g1) (ht1 : InBlk X scope fun Y => PTs Y ifs1 tt1)
    (hk : InBlk X scope fun Y => PE Y kx tk) (he : InBlk X scope fun Y => PE Y vx tv) (hs1 : ∀ env x, foldedSetIterable iter1 env x = pure x)
    (h : tDc2G kd wi g tt wj g1 tt1 tk tv (own.map (·.2)) vs1 σ H Q)
    (hRR : ∀ D C s' m H', Inv X pins σ H' s' → Q (.ref D) H' → s'.heap.Ns C m → FpOk X pins H' C → compPost (model X.prog X.w) X.A X.xe use Qf (.ref D) C (.ok .next) s') :
    wpAny (model X.prog X.w) X.A (comprehension (dX2 kx vx tg iter tg1 iter1 ifs ifs1 scope pos) scope X.env pos' newDict false (eval iter X.env) use) Qf X.xe s := by
  refine d_frame (kd := kd) (L := fun (J : It) (D : Addr) (H3 : Hp) => wlk J g σ (own.map fun x : Str × Nat => x.2) tt (Q (.ref D)) (fun Nx σ2 H3 => wj σ2 H3 fun J1 H4 => wlk J1 g1 σ2 vs1 tt1 Nx (dSto D tk tv) H4) H3) hc hN I hi ok hs h hRR fun J D it C cl fp tn s3 s4 H3 T l0 I4 st4 n4 fin => ?_
  obtain ⟨W, ⟨m0, w0⟩, turn⟩ := l0
  generalize hce : compEnvC scope cl C X.env = ce at *
  have pg : PG (X.blk s3 H3 scope ce fp) tg g := by rw [← hce]; exact hg ..
  have pt : PTs (X.blk s3 H3 scope ce fp) ifs tt := by rw [← hce]; exact ht ..
  have pj : PI (X.blk s3 H3 scope ce fp) tg1 iter1 wj := by rw [← hce]; exact hi1 ..
  have pg1 : PG (X.blk s3 H3 scope ce fp) tg1 g1 := by rw [← hce]; exact hg1 ..
  have pt1 : PTs (X.blk s3 H3 scope ce fp) ifs1 tt1 := by rw [← hce]; exact ht1 ..
  have pk : PE (X.blk s3 H3 scope ce fp) kx tk := by rw [← hce]; exact hk ..
  have pe : PE (X.blk s3 H3 scope ce fp) vx tv := by rw [← hce]; exact he ..
  clear hg ht hi1 hg1 ht1 hk he h
  have hf : ∀ H', (∀ b ∈ fp, H' b = none) → ∀ b ∈ fp, FpOk (X.blk s3 H3 scope ce fp) [] H' b := fun H' hn b hb =>
    ⟨hn b hb, (I4.ok.exf b hb).1, I4.ok.exfs b hb, .inl hb, fun x c e => (I4.ok.exf b hb).2 x c e, fun p hp => absurd (show p ∈ ([] : List (Addr × Obj)) ++ [] from hp) (by simp)⟩
  refine dX2_loop0 (hs1 ce) (fun n s' => ∃ i H', Inv (X.blk s3 H3 scope ce fp) [] (wipe σ (own.map (·.2))) H' s' ∧ tn i s'.heap ∧ (∀ b ∈ fp, H' b = none) ∧ W i n H') ?_ m0 ⟨0, H3, I4, st4, n4, w0⟩
  rintro n s5 ⟨i, H5, I5, st5, n5, w5⟩
  rcases turn i n H5 w5 with ⟨stop, qq⟩ | ⟨go, Nx, hNx, step⟩
  · exact turn_ok (Y := X.blk s3 H3 scope ce fp) (ready := Q (.ref D)) (body := fun _ _ => False) (Nx := fun _ => False) rfl hc T pg pt hf I5 st5 n5 (.inl ⟨stop, qq⟩) (fun s6 I6 q => fin s6 H5 I6 q) (fun _ _ _ _ _ z => z.elim) (fun _ _ _ _ _ z => z.elim)
  · refine turn_ok (Y := X.blk s3 H3 scope ce fp) (ready := fun _ => False) (body := fun σ2 H3 => wj σ2 H3 fun J1 H4 => wlk J1 g1 σ2 vs1 tt1 Nx (dSto D tk tv) H4) (Nx := Nx) rfl hc T pg pt hf I5 st5 n5 (.inr ⟨go, step⟩) (fun _ _ z => z.elim) (fun s' H' a1 a2 a3 nx => ?_) (fun pl s9 σ8 H9 I9 q9 hw back => ?_)
    · obtain ⟨m, hm, w'⟩ := hNx H' nx
      exact ⟨m, hm, i + 1, H', a1, a2, a3, w'⟩
    · refine thnF (pj.run _ s9 σ8 H9 _ I9 q9) fun xv s10 hx => thnF hx fun jt s11 k11 => ?_
      obtain ⟨it1, fp1, tn1, J1, H11, rfl, I11, T1, st11, f11, W1, ⟨m1, w1⟩, turn1⟩ := k11
      have hf1 : ∀ H', (∀ b ∈ fp1, H' b = none) → ∀ b ∈ fp1, FpOk (X.blk s3 H3 scope ce fp) ([] ++ pl) H' b := fun H' hn b hb => ⟨hn b hb, (f11 b hb).2⟩
      have e8 : wipe (wipe σ8 vs1) (own.map (·.2)) = wipe σ (own.map (·.2)) ∨ True := .inr True.intro
      have hl : (wipe σ (own.map (·.2))).length = (wipe σ8 vs1).length := by rw [← hw, wipe_length, wipe_length]
      have hk9 : ∀ (j : Nat) v, (wipe σ (own.map (·.2)))[j]? = some (some v) → (wipe σ8 vs1)[j]? = some (some v) := fun j v e => by
        rw [← hw] at e
        obtain ⟨a1, a2⟩ := wipe_some e
        rw [wipe_out fun z => a2 (hv j z)]
        exact a1
      have loop1 : codeAny (model X.prog X.w) X.A (.compLoop (dX2 kx vx tg iter tg1 iter1 ifs ifs1 scope pos) 1 (.ref it1) (.ref D) ce) (fun r s' => match r with
          | .ok _ => ∃ m, m < n ∧ ∃ i H', Inv (X.blk s3 H3 scope ce fp) [] (wipe σ (own.map (·.2))) H' s' ∧ tn i s'.heap ∧ (∀ b ∈ fp, H' b = none) ∧ W i m H'
          | .error _ => False) s11 := by
        refine dX2_loop1 (fun k s' => ∃ j H', Inv (X.blk s3 H3 scope ce fp) ([] ++ pl) (wipe σ8 vs1) H' s' ∧ tn1 j s'.heap ∧ (∀ b ∈ fp1, H' b = none) ∧ W1 j k H') ?_ m1 ⟨0, H11, I11.weak (wipe_length _ _) (fun j v e => (wipe_some e).1), st11, fun b hb => (f11 b hb).1, w1⟩
        rintro k s12 ⟨j, H12, I12, st12, n12, w12⟩
        rcases turn1 j k H12 w12 with ⟨stop1, nx1⟩ | ⟨go1, Nx1, hNx1, step1⟩
        · refine turn_ok (Y := X.blk s3 H3 scope ce fp) (ready := Nx) (body := fun _ _ => False) (Nx := fun _ => False) rfl hc T1 pg1 pt1 hf1 I12 st12 n12 (.inl ⟨stop1, nx1⟩) (fun s6 I6 q => ?_) (fun _ _ _ _ _ z => z.elim) (fun _ _ _ _ _ z => z.elim)
          obtain ⟨m, hm, w'⟩ := hNx H12 q
          obtain ⟨a1, a2, a3⟩ := back _ s6 H12 I6 hl hk9
          exact ⟨m, hm, i + 1, H12, a1, a2, a3, w'⟩
        · refine turn_ok (Y := X.blk s3 H3 scope ce fp) (ready := fun _ => False) (body := dSto D tk tv Nx1) (Nx := Nx1) rfl hc T1 pg1 pt1 hf1 I12 st12 n12 (.inr ⟨go1, step1⟩) (fun _ _ z => z.elim) (fun s' H' a1 a2 a3 nx => ?_) (fun pl1 s13 σ13 H13 I13 q13 hw1 back1 => ?_)
          · obtain ⟨m, hm, w'⟩ := hNx1 H' nx
            exact ⟨m, hm, j + 1, H', a1, a2, a3, w'⟩
          · refine thnF (pk.run _ s13 σ13 H13 _ I13 q13) fun a s14 ⟨ya, H14, I14, r14, q14⟩ => ?_
            refine thnF (pe.run _ s14 σ13 H14 _ I14 q14) fun b s15 ⟨yb, H15, I15, r15, H16, put, nx⟩ => ?_
            refine d_dictSetG (X := X.blk s3 H3 scope ce fp) hu I15 put r14 r15 fun s16 I16 => ?_
            obtain ⟨m, hm, w'⟩ := hNx1 H16 nx
            obtain ⟨a1, a2, a3⟩ := back1 σ13 s16 H16 I16 (by rw [← hw1, wipe_length]) fun j v e => by
              rw [← hw1] at e
              exact (wipe_some e).1
            exact ⟨m, hm, j + 1, H16, a1, a2, a3, w'⟩
      exact dX2_start (.inr rfl) loop1 (T1.self X.A 0 _ _ _ st11 loop1)
theorem pe_dcG (hu : X.A.units < cLine) (hc : X.calm = true) (hN : X.N.Nodup) (hi : PI X tg iter wi) (ok : BlkOk X.N X.env.scope scope own) (hg : InBlk X scope fun Y => PG Y tg g) (ht : InBlk X scope fun Y => PTs Y ifs tt) (hk : InBlk X scope fun Y => PE Y kx tk) (he : InBlk X scope fun Y => PE Y vx tv)
    (hs : ∀ x, foldedSetIterable iter X.env x = pure x := by intro _; rfl) : PE X (.DictComp kx vx [⟨tg, iter, ifs, 0⟩] scope pos) (tDcG kd wi g tt tk tv (own.map (·.2))) := by
  refine ⟨fun pins s σ H Q I h => ?_⟩
  rw [arm_eval_DictComp]
  refine dcG_core hu hc hN I hi ok hs hg ht hk he h fun D C s' m H' I' q hn f => ⟨m, hn, fun h'' sb => ?_⟩
  obtain ⟨f0, f1, f2, f3, f4, f5⟩ := f
  exact ⟨.ref D, H', I'.turned (t' := s'.toks) (fun b o hb e => (sb.2 b hb).trans e) f0 f1 f3 f4 f5, rfl, q⟩
theorem pe_dc2G {tg1 iter1 : Expr} {ifs1 : List Expr} {vs1 : List Nat} {wj : TI} {g1 : TG} {tt1 : TT} (hu : X.A.units < cLine) (hc : X.calm = true) (hN : X.N.Nodup) (hi : PI X tg iter wi) (ok : BlkOk X.N X.env.scope scope own) (hv : ∀ i ∈ vs1, i ∈ own.map (·.2)) (hg : InBlk X scope fun Y => PG Y tg g) (ht : InBlk X scope fun Y => PTs Y ifs tt)
    (hi1 : InBlk X scope fun Y => PI Y tg1 iter1 wj) (hg1 : InBlk X scope fun Y => PG Y tg1 g1) (ht1 : InBlk X scope fun Y => PTs Y ifs1 tt1) (hk : InBlk X scope fun Y => PE Y kx tk) (he : InBlk X scope fun Y => PE Y vx tv)
    (hs : ∀ x, foldedSetIterable iter X.env x = pure x := by intro _; rfl) (hs1 : ∀ env x, foldedSetIterable iter1 env x = pure x := by intro _ _; rfl) : PE X (dX2 kx vx tg iter tg1 iter1 ifs ifs1 scope pos) (tDc2G kd wi g tt wj g1 tt1 tk tv (own.map (·.2)) vs1) := by
  refine ⟨fun pins s σ H Q I h => ?_⟩
  rw [arm_eval_DictComp]
  refine dc2G_core hu hc hN I hi ok hv hs hg ht hi1 hg1 ht1 hk he hs1 h fun D C s' m H' I' q hn f => ⟨m, hn, fun h'' sb => ?_⟩
  obtain ⟨f0, f1, f2, f3, f4, f5⟩ := f
  exact ⟨.ref D, H', I'.turned (t' := s'.toks) (fun b o hb e => (sb.2 b hb).trans e) f0 f1 f3 f4 f5, rfl, q⟩
end

/-! ### the values and the items of a locked dict whose keys are tuples -/
section
variable {X : Cx} {pins : List (Addr × Obj)} {σ : St} {H : Hp} {s : Shared} {d : Addr} {o : Obj} {kvs : List (List Key × V)}
theorem Inv.frzTV (I : Inv X pins σ H s) (h : H d = some (.frz o (.dT kvs))) :
    (d == sysModules) = false ∧ s.heap.get? d = some o ∧ o.ExactDict ∧ ∃ (es : Array DictEntry) (ep : Nat), o.data = .dict es ep ∧ es.size = kvs.length ∧
      ∀ (i : Nat) (k : List Key) (v : V) (hi : i < es.size), kvs[i]? = some (k, v) → ∃ q : Addr, es[i].key = .ref q ∧ H q = some (.tup (k.map kV)) ∧ RelV v es[i].val := by
  obtain ⟨hd, z, nsys, xs, pr, o', es, ep, ho, hx, hdt, he, _⟩ := I.hok d _ h
  rw [hd] at ho
  cases ho
  refine ⟨nsys, hd, hx, es, ep, hdt, ?_, fun i k v hi e => ?_⟩
  · rw [size_of_entries he, Paired.length pr]
  · obtain ⟨b, hb, e1, e2, e3⟩ := paired_get pr e
    have q := entry_at he i
    rw [hb, Array.getElem?_eq_getElem hi] at q
    have q : es[i] = _ := Option.some.inj q
    rw [q]
    exact ⟨b.2.1, rfl, e2, e3⟩
end
/-- the values -/
def Itdt (d : Addr) (o : Obj) (kvs : List (List Key × V)) : It :=
  ⟨fun i H => H d = some (.frz o (.dT kvs)) ∧ i < kvs.length, fun i H x H' => H' = H ∧ ∃ k, kvs[i]? = some (k, x), fun i H => H d = some (.frz o (.dT kvs)) ∧ kvs.length ≤ i⟩
/-- the pairs: the key's own tuple and the value -/
def Itit (d : Addr) (o : Obj) (kvs : List (List Key × V)) : It :=
  ⟨fun i H => H d = some (.frz o (.dT kvs)) ∧ i < kvs.length, fun i H x H' => ∃ T k v q, kvs[i]? = some (k, v) ∧ H q = some (.tup (k.map kV)) ∧ x = .ref T ∧ H T = none ∧ H' = upd H T (.tup [.ref q, v]), fun i H => H d = some (.frz o (.dT kvs)) ∧ kvs.length ≤ i⟩
section
variable {P : Program} {w : World} {K : PySem.W.Frag} {tg : Expr} {d : Addr} {o : Obj} {es : Array DictEntry} {ep : Nat} {kvs : List (List Key × V)}
theorem turn_valsT (it : Addr) (hod : o.data = .dict es ep) : Turn P w K tg (Itdt d o kvs) [it] it (fun i h => h.IsValIter it d i kvs.length ep) where
  mem := List.mem_singleton.mpr rfl
  obj := fun i h st b hb => by
    obtain rfl := List.mem_singleton.mp hb
    obtain ⟨oi, e, _, dd⟩ := st
    exact ⟨oi, e, fun v z => by rw [dd] at z; cases z⟩
  keep := fun i h h' st k => st.at fun oi e => k it (List.mem_singleton.mpr rfl) oi e
  item := by
    intro X hP hw hK hc i pins s σ H E I hf st ⟨hd, hi⟩
    subst hP hw hK
    obtain ⟨f0, f1, f2, f3, f4, f5⟩ := hf it (List.mem_singleton.mpr rfl)
    obtain ⟨nsys, hgd, hx, es', ep', hdt, hsz, ent⟩ := I.frzTV hd
    obtain ⟨rfl, rfl⟩ := dict_ep hod hdt
    obtain ⟨⟨k, v⟩, hkv⟩ : ∃ p, kvs[i]? = some p := ⟨kvs[i], List.getElem?_eq_getElem hi⟩
    have hi' : i < es'.size := by omega
    obtain ⟨q, _, _, rv⟩ := ent i k v hi' hkv
    rw [← hsz] at st
    refine wpAny_pyNext_values_item_raw st ⟨o, hgd, hx, hdt⟩ hi' fun h' st' sb => ?_
    have I1 : Inv X pins σ H { s with heap := h' } := I.turned (t' := s.toks) (fun b ob hb e => (sb.2 b hb).trans e) f0 f1 f3 f4 f5
    obtain ⟨oi, e, c, dd⟩ := id st'
    refine ⟨_, rfl, go_of (s := { s with heap := h' }) e c dd (by decide) ⟨v, H, I1, rv, ⟨rfl, k, hkv⟩, ?_, fun b hb => (hf b hb).1⟩⟩
    rw [← hsz]
    exact st'
  done := by
    intro X hP hw hK hc i pins s σ H E I hf st ⟨hd, hi⟩
    subst hP hw hK
    obtain ⟨f0, f1, f2, f3, f4, f5⟩ := hf it (List.mem_singleton.mpr rfl)
    obtain ⟨nsys, hgd, hx, es', ep', hdt, hsz, ent⟩ := I.frzTV hd
    obtain ⟨rfl, rfl⟩ := dict_ep hod hdt
    rw [← hsz] at st
    exact wpAny_pyNext_values_end_raw (I.ok.hd hc) st ⟨o, hgd, hx, hdt⟩ (by omega) fun h' eb => ⟨rfl, I.turned (t' := s.toks) (fun b ob hb e => eb b ob hb e) f0 f1 f3 f4 f5⟩
  self := fun A i s Q E st h => wpAny_pyIter_valiter st h
theorem turn_itemsT {elts : List Expr} {kk : Nat} {tpos : Pos} (it : Addr) (hod : o.data = .dict es ep) : Turn P w K (.Tuple elts kk tpos) (Itit d o kvs) [it] it (fun i h => ∃ ok ov, IsItemIter h it d i kvs.length ep ok ov) where
  mem := List.mem_singleton.mpr rfl
  obj := fun i h st b hb => by
    obtain rfl := List.mem_singleton.mp hb
    obtain ⟨ok, ov, e⟩ := st
    exact ⟨_, e, fun v z => nomatch z⟩
  keep := fun i h h' st k => let ⟨ok, ov, e⟩ := st; ⟨ok, ov, k it (List.mem_singleton.mpr rfl) _ e⟩
  item := by
    intro X hP hw hK hc i pins s σ H E I hf st ⟨hd, hi⟩
    subst hP hw hK
    obtain ⟨nsys, hgd, hx, es', ep', hdt, hsz, ent⟩ := I.frzTV hd
    obtain ⟨rfl, rfl⟩ := dict_ep hod hdt
    obtain ⟨⟨k, v⟩, hkv⟩ : ∃ p, kvs[i]? = some p := ⟨kvs[i], List.getElem?_eq_getElem hi⟩
    have hi' : i < es'.size := by omega
    obtain ⟨q, ek, hq, rv⟩ := ent i k v hi' hkv
    obtain ⟨ok, ov, he⟩ := st
    rw [← hsz] at he
    have lt := Heap.lt_size he
    refine wpAny_pyNext_items_item_raw he ⟨o, hgd, hx, hdt⟩ hi' fun h' ho hT hz hk => ?_
    refine ⟨_, rfl, wpAny_letOwnedTupleGo_items (s := { s with heap := h' }) ho fun h2 he2 sb => ?_⟩
    have hT2 := (sb.2 _ (Nat.ne_of_gt lt)).trans hT
    rw [ek] at hT2
    have new : ObjOk X.prog X.w (upd H s.heap.objs.size (.tup [.ref q, v])) h2 s.heap.objs.size (.tup [.ref q, v]) :=
      ⟨by show 2 ≤ sizeLine; decide, [.ref q, es'[i].val], .cons rfl (.cons rv .nil), ⟨_, hT2, rfl, _, rfl⟩⟩
    have I1 : Inv X pins σ (upd H s.heap.objs.size (.tup [.ref q, v])) { s with heap := h2 } :=
      I.turnedNew (t' := s.toks) (ch := [it]) (fun b ob hb e => (sb.2 b fun z => hb (List.mem_singleton.mpr z)).trans (hk b ob (fun z => hb (List.mem_singleton.mpr z)) e)) hf (Nat.le_refl _) new
    have st2 : ∃ ok ov, IsItemIter h2 it d (i + 1) kvs.length ep' ok ov := by
      rw [← hsz]
      exact ⟨_, _, he2⟩
    refine ⟨.ref s.heap.objs.size, _, I1, rfl, ⟨_, k, v, q, hkv, hq, rfl, I.hok.fresh (Nat.le_refl _), rfl⟩, st2, fun b hb => ?_⟩
    · obtain rfl := List.mem_singleton.mp hb
      rw [upd_ne (Nat.ne_of_lt lt)]
      exact (hf b hb).1
  done := by
    intro X hP hw hK hc i pins s σ H E I hf st ⟨hd, hi⟩
    subst hP hw hK
    obtain ⟨f0, f1, f2, f3, f4, f5⟩ := hf it (List.mem_singleton.mpr rfl)
    obtain ⟨nsys, hgd, hx, es', ep', hdt, hsz, ent⟩ := I.frzTV hd
    obtain ⟨rfl, rfl⟩ := dict_ep hod hdt
    obtain ⟨ok, ov, he⟩ := st
    rw [← hsz] at he
    exact wpAny_pyNext_items_end_raw (I.ok.hd hc) he ⟨o, hgd, hx, hdt⟩ (by omega) fun h' eb => ⟨rfl, I.turned (t' := s.toks) (fun b ob hb e => eb b ob hb e) f0 f1 f3 f4 f5⟩
  self := fun A i s Q E st h => let ⟨_, _, e⟩ := st; PySem.W.kcp_self e h
end
def iValsT (td : TE) : TI := fun σ H R => td σ H fun x H1 => ∃ d o kvs, x = .ref d ∧ H1 d = some (.frz o (.dT kvs)) ∧ R (Itdt d o kvs) H1
def iItemsT (td : TE) : TI := fun σ H R => td σ H fun x H1 => ∃ d o kvs, x = .ref d ∧ H1 d = some (.frz o (.dT kvs)) ∧ R (Itit d o kvs) H1
section
variable {X : Cx} {tg e : Expr} {td : TE} {apos cpos : Pos}
theorem noD_of {d : Addr} {o : Obj} {s : Shared} (hgd : s.heap.get? d = some o) (hx : o.ExactDict) : ∀ b, Value.ref d = .ref b → ∃ ob, s.heap.get? b = some ob ∧ ob.dict = none := fun b q => by
  cases q
  exact ⟨o, hgd, hx.2.1⟩
theorem pi_valuesT (he : PE X e td) (hbase : attributeBase e "values" X.env (eval e X.env) = eval e X.env := by rfl) (hline : (apos.endLine == cpos.line) = true := by rfl) : PI X tg (.Call (.Attribute e "values" apos) [] [] cpos) (iValsT td) := by
  refine ⟨fun pins s σ H R I h => ?_⟩
  refine wpAny_Call_method (T := "dict") (id := "dict.values") hbase rfl hline F.plainAttrs_dict F.slot_dict_values F.type_dict_values (thn (he.run pins s σ H _ I h) fun u s1 ⟨x, H1, I1, rx, d, o, kvs, ex, hd, q⟩ => ?_)
  subst ex
  obtain rfl : u = Value.ref d := rx
  obtain ⟨nsys, hgd, hx, es, ep, hdt, hsz, ent⟩ := I1.frzTV hd
  have raw : s1.heap.DictRaw d es ep := ⟨o, hgd, hx, hdt⟩
  refine ⟨raw.typeIs, noD_of hgd hx, ?_⟩
  have I2 : Inv X pins σ H1 { s1 with heap := s1.heap.push { cls := .type "dict_values", data := .fields #[.ref d] } } := I1.kept (t' := s1.toks) fun b ob q => Heap.get?_push_of_some _ q
  have fin : wpAny (model X.prog X.w) X.A (pyIter (.ref s1.heap.objs.size)) (PIE X pins σ tg R) X.xe { s1 with heap := s1.heap.push { cls := .type "dict_values", data := .fields #[.ref d] } } := by
    refine wpAny_pyIter_values_raw ⟨_, Heap.get?_push_size _ rfl, rfl, rfl⟩ (raw.at fun _ z => Heap.get?_push_of_some _ z) (pi_one (tk := s1.toks) I2 _ (turn_valsT _ hdt) ⟨_, Heap.get?_push_size _ rfl, rfl, ?_⟩ q)
    rw [hsz] <;> rfl
  show wpAny _ _ (callWith cpos (.builtin "dict.values") [.ref d] [] []) _ X.xe s1
  exact method_meetsIn F.slot_dict_values F.entry_dict_values rfl (PySem.evalArgs_none ⟨rfl, raw.typeIs, F.args_dict_values_1 _, _, meets_dict_values_raw d nsys, ⟨⟨es, ep, raw⟩, fin⟩⟩)
theorem pi_itemsT {elts : List Expr} {kk : Nat} {tpos : Pos} (he : PE X e td) (hbase : attributeBase e "items" X.env (eval e X.env) = eval e X.env := by rfl) (hline : (apos.endLine == cpos.line) = true := by rfl) :
    PI X (.Tuple elts kk tpos) (.Call (.Attribute e "items" apos) [] [] cpos) (iItemsT td) := by
  refine ⟨fun pins s σ H R I h => ?_⟩
  refine wpAny_Call_method (T := "dict") (id := "dict.items") hbase rfl hline F.plainAttrs_dict F.slot_dict_items F.type_dict_items (thn (he.run pins s σ H _ I h) fun u s1 ⟨x, H1, I1, rx, d, o, kvs, ex, hd, q⟩ => ?_)
  subst ex
  obtain rfl : u = Value.ref d := rx
  obtain ⟨nsys, hgd, hx, es, ep, hdt, hsz, ent⟩ := I1.frzTV hd
  have raw : s1.heap.DictRaw d es ep := ⟨o, hgd, hx, hdt⟩
  refine ⟨raw.typeIs, noD_of hgd hx, ?_⟩
  have I2 : Inv X pins σ H1 { s1 with heap := s1.heap.push { cls := .type "dict_items", data := .fields #[.ref d] } } := I1.kept (t' := s1.toks) fun b ob q => Heap.get?_push_of_some _ q
  have fin : wpAny (model X.prog X.w) X.A (pyIter (.ref s1.heap.objs.size)) (PIE X pins σ (.Tuple elts kk tpos) R) X.xe { s1 with heap := s1.heap.push { cls := .type "dict_items", data := .fields #[.ref d] } } := by
    refine wpAny_pyIter_items_raw ⟨_, Heap.get?_push_size _ rfl, rfl, rfl⟩ (raw.at fun _ z => Heap.get?_push_of_some _ z) (pi_one (tk := s1.toks) I2 _ (turn_itemsT _ hdt) ⟨.none, .none, ?_⟩ q)
    rw [← hsz]
    exact Heap.get?_push_size _ rfl
  show wpAny _ _ (callWith cpos (.builtin "dict.items") [.ref d] [] []) _ X.xe s1
  exact method_meetsIn F.slot_dict_items F.entry_dict_items rfl (PySem.evalArgs_none ⟨rfl, raw.typeIs, F.args_dict_items_1 _, _, meets_dict_items_raw d nsys, ⟨⟨es, ep, raw⟩, fin⟩⟩)
end
section
variable {d : Addr} {o : Obj} {kvs : List (List Key × V)}
theorem walk_valuesT : Walk (Itdt d o kvs) kvs.length (fun H => H d = some (.frz o (.dT kvs))) (fun i H x H' => H' = H ∧ ∃ k, kvs[i]? = some (k, x)) :=
  ⟨fun _ _ hi q => ⟨q, hi⟩, fun _ q => ⟨q, Nat.le_refl _⟩, fun _ _ _ _ _ _ y => y⟩
theorem walk_itemsT : Walk (Itit d o kvs) kvs.length (fun H => H d = some (.frz o (.dT kvs))) (fun i H x H' => ∃ T k v q, kvs[i]? = some (k, v) ∧ H q = some (.tup (k.map kV)) ∧ x = .ref T ∧ H T = none ∧ H' = upd H T (.tup [.ref q, v])) :=
  ⟨fun _ _ hi q => ⟨q, hi⟩, fun _ q => ⟨q, Nat.le_refl _⟩, fun _ _ _ _ _ _ y => y⟩
/-- a dict comprehension's clause over a known walk: Pv by the turn and the heap -/
theorem wlk_it {J : It} {n : Nat} {G : Hp → Prop} {Y : Nat → Hp → V → Hp → Prop} (w : Walk J n G Y) {g : TG} {tt : TT} {vs : List Nat} {σ0 : St} {ready : Hp → Prop} {body : (Hp → Prop) → St → Hp → Prop} {H0 : Hp} (Pv : Nat → Hp → Prop) (h0 : Pv 0 H0) (hG : ∀ i H, i ≤ n → Pv i H → G H)
    (hs : ∀ i x H H', i < n → Pv i H → Y i H x H' → g x (wipe σ0 vs) H' fun σ2 H2 => wipe σ2 vs = wipe σ0 vs ∧ tt σ2 H2 fun b H3 => if b = true then body (Pv (i + 1)) σ2 H3 else Pv (i + 1) H3) (hd : ∀ H, Pv n H → ready H) :
    wlk J g σ0 vs tt ready body H0 := by
  refine ⟨fun i m H => m = n - i ∧ i ≤ n ∧ Pv i H, ⟨n, by simp, Nat.zero_le _, h0⟩, ?_⟩
  rintro i m H ⟨rfl, hi, p⟩
  have q := hG i H hi p
  by_cases hlt : i < n
  · exact .inr ⟨w.goes i H hlt q, Pv (i + 1), fun H' p' => ⟨n - (i + 1), by omega, rfl, hlt, p'⟩, fun x H' y => hs i x H H' hlt p (w.yields i H x H' hlt q y)⟩
  · obtain rfl : i = n := by omega
    exact .inl ⟨w.stops H q, hd H p⟩
end
end L2

set_option maxHeartbeats 1000000
/-! which value goes to which parameter, where a call has keywords and keyword-only defaults fill up -/
namespace L2
open PySem PySem.Spec PyProof.Rows
/-- picks: (0, i) the i-th positional value, (1, i) of the defaults, (2, i) of the keywords -/
def kg {α : Type} (ps : List (Nat × Nat)) (us mv ws : List α) : List α := ps.filterMap fun p => (if p.1 = 0 then us else if p.1 = 1 then mv else ws)[p.2]?
theorem vals_ix {vs : List V} {us : List Value} (h : Vals vs us) (i : Nat) : (vs[i]? = none ∧ us[i]? = none) ∨ ∃ v u, vs[i]? = some v ∧ us[i]? = some u ∧ RelV v u := by
  induction h generalizing i with
  | nil => exact .inl ⟨by simp, by simp⟩
  | @cons v u vs us r t ih =>
    cases i with
    | zero => exact .inr ⟨v, u, rfl, rfl, r⟩
    | succ i => simpa using ih i
theorem kg_rel {vs mz zs : List V} {us mv ws : List Value} (h1 : Vals vs us) (h2 : Vals mz mv) (h3 : Vals zs ws) : ∀ ps : List (Nat × Nat), Vals (kg ps vs mz zs) (kg ps us mv ws)
  | [] => .nil
  | p :: ps => by
    have ih := kg_rel h1 h2 h3 ps
    have k : ((if p.1 = 0 then vs else if p.1 = 1 then mz else zs)[p.2]? = none ∧ (if p.1 = 0 then us else if p.1 = 1 then mv else ws)[p.2]? = none) ∨ ∃ v u, (if p.1 = 0 then vs else if p.1 = 1 then mz else zs)[p.2]? = some v ∧ (if p.1 = 0 then us else if p.1 = 1 then mv else ws)[p.2]? = some u ∧ RelV v u := by
      by_cases a : p.1 = 0
      · rw [if_pos a, if_pos a]; exact vals_ix h1 _
      · rw [if_neg a, if_neg a]
        by_cases b : p.1 = 1
        · rw [if_pos b, if_pos b]; exact vals_ix h2 _
        · rw [if_neg b, if_neg b]; exact vals_ix h3 _
    unfold kg at ih ⊢
    rcases k with ⟨k1, k2⟩ | ⟨v, u, k1, k2, r⟩
    · rw [List.filterMap_cons, List.filterMap_cons, k1, k2]
      exact ih
    · rw [List.filterMap_cons, List.filterMap_cons, k1, k2]
      exact .cons r ih
section
variable {X : Cx} {CX : CXT} {k n1 : Nat} {f C : Addr} {fd : FuncData} {ps ks : List Str} {sp : Sp} {E : XK} {m : Str} {pos apos : Pos} {e o : Expr} {es : List Expr} {ta : TE} {t tk : TA} {kws : List Keyword}
  {g : List Value → List Value → List Value} {gV : List V → List V → List V}
/-- o.m(x, .., k = v, ..) -/
def tMethKn (C : Addr) (m : Str) (n1 n : Nat) (sp : Sp) (gV : List V → List V → List V) (E : XK) (ta : TE) (t tk : TA) : TE := fun σ H Q => ta σ H fun x H1 => ∃ a dx fs, x = .ref a ∧ H1 a = some (.ins C dx fs) ∧ fs.lookup m = none ∧
  t σ H1 fun vs H2 => tk σ H2 fun zs H3 => vs.length = n1 ∧ zs.length = n ∧ sp (gV (x :: vs) zs) H3 Q E
theorem pe_methKn {pl : Sem Bool} (he : PE X o ta) (c : Cls X.K C) (hm : Meth X.K C m f) (F : FnOk X.prog X.w X.K X.mg X.base CX k f fd ps sp) (room : Room k X.A) (hb : KBn X.K fd ps (n1 + 1) ks g gV) (hx : Passes CX X E) (ha : PA X (e :: es) t) (hkw : PK X kws tk)
    (hall : (backToKw pos (keywordEach kws X.env)).all (·.1.isSome) = true := by rfl) (hks : (backToKw pos (keywordEach kws X.env)).filterMap (·.1) = ks := by rfl)
    (hst : starEach (e :: es) X.env = (false, eval e X.env) :: starEach es X.env := by rfl)
    (hpl : ((backTo pos (starEach (e :: es) X.env)).any (·.1) || (backToKw pos (keywordEach kws X.env)).any (·.1.isNone)) = false := by rfl)
    (ht : eval (.Call (.Attribute o m apos) (e :: es) kws pos) X.env = (do
      let ov ← eval o X.env
      standAt apos.atName
      let (f, first) ← holding [ov] (getMethod ov m pl)
      callWith pos f first (backTo pos (starEach (e :: es) X.env)) (backToKw pos (keywordEach kws X.env))) := by rfl) :
    PE X (.Call (.Attribute o m apos) (e :: es) kws pos) (tMethKn C m n1 ks.length sp gV E ta t tk) := by
  constructor
  intro pins s σ H Q I h
  refine PySem.W.methodCall_KW (pl := pl) (thn (he.run pins s σ H _ I h) ?_) ht
  rintro u s1 ⟨x, H1, I1, rx, a, dx, fs, ex, ea, l, hq⟩
  subst ex
  obtain rfl : u = Value.ref a := rx
  refine getmeth_ok I1 ea c hm l (PySem.W.callWith_KW (h₀ := X.base) I1.ok.mod.kin hm.kp hall (thn (ha.run pos pins s1 σ H1 _ I1 hq) ?_) hpl hst)
  rintro us s2 ⟨vs, H2, I2, r, hq2⟩
  refine thn (hkw.run pos pins s2 σ H2 _ I2 hq2) ?_
  rintro ws s3 ⟨zs, H3, I3, rz, l1, l2, hs⟩
  refine ⟨I3.kIn, ?_⟩
  rw [hks]
  exact run_fnN (us := .ref a :: us) (vs := .ref a :: vs) F room hb hx I3 (.cons rfl r) rz (congrArg (· + 1) l1) l2 hs
end
end L2

set_option maxHeartbeats 1000000
/-! worlds: a drawing state, what is known, and regions that change; the same for all laws -/
namespace MyG
open PySem PySem.Spec PyProof.Rows L2 Evl
/-! ### the drawing state: a list [cells, place, last] at s, the cells at c -/
structure Sta (s c : Addr) (H : Hp) : Prop where
  ne : s ≠ c
  ex : ∃ (cells : List Int) (i j : Int), H s = some (.lst [.ref c, .int i, .int j]) ∧ H c = some (.lst (cells.map V.int)) ∧ cells ≠ [] ∧ (∀ x ∈ cells, 0 ≤ x) ∧ 0 ≤ i ∧ 0 ≤ j ∧ j < 2147483647
def Off (s c : Addr) (H H' : Hp) : Prop := ∀ a, a ≠ s → a ≠ c → H' a = H a
structure Wd (s c : Addr) (B H : Hp) : Prop where
  ex : Ex B H
  ns : B s = none
  nc : B c = none
  st : Sta s c H
theorem Sta.ext {s c : Addr} {H H' : Hp} (h : Sta s c H) (e : Ex H H') : Sta s c H' :=
  ⟨h.ne, let ⟨cells, i, j, h1, h2, r⟩ := h.ex; ⟨cells, i, j, e _ _ h1, e _ _ h2, r⟩⟩
theorem Sta.s_some {s c : Addr} {H : Hp} (h : Sta s c H) : ∃ o, H s = some o := let ⟨_, _, _, h1, _⟩ := h.ex; ⟨_, h1⟩
theorem Sta.c_some {s c : Addr} {H : Hp} (h : Sta s c H) : ∃ o, H c = some o := let ⟨_, _, _, _, h2, _⟩ := h.ex; ⟨_, h2⟩
theorem Sta.ne_s {s c p : Addr} {H : Hp} (h : Sta s c H) (hp : H p = none) : p ≠ s := fun e => by
  obtain ⟨o, z⟩ := h.s_some
  rw [e, z] at hp
  cases hp
theorem Sta.ne_c {s c p : Addr} {H : Hp} (h : Sta s c H) (hp : H p = none) : p ≠ c := fun e => by
  obtain ⟨o, z⟩ := h.c_some
  rw [e, z] at hp
  cases hp
theorem Sta.upd {s c p : Addr} {H : Hp} {o : HO} (h : Sta s c H) (hs : p ≠ s) (hc : p ≠ c) : Sta s c (upd H p o) :=
  ⟨h.ne, let ⟨cells, i, j, h1, h2, r⟩ := h.ex; ⟨cells, i, j, by rw [upd_ne hs.symm]; exact h1, by rw [upd_ne hc.symm]; exact h2, r⟩⟩
section
variable {s c p : Addr} {B H H' : Hp} {o : HO}
theorem Wd.off (h : Wd s c B H) (st : Sta s c H') (f : Off s c H H') : Wd s c B H' := ⟨fun a u e => by
  rw [f a (fun z => by rw [z, h.ns] at e; cases e) (fun z => by rw [z, h.nc] at e; cases e)]
  exact h.ex a u e, h.ns, h.nc, st⟩
theorem Wd.ext (h : Wd s c B H) (e : Ex H H') : Wd s c B H' := ⟨h.ex.trans e, h.ns, h.nc, h.st.ext e⟩
theorem Wd.mut (h : Wd s c B H) (hp : B p = none) (hs : p ≠ s) (hc : p ≠ c) : Wd s c B (upd H p o) := ⟨h.ex.mut hp, h.ns, h.nc, h.st.upd hs hc⟩
theorem Wd.know (h : Wd s c B H) (hp : H p = some o) (hs : p ≠ s) (hc : p ≠ c) : Wd s c (upd B p o) H := ⟨fun a u e => by
  by_cases z : a = p
  · rw [z, upd_same] at e
    rw [z, ← e]
    exact hp
  · rw [upd_ne z] at e
    exact h.ex a u e, by rw [upd_ne hs.symm]; exact h.ns, by rw [upd_ne hc.symm]; exact h.nc, h.st⟩
theorem Wd.none_of (h : Wd s c B H) (hp : H p = none) : B p = none := fresh_back h.ex hp
theorem ex_know (hp : B p = none) : Ex B (upd B p o) := Ex.new hp
end
/-- all but the state -/
def beside (s c : Addr) (H : Hp) : Hp := fun a => if a = s ∨ a = c then none else H a
theorem beside_some {s c a : Addr} {H : Hp} {o : HO} (h1 : a ≠ s) (h2 : a ≠ c) (h : H a = some o) : beside s c H a = some o := by
  unfold beside
  rw [if_neg (by intro z; rcases z with z | z <;> contradiction)]
  exact h
theorem beside_none {s c a : Addr} {H : Hp} (h : beside s c H a = none) (h1 : a ≠ s) (h2 : a ≠ c) : H a = none := by
  unfold beside at h
  rwa [if_neg (by intro z; rcases z with z | z <;> contradiction)] at h
theorem beside_wd {s c : Addr} {H : Hp} (st : Sta s c H) : Wd s c (beside s c H) H := by
  refine ⟨fun a o h => ?_, ?_, ?_, st⟩
  · unfold beside at h
    split at h
    · cases h
    · exact h
  · unfold beside; rw [if_pos (.inl rfl)]
  · unfold beside; rw [if_pos (.inr rfl)]
/-! ### regions of the heap that change -/
/-- M became M' while the heap became H', and nothing else changed -/
structure Chg (M M' H H' : Hp) : Prop where
  now : Ex M' H'
  frame : ∀ a o, M a = none → H a = some o → H' a = some o
  fresh : ∀ a, M' a ≠ none → M a ≠ none ∨ H a = none
/-- what no region has in common -/
def Dj (M N : Hp) : Prop := ∀ a, M a = none ∨ N a = none
theorem Dj.symm {M N : Hp} (h : Dj M N) : Dj N M := fun a => (h a).symm
theorem Chg.keep {M M' H H' N : Hp} (c : Chg M M' H H') (d : Dj N M) (e : Ex N H) : Ex N H' ∧ Dj N M' := by
  refine ⟨fun a o ha => ?_, fun a => ?_⟩
  · rcases d a with z | z
    · rw [z] at ha; cases ha
    · exact c.frame a o z (e a o ha)
  · cases hn : N a with
    | none => exact .inl rfl
    | some o =>
      right
      cases hm : M' a with
      | none => rfl
      | some o' =>
        exfalso
        rcases d a with z | z
        · rw [z] at hn; cases hn
        · rcases c.fresh a (by rw [hm]; exact fun q => by cases q) with k | k
          · exact k z
          · have := e a o hn
            rw [k] at this
            cases this
theorem Chg.id {M H : Hp} (e : Ex M H) : Chg M M H H := ⟨e, fun _ _ _ h => h, fun _ h => .inl h⟩
theorem Chg.ext {M H H' : Hp} (e : Ex M H) (h : Ex H H') : Chg M M H H' := ⟨e.trans h, fun a o _ z => h a o z, fun _ h => .inl h⟩
theorem Chg.trans {M1 M2 M3 H1 H2 H3 : Hp} (a : Chg M1 M2 H1 H2) (b : Chg M2 M3 H2 H3) : Chg M1 M3 H1 H3 := by
  refine ⟨b.now, fun x o hm hx => ?_, fun x hx => ?_⟩
  · have h2 := a.frame x o hm hx
    refine b.frame x o ?_ h2
    cases q : M2 x with
    | none => rfl
    | some o' =>
      exfalso
      rcases a.fresh x (by rw [q]; exact fun z => by cases z) with k | k
      · exact k hm
      · rw [k] at hx; cases hx
  · rcases b.fresh x hx with k | k
    · exact a.fresh x k
    · cases h1 : H1 x with
      | none => exact .inr rfl
      | some o =>
        left
        intro hm
        have := a.frame x o hm h1
        rw [k] at this
        cases this
theorem Chg.put {M H : Hp} {r : Addr} {o0 o : HO} (e : Ex M H) (hr : M r = some o0) : Chg M (upd M r o) H (upd H r o) := by
  refine ⟨fun a u ha => ?_, fun a u hm ha => ?_, fun a ha => ?_⟩
  · by_cases z : a = r
    · rw [z, upd_same] at ha ⊢
      exact ha
    · rw [upd_ne z] at ha ⊢
      exact e a u ha
  · rw [upd_ne fun z => by rw [z, hr] at hm; cases hm]
    exact ha
  · by_cases z : a = r
    · left
      rw [z, hr]
      exact fun q => by cases q
    · rw [upd_ne z] at ha
      exact .inl ha
/-- a new object joins the region -/
theorem Chg.new {M H : Hp} {r : Addr} {o : HO} (e : Ex M H) (hr : H r = none) : Chg M (upd M r o) H (upd H r o) := by
  refine ⟨fun a u ha => ?_, fun a u hm ha => ?_, fun a ha => ?_⟩
  · by_cases z : a = r
    · rw [z, upd_same] at ha ⊢
      exact ha
    · rw [upd_ne z] at ha ⊢
      exact e a u ha
  · rw [upd_ne fun z => by rw [z, hr] at ha; cases ha]
    exact ha
  · by_cases z : a = r
    · exact .inr (by rw [z]; exact hr)
    · rw [upd_ne z] at ha
      exact .inl ha
def emp : Hp := fun _ => none
theorem ex_emp {H : Hp} : Ex emp H := fun _ _ h => nomatch h
/-- two regions together -/
def un (M N : Hp) : Hp := fun a => (N a).or (M a)
theorem un_r {M N : Hp} {a : Addr} {o : HO} (h : N a = some o) : un M N a = some o := by
  unfold un
  rw [h]
  rfl
theorem un_l {M N : Hp} {a : Addr} (h : N a = none) : un M N a = M a := by
  unfold un
  rw [h]
  rfl
theorem Chg.un {M N H H1 H2 : Hp} (a : Chg emp M H H1) (b : Chg emp N H1 H2) : Chg emp (un M N) H H2 := by
  refine ⟨fun x o hx => ?_, fun x o _ hx => b.frame x o rfl (a.frame x o rfl hx), fun x hx => ?_⟩
  · cases hn : N x with
    | some o' =>
      rw [un_r hn] at hx
      rw [← hx]
      exact b.now x o' hn
    | none =>
      rw [un_l hn] at hx
      exact b.frame x o rfl (a.now x o hx)
  · right
    cases hn : N x with
    | some o' =>
      rcases b.fresh x (by rw [hn]; exact fun q => by cases q) with k | k
      · exact absurd rfl k
      · cases h : H x with
        | none => rfl
        | some o =>
          have := a.frame x o rfl h
          rw [k] at this
          cases this
    | none =>
      rw [un_l hn] at hx
      rcases a.fresh x hx with k | k
      · exact absurd rfl k
      · exact k
theorem unlock_ex {H H' : Hp} {e : Addr} {od : Obj} {u : HO} (he : H e = some u) (h : Ex (upd H e (.frz od u)) H') : Ex H (upd H' e u) := fun a o ha => by
  by_cases z : a = e
  · rw [z, upd_same, ← he, ← z, ha]
  · rw [upd_ne z]
    exact h a o (by rw [upd_ne z]; exact ha)
theorem Chg.unlock {N H H' : Hp} {e : Addr} {od : Obj} {u : HO} (he : H e = some u) (c : Chg emp N (upd H e (.frz od u)) H') : Chg emp N H (upd H' e u) := by
  have hN : N e = none := by
    cases q : N e with
    | none => rfl
    | some o =>
      rcases c.fresh e (by rw [q]; exact fun z => by cases z) with k | k
      · exact absurd rfl k
      · rw [upd_same] at k; cases k
  refine ⟨fun a o ha => ?_, fun a o _ ha => unlock_ex he (fun x y hx => c.frame x y rfl hx) a o ha, fun a ha => ?_⟩
  · rw [upd_ne fun z => by rw [z, hN] at ha; cases ha]
    exact c.now a o ha
  · rcases c.fresh a ha with k | k
    · exact absurd rfl k
    · right
      by_cases z : a = e
      · rw [z, hN] at ha
        exact absurd rfl ha
      · rw [upd_ne z] at k
        exact k
def one (p : Addr) (o : HO) : Hp := upd (fun _ => none) p o
/-! ### lists -/
theorem paired_at {α β : Type} {R : α → β → Prop} : ∀ {xs : List α} {ys : List β} {i : Nat} {x : α}, Paired R xs ys → xs[i]? = some x → ∃ y, ys[i]? = some y ∧ R x y
  | _, _, _, _, .nil, e => by simp at e
  | _, _, 0, _, .cons r _, e => by simp at e; subst e; exact ⟨_, rfl, r⟩
  | _, _, i + 1, x, .cons _ t, e => by
    obtain ⟨y, h1, h2⟩ := paired_at (i := i) (x := x) t (by simpa using e)
    exact ⟨y, by simpa using h1, h2⟩
theorem paired_at0 {α β : Type} {R : α → β → Prop} : ∀ {xs : List α} {ys : List β} {i : Nat} {y : β}, Paired R xs ys → ys[i]? = some y → ∃ x, xs[i]? = some x ∧ R x y
  | _, _, _, _, .nil, e => by simp at e
  | _, _, 0, _, .cons r _, e => by simp at e; subst e; exact ⟨_, rfl, r⟩
  | _, _, i + 1, y, .cons _ t, e => by
    obtain ⟨x, h1, h2⟩ := paired_at0 (i := i) (y := y) t (by simpa using e)
    exact ⟨x, by simpa using h1, h2⟩
theorem take_snoc {α : Type} {l : List α} {i : Nat} {x : α} (h : l[i]? = some x) : l.take (i + 1) = l.take i ++ [x] := by
  rw [List.take_add_one, h]
  rfl
theorem len_lt {n : Nat} (h : n ≤ 100000) : n < sizeLine := Nat.lt_of_le_of_lt h (by decide)
theorem seq0 {n : Nat} (h : 0 < n) : seqIndex? 0 n = some 0 := (ixN_seq (Evl.ixN_nat h)).1
theorem paired_mem {α β : Type} {R S : α → β → Prop} : ∀ {xs : List α} {ys : List β}, Paired R xs ys → (∀ x y, x ∈ xs → R x y → S x y) → Paired S xs ys
  | _, _, .nil, _ => .nil
  | _, _, .cons h t, f => .cons (f _ _ (List.mem_cons_self ..) h) (paired_mem t fun x y hx => f x y (List.mem_cons_of_mem _ hx))
theorem map_set_same {α β : Type} {f : α → β} : ∀ {l : List α} {k : Nat} {x y : α}, l[k]? = some x → f y = f x → (l.set k y).map f = l.map f
  | [], _, _, _, h, _ => by simp at h
  | a :: l, 0, x, y, h, e => by
    obtain rfl : a = x := by simpa using h
    show f y :: l.map f = f a :: l.map f
    rw [e]
  | a :: l, k + 1, x, y, h, e => by
    show f a :: (l.set k y).map f = f a :: l.map f
    rw [map_set_same (show l[k]? = some x by simpa using h) e]
theorem erase_set {α : Type} : ∀ {l : List α} {k : Nat} {x : α}, (l.set k x).eraseIdx k = l.eraseIdx k
  | [], _, _ => rfl
  | a :: l, 0, x => rfl
  | a :: l, k + 1, x => by
    show a :: (l.set k x).eraseIdx k = a :: l.eraseIdx k
    rw [erase_set]
/-! ### helpers of draws -/
theorem fmod_bd {a m : Int} (h : 0 < m) : 0 ≤ a.fmod m ∧ a.fmod m < m := ⟨Int.fmod_nonneg_of_pos a h, Int.fmod_lt_of_pos a h⟩
theorem ints_at {ns : List Int} {k : Int} (h0 : 0 ≤ k) (h1 : k < (ns.length : Int)) : ∃ x, ns[k.toNat]? = some x ∧ atI (ns.map V.int) k = some (.int x) ∧ x ∈ ns := by
  have hk : k.toNat < ns.length := by omega
  refine ⟨ns[k.toNat], List.getElem?_eq_getElem hk, ?_, List.getElem_mem hk⟩
  refine at_of (j := k.toNat) (by omega) ?_
  rw [List.getElem?_map, List.getElem?_eq_getElem hk]
  rfl
theorem map_set_int (ns : List Int) (j : Nat) (y : Int) : (ns.map V.int).set j (.int y) = (ns.set j y).map V.int := by
  rw [List.map_set]
theorem mem_set {ns : List Int} {j : Nat} {y : Int} (h : ∀ x ∈ ns, 0 ≤ x) (hy : 0 ≤ y) : ∀ x ∈ ns.set j y, 0 ≤ x := fun x hx => by
  rcases List.mem_or_eq_of_mem_set hx with e | e
  · exact h x e
  · rw [e]; exact hy
theorem go_L {te : TE} {σ : L2.St} {H : Hp} {xs : List V} {Q : VK} (h : EvL te σ H xs) (k : ∀ p H1, H p = none → Ex H H1 → H1 p = some (.lst xs) → Q (.ref p) H1) : te σ H Q := h H (Ex.refl H) Q k
theorem go_U {te : TE} {σ : L2.St} {H : Hp} {xs : List V} {Q : VK} (h : EvU te σ H xs) (k : ∀ p H1, H p = none → Ex H H1 → H1 p = some (.tup xs) → Q (.ref p) H1) : te σ H Q := h H (Ex.refl H) Q k
theorem go_V {te : TE} {σ : L2.St} {H : Hp} {v : V} {Q : VK} (h : Ev te σ H v) (k : ∀ H1, Ex H H1 → Q v H1) : te σ H Q := h H (Ex.refl H) Q k
theorem et_yes {σ : L2.St} {H : Hp} : EvT tYes σ H true := fun H1 _ _ q => q H1 (Ex.refl H1)
theorem given_all (ys : List V) : given ys.length (fun _ => true) (fun i => ys.getD i .non) = ys := by
  unfold given
  rw [List.filter_eq_self.mpr (fun _ _ => rfl)]
  refine List.ext_getElem (by simp) (fun i h1 h2 => ?_)
  rw [List.getElem_map, List.getElem_range, List.getD_eq_getElem?_getD, List.getElem?_eq_getElem h2]
  rfl
theorem el_map {K : PySem.W.Frag} {σ : L2.St} {H : Hp} {te : TE} {a : Addr} {xs ys : List V} {tl : TE} {j : Nat} {vs : List Nat} (h : Ev tl σ H (.ref a)) (hx : SqL K H a xs) (hz : xs.length ≤ 40000) (hl : ys.length = xs.length)
    (hw : ∀ x, wipe ((wipe σ vs).set j (some x)) vs = wipe σ vs) (he : ∀ (i : Nat) (x y : V) H1, Ex H H1 → xs[i]? = some x → ys[i]? = some y → Ev te ((wipe σ vs).set j (some x)) H1 y) : EvL (tLc (iList K tl) (gName j) tYes te vs) σ H ys := by
  have k := el_lcL (K := K) (t := tYes) (te := te) (fun _ => true) (fun i => ys.getD i .non) h hx hz hw (fun i x H1 e hi => et_yes) (fun i x H1 e hi _ => by
    have h1 := (List.getElem?_eq_some_iff.mp hi).1
    have h2 : i < ys.length := by omega
    rw [show ys.getD i .non = ys[i] by rw [List.getD_eq_getElem?_getD, List.getElem?_eq_getElem h2]; rfl]
    exact he i x _ H1 e hi (List.getElem?_eq_getElem h2))
  rw [← hl, given_all] at k
  exact k
/-! ### a world: what is known (B), the state that draws change (s, c), and regions that change (Rs), no two with anything in common -/
structure Wld (s c : Addr) (B : Hp) (Rs : List Hp) (H : Hp) : Prop where
  w : Wd s c B H
  ex : ∀ R ∈ Rs, Ex R H
  off : ∀ R ∈ Rs, R s = none ∧ R c = none
  dj : ∀ R ∈ Rs, Dj B R
  pw : Rs.Pairwise Dj
section
variable {s c p : Addr} {B B' M M' H H' : Hp} {Rs Rs' : List Hp} {o : HO}
theorem Wld.st (W : Wld s c B Rs H) : Sta s c H := W.w.st
theorem Wld.fresh (W : Wld s c B Rs H) (hp : H p = none) : ∀ R ∈ Rs, R p = none := fun R hR => fresh_back (W.ex R hR) hp
theorem Wld.drawn (W : Wld s c B Rs H) (st : Sta s c H') (f : Off s c H H') : Wld s c B Rs H' := ⟨W.w.off st f, fun R hR a u e => by
  obtain ⟨h1, h2⟩ := W.off R hR
  rw [f a (fun z => by rw [z, h1] at e; cases e) (fun z => by rw [z, h2] at e; cases e)]
  exact W.ex R hR a u e, W.off, W.dj, W.pw⟩
/-- nothing but the state is otherwise -/
def Kept (s c : Addr) (H H' : Hp) : Prop := ∀ a o, a ≠ s → a ≠ c → H a = some o → H' a = some o
theorem Wld.kept (W : Wld s c B Rs H) (st : Sta s c H') (f : Kept s c H H') : Wld s c B Rs H' := ⟨⟨fun a u e => f a u (fun z => by rw [z, W.w.ns] at e; cases e) (fun z => by rw [z, W.w.nc] at e; cases e) (W.w.ex a u e), W.w.ns, W.w.nc, st⟩, fun R hR a u e => by
  obtain ⟨h1, h2⟩ := W.off R hR
  exact f a u (fun z => by rw [z, h1] at e; cases e) (fun z => by rw [z, h2] at e; cases e) (W.ex R hR a u e), W.off, W.dj, W.pw⟩
theorem Wld.ext (W : Wld s c B Rs H) (e : Ex H H') : Wld s c B Rs H' := ⟨W.w.ext e, fun R hR => (W.ex R hR).trans e, W.off, W.dj, W.pw⟩
theorem Wld.know (W : Wld s c B Rs H) (hp : H p = some o) (hs : p ≠ s) (hc : p ≠ c) (hR : ∀ R ∈ Rs, R p = none) : Wld s c (upd B p o) Rs H := ⟨W.w.know hp hs hc, W.ex, W.off, fun R h a => by
  by_cases z : a = p
  · rw [z]
    exact .inr (hR R h)
  · rw [upd_ne z]
    exact W.dj R h a, W.pw⟩
theorem Wld.newK (W : Wld s c B Rs H) (hp : H p = none) : Wld s c (upd B p o) Rs (upd H p o) := (W.ext (Ex.new hp)).know upd_same (W.st.ne_s hp) (W.st.ne_c hp) (W.fresh hp)
/-- what is new becomes known -/
theorem Wld.knew (W : Wld s c B Rs H) (e : Ex H H') (hp : H p = none) (hp' : H' p = some o) : Wld s c (upd B p o) Rs H' := (W.ext e).know hp' (W.st.ne_s hp) (W.st.ne_c hp) (W.fresh hp)
theorem Wld.none (W : Wld s c B Rs H) (hp : H p = none) : B p = none := W.w.none_of hp
theorem Wld.perm (W : Wld s c B Rs H) (pm : Rs.Perm Rs') : Wld s c B Rs' H := ⟨W.w, fun R h => W.ex R (pm.mem_iff.mpr h), fun R h => W.off R (pm.mem_iff.mpr h), fun R h => W.dj R (pm.mem_iff.mpr h), (pm.pairwise_iff fun h => h.symm).mp W.pw⟩
theorem Wld.drop (W : Wld s c B (M :: Rs) H) : Wld s c B Rs H := ⟨W.w, fun R h => W.ex R (List.mem_cons_of_mem _ h), fun R h => W.off R (List.mem_cons_of_mem _ h), fun R h => W.dj R (List.mem_cons_of_mem _ h), (List.pairwise_cons.mp W.pw).2⟩
theorem Wld.swap (W : Wld s c B (M :: M' :: Rs) H) : Wld s c B (M' :: M :: Rs) H := W.perm (List.Perm.swap _ _ _)
theorem Dj.chg {N : Hp} (d : Dj N M) (e : Ex N H) (ch : Chg M M' H H') : Dj N M' := (ch.keep d e).2
theorem Wld.chg (W : Wld s c B (M :: Rs) H) (ch : Chg M M' H H') : Wld s c B (M' :: Rs) H' := by
  have hM : M ∈ M :: Rs := List.mem_cons_self ..
  obtain ⟨ms, mc⟩ := W.off M hM
  have pw := List.pairwise_cons.mp W.pw
  have out : ∀ {a : Addr} {o : HO}, M a = Option.none → H a = some o → M' a = Option.none := fun {a o} h1 h2 => by
    cases q : M' a with
    | none => rfl
    | some u =>
      rcases ch.fresh a (by rw [q]; exact fun z => by cases z) with k | k
      · exact absurd h1 k
      · rw [k] at h2
        cases h2
  obtain ⟨so, hs⟩ := W.st.s_some
  obtain ⟨co, hc⟩ := W.st.c_some
  have sta : Sta s c H' := ⟨W.st.ne, by
    obtain ⟨cells, i, j, h1, h2, r⟩ := W.st.ex
    exact ⟨cells, i, j, ch.frame _ _ ms h1, ch.frame _ _ mc h2, r⟩⟩
  refine ⟨⟨(ch.keep (W.dj M hM) W.w.ex).1, W.w.ns, W.w.nc, sta⟩, fun R hR => ?_, fun R hR => ?_, fun R hR => ?_, List.pairwise_cons.mpr ⟨fun R hR => ?_, pw.2⟩⟩
  · rcases List.mem_cons.mp hR with rfl | hR
    · exact ch.now
    · exact (ch.keep (pw.1 R hR).symm (W.ex R (List.mem_cons_of_mem _ hR))).1
  · rcases List.mem_cons.mp hR with rfl | hR
    · exact ⟨out ms hs, out mc hc⟩
    · exact W.off R (List.mem_cons_of_mem _ hR)
  · rcases List.mem_cons.mp hR with rfl | hR
    · exact (ch.keep (W.dj M hM) W.w.ex).2
    · exact W.dj R (List.mem_cons_of_mem _ hR)
  · exact ((ch.keep (pw.1 R hR).symm (W.ex R (List.mem_cons_of_mem _ hR))).2).symm
theorem Wld.emp (W : Wld s c B Rs H) : Wld s c B (emp :: Rs) H := by
  refine ⟨W.w, fun R h => ?_, fun R h => ?_, fun R h => ?_, List.pairwise_cons.mpr ⟨fun R h a => .inl rfl, W.pw⟩⟩
  all_goals rcases List.mem_cons.mp h with rfl | h
  · exact fun a o z => by cases z
  · exact W.ex R h
  · exact ⟨rfl, rfl⟩
  · exact W.off R h
  · exact fun a => .inr rfl
  · exact W.dj R h
/-- new objects as a region -/
theorem Wld.add (W : Wld s c B Rs H) (ch : Chg MyG.emp M' H H') : Wld s c B (M' :: Rs) H' := W.emp.chg ch
theorem Wld.one (W : Wld s c B Rs H) (hp : H p = Option.none) : Wld s c B (upd MyG.emp p o :: Rs) (upd H p o) := W.add (Chg.new (fun a o z => by cases z) hp)
theorem Wld.less (W : Wld s c B' Rs H) (e : Ex B B') : Wld s c B Rs H := ⟨⟨e.trans W.w.ex, fresh_back e W.w.ns, fresh_back e W.w.nc, W.w.st⟩, W.ex, W.off, fun R h a => by
  rcases W.dj R h a with z | z
  · exact .inl (fresh_back e z)
  · exact .inr z, W.pw⟩
end
end MyG

set_option maxHeartbeats 2000000
/-! An exception that is kept in a name behind its try: what stands at its address, isinstance of it, its fields, the try that keeps it. -/
namespace MyG
open PySem PySem.Spec PyProof.Rows L2 Evl
/-- an exception at a, of the class cls, its own dict at d -/
def XO (a : Addr) (cls : Value) (d : Option Addr) : HO := .ext fun h => ∃ (o : Obj) (fv : Array Value), h.get? a = some o ∧ Zc cls d o ∧ o.data = .fields fv
section
variable {P : Program} {w : World} {H : Hp} {h : Heap} {a : Addr} {o : Obj} {fv : Array Value} {cls : Value} {d : Option Addr}
theorem xo_ok (e : h.get? a = some o) (z : Zc cls d o) (hd : o.data = .fields fv) : ObjOk P w H h a (XO a cls d) :=
  ⟨⟨o, fv, e, z, hd⟩, ⟨o, e⟩, fun h1 h2 ⟨o1, f1, e1, z1, d1⟩ k => ⟨o1, f1, k _ e1, z1, d1⟩⟩
theorem xo_at (x : ObjOk P w H h a (XO a cls d)) : ∃ (o : Obj) (fv : Array Value), h.get? a = some o ∧ Zc cls d o ∧ o.data = .fields fv := x.1
end
section
variable {X : Cx} {pins : List (Addr × Obj)} {σ : L2.St} {H : Hp} {s : Shared} {a : Addr} {o : Obj} {fv : Array Value} {cls : Value} {d : Option Addr}
/-- an object of the heap, not tracked so far, is tracked as a kept exception -/
theorem tell_exc (I : Inv X pins σ H s) (e : s.heap.get? a = some o) (z : Zc cls d o) (hd : o.data = .fields fv) (na : H a = none) (nL : a ≠ X.env.locals) (np : ∀ p ∈ X.pn ++ pins, p.1 ≠ a) (n0 : ∀ ob, X.s_0.heap.get? a = some ob → a ∈ X.ex) :
    Inv X pins σ (upd H a (XO a cls d)) s := by
  have other : ∀ {b : Addr} {u : HO}, H b = some u → upd H a (XO a cls d) b = some u := fun {b u} hb => by rw [upd_ne (ne_of_none hb na)]; exact hb
  refine { ok := I.ok, os := I.os, bare := I.bare, loc := I.loc, cell := I.cell, len := I.len, base := ?_, free := ?_, freeC := ?_, pin := ?_, hok := ?_ }
  · refine { keep := I.base.keep, slot := I.base.slot, there := I.base.there, free := fun b ob hb hn hx => ?_, tups := fun b xs hb => other (I.base.tups b xs hb), frzs := fun b ob u hb => other (I.base.frzs b ob u hb), tbls := fun b ps hb => ?_ }
    · have hne : b ≠ a := fun q => by
        subst q
        exact hx (n0 ob hb)
      rw [upd_ne hne]
      exact I.base.free b ob hb hn hx
    · obtain ⟨more, hm⟩ := I.base.tbls b ps hb
      exact ⟨more, other hm⟩
  · rw [upd_ne nL.symm]
    exact I.free
  · intro x c hc
    have hne : c ≠ a := fun q => by
      subst q
      obtain ⟨v, hv⟩ := I.cell x c hc
      obtain ⟨oc, h1, h2⟩ : ∃ oc, s.heap.get? c = some oc ∧ oc.data = .cell v := by
        first
          | exact ⟨_, hv, rfl⟩
          | exact hv
          | (obtain ⟨oc, k1, k2⟩ := hv; exact ⟨oc, k1, k2.2⟩)
          | (obtain ⟨oc, k1, k2⟩ := hv; exact ⟨oc, k1, k2⟩)
      rw [e] at h1
      cases h1
      rw [hd] at h2
      cases h2
    rw [upd_ne hne]
    exact I.freeC x c hc
  · intro p hp
    obtain ⟨h1, h2, h3⟩ := I.pin p hp
    exact ⟨h1, by rw [upd_ne (np p hp)]; exact h2, h3⟩
  · intro b u hb
    by_cases q : b = a
    · subst q
      rw [upd_same] at hb
      cases hb
      exact xo_ok e z hd
    · rw [upd_ne q] at hb
      exact (I.hok b u hb).stay (fun _ _ _ k => k) (fun _ k => other k) (fun _ _ k => other k)
/-- the kept exception's object, its dict with it -/
theorem xo_inst {C dd : Addr} {fs : List (Str × V)} (I : Inv X pins σ H s) (ha : H a = some (XO a (.ref C) d)) (hd : d = none ∨ (d = some dd ∧ H dd = some (.xd fs))) :
    ∃ (o : Obj) (od : Option Obj), PySem.W.InstAt s.heap a o C od := by
  obtain ⟨o, fv, e, z, k⟩ := xo_at (I.hok a _ ha)
  rcases hd with rfl | ⟨rfl, hdd⟩
  · refine ⟨o, none, ?_⟩
    obtain ⟨oc, od, oda, osl⟩ := o
    obtain ⟨z1, z2⟩ := z
    dsimp only at z1 z2 k
    subst z1 z2 k
    exact ⟨e, rfl, rfl, trivial⟩
  · obtain ⟨mA, hns, _⟩ := (show ObjOk X.prog X.w H s.heap dd (.xd fs) from I.hok dd _ hdd)
    obtain ⟨od, ho, _⟩ := lookIn_ns hns
    exact ⟨o, some od, e, z.1, by unfold PySem.W.notCls; rw [k] <;> rfl, by rw [z.2]; exact ho⟩
end
end MyG
namespace MyG
open PySem PySem.Spec PyProof.Rows L2 Evl
section
variable {X : Cx} {K : PySem.W.Frag}
/-- what stands in the abstract heap of a kept exception -/
def ExcAt (H : Hp) (a C : Addr) (d : Option Addr) : Prop := H a = some (XO a (.ref C) d) ∧ (d = none ∨ ∃ dd fs, d = some dd ∧ H dd = some (.xd fs))
theorem ExcAt.ext {H H' : Hp} {a C : Addr} {d : Option Addr} (e : Ex H H') (h : ExcAt H a C d) : ExcAt H' a C d :=
  ⟨e _ _ h.1, h.2.imp id fun ⟨dd, fs, h1, h2⟩ => ⟨dd, fs, h1, e _ _ h2⟩⟩
theorem cls_some {C : Addr} (h : PySem.W.hasDictIn K C = true) : (PySem.W.clsIn K C).isSome = true := by
  unfold PySem.W.hasDictIn at h
  cases q : PySem.W.clsIn K C with
  | none =>
    rw [q] at h
    cases h
  | some _ => rfl
/-- isinstance(e, c), e kept -/
def rIsX (K : PySem.W.Frag) : List V → Hp → VK → Prop := fun xs H Q => ∃ (a C : Addr) (d : Option Addr) (c : V) (cv : Value) (b : Bool), xs = [.ref a, c] ∧ ExcAt H a C d ∧ ExcC K C ∧ ClsV c cv ∧ PySem.W.kitOne K (.ref C) cv = some b ∧ Q (.bl b) H
theorem call_isX (hK : X.K = K) : CallR X (.builtin "isinstance") (rIsX K) := by
  subst hK
  intro pins s σ H xs us Q I r hh
  obtain ⟨a, C, d, c, cv, b, ex, ea, xc, cl, eb, q⟩ := hh
  subst ex
  cases r with
  | cons r1 t1 =>
    cases t1 with
    | cons r2 t2 =>
      cases t2
      cases r1
      rw [cl.eq r2]
      obtain ⟨o, od, J⟩ : ∃ (o : Obj) (od : Option Obj), PySem.W.InstAt s.heap a o C od := by
        obtain ⟨h1, h2 | ⟨dd, fs, h2, h3⟩⟩ := ea
        · exact xo_inst (dd := a) (fs := []) I h1 (.inl h2)
        · exact xo_inst I h1 (.inr ⟨h2, h3⟩)
      refine PySem.W.kia_one (PySem.W.kitx_exc (cls_some xc.hd) xc.hg xc.hk xc.hs xc.ha xc.hn xc.ht xc.hm) I.kIn J eb (fun z => nomatch z) fun tk => ?_
      exact ⟨.bl b, H, I.tok tk, rfl, q⟩
/-- isinstance(e, (c1, c2, ..)), e kept, the tuple just laid -/
def rIsXT (K : PySem.W.Frag) : List V → Hp → VK → Prop := fun xs H Q => ∃ (a C : Addr) (d : Option Addr) (tp : Addr) (cs : List V) (ws : List Value) (b : Bool), xs = [.ref a, .ref tp] ∧ H tp = some (.tup cs) ∧ Paired ClsV cs ws ∧ ExcAt H a C d ∧ ExcC K C ∧ PySem.W.kitAny K (.ref C) ws = some b ∧ Q (.bl b) H
theorem call_isXT (hK : X.K = K) : CallR X (.builtin "isinstance") (rIsXT K) := by
  subst hK
  intro pins s σ H xs us Q I r hh
  obtain ⟨a, C, d, tp, cs, ws, b, ex, hT, k, ea, xc, eb, q⟩ := hh
  subst ex
  cases r with
  | cons r1 t1 =>
    cases t1 with
    | cons r2 t2 =>
      cases t2
      cases r1
      cases r2
      obtain ⟨o, od, J⟩ : ∃ (o : Obj) (od : Option Obj), PySem.W.InstAt s.heap a o C od := by
        obtain ⟨h1, h2 | ⟨dd, fs, h2, h3⟩⟩ := ea
        · exact xo_inst (dd := a) (fs := []) I h1 (.inl h2)
        · exact xo_inst I h1 (.inr ⟨h2, h3⟩)
      obtain ⟨_, its, rv, ob, h1, h2, n, h3⟩ := (show ObjOk X.prog X.w H s.heap tp (.tup cs) from I.hok tp _ hT)
      have e3 := ClsV.all k rv
      subst e3
      obtain ⟨oc, od2, dt, sl⟩ := ob
      simp only at h2 h3
      subst h2 h3
      refine PySem.W.kia_tup (PySem.W.kitx_exc (cls_some xc.hd) xc.hg xc.hk xc.hs xc.ha xc.hn xc.ht xc.hm) I.kIn J h1 eb (fun z => nomatch z) fun tk => ?_
      exact ⟨.bl b, H, I.tok tk, rfl, q⟩
/-- e.f, e kept -/
def tXv (K : PySem.W.Frag) (ta : TE) (f : Str) : TE := fun σ H Q => ta σ H fun x H1 => ∃ (a C dd : Addr) (fs : List (Str × V)) (v : V), x = .ref a ∧ H1 a = some (XO a (.ref C) (some dd)) ∧ H1 dd = some (.xd fs) ∧ XfC K C ∧ PySem.W.findIn K (.ref C) f = some none ∧ fs.lookup f = some v ∧ Q v H1
theorem pe_xv (hK : X.K = K) {e : Expr} {ta : TE} {f : Str} {pos : Pos} (he : PE X e ta) (hb : attributeBase e f X.env (eval e X.env) = eval e X.env := by rfl) : PE X (.Attribute e f pos) (tXv K ta f) := by
  subst hK
  constructor
  intro pins s σ H Q I hh
  refine attr_of hb (thn (he.run pins s σ H _ I hh) ?_)
  rintro u s1 ⟨x, H1, I1, rx, a, C, dd, fs, v, ex, ea, ed, xf, hno, hl, q⟩
  subst ex
  cases rx
  obtain ⟨o, fv, eo, z, k⟩ := xo_at (I1.hok a _ ea)
  obtain ⟨mA, hns, hrel⟩ := (show ObjOk X.prog X.w H1 s1.heap dd (.xd fs) from I1.hok dd _ ed)
  obtain ⟨od, hod, hlk⟩ := lookIn_ns hns
  obtain ⟨u, hu, ru⟩ := RelO.some_of (o := mA f) (v := v) (by rw [← hl]; exact hrel f)
  have J : PySem.W.InstAt s1.heap a o C (some od) := ⟨eo, z.1, by unfold PySem.W.notCls; rw [k] <;> rfl, by rw [z.2]; exact hod⟩
  refine HandSPX.exc_get I1.kIn J xf.ga xf.gg xf.exC (PySem.W.findObj_own xf.hdC hno rfl ?_) (handed_of ru) ⟨v, H1, I1.tok _, ru, q⟩
  rw [hlk, hu]
end
end MyG
/-! ### try: .. except x as n: .., the exception known behind it -/
namespace MyG
open PySem PySem.Spec PyProof.Rows L2 Evl
/-- as wAs says it; behind the suite the exception stands tracked at its address -/
def wKeep (K : PySem.W.Frag) (c : Value) (i : Nat) (ts : Addr → Value → Option Addr → TS) (Wout : WX) (D : Ends) : WX := fun cls d σ H =>
  ∃ b, PySem.W.exmOne K cls c = some b ∧
    (b = true → ∀ a, H a = none → ts a cls d
      { nx := fun σ1 H1 => D.nx (σ1.set i none) (upd H1 a (XO a cls d)), rt := D.rt, bk := fun σ1 H1 => D.bk (σ1.set i none) (upd H1 a (XO a cls d)), ct := fun σ1 H1 => D.ct (σ1.set i none) (upd H1 a (XO a cls d)) }
      (σ.set i (some (.ref a))) H) ∧ (b = false → Wout cls d σ H)
section
variable {X : Cx} {x n : Str} {c : Value} {i : Nat} {body suite : List Stmt} {b₀ : Stmt} {np pos pos' : Pos} {tb : WX → TS} {ts : Addr → Value → Option Addr → TS} {Wout : WX}
theorem ps_try_keep (hs : X.stack = X.env :: X.outer) (hf : X.env.frame = some X.env.locals) (hN : X.N.Nodup) (hi : X.N[i]? = some n) (hln : X.env.kindOf n = some .local) (hc : Names X x c) (tk : Takes X Wout)
    (hb : ∀ (W : WX) (pn : List (Addr × Obj)) (xe : Value → Shared → Prop), Takes (X.tr pn xe) W → PassesOwn (model X.prog X.w) X.A X.env xe → PSs (X.tr pn xe) body (tb W))
    (hsu : ∀ (a : Addr) (oe : Obj) (cls : Value) (d : Option Addr) (pn : List (Addr × Obj)), Zc cls d oe → (∃ vs, oe.data = .fields vs) → PSs (X.suite a ((a, oe) :: pn)) (b₀ :: suite) (ts a cls d)) :
    PS X (.Try body [.ExceptHandler (some (.Name x np)) (some n) (b₀ :: suite) pos'] [] [] pos) (fun D σ H => tb (wKeep X.K c i ts Wout D) D σ H) := by
  constructor
  intro pins s σ H D I hread
  have okX := I.ok
  have frames : X.A.frames = some (X.env :: X.outer) := okX.frames.trans (congrArg some hs)
  have here : Loc X.env.scope n := Or.inl hln
  let W := wKeep X.K c i ts Wout D
  let H1 : ExceptHandler := .ExceptHandler (some (.Name x np)) (some n) (b₀ :: suite) pos'
  let xe : Value → Shared → Prop := fun e s₁ => wpAny (model X.prog X.w) X.A (noteFrame e X.env) (fun _ s₂ => wpAny (model X.prog X.w) X.A (setFlight e none) (fun _ s₃ => wpAny (model X.prog X.w) X.A (handleBy e X.env [H1]) (SP X pins D) X.xe s₃) X.xe s₂) X.xe s₁
  -- an exception of the body
  have caught : Takes (X.tr (X.pn ++ pins) xe) W := by
    rintro u s' ⟨a, B, sI, pinsB, σB, HB, cls, d, rfl, IB, nb, up, sky, na, os, ag, b, hb1, yes, no⟩
    have J : Inv X pins σB HB sI := IB.ofTry okX
    have sky' : Sky B (X.env :: X.outer) a (Zc cls d) X.env.locals s'.heap := hs ▸ sky
    show wpAny (model X.prog X.w) X.A (noteFrame (.ref a) X.env) _ _ _
    refine Sky.land Zc.steady frames hf sky' fun h3 fl3 up3 => ?_
    have up' := up.trans up3
    have J3 : Inv X pins σB HB { s' with heap := h3 } := J.landed nb fl3.1 up' os ag
    obtain ⟨o3, f3, ge3, gz3, gd3⟩ := fl3.there
    have notFrame : a ∉ frs (X.env :: X.outer) := fun hm => by
      obtain ⟨_, o', e', hnf⟩ := fl3.2.2.1.mem hm
      rw [ge3] at e'
      cases e'
      exact hnf _ gd3
    have aL : a ≠ X.env.locals := fun q => notFrame (List.mem_filterMap.mpr ⟨X.env, List.mem_cons_self, by rw [hf, q]⟩)
    have aF : a ∉ X.fs := fun hm => by
      obtain ⟨e, he, q⟩ := List.mem_filterMap.mp hm
      exact notFrame (List.mem_filterMap.mpr ⟨e, List.mem_cons_of_mem _ he, q⟩)
    -- it is new
    have fresh : sI.heap.get? a = none := by
      cases q : sI.heap.get? a with
      | none => rfl
      | some ob =>
        have z := nb a ob q (by rw [hs]; exact notFrame)
        rw [fl3.2.1] at z
        cases z
    have new0 : ∀ ob, X.s_0.heap.get? a = some ob → a ∈ X.ex := fun ob q => by
      by_cases hx : a ∈ X.ex
      · exact hx
      · obtain ⟨o', z⟩ := J.base.there a ob q hx
        rw [fresh] at z
        cases z
    have newP : ∀ p ∈ X.pn ++ pins, p.1 ≠ a := fun p hp q => by
      have z := (J.pin p hp).1
      rw [q, fresh] at z
      cases z
    have S3 := J3.suite ge3 gd3 na aL aF
    refine wpAny_handleBy_cons (codeAny_handlers_test ?_) (by intro q; cases q)
    have LT : PySem.W.Looks (model X.prog X.w) h3 (typeOf (.ref a)) cls := fun A' Q' E' s1 k q => wpAny_typeOf_ref (k _ _ ge3) (by rw [gz3.1]; exact q)
    have LM := PySem.W.exm_one (M := model X.prog X.w) J3.kIn LT hb1
    have name : ∀ {Q : Value → Shared → Prop} {E : Value → Shared → Prop}, Q c { s' with heap := h3 } → wpAny (model X.prog X.w) (X.A.mark (some (.ref a))) (eval (.Name x np) X.env) Q E { s' with heap := h3 } := by
      intro Q E q
      rcases hc with ⟨hg, hdb, hm | ⟨hm, hv, hnn⟩⟩
      · exact ld_glob (X := X.suite a ((a, o3) :: (X.pn ++ pins))) S3 hg hm q hdb
      · exact ld_blt (X := X.suite a ((a, o3) :: (X.pn ++ pins))) S3 hg hm hv q hnn hdb
    refine name (LM.here ?_)
    cases b with
    | true =>
      refine codeAny_handlers_suite_as (HandSPX.lands_againZ fl3 fun h4 fl4 up4 => ?_)
      have J4 : Inv X pins σB HB { s' with heap := h4 } := J.landed nb fl4.1 (up'.trans up4) os ag
      obtain ⟨o4, f4, ge4, gz4, gd4⟩ := fl4.there
      have S4 := J4.suite ge4 gd4 na aL aF
      refine store_ok (X := X.suite a ((a, o4) :: (X.pn ++ pins))) (v := .ref a) S4 hN hi here rfl (fun s5 S5 => ?_) (.inr hln)
      have leave : ∀ {σ6 : L2.St} {H6 : Hp} {s6 : Shared} {Q : Shared → Prop} (kept : Bool), Inv (X.suite a ((a, o4) :: (X.pn ++ pins))) [] σ6 H6 s6 → (∀ s7, Inv X pins (σ6.set i none) (if kept = true then upd H6 a (XO a cls d) else H6) s7 → Q s7) →
          wpAny (model X.prog X.w) X.A (do bindName X.env n .none; unbindBehindTheSuite X.env n pos') (fun _ s7 => Q s7) X.xe s6 := by
        intro σ6 H6 s6 Q kept S6 hq
        have I6 : Inv X pins σ6 H6 s6 := S6.unsuite okX
        obtain ⟨g1, g2, _⟩ := S6.pin (a, o4) (List.mem_append_left _ List.mem_cons_self)
        cases kept with
        | true => exact gone_ok (tell_exc I6 g1 gz4 gd4 g2 aL newP new0) hN hi hln hq
        | false => exact gone_ok I6 hN hi hln hq
      refine wpAny_mono ((hsu a o4 cls d (X.pn ++ pins) gz4 ⟨_, gd4⟩).run [] s5 _ HB _ S5 (yes rfl a na)) (fun f s6 hsp => ?_) (fun _ _ z => z.elim)
      cases f with
      | next =>
        obtain ⟨σ6, H6, S6, q6⟩ := hsp
        exact leave true S6 fun s7 J7 => ⟨_, _, J7, q6⟩
      | brk =>
        obtain ⟨σ6, H6, S6, q6⟩ := hsp
        exact leave true S6 fun s7 J7 => ⟨_, _, J7, q6⟩
      | cont =>
        obtain ⟨σ6, H6, S6, q6⟩ := hsp
        exact leave true S6 fun s7 J7 => ⟨_, _, J7, q6⟩
      | ret u =>
        obtain ⟨v6, σ6, H6, S6, r6, q6⟩ := hsp
        exact leave false S6 fun s7 J7 => ⟨_, _, _, J7, r6, q6⟩
    | false =>
      show wpAny _ X.A (handleBy (.ref a) X.env []) _ _ _
      refine wpAny_handleBy_nil ?_
      obtain ⟨k1, k2, k3, oe, fv, T, oT, ft, ge, gz, gd, g1, gr⟩ := id fl3
      unfold PySem.passOn
      refine wpAny_bind (wpAny_field ge gd g1 ?_)
      rw [if_neg (by simp : ¬ ((Value.ref T == Value.none) = true))]
      have up_ : wpAny (model X.prog X.w) X.A (setFlight (.ref a) X.env.frame) (fun _ s4 => wpAny (model X.prog X.w) X.A (throw (.ref a) : Sem Flow) (SP X pins D) X.xe s4) X.xe { s' with heap := h3 } := by
        rw [hf]
        refine HandSPX.setFlight_upZ fl3 fun h4 held up4 => wpAny_throw (tk _ _ ?_)
        exact ⟨a, B, sI, pins, σB, HB, cls, d, rfl, J, nb, up'.trans up4, .inr (.inr (hs.symm ▸ held)), na, os, ag, no rfl⟩
      first
        | exact wpAny_bind (wpAny_pure (wpAny_bind up_))
        | exact wpAny_bind up_
  refine wpAny_Try_except (wpAny_mono ((hb W (X.pn ++ pins) xe caught PassesOwn.looking).run [] s σ H D (I.toTry _) hread) (fun f s1 hsp => ?_) (fun _ _ he => he))
  cases f with
  | next =>
    obtain ⟨σ1, H1', J1, q⟩ := hsp
    exact wpAny_execs_nil ⟨σ1, H1', J1.ofTry okX, q⟩
  | brk =>
    obtain ⟨σ1, H1', J1, q⟩ := hsp
    exact ⟨σ1, H1', J1.ofTry okX, q⟩
  | cont =>
    obtain ⟨σ1, H1', J1, q⟩ := hsp
    exact ⟨σ1, H1', J1.ofTry okX, q⟩
  | ret u =>
    obtain ⟨v, σ1, H1', J1, r, q⟩ := hsp
    exact ⟨v, σ1, H1', J1.ofTry okX, r, q⟩
end
end MyG

set_option maxHeartbeats 2000000
/-! Promises put together: a def that is called rightly or refuses. -/
namespace MyG
open PySem PySem.Spec PyProof.Rows L2 Evl
section
variable {P : Program} {w : World} {K : PySem.W.Frag} {mg : Str → Option Value} {base : Heap} {k j : Nat} {f : Addr} {fd : FuncData} {ps : List Str} {sp sp' : Sp}
theorem fn_lift (F : FnOk P w K mg base CX0 k f fd ps sp) : FnOk P w K mg base (L2.CX P w) k f fd ps sp := ⟨F.len, fun A outer s H args us vs Q E room e0 b r h => codeAny_mono (F.run A outer s H args us vs Q E room e0 b r h) fun r s' hr => by
  match r, hr with
  | .ok (.ret u), hr => exact hr
  | .error e, hr => exact False.elim hr⟩
theorem fn_or {CX : CXT} (F : FnOk P w K mg base CX k f fd ps sp) (G : FnOk P w K mg base CX k f fd ps sp') : FnOk P w K mg base CX k f fd ps (fun vs H Q E => sp vs H Q E ∨ sp' vs H Q E) :=
  ⟨fun vs H Q E h => h.elim (F.len vs H Q E) (G.len vs H Q E), fun A outer s H args us vs Q E room e0 b r h => h.elim (F.run A outer s H args us vs Q E room e0 b r) (G.run A outer s H args us vs Q E room e0 b r)⟩
end
/-! ### xs.count(y), flat things -/
section
variable {X : Cx}
def rCountF (K : PySem.W.Frag) : V → List V → Hp → VK → Prop := fun x xs H Q => ∃ (a : Addr) (ys : List V) (y : V), x = V.ref a ∧ xs = [y] ∧ SqL K H a ys ∧ flatV y = true ∧ ys.all flatV = true ∧ Q (.int ((ys.countP fun z => eqV z y : Nat) : Int)) H
theorem count_eqU {y : V} : ∀ {ys : List V} {us : List Value}, Vals ys us → ys.all flatV = true → us.countP (eqU y) = ys.countP fun z => eqV z y
  | _, _, .nil, _ => rfl
  | _, _, .cons (a := z) (b := u) h t, f => by
    rw [List.all_cons, Bool.and_eq_true] at f
    rw [List.countP_cons, List.countP_cons, count_eqU t f.2, eqU_of h f.1]
theorem mt_countF : MtR X "list.count" (rCountF X.K) := by
  intro pins s σ H x xs v us Q I rx rxs h
  obtain ⟨a, ys, y, rfl, rfl, hs, fy, fys, q⟩ := h
  cases rx
  cases rxs with
  | cons ry rt =>
    rename_i uy ut
    cases rt
    obtain ⟨its, rv, ⟨⟨cls, dd, data, sl⟩, n, ho, hc, hdn, hd⟩, hlen⟩ := I.list hs
    simp only at hc hd
    subst hc hd
    refine call_meets PySem.F.slot_list_count ⟨_, ho, rfl⟩ PySem.F.entry_list_count (PySem.F.args_list_count_2 _ _)
      (SeqAt.list_countAt a its.toArray n dd sl uy (eqU y)) ⟨ho, fun u' hu' => mem_eqAt ry fy rv fys u' (by simpa using hu'), ?_⟩
    have ec : its.toArray.toList.countP (eqU y) = ys.countP fun z => eqV z y := count_eqU rv fys
    refine ⟨.int ((ys.countP fun z => eqV z y : Nat) : Int), H, I.tok _, ⟨s.toks, ?_⟩, q⟩
    show Value.int ((its.toArray.toList.countP (eqU y) : Nat) : Int) s.toks = Value.int ((ys.countP fun z => eqV z y : Nat) : Int) s.toks
    rw [ec]
end
section
variable {K : PySem.W.Frag} {σ : L2.St} {H : Hp} {te : TE} {C D a : Addr} {d : Option Addr} {b : Bool}
theorem ev_isX (ha : Ev te σ H (.ref a)) (h : ExcAt H a C d) (e : ExcC K C) (k : PySem.W.kitOne K (.ref C) (.ref D) = some b) : Ev (tCB (rIsX K) (tCons te (tCons (tC (.ref D)) tNil))) σ H (.bl b) := fun H1 e1 Q q =>
  ha H1 e1 _ fun H2 e2 => ⟨a, C, d, .ref D, .ref D, b, rfl, h.ext (e1.trans e2), e, .own D, k, q H2 e2⟩
theorem ev_isXt {T : String} (ha : Ev te σ H (.ref a)) (h : ExcAt H a C d) (e : ExcC K C) (k : PySem.W.kitOne K (.ref C) (.type T) = some b) : Ev (tCB (rIsX K) (tCons te (tCons (tC (.ty T)) tNil))) σ H (.bl b) := fun H1 e1 Q q =>
  ha H1 e1 _ fun H2 e2 => ⟨a, C, d, .ty T, .type T, b, rfl, h.ext (e1.trans e2), e, .ty T, k, q H2 e2⟩
theorem ev_isX2 {D1 D2 : Addr} {b1 b2 : Bool} (ha : Ev te σ H (.ref a)) (h : ExcAt H a C d) (e : ExcC K C) (k1 : PySem.W.kitOne K (.ref C) (.ref D1) = some b1) (k2 : PySem.W.kitOne K (.ref C) (.ref D2) = some b2) :
    Ev (tCB (rIsXT K) (tCons te (tCons (tTup (tCons (tC (.ref D1)) (tCons (tC (.ref D2)) tNil))) tNil))) σ H (.bl (b1 || b2)) := fun H1 e1 Q q =>
  ha H1 e1 _ fun H2 e2 => ⟨by show 2 ≤ sizeLine; decide, fun p hp => ⟨a, C, d, p, [.ref D1, .ref D2], [.ref D1, .ref D2], _, rfl, upd_same, .cons (.own _) (.cons (.own _) .nil), (h.ext (e1.trans e2)).ext (Ex.new hp), e, by
    unfold PySem.W.kitAny
    rw [k1]
    cases b1 with
    | true => rfl
    | false =>
      show PySem.W.kitAny _ _ _ = _
      unfold PySem.W.kitAny
      rw [k2]
      cases b2 <;> rfl, q _ (e2.trans (Ex.new hp))⟩⟩
theorem ev_count {xs : List V} {y : V} (ha : Ev te σ H (.ref a)) (h : H a = some (.lst xs)) (fy : flatV y = true) (fx : xs.all flatV = true) : Ev (tBM K "list" (rCountF K) te (tCons (tC y) tNil)) σ H (.int ((xs.countP fun z => eqV z y : Nat) : Int)) := fun H1 e1 Q q =>
  ha H1 e1 _ fun H2 e2 => ⟨.inl ⟨rfl, xs, SqL.of ((e1.trans e2) _ _ h)⟩, a, xs, y, rfl, rfl, SqL.of ((e1.trans e2) _ _ h), fy, fx, q H2 e2⟩
theorem ev_index {xs : List V} {y z : V} {j : Nat} (ha : Ev te σ H (.ref a)) (h : H a = some (.lst xs)) (fy : flatV y = true) (fx : xs.all flatV = true) (hz : xs[j]? = some z) (hj : eqV z y = true) (hno : ∀ (m : Nat) (z' : V), m < j → xs[m]? = some z' → eqV z' y = false) : Ev (tBM K "list" (rIndex K) te (tCons (tC y) tNil)) σ H (.int (j : Nat)) := fun H1 e1 Q q =>
  ha H1 e1 _ fun H2 e2 => ⟨.inl ⟨rfl, xs, SqL.of ((e1.trans e2) _ _ h)⟩, a, xs, y, j, z, rfl, rfl, SqL.of ((e1.trans e2) _ _ h), fy, fx, hz, hj, hno, q H2 e2⟩
theorem ev_xv {f : Str} {dd : Addr} {fs : List (Str × V)} {v : V} (ha : Ev te σ H (.ref a)) (h : H a = some (XO a (.ref C) (some dd))) (hd : H dd = some (.xd fs)) (x : XfC K C) (no : PySem.W.findIn K (.ref C) f = some none) (lk : fs.lookup f = some v) : Ev (tXv K te f) σ H v := fun H1 e1 Q q =>
  ha H1 e1 _ fun H2 e2 => ⟨a, C, dd, fs, v, rfl, (e1.trans e2) _ _ h, (e1.trans e2) _ _ hd, x, no, lk, q H2 e2⟩
theorem el_catN {ta tb : TE} {xs zs : List V} (h1 : EvL ta σ H xs) (h2 : EvL tb σ H zs) (hl : xs.length + zs.length ≤ 1000) : EvL (tOp rCat ta tb) σ H (xs ++ zs) := fun H1 e Q q =>
  h1 H1 e _ fun p H2 hp e2 hx => h2 H2 (e.trans e2) _ fun r H3 hr e3 hz => ⟨p, r, xs, zs, rfl, rfl, e3 _ _ hx, hz, Nat.le_trans hl (by decide), fun t ht => q t _ (fresh_back (e2.trans e3) ht) ((e2.trans e3).trans (Ex.new ht)) upd_same⟩
/-- a list that stands, in a place where a new one may stand too: it is known by what it holds -/
theorem el_catV {tb : TE} {p : Addr} {ta : TE} {xs zs : List V} (h1 : EvL ta σ H xs) (h2 : Ev tb σ H (.ref p)) (hz : H p = some (.lst zs)) (hl : xs.length + zs.length ≤ 1000) : EvL (tOp rCat ta tb) σ H (xs ++ zs) := fun H1 e Q q =>
  h1 H1 e _ fun r H2 hr e2 hx => h2 H2 (e.trans e2) _ fun H3 e3 => ⟨r, p, xs, zs, rfl, rfl, e3 _ _ hx, ((e.trans e2).trans e3) _ _ hz, Nat.le_trans hl (by decide), fun t ht => q t _ (fresh_back (e2.trans e3) ht) ((e2.trans e3).trans (Ex.new ht)) upd_same⟩
/-- a list that is known -/
theorem ev_lst_ix {xs : List V} {tk : TE} {j : Nat} {v : V} (h : EvL te σ H xs) (hk : ∀ H1, Ex H H1 → Ev tk σ H1 (.int (j : Nat))) (hj : xs[j]? = some v) : Ev (tOp (rIxL K) te tk) σ H v := fun H1 e Q q =>
  h H1 e _ fun p H2 hp e2 hx => hk H2 (e.trans e2) H2 (Ex.refl _) _ fun H3 e3 => ⟨p, xs, j, v, rfl, rfl, SqL.of (e3 _ _ hx), atI_nat hj, q H3 (e2.trans e3)⟩
end
end MyG

set_option maxHeartbeats 1000000
/-! own exceptions beneath ValueError without an own __init__ -/
namespace MyG
open PySem PySem.Spec PyProof.Rows L2 Evl
/-- what is written of the class x at C, beneath R -/
structure ExO (K : PySem.W.Frag) (mg : Str → Option Value) (x : Str) (C R : Addr) : Prop where
  F : PySem.W.excIn K C [.type "ValueError", .type "Exception", .type "BaseException", .type "object"] "ValueError.__new__" = true
  g : mg x = some (.ref C)
  k : PySem.W.keepIn K (.ref C) = true
  b : PySem.W.subIn K (.ref C) (.type "BaseException") = some true
  t : PySem.W.typeIn K (.ref C) = some (.type "type")
  m : PySem.W.exmOne K (.ref C) (.ref R) = some true
  e : ExcC K C
  v : PySem.W.kitOne K (.ref C) (.type "ValueError") = some true
  o : PySem.W.kitOne K (.ref C) (.ref C) = some true
theorem exm_of {K : PySem.W.Frag} {C R : Addr} (h : PySem.W.subIn K (.ref C) (.ref R) = some true) (h1 : PySem.W.subIn K (.ref R) (.type "BaseException") = some true) (h2 : PySem.W.typeIn K (.ref R) = some (.type "type")) (h3 : PySem.W.hasDictIn K R = true) : PySem.W.exmOne K (.ref C) (.ref R) = some true := by
  unfold PySem.W.exmOne PySem.W.kitCls
  rw [if_pos (by rw [h1]; rfl)]
  dsimp only
  rw [if_pos (by rw [cls_some h3, h2]; rfl), h]
/-- isinstance(e, c) in the suite that holds e, whatever its class -/
def rIsG (K : PySem.W.Frag) (cls : Value) (d : Option Addr) (a : Addr) : List V → Hp → VK → Prop := fun xs H Q => ∃ D, cls = .ref D ∧ d = none ∧ ExcC K D ∧ rIsE K D a xs H Q
theorem call_isG {X : Cx} {K : PySem.W.Frag} {a : Addr} {oe : Obj} {cls : Value} {d : Option Addr} {pn : List (Addr × Obj)} (hK : X.K = K) (hz : Zc cls d oe) (hf : ∃ vs, oe.data = .fields vs) : CallR (X.suite a ((a, oe) :: pn)) (.builtin "isinstance") (rIsG K cls d a) := by
  subst hK
  intro pins s σ H xs us Q I r h
  obtain ⟨D, rfl, rfl, hD, h⟩ := h
  exact call_isE hD hz hf pins s σ H xs us Q I r h
theorem ev_isG {K : PySem.W.Frag} {cls : Value} {D R a : Addr} {te : TE} {σ : L2.St} {H : Hp} {b : Bool} (ha : Ev te σ H (.ref a)) (hc : cls = .ref D) (e : ExcC K D) (k : PySem.W.kitOne K (.ref D) (.ref R) = some b) : Ev (tCB (rIsG K cls none a) (tCons te (tCons (tC (.ref R)) tNil))) σ H (.bl b) := fun H1 e1 Q q =>
  ha H1 e1 _ fun H2 e2 => ⟨D, hc, rfl, e, .ref R, .ref R, b, rfl, fun u hu => (by cases hu; rfl), k, q H2 e2⟩
theorem ev_isGt {K : PySem.W.Frag} {cls : Value} {D a : Addr} {T : String} {te : TE} {σ : L2.St} {H : Hp} {b : Bool} (ha : Ev te σ H (.ref a)) (hc : cls = .ref D) (e : ExcC K D) (k : PySem.W.kitOne K (.ref D) (.type T) = some b) : Ev (tCB (rIsG K cls none a) (tCons te (tCons (tC (.ty T)) tNil))) σ H (.bl b) := fun H1 e1 Q q =>
  ha H1 e1 _ fun H2 e2 => ⟨D, hc, rfl, e, .ty T, .type T, b, rfl, fun u hu => (by cases hu; rfl), k, q H2 e2⟩
end MyG

set_option maxHeartbeats 4000000
/-! An own exception beneath ValueError whose __init__ begins with super().__init__(..): the super call at the level that knows the running code, the rest as a def. -/
namespace MyG
open PySem PySem.Spec PyProof.Rows L2 Evl
abbrev mwO (a : Addr) : Obj := PySem.W.kxs_mw "ValueError.__init__" a
section
variable {X : Cx} {pins : List (Addr × Obj)} {σ : L2.St} {H : Hp} {s : Shared} {a C u : Addr} {E : Value → Shared → Prop} {A : Around}
/-- the bound built-in __init__, called -/
theorem call_mw {us : List Value} {Q : Value → Shared → Prop} (T : OexC X.K C) (I : Inv X pins σ H s) (e : H a = some (exo a C none)) (hu : s.heap.get? u = some (mwO a)) (hl : us.length ≤ sizeLine) (h : ∀ s', Inv X pins σ H s' → Q .none s') :
    wpAny (model X.prog X.w) A (call (.ref u) us) Q E s := by
  obtain ⟨nm, q, N, bs, bm, sn, sub, ab, col, dd, k0, k1, k2, k3, k5, hC, hbm⟩ := T.cls
  obtain ⟨t1, ho⟩ := exo_at I.hok e
  have hCs := I.kIn _ _ hC
  obtain ⟨hp, g, d, t, os⟩ := s
  refine wpAny_call (codeAny_of_tree ?_)
  show wpAny _ A.in1 (callAny (.ref u) ⟨us, []⟩) _ _ _
  unfold callAny
  refine wpAny_bind (wpAny_load hu ?_)
  have w1 : (Value.type "method-wrapper" == Value.type "method" || Value.type "method-wrapper" == Value.type "builtin_function_or_method" || Value.type "method-wrapper" == Value.type "method-wrapper") = true := by decide
  simp only [mwO, PySem.W.kxs_mw, w1, if_true]
  refine PySem.W.KFB.if_so (by decide) ?_
  refine wpAny_bind (PySem.W.check_bound_init F.excBase_ValueError.toExcCallFacts hCs ho rfl ?_)
  refine wpAny_bind (wpAny_pure (wpAny_pure ?_))
  refine ⟨plainId_quiet F.excBase_ValueError.init.plain _, codeAny_builtin F.excBase_ValueError.initEntry ?_⟩
  refine PySem.W.exc_init_tree (cls := .ref C) (t0 := t1) (dv := none) (c2 := .none) (c3 := .none) (b4 := .bool false) ho hl (fun h' k hx _ => ?_)
  have J := I.write (t' := t) (x := a) (e := a) (o := exo a C none) (by rw [e]; exact True.intro) (.inl rfl) k ⟨_, hx⟩ (exo_ok hx)
  have same : upd H a (exo a C none) = H := by
    funext b
    by_cases hb : b = a
    · rw [hb, upd_same, e]
    · rw [upd_ne hb]
  rw [same] at J
  exact h _ J
end
end MyG
namespace MyG
open PySem PySem.Spec PyProof.Rows L2 Evl NdefX
/-- what the written part says of such a class: C its own, cc the cell of __class__, f its __init__, c the code object -/
structure SupC (P : Program) (K : PySem.W.Frag) (mg : Str → Option Value) (C cc c : Addr) : Prop where
  ox : OexC K C
  cell : ∃ (cl : Value) (d : Option Addr) (sl : Array (Option Value)), K.lookup cc = some ⟨cl, d, .cell (some (.ref C)), sl⟩
  file : ∃ (k : Value) (d : Option Addr) (vs : Array Value) (sl : Array (Option Value)) (nm : Str) (t : Tok), K.lookup c = some ⟨k, d, .fields vs, sl⟩ ∧ vs[2]? = some (.str nm t) ∧ ((P.main.file : Str) == nm) = true
  sup : PySem.W.ks_superIn K C C "__init__" = some (some (.builtin "ValueError.__init__"))
  ve : PySem.W.subIn K (.ref C) (.type "ValueError") = some true
  own : PySem.W.mroIn K C (.ref C) = some true
  opq : PySem.W.nsIn K cStatics "thirdparty.any" = some none
  msup : mg "super" = none
  top : (P.main.scope.names.lookup ("super" : Str)).isSome = false
section
variable {CX : CXT} {P : Program} {w : World} {K : PySem.W.Frag} {mg : Str → Option Value} {base : Heap} {N ps : List Str} {F : NF} {f C cc : Addr} {k : Nat} {sp : Sp} {kV doc pm ct oc : Value} {an od : Option Addr} {osl : Array (Option Value)} {x0 : Str} {ar : Arg}
/-- super(): the object that asks behind C -/
theorem super_obj {A : Around} {outer : List Env} {s : Shared} {H : Hp} {E : XK} {s1 : Shared} {σ : L2.St} {a : Addr} {p0 p1 : Pos} {body : List Stmt} {whole : Sem Value} {Q : Value → Shared → Prop} {E' : Value → Shared → Prop}
    (S : NScope N ps ["__class__"] F.scope) (hcl : F.cl = [(("__class__" : Str), cc)]) (T : SupC P K mg C cc F.c) (hsn : F.scope.names.lookup ("super" : Str) = some .globalImplicit) (hpar : F.params.posonlyargs ++ F.params.args = ar :: F.params.args.tail) (har : ar.arg = x0) (hx0 : N[0]? = some x0) (hk0 : F.scope.names.lookup x0 = some .local)
    (lk : K.lookup f = some ⟨oc, od, .func (PySem.W.fnX F.name F.qual F.params F.body F.scope F.cl .none kV doc pm an (.ref F.c) ct), osl⟩)
    (I : Inv (ncx CX P w K mg base N F f A outer s H E) [] σ H s1) (h0 : σ[0]? = some (some (.ref a))) (e : H a = some (exo a C none))
    (q : ∀ s2, Inv (ncx CX P w K mg base N F f A outer s H E) [] σ H s2 → s2.heap.get? s1.heap.objs.size = some (PySem.W.ks_superObj C a C) → Q (.ref s1.heap.objs.size) s2) :
    PySem.wpAt (model P w) (A.deeper (envF F f s.heap.objs.size)) (.func body (envF F f s.heap.objs.size)) (attributeBase (.Call (.Name "super" p0) [] [] p1) "__init__" (envF F f s.heap.objs.size) whole) Q E' s1 := by
  obtain ⟨cl0, d0, sl0, hcell⟩ := T.cell
  obtain ⟨k1, d1, vs1, sl1, nm1, t1, hfile, hvs, hnm⟩ := T.file
  have KX : K.In s1.heap := I.kIn
  obtain ⟨nm, q0, N0, bs, bm, sn, sub, ab, col, dd, k0, k1', k2, k3, k5, hC, hbm⟩ := T.ox.cls
  obtain ⟨t2, ho⟩ := exo_at I.hok e
  have mods := I.mod
  obtain ⟨m, hm, hloc⟩ := I.loc
  obtain ⟨mb, hmb, hbb⟩ := mods.blt
  have hcls : F.scope.names.lookup ("__class__" : Str) = some .free := S.frk _ (List.mem_singleton.mpr rfl)
  have kin : K.In base := mods.kin
  have bk := I.bk
  obtain ⟨hp, g, d, tk, os⟩ := s1
  refine PySem.ks_wpAt_super_base (env := envF F f s.heap.objs.size) hsn hcls (by decide) rfl (KX _ _ lk) rfl (ar := ar) (by show (F.params.posonlyargs ++ F.params.args).head? = some ar; rw [hpar]; rfl) rfl (KX _ _ hfile) rfl hvs hnm T.top ?_
  refine PySem.W.ks_loadName_global S.kind hsn (Calls.loadGlobal_builtin (env := envF F f s.heap.objs.size) (mods.glob.keeps bk) T.msup (hmb.keeps bk) ((hbb _ (by decide +kernel)).trans (by decide +kernel)) ⟨rfl, ?_⟩)
  refine wpAny_loadName_free S.kind hcls (by show F.cl.lookup _ = some cc; rw [hcl]; rfl) ⟨_, KX _ _ hcell, rfl⟩ ?_
  obtain ⟨v, rv, hv⟩ := hloc 0 x0 (.ref a) hx0 h0 (.inl hk0)
  cases rv
  have hv2 : m x0 = some (.ref a) := by
    rcases hv with ⟨_, z⟩ | ⟨z, _⟩
    · exact z
    · have z' : F.scope.names.lookup x0 = some .cell ∨ F.scope.names.lookup x0 = some .free := z
      rw [hk0] at z'
      rcases z' with z' | z' <;> cases z'
  refine wpAny_loadName_local S.kind (by rw [har]; exact hk0) hm (by rw [har]; exact hv2) ?_
  have hCs := KX _ _ hC
  have hsub := PySem.W.looks_mroIn (M := model P w) KX T.own
  refine ks_wpAny_isType_cls hCs rfl ⟨rfl, ?_⟩
  refine ks_wpAny_call_super hCs rfl ho rfl (fun c z => nomatch z) hsub (fun h' hso k => ?_)
  exact q _ (I.kept (t' := tk) k) hso
/-- a def whose first statement is super().__init__(..) -/
theorem okS {fd : FuncData} {p0 p1 apos pos pos2 : Pos} {e0 : Expr} {es : List Expr} {rest : List Stmt} {ps' : List Str}
    (hfd : fd = PySem.W.fnX F.name F.qual F.params F.body F.scope F.cl .none kV doc pm an (.ref F.c) ct) (S : NScope N ps ["__class__"] F.scope) (hcl : F.cl = [(("__class__" : Str), cc)]) (T : SupC P K mg C cc F.c) (hsn : F.scope.names.lookup ("super" : Str) = some .globalImplicit)
    (hpar : F.params.posonlyargs ++ F.params.args = ar :: F.params.args.tail) (har : ar.arg = x0) (hx0 : N[0]? = some x0) (hk0 : F.scope.names.lookup x0 = some .local) (hps : ps = x0 :: ps') (hcd : PySem.W.codeIn K (.ref F.c) F.qual = true)
    (lk : K.lookup f = some ⟨oc, od, .func fd, osl⟩) (hb : F.body = .Expr (.Call (.Attribute (.Call (.Name "super" p0) [] [] p1) "__init__" apos) (e0 :: es) [] pos) pos2 :: rest) (len : ∀ vs H Q E, sp vs H Q E → vs.length = ps.length)
    (hbody : ∀ (A : Around) (outer : List Env) (s : Shared) (H : Hp) (vs : List V) (Q : VK) (E : XK), Room k (A.deeper (envF F f s.heap.objs.size)) → sp vs H Q E →
      ∃ (a : Addr) (ta : TA) (t : TS), vs.head? = some (.ref a) ∧ H a = some (exo a C none) ∧ PA (ncx CX P w K mg base N F f A outer s H E) (e0 :: es) ta ∧ PSs (ncx CX P w K mg base N F f A outer s H E) rest t ∧
        ta (startF N vs [some (.ref C)]) H fun ws H1 => ws.length ≤ 1000 ∧ H1 a = some (exo a C none) ∧ t { nx := fun _ H' => Q .non H', rt := Q } (startF N vs [some (.ref C)]) H1)
    (hin : ∀ L, interactive (envF F f L) = false := by intro L; rfl) (hsw : ∀ L, swapsWith (.Call (.Attribute (.Call (.Name "super" p0) [] [] p1) "__init__" apos) (e0 :: es) [] pos) none pos2.line (envF F f L) = pure false := by intro L; rfl)
    (hst : ∀ L, starEach (e0 :: es) (envF F f L) = (false, eval e0 (envF F f L)) :: starEach es (envF F f L) := by intro L; rfl) (hpl : ∀ L, (backTo pos (starEach es (envF F f L))).any (·.1) = false := by intro L; rfl)
    {pl : Sem Bool} (hev : ∀ L, eval (.Call (.Attribute (.Call (.Name "super" p0) [] [] p1) "__init__" apos) (e0 :: es) [] pos) (envF F f L) = (do
      let ov ← attributeBase (.Call (.Name "super" p0) [] [] p1) "__init__" (envF F f L) (eval (.Call (.Name "super" p0) [] [] p1) (envF F f L))
      standAt apos.atName
      let (g, first) ← holding [ov] (getMethod ov "__init__" pl)
      callWith pos g first (backTo pos (starEach (e0 :: es) (envF F f L))) []) := by intro L; rfl) :
    FnOk P w K mg base CX (k + 1) f fd ps sp := by
  subst hfd
  refine ⟨len, fun A outer s H as us vs Q E hr en hbind r hsp => ?_⟩
  have KX : K.In s.heap := en.mod.kin.keeps fun b o z => (en.bs b o z).1
  have lim : s.heap.NoLimit := en.mod.nolimit.keeps fun b o z => (en.bs b o z).1
  have hl := len _ _ _ _ hsp
  obtain ⟨a, ta, t, hhead, ha, hA, hT, hread⟩ := hbody A outer s H vs Q E (hr.deeper _) hsp
  obtain ⟨cl0, d0, sl0, hcell⟩ := T.cell
  have cells : CellsAt F.cl ["__class__"] [some (V.ref C)] s.heap H := by
    refine ⟨rfl, fun y c hy => ?_, fun x y c hx hy => ?_, fun i y hi => ?_⟩
    · rw [hcl] at hy
      have hc : c = cc := by
        by_cases z : y = ("__class__" : Str)
        · subst z
          exact (Option.some.inj hy).symm
        · have z' : (y == ("__class__" : Str)) = false := by simpa using z
          simp [List.lookup, z'] at hy
      subst hc
      exact ⟨(en.bs _ _ (en.mod.kin _ _ hcell)).2, _, _, KX _ _ hcell, rfl⟩
    · rw [hcl] at hx hy
      have one : ∀ {z : Str}, List.lookup z [(("__class__" : Str), cc)] = some c → z = "__class__" := fun {z} hz => by
        by_cases q : z = ("__class__" : Str)
        · exact q
        · have q' : (z == ("__class__" : Str)) = false := by simpa using q
          simp [List.lookup, q'] at hz
      rw [one hx, one hy]
    · have hi0 : i = 0 ∧ y = ("__class__" : Str) := by
        cases i with
        | zero => exact ⟨rfl, (Option.some.inj hi).symm⟩
        | succ n => simp at hi
      obtain ⟨rfl, rfl⟩ := hi0
      refine ⟨cc, by rw [hcl]; rfl, fun v hv => ?_⟩
      obtain rfl : v = V.ref C := (Option.some.inj (Option.some.inj hv)).symm
      exact ⟨.ref C, rfl, _, KX _ _ hcell, rfl⟩
  refine ks_codeAny_call_defAt (fd := PySem.W.fnX F.name F.qual F.params F.body F.scope F.cl .none kV doc pm an (.ref F.c) ct) (body := F.body) (binds := ps.zip us) hr.depth (KX _ _ lk) rfl lim (PySem.W.codeRec_of KX hcd) rfl hbind S.nocell (fun y hy => S.par y.1 (List.of_mem_zip (show (y.1, y.2) ∈ ps.zip us from hy)).1) (fun h1 hns kp => ?_) S.co S.gen S.kind
  have I : Inv (ncx CX P w K mg base N F f A outer s H E) [] (startF N vs [some (.ref C)]) H { s with heap := h1, toks := s.toks + (ps.zip us).length } := inv_startN S hr.hd en hl r cells hns kp
  have h0 : (startF N vs [some (V.ref C)])[0]? = some (some (.ref a)) := by
    cases vs with
    | nil => cases hhead
    | cons v vs =>
      obtain rfl := Option.some.inj hhead
      rfl
  show PySem.wpAt (model P w) (A.deeper (envF F f s.heap.objs.size)) (.func F.body (envF F f s.heap.objs.size)) (execs F.body (envF F f s.heap.objs.size)) _ _ _
  rw [hb]
  refine ks_wpAt_execs_cons (ks_wpAt_Expr_any (ks_wpAt_MethodCall (pl := pl) ?_ (hev _)) (hin _) (hsw _))
  refine super_obj S hcl T hsn hpar har hx0 hk0 lk I h0 ha (fun s2 I2 hso => ?_)
  -- the bound built-in
  obtain ⟨nm, q, N0, bs, bm, sn, sub, ab, col, dd, k0, k1, k2, k3, k5, hC, hbm⟩ := T.ox.cls
  have hc : PySem.W.clsIn K C = some { name := nm, bases := bs, mro := .ref C :: bm, ns := N0, qualname := q, hasDict := true, slotNames := sn, subclasses := sub, abstract := ab, collection := col, hasDel := false } := by
    unfold PySem.W.clsIn
    rw [hC] <;> rfl
  have K2 : K.In s2.heap := I2.kIn
  obtain ⟨t2, ho⟩ := exo_at I2.hok ha
  have J2 : PySem.W.InstAt s2.heap a _ C none := ⟨ho, rfl, rfl, trivial⟩
  have isVE : PySem.W.Looks (model P w) s2.heap (isInstance (.ref a) (.type "ValueError")) true := J2.type.andThen (PySem.W.looks_subIn K2 T.ve)
  have sup := T.sup
  unfold PySem.W.ks_superIn at sup
  rw [hc] at sup
  obtain ⟨hp, g, d, tk, os⟩ := s2
  refine PySem.W.kxs_getMethod PySem.W.kxs_ValueError hso (PySem.W.looks_opaque K2 T.opq) (l₀ := .ref C :: bm) (fun A' Q' E' s' kk qq => wpAny_bind ((PySem.W.looks_clsIn K2 hc) A' _ E' s' kk (wpAny_pure qq))) rfl K2 sup isVE (PySem.W.ks_ne K2 J2 hc) (by decide) ?_
  have hu : (hp.push (mwO a)).get? hp.objs.size = some (mwO a) := Heap.get?_push_at rfl rfl
  have I3 : Inv (ncx CX P w K mg base N F f A outer s H E) [(hp.objs.size, mwO a)] (startF N vs [some (.ref C)]) H ⟨hp.push (mwO a), g, d, tk + 1, os⟩ := by
    refine (I2.kept (t' := tk + 1) (h' := hp.push (mwO a)) fun b o z => Heap.get?_push_of_some _ z).pins_of fun p hp' => ?_
    obtain rfl := List.mem_singleton.mp hp'
    exact ⟨hu, I2.hok.fresh (Nat.le_refl _), Nat.ne_of_gt I2.lt, I2.nofs (Nat.le_refl _), fun v z => nomatch z⟩
  show wpAny (model P w) (A.deeper (envF F f s.heap.objs.size)) (callWith pos (.ref hp.objs.size) [] (backTo pos (starEach (e0 :: es) (envF F f s.heap.objs.size))) []) _ _ _
  rw [hst]
  refine PySem.W.kxs_callWith (i := "ValueError.__init__") (x := a) (by show (false || (backTo pos (starEach es (envF F f s.heap.objs.size))).any (·.1)) = false; rw [hpl]; rfl) (Calls.evalArgs_plain ?_)
  have hrun := hA.run pos [(hp.objs.size, mwO a)] _ _ H _ I3 hread
  rw [show starEach (e0 :: es) (ncx CX P w K mg base N F f A outer s H E).env = (false, eval e0 (envF F f s.heap.objs.size)) :: starEach es (envF F f s.heap.objs.size) from hst _] at hrun
  refine wpAny_mono hrun (fun us' s3 hq => ?_) (fun e' s' z => z)
  obtain ⟨ws, H3, I4, rw4, hz, ha4, hT4⟩ := hq
  have hu4 : s3.heap.get? hp.objs.size = some (mwO a) := (I4.pin _ (List.mem_append_right _ (List.mem_singleton.mpr rfl))).1
  refine ⟨hu4, ?_⟩
  have hlen : us'.length ≤ sizeLine := by
    rw [← Paired.length rw4, sizeLine_eq]
    omega
  refine call_mw (u := hp.objs.size) T.ox I4 ha4 hu4 hlen (fun s4 I5 => ?_)
  -- the rest
  have I6 : Inv (ncx CX P w K mg base N F f A outer s H E) [] (startF N vs [some (.ref C)]) H3 s4 := I5.pins_of fun p hp' => (nomatch hp')
  refine wpAt_of_wpAny (wpAny_mono (hT.run [] s4 _ H3 { nx := fun _ H' => Q .non H', rt := Q } I6 hT4) (fun fl s' hs => ?_) (fun e' s' z => z))
  have fin : ∀ {σ' : L2.St} {H' : Hp} {v : V} {u : Value}, Inv (ncx CX P w K mg base N F f A outer s H E) [] σ' H' s' → L2.RelV v u → Q v H' → CE outer P w H s Q u s' :=
    fun {σ' H' v u} J rv qq => ⟨v, H', J.os, J.bare, J.base, J.hok, rv, qq⟩
  cases fl with
  | ret u =>
    obtain ⟨v, σ', H', J, rv, qq⟩ := hs
    exact fin J rv qq
  | next =>
    obtain ⟨σ', H', J, qq⟩ := hs
    exact fin (v := V.non) (u := Value.none) J rfl qq
  | brk => exact hs.choose_spec.choose_spec.2.elim
  | cont => exact hs.choose_spec.choose_spec.2.elim
end
end MyG

set_option maxHeartbeats 2000000
/-! A def called within an except suite with the exception that is handled: its class and its fields asked there. -/
namespace MyG
open PySem PySem.Spec PyProof.Rows L2 L2H Evl
theorem _root_.L2H.RoomH.units {k : Nat} {A : Around} (r : RoomH k A) : A.units + 64 < cLine := by have := r.un; omega
theorem _root_.L2H.RoomH.units0 {k : Nat} {A : Around} (r : RoomH k A) : A.units < cLine := by have := r.un; omega
/-- p's object is the exception that is handled, of the class cls, its dict at d -/
def Hot2 (A : Around) (p : Addr × Obj) (cls : Value) (d : Option Addr) : Prop := A.handled = some (.ref p.1) ∧ Zc cls d p.2 ∧ ∃ vs : Array Value, p.2.data = .fields vs
structure FnW (P : Program) (w : World) (K : PySem.W.Frag) (mg : Str → Option Value) (base : Heap) (k : Nat) (f : Addr) (fd : FuncData) (ps : List Str) (sp : Addr → Value → Option Addr → Sp) : Prop where
  len : ∀ a cls d vs H Q E, sp a cls d vs H Q E → vs.length = ps.length
  run : ∀ (A : Around) (outer : List Env) (s : Shared) (H : Hp) (args : Args) (us : List Value) (vs : List V) (Q : VK) (E : XK) (p : Addr × Obj) (cls : Value) (d : Option Addr), RoomH k A → Hot2 A p cls d → PinOk outer H s p → Env0 P w K mg base A outer s H → BindsTo s fd args (ps.zip us) → Vals vs us → sp p.1 cls d vs H Q E →
    codeAny (model P w) A (.call (.ref f) args) (CR CX0 outer P w H s Q E) s
theorem fn_ofW {P : Program} {w : World} {K : PySem.W.Frag} {mg : Str → Option Value} {base : Heap} {k : Nat} {f : Addr} {name qual : Str} {params : Arguments} {body : List Stmt} {scope : Scope} {dV kV doc pm cdv ct oc : Value} {an od : Option Addr}
    {osl : Array (Option Value)} {N ps : List Str} {sp : Addr → Value → Option Addr → Sp} (lk : K.lookup f = some ⟨oc, od, .func (PySem.W.fnOf name qual params body scope dV kV doc pm an cdv ct), osl⟩) (hcd : PySem.W.codeIn K cdv qual = true) (S : FnScope N ps scope)
    (len : ∀ a cls d vs H Q E, sp a cls d vs H Q E → vs.length = ps.length)
    (hbody : ∀ (A : Around) (outer : List Env) (s : Shared) (H : Hp) (vs : List V) (Q : VK) (E : XK) (p : Addr × Obj) (cls : Value) (d : Option Addr), Zc cls d p.2 → (∃ vs : Array Value, p.2.data = .fields vs) → RoomH k (A.deeper (envOfC qual scope s.heap.objs.size f cdv)) → sp p.1 cls d vs H Q E →
      ∃ t, PSs (cxH CX0 P w K mg base N qual scope f cdv A outer s H E p) body t ∧ t { nx := fun _ H' => Q .non H', rt := Q } (L2.start N vs) H) :
    FnW P w K mg base (k + 1) f (PySem.W.fnOf name qual params body scope dV kV doc pm an cdv ct) ps sp := by
  refine ⟨len, fun A outer s H args us vs Q E p cls d hr hot hpin e0 hb r hsp => ?_⟩
  have hl := len _ _ _ _ _ _ _ hsp
  have KX : K.In s.heap := e0.mod.kin.keeps fun b o e => (e0.bs b o e).1
  have lim : s.heap.NoLimit := e0.mod.nolimit.keeps fun b o e => (e0.bs b o e).1
  have hkind : ∀ y ∈ ps.zip us, scope.names.lookup y.1 = some .local ∨ (scope.names.lookup y.1 = some .cell ∧ ((cellsFrom (s.heap.objs.size + 1) scope.names []).lookup y.1).isSome = true) := fun ⟨n, v⟩ hy => by
    rcases S.par n (List.of_mem_zip hy).1 with q | q
    · exact .inl q
    · exact .inr ⟨q, PySem.W.cellsFrom_some _ _ _ (.inl q)⟩
  refine codeAny_call_function hr.depth (KX _ _ lk) rfl S.co S.gen rfl (PySem.W.codeRec_of KX hcd) (hb _ _ _ _ ?_)
  refine wpAny_newFunctionEnv_cells S.kind hkind fun env he s1 x => ?_
  subst he
  refine ⟨lim.keeps x.toInCall.keep, codeAny_func ?_⟩
  obtain ⟨t, ht, hq⟩ := hbody A outer s H vs Q E p cls d hot.2.1 hot.2.2 (hr.deeper _) hsp
  have I : Inv (cxH CX0 P w K mg base N qual scope f cdv A outer s H E p) [] (L2.start N vs) H s1 := inv_startH S hpin e0 hl r x
  refine wpAny_mono (ht.run [] s1 (L2.start N vs) H _ I hq) (fun fl s' hs => ?_) fun e s' hs => hs
  have fin : ∀ {σ' : L2.St} {H' : Hp} {v : V} {u : Value}, Inv (cxH CX0 P w K mg base N qual scope f cdv A outer s H E p) [] σ' H' s' → RelV v u → Q v H' → CE outer P w H s Q u s' :=
    fun {σ' H' v u} J rv q => ⟨v, H', J.os, J.bare, J.base, J.hok, rv, q⟩
  cases fl with
  | ret u =>
    obtain ⟨v, σ', H', J, rv, q⟩ := hs
    exact fin J rv q
  | next =>
    obtain ⟨σ', H', J, q⟩ := hs
    exact fin (v := V.non) (u := Value.none) J rfl q
  | brk =>
    obtain ⟨_, _, _, q⟩ := hs
    exact False.elim q
  | cont =>
    obtain ⟨_, _, _, q⟩ := hs
    exact False.elim q
section
variable {P : Program} {w : World} {K : PySem.W.Frag} {mg : Str → Option Value} {base : Heap}
theorem okW {x qual : Str} {st : Stmt} {f : Addr} {fd : FuncData} {N ps : List Str} {k : Nat} {sp : Addr → Value → Option Addr → Sp} (F : Fun K x qual st f fd) (S : FnScope N ps (defScope st)) (len : ∀ a cls d vs H Q E, sp a cls d vs H Q E → vs.length = ps.length)
    (hbody : ∀ (cdv : Value) (A : Around) (outer : List Env) (s : Shared) (H : Hp) (vs : List V) (Q : VK) (E : XK) (p : Addr × Obj) (cls : Value) (d : Option Addr), Zc cls d p.2 → (∃ vs : Array Value, p.2.data = .fields vs) → RoomH k (A.deeper (envOfC qual (defScope st) s.heap.objs.size f cdv)) → sp p.1 cls d vs H Q E →
      ∃ t, PSs (cxH CX0 P w K mg base N qual (defScope st) f cdv A outer s H E p).nox (defBody st) t ∧ t { nx := fun _ H' => Q .non H', rt := Q } (L2.start N vs) H) : FnW P w K mg base (k + 1) f fd ps sp := by
  obtain ⟨oc, od, kV, doc, pm, an, cdv, ct, osl, rfl, lk, hcd⟩ := F.ex
  refine fn_ofW lk hcd S len fun A outer s H vs Q E p cls d hz hf hr hsp => ?_
  obtain ⟨t, h, q⟩ := hbody cdv A outer s H vs Q E p cls d hz hf hr hsp
  exact ⟨t, h.nox, q⟩
end
/-! ### the call -/
section
variable {X : Cx} {k : Nat} {f : Addr} {fd : FuncData} {ps : List Str} {sp : Addr → Value → Option Addr → Sp} {x : Str} {q pos : Pos} {e : Expr} {es : List Expr} {t : TA} {a : Addr} {oe : Obj} {cls : Value} {d : Option Addr} {pn : List (Addr × Obj)}
def tCallW (sp : Addr → Value → Option Addr → Sp) (a : Addr) (cls : Value) (d : Option Addr) (t : TA) : TE := fun σ H Q => t σ H fun vs H1 => sp a cls d vs H1 Q E0
theorem pe_callW (F : FnW X.prog X.w X.K X.mg X.base k f fd ps sp) (hr : RoomH k X.A) (hz : Zc cls d oe) (hf : ∃ vs : Array Value, oe.data = .fields vs) (hg : Gl X x) (hm : X.mg x = some (.ref f)) (hk : PySem.W.keepIn X.K (.ref f) = true) (hb : Binds X.K fd ps [])
    (ha : PA (X.suite a ((a, oe) :: pn)) (e :: es) t) (hdb : (x == ("__debug__" : Str)) = false := by decide) (he : starEach (e :: es) X.env = (false, eval e X.env) :: starEach es X.env := by rfl) (hpl : (backTo pos (starEach es X.env)).any (·.1) = false := by rfl) :
    PE (X.suite a ((a, oe) :: pn)) (.Call (.Name x q) (e :: es) [] pos) (tCallW sp a cls d t) := by
  refine ⟨fun pins s σ H Q I h => ?_⟩
  refine wpAny_Call_Name_kw (ld_glob (X := X.suite a ((a, oe) :: pn)) I hg hm ?_ hdb)
  refine PySem.W.callWith_K (h₀ := X.base) I.ok.mod.kin hk (thn (ha.run pos pins s σ H _ I h) fun us s1 ⟨vs, H1, I1, r, q⟩ => ⟨I1.kIn, ?_⟩) he hpl
  have hl : us.length = ps.length := by rw [← r.length]; exact F.len _ _ _ _ _ _ _ q
  have b := hb s1 us I1.kIn (by rw [List.append_nil]; exact hl)
  rw [List.append_nil] at b
  have P1 := I1.pin (a, oe) (List.mem_append_left _ List.mem_cons_self)
  have hpin : PinOk X.stack H1 s1 (a, oe) := ⟨P1.1, P1.2.1, fun hm => (List.mem_cons.mp (I1.stkSub a hm)).elim P1.2.2.1 P1.2.2.2.1, P1.2.2.2.2⟩
  have hr' : RoomH k (X.A.mark (some (.ref a))) := ⟨hr.dp, hr.un⟩
  refine wpAny_call (codeAny_mono (F.run _ X.stack s1 H1 ⟨us, []⟩ us vs Q E0 (a, oe) cls d hr' ⟨rfl, hz, hf⟩ hpin I1.env0 b r q) fun r s' hq => ?_)
  cases r with
  | error e => exact False.elim hq
  | ok fl =>
    cases fl with
    | ret u => exact I1.after hq
    | next => exact False.elim hq
    | brk => exact False.elim hq
    | cont => exact False.elim hq
/-! ### what is asked of it -/
/-- isinstance(e, c), e the exception at hand -/
def rIsP (K : PySem.W.Frag) (a : Addr) (cls : Value) (d : Option Addr) : List V → Hp → VK → Prop := fun xs H Q => ∃ (D : Addr) (c : V) (cv : Value) (b : Bool), xs = [.ref a, c] ∧ cls = .ref D ∧ (d = none ∨ ∃ dd fs, d = some dd ∧ H dd = some (.xd fs)) ∧ ExcC K D ∧ ClsV c cv ∧ PySem.W.kitOne K (.ref D) cv = some b ∧ Q (.bl b) H
theorem call_isP {K : PySem.W.Frag} (hK : X.K = K) (hp : (a, oe) ∈ X.pn) (hz : Zc cls d oe) (hf : ∃ vs : Array Value, oe.data = .fields vs) : CallR X (.builtin "isinstance") (rIsP K a cls d) := by
  subst hK
  intro pins s σ H xs us Q I r hh
  obtain ⟨D, c, cv, b, ex, rfl, hd, xc, cl, eb, q⟩ := hh
  subst ex
  cases r with
  | cons r1 t1 =>
    cases t1 with
    | cons r2 t2 =>
      cases t2
      cases r1
      rw [cl.eq r2]
      obtain ⟨hget, _⟩ := I.pin (a, oe) (List.mem_append_left _ hp)
      obtain ⟨vs, hv⟩ := hf
      obtain ⟨od, J⟩ : ∃ (od : Option Obj), PySem.W.InstAt s.heap a oe D od := by
        rcases hd with rfl | ⟨dd, fs, rfl, hdd⟩
        · refine ⟨none, ?_⟩
          obtain ⟨oc, od, oda, osl⟩ := oe
          obtain ⟨h1, h2⟩ := hz
          dsimp only at h1 h2 hv
          subst h1 h2 hv
          exact ⟨hget, rfl, rfl, trivial⟩
        · obtain ⟨mA, hns, hrl⟩ := (show ObjOk X.prog X.w H s.heap dd (.xd fs) from I.hok dd _ hdd)
          obtain ⟨od, ho, hl⟩ := lookIn_ns hns
          exact ⟨some od, hget, hz.1, by unfold PySem.W.notCls; rw [hv] <;> rfl, by rw [hz.2]; exact ho⟩
      refine PySem.W.kia_one (PySem.W.kitx_exc (cls_some xc.hd) xc.hg xc.hk xc.hs xc.ha xc.hn xc.ht xc.hm) I.kIn J eb (fun z => nomatch z) fun tk => ?_
      exact ⟨.bl b, H, I.tok tk, rfl, q⟩
/-- e.n, e the exception at hand -/
def tXp (K : PySem.W.Frag) (a : Addr) (cls : Value) (d : Option Addr) (n : Str) (te : TE) : TE := fun σ H Q => te σ H fun x H1 => x = .ref a ∧ ∃ (C dd : Addr) (fs : List (Str × V)) (v : V), cls = .ref C ∧ XfC K C ∧ PySem.W.findIn K (.ref C) n = some none ∧ d = some dd ∧ H1 dd = some (.xd fs) ∧ fs.lookup n = some v ∧ Q v H1
theorem pe_xp {K : PySem.W.Frag} (hK : X.K = K) {te : TE} {n : Str} (hp : (a, oe) ∈ X.pn) (hz : Zc cls d oe) (hf : ∃ vs : Array Value, oe.data = .fields vs) (he : PE X e te) (hb : attributeBase e n X.env (eval e X.env) = eval e X.env := by rfl) :
    PE X (.Attribute e n pos) (tXp K a cls d n te) := by
  subst hK
  refine ⟨fun pins s σ H Q I h => ?_⟩
  refine attr_of hb (thn (he.run pins s σ H _ I h) fun u s1 hh => ?_)
  obtain ⟨x, H1, I1, rx, ex, C, dd, fs, v, ec, T, hno, ed, ea, l, q⟩ := hh
  subst ex
  obtain rfl : u = Value.ref a := rx
  subst ec
  subst ed
  obtain ⟨ha, _⟩ := I1.pin (a, oe) (List.mem_append_left _ hp)
  obtain ⟨vs, hd⟩ := hf
  have hx : ObjOk X.prog X.w H1 s1.heap dd (.xd fs) := I1.hok dd _ ea
  obtain ⟨mA, hns, hr⟩ := hx
  obtain ⟨od, ho, hl⟩ := lookIn_ns hns
  obtain ⟨u, hu, ru⟩ := RelO.some_of (v := v) (o := mA n) (by rw [← l]; exact hr n)
  have J : PySem.W.InstAt s1.heap a oe C (some od) := ⟨ha, hz.1, by unfold PySem.W.notCls; rw [hd] <;> rfl, by rw [hz.2]; exact ho⟩
  exact HandSPX.exc_get I1.kIn J T.ga T.gg T.exC (PySem.W.findObj_own T.hdC hno rfl (by rw [hl, hu])) (handed_of ru) ⟨v, H1, I1.tok _, ru, q⟩
end
end MyG
namespace MyG
open PySem PySem.Spec PyProof.Rows L2 L2H Evl
/-! ### o.m(e, ..) in a try's body: errors go by the slots as they stand -/
section
variable {X : Cx} {CX : CXT} {k : Nat} {f C : Addr} {fd : FuncData} {ps : List Str} {sp : Sp} {E : L2.St → XK} {m : Str} {pos apos : Pos} {e o : Expr} {es : List Expr} {ta : TE} {t : TA}
def tMethT (C : Addr) (m : Str) (sp : Sp) (E : L2.St → XK) (ta : TE) (t : TA) : TE := fun σ H Q => ta σ H fun x H1 => ∃ a dx fs, x = .ref a ∧ H1 a = some (.ins C dx fs) ∧ fs.lookup m = none ∧
  t σ H1 fun vs H2 => sp (x :: vs) H2 Q (E σ)
theorem pe_methT {pl : Sem Bool} (he : PE X o ta) (c : Cls X.K C) (hm : Meth X.K C m f) (F : FnOk X.prog X.w X.K X.mg X.base CX k f fd ps sp) (hr : Room k X.A) (hb : Binds X.K fd ps []) (hx : ∀ σ, PassesAt CX X σ (E σ)) (ha : PA X (e :: es) t)
    (hst : starEach (e :: es) X.env = (false, eval e X.env) :: starEach es X.env := by rfl) (hpl : (backTo pos (starEach es X.env)).any (·.1) = false := by rfl)
    (ht : eval (.Call (.Attribute o m apos) (e :: es) [] pos) X.env = (do
      let ov ← eval o X.env
      standAt apos.atName
      let (f, first) ← holding [ov] (getMethod ov m pl)
      callWith pos f first (backTo pos (starEach (e :: es) X.env)) (backToKw pos (keywordEach [] X.env))) := by rfl) :
    PE X (.Call (.Attribute o m apos) (e :: es) [] pos) (tMethT C m sp E ta t) := by
  refine ⟨fun pins s σ H Q I h => ?_⟩
  refine PySem.W.methodCall_KW (pl := pl) (thn (he.run pins s σ H _ I h) fun u s1 ⟨x, H1, I1, rx, a, dx, fs, ex, ea, l, q⟩ => ?_) ht
  subst ex
  obtain rfl : u = Value.ref a := rx
  refine getmeth_ok I1 ea c hm l ?_
  refine PySem.W.callWith_K (first := [.ref a]) (h₀ := X.base) I.ok.mod.kin hm.kp (thn (ha.run pos pins s1 σ H1 _ I1 q) fun us s2 ⟨vs, H2, I2, r, q2⟩ => ⟨I2.kIn, ?_⟩) hst hpl
  exact run_fnS (us := .ref a :: us) (vs := .ref a :: vs) F hr hb (hx σ) I2 (.cons rfl r) q2
end
end MyG

set_option maxHeartbeats 2000000
namespace K24
open PySem PySem.Spec PyProof.Rows L2 Evl MyG
/-! ### the text by places -/
def top (i : Nat) : Stmt := PySem.Challenge.pw_ringless_k24_refused_steps.main.body.getD i (.Pass ⟨0, 0, 0, 0⟩)
abbrev s_l_begin : Stmt := (top 28)
abbrev n_l_begin : List Str := ["_law_script", "_law_cells", "_law_cell"]
theorem sc_l_begin : FnScope ["_law_script", "_law_cells", "_law_cell"] ["_law_script"] (defScope s_l_begin) := ⟨rfl, rfl, rfl, by decide +kernel, rfl, by decide +kernel, by decide +kernel⟩
abbrev s_l_draw : Stmt := (top 29)
abbrev n_l_draw : List Str := ["_law_state", "_law_many", "_law_cells", "_law_at", "_law_cell"]
theorem sc_l_draw : FnScope ["_law_state", "_law_many", "_law_cells", "_law_at", "_law_cell"] ["_law_state", "_law_many"] (defScope s_l_draw) := ⟨rfl, rfl, rfl, by decide +kernel, rfl, by decide +kernel, by decide +kernel⟩
abbrev s_l_pick : Stmt := (top 30)
abbrev n_l_pick : List Str := ["_law_state", "_law_some"]
theorem sc_l_pick : FnScope ["_law_state", "_law_some"] ["_law_state", "_law_some"] (defScope s_l_pick) := ⟨rfl, rfl, rfl, by decide +kernel, rfl, by decide +kernel, by decide +kernel⟩
abbrev s_l_fresh : Stmt := (top 31)
abbrev n_l_fresh : List Str := []
theorem sc_l_fresh : FnScope [] [] (defScope s_l_fresh) := ⟨rfl, rfl, rfl, by decide +kernel, rfl, by decide +kernel, by decide +kernel⟩
abbrev s_l_hall : Stmt := (top 32)
abbrev n_l_hall : List Str := ["_law_own", "_law_gates", "_law_off", "_law_bound", "_law_kind", "_law_known", "_law_link", "_law_model"]
theorem sc_l_hall : FnScope ["_law_own", "_law_gates", "_law_off", "_law_bound", "_law_kind", "_law_known", "_law_link", "_law_model"] ["_law_own", "_law_gates", "_law_off", "_law_bound", "_law_kind"] (defScope s_l_hall) := ⟨rfl, rfl, rfl, by decide +kernel, rfl, by decide +kernel, by decide +kernel⟩
abbrev s_l_reckon : Stmt := (top 33)
abbrev n_l_reckon : List Str := ["_law_model", "_law_best", "_law_way", "_law_link", "_law_door", "_law_number", "_law_root", "_law_far", "_law_one"]
theorem sc_l_reckon : FnScope ["_law_model", "_law_best", "_law_way", "_law_link", "_law_door", "_law_number", "_law_root", "_law_far", "_law_one"] ["_law_model"] (defScope s_l_reckon) := ⟨rfl, rfl, rfl, by decide +kernel, rfl, by decide +kernel, by decide +kernel⟩
abbrev s_l_role : Stmt := (top 34)
abbrev n_l_role : List Str := ["_law_model", "_law_link", "_law_door", "_law_own"]
theorem sc_l_role : FnScope ["_law_model", "_law_link", "_law_door", "_law_own"] ["_law_model", "_law_link"] (defScope s_l_role) := ⟨rfl, rfl, rfl, by decide +kernel, rfl, by decide +kernel, by decide +kernel⟩
abbrev s_l_stepped : Stmt := (top 35)
abbrev n_l_stepped : List Str := ["_law_model", "_law_elder", "_law_place", "_law_worse", "_law_posts", "_law_link", "_law_door", "_law_role_here", "_law_turned", "_law_agrees"]
theorem sc_l_stepped : FnScope ["_law_model", "_law_elder", "_law_place", "_law_worse", "_law_posts", "_law_link", "_law_door", "_law_role_here", "_law_turned", "_law_agrees"] ["_law_model"] (defScope s_l_stepped) := ⟨rfl, rfl, rfl, by decide +kernel, rfl, by decide +kernel, by decide +kernel⟩
abbrev s_l_open : Stmt := (top 36)
abbrev n_l_open : List Str := ["_law_model", "_law_link", "_law_door"]
theorem sc_l_open : FnScope ["_law_model", "_law_link", "_law_door"] ["_law_model", "_law_link"] (defScope s_l_open) := ⟨rfl, rfl, rfl, by decide +kernel, rfl, by decide +kernel, by decide +kernel⟩
abbrev s_l_taken : Stmt := (top 37)
abbrev n_l_taken : List Str := ["_law_model", "_law_link", "_law_told_here", "_law_door"]
theorem sc_l_taken : FnScope ["_law_model", "_law_link", "_law_told_here", "_law_door"] ["_law_model", "_law_link", "_law_told_here"] (defScope s_l_taken) := ⟨rfl, rfl, rfl, by decide +kernel, rfl, by decide +kernel, by decide +kernel⟩
abbrev s_l_cut : Stmt := (top 38)
abbrev n_l_cut : List Str := ["_law_model", "_law_link"]
theorem sc_l_cut : FnScope ["_law_model", "_law_link"] ["_law_model", "_law_link"] (defScope s_l_cut) := ⟨rfl, rfl, rfl, by decide +kernel, rfl, by decide +kernel, by decide +kernel⟩
abbrev s_l_mended : Stmt := (top 39)
abbrev n_l_mended : List Str := ["_law_model", "_law_link"]
theorem sc_l_mended : FnScope ["_law_model", "_law_link"] ["_law_model", "_law_link"] (defScope s_l_mended) := ⟨rfl, rfl, rfl, by decide +kernel, rfl, by decide +kernel, by decide +kernel⟩
abbrev s_l_told : Stmt := (top 40)
abbrev n_l_told : List Str := ["_law_posts", "_law_one", "_law_link", "_law_letter_here"]
theorem sc_l_told : FnScope ["_law_posts", "_law_one", "_law_link", "_law_letter_here"] ["_law_posts"] (defScope s_l_told) := ⟨rfl, rfl, rfl, by decide +kernel, rfl, by decide +kernel, by decide +kernel⟩
abbrev s_l_looks : Stmt := (top 41)
abbrev n_l_looks : List Str := ["_law_one", "_law_model", "_law_link", "_law_door", "_law_heard", "_law_wide"]
theorem sc_l_looks : FnScope ["_law_one", "_law_model", "_law_link", "_law_door", "_law_heard", "_law_wide"] ["_law_one", "_law_model"] (defScope s_l_looks) := ⟨rfl, rfl, rfl, by decide +kernel, rfl, by decide +kernel, by decide +kernel⟩
abbrev s_l_letter : Stmt := (top 42)
abbrev n_l_letter : List Str := ["_law_told_here"]
theorem sc_l_letter : FnScope ["_law_told_here"] ["_law_told_here"] (defScope s_l_letter) := ⟨rfl, rfl, rfl, by decide +kernel, rfl, by decide +kernel, by decide +kernel⟩
abbrev s_l_doors : Stmt := (top 43)
abbrev n_l_doors : List Str := ["_law_state", "_law_own", "_law_many", "_law_some", "_law_links", "_law_gates", "_law_link", "_law_other", "_law_k"]
theorem sc_l_doors : FnScope ["_law_state", "_law_own", "_law_many", "_law_some", "_law_links", "_law_gates", "_law_link", "_law_other", "_law_k"] ["_law_state", "_law_own", "_law_many"] (defScope s_l_doors) := ⟨rfl, rfl, rfl, by decide +kernel, rfl, by decide +kernel, by decide +kernel⟩
abbrev s_l_say : Stmt := (top 44)
abbrev n_l_say : List Str := ["_law_state", "_law_model", "_law_sent", "_law_link", "_law_door", "_law_root", "_law_far", "_law_way"]
theorem sc_l_say : FnScope ["_law_state", "_law_model", "_law_sent", "_law_link", "_law_door", "_law_root", "_law_far", "_law_way"] ["_law_state", "_law_model", "_law_sent", "_law_link"] (defScope s_l_say) := ⟨rfl, rfl, rfl, by decide +kernel, rfl, by decide +kernel, by decide +kernel⟩
abbrev s_l_agree : Stmt := (top 45)
abbrev n_l_agree : List Str := ["_law_state", "_law_model", "_law_link", "_law_door", "_law_some"]
theorem sc_l_agree : FnScope ["_law_state", "_law_model", "_law_link", "_law_door", "_law_some"] ["_law_state", "_law_model", "_law_link"] (defScope s_l_agree) := ⟨rfl, rfl, rfl, by decide +kernel, rfl, by decide +kernel, by decide +kernel⟩
abbrev s_l_deed : Stmt := (top 46)
abbrev n_l_deed : List Str := ["_law_state", "_law_model", "_law_sent", "_law_link", "_law_running", "_law_away", "_law_way", "_law_door"]
theorem sc_l_deed : FnScope ["_law_state", "_law_model", "_law_sent", "_law_link", "_law_running", "_law_away", "_law_way", "_law_door"] ["_law_state", "_law_model", "_law_sent"] (defScope s_l_deed) := ⟨rfl, rfl, rfl, by decide +kernel, rfl, by decide +kernel, by decide +kernel⟩
abbrev s_l_done : Stmt := (top 47)
abbrev n_l_done : List Str := ["_law_one", "_law_model", "_law_deed_here", "_law_sent", "_law_word_here", "_law_link", "_law_told_here"]
theorem sc_l_done : FnScope ["_law_one", "_law_model", "_law_deed_here", "_law_sent", "_law_word_here", "_law_link", "_law_told_here"] ["_law_one", "_law_model", "_law_deed_here", "_law_sent"] (defScope s_l_done) := ⟨rfl, rfl, rfl, by decide +kernel, rfl, by decide +kernel, by decide +kernel⟩
abbrev s_l_word : Stmt := (top 48)
abbrev n_l_word : List Str := ["_law_e", "_law_words"]
theorem sc_l_word : FnScope ["_law_e", "_law_words"] ["_law_e"] (defScope s_l_word) := ⟨rfl, rfl, rfl, by decide +kernel, rfl, by decide +kernel, by decide +kernel⟩
abbrev s_l_refused : Stmt := (top 49)
abbrev n_l_refused : List Str := ["_law_one", "_law_word_here", "_law_link", "_law_letter_here", "_law_found", "_law_e"]
theorem sc_l_refused : FnScope ["_law_one", "_law_word_here", "_law_link", "_law_letter_here", "_law_found", "_law_e"] ["_law_one", "_law_word_here", "_law_link", "_law_letter_here"] (defScope s_l_refused) := ⟨rfl, rfl, rfl, by decide +kernel, rfl, by decide +kernel, by decide +kernel⟩
abbrev s_l_odd : Stmt := (top 50)
abbrev n_l_odd : List Str := ["_law_state", "_law_model", "_law_link", "_law_strange", "_law_running", "_law_away", "_law_way", "_law_door"]
theorem sc_l_odd : FnScope ["_law_state", "_law_model", "_law_link", "_law_strange", "_law_running", "_law_away", "_law_way", "_law_door"] ["_law_state", "_law_model"] (defScope s_l_odd) := ⟨rfl, rfl, rfl, by decide +kernel, rfl, by decide +kernel, by decide +kernel⟩
abbrev s_kept : Stmt := (top 3)
abbrev n_kept : List Str := ["thing", "deep", "part", "key"]
theorem sc_kept : FnScope ["thing", "deep", "part", "key"] ["thing", "deep"] (defScope s_kept) := ⟨rfl, rfl, rfl, by decide +kernel, rfl, by decide +kernel, by decide +kernel⟩
abbrev s_is_number : Stmt := (top 10)
abbrev n_is_number : List Str := ["thing"]
theorem sc_is_number : FnScope ["thing"] ["thing"] (defScope s_is_number) := ⟨rfl, rfl, rfl, by decide +kernel, rfl, by decide +kernel, by decide +kernel⟩
abbrev s_least : Stmt := (top 13)
abbrev n_least : List Str := ["hall", "rows", "most", "near", "root", "far", "_", "link", "row"]
theorem sc_least : FnScope ["hall", "rows", "most", "near", "root", "far", "_", "link", "row"] ["hall", "rows", "most"] (defScope s_least) := ⟨rfl, rfl, rfl, by decide +kernel, rfl, by decide +kernel, by decide +kernel⟩
abbrev s_check_rule : Stmt := (top 21)
abbrev n_check_rule : List Str := ["rule"]
theorem sc_check_rule : FnScope ["rule"] ["rule"] (defScope s_check_rule) := ⟨rfl, rfl, rfl, by decide +kernel, rfl, by decide +kernel, by decide +kernel⟩
abbrev s_Door___init__ : Stmt := (inClass (top 25) 0)
abbrev n_Door___init__ : List Str := ["self", "beyond", "cost"]
theorem sc_Door___init__ : FnScope ["self", "beyond", "cost"] ["self", "beyond", "cost"] (defScope s_Door___init__) := ⟨rfl, rfl, rfl, by decide +kernel, rfl, by decide +kernel, by decide +kernel⟩
abbrev s_Hall___init__ : Stmt := (inClass (top 26) 0)
abbrev n_Hall___init__ : List Str := ["self", "hall", "doors", "cut", "most", "rule", "link", "beyond", "cost"]
theorem sc_Hall___init__ : FnScope ["self", "hall", "doors", "cut", "most", "rule", "link", "beyond", "cost"] ["self", "hall", "doors", "cut", "most", "rule"] (defScope s_Hall___init__) := ⟨rfl, rfl, rfl, by decide +kernel, rfl, by decide +kernel, by decide +kernel⟩
abbrev s_Hall_take : Stmt := (inClass (top 26) 1)
abbrev n_Hall_take : List Str := ["self", "link", "letter", "door"]
theorem sc_Hall_take : FnScope ["self", "link", "letter", "door"] ["self", "link", "letter"] (defScope s_Hall_take) := ⟨rfl, rfl, rfl, by decide +kernel, rfl, by decide +kernel, by decide +kernel⟩
abbrev s_Hall_cut : Stmt := (inClass (top 26) 2)
abbrev n_Hall_cut : List Str := ["self", "link"]
theorem sc_Hall_cut : FnScope ["self", "link"] ["self", "link"] (defScope s_Hall_cut) := ⟨rfl, rfl, rfl, by decide +kernel, rfl, by decide +kernel, by decide +kernel⟩
abbrev s_Hall_mend : Stmt := (inClass (top 26) 3)
abbrev n_Hall_mend : List Str := ["self", "link", "beyond", "cost"]
theorem sc_Hall_mend : FnScope ["self", "link", "beyond", "cost"] ["self", "link"] (defScope s_Hall_mend) := ⟨rfl, rfl, rfl, by decide +kernel, rfl, by decide +kernel, by decide +kernel⟩
abbrev s_Hall_posted : Stmt := (inClass (top 26) 4)
abbrev n_Hall_posted : List Str := ["self"]
theorem sc_Hall_posted : FnScope ["self"] ["self"] (defScope s_Hall_posted) := ⟨rfl, rfl, rfl, by decide +kernel, rfl, by decide +kernel, by decide +kernel⟩
abbrev s_Hall_standing : Stmt := (inClass (top 26) 5)
abbrev n_Hall_standing : List Str := ["self"]
theorem sc_Hall_standing : FnScope ["self"] ["self"] (defScope s_Hall_standing) := ⟨rfl, rfl, rfl, by decide +kernel, rfl, by decide +kernel, by decide +kernel⟩
abbrev s_Hall_root_link : Stmt := (inClass (top 26) 6)
abbrev n_Hall_root_link : List Str := ["self"]
theorem sc_Hall_root_link : FnScope ["self"] ["self"] (defScope s_Hall_root_link) := ⟨rfl, rfl, rfl, by decide +kernel, rfl, by decide +kernel, by decide +kernel⟩
abbrev s_Hall_role : Stmt := (inClass (top 26) 7)
abbrev n_Hall_role : List Str := ["self", "link", "door"]
theorem sc_Hall_role : FnScope ["self", "link", "door"] ["self", "link"] (defScope s_Hall_role) := ⟨rfl, rfl, rfl, by decide +kernel, rfl, by decide +kernel, by decide +kernel⟩
abbrev s_Hall_is_open : Stmt := (inClass (top 26) 8)
abbrev n_Hall_is_open : List Str := ["self", "link", "door"]
theorem sc_Hall_is_open : FnScope ["self", "link", "door"] ["self", "link"] (defScope s_Hall_is_open) := ⟨rfl, rfl, rfl, by decide +kernel, rfl, by decide +kernel, by decide +kernel⟩
abbrev s_Hall_heard : Stmt := (inClass (top 26) 9)
abbrev n_Hall_heard : List Str := ["self", "link", "door"]
theorem sc_Hall_heard : FnScope ["self", "link", "door"] ["self", "link"] (defScope s_Hall_heard) := ⟨rfl, rfl, rfl, by decide +kernel, rfl, by decide +kernel, by decide +kernel⟩
abbrev s_Hall__door : Stmt := (inClass (top 26) 15)
abbrev n_Hall__door : List Str := ["self", "link"]
theorem sc_Hall__door : FnScope ["self", "link"] ["self", "link"] (defScope s_Hall__door) := ⟨rfl, rfl, rfl, by decide +kernel, rfl, by decide +kernel, by decide +kernel⟩
abbrev s_Hall__running : Stmt := (inClass (top 26) 16)
abbrev n_Hall__running : List Str := ["self", "link", "door"]
theorem sc_Hall__running : FnScope ["self", "link", "door"] ["self", "link"] (defScope s_Hall__running) := ⟨rfl, rfl, rfl, by decide +kernel, rfl, by decide +kernel, by decide +kernel⟩
abbrev s_Hall__step : Stmt := (inClass (top 26) 17)
abbrev n_Hall__step : List Str := ["self", "link", "door", "running", "rows", "root", "far", "ahead", "posts", "letter"]
theorem sc_Hall__step : FnScope ["self", "link", "door", "running", "rows", "root", "far", "ahead", "posts", "letter"] ["self"] (defScope s_Hall__step) := ⟨rfl, rfl, rfl, by decide +kernel, rfl, by decide +kernel, by decide +kernel⟩
abbrev s_Hall__write : Stmt := (inClass (top 26) 18)
abbrev n_Hall__write : List Str := ["self", "link", "door", "ahead", "led", "anew", "letters"]
theorem sc_Hall__write : FnScope ["self", "link", "door", "ahead", "led", "anew", "letters"] ["self", "link", "door", "ahead"] (defScope s_Hall__write) := ⟨rfl, rfl, rfl, by decide +kernel, rfl, by decide +kernel, by decide +kernel⟩
abbrev s_Hall__turn : Stmt := (inClass (top 26) 19)
abbrev n_Hall__turn : List Str := ["self", "link", "door", "heard"]
theorem sc_Hall__turn : FnScope ["self", "link", "door", "heard"] ["self", "link", "door"] (defScope s_Hall__turn) := ⟨rfl, rfl, rfl, by decide +kernel, rfl, by decide +kernel, by decide +kernel⟩
abbrev s_Say___init__ : Stmt := (inClass (top 16) 0)
abbrev n_Say___init__ : List Str := ["self", "number", "root", "far"]
theorem sc_Say___init__ : FnScope ["self", "number", "root", "far"] ["self", "number", "root", "far"] (defScope s_Say___init__) := ⟨rfl, rfl, rfl, by decide +kernel, rfl, by decide +kernel, by decide +kernel⟩
abbrev s_Say___eq__ : Stmt := (inClass (top 16) 1)
abbrev n_Say___eq__ : List Str := ["self", "other"]
theorem sc_Say___eq__ : FnScope ["self", "other"] ["self", "other"] (defScope s_Say___eq__) := ⟨rfl, rfl, rfl, by decide +kernel, rfl, by decide +kernel, by decide +kernel⟩
abbrev s_Say_told : Stmt := (inClass (top 16) 2)
abbrev n_Say_told : List Str := ["self"]
theorem sc_Say_told : FnScope ["self"] ["self"] (defScope s_Say_told) := ⟨rfl, rfl, rfl, by decide +kernel, rfl, by decide +kernel, by decide +kernel⟩
abbrev s_Agree___init__ : Stmt := (inClass (top 17) 0)
abbrev n_Agree___init__ : List Str := ["self", "number"]
theorem sc_Agree___init__ : FnScope ["self", "number"] ["self", "number"] (defScope s_Agree___init__) := ⟨rfl, rfl, rfl, by decide +kernel, rfl, by decide +kernel, by decide +kernel⟩
abbrev s_Agree___eq__ : Stmt := (inClass (top 17) 1)
abbrev n_Agree___eq__ : List Str := ["self", "other"]
theorem sc_Agree___eq__ : FnScope ["self", "other"] ["self", "other"] (defScope s_Agree___eq__) := ⟨rfl, rfl, rfl, by decide +kernel, rfl, by decide +kernel, by decide +kernel⟩
abbrev s_Agree_told : Stmt := (inClass (top 17) 2)
abbrev n_Agree_told : List Str := ["self"]
theorem sc_Agree_told : FnScope ["self"] ["self"] (defScope s_Agree_told) := ⟨rfl, rfl, rfl, by decide +kernel, rfl, by decide +kernel, by decide +kernel⟩
abbrev s_law : Stmt := (top 51)
abbrev n_law : List Str := ["_law_script", "_law_state", "_law_own", "_law_gates", "_law_link", "_law_off", "_law_model", "_law_one", "_law_sent", "_law_turn", "_law_word_here", "_law_wanted", "_law_letter_here", "_law_told_here", "_law_posts"]
theorem sc_law : FnScope ["_law_script", "_law_state", "_law_own", "_law_gates", "_law_link", "_law_off", "_law_model", "_law_one", "_law_sent", "_law_turn", "_law_word_here", "_law_wanted", "_law_letter_here", "_law_told_here", "_law_posts"] ["_law_script"] (defScope s_law) := ⟨rfl, rfl, rfl, by decide +kernel, rfl, by decide +kernel, by decide +kernel⟩
structure Tx (K : PySem.W.Frag) (mg : Str → Option Value) where
  c_Letter : Addr
  g_Letter : mg "Letter" = some (.ref c_Letter)
  cl_Letter : Cls K c_Letter
  c_Say : Addr
  g_Say : mg "Say" = some (.ref c_Say)
  cl_Say : Cls K c_Say
  c_Agree : Addr
  g_Agree : mg "Agree" = some (.ref c_Agree)
  cl_Agree : Cls K c_Agree
  c_Door : Addr
  g_Door : mg "Door" = some (.ref c_Door)
  cl_Door : Cls K c_Door
  c_Hall : Addr
  g_Hall : mg "Hall" = some (.ref c_Hall)
  cl_Hall : Cls K c_Hall
  c_RingError : Addr
  g_RingError : mg "RingError" = some (.ref c_RingError)
  c_NoLink : Addr
  g_NoLink : mg "NoLink" = some (.ref c_NoLink)
  c_Cut : Addr
  g_Cut : mg "Cut" = some (.ref c_Cut)
  c_Runs : Addr
  g_Runs : mg "Runs" = some (.ref c_Runs)
  a_l_begin : Addr
  d_l_begin : FuncData
  F_l_begin : Fun K "_law_begin" "_law_begin" s_l_begin a_l_begin d_l_begin
  b_l_begin : Binds K d_l_begin ["_law_script"] []
  g_l_begin : mg "_law_begin" = some (.ref a_l_begin)
  a_l_draw : Addr
  d_l_draw : FuncData
  F_l_draw : Fun K "_law_draw" "_law_draw" s_l_draw a_l_draw d_l_draw
  b_l_draw : Binds K d_l_draw ["_law_state", "_law_many"] []
  g_l_draw : mg "_law_draw" = some (.ref a_l_draw)
  a_l_pick : Addr
  d_l_pick : FuncData
  F_l_pick : Fun K "_law_pick" "_law_pick" s_l_pick a_l_pick d_l_pick
  b_l_pick : Binds K d_l_pick ["_law_state", "_law_some"] []
  g_l_pick : mg "_law_pick" = some (.ref a_l_pick)
  a_l_fresh : Addr
  d_l_fresh : FuncData
  F_l_fresh : Fun K "_law_fresh" "_law_fresh" s_l_fresh a_l_fresh d_l_fresh
  b_l_fresh : Binds K d_l_fresh [] []
  g_l_fresh : mg "_law_fresh" = some (.ref a_l_fresh)
  a_l_hall : Addr
  d_l_hall : FuncData
  F_l_hall : Fun K "_law_hall" "_law_hall" s_l_hall a_l_hall d_l_hall
  b_l_hall : Binds K d_l_hall ["_law_own", "_law_gates", "_law_off", "_law_bound", "_law_kind"] []
  g_l_hall : mg "_law_hall" = some (.ref a_l_hall)
  a_l_reckon : Addr
  d_l_reckon : FuncData
  F_l_reckon : Fun K "_law_reckon" "_law_reckon" s_l_reckon a_l_reckon d_l_reckon
  b_l_reckon : Binds K d_l_reckon ["_law_model"] []
  g_l_reckon : mg "_law_reckon" = some (.ref a_l_reckon)
  a_l_role : Addr
  d_l_role : FuncData
  F_l_role : Fun K "_law_role" "_law_role" s_l_role a_l_role d_l_role
  b_l_role : Binds K d_l_role ["_law_model", "_law_link"] []
  g_l_role : mg "_law_role" = some (.ref a_l_role)
  a_l_stepped : Addr
  d_l_stepped : FuncData
  F_l_stepped : Fun K "_law_stepped" "_law_stepped" s_l_stepped a_l_stepped d_l_stepped
  b_l_stepped : Binds K d_l_stepped ["_law_model"] []
  g_l_stepped : mg "_law_stepped" = some (.ref a_l_stepped)
  a_l_open : Addr
  d_l_open : FuncData
  F_l_open : Fun K "_law_open" "_law_open" s_l_open a_l_open d_l_open
  b_l_open : Binds K d_l_open ["_law_model", "_law_link"] []
  g_l_open : mg "_law_open" = some (.ref a_l_open)
  a_l_taken : Addr
  d_l_taken : FuncData
  F_l_taken : Fun K "_law_taken" "_law_taken" s_l_taken a_l_taken d_l_taken
  b_l_taken : Binds K d_l_taken ["_law_model", "_law_link", "_law_told_here"] []
  g_l_taken : mg "_law_taken" = some (.ref a_l_taken)
  a_l_cut : Addr
  d_l_cut : FuncData
  F_l_cut : Fun K "_law_cut" "_law_cut" s_l_cut a_l_cut d_l_cut
  b_l_cut : Binds K d_l_cut ["_law_model", "_law_link"] []
  g_l_cut : mg "_law_cut" = some (.ref a_l_cut)
  a_l_mended : Addr
  d_l_mended : FuncData
  F_l_mended : Fun K "_law_mended" "_law_mended" s_l_mended a_l_mended d_l_mended
  b_l_mended : Binds K d_l_mended ["_law_model", "_law_link"] []
  g_l_mended : mg "_law_mended" = some (.ref a_l_mended)
  a_l_told : Addr
  d_l_told : FuncData
  F_l_told : Fun K "_law_told" "_law_told" s_l_told a_l_told d_l_told
  b_l_told : Binds K d_l_told ["_law_posts"] []
  g_l_told : mg "_law_told" = some (.ref a_l_told)
  a_l_looks : Addr
  d_l_looks : FuncData
  F_l_looks : Fun K "_law_looks" "_law_looks" s_l_looks a_l_looks d_l_looks
  b_l_looks : Binds K d_l_looks ["_law_one", "_law_model"] []
  g_l_looks : mg "_law_looks" = some (.ref a_l_looks)
  a_l_letter : Addr
  d_l_letter : FuncData
  F_l_letter : Fun K "_law_letter" "_law_letter" s_l_letter a_l_letter d_l_letter
  b_l_letter : Binds K d_l_letter ["_law_told_here"] []
  g_l_letter : mg "_law_letter" = some (.ref a_l_letter)
  a_l_doors : Addr
  d_l_doors : FuncData
  F_l_doors : Fun K "_law_doors" "_law_doors" s_l_doors a_l_doors d_l_doors
  b_l_doors : Binds K d_l_doors ["_law_state", "_law_own", "_law_many"] []
  g_l_doors : mg "_law_doors" = some (.ref a_l_doors)
  a_l_say : Addr
  d_l_say : FuncData
  F_l_say : Fun K "_law_say" "_law_say" s_l_say a_l_say d_l_say
  b_l_say : Binds K d_l_say ["_law_state", "_law_model", "_law_sent", "_law_link"] []
  g_l_say : mg "_law_say" = some (.ref a_l_say)
  a_l_agree : Addr
  d_l_agree : FuncData
  F_l_agree : Fun K "_law_agree" "_law_agree" s_l_agree a_l_agree d_l_agree
  b_l_agree : Binds K d_l_agree ["_law_state", "_law_model", "_law_link"] []
  g_l_agree : mg "_law_agree" = some (.ref a_l_agree)
  a_l_deed : Addr
  d_l_deed : FuncData
  F_l_deed : Fun K "_law_deed" "_law_deed" s_l_deed a_l_deed d_l_deed
  b_l_deed : Binds K d_l_deed ["_law_state", "_law_model", "_law_sent"] []
  g_l_deed : mg "_law_deed" = some (.ref a_l_deed)
  a_l_done : Addr
  d_l_done : FuncData
  F_l_done : Fun K "_law_done" "_law_done" s_l_done a_l_done d_l_done
  b_l_done : Binds K d_l_done ["_law_one", "_law_model", "_law_deed_here", "_law_sent"] []
  g_l_done : mg "_law_done" = some (.ref a_l_done)
  a_l_word : Addr
  d_l_word : FuncData
  F_l_word : Fun K "_law_word" "_law_word" s_l_word a_l_word d_l_word
  b_l_word : Binds K d_l_word ["_law_e"] []
  g_l_word : mg "_law_word" = some (.ref a_l_word)
  a_l_refused : Addr
  d_l_refused : FuncData
  F_l_refused : Fun K "_law_refused" "_law_refused" s_l_refused a_l_refused d_l_refused
  b_l_refused : Binds K d_l_refused ["_law_one", "_law_word_here", "_law_link", "_law_letter_here"] []
  g_l_refused : mg "_law_refused" = some (.ref a_l_refused)
  a_l_odd : Addr
  d_l_odd : FuncData
  F_l_odd : Fun K "_law_odd" "_law_odd" s_l_odd a_l_odd d_l_odd
  b_l_odd : Binds K d_l_odd ["_law_state", "_law_model"] []
  g_l_odd : mg "_law_odd" = some (.ref a_l_odd)
  a_kept : Addr
  d_kept : FuncData
  F_kept : FunD K "kept" "kept" (defArgs s_kept) (defBody s_kept) (defScope s_kept) [V.int 100] [] a_kept d_kept
  b_kept : Binds K d_kept ["thing", "deep"] []
  ds_kept : List Value
  dv_kept : Vals [V.int 100] ds_kept
  b1_kept : Binds K d_kept ["thing", "deep"] ds_kept
  g_kept : mg "kept" = some (.ref a_kept)
  a_is_number : Addr
  d_is_number : FuncData
  F_is_number : Fun K "is_number" "is_number" s_is_number a_is_number d_is_number
  b_is_number : Binds K d_is_number ["thing"] []
  g_is_number : mg "is_number" = some (.ref a_is_number)
  a_least : Addr
  d_least : FuncData
  F_least : Fun K "least" "least" s_least a_least d_least
  b_least : Binds K d_least ["hall", "rows", "most"] []
  g_least : mg "least" = some (.ref a_least)
  a_check_rule : Addr
  d_check_rule : FuncData
  F_check_rule : Fun K "check_rule" "check_rule" s_check_rule a_check_rule d_check_rule
  b_check_rule : Binds K d_check_rule ["rule"] []
  g_check_rule : mg "check_rule" = some (.ref a_check_rule)
  a_Door___init__ : Addr
  d_Door___init__ : FuncData
  F_Door___init__ : Fun K "__init__" "Door.__init__" s_Door___init__ a_Door___init__ d_Door___init__
  b_Door___init__ : Binds K d_Door___init__ ["self", "beyond", "cost"] []
  m_Door : Mk K c_Door a_Door___init__
  dE_Hall___init___cut : Addr
  dS_Hall___init___cut : ∀ H, SqT K H dE_Hall___init___cut []
  a_Hall___init__ : Addr
  d_Hall___init__ : FuncData
  F_Hall___init__ : FunD K "__init__" "Hall.__init__" (defArgs s_Hall___init__) (defBody s_Hall___init__) (defScope s_Hall___init__) [] [("cut", .ref dE_Hall___init___cut), ("most", .int 360), ("rule", .str "right")] a_Hall___init__ d_Hall___init__
  m_Hall : Mk K c_Hall a_Hall___init__
  kv_Hall___init___2_cut : List Value
  kb_Hall___init___2_cut : KBn K d_Hall___init__ ["self", "hall", "doors", "cut", "most", "rule"] 3 ["cut"] (fun us ws => kg [(0, 0), (0, 1), (0, 2), (2, 0), (1, 0), (1, 1)] us kv_Hall___init___2_cut ws) (fun us ws => kg [(0, 0), (0, 1), (0, 2), (2, 0), (1, 0), (1, 1)] us [(.int 360 : V), (.str "right" : V)] ws)
  a_Hall_take : Addr
  d_Hall_take : FuncData
  F_Hall_take : Fun K "take" "Hall.take" s_Hall_take a_Hall_take d_Hall_take
  b_Hall_take : Binds K d_Hall_take ["self", "link", "letter"] []
  me_Hall_take : Meth K c_Hall "take" a_Hall_take
  a_Hall_cut : Addr
  d_Hall_cut : FuncData
  F_Hall_cut : Fun K "cut" "Hall.cut" s_Hall_cut a_Hall_cut d_Hall_cut
  b_Hall_cut : Binds K d_Hall_cut ["self", "link"] []
  me_Hall_cut : Meth K c_Hall "cut" a_Hall_cut
  a_Hall_mend : Addr
  d_Hall_mend : FuncData
  F_Hall_mend : Fun K "mend" "Hall.mend" s_Hall_mend a_Hall_mend d_Hall_mend
  b_Hall_mend : Binds K d_Hall_mend ["self", "link"] []
  me_Hall_mend : Meth K c_Hall "mend" a_Hall_mend
  a_Hall_posted : Addr
  d_Hall_posted : FuncData
  F_Hall_posted : Fun K "posted" "Hall.posted" s_Hall_posted a_Hall_posted d_Hall_posted
  b_Hall_posted : Binds K d_Hall_posted ["self"] []
  me_Hall_posted : Meth K c_Hall "posted" a_Hall_posted
  a_Hall_standing : Addr
  d_Hall_standing : FuncData
  F_Hall_standing : Fun K "standing" "Hall.standing" s_Hall_standing a_Hall_standing d_Hall_standing
  b_Hall_standing : Binds K d_Hall_standing ["self"] []
  me_Hall_standing : Meth K c_Hall "standing" a_Hall_standing
  a_Hall_root_link : Addr
  d_Hall_root_link : FuncData
  F_Hall_root_link : Fun K "root_link" "Hall.root_link" s_Hall_root_link a_Hall_root_link d_Hall_root_link
  b_Hall_root_link : Binds K d_Hall_root_link ["self"] []
  me_Hall_root_link : Meth K c_Hall "root_link" a_Hall_root_link
  a_Hall_role : Addr
  d_Hall_role : FuncData
  F_Hall_role : Fun K "role" "Hall.role" s_Hall_role a_Hall_role d_Hall_role
  b_Hall_role : Binds K d_Hall_role ["self", "link"] []
  me_Hall_role : Meth K c_Hall "role" a_Hall_role
  a_Hall_is_open : Addr
  d_Hall_is_open : FuncData
  F_Hall_is_open : Fun K "is_open" "Hall.is_open" s_Hall_is_open a_Hall_is_open d_Hall_is_open
  b_Hall_is_open : Binds K d_Hall_is_open ["self", "link"] []
  me_Hall_is_open : Meth K c_Hall "is_open" a_Hall_is_open
  a_Hall_heard : Addr
  d_Hall_heard : FuncData
  F_Hall_heard : Fun K "heard" "Hall.heard" s_Hall_heard a_Hall_heard d_Hall_heard
  b_Hall_heard : Binds K d_Hall_heard ["self", "link"] []
  me_Hall_heard : Meth K c_Hall "heard" a_Hall_heard
  a_Hall__door : Addr
  d_Hall__door : FuncData
  F_Hall__door : Fun K "_door" "Hall._door" s_Hall__door a_Hall__door d_Hall__door
  b_Hall__door : Binds K d_Hall__door ["self", "link"] []
  me_Hall__door : Meth K c_Hall "_door" a_Hall__door
  a_Hall__running : Addr
  d_Hall__running : FuncData
  F_Hall__running : Fun K "_running" "Hall._running" s_Hall__running a_Hall__running d_Hall__running
  b_Hall__running : Binds K d_Hall__running ["self", "link"] []
  me_Hall__running : Meth K c_Hall "_running" a_Hall__running
  a_Hall__step : Addr
  d_Hall__step : FuncData
  F_Hall__step : Fun K "_step" "Hall._step" s_Hall__step a_Hall__step d_Hall__step
  b_Hall__step : Binds K d_Hall__step ["self"] []
  me_Hall__step : Meth K c_Hall "_step" a_Hall__step
  a_Hall__write : Addr
  d_Hall__write : FuncData
  F_Hall__write : Fun K "_write" "Hall._write" s_Hall__write a_Hall__write d_Hall__write
  b_Hall__write : Binds K d_Hall__write ["self", "link", "door", "ahead"] []
  me_Hall__write : Meth K c_Hall "_write" a_Hall__write
  a_Hall__turn : Addr
  d_Hall__turn : FuncData
  F_Hall__turn : Fun K "_turn" "Hall._turn" s_Hall__turn a_Hall__turn d_Hall__turn
  b_Hall__turn : Binds K d_Hall__turn ["self", "link", "door"] []
  me_Hall__turn : Meth K c_Hall "_turn" a_Hall__turn
  a_Say___init__ : Addr
  d_Say___init__ : FuncData
  F_Say___init__ : Fun K "__init__" "Say.__init__" s_Say___init__ a_Say___init__ d_Say___init__
  b_Say___init__ : Binds K d_Say___init__ ["self", "number", "root", "far"] []
  m_Say : Mk K c_Say a_Say___init__
  a_Say___eq__ : Addr
  d_Say___eq__ : FuncData
  F_Say___eq__ : Fun K "__eq__" "Say.__eq__" s_Say___eq__ a_Say___eq__ d_Say___eq__
  b_Say___eq__ : Binds K d_Say___eq__ ["self", "other"] []
  me_Say___eq__ : Meth K c_Say "__eq__" a_Say___eq__
  a_Say_told : Addr
  d_Say_told : FuncData
  F_Say_told : Fun K "told" "Say.told" s_Say_told a_Say_told d_Say_told
  b_Say_told : Binds K d_Say_told ["self"] []
  me_Say_told : Meth K c_Say "told" a_Say_told
  a_Agree___init__ : Addr
  d_Agree___init__ : FuncData
  F_Agree___init__ : Fun K "__init__" "Agree.__init__" s_Agree___init__ a_Agree___init__ d_Agree___init__
  b_Agree___init__ : Binds K d_Agree___init__ ["self", "number"] []
  m_Agree : Mk K c_Agree a_Agree___init__
  a_Agree___eq__ : Addr
  d_Agree___eq__ : FuncData
  F_Agree___eq__ : Fun K "__eq__" "Agree.__eq__" s_Agree___eq__ a_Agree___eq__ d_Agree___eq__
  b_Agree___eq__ : Binds K d_Agree___eq__ ["self", "other"] []
  me_Agree___eq__ : Meth K c_Agree "__eq__" a_Agree___eq__
  a_Agree_told : Addr
  d_Agree_told : FuncData
  F_Agree_told : Fun K "told" "Agree.told" s_Agree_told a_Agree_told d_Agree_told
  b_Agree_told : Binds K d_Agree_told ["self"] []
  me_Agree_told : Meth K c_Agree "told" a_Agree_told
  a_law : Addr
  d_law : FuncData
  F_law : Fun K "law" "law" s_law a_law d_law
  b_law : Binds K d_law ["_law_script"] []
  g_law : mg "law" = some (.ref a_law)
  e_Say : EqC K c_Say a_Say___eq__
  q_Say : IsiC K c_Say
  e_Agree : EqC K c_Agree a_Agree___eq__
  q_Agree : IsiC K c_Agree
  kt_Say_Letter : PySem.W.kitOne K (.ref c_Say) (.ref c_Letter) = some true
  kt_Agree_Letter : PySem.W.kitOne K (.ref c_Agree) (.ref c_Letter) = some true
  kt_Say_Agree : PySem.W.kitOne K (.ref c_Say) (.ref c_Agree) = some false
  kt_Agree_Say : PySem.W.kitOne K (.ref c_Agree) (.ref c_Say) = some false
  n_Say_number : NoAttr K c_Say "number"
  n_Say_root : NoAttr K c_Say "root"
  n_Say_far : NoAttr K c_Say "far"
  n_Agree_number : NoAttr K c_Agree "number"
  n_Door_other_hall : NoAttr K c_Door "other_hall"
  n_Door_link_cost : NoAttr K c_Door "link_cost"
  n_Door_part : NoAttr K c_Door "part"
  n_Door_was_root : NoAttr K c_Door "was_root"
  n_Door_heard_number : NoAttr K c_Door "heard_number"
  n_Door_heard_standing : NoAttr K c_Door "heard_standing"
  n_Door_said : NoAttr K c_Door "said"
  n_Door_counts_from : NoAttr K c_Door "counts_from"
  n_Door_agreed_there : NoAttr K c_Door "agreed_there"
  n_Door_agreed_here : NoAttr K c_Door "agreed_here"
  n_Hall__hall : NoAttr K c_Hall "_hall"
  n_Hall__ends : NoAttr K c_Hall "_ends"
  n_Hall__most : NoAttr K c_Hall "_most"
  n_Hall__rule : NoAttr K c_Hall "_rule"
  n_Hall__doors : NoAttr K c_Hall "_doors"
  n_Hall__standing : NoAttr K c_Hall "_standing"
  n_Hall__root_link : NoAttr K c_Hall "_root_link"
  n_Hall__posted : NoAttr K c_Hall "_posted"
  z_abs : mg "abs" = none
  z_len : mg "len" = none
  z_range : mg "range" = none
  z_list : mg "list" = none
  z_all : mg "all" = none
  z_isinstance : mg "isinstance" = none
  z_tuple : mg "tuple" = none
  z_int : mg "int" = none
  z_bool : mg "bool" = none
  z_str : mg "str" = none
  z_sorted : mg "sorted" = none
  z_dict : mg "dict" = none
  z_sum : mg "sum" = none
  z_set : mg "set" = none
  z_enumerate : mg "enumerate" = none
  z_min : mg "min" = none
  z_max : mg "max" = none
  z_ValueError : mg "ValueError" = none
  t_NOTHING : Tok
  v_NOTHING : mg "NOTHING" = some (.int (0) t_NOTHING)
  t_NONE_BEYOND : Tok
  v_NONE_BEYOND : mg "NONE_BEYOND" = some (.int (-1) t_NONE_BEYOND)
  a_RULES : Addr
  v_RULES : mg "RULES" = some (.ref a_RULES)
  s_RULES : ∀ H, SqT K H a_RULES [.str "right", .str "hasty", .str "worse", .str "turned", .str "free", .str "kept"]
end K24

set_option maxHeartbeats 2000000
namespace K24
open PySem PySem.Spec PyProof.Rows L2 Evl MyG
def sp_state (K : PySem.W.Frag) : Sp := fun vs H Q _ => ∃ (a : Addr) (ns : List Int), vs = [.ref a] ∧ SqL K H a (ns.map V.int) ∧ ns.length ≤ 63 ∧ ∀ s c H', Ex H H' → H s = none → H c = none → Sta s c H' → Q (.ref s) H'
def sp_draw : Sp := fun vs H Q _ => ∃ (s c : Addr) (m : Int), vs = [.ref s, .int m] ∧ Sta s c H ∧ 0 < m ∧ m < 1073741824 ∧ ∀ r H', 0 ≤ r → r < m → Sta s c H' → Off s c H H' → Q (.int r) H'
def sp_pick : Sp := fun vs H Q _ => ∃ (s c p : Addr) (xs : List V), vs = [.ref s, .ref p] ∧ Sta s c H ∧ H p = some (.lst xs) ∧ p ≠ s ∧ p ≠ c ∧ 0 < xs.length ∧ xs.length ≤ 100000 ∧ ∀ (k : Nat) x H', xs[k]? = some x → Sta s c H' → Off s c H H' → Q x H'
section
variable {P : Program} {w : World} {K : PySem.W.Frag} {mg : Str → Option Value} {base : Heap}
theorem ok_draw (T : Tx K mg) : FnOk P w K mg base CX0 1 T.a_l_draw T.d_l_draw ["_law_state", "_law_many"] sp_draw := by
  refine T.F_l_draw.ok sc_l_draw (fun vs H Q E h => ?_) (fun cdv A outer s H vs Q E hr h => ?_)
  · obtain ⟨_, _, _, rfl, _⟩ := h
    rfl
  · obtain ⟨s, c, m, rfl, hst, hm0, hm1, q⟩ := h
    refine ⟨_, (pss_cons (ps_set (i := 2) sc_l_draw.nd rfl (Or.inl rfl) (pe_ix (ix_listK (K := K) rfl) (pv 0) pe_int (fun _ _ => rfl)))
  (pss_cons (ps_set (i := 3) sc_l_draw.nd rfl (Or.inl rfl) (pe_op op_modN (pe_ix (ix_listK (K := K) rfl) (pv 0) pe_int (fun _ _ => rfl)) (pe_callB (lenK (K := K) rfl) (by rfl) T.z_len (by decide +kernel) (pa_cons (pv 2) pa_nil))))
  (pss_cons (ps_set (i := 4) sc_l_draw.nd rfl (Or.inl rfl) (pe_ix (ix_listK (K := K) rfl) (pv 2) (pv 3) (fun _ _ => rfl)))
  (pss_cons (ps_if (pt_cmpR op_ge (pv 4) (pe_op op_pow pe_int pe_int) (nomark _)) (pss_cons (ps_asg (pe_op op_fdivN (pv 4) (pv 1)) (pg_sub (pv 2) (pv 3) set_list))
  (pss_one (ps_ret (pe_op op_modN (pv 4) (pv 1))))) pss_nil)
  (pss_cons (ps_asg (pe_op op_add (pe_ix (ix_listK (K := K) rfl) (pv 0) pe_int (fun _ _ => rfl)) pe_int) (pg_sub (pv 0) pe_int set_list))
  (pss_cons (ps_asg (pe_op op_modN (pe_op op_add (pe_op op_add (pe_op op_mul (pe_ix (ix_listK (K := K) rfl) (pv 0) pe_int (fun _ _ => rfl)) pe_int) (pv 4)) pe_int) pe_int) (pg_sub (pv 0) pe_int set_list))
  (pss_one (ps_ret (pe_op op_modN (pe_op op_fdivN (pe_op op_modN (pe_op op_mul (pe_ix (ix_listK (K := K) rfl) (pv 0) pe_int (fun _ _ => rfl)) (pe_ix (ix_listK (K := K) rfl) (pv 0) pe_int (fun _ _ => rfl))) pe_int) pe_int) (pv 1)))))))))), ?_⟩
    obtain ⟨nsc, cells, i, j, hs, hc, hne, hpos, hi, hj0, hj1⟩ := hst
    have hlen : 0 < (cells.length : Int) := by
      have := List.length_pos_iff.mpr hne
      omega
    -- cells = state[0]; at = state[1] % len(cells)
    refine ⟨_, rfl, s, _, 0, _, rfl, rfl, SqL.of hs, atI_nat (j := 0) rfl, _, rfl, s, _, 1, _, rfl, rfl, SqL.of hs, atI_nat (j := 1) rfl, _, rfl, c, _, rfl, .inl (SqL.of hc), _, _, rfl, rfl, ?_, ?_⟩
    · rw [List.length_map]; omega
    rw [List.length_map]
    have hat := fmod_bd (a := i) hlen
    generalize hdef : i.fmod (cells.length : Int) = at_ at hat
    obtain ⟨x, hx, hxa, hxm⟩ := ints_at hat.1 hat.2
    have hx0 := hpos x hxm
    -- cell = cells[at]
    refine ⟨_, rfl, _, rfl, c, _, at_, _, rfl, congrArg V.int hdef, SqL.of hc, hxa, ?_⟩
    -- if cell >= ..
    refine ⟨_, rfl, 10, 18, rfl, rfl, ⟨by decide, by decide, by decide⟩, x, _, rfl, rfl, _, rfl, ite2 (fun _ => ?_) (fun _ => ?_)⟩
    · -- cells[at] = cell // many
      refine ⟨_, rfl, _, rfl, x, m, rfl, rfl, ⟨by omega, by omega⟩, _, rfl, _, rfl, c, _, at_, at_.toNat, rfl, congrArg V.int hdef, hc, ?_, ?_⟩
      · have e : at_ = (at_.toNat : Int) := by omega
        rw [e]
        exact Evl.ixN_nat (by rw [List.length_map]; omega)
      refine ⟨_, rfl, _, rfl, x, m, rfl, rfl, by omega, ?_⟩
      have hb := fmod_bd (a := x) hm0
      refine q _ _ hb.1 hb.2 ⟨nsc, cells.set at_.toNat (x.fdiv m), i, j, ?_, ?_, ?_, ?_, hi, hj0, hj1⟩ (fun a ha hac => upd_ne hac)
      · rw [upd_ne nsc]; exact hs
      · rw [upd_same, map_set_int]
      · exact fun z => hne (by simpa using z)
      · refine mem_set hpos ?_
        rw [Int.fdiv_eq_ediv_of_nonneg _ (by omega)]
        exact Int.ediv_nonneg hx0 (by omega)
    · -- state[1] = state[1] + 1
      refine ⟨_, rfl, s, _, 1, _, rfl, rfl, SqL.of hs, atI_nat (j := 1) rfl, _, _, rfl, rfl, _, rfl, s, _, 1, 1, rfl, rfl, hs, Evl.ixN_nat (j := 1) (by show 1 < 3; decide), ?_⟩
      have hs1 : (upd H s (.lst ([V.ref c, .int i, .int j].set 1 (.int (i + 1))))) s = some (.lst [.ref c, .int (i + 1), .int j]) := upd_same
      -- state[2] = ..
      refine ⟨_, rfl, s, _, 2, _, rfl, rfl, SqL.of hs1, atI_nat (j := 2) rfl, _, _, rfl, rfl, .inl ⟨by omega, by omega⟩, _, rfl, _, _, rfl, rfl, _, _, rfl, rfl, _, _, rfl, rfl, (by show (2147483647 : Int) ≠ 0; decide), _, rfl, s, _, 2, 2, rfl, rfl, hs1, Evl.ixN_nat (j := 2) (by show 2 < 3; decide), ?_⟩
      have hb := fmod_bd (a := j * 48271 + x + 12345) (m := 2147483647) (by decide)
      generalize hdj : (j * 48271 + x + 12345).fmod 2147483647 = j' at hb
      have hs2 : (upd (upd H s (.lst ([V.ref c, .int i, .int j].set 1 (.int (i + 1))))) s (.lst ([V.ref c, .int (i + 1), .int j].set 2 (.int ((j * 48271 + x + 12345).fmod 2147483647))))) s = some (.lst [.ref c, .int (i + 1), .int j']) := by
        rw [upd_same, hdj]
        rfl
      -- return ..
      refine ⟨_, rfl, s, _, 2, _, rfl, rfl, SqL.of hs2, atI_nat (j := 2) rfl, _, rfl, s, _, 2, _, rfl, rfl, SqL.of hs2, atI_nat (j := 2) rfl, _, _, rfl, rfl, .inl ⟨by omega, by omega⟩, _, _, rfl, rfl, (by show (2147483629 : Int) ≠ 0; decide), _, _, rfl, rfl, ⟨by show (16 : Int) ≠ 0; decide, by show (16 : Int).natAbs < 1073741824; decide⟩, _, rfl, _, _, rfl, rfl, by omega, ?_⟩
      have hb2 := fmod_bd (a := ((j' * j').fmod 2147483629).fdiv 16) hm0
      refine q _ _ hb2.1 hb2.2 ⟨nsc, cells, i + 1, j', hs2, ?_, hne, hpos, by omega, hb.1, hb.2⟩ (fun a ha hac => ?_)
      · rw [upd_ne nsc.symm, upd_ne nsc.symm]; exact hc
      · rw [upd_ne ha, upd_ne ha]
theorem shaped_ints (cells : List Int) : SeqAt.shaped (.list (cells.map PyData.int)) = true := by
  have cl : PyData.canLayAll0 (cells.map PyData.int) = true ∧ PyData.depthAll (cells.map PyData.int) = 0 := by
    induction cells with
    | nil => exact ⟨rfl, rfl⟩
    | cons x r ih => exact ⟨by simp only [List.map_cons, PyData.canLayAll0, PyData.canLay0, ih.1, Bool.and_self], by simp only [List.map_cons, PyData.depthAll, PyData.depth, ih.2]; rfl⟩
  unfold SeqAt.shaped
  simp [PyData.canLay0, cl.1, PyData.depth, cl.2]
theorem ok_begin (T : Tx K mg) : FnOk P w K mg base CX0 1 T.a_l_begin T.d_l_begin ["_law_script"] (sp_state K) := by
  refine T.F_l_begin.ok sc_l_begin (fun vs H Q E h => ?_) (fun cdv A outer s H vs Q E hr h => ?_)
  · obtain ⟨_, _, rfl, _⟩ := h
    rfl
  · obtain ⟨a, ns, rfl, hS, hlen, q⟩ := h
    refine ⟨_, (pss_cons (ps_setLc (i := 1) (own := [("_law_cell", 2)]) (g := (gName 2)) (tt := tYes) rfl sc_l_begin.nd rfl rfl (sw_true rfl rfl rfl (by decide +kernel)) (iListK (K := K) rfl (pv 0)) (blkOk_by (N := n_l_begin) (sc := defScope s_l_begin) (by decide +kernel)) (fun _ _ _ _ _ => (pg_name (i := 2) sc_l_begin.nd rfl (Or.inl rfl))) (fun _ _ _ _ _ => pts_nil) (fun _ _ _ _ _ => (pe_callB call_abs (by rfl) T.z_abs (by decide +kernel) (pa_cons (pv 2) pa_nil))))
  (pss_one (ps_ret (pe_lst (pa_cons (pe_ifExp (pt_cmpR (op_neK (K := K) rfl hr.units) (pv 1) (pe_lst pa_nil) (nomark _)) (pv 1) (pe_lst (pa_cons pe_int pa_nil))) (pa_cons pe_int (pa_cons pe_int pa_nil))))))), ?_⟩
    generalize hg : ns.map (fun i => if i < 0 then -i else i) = cells
    have pos : ∀ x ∈ cells, 0 ≤ x := fun x hx => by
      rw [← hg] at hx
      obtain ⟨y, _, rfl⟩ := List.mem_map.mp hx
      split <;> omega
    refine un_seq (un_asg ?_)
    refine go_L (xs := cells.map V.int) (el_map (xs := ns.map V.int) (a := a) (ev_var rfl) hS (by rw [List.length_map]; omega) (by rw [← hg]; simp) (fun x => rfl) (fun i x y H1 e hx hy => ?_)) (fun c H1 hc e1 h1 => ?_)
    · rw [← hg, List.getElem?_map, List.getElem?_map] at hy
      rw [List.getElem?_map] at hx
      cases hi : ns[i]? with
      | none =>
        rw [hi] at hx
        cases hx
      | some z =>
        rw [hi] at hx hy
        obtain rfl := Option.some.inj hx
        obtain rfl := Option.some.inj hy
        exact fun H2 e2 Q q => ⟨_, rfl, z, rfl, q _ (Ex.refl _)⟩
    · dsimp only
      refine un_ret ?_
      refine ⟨_, rfl, Nat.zero_le _, fun p hp => ?_⟩
      have e2 := Ex.new (o := .lst []) hp
      have fin : ∀ (c2 : Addr) (H2 : Hp) (cs : List Int), Ex H H2 → H c2 = none → H2 c2 = some (.lst (cs.map V.int)) → cs ≠ [] → (∀ x ∈ cs, 0 ≤ x) → ∀ s, H2 s = none → Q (.ref s) (upd H2 s (.lst [.ref c2, .int 0, .int 1])) := fun c2 H2 cs ex n2 h2 hne hp s hs => by
        have ne : c2 ≠ s := ne_of_none h2 hs
        refine q s c2 _ (ex.trans (Ex.new hs)) (fresh_back ex hs) n2 ⟨ne.symm, cs, 0, 1, upd_same, ?_, hne, hp, by decide, by decide, by decide⟩
        rw [upd_ne ne]
        exact h2
      refine ⟨.list (cells.map PyData.int), .list [], .lst (SqL.of (e2 _ _ h1)) (dp_ints _), .lst (SqL.of upd_same) .nil, shaped_ints _, rfl, _, rfl, ?_⟩
      cases cells with
      | nil => exact iteF ⟨by show 1 ≤ sizeLine; decide, fun c2 hc2 => ⟨by show 3 ≤ sizeLine; decide, fun s hs => fin c2 _ [1] ((e1.trans e2).trans (Ex.new hc2)) (fresh_back (e1.trans e2) hc2) upd_same (by decide) (by decide) s hs⟩⟩
      | cons z zs => exact iteT ⟨_, rfl, by show 3 ≤ sizeLine; decide, fun s hs => fin c _ (z :: zs) (e1.trans e2) hc (e2 _ _ h1) (by simp) pos s hs⟩
theorem ok_pick (T : Tx K mg) : FnOk P w K mg base CX0 2 T.a_l_pick T.d_l_pick ["_law_state", "_law_some"] sp_pick := by
  have G_l_draw := ok_draw (P := P) (w := w) (base := base) T
  refine T.F_l_pick.ok sc_l_pick (fun vs H Q E h => ?_) (fun cdv A outer s H vs Q E hr h => ?_)
  · obtain ⟨_, _, _, _, rfl, _⟩ := h
    rfl
  · obtain ⟨s, c, p, xs, rfl, st, hp, ps, pc, l0, l1, q⟩ := h
    refine ⟨_, (pss_one (ps_ret (pe_ix (ix_listK (K := K) rfl) (pv 1) (pe_call G_l_draw (hr.mono (by decide)) (by rfl) T.g_l_draw T.F_l_draw.kp T.b_l_draw .nil pass0 (pa_cons (pv 0) (pa_cons (pe_callB (lenK (K := K) rfl) (by rfl) T.z_len (by decide +kernel) (pa_cons (pv 1) pa_nil)) pa_nil))) (fun _ _ => rfl)))), ?_⟩
    refine ⟨_, rfl, _, rfl, _, rfl, p, xs, rfl, .inl (SqL.of hp), s, c, _, rfl, st, by omega, by omega, fun r H1 r0 r1 st1 off1 => ?_⟩
    obtain ⟨k, rfl⟩ : ∃ k : Nat, r = (k : Int) := ⟨r.toNat, by omega⟩
    obtain ⟨x, hx⟩ : ∃ x, xs[k]? = some x := ⟨_, List.getElem?_eq_getElem (by omega)⟩
    exact ⟨p, xs, k, x, rfl, rfl, SqL.of ((off1 p ps pc).trans hp), atI_nat hx, q k x H1 hx st1 off1⟩
end
end K24

set_option maxHeartbeats 4000000
/-! min(xs) of a list of tuples of ints: the comparison looks at the heap. -/
namespace MyG
open PySem PySem.Spec PyProof.Rows
/-- a comparison that asks what stands where the walk is -/
def CmpAt (prog : Program) (w : World) (A : Around) (op : CmpOp) (P : Nat → Value → Prop) (St : Nat → Heap → Prop) (bt : Nat → Nat → Bool) : Prop :=
  ∀ (i j k : Nat) (u v : Value) (s : Shared) (Q E : Value → Shared → Prop), St k s.heap → P i u → P j v → Q (.bool (bt i j)) s → wpAny (model prog w) A (richCompare op u v) Q E s
section
variable {prog : Program} {w : World} {A : Around} {R : Result → Shared → Prop} {I S : Addr} {fp wr : List Addr} {n : Nat} {P : Nat → Value → Prop} {St : Nat → Heap → Prop} {bt : Nat → Nat → Bool}
abbrev bestO (v : Value) (c : Nat) : Obj := { cls := .type "list", dict := none, data := .seq #[v, v] c, slots := #[] }
theorem minName : (toString "min" ++ toString ".loop" : String) = "min.loop" := by decide
theorem min_turns (W : Walks prog w A.in1 I fp wr n P St) (cmp : CmpAt prog w A.in1 .Lt P St bt) (hS : S ∉ fp) : ∀ (k j : Nat), n - (j + 1) = k → j + 1 ≤ n → ∀ (s : Shared) (best : Value) (c : Nat), St (j + 1) s.heap → P (argBest bt j) best → s.heap.get? S = some (bestO best c) →
    (∀ v h' tk, P (argBest bt (n - 1)) v → (∀ b o, b ∉ wr → b ≠ S → s.heap.get? b = some o → h'.get? b = some o) → R (.ok (.ret v)) { s with heap := h', toks := tk }) → codeAny (model prog w) A (.builtin "min.loop" ⟨[.ref I, .none, .ref S], []⟩) R s
  | 0, j, hk, hj, s, best, c, st, pb, at_, fin => by
    have last : j + 1 = n := by omega
    subst last
    refine codeAny_builtin F.entry_min_loop ?_
    rw [Around.under_plainId F.plain_min_loop _]
    show wpAny _ A.in1 (seqItems? (.ref S) >>= _) _ _ s
    refine wpAny_bind (wpAny_seqItems at_ rfl ?_)
    refine wpAny_bind (m := tryCatch (pyNext (.ref I)) _) (wpAny_tryCatch (W.done s _ _ st fun h1 t1 keep => ?_))
    refine wpAny_bind (m := updateSeq S (fun _ => #[])) (wpAny_updateSeq (keep S _ (fun z => hS (W.sub _ z)) at_) rfl (wpAny_bind (wpAny_letGo (wpAny_pure ?_))))
    exact fin best _ t1 pb fun b o hw hs e => (Heap.get?_update_other _ _ fun z => hs z.symm).trans (keep b o hw e)
  | k + 1, j, hk, hj, s, best, c, st, pb, at_, fin => by
    have more : j + 1 < n := by omega
    refine codeAny_builtin F.entry_min_loop ?_
    rw [Around.under_plainId F.plain_min_loop _]
    show wpAny _ A.in1 (seqItems? (.ref S) >>= _) _ _ s
    refine wpAny_bind (wpAny_seqItems at_ rfl ?_)
    refine wpAny_bind (m := tryCatch (pyNext (.ref I)) _) (wpAny_tryCatch (W.item (j + 1) s _ _ more st fun v h1 t1 pv st1 keep => ?_))
    have at1 := keep S _ (fun z => hS (W.sub _ z)) at_
    refine wpAny_bind (m := tryCatch (holding [v, v] (richCompare .Lt v best >>= _)) _) (wpAny_tryCatch (wpAny_holding (wpAny_bind (cmp (j + 1) (argBest bt j) (j + 2) v best _ _ _ st1 pv pb ?_))))
    refine wpAny_bind (wpAny_holding (wpAny_truthy_bool ?_))
    refine wpAny_bind (wpAny_letGo (wpAny_pure ?_))
    by_cases hb : bt (j + 1) (argBest bt j) = true
    · rw [hb]
      simp only [if_true]
      refine wpAny_bind ?_
      refine wpAny_updateSeq at1 rfl (wpAny_bind (wpAny_letGo ?_))
      rw [minName]
      refine wpAny_pure ⟨plainId_quiet F.plain_min_loop _, min_turns W cmp hS k (j + 1) (by omega) more _ v _ (W.frame _ _ _ st1 fun b hbf o e => (Heap.get?_update_other _ _ fun z : S = b => hS (z ▸ hbf)).trans e) ?_ (Heap.get?_update_self _ at1 rfl) fun u h2 t2 pu keep2 => ?_⟩
      · unfold argBest
        rw [if_pos hb]
        exact pv
      · exact fin u h2 t2 pu fun b o hw hs e => keep2 b o hw hs ((Heap.get?_update_other _ _ fun z => hs z.symm).trans (keep b o hw e))
    · rw [Bool.not_eq_true] at hb
      rw [hb]
      simp only [Bool.false_eq_true, if_false]
      refine wpAny_bind (wpAny_letGo ?_)
      rw [minName]
      refine wpAny_pure ⟨plainId_quiet F.plain_min_loop _, min_turns W cmp hS k (j + 1) (by omega) more _ best c st1 ?_ at1 fun u h2 t2 pu keep2 => fin u h2 t2 pu fun b o hw hs e => keep2 b o hw hs (keep b o hw e)⟩
      unfold argBest
      rw [if_neg (by rw [hb]; exact Bool.false_ne_true)]
      exact pb
theorem min_starts (W : Walks prog w A.in1 I fp wr n P St) (cmp : CmpAt prog w A.in1 .Lt P St bt) (hS : S ∉ fp) (hn : 0 < n) {s : Shared} {c : Nat} (st : St 0 s.heap) (at_ : s.heap.get? S = some { cls := .type "list", dict := none, data := .seq #[] c, slots := #[] })
    (fin : ∀ v h' tk, P (argBest bt (n - 1)) v → (∀ b o, b ∉ wr → b ≠ S → s.heap.get? b = some o → h'.get? b = some o) → R (.ok (.ret v)) { s with heap := h', toks := tk }) : codeAny (model prog w) A (.builtin "min.loop" ⟨[.ref I, .none, .ref S], []⟩) R s := by
  refine codeAny_builtin F.entry_min_loop ?_
  rw [Around.under_plainId F.plain_min_loop _]
  show wpAny _ A.in1 (seqItems? (.ref S) >>= _) _ _ s
  refine wpAny_bind (wpAny_seqItems at_ rfl ?_)
  refine wpAny_bind (m := tryCatch (pyNext (.ref I)) _) (wpAny_tryCatch (W.item 0 s _ _ hn st fun v h1 t1 pv st1 keep => ?_))
  have at1 := keep S _ (fun z => hS (W.sub _ z)) at_
  refine wpAny_bind (m := updateSeq S (fun _ => #[v, v])) (wpAny_updateSeq at1 rfl ?_)
  rw [minName]
  refine wpAny_pure ⟨plainId_quiet F.plain_min_loop _, min_turns W cmp hS _ 0 rfl hn _ v _ (W.frame _ _ _ st1 fun b hbf o e => (Heap.get?_update_other _ _ fun z : S = b => hS (z ▸ hbf)).trans e) pv (Heap.get?_update_self _ at1 rfl) fun u h2 t2 pu keep2 => ?_⟩
  exact fin u h2 t2 pu fun b o hw hs e => keep2 b o hw hs ((Heap.get?_update_other _ _ fun z => hs z.symm).trans (keep b o hw e))
/-- a walk beside which other things stand -/
theorem walks_with {T : List Addr} {G : Heap → Prop} {A : Around} (W : Walks prog w A I fp wr n P St) (hT : ∀ b ∈ T, b ∉ wr) (hG : ∀ h h', G h → (∀ b ∈ T, ∀ o, h.get? b = some o → h'.get? b = some o) → G h') : Walks prog w A I (fp ++ T) wr n P (fun i h => St i h ∧ G h) where
  sub := fun b hb => List.mem_append_left _ (W.sub b hb)
  frame := fun i h h' st keep => ⟨W.frame i h h' st.1 fun b hb => keep b (List.mem_append_left _ hb), hG h h' st.2 fun b hb => keep b (List.mem_append_right _ hb)⟩
  item := fun i s Q E hi st hQ => W.item i s Q E hi st.1 fun v h' tk pv st' keep => hQ v h' tk pv ⟨st', hG _ _ st.2 fun b hb o e => keep b o (hT b hb) e⟩ keep
  done := fun s Q E st hQ => W.done s Q E st.1 hQ
  self := fun i s Q E st hQ => W.self i s Q E st.1 hQ
end
section
variable {prog : Program} {w : World} {A : Around} {E : Value → Shared → Prop} {s : Shared}
theorem call_minA {x : Value} {Q : Value → Shared → Prop}
    (h : wpAny (model prog w) A.in1 (pyIter x) (fun it s2 => ∃ I fp wr n P St bt, it = .ref I ∧ Walks prog w A.in1 I fp wr n P St ∧ St 0 s2.heap ∧ (∀ b ∈ fp, b < s2.heap.objs.size) ∧ 0 < n ∧ CmpAt prog w A.in1 .Lt P St bt ∧
      ∀ v h' tk, P (argBest bt (n - 1)) v → (∀ b o, b ∉ wr → s2.heap.get? b = some o → h'.get? b = some o) → Q v { s2 with heap := h', toks := tk }) E s) : wpAny (model prog w) A (call (.builtin "min") [x]) Q E s := by
  refine call_function_tree F.kind_min F.plain_min F.entry_min (F.args_min1 _) ?_
  show wpAny _ A.in1 (Builtin.Builtins.bindParams "min" ["key", "default"] 0 ⟨[], []⟩ >>= _) _ _ s
  refine wpAny_bind (wpAny_of_eq (show Builtin.Builtins.bindParams "min" ["key", "default"] 0 ⟨[], []⟩ = pure [none, none] from rfl) (wpAny_bind (wpAny_pure ?_)))
  refine wpAny_bind (wpAny_mono h (fun it s2 h2 => ?_) fun _ _ e => e)
  obtain ⟨I, fp, wr, n, P, St, bt, rfl, W, st, below, hn, cmp, q⟩ := h2
  refine wpAny_bind (wpAny_newObj_type ?_)
  rw [minName]
  refine wpAny_pure ⟨plainId_quiet F.plain_min_loop _, min_starts W cmp (fun hm => Nat.lt_irrefl _ (below _ hm)) hn (W.frame _ _ _ st fun b _ o e => Heap.get?_push_of_some _ e) (Heap.get?_push_size _ rfl) fun v h' tk pv keep => ?_⟩
  exact q v h' tk pv fun b o hw e => keep b o hw (Nat.ne_of_lt (Heap.lt_size e)) (Heap.get?_push_of_some _ e)
/-- which one the walk keeps: none is less -/
theorem best_least (k : Nat → List Int) : ∀ m, argBest (fun i j => HT.lexLt (k i) (k j)) m ≤ m ∧ ∀ i, i ≤ m → HT.lexLt (k i) (k (argBest (fun i j => HT.lexLt (k i) (k j)) m)) = false
  | 0 => ⟨Nat.le_refl _, fun i hi => by
    obtain rfl : i = 0 := by omega
    show HT.lexLt (k 0) (k 0) = false
    cases h : HT.lexLt (k 0) (k 0) with
    | false => rfl
    | true => rw [NtL.lex_asym _ _ h] at h; cases h⟩
  | m + 1 => by
    obtain ⟨h1, h2⟩ := best_least k m
    unfold argBest
    by_cases hb : HT.lexLt (k (m + 1)) (k (argBest (fun i j => HT.lexLt (k i) (k j)) m)) = true
    · rw [if_pos hb]
      refine ⟨Nat.le_refl _, fun i hi => ?_⟩
      by_cases e : i = m + 1
      · subst e
        cases h : HT.lexLt (k (m + 1)) (k (m + 1)) with
        | false => rfl
        | true => rw [NtL.lex_asym _ _ h] at h; cases h
      · exact NtL.lex_tr _ _ _ (NtL.lex_asym _ _ hb) (h2 i (by omega))
    · rw [if_neg hb]
      refine ⟨by omega, fun i hi => ?_⟩
      by_cases e : i = m + 1
      · subst e
        exact Bool.not_eq_true _ ▸ hb
      · exact h2 i (by omega)
end
end MyG
namespace MyG
open PySem PySem.Spec PyProof.Rows L2
section
variable {X : Cx} {K : PySem.W.Frag}
/-- min(xs), xs a list of tuples of ints: one of them, and none is less -/
def rMinT (K : PySem.W.Frag) : List V → Hp → VK → Prop := fun vs H Q => ∃ (a : Addr) (rs : List (Addr × List Int)), vs = [.ref a] ∧ SqL K H a (rs.map fun r => V.ref r.1) ∧ rs ≠ [] ∧ (∀ r ∈ rs, SqT K H r.1 (r.2.map V.int)) ∧ ∀ r ∈ rs, (∀ q ∈ rs, HT.lexLt q.2 r.2 = false) → Q (.ref r.1) H
theorem refs_map : ∀ {rs : List (Addr × List Int)} {us : List Value}, Vals (rs.map fun r => V.ref r.1) us → us = rs.map fun r => Value.ref r.1
  | [], us, r => by
    rw [List.map_nil] at r
    cases r
    rfl
  | p :: rs, us, r => by
    rw [List.map_cons] at r
    cases r with
    | cons h t =>
      cases h
      rw [List.map_cons, ← refs_map t]
theorem cr_minT (hK : X.K = K) (hc : X.calm = true) (hu : X.A.units + 1 < cLine) : CallR X (.builtin "min") (rMinT K) := by
  subst hK
  intro pins s σ H vs us Q I r h
  obtain ⟨a, rs, rfl, hs, hne, ht, q⟩ := h
  obtain ⟨its, rv, hl, _⟩ := I.list hs
  rw [Vals.ref1 r]
  have ei := refs_map rv
  have hin : ∀ p ∈ rs, ∃ items, IsTup s.heap p.1 items ∧ IntsAre items.toList p.2 := fun p hp => by
    obtain ⟨it2, r2, p2, _⟩ := I.tuple (ht p hp)
    exact ⟨it2.toArray, p2, by simpa using intsAre_of r2⟩
  let G : Heap → Prop := fun h' => ∀ p ∈ rs, ∃ items, IsTup h' p.1 items ∧ IntsAre items.toList p.2
  have hlt : ∀ p ∈ rs, p.1 < s.heap.objs.size := fun p hp => by
    obtain ⟨_, h1, _⟩ := hin p hp
    exact h1.lt
  refine call_minA (wpAny_pyIter_list hl.isList ?_)
  have hal : a < s.heap.objs.size := by
    obtain ⟨_, _, e, _⟩ := hl
    exact Heap.lt_size e
  have W0 := Walks.list (prog := X.prog) (w := X.w) (A := X.A.in1) (I.ok.hd hc) s.heap.objs.size a (Nat.ne_of_lt hal) its.toArray
  have W := walks_with (T := rs.map (·.1)) (G := G) W0 (fun b hb => by
      obtain ⟨p, hp, rfl⟩ := List.mem_map.mp hb
      intro z
      have e : p.1 = s.heap.objs.size := List.mem_singleton.mp z
      have h := hlt p hp
      rw [e] at h
      exact Nat.lt_irrefl _ h) (fun h1 h2 g keep p hp => by
      obtain ⟨items, h3, h4⟩ := g p hp
      obtain ⟨o, ho, hc, n, hd⟩ := h3
      exact ⟨items, ⟨o, keep p.1 (List.mem_map.mpr ⟨p, hp, rfl⟩) o ho, hc, n, hd⟩, h4⟩)
  have hsz : its.toArray.size = rs.length := by rw [List.size_toArray, ei, List.length_map]
  have hpos : 0 < its.toArray.size := by
    rw [hsz]
    exact List.length_pos_iff.mpr hne
  have at_ : ∀ {i : Nat} {u : Value}, its.toArray[i]? = some u → ∃ p, rs[i]? = some p ∧ u = .ref p.1 := fun {i u} e => by
    have e2 : its[i]? = some u := by simpa using e
    rw [ei, List.getElem?_map] at e2
    obtain ⟨p, hp, rfl⟩ := Option.map_eq_some_iff.mp e2
    exact ⟨p, hp, rfl⟩
  let key : Nat → List Int := fun i => (rs.getD i (0, [])).2
  have hkey : ∀ {i : Nat} {p : Addr × List Int}, rs[i]? = some p → key i = p.2 := fun {i p} e => by
    show (rs.getD i (0, [])).2 = p.2
    rw [List.getD_eq_getElem?_getD, e]
    rfl
  refine ⟨_, _, _, _, _, _, fun i j => HT.lexLt (key i) (key j), rfl, W, ⟨⟨⟨_, Heap.get?_push_size _ rfl, rfl, rfl⟩, hl.isList.push _⟩, fun p hp => ?_⟩, fun b hb => ?_, hpos, fun i j k u v s2 Q2 E2 st hi hj q2 => ?_, fun v h' tk pv keep => ?_⟩
  · obtain ⟨items, ⟨o, ho, hc', n, hd⟩, h4⟩ := hin p hp
    exact ⟨items, ⟨o, Heap.get?_push_of_some _ ho, hc', n, hd⟩, h4⟩
  · show b < (s.heap.push _).objs.size
    rw [Heap.size_push]
    rcases List.mem_append.mp hb with hb | hb
    · rcases List.mem_cons.mp hb with rfl | hb
      · exact Nat.lt_succ_self _
      · obtain rfl := List.mem_singleton.mp hb
        exact Nat.lt_succ_of_lt hal
    · obtain ⟨p, hp, rfl⟩ := List.mem_map.mp hb
      exact Nat.lt_succ_of_lt (hlt p hp)
  · obtain ⟨p, hp, rfl⟩ := at_ hi
    obtain ⟨p', hp', rfl⟩ := at_ hj
    obtain ⟨it1, t1, n1⟩ := st.2 p (List.mem_of_getElem? hp)
    obtain ⟨it2, t2, n2⟩ := st.2 p' (List.mem_of_getElem? hp')
    refine HT.lt_tupInts t1 t2 n1 n2 hu ?_
    rw [← hkey hp, ← hkey hp']
    exact q2
  · obtain ⟨p, hp, rfl⟩ := at_ pv
    obtain ⟨b1, b2⟩ := best_least key (its.toArray.size - 1)
    refine ⟨.ref p.1, H, I.kept (t' := tk) fun b o e => ?_, rfl, q p (List.mem_of_getElem? hp) fun z hz => ?_⟩
    · exact keep b o (fun z => by
        have e2 : b = s.heap.objs.size := List.mem_singleton.mp z
        have h := Heap.lt_size e
        rw [e2] at h
        exact Nat.lt_irrefl _ h) (Heap.get?_push_of_some _ e)
    · obtain ⟨i, hi⟩ := List.mem_iff_getElem?.mp hz
      have hil := (List.getElem?_eq_some_iff.mp hi).1
      have := b2 i (by omega)
      rw [hkey hi, hkey hp] at this
      exact this
end
end MyG

set_option maxHeartbeats 1000000
/-! tuples of ints held against one another by > -/
namespace L2
open PySem PySem.Spec PyProof.Rows
def rGtT (K : PySem.W.Frag) : R2 := fun x y H Q => ∃ (a b : Addr) (ns ms : List Int), x = .ref a ∧ y = .ref b ∧ SqT K H a (ns.map V.int) ∧ SqT K H b (ms.map V.int) ∧
  Q (.bl (Ob.lexAt (fun j => decide (ns.getD j 0 = ms.getD j 0)) (fun j => decide (ms.getD j 0 < ns.getD j 0)) (decide (ns.length > ms.length)) 0 (min ns.length ms.length))) H
theorem op_gtT {X : Cx} (hu : X.A.units < cLine) : OpR X (compareOp .Gt) (rGtT X.K) := by
  intro pins s σ H x y v u Q I rx ry h
  obtain ⟨a, b, ns, ms, rfl, rfl, ha, hb, q⟩ := h
  cases rx
  cases ry
  obtain ⟨its, r1, p1, _⟩ := I.tuple ha
  obtain ⟨its2, r2, p2, _⟩ := I.tuple hb
  have i1 : IntsAre its ns := Vals.ints r1
  have i2 : IntsAre its2 ms := Vals.ints r2
  have e1 : its.toArray.size = ns.length := by rw [List.size_toArray]; exact i1.length
  have e2 : its2.toArray.size = ms.length := by rw [List.size_toArray]; exact i2.length
  have at1 : ∀ j (h1 : j < its.toArray.size), ∃ t, its.toArray[j] = .int (ns.getD j 0) t := fun j h1 => PyProof.Rows.IntsAre.int_at i1 _ _ (by simp at h1; simp [h1])
  have at2 : ∀ j (h1 : j < its2.toArray.size), ∃ t, its2.toArray[j] = .int (ms.getD j 0) t := fun j h1 => PyProof.Rows.IntsAre.int_at i2 _ _ (by simp at h1; simp [h1])
  have R := Ob.RcOp.tuples_gt (A := X.A) (s := s) (e := fun j => decide (ns.getD j 0 = ms.getD j 0)) (r := fun j => decide (ms.getD j 0 < ns.getD j 0)) p1 p2 hu (fun j h1 h2 => by
    obtain ⟨t, et⟩ := at1 j h1
    obtain ⟨t', et'⟩ := at2 j h2
    rw [et, et']
    have z : (ns.getD j 0 == ms.getD j 0) = decide (ns.getD j 0 = ms.getD j 0) := by
      by_cases q : ns.getD j 0 = ms.getD j 0
      · rw [decide_eq_true q]; exact beq_iff_eq.mpr q
      · rw [decide_eq_false q]; exact beq_eq_false_iff_ne.mpr q
    rw [← z]
    exact SeqAt.EqAt.int_int _ _ _ _) (fun j h1 h2 _ => by
    obtain ⟨t, et⟩ := at1 j h1
    obtain ⟨t', et'⟩ := at2 j h2
    rw [et, et']
    exact Ob.RcOp.gt_int _ _ _ _)
  rw [e1, e2] at R
  have z : wpAny (model X.prog X.w) X.A (compareOp .Gt (.ref a) (.ref b)) (EP X pins σ Q) X.xe s := R X.prog X.w X.xe (EP X pins σ Q) ⟨.bl _, H, I, rfl, q⟩
  exact z
theorem op_gtTK {X : Cx} {K : PySem.W.Frag} (hK : X.K = K) (hu : X.A.units < cLine) : OpR X (compareOp .Gt) (rGtT K) := hK ▸ op_gtT hu
theorem op_ltTK {X : Cx} {K : PySem.W.Frag} (hK : X.K = K) (hu : X.A.units < cLine) : OpR X (compareOp .Lt) (rLtT K) := hK ▸ op_ltT hu
/-- an attribute as a target -/
def gFld (K : PySem.W.Frag) (ta : TE) (f : Str) : TG := fun v σ H Q => ta σ H fun x H1 => ∃ a C dx fs, x = .ref a ∧ H1 a = some (.ins C dx fs) ∧ Cls K C ∧ NoAttr K C f ∧ fs.length < 1000 ∧ Q σ (upd H1 a (.ins C dx (putF f v fs)))
theorem pg_fld {X : Cx} {o : Expr} {f : Str} {pos : Pos} {ta : TE} (ho : PE X o ta)
    (ha : ∀ v, assign (.Attribute o f pos) X.env v = (do
      let ov ← holding [v] (eval o X.env)
      standAt pos.atName
      holding [v, ov] (setAttr ov f v)
      release [v, ov] []) := by intro _; rfl) : PG X (.Attribute o f pos) (gFld X.K ta f) := by
  refine ⟨fun pins s σ H v u Q I r h => ?_⟩
  rw [ha]
  refine wpAny_bind (wpAny_holding (thn (ho.run pins s σ H _ I h) fun ov s1 ⟨x, H1, I1, r1, a, C, dx, fs, ex, ea, c, n, l, q⟩ => ?_))
  subst ex
  obtain rfl : ov = Value.ref a := r1
  refine wpAny_bind (wpAny_standAt (wpAny_bind (wpAny_holding (setattr_ok I1 ea c n l r fun s3 I3 => ?_))))
  exact wpAny_release ⟨σ, _, I3, q⟩
theorem pg_fldK {X : Cx} {K : PySem.W.Frag} (hK : X.K = K) {o : Expr} {f : Str} {pos : Pos} {ta : TE} (ho : PE X o ta)
    (ha : ∀ v, assign (.Attribute o f pos) X.env v = (do
      let ov ← holding [v] (eval o X.env)
      standAt pos.atName
      holding [v, ov] (setAttr ov f v)
      release [v, ov] []) := by intro _; rfl) : PG X (.Attribute o f pos) (gFld K ta f) := hK ▸ pg_fld ho ha
/-- pairs by > -/
theorem gt_pair (a b c d : Int) : Ob.lexAt (fun j => decide ([a, b].getD j 0 = [c, d].getD j 0)) (fun j => decide ([c, d].getD j 0 < [a, b].getD j 0)) (decide ([a, b].length > [c, d].length)) 0 (min [a, b].length [c, d].length) = decide (c < a ∨ (c = a ∧ d < b)) := by
  show Ob.lexAt _ _ _ 0 2 = _
  rw [Ob.lexAt_succ, Ob.lexAt_succ, Ob.lexAt_zero]
  show (if decide (a = c) = true then (if decide (b = d) = true then decide (2 > 2) else decide (d < b)) else decide (c < a)) = _
  by_cases h : a = c
  · rw [if_pos (by simpa using h)]
    by_cases h2 : b = d
    · rw [if_pos (by simpa using h2), decide_eq_false (by omega), decide_eq_false (by omega)]
    · rw [if_neg (by simpa using h2)]
      exact decide_eq_decide.mpr (by omega)
  · rw [if_neg (by simpa using h)]
    exact decide_eq_decide.mpr (by omega)
theorem lt_three (a b c d e f : Int) : HT.lexLt [a, b, c] [d, e, f] = decide (a < d ∨ (a = d ∧ (b < e ∨ (b = e ∧ c < f)))) := by
  unfold HT.lexLt
  by_cases h : a = d
  · subst h
    by_cases h2 : b = e
    · subst h2
      by_cases h3 : c = f
      · subst h3
        simp [HT.lexLt]
      · simp [HT.lexLt, h3]
    · simp [HT.lexLt, h2]
  · simp [HT.lexLt, h]
end L2

set_option maxHeartbeats 1000000
namespace K24
open PySem PySem.Spec PyProof.Rows L2 Evl MyG
/-! ### the least of rows -/
abbrev R4 := Int × Int × Int × Int
def lsR (r : R4) : List Int := [r.1, r.2.1, r.2.2.1, r.2.2.2]
def ltR (a b : R4) : Bool := HT.lexLt (lsR a) (lsR b)
def best (x : R4) : List R4 → R4
  | [] => x
  | y :: ys => best (if ltR y x then y else x) ys
theorem ltR_iff (a b : R4) : ltR a b = true ↔ a.1 < b.1 ∨ (a.1 = b.1 ∧ (a.2.1 < b.2.1 ∨ (a.2.1 = b.2.1 ∧ (a.2.2.1 < b.2.2.1 ∨ (a.2.2.1 = b.2.2.1 ∧ a.2.2.2 < b.2.2.2))))) := by
  obtain ⟨a, b', c, d⟩ := a
  obtain ⟨e, f, g, h⟩ := b
  unfold ltR lsR HT.lexLt
  by_cases h1 : a = e
  · subst h1
    by_cases h2 : b' = f
    · subst h2
      by_cases h3 : c = g
      · subst h3
        by_cases h4 : d = h
        · subst h4
          simp [HT.lexLt]
        · simp [HT.lexLt, h4]
      · simp [HT.lexLt, h3]
    · simp [HT.lexLt, h2]
  · simp [HT.lexLt, h1]
theorem ltR_false {a b : R4} (h : ltR a b = false) (k : ltR b a = false) : a = b := by
  have h' : ¬ ltR a b = true := by rw [h]; decide
  have k' : ¬ ltR b a = true := by rw [k]; decide
  rw [ltR_iff] at h' k'
  obtain ⟨a, b', c, d⟩ := a
  obtain ⟨e, f, g, i⟩ := b
  simp only at h' k'
  have : a = e := by omega
  have : b' = f := by omega
  have : c = g := by omega
  have : d = i := by omega
  subst_vars
  rfl
theorem ltR_tr {a b c : R4} (h : ltR a b = false) (k : ltR b c = false) : ltR a c = false := by
  have h' : ¬ ltR a b = true := by rw [h]; decide
  have k' : ¬ ltR b c = true := by rw [k]; decide
  cases q : ltR a c with
  | false => rfl
  | true =>
    exfalso
    rw [ltR_iff] at h' k' q
    omega
theorem best_ok : ∀ (ys : List R4) (x : R4), (best x ys = x ∨ best x ys ∈ ys) ∧ ltR x (best x ys) = false ∧ ∀ y ∈ ys, ltR y (best x ys) = false
  | [], x => ⟨.inl rfl, by
      cases q : ltR x x with
      | false => exact q
      | true => rw [ltR_iff] at q; omega, by simp⟩
  | y :: ys, x => by
    unfold best
    obtain ⟨h1, h2, h3⟩ := best_ok ys (if ltR y x then y else x)
    cases q : ltR y x with
    | true =>
      rw [q, if_pos rfl] at h1 h2 h3
      rw [if_pos rfl]
      refine ⟨?_, ?_, ?_⟩
      · rcases h1 with e | e
        · exact .inr (by rw [e]; exact List.mem_cons_self ..)
        · exact .inr (List.mem_cons_of_mem _ e)
      · refine ltR_tr ?_ h2
        cases p : ltR x y with
        | false => rfl
        | true =>
          exfalso
          rw [ltR_iff] at p q
          omega
      · intro z hz
        rcases List.mem_cons.mp hz with rfl | hz
        · exact h2
        · exact h3 z hz
    | false =>
      rw [q, if_neg (by decide)] at h1 h2 h3
      rw [if_neg (by decide)]
      refine ⟨?_, h2, ?_⟩
      · rcases h1 with e | e
        · exact .inl e
        · exact .inr (List.mem_cons_of_mem _ e)
      · intro z hz
        rcases List.mem_cons.mp hz with rfl | hz
        · exact ltR_tr q h2
        · exact h3 z hz
theorem best_eq {x b : R4} {ys : List R4} (h1 : b ∈ x :: ys) (h2 : ∀ y ∈ x :: ys, ltR y b = false) : best x ys = b := by
  obtain ⟨k1, k2, k3⟩ := best_ok ys x
  refine ltR_false (h2 _ ?_) ?_
  · rcases k1 with e | e
    · rw [e]; exact List.mem_cons_self ..
    · exact List.mem_cons_of_mem _ e
  · rcases List.mem_cons.mp h1 with rfl | h1
    · exact k2
    · exact k3 b h1
/-- the standing and the root link by rows -/
def leastM (own most : Int) (rows : List R4) : R4 := best (own, 0, -1, -1) (rows.filter fun r => decide (r.2.1 ≤ most))
def linkOf (r : R4) : Option Int := if r.2.2.2 = -1 then none else some r.2.2.2
def oiV : Option Int → V
  | none => .non
  | some k => .int k
def R4At (H : Hp) : List V → List R4 → Prop := Paired fun (v : V) (r : R4) => ∃ a, v = .ref a ∧ H a = some (.tup ((lsR r).map V.int))
theorem R4At.refs {H : Hp} : ∀ {xs : List V} {rows : List R4}, R4At H xs rows → ∃ rs : List (Addr × List Int), (rs.map fun r => V.ref r.1) = xs ∧ rs.map (·.2) = rows.map lsR ∧ ∀ r ∈ rs, H r.1 = some (.tup (r.2.map V.int))
  | _, _, .nil => ⟨[], rfl, rfl, by simp⟩
  | _, _, .cons (b := r) ⟨a, h1, h2⟩ t => by
    obtain ⟨rs, k1, k2, k3⟩ := R4At.refs t
    refine ⟨(a, lsR r) :: rs, by rw [List.map_cons, k1, h1], by rw [List.map_cons, List.map_cons, k2], fun q hq => ?_⟩
    rcases List.mem_cons.mp hq with rfl | hq
    · exact h2
    · exact k3 q hq
def sp_least : Sp := fun vs H Q _ => ∃ (own most : Int) (r : Addr) (xs : List V) (rows : List R4), vs = [.int own, .ref r, .int most] ∧ H r = some (.lst xs) ∧ R4At H xs rows ∧ xs.length ≤ 1000 ∧
  ∀ p H', H p = none → Ex H H' → H' p = some (.tup [.int (leastM own most rows).1, .int (leastM own most rows).2.1, oiV (linkOf (leastM own most rows))]) → Q (.ref p) H'
def sp_check : Sp := fun vs H Q _ => ∃ r : Str, vs = [.str r] ∧ r ∈ (["right", "hasty", "worse", "turned", "free", "kept"] : List Str) ∧ Q .non H
section
variable {P : Program} {w : World} {K : PySem.W.Frag} {mg : Str → Option Value} {base : Heap}
theorem ok_least (T : Tx K mg) : FnOk P w K mg base CX0 1 T.a_least T.d_least ["hall", "rows", "most"] sp_least := by
  refine T.F_least.ok sc_least (fun vs H Q E h => ?_) (fun cdv A outer s H vs Q E hr h => ?_)
  · obtain ⟨_, _, _, _, _, rfl, _⟩ := h
    rfl
  · obtain ⟨own, most, r, xs, rows, rfl, hr', hx, lx, q⟩ := h
    refine ⟨_, (pss_cons (ps_setLc (i := 3) (own := [("row", 8)]) (g := (gName 8)) rfl sc_least.nd rfl rfl (sw_true rfl rfl rfl (by decide +kernel)) (iListK (K := K) rfl (pv 1)) (blkOk_by (N := n_least) (sc := defScope s_least) (by decide +kernel)) (fun _ _ _ _ _ => (pg_name (i := 8) sc_least.nd rfl (Or.inl rfl))) (fun _ _ _ _ _ => (pts_one (pt_cmpR op_le (pe_ix (ix_tupK (K := K) rfl) (pv 8) pe_int (fun _ _ => rfl)) (pv 2) (nomark _)))) (fun _ _ _ _ _ => (pv 8)))
  (pss_cons (ps_asg (pe_callB (cr_minT (K := K) rfl rfl (hu_of hr)) (by rfl) T.z_min (by decide +kernel) (pa_cons (pe_op op_cat (pe_lst (pa_cons (pe_tup (pa_cons (pv 0) (pa_cons pe_int (pa_cons (pe_glob (v := .int (-1)) rfl T.v_NONE_BEYOND ⟨_, rfl⟩) (pa_cons (pe_glob (v := .int (-1)) rfl T.v_NONE_BEYOND ⟨_, rfl⟩) pa_nil))))) pa_nil)) (pv 3)) pa_nil)) (pg_tup rfl (pgs_cons (pg_name (i := 4) sc_least.nd rfl (Or.inl rfl)) (pgs_cons (pg_name (i := 5) sc_least.nd rfl (Or.inl rfl)) (pgs_cons (pg_name (i := 6) sc_least.nd rfl (Or.inl rfl)) (pgs_cons (pg_name (i := 7) sc_least.nd rfl (Or.inl rfl)) pgs_nil))))))
  (pss_one (ps_ret (pe_tup (pa_cons (pv 4) (pa_cons (pv 5) (pa_cons (pe_ifExp (pt_cmpR op_eq (pv 7) (pe_glob (v := .int (-1)) rfl T.v_NONE_BEYOND ⟨_, rfl⟩) (nomark _)) pe_non (pv 7)) pa_nil)))))))), ?_⟩
    refine ⟨_, rfl, r, rfl, ⟨_, SqL.of hr'⟩, fun D hD => lc_it walk_list (fun i H' => ∃ zs, Ex H H' ∧ H' D = some (.lst zs) ∧ zs.length ≤ i ∧ R4At H' zs ((rows.take i).filter fun r => decide (r.2.1 ≤ most))) ⟨[], Ex.new hD, upd_same, Nat.zero_le _, .nil⟩ (fun i H' _ ⟨_, e, _⟩ => SqL.of (e _ _ hr')) ?_ ?_⟩
    · rintro i x Ha Ha' hi ⟨zs, ex, hDa, lz, hz⟩ ⟨rfl, hxi⟩
      obtain ⟨rw_, hrw, a, rfl, ha⟩ := paired_at hx hxi
      have ha' := ex _ _ ha
      refine ⟨rfl, _, rfl, a, _, 1, _, rfl, rfl, SqT.of ha', atI_nat (j := 1) rfl, _, rfl, _, _, rfl, rfl, _, rfl, ite2 (fun en => ?_) (fun en => ?_)⟩
      · refine ⟨_, rfl, zs, hDa, len_lt (by omega), zs ++ [.ref a], ex.mut hD, upd_same, by rw [List.length_append, List.length_singleton]; omega, ?_⟩
        rw [take_snoc hrw, List.filter_append, List.filter_cons_of_pos (by simpa using en)]
        have keep : ∀ {x : Addr} {ys : List V}, Ha' x = some (.tup ys) → (upd Ha' D (.lst (zs ++ [.ref a]))) x = some (.tup ys) := fun {x ys} h => by
          rw [upd_ne (ne_of h hDa (by intro z; cases z))]
          exact h
        exact Paired.snoc (Paired.mapP hz fun v r ⟨b, h1, h2⟩ => ⟨b, h1, keep h2⟩) ⟨a, rfl, keep ha'⟩
      · refine ⟨zs, ex, hDa, by omega, ?_⟩
        rw [take_snoc hrw, List.filter_append, List.filter_cons_of_neg (by simpa using en)]
        rw [List.filter_nil, List.append_nil]
        exact hz
    · rintro H1 ⟨zs, ex, hD1, lz, hz⟩
      rw [Paired.length hx, List.take_length] at hz
      show tSeq _ _ _ _ _
      refine ⟨_, rfl, by show 4 ≤ sizeLine; decide, fun t ht => ⟨by show 1 ≤ sizeLine; decide, fun f hf => ⟨_, rfl, ?_⟩⟩⟩
      have et := Ex.new (o := .tup [.int own, .int 0, .int (-1), .int (-1)]) ht
      have ef := Ex.new (o := .lst [.ref t]) hf
      have e2 := et.trans ef
      refine ⟨f, D, [.ref t], zs, rfl, rfl, upd_same, e2 _ _ hD1, Nat.le_of_lt (len_lt (by rw [List.length_singleton]; omega)), fun c hc => ?_⟩
      have ec := Ex.new (o := .lst ([.ref t] ++ zs)) hc
      have e3 := e2.trans ec
      have ht3 := ec _ _ (ef _ _ (show (upd H1 t (.tup [.int own, .int 0, .int (-1), .int (-1)])) t = some (.tup [.int own, .int 0, .int (-1), .int (-1)]) from upd_same))
      have hc3 : (upd (upd (upd H1 t (.tup [.int own, .int 0, .int (-1), .int (-1)])) f (.lst [.ref t])) c (.lst ([.ref t] ++ zs))) c = some (.lst ([.ref t] ++ zs)) := upd_same
      unfold tNil
      dsimp only
      generalize upd (upd (upd H1 t (.tup [.int own, .int 0, .int (-1), .int (-1)])) f (.lst [.ref t])) c (.lst ([.ref t] ++ zs)) = H2 at e3 ht3 hc3 ⊢
      have hz3 : R4At H2 zs (rows.filter fun r => decide (r.2.1 ≤ most)) := Paired.mapP hz fun v r ⟨b, h1, h2⟩ => ⟨b, h1, e3 _ _ h2⟩
      obtain ⟨rs, r1, r2, r3⟩ := hz3.refs
      refine ⟨c, (t, [own, 0, -1, -1]) :: rs, rfl, SqL.of (by rw [List.map_cons, r1]; exact hc3), by simp, fun r hr => ?_, fun r hr hmin => ?_⟩
      · rcases List.mem_cons.mp hr with rfl | hr
        · exact SqT.of ht3
        · exact SqT.of (r3 r hr)
      · have all : ∀ y ∈ (own, 0, -1, -1) :: (rows.filter fun r => decide (r.2.1 ≤ most)), ∃ q ∈ (t, [own, 0, -1, -1]) :: rs, q.2 = lsR y := fun y hy => by
          rcases List.mem_cons.mp hy with rfl | hy
          · exact ⟨_, List.mem_cons_self .., rfl⟩
          · have : lsR y ∈ rs.map (·.2) := by rw [r2]; exact List.mem_map.mpr ⟨y, hy, rfl⟩
            obtain ⟨q, h1, h2⟩ := List.mem_map.mp this
            exact ⟨q, List.mem_cons_of_mem _ h1, h2⟩
        obtain ⟨b, hb, eb, hrt⟩ : ∃ b ∈ (own, 0, -1, -1) :: (rows.filter fun r => decide (r.2.1 ≤ most)), r.2 = lsR b ∧ H2 r.1 = some (.tup ((lsR b).map V.int)) := by
          rcases List.mem_cons.mp hr with rfl | hr
          · exact ⟨_, List.mem_cons_self .., rfl, ht3⟩
          · have : r.2 ∈ (rows.filter fun r => decide (r.2.1 ≤ most)).map lsR := by rw [← r2]; exact List.mem_map.mpr ⟨r, hr, rfl⟩
            obtain ⟨y, h1, h2⟩ := List.mem_map.mp this
            exact ⟨y, List.mem_cons_of_mem _ h1, h2.symm, by rw [h2]; exact r3 r hr⟩
        have hbest : leastM own most rows = b := best_eq hb fun y hy => by
          obtain ⟨q, h1, h2⟩ := all y hy
          have := hmin q h1
          rw [h2, eb] at this
          exact this
        refine ⟨r.1, _, rfl, SqT.of hrt, rfl, _, _, rfl, _, _, rfl, _, _, rfl, _, _, rfl, rfl, ?_⟩
        show tRet _ _ _ _
        have eH : Ex H H2 := ex.trans e3
        refine ⟨_, rfl, _, rfl, _, rfl, rfl, _, rfl, ?_⟩
        have fin : ∀ p, H2 p = none → (upd H2 p (.tup [.int b.1, .int b.2.1, oiV (linkOf b)])) p = some (.tup [.int b.1, .int b.2.1, oiV (linkOf b)]) → Q (.ref p) (upd H2 p (.tup [.int b.1, .int b.2.1, oiV (linkOf b)])) := fun p hp h => q p _ (fresh_back eH hp) (eH.trans (Ex.new hp)) (by rw [hbest]; exact h)
        refine ite2 (fun en => ⟨by show 3 ≤ sizeLine; decide, fun p hp => ?_⟩) (fun en => ⟨_, rfl, by show 3 ≤ sizeLine; decide, fun p hp => ?_⟩)
        · have lk : linkOf b = none := if_pos (by simpa using en)
          have := fin p hp upd_same
          rw [lk] at this
          exact this
        · have lk : linkOf b = some b.2.2.2 := if_neg (by simpa using en)
          have := fin p hp upd_same
          rw [lk] at this
          exact this
theorem ok_check (T : Tx K mg) : FnOk P w K mg base CX0 1 T.a_check_rule T.d_check_rule ["rule"] sp_check := by
  refine T.F_check_rule.ok sc_check_rule (fun vs H Q E h => ?_) (fun cdv A outer s H vs Q E hr h => ?_)
  · obtain ⟨_, rfl, _⟩ := h
    rfl
  · obtain ⟨r, rfl, hm, q⟩ := h
    refine ⟨_, (pss_one (ps_if (pt_cmpR (op_niK (K := K) rfl) (pv 0) (pe_glob (v := .ref T.a_RULES) rfl T.v_RULES rfl) (by rfl)) (pss_one ps_never) pss_nil)), ?_⟩
    refine ⟨_, rfl, T.a_RULES, _, rfl, .inr (T.s_RULES H), rfl, rfl, _, rfl, ?_⟩
    have hi : inV (.str r) [.str ("right" : Str), .str ("hasty" : Str), .str ("worse" : Str), .str ("turned" : Str), .str ("free" : Str), .str ("kept" : Str)] = true := by
      simp only [List.mem_cons, List.not_mem_nil, or_false] at hm
      rcases hm with rfl | rfl | rfl | rfl | rfl | rfl <;> decide +kernel
    rw [if_pos rfl, hi]
    exact iteF (un_next q)
end
end K24

set_option maxHeartbeats 2000000
namespace K24
open PySem PySem.Spec PyProof.Rows L2 Evl MyG
/-! ### letters -/
inductive Lt where
  | say (n r f : Int)
  | agree (n : Int)
deriving DecidableEq
def Lt.vs : Lt → List V
  | .say n r f => [.str "say", .int n, .int r, .int f]
  | .agree n => [.str "agree", .int n]
def Lt.ds : Lt → List PyData
  | .say n r f => [.str "say", .int n, .int r, .int f]
  | .agree n => [.str "agree", .int n]
def fS (n r f : Int) : List (Str × V) := putF "far" (.int f) (putF "root" (.int r) (putF "number" (.int n) []))
def fA (n : Int) : List (Str × V) := putF "number" (.int n) []
theorem nr_ : ¬ (("number" : Str) = "root") := by decide +kernel
theorem nf_ : ¬ (("number" : Str) = "far") := by decide +kernel
theorem rf_ : ¬ (("root" : Str) = "far") := by decide +kernel
theorem tn_ : ¬ (("told" : Str) = "number") := by decide +kernel
theorem tr_ : ¬ (("told" : Str) = "root") := by decide +kernel
theorem tf_ : ¬ (("told" : Str) = "far") := by decide +kernel
theorem fS_n (n r f : Int) : (fS n r f).lookup ("number" : Str) = some (.int n) := by
  unfold fS
  rw [lookup_putF, if_neg nf_, lookup_putF, if_neg nr_, lookup_putF, if_pos rfl]
theorem fS_r (n r f : Int) : (fS n r f).lookup ("root" : Str) = some (.int r) := by
  unfold fS
  rw [lookup_putF, if_neg rf_, lookup_putF, if_pos rfl]
theorem fS_f (n r f : Int) : (fS n r f).lookup ("far" : Str) = some (.int f) := by
  unfold fS
  rw [lookup_putF, if_pos rfl]
theorem fS_t (n r f : Int) : (fS n r f).lookup ("told" : Str) = none := by
  unfold fS
  rw [lookup_putF, if_neg tf_, lookup_putF, if_neg tr_, lookup_putF, if_neg tn_]
  rfl
theorem fA_n (n : Int) : (fA n).lookup ("number" : Str) = some (.int n) := by
  unfold fA
  rw [lookup_putF, if_pos rfl]
theorem fA_t (n : Int) : (fA n).lookup ("told" : Str) = none := by
  unfold fA
  rw [lookup_putF, if_neg tn_]
  rfl
theorem putF_len (f : Str) (v : V) : ∀ fs : List (Str × V), (putF f v fs).length ≤ fs.length + 1
  | [] => Nat.le_refl _
  | (g, x) :: r => by
    unfold putF
    split
    · exact Nat.le_succ _
    · exact Nat.succ_le_succ (putF_len f v r)
/-- a letter stands at p; S, A: the classes -/
def LtAt (S A : Addr) (H : Hp) (p : Addr) : Lt → Prop
  | .say n r f => ∃ dx, H p = some (.ins S dx (fS n r f))
  | .agree n => ∃ dx, H p = some (.ins A dx (fA n))
theorem LtAt.ext {S A p : Addr} {H H' : Hp} (e : Ex H H') : ∀ {l : Lt}, LtAt S A H p l → LtAt S A H' p l
  | .say _ _ _, ⟨dx, h⟩ => ⟨dx, e _ _ h⟩
  | .agree _, ⟨dx, h⟩ => ⟨dx, e _ _ h⟩
theorem lt_dq {H : Hp} : ∀ l : Lt, DqAll H l.vs l.ds
  | .say n r f => .cons (.str _) (.cons (.int _) (.cons (.int _) (.cons (.int _) .nil)))
  | .agree n => .cons (.str _) (.cons (.int _) .nil)
theorem lt_alk (k : Nat) (l : Lt) : alk (k + 2) (.tuple l.ds) = true := by
  cases l <;> simp [alk, Lt.ds]
def sp_initS (C : Addr) : Sp := fun vs H Q _ => ∃ (dx p : Addr) (n r f : Int), vs = [.ref p, .int n, .int r, .int f] ∧ H p = some (.ins C dx []) ∧ ∀ H', (∀ a, a ≠ p → H' a = H a) → H' p = some (.ins C dx (fS n r f)) → Q .non H'
def sp_initA (C : Addr) : Sp := fun vs H Q _ => ∃ (dx p : Addr) (n : Int), vs = [.ref p, .int n] ∧ H p = some (.ins C dx []) ∧ ∀ H', (∀ a, a ≠ p → H' a = H a) → H' p = some (.ins C dx (fA n)) → Q .non H'
def sp_toldS (C : Addr) : Sp := fun vs H Q _ => ∃ (dx p : Addr) (n r f : Int), vs = [.ref p] ∧ H p = some (.ins C dx (fS n r f)) ∧ ∀ t H', H t = none → Ex H H' → H' t = some (.tup (Lt.say n r f).vs) → Q (.ref t) H'
def sp_toldA (C : Addr) : Sp := fun vs H Q _ => ∃ (dx p : Addr) (n : Int), vs = [.ref p] ∧ H p = some (.ins C dx (fA n)) ∧ ∀ t H', H t = none → Ex H H' → H' t = some (.tup (Lt.agree n).vs) → Q (.ref t) H'
section
variable {P : Program} {w : World} {K : PySem.W.Frag} {mg : Str → Option Value} {base : Heap}
theorem ok_initS (T : Tx K mg) : FnOk P w K mg base CX0 1 T.a_Say___init__ T.d_Say___init__ ["self", "number", "root", "far"] (sp_initS T.c_Say) := by
  refine T.F_Say___init__.ok sc_Say___init__ (fun vs H Q E h => ?_) (fun cdv A outer s H vs Q E hr h => ?_)
  · obtain ⟨_, _, _, _, _, rfl, _⟩ := h
    rfl
  · obtain ⟨dx, p, n, r, f, rfl, hp, q⟩ := h
    refine ⟨_, (pss_cons (ps_fld (pv 0) (pv 1) rfl)
  (pss_cons (ps_fld (pv 0) (pv 2) rfl)
  (pss_one (ps_fld (pv 0) (pv 3) rfl)))), ?_⟩
    refine ⟨_, rfl, _, rfl, p, T.c_Say, dx, [], rfl, hp, T.cl_Say, T.n_Say_number, (by show 0 < 1000; decide), ?_⟩
    refine ⟨_, rfl, _, rfl, p, T.c_Say, dx, _, rfl, upd_same, T.cl_Say, T.n_Say_root, (by show 1 < 1000; decide), ?_⟩
    refine ⟨_, rfl, _, rfl, p, T.c_Say, dx, _, rfl, upd_same, T.cl_Say, T.n_Say_far, Nat.lt_of_le_of_lt (putF_len _ _ _) (by show 2 < 1000; decide), ?_⟩
    exact q _ (fun a ha => by rw [upd_ne ha, upd_ne ha, upd_ne ha]) upd_same
theorem ok_initA (T : Tx K mg) : FnOk P w K mg base CX0 1 T.a_Agree___init__ T.d_Agree___init__ ["self", "number"] (sp_initA T.c_Agree) := by
  refine T.F_Agree___init__.ok sc_Agree___init__ (fun vs H Q E h => ?_) (fun cdv A outer s H vs Q E hr h => ?_)
  · obtain ⟨_, _, _, rfl, _⟩ := h
    rfl
  · obtain ⟨dx, p, n, rfl, hp, q⟩ := h
    refine ⟨_, (pss_one (ps_fld (pv 0) (pv 1) rfl)), ?_⟩
    refine ⟨_, rfl, _, rfl, p, T.c_Agree, dx, [], rfl, hp, T.cl_Agree, T.n_Agree_number, (by show 0 < 1000; decide), ?_⟩
    exact q _ (fun a ha => by rw [upd_ne ha]) upd_same
theorem ok_toldS (T : Tx K mg) : FnOk P w K mg base CX0 1 T.a_Say_told T.d_Say_told ["self"] (sp_toldS T.c_Say) := by
  refine T.F_Say_told.ok sc_Say_told (fun vs H Q E h => ?_) (fun cdv A outer s H vs Q E hr h => ?_)
  · obtain ⟨_, _, _, _, _, rfl, _⟩ := h
    rfl
  · obtain ⟨dx, p, n, r, f, rfl, hp, q⟩ := h
    refine ⟨_, (pss_one (ps_ret (pe_tup (pa_cons pe_str (pa_cons (fldK (K := K) rfl (pv 0) rfl) (pa_cons (fldK (K := K) rfl (pv 0) rfl) (pa_cons (fldK (K := K) rfl (pv 0) rfl) pa_nil))))))), ?_⟩
    exact s_retU (eu_tup (ea_cons ev_c (ea_cons (ev_fld (ev_var rfl) hp T.cl_Say T.n_Say_number (fS_n _ _ _)) (ea_cons (ev_fld (ev_var rfl) hp T.cl_Say T.n_Say_root (fS_r _ _ _)) (ea_cons (ev_fld (ev_var rfl) hp T.cl_Say T.n_Say_far (fS_f _ _ _)) ea_nil)))) (by show 4 ≤ 100000; decide)) fun t H1 ht e h => q t H1 ht e h
theorem ok_toldA (T : Tx K mg) : FnOk P w K mg base CX0 1 T.a_Agree_told T.d_Agree_told ["self"] (sp_toldA T.c_Agree) := by
  refine T.F_Agree_told.ok sc_Agree_told (fun vs H Q E h => ?_) (fun cdv A outer s H vs Q E hr h => ?_)
  · obtain ⟨_, _, _, rfl, _⟩ := h
    rfl
  · obtain ⟨dx, p, n, rfl, hp, q⟩ := h
    refine ⟨_, (pss_one (ps_ret (pe_tup (pa_cons pe_str (pa_cons (fldK (K := K) rfl (pv 0) rfl) pa_nil))))), ?_⟩
    exact s_retU (eu_tup (ea_cons ev_c (ea_cons (ev_fld (ev_var rfl) hp T.cl_Agree T.n_Agree_number (fA_n _)) ea_nil)) (by show 2 ≤ 100000; decide)) fun t H1 ht e h => q t H1 ht e h
theorem ev_isiC {σ : L2.St} {H : Hp} {te : TE} {C D p dx : Addr} {fs : List (Str × V)} {b : Bool} (ha : Ev te σ H (.ref p)) (h : H p = some (.ins D dx fs)) (q : IsiC K D) (cl : Cls K D) (kb : PySem.W.kitOne K (.ref D) (.ref C) = some b) : Ev (tCB (rIsi K) (tCons te (tCons (tC (.ref C)) tNil))) σ H (.bl b) := fun H1 e Q k =>
  ha H1 e _ fun H2 e2 => isi_insD q cl kb ((e.trans e2) _ _ h) (k H2 e2)
theorem ev_isiNo {σ : L2.St} {H : Hp} {te : TE} {C : Addr} {y : V} {t : String} (ha : Ev te σ H y) (h : AnyT H y t) (q : IsiC K C) : Ev (tCB (rIsi K) (tCons te (tCons (tC (.ref C)) tNil))) σ H (.bl false) := fun H1 e Q k =>
  ha H1 e _ fun H2 e2 => isi_no q (h.ext (e.trans e2)) (k H2 e2)
theorem LtAt.know {S A p : Addr} {H : Hp} {l : Lt} (h : LtAt S A H p l) : ∃ o, H p = some o ∧ ∀ B : Hp, LtAt S A (upd B p o) p l := by
  cases l with
  | say n r f => obtain ⟨dx, h⟩ := h; exact ⟨_, h, fun B => ⟨dx, upd_same⟩⟩
  | agree n => obtain ⟨dx, h⟩ := h; exact ⟨_, h, fun B => ⟨dx, upd_same⟩⟩
end
end K24

set_option maxHeartbeats 1000000
namespace K24
open PySem PySem.Spec PyProof.Rows L2 Evl MyG
/-! ### a door -/
inductive Part | root | leads | beside
deriving DecidableEq
def partS : Part → Str
  | .root => "root"
  | .leads => "leads"
  | .beside => "beside"
def partV : Option Part → V
  | none => .non
  | some p => .str (partS p)
structure Dr where
  bey : Int
  cost : Int
  part : Option Part
  was : Bool
  hn : Int
  hs : Option (Int × Int)
  said : Int
  cf : Int
  agT : Int
  agH : Int
def newDr (bey cost : Int) : Dr := ⟨bey, cost, none, false, 0, none, 0, 1, 0, 0⟩
def fD (d : Dr) (hv : V) : List (Str × V) := [("other_hall", .int d.bey), ("link_cost", .int d.cost), ("part", partV d.part), ("was_root", .bl d.was), ("heard_number", .int d.hn), ("heard_standing", hv), ("said", .int d.said), ("counts_from", .int d.cf), ("agreed_there", .int d.agT), ("agreed_here", .int d.agH)]
def pairD (p : Int × Int) : List V := [.int p.1, .int p.2]
/-- what was heard, as a value -/
def HsAt (B : Hp) (v : V) : Option (Int × Int) → Prop
  | none => v = .non
  | some p => ∃ a, v = .ref a ∧ B a = some (.tup (pairD p))
def sp_isnum : Sp := fun vs H Q _ => ∃ x t, vs = [x] ∧ AnyT H x t ∧ Q (.bl (t == "int")) H
def sp_dinit (C : Addr) : Sp := fun vs H Q _ => ∃ (dx p : Addr) (b c : Int), vs = [.ref p, .int b, .int c] ∧ H p = some (.ins C dx []) ∧ ∀ H', (∀ a, a ≠ p → H' a = H a) → H' p = some (.ins C dx (fD (newDr b c) .non)) → Q .non H'
section
variable {P : Program} {w : World} {K : PySem.W.Frag} {mg : Str → Option Value} {base : Heap}
theorem ok_dinit (T : Tx K mg) : FnOk P w K mg base CX0 1 T.a_Door___init__ T.d_Door___init__ ["self", "beyond", "cost"] (sp_dinit T.c_Door) := by
  refine T.F_Door___init__.ok sc_Door___init__ (fun vs H Q E h => ?_) (fun cdv A outer s H vs Q E hr h => ?_)
  · obtain ⟨_, _, _, _, rfl, _⟩ := h
    rfl
  · obtain ⟨dx, p, b, c, rfl, hp, q⟩ := h
    refine ⟨_, (pss_cons (ps_fld (pv 0) (pv 1) rfl)
  (pss_cons (ps_fld (pv 0) (pv 2) rfl)
  (pss_cons (ps_fld (pv 0) pe_non rfl)
  (pss_cons (ps_fld (pv 0) pe_bl rfl)
  (pss_cons (ps_fld (pv 0) (pe_glob (v := .int (0)) rfl T.v_NOTHING ⟨_, rfl⟩) rfl)
  (pss_cons (ps_fld (pv 0) pe_non rfl)
  (pss_cons (ps_fld (pv 0) (pe_glob (v := .int (0)) rfl T.v_NOTHING ⟨_, rfl⟩) rfl)
  (pss_cons (ps_fld (pv 0) pe_int rfl)
  (pss_cons (ps_fld (pv 0) (pe_glob (v := .int (0)) rfl T.v_NOTHING ⟨_, rfl⟩) rfl)
  (pss_one (ps_fld (pv 0) (pe_glob (v := .int (0)) rfl T.v_NOTHING ⟨_, rfl⟩) rfl))))))))))), ?_⟩
    have go : ∀ {H1 : Hp} {fs : List (Str × V)} {o : HO}, (∀ a, a ≠ p → H1 a = H a) → ∀ a, a ≠ p → (upd H1 p o) a = H a := fun h a ne => by rw [upd_ne ne]; exact h a ne
    refine ⟨_, rfl, _, rfl, p, T.c_Door, dx, [], rfl, hp, T.cl_Door, T.n_Door_other_hall, (by show 0 < 1000; decide), ?_⟩
    refine ⟨_, rfl, _, rfl, p, T.c_Door, dx, _, rfl, upd_same, T.cl_Door, T.n_Door_link_cost, (by show 1 < 1000; decide), ?_⟩
    refine ⟨_, rfl, p, T.c_Door, dx, _, rfl, upd_same, T.cl_Door, T.n_Door_part, (by show 2 < 1000; decide), ?_⟩
    refine ⟨_, rfl, p, T.c_Door, dx, _, rfl, upd_same, T.cl_Door, T.n_Door_was_root, (by show 3 < 1000; decide), ?_⟩
    refine ⟨_, rfl, p, T.c_Door, dx, _, rfl, upd_same, T.cl_Door, T.n_Door_heard_number, (by show 4 < 1000; decide), ?_⟩
    refine ⟨_, rfl, p, T.c_Door, dx, _, rfl, upd_same, T.cl_Door, T.n_Door_heard_standing, (by show 5 < 1000; decide), ?_⟩
    refine ⟨_, rfl, p, T.c_Door, dx, _, rfl, upd_same, T.cl_Door, T.n_Door_said, (by show 6 < 1000; decide), ?_⟩
    refine ⟨_, rfl, p, T.c_Door, dx, _, rfl, upd_same, T.cl_Door, T.n_Door_counts_from, (by show 7 < 1000; decide), ?_⟩
    refine ⟨_, rfl, p, T.c_Door, dx, _, rfl, upd_same, T.cl_Door, T.n_Door_agreed_there, (by show 8 < 1000; decide), ?_⟩
    refine ⟨_, rfl, p, T.c_Door, dx, _, rfl, upd_same, T.cl_Door, T.n_Door_agreed_here, (by show 9 < 1000; decide), ?_⟩
    refine q _ (fun a ne => ?_) (by rw [upd_same]; rfl)
    simp only [upd_ne ne]
theorem ok_isnum (T : Tx K mg) : FnOk P w K mg base CX0 1 T.a_is_number T.d_is_number ["thing"] sp_isnum := by
  refine T.F_is_number.ok sc_is_number (fun vs H Q E h => ?_) (fun cdv A outer s H vs Q E hr h => ?_)
  · obtain ⟨_, _, rfl, _⟩ := h
    rfl
  · obtain ⟨x, t, rfl, ht, q⟩ := h
    refine ⟨_, (pss_one (ps_ret (pe_and (pe_callB (isiK (K := K) rfl) (by rfl) T.z_isinstance (by decide +kernel) (pa_cons (pv 0) (pa_cons (pe_bltn (v := .ty "int") (by rfl) T.z_int (by decide +kernel) rfl) pa_nil))) (pe_one (pe_not (pe_callB (isiK (K := K) rfl) (by rfl) T.z_isinstance (by decide +kernel) (pa_cons (pv 0) (pa_cons (pe_bltn (v := .ty "bool") (by rfl) T.z_bool (by decide +kernel) rfl) pa_nil)))))))), ?_⟩
    refine ⟨_, rfl, ?_⟩
    refine ⟨_, .ty "int", _, .type "int", _, rfl, .ty _, ht.ty, kit_ty (kit_all ht.mem).1, ?_⟩
    refine ⟨_, rfl, ?_⟩
    cases hb : (t == "int" || t == "bool") with
    | true =>
      refine iteT ?_
      refine ⟨_, rfl, ?_⟩
      refine ⟨_, .ty "bool", _, .type "bool", _, rfl, .ty _, ht.ty, kit_ty (kit_all ht.mem).2.1, ?_⟩
      refine ⟨_, rfl, ?_⟩
      rw [Bool.or_eq_true] at hb
      rcases hb with e | e
      · rw [eq_of_beq e] at q ⊢
        exact q
      · rw [eq_of_beq e] at q ⊢
        exact q
    | false =>
      refine iteF ?_
      rw [Bool.or_eq_false_iff] at hb
      rw [hb.1] at q
      exact q
end
/-! ### a hall -/
structure HSt where
  own : Int
  most : Int
  rule : Str
  ends : List (Int × Int × Int)
  doors : List (Int × Option Dr)
  st : Int × Int
  rl : Option Int
def fH (h : HSt) (e d s : Addr) (po : Option Addr) : List (Str × V) := ([("_hall", .int h.own), ("_ends", .ref e), ("_most", .int h.most), ("_rule", .str h.rule), ("_doors", .ref d), ("_standing", .ref s), ("_root_link", oiV h.rl)] : List (Str × V)) ++ (match po with | none => [] | some a => [(("_posted" : Str), V.ref a)])
def DoorAt (D : Addr) (B M : Hp) (v : V) : Option Dr → Prop
  | none => v = .non
  | some dr => ∃ a dx hv, v = .ref a ∧ M a = some (.ins D dx (fD dr hv)) ∧ HsAt B hv dr.hs
def intK (ls : List Int) (vs : List V) : List (Key × V) := List.zipWith (fun l v => (Sum.inl l, v)) ls vs
def EndsV (B : Hp) : List V → List (Int × Int × Int) → Prop := Paired fun (v : V) (e : Int × Int × Int) => ∃ a, v = .ref a ∧ B a = some (.tup (pairD e.2))
/-- a hall at p in the region M; what is told at doors stands in B -/
structure HallIn (C D : Addr) (B M : Hp) (p : Addr) (h : HSt) (po : Option Addr) (e d s : Addr) (vs : List V) : Prop where
  self : ∃ dx, M p = some (.ins C dx (fH h e d s po))
  ends : ∃ evs, M e = some (.dK (intK (h.ends.map (·.1)) evs)) ∧ EndsV B evs h.ends
  doors : M d = some (.dK (intK (h.doors.map (·.1)) vs))
  each : Paired (fun (v : V) (x : Int × Option Dr) => DoorAt D B M v x.2) vs h.doors
  apart : vs.Pairwise fun v u => v = u → v = .non
  std : B s = some (.tup (pairD h.st))
  nd : (h.doors.map (·.1)).Nodup
  ed : e ≠ d
  es : h.ends.map (·.1) = h.doors.map (·.1)
theorem intK_at : ∀ {ls : List Int} {vs : List V} {i : Nat} {l : Int} {v : V}, ls.Nodup → ls[i]? = some l → vs[i]? = some v → valV (intK ls vs) (Sum.inl l) = some v
  | [], _, _, _, _, _, h, _ => by simp at h
  | _ :: _, [], _, _, _, _, _, h => by simp at h
  | l0 :: ls, v0 :: vs, 0, l, v, nd, h1, h2 => by
    simp only [List.getElem?_cons_zero, Option.some.injEq] at h1 h2
    subst h1 h2
    exact valV_pos rfl
  | l0 :: ls, v0 :: vs, i + 1, l, v, nd, h1, h2 => by
    simp only [List.getElem?_cons_succ] at h1 h2
    rw [List.nodup_cons] at nd
    show valV ((Sum.inl l0, v0) :: intK ls vs) (Sum.inl l) = _
    rw [valV_neg (fun e => nd.1 (by rw [Sum.inl.inj e]; exact List.mem_of_getElem? h1))]
    exact intK_at nd.2 h1 h2
def sp_hstanding (C D : Addr) : Sp := fun vs H Q _ => ∃ (p : Addr) (B M : Hp) (h : HSt) (po : Option Addr) (e d s : Addr) (ws : List V), vs = [.ref p] ∧ Ex M H ∧ HallIn C D B M p h po e d s ws ∧ Q (.ref s) H
def sp_hrootlink (C D : Addr) : Sp := fun vs H Q _ => ∃ (p : Addr) (B M : Hp) (h : HSt) (po : Option Addr) (e d s : Addr) (ws : List V), vs = [.ref p] ∧ Ex M H ∧ HallIn C D B M p h po e d s ws ∧ Q (oiV h.rl) H
def sp_hdoor (C D : Addr) : Sp := fun vs H Q _ => ∃ (p : Addr) (B M : Hp) (h : HSt) (po : Option Addr) (e d s : Addr) (ws : List V) (i : Nat) (k : Int) (v : V), vs = [.ref p, .int k] ∧ Ex M H ∧ HallIn C D B M p h po e d s ws ∧ (h.doors.map (·.1))[i]? = some k ∧ ws[i]? = some v ∧ Q v H
def sp_hrunning (C D : Addr) : Sp := fun vs H Q _ => ∃ (p : Addr) (B M : Hp) (h : HSt) (po : Option Addr) (e d s : Addr) (ws : List V) (i : Nat) (k : Int) (a : Addr), vs = [.ref p, .int k] ∧ Ex M H ∧ HallIn C D B M p h po e d s ws ∧ (h.doors.map (·.1))[i]? = some k ∧ ws[i]? = some (.ref a) ∧ Q (.ref a) H
def openD (rule : Str) (d : Dr) : Bool :=
  match d.part with
  | some .leads => decide (rule = "hasty") || decide (d.cf ≤ d.agT)
  | some .root => true
  | _ => decide (rule = "kept") && d.was
def roleV : Option Dr → V
  | none => .str "cut"
  | some d => partV d.part
def openV (rule : Str) : Option Dr → Bool
  | none => false
  | some d => openD rule d
def hsO : Option Dr → Option (Int × Int)
  | none => none
  | some d => d.hs
theorem pv_nl : ¬ decide (partV none = V.str "leads") = true := by decide +kernel
theorem pv_nr : ¬ decide (partV none = V.str "root") = true := by decide +kernel
theorem pv_rl : ¬ decide (partV (some .root) = V.str "leads") = true := by decide +kernel
theorem pv_rr : decide (partV (some .root) = V.str "root") = true := by decide +kernel
theorem pv_bl : ¬ decide (partV (some .beside) = V.str "leads") = true := by decide +kernel
theorem pv_br : ¬ decide (partV (some .beside) = V.str "root") = true := by decide +kernel
theorem pv_ll : decide (partV (some .leads) = V.str "leads") = true := by decide +kernel
def sp_hrole (C D : Addr) : Sp := fun vs H Q _ => ∃ (p : Addr) (B M : Hp) (h : HSt) (po : Option Addr) (e d s : Addr) (ws : List V) (i : Nat) (k : Int) (x : Option Dr), vs = [.ref p, .int k] ∧ Ex M H ∧ HallIn C D B M p h po e d s ws ∧ h.doors[i]? = some (k, x) ∧ Q (roleV x) H
def sp_hheard (C D : Addr) : Sp := fun vs H Q _ => ∃ (p : Addr) (B M : Hp) (h : HSt) (po : Option Addr) (e d s : Addr) (ws : List V) (i : Nat) (k : Int) (x : Option Dr), vs = [.ref p, .int k] ∧ Ex M H ∧ HallIn C D B M p h po e d s ws ∧ h.doors[i]? = some (k, x) ∧ ∀ v, HsAt B v (hsO x) → Q v H
def sp_hisopen (C D : Addr) : Sp := fun vs H Q _ => ∃ (p : Addr) (B M : Hp) (h : HSt) (po : Option Addr) (e d s : Addr) (ws : List V) (i : Nat) (k : Int) (x : Option Dr), vs = [.ref p, .int k] ∧ Ex M H ∧ HallIn C D B M p h po e d s ws ∧ h.doors[i]? = some (k, x) ∧ Q (.bl (openV h.rule x)) H
def sp_hposted (C D : Addr) : Sp := fun vs H Q _ => ∃ (p : Addr) (B M : Hp) (h : HSt) (a e d s : Addr) (ws xs : List V), vs = [.ref p] ∧ Ex M H ∧ HallIn C D B M p h (some a) e d s ws ∧ H a = some (.lst xs) ∧ ∀ z H', H z = none → Ex H H' → H' z = some (.lst xs) → Q (.ref z) H'
section
variable {P : Program} {w : World} {K : PySem.W.Frag} {mg : Str → Option Value} {base : Heap}
theorem ok_hstanding (T : Tx K mg) : FnOk P w K mg base CX0 1 T.a_Hall_standing T.d_Hall_standing ["self"] (sp_hstanding T.c_Hall T.c_Door) := by
  refine T.F_Hall_standing.ok sc_Hall_standing (fun vs H Q E h => ?_) (fun cdv A outer s H vs Q E hr h => ?_)
  · obtain ⟨_, _, _, _, _, _, _, _, _, rfl, _⟩ := h
    rfl
  · obtain ⟨p, B, M, h, po, e, d, s, ws, rfl, eM, ha, q⟩ := h
    refine ⟨_, (pss_one (ps_ret (fldK (K := K) rfl (pv 0) rfl))), ?_⟩
    obtain ⟨dx, hp⟩ := ha.self
    exact ⟨_, rfl, p, T.c_Hall, dx, _, _, rfl, eM _ _ hp, T.cl_Hall, T.n_Hall__standing, rfl, q⟩
theorem ok_hrootlink (T : Tx K mg) : FnOk P w K mg base CX0 1 T.a_Hall_root_link T.d_Hall_root_link ["self"] (sp_hrootlink T.c_Hall T.c_Door) := by
  refine T.F_Hall_root_link.ok sc_Hall_root_link (fun vs H Q E h => ?_) (fun cdv A outer s H vs Q E hr h => ?_)
  · obtain ⟨_, _, _, _, _, _, _, _, _, rfl, _⟩ := h
    rfl
  · obtain ⟨p, B, M, h, po, e, d, s, ws, rfl, eM, ha, q⟩ := h
    refine ⟨_, (pss_one (ps_ret (fldK (K := K) rfl (pv 0) rfl))), ?_⟩
    obtain ⟨dx, hp⟩ := ha.self
    exact ⟨_, rfl, p, T.c_Hall, dx, _, _, rfl, eM _ _ hp, T.cl_Hall, T.n_Hall__root_link, rfl, q⟩
theorem ok_hdoor (T : Tx K mg) : FnOk P w K mg base CX0 2 T.a_Hall__door T.d_Hall__door ["self", "link"] (sp_hdoor T.c_Hall T.c_Door) := by
  have G_is_number := ok_isnum (P := P) (w := w) (base := base) T
  refine T.F_Hall__door.ok sc_Hall__door (fun vs H Q E h => ?_) (fun cdv A outer s H vs Q E hr h => ?_)
  · obtain ⟨_, _, _, _, _, _, _, _, _, _, _, _, rfl, _⟩ := h
    rfl
  · obtain ⟨p, B, M, h, po, e, d, s, ws, i, k, v, rfl, eM, ha, hk, hv, q⟩ := h
    refine ⟨_, (pss_cons (ps_if (PW.pt (pw_or (pt_not (pt_val (pe_call G_is_number (hr.mono (by decide)) (by rfl) T.g_is_number T.F_is_number.kp T.b_is_number .nil pass0 (pa_cons (pv 1) pa_nil)))) (pw_or1 (pt_cmp (pc_dnotin (hu_of hr) (pv 1) (fldK (K := K) rfl (pv 0) rfl)))))) (pss_one ps_never) pss_nil)
  (pss_one (ps_ret (pe_dget (Nat.lt_of_le_of_lt (Nat.add_le_add_left (by decide) _) hr.units) (fldK (K := K) rfl (pv 0) rfl) (pv 1) (fun _ _ => rfl))))), ?_⟩
    obtain ⟨dx, hp⟩ := ha.self
    have g : DGet H d (.int k) (some v) := by
      have := DGet.k (k := Sum.inl k) (eM _ _ ha.doors)
      rw [intK_at ha.nd hk hv] at this
      exact this
    refine ⟨_, rfl, _, "int", rfl, .int _, _, rfl, ?_⟩
    refine iteF ⟨_, rfl, _, rfl, p, T.c_Hall, dx, _, _, rfl, eM _ _ hp, T.cl_Hall, T.n_Hall__doors, rfl, d, some v, rfl, g, _, rfl, iteF ?_⟩
    exact ⟨_, rfl, p, T.c_Hall, dx, _, _, rfl, eM _ _ hp, T.cl_Hall, T.n_Hall__doors, rfl, _, rfl, d, v, rfl, g, q⟩
theorem ok_hrunning (T : Tx K mg) : FnOk P w K mg base CX0 3 T.a_Hall__running T.d_Hall__running ["self", "link"] (sp_hrunning T.c_Hall T.c_Door) := by
  have G_Hall__door := ok_hdoor (P := P) (w := w) (base := base) T
  refine T.F_Hall__running.ok sc_Hall__running (fun vs H Q E h => ?_) (fun cdv A outer s H vs Q E hr h => ?_)
  · obtain ⟨_, _, _, _, _, _, _, _, _, _, _, _, rfl, _⟩ := h
    rfl
  · obtain ⟨p, B, M, h, po, e, d, s, ws, i, k, a, rfl, eM, ha, hk, hv, q⟩ := h
    refine ⟨_, (pss_cons (ps_set (i := 2) sc_Hall__running.nd rfl (Or.inl rfl) (pe_meth (pv 0) T.cl_Hall T.me_Hall__door G_Hall__door (hr.mono (by decide)) T.b_Hall__door .nil pass0 (pa_cons (pv 1) pa_nil)))
  (pss_cons (ps_if (pt_cmpR op_isN (pv 2) pe_non (nomark _)) (pss_one ps_never) pss_nil)
  (pss_one (ps_ret (pv 2))))), ?_⟩
    obtain ⟨dx, hp⟩ := ha.self
    refine ⟨_, rfl, p, dx, _, rfl, eM _ _ hp, by cases po <;> rfl, _, rfl, p, B, M, h, po, e, d, s, ws, i, k, _, rfl, eM, ha, hk, hv, ?_⟩
    show tSeq _ _ _ _ _
    exact ⟨_, rfl, rfl, _, rfl, ite2 (fun z => absurd z (by simp)) (fun _ => un_next ⟨_, rfl, q⟩)⟩
theorem ok_hrole (T : Tx K mg) : FnOk P w K mg base CX0 3 T.a_Hall_role T.d_Hall_role ["self", "link"] (sp_hrole T.c_Hall T.c_Door) := by
  have G_Hall__door := ok_hdoor (P := P) (w := w) (base := base) T
  refine T.F_Hall_role.ok sc_Hall_role (fun vs H Q E h => ?_) (fun cdv A outer s H vs Q E hr h => ?_)
  · obtain ⟨_, _, _, _, _, _, _, _, _, _, _, _, rfl, _⟩ := h
    rfl
  · obtain ⟨p, B, M, h, po, e, d, s, ws, i, k, x, rfl, eM, ha, hi, q⟩ := h
    refine ⟨_, (pss_cons (ps_set (i := 2) sc_Hall_role.nd rfl (Or.inl rfl) (pe_meth (pv 0) T.cl_Hall T.me_Hall__door G_Hall__door (hr.mono (by decide)) T.b_Hall__door .nil pass0 (pa_cons (pv 1) pa_nil)))
  (pss_one (ps_ret (pe_ifExp (pt_cmpR op_isN (pv 2) pe_non (nomark _)) pe_str (fldK (K := K) rfl (pv 2) rfl))))), ?_⟩
    obtain ⟨dx, hp⟩ := ha.self
    obtain ⟨v, hv, hd⟩ := paired_at0 ha.each hi
    have hk : (h.doors.map (·.1))[i]? = some k := by rw [List.getElem?_map, hi]; rfl
    refine ⟨_, rfl, p, dx, _, rfl, eM _ _ hp, by cases po <;> rfl, _, rfl, p, B, M, h, po, e, d, s, ws, i, k, _, rfl, eM, ha, hk, hv, ?_⟩
    cases x with
    | none =>
      obtain rfl := hd
      exact ⟨_, rfl, rfl, _, rfl, ite2 (fun _ => q) (fun z => absurd (by simp) z)⟩
    | some dr =>
      obtain ⟨a, dxa, hv', rfl, hMa, _⟩ := hd
      exact ⟨_, rfl, rfl, _, rfl, ite2 (fun z => absurd z (by simp)) (fun _ => ⟨_, rfl, a, T.c_Door, dxa, _, _, rfl, eM _ _ hMa, T.cl_Door, T.n_Door_part, rfl, q⟩)⟩
theorem ok_hheard (T : Tx K mg) : FnOk P w K mg base CX0 3 T.a_Hall_heard T.d_Hall_heard ["self", "link"] (sp_hheard T.c_Hall T.c_Door) := by
  have G_Hall__door := ok_hdoor (P := P) (w := w) (base := base) T
  refine T.F_Hall_heard.ok sc_Hall_heard (fun vs H Q E h => ?_) (fun cdv A outer s H vs Q E hr h => ?_)
  · obtain ⟨_, _, _, _, _, _, _, _, _, _, _, _, rfl, _⟩ := h
    rfl
  · obtain ⟨p, B, M, h, po, e, d, s, ws, i, k, x, rfl, eM, ha, hi, q⟩ := h
    refine ⟨_, (pss_cons (ps_set (i := 2) sc_Hall_heard.nd rfl (Or.inl rfl) (pe_meth (pv 0) T.cl_Hall T.me_Hall__door G_Hall__door (hr.mono (by decide)) T.b_Hall__door .nil pass0 (pa_cons (pv 1) pa_nil)))
  (pss_one (ps_ret (pe_ifExp (pt_cmpR op_isN (pv 2) pe_non (nomark _)) pe_non (fldK (K := K) rfl (pv 2) rfl))))), ?_⟩
    obtain ⟨dx, hp⟩ := ha.self
    obtain ⟨v, hv, hd⟩ := paired_at0 ha.each hi
    have hk : (h.doors.map (·.1))[i]? = some k := by rw [List.getElem?_map, hi]; rfl
    refine ⟨_, rfl, p, dx, _, rfl, eM _ _ hp, by cases po <;> rfl, _, rfl, p, B, M, h, po, e, d, s, ws, i, k, _, rfl, eM, ha, hk, hv, ?_⟩
    cases x with
    | none =>
      obtain rfl := hd
      exact ⟨_, rfl, rfl, _, rfl, ite2 (fun _ => q _ rfl) (fun z => absurd (by simp) z)⟩
    | some dr =>
      obtain ⟨a, dxa, hv', rfl, hMa, hh⟩ := hd
      exact ⟨_, rfl, rfl, _, rfl, ite2 (fun z => absurd z (by simp)) (fun _ => ⟨_, rfl, a, T.c_Door, dxa, _, _, rfl, eM _ _ hMa, T.cl_Door, T.n_Door_heard_standing, rfl, q _ hh⟩)⟩
theorem ok_hisopen (T : Tx K mg) : FnOk P w K mg base CX0 3 T.a_Hall_is_open T.d_Hall_is_open ["self", "link"] (sp_hisopen T.c_Hall T.c_Door) := by
  have G_Hall__door := ok_hdoor (P := P) (w := w) (base := base) T
  refine T.F_Hall_is_open.ok sc_Hall_is_open (fun vs H Q E h => ?_) (fun cdv A outer s H vs Q E hr h => ?_)
  · obtain ⟨_, _, _, _, _, _, _, _, _, _, _, _, rfl, _⟩ := h
    rfl
  · obtain ⟨p, B, M, h, po, e, d, s, ws, i, k, x, rfl, eM, ha, hi, q⟩ := h
    refine ⟨_, (pss_cons (ps_set (i := 2) sc_Hall_is_open.nd rfl (Or.inl rfl) (pe_meth (pv 0) T.cl_Hall T.me_Hall__door G_Hall__door (hr.mono (by decide)) T.b_Hall__door .nil pass0 (pa_cons (pv 1) pa_nil)))
  (pss_cons (ps_if (pt_cmpR op_isN (pv 2) pe_non (nomark _)) (pss_one (ps_ret pe_bl)) pss_nil)
  (pss_cons (ps_if (pt_cmpR op_eq (fldK (K := K) rfl (pv 2) rfl) pe_str (nomark _)) (pss_one (ps_ret (pe_or (pe_cmpR op_eq (fldK (K := K) rfl (pv 0) rfl) pe_str (nomark _)) (pe_one (pe_cmpR op_ge (fldK (K := K) rfl (pv 2) rfl) (fldK (K := K) rfl (pv 2) rfl) (nomark _)))))) pss_nil)
  (pss_one (ps_ret (pe_or (pe_cmpR op_eq (fldK (K := K) rfl (pv 2) rfl) pe_str (nomark _)) (pe_one (pe_and (pe_cmpR op_eq (fldK (K := K) rfl (pv 0) rfl) pe_str (nomark _)) (pe_one (fldK (K := K) rfl (pv 2) rfl)))))))))), ?_⟩
    obtain ⟨dx, hp⟩ := ha.self
    obtain ⟨v, hv, hd⟩ := paired_at0 ha.each hi
    have hk : (h.doors.map (·.1))[i]? = some k := by rw [List.getElem?_map, hi]; rfl
    refine ⟨_, rfl, p, dx, _, rfl, eM _ _ hp, by cases po <;> rfl, _, rfl, p, B, M, h, po, e, d, s, ws, i, k, _, rfl, eM, ha, hk, hv, ?_⟩
    show tSeq _ _ _ _ _
    cases x with
    | none =>
      obtain rfl := hd
      exact ⟨_, rfl, rfl, _, rfl, ite2 (fun _ => q) (fun z => absurd (by simp) z)⟩
    | some dr =>
      obtain ⟨a, dxa, hv', rfl, hMa, hh⟩ := hd
      refine ⟨_, rfl, rfl, _, rfl, ite2 (fun z => absurd z (by simp)) (fun _ => un_next ?_)⟩
      have hHa := eM _ _ hMa
      have hHp := eM _ _ hp
      dsimp only
      have dec : ∀ (x y : Str), decide (V.str x = V.str y) = decide (x = y) := fun x y => by
        by_cases z : x = y
        · subst z; simp
        · rw [decide_eq_false z, decide_eq_false fun e => z (V.str.inj e)]
      obtain ⟨bey, cost, part, was, hn, hs, said, cf, agT, agH⟩ := dr
      have last : Q (.bl (decide (h.rule = "kept") && was)) H → tAndV (tOp rEq (tFld K (tVar 0) "_rule") (tC (.str "kept"))) (tFld K (tVar 2) "was_root") [some (.ref p), some (.int k), some (.ref a)] H Q := fun q => by
        refine ⟨_, rfl, p, T.c_Hall, dx, _, _, rfl, hHp, T.cl_Hall, T.n_Hall__rule, rfl, rfl, _, rfl, ?_⟩
        rw [dec]
        cases hk : decide (h.rule = "kept") with
        | true =>
          rw [hk] at q
          exact iteT ⟨_, rfl, a, T.c_Door, dxa, _, _, rfl, hHa, T.cl_Door, T.n_Door_was_root, rfl, q⟩
        | false =>
          rw [hk] at q
          exact iteF q
      cases part with
      | none => exact ⟨_, rfl, a, T.c_Door, dxa, _, _, rfl, hHa, T.cl_Door, T.n_Door_part, rfl, rfl, _, rfl, ite2 (fun z => absurd z pv_nl) (fun _ => un_next ⟨_, rfl, a, T.c_Door, dxa, _, _, rfl, hHa, T.cl_Door, T.n_Door_part, rfl, rfl, _, rfl, ite2 (fun z => absurd z pv_nr) (fun _ => last q)⟩)⟩
      | some pt =>
        cases pt with
        | root => exact ⟨_, rfl, a, T.c_Door, dxa, _, _, rfl, hHa, T.cl_Door, T.n_Door_part, rfl, rfl, _, rfl, ite2 (fun z => absurd z pv_rl) (fun _ => un_next ⟨_, rfl, a, T.c_Door, dxa, _, _, rfl, hHa, T.cl_Door, T.n_Door_part, rfl, rfl, _, rfl, ite2 (fun _ => q) (fun z => absurd pv_rr z)⟩)⟩
        | beside => exact ⟨_, rfl, a, T.c_Door, dxa, _, _, rfl, hHa, T.cl_Door, T.n_Door_part, rfl, rfl, _, rfl, ite2 (fun z => absurd z pv_bl) (fun _ => un_next ⟨_, rfl, a, T.c_Door, dxa, _, _, rfl, hHa, T.cl_Door, T.n_Door_part, rfl, rfl, _, rfl, ite2 (fun z => absurd z pv_br) (fun _ => last q)⟩)⟩
        | leads =>
          refine ⟨_, rfl, a, T.c_Door, dxa, _, _, rfl, hHa, T.cl_Door, T.n_Door_part, rfl, rfl, _, rfl, ite2 (fun _ => ?_) (fun z => absurd pv_ll z)⟩
          have q : Q (.bl (decide (h.rule = "hasty") || decide (cf ≤ agT))) H := q
          refine ⟨_, rfl, p, T.c_Hall, dx, _, _, rfl, hHp, T.cl_Hall, T.n_Hall__rule, rfl, rfl, _, rfl, ?_⟩
          rw [dec]
          cases hk : decide (h.rule = "hasty") with
          | true =>
            rw [hk] at q
            exact iteT q
          | false =>
            rw [hk] at q
            exact iteF ⟨_, rfl, a, T.c_Door, dxa, _, _, rfl, hHa, T.cl_Door, T.n_Door_agreed_there, rfl, _, rfl, a, T.c_Door, dxa, _, _, rfl, hHa, T.cl_Door, T.n_Door_counts_from, rfl, _, _, rfl, rfl, q⟩
theorem ok_hposted (T : Tx K mg) : FnOk P w K mg base CX0 1 T.a_Hall_posted T.d_Hall_posted ["self"] (sp_hposted T.c_Hall T.c_Door) := by
  refine T.F_Hall_posted.ok sc_Hall_posted (fun vs H Q E h => ?_) (fun cdv A outer s H vs Q E hr h => ?_)
  · obtain ⟨_, _, _, _, _, _, _, _, _, _, rfl, _⟩ := h
    rfl
  · obtain ⟨p, B, M, h, a, e, d, s, ws, xs, rfl, eM, ha, hM, q⟩ := h
    refine ⟨_, (pss_one (ps_ret (pe_callTy (listK (K := K) rfl) (by rfl) T.z_list (by decide +kernel) (pa_cons (fldK (K := K) rfl (pv 0) rfl) pa_nil)))), ?_⟩
    obtain ⟨dx, hp⟩ := ha.self
    exact ⟨_, rfl, p, T.c_Hall, dx, _, _, rfl, eM _ _ hp, T.cl_Hall, T.n_Hall__posted, rfl, a, xs, rfl, .inl (SqL.of hM), fun z hz => q z _ hz (Ex.new hz) upd_same⟩
end
end K24

set_option maxHeartbeats 1000000
namespace K24
open PySem PySem.Spec PyProof.Rows L2 Evl MyG
/-! ### a door turned -/
def lt3 (a b c d e f : Int) : Bool := decide (a < d ∨ (a = d ∧ (b < e ∨ (b = e ∧ c < f))))
def leadsM (own : Int) (st : Int × Int) (d : Dr) : Bool :=
  match d.hs with
  | none => true
  | some h => lt3 st.1 st.2 own h.1 h.2 d.bey
def turnM (own : Int) (st : Int × Int) (rl : Option Int) (k : Int) (d : Dr) : Dr :=
  if rl = some k then { d with part := some .root, was := true }
  else if leadsM own st d = true then { d with part := some .leads, was := false }
  else { d with part := some .beside }
/-- one object is another one, all else stays -/
structure Put1 (a : Addr) (o : HO) (H H' : Hp) : Prop where
  at_ : H' a = some o
  rest : ∀ x u, x ≠ a → H x = some u → H' x = some u
theorem Put1.chg {a : Addr} {o u : HO} {M H H' : Hp} (h : Put1 a o H H') (e : Ex M H) (hM : M a = some u) : Chg M (upd M a o) H H' := by
  refine ⟨fun x v hx => ?_, fun x v hm hx => h.rest x v (fun z => by rw [z, hM] at hm; cases hm) hx, fun x hx => ?_⟩
  · by_cases z : x = a
    · rw [z, upd_same] at hx
      rw [z, ← hx]
      exact h.at_
    · rw [upd_ne z] at hx
      exact h.rest x v z (e x v hx)
  · by_cases z : x = a
    · left
      rw [z, hM]
      exact fun q => by cases q
    · rw [upd_ne z] at hx
      exact .inl hx
theorem Put1.ext {a : Addr} {o : HO} {H H' H2 : Hp} (h : Put1 a o H H') (e : Ex H' H2) : Put1 a o H H2 := ⟨e _ _ h.at_, fun x v z k => e _ _ (h.rest x v z k)⟩
theorem Put1.put {a : Addr} {o o' : HO} {H H' : Hp} (h : Put1 a o H H') : Put1 a o' H (upd H' a o') := ⟨upd_same, fun x v z k => by rw [upd_ne z]; exact h.rest x v z k⟩
theorem Put1.first {a : Addr} {o' : HO} {H H' : Hp} (e : Ex H H') : Put1 a o' H (upd H' a o') := ⟨upd_same, fun x v z k => by rw [upd_ne z]; exact e x v k⟩
def sp_hturn (C D : Addr) : Sp := fun vs H Q _ => ∃ (p a e d s dx dxa : Addr) (k : Int) (h : HSt) (po : Option Addr) (dr : Dr) (hv : V) (B : Hp), vs = [.ref p, .int k, .ref a] ∧ H p = some (.ins C dx (fH h e d s po)) ∧ Ex B H ∧ B s = some (.tup (pairD h.st)) ∧ H a = some (.ins D dxa (fD dr hv)) ∧ HsAt B hv dr.hs ∧ a ≠ p ∧ B a = none ∧
  ∀ H', Put1 a (.ins D dxa (fD (turnM h.own h.st h.rl k dr) hv)) H H' → Q .non H'
section
variable {P : Program} {w : World} {K : PySem.W.Frag} {mg : Str → Option Value} {base : Heap}
theorem ok_hturn (T : Tx K mg) : FnOk P w K mg base CX0 1 T.a_Hall__turn T.d_Hall__turn ["self", "link", "door"] (sp_hturn T.c_Hall T.c_Door) := by
  refine T.F_Hall__turn.ok sc_Hall__turn (fun vs H Q E h => ?_) (fun cdv A outer s H vs Q E hr h => ?_)
  · obtain ⟨_, _, _, _, _, _, _, _, _, _, _, _, _, rfl, _⟩ := h
    rfl
  · obtain ⟨p, a, e, d, s, dx, dxa, k, h, po, dr, hv, B, rfl, hp, eB, hs, ha, hh, ne, na, q⟩ := h
    refine ⟨_, (pss_cons (ps_set (i := 3) sc_Hall__turn.nd rfl (Or.inl rfl) (fldK (K := K) rfl (pv 2) rfl))
  (pss_one (ps_if (pt_cmpR op_eq (pv 1) (fldK (K := K) rfl (pv 0) rfl) (nomark _)) (pss_cons (ps_fld (pv 2) pe_str rfl)
  (pss_one (ps_fld (pv 2) pe_bl rfl))) (pss_one (ps_if (PW.pt (pw_or (pt_cmpR op_isN (pv 3) pe_non (nomark _)) (pw_or1 (pt_cmpR (op_ltTK (K := K) rfl (Nat.lt_of_le_of_lt (Nat.le_add_right _ _) hr.units)) (pe_tup (StX.pa_star (fldK (K := K) rfl (pv 0) rfl) (pa_cons (fldK (K := K) rfl (pv 0) rfl) pa_nil))) (pe_tup (StX.pa_star (pv 3) (pa_cons (fldK (K := K) rfl (pv 2) rfl) pa_nil))) (nomark _))))) (pss_cons (ps_fld (pv 2) pe_str rfl)
  (pss_one (ps_fld (pv 2) pe_bl rfl))) (pss_one (ps_fld (pv 2) pe_str rfl))))))), ?_⟩
    refine ⟨_, rfl, a, T.c_Door, dxa, _, _, rfl, ha, T.cl_Door, T.n_Door_heard_standing, rfl, ?_⟩
    dsimp only
    have rest : turnM h.own h.st h.rl k dr = (if leadsM h.own h.st dr = true then { dr with part := some .leads, was := false } else { dr with part := some .beside }) →
        tIfS (tOr (tTest (tOp (fun x y H Q => y = V.non ∧ Q (V.bl (decide (x = V.non))) H) (tVar 3) (tC V.non)))
          (tTest (tOp (rLtT K) (tTup (StX.tStar K (tFld K (tVar 0) "_standing") (tCons (tFld K (tVar 0) "_hall") tNil))) (tTup (StX.tStar K (tVar 3) (tCons (tFld K (tVar 2) "other_hall") tNil))))))
          (tSeq (sFld K (tVar 2) (tC (V.str "leads")) "part") (sFld K (tVar 2) (tC (V.bl false)) "was_root"))
          (sFld K (tVar 2) (tC (V.str "beside")) "part") { nx := fun x H' => Q V.non H', rt := Q } [some (.ref p), some (.int k), some (.ref a), some hv] H := fun eq => by
      have yes : ∀ H1, Ex H H1 → leadsM h.own h.st dr = true → tSeq (sFld K (tVar 2) (tC (V.str "leads")) "part") (sFld K (tVar 2) (tC (V.bl false)) "was_root") { nx := fun x H' => Q V.non H', rt := Q } [some (.ref p), some (.int k), some (.ref a), some hv] H1 := fun H1 e1 hl => by
        refine ⟨_, rfl, a, T.c_Door, dxa, _, rfl, e1 _ _ ha, T.cl_Door, T.n_Door_part, (by show 10 < 1000; decide), ⟨_, rfl, a, T.c_Door, dxa, _, rfl, upd_same, T.cl_Door, T.n_Door_was_root, (by show 10 < 1000; decide), q _ ?_⟩⟩
        rw [eq, if_pos hl]
        exact (Put1.first (o' := .ins T.c_Door dxa (putF "part" (.str "leads") (fD dr hv))) e1).put
      have no : ∀ H1, Ex H H1 → leadsM h.own h.st dr = false → sFld K (tVar 2) (tC (V.str "beside")) "part" { nx := fun x H' => Q V.non H', rt := Q } [some (.ref p), some (.int k), some (.ref a), some hv] H1 := fun H1 e1 hl => by
        refine ⟨_, rfl, a, T.c_Door, dxa, _, rfl, e1 _ _ ha, T.cl_Door, T.n_Door_part, (by show 10 < 1000; decide), q _ ?_⟩
        rw [eq, if_neg (by rw [hl]; decide)]
        exact Put1.first e1
      cases hhs : dr.hs with
      | none =>
        rw [hhs] at hh
        obtain rfl := hh
        exact ⟨_, rfl, rfl, _, rfl, ite2 (fun _ => yes H (Ex.refl _) (by unfold leadsM; rw [hhs])) (fun z => absurd (by simp) z)⟩
      | some sp =>
        rw [hhs] at hh
        obtain ⟨b, rfl, hb⟩ := hh
        refine ⟨_, rfl, rfl, _, rfl, ite2 (fun z => absurd z (by simp)) (fun _ => ?_)⟩
        have hl : leadsM h.own h.st dr = lt3 h.st.1 h.st.2 h.own sp.1 sp.2 dr.bey := by unfold leadsM; rw [hhs]
        refine ⟨_, rfl, p, T.c_Hall, dx, _, _, rfl, hp, T.cl_Hall, T.n_Hall__standing, rfl, s, _, rfl, .inl (SqT.of (eB _ _ hs)), _, rfl, p, T.c_Hall, dx, _, _, rfl, hp, T.cl_Hall, T.n_Hall__hall, rfl, by show 3 ≤ sizeLine; decide, fun t1 ht1 => ?_⟩
        have e1 := Ex.new (o := .tup (pairD h.st ++ [V.int h.own])) ht1
        refine ⟨_, rfl, b, _, rfl, .inl (SqT.of (e1 _ _ (eB _ _ hb))), _, rfl, a, T.c_Door, dxa, _, _, rfl, e1 _ _ ha, T.cl_Door, T.n_Door_other_hall, rfl, by show 3 ≤ sizeLine; decide, fun t2 ht2 => ?_⟩
        have e2 := Ex.new (o := .tup (pairD sp ++ [V.int dr.bey])) ht2
        refine ⟨t1, t2, [h.st.1, h.st.2, h.own], [sp.1, sp.2, dr.bey], rfl, rfl, SqT.of (e2 _ _ upd_same), SqT.of upd_same, _, rfl, ?_⟩
        rw [lt_three]
        exact ite2 (fun z => yes _ (e1.trans e2) (by rw [hl]; exact z)) (fun z => no _ (e1.trans e2) (by rw [hl]; exact eq_false_of_ne_true z))
    obtain ⟨own, most, rule, ends, doors, st, rl⟩ := h
    cases rl with
    | none =>
      exact ⟨_, rfl, _, rfl, p, T.c_Hall, dx, _, _, rfl, hp, T.cl_Hall, T.n_Hall__root_link, rfl, rfl, _, rfl, ite2 (fun z => absurd z (by simp [oiV])) (fun _ => rest (by unfold turnM; rw [if_neg (by simp)]))⟩
    | some r =>
      refine ⟨_, rfl, _, rfl, p, T.c_Hall, dx, _, _, rfl, hp, T.cl_Hall, T.n_Hall__root_link, rfl, rfl, _, rfl, ite2 (fun z => ?_) (fun z => ?_)⟩
      · have z : k = r := by simpa [oiV] using z
        refine ⟨_, rfl, a, T.c_Door, dxa, _, rfl, ha, T.cl_Door, T.n_Door_part, (by show 10 < 1000; decide), ⟨_, rfl, a, T.c_Door, dxa, _, rfl, upd_same, T.cl_Door, T.n_Door_was_root, (by show 10 < 1000; decide), q _ ?_⟩⟩
        unfold turnM
        rw [if_pos (by rw [z])]
        exact (Put1.first (o' := .ins T.c_Door dxa (putF "part" (.str "root") (fD dr hv))) (Ex.refl _)).put
      · have z : ¬ k = r := by simpa [oiV] using z
        exact rest (by unfold turnM; rw [if_neg (fun e => z (Option.some.inj e).symm)])
end
end K24

set_option maxHeartbeats 1000000
namespace K24
open PySem PySem.Spec PyProof.Rows L2 Evl MyG
/-! ### what a door writes -/
def isL (d : Dr) : Bool := decide (d.part = some .leads)
def ltP (a b : Int × Int) : Bool := decide (a.1 < b.1 ∨ (a.1 = b.1 ∧ a.2 < b.2))
def wSay (st : Int × Int) (says : Bool) (d : Dr) : Dr × List Lt := if says then ({ d with said := d.said + 1 }, [.say (d.said + 1) st.1 st.2]) else (d, [])
def wCf (c : Bool) (d : Dr) : Dr := if c then { d with cf := d.said } else d
def wAg (rule : Str) (d : Dr) : Dr × List Lt :=
  if isL d && decide (¬ rule = "free") then ({ d with agH := 0 }, [])
  else if decide (¬ d.hn = d.agH) then ({ d with agH := d.hn }, [.agree d.hn]) else (d, [])
def writeM (own : Int) (rule : Str) (st : Int × Int) (rl : Option Int) (ahead : Int × Int) (k : Int) (d : Dr) : Dr × List Lt :=
  let d1 := turnM own st rl k d
  let anew := isL d1 && !isL d
  let a := wSay st (anew || decide (¬ st = ahead)) d1
  let d3 := wCf ((anew && decide (¬ rule = "turned")) || (ltP ahead st && decide (¬ rule = "worse"))) a.1
  let b := wAg rule d3
  (b.1, a.2 ++ b.2)
def LtsF (S A : Addr) (H H' : Hp) : List V → List Lt → Prop := Paired fun (x : V) (l : Lt) => ∃ b, x = .ref b ∧ H b = none ∧ LtAt S A H' b l
def sp_hwrite (C D S A : Addr) : Sp := fun vs H Q _ => ∃ (p a e d s ah dx dxa : Addr) (k : Int) (h : HSt) (po : Option Addr) (dr : Dr) (hv : V) (B : Hp) (ahead : Int × Int), vs = [.ref p, .int k, .ref a, .ref ah] ∧ H p = some (.ins C dx (fH h e d s po)) ∧ Ex B H ∧ B s = some (.tup (pairD h.st)) ∧ B ah = some (.tup (pairD ahead)) ∧ H a = some (.ins D dxa (fD dr hv)) ∧ HsAt B hv dr.hs ∧ a ≠ p ∧ B a = none ∧
  ∀ z xs H', Put1 a (.ins D dxa (fD (writeM h.own h.rule h.st h.rl ahead k dr).1 hv)) H H' → H z = none → H' z = some (.lst xs) → LtsF S A H H' xs (writeM h.own h.rule h.st h.rl ahead k dr).2 → Q (.ref z) H'
/-- a door under way, the letters so far in the list at z -/
structure WS (D S A a dxa z : Addr) (hv : V) (H0 H : Hp) (dr : Dr) (xs : List V) (ls : List Lt) : Prop where
  put : Put1 a (.ins D dxa (fD dr hv)) H0 H
  a0 : ∃ o, H0 a = some o
  z0 : H0 z = none
  zH : H z = some (.lst xs)
  lts : LtsF S A H0 H xs ls
section
variable {D S A a dxa z : Addr} {hv : V} {H0 H H' : Hp} {dr dr' : Dr} {xs : List V} {ls : List Lt}
theorem WS.za (h : WS D S A a dxa z hv H0 H dr xs ls) : z ≠ a := fun e => by
  obtain ⟨o, ho⟩ := h.a0
  have := h.z0
  rw [e, ho] at this
  cases this
theorem WS.fld (h : WS D S A a dxa z hv H0 H dr xs ls) : WS D S A a dxa z hv H0 (upd H a (.ins D dxa (fD dr' hv))) dr' xs ls :=
  ⟨h.put.put, h.a0, h.z0, by rw [upd_ne h.za]; exact h.zH, Paired.mapP h.lts fun x l ⟨b, h1, h2, h3⟩ => ⟨b, h1, h2, by
    have : b ≠ a := fun e => by
      obtain ⟨o, ho⟩ := h.a0
      rw [e, ho] at h2
      cases h2
    cases l with
    | say n r f => obtain ⟨dx, h3⟩ := h3; exact ⟨dx, by rw [upd_ne this]; exact h3⟩
    | agree n => obtain ⟨dx, h3⟩ := h3; exact ⟨dx, by rw [upd_ne this]; exact h3⟩⟩⟩
theorem WS.fldTo {fs : List (Str × V)} (h : WS D S A a dxa z hv H0 H dr xs ls) (dr' : Dr) (e : fs = fD dr' hv) : WS D S A a dxa z hv H0 (upd H a (.ins D dxa fs)) dr' xs ls := by
  rw [e]
  exact h.fld
theorem WS.ext (h : WS D S A a dxa z hv H0 H dr xs ls) (e : Ex H H') : WS D S A a dxa z hv H0 H' dr xs ls :=
  ⟨h.put.ext e, h.a0, h.z0, e _ _ h.zH, Paired.mapP h.lts fun x l ⟨b, h1, h2, h3⟩ => ⟨b, h1, h2, h3.ext e⟩⟩
theorem WS.old (h : WS D S A a dxa z hv H0 H dr xs ls) {x : Addr} (hx : H x = none) : H0 x = none := by
  cases q : H0 x with
  | none => rfl
  | some o =>
    by_cases e : x = a
    · rw [e, h.put.at_] at hx
      cases hx
    · rw [h.put.rest x o e q] at hx
      cases hx
theorem WS.letter (h : WS D S A a dxa z hv H0 H dr xs ls) {b : Addr} {l : Lt} (hb : H b = none) (e : Ex H H') (hl : LtAt S A H' b l) : WS D S A a dxa z hv H0 (upd H' z (.lst (xs ++ [.ref b]))) dr (xs ++ [.ref b]) (ls ++ [l]) := by
  have h' := h.ext e
  have keep : ∀ {c : Addr} {l : Lt}, LtAt S A H' c l → LtAt S A (upd H' z (.lst (xs ++ [.ref b]))) c l := fun {c l} hc => by
    cases l with
    | say n r f => obtain ⟨dx, hc⟩ := hc; exact ⟨dx, by rw [upd_ne (ne_of hc h'.zH (by intro z; cases z))]; exact hc⟩
    | agree n => obtain ⟨dx, hc⟩ := hc; exact ⟨dx, by rw [upd_ne (ne_of hc h'.zH (by intro z; cases z))]; exact hc⟩
  refine ⟨⟨by rw [upd_ne h.za.symm]; exact h'.put.at_, fun x u ne hx => ?_⟩, h.a0, h.z0, upd_same, Paired.snoc (Paired.mapP h'.lts fun x l ⟨b, h1, h2, h3⟩ => ⟨b, h1, h2, keep h3⟩) ⟨b, rfl, h.old hb, keep hl⟩⟩
  rw [upd_ne (fun e => by rw [e, h.z0] at hx; cases hx)]
  exact h'.put.rest x u ne hx
end
theorem made_ex {H H' : Hp} {x dx : Addr} {o1 o2 : HO} (hx : H x = none) (hdx : H dx = none) (off : ∀ a, a ≠ x → H' a = (upd (upd H dx o1) x o2) a) : Ex H H' := fun c u hc => by
  have n1 := ne_of_none hc hx
  have n2 := ne_of_none hc hdx
  rw [off c n1, upd_ne n1, upd_ne n2]
  exact hc
theorem scal_part (p : Option Part) (s : Str) : scal (partV p) (.str s) = true := by
  cases p <;> rfl
theorem part_l (p : Option Part) : decide (partV p = V.str "leads") = decide (p = some .leads) := by
  rcases p with _ | _ | _ | _ <;> decide +kernel
theorem dec_str (x y : Str) : decide (V.str x = V.str y) = decide (x = y) := by
  by_cases z : x = y
  · subst z; simp
  · rw [decide_eq_false z, decide_eq_false fun e => z (V.str.inj e)]
theorem eqv_pair (a b : Int × Int) : PyData.eqv (.tuple [.int a.1, .int a.2]) (.tuple [.int b.1, .int b.2]) = decide (a = b) := by
  obtain ⟨a1, a2⟩ := a
  obtain ⟨b1, b2⟩ := b
  by_cases h1 : a1 = b1 <;> by_cases h2 : a2 = b2 <;> simp [PyData.eqv, PyData.eqvAll, h1, h2]
theorem dp_pair {K : PySem.W.Frag} {H : Hp} {a : Addr} {p : Int × Int} (h : H a = some (.tup (pairD p))) : Dp K H (.ref a) (.tuple [.int p.1, .int p.2]) := Dq.dp (.tup h (.cons (.int _) (.cons (.int _) .nil)))
theorem shaped_pair (p : Int × Int) : SeqAt.shaped (.tuple [.int p.1, .int p.2]) = true := by
  unfold SeqAt.shaped
  simp [PyData.canLay0, PyData.canLayAll0, PyData.depth, PyData.depthAll]
section
variable {P : Program} {w : World} {K : PySem.W.Frag} {mg : Str → Option Value} {base : Heap}
theorem ok_hwrite (T : Tx K mg) : FnOk P w K mg base CX0 3 T.a_Hall__write T.d_Hall__write ["self", "link", "door", "ahead"] (sp_hwrite T.c_Hall T.c_Door T.c_Say T.c_Agree) := by
  have G_Hall__turn := ok_hturn (P := P) (w := w) (base := base) T
  have G_Say___init__ := ok_initS (P := P) (w := w) (base := base) T
  have G_Agree___init__ := ok_initA (P := P) (w := w) (base := base) T
  refine T.F_Hall__write.ok sc_Hall__write (fun vs H Q E h => ?_) (fun cdv A outer s H vs Q E hr h => ?_)
  · obtain ⟨_, _, _, _, _, _, _, _, _, _, _, _, _, _, _, rfl, _⟩ := h
    rfl
  · obtain ⟨p, a, e, d, s, ah, dx, dxa, k, h, po, dr, hv, B, ahead, rfl, hp, eB, hs, hah, ha, hh, ne, na, q⟩ := h
    refine ⟨_, (pss_cons (ps_set (i := 4) sc_Hall__write.nd rfl (Or.inl rfl) (pe_cmpR op_eq (fldK (K := K) rfl (pv 2) rfl) pe_str (nomark _)))
  (pss_cons (ps_expr (pe_meth (pv 0) T.cl_Hall T.me_Hall__turn G_Hall__turn (hr.mono (by decide)) T.b_Hall__turn .nil pass0 (pa_cons (pv 1) (pa_cons (pv 2) pa_nil))))
  (pss_cons (ps_set (i := 5) sc_Hall__write.nd rfl (Or.inl rfl) (pe_and (pe_cmpR op_eq (fldK (K := K) rfl (pv 2) rfl) pe_str (nomark _)) (pe_one (pe_not (pv 4)))))
  (pss_cons (ps_set (i := 6) sc_Hall__write.nd rfl (Or.inl rfl) (pe_lst pa_nil))
  (pss_cons (ps_if (PW.pt (pw_or (pt_val (pv 5)) (pw_or1 (pt_cmpR (op_neK (K := K) rfl hr.units) (fldK (K := K) rfl (pv 0) rfl) (pv 3) (nomark _))))) (pss_cons (ps_fldaug (pv 2) pe_int in_add)
  (pss_one (ps_expr (pe_bm PySem.F.plainAttrs_list PySem.F.slot_list_append PySem.F.type_list_append mt_append (pv 6) (pa_cons (pe_make T.m_Say G_Say___init__ (hr.mono (by decide)) (by rfl) T.g_Say T.b_Say___init__ .nil pass0 (pa_cons (fldK (K := K) rfl (pv 2) rfl) (pa_cons (pe_ix (ix_tupK (K := K) rfl) (fldK (K := K) rfl (pv 0) rfl) pe_int (fun _ _ => rfl)) (pa_cons (pe_ix (ix_tupK (K := K) rfl) (fldK (K := K) rfl (pv 0) rfl) pe_int (fun _ _ => rfl)) pa_nil)))) pa_nil))))) pss_nil)
  (pss_cons (ps_if (PW.pt (pw_or (PW.pt (pw_and (pt_val (pv 5)) (pw_and1 (pt_cmpR op_ne (fldK (K := K) rfl (pv 0) rfl) pe_str (nomark _))))) (pw_or1 (PW.pt (pw_and (pt_cmpR (op_gtTK (K := K) rfl (Nat.lt_of_le_of_lt (Nat.le_add_right _ _) hr.units)) (fldK (K := K) rfl (pv 0) rfl) (pv 3) (nomark _)) (pw_and1 (pt_cmpR op_ne (fldK (K := K) rfl (pv 0) rfl) pe_str (nomark _)))))))) (pss_one (ps_fld (pv 2) (fldK (K := K) rfl (pv 2) rfl) rfl)) pss_nil)
  (pss_cons (ps_if (PW.pt (pw_and (pt_cmpR op_eq (fldK (K := K) rfl (pv 2) rfl) pe_str (nomark _)) (pw_and1 (pt_cmpR op_ne (fldK (K := K) rfl (pv 0) rfl) pe_str (nomark _))))) (pss_one (ps_fld (pv 2) (pe_glob (v := .int (0)) rfl T.v_NOTHING ⟨_, rfl⟩) rfl)) (pss_one (ps_if (pt_cmpR op_ne (fldK (K := K) rfl (pv 2) rfl) (fldK (K := K) rfl (pv 2) rfl) (nomark _)) (pss_cons (ps_fld (pv 2) (fldK (K := K) rfl (pv 2) rfl) rfl)
  (pss_one (ps_expr (pe_bm PySem.F.plainAttrs_list PySem.F.slot_list_append PySem.F.type_list_append mt_append (pv 6) (pa_cons (pe_make T.m_Agree G_Agree___init__ (hr.mono (by decide)) (by rfl) T.g_Agree T.b_Agree___init__ .nil pass0 (pa_cons (fldK (K := K) rfl (pv 2) rfl) pa_nil)) pa_nil))))) pss_nil)))
  (pss_one (ps_ret (pv 6)))))))))), ?_⟩
    have ha0 : ∃ o, H a = some o := ⟨_, ha⟩
    have look : ∀ {z : Addr} {H1 : Hp} {d' : Dr} {xs : List V} {ls : List Lt}, WS T.c_Door T.c_Say T.c_Agree a dxa z hv H H1 d' xs ls → H1 p = some (.ins T.c_Hall dx (fH h e d s po)) ∧ Ex B H1 := fun W => ⟨W.put.rest _ _ (Ne.symm ne) hp, fun x u hx => W.put.rest x u (fun z => by rw [z, na] at hx; cases hx) (eB x u hx)⟩
    -- the end: what it agrees to
    have ag : ∀ (led anew : Bool) (z : Addr) (xs : List V) (ls : List Lt) (d3 : Dr) (H1 : Hp), WS T.c_Door T.c_Say T.c_Agree a dxa z hv H H1 d3 xs ls → xs.length ≤ 10 → (wAg h.rule d3).1 = (writeM h.own h.rule h.st h.rl ahead k dr).1 → ls ++ (wAg h.rule d3).2 = (writeM h.own h.rule h.st h.rl ahead k dr).2 →
        tSeq (tIfS (tAnd (tTest (tOp rEq (tFld K (tVar 2) "part") (tC (.str "leads")))) (tTest (tOp rNe (tFld K (tVar 0) "_rule") (tC (.str "free")))))
          (sFld K (tVar 2) (tC (.int 0)) "agreed_here")
          (tIfS (tTest (tOp rNe (tFld K (tVar 2) "heard_number") (tFld K (tVar 2) "agreed_here")))
            (tSeq (sFld K (tVar 2) (tFld K (tVar 2) "heard_number") "agreed_here")
              (tDrop (tBM K "list" rAppend (tVar 6) (tCons (tMake T.c_Agree (sp_initA T.c_Agree) [] E0 (tCons (tFld K (tVar 2) "agreed_here") tNil)) tNil)))) tNext))
          (tRet (tVar 6)) { nx := fun x H' => Q V.non H', rt := Q } [some (.ref p), some (.int k), some (.ref a), some (.ref ah), some (.bl led), some (.bl anew), some (.ref z)] H1 := by
      intro led anew z xs ls d3 H1 W lx eq1 eq2
      obtain ⟨hp1, eB1⟩ := look W
      have ha1 := W.put.at_
      have ret : ∀ (xs' : List V) (H2 : Hp), WS T.c_Door T.c_Say T.c_Agree a dxa z hv H H2 (wAg h.rule d3).1 xs' (ls ++ (wAg h.rule d3).2) → tRet (tVar 6) { nx := fun x H' => Q V.non H', rt := Q } [some (.ref p), some (.int k), some (.ref a), some (.ref ah), some (.bl led), some (.bl anew), some (.ref z)] H2 := fun xs' H2 W2 =>
        ⟨_, rfl, q z xs' H2 (by rw [← eq1]; exact W2.put) W2.z0 W2.zH (by rw [← eq2]; exact W2.lts)⟩
      have els : (isL d3 && decide (¬ h.rule = "free")) = false → tIfS (tTest (tOp rNe (tFld K (tVar 2) "heard_number") (tFld K (tVar 2) "agreed_here")))
            (tSeq (sFld K (tVar 2) (tFld K (tVar 2) "heard_number") "agreed_here")
              (tDrop (tBM K "list" rAppend (tVar 6) (tCons (tMake T.c_Agree (sp_initA T.c_Agree) [] E0 (tCons (tFld K (tVar 2) "agreed_here") tNil)) tNil)))) tNext
            { nx := tRet (tVar 6) { nx := fun x H' => Q V.non H', rt := Q }, rt := { nx := fun x H' => Q V.non H', rt := Q : Ends }.rt } [some (.ref p), some (.int k), some (.ref a), some (.ref ah), some (.bl led), some (.bl anew), some (.ref z)] H1 := fun hno => by
        refine ⟨_, rfl, a, T.c_Door, dxa, _, _, rfl, ha1, T.cl_Door, T.n_Door_heard_number, rfl, _, rfl, a, T.c_Door, dxa, _, _, rfl, ha1, T.cl_Door, T.n_Door_agreed_here, rfl, rfl, _, rfl, ite2 (fun c => ?_) (fun c => un_next ?_)⟩
        · have c : ¬ d3.hn = d3.agH := by simpa using c
          have e : wAg h.rule d3 = ({ d3 with agH := d3.hn }, [.agree d3.hn]) := by unfold wAg; rw [hno, if_neg (by decide), if_pos (by simpa using c)]
          have W2 : WS T.c_Door T.c_Say T.c_Agree a dxa z hv H (upd H1 a (.ins T.c_Door dxa (putF "agreed_here" (.int d3.hn) (fD d3 hv)))) { d3 with agH := d3.hn } xs ls := W.fldTo _ rfl
          refine ⟨_, rfl, a, T.c_Door, dxa, _, _, rfl, ha1, T.cl_Door, T.n_Door_heard_number, rfl, _, rfl, a, T.c_Door, dxa, _, rfl, ha1, T.cl_Door, T.n_Door_agreed_here, (by show 10 < 1000; decide), ?_⟩
          generalize upd H1 a (.ins T.c_Door dxa (putF "agreed_here" (.int d3.hn) (fD d3 hv))) = H2 at W2 ⊢
          refine ⟨_, rfl, .inl ⟨rfl, _, SqL.of W2.zH⟩, _, rfl, a, T.c_Door, dxa, _, _, rfl, W2.put.at_, T.cl_Door, T.n_Door_agreed_here, rfl, fun x dx' hx hdx ne' => ⟨dx', x, d3.hn, rfl, upd_same, fun H' off at_ => ⟨rfl, ?_⟩⟩⟩
          have eH := made_ex hx hdx off
          refine ⟨z, _, _, rfl, rfl, eH _ _ W2.zH, len_lt (by omega), ret (xs ++ [.ref x]) _ ?_⟩
          rw [e]
          exact W2.letter hx eH ⟨dx', at_⟩
        · have c : d3.hn = d3.agH := by simpa using c
          have e : wAg h.rule d3 = (d3, []) := by unfold wAg; rw [hno, if_neg (by decide), if_neg (by simpa using c)]
          refine ret xs H1 ?_
          rw [e, List.append_nil]
          exact W
      refine ⟨_, rfl, a, T.c_Door, dxa, _, _, rfl, ha1, T.cl_Door, T.n_Door_part, rfl, scal_part _ _, _, rfl, ?_⟩
      rw [part_l]
      cases hL : decide (d3.part = some .leads) with
      | false => exact iteF (els (by unfold isL; rw [hL]; rfl))
      | true =>
        refine iteT ⟨_, rfl, p, T.c_Hall, dx, _, _, rfl, hp1, T.cl_Hall, T.n_Hall__rule, rfl, rfl, _, rfl, ?_⟩
        rw [dec_str]
        cases hR : decide (h.rule = "free") with
        | true => exact iteF (els (by unfold isL; rw [hL]; simpa using hR))
        | false =>
          refine iteT ⟨_, rfl, a, T.c_Door, dxa, _, rfl, ha1, T.cl_Door, T.n_Door_agreed_here, (by show 10 < 1000; decide), ret xs _ ?_⟩
          have e : wAg h.rule d3 = ({ d3 with agH := 0 }, []) := by unfold wAg isL; rw [hL, if_pos (by simpa using hR)]
          rw [e, List.append_nil]
          exact W.fldTo { d3 with agH := 0 } rfl
    -- from when on agrees count
    have cfb : ∀ (led anew : Bool) (z : Addr) (xs : List V) (ls : List Lt) (d2 : Dr) (H1 : Hp), WS T.c_Door T.c_Say T.c_Agree a dxa z hv H H1 d2 xs ls → xs.length ≤ 10 → (∀ d3, d3 = wCf ((anew && decide (¬ h.rule = "turned")) || (ltP ahead h.st && decide (¬ h.rule = "worse"))) d2 → (wAg h.rule d3).1 = (writeM h.own h.rule h.st h.rl ahead k dr).1 ∧ ls ++ (wAg h.rule d3).2 = (writeM h.own h.rule h.st h.rl ahead k dr).2) →
        (tSeq (tIfS (tOr (tAnd (tB (tVar 5)) (tTest (tOp rNe (tFld K (tVar 0) "_rule") (tC (.str "turned"))))) (tAnd (tTest (tOp (rGtT K) (tFld K (tVar 0) "_standing") (tVar 3))) (tTest (tOp rNe (tFld K (tVar 0) "_rule") (tC (.str "worse")))))) (sFld K (tVar 2) (tFld K (tVar 2) "said") "counts_from") tNext) (tSeq (tIfS (tAnd (tTest (tOp rEq (tFld K (tVar 2) "part") (tC (.str "leads")))) (tTest (tOp rNe (tFld K (tVar 0) "_rule") (tC (.str "free"))))) (sFld K (tVar 2) (tC (.int 0)) "agreed_here") (tIfS (tTest (tOp rNe (tFld K (tVar 2) "heard_number") (tFld K (tVar 2) "agreed_here"))) (tSeq (sFld K (tVar 2) (tFld K (tVar 2) "heard_number") "agreed_here") (tDrop (tBM K "list" rAppend (tVar 6) (tCons (tMake T.c_Agree (sp_initA T.c_Agree) [] E0 (tCons (tFld K (tVar 2) "agreed_here") tNil)) tNil)))) tNext)) (tRet (tVar 6)))) { nx := fun x H' => Q V.non H', rt := Q } [some (.ref p), some (.int k), some (.ref a), some (.ref ah), some (.bl led), some (.bl anew), some (.ref z)] H1 := by
      intro led anew z xs ls d2 H1 W lx eqs
      obtain ⟨hp1, eB1⟩ := look W
      have ha1 := W.put.at_
      have yes : ((anew && decide (¬ h.rule = "turned")) || (ltP ahead h.st && decide (¬ h.rule = "worse"))) = true → sFld K (tVar 2) (tFld K (tVar 2) "said") "counts_from" { nx := ((tSeq (tIfS (tAnd (tTest (tOp rEq (tFld K (tVar 2) "part") (tC (.str "leads")))) (tTest (tOp rNe (tFld K (tVar 0) "_rule") (tC (.str "free"))))) (sFld K (tVar 2) (tC (.int 0)) "agreed_here") (tIfS (tTest (tOp rNe (tFld K (tVar 2) "heard_number") (tFld K (tVar 2) "agreed_here"))) (tSeq (sFld K (tVar 2) (tFld K (tVar 2) "heard_number") "agreed_here") (tDrop (tBM K "list" rAppend (tVar 6) (tCons (tMake T.c_Agree (sp_initA T.c_Agree) [] E0 (tCons (tFld K (tVar 2) "agreed_here") tNil)) tNil)))) tNext)) (tRet (tVar 6))) ({ nx := fun x H' => Q V.non H', rt := Q } : Ends)), rt := Q } [some (.ref p), some (.int k), some (.ref a), some (.ref ah), some (.bl led), some (.bl anew), some (.ref z)] H1 := fun hc => by
        obtain ⟨q1, q2⟩ := eqs { d2 with cf := d2.said } (by rw [hc]; rfl)
        exact ⟨_, rfl, a, T.c_Door, dxa, _, _, rfl, ha1, T.cl_Door, T.n_Door_said, rfl, _, rfl, a, T.c_Door, dxa, _, rfl, ha1, T.cl_Door, T.n_Door_counts_from, (by show 10 < 1000; decide), ag led anew z xs ls { d2 with cf := d2.said } _ (W.fldTo _ rfl) lx q1 q2⟩
      have no : ((anew && decide (¬ h.rule = "turned")) || (ltP ahead h.st && decide (¬ h.rule = "worse"))) = false → (tSeq (tIfS (tAnd (tTest (tOp rEq (tFld K (tVar 2) "part") (tC (.str "leads")))) (tTest (tOp rNe (tFld K (tVar 0) "_rule") (tC (.str "free"))))) (sFld K (tVar 2) (tC (.int 0)) "agreed_here") (tIfS (tTest (tOp rNe (tFld K (tVar 2) "heard_number") (tFld K (tVar 2) "agreed_here"))) (tSeq (sFld K (tVar 2) (tFld K (tVar 2) "heard_number") "agreed_here") (tDrop (tBM K "list" rAppend (tVar 6) (tCons (tMake T.c_Agree (sp_initA T.c_Agree) [] E0 (tCons (tFld K (tVar 2) "agreed_here") tNil)) tNil)))) tNext)) (tRet (tVar 6))) { nx := fun x H' => Q V.non H', rt := Q } [some (.ref p), some (.int k), some (.ref a), some (.ref ah), some (.bl led), some (.bl anew), some (.ref z)] H1 := fun hc => by
        obtain ⟨q1, q2⟩ := eqs d2 (by rw [hc]; rfl)
        exact ag led anew z xs ls d2 H1 W lx q1 q2
      have gt : ∀ {R : Bool → Hp → Prop}, R (ltP ahead h.st) H1 → tTest (tOp (rGtT K) (tFld K (tVar 0) "_standing") (tVar 3)) [some (.ref p), some (.int k), some (.ref a), some (.ref ah), some (.bl led), some (.bl anew), some (.ref z)] H1 R := fun {R} r => by
        refine ⟨_, rfl, p, T.c_Hall, dx, _, _, rfl, hp1, T.cl_Hall, T.n_Hall__standing, rfl, _, rfl, s, ah, [h.st.1, h.st.2], [ahead.1, ahead.2], rfl, rfl, SqT.of (eB1 _ _ hs), SqT.of (eB1 _ _ hah), _, rfl, ?_⟩
        rw [gt_pair]
        exact r
      have ru : ∀ {t : Str} {R : Bool → Hp → Prop}, R (decide (¬ h.rule = t)) H1 → tTest (tOp rNe (tFld K (tVar 0) "_rule") (tC (.str t))) [some (.ref p), some (.int k), some (.ref a), some (.ref ah), some (.bl led), some (.bl anew), some (.ref z)] H1 R := fun {t R} r => by
        refine ⟨_, rfl, p, T.c_Hall, dx, _, _, rfl, hp1, T.cl_Hall, T.n_Hall__rule, rfl, rfl, _, rfl, ?_⟩
        rw [dec_str, ← decide_not]
        exact r
      have snd : (anew && decide (¬ h.rule = "turned")) = false → tTest (tOp (rGtT K) (tFld K (tVar 0) "_standing") (tVar 3)) [some (.ref p), some (.int k), some (.ref a), some (.ref ah), some (.bl led), some (.bl anew), some (.ref z)] H1 (fun c H2 => if c = true then tTest (tOp rNe (tFld K (tVar 0) "_rule") (tC (.str "worse"))) [some (.ref p), some (.int k), some (.ref a), some (.ref ah), some (.bl led), some (.bl anew), some (.ref z)] H2 (fun b H3 => if b = true then sFld K (tVar 2) (tFld K (tVar 2) "said") "counts_from" { nx := ((tSeq (tIfS (tAnd (tTest (tOp rEq (tFld K (tVar 2) "part") (tC (.str "leads")))) (tTest (tOp rNe (tFld K (tVar 0) "_rule") (tC (.str "free"))))) (sFld K (tVar 2) (tC (.int 0)) "agreed_here") (tIfS (tTest (tOp rNe (tFld K (tVar 2) "heard_number") (tFld K (tVar 2) "agreed_here"))) (tSeq (sFld K (tVar 2) (tFld K (tVar 2) "heard_number") "agreed_here") (tDrop (tBM K "list" rAppend (tVar 6) (tCons (tMake T.c_Agree (sp_initA T.c_Agree) [] E0 (tCons (tFld K (tVar 2) "agreed_here") tNil)) tNil)))) tNext)) (tRet (tVar 6))) ({ nx := fun x H' => Q V.non H', rt := Q } : Ends)), rt := Q } [some (.ref p), some (.int k), some (.ref a), some (.ref ah), some (.bl led), some (.bl anew), some (.ref z)] H3 else (tSeq (tIfS (tAnd (tTest (tOp rEq (tFld K (tVar 2) "part") (tC (.str "leads")))) (tTest (tOp rNe (tFld K (tVar 0) "_rule") (tC (.str "free"))))) (sFld K (tVar 2) (tC (.int 0)) "agreed_here") (tIfS (tTest (tOp rNe (tFld K (tVar 2) "heard_number") (tFld K (tVar 2) "agreed_here"))) (tSeq (sFld K (tVar 2) (tFld K (tVar 2) "heard_number") "agreed_here") (tDrop (tBM K "list" rAppend (tVar 6) (tCons (tMake T.c_Agree (sp_initA T.c_Agree) [] E0 (tCons (tFld K (tVar 2) "agreed_here") tNil)) tNil)))) tNext)) (tRet (tVar 6))) { nx := fun x H' => Q V.non H', rt := Q } [some (.ref p), some (.int k), some (.ref a), some (.ref ah), some (.bl led), some (.bl anew), some (.ref z)] H3) else (tSeq (tIfS (tAnd (tTest (tOp rEq (tFld K (tVar 2) "part") (tC (.str "leads")))) (tTest (tOp rNe (tFld K (tVar 0) "_rule") (tC (.str "free"))))) (sFld K (tVar 2) (tC (.int 0)) "agreed_here") (tIfS (tTest (tOp rNe (tFld K (tVar 2) "heard_number") (tFld K (tVar 2) "agreed_here"))) (tSeq (sFld K (tVar 2) (tFld K (tVar 2) "heard_number") "agreed_here") (tDrop (tBM K "list" rAppend (tVar 6) (tCons (tMake T.c_Agree (sp_initA T.c_Agree) [] E0 (tCons (tFld K (tVar 2) "agreed_here") tNil)) tNil)))) tNext)) (tRet (tVar 6))) { nx := fun x H' => Q V.non H', rt := Q } [some (.ref p), some (.int k), some (.ref a), some (.ref ah), some (.bl led), some (.bl anew), some (.ref z)] H2) := fun h0 => by
        refine gt ?_
        cases hg : ltP ahead h.st with
        | false => exact iteF (no (by rw [h0, hg]; rfl))
        | true =>
          refine iteT (ru ?_)
          cases hw : decide (¬ h.rule = "worse") with
          | false => exact iteF (no (by rw [h0, hg, hw]; rfl))
          | true => exact iteT (yes (by rw [h0, hg, hw]; rfl))
      refine ⟨_, rfl, anew, rfl, ?_⟩
      cases anew with
      | false => exact iteF (snd rfl)
      | true =>
        refine iteT (ru ?_)
        cases hw : decide (¬ h.rule = "turned") with
        | false => exact iteF (snd (by rw [hw]; rfl))
        | true => exact iteT (yes (by rw [hw]; rfl))
    -- what it says
    have key : ∀ says : Bool, says = ((isL (turnM h.own h.st h.rl k dr) && !isL dr) || decide (¬ h.st = ahead)) → ∀ d3, d3 = wCf (((isL (turnM h.own h.st h.rl k dr) && !isL dr) && decide (¬ h.rule = "turned")) || (ltP ahead h.st && decide (¬ h.rule = "worse"))) (wSay h.st says (turnM h.own h.st h.rl k dr)).1 →
        (wAg h.rule d3).1 = (writeM h.own h.rule h.st h.rl ahead k dr).1 ∧ (wSay h.st says (turnM h.own h.st h.rl k dr)).2 ++ (wAg h.rule d3).2 = (writeM h.own h.rule h.st h.rl ahead k dr).2 := fun says h1 d3 h3 => by
      subst h3 h1
      exact ⟨rfl, rfl⟩
    have sayb : ∀ (led anew : Bool) (H1 : Hp), Put1 a (.ins T.c_Door dxa (fD (turnM h.own h.st h.rl k dr) hv)) H H1 → anew = (isL (turnM h.own h.st h.rl k dr) && !isL dr) →
        (tSeq (tAsg (tLst tNil) (gName 6)) (tSeq (tIfS (tOr (tB (tVar 5)) (tTest (tOp (rNeD K) (tFld K (tVar 0) "_standing") (tVar 3)))) (tSeq (sFldAug K (tVar 2) (tC (.int 1)) rAdd "said") (tDrop (tBM K "list" rAppend (tVar 6) (tCons (tMake T.c_Say (sp_initS T.c_Say) [] E0 (tCons (tFld K (tVar 2) "said") (tCons (tOp (rIxT K) (tFld K (tVar 0) "_standing") (tC (.int 0))) (tCons (tOp (rIxT K) (tFld K (tVar 0) "_standing") (tC (.int 1))) tNil)))) tNil)))) tNext) (tSeq (tIfS (tOr (tAnd (tB (tVar 5)) (tTest (tOp rNe (tFld K (tVar 0) "_rule") (tC (.str "turned"))))) (tAnd (tTest (tOp (rGtT K) (tFld K (tVar 0) "_standing") (tVar 3))) (tTest (tOp rNe (tFld K (tVar 0) "_rule") (tC (.str "worse")))))) (sFld K (tVar 2) (tFld K (tVar 2) "said") "counts_from") tNext) (tSeq (tIfS (tAnd (tTest (tOp rEq (tFld K (tVar 2) "part") (tC (.str "leads")))) (tTest (tOp rNe (tFld K (tVar 0) "_rule") (tC (.str "free"))))) (sFld K (tVar 2) (tC (.int 0)) "agreed_here") (tIfS (tTest (tOp rNe (tFld K (tVar 2) "heard_number") (tFld K (tVar 2) "agreed_here"))) (tSeq (sFld K (tVar 2) (tFld K (tVar 2) "heard_number") "agreed_here") (tDrop (tBM K "list" rAppend (tVar 6) (tCons (tMake T.c_Agree (sp_initA T.c_Agree) [] E0 (tCons (tFld K (tVar 2) "agreed_here") tNil)) tNil)))) tNext)) (tRet (tVar 6)))))) { nx := fun x H' => Q V.non H', rt := Q } [some (.ref p), some (.int k), some (.ref a), some (.ref ah), some (.bl led), some (.bl anew), none] H1 := by
      intro led anew H1 put hanew
      refine ⟨Nat.zero_le _, fun z hz => ?_⟩
      have W : WS T.c_Door T.c_Say T.c_Agree a dxa z hv H (upd H1 z (.lst [])) (turnM h.own h.st h.rl k dr) [] [] := by
        refine ⟨put.ext (Ex.new hz), ha0, ?_, upd_same, .nil⟩
        cases q : H z with
        | none => rfl
        | some o =>
          by_cases e : z = a
          · rw [e, put.at_] at hz
            cases hz
          · rw [put.rest z o e q] at hz
            cases hz
      generalize upd H1 z (.lst []) = H2 at W ⊢
      obtain ⟨hp2, eB2⟩ := look W
      rw [← hanew] at key
      dsimp only
      have yes : (anew || decide (¬ h.st = ahead)) = true → tSeq (sFldAug K (tVar 2) (tC (.int 1)) rAdd "said") (tDrop (tBM K "list" rAppend (tVar 6) (tCons (tMake T.c_Say (sp_initS T.c_Say) [] E0 (tCons (tFld K (tVar 2) "said") (tCons (tOp (rIxT K) (tFld K (tVar 0) "_standing") (tC (.int 0))) (tCons (tOp (rIxT K) (tFld K (tVar 0) "_standing") (tC (.int 1))) tNil)))) tNil))) { nx := ((tSeq (tIfS (tOr (tAnd (tB (tVar 5)) (tTest (tOp rNe (tFld K (tVar 0) "_rule") (tC (.str "turned"))))) (tAnd (tTest (tOp (rGtT K) (tFld K (tVar 0) "_standing") (tVar 3))) (tTest (tOp rNe (tFld K (tVar 0) "_rule") (tC (.str "worse")))))) (sFld K (tVar 2) (tFld K (tVar 2) "said") "counts_from") tNext) (tSeq (tIfS (tAnd (tTest (tOp rEq (tFld K (tVar 2) "part") (tC (.str "leads")))) (tTest (tOp rNe (tFld K (tVar 0) "_rule") (tC (.str "free"))))) (sFld K (tVar 2) (tC (.int 0)) "agreed_here") (tIfS (tTest (tOp rNe (tFld K (tVar 2) "heard_number") (tFld K (tVar 2) "agreed_here"))) (tSeq (sFld K (tVar 2) (tFld K (tVar 2) "heard_number") "agreed_here") (tDrop (tBM K "list" rAppend (tVar 6) (tCons (tMake T.c_Agree (sp_initA T.c_Agree) [] E0 (tCons (tFld K (tVar 2) "agreed_here") tNil)) tNil)))) tNext)) (tRet (tVar 6)))) ({ nx := fun x H' => Q V.non H', rt := Q } : Ends)), rt := Q } [some (.ref p), some (.int k), some (.ref a), some (.ref ah), some (.bl led), some (.bl anew), some (.ref z)] H2 := fun hc => by
        refine ⟨_, rfl, a, T.c_Door, dxa, _, _, rfl, W.put.at_, T.cl_Door, T.n_Door_said, rfl, _, _, rfl, rfl, dxa, _, W.put.at_, (by show 10 < 1000; decide), ?_⟩
        have W2 : WS T.c_Door T.c_Say T.c_Agree a dxa z hv H (upd H2 a (.ins T.c_Door dxa (putF "said" (.int ((turnM h.own h.st h.rl k dr).said + 1)) (fD (turnM h.own h.st h.rl k dr) hv)))) { turnM h.own h.st h.rl k dr with said := (turnM h.own h.st h.rl k dr).said + 1 } [] [] := W.fldTo _ rfl
        generalize upd H2 a (.ins T.c_Door dxa (putF "said" (.int ((turnM h.own h.st h.rl k dr).said + 1)) (fD (turnM h.own h.st h.rl k dr) hv))) = H3 at W2 ⊢
        obtain ⟨hp3, eB3⟩ := look W2
        refine ⟨_, rfl, .inl ⟨rfl, _, SqL.of W2.zH⟩, _, rfl, a, T.c_Door, dxa, _, _, rfl, W2.put.at_, T.cl_Door, T.n_Door_said, rfl, _, rfl, p, T.c_Hall, dx, _, _, rfl, hp3, T.cl_Hall, T.n_Hall__standing, rfl, s, _, 0, _, rfl, rfl, SqT.of (eB3 _ _ hs), atI_nat (j := 0) rfl, _, rfl, p, T.c_Hall, dx, _, _, rfl, hp3, T.cl_Hall, T.n_Hall__standing, rfl, s, _, 1, _, rfl, rfl, SqT.of (eB3 _ _ hs), atI_nat (j := 1) rfl, fun x dx' hx hdx ne' => ⟨dx', x, _, h.st.1, h.st.2, rfl, upd_same, fun H' off at_ => ⟨rfl, ?_⟩⟩⟩
        have eH := made_ex hx hdx off
        refine ⟨z, _, _, rfl, rfl, eH _ _ W2.zH, by decide, cfb led anew z ([] ++ [.ref x]) ([] ++ [.say ((turnM h.own h.st h.rl k dr).said + 1) h.st.1 h.st.2]) _ _ (W2.letter (l := .say ((turnM h.own h.st h.rl k dr).said + 1) h.st.1 h.st.2) hx eH ⟨dx', at_⟩) (by show 1 ≤ 10; decide) fun d3 h3 => ?_⟩
        exact key true hc.symm d3 h3
      have no : (anew || decide (¬ h.st = ahead)) = false → (tSeq (tIfS (tOr (tAnd (tB (tVar 5)) (tTest (tOp rNe (tFld K (tVar 0) "_rule") (tC (.str "turned"))))) (tAnd (tTest (tOp (rGtT K) (tFld K (tVar 0) "_standing") (tVar 3))) (tTest (tOp rNe (tFld K (tVar 0) "_rule") (tC (.str "worse")))))) (sFld K (tVar 2) (tFld K (tVar 2) "said") "counts_from") tNext) (tSeq (tIfS (tAnd (tTest (tOp rEq (tFld K (tVar 2) "part") (tC (.str "leads")))) (tTest (tOp rNe (tFld K (tVar 0) "_rule") (tC (.str "free"))))) (sFld K (tVar 2) (tC (.int 0)) "agreed_here") (tIfS (tTest (tOp rNe (tFld K (tVar 2) "heard_number") (tFld K (tVar 2) "agreed_here"))) (tSeq (sFld K (tVar 2) (tFld K (tVar 2) "heard_number") "agreed_here") (tDrop (tBM K "list" rAppend (tVar 6) (tCons (tMake T.c_Agree (sp_initA T.c_Agree) [] E0 (tCons (tFld K (tVar 2) "agreed_here") tNil)) tNil)))) tNext)) (tRet (tVar 6)))) { nx := fun x H' => Q V.non H', rt := Q } [some (.ref p), some (.int k), some (.ref a), some (.ref ah), some (.bl led), some (.bl anew), some (.ref z)] H2 := fun hc => cfb led anew z [] [] _ H2 W (by decide) fun d3 h3 => key false hc.symm d3 h3
      refine ⟨_, rfl, anew, rfl, ?_⟩
      cases anew with
      | true => exact iteT (yes rfl)
      | false =>
        refine iteF ⟨_, rfl, p, T.c_Hall, dx, _, _, rfl, hp2, T.cl_Hall, T.n_Hall__standing, rfl, _, rfl, _, _, dp_pair (eB2 _ _ hs), dp_pair (eB2 _ _ hah), shaped_pair _, shaped_pair _, _, rfl, ?_⟩
        rw [eqv_pair, ← decide_not]
        cases hd : decide (¬ h.st = ahead) with
        | true => exact iteT (yes (by rw [hd]; rfl))
        | false => exact iteF (no (by rw [hd]; rfl))
    refine ⟨_, rfl, a, T.c_Door, dxa, _, _, rfl, ha, T.cl_Door, T.n_Door_part, rfl, scal_part _ _, ?_⟩
    dsimp only
    refine ⟨_, rfl, p, dx, _, rfl, hp, by cases po <;> rfl, _, rfl, _, rfl, p, a, e, d, s, dx, dxa, k, h, po, dr, hv, B, rfl, hp, eB, hs, ha, hh, ne, na, fun H1 put => ?_⟩
    dsimp only
    refine ⟨_, rfl, a, T.c_Door, dxa, _, _, rfl, put.at_, T.cl_Door, T.n_Door_part, rfl, scal_part _ _, _, rfl, ?_⟩
    have pl := part_l (turnM h.own h.st h.rl k dr).part
    cases hL : decide ((turnM h.own h.st h.rl k dr).part = some .leads) with
    | false =>
      rw [hL] at pl
      rw [pl]
      exact iteF (sayb _ false H1 put (by unfold isL; rw [hL]; rfl))
    | true =>
      rw [hL] at pl
      rw [pl]
      exact iteT ⟨_, rfl, _, rfl, sayb _ _ H1 put (by unfold isL; rw [hL, part_l]; rfl)⟩
end
end K24

set_option maxHeartbeats 1000000
namespace K24
open PySem PySem.Spec PyProof.Rows L2 Evl MyG
/-! ### a step -/
def runs (ds : List (Int × Option Dr)) : List (Int × Dr) := ds.filterMap fun x => x.2.map fun d => (x.1, d)
def rowOf (x : Int × Dr) : Option R4 := x.2.hs.map fun h => (h.1, h.2 + x.2.cost, x.2.bey, x.1)
def newSt (h : HSt) : R4 := leastM h.own h.most ((runs h.doors).filterMap rowOf)
def writeH (h : HSt) (k : Int) (d : Dr) : Dr × List Lt := writeM h.own h.rule ((newSt h).1, (newSt h).2.1) (linkOf (newSt h)) h.st k d
def stepH (h : HSt) : HSt := { h with st := ((newSt h).1, (newSt h).2.1), rl := linkOf (newSt h), doors := h.doors.map fun x => (x.1, x.2.map fun d => (writeH h x.1 d).1) }
def stepP (h : HSt) : List (Int × Lt) := (runs h.doors).flatMap fun x => (writeH h x.1 x.2).2.map fun l => (x.1, l)
/-- what is new behind and neither a region's nor at z joins what is known -/
def grow (B H H' M' : Hp) (z : Addr) : Hp := fun x => match B x with
  | some o => some o
  | none => if H x = none ∧ M' x = none ∧ x ≠ z then H' x else none
theorem grow_old {B H H' M' : Hp} {z : Addr} : Ex B (grow B H H' M' z) := fun x o h => by unfold grow; rw [h]
theorem grow_new {B H H' M' : Hp} {z x : Addr} {o : HO} (e : Ex B H) (h : H' x = some o) (h0 : H x = none) (hm : M' x = none) (hz : x ≠ z) : grow B H H' M' z x = some o := by
  unfold grow
  rw [fresh_back e h0]
  dsimp only
  rw [if_pos ⟨h0, hm, hz⟩]
  exact h
theorem grow_ex {B H H' M' : Hp} {z : Addr} (e : Ex B H') : Ex (grow B H H' M' z) H' := fun x o h => by
  unfold grow at h
  cases q : B x with
  | some u =>
    rw [q] at h
    rw [← h]
    exact e _ _ q
  | none =>
    rw [q] at h
    dsimp only at h
    split at h
    · exact h
    · cases h
theorem hs_ext {B B' : Hp} {v : V} {x : Option (Int × Int)} (e : Ex B B') (h : HsAt B v x) : HsAt B' v x := by
  cases x with
  | none => exact h
  | some q =>
    obtain ⟨a, h1, h2⟩ := h
    exact ⟨a, h1, e _ _ h2⟩
theorem lt_map {S A b : Addr} {H H' : Hp} (f : ∀ c dx fs, H b = some (.ins c dx fs) → H' b = some (.ins c dx fs)) : ∀ {l : Lt}, LtAt S A H b l → LtAt S A H' b l
  | .say _ _ _, ⟨dx, h⟩ => ⟨dx, f _ _ _ h⟩
  | .agree _, ⟨dx, h⟩ => ⟨dx, f _ _ _ h⟩
theorem writeM_hs {own : Int} {rule : Str} {st : Int × Int} {rl : Option Int} {ahead : Int × Int} {k : Int} {d : Dr} : (writeM own rule st rl ahead k d).1.hs = d.hs := by
  have h1 : ∀ (s : Bool) (d : Dr), (wSay st s d).1.hs = d.hs := fun s d => by cases s <;> rfl
  have h2 : ∀ (d : Dr), (wAg rule d).1.hs = d.hs := fun d => by
    unfold wAg
    split
    · rfl
    · split <;> rfl
  have h3 : ∀ (s : Bool) (d : Dr), (wCf s d).hs = d.hs := fun s d => by cases s <;> rfl
  have h4 : (turnM own st rl k d).hs = d.hs := by
    unfold turnM
    repeat (first | rfl | split)
  unfold writeM
  dsimp only
  rw [h2, h3, h1, h4]
def only (M H : Hp) : Hp := fun x => if (M x).isSome = true then H x else none
theorem only_some {M H : Hp} {x : Addr} {o : HO} (h : M x = some o) : only M H x = H x := by
  unfold only
  rw [h]
  rfl
theorem only_none {M H : Hp} {x : Addr} (h : M x = none) : only M H x = none := by
  unfold only
  rw [h]
  rfl
theorem stepH_fst (h : HSt) : (stepH h).doors.map (·.1) = h.doors.map (·.1) := by
  unfold stepH
  rw [List.map_map]
  rfl
def PostsAt (S A : Addr) (B : Hp) : List V → List (Int × Lt) → Prop := Paired fun (v : V) (x : Int × Lt) => ∃ t b, v = .ref t ∧ B t = some (.tup [.int x.1, .ref b]) ∧ LtAt S A B b x.2
def runOf : List V → List (Int × Option Dr) → List (Int × V × Dr)
  | v :: vs, (k, some d) :: r => (k, v, d) :: runOf vs r
  | _ :: vs, (_, none) :: r => runOf vs r
  | _, _ => []
theorem runOf_snoc : ∀ {vs : List V} {ds : List (Int × Option Dr)} {v : V} {k : Int} {x : Option Dr}, vs.length = ds.length → runOf (vs ++ [v]) (ds ++ [(k, x)]) = runOf vs ds ++ (match x with | none => [] | some d => [(k, v, d)])
  | [], [], v, k, x, _ => by cases x <;> rfl
  | [], _ :: _, _, _, _, h => by simp at h
  | _ :: _, [], _, _, _, h => by simp at h
  | v0 :: vs, (k0, none) :: ds, v, k, x, h => runOf_snoc (vs := vs) (ds := ds) (by simpa using h)
  | v0 :: vs, (k0, some d0) :: ds, v, k, x, h => congrArg ((k0, v0, d0) :: ·) (runOf_snoc (vs := vs) (ds := ds) (by simpa using h))
def RunAt (H : Hp) : List V → List (Int × V × Dr) → Prop := Paired fun (v : V) (r : Int × V × Dr) => ∃ t, v = .ref t ∧ H t = some (.tup [.int r.1, r.2.1])
theorem intK_len {ls : List Int} {vs : List V} (h : vs.length = ls.length) : (intK ls vs).length = ls.length := by
  unfold intK
  rw [List.length_zipWith, h, Nat.min_self]
theorem intK_ix : ∀ {ls : List Int} {vs : List V} {i : Nat} {k : Key} {v : V}, (intK ls vs)[i]? = some (k, v) → ∃ l, ls[i]? = some l ∧ vs[i]? = some v ∧ k = Sum.inl l
  | [], _, _, _, _, h => by simp [intK] at h
  | _ :: _, [], _, _, _, h => by simp [intK] at h
  | l0 :: ls, v0 :: vs, 0, k, v, h => by
    have h : (Sum.inl l0, v0) = (k, v) := by simpa [intK] using h
    obtain ⟨rfl, rfl⟩ := Prod.mk.inj h
    exact ⟨l0, rfl, rfl, rfl⟩
  | l0 :: ls, v0 :: vs, i + 1, k, v, h => by
    have := intK_ix (ls := ls) (vs := vs) (i := i) (show (intK ls vs)[i]? = some (k, v) by simpa [intK] using h)
    simpa using this
theorem runOf_len : ∀ (vs : List V) (ds : List (Int × Option Dr)), (runOf vs ds).length ≤ ds.length
  | [], ds => by cases ds <;> simp [runOf]
  | v :: vs, [] => by simp [runOf]
  | v :: vs, (k, none) :: ds => Nat.le_succ_of_le (runOf_len vs ds)
  | v :: vs, (k, some d) :: ds => Nat.succ_le_succ (runOf_len vs ds)
theorem run_door {D : Addr} {B M : Hp} {vs : List V} {ds : List (Int × Option Dr)} {r : Int × V × Dr} (h : Paired (fun (v : V) (x : Int × Option Dr) => DoorAt D B M v x.2) vs ds) : r ∈ runOf vs ds → ∃ a dxa hv, r.2.1 = .ref a ∧ M a = some (.ins D dxa (fD r.2.2 hv)) ∧ HsAt B hv r.2.2.hs := by
  induction h with
  | nil => intro h; exact absurd h (by simp [runOf])
  | @cons v x vs ds q t ih =>
    intro h
    obtain ⟨k, x⟩ := x
    cases x with
    | none => exact ih h
    | some d =>
      rcases List.mem_cons.mp (show r ∈ (k, v, d) :: runOf vs ds from h) with e | h
      · rw [e]
        exact q
      · exact ih h
theorem runs_runOf : ∀ {vs : List V} {ds : List (Int × Option Dr)}, vs.length = ds.length → (runOf vs ds).map (fun r => (r.1, r.2.2)) = runs ds
  | [], [], _ => rfl
  | [], _ :: _, h => by simp at h
  | _ :: _, [], h => by simp at h
  | v :: vs, (k, none) :: ds, h => runs_runOf (vs := vs) (ds := ds) (by simpa using h)
  | v :: vs, (k, some d) :: ds, h => congrArg ((k, d) :: ·) (runs_runOf (vs := vs) (ds := ds) (by simpa using h))
theorem runs_rows {vs : List V} {ds : List (Int × Option Dr)} (h : vs.length = ds.length) : (runOf vs ds).filterMap (fun r => rowOf (r.1, r.2.2)) = (runs ds).filterMap rowOf := by
  rw [← runs_runOf h, List.filterMap_map]
  rfl
theorem fH_len {h : HSt} {e d s : Addr} {po : Option Addr} : (fH h e d s po).length < 1000 := by
  cases po
  · show 7 < 1000; decide
  · show 8 < 1000; decide
theorem putF_fH_len {h : HSt} {e d s : Addr} {po : Option Addr} {v : V} : (putF "_root_link" v (fH h e d s po)).length = (fH h e d s po).length := by
  cases po <;> rfl
theorem fH_new {h : HSt} {e d s s2 : Addr} {po : Option Addr} {st : Int × Int} {rl : Option Int} : putF "_standing" (.ref s2) (putF "_root_link" (oiV rl) (fH h e d s po)) = fH { h with st := st, rl := rl } e d s2 po := by
  cases po <;> rfl
theorem writeM_len {own : Int} {rule : Str} {st : Int × Int} {rl : Option Int} {ahead : Int × Int} {k : Int} {d : Dr} : (writeM own rule st rl ahead k d).2.length ≤ 2 := by
  have h1 : ∀ (s : Bool) (d : Dr), (wSay st s d).2.length ≤ 1 := fun s d => by cases s <;> simp [wSay]
  have h2 : ∀ (d : Dr), (wAg rule d).2.length ≤ 1 := fun d => by
    unfold wAg
    split
    · simp
    · split <;> simp
  unfold writeM
  dsimp only
  rw [List.length_append]
  exact Nat.add_le_add (h1 _ _) (h2 _)
/-- the doors written one by one -/
structure SL (D S A : Addr) (B M H H7 H' : Hp) (z : Addr) (h : HSt) (rs : List (Int × V × Dr)) (i : Nat) (pp : List V) : Prop where
  keep : ∀ x o, x ≠ z → (∀ r ∈ rs, r.2.1 ≠ .ref x) → H7 x = some o → H' x = some o
  doors : ∀ (j : Nat) r, rs[j]? = some r → ∃ a dxa hv, r.2.1 = .ref a ∧ M a = some (.ins D dxa (fD r.2.2 hv)) ∧ H' a = some (.ins D dxa (fD (if j < i then (writeH h r.1 r.2.2).1 else r.2.2) hv)) ∧ HsAt B hv r.2.2.hs
  zl : H' z = some (.lst pp)
  len : pp.length ≤ 2 * i
  posts : Paired (fun v (x : Int × Lt) => ∃ t b, v = .ref t ∧ H t = none ∧ H b = none ∧ H' t = some (.tup [.int x.1, .ref b]) ∧ LtAt S A H' b x.2) pp ((rs.take i).flatMap fun r => (writeH h r.1 r.2.2).2.map fun l => (r.1, l))
theorem run_mem {vs : List V} {ds : List (Int × Option Dr)} : ∀ {r : Int × V × Dr}, r ∈ runOf vs ds → r.2.1 ∈ vs := by
  induction vs generalizing ds with
  | nil => intro r h; cases ds <;> simp [runOf] at h
  | cons v vs ih =>
    intro r h
    match ds, h with
    | [], h => simp [runOf] at h
    | (k, none) :: ds, h => exact List.mem_cons_of_mem _ (ih (ds := ds) h)
    | (k, some d) :: ds, h =>
      rcases List.mem_cons.mp (show r ∈ (k, v, d) :: runOf vs ds from h) with e | h
      · rw [e]; exact List.mem_cons_self ..
      · exact List.mem_cons_of_mem _ (ih h)
theorem SL.old {D S A : Addr} {B M H H7 H' : Hp} {z : Addr} {h : HSt} {rs : List (Int × V × Dr)} {i : Nat} {pp : List V} (L : SL D S A B M H H7 H' z h rs i pp) (g : ∀ x o, H x = some o → x ≠ z ∧ ∃ o', H7 x = some o') {x : Addr} (hx : H' x = none) : H x = none := by
  cases q : H x with
  | none => rfl
  | some o =>
    obtain ⟨nz, o', q'⟩ := g _ _ q
    by_cases e : ∃ r, r ∈ rs ∧ r.2.1 = .ref x
    · obtain ⟨r, hr, e⟩ := e
      obtain ⟨j, hj⟩ := List.getElem?_of_mem hr
      obtain ⟨a, _, _, e1, _, e3, _⟩ := L.doors j r hj
      rw [e] at e1
      obtain rfl := V.ref.inj e1
      rw [hx] at e3
      cases e3
    · rw [L.keep x o' nz (fun r hr e' => e ⟨r, hr, e'⟩) q'] at hx
      cases hx
theorem paired_run {R R' : V → Int × Option Dr → Prop} {f : Int × Option Dr → Int × Option Dr} {vs : List V} {ds : List (Int × Option Dr)} (h : Paired R vs ds) : (∀ v k, R v (k, none) → R' v (f (k, none))) → (∀ v k d, (k, v, d) ∈ runOf vs ds → R v (k, some d) → R' v (f (k, some d))) → Paired R' vs (ds.map f) := by
  induction h with
  | nil => exact fun _ _ => .nil
  | @cons v x vs ds q t ih =>
    intro f0 f1
    obtain ⟨k, x⟩ := x
    cases x with
    | none => exact .cons (f0 v k q) (ih f0 f1)
    | some d => exact .cons (f1 v k d (List.mem_cons_self ..) q) (ih f0 fun v' k' d' hm => f1 v' k' d' (List.mem_cons_of_mem _ hm))
theorem pw_at {α β : Type} {g : α → β} {l : List α} (h : l.Pairwise fun r q => g r ≠ g q) {i j : Nat} {x y : α} (hi : l[i]? = some x) (hj : l[j]? = some y) (n : i ≠ j) : g x ≠ g y := by
  obtain ⟨hi1, rfl⟩ := List.getElem?_eq_some_iff.mp hi
  obtain ⟨hj1, rfl⟩ := List.getElem?_eq_some_iff.mp hj
  rw [List.pairwise_iff_getElem] at h
  rcases Nat.lt_or_gt_of_ne n with a | a
  · exact h i j hi1 hj1 a
  · exact fun e => h j i hj1 hi1 a e.symm
theorem paired_app {α β : Type} {R : α → β → Prop} {xs xs' : List α} {ys ys' : List β} (h : Paired R xs ys) (h' : Paired R xs' ys') : Paired R (xs ++ xs') (ys ++ ys') := by
  induction h with
  | nil => exact h'
  | cons q _ ih => exact .cons q ih
/-- no two running doors are one object -/
theorem run_apart {D : Addr} {B M : Hp} {vs : List V} {ds : List (Int × Option Dr)} (h : Paired (fun (v : V) (x : Int × Option Dr) => DoorAt D B M v x.2) vs ds) (ap : vs.Pairwise fun v u => v = u → v = .non) : (runOf vs ds).Pairwise fun r q => r.2.1 ≠ q.2.1 := by
  induction h with
  | nil => exact .nil
  | @cons v x vs ds q t ih =>
    obtain ⟨k, x⟩ := x
    rw [List.pairwise_cons] at ap
    cases x with
    | none => exact ih ap.2
    | some d =>
      refine List.pairwise_cons.mpr ⟨fun r hr e => ?_, ih ap.2⟩
      have := ap.1 _ (run_mem hr) e
      obtain ⟨a, _, _, e1, _⟩ := q
      rw [e1] at this
      cases this
def sp_hstep (C D S A : Addr) : Sp := fun vs H Q _ => ∃ (p : Addr) (B M : Hp) (h : HSt) (po : Option Addr) (e d s : Addr) (ws : List V), vs = [.ref p] ∧ Ex B H ∧ Ex M H ∧ Dj B M ∧ HallIn C D B M p h po e d s ws ∧ h.doors.length ≤ 20 ∧
  ∀ M' s' z xs H', Chg M M' H H' → (∀ x, M' x ≠ none → M x ≠ none) → H z = none → H' z = some (.lst xs) → HallIn C D (grow B H H' M' z) M' p (stepH h) po e d s' ws → PostsAt S A (grow B H H' M' z) xs (stepP h) → Q (.ref z) H'
section
variable {P : Program} {w : World} {K : PySem.W.Frag} {mg : Str → Option Value} {base : Heap}
theorem ok_hstep (T : Tx K mg) : FnOk P w K mg base CX0 4 T.a_Hall__step T.d_Hall__step ["self"] (sp_hstep T.c_Hall T.c_Door T.c_Say T.c_Agree) := by
  have G_least := ok_least (P := P) (w := w) (base := base) T
  have G_Hall__write := ok_hwrite (P := P) (w := w) (base := base) T
  refine T.F_Hall__step.ok sc_Hall__step (fun vs H Q E h => ?_) (fun cdv A outer s H vs Q E hr h => ?_)
  · obtain ⟨_, _, _, _, _, _, _, _, _, rfl, _⟩ := h
    rfl
  · obtain ⟨p, B, M, h, po, e, d, s, ws, rfl, eB, eM, dj, hall, few, q⟩ := h
    refine ⟨_, (pss_cons (ps_lock (ps_setLc (i := 3) (own := [("link", 1), ("door", 2)]) (g := (gTup K 2 (gCons (gName 1) (gCons (gName 2) gNil)))) rfl sc_Hall__step.nd rfl rfl (sw_true rfl rfl rfl (by decide +kernel)) (pi_items (fldK (K := K) rfl (pv 0) rfl)) (blkOk_by (N := n_Hall__step) (sc := defScope s_Hall__step) (by decide +kernel)) (fun _ _ _ _ _ => (pg_tup rfl (pgs_cons (pg_name (i := 1) sc_Hall__step.nd rfl (Or.inl rfl)) (pgs_cons (pg_name (i := 2) sc_Hall__step.nd rfl (Or.inl rfl)) pgs_nil)))) (fun _ _ _ _ _ => (pts_one (pt_cmpR op_notN (pv 2) pe_non (nomark _)))) (fun _ _ _ _ _ => (pe_tup (pa_cons (pv 1) (pa_cons (pv 2) pa_nil))))))
  (pss_cons (ps_set (i := 4) sc_Hall__step.nd rfl (Or.inl rfl) (pe_lst pa_nil))
  (pss_cons (ps_for PassesOwn.never rfl (iListK (K := K) rfl (pv 3)) (pg_tup rfl (pgs_cons (pg_name (i := 1) sc_Hall__step.nd rfl (Or.inr rfl)) (pgs_cons (pg_name (i := 2) sc_Hall__step.nd rfl (Or.inl rfl)) pgs_nil)))
   (pss_one (ps_if (pt_cmpR op_notN (fldK (K := K) rfl (pv 2) rfl) pe_non (nomark _)) (pss_cons (ps_asg (fldK (K := K) rfl (pv 2) rfl) (pg_tup rfl (pgs_cons (pg_name (i := 5) sc_Hall__step.nd rfl (Or.inl rfl)) (pgs_cons (pg_name (i := 6) sc_Hall__step.nd rfl (Or.inl rfl)) pgs_nil))))
  (pss_one (ps_expr (pe_bm PySem.F.plainAttrs_list PySem.F.slot_list_append PySem.F.type_list_append mt_append (pv 4) (pa_cons (pe_tup (pa_cons (pv 5) (pa_cons (pe_op op_add (pv 6) (fldK (K := K) rfl (pv 2) rfl)) (pa_cons (fldK (K := K) rfl (pv 2) rfl) (pa_cons (pv 1) pa_nil))))) pa_nil))))) pss_nil)))
  (pss_cons (ps_set (i := 7) sc_Hall__step.nd rfl (Or.inl rfl) (fldK (K := K) rfl (pv 0) rfl))
  (pss_cons (ps_asg (pe_call G_least (hr.mono (by decide)) (by rfl) T.g_least T.F_least.kp T.b_least .nil pass0 (pa_cons (fldK (K := K) rfl (pv 0) rfl) (pa_cons (pv 4) (pa_cons (fldK (K := K) rfl (pv 0) rfl) pa_nil)))) (pg_tup rfl (pgs_cons (pg_name (i := 5) sc_Hall__step.nd rfl (Or.inl rfl)) (pgs_cons (pg_name (i := 6) sc_Hall__step.nd rfl (Or.inl rfl)) (pgs_cons (pg_fldK (K := K) rfl (pv 0)) pgs_nil)))))
  (pss_cons (ps_fld (pv 0) (pe_tup (pa_cons (pv 5) (pa_cons (pv 6) pa_nil))) rfl)
  (pss_cons (ps_set (i := 8) sc_Hall__step.nd rfl (Or.inl rfl) (pe_lst pa_nil))
  (pss_cons (ps_for PassesOwn.never rfl (iListK (K := K) rfl (pv 3)) (pg_tup rfl (pgs_cons (pg_name (i := 1) sc_Hall__step.nd rfl (Or.inr rfl)) (pgs_cons (pg_name (i := 2) sc_Hall__step.nd rfl (Or.inl rfl)) pgs_nil)))
   (pss_one (ps_expr (pe_bm PySem.F.plainAttrs_list PySem.F.slot_list_extend PySem.F.type_list_extend mt_extend (pv 8) (pa_cons (pe_lc (own := [("letter", 9)]) (g := (gName 9)) (tt := tYes) rfl sc_Hall__step.nd (iListK (K := K) rfl (pe_meth (pv 0) T.cl_Hall T.me_Hall__write G_Hall__write (hr.mono (by decide)) T.b_Hall__write .nil pass0 (pa_cons (pv 1) (pa_cons (pv 2) (pa_cons (pv 7) pa_nil))))) (blkOk_by (N := n_Hall__step) (sc := defScope s_Hall__step) (by decide +kernel)) (fun _ _ _ _ _ => (pg_name (i := 9) sc_Hall__step.nd rfl (Or.inl rfl))) (fun _ _ _ _ _ => pts_nil) (fun _ _ _ _ _ => (pe_tup (pa_cons (pv 1) (pa_cons (pv 9) pa_nil))))) pa_nil)))))
  (pss_one (ps_ret (pv 8))))))))))), ?_⟩
    obtain ⟨dx, hp⟩ := hall.self
    have doorNe : ∀ {dxa : Addr} {dr : Dr} {hv : V}, some (HO.ins T.c_Hall dx (fH h e d s po)) = some (.ins T.c_Door dxa (fD dr hv)) → False := fun q => by
      have q2 := (HO.ins.inj (Option.some.inj q)).2.2
      have := congrArg (fun l => (l.map (·.1)).head?) q2
      revert this
      show some ("_hall" : Str) = some ("other_hall" : Str) → False
      decide +kernel
    have hpH := eM _ _ hp
    have hdH := eM _ _ hall.doors
    have lw := Paired.length hall.each
    have pd : p ≠ d := ne_of hp hall.doors (by intro z; cases z)
    have lk : (intK (h.doors.map (·.1)) ws).length = h.doors.length := by rw [intK_len (by rw [List.length_map]; exact lw), List.length_map]
    refine ⟨d, _, hdH, True.intro, fun od => ?_⟩
    refine ⟨_, rfl, p, T.c_Hall, dx, _, _, rfl, by rw [upd_ne pd]; exact hpH, T.cl_Hall, T.n_Hall__doors, rfl, d, od, _, rfl, upd_same, fun D hD => ?_⟩
    have Dd : D ≠ d := fun z => by rw [z, upd_same] at hD; cases hD
    generalize hHL : upd H d (.frz od (.dK (intK (h.doors.map (·.1)) ws))) = HL at hD
    have locked : HL d = some (.frz od (.dK (intK (h.doors.map (·.1)) ws))) := by rw [← hHL]; exact upd_same
    refine lc_it walk_items (fun i H' => ∃ xs, Ex HL H' ∧ H' D = some (.lst xs) ∧ xs.length ≤ i ∧ RunAt H' xs (runOf (ws.take i) (h.doors.take i))) ⟨[], Ex.new hD, upd_same, Nat.zero_le _, .nil⟩ (fun i H' _ ⟨_, ex, _⟩ => ex _ _ locked) ?_ ?_
    · rintro i x Ha Ha' hi ⟨xs, ex, hDa, lx, hx⟩ yl
      obtain ⟨T', x1, y1, rfl, hT, rfl, hx1, hy1⟩ := yl
      obtain ⟨kv, hkv⟩ : ∃ kv, (intK (h.doors.map (·.1)) ws)[i]? = some kv := ⟨_, List.getElem?_eq_getElem hi⟩
      dsimp only at hx1 hy1
      rw [hkv] at hx1 hy1
      obtain ⟨kk, v⟩ := kv
      obtain ⟨l, hl, hv, rfl⟩ := intK_ix hkv
      obtain rfl : V.int l = x1 := Option.some.inj hx1
      obtain rfl : v = y1 := Option.some.inj hy1
      obtain ⟨kx, hkx, hda⟩ := paired_at hall.each hv
      obtain ⟨k, x⟩ := kx
      obtain rfl : k = l := by
        rw [List.getElem?_map, hkx] at hl
        exact Option.some.inj hl
      have ti : (ws.take i).length = (h.doors.take i).length := by rw [List.length_take, List.length_take, lw]
      have eT := Ex.new (o := .tup [.int k, v]) hT
      have sn := runOf_snoc (v := v) (k := k) (x := x) ti
      rw [← take_snoc hv, ← take_snoc hkx] at sn
      have hDT := eT _ _ hDa
      have hx' : RunAt (upd Ha T' (.tup [.int k, v])) xs (runOf (ws.take i) (h.doors.take i)) := Paired.mapP hx fun v r ⟨t, h1, h2⟩ => ⟨t, h1, eT _ _ h2⟩
      refine ⟨T', _, rfl, SqT.of upd_same, rfl, _, _, rfl, _, _, rfl, rfl, rfl, _, rfl, rfl, _, rfl, ?_⟩
      cases x with
      | none =>
        obtain rfl : v = V.non := hda
        refine ite2 (fun z => absurd z (by simp)) (fun _ => ⟨xs, ex.trans eT, hDT, by omega, ?_⟩)
        rw [sn, List.append_nil]
        exact hx'
      | some dr =>
        obtain ⟨a, dxa, hv', rfl, hMa, hh⟩ := hda
        refine ite2 (fun _ => ?_) (fun z => absurd (by simp) z)
        refine ⟨_, rfl, _, rfl, by show 2 ≤ sizeLine; decide, fun T2 hT2 => ?_⟩
        have eT2 := Ex.new (o := .tup [.int k, .ref a]) hT2
        have hD2 := eT2 _ _ hDT
        have keep : ∀ {b : Addr} {zs : List V}, (upd (upd Ha T' (.tup [.int k, .ref a])) T2 (.tup [.int k, .ref a])) b = some (.tup zs) → (upd (upd (upd Ha T' (.tup [.int k, .ref a])) T2 (.tup [.int k, .ref a])) D (.lst (xs ++ [.ref T2]))) b = some (.tup zs) := fun {b zs} hb => by
          rw [upd_ne (ne_of hb hD2 (by intro z; cases z))]
          exact hb
        refine ⟨xs, hD2, len_lt (by omega), xs ++ [.ref T2], ((ex.trans eT).trans eT2).mut hD, upd_same, by rw [List.length_append, List.length_singleton]; omega, ?_⟩
        rw [sn]
        exact Paired.snoc (Paired.mapP hx' fun v r ⟨t, h1, h2⟩ => ⟨t, h1, keep (eT2 _ _ h2)⟩) ⟨T2, rfl, keep upd_same⟩
    · rintro H' ⟨xs, ex, hDa, lx, hx⟩
      rw [lk, List.take_length, ← lw, List.take_length] at hx
      rw [lk] at lx
      have e2 := unlock_ex hdH (by rw [hHL]; exact ex)
      have hD2 : (upd H' d (.dK (intK (h.doors.map (·.1)) ws))) D = some (.lst xs) := by rw [upd_ne Dd]; exact hDa
      have hx2 : RunAt (upd H' d (.dK (intK (h.doors.map (·.1)) ws))) xs (runOf ws h.doors) := Paired.mapP hx fun v r ⟨t, h1, h2⟩ => ⟨t, h1, by
        rw [upd_ne (ne_of h2 (ex _ _ locked) (by intro z; cases z))]
        exact h2⟩
      refine ⟨ex _ _ locked, ?_⟩
      generalize upd H' d (.dK (intK (h.doors.map (·.1)) ws)) = H1 at e2 hD2 hx2 ⊢
      dsimp only
      have m1 := eM.trans e2
      have b1 := eB.trans e2
      have lxs := Paired.length hx2
      have lro : (runOf ws h.doors).length ≤ 20 := by
        have := runOf_len ws h.doors
        omega
      -- rows
      refine ⟨Nat.zero_le _, fun R hR => ?_⟩
      have eR := Ex.new (o := .lst []) hR
      have DR : D ≠ R := ne_of_none hD2 hR
      refine ⟨_, rfl, D, rfl, ⟨_, SqL.of (eR _ _ hD2)⟩, for_it (walk_list (xs := xs)) (fun i σ H' => ∃ rr y1 y2 y5 y6, σ = [some (.ref p), y1, y2, some (.ref D), some (.ref R), y5, y6, none, none, none] ∧ Ex H1 H' ∧ H' R = some (.lst rr) ∧ rr.length ≤ i ∧ R4At H' rr (((runOf ws h.doors).take i).filterMap fun r => rowOf (r.1, r.2.2)))
        ⟨[], _, _, _, _, rfl, eR, upd_same, Nat.zero_le _, .nil⟩ (fun i σ H' _ ⟨_, _, _, _, _, _, e, _⟩ => SqL.of (e _ _ hD2)) ?_ ?_⟩
      · rintro i x σ Ha Ha' hi ⟨rr, y1, y2, y5, y6, rfl, ex2, hRa, lr, hrr⟩ ⟨rfl, hxi⟩
        obtain ⟨r, hri, t, rfl, ht⟩ := paired_at hx2 hxi
        obtain ⟨k, v, dr⟩ := r
        obtain ⟨a, dxa, hv, rfl, hMa, hh⟩ := run_door hall.each (List.mem_of_getElem? hri)
        have ma := (m1.trans ex2) _ _ hMa
        have sn : ((runOf ws h.doors).take (i + 1)).filterMap (fun r => rowOf (r.1, r.2.2)) = ((runOf ws h.doors).take i).filterMap (fun r => rowOf (r.1, r.2.2)) ++ (rowOf (k, dr)).toList := by
          rw [take_snoc hri, List.filterMap_append]
          cases q : rowOf (k, dr) with
          | none => simp [q]
          | some z => simp [q]
        refine ⟨t, _, rfl, SqT.of (ex2 _ _ ht), rfl, _, _, rfl, _, _, rfl, rfl, ?_⟩
        refine ⟨_, rfl, a, T.c_Door, dxa, _, _, rfl, ma, T.cl_Door, T.n_Door_heard_standing, rfl, rfl, _, rfl, ?_⟩
        cases hhs : dr.hs with
        | none =>
          rw [hhs] at hh
          obtain rfl := hh
          refine ite2 (fun z => absurd z (by simp)) (fun _ => un_next ⟨rr, _, _, _, _, rfl, ex2, hRa, by omega, ?_⟩)
          rw [sn, show rowOf (k, dr) = none by unfold rowOf; dsimp only; rw [hhs]; rfl]
          simpa using hrr
        | some hs0 =>
          rw [hhs] at hh
          obtain ⟨b, rfl, hb⟩ := hh
          refine ite2 (fun _ => ?_) (fun z => absurd (by simp) z)
          refine ⟨_, rfl, a, T.c_Door, dxa, _, _, rfl, ma, T.cl_Door, T.n_Door_heard_standing, rfl, b, _, rfl, SqT.of ((b1.trans ex2) _ _ hb), rfl, _, _, rfl, _, _, rfl, rfl, ?_⟩
          refine ⟨_, rfl, .inl ⟨rfl, _, SqL.of hRa⟩, _, rfl, _, rfl, _, rfl, a, T.c_Door, dxa, _, _, rfl, ma, T.cl_Door, T.n_Door_link_cost, rfl, _, _, rfl, rfl, _, rfl, a, T.c_Door, dxa, _, _, rfl, ma, T.cl_Door, T.n_Door_other_hall, rfl, _, rfl, by show 4 ≤ sizeLine; decide, fun t2 ht2 => ?_⟩
          have et2 := Ex.new (o := .tup [.int hs0.1, .int (hs0.2 + dr.cost), .int dr.bey, .int k]) ht2
          have hR2 := et2 _ _ hRa
          refine ⟨R, rr, _, rfl, rfl, hR2, len_lt (by omega), rr ++ [.ref t2], _, _, _, _, rfl, (ex2.trans et2).mut (fresh_back (Ex.refl _) hR), upd_same, by rw [List.length_append, List.length_singleton]; omega, ?_⟩
          have keep : ∀ {c : Addr} {zs : List V}, (upd Ha' t2 (.tup [.int hs0.1, .int (hs0.2 + dr.cost), .int dr.bey, .int k])) c = some (.tup zs) → (upd (upd Ha' t2 (.tup [.int hs0.1, .int (hs0.2 + dr.cost), .int dr.bey, .int k])) R (.lst (rr ++ [.ref t2]))) c = some (.tup zs) := fun {c zs} hc => by
            rw [upd_ne (ne_of hc hR2 (by intro z; cases z))]
            exact hc
          rw [sn, show rowOf (k, dr) = some (hs0.1, hs0.2 + dr.cost, dr.bey, k) by unfold rowOf; dsimp only; rw [hhs]; rfl]
          exact Paired.snoc (Paired.mapP hrr fun v r ⟨c, h1, h2⟩ => ⟨c, h1, keep (et2 _ _ h2)⟩) ⟨t2, rfl, keep upd_same⟩
      · rintro σ H2 ⟨rr, y1, y2, y5, y6, rfl, ex2, hR2, lr, hrr⟩
        rw [lxs, List.take_length, runs_rows lw] at hrr
        have eH2 := e2.trans ex2
        have hp2 := eH2 _ _ hpH
        dsimp only
        refine ⟨_, rfl, p, T.c_Hall, dx, _, _, rfl, hp2, T.cl_Hall, T.n_Hall__standing, rfl, ?_⟩
        refine ⟨_, rfl, p, T.c_Hall, dx, _, _, rfl, hp2, T.cl_Hall, T.n_Hall__hall, rfl, _, rfl, _, rfl, p, T.c_Hall, dx, _, _, rfl, hp2, T.cl_Hall, T.n_Hall__most, rfl, h.own, h.most, R, rr, _, rfl, hR2, hrr, by omega, fun b0 H3 hb0 e3 h3 => ?_⟩
        have hp3 := e3 _ _ hp2
        refine ⟨b0, _, rfl, SqT.of h3, rfl, _, _, rfl, _, _, rfl, _, _, rfl, ?_⟩
        refine ⟨_, rfl, p, T.c_Hall, dx, _, rfl, hp3, T.cl_Hall, T.n_Hall__root_link, fH_len, rfl, ?_⟩
        dsimp only
        refine ⟨_, rfl, _, rfl, by show 2 ≤ sizeLine; decide, fun s2 hs2 => ?_⟩
        refine ⟨_, rfl, p, T.c_Hall, dx, _, rfl, by rw [upd_ne (ne_of_none upd_same hs2)]; exact upd_same, T.cl_Hall, T.n_Hall__standing, by rw [putF_fH_len]; exact fH_len, ?_⟩
        have fr6 : ∀ x o, x ≠ p → H3 x = some o → (upd (upd (upd H3 p (.ins T.c_Hall dx (putF "_root_link" (oiV (linkOf (newSt h))) (fH h e d s po)))) s2 (.tup [.int (newSt h).1, .int (newSt h).2.1])) p (.ins T.c_Hall dx (putF "_standing" (.ref s2) (putF "_root_link" (oiV (linkOf (newSt h))) (fH h e d s po))))) x = some o := fun x o nx hx => by
          have n2 : x ≠ s2 := fun z => by
            rw [upd_ne (show s2 ≠ p from fun q => nx (z.trans q))] at hs2
            rw [z, hs2] at hx
            cases hx
          rw [upd_ne nx, upd_ne n2, upd_ne nx]
          exact hx
        have s2p : s2 ≠ p := fun z => by rw [z, upd_same] at hs2; cases hs2
        have s20 : H3 s2 = none := by rw [upd_ne s2p] at hs2; exact hs2
        have s6 : (upd (upd (upd H3 p (.ins T.c_Hall dx (putF "_root_link" (oiV (linkOf (newSt h))) (fH h e d s po)))) s2 (.tup [.int (newSt h).1, .int (newSt h).2.1])) p (.ins T.c_Hall dx (putF "_standing" (.ref s2) (putF "_root_link" (oiV (linkOf (newSt h))) (fH h e d s po))))) s2 = some (.tup (pairD ((newSt h).1, (newSt h).2.1))) := by rw [upd_ne s2p]; exact upd_same
        have hp6 : (upd (upd (upd H3 p (.ins T.c_Hall dx (putF "_root_link" (oiV (linkOf (newSt h))) (fH h e d s po)))) s2 (.tup [.int (newSt h).1, .int (newSt h).2.1])) p (.ins T.c_Hall dx (putF "_standing" (.ref s2) (putF "_root_link" (oiV (linkOf (newSt h))) (fH h e d s po))))) p = some (.ins T.c_Hall dx (fH { h with st := ((newSt h).1, (newSt h).2.1), rl := linkOf (newSt h) } e d s2 po)) := by
          rw [upd_same, fH_new]
        show tSeq (tAsg (tLst tNil) (gName 8)) _ _ _ (upd (upd (upd H3 p (.ins T.c_Hall dx (putF "_root_link" (oiV (linkOf (newSt h))) (fH h e d s po)))) s2 (.tup [.int (newSt h).1, .int (newSt h).2.1])) p (.ins T.c_Hall dx (putF "_standing" (.ref s2) (putF "_root_link" (oiV (linkOf (newSt h))) (fH h e d s po)))))
        generalize (upd (upd (upd H3 p (.ins T.c_Hall dx (putF "_root_link" (oiV (linkOf (newSt h))) (fH h e d s po)))) s2 (.tup [.int (newSt h).1, .int (newSt h).2.1])) p (.ins T.c_Hall dx (putF "_standing" (.ref s2) (putF "_root_link" (oiV (linkOf (newSt h))) (fH h e d s po))))) = H6 at fr6 s6 hp6 ⊢
        have eH3 := eH2.trans e3
        have xp : ∀ {x : Addr} {o : HO}, H1 x = some o → x ≠ p → H6 x = some o := fun h n => fr6 _ _ n (e3 _ _ (ex2 _ _ h))
        have Dp : D ≠ p := ne_of hD2 (e2 _ _ hpH) (by intro z; cases z)
        have hD6 := xp hD2 Dp
        have s0H : H s2 = none := fresh_back eH3 s20
        refine ⟨Nat.zero_le _, fun z hz => ?_⟩
        have zH : H z = none := by
          cases q : H z with
          | none => rfl
          | some o =>
            by_cases e : z = p
            · rw [e, hp6] at hz
              cases hz
            · rw [fr6 _ _ e (eH3 _ _ q)] at hz
              cases hz
        have ez := Ex.new (o := .lst []) hz
        have zD : D ≠ z := ne_of_none hD6 hz
        have apart := run_apart hall.each hall.apart
        have old7 : ∀ x o, M x = none → H x = some o → H6 x = some o := fun x o hm hx => xp (e2 _ _ hx) (fun e => by rw [e, hp] at hm; cases hm)
        have b1 : Ex B (upd B s2 (.tup (pairD ((newSt h).1, (newSt h).2.1)))) := Ex.new (fresh_back eB s0H)
        dsimp only
        refine ⟨_, rfl, D, rfl, ⟨_, SqL.of (ez _ _ hD6)⟩, for_it (walk_list (xs := xs)) (fun i σ H' => ∃ pp y1 y2 y9, σ = [some (.ref p), y1, y2, some (.ref D), some (.ref R), some (.int (newSt h).1), some (.int (newSt h).2.1), some (.ref s), some (.ref z), y9] ∧ SL T.c_Door T.c_Say T.c_Agree B M H (upd H6 z (.lst [])) H' z h (runOf ws h.doors) i pp)
          ⟨[], _, _, _, rfl, ?_⟩ (fun i σ H' _ ⟨_, _, _, _, _, L⟩ => SqL.of (L.keep D _ zD (fun r hr e => by
            obtain ⟨a, dxa, hv, e1, e2', _⟩ := run_door hall.each hr
            rw [e] at e1
            have := V.ref.inj e1
            rw [← this] at e2'
            have q1 := m1 _ _ e2'
            rw [hD2] at q1
            cases q1) (ez _ _ hD6))) ?_ ?_⟩
        · refine ⟨fun x o _ _ hx => hx, fun j r hj => ?_, upd_same, Nat.zero_le _, .nil⟩
          obtain ⟨a, dxa, hv, q1, q2, q3⟩ := run_door hall.each (List.mem_of_getElem? hj)
          refine ⟨a, dxa, hv, q1, q2, ?_, q3⟩
          rw [if_neg (by omega)]
          refine ez _ _ (xp (m1 _ _ q2) fun e => ?_)
          rw [e, hp] at q2
          exact doorNe q2
        · rintro i x σ Ha Ha' hi ⟨pp, y1, y2, y9, rfl, L⟩ ⟨rfl, hxi⟩
          obtain ⟨r, hri, t, rfl, ht⟩ := paired_at hx2 hxi
          obtain ⟨k, v, dr⟩ := r
          have rm := List.mem_of_getElem? hri
          obtain ⟨a, dxa, hv, rfl, hMa, haa, hh⟩ := L.doors i _ hri
          dsimp only at haa hh hMa
          rw [if_neg (Nat.lt_irrefl i)] at haa
          have noDoor : ∀ {x : Addr} {o : HO}, M x = none → ∀ r ∈ runOf ws h.doors, r.2.1 ≠ .ref x := fun {x o} hx r hr e => by
            obtain ⟨a, _, _, e1, e2', _⟩ := run_door hall.each hr
            rw [e] at e1
            obtain rfl := V.ref.inj e1
            rw [hx] at e2'
            cases e2'
          have noDoor1 : ∀ {x : Addr} {o : HO}, H1 x = some o → (∀ {dx2 : Addr} {d2 : Dr} {hv2 : V}, o ≠ .ins T.c_Door dx2 (fD d2 hv2)) → ∀ r ∈ runOf ws h.doors, r.2.1 ≠ .ref x := fun {x o} hx no r hr e => by
            obtain ⟨a, _, _, e1, e2', _⟩ := run_door hall.each hr
            rw [e] at e1
            obtain rfl := V.ref.inj e1
            have := m1 _ _ e2'
            rw [hx] at this
            exact no (Option.some.inj this)
          have htp : t ≠ p := ne_of ht (e2 _ _ hpH) (by intro z; cases z)
          have ht6 := xp ht htp
          have htz : t ≠ z := ne_of_none ht6 hz
          have ht7 := L.keep t _ htz (noDoor1 ht (by intro _ _ _ z; cases z)) (ez _ _ ht6)
          have hp7 := L.keep p _ (ne_of_none hp6 hz) (noDoor1 (e2 _ _ hpH) (by intro _ _ _ z; exact doorNe (congrArg some z))) (ez _ _ hp6)
          refine ⟨t, _, rfl, SqT.of ht7, rfl, _, _, rfl, _, _, rfl, rfl, ?_⟩
          have s2z : s2 ≠ z := ne_of_none s6 hz
          have ms2 : M s2 = none := fresh_back eM s0H
          have bs2 : B s2 = none := fresh_back eB s0H
          have bx : Ex (upd B s2 (.tup (pairD ((newSt h).1, (newSt h).2.1)))) Ha' := fun x o hx => by
            by_cases q : x = s2
            · rw [q, upd_same] at hx
              rw [q, ← hx]
              exact L.keep s2 _ s2z (noDoor (o := o) ms2) (ez _ _ s6)
            · rw [upd_ne q] at hx
              have mx : M x = none := (dj x).resolve_left (by rw [hx]; simp)
              have h6 := old7 x o mx (eB _ _ hx)
              exact L.keep x _ (ne_of_none h6 hz) (noDoor (o := o) mx) (ez _ _ h6)
          have na : a ≠ p := fun e => by rw [e, hp] at hMa; exact doorNe hMa
          have ba : (upd B s2 (.tup (pairD ((newSt h).1, (newSt h).2.1)))) a = none := by
            rw [upd_ne (fun e => by rw [e, ms2] at hMa; cases hMa)]
            exact (dj a).resolve_right (by rw [hMa]; simp)
          refine ⟨_, rfl, .inl ⟨rfl, _, SqL.of L.zl⟩, ?_⟩
          refine ⟨_, rfl, p, dx, _, rfl, hp7, by cases po <;> rfl, _, rfl, _, rfl, _, rfl, p, a, e, d, s2, s, dx, dxa, k, { h with st := ((newSt h).1, (newSt h).2.1), rl := linkOf (newSt h) }, po, dr, hv, _, h.st, rfl, hp7, bx, upd_same, b1 _ _ hall.std, haa, hs_ext b1 hh, na, ba, fun z1 ls H9 put z10 h9 lts => ?_⟩
          have lls := Paired.length lts
          have put : Put1 a (.ins T.c_Door dxa (fD (writeH h k dr).1 hv)) Ha' H9 := put
          have lts : LtsF T.c_Say T.c_Agree Ha' H9 ls (writeH h k dr).2 := lts
          have lls : ls.length = (writeH h k dr).2.length := Paired.length lts
          have l2 : (writeH h k dr).2.length ≤ 2 := writeM_len
          have back9 : ∀ {x : Addr}, H9 x = none → Ha' x = none := fun {x} hx => by
            cases q : Ha' x with
            | none => rfl
            | some o =>
              by_cases e : x = a
              · rw [e, put.at_] at hx
                cases hx
              · rw [put.rest x o e q] at hx
                cases hx
          refine ⟨z1, rfl, ⟨_, SqL.of h9⟩, fun D2 hD2' => ?_⟩
          refine lc_it (walk_list (xs := ls)) (fun i H' => ∃ qs, Ex H9 H' ∧ H' D2 = some (.lst qs) ∧ qs.length ≤ i ∧ Paired (fun v (x : Int × Lt) => ∃ t b, v = .ref t ∧ Ha' t = none ∧ Ha' b = none ∧ H' t = some (.tup [.int x.1, .ref b]) ∧ LtAt T.c_Say T.c_Agree H' b x.2) qs (((writeH h k dr).2.take i).map fun l => (k, l))) ⟨[], Ex.new hD2', upd_same, Nat.zero_le _, .nil⟩ (fun i H' _ ⟨_, ex, _⟩ => SqL.of (ex _ _ h9)) ?_ ?_
          · rintro j x Hb Hb' hj ⟨qs, exb, hb2, lq, hqs⟩ ⟨rfl, hxj⟩
            obtain ⟨l, hl, b, rfl, hb0', hlb⟩ := paired_at lts hxj
            refine ⟨rfl, ?_⟩
            refine un_yes (iteT ?_)
            refine ⟨_, rfl, _, rfl, by show 2 ≤ sizeLine; decide, fun T2 hT2 => ?_⟩
            have eT2 := Ex.new (o := .tup [.int k, .ref b]) hT2
            have hD2 := eT2 _ _ hb2
            have keep : ∀ {c : Addr} {zs : List V}, (upd Hb' T2 (.tup [.int k, .ref b])) c = some (.tup zs) → (upd (upd Hb' T2 (.tup [.int k, .ref b])) D2 (.lst (qs ++ [.ref T2]))) c = some (.tup zs) := fun {c zs} hc => by
              rw [upd_ne (ne_of hc hD2 (by intro z; cases z))]
              exact hc
            refine ⟨qs, hD2, len_lt (by omega), qs ++ [.ref T2], (exb.trans eT2).mut hD2', upd_same, by rw [List.length_append, List.length_singleton]; omega, ?_⟩
            rw [take_snoc hl, List.map_append]
            refine Paired.snoc (Paired.mapP hqs fun v x ⟨t, b', h1, h2, h3, h4, h5⟩ => ⟨t, b', h1, h2, h3, keep (eT2 _ _ h4), ?_⟩) ⟨T2, b, rfl, back9 (fresh_back exb hT2), hb0', keep upd_same, ?_⟩
            · exact lt_map (fun c dx fs hc => by
                rw [upd_ne (ne_of hc hD2 (by intro z; cases z))]
                exact hc) (h5.ext eT2)
            · exact lt_map (fun c dx fs hc => by
                rw [upd_ne (ne_of hc hD2 (by intro z; cases z))]
                exact hc) ((hlb.ext exb).ext eT2)
          · rintro Hb ⟨qs, exb, hb2, lq, hqs⟩
            rw [lls, List.take_length] at hqs
            have za : z ≠ a := ne_of L.zl haa (by intro z; cases z)
            have hzb := exb _ _ (put.rest _ _ za L.zl)
            have li := L.len
            have g : ∀ x o, H x = some o → x ≠ z ∧ ∃ o', (upd H6 z (.lst [])) x = some o' := fun x o hx => by
              have nz : x ≠ z := fun e => by rw [e, zH] at hx; cases hx
              refine ⟨nz, ?_⟩
              rw [upd_ne nz]
              by_cases e : x = p
              · exact ⟨_, by rw [e]; exact hp6⟩
              · exact ⟨_, xp (e2 _ _ hx) e⟩
            refine ⟨z, D2, pp, qs, rfl, rfl, hzb, hb2, Nat.le_of_lt (len_lt (by omega)), ?_⟩
            refine ⟨pp ++ qs, _, _, _, rfl, fun x o nz nd hx => ?_, fun j r hj => ?_, upd_same, by rw [List.length_append]; omega, ?_⟩
            · have h1 := L.keep x o nz nd hx
              rw [upd_ne nz]
              exact exb _ _ (put.rest _ _ (fun e => nd _ rm (by rw [e])) h1)
            · by_cases e : j = i
              · subst e
                rw [hri] at hj
                obtain rfl := Option.some.inj hj
                refine ⟨a, dxa, hv, rfl, hMa, ?_, hh⟩
                rw [upd_ne (Ne.symm za), if_pos (Nat.lt_succ_self _)]
                exact exb _ _ put.at_
              · obtain ⟨a', dxa', hv', e1, e2', e3, e4⟩ := L.doors j r hj
                refine ⟨a', dxa', hv', e1, e2', ?_, e4⟩
                have aa : a' ≠ a := fun q => by
                  have := pw_at (g := fun r => r.2.1) apart hj hri e
                  rw [e1, q] at this
                  exact this rfl
                have h1 := exb _ _ (put.rest _ _ aa e3)
                rw [upd_ne (ne_of h1 hzb (by intro z; cases z)), h1]
                by_cases c : j < i
                · rw [if_pos c, if_pos (by omega)]
                · rw [if_neg c, if_neg (by omega)]
            · rw [take_snoc hri, List.flatMap_append]
              refine paired_app (Paired.mapP L.posts fun v x ⟨t, b, h1, h2, h3, h4, h5⟩ => ⟨t, b, h1, h2, h3, ?_, ?_⟩) ?_
              · have h6 := exb _ _ (put.rest _ _ (ne_of h4 haa (by intro z; cases z)) h4)
                rw [upd_ne (ne_of h6 hzb (by intro z; cases z))]
                exact h6
              · have ba : b ≠ a := fun q => by
                  rw [q, eM _ _ hMa] at h3
                  cases h3
                exact lt_map (fun c dx fs hc => by
                  have h6 := exb _ _ (put.rest _ _ ba hc)
                  rw [upd_ne (ne_of h6 hzb (by intro z; cases z))]
                  exact h6) h5
              · rw [show [(k, V.ref a, dr)].flatMap (fun r => (writeH h r.1 r.2.2).2.map fun l => (r.1, l)) = (writeH h k dr).2.map fun l => (k, l) by simp]
                refine Paired.mapP hqs fun v x ⟨t, b, h1, h2, h3, h4, h5⟩ => ⟨t, b, h1, L.old g h2, L.old g h3, ?_, ?_⟩
                · rw [upd_ne (ne_of h4 hzb (by intro z; cases z))]
                  exact h4
                · exact lt_map (fun c dx fs hc => by
                    rw [upd_ne (ne_of hc hzb (by intro z; cases z))]
                    exact hc) h5
        · rintro σ H8 ⟨pp, y1, y2, y9, rfl, L⟩
          rw [lxs] at L
          have noDoor : ∀ {x : Addr}, M x = none → ∀ r ∈ runOf ws h.doors, r.2.1 ≠ .ref x := fun {x} hx r hr e => by
            obtain ⟨a, _, _, e1, e2', _⟩ := run_door hall.each hr
            rw [e] at e1
            obtain rfl := V.ref.inj e1
            rw [hx] at e2'
            cases e2'
          have noDoor1 : ∀ {x : Addr} {o : HO}, M x = some o → (∀ {dx2 : Addr} {d2 : Dr} {hv2 : V}, o ≠ .ins T.c_Door dx2 (fD d2 hv2)) → ∀ r ∈ runOf ws h.doors, r.2.1 ≠ .ref x := fun {x o} hx no r hr e => by
            obtain ⟨a, _, _, e1, e2', _⟩ := run_door hall.each hr
            rw [e] at e1
            obtain rfl := V.ref.inj e1
            rw [hx] at e2'
            exact no (Option.some.inj e2')
          have ms2 : M s2 = none := fresh_back eM s0H
          have s2z : s2 ≠ z := ne_of_none s6 hz
          have hs8 := L.keep s2 _ s2z (noDoor ms2) (ez _ _ s6)
          have hp8 := L.keep p _ (ne_of_none hp6 hz) (noDoor1 hp (by intro _ _ _ z; exact doorNe (congrArg some z))) (ez _ _ hp6)
          have dk8 : ∀ {x : Addr} {kv : List (Key × V)}, M x = some (.dK kv) → H8 x = some (.dK kv) := fun {x kv} hx => by
            have h6 := xp (m1 _ _ hx) (ne_of hx hp (by intro z; cases z))
            exact L.keep x _ (ne_of_none h6 hz) (noDoor1 hx (by intro _ _ _ z; cases z)) (ez _ _ h6)
          have mm : ∀ {x : Addr} {o : HO}, M x = some o → only M H8 x = H8 x := only_some
          have mn : ∀ {x : Addr}, M x = none → only M H8 x = none := only_none
          refine ⟨_, rfl, q (only M H8) s2 z pp H8 ⟨fun x o hx => ?_, fun x o hm hx => ?_, fun x hx => .inl fun e => hx (mn e)⟩ (fun x hx e => hx (mn e)) zH L.zl ?_ ?_⟩
          · cases e : M x with
            | none =>
              rw [mn e] at hx
              cases hx
            | some u =>
              rw [mm e] at hx
              exact hx
          · have h6 := old7 x o hm hx
            exact L.keep x _ (ne_of_none h6 hz) (noDoor hm) (ez _ _ h6)
          · obtain ⟨evs, he, hes⟩ := hall.ends
            refine ⟨⟨dx, by rw [mm hp, hp8]; rfl⟩, ⟨evs, by rw [mm he, dk8 he]; rfl, Paired.mapP hes fun v e ⟨a, h1, h2⟩ => ⟨a, h1, grow_old _ _ h2⟩⟩, ?_, ?_, hall.apart, grow_new eB hs8 s0H (mn ms2) s2z, ?_, hall.ed, (show h.ends.map (·.1) = (stepH h).doors.map (·.1) by rw [stepH_fst]; exact hall.es)⟩
            · rw [mm hall.doors, dk8 hall.doors, stepH_fst]
            · refine paired_run hall.each (fun v k hv => hv) (fun v k dr hm _ => ?_)
              obtain ⟨j, hj⟩ := List.getElem?_of_mem hm
              obtain ⟨a, dxa, hv, e1, e2', e3, e4⟩ := L.doors j _ hj
              have jl : j < (runOf ws h.doors).length := (List.getElem?_eq_some_iff.mp hj).1
              rw [if_pos jl] at e3
              refine ⟨a, dxa, hv, e1, by rw [mm e2']; exact e3, hs_ext grow_old ?_⟩
              show HsAt B hv (writeH h k dr).1.hs
              unfold writeH
              rw [writeM_hs]
              exact e4
            · rw [stepH_fst]
              exact hall.nd
          · have hps := L.posts
            rw [List.take_length] at hps
            have : stepP h = (runOf ws h.doors).flatMap fun r => (writeH h r.1 r.2.2).2.map fun l => (r.1, l) := by
              unfold stepP
              rw [← runs_runOf lw, List.flatMap_map]
            rw [this]
            refine Paired.mapP hps fun v x ⟨t, b, h1, h2, h3, h4, h5⟩ => ⟨t, b, h1, ?_, ?_⟩
            · exact grow_new eB h4 h2 (mn (fresh_back eM h2)) (ne_of h4 L.zl (by intro z; cases z))
            · exact lt_map (fun c dx fs hc => grow_new eB hc h3 (mn (fresh_back eM h3)) (ne_of hc L.zl (by intro z; cases z))) h5
end
end K24

set_option maxHeartbeats 1000000
namespace K24
open PySem PySem.Spec PyProof.Rows L2 Evl MyG
/-! ### what a step leaves -/
theorem paired_ix {α β : Type} {R : α → β → Prop} : ∀ {xs : List α} {ys : List β}, xs.length = ys.length → (∀ (j : Nat) x y, xs[j]? = some x → ys[j]? = some y → R x y) → Paired R xs ys
  | [], [], _, _ => .nil
  | [], _ :: _, h, _ => by simp at h
  | _ :: _, [], h, _ => by simp at h
  | x :: xs, y :: ys, h, f => .cons (f 0 x y rfl rfl) (paired_ix (by simpa using h) fun j a b h1 h2 => f (j + 1) a b h1 h2)
theorem apart_at {ws : List V} (h : ws.Pairwise fun v u => v = u → v = .non) {i j : Nat} {a b : Addr} (hi : ws[i]? = some (.ref a)) (hj : ws[j]? = some (.ref b)) (n : i ≠ j) : a ≠ b := by
  obtain ⟨hi1, hi2⟩ := List.getElem?_eq_some_iff.mp hi
  obtain ⟨hj1, hj2⟩ := List.getElem?_eq_some_iff.mp hj
  rw [List.pairwise_iff_getElem] at h
  intro e
  rcases Nat.lt_or_gt_of_ne n with q | q
  · have := h i j hi1 hj1 q (by rw [hi2, hj2, e])
    rw [hi2] at this
    cases this
  · have := h j i hj1 hi1 q (by rw [hi2, hj2, e])
    rw [hj2] at this
    cases this
section
variable {C D S A p e d s : Addr} {B B' M M' H H' : Hp} {h : HSt} {po : Option Addr} {ws : List V}
theorem DoorAt.ext (e : Ex B B') {v : V} : ∀ {x : Option Dr}, DoorAt D B M v x → DoorAt D B' M v x
  | none, h => h
  | some _, ⟨a, dx, hv, h1, h2, h3⟩ => ⟨a, dx, hv, h1, h2, hs_ext e h3⟩
theorem HallIn.ext (k : HallIn C D B M p h po e d s ws) (x : Ex B B') : HallIn C D B' M p h po e d s ws :=
  ⟨k.self, let ⟨evs, h1, h2⟩ := k.ends; ⟨evs, h1, Paired.mapP h2 fun v e ⟨a, h1, h2⟩ => ⟨a, h1, x _ _ h2⟩⟩, k.doors, Paired.mapP k.each fun v y h => h.ext x, k.apart, x _ _ k.std, k.nd, k.ed, k.es⟩
theorem PostsAt.ext (x : Ex B B') {xs : List V} {ps : List (Int × Lt)} (k : PostsAt S A B xs ps) : PostsAt S A B' xs ps := Paired.mapP k fun v y ⟨t, b, h1, h2, h3⟩ => ⟨t, b, h1, x _ _ h2, h3.ext x⟩
end
/-- from B, M in H to G, M' in H': the hall has become h', the list of its posts stands at z -/
structure StepD (C D S A : Addr) (B M H : Hp) (p : Addr) (po : Option Addr) (e d : Addr) (h' : HSt) (ps : List (Int × Lt)) (G M' H' : Hp) (s' z : Addr) (xs ws : List V) : Prop where
  chg : Chg M M' H H'
  exB : Ex B G
  exH : Ex G H'
  dj : Dj G M'
  new : ∀ x, G x ≠ none → B x ≠ none ∨ H x = none
  z0 : H z = none
  zG : G z = some (.lst xs)
  hall : HallIn C D G M' p h' po e d s' ws
  posts : PostsAt S A G xs ps
theorem StepD.of {C D S A p e d s' z : Addr} {B M M' H H' : Hp} {h' : HSt} {po : Option Addr} {ws xs : List V} {ps : List (Int × Lt)} (eB : Ex B H) (dj : Dj B M) (ch : Chg M M' H H') (sub : ∀ x, M' x ≠ none → M x ≠ none) (hz : H z = none) (zH : H' z = some (.lst xs)) (zM : M z = none)
    (ha : HallIn C D (grow B H H' M' z) M' p h' po e d s' ws) (pa : PostsAt S A (grow B H H' M' z) xs ps) : StepD C D S A B M H p po e d h' ps (upd (grow B H H' M' z) z (.lst xs)) M' H' s' z xs ws := by
  have gz : grow B H H' M' z z = none := by
    unfold grow
    rw [fresh_back eB hz]
    dsimp only
    rw [if_neg fun q => q.2.2 rfl]
  have eBH : Ex B H' := (ch.keep dj eB).1
  have e1 : Ex (grow B H H' M' z) (upd (grow B H H' M' z) z (.lst xs)) := Ex.new gz
  have zM' : M' z = none := by
    cases q : M' z with
    | none => rfl
    | some o => exact absurd zM (sub z (by rw [q]; simp))
  refine ⟨ch, grow_old.trans e1, fun x o hx => ?_, fun x => ?_, fun x hx => ?_, hz, upd_same, ha.ext e1, pa.ext e1⟩
  · by_cases q : x = z
    · rw [q, upd_same] at hx
      rw [q, ← hx]
      exact zH
    · rw [upd_ne q] at hx
      exact grow_ex eBH _ _ hx
  · by_cases q : x = z
    · right
      rw [q]
      exact zM'
    · rw [upd_ne q]
      unfold grow
      cases k : B x with
      | some o =>
        right
        cases q : M' x with
        | none => rfl
        | some u => exact absurd ((dj x).resolve_left (by rw [k]; simp)) (sub x (by rw [q]; simp))
      | none =>
        dsimp only
        split
        · next c => exact .inr c.2.1
        · exact .inl rfl
  · by_cases q : x = z
    · right
      rw [q]
      exact hz
    · rw [upd_ne q] at hx
      unfold grow at hx
      cases k : B x with
      | some o => exact .inl (by simp)
      | none =>
        right
        rw [k] at hx
        dsimp only at hx
        split at hx
        · next c => exact c.1
        · exact absurd rfl hx
theorem StepD.pre {C D S A p e d s' z : Addr} {B B1 M M1 M' H H1 H' G : Hp} {h' : HSt} {po : Option Addr} {ws xs : List V} {ps : List (Int × Lt)} (ch : Chg M M1 H H1) (eB : Ex B B1) (nw : ∀ x, B1 x ≠ none → B x ≠ none ∨ H x = none) (live : ∀ x, H1 x = none → H x = none)
    (k : StepD C D S A B1 M1 H1 p po e d h' ps G M' H' s' z xs ws) : StepD C D S A B M H p po e d h' ps G M' H' s' z xs ws :=
  ⟨ch.trans k.chg, eB.trans k.exB, k.exH, k.dj, fun x hx => (k.new x hx).elim (nw x) (fun q => .inr (live x q)), live z k.z0, k.zG, k.hall, k.posts⟩
/-! ### a letter taken -/
def hearD (dr : Dr) : Lt → Dr
  | .say n r f => { dr with hn := n, hs := some (r, f) }
  | .agree n => { dr with agT := if dr.agT < n then n else dr.agT }
def takeH (h : HSt) (i : Nat) (k : Int) (dr : Dr) (l : Lt) : HSt := { h with doors := h.doors.set i (k, some (hearD dr l)) }
theorem HallIn.putD {C D p e d s a dxa : Addr} {B B' M : Hp} {h : HSt} {po : Option Addr} {ws : List V} {i : Nat} {k : Int} {dr dr' : Dr} {hv hv' : V} (ha : HallIn C D B M p h po e d s ws) (eB : Ex B B') (hi : h.doors[i]? = some (k, some dr)) (hw : ws[i]? = some (.ref a)) (hM : M a = some (.ins D dxa (fD dr hv))) (hh : HsAt B' hv' dr'.hs) :
    HallIn C D B' (upd M a (.ins D dxa (fD dr' hv'))) p { h with doors := h.doors.set i (k, some dr') } po e d s ws := by
  have fst : (h.doors.set i (k, some dr')).map (·.1) = h.doors.map (·.1) := map_set_same hi rfl
  have keep : ∀ {x : Addr} {o : HO}, M x = some o → o ≠ .ins D dxa (fD dr hv) → (upd M a (.ins D dxa (fD dr' hv'))) x = some o := fun {x o} hx no => by
    rw [upd_ne fun q => by
      rw [q, hM] at hx
      exact no (Option.some.inj hx).symm]
    exact hx
  obtain ⟨dx, hp⟩ := ha.self
  obtain ⟨evs, he, hes⟩ := ha.ends
  have lw := Paired.length ha.each
  refine ⟨⟨dx, keep hp fun q => ?_⟩, ⟨evs, keep he (by intro q; cases q), Paired.mapP hes fun v e ⟨a, h1, h2⟩ => ⟨a, h1, eB _ _ h2⟩⟩, ?_, ?_, ha.apart, eB _ _ ha.std, by rw [fst]; exact ha.nd, ha.ed, by show h.ends.map (·.1) = (h.doors.set i (k, some dr')).map (·.1); rw [fst]; exact ha.es⟩
  · have := congrArg (fun l => (l.map (·.1)).head?) (HO.ins.inj q).2.2
    revert this
    show some ("_hall" : Str) = some ("other_hall" : Str) → False
    decide +kernel
  · dsimp only
    rw [fst]
    exact keep ha.doors (by intro q; cases q)
  · refine paired_ix (by rw [List.length_set]; exact lw) fun j v x hv hx => ?_
    by_cases q : i = j
    · subst q
      rw [List.getElem?_set_self (List.getElem?_eq_some_iff.mp hi).1] at hx
      obtain rfl := Option.some.inj hx
      rw [hw] at hv
      obtain rfl := Option.some.inj hv
      exact ⟨a, dxa, hv', rfl, upd_same, hh⟩
    · rw [List.getElem?_set_ne q] at hx
      obtain ⟨x', hx', k'⟩ := paired_at ha.each hv
      rw [hx] at hx'
      obtain rfl := Option.some.inj hx'
      obtain ⟨l, x⟩ := x
      cases x with
      | none => exact k'
      | some dr2 =>
        obtain ⟨a2, dx2, hv2, rfl, h2, h3⟩ := k'
        exact ⟨a2, dx2, hv2, rfl, by rw [upd_ne (apart_at ha.apart hv hw (Ne.symm q))]; exact h2, hs_ext eB h3⟩
def sp_htake (C D S A : Addr) : Sp := fun vs H Q _ => ∃ (p b : Addr) (B M : Hp) (h : HSt) (po : Option Addr) (e d s : Addr) (ws : List V) (i : Nat) (k : Int) (dr : Dr) (l : Lt), vs = [.ref p, .int k, .ref b] ∧ Ex B H ∧ Ex M H ∧ Dj B M ∧ HallIn C D B M p h po e d s ws ∧ h.doors.length ≤ 20 ∧ h.doors[i]? = some (k, some dr) ∧ LtAt S A B b l ∧
  ∀ G M' H' s' z xs, StepD C D S A B M H p po e d (stepH (takeH h i k dr l)) (stepP (takeH h i k dr l)) G M' H' s' z xs ws → Q (.ref z) H'
section
variable {P : Program} {w : World} {K : PySem.W.Frag} {mg : Str → Option Value} {base : Heap}
theorem ok_htake (T : Tx K mg) : FnOk P w K mg base CX0 5 T.a_Hall_take T.d_Hall_take ["self", "link", "letter"] (sp_htake T.c_Hall T.c_Door T.c_Say T.c_Agree) := by
  have G_Hall__running := ok_hrunning (P := P) (w := w) (base := base) T
  have G_Hall__step := ok_hstep (P := P) (w := w) (base := base) T
  refine T.F_Hall_take.ok sc_Hall_take (fun vs H Q E h => ?_) (fun cdv A outer s H vs Q E hr h => ?_)
  · obtain ⟨_, _, _, _, _, _, _, _, _, _, _, _, _, _, rfl, _⟩ := h
    rfl
  · obtain ⟨p, b, B, M, h, po, e, d, s, ws, i, k, dr, l, rfl, eB, eM, dj, hall, few, hi, hl, q⟩ := h
    refine ⟨_, (pss_cons (ps_set (i := 3) sc_Hall_take.nd rfl (Or.inl rfl) (pe_meth (pv 0) T.cl_Hall T.me_Hall__running G_Hall__running (hr.mono (by decide)) T.b_Hall__running .nil pass0 (pa_cons (pv 1) pa_nil)))
  (pss_cons (ps_if (pt_val (pe_callB (isiK (K := K) rfl) (by rfl) T.z_isinstance (by decide +kernel) (pa_cons (pv 2) (pa_cons (pe_glob (v := .ref T.c_Say) rfl T.g_Say rfl) pa_nil)))) (pss_cons (ps_fld (pv 3) (fldK (K := K) rfl (pv 2) rfl) rfl)
  (pss_one (ps_fld (pv 3) (pe_tup (pa_cons (fldK (K := K) rfl (pv 2) rfl) (pa_cons (fldK (K := K) rfl (pv 2) rfl) pa_nil))) rfl))) (pss_one (ps_fld (pv 3) (pe_callB (call_max2 rfl) (by rfl) T.z_max (by decide +kernel) (pa_cons (fldK (K := K) rfl (pv 3) rfl) (pa_cons (fldK (K := K) rfl (pv 2) rfl) pa_nil))) rfl)))
  (pss_one (ps_ret (pe_meth0 (pv 0) T.cl_Hall T.me_Hall__step G_Hall__step (hr.mono (by decide)) T.b_Hall__step .nil pass0))))), ?_⟩
    obtain ⟨dx, hp⟩ := hall.self
    obtain ⟨v, hv, hd⟩ := paired_at0 hall.each hi
    obtain ⟨a, dxa, hv0, rfl, hMa, hh⟩ := hd
    have hk : (h.doors.map (·.1))[i]? = some k := by rw [List.getElem?_map, hi]; rfl
    have na : a ≠ p := fun q => by
      rw [q, hp] at hMa
      have := congrArg (fun l => (l.map (·.1)).head?) (HO.ins.inj (Option.some.inj hMa)).2.2
      revert this
      show some ("_hall" : Str) = some ("other_hall" : Str) → False
      decide +kernel
    have hpo : List.lookup ("_step" : Str) (fH h e d s po) = none := by cases po <;> rfl
    refine ⟨_, rfl, p, dx, _, rfl, eM _ _ hp, by cases po <;> rfl, _, rfl, p, B, M, h, po, e, d, s, ws, i, k, a, rfl, eM, hall, hk, hv, ?_⟩
    have fin : ∀ (B1 H2 : Hp) (hv' : V), Ex B B1 → (∀ x, B1 x ≠ none → B x ≠ none ∨ H x = none) → Put1 a (.ins T.c_Door dxa (fD (hearD dr l) hv')) H H2 → Ex B1 H2 → Dj B1 M → HsAt B1 hv' (hearD dr l).hs →
        tRet (tMeth T.c_Hall "_step" (sp_hstep T.c_Hall T.c_Door T.c_Say T.c_Agree) [] E0 (tVar 0) tNil) { nx := fun x H' => Q V.non H', rt := Q } [some (.ref p), some (.int k), some (.ref b), some (.ref a)] H2 := fun B1 H2 hv' e1 nw put e2 dj1 hh' => by
      have ch := put.chg eM hMa
      have hall1 := hall.putD e1 hi hv hMa hh'
      obtain ⟨dx1, hp1⟩ := hall1.self
      have dj2 : Dj B1 (upd M a (.ins T.c_Door dxa (fD (hearD dr l) hv'))) := fun x => by
        by_cases z : x = a
        · rw [z]
          exact .inl ((dj1 a).resolve_right (by rw [hMa]; simp))
        · rw [upd_ne z]
          exact dj1 x
      refine ⟨_, rfl, p, dx1, _, rfl, ch.now _ _ hp1, hpo, p, B1, _, takeH h i k dr l, po, e, d, s, ws, rfl, e2, ch.now, dj2, hall1, (by show (h.doors.set i _).length ≤ 20; rw [List.length_set]; exact few), fun M' s' z xs H' ch' sub hz zH ha' pa => ?_⟩
      refine q _ M' H' s' z xs (StepD.pre ch e1 nw (fun x hx => ?_) (StepD.of e2 dj2 ch' sub hz zH (fresh_back ch.now hz) ha' pa))
      cases k : H x with
      | none => rfl
      | some o =>
        by_cases z : x = a
        · rw [z, put.at_] at hx
          cases hx
        · rw [put.rest x o z k] at hx
          cases hx
    have haH := eM _ _ hMa
    show tSeq _ _ _ _ _
    cases l with
    | say n r f =>
      obtain ⟨dxl, hl⟩ := hl
      have hlH := eB _ _ hl
      have ba : b ≠ a := fun q => by
        rcases dj a with z | z
        · rw [← q, hl] at z
          cases z
        · rw [hMa] at z
          cases z
      refine ⟨_, rfl, ?_⟩
      dsimp only [tCons, tC, tNil]
      refine isi_insD T.q_Say T.cl_Say kit_self hlH ⟨_, rfl, iteT ?_⟩
      refine ⟨_, rfl, b, T.c_Say, dxl, _, _, rfl, hlH, T.cl_Say, T.n_Say_number, fS_n _ _ _, _, rfl, a, T.c_Door, dxa, _, rfl, haH, T.cl_Door, T.n_Door_heard_number, (by show 10 < 1000; decide), ?_⟩
      have hlH1 : (upd H a (.ins T.c_Door dxa (putF "heard_number" (.int n) (fD dr hv0)))) b = some (.ins T.c_Say dxl (fS n r f)) := by rw [upd_ne ba]; exact hlH
      refine ⟨_, rfl, b, T.c_Say, dxl, _, _, rfl, hlH1, T.cl_Say, T.n_Say_root, fS_r _ _ _, _, rfl, b, T.c_Say, dxl, _, _, rfl, hlH1, T.cl_Say, T.n_Say_far, fS_f _ _ _, (by show 2 ≤ sizeLine; decide), fun t ht => ?_⟩
      have ta : t ≠ a := fun z => by rw [z, upd_same] at ht; cases ht
      have ht0 : H t = none := by rw [upd_ne ta] at ht; exact ht
      have b0 := fresh_back eB ht0
      have m0 := fresh_back eM ht0
      have rest : ∀ {x : Addr} {o : HO} {u1 u2 u3 : HO}, x ≠ a → H x = some o → (upd (upd (upd H a u1) t u2) a u3) x = some o := fun {x o _ _ _} nx hx => by
        rw [upd_ne nx, upd_ne (fun z => by rw [z, ht0] at hx; cases hx), upd_ne nx]
        exact hx
      refine ⟨_, rfl, a, T.c_Door, dxa, _, rfl, by rw [upd_ne (Ne.symm ta)]; exact upd_same, T.cl_Door, T.n_Door_heard_standing, (by show 10 < 1000; decide), ?_⟩
      refine fin (upd B t (.tup (pairD (r, f)))) _ (.ref t) (Ex.new b0) (fun x hx => ?_) ⟨upd_same, fun x u nx hx => rest nx hx⟩ (fun x o hx => ?_) (fun x => ?_) ⟨t, rfl, upd_same⟩
      · by_cases z : x = t
        · exact .inr (by rw [z]; exact ht0)
        · rw [upd_ne z] at hx
          exact .inl hx
      · by_cases z : x = t
        · rw [z, upd_same] at hx
          rw [z, upd_ne ta, upd_same]
          exact hx
        · rw [upd_ne z] at hx
          refine rest (fun q => ?_) (eB _ _ hx)
          rcases dj a with w | w
          · rw [← q, hx] at w
            cases w
          · rw [hMa] at w
            cases w
      · by_cases z : x = t
        · exact .inr (by rw [z]; exact m0)
        · rw [upd_ne z]
          exact dj x
    | agree n =>
      obtain ⟨dxl, hl⟩ := hl
      have hlH := eB _ _ hl
      refine ⟨_, rfl, ?_⟩
      dsimp only [tCons, tC, tNil]
      refine isi_insD T.q_Agree T.cl_Agree T.kt_Agree_Say hlH ⟨_, rfl, iteF ?_⟩
      refine ⟨_, rfl, a, T.c_Door, dxa, _, _, rfl, haH, T.cl_Door, T.n_Door_agreed_there, rfl, _, rfl, b, T.c_Agree, dxl, _, _, rfl, hlH, T.cl_Agree, T.n_Agree_number, fA_n _, _, _, rfl, ?_⟩
      refine ⟨_, rfl, a, T.c_Door, dxa, _, rfl, haH, T.cl_Door, T.n_Door_agreed_there, (by show 10 < 1000; decide), ?_⟩
      refine fin B _ hv0 (Ex.refl _) (fun x hx => .inl hx) ⟨upd_same, fun x u nx hx => by rw [upd_ne nx]; exact hx⟩ (fun x o hx => ?_) dj hh
      rw [upd_ne fun q => ?_]
      · exact eB _ _ hx
      · rcases dj a with w | w
        · rw [← q, hx] at w
          cases w
        · rw [hMa] at w
          cases w
end
end K24

set_option maxHeartbeats 1000000
namespace K24
open PySem PySem.Spec PyProof.Rows L2 Evl MyG
/-! ### a door cut, and mended -/
theorem intK_out {l : Int} {v : V} : ∀ {ls : List Int} {vs : List V}, ¬ l ∈ ls → (intK ls vs).map (fun kv => if kv.1 = (Sum.inl l : Key) then (kv.1, v) else kv) = intK ls vs
  | [], _, _ => rfl
  | _ :: _, [], _ => rfl
  | l0 :: ls, v0 :: vs, h => by
    rw [List.mem_cons, not_or] at h
    show (if (Sum.inl l0 : Key) = Sum.inl l then ((Sum.inl l0 : Key), v) else (Sum.inl l0, v0)) :: (intK ls vs).map (fun kv => if kv.1 = (Sum.inl l : Key) then (kv.1, v) else kv) = (Sum.inl l0, v0) :: intK ls vs
    rw [if_neg (fun e => h.1 (Sum.inl.inj e).symm), intK_out h.2]
theorem intK_map {l : Int} {v : V} : ∀ {ls : List Int} {vs : List V} {i : Nat}, ls.Nodup → vs.length = ls.length → ls[i]? = some l → (intK ls vs).map (fun kv => if kv.1 = (Sum.inl l : Key) then (kv.1, v) else kv) = intK ls (vs.set i v)
  | [], _, _, _, _, h => by simp at h
  | _ :: _, [], _, _, h, _ => by simp at h
  | l0 :: ls, v0 :: vs, 0, nd, h1, h2 => by
    simp only [List.getElem?_cons_zero, Option.some.injEq] at h2
    subst h2
    rw [List.nodup_cons] at nd
    show (if (Sum.inl l0 : Key) = Sum.inl l0 then ((Sum.inl l0 : Key), v) else (Sum.inl l0, v0)) :: (intK ls vs).map (fun kv => if kv.1 = (Sum.inl l0 : Key) then (kv.1, v) else kv) = (Sum.inl l0, v) :: intK ls vs
    rw [if_pos rfl, intK_out nd.1]
  | l0 :: ls, v0 :: vs, i + 1, nd, h1, h2 => by
    simp only [List.getElem?_cons_succ] at h2
    rw [List.nodup_cons] at nd
    show (if (Sum.inl l0 : Key) = Sum.inl l then ((Sum.inl l0 : Key), v) else (Sum.inl l0, v0)) :: (intK ls vs).map (fun kv => if kv.1 = (Sum.inl l : Key) then (kv.1, v) else kv) = (Sum.inl l0, v0) :: intK ls (vs.set i v)
    rw [if_neg (fun e => nd.1 (by rw [Sum.inl.inj e]; exact List.mem_of_getElem? h2)), intK_map nd.2 (by simpa using h1) h2]
theorem intK_put {ls : List Int} {vs : List V} {i : Nat} {l : Int} {v : V} (nd : ls.Nodup) (hl : vs.length = ls.length) (h : ls[i]? = some l) : putK (intK ls vs) (Sum.inl l) v = intK ls (vs.set i v) := by
  unfold putK
  rw [if_pos, intK_map nd hl h]
  have il := (List.getElem?_eq_some_iff.mp h).1
  obtain ⟨u, hu⟩ : ∃ u, vs[i]? = some u := ⟨_, List.getElem?_eq_getElem (by omega)⟩
  rw [List.any_eq_true]
  refine ⟨(Sum.inl l, u), List.mem_of_getElem? (i := i) ?_, by simp⟩
  unfold intK
  rw [List.getElem?_zipWith, h, hu]
def cutH (h : HSt) (i : Nat) (k : Int) : HSt := { h with doors := h.doors.set i (k, none) }
def mendH (h : HSt) (i : Nat) (k b c : Int) : HSt := { h with doors := h.doors.set i (k, some (newDr b c)) }
theorem HallIn.putV {C D p e d s : Addr} {B M M1 : Hp} {h : HSt} {po : Option Addr} {ws : List V} {i : Nat} {k : Int} {x y : Option Dr} {v : V} (ha : HallIn C D B M p h po e d s ws) (hi : h.doors[i]? = some (k, y)) (keep : ∀ a o, a ≠ d → M a = some o → M1 a = some o) (hd : M1 d = some (.dK (intK (h.doors.map (·.1)) (ws.set i v)))) (hv : DoorAt D B M1 v x) (fr : ∀ a, v = .ref a → M a = none) :
    HallIn C D B M1 p { h with doors := h.doors.set i (k, x) } po e d s (ws.set i v) := by
  have fst : (h.doors.set i (k, x)).map (·.1) = h.doors.map (·.1) := map_set_same hi rfl
  obtain ⟨dx, hp⟩ := ha.self
  obtain ⟨evs, he, hes⟩ := ha.ends
  have lw := Paired.length ha.each
  have il : i < ws.length := by rw [lw]; exact (List.getElem?_eq_some_iff.mp hi).1
  have vn : ∀ {j : Nat} {u : V}, ws[j]? = some u → v = u → v = .non := fun {j u} hu e => by
    obtain ⟨y', hy', k'⟩ := paired_at ha.each hu
    cases hx : y'.2 with
    | none =>
      rw [hx] at k'
      rw [e]
      exact k'
    | some dr =>
      rw [hx] at k'
      obtain ⟨a, _, _, h1, h2, _⟩ := k'
      have := fr a (e.trans h1)
      rw [h2] at this
      cases this
  refine ⟨⟨dx, keep _ _ (ne_of hp ha.doors (by intro q; cases q)) hp⟩, ⟨evs, keep _ _ ha.ed he, hes⟩, by rw [fst]; exact hd, ?_, ?_, ha.std, by rw [fst]; exact ha.nd, ha.ed, by show h.ends.map (·.1) = (h.doors.set i (k, x)).map (·.1); rw [fst]; exact ha.es⟩
  · refine paired_ix (by rw [List.length_set, List.length_set]; exact lw) fun j u y hu hy => ?_
    by_cases q : i = j
    · subst q
      rw [List.getElem?_set_self (List.getElem?_eq_some_iff.mp hi).1] at hy
      rw [List.getElem?_set_self il] at hu
      obtain rfl := Option.some.inj hy
      obtain rfl := Option.some.inj hu
      exact hv
    · rw [List.getElem?_set_ne q] at hy hu
      obtain ⟨y', hy', k'⟩ := paired_at ha.each hu
      rw [hy] at hy'
      obtain rfl := Option.some.inj hy'
      cases hx : y.2 with
      | none =>
        rw [hx] at k'
        exact k'
      | some dr =>
        rw [hx] at k'
        obtain ⟨a, dxa, hv', h1, h2, h3⟩ := k'
        exact ⟨a, dxa, hv', h1, keep _ _ (ne_of h2 ha.doors (by intro q; cases q)) h2, h3⟩
  · rw [List.pairwise_iff_getElem]
    intro j1 j2 h1 h2 lt e
    rw [List.length_set] at h1 h2
    have pw := List.pairwise_iff_getElem.mp ha.apart
    rw [List.getElem_set] at e ⊢
    by_cases q1 : i = j1
    · rw [if_pos q1] at e ⊢
      rw [List.getElem_set, if_neg (by omega)] at e
      exact vn (List.getElem?_eq_getElem h2) e
    · rw [if_neg q1] at e ⊢
      rw [List.getElem_set] at e
      by_cases q2 : i = j2
      · rw [if_pos q2] at e
        rw [e]
        exact vn (List.getElem?_eq_getElem h1) e.symm
      · rw [if_neg q2] at e
        exact pw j1 j2 h1 h2 lt e
def sp_hcut (C D S A : Addr) : Sp := fun vs H Q _ => ∃ (p : Addr) (B M : Hp) (h : HSt) (po : Option Addr) (e d s : Addr) (ws : List V) (i : Nat) (k : Int) (dr : Dr), vs = [.ref p, .int k] ∧ Ex B H ∧ Ex M H ∧ Dj B M ∧ HallIn C D B M p h po e d s ws ∧ h.doors.length ≤ 20 ∧ h.doors[i]? = some (k, some dr) ∧
  ∀ G M' H' s' z xs ws', StepD C D S A B M H p po e d (stepH (cutH h i k)) (stepP (cutH h i k)) G M' H' s' z xs ws' → Q (.ref z) H'
def sp_hmend (C D S A : Addr) : Sp := fun vs H Q _ => ∃ (p : Addr) (B M : Hp) (h : HSt) (po : Option Addr) (e d s : Addr) (ws : List V) (i : Nat) (k b c : Int), vs = [.ref p, .int k] ∧ Ex B H ∧ Ex M H ∧ Dj B M ∧ HallIn C D B M p h po e d s ws ∧ h.doors.length ≤ 20 ∧ h.doors[i]? = some (k, none) ∧ h.ends[i]? = some (k, b, c) ∧
  ∀ G M' H' s' z xs ws', StepD C D S A B M H p po e d (stepH (mendH h i k b c)) (stepP (mendH h i k b c)) G M' H' s' z xs ws' → Q (.ref z) H'
section
variable {P : Program} {w : World} {K : PySem.W.Frag} {mg : Str → Option Value} {base : Heap}
theorem ret_step (T : Tx K mg) {σ : L2.St} {F : Ends} {p e d s : Addr} {B M M1 H H2 : Hp} {h1 : HSt} {po : Option Addr} {ws : List V} (hσ : σ[0]? = some (some (.ref p))) (ch : Chg M M1 H H2) (eB : Ex B H2) (dj : Dj B M1) (hall : HallIn T.c_Hall T.c_Door B M1 p h1 po e d s ws) (few : h1.doors.length ≤ 20) (live : ∀ x, H2 x = none → H x = none)
    (q : ∀ G M' H' s' z xs, StepD T.c_Hall T.c_Door T.c_Say T.c_Agree B M H p po e d (stepH h1) (stepP h1) G M' H' s' z xs ws → F.rt (.ref z) H') :
    tRet (tMeth T.c_Hall "_step" (sp_hstep T.c_Hall T.c_Door T.c_Say T.c_Agree) [] E0 (tVar 0) tNil) F σ H2 := by
  obtain ⟨dx1, hp1⟩ := hall.self
  refine ⟨_, hσ, p, dx1, _, rfl, ch.now _ _ hp1, by cases po <;> rfl, p, B, _, h1, po, e, d, s, ws, rfl, eB, ch.now, dj, hall, few, fun M' s' z xs H' ch' sub hz zH ha' pa => ?_⟩
  exact q _ M' H' s' z xs (StepD.pre ch (Ex.refl _) (fun x hx => .inl hx) live (StepD.of eB dj ch' sub hz zH (fresh_back ch.now hz) ha' pa))
theorem ok_hcut (T : Tx K mg) : FnOk P w K mg base CX0 5 T.a_Hall_cut T.d_Hall_cut ["self", "link"] (sp_hcut T.c_Hall T.c_Door T.c_Say T.c_Agree) := by
  have G_Hall__running := ok_hrunning (P := P) (w := w) (base := base) T
  have G_Hall__step := ok_hstep (P := P) (w := w) (base := base) T
  refine T.F_Hall_cut.ok sc_Hall_cut (fun vs H Q E h => ?_) (fun cdv A outer s H vs Q E hr h => ?_)
  · obtain ⟨_, _, _, _, _, _, _, _, _, _, _, _, rfl, _⟩ := h
    rfl
  · obtain ⟨p, B, M, h, po, e, d, s, ws, i, k, dr, rfl, eB, eM, dj, hall, few, hi, q⟩ := h
    refine ⟨_, (pss_cons (ps_expr (pe_meth (pv 0) T.cl_Hall T.me_Hall__running G_Hall__running (hr.mono (by decide)) T.b_Hall__running .nil pass0 (pa_cons (pv 1) pa_nil)))
  (pss_cons (ps_dput (hu_of hr) (fldK (K := K) rfl (pv 0) rfl) (pv 1) pe_non rfl)
  (pss_one (ps_ret (pe_meth0 (pv 0) T.cl_Hall T.me_Hall__step G_Hall__step (hr.mono (by decide)) T.b_Hall__step .nil pass0))))), ?_⟩
    obtain ⟨dx, hp⟩ := hall.self
    obtain ⟨v, hv, hd⟩ := paired_at0 hall.each hi
    obtain ⟨a, dxa, hv0, rfl, hMa, hh⟩ := hd
    have hk : (h.doors.map (·.1))[i]? = some k := by rw [List.getElem?_map, hi]; rfl
    have hpo : List.lookup ("_step" : Str) (fH h e d s po) = none := by cases po <;> rfl
    refine ⟨_, rfl, p, dx, _, rfl, eM _ _ hp, by cases po <;> rfl, _, rfl, p, B, M, h, po, e, d, s, ws, i, k, a, rfl, eM, hall, hk, hv, ?_⟩
    have lw := Paired.length hall.each
    have hdH := eM _ _ hall.doors
    have pd : p ≠ d := ne_of hp hall.doors (by intro z; cases z)
    have put : DPut H d (.int k) .non (upd H d (.dK (intK (h.doors.map (·.1)) (ws.set i .non)))) := by
      rw [← intK_put hall.nd (by rw [List.length_map]; exact lw) hk]
      refine DPut.k (k := Sum.inl k) hdH (len_lt ?_)
      rw [intK_len (by rw [List.length_map]; exact lw), List.length_map]
      omega
    show tSeq _ _ _ _ _
    refine ⟨_, rfl, p, T.c_Hall, dx, _, _, rfl, eM _ _ hp, T.cl_Hall, T.n_Hall__doors, rfl, _, rfl, d, _, rfl, put, ?_⟩
    have ch := Chg.put (o := .dK (intK (h.doors.map (·.1)) (ws.set i .non))) eM hall.doors
    refine ret_step T (h1 := cutH h i k) rfl ch (fun x o hx => ?_) (fun x => ?_) (hall.putV hi (fun x o nx hx => by rw [upd_ne nx]; exact hx) upd_same rfl (fun a h => nomatch h)) (by show (h.doors.set i _).length ≤ 20; rw [List.length_set]; exact few) (fun x hx => ?_) (fun G M' H' s' z xs k => q G M' H' s' z xs _ k)
    · rw [upd_ne fun z => ?_]
      · exact eB _ _ hx
      · rcases dj d with w | w
        · rw [← z, hx] at w
          cases w
        · rw [hall.doors] at w
          cases w
    · by_cases z : x = d
      · rw [z]
        exact .inl ((dj d).resolve_right (by rw [hall.doors]; simp))
      · rw [upd_ne z]
        exact dj x
    · by_cases z : x = d
      · rw [z, upd_same] at hx
        cases hx
      · rw [upd_ne z] at hx
        exact hx
theorem ok_hmend (T : Tx K mg) : FnOk P w K mg base CX0 5 T.a_Hall_mend T.d_Hall_mend ["self", "link"] (sp_hmend T.c_Hall T.c_Door T.c_Say T.c_Agree) := by
  have G_Hall__door := ok_hdoor (P := P) (w := w) (base := base) T
  have G_Door___init__ := ok_dinit (P := P) (w := w) (base := base) T
  have G_Hall__step := ok_hstep (P := P) (w := w) (base := base) T
  refine T.F_Hall_mend.ok sc_Hall_mend (fun vs H Q E h => ?_) (fun cdv A outer s H vs Q E hr h => ?_)
  · obtain ⟨_, _, _, _, _, _, _, _, _, _, _, _, _, rfl, _⟩ := h
    rfl
  · obtain ⟨p, B, M, h, po, e, d, s, ws, i, k, b, c, rfl, eB, eM, dj, hall, few, hi, he, q⟩ := h
    refine ⟨_, (pss_cons (ps_if (pt_cmpR op_notN (pe_meth (pv 0) T.cl_Hall T.me_Hall__door G_Hall__door (hr.mono (by decide)) T.b_Hall__door .nil pass0 (pa_cons (pv 1) pa_nil)) pe_non (nomark _)) (pss_one ps_never) pss_nil)
  (pss_cons (ps_asg (pe_dget (Nat.lt_of_le_of_lt (Nat.add_le_add_left (by decide) _) hr.units) (fldK (K := K) rfl (pv 0) rfl) (pv 1) (fun _ _ => rfl)) (pg_tup rfl (pgs_cons (pg_name (i := 2) sc_Hall_mend.nd rfl (Or.inl rfl)) (pgs_cons (pg_name (i := 3) sc_Hall_mend.nd rfl (Or.inl rfl)) pgs_nil))))
  (pss_cons (ps_dput (hu_of hr) (fldK (K := K) rfl (pv 0) rfl) (pv 1) (pe_make T.m_Door G_Door___init__ (hr.mono (by decide)) (by rfl) T.g_Door T.b_Door___init__ .nil pass0 (pa_cons (pv 2) (pa_cons (pv 3) pa_nil))) rfl)
  (pss_one (ps_ret (pe_meth0 (pv 0) T.cl_Hall T.me_Hall__step G_Hall__step (hr.mono (by decide)) T.b_Hall__step .nil pass0)))))), ?_⟩
    obtain ⟨dx, hp⟩ := hall.self
    obtain ⟨v, hv, hd⟩ := paired_at0 hall.each hi
    obtain rfl := hd
    have hk : (h.doors.map (·.1))[i]? = some k := by rw [List.getElem?_map, hi]; rfl
    have hpo : List.lookup ("_step" : Str) (fH h e d s po) = none := by cases po <;> rfl
    refine ⟨_, rfl, p, dx, _, rfl, eM _ _ hp, by cases po <;> rfl, _, rfl, p, B, M, h, po, e, d, s, ws, i, k, _, rfl, eM, hall, hk, hv, ?_⟩
    have lw := Paired.length hall.each
    have hdH := eM _ _ hall.doors
    have pd : p ≠ d := ne_of hp hall.doors (by intro z; cases z)
    obtain ⟨evs, hE, hes⟩ := hall.ends
    obtain ⟨ev, hev, t, rfl, ht⟩ := paired_at0 hes he
    have hek : (h.ends.map (·.1))[i]? = some k := by rw [List.getElem?_map, he]; rfl
    have get : DGet H e (.int k) (some (.ref t)) := by
      rw [← intK_at (by rw [hall.es]; exact hall.nd) hek hev]
      exact DGet.k (k := Sum.inl k) (eM _ _ hE)
    have htH := eB _ _ ht
    refine ⟨rfl, _, rfl, ite2 (fun z => absurd z (by simp)) (fun _ => un_next ?_)⟩
    refine ⟨_, rfl, p, T.c_Hall, dx, _, _, rfl, eM _ _ hp, T.cl_Hall, T.n_Hall__ends, rfl, _, rfl, e, _, rfl, get, ?_⟩
    refine ⟨t, _, rfl, SqT.of htH, rfl, _, _, rfl, _, _, rfl, rfl, ?_⟩
    refine ⟨_, rfl, _, rfl, fun x dx' hx hdx ne' => ⟨dx', x, b, c, rfl, upd_same, fun H1 off at_ => ⟨rfl, ?_⟩⟩⟩
    have e1 : Ex H H1 := made_ex hx hdx off
    have mx := fresh_back eM hx
    have bx := fresh_back eB hx
    have xd : x ≠ d := fun z => by rw [z, hall.doors] at mx; cases mx
    have put : DPut H1 d (.int k) (.ref x) (upd H1 d (.dK (intK (h.doors.map (·.1)) (ws.set i (.ref x))))) := by
      rw [← intK_put hall.nd (by rw [List.length_map]; exact lw) hk]
      refine DPut.k (k := Sum.inl k) (e1 _ _ hdH) (len_lt ?_)
      rw [intK_len (by rw [List.length_map]; exact lw), List.length_map]
      omega
    refine ⟨_, rfl, p, T.c_Hall, dx, _, _, rfl, e1 _ _ (eM _ _ hp), T.cl_Hall, T.n_Hall__doors, rfl, _, rfl, d, _, rfl, put, ?_⟩
    have ch1 : Chg M (upd M x (.ins T.c_Door dx' (fD (newDr b c) .non))) H H1 := ⟨fun a o ha => by
      by_cases z : a = x
      · rw [z, upd_same] at ha
        rw [z, ← ha]
        exact at_
      · rw [upd_ne z] at ha
        exact e1 _ _ (eM _ _ ha), fun a o _ ha => e1 _ _ ha, fun a ha => by
      by_cases z : a = x
      · exact .inr (by rw [z]; exact hx)
      · rw [upd_ne z] at ha
        exact .inl ha⟩
    have md1 : (upd M x (.ins T.c_Door dx' (fD (newDr b c) .non))) d = some (.dK (intK (h.doors.map (·.1)) ws)) := by rw [upd_ne (Ne.symm xd)]; exact hall.doors
    have ch := ch1.trans (Chg.put (o := .dK (intK (h.doors.map (·.1)) (ws.set i (.ref x)))) ch1.now md1)
    have bd : ∀ {a : Addr} {o : HO}, B a = some o → a ≠ d := fun {a o} ha z => by
      rcases dj d with w | w
      · rw [← z, ha] at w
        cases w
      · rw [hall.doors] at w
        cases w
    refine ret_step T (h1 := mendH h i k b c) rfl ch (fun a o ha => ?_) (fun a => ?_) (hall.putV hi (fun a o na ha => ?_) upd_same ⟨x, dx', .non, rfl, by rw [upd_ne xd]; exact upd_same, rfl⟩ (fun a z => by rw [← V.ref.inj z]; exact mx)) (by show (h.doors.set i _).length ≤ 20; rw [List.length_set]; exact few) (fun a ha => ?_) (fun G M' H' s' z xs k => q G M' H' s' z xs _ k)
    · rw [upd_ne (bd ha)]
      exact e1 _ _ (eB _ _ ha)
    · by_cases z : a = d
      · rw [z]
        exact .inl ((dj d).resolve_right (by rw [hall.doors]; simp))
      · rw [upd_ne z]
        by_cases z2 : a = x
        · rw [z2]
          exact .inl bx
        · rw [upd_ne z2]
          exact dj a
    · rw [upd_ne na, upd_ne (fun z => by rw [z, mx] at ha; cases ha)]
      exact ha
    · by_cases z : a = d
      · rw [z, upd_same] at ha
        cases ha
      · rw [upd_ne z] at ha
        exact fresh_back e1 ha
end
end K24

set_option maxHeartbeats 1000000
namespace K24
open PySem PySem.Spec PyProof.Rows L2 Evl MyG
/-! ### a hall made -/
theorem dc_it {J : It} {n : Nat} {G : Hp → Prop} {Y : Nat → Hp → V → Hp → Prop} (w : Walk J n G Y) {g : TG} {tt : TT} {tk tv : TE} {vs : List Nat} {σ : L2.St} {H1 : Hp} {D : Addr} {Qd : Hp → Prop} (Pv : Nat → Hp → Prop) (h0 : Pv 0 (upd H1 D (.dK []))) (hG : ∀ i H, i ≤ n → Pv i H → G H)
    (hs : ∀ i x H H', i < n → Pv i H → Y i H x H' → g x (wipe σ vs) H' fun σ2 H2 => wipe σ2 vs = wipe σ vs ∧ tt σ2 H2 fun b H3 =>
      if b = true then tk σ2 H3 fun y H4 => tv σ2 H4 fun z H5 => ∃ kvs k, y = kV k ∧ H5 D = some (.dK kvs) ∧ kvs.length < sizeLine ∧ Pv (i + 1) (upd H5 D (.dK (putK kvs k z))) else Pv (i + 1) H3) (hd : ∀ H, Pv n H → Qd H) :
    ∃ W : Nat → Nat → Hp → Prop, (∃ m, W 0 m (upd H1 D (.dK []))) ∧ ∀ i m H, W i m H →
      (J.stop i H ∧ Qd H) ∨ (J.go i H ∧ ∃ Nx : Hp → Prop, (∀ H', Nx H' → ∃ m', m' < m ∧ W (i + 1) m' H') ∧ ∀ x H', J.yld i H x H' → g x (wipe σ vs) H' fun σ2 H2 => wipe σ2 vs = wipe σ vs ∧ tt σ2 H2 fun b H3 =>
        if b = true then tk σ2 H3 fun y H4 => tv σ2 H4 fun z H5 => ∃ kvs k, y = kV k ∧ H5 D = some (.dK kvs) ∧ kvs.length < sizeLine ∧ Nx (upd H5 D (.dK (putK kvs k z))) else Nx H3) := by
  refine ⟨fun i m H => m = n - i ∧ i ≤ n ∧ Pv i H, ⟨n, by simp, Nat.zero_le _, h0⟩, ?_⟩
  rintro i m H ⟨rfl, hi, p⟩
  have q := hG i H hi p
  by_cases hlt : i < n
  · exact .inr ⟨w.goes i H hlt q, Pv (i + 1), fun H' p' => ⟨n - (i + 1), by omega, rfl, hlt, p'⟩, fun x H' y => hs i x H H' hlt p (w.yields i H x H' hlt q y)⟩
  · have e : i = n := by omega
    subst e
    exact .inl ⟨w.stops H q, hd H p⟩
theorem inV_ints (z : Int) : ∀ ns : List Int, inV (.int z) (ns.map V.int) = decide (z ∈ ns)
  | [] => by simp [inV]
  | n :: ns => by
    have ih := inV_ints z ns
    unfold inV at ih ⊢
    rw [List.map_cons, List.any_cons, ih]
    have e : eqV (.int n) (.int z) = decide (n = z) := by first | rfl | simp [eqV]
    rw [e]
    by_cases h : n = z
    · subst h; simp
    · have h' : ¬ z = n := fun q => h q.symm
      simp [h, h']
theorem all_flat : ∀ cs : List Int, (cs.map V.int).all flatV = true
  | [] => rfl
  | c :: cs => by
    show (flatV (V.int c) && (cs.map V.int).all flatV) = true
    rw [all_flat cs]
    rfl
def CutAt (K : PySem.W.Frag) (B : Hp) (c : Addr) (cs : List Int) : Prop := ∀ H, Ex B H → SqL K H c (cs.map V.int) ∨ SqT K H c (cs.map V.int)
def door0 (cs : List Int) (e : Int × Int × Int) : Int × Option Dr := (e.1, if decide (e.1 ∈ cs) = true then none else some (newDr e.2.1 e.2.2))
def initH (own most : Int) (rule : Str) (ends : List (Int × Int × Int)) (cs : List Int) : HSt := ⟨own, most, rule, ends, ends.map (door0 cs), (own, 0), none⟩
theorem door0_fst (cs : List Int) (ends : List (Int × Int × Int)) : (ends.map (door0 cs)).map (·.1) = ends.map (·.1) := by
  rw [List.map_map]
  rfl
def lookG : List (Int × Int × Int) → Int → Int × Int
  | [], _ => (0, 0)
  | e :: r, k => if e.1 = k then e.2 else lookG r k
theorem lookG_mem : ∀ {gs : List (Int × Int × Int)} {e : Int × Int × Int}, (gs.map (·.1)).Nodup → e ∈ gs → lookG gs e.1 = e.2
  | [], _, _, h => by simp at h
  | g :: gs, e, nd, h => by
    rw [List.map_cons, List.nodup_cons] at nd
    unfold lookG
    rcases List.mem_cons.mp h with rfl | h
    · rw [if_pos rfl]
    · rw [if_neg fun z => nd.1 (by rw [z]; exact List.mem_map.mpr ⟨e, h, rfl⟩)]
      exact lookG_mem nd.2 h
theorem sorted_perm {gs : List (Int × Int × Int)} {ys : List Int} (nd : (gs.map (·.1)).Nodup) (p : ys.Perm (gs.map (·.1))) : (ys.map fun k => (k, lookG gs k)).Perm gs := by
  have h := p.map fun k => (k, lookG gs k)
  rw [List.map_map] at h
  have : gs.map ((fun k => (k, lookG gs k)) ∘ fun e => e.1) = gs := by
    conv => rhs; rw [← List.map_id gs]
    refine List.map_congr_left fun e he => ?_
    show (e.1, lookG gs e.1) = e
    rw [lookG_mem nd he]
  rwa [this] at h
theorem intK_app : ∀ {ls : List Int} {vs : List V} {l : Int} {v : V}, vs.length = ls.length → intK (ls ++ [l]) (vs ++ [v]) = intK ls vs ++ [(Sum.inl l, v)]
  | [], [], _, _, _ => rfl
  | [], _ :: _, _, _, h => by simp at h
  | _ :: _, [], _, _, h => by simp at h
  | l0 :: ls, v0 :: vs, l, v, h => congrArg ((Sum.inl l0, v0) :: ·) (intK_app (ls := ls) (vs := vs) (by simpa using h))
theorem intK_no {l : Int} : ∀ {ls : List Int} {vs : List V}, ¬ l ∈ ls → valV (intK ls vs) (Sum.inl l) = none
  | [], _, _ => rfl
  | _ :: _, [], _ => rfl
  | l0 :: ls, v0 :: vs, h => by
    rw [List.mem_cons, not_or] at h
    show valV ((Sum.inl l0, v0) :: intK ls vs) (Sum.inl l) = _
    rw [valV_neg (fun e => h.1 (Sum.inl.inj e).symm)]
    exact intK_no h.2
theorem intK_new {ls : List Int} {vs : List V} {i : Nat} {l : Int} {v : V} (nd : ls.Nodup) (hi : ls[i]? = some l) (hl : vs.length = (ls.take i).length) : putK (intK (ls.take i) vs) (Sum.inl l) v = intK (ls.take (i + 1)) (vs ++ [v]) := by
  have no : ¬ l ∈ ls.take i := fun h => by
    obtain ⟨j, hj⟩ := List.getElem?_of_mem h
    have jl : j < i := by
      have := (List.getElem?_eq_some_iff.mp hj).1
      rw [List.length_take] at this
      omega
    rw [List.getElem?_take_of_lt jl] at hj
    have := (List.getElem?_inj (List.getElem?_eq_some_iff.mp hj).1 nd).mp (hj.trans hi.symm)
    omega
  rw [putK_new v (intK_no no), take_snoc hi, intK_app hl]
theorem intK_fst {ls : List Int} {vs : List V} (h : vs.length = ls.length) : (intK ls vs).map (·.1) = ls.map Sum.inl := by
  unfold intK
  induction ls generalizing vs with
  | nil => rfl
  | cons l ls ih =>
    cases vs with
    | nil => simp at h
    | cons v vs => exact congrArg (Sum.inl l :: ·) (ih (by simpa using h))
def DN (D : Addr) (H0 H : Hp) (v : V) : Option Dr → Prop
  | none => v = .non
  | some dr => ∃ a dx, v = .ref a ∧ H0 a = none ∧ H a = some (.ins D dx (fD dr .non)) ∧ dr.hs = none
theorem DN.map {D : Addr} {H0 H H' : Hp} {v : V} (f : ∀ a dx fs, H a = some (.ins D dx fs) → H' a = some (.ins D dx fs)) : ∀ {x : Option Dr}, DN D H0 H v x → DN D H0 H' v x
  | none, h => h
  | some _, ⟨a, dx, h1, h2, h3, h4⟩ => ⟨a, dx, h1, h2, f _ _ _ h3, h4⟩
/-- all that is new behind, but s; and p -/
def newbut (H H' : Hp) (s p : Addr) : Hp := fun x => if ((H x).isNone && decide (x ≠ s)) || decide (x = p) then H' x else none
theorem newbut_in {H H' : Hp} {s p x : Addr} (h : H x = none) (n : x ≠ s) : newbut H H' s p x = H' x := by
  unfold newbut
  rw [if_pos (by rw [h]; simp [n])]
theorem newbut_p {H H' : Hp} {s p : Addr} : newbut H H' s p p = H' p := by
  unfold newbut
  rw [if_pos (by simp)]
theorem newbut_out {H H' : Hp} {s p x : Addr} {o : HO} (h : H x = some o) (n : x ≠ p) : newbut H H' s p x = none := by
  unfold newbut
  rw [if_neg (by rw [h]; simp [n])]
theorem newbut_s {H H' : Hp} {s p : Addr} (n : s ≠ p) : newbut H H' s p s = none := by
  unfold newbut
  rw [if_neg (by simp [n])]
theorem newbut_ex {H H' : Hp} {s p : Addr} : Ex (newbut H H' s p) H' := fun x o h => by
  unfold newbut at h
  split at h
  · exact h
  · cases h
theorem fH_ne_fD {h : HSt} {e d s : Addr} {po : Option Addr} {dr : Dr} {hv : V} : fH h e d s po ≠ fD dr hv := fun q => by
  have := congrArg (fun l => (l.map (·.1)).head?) q
  revert this
  show some ("_hall" : Str) = some ("other_hall" : Str) → False
  decide +kernel
theorem HallIn.post {C D p e d s z dx : Addr} {B M : Hp} {h : HSt} {ws : List V} (k : HallIn C D B M p h none e d s ws) (hp : M p = some (.ins C dx (fH h e d s none))) : HallIn C D B (upd M p (.ins C dx (fH h e d s (some z)))) p h (some z) e d s ws := by
  obtain ⟨evs, h1, h2⟩ := k.ends
  refine ⟨⟨dx, upd_same⟩, ⟨evs, by rw [upd_ne (ne_of h1 hp (by intro q; cases q))]; exact h1, h2⟩, by rw [upd_ne (ne_of k.doors hp (by intro q; cases q))]; exact k.doors, Paired.mapP k.each fun v x q => ?_, k.apart, k.std, k.nd, k.ed, k.es⟩
  cases hx : x.2 with
  | none =>
    rw [hx] at q
    exact q
  | some dr =>
    rw [hx] at q
    obtain ⟨a, dxa, hv, h1, h2, h3⟩ := q
    refine ⟨a, dxa, hv, h1, ?_, h3⟩
    rw [upd_ne fun z => ?_]
    · exact h2
    · rw [z, hp] at h2
      exact fH_ne_fD (HO.ins.inj (Option.some.inj h2)).2.2
theorem StepD.post {C D S A p e d s' z dx : Addr} {B M M' H H' G : Hp} {h' : HSt} {ws xs : List V} {ps : List (Int × Lt)} (k : StepD C D S A B M H p none e d h' ps G M' H' s' z xs ws) (hp : M' p = some (.ins C dx (fH h' e d s' none))) :
    StepD C D S A B M H p (some z) e d h' ps G (upd M' p (.ins C dx (fH h' e d s' (some z)))) (upd H' p (.ins C dx (fH h' e d s' (some z)))) s' z xs ws := by
  have gp : G p = none := (k.dj p).resolve_right (by rw [hp]; simp)
  refine ⟨k.chg.trans (Chg.put k.chg.now hp), k.exB, k.exH.mut gp, fun x => ?_, k.new, k.z0, k.zG, k.hall.post hp, k.posts⟩
  by_cases q : x = p
  · rw [q]
    exact .inl gp
  · rw [upd_ne q]
    exact k.dj x
def sp_hinit (K : PySem.W.Frag) (C D S A : Addr) : Sp := fun vs H Q _ => ∃ (p dx g c : Addr) (own most : Int) (rule : Str) (B : Hp) (gs : List (Int × Int × Int)) (cs : List Int) (evs : List V), vs = [.ref p, .int own, .ref g, .ref c, .int most, .str rule] ∧ H p = some (.ins C dx []) ∧ Ex B H ∧ B p = none ∧ B g = some (.dK (intK (gs.map (·.1)) evs)) ∧ EndsV B evs gs ∧ (gs.map (·.1)).Nodup ∧ gs.length ≤ 20 ∧ CutAt K B c cs ∧ rule ∈ (["right", "hasty", "worse", "turned", "free", "kept"] : List Str) ∧
  ∀ ends G M' H' e d s' z xs ws, ends.Perm gs → (ends.map (·.1)).Pairwise (· ≤ ·) → StepD C D S A B (one p (.ins C dx [])) H p (some z) e d (stepH (initH own most rule ends cs)) (stepP (initH own most rule ends cs)) G M' H' s' z xs ws → Q .non H'
section
variable {P : Program} {w : World} {K : PySem.W.Frag} {mg : Str → Option Value} {base : Heap}
theorem ok_hinit (T : Tx K mg) : FnOk P w K mg base CX0 5 T.a_Hall___init__ T.d_Hall___init__ ["self", "hall", "doors", "cut", "most", "rule"] (sp_hinit K T.c_Hall T.c_Door T.c_Say T.c_Agree) := by
  have G_check_rule := ok_check (P := P) (w := w) (base := base) T
  have G_Door___init__ := ok_dinit (P := P) (w := w) (base := base) T
  have G_Hall__step := ok_hstep (P := P) (w := w) (base := base) T
  refine T.F_Hall___init__.ok sc_Hall___init__ (fun vs H Q E h => ?_) (fun cdv A outer s H vs Q E hr h => ?_)
  · obtain ⟨_, _, _, _, _, _, _, _, _, _, _, rfl, _⟩ := h
    rfl
  · obtain ⟨p, dx, g, c, own, most, rule, B, gs, cs, evs, rfl, hp, eB, bp, hg, hev, nd, few, hc, hru, q⟩ := h
    refine ⟨_, PSs.nox (pss_cons (ps_expr (pe_call G_check_rule (hr.mono (by decide)) (by rfl) T.g_check_rule T.F_check_rule.kp T.b_check_rule .nil pass0 (pa_cons (pv 5) pa_nil)))
  (pss_cons (ps_fld (pv 0) (pv 1) rfl)
  (pss_cons (ps_fld (pv 0) (pe_dc (own := [("link", 6)]) (g := (gName 6)) (tt := tYes) rfl sc_Hall___init__.nd (iListK (K := K) rfl (pe_callB (call_sortedDI rfl) (by rfl) T.z_sorted (by decide +kernel) (pa_cons (pv 2) pa_nil))) (blkOk_by (N := n_Hall___init__) (sc := defScope s_Hall___init__) (by decide +kernel)) (fun _ _ _ _ _ => (pg_name (i := 6) sc_Hall___init__.nd rfl (Or.inl rfl))) (fun _ _ _ _ _ => pts_nil) (fun _ _ _ _ _ => (pv 6)) (fun _ _ _ _ _ => (pe_dget (Nat.lt_of_le_of_lt (Nat.add_le_add_left (by decide) _) hr.units) (pv 2) (pv 6) (fun _ _ => rfl)))) rfl)
  (pss_cons (ps_fld (pv 0) (pv 4) rfl)
  (pss_cons (ps_fld (pv 0) (pv 5) rfl)
  (pss_cons (ps_fld (pv 0) pe_dnewK rfl)
  (pss_cons (ps_lock (ps_for PassesOwn.never rfl (pi_items (fldK (K := K) rfl (pv 0) rfl)) (pg_tup rfl (pgs_cons (pg_name (i := 6) sc_Hall___init__.nd rfl (Or.inl rfl)) (pgs_cons (pg_tup rfl (pgs_cons (pg_name (i := 7) sc_Hall___init__.nd rfl (Or.inl rfl)) (pgs_cons (pg_name (i := 8) sc_Hall___init__.nd rfl (Or.inl rfl)) pgs_nil))) pgs_nil)))
   (pss_one (ps_dput (hu_of hr) (fldK (K := K) rfl (pv 0) rfl) (pv 6) (pe_ifExp (pt_cmpR (op_inK (K := K) rfl) (pv 6) (pv 3) (by rfl)) pe_non (pe_make T.m_Door G_Door___init__ (hr.mono (by decide)) (by rfl) T.g_Door T.b_Door___init__ .nil pass0 (pa_cons (pv 7) (pa_cons (pv 8) pa_nil)))) rfl))))
  (pss_cons (ps_fld (pv 0) (pe_tup (pa_cons (pv 1) (pa_cons pe_int pa_nil))) rfl)
  (pss_cons (ps_fld (pv 0) pe_non rfl)
  (pss_one (ps_fld (pv 0) (pe_meth0 (pv 0) T.cl_Hall T.me_Hall__step G_Hall__step (hr.mono (by decide)) T.b_Hall__step .nil pass0) rfl))))))))))), ?_⟩
    have gp : g ≠ p := fun z => by rw [z, bp] at hg; cases hg
    have gl : evs.length = gs.length := Paired.length hev
    have gk : (intK (gs.map (·.1)) evs).length = gs.length := by rw [intK_len (by rw [List.length_map]; exact gl), List.length_map]
    refine ⟨_, rfl, rule, rfl, hru, ?_⟩
    refine ⟨_, rfl, _, rfl, p, T.c_Hall, dx, _, rfl, hp, T.cl_Hall, T.n_Hall__hall, (by show 0 < 1000; decide), ?_⟩
    have e1 : Ex B (upd H p (.ins T.c_Hall dx (putF "_hall" (.int own) []))) := eB.mut bp
    generalize hH1 : upd H p (.ins T.c_Hall dx (putF "_hall" (.int own) [])) = H1 at e1
    have hp1 : H1 p = some (.ins T.c_Hall dx [("_hall", .int own)]) := by rw [← hH1]; exact upd_same
    have fr1 : ∀ x o, x ≠ p → H x = some o → H1 x = some o := fun x o nx hx => by rw [← hH1, upd_ne nx]; exact hx
    have bk1 : ∀ x, H1 x = none → H x = none := fun x hx => by
      rw [← hH1] at hx
      by_cases z : x = p
      · rw [z, upd_same] at hx; cases hx
      · rwa [upd_ne z] at hx
    dsimp only
    refine ⟨_, rfl, g, _, gs.map (·.1), rfl, .inl (e1 _ _ hg), intK_fst (by rw [List.length_map]; exact gl), by rw [List.length_map]; omega, fun ys a py sy ha => ?_⟩
    have lf : ∀ i, ((ys.take i).map fun k => (k, lookG gs k)).map (·.1) = ys.take i := fun i => by
      rw [List.map_map]
      exact List.map_id _
    have ndy : ys.Nodup := py.nodup_iff.mpr nd
    have ly : ys.length = gs.length := by rw [py.length_eq, List.length_map]
    refine ⟨a, rfl, ⟨_, SqL.of upd_same⟩, fun D hD => ?_⟩
    have eA := Ex.new (o := .lst (ys.map V.int)) ha
    have gH1 := e1 _ _ hg
    refine dc_it (walk_list (xs := ys.map V.int)) (fun i H' => ∃ us, Ex (upd H1 a (.lst (ys.map V.int))) H' ∧ H' D = some (.dK (intK (ys.take i) us)) ∧ us.length = (ys.take i).length ∧ EndsV B us ((ys.take i).map fun k => (k, lookG gs k))) ⟨[], Ex.new hD, upd_same, rfl, .nil⟩ (fun i H' _ ⟨_, ex, _⟩ => SqL.of (ex _ _ upd_same)) ?_ ?_
    · rintro i x Hb Hb' hi ⟨us, ex, hDa, lu, hus⟩ ⟨rfl, hxi⟩
      rw [List.length_map] at hi
      rw [List.getElem?_map] at hxi
      obtain ⟨k, hk⟩ : ∃ k, ys[i]? = some k := ⟨_, List.getElem?_eq_getElem hi⟩
      rw [hk] at hxi
      obtain rfl := Option.some.inj hxi
      have km := py.mem_iff.mp (List.mem_of_getElem? hk)
      obtain ⟨j, hj⟩ := List.getElem?_of_mem km
      obtain ⟨ge, hge⟩ : ∃ ge, gs[j]? = some ge := by
        rw [List.getElem?_map] at hj
        cases h : gs[j]? with
        | none => rw [h] at hj; cases hj
        | some ge => exact ⟨ge, rfl⟩
      have gek : ge.1 = k := by
        rw [List.getElem?_map, hge] at hj
        exact Option.some.inj hj
      obtain ⟨v, hv, t, rfl, ht⟩ := paired_at0 hev hge
      have look : lookG gs k = ge.2 := by rw [← gek]; exact lookG_mem nd (List.mem_of_getElem? hge)
      have get : DGet Hb' g (.int k) (some (.ref t)) := by
        rw [← intK_at nd hj hv]
        exact DGet.k (k := Sum.inl k) (ex _ _ (eA _ _ gH1))
      refine ⟨rfl, un_yes (iteT ?_)⟩
      refine ⟨_, rfl, _, rfl, _, rfl, g, _, rfl, get, _, Sum.inl k, rfl, hDa, len_lt ?_, us ++ [.ref t], ex.mut hD, ?_, ?_, ?_⟩
      · rw [intK_len lu, List.length_take]
        omega
      · rw [upd_same, intK_new ndy hk lu]
      · rw [take_snoc hk, List.length_append, List.length_append, lu]
        rfl
      · rw [take_snoc hk, List.map_append]
        exact paired_app hus (.cons ⟨t, rfl, by show B t = some (.tup (pairD (lookG gs k))); rw [look]; exact ht⟩ .nil)
    · rintro Hb ⟨us, ex, hDb, lu, hus⟩
      rw [List.length_map, List.take_length] at hDb lu hus
      have nda : D ≠ a := fun z => by rw [z, upd_same] at hD; cases hD
      have hD1 : H1 D = none := by rw [upd_ne nda] at hD; exact hD
      have D0 := bk1 _ hD1
      have eb : Ex H1 Hb := eA.trans ex
      have hpb := eb _ _ hp1
      refine ⟨_, rfl, p, T.c_Hall, dx, _, rfl, hpb, T.cl_Hall, T.n_Hall__ends, (by show 1 < 1000; decide), ?_⟩
      refine ⟨_, rfl, _, rfl, p, T.c_Hall, dx, _, rfl, upd_same, T.cl_Hall, T.n_Hall__most, (by show 2 < 1000; decide), ?_⟩
      refine ⟨_, rfl, _, rfl, p, T.c_Hall, dx, _, rfl, upd_same, T.cl_Hall, T.n_Hall__rule, (by show 3 < 1000; decide), ?_⟩
      have H4p : ∀ o1 o2 o3 : HO, (∀ x, x ≠ p → (upd (upd (upd Hb p o1) p o2) p o3) x = Hb x) ∧ (upd (upd (upd Hb p o1) p o2) p o3) p = some o3 := fun o1 o2 o3 => ⟨fun x nx => by rw [upd_ne nx, upd_ne nx, upd_ne nx], upd_same⟩
      obtain ⟨ne4, at4⟩ := H4p (.ins T.c_Hall dx (putF "_ends" (.ref D) [("_hall", .int own)])) (.ins T.c_Hall dx (putF "_most" (.int most) (putF "_ends" (.ref D) [("_hall", .int own)]))) (.ins T.c_Hall dx (putF "_rule" (.str rule) (putF "_most" (.int most) (putF "_ends" (.ref D) [("_hall", .int own)]))))
      dsimp only
      show tSeq _ _ _ _ _
      generalize upd (upd (upd Hb p (.ins T.c_Hall dx (putF "_ends" (.ref D) [("_hall", .int own)]))) p (.ins T.c_Hall dx (putF "_most" (.int most) (putF "_ends" (.ref D) [("_hall", .int own)])))) p (.ins T.c_Hall dx (putF "_rule" (.str rule) (putF "_most" (.int most) (putF "_ends" (.ref D) [("_hall", .int own)])))) = H4 at ne4 at4 ⊢
      refine fun d hd => ?_
      have dp : d ≠ p := fun z => by rw [z, at4] at hd; cases hd
      have hdb : Hb d = none := by rw [← ne4 d dp]; exact hd
      refine ⟨_, rfl, p, T.c_Hall, dx, _, rfl, by rw [upd_ne (Ne.symm dp)]; exact at4, T.cl_Hall, T.n_Hall__doors, (by show 4 < 1000; decide), ?_⟩
      have hp5 : (upd (upd H4 d (.dK [])) p (.ins T.c_Hall dx (putF "_doors" (.ref d) (putF "_rule" (.str rule) (putF "_most" (.int most) (putF "_ends" (.ref D) [("_hall", .int own)])))))) p = some (.ins T.c_Hall dx [("_hall", .int own), ("_ends", .ref D), ("_most", .int most), ("_rule", .str rule), ("_doors", .ref d)]) := upd_same
      have hd5 : (upd (upd H4 d (.dK [])) p (.ins T.c_Hall dx (putF "_doors" (.ref d) (putF "_rule" (.str rule) (putF "_most" (.int most) (putF "_ends" (.ref D) [("_hall", .int own)])))))) d = some (.dK []) := by rw [upd_ne dp, upd_same]
      have ne5 : ∀ x, x ≠ p → x ≠ d → (upd (upd H4 d (.dK [])) p (.ins T.c_Hall dx (putF "_doors" (.ref d) (putF "_rule" (.str rule) (putF "_most" (.int most) (putF "_ends" (.ref D) [("_hall", .int own)])))))) x = Hb x := fun x n1 n2 => by rw [upd_ne n1, upd_ne n2, ne4 x n1]
      dsimp only
      show tSeq _ _ _ _ _
      generalize (upd (upd H4 d (.dK [])) p (.ins T.c_Hall dx (putF "_doors" (.ref d) (putF "_rule" (.str rule) (putF "_most" (.int most) (putF "_ends" (.ref D) [("_hall", .int own)])))))) = H5 at hp5 hd5 ne5 ⊢
      have Dp : D ≠ p := fun z => by rw [z, hpb] at hDb; cases hDb
      have Dd : D ≠ d := fun z => by rw [z, hdb] at hDb; cases hDb
      have hD5 : H5 D = some (.dK (intK ys us)) := by rw [ne5 D Dp Dd]; exact hDb
      have fr5 : ∀ x o, x ≠ p → Hb x = some o → H5 x = some o := fun x o nx hx => by rw [ne5 x nx (fun z => by rw [z, hdb] at hx; cases hx)]; exact hx
      have bk5 : ∀ x, H5 x = none → Hb x = none := fun x hx => by
        rw [← ne5 x (fun z => by rw [z, hp5] at hx; cases hx) (fun z => by rw [z, hd5] at hx; cases hx)]
        exact hx
      have eB5 : Ex B H5 := fun x o hx => fr5 x o (fun z => by rw [z, bp] at hx; cases hx) (eb _ _ (e1 _ _ hx))
      have lK : (intK ys us).length = ys.length := intK_len lu
      have BD : B D = none := fresh_back e1 hD1
      have Bd : B d = none := fresh_back (e1.trans eb) hdb
      refine ⟨D, _, hD5, True.intro, fun od => ⟨_, rfl, p, T.c_Hall, dx, _, _, rfl, by rw [upd_ne (Ne.symm Dp)]; exact hp5, T.cl_Hall, T.n_Hall__ends, rfl, D, od, _, rfl, upd_same, for_it walk_items (fun i σ H' => ∃ ws y6 y7 y8, σ = [some (.ref p), some (.int own), some (.ref g), some (.ref c), some (.int most), some (.str rule), y6, y7, y8] ∧ (∀ x o, x ≠ d → (upd H5 D (.frz od (.dK (intK ys us)))) x = some o → H' x = some o) ∧ H' d = some (.dK (intK (ys.take i) ws)) ∧ ws.length = (ys.take i).length ∧ Paired (fun v (x : Int × Option Dr) => DN T.c_Door H5 H' v x.2) ws (((ys.take i).map fun k => (k, lookG gs k)).map (door0 cs)) ∧ ws.Pairwise fun v u => v = u → v = .non)
        ⟨[], _, _, _, rfl, fun x o _ hx => hx, by rw [upd_ne (Ne.symm Dd)]; exact hd5, rfl, .nil, .nil⟩ (fun i σ H' _ ⟨_, _, _, _, _, fr, _⟩ => fr D _ Dd upd_same) ?_ ?_⟩⟩
      · rintro i x σ Ha Ha' hi ⟨ws, y6, y7, y8, rfl, fr, hda, lw, hws, ap⟩ ⟨T', x1, y1, rfl, hT, rfl, hx1, hy1⟩
        rw [lK] at hi
        obtain ⟨k, hk⟩ : ∃ k, ys[i]? = some k := ⟨_, List.getElem?_eq_getElem hi⟩
        obtain ⟨u, hu⟩ : ∃ u, us[i]? = some u := ⟨_, List.getElem?_eq_getElem (by omega)⟩
        have hkv : (intK ys us)[i]? = some (Sum.inl k, u) := by
          unfold intK
          rw [List.getElem?_zipWith, hk, hu]
        dsimp only at hx1 hy1
        rw [hkv] at hx1 hy1
        obtain rfl : V.int k = x1 := Option.some.inj hx1
        obtain rfl : u = y1 := Option.some.inj hy1
        obtain ⟨en, hen, t, rfl, ht⟩ := paired_at hus hu
        obtain rfl : en = (k, lookG gs k) := by
          rw [List.getElem?_map, hk] at hen
          exact (Option.some.inj hen).symm
        have eT := Ex.new (o := .tup [.int k, .ref t]) hT
        have tl : (upd H5 D (.frz od (.dK (intK ys us)))) t = some (.tup (pairD (lookG gs k))) := by
          rw [upd_ne (fun z => by rw [z, BD] at ht; cases ht)]
          exact eB5 _ _ ht
        have ht2 := eT _ _ (fr t _ (fun z => by rw [z, Bd] at ht; cases ht) tl)
        have eBa : Ex B (upd Ha T' (.tup [.int k, .ref t])) := fun x o hx => eT _ _ (fr x o (fun z => by rw [z, Bd] at hx; cases hx) (by
          rw [upd_ne (fun z => by rw [z, BD] at hx; cases hx)]
          exact eB5 _ _ hx))
        refine ⟨T', _, rfl, SqT.of upd_same, rfl, _, _, rfl, _, _, rfl, t, _, rfl, SqT.of ht2, rfl, _, _, rfl, _, _, rfl, rfl, rfl, ?_⟩
        refine ⟨_, rfl, _, rfl, c, _, rfl, hc _ eBa, rfl, all_flat cs, _, rfl, ?_⟩
        rw [if_neg Bool.false_ne_true, inV_ints]
        have hp3 : ∀ {H3 : Hp}, Ex (upd Ha T' (.tup [.int k, .ref t])) H3 → H3 p = some (.ins T.c_Hall dx [("_hall", .int own), ("_ends", .ref D), ("_most", .int most), ("_rule", .str rule), ("_doors", .ref d)]) := fun {H3} e3 => e3 _ _ (eT _ _ (fr p _ (Ne.symm dp) (by rw [upd_ne (Ne.symm Dp)]; exact hp5)))
        have fin : ∀ (v : V) (H3 : Hp), Ex (upd Ha T' (.tup [.int k, .ref t])) H3 → DN T.c_Door H5 H3 v (door0 cs (k, lookG gs k)).2 → (∀ u, u ∈ ws → u = v → u = .non) → DPut H3 d (.int k) v (upd H3 d (.dK (intK (ys.take (i + 1)) (ws ++ [v])))) ∧
            (∀ x o, x ≠ d → (upd H5 D (.frz od (.dK (intK ys us)))) x = some o → (upd H3 d (.dK (intK (ys.take (i + 1)) (ws ++ [v])))) x = some o) ∧ (upd H3 d (.dK (intK (ys.take (i + 1)) (ws ++ [v])))) d = some (.dK (intK (ys.take (i + 1)) (ws ++ [v]))) ∧ (ws ++ [v]).length = (ys.take (i + 1)).length ∧
            Paired (fun u (x : Int × Option Dr) => DN T.c_Door H5 (upd H3 d (.dK (intK (ys.take (i + 1)) (ws ++ [v])))) u x.2) (ws ++ [v]) (((ys.take (i + 1)).map fun k => (k, lookG gs k)).map (door0 cs)) ∧ (ws ++ [v]).Pairwise fun v u => v = u → v = .non := by
          intro v H3 e3 hdn hap
          have hd3 := e3 _ _ (eT _ _ hda)
          have kI : ∀ (o : HO) (v : V) (x : Option Dr), DN T.c_Door H5 H3 v x → DN T.c_Door H5 (upd H3 d o) v x := fun o v x h => h.map fun a dx fs ha => by
            rw [upd_ne (ne_of ha hd3 (by intro q; cases q))]
            exact ha
          refine ⟨?_, fun x o nx hx => by rw [upd_ne nx]; exact e3 _ _ (eT _ _ (fr x o nx hx)), upd_same, ?_, ?_, ?_⟩
          · rw [← intK_new ndy hk lw]
            refine DPut.k (k := Sum.inl k) hd3 (len_lt ?_)
            rw [intK_len lw, List.length_take]
            omega
          · rw [take_snoc hk, List.length_append, List.length_append, lw]
            rfl
          · rw [take_snoc hk, List.map_append, List.map_append]
            exact paired_app (Paired.mapP hws fun v x h => kI _ _ _ (h.map fun a dx fs ha => e3 _ _ (eT _ _ ha))) (.cons (kI _ _ _ hdn) .nil)
          · rw [List.pairwise_append]
            refine ⟨ap, List.pairwise_singleton .., fun u hu b hb e => ?_⟩
            rw [List.mem_singleton] at hb
            exact hap u hu (e.trans hb)
        refine ite2 (fun ck => ?_) (fun ck => ?_)
        · obtain ⟨f1, f2, f3, f4, f5, f6⟩ := fin .non _ (Ex.refl _) (show DN T.c_Door H5 _ .non (if decide (k ∈ cs) = true then none else some (newDr (lookG gs k).1 (lookG gs k).2)) by rw [if_pos ck]; rfl) (fun u _ e => e)
          exact ⟨_, rfl, p, T.c_Hall, dx, _, _, rfl, hp3 (Ex.refl _), T.cl_Hall, T.n_Hall__doors, rfl, _, rfl, d, _, rfl, f1, ws ++ [.non], _, _, _, rfl, f2, f3, f4, f5, f6⟩
        · refine ⟨_, rfl, _, rfl, fun x dx' hx hdx ne' => ⟨dx', x, _, _, rfl, upd_same, fun H3 off at_ => ⟨rfl, ?_⟩⟩⟩
          have e3 : Ex (upd Ha T' (.tup [.int k, .ref t])) H3 := made_ex hx hdx off
          have hax : Ha x = none := fresh_back eT hx
          have h5x : H5 x = none := by
            cases q : H5 x with
            | none => rfl
            | some o =>
              exfalso
              by_cases z : x = d
              · rw [z, hda] at hax
                cases hax
              · by_cases z2 : x = D
                · rw [z2, fr D _ Dd upd_same] at hax
                  cases hax
                · rw [fr x o z (by rw [upd_ne z2]; exact q)] at hax
                  cases hax
          obtain ⟨f1, f2, f3, f4, f5, f6⟩ := fin (.ref x) H3 e3 (show DN T.c_Door H5 H3 (.ref x) (if decide (k ∈ cs) = true then none else some (newDr (lookG gs k).1 (lookG gs k).2)) by rw [if_neg ck]; exact ⟨x, dx', rfl, h5x, at_, rfl⟩) (fun u hu e => by
            obtain ⟨j, hj⟩ := List.getElem?_of_mem hu
            obtain ⟨y, _, hy⟩ := paired_at hws hj
            cases hy2 : y.2 with
            | none =>
              rw [hy2] at hy
              exact hy
            | some dr =>
              rw [hy2] at hy
              obtain ⟨a', _, h1, _, h3, _⟩ := hy
              rw [e] at h1
              rw [← V.ref.inj h1, hax] at h3
              cases h3)
          exact ⟨_, rfl, p, T.c_Hall, dx, _, _, rfl, hp3 e3, T.cl_Hall, T.n_Hall__doors, rfl, _, rfl, d, _, rfl, f1, ws ++ [.ref x], _, _, _, rfl, f2, f3, f4, f5, f6⟩
      · rintro σ H6 ⟨ws, y6, y7, y8, rfl, fr, hd6, lw, hws, ap⟩
        rw [lK, List.take_length] at hd6 lw hws
        refine ⟨fr D _ Dd upd_same, ?_⟩
        have fr7 : ∀ x o, x ≠ d → H5 x = some o → (upd H6 D (.dK (intK ys us))) x = some o := fun x o nx hx => by
          by_cases z : x = D
          · rw [z, hD5] at hx
            rw [z, upd_same]
            exact hx
          · rw [upd_ne z]
            exact fr x o nx (by rw [upd_ne z]; exact hx)
        have hd7 : (upd H6 D (.dK (intK ys us))) d = some (.dK (intK ys ws)) := by rw [upd_ne (Ne.symm Dd)]; exact hd6
        have hws7 : Paired (fun v (x : Int × Option Dr) => DN T.c_Door H5 (upd H6 D (.dK (intK ys us))) v x.2) ws ((ys.map fun k => (k, lookG gs k)).map (door0 cs)) := Paired.mapP hws fun v x h => h.map fun a dx fs ha => by
          rw [upd_ne (ne_of ha (fr D _ Dd upd_same) (by intro q; cases q))]
          exact ha
        generalize upd H6 D (.dK (intK ys us)) = H7 at fr7 hd7 hws7 ⊢
        have hp7 := fr7 p _ (Ne.symm dp) hp5
        have hD7 := fr7 D _ Dd hD5
        dsimp only
        refine ⟨_, rfl, by show 2 ≤ sizeLine; decide, fun s hs => ?_⟩
        have sp : s ≠ p := fun z => by rw [z, hp7] at hs; cases hs
        have sD : D ≠ s := fun z => by rw [← z, hD7] at hs; cases hs
        have sd : d ≠ s := fun z => by rw [← z, hd7] at hs; cases hs
        refine ⟨_, rfl, p, T.c_Hall, dx, _, rfl, by rw [upd_ne (Ne.symm sp)]; exact hp7, T.cl_Hall, T.n_Hall__standing, (by show 5 < 1000; decide), ?_⟩
        refine ⟨_, rfl, p, T.c_Hall, dx, _, rfl, upd_same, T.cl_Hall, T.n_Hall__root_link, (by show 6 < 1000; decide), ?_⟩
        have h8 : ∀ o1 o2 : HO, (∀ x, x ≠ s → x ≠ p → (upd (upd (upd H7 s (.tup [.int own, .int 0])) p o1) p o2) x = H7 x) ∧ (upd (upd (upd H7 s (.tup [.int own, .int 0])) p o1) p o2) p = some o2 ∧ (upd (upd (upd H7 s (.tup [.int own, .int 0])) p o1) p o2) s = some (.tup [.int own, .int 0]) := fun o1 o2 => ⟨fun x n1 n2 => by rw [upd_ne n2, upd_ne n2, upd_ne n1], upd_same, by rw [upd_ne sp, upd_ne sp, upd_same]⟩
        obtain ⟨ne8, hp8, hs8⟩ := h8 (.ins T.c_Hall dx (putF "_standing" (.ref s) [("_hall", .int own), ("_ends", .ref D), ("_most", .int most), ("_rule", .str rule), ("_doors", .ref d)])) (.ins T.c_Hall dx (putF "_root_link" .non (putF "_standing" (.ref s) [("_hall", .int own), ("_ends", .ref D), ("_most", .int most), ("_rule", .str rule), ("_doors", .ref d)])))
        dsimp only
        generalize (upd (upd (upd H7 s (.tup [.int own, .int 0])) p (.ins T.c_Hall dx (putF "_standing" (.ref s) [("_hall", .int own), ("_ends", .ref D), ("_most", .int most), ("_rule", .str rule), ("_doors", .ref d)]))) p (.ins T.c_Hall dx (putF "_root_link" .non (putF "_standing" (.ref s) [("_hall", .int own), ("_ends", .ref D), ("_most", .int most), ("_rule", .str rule), ("_doors", .ref d)])))) = H8 at ne8 hp8 hs8 ⊢
        have hd0 : H d = none := bk1 _ (fresh_back eb hdb)
        have frH : ∀ x o, x ≠ p → H x = some o → H8 x = some o := fun x o nx hx => by
          have xd : x ≠ d := fun z => by rw [z, hd0] at hx; cases hx
          have h7 := fr7 x o xd (fr5 x o nx (eb _ _ (fr1 x o nx hx)))
          rw [ne8 x (ne_of_none h7 hs) nx]
          exact h7
        have hs0 : H s = none := by
          cases q : H s with
          | none => rfl
          | some o =>
            have sd0 : s ≠ d := fun z => by rw [z, hd0] at q; cases q
            rw [fr7 s o sd0 (fr5 s o sp (eb _ _ (fr1 s o sp q)))] at hs
            cases hs
        have Bs : B s = none := fresh_back eB hs0
        have hall0 : HallIn T.c_Hall T.c_Door (upd B s (.tup (pairD (own, 0)))) (newbut H H8 s p) p (initH own most rule (ys.map fun k => (k, lookG gs k)) cs) none D d s ws := by
          have lf' : (ys.map fun k => (k, lookG gs k)).map (·.1) = ys := by
            have := lf ys.length
            rwa [List.take_length] at this
          refine ⟨⟨dx, by rw [newbut_p]; exact hp8⟩, ⟨us, ?_, Paired.mapP hus fun v e ⟨a, h1, h2⟩ => ⟨a, h1, (Ex.new Bs) _ _ h2⟩⟩, ?_, Paired.mapP hws7 fun v x h => ?_, ap, upd_same, ?_, Dd, ?_⟩
          · rw [newbut_in D0 sD, ne8 D sD Dp]
            show _ = some (HO.dK (intK ((ys.map fun k => (k, lookG gs k)).map (·.1)) us))
            rw [lf']
            exact hD7
          · rw [newbut_in hd0 sd, ne8 d sd dp]
            show _ = some (HO.dK (intK (((ys.map fun k => (k, lookG gs k)).map (door0 cs)).map (·.1)) ws))
            rw [door0_fst, lf']
            exact hd7
          · cases hx : x.2 with
            | none =>
              rw [hx] at h
              exact h
            | some dr =>
              rw [hx] at h
              obtain ⟨a2, dxa, h1, h2, h3, h4⟩ := h
              have a20 : H a2 = none := bk1 _ (fresh_back eb (bk5 _ h2))
              have as : a2 ≠ s := ne_of_none h3 hs
              have ap2 : a2 ≠ p := fun z => by rw [z, hp5] at h2; cases h2
              refine ⟨a2, dxa, .non, h1, by rw [newbut_in a20 as, ne8 a2 as ap2]; exact h3, ?_⟩
              rw [h4]
              rfl
          · show (((ys.map fun k => (k, lookG gs k)).map (door0 cs)).map (·.1)).Nodup
            rw [door0_fst, lf']
            exact ndy
          · show (ys.map fun k => (k, lookG gs k)).map (·.1) = ((ys.map fun k => (k, lookG gs k)).map (door0 cs)).map (·.1)
            rw [door0_fst]
        have eB1 : Ex (upd B s (.tup (pairD (own, 0)))) H8 := fun x o hx => by
          by_cases z : x = s
          · rw [z, upd_same] at hx
            rw [z, ← hx]
            exact hs8
          · rw [upd_ne z] at hx
            exact frH x o (fun z => by rw [z, bp] at hx; cases hx) (eB _ _ hx)
        have dj1 : Dj (upd B s (.tup (pairD (own, 0)))) (newbut H H8 s p) := fun x => by
          by_cases z : x = s
          · right
            rw [z]
            exact newbut_s sp
          · rw [upd_ne z]
            cases hx : B x with
            | none => exact .inl rfl
            | some o => exact .inr (newbut_out (eB _ _ hx) (fun z => by rw [z, bp] at hx; cases hx))
        have few0 : (initH own most rule (ys.map fun k => (k, lookG gs k)) cs).doors.length ≤ 20 := by
          show ((ys.map fun k => (k, lookG gs k)).map (door0 cs)).length ≤ 20
          rw [List.length_map, List.length_map]
          omega
        have ch0 : Chg (one p (.ins T.c_Hall dx [])) (newbut H H8 s p) H H8 := by
          refine ⟨newbut_ex, fun x o hx ho => frH x o (fun z => ?_) ho, fun x hx => ?_⟩
          · rw [z] at hx
            unfold one at hx
            rw [upd_same] at hx
            cases hx
          · by_cases z : x = p
            · left
              rw [z]
              unfold one
              rw [upd_same]
              simp
            · right
              cases q : H x with
              | none => rfl
              | some o => exact absurd (newbut_out q z) hx
        refine ⟨_, rfl, p, dx, _, rfl, hp8, rfl, p, _, _, _, none, D, d, s, ws, rfl, eB1, newbut_ex, dj1, hall0, few0, fun M' s' z xs H' ch sub hz zH ha' pa => ?_⟩
        obtain ⟨dx2, hp9⟩ := ha'.self
        have st := (StepD.of eB1 dj1 ch sub hz zH (fresh_back newbut_ex hz) ha' pa).pre ch0 (Ex.new Bs) (fun x hx => ?_) (fun x hx => ?_)
        · refine ⟨_, rfl, p, T.c_Hall, dx2, _, rfl, ch.now _ _ hp9, T.cl_Hall, T.n_Hall__posted, fH_len, ?_⟩
          exact q _ _ _ _ _ _ _ _ _ _ (sorted_perm nd py) (by rw [show (ys.map fun k => (k, lookG gs k)).map (·.1) = ys by have := lf ys.length; rwa [List.take_length] at this]; exact sy) (st.post hp9)
        · by_cases z : x = s
          · exact .inr (by rw [z]; exact hs0)
          · rw [upd_ne z] at hx
            exact .inl hx
        · cases q : H x with
          | none => rfl
          | some o =>
            by_cases z : x = p
            · rw [z, hp8] at hx
              cases hx
            · rw [frH x o z q] at hx
              cases hx
end
end K24

set_option maxHeartbeats 1000000
namespace K24
open PySem PySem.Spec PyProof.Rows L2 Evl MyG
/-! ### what a hall is at its start -/
def run0 (cs : List Int) (ends : List (Int × Int × Int)) : List (Int × Int × Int) := ends.filter fun e => decide (¬ e.1 ∈ cs)
theorem runs_init (cs : List Int) : ∀ ends : List (Int × Int × Int), runs (ends.map (door0 cs)) = (run0 cs ends).map fun e => (e.1, newDr e.2.1 e.2.2)
  | [] => rfl
  | e :: ends => by
    have ih := runs_init cs ends
    unfold runs run0 at ih ⊢
    rw [List.map_cons, List.filterMap_cons, List.filter_cons]
    by_cases h : e.1 ∈ cs
    · rw [if_neg (by simpa using h), ← ih]
      have : door0 cs e = (e.1, none) := by unfold door0; rw [if_pos (by simpa using h)]
      rw [this]
      rfl
    · rw [if_pos (by simpa using h), List.map_cons, ← ih]
      have : door0 cs e = (e.1, some (newDr e.2.1 e.2.2)) := by unfold door0; rw [if_neg (by simpa using h)]
      rw [this]
      rfl
theorem rows_init (cs : List Int) (ends : List (Int × Int × Int)) : (runs (ends.map (door0 cs))).filterMap rowOf = [] := by
  rw [runs_init, List.filterMap_map, List.filterMap_eq_nil_iff]
  intro e _
  rfl
theorem new_init {own most : Int} {rule : Str} {ends : List (Int × Int × Int)} {cs : List Int} : newSt (initH own most rule ends cs) = (own, 0, -1, -1) := by
  show leastM own most ((runs (ends.map (door0 cs))).filterMap rowOf) = _
  rw [rows_init]
  rfl
def begun (rule : Str) (b c : Int) : Dr := { newDr b c with part := some .leads, said := 1, cf := 1 }
theorem write_init {own most : Int} {ends : List (Int × Int × Int)} {cs : List Int} {k b c : Int} : writeH (initH own most "right" ends cs) k (newDr b c) = (begun "right" b c, [.say 1 own 0]) := by
  unfold writeH
  rw [new_init]
  show writeM own "right" (own, 0) none (own, 0) k (newDr b c) = _
  unfold writeM
  have t : turnM own (own, 0) none k (newDr b c) = { newDr b c with part := some .leads } := by
    unfold turnM
    simp [newDr, leadsM]
  rw [t]
  simp [isL, newDr, wSay, wCf, wAg, ltP, begun]
theorem posts_init {own most : Int} {ends : List (Int × Int × Int)} {cs : List Int} : stepP (initH own most "right" ends cs) = (run0 cs ends).map fun e => (e.1, .say 1 own 0) := by
  unfold stepP
  show (runs (ends.map (door0 cs))).flatMap _ = _
  rw [runs_init, List.flatMap_map]
  simp only [write_init]
  induction run0 cs ends with
  | nil => rfl
  | cons e r ih =>
    rw [List.flatMap_cons, ih]
    rfl
theorem doors_init {own most : Int} {ends : List (Int × Int × Int)} {cs : List Int} : (stepH (initH own most "right" ends cs)).doors = ends.map fun e => (e.1, if decide (e.1 ∈ cs) = true then none else some (begun "right" e.2.1 e.2.2)) := by
  show (ends.map (door0 cs)).map _ = _
  rw [List.map_map]
  refine List.map_congr_left fun e _ => ?_
  show (e.1, Option.map _ (if decide (e.1 ∈ cs) = true then none else some (newDr e.2.1 e.2.2))) = _
  by_cases h : decide (e.1 ∈ cs) = true
  · rw [if_pos h, if_pos h]
    rfl
  · rw [if_neg h, if_neg h]
    show (e.1, some (writeH _ e.1 (newDr e.2.1 e.2.2)).1) = _
    rw [write_init]
theorem st_init {own most : Int} {rule : Str} {ends : List (Int × Int × Int)} {cs : List Int} : (stepH (initH own most rule ends cs)).st = (own, 0) ∧ (stepH (initH own most rule ends cs)).rl = none ∧ (stepH (initH own most rule ends cs)).rule = rule := by
  refine ⟨?_, ?_, rfl⟩
  · show ((newSt _).1, (newSt _).2.1) = _
    rw [new_init]
  · show linkOf (newSt _) = _
    rw [new_init]
    rfl
end K24

set_option maxHeartbeats 1000000
namespace K24
open PySem PySem.Spec PyProof.Rows L2 Evl MyG
/-! ### halls in a world -/
section
variable {s c : Addr} {B H : Hp} {Rs : List Hp}
theorem _root_.MyG.Wld.step {C D S A p e d s' z : Addr} {M G M' H' : Hp} {po : Option Addr} {h' : HSt} {ps : List (Int × Lt)} {xs ws : List V} (W : Wld s c B (M :: Rs) H) (k : StepD C D S A B M H p po e d h' ps G M' H' s' z xs ws) : Wld s c G (M' :: Rs) H' := by
  have W1 := W.chg k.chg
  have out : ∀ {x : Addr}, B x = none → H x ≠ none → G x = none := fun {x} h1 h2 => by
    cases q : G x with
    | none => rfl
    | some o =>
      rcases k.new x (by rw [q]; simp) with r | r
      · exact absurd h1 r
      · exact absurd r h2
  refine ⟨⟨k.exH, out W.w.ns ?_, out W.w.nc ?_, W1.st⟩, W1.ex, W1.off, fun R hR => ?_, W1.pw⟩
  · obtain ⟨o, h⟩ := W.st.s_some
    rw [h]
    simp
  · obtain ⟨o, h⟩ := W.st.c_some
    rw [h]
    simp
  · rcases List.mem_cons.mp hR with rfl | hR
    · exact k.dj
    · intro x
      cases q : R x with
      | none => exact .inr rfl
      | some o =>
        left
        have hm := List.mem_cons_of_mem M hR
        refine out ((W.dj R hm x).resolve_right (by rw [q]; simp)) ?_
        rw [W.ex R hm _ _ q]
        simp
theorem one_upd {p : Addr} {o o' : HO} : upd (one p o) p o' = one p o' := by
  funext x
  unfold one
  by_cases z : x = p
  · rw [z, upd_same, upd_same]
  · rw [upd_ne z, upd_ne z, upd_ne z]
theorem one_at {p : Addr} {o : HO} : one p o p = some o := upd_same
theorem _root_.MyG.Wld.at_ {p : Addr} {o : HO} (W : Wld s c B (one p o :: Rs) H) : H p = some o := W.ex _ (List.mem_cons_self ..) _ _ one_at
theorem _root_.MyG.Wld.put {p : Addr} {o o' : HO} (W : Wld s c B (one p o :: Rs) H) : Wld s c B (one p o' :: Rs) (upd H p o') := by
  have := W.chg (Chg.put (o := o') (W.ex _ (List.mem_cons_self ..)) one_at)
  rwa [one_upd] at this
theorem _root_.MyG.Wld.mk1 {p : Addr} {o : HO} (W : Wld s c B Rs H) (hp : H p = none) : Wld s c B (one p o :: Rs) (upd H p o) := W.one hp
/-- a region of one object becomes known -/
theorem _root_.MyG.Wld.learn {p : Addr} {o : HO} (W : Wld s c B (one p o :: Rs) H) : Wld s c (upd B p o) Rs H := by
  have off := W.off _ (List.mem_cons_self ..)
  refine W.drop.know W.at_ (fun z => ?_) (fun z => ?_) (fun R hR => ?_)
  · rw [z] at off
    have := off.1
    rw [one_at] at this
    cases this
  · rw [z] at off
    have := off.2
    rw [one_at] at this
    cases this
  · exact ((List.pairwise_cons.mp W.pw).1 R hR p).resolve_left (by rw [one_at]; simp)
theorem _root_.MyG.Wld.free {p : Addr} {o : HO} (W : Wld s c B (one p o :: Rs) H) : B p = none := (W.dj _ (List.mem_cons_self ..) p).resolve_right (by rw [one_at]; simp)
end
/-! ### the ends of doors, drawn -/
structure Gt (B : Hp) (kvs : List (Key × V)) (gs : List (Int × Int × Int)) (evs : List V) : Prop where
  eq : kvs = intK (gs.map (·.1)) evs
  ev : EndsV B evs gs
  nd : (gs.map (·.1)).Nodup
theorem Gt.len {B : Hp} {kvs : List (Key × V)} {gs : List (Int × Int × Int)} {evs : List V} (g : Gt B kvs gs evs) : kvs.length = gs.length := by
  rw [g.eq, intK_len (by rw [List.length_map]; exact Paired.length g.ev), List.length_map]
theorem Gt.ext {B B' : Hp} {kvs : List (Key × V)} {gs : List (Int × Int × Int)} {evs : List V} (g : Gt B kvs gs evs) (e : Ex B B') : Gt B' kvs gs evs := ⟨g.eq, Paired.mapP g.ev fun v x ⟨a, h1, h2⟩ => ⟨a, h1, e _ _ h2⟩, g.nd⟩
theorem Gt.put {B B' : Hp} {kvs : List (Key × V)} {gs : List (Int × Int × Int)} {evs : List V} {t : Addr} {k : Int} {x : Int × Int} (g : Gt B kvs gs evs) (e : Ex B B') (ht : B' t = some (.tup (pairD x))) : ∃ gs' evs', Gt B' (putK kvs (Sum.inl k) (.ref t)) gs' evs' ∧ gs'.length ≤ gs.length + 1 := by
  have g' := g.ext e
  have gl := Paired.length g.ev
  by_cases hm : k ∈ gs.map (·.1)
  · obtain ⟨j, hj⟩ := List.getElem?_of_mem hm
    obtain ⟨ge, hge⟩ : ∃ ge, gs[j]? = some ge := by
      rw [List.getElem?_map] at hj
      cases h : gs[j]? with
      | none => rw [h] at hj; cases hj
      | some ge => exact ⟨ge, rfl⟩
    have gk : ge.1 = k := by
      rw [List.getElem?_map, hge] at hj
      exact Option.some.inj hj
    have fst : (gs.set j (k, x)).map (·.1) = gs.map (·.1) := map_set_same hge gk.symm
    refine ⟨gs.set j (k, x), evs.set j (.ref t), ⟨?_, ?_, by rw [fst]; exact g.nd⟩, by rw [List.length_set]; omega⟩
    · rw [g.eq, intK_put g.nd (by rw [List.length_map]; exact gl) hj, fst]
    · refine paired_ix (by rw [List.length_set, List.length_set]; exact gl) fun i v y hv hy => ?_
      by_cases q : j = i
      · subst q
        rw [List.getElem?_set_self (by rw [gl]; exact (List.getElem?_eq_some_iff.mp hge).1)] at hv
        rw [List.getElem?_set_self (List.getElem?_eq_some_iff.mp hge).1] at hy
        obtain rfl := Option.some.inj hv
        obtain rfl := Option.some.inj hy
        exact ⟨t, rfl, ht⟩
      · rw [List.getElem?_set_ne q] at hv hy
        obtain ⟨y', hy', r⟩ := paired_at g'.ev hv
        rw [hy] at hy'
        obtain rfl := Option.some.inj hy'
        exact r
  · refine ⟨gs ++ [(k, x)], evs ++ [.ref t], ⟨?_, paired_app g'.ev (.cons ⟨t, rfl, ht⟩ .nil), ?_⟩, by rw [List.length_append]; exact Nat.le_refl _⟩
    · rw [g.eq, putK_new _ (intK_no hm), List.map_append]
      exact (intK_app (by rw [List.length_map]; exact gl)).symm
    · rw [List.map_append, List.nodup_append]
      refine ⟨g.nd, by simp, fun a ha b hb e => ?_⟩
      rw [List.map_cons, List.map_nil, List.mem_singleton] at hb
      have hb : b = k := hb
      rw [← hb, ← e] at hm
      exact hm ha
theorem short_of {α : Type} [DecidableEq α] : ∀ {xs ys : List α}, xs.Nodup → (∀ x ∈ xs, x ∈ ys) → xs.length ≤ ys.length
  | [], _, _, _ => Nat.zero_le _
  | x :: xs, ys, nd, h => by
    rw [List.nodup_cons] at nd
    have hx := h x (List.mem_cons_self ..)
    have := short_of (xs := xs) (ys := ys.erase x) nd.2 fun y hy => (List.mem_erase_of_ne (fun e => nd.1 (by rw [← e]; exact hy))).mpr (h y (List.mem_cons_of_mem _ hy))
    rw [List.length_erase_of_mem hx] at this
    have := List.length_pos_of_mem hx
    rw [List.length_cons]
    omega
theorem not_all {xs ys : List Int} (nd : xs.Nodup) (h : ys.length < xs.length) : ∃ x, x ∈ xs ∧ ¬ x ∈ ys := by
  refine Classical.byContradiction fun n => ?_
  have := short_of nd fun x hx => Classical.byContradiction fun hn => n ⟨x, hx, hn⟩
  omega
/-! ### a door mended says -/
theorem link_of {own most : Int} {rows : List R4} {k : Int} (h : linkOf (leastM own most rows) = some k) : ∃ r ∈ rows, r.2.2.2 = k := by
  unfold linkOf at h
  split at h
  · cases h
  · next c =>
    have e : (leastM own most rows).2.2.2 = k := Option.some.inj h
    unfold leastM at c e
    rcases (best_ok (rows.filter fun r => decide (r.2.1 ≤ most)) (own, 0, -1, -1)).1 with q | q
    · rw [q] at c
      exact absurd rfl c
    · exact ⟨_, (List.mem_filter.mp q).1, e⟩
theorem runs_mem {ds : List (Int × Option Dr)} {k : Int} {d : Dr} : (k, d) ∈ runs ds ↔ (k, some d) ∈ ds := by
  unfold runs
  rw [List.mem_filterMap]
  constructor
  · rintro ⟨⟨l, x⟩, h1, h2⟩
    cases x with
    | none => cases h2
    | some d' =>
      have := Option.some.inj h2
      obtain ⟨rfl, rfl⟩ := Prod.mk.inj this
      exact h1
  · intro h
    exact ⟨_, h, rfl⟩
theorem mend_says {h : HSt} {i : Nat} {k b c : Int} (nd : (h.doors.map (·.1)).Nodup) (hi : h.doors[i]? = some (k, none)) : k ∈ (stepP (mendH h i k b c)).map (·.1) := by
  have il := (List.getElem?_eq_some_iff.mp hi).1
  have hi' : (mendH h i k b c).doors[i]? = some (k, some (newDr b c)) := by
    show (h.doors.set i (k, some (newDr b c)))[i]? = _
    rw [List.getElem?_set_self il]
  have nd' : ((mendH h i k b c).doors.map (·.1)).Nodup := by
    show ((h.doors.set i (k, some (newDr b c))).map (·.1)).Nodup
    rw [map_set_same (y := (k, some (newDr b c))) hi rfl]
    exact nd
  have hm : (k, newDr b c) ∈ runs (mendH h i k b c).doors := runs_mem.mpr (List.mem_of_getElem? hi')
  have rl : linkOf (newSt (mendH h i k b c)) ≠ some k := fun e => by
    obtain ⟨r, hr, hk⟩ := link_of e
    obtain ⟨⟨l, d⟩, h1, h2⟩ := List.mem_filterMap.mp hr
    unfold rowOf at h2
    cases q : d.hs with
    | none => rw [q] at h2; cases h2
    | some hs =>
      rw [q] at h2
      have h2 := Option.some.inj h2
      rw [← h2] at hk
      have hk : l = k := hk
      rw [hk] at h1
      obtain ⟨j, hj⟩ := List.getElem?_of_mem (runs_mem.mp h1)
      have ij : j = i := (List.getElem?_inj (l := (mendH h i k b c).doors.map (·.1)) (by rw [List.length_map]; exact (List.getElem?_eq_some_iff.mp hj).1) nd').mp (by rw [List.getElem?_map, List.getElem?_map, hj, hi']; rfl)
      rw [ij, hi'] at hj
      have := Option.some.inj (Prod.mk.inj (Option.some.inj hj)).2
      rw [← this] at q
      cases q
  obtain ⟨l, hl⟩ : ∃ l, l ∈ (writeH (mendH h i k b c) k (newDr b c)).2 := by
    unfold writeH writeM
    have t : turnM (mendH h i k b c).own ((newSt (mendH h i k b c)).1, (newSt (mendH h i k b c)).2.1) (linkOf (newSt (mendH h i k b c))) k (newDr b c) = { newDr b c with part := some .leads, was := false } := by
      unfold turnM
      rw [if_neg rl, if_pos (by rfl)]
    rw [t]
    exact ⟨_, List.mem_append.mpr (.inl (List.mem_singleton.mpr rfl))⟩
  exact List.mem_map.mpr ⟨(k, l), List.mem_flatMap.mpr ⟨_, hm, List.mem_map.mpr ⟨l, hl, rfl⟩⟩, rfl⟩
/-! ### made objects, doors behind a step -/
theorem stepH_at {h : HSt} {i : Nat} {k : Int} {x : Option Dr} (hi : h.doors[i]? = some (k, x)) : (stepH h).doors[i]? = some (k, x.map fun d => (writeH h k d).1) := by
  show (h.doors.map _)[i]? = _
  rw [List.getElem?_map, hi]
  rfl
theorem stepH_len (h : HSt) : (stepH h).doors.length = h.doors.length := List.length_map ..
theorem take_at {h : HSt} {i : Nat} {k : Int} {dr : Dr} {l : Lt} (hi : h.doors[i]? = some (k, some dr)) : (stepH (takeH h i k dr l)).doors[i]? = some (k, some (writeH (takeH h i k dr l) k (hearD dr l)).1) :=
  stepH_at (h := takeH h i k dr l) (x := some (hearD dr l)) (List.getElem?_set_self (List.getElem?_eq_some_iff.mp hi).1)
theorem take_len {h : HSt} {i : Nat} {k : Int} {dr : Dr} {l : Lt} : (stepH (takeH h i k dr l)).doors.length = h.doors.length := (stepH_len _).trans (List.length_set ..)
theorem cut_at {h : HSt} {i : Nat} {k : Int} {x : Option Dr} (hi : h.doors[i]? = some (k, x)) : (stepH (cutH h i k)).doors[i]? = some (k, none) :=
  stepH_at (h := cutH h i k) (x := none) (List.getElem?_set_self (List.getElem?_eq_some_iff.mp hi).1)
theorem cut_len {h : HSt} {i : Nat} {k : Int} : (stepH (cutH h i k)).doors.length = h.doors.length := (stepH_len _).trans (List.length_set ..)
theorem take_few {h : HSt} {i : Nat} {k : Int} {dr : Dr} {l : Lt} (f : h.doors.length ≤ 20) : (stepH (takeH h i k dr l)).doors.length ≤ 20 := by rw [take_len]; exact f
theorem cut_few {h : HSt} {i : Nat} {k : Int} (f : h.doors.length ≤ 20) : (stepH (cutH h i k)).doors.length ≤ 20 := by rw [cut_len]; exact f
theorem fm_len {α β : Type} {f : α → List β} (h : ∀ x, (f x).length ≤ 2) : ∀ xs : List α, (xs.flatMap f).length ≤ 2 * xs.length
  | [] => Nat.le_refl _
  | x :: xs => by
    have h1 := h x
    have h2 := fm_len h xs
    rw [List.flatMap_cons, List.length_append, List.length_cons]
    omega
theorem stepP_len (h : HSt) : (stepP h).length ≤ 2 * h.doors.length := by
  unfold stepP
  have h1 := fm_len (f := fun x : Int × Dr => (writeH h x.1 x.2).2.map fun l => (x.1, l)) (fun x => by rw [List.length_map]; exact writeM_len) (runs h.doors)
  have h2 : (runs h.doors).length ≤ h.doors.length := List.length_filterMap_le ..
  omega
theorem take_all {ps : List (Int × Lt)} {n : Nat} (h : n = ps.length) : (ps.map (·.1)).take n = ps.map (·.1) := by
  rw [h, show ps.length = (ps.map (·.1)).length from (List.length_map ..).symm, List.take_length]
theorem count_in {xs : List Int} {k : Int} (h : k ∈ xs) : ¬ ((xs.count k : Nat) : Int) < 1 := by
  have := List.count_pos_iff.mpr h
  omega
theorem cut_cut : (!decide (V.str "cut" = V.str "cut")) = false := by simp
theorem take_end {h : HSt} {i : Nat} {k : Int} {dr : Dr} {l : Lt} : (stepH (takeH h i k dr l)).ends = h.ends := rfl
theorem cut_end {h : HSt} {i : Nat} {k : Int} : (stepH (cutH h i k)).ends = h.ends := rfl
/-! ### numbers picked, halls made -/
theorem pickI {s c : Addr} {B H0 : Hp} {Rs : List Hp} {ns : List Int} {Qk : VK} (W : Wld s c B Rs H0) (l0 : 0 < ns.length) (l1 : ns.length ≤ 1000) (k : ∀ i ∈ ns, ∀ H', Wld s c B Rs H' → Qk (.int i) H') (L : Addr) (hL : H0 L = none) : sp_pick [.ref s, .ref L] (upd H0 L (.lst (ns.map V.int))) Qk E0 := by
  refine ⟨s, c, L, _, rfl, (W.ext (Ex.new hL)).st, upd_same, W.st.ne_s hL, W.st.ne_c hL, by rw [List.length_map]; exact l0, by rw [List.length_map]; omega, fun j x H' hx st of => ?_⟩
  obtain ⟨i, hi, rfl⟩ : ∃ i ∈ ns, V.int i = x := List.mem_map.mp (List.mem_of_getElem? hx)
  exact k i hi H' ((W.ext (Ex.new hL)).drawn st of)
theorem hinit_new {K : PySem.W.Frag} {C D S A g c' x dx : Addr} {own mm : Int} {rule : Str} {B H1 : Hp} {gs : List (Int × Int × Int)} {cs : List Int} {evs : List V} {Qk : VK} {E : XK} (hx : H1 x = none) (hdx : H1 dx = none) (eB : Ex B H1) (hg : B g = some (.dK (intK (gs.map (·.1)) evs))) (hev : EndsV B evs gs) (nd : (gs.map (·.1)).Nodup) (few : gs.length ≤ 20) (hc : CutAt K B c' cs) (hr : rule ∈ (["right", "hasty", "worse", "turned", "free", "kept"] : List Str))
    (q : ∀ ends G M' H' e d s' z xs ws, ends.Perm gs → (ends.map (·.1)).Pairwise (· ≤ ·) → StepD C D S A B emp H1 x (some z) e d (stepH (initH own mm rule ends cs)) (stepP (initH own mm rule ends cs)) G M' H' s' z xs ws → Qk .non H') :
    sp_hinit K C D S A [.ref x, .int own, .ref g, .ref c', .int mm, .str rule] (upd (upd H1 dx (.own x)) x (.ins C dx [])) Qk E := by
  have ex2 : Ex H1 (upd (upd H1 dx (.own x)) x (.ins C dx [])) := fun a o h1 => by
    rw [upd_ne (ne_of_none h1 hx), upd_ne (ne_of_none h1 hdx)]
    exact h1
  refine ⟨x, dx, g, c', own, mm, rule, B, gs, cs, evs, rfl, upd_same, eB.trans ex2, fresh_back eB hx, hg, hev, nd, few, hc, hr, fun ends G M' H' e d s' z xs ws pe so k => q ends G M' H' e d s' z xs ws pe so (k.pre ⟨fun a o ha => ?_, fun a o _ ha => ex2 _ _ ha, fun a ha => ?_⟩ (Ex.refl _) (fun a ha => .inl ha) (fun a ha => fresh_back ex2 ha))⟩
  · unfold one at ha
    by_cases z : a = x
    · rw [z, upd_same] at ha ⊢
      exact ha
    · rw [upd_ne z] at ha
      cases ha
  · right
    unfold one at ha
    by_cases z : a = x
    · rw [z]
      exact hx
    · rw [upd_ne z] at ha
      exact absurd rfl ha
theorem Gt.app {B B' : Hp} {kvs : List (Key × V)} {gs : List (Int × Int × Int)} {evs : List V} {t : Addr} {k : Int} {x : Int × Int} (g : Gt B kvs gs evs) (e : Ex B B') (ht : B' t = some (.tup (pairD x))) (hm : ¬ k ∈ gs.map (·.1)) : Gt B' (putK kvs (Sum.inl k) (.ref t)) (gs ++ [(k, x)]) (evs ++ [.ref t]) := by
  have gl := Paired.length g.ev
  refine ⟨?_, paired_app (g.ext e).ev (.cons ⟨t, rfl, ht⟩ .nil), ?_⟩
  · rw [g.eq, putK_new _ (intK_no hm), List.map_append]
    exact (intK_app (by rw [List.length_map]; exact gl)).symm
  · rw [List.map_append, List.nodup_append]
    refine ⟨g.nd, by simp, fun a ha b hb e => ?_⟩
    rw [List.map_cons, List.map_nil, List.mem_singleton] at hb
    have hb : b = k := hb
    rw [← hb, ← e] at hm
    exact hm ha
end K24

set_option maxHeartbeats 1000000
/-! d.update(e) of two dicts -/
namespace L2
open PySem PySem.Spec PyProof.Rows
def rUpdateK : V → List V → Hp → VK → Prop := fun x vs H Q => ∃ (d o : Addr) (kvs more : List (Key × V)), x = .ref d ∧ vs = [.ref o] ∧ d ≠ o ∧ H d = some (.dK kvs) ∧ H o = some (.dK more) ∧ kvs.length + more.length ≤ sizeLine ∧ Q .non (upd H d (.dK (mergeK kvs more)))
theorem mt_updateK {X : Cx} : MtM X "dict.update" rUpdateK := by
  intro pins s σ H x vs v us Q I rx rv h
  obtain ⟨d, o, kvs, more, rfl, rfl, ne, hd, ho, hz, q⟩ := h
  cases rx
  obtain ⟨u, rfl, ru⟩ := rv.one
  obtain rfl : u = Value.ref o := ru
  obtain ⟨z1, m1, vs1, rel1, dd1⟩ := dk_of I.hok hd
  obtain ⟨z2, m2, vs2, rel2, dd2⟩ := dk_of I.hok ho
  refine call_meetsIn PySem.F.slot_dict_update dd1.typeIs PySem.F.entry_dict_update (PySem.F.args_dict_update_2 _ _) (meets_dict_update (mixKind X.prog X.w) d o ne m2) ⟨vs1, vs2, dd1, dd2, by rw [← rel1.length, ← rel2.length]; exact hz, fun h' dd' _ hs => ?_⟩
  have he : ∃ q, h'.get? d = some q := let ⟨q, _, _, hq, _⟩ := dd'; ⟨q, hq⟩
  exact ⟨.non, _, d_write I (by rw [hd]; exact True.intro) hs he (dk_new (Nat.le_trans (length_mergeK more kvs) hz) m1 (KV.merge rel2 rel1) dd'), rfl, q⟩
end L2

set_option maxHeartbeats 1000000
namespace K24
open PySem PySem.Spec PyProof.Rows L2 Evl MyG
/-! ### a hall as the law keeps it: dicts -/
def drF (r : Bool) (hv : V) (sa si al mi : Int) (ro : Str) (wa : Bool) (be co : Int) : List (Key × V) := [(.inr "runs", .bl r), (.inr "heard", hv), (.inr "said", .int sa), (.inr "since", .int si), (.inr "allowed", .int al), (.inr "mine", .int mi), (.inr "role", .str ro), (.inr "was", .bl wa), (.inr "beyond", .int be), (.inr "cost", .int co)]
def roleS : Option Part → Str
  | none => "cut"
  | some p => partS p
def drKV (be co : Int) (hv : V) : Option Dr → List (Key × V)
  | none => drF false .non 0 1 0 0 "cut" false be co
  | some d => drF true hv d.said d.cf d.agT d.agH (roleS d.part) d.was be co
def hrdL (d : Dr) (p : Int × Int) : List V := [.int d.hn, .int p.1, .int p.2]
def HrdAt (B : Hp) (hv : V) : Option Dr → Prop
  | none => True
  | some d => match d.hs with
    | none => hv = .non
    | some p => ∃ t, hv = .ref t ∧ B t = some (.tup (hrdL d p))
theorem hrd0 {B : Hp} {hv : V} {d : Dr} (h : HrdAt B hv (some d)) (e : d.hs = none) : hv = .non := by
  unfold HrdAt at h
  dsimp only at h
  rw [e] at h
  exact h
theorem hrd1 {B : Hp} {hv : V} {d : Dr} {p : Int × Int} (h : HrdAt B hv (some d)) (e : d.hs = some p) : ∃ t, hv = .ref t ∧ B t = some (.tup (hrdL d p)) := by
  unfold HrdAt at h
  dsimp only at h
  rw [e] at h
  exact h
def mdlKV (h : HSt) (dA : Addr) (pl : V) : List (Key × V) := [(.inr "own", .int h.own), (.inr "doors", .ref dA), (.inr "most", .int h.most), (.inr "rule", .str h.rule), (.inr "place", pl), (.inr "way", oiV h.rl)]
def DrOk (be co : Int) (d : Dr) : Prop := d.bey = be ∧ d.cost = co ∧ (d.hs = none → d.hn = 0 ∧ d.agH = 0)
structure MdlIn (B M : Hp) (m dA : Addr) (h : HSt) (pl : V) (vs : List V) : Prop where
  self : M m = some (.dK (mdlKV h dA pl))
  doors : M dA = some (.dK (intK (h.doors.map (·.1)) vs))
  len : vs.length = h.doors.length
  each : ∀ (i : Nat) (k : Int) (x : Option Dr), h.doors[i]? = some (k, x) → ∃ a hv be co, vs[i]? = some (.ref a) ∧ h.ends[i]? = some (k, be, co) ∧ M a = some (.dK (drKV be co hv x)) ∧ HrdAt B hv x ∧ ∀ d, x = some d → DrOk be co d
  apart : vs.Nodup
  nd : (h.doors.map (·.1)).Nodup
  nn : ∀ k ∈ h.doors.map (·.1), 0 ≤ k
theorem drF_ne_mdl {r : Bool} {hv : V} {sa si al mi : Int} {ro : Str} {wa : Bool} {be co : Int} {h : HSt} {dA : Addr} {pl : V} : drF r hv sa si al mi ro wa be co ≠ mdlKV h dA pl := fun q => by
  have := congrArg (fun l => (l.map (·.1)).head?) q
  revert this
  show some (Sum.inr "runs" : Key) = some (Sum.inr "own" : Key) → False
  decide +kernel
theorem drF_ne_int {r : Bool} {hv : V} {sa si al mi : Int} {ro : Str} {wa : Bool} {be co : Int} {ls : List Int} {vs : List V} : drF r hv sa si al mi ro wa be co ≠ intK ls vs := fun q => by
  cases ls with
  | nil => cases q
  | cons l ls =>
    cases vs with
    | nil => cases q
    | cons v vs =>
      have := congrArg (fun l => (l.map (·.1)).head?) q
      cases this
theorem mdl_ne_int {h : HSt} {dA : Addr} {pl : V} {ls : List Int} {vs : List V} : mdlKV h dA pl ≠ intK ls vs := fun q => by
  cases ls with
  | nil => cases q
  | cons l ls =>
    cases vs with
    | nil => cases q
    | cons v vs =>
      have := congrArg (fun l => (l.map (·.1)).head?) q
      cases this
theorem drKV_F (be co : Int) (hv : V) (x : Option Dr) : ∃ r hv' sa si al mi ro wa, drKV be co hv x = drF r hv' sa si al mi ro wa be co := by
  cases x with
  | none => exact ⟨_, _, _, _, _, _, _, _, rfl⟩
  | some d => exact ⟨_, _, _, _, _, _, _, _, rfl⟩
section
variable {B M : Hp} {m dA : Addr} {h : HSt} {pl : V} {vs : List V}
theorem MdlIn.m_d (k : MdlIn B M m dA h pl vs) : m ≠ dA := fun z => by
  have := k.self
  rw [z, k.doors] at this
  exact mdl_ne_int (HO.dK.inj (Option.some.inj this)).symm
theorem MdlIn.a_m (k : MdlIn B M m dA h pl vs) {a : Addr} {be co : Int} {hv : V} {x : Option Dr} (h1 : M a = some (.dK (drKV be co hv x))) : a ≠ m := fun z => by
  rw [z, k.self] at h1
  obtain ⟨_, _, _, _, _, _, _, _, e⟩ := drKV_F be co hv x
  exact drF_ne_mdl (e.symm.trans (HO.dK.inj (Option.some.inj h1)).symm)
theorem MdlIn.a_d (k : MdlIn B M m dA h pl vs) {a : Addr} {be co : Int} {hv : V} {x : Option Dr} (h1 : M a = some (.dK (drKV be co hv x))) : a ≠ dA := fun z => by
  rw [z, k.doors] at h1
  obtain ⟨_, _, _, _, _, _, _, _, e⟩ := drKV_F be co hv x
  exact drF_ne_int (e.symm.trans (HO.dK.inj (Option.some.inj h1)).symm)
end
theorem mv_own {h : HSt} {dA : Addr} {pl : V} : valV (mdlKV h dA pl) (.inr "own") = some (.int h.own) := rfl
theorem mv_doors {h : HSt} {dA : Addr} {pl : V} : valV (mdlKV h dA pl) (.inr "doors") = some (.ref dA) := rfl
theorem mv_most {h : HSt} {dA : Addr} {pl : V} : valV (mdlKV h dA pl) (.inr "most") = some (.int h.most) := rfl
theorem mv_rule {h : HSt} {dA : Addr} {pl : V} : valV (mdlKV h dA pl) (.inr "rule") = some (.str h.rule) := rfl
theorem mv_place {h : HSt} {dA : Addr} {pl : V} : valV (mdlKV h dA pl) (.inr "place") = some pl := rfl
theorem mv_way {h : HSt} {dA : Addr} {pl : V} : valV (mdlKV h dA pl) (.inr "way") = some (oiV h.rl) := rfl
theorem mp_place {h : HSt} {dA : Addr} {pl v : V} : putK (mdlKV h dA pl) (.inr "place") v = mdlKV h dA v := rfl
theorem mp_way {h : HSt} {dA : Addr} {pl : V} {r : Option Int} : putK (mdlKV h dA pl) (.inr "way") (oiV r) = mdlKV { h with rl := r } dA pl := rfl
section
variable {r : Bool} {hv : V} {sa si al mi : Int} {ro : Str} {wa : Bool} {be co : Int}
theorem dv_runs : valV (drF r hv sa si al mi ro wa be co) (.inr "runs") = some (.bl r) := rfl
theorem dv_heard : valV (drF r hv sa si al mi ro wa be co) (.inr "heard") = some hv := rfl
theorem dv_said : valV (drF r hv sa si al mi ro wa be co) (.inr "said") = some (.int sa) := rfl
theorem dv_since : valV (drF r hv sa si al mi ro wa be co) (.inr "since") = some (.int si) := rfl
theorem dv_allowed : valV (drF r hv sa si al mi ro wa be co) (.inr "allowed") = some (.int al) := rfl
theorem dv_mine : valV (drF r hv sa si al mi ro wa be co) (.inr "mine") = some (.int mi) := rfl
theorem dv_role : valV (drF r hv sa si al mi ro wa be co) (.inr "role") = some (.str ro) := rfl
theorem dv_was : valV (drF r hv sa si al mi ro wa be co) (.inr "was") = some (.bl wa) := rfl
theorem dv_beyond : valV (drF r hv sa si al mi ro wa be co) (.inr "beyond") = some (.int be) := rfl
theorem dv_cost : valV (drF r hv sa si al mi ro wa be co) (.inr "cost") = some (.int co) := rfl
theorem dp_runs {v : Bool} : putK (drF r hv sa si al mi ro wa be co) (.inr "runs") (.bl v) = drF v hv sa si al mi ro wa be co := rfl
theorem dp_heard {v : V} : putK (drF r hv sa si al mi ro wa be co) (.inr "heard") v = drF r v sa si al mi ro wa be co := rfl
theorem dp_said {v : Int} : putK (drF r hv sa si al mi ro wa be co) (.inr "said") (.int v) = drF r hv v si al mi ro wa be co := rfl
theorem dp_since {v : Int} : putK (drF r hv sa si al mi ro wa be co) (.inr "since") (.int v) = drF r hv sa v al mi ro wa be co := rfl
theorem dp_allowed {v : Int} : putK (drF r hv sa si al mi ro wa be co) (.inr "allowed") (.int v) = drF r hv sa si v mi ro wa be co := rfl
theorem dp_mine {v : Int} : putK (drF r hv sa si al mi ro wa be co) (.inr "mine") (.int v) = drF r hv sa si al v ro wa be co := rfl
theorem dp_role {v : Str} : putK (drF r hv sa si al mi ro wa be co) (.inr "role") (.str v) = drF r hv sa si al mi v wa be co := rfl
theorem dp_was {v : Bool} : putK (drF r hv sa si al mi ro wa be co) (.inr "was") (.bl v) = drF r hv sa si al mi ro v be co := rfl
theorem drF_len : (drF r hv sa si al mi ro wa be co).length < sizeLine := len_lt (by show 10 ≤ 100000; decide)
end
theorem mdl_len {h : HSt} {dA : Addr} {pl : V} : (mdlKV h dA pl).length < sizeLine := len_lt (by show 6 ≤ 100000; decide)
/-- a look at a text key -/
theorem gS {H : Hp} {a : Addr} {kvs : List (Key × V)} {x : Str} {v : V} (e : valV kvs (.inr x) = some v) (h : Rd H a (.dK kvs)) : DGet H a (.str x) (some v) := .inl ⟨kvs, .inr x, h, rfl, e.symm⟩
theorem pS {H : Hp} {a : Addr} {kvs kvs' : List (Key × V)} {x : Str} {v : V} (e : putK kvs (.inr x) v = kvs') (h : H a = some (.dK kvs)) (l : kvs.length < sizeLine) : DPut H a (.str x) v (upd H a (.dK kvs')) := .inl ⟨kvs, .inr x, h, rfl, l, by rw [e]⟩
/-! ### the standing reckoned -/
theorem best_snoc (x : R4) (y : R4) : ∀ ys : List R4, best x (ys ++ [y]) = if ltR y (best x ys) = true then y else best x ys := fun ys => by
  induction ys generalizing x with
  | nil => rfl
  | cons z zs ih => exact ih _
def bestTo (h : HSt) (i : Nat) : R4 := best (h.own, 0, -1, -1) (((runs (h.doors.take i)).filterMap rowOf).filter fun r => decide (r.2.1 ≤ h.most))
theorem runs_take {ds : List (Int × Option Dr)} {i : Nat} {k : Int} {x : Option Dr} (h : ds[i]? = some (k, x)) : runs (ds.take (i + 1)) = runs (ds.take i) ++ (x.map fun d => (k, d)).toList := by
  unfold runs
  rw [take_snoc h, List.filterMap_append]
  cases x <;> rfl
theorem bestTo_skip {h : HSt} {i : Nat} {k : Int} {x : Option Dr} (hi : h.doors[i]? = some (k, x)) (no : ∀ d, x = some d → d.hs = none) : bestTo h (i + 1) = bestTo h i := by
  unfold bestTo
  rw [runs_take hi, List.filterMap_append, List.filter_append]
  cases x with
  | none => simp
  | some d =>
    rw [show ((some d).map fun d => (k, d)).toList.filterMap rowOf = [] by
      show List.filterMap rowOf [(k, d)] = []
      simp [rowOf, no d rfl]]
    simp
theorem bestTo_row {h : HSt} {i : Nat} {k : Int} {d : Dr} {p : Int × Int} (hi : h.doors[i]? = some (k, some d)) (hs : d.hs = some p) : bestTo h (i + 1) = if decide (p.2 + d.cost ≤ h.most) = true then (if ltR (p.1, p.2 + d.cost, d.bey, k) (bestTo h i) = true then (p.1, p.2 + d.cost, d.bey, k) else bestTo h i) else bestTo h i := by
  unfold bestTo
  rw [runs_take hi, List.filterMap_append, List.filter_append]
  rw [show ((some d).map fun d => (k, d)).toList.filterMap rowOf = [(p.1, p.2 + d.cost, d.bey, k)] by
    show List.filterMap rowOf [(k, d)] = _
    simp [rowOf, hs]]
  rw [List.filter_cons]
  dsimp only
  by_cases c : decide (p.2 + d.cost ≤ h.most) = true
  · rw [if_pos c, if_pos c]
    exact best_snoc _ _ _
  · rw [if_neg c, if_neg c]
    simp
theorem bestTo_all (h : HSt) : bestTo h h.doors.length = newSt h := by
  unfold bestTo newSt leastM
  rw [List.take_length]
def sp_reckon : Sp := fun vs H Q _ => ∃ (m dA : Addr) (B M : Hp) (h : HSt) (pl : V) (ws : List V), vs = [.ref m] ∧ Ex B H ∧ Ex M H ∧ Dj B M ∧ MdlIn B M m dA h pl ws ∧ h.doors.length ≤ 20 ∧
  ∀ t H', H t = none → Put1 m (.dK (mdlKV { h with st := ((newSt h).1, (newSt h).2.1), rl := linkOf (newSt h) } dA (.ref t))) H H' → H' t = some (.tup (pairD ((newSt h).1, (newSt h).2.1))) → Q .non H'
section
variable {P : Program} {w : World} {K : PySem.W.Frag} {mg : Str → Option Value} {base : Heap}
theorem ok_reckon (T : Tx K mg) : FnOk P w K mg base CX0 1 T.a_l_reckon T.d_l_reckon ["_law_model"] sp_reckon := by
  refine T.F_l_reckon.ok sc_l_reckon (fun vs H Q E h => ?_) (fun cdv A outer s H vs Q E hr h => ?_)
  · obtain ⟨_, _, _, _, _, _, _, rfl, _⟩ := h
    rfl
  · obtain ⟨m, dA, B, M, h, pl, ws, rfl, eB, eM, dj, md, few, q⟩ := h
    refine ⟨_, (pss_cons (ps_par (i := 1) (j := 2) rfl sc_l_reckon.nd rfl rfl (by decide) rfl rfl (pa_cons (pe_tup (pa_cons (pe_dget (Nat.lt_of_le_of_lt (Nat.add_le_add_left (by decide) _) hr.units) (pv 0) pe_str (fun _ _ => rfl)) (pa_cons pe_int (pa_cons (pe_un un_neg pe_int) (pa_cons (pe_un un_neg pe_int) pa_nil))))) (pa_cons pe_non pa_nil)) (by rfl))
  (pss_cons (ps_lock (ps_for PassesOwn.never rfl (pi_items (pe_dget (Nat.lt_of_le_of_lt (Nat.add_le_add_left (by decide) _) hr.units) (pv 0) pe_str (fun _ _ => rfl))) (pg_tup rfl (pgs_cons (pg_name (i := 3) sc_l_reckon.nd rfl (Or.inl rfl)) (pgs_cons (pg_name (i := 4) sc_l_reckon.nd rfl (Or.inl rfl)) pgs_nil)))
   (pss_one (ps_if (PW.pt (pw_and (pt_val (pe_dget (Nat.lt_of_le_of_lt (Nat.add_le_add_left (by decide) _) hr.units) (pv 4) pe_str (fun _ _ => rfl))) (pw_and1 (pt_cmpR op_notN (pe_dget (Nat.lt_of_le_of_lt (Nat.add_le_add_left (by decide) _) hr.units) (pv 4) pe_str (fun _ _ => rfl)) pe_non (nomark _))))) (pss_cons (ps_asg (pe_dget (Nat.lt_of_le_of_lt (Nat.add_le_add_left (by decide) _) hr.units) (pv 4) pe_str (fun _ _ => rfl)) (pg_tup rfl (pgs_cons (pg_name (i := 5) sc_l_reckon.nd rfl (Or.inl rfl)) (pgs_cons (pg_name (i := 6) sc_l_reckon.nd rfl (Or.inl rfl)) (pgs_cons (pg_name (i := 7) sc_l_reckon.nd rfl (Or.inl rfl)) pgs_nil)))))
  (pss_cons (ps_set (i := 8) sc_l_reckon.nd rfl (Or.inl rfl) (pe_tup (pa_cons (pv 6) (pa_cons (pe_op op_add (pv 7) (pe_dget (Nat.lt_of_le_of_lt (Nat.add_le_add_left (by decide) _) hr.units) (pv 4) pe_str (fun _ _ => rfl))) (pa_cons (pe_dget (Nat.lt_of_le_of_lt (Nat.add_le_add_left (by decide) _) hr.units) (pv 4) pe_str (fun _ _ => rfl)) (pa_cons (pv 3) pa_nil))))))
  (pss_one (ps_if (PW.pt (pw_and (pt_cmpR op_le (pe_ix (ix_tupK (K := K) rfl) (pv 8) pe_int (fun _ _ => rfl)) (pe_dget (Nat.lt_of_le_of_lt (Nat.add_le_add_left (by decide) _) hr.units) (pv 0) pe_str (fun _ _ => rfl)) (nomark _)) (pw_and1 (pt_cmpR (op_ltTK (K := K) rfl (Nat.lt_of_le_of_lt (Nat.le_add_right _ _) hr.units)) (pv 8) (pv 1) (nomark _))))) (pss_one (ps_par (i := 1) (j := 2) rfl sc_l_reckon.nd rfl rfl (by decide) rfl rfl (pa_cons (pv 8) (pa_cons (pv 3) pa_nil)) (by rfl))) pss_nil)))) pss_nil))))
  (pss_one (ps_asg (pe_tup (pa_cons (pe_slice (sl_tupK (K := K) rfl) (pv 1) po_none (po_some pe_int)) (pa_cons (pv 2) pa_nil))) (pg_tup rfl (pgs_cons (pg_sub (pv 0) pe_str (set_dict (hu_of hr))) (pgs_cons (pg_sub (pv 0) pe_str (set_dict (hu_of hr))) pgs_nil))))))), ?_⟩
    have hm := eM _ _ md.self
    have hd := eM _ _ md.doors
    have lk : (intK (h.doors.map (·.1)) ws).length = h.doors.length := by rw [intK_len (by rw [List.length_map]; exact md.len), List.length_map]
    refine ⟨_, rfl, m, _, rfl, gS mv_own (.inl hm), _, rfl, _, rfl, by show 4 ≤ sizeLine; decide, fun t0 ht0 => ?_⟩
    have e0 := Ex.new (o := .tup [.int h.own, .int 0, .int (-1), .int (-1)]) ht0
    have t0H : (upd H t0 (.tup [.int h.own, .int 0, .int (-1), .int (-1)])) t0 = some (.tup ((lsR (h.own, 0, -1, -1)).map V.int)) := upd_same
    refine ⟨_, _, rfl, ?_⟩
    dsimp only
    show tSeq _ _ _ _ (upd H t0 (.tup [.int h.own, .int 0, .int (-1), .int (-1)]))
    generalize upd H t0 (.tup [.int h.own, .int 0, .int (-1), .int (-1)]) = H1 at e0 t0H ⊢
    have hm1 := e0 _ _ hm
    have hd1 := e0 _ _ hd
    refine ⟨dA, _, hd1, True.intro, fun od => ?_⟩
    have hmL : (upd H1 dA (.frz od (.dK (intK (h.doors.map (·.1)) ws)))) m = some (.dK (mdlKV h dA pl)) := by rw [upd_ne md.m_d]; exact hm1
    have hdL : (upd H1 dA (.frz od (.dK (intK (h.doors.map (·.1)) ws)))) dA = some (.frz od (.dK (intK (h.doors.map (·.1)) ws))) := upd_same
    have tupL : ∀ {t : Addr} {zs : List V}, H1 t = some (.tup zs) → (upd H1 dA (.frz od (.dK (intK (h.doors.map (·.1)) ws)))) t = some (.tup zs) := fun {t zs} hh => by
      rw [upd_ne (fun z => by rw [z, hd1] at hh; cases hh)]
      exact hh
    have aL : ∀ {a : Addr} {be co : Int} {hv : V} {x : Option Dr}, M a = some (.dK (drKV be co hv x)) → (upd H1 dA (.frz od (.dK (intK (h.doors.map (·.1)) ws)))) a = some (.dK (drKV be co hv x)) := fun {a be co hv x} hh => by
      rw [upd_ne (md.a_d hh)]
      exact e0 _ _ (eM _ _ hh)
    have t0L := tupL t0H
    have backL : ∀ x o, H1 x = some o → x ≠ dA → (upd H1 dA (.frz od (.dK (intK (h.doors.map (·.1)) ws)))) x = some o := fun x o h1 h2 => by rw [upd_ne h2]; exact h1
    generalize hHL : upd H1 dA (.frz od (.dK (intK (h.doors.map (·.1)) ws))) = HL at hmL hdL tupL aL t0L backL
    refine ⟨_, rfl, m, _, rfl, gS mv_doors (.inl hmL), dA, od, _, rfl, hdL, for_it walk_items (fun i σ H' => ∃ tb y3 y4 y5 y6 y7 y8, σ = [some (.ref m), some (.ref tb), some (oiV (linkOf (bestTo h i))), y3, y4, y5, y6, y7, y8] ∧ Ex HL H' ∧ H' tb = some (.tup ((lsR (bestTo h i)).map V.int))) ⟨t0, _, _, _, _, _, _, rfl, Ex.refl _, t0L⟩ (fun i σ H' _ ⟨_, _, _, _, _, _, _, _, e, _⟩ => e _ _ hdL) ?_ ?_⟩
    · rintro i x σ Ha Ha' hi ⟨tb, y3, y4, y5, y6, y7, y8, rfl, eL, htb⟩ ⟨T', x1, y1, rfl, hT, rfl, hx1, hy1⟩
      rw [lk] at hi
      obtain ⟨⟨k, x⟩, hkx⟩ : ∃ y, h.doors[i]? = some y := ⟨_, List.getElem?_eq_getElem hi⟩
      obtain ⟨a, hv, be, co, hva, hen, hMa, hh, hok⟩ := md.each i k x hkx
      have hkv : (intK (h.doors.map (·.1)) ws)[i]? = some (Sum.inl k, .ref a) := by
        unfold intK
        rw [List.getElem?_zipWith, List.getElem?_map, hkx, hva]
        rfl
      dsimp only at hx1 hy1
      rw [hkv] at hx1 hy1
      obtain rfl : V.int k = x1 := Option.some.inj hx1
      obtain rfl : V.ref a = y1 := Option.some.inj hy1
      have eT := Ex.new (o := .tup [.int k, .ref a]) hT
      have ha := eT _ _ (eL _ _ (aL hMa))
      have hm2 := eT _ _ (eL _ _ hmL)
      have htb2 := eT _ _ htb
      have e2 := eL.trans eT
      refine ⟨T', _, rfl, SqT.of upd_same, rfl, _, _, rfl, _, _, rfl, rfl, ?_⟩
      dsimp only
      cases x with
      | none =>
        rw [bestTo_skip hkx (fun d e => by cases e)]
        exact ⟨_, rfl, a, _, rfl, gS dv_runs (.inl ha), _, rfl, iteF (iteF (un_next ⟨tb, _, _, _, _, _, _, rfl, e2, htb2⟩))⟩
      | some d =>
        obtain ⟨rfl, rfl, _⟩ := hok d rfl
        refine ⟨_, rfl, a, _, rfl, gS dv_runs (.inl ha), _, rfl, iteT ⟨_, rfl, a, hv, rfl, gS dv_heard (.inl ha), rfl, _, rfl, ?_⟩⟩
        cases hhs : d.hs with
        | none =>
          obtain rfl := hrd0 hh hhs
          rw [bestTo_skip hkx (fun d' e => by cases e; exact hhs)]
          exact ite2 (fun z => absurd z (by simp)) (fun _ => un_next ⟨tb, _, _, _, _, _, _, rfl, e2, htb2⟩)
        | some p =>
          obtain ⟨th, rfl, hth⟩ := hrd1 hh hhs
          refine ite2 (fun _ => ?_) (fun z => absurd (by simp) z)
          have hth2 := e2 _ _ (tupL (e0 _ _ (eB _ _ hth)))
          have nx := bestTo_row hkx hhs
          show tSeq _ _ _ _ _
          refine ⟨_, rfl, a, _, rfl, gS dv_heard (.inl ha), th, _, rfl, SqT.of hth2, rfl, _, _, rfl, _, _, rfl, _, _, rfl, rfl, ?_⟩
          dsimp only
          refine ⟨_, rfl, _, rfl, _, rfl, a, _, rfl, gS dv_cost (.inl ha), _, _, rfl, rfl, _, rfl, a, _, rfl, gS dv_beyond (.inl ha), _, rfl, by show 4 ≤ sizeLine; decide, fun t1 ht1 => ?_⟩
          have e3 := Ex.new (o := .tup [.int p.1, .int (p.2 + d.cost), .int d.bey, .int k]) ht1
          have t1H : (upd (upd Ha T' (.tup [.int k, .ref a])) t1 (.tup [.int p.1, .int (p.2 + d.cost), .int d.bey, .int k])) t1 = some (.tup ((lsR (p.1, p.2 + d.cost, d.bey, k)).map V.int)) := upd_same
          refine ⟨_, rfl, t1, _, 1, _, rfl, rfl, SqT.of t1H, atI_nat (j := 1) rfl, _, rfl, m, _, rfl, gS mv_most (.inl (e3 _ _ hm2)), _, _, rfl, rfl, _, rfl, ?_⟩
          refine ite2 (fun c => ?_) (fun c => ?_)
          · rw [if_pos (show decide (p.2 + d.cost ≤ h.most) = true from c)] at nx
            refine ⟨_, rfl, _, rfl, t1, tb, lsR (p.1, p.2 + d.cost, d.bey, k), lsR (bestTo h i), rfl, rfl, SqT.of t1H, SqT.of (e3 _ _ htb2), _, rfl, ite2 (fun c2 => ?_) (fun c2 => ?_)⟩
            · rw [if_pos (show ltR (p.1, p.2 + d.cost, d.bey, k) (bestTo h i) = true from c2)] at nx
              have kn := md.nn k (List.mem_map.mpr ⟨_, List.mem_of_getElem? hkx, rfl⟩)
              have lr : oiV (linkOf (p.1, p.2 + d.cost, d.bey, k)) = .int k := by
                unfold linkOf
                rw [if_neg (show ¬ k = -1 by omega)]
                rfl
              rw [nx, lr]
              exact ⟨_, rfl, _, rfl, _, _, rfl, t1, _, _, _, _, _, _, rfl, e2.trans e3, t1H⟩
            · rw [if_neg (show ¬ ltR (p.1, p.2 + d.cost, d.bey, k) (bestTo h i) = true from c2)] at nx
              rw [nx]
              exact un_next ⟨tb, _, _, _, _, _, _, rfl, e2.trans e3, e3 _ _ htb2⟩
          · rw [if_neg (show ¬ decide (p.2 + d.cost ≤ h.most) = true from c)] at nx
            rw [nx]
            exact iteF (un_next ⟨tb, _, _, _, _, _, _, rfl, e2.trans e3, e3 _ _ htb2⟩)
    · rintro σ H3 ⟨tb, y3, y4, y5, y6, y7, y8, rfl, eL, htb⟩
      refine ⟨eL _ _ hdL, ?_⟩
      have tbd : tb ≠ dA := fun z => by
        rw [z, eL _ _ hdL] at htb
        cases htb
      rw [← hHL] at eL
      have e14 := unlock_ex hd1 eL
      have htb4 : (upd H3 dA (.dK (intK (h.doors.map (·.1)) ws))) tb = some (.tup ((lsR (newSt h)).map V.int)) := by
        rw [upd_ne tbd, ← bestTo_all]
        rw [lk] at htb
        exact htb
      rw [lk, bestTo_all]
      generalize upd H3 dA (.dK (intK (h.doors.map (·.1)) ws)) = H4 at e14 htb4 ⊢
      have hm4 := e14 _ _ hm1
      dsimp only
      refine ⟨_, rfl, _, rfl, tb, _, rfl, SqT.of htb4, (by show ¬ (HT.sIx 4 0 none = 0 ∧ HT.sIx 4 4 (some 2) = 4); decide), fun t1 ht1 => ⟨_, rfl, by show 2 ≤ sizeLine; decide, fun t2 ht2 => ?_⟩⟩
      have e5 := Ex.new (o := .tup (pairD ((newSt h).1, (newSt h).2.1))) ht1
      have e6 := e5.trans (Ex.new (o := .tup [.ref t1, oiV (linkOf (newSt h))]) ht2)
      have hm6 := e6 _ _ hm4
      have t16 : (upd (upd H4 t1 (.tup (pairD ((newSt h).1, (newSt h).2.1)))) t2 (.tup [.ref t1, oiV (linkOf (newSt h))])) t1 = some (.tup (pairD ((newSt h).1, (newSt h).2.1))) := (Ex.new ht2) _ _ upd_same
      have t1m : t1 ≠ m := fun z => by
        rw [z, hm4] at ht1
        cases ht1
      refine ⟨t2, _, rfl, SqT.of upd_same, rfl, _, _, rfl, _, rfl, m, _, rfl, pS mp_place hm6 mdl_len, _, _, rfl, _, rfl, m, _, rfl, pS mp_way upd_same mdl_len, rfl, ?_⟩
      refine q t1 _ (fresh_back (e0.trans e14) ht1) (Put1.first (o' := .dK (mdlKV h dA (.ref t1))) ((e0.trans e14).trans e6)).put ?_
      rw [upd_ne t1m, upd_ne t1m]
      exact t16
end
end K24

set_option maxHeartbeats 1000000
namespace K24
open PySem PySem.Spec PyProof.Rows L2 Evl MyG
/-! ### a door's part -/
def partOf (own : Int) (st : Int × Int) (rl : Option Int) (k : Int) (d : Dr) : Part := if rl = some k then .root else if leadsM own st d = true then .leads else .beside
theorem oi_eq {r : Option Int} {k : Int} : decide (V.int k = oiV r) = true ↔ r = some k := by
  cases r with
  | none => simp [oiV]
  | some j =>
    simp only [oiV, decide_eq_true_eq, V.int.injEq, Option.some.injEq]
    exact eq_comm
theorem scal_oi (r : Option Int) (k : Int) : scal (.int k) (oiV r) = true := by cases r <;> rfl
theorem turn_part {own : Int} {st : Int × Int} {rl : Option Int} {k : Int} {d : Dr} : (turnM own st rl k d).part = some (partOf own st rl k d) := by
  unfold turnM partOf
  split
  · rfl
  · split <;> rfl
/-- the model m, its doors dA and the door a of the link k, as they stand in H (dA may be locked) -/
def sp_role (K : PySem.W.Frag) : Sp := fun vs H Q _ => ∃ (m dA a pt : Addr) (h : HSt) (k : Int) (d : Dr) (hv : V) (be co : Int) (kvs : List (Key × V)), vs = [.ref m, .int k] ∧ H m = some (.dK (mdlKV h dA (.ref pt))) ∧ H pt = some (.tup (pairD h.st)) ∧ Rd H dA (.dK kvs) ∧ valV kvs (.inl k) = some (.ref a) ∧ H a = some (.dK (drKV be co hv (some d))) ∧ DrOk be co d ∧ HrdAt H hv (some d) ∧
  ∀ H', Ex H H' → Q (.str (partS (partOf h.own h.st h.rl k d))) H'
section
variable {P : Program} {w : World} {K : PySem.W.Frag} {mg : Str → Option Value} {base : Heap}
theorem ok_role (T : Tx K mg) : FnOk P w K mg base CX0 1 T.a_l_role T.d_l_role ["_law_model", "_law_link"] (sp_role K) := by
  refine T.F_l_role.ok sc_l_role (fun vs H Q E h => ?_) (fun cdv A outer s H vs Q E hr h => ?_)
  · obtain ⟨_, _, _, _, _, _, _, _, _, _, _, rfl, _⟩ := h
    rfl
  · obtain ⟨m, dA, a, pt, h, k, d, hv, be, co, kvs, rfl, hm, hpt, hd, hk, ha, ⟨rfl, rfl, hn0⟩, hh, q⟩ := h
    refine ⟨_, (pss_cons (ps_set (i := 2) sc_l_role.nd rfl (Or.inl rfl) (pe_dget (Nat.lt_of_le_of_lt (Nat.add_le_add_left (by decide) _) hr.units) (pe_dget (Nat.lt_of_le_of_lt (Nat.add_le_add_left (by decide) _) hr.units) (pv 0) pe_str (fun _ _ => rfl)) (pv 1) (fun _ _ => rfl)))
  (pss_cons (ps_if (pt_cmpR op_eq (pv 1) (pe_dget (Nat.lt_of_le_of_lt (Nat.add_le_add_left (by decide) _) hr.units) (pv 0) pe_str (fun _ _ => rfl)) (nomark _)) (pss_one (ps_ret pe_str)) pss_nil)
  (pss_cons (ps_if (pt_cmpR op_isN (pe_dget (Nat.lt_of_le_of_lt (Nat.add_le_add_left (by decide) _) hr.units) (pv 2) pe_str (fun _ _ => rfl)) pe_non (nomark _)) (pss_one (ps_ret pe_str)) pss_nil)
  (pss_cons (ps_set (i := 3) sc_l_role.nd rfl (Or.inl rfl) (pe_op (catTK (K := K) rfl) (pe_dget (Nat.lt_of_le_of_lt (Nat.add_le_add_left (by decide) _) hr.units) (pv 0) pe_str (fun _ _ => rfl)) (pe_tup (pa_cons (pe_dget (Nat.lt_of_le_of_lt (Nat.add_le_add_left (by decide) _) hr.units) (pv 0) pe_str (fun _ _ => rfl)) pa_nil))))
  (pss_one (ps_ret (pe_ifExp (pt_cmpR (op_ltTK (K := K) rfl (Nat.lt_of_le_of_lt (Nat.le_add_right _ _) hr.units)) (pv 3) (pe_tup (pa_cons (pe_ix (ix_tupK (K := K) rfl) (pe_dget (Nat.lt_of_le_of_lt (Nat.add_le_add_left (by decide) _) hr.units) (pv 2) pe_str (fun _ _ => rfl)) pe_int (fun _ _ => rfl)) (pa_cons (pe_ix (ix_tupK (K := K) rfl) (pe_dget (Nat.lt_of_le_of_lt (Nat.add_le_add_left (by decide) _) hr.units) (pv 2) pe_str (fun _ _ => rfl)) pe_int (fun _ _ => rfl)) (pa_cons (pe_dget (Nat.lt_of_le_of_lt (Nat.add_le_add_left (by decide) _) hr.units) (pv 2) pe_str (fun _ _ => rfl)) pa_nil)))) (nomark _)) pe_str pe_str))))))), ?_⟩
    have gd : DGet H dA (.int k) (some (.ref a)) := .inl ⟨kvs, .inl k, hd, rfl, hk.symm⟩
    refine ⟨_, rfl, m, _, rfl, gS mv_doors (.inl hm), _, rfl, dA, _, rfl, gd, ?_⟩
    dsimp only
    show tSeq _ _ _ _ _
    refine ⟨_, rfl, _, rfl, m, _, rfl, gS mv_way (.inl hm), scal_oi _ _, _, rfl, ite2 (fun z => ?_) (fun z => un_next ?_)⟩
    · have := q H (Ex.refl _)
      unfold partOf at this
      rw [if_pos (oi_eq.mp z)] at this
      exact this
    have eq : partOf h.own h.st h.rl k d = if leadsM h.own h.st d = true then .leads else .beside := by
      unfold partOf
      rw [if_neg (fun e => z (oi_eq.mpr e))]
    rw [eq] at q
    dsimp only
    show tSeq _ _ _ _ _
    refine ⟨_, rfl, a, _, rfl, gS dv_heard (.inl ha), rfl, _, rfl, ?_⟩
    cases hhs : d.hs with
    | none =>
      obtain rfl := hrd0 hh hhs
      refine ite2 (fun _ => ?_) (fun z => absurd (by simp) z)
      have := q H (Ex.refl _)
      unfold leadsM at this
      rw [hhs, if_pos rfl] at this
      exact this
    | some p =>
      obtain ⟨th, rfl, hth⟩ := hrd1 hh hhs
      refine ite2 (fun z => absurd z (by simp)) (fun _ => un_next ?_)
      have hl : leadsM h.own h.st d = lt3 h.st.1 h.st.2 h.own p.1 p.2 d.bey := by unfold leadsM; rw [hhs]
      rw [hl] at q
      dsimp only
      show tSeq _ _ _ _ _
      refine ⟨_, rfl, m, _, rfl, gS mv_place (.inl hm), _, rfl, m, _, rfl, gS mv_own (.inl hm), by show 1 ≤ sizeLine; decide, fun t0 ht0 => ?_⟩
      have e0 := Ex.new (o := .tup [.int h.own]) ht0
      refine ⟨pt, t0, _, _, rfl, rfl, SqT.of (e0 _ _ hpt), SqT.of upd_same, (by intro z; cases z), by show 3 ≤ sizeLine; decide, (fun z => by cases z), fun _ t1 ht1 => ?_⟩
      have e1 := e0.trans (Ex.new (o := .tup (pairD h.st ++ [V.int h.own])) ht1)
      dsimp only
      refine ⟨_, rfl, _, rfl, a, _, rfl, gS dv_heard (.inl (e1 _ _ ha)), th, _, 1, _, rfl, rfl, SqT.of (e1 _ _ hth), atI_nat (j := 1) rfl, _, rfl, a, _, rfl, gS dv_heard (.inl (e1 _ _ ha)), th, _, 2, _, rfl, rfl, SqT.of (e1 _ _ hth), atI_nat (j := 2) rfl, _, rfl, a, _, rfl, gS dv_beyond (.inl (e1 _ _ ha)), by show 3 ≤ sizeLine; decide, fun t2 ht2 => ?_⟩
      have e2 := e1.trans (Ex.new (o := .tup [.int p.1, .int p.2, .int d.bey]) ht2)
      refine ⟨t1, t2, [h.st.1, h.st.2, h.own], [p.1, p.2, d.bey], rfl, rfl, SqT.of ((Ex.new ht2) _ _ upd_same), SqT.of upd_same, _, rfl, ?_⟩
      rw [lt_three]
      refine ite2 (fun z => ?_) (fun z => ?_)
      · have := q _ e2
        rw [if_pos (show lt3 h.st.1 h.st.2 h.own p.1 p.2 d.bey = true from z)] at this
        exact this
      · have := q _ e2
        rw [if_neg (show ¬ lt3 h.st.1 h.st.2 h.own p.1 p.2 d.bey = true from z)] at this
        exact this
end
end K24

set_option maxHeartbeats 1000000
namespace K24
open PySem PySem.Spec PyProof.Rows L2 Evl MyG
/-! ### a door under way -/
structure DS (a z : Addr) (H0 H : Hp) (kv : List (Key × V)) (xs ys : List V) (k : Int) (ls : List Lt) : Prop where
  az : a ≠ z
  a0 : ∃ kv0, H0 a = some (.dK kv0)
  z0 : ∃ l0, H0 z = some (.lst l0)
  fr : ∀ x o, x ≠ a → x ≠ z → H0 x = some o → H x = some o
  bk : ∀ x, H x = none → H0 x = none
  at_ : H a = some (.dK kv)
  zt : H z = some (.lst (xs ++ ys))
  told : Paired (fun v (l : Lt) => ∃ t b, v = .ref t ∧ H0 t = none ∧ H0 b = none ∧ H t = some (.tup [.int k, .ref b]) ∧ H b = some (.tup l.vs)) ys ls
section
variable {a z : Addr} {H0 H H' : Hp} {kv kv' : List (Key × V)} {xs ys : List V} {k : Int} {ls : List Lt}
theorem DS.ext (s : DS a z H0 H kv xs ys k ls) (e : Ex H H') : DS a z H0 H' kv xs ys k ls :=
  ⟨s.az, s.a0, s.z0, fun x o n1 n2 h => e _ _ (s.fr x o n1 n2 h), fun x h => s.bk x (fresh_back e h), e _ _ s.at_, e _ _ s.zt, Paired.mapP s.told fun v l ⟨t, b, h1, h2, h3, h4, h5⟩ => ⟨t, b, h1, h2, h3, e _ _ h4, e _ _ h5⟩⟩
theorem DS.put (s : DS a z H0 H kv xs ys k ls) : DS a z H0 (upd H a (.dK kv')) kv' xs ys k ls := by
  have ne : ∀ {t : Addr} {zs : List V}, H t = some (.tup zs) → (upd H a (.dK kv')) t = some (.tup zs) := fun {t zs} h => by
    rw [upd_ne (fun q => by rw [q, s.at_] at h; cases h)]
    exact h
  refine ⟨s.az, s.a0, s.z0, fun x o n1 n2 h => by rw [upd_ne n1]; exact s.fr x o n1 n2 h, fun x h => ?_, upd_same, by rw [upd_ne s.az.symm]; exact s.zt, Paired.mapP s.told fun v l ⟨t, b, h1, h2, h3, h4, h5⟩ => ⟨t, b, h1, h2, h3, ne h4, ne h5⟩⟩
  by_cases q : x = a
  · rw [q, upd_same] at h
    cases h
  · rw [upd_ne q] at h
    exact s.bk x h
theorem DS.app {t b : Addr} {l : Lt} (s : DS a z H0 H kv xs ys k ls) (hb : H b = none) (ht : (upd H b (.tup l.vs)) t = none) :
    DS a z H0 (upd (upd (upd H b (.tup l.vs)) t (.tup [.int k, .ref b])) z (.lst ((xs ++ ys) ++ [.ref t]))) kv xs (ys ++ [.ref t]) k (ls ++ [l]) := by
  have e : Ex H (upd (upd H b (.tup l.vs)) t (.tup [.int k, .ref b])) := (Ex.new hb).trans (Ex.new ht)
  have s2 := s.ext e
  have hb2 : (upd (upd H b (.tup l.vs)) t (.tup [.int k, .ref b])) b = some (.tup l.vs) := (Ex.new ht) _ _ upd_same
  have ht2 : (upd (upd H b (.tup l.vs)) t (.tup [.int k, .ref b])) t = some (.tup [.int k, .ref b]) := upd_same
  have b0 := s.bk b hb
  have t0 := s.bk t (fresh_back (Ex.new (o := .tup l.vs) hb) ht)
  generalize upd (upd H b (.tup l.vs)) t (.tup [.int k, .ref b]) = H2 at s2 hb2 ht2
  have ne : ∀ {t' : Addr} {zs : List V} {o : HO}, H2 t' = some (.tup zs) → (upd H2 z o) t' = some (.tup zs) := fun {t' zs o} h => by
    rw [upd_ne (fun q => by rw [q, s2.zt] at h; cases h)]
    exact h
  refine ⟨s.az, s.a0, s.z0, fun x o n1 n2 h => by rw [upd_ne n2]; exact s2.fr x o n1 n2 h, fun x h => ?_, by rw [upd_ne s.az]; exact s2.at_, by rw [upd_same, List.append_assoc], ?_⟩
  · by_cases q : x = z
    · rw [q, upd_same] at h
      cases h
    · rw [upd_ne q] at h
      exact s2.bk x h
  · exact paired_app (Paired.mapP s2.told fun v l ⟨t, b, h1, h2, h3, h4, h5⟩ => ⟨t, b, h1, h2, h3, ne h4, ne h5⟩) (.cons ⟨t, b, rfl, t0, b0, ne ht2, ne hb2⟩ .nil)
end
section
variable {σ : L2.St} {H : Hp}
theorem ev_gS {i : Nat} {a : Addr} {kvs : List (Key × V)} {x : Str} {v : V} (hv : σ[i]? = some (some (.ref a))) (h : H a = some (.dK kvs)) (e : valV kvs (.inr x) = some v) : Ev (tDGet (tVar i) (tC (.str x))) σ H v := fun H1 e1 Q q => ⟨_, hv, a, v, rfl, gS e (.inl (e1 _ _ h)), q H1 (Ex.refl H1)⟩
theorem go_T {t : TT} {b : Bool} {Q : Bool → Hp → Prop} (h : EvT t σ H b) (k : ∀ H1, Ex H H1 → Q b H1) : t σ H Q := h H (Ex.refl H) Q k
end
/-- the last part: an agree -/
def tEnd (K : PySem.W.Frag) : TS := tIfS (tNot (tB (tVar 9))) (sDPut (tVar 6) (tC (V.str "mine")) (tC (V.int 0)))
  (tIfS (tAnd (tTest (tOp (fun x y H Q => y = V.non ∧ Q (V.bl !decide (x = V.non)) H) (tDGet (tVar 6) (tC (V.str "heard"))) (tC V.non)))
      (tTest (tOp rNe (tDGet (tVar 6) (tC (V.str "mine"))) (tOp (rIxT K) (tDGet (tVar 6) (tC (V.str "heard"))) (tC (V.int 0))))))
    (tSeq (sDPut (tVar 6) (tC (V.str "mine")) (tOp (rIxT K) (tDGet (tVar 6) (tC (V.str "heard"))) (tC (V.int 0))))
      (tDrop (tBM K "list" rAppend (tVar 4) (tCons (tTup (tCons (tVar 5) (tCons (tTup (tCons (tC (V.str "agree")) (tCons (tDGet (tVar 6) (tC (V.str "mine"))) tNil))) tNil))) tNil)))) tNext)
def agM (ag : Bool) (hn mi : Int) : Int × List Lt := if ag = true then (if decide (¬ hn = mi) = true then (hn, [.agree hn]) else (mi, [])) else (0, [])
theorem end_ok {K : PySem.W.Frag} {σ : L2.St} {D : Ends} {a z : Addr} {B H0 H : Hp} {d : Dr} {hv : V} {sa si al mi be co k : Int} {ro : Str} {wa ag : Bool} {xs ys : List V} {ls : List Lt} (h6 : σ[6]? = some (some (.ref a))) (h4 : σ[4]? = some (some (.ref z))) (h5 : σ[5]? = some (some (.int k))) (h9 : σ[9]? = some (some (.bl ag)))
    (s : DS a z H0 H (drF true hv sa si al mi ro wa be co) xs ys k ls) (hl : xs.length + ys.length ≤ 1000) (hh : HrdAt B hv (some d)) (eB : ∀ t zs, B t = some (.tup zs) → H0 t = some (.tup zs)) (n0 : ag = true → d.hs = none → d.hn = mi)
    (fin : ∀ H' ys', DS a z H0 H' (drF true hv sa si al (agM ag d.hn mi).1 ro wa be co) xs (ys ++ ys') k (ls ++ (agM ag d.hn mi).2) → D.nx σ H') : tEnd K D σ H := by
  have hB : ∀ {H' : Hp} {kv : List (Key × V)} {ys' : List V} {ls' : List Lt} {t : Addr} {zs : List V}, DS a z H0 H' kv xs ys' k ls' → B t = some (.tup zs) → H' t = some (.tup zs) := fun {H' kv ys' ls' t zs} s' h => by
    refine s'.fr _ _ (fun q => ?_) (fun q => ?_) (eB _ _ h)
    · obtain ⟨_, z0⟩ := s'.a0
      have := eB _ _ h
      rw [q, z0] at this
      cases this
    · obtain ⟨_, z0⟩ := s'.z0
      have := eB _ _ h
      rw [q, z0] at this
      cases this
  cases ag with
  | false =>
    refine ⟨_, h9, false, rfl, iteT ⟨_, h6, a, _, rfl, pS dp_mine s.at_ drF_len, ?_⟩⟩
    have := fin _ [] (by rw [List.append_nil, show (agM false d.hn mi) = (0, []) from rfl, List.append_nil]; exact s.put)
    exact this
  | true =>
    refine ⟨_, h9, true, rfl, iteF ?_⟩
    refine ⟨_, h6, a, _, rfl, gS dv_heard (.inl s.at_), rfl, _, rfl, ?_⟩
    cases hhs : d.hs with
    | none =>
      obtain rfl := hrd0 hh hhs
      refine ite2 (fun q => absurd q (by simp)) (fun _ => iteF (un_next ?_))
      have e : agM true d.hn mi = (mi, []) := by
        unfold agM
        rw [if_pos rfl, if_neg (by simp [n0 rfl hhs])]
      refine fin _ [] ?_
      rw [e, List.append_nil, List.append_nil]
      exact s
    | some p =>
      obtain ⟨th, rfl, hth⟩ := hrd1 hh hhs
      have hth1 := hB s hth
      refine ite2 (fun _ => ?_) (fun q => absurd (by simp) q)
      refine ⟨_, h6, a, _, rfl, gS dv_mine (.inl s.at_), _, h6, a, _, rfl, gS dv_heard (.inl s.at_), th, _, 0, _, rfl, rfl, SqT.of hth1, atI_nat (j := 0) rfl, rfl, _, rfl, ?_⟩
      refine ite2 (fun c => ?_) (fun c => ?_)
      · have c : ¬ mi = d.hn := by simpa using c
        have e : agM true d.hn mi = (d.hn, [.agree d.hn]) := by
          unfold agM
          rw [if_pos rfl, if_pos (decide_eq_true (show ¬ d.hn = mi from fun q => c q.symm))]
        rw [e] at fin
        have s2 := s.put (kv' := drF true (.ref th) sa si al d.hn ro wa be co)
        refine ⟨_, h6, a, _, rfl, gS dv_heard (.inl s.at_), th, _, 0, _, rfl, rfl, SqT.of hth1, atI_nat (j := 0) rfl, _, h6, a, _, rfl, pS dp_mine s.at_ drF_len, ?_⟩
        refine ⟨_, h4, .inl ⟨rfl, _, SqL.of s2.zt⟩, _, h5, _, h6, a, _, rfl, gS dv_mine (.inl s2.at_), by show 2 ≤ sizeLine; decide, fun b hb => ⟨by show 2 ≤ sizeLine; decide, fun t ht => ?_⟩⟩
        have e2 : Ex _ _ := (Ex.new (o := .tup [.str "agree", .int d.hn]) hb).trans (Ex.new (o := .tup [.int k, .ref b]) ht)
        refine ⟨z, _, _, rfl, rfl, e2 _ _ s2.zt, len_lt (by rw [List.length_append]; omega), ?_⟩
        exact fin _ [.ref t] (s2.app (l := .agree d.hn) hb ht)
      · have c : mi = d.hn := by simpa using c
        have e : agM true d.hn mi = (mi, []) := by
          unfold agM
          rw [if_pos rfl, if_neg (by simp [c])]
        refine un_next (fin _ [] ?_)
        rw [e, List.append_nil, List.append_nil]
        exact s
/-- from when on agrees count, and whether it agrees -/
def tSince (K : PySem.W.Frag) : TS := tSeq (tIfS (tOr (tAnd (tB (tVar 3)) (tTest (tOp rNe (tDGet (tVar 0) (tC (V.str "rule"))) (tC (V.str "worse"))))) (tAnd (tB (tVar 8)) (tTest (tOp rNe (tDGet (tVar 0) (tC (V.str "rule"))) (tC (V.str "turned"))))))
    (sDPut (tVar 6) (tC (V.str "since")) (tDGet (tVar 6) (tC (V.str "said")))) tNext)
  (tSeq (tAsg (tOrV (tOp rNe (tVar 7) (tC (V.str "leads"))) (tOp rEq (tDGet (tVar 0) (tC (V.str "rule"))) (tC (V.str "free")))) (gName 9)) (tEnd K))
/-- what is said -/
def tSay (K : PySem.W.Frag) : TS := tSeq (tIfS (tOr (tTest (tOp (rNeD K) (tVar 2) (tVar 1))) (tB (tVar 8)))
    (tSeq (sDPut (tVar 6) (tC (V.str "said")) (tOp (rI0 fun i j => V.int (i + j)) (tDGet (tVar 6) (tC (V.str "said"))) (tC (V.int 1))))
      (tDrop (tBM K "list" rAppend (tVar 4) (tCons (tTup (tCons (tVar 5) (tCons (tTup (tCons (tC (V.str "say")) (tCons (tDGet (tVar 6) (tC (V.str "said"))) (tCons (tOp (rIxT K) (tVar 2) (tC (V.int 0))) (tCons (tOp (rIxT K) (tVar 2) (tC (V.int 1))) tNil))))) tNil))) tNil)))) tNext)
  (tSince K)
def agV (ro rule : Str) : Bool := !decide (V.str ro = V.str "leads") || decide (V.str rule = V.str "free")
def cfV (wv an : Bool) (rule : Str) : Bool := (wv && !decide (V.str rule = V.str "worse")) || (an && !decide (V.str rule = V.str "turned"))
section
variable {K : PySem.W.Frag} {σ : L2.St} {D : Ends} {a z m dA pt : Addr} {B H0 H : Hp} {d : Dr} {hv pl : V} {sa si al mi be co k : Int} {ro : Str} {wa an wv nv : Bool} {xs ys : List V} {ls : List Lt} {h2 : HSt}
theorem since_ok (h0 : σ[0]? = some (some (.ref m))) (h3 : σ[3]? = some (some (.bl wv))) (h4 : σ[4]? = some (some (.ref z))) (h5 : σ[5]? = some (some (.int k))) (h6 : σ[6]? = some (some (.ref a))) (h7 : σ[7]? = some (some (.str ro))) (h8 : σ[8]? = some (some (.bl an))) (hL : 9 < σ.length)
    (hm : H0 m = some (.dK (mdlKV h2 dA pl))) (ma : m ≠ a) (mz : m ≠ z) (s : DS a z H0 H (drF true hv sa si al mi ro wa be co) xs ys k ls) (hl : xs.length + ys.length ≤ 1000) (hh : HrdAt B hv (some d)) (eB : ∀ t zs, B t = some (.tup zs) → H0 t = some (.tup zs)) (n0 : agV ro h2.rule = true → d.hs = none → d.hn = mi)
    (fin : ∀ H' ys', DS a z H0 H' (drF true hv sa (if cfV wv an h2.rule = true then sa else si) al (agM (agV ro h2.rule) d.hn mi).1 ro wa be co) xs (ys ++ ys') k (ls ++ (agM (agV ro h2.rule) d.hn mi).2) → D.nx (σ.set 9 (some (.bl (agV ro h2.rule)))) H') : tSince K D σ H := by
  have hmH : ∀ {H' : Hp} {kv : List (Key × V)} {ys' : List V} {ls' : List Lt}, DS a z H0 H' kv xs ys' k ls' → H' m = some (.dK (mdlKV h2 dA pl)) := fun s' => s'.fr _ _ ma mz hm
  have tail : ∀ H1 : Hp, DS a z H0 H1 (drF true hv sa (if cfV wv an h2.rule = true then sa else si) al mi ro wa be co) xs ys k ls → tSeq (tAsg (tOrV (tOp rNe (tVar 7) (tC (V.str "leads"))) (tOp rEq (tDGet (tVar 0) (tC (V.str "rule"))) (tC (V.str "free")))) (gName 9)) (tEnd K) D σ H1 := fun H1 s1 => by
    refine go_V (ev_orV (ev_op (ev_var h7) ev_c (rv_ne rfl)) (fun _ => ev_op (ev_gS h0 (hmH s1) mv_rule) ev_c (rv_eq rfl))) (fun H2 e2 => ?_)
    show tEnd K D (σ.set 9 (some (.bl (agV ro h2.rule)))) H2
    have o : ∀ {i : Nat} {v : Option V}, i ≠ 9 → σ[i]? = some v → (σ.set 9 (some (.bl (agV ro h2.rule))))[i]? = some v := fun n h => by
      rw [List.getElem?_set_ne (fun q => n q.symm)]
      exact h
    exact end_ok (B := B) (o (by decide) h6) (o (by decide) h4) (o (by decide) h5) (List.getElem?_set_self hL) (s1.ext e2) hl hh eB n0 fin
  refine go_T (et_or (et_and (et_B (ev_var h3)) (fun _ => et_test (ev_op (ev_gS h0 (hmH s) mv_rule) ev_c (rv_ne rfl)))) (fun _ => et_and (et_B (ev_var h8)) (fun _ => et_test (ev_op (ev_gS h0 (hmH s) mv_rule) ev_c (rv_ne rfl))))) (fun H1 e1 => ?_)
  have s1 := s.ext e1
  by_cases c : cfV wv an h2.rule = true
  · have c' : ((wv && !decide (V.str h2.rule = V.str "worse")) || (an && !decide (V.str h2.rule = V.str "turned"))) = true := c
    rw [if_pos c']
    refine ⟨_, h6, a, _, rfl, gS dv_said (.inl s1.at_), _, h6, a, _, rfl, pS dp_since s1.at_ drF_len, ?_⟩
    refine tail _ ?_
    rw [if_pos c]
    exact s1.put
  · have c' : ¬ ((wv && !decide (V.str h2.rule = V.str "worse")) || (an && !decide (V.str h2.rule = V.str "turned"))) = true := c
    rw [if_neg c']
    refine un_next (tail _ ?_)
    rw [if_neg c]
    exact s1
theorem say_ok {st : Int × Int} (h0 : σ[0]? = some (some (.ref m))) (h22 : σ[2]? = some (some (.ref pt))) (h3 : σ[3]? = some (some (.bl wv))) (h4 : σ[4]? = some (some (.ref z))) (h5 : σ[5]? = some (some (.int k))) (h6 : σ[6]? = some (some (.ref a))) (h7 : σ[7]? = some (some (.str ro))) (h8 : σ[8]? = some (some (.bl an))) (hL : 9 < σ.length)
    (hm : H0 m = some (.dK (mdlKV h2 dA pl))) (ma : m ≠ a) (mz : m ≠ z) (hpt : H0 pt = some (.tup (pairD st))) (s : DS a z H0 H (drF true hv sa si al mi ro wa be co) xs [] k []) (hl : xs.length ≤ 990) (hh : HrdAt B hv (some d)) (eB : ∀ t zs, B t = some (.tup zs) → H0 t = some (.tup zs)) (n0 : agV ro h2.rule = true → d.hs = none → d.hn = mi)
    (ne : EvT (tTest (tOp (rNeD K) (tVar 2) (tVar 1))) σ H nv)
    (fin : ∀ H' ys', DS a z H0 H' (drF true hv (if (nv || an) = true then sa + 1 else sa) (if cfV wv an h2.rule = true then (if (nv || an) = true then sa + 1 else sa) else si) al (agM (agV ro h2.rule) d.hn mi).1 ro wa be co) xs ys' k ((if (nv || an) = true then [.say (sa + 1) st.1 st.2] else []) ++ (agM (agV ro h2.rule) d.hn mi).2) → D.nx (σ.set 9 (some (.bl (agV ro h2.rule)))) H') : tSay K D σ H := by
  have hp : ∀ {H' : Hp} {kv : List (Key × V)} {ys' : List V} {ls' : List Lt} {t : Addr} {zs : List V}, DS a z H0 H' kv xs ys' k ls' → H0 t = some (.tup zs) → H' t = some (.tup zs) := fun {H' kv ys' ls' t zs} s' h => by
    refine s'.fr _ _ (fun q => ?_) (fun q => ?_) h
    · obtain ⟨_, z0⟩ := s'.a0
      rw [q, z0] at h
      cases h
    · obtain ⟨_, z0⟩ := s'.z0
      rw [q, z0] at h
      cases h
  refine go_T (et_or ne (fun _ => et_B (ev_var h8))) (fun H1 e1 => ?_)
  have s1 := s.ext e1
  by_cases c : (nv || an) = true
  · rw [if_pos c]
    rw [if_pos c, if_pos c] at fin
    show tSeq _ _ _ _ _
    have s2 := s1.put (kv' := drF true hv (sa + 1) si al mi ro wa be co)
    refine ⟨_, h6, a, _, rfl, gS dv_said (.inl s1.at_), _, _, rfl, rfl, _, h6, a, _, rfl, pS dp_said s1.at_ drF_len, ?_⟩
    have hpt2 := hp s2 hpt
    refine ⟨_, h4, .inl ⟨rfl, _, SqL.of s2.zt⟩, _, h5, _, h6, a, _, rfl, gS dv_said (.inl s2.at_), _, h22, pt, _, 0, _, rfl, rfl, SqT.of hpt2, atI_nat (j := 0) rfl, _, h22, pt, _, 1, _, rfl, rfl, SqT.of hpt2, atI_nat (j := 1) rfl, by show 4 ≤ sizeLine; decide, fun b hb => ⟨by show 2 ≤ sizeLine; decide, fun t ht => ?_⟩⟩
    have e2 : Ex _ _ := (Ex.new (o := .tup [.str "say", .int (sa + 1), .int st.1, .int st.2]) hb).trans (Ex.new (o := .tup [.int k, .ref b]) ht)
    refine ⟨z, _, _, rfl, rfl, e2 _ _ s2.zt, len_lt (by rw [List.length_append]; show xs.length + 0 ≤ 100000; omega), ?_⟩
    have s3 := s2.app (l := .say (sa + 1) st.1 st.2) hb ht
    exact since_ok (B := B) h0 h3 h4 h5 h6 h7 h8 hL hm ma mz s3 (by show xs.length + 1 ≤ 1000; omega) hh eB n0 (fun H' ys' s' => fin H' _ s')
  · rw [if_neg c]
    rw [if_neg c, if_neg c] at fin
    exact un_next (since_ok (B := B) h0 h3 h4 h5 h6 h7 h8 hL hm ma mz s1 (by show xs.length + 0 ≤ 1000; omega) hh eB n0 (fun H' ys' s' => fin H' _ s'))
end
end K24

set_option maxHeartbeats 1000000
namespace K24
open PySem PySem.Spec PyProof.Rows L2 Evl MyG
/-! ### what a step makes of a door, part by part -/
def anM (ro : Part) (d : Dr) : Bool := decide (ro = .leads) && !isL d
def agB (ro : Part) (rule : Str) : Bool := !decide (ro = .leads) || decide (rule = "free")
def cfB (ro : Part) (d : Dr) (rule : Str) (ahead st : Int × Int) : Bool := (ltP ahead st && decide (¬ rule = "worse")) || (anM ro d && decide (¬ rule = "turned"))
theorem writeM_parts (own : Int) (rule : Str) (st : Int × Int) (rl : Option Int) (ahead : Int × Int) (k : Int) (d : Dr) :
    (writeM own rule st rl ahead k d).1 = { d with part := some (partOf own st rl k d), was := (decide (partOf own st rl k d = .root) || (d.was && decide (partOf own st rl k d = .beside))), said := (if (anM (partOf own st rl k d) d || decide (¬ st = ahead)) = true then d.said + 1 else d.said), cf := (if cfB (partOf own st rl k d) d rule ahead st = true then (if (anM (partOf own st rl k d) d || decide (¬ st = ahead)) = true then d.said + 1 else d.said) else d.cf), agH := (agM (agB (partOf own st rl k d) rule) d.hn d.agH).1 } ∧
    (writeM own rule st rl ahead k d).2 = (if (anM (partOf own st rl k d) d || decide (¬ st = ahead)) = true then [.say (d.said + 1) st.1 st.2] else []) ++ (agM (agB (partOf own st rl k d) rule) d.hn d.agH).2 := by
  have t1 : turnM own st rl k d = { d with part := some (partOf own st rl k d), was := (decide (partOf own st rl k d = .root) || (d.was && decide (partOf own st rl k d = .beside))) } := by
    unfold turnM partOf
    split
    · simp
    · split
      · simp
      · simp
  generalize partOf own st rl k d = ro at t1 ⊢
  unfold writeM
  rw [t1]
  dsimp only
  have l1 : isL { d with part := some ro, was := (decide (ro = .root) || (d.was && decide (ro = .beside))) } = decide (ro = .leads) := by
    unfold isL
    simp
  rw [l1]
  have an : (decide (ro = .leads) && !isL d) = anM ro d := rfl
  rw [an]
  have cf : ((anM ro d && decide (¬ rule = "turned")) || (ltP ahead st && decide (¬ rule = "worse"))) = cfB ro d rule ahead st := by
    unfold cfB
    rw [Bool.or_comm]
  rw [cf]
  generalize hS : (anM ro d || decide (¬ st = ahead)) = says
  generalize cfB ro d rule ahead st = c
  unfold wSay wCf wAg agM agB
  generalize hf : decide (rule = "free") = fr
  have hnf : decide (¬ rule = "free") = !fr := by rw [← hf]; simp
  unfold isL
  rw [hnf]
  cases says <;> cases c <;> cases fr <;> by_cases hr : ro = .leads <;> by_cases hn : d.hn = d.agH <;> simp [hr, hn]
end K24

set_option maxHeartbeats 1000000
namespace K24
open PySem PySem.Spec PyProof.Rows L2 Evl MyG
theorem lt_two (a b c d : Int) : HT.lexLt [a, b] [c, d] = ltP (a, b) (c, d) := by
  unfold HT.lexLt ltP
  by_cases h : a = c
  · subst h
    by_cases h2 : b = d
    · subst h2
      simp [HT.lexLt]
    · simp [HT.lexLt, h2]
  · simp [HT.lexLt, h]
theorem str_leads (ro : Part) : decide (V.str (partS ro) = V.str "leads") = decide (ro = .leads) := by cases ro <;> decide +kernel
theorem str_root (ro : Part) : decide (V.str (partS ro) = V.str "root") = decide (ro = .root) := by cases ro <;> decide +kernel
theorem str_beside (ro : Part) : decide (V.str (partS ro) = V.str "beside") = decide (ro = .beside) := by cases ro <;> decide +kernel
theorem str_isL (d : Dr) : decide (V.str (roleS d.part) = V.str "leads") = isL d := by
  unfold isL
  cases d.part with
  | none => decide +kernel
  | some p => cases p <;> decide +kernel
theorem str_eq (x y : Str) : decide (V.str x = V.str y) = decide (x = y) := by simp
/-- the posts of the first i doors -/
def postsTo (h : HSt) (i : Nat) : List (Int × Lt) := (runs (h.doors.take i)).flatMap fun x => (writeH h x.1 x.2).2.map fun l => (x.1, l)
theorem postsTo_none {h : HSt} {i : Nat} {k : Int} (hi : h.doors[i]? = some (k, none)) : postsTo h (i + 1) = postsTo h i := by
  unfold postsTo
  rw [runs_take hi]
  simp
theorem postsTo_some {h : HSt} {i : Nat} {k : Int} {d : Dr} (hi : h.doors[i]? = some (k, some d)) : postsTo h (i + 1) = postsTo h i ++ (writeH h k d).2.map fun l => (k, l) := by
  unfold postsTo
  rw [runs_take hi]
  simp
theorem postsTo_all (h : HSt) : postsTo h h.doors.length = stepP h := by
  unfold postsTo stepP
  rw [List.take_length]
structure LI (h : HSt) (B HL : Hp) (ws : List V) (z : Addr) (i : Nat) (H' : Hp) : Prop where
  fr : ∀ x o, x ≠ z → (∀ j : Nat, ws[j]? ≠ some (.ref x)) → HL x = some o → H' x = some o
  bk : ∀ x, H' x = none → HL x = none
  zt : ∃ xs, H' z = some (.lst xs) ∧ xs.length ≤ 2 * i ∧ Paired (fun v (y : Int × Lt) => ∃ t b, v = .ref t ∧ HL t = none ∧ HL b = none ∧ H' t = some (.tup [.int y.1, .ref b]) ∧ H' b = some (.tup y.2.vs)) xs (postsTo h i)
  ds : ∀ (j : Nat) (k : Int) (x : Option Dr), h.doors[j]? = some (k, x) → ∃ a hv be co, ws[j]? = some (.ref a) ∧ h.ends[j]? = some (k, be, co) ∧ H' a = some (.dK (drKV be co hv (if j < i then x.map (fun d => (writeH h k d).1) else x))) ∧ HrdAt B hv x ∧ ∀ d, x = some d → DrOk be co d
theorem agV_B (ro : Part) (rule : Str) : agV (partS ro) rule = agB ro rule := by
  unfold agV agB
  rw [str_leads, str_eq]
theorem cfV_B (ro : Part) (d : Dr) (rule : Str) (ahead st : Int × Int) : cfV (ltP ahead st) (anM ro d) rule = cfB ro d rule ahead st := by
  unfold cfV cfB
  rw [str_eq, str_eq]
  simp
theorem DS.tup {a z : Addr} {H0 H : Hp} {kv : List (Key × V)} {xs ys : List V} {k : Int} {ls : List Lt} (s : DS a z H0 H kv xs ys k ls) {t : Addr} {zs : List V} (h : H0 t = some (.tup zs)) : H t = some (.tup zs) := by
  obtain ⟨_, a0⟩ := s.a0
  obtain ⟨_, z0⟩ := s.z0
  exact s.fr _ _ (fun q => by rw [q, a0] at h; cases h) (fun q => by rw [q, z0] at h; cases h) h
theorem agM0 (ag : Bool) : (agM ag 0 0).1 = 0 := by
  unfold agM
  cases ag <;> simp
theorem write_keep (h : HSt) (k : Int) (d : Dr) : (writeH h k d).1.bey = d.bey ∧ (writeH h k d).1.cost = d.cost ∧ (writeH h k d).1.hs = d.hs ∧ (writeH h k d).1.hn = d.hn ∧ (d.hn = 0 ∧ d.agH = 0 → (writeH h k d).1.agH = 0) := by
  obtain ⟨w1, _⟩ := writeM_parts h.own h.rule ((newSt h).1, (newSt h).2.1) (linkOf (newSt h)) h.st k d
  rw [show (writeH h k d).1 = _ from w1]
  refine ⟨rfl, rfl, rfl, rfl, fun e => ?_⟩
  dsimp only
  rw [e.1, e.2]
  exact agM0 _
theorem hrd_write {B G : Hp} {hv : V} {d d' : Dr} (h : HrdAt B hv (some d)) (e1 : d'.hs = d.hs) (e2 : d'.hn = d.hn) (f : ∀ t zs, B t = some (.tup zs) → G t = some (.tup zs)) : HrdAt G hv (some d') := by
  unfold HrdAt
  dsimp only
  rw [e1]
  cases hs : d.hs with
  | none => exact hrd0 h hs
  | some p =>
    obtain ⟨t, e, ht⟩ := hrd1 h hs
    refine ⟨t, e, ?_⟩
    have := f _ _ ht
    unfold hrdL at this ⊢
    rw [e2]
    exact this
/-- all that is new is known, beside what was -/
def know (B H H' : Hp) : Hp := fun x => match B x with
  | some o => some o
  | none => if H x = none then H' x else none
theorem know_old {B H H' : Hp} : Ex B (know B H H') := fun x o h => by unfold know; rw [h]
theorem know_new {B H H' : Hp} (e : Ex B H) {x : Addr} (h : H x = none) : know B H H' x = H' x := by
  unfold know
  rw [fresh_back e h]
  dsimp only
  rw [if_pos h]
theorem LI.ext {h : HSt} {B HL H' H'' : Hp} {ws : List V} {z : Addr} {i : Nat} (L : LI h B HL ws z i H') (e : Ex H' H'') : LI h B HL ws z i H'' := by
  obtain ⟨xs, h1, h2, h3⟩ := L.zt
  exact ⟨fun x o a b c => e _ _ (L.fr x o a b c), fun x hx => L.bk x (fresh_back e hx), ⟨xs, e _ _ h1, h2, Paired.mapP h3 fun v y ⟨t, b, a1, a2, a3, a4, a5⟩ => ⟨t, b, a1, a2, a3, e _ _ a4, e _ _ a5⟩⟩, fun j k x hj => by
    obtain ⟨a, hv, be, co, q1, q2, q3, q4⟩ := L.ds j k x hj
    exact ⟨a, hv, be, co, q1, q2, e _ _ q3, q4⟩⟩
theorem LI.skip {h : HSt} {B HL H' : Hp} {ws : List V} {z : Addr} {i : Nat} {k : Int} (L : LI h B HL ws z i H') (hi : h.doors[i]? = some (k, none)) : LI h B HL ws z (i + 1) H' := by
  obtain ⟨xs, h1, h2, h3⟩ := L.zt
  refine ⟨L.fr, L.bk, ⟨xs, h1, by omega, by rw [postsTo_none hi]; exact h3⟩, fun j k' x hj => ?_⟩
  obtain ⟨a, hv, be, co, q1, q2, q3, q4⟩ := L.ds j k' x hj
  refine ⟨a, hv, be, co, q1, q2, ?_, q4⟩
  by_cases c : j = i
  · subst c
    rw [hi] at hj
    obtain ⟨rfl, rfl⟩ := Prod.mk.inj (Option.some.inj hj)
    rw [if_neg (Nat.lt_irrefl _)] at q3
    rw [if_pos (Nat.lt_succ_self _)]
    exact q3
  · by_cases c2 : j < i
    · rw [if_pos c2] at q3
      rw [if_pos (by omega)]
      exact q3
    · rw [if_neg c2] at q3
      rw [if_neg (by omega)]
      exact q3
theorem LI.step {h : HSt} {B HL H5 H' : Hp} {ws : List V} {z a : Addr} {i : Nat} {k : Int} {d : Dr} {hv : V} {be co : Int} {xs ys : List V} (L : LI h B HL ws z i H5) (hi : h.doors[i]? = some (k, some d)) (hwa : ws[i]? = some (.ref a)) (hen : h.ends[i]? = some (k, be, co)) (hh : HrdAt B hv (some d)) (hok : ∀ d', some d = some d' → DrOk be co d') (nd : ws.Nodup)
    (hz : H5 z = some (.lst xs)) (s : DS a z H5 H' (drKV be co hv (some (writeH h k d).1)) xs ys k (writeH h k d).2) : LI h B HL ws z (i + 1) H' := by
  obtain ⟨xs0, h1, h2, h3⟩ := L.zt
  obtain rfl : xs0 = xs := by
    rw [h1] at hz
    exact HO.lst.inj (Option.some.inj hz)
  obtain ⟨kv0, ha0⟩ := s.a0
  have tup : ∀ {t : Addr} {zs : List V}, H5 t = some (.tup zs) → H' t = some (.tup zs) := fun {t zs} hh => s.fr _ _ (fun q => by rw [q, ha0] at hh; cases hh) (fun q => by rw [q, hz] at hh; cases hh) hh
  have ly : ys.length ≤ 2 := by
    rw [Paired.length s.told]
    exact writeM_len
  refine ⟨fun x o n1 n2 hx => s.fr x o (fun q => n2 i (by rw [hwa, q])) n1 (L.fr x o n1 n2 hx), fun x hx => L.bk x (s.bk x hx), ⟨xs0 ++ ys, s.zt, by rw [List.length_append]; omega, ?_⟩, fun j k' x hj => ?_⟩
  · rw [postsTo_some hi]
    refine paired_app (Paired.mapP h3 fun v y ⟨t, b, a1, a2, a3, a4, a5⟩ => ⟨t, b, a1, a2, a3, tup a4, tup a5⟩) ?_
    have tl := s.told
    clear s ly
    generalize (writeH h k d).2 = ls at tl
    induction tl with
    | nil => exact .nil
    | cons q _ ih =>
      obtain ⟨t, b, rfl, a2, a3, a4, a5⟩ := q
      exact .cons ⟨t, b, rfl, L.bk _ a2, L.bk _ a3, a4, a5⟩ ih
  · obtain ⟨a', hv', be', co', q1, q2, q3, q4⟩ := L.ds j k' x hj
    by_cases c : j = i
    · subst c
      rw [hi] at hj
      obtain ⟨rfl, rfl⟩ := Prod.mk.inj (Option.some.inj hj)
      refine ⟨a, hv, be, co, hwa, hen, ?_, hh, hok⟩
      rw [if_pos (Nat.lt_succ_self _)]
      exact s.at_
    · have na : a' ≠ a := fun q => by
        have := (List.getElem?_inj (i := j) (j := i) (List.getElem?_eq_some_iff.mp q1).1 nd).mp (by rw [q1, hwa, q])
        exact c this
      refine ⟨a', hv', be', co', q1, q2, ?_, q4⟩
      have nz : a' ≠ z := fun q => by
        rw [q, hz] at q3
        cases q3
      have q3 := s.fr _ _ na nz q3
      by_cases c2 : j < i
      · rw [if_pos c2] at q3
        rw [if_pos (by omega)]
        exact q3
      · rw [if_neg c2] at q3
        rw [if_neg (by omega)]
        exact q3
theorem MdlIn.notdoor {B M : Hp} {m dA : Addr} {h : HSt} {pl : V} {vs : List V} (md : MdlIn B M m dA h pl vs) {x : Addr} (n : ∀ a be co hv y, M a = some (.dK (drKV be co hv y)) → a ≠ x) (j : Nat) : vs[j]? ≠ some (.ref x) := fun q => by
  have hj := (List.getElem?_eq_some_iff.mp q).1
  rw [md.len] at hj
  obtain ⟨⟨k, y⟩, hy⟩ : ∃ y, h.doors[j]? = some y := ⟨_, List.getElem?_eq_getElem hj⟩
  obtain ⟨a, hv, be, co, q1, q2, q3, q4⟩ := md.each j k y hy
  rw [q1] at q
  exact n _ _ _ _ _ q3 (V.ref.inj (Option.some.inj q))
theorem hrd_map {B H : Hp} {hv : V} {x : Option Dr} (h : HrdAt B hv x) (f : ∀ t zs, B t = some (.tup zs) → H t = some (.tup zs)) : HrdAt H hv x := by
  cases x with
  | none => exact h
  | some d =>
    cases hs : d.hs with
    | none =>
      have := hrd0 h hs
      unfold HrdAt
      dsimp only
      rw [hs]
      exact this
    | some p =>
      obtain ⟨t, e, ht⟩ := hrd1 h hs
      unfold HrdAt
      dsimp only
      rw [hs]
      exact ⟨t, e, f _ _ ht⟩
def ToldAt (G : Hp) : List V → List (Int × Lt) → Prop := Paired fun (v : V) (y : Int × Lt) => ∃ t b, v = .ref t ∧ G t = some (.tup [.int y.1, .ref b]) ∧ G b = some (.tup y.2.vs)
def PlOk (B : Hp) (pl : V) (h : HSt) : Prop := (∃ pt, pl = .ref pt ∧ B pt = some (.tup (pairD h.st))) ∨ (pl = .non ∧ h.st = (h.own, 0) ∧ ∀ k d, (k, some d) ∈ h.doors → d = newDr d.bey d.cost)
structure StepM (m dA : Addr) (B M H : Hp) (h : HSt) (ws : List V) (G M' H' : Hp) (pt z : Addr) (xs : List V) : Prop where
  chg : Chg M M' H H'
  exB : Ex B G
  exH : Ex G H'
  dj : Dj G M'
  new : ∀ x, G x ≠ none → B x ≠ none ∨ H x = none
  z0 : H z = none
  zG : G z = some (.lst xs)
  mdl : MdlIn G M' m dA (stepH h) (.ref pt) ws
  pt : G pt = some (.tup (pairD (stepH h).st))
  told : ToldAt G xs (stepP h)
def sp_stepped : Sp := fun vs H Q _ => ∃ (m dA : Addr) (B M : Hp) (h : HSt) (pl : V) (ws : List V), vs = [.ref m] ∧ Ex B H ∧ Ex M H ∧ Dj B M ∧ MdlIn B M m dA h pl ws ∧ PlOk B pl h ∧ h.doors.length ≤ 20 ∧
  ∀ G M' H' pt z xs, StepM m dA B M H h ws G M' H' pt z xs → Q (.ref z) H'
section
variable {P : Program} {w : World} {K : PySem.W.Frag} {mg : Str → Option Value} {base : Heap}
theorem ok_stepped (T : Tx K mg) : FnOk P w K mg base CX0 2 T.a_l_stepped T.d_l_stepped ["_law_model"] sp_stepped := by
  have G_l_reckon := ok_reckon (P := P) (w := w) (base := base) T
  have G_l_role := ok_role (P := P) (w := w) (base := base) T
  refine T.F_l_stepped.ok sc_l_stepped (fun vs H Q E h => ?_) (fun cdv A outer s H vs Q E hr h => ?_)
  · obtain ⟨_, _, _, _, _, _, _, rfl, _⟩ := h
    rfl
  · obtain ⟨m, dA, B, M, h, pl, ws, rfl, eB, eM, dj, md, hpl, few, q⟩ := h
    refine ⟨_, (pss_cons (ps_set (i := 1) sc_l_stepped.nd rfl (Or.inl rfl) (pe_dget (Nat.lt_of_le_of_lt (Nat.add_le_add_left (by decide) _) hr.units) (pv 0) pe_str (fun _ _ => rfl)))
  (pss_cons (ps_expr (pe_call G_l_reckon (hr.mono (by decide)) (by rfl) T.g_l_reckon T.F_l_reckon.kp T.b_l_reckon .nil pass0 (pa_cons (pv 0) pa_nil)))
  (pss_cons (ps_set (i := 2) sc_l_stepped.nd rfl (Or.inl rfl) (pe_dget (Nat.lt_of_le_of_lt (Nat.add_le_add_left (by decide) _) hr.units) (pv 0) pe_str (fun _ _ => rfl)))
  (pss_cons (ps_set (i := 3) sc_l_stepped.nd rfl (Or.inl rfl) (pe_and (pe_cmpR op_notN (pv 1) pe_non (nomark _)) (pe_one (pe_cmpR (op_ltTK (K := K) rfl (Nat.lt_of_le_of_lt (Nat.le_add_right _ _) hr.units)) (pv 1) (pv 2) (nomark _)))))
  (pss_cons (ps_set (i := 4) sc_l_stepped.nd rfl (Or.inl rfl) (pe_lst pa_nil))
  (pss_cons (ps_lock (ps_for PassesOwn.never rfl (pi_items (pe_dget (Nat.lt_of_le_of_lt (Nat.add_le_add_left (by decide) _) hr.units) (pv 0) pe_str (fun _ _ => rfl))) (pg_tup rfl (pgs_cons (pg_name (i := 5) sc_l_stepped.nd rfl (Or.inl rfl)) (pgs_cons (pg_name (i := 6) sc_l_stepped.nd rfl (Or.inl rfl)) pgs_nil)))
   (pss_one (ps_if (pt_val (pe_dget (Nat.lt_of_le_of_lt (Nat.add_le_add_left (by decide) _) hr.units) (pv 6) pe_str (fun _ _ => rfl))) (pss_cons (ps_set (i := 7) sc_l_stepped.nd rfl (Or.inl rfl) (pe_call G_l_role (hr.mono (by decide)) (by rfl) T.g_l_role T.F_l_role.kp T.b_l_role .nil pass0 (pa_cons (pv 0) (pa_cons (pv 5) pa_nil))))
  (pss_cons (ps_set (i := 8) sc_l_stepped.nd rfl (Or.inl rfl) (pe_and (pe_cmpR op_eq (pv 7) pe_str (nomark _)) (pe_one (pe_cmpR op_ne (pe_dget (Nat.lt_of_le_of_lt (Nat.add_le_add_left (by decide) _) hr.units) (pv 6) pe_str (fun _ _ => rfl)) pe_str (nomark _)))))
  (pss_cons (ps_dput (hu_of hr) (pv 6) pe_str (pv 7) rfl)
  (pss_cons (ps_dput (hu_of hr) (pv 6) pe_str (pe_or (pe_cmpR op_eq (pv 7) pe_str (nomark _)) (pe_one (pe_and (pe_dget (Nat.lt_of_le_of_lt (Nat.add_le_add_left (by decide) _) hr.units) (pv 6) pe_str (fun _ _ => rfl)) (pe_one (pe_cmpR op_eq (pv 7) pe_str (nomark _)))))) rfl)
  (pss_cons (ps_if (PW.pt (pw_or (pt_cmpR (op_neK (K := K) rfl hr.units) (pv 2) (pv 1) (nomark _)) (pw_or1 (pt_val (pv 8))))) (pss_cons (ps_dput (hu_of hr) (pv 6) pe_str (pe_op op_add (pe_dget (Nat.lt_of_le_of_lt (Nat.add_le_add_left (by decide) _) hr.units) (pv 6) pe_str (fun _ _ => rfl)) pe_int) rfl)
  (pss_one (ps_expr (pe_bm PySem.F.plainAttrs_list PySem.F.slot_list_append PySem.F.type_list_append mt_append (pv 4) (pa_cons (pe_tup (pa_cons (pv 5) (pa_cons (pe_tup (pa_cons pe_str (pa_cons (pe_dget (Nat.lt_of_le_of_lt (Nat.add_le_add_left (by decide) _) hr.units) (pv 6) pe_str (fun _ _ => rfl)) (pa_cons (pe_ix (ix_tupK (K := K) rfl) (pv 2) pe_int (fun _ _ => rfl)) (pa_cons (pe_ix (ix_tupK (K := K) rfl) (pv 2) pe_int (fun _ _ => rfl)) pa_nil))))) pa_nil))) pa_nil))))) pss_nil)
  (pss_cons (ps_if (PW.pt (pw_or (PW.pt (pw_and (pt_val (pv 3)) (pw_and1 (pt_cmpR op_ne (pe_dget (Nat.lt_of_le_of_lt (Nat.add_le_add_left (by decide) _) hr.units) (pv 0) pe_str (fun _ _ => rfl)) pe_str (nomark _))))) (pw_or1 (PW.pt (pw_and (pt_val (pv 8)) (pw_and1 (pt_cmpR op_ne (pe_dget (Nat.lt_of_le_of_lt (Nat.add_le_add_left (by decide) _) hr.units) (pv 0) pe_str (fun _ _ => rfl)) pe_str (nomark _)))))))) (pss_one (ps_dput (hu_of hr) (pv 6) pe_str (pe_dget (Nat.lt_of_le_of_lt (Nat.add_le_add_left (by decide) _) hr.units) (pv 6) pe_str (fun _ _ => rfl)) rfl)) pss_nil)
  (pss_cons (ps_set (i := 9) sc_l_stepped.nd rfl (Or.inl rfl) (pe_or (pe_cmpR op_ne (pv 7) pe_str (nomark _)) (pe_one (pe_cmpR op_eq (pe_dget (Nat.lt_of_le_of_lt (Nat.add_le_add_left (by decide) _) hr.units) (pv 0) pe_str (fun _ _ => rfl)) pe_str (nomark _)))))
  (pss_one (ps_if (pt_not (pt_val (pv 9))) (pss_one (ps_dput (hu_of hr) (pv 6) pe_str pe_int rfl)) (pss_one (ps_if (PW.pt (pw_and (pt_cmpR op_notN (pe_dget (Nat.lt_of_le_of_lt (Nat.add_le_add_left (by decide) _) hr.units) (pv 6) pe_str (fun _ _ => rfl)) pe_non (nomark _)) (pw_and1 (pt_cmpR op_ne (pe_dget (Nat.lt_of_le_of_lt (Nat.add_le_add_left (by decide) _) hr.units) (pv 6) pe_str (fun _ _ => rfl)) (pe_ix (ix_tupK (K := K) rfl) (pe_dget (Nat.lt_of_le_of_lt (Nat.add_le_add_left (by decide) _) hr.units) (pv 6) pe_str (fun _ _ => rfl)) pe_int (fun _ _ => rfl)) (nomark _))))) (pss_cons (ps_dput (hu_of hr) (pv 6) pe_str (pe_ix (ix_tupK (K := K) rfl) (pe_dget (Nat.lt_of_le_of_lt (Nat.add_le_add_left (by decide) _) hr.units) (pv 6) pe_str (fun _ _ => rfl)) pe_int (fun _ _ => rfl)) rfl)
  (pss_one (ps_expr (pe_bm PySem.F.plainAttrs_list PySem.F.slot_list_append PySem.F.type_list_append mt_append (pv 4) (pa_cons (pe_tup (pa_cons (pv 5) (pa_cons (pe_tup (pa_cons pe_str (pa_cons (pe_dget (Nat.lt_of_le_of_lt (Nat.add_le_add_left (by decide) _) hr.units) (pv 6) pe_str (fun _ _ => rfl)) pa_nil))) pa_nil))) pa_nil))))) pss_nil))))))))))) pss_nil))))
  (pss_one (ps_ret (pv 4))))))))), ?_⟩
    have hm := eM _ _ md.self
    refine ⟨_, rfl, m, _, rfl, gS mv_place (.inl hm), ?_⟩
    dsimp only
    show tSeq _ _ _ _ _
    refine ⟨_, rfl, m, dA, B, M, h, pl, ws, rfl, eB, eM, dj, md, few, fun pt H1 hpt0 put hpt => ?_⟩
    have ptm : pt ≠ m := fun q => by rw [q, hm] at hpt0; cases hpt0
    dsimp only
    show tSeq _ _ _ _ _
    refine ⟨_, rfl, m, _, rfl, gS mv_place (.inl put.at_), ?_⟩
    dsimp only
    show tSeq _ _ _ _ _
    have bk1 : ∀ x, H1 x = none → H x = none := fun x hx => by
      by_cases q : x = m
      · rw [q, put.at_] at hx
        cases hx
      · cases e : H x with
        | none => rfl
        | some o =>
          rw [put.rest x o q e] at hx
          cases hx
    have tup1 : ∀ {t : Addr} {zs : List V}, H t = some (.tup zs) → H1 t = some (.tup zs) := fun {t zs} hh => put.rest t _ (fun q => by rw [q, hm] at hh; cases hh) hh
    -- elder and place beside each other
    obtain ⟨nv, evw, evn, hnv⟩ : ∃ nv : Bool, Ev (tAndV (tOp (fun x y H Q => y = V.non ∧ Q (V.bl !decide (x = V.non)) H) (tVar 1) (tC V.non)) (tOp (rLtT K) (tVar 1) (tVar 2))) [some (.ref m), some pl, some (.ref pt), none, none, none, none, none, none, none] H1 (.bl (ltP h.st ((newSt h).1, (newSt h).2.1))) ∧
        (∀ (σ : L2.St) (H' : Hp), σ[1]? = some (some pl) → σ[2]? = some (some (.ref pt)) → (∀ t zs, H1 t = some (.tup zs) → H' t = some (.tup zs)) → EvT (tTest (tOp (rNeD K) (tVar 2) (tVar 1))) σ H' nv) ∧
        (∀ k d, (k, some d) ∈ h.doors → (nv || anM (partOf h.own ((newSt h).1, (newSt h).2.1) (linkOf (newSt h)) k d) d) = (anM (partOf h.own ((newSt h).1, (newSt h).2.1) (linkOf (newSt h)) k d) d || decide (¬ ((newSt h).1, (newSt h).2.1) = h.st))) := by
      rcases hpl with ⟨pt0, rfl, hp0⟩ | ⟨rfl, hst, hfr⟩
      · have hp01 := tup1 (eB _ _ hp0)
        refine ⟨!decide (((newSt h).1, (newSt h).2.1) = h.st), fun H2 e2 Q q => ?_, fun σ H' s1 s2 tp => et_test (ev_op (ev_var s2) (ev_var s1) fun H3 e3 Q q => ?_), fun k d _ => ?_⟩
        · refine ⟨_, rfl, rfl, true, by simp, iteT ⟨_, rfl, _, rfl, pt0, pt, [h.st.1, h.st.2], [(newSt h).1, (newSt h).2.1], rfl, rfl, SqT.of (e2 _ _ hp01), SqT.of (e2 _ _ hpt), ?_⟩⟩
          rw [lt_two]
          exact q H2 (Ex.refl _)
        · refine ⟨.tuple [.int (newSt h).1, .int (newSt h).2.1], .tuple [.int h.st.1, .int h.st.2], dp_pair (p := ((newSt h).1, (newSt h).2.1)) (e3 _ _ (tp _ _ hpt)), dp_pair (e3 _ _ (tp _ _ hp01)), shaped_pair ((newSt h).1, (newSt h).2.1), shaped_pair _, ?_⟩
          rw [eqv_pair ((newSt h).1, (newSt h).2.1) h.st]
          exact q H3 (Ex.refl _)
        · rw [Bool.or_comm, show decide (¬ ((newSt h).1, (newSt h).2.1) = h.st) = !decide (((newSt h).1, (newSt h).2.1) = h.st) by simp]
      · have rows0 : (runs h.doors).filterMap rowOf = [] := by
          rw [List.filterMap_eq_nil_iff]
          rintro ⟨k, d⟩ hkd
          have := hfr k d (runs_mem.mp hkd)
          unfold rowOf
          dsimp only
          rw [this]
          rfl
        have n0 : newSt h = (h.own, 0, -1, -1) := by
          unfold newSt
          rw [rows0]
          rfl
        have lt0 : ltP h.st ((newSt h).1, (newSt h).2.1) = false := by
          rw [n0, hst]
          unfold ltP
          simp
        refine ⟨true, fun H2 e2 Q q => ?_, fun σ H' s1 s2 tp => et_test (ev_op (ev_var s2) (ev_var s1) fun H3 e3 Q q => ?_), fun k d hk => ?_⟩
        · rw [lt0] at q
          exact ⟨_, rfl, rfl, false, by simp, iteF (q H2 (Ex.refl _))⟩
        · refine ⟨.tuple [.int (newSt h).1, .int (newSt h).2.1], .none, dp_pair (p := ((newSt h).1, (newSt h).2.1)) (e3 _ _ (tp _ _ hpt)), .non, shaped_pair ((newSt h).1, (newSt h).2.1), rfl, ?_⟩
          exact q H3 (Ex.refl _)
        · have e := hfr k d hk
          have a1 : anM (partOf h.own ((newSt h).1, (newSt h).2.1) (linkOf (newSt h)) k d) d = true := by
            rw [e, n0]
            rfl
          rw [a1]
          rfl
    refine go_V evw (fun H2 e2 => ?_)
    dsimp only
    show tSeq _ _ _ _ _
    refine ⟨Nat.zero_le _, fun z hz => ?_⟩
    have eZ := Ex.new (o := .lst []) hz
    have zH : (upd H2 z (.lst [])) z = some (.lst []) := upd_same
    have e3 := e2.trans eZ
    dsimp only
    show tSeq _ _ _ _ (upd H2 z (.lst []))
    have z2 : H2 z = none := hz
    generalize upd H2 z (.lst []) = H3 at zH e3 eZ ⊢
    have hm3 := e3 _ _ put.at_
    have dH := put.rest dA _ md.m_d.symm (eM _ _ md.doors)
    have hd3 := e3 _ _ dH
    refine ⟨dA, _, hd3, True.intro, fun od => ?_⟩
    have keep : ∀ {x : Addr} {o : HO}, H3 x = some o → x ≠ dA → (upd H3 dA (.frz od (.dK (intK (h.doors.map (·.1)) ws)))) x = some o := fun {x o} h1 h2 => by rw [upd_ne h2]; exact h1
    have backL : ∀ x, (upd H3 dA (.frz od (.dK (intK (h.doors.map (·.1)) ws)))) x = none → H3 x = none := fun x hx => by
      by_cases q : x = dA
      · rw [q, upd_same] at hx
        cases hx
      · rw [upd_ne q] at hx
        exact hx
    have hdL : (upd H3 dA (.frz od (.dK (intK (h.doors.map (·.1)) ws)))) dA = some (.frz od (.dK (intK (h.doors.map (·.1)) ws))) := upd_same
    have hmL := keep hm3 md.m_d
    have zdA : z ≠ dA := fun q => by rw [q, hd3] at zH; cases zH
    have zL := keep zH zdA
    have tupL : ∀ t zs, H1 t = some (.tup zs) → (upd H3 dA (.frz od (.dK (intK (h.doors.map (·.1)) ws)))) t = some (.tup zs) := fun t zs hh => keep (e3 _ _ hh) (fun q => by rw [q, dH] at hh; cases hh)
    have aL : ∀ {a : Addr} {be co : Int} {hv : V} {x : Option Dr}, M a = some (.dK (drKV be co hv x)) → (upd H3 dA (.frz od (.dK (intK (h.doors.map (·.1)) ws)))) a = some (.dK (drKV be co hv x)) := fun {a be co hv x} hh => keep (e3 _ _ (put.rest _ _ (md.a_m hh) (eM _ _ hh))) (md.a_d hh)
    have hnd := md.notdoor (x := dA) (fun a be co hv y hh => md.a_d hh)
    have hnm := md.notdoor (x := m) (fun a be co hv y hh => md.a_m hh)
    have mz : m ≠ z := fun q => by rw [← q, hm3] at zH; cases zH
    have L0 : LI h B (upd H3 dA (.frz od (.dK (intK (h.doors.map (·.1)) ws)))) ws z 0 (upd H3 dA (.frz od (.dK (intK (h.doors.map (·.1)) ws)))) := ⟨fun _ _ _ _ hx => hx, fun _ hx => hx, ⟨[], zL, Nat.le_refl _, .nil⟩, fun j k x hj => by
      obtain ⟨a, hv, be, co, q1, q2, q3, q4⟩ := md.each j k x hj
      exact ⟨a, hv, be, co, q1, q2, aL q3, q4⟩⟩
    have unl : ∀ H', Ex (upd H3 dA (.frz od (.dK (intK (h.doors.map (·.1)) ws)))) H' → True := fun _ _ => True.intro
    generalize hHL : upd H3 dA (.frz od (.dK (intK (h.doors.map (·.1)) ws))) = HL at backL hdL hmL zL tupL aL L0
    have lk : (intK (h.doors.map (·.1)) ws).length = h.doors.length := by rw [intK_len (by rw [List.length_map]; exact md.len), List.length_map]
    refine ⟨_, rfl, m, _, rfl, gS mv_doors (.inl hmL), dA, od, _, rfl, hdL, for_it walk_items (fun i σ H' => ∃ y5 y6 y7 y8 y9, σ = [some (.ref m), some pl, some (.ref pt), some (.bl (ltP h.st ((newSt h).1, (newSt h).2.1))), some (.ref z), y5, y6, y7, y8, y9] ∧ LI h B HL ws z i H') ⟨_, _, _, _, _, rfl, L0⟩ (fun i σ H' _ ⟨_, _, _, _, _, _, L⟩ => L.fr dA _ zdA.symm hnd hdL) ?_ ?_⟩
    · rintro i x σ Ha Ha' hi ⟨y5, y6, y7, y8, y9, rfl, L⟩ ⟨T', x1, y1, rfl, hT, rfl, hx1, hy1⟩
      rw [lk] at hi
      obtain ⟨⟨k, x⟩, hkx⟩ : ∃ y, h.doors[i]? = some y := ⟨_, List.getElem?_eq_getElem hi⟩
      obtain ⟨a, hv, be, co, hva, hen, hMa, hh, hok⟩ := L.ds i k x hkx
      rw [if_neg (Nat.lt_irrefl _)] at hMa
      have hkv : (intK (h.doors.map (·.1)) ws)[i]? = some (Sum.inl k, .ref a) := by
        unfold intK
        rw [List.getElem?_zipWith, List.getElem?_map, hkx, hva]
        rfl
      dsimp only at hx1 hy1
      rw [hkv] at hx1 hy1
      obtain rfl : V.int k = x1 := Option.some.inj hx1
      obtain rfl : V.ref a = y1 := Option.some.inj hy1
      have eT := Ex.new (o := .tup [.int k, .ref a]) hT
      have ha := eT _ _ hMa
      have L1 := L.ext eT
      refine ⟨T', _, rfl, SqT.of upd_same, rfl, _, _, rfl, _, _, rfl, rfl, ?_⟩
      dsimp only
      cases x with
      | none => exact ⟨_, rfl, a, _, rfl, gS dv_runs (.inl ha), _, rfl, iteF (un_next ⟨_, _, _, _, _, rfl, L1.skip hkx⟩)⟩
      | some d =>
        have hok1 := hok d rfl
        obtain ⟨rfl, rfl, hn0⟩ := hok1
        have tupA : ∀ t zs, H1 t = some (.tup zs) → (upd Ha T' (.tup [.int k, .ref a])) t = some (.tup zs) := fun t zs hh => L1.fr t _ (fun q => by
            have := tupL _ _ hh
            rw [q, zL] at this
            cases this) (md.notdoor (fun a be co hv y hq q => by
            have := tupL _ _ hh
            rw [← q, aL hq] at this
            cases this)) (tupL _ _ hh)
        have hmA := L1.fr m _ mz hnm hmL
        have hdA := L1.fr dA _ zdA.symm hnd hdL
        have hhA := hrd_map hh (fun t zs hq => tupA _ _ (tup1 (eB _ _ hq)))
        have hval : valV (intK (h.doors.map (·.1)) ws) (.inl k) = some (.ref a) := intK_at md.nd (by rw [List.getElem?_map, hkx]; rfl) hva
        refine ⟨_, rfl, a, _, rfl, gS dv_runs (.inl ha), _, rfl, iteT ?_⟩
        show tSeq _ _ _ _ _
        refine ⟨_, rfl, _, rfl, m, dA, a, pt, { h with st := ((newSt h).1, (newSt h).2.1), rl := linkOf (newSt h) }, k, d, hv, d.bey, d.cost, _, rfl, hmA, tupA _ _ hpt, .inr ⟨od, hdA⟩, hval, ha, ⟨rfl, rfl, hn0⟩, hhA, fun H5 e5 => ?_⟩
        dsimp only
        show tSeq _ _ _ _ _
        have hnk := hnv k d (List.mem_of_getElem? hkx)
        obtain ⟨w1, w2⟩ := writeM_parts h.own h.rule ((newSt h).1, (newSt h).2.1) (linkOf (newSt h)) h.st k d
        generalize hro : partOf h.own ((newSt h).1, (newSt h).2.1) (linkOf (newSt h)) k d = ro at hnk w1 w2
        have L5 := L1.ext e5
        obtain ⟨xs, hz5, lx, _⟩ := L5.zt
        have ha5 := e5 _ _ ha
        have az : a ≠ z := fun q => by rw [q, hz5] at ha5; cases ha5
        have ma : m ≠ a := fun q => hnm i (by rw [hva, q])
        have s5 : DS a z H5 H5 (drF true hv d.said d.cf d.agT d.agH (roleS d.part) d.was d.bey d.cost) xs [] k [] := ⟨az, ⟨_, ha5⟩, ⟨_, hz5⟩, fun _ _ _ _ hq => hq, fun _ hq => hq, ha5, by rw [List.append_nil]; exact hz5, .nil⟩
        refine go_V (ev_is (ev_andV (ev_op (ev_var rfl) ev_c (rv_eq rfl)) (fun _ => ev_op (ev_gS rfl s5.at_ dv_role) ev_c (rv_ne rfl))) (show V.bl (decide (V.str (partS ro) = V.str "leads") && !decide (V.str (roleS d.part) = V.str "leads")) = V.bl (anM ro d) by rw [str_leads, str_isL]; rfl)) (fun H6 e6 => ?_)
        have s6 := s5.ext e6
        dsimp only
        show tSeq _ _ _ _ _
        refine ⟨_, rfl, _, rfl, a, _, rfl, pS dp_role s6.at_ drF_len, ?_⟩
        have s7 := s6.put (kv' := drF true hv d.said d.cf d.agT d.agH (partS ro) d.was d.bey d.cost)
        generalize upd H6 a (.dK (drF true hv d.said d.cf d.agT d.agH (partS ro) d.was d.bey d.cost)) = H7 at s7 ⊢
        dsimp only
        show tSeq _ _ _ _ _
        refine go_V (ev_is (ev_orV (ev_op (ev_var rfl) ev_c (rv_eq rfl)) (fun _ => ev_andV (ev_gS rfl s7.at_ dv_was) (fun _ => ev_op (ev_var rfl) ev_c (rv_eq rfl)))) (show V.bl (decide (V.str (partS ro) = V.str "root") || (d.was && decide (V.str (partS ro) = V.str "beside"))) = V.bl (decide (ro = .root) || (d.was && decide (ro = .beside))) by rw [str_root, str_beside])) (fun H8 e8 => ?_)
        have s8 := s7.ext e8
        refine ⟨_, rfl, a, _, rfl, pS dp_was s8.at_ drF_len, ?_⟩
        have s9 := s8.put (kv' := drF true hv d.said d.cf d.agT d.agH (partS ro) (decide (ro = .root) || (d.was && decide (ro = .beside))) d.bey d.cost)
        generalize upd H8 a (.dK (drF true hv d.said d.cf d.agT d.agH (partS ro) (decide (ro = .root) || (d.was && decide (ro = .beside))) d.bey d.cost)) = H9 at s9 ⊢
        dsimp only
        show tSay K _ _ _
        have tup5 : ∀ t zs, H1 t = some (.tup zs) → H5 t = some (.tup zs) := fun t zs hq => e5 _ _ (tupA _ _ hq)
        refine say_ok (B := B) (m := m) (dA := dA) (pt := pt) (an := anM ro d) (wv := ltP h.st ((newSt h).1, (newSt h).2.1)) (nv := nv) (ro := partS ro) (st := ((newSt h).1, (newSt h).2.1)) (h2 := { h with st := ((newSt h).1, (newSt h).2.1), rl := linkOf (newSt h) }) (d := d) rfl rfl rfl rfl rfl rfl rfl rfl (by show 9 < 10; decide) (e5 _ _ hmA) ma mz (tup5 _ _ hpt) s9 (by omega) hh (fun t zs hq => tup5 _ _ (tup1 (eB _ _ hq))) (fun _ e => by rw [(hn0 e).1, (hn0 e).2]) (evn _ _ rfl rfl (fun t zs hq => s9.tup (tup5 _ _ hq))) (fun H' ys' s' => ⟨_, _, _, _, _, rfl, ?_⟩)
        refine L5.step (ys := ys') hkx hva hen hh hok md.apart hz5 ?_
        rw [hnk, agV_B, cfV_B] at s'
        rw [show (writeH h k d).1 = _ from w1, show (writeH h k d).2 = _ from w2]
        exact s'
    · rintro σ H4 ⟨y5, y6, y7, y8, y9, rfl, L⟩
      rw [lk] at L
      refine ⟨L.fr dA _ zdA.symm hnd hdL, _, rfl, ?_⟩
      dsimp only
      have Hz : H z = none := bk1 _ (fresh_back e2 z2)
      have Bz := fresh_back eB Hz
      obtain ⟨xs, hzx, lx, told⟩ := L.zt
      have hdA4 := L.fr dA _ zdA.symm hnd hdL
      have fr5 : ∀ x o, M x = none → H x = some o → (upd H4 dA (.dK (intK (h.doors.map (·.1)) ws))) x = some o := fun x o mx hx => by
        have nm : x ≠ m := fun q => by rw [q, md.self] at mx; cases mx
        have ndA : x ≠ dA := fun q => by rw [q, md.doors] at mx; cases mx
        rw [upd_ne ndA]
        refine L.fr x o (fun q => by rw [q, Hz] at hx; cases hx) (md.notdoor fun a be co hv y hh q => by rw [q, mx] at hh; cases hh) ?_
        rw [← hHL, upd_ne ndA]
        exact e3 _ _ (put.rest x o nm hx)
      have eBH : Ex B (upd H4 dA (.dK (intK (h.doors.map (·.1)) ws))) := fun x o hx => fr5 x o ((dj x).resolve_left (by rw [hx]; simp)) (eB _ _ hx)
      have tup4 : ∀ t zs, H1 t = some (.tup zs) → (upd H4 dA (.dK (intK (h.doors.map (·.1)) ws))) t = some (.tup zs) := fun t zs hh => by
        rw [upd_ne (fun q => by rw [q, dH] at hh; cases hh)]
        refine L.fr t _ (fun q => ?_) (md.notdoor (fun a be co hv y hq q => ?_)) (tupL _ _ hh)
        · have := tupL _ _ hh
          rw [q, zL] at this
          cases this
        · have := tupL _ _ hh
          rw [← q, aL hq] at this
          cases this
      have tupN : ∀ {t : Addr} {zs : List V}, HL t = none → H4 t = some (.tup zs) → know B H (upd H4 dA (.dK (intK (h.doors.map (·.1)) ws))) t = some (.tup zs) := fun {t zs} h0 h1 => by
        rw [know_new eB (bk1 _ (fresh_back e3 (backL _ h0))), upd_ne (fun q => by rw [q, hdA4] at h1; cases h1)]
        exact h1
      have m4 := L.fr m _ mz hnm hmL
      generalize hH5 : upd H4 dA (.dK (intK (h.doors.map (·.1)) ws)) = H5 at fr5 eBH tup4 tupN ⊢
      have at5 : ∀ {x : Addr} {o : HO}, x ≠ dA → H4 x = some o → H5 x = some o := fun {x o} n hx => by rw [← hH5, upd_ne n]; exact hx
      have only5 : ∀ {x : Addr} {o : HO}, M x = some o → only M H5 x = H5 x := fun {x o} hx => only_some hx
      refine q (know B H H5) (only M H5) H5 pt z xs ⟨⟨fun x o hx => ?_, fr5, fun x hx => .inl fun mx => hx (only_none mx)⟩, know_old, fun x o hx => ?_, fun x => ?_, fun x hx => ?_, Hz, ?_, ?_, ?_, ?_⟩
      · cases mx : M x with
        | none => rw [only_none mx] at hx; cases hx
        | some u => rw [only_some mx] at hx; exact hx
      · cases bx : B x with
        | some u =>
          rw [know_old _ _ bx] at hx
          rw [← hx]
          exact eBH _ _ bx
        | none =>
          unfold know at hx
          rw [bx] at hx
          dsimp only at hx
          split at hx
          · exact hx
          · cases hx
      · cases mx : M x with
        | none => exact .inr (only_none mx)
        | some u =>
          left
          unfold know
          rw [(dj x).resolve_right (by rw [mx]; simp)]
          dsimp only
          rw [if_neg (by rw [eM _ _ mx]; simp)]
      · cases bx : B x with
        | some u => exact .inl (by simp)
        | none =>
          right
          unfold know at hx
          rw [bx] at hx
          dsimp only at hx
          split at hx
          · next c => exact c
          · exact absurd rfl hx
      · rw [know_new eB Hz]
        exact at5 zdA hzx
      · refine ⟨?_, ?_, ?_, fun i k x hi => ?_, md.apart, by rw [stepH_fst]; exact md.nd, by rw [stepH_fst]; exact md.nn⟩
        · rw [only5 md.self]
          exact at5 md.m_d m4
        · rw [only5 md.doors, stepH_fst, ← hH5]
          exact upd_same
        · rw [stepH_len]
          exact md.len
        · have hi : (h.doors.map fun x => (x.1, x.2.map fun d => (writeH h x.1 d).1))[i]? = some (k, x) := hi
          rw [List.getElem?_map] at hi
          obtain ⟨⟨k', y⟩, hy⟩ : ∃ y, h.doors[i]? = some y := by
            cases e : h.doors[i]? with
            | none => rw [e] at hi; cases hi
            | some y => exact ⟨y, rfl⟩
          rw [hy] at hi
          obtain ⟨rfl, rfl⟩ := Prod.mk.inj (Option.some.inj hi)
          obtain ⟨a, hv, be, co, q1, q2, q3, q4, q5⟩ := L.ds i k' y hy
          obtain ⟨a0, hv0, be0, co0, r1, r2, r3, _⟩ := md.each i k' y hy
          rw [q1] at r1
          obtain rfl : a = a0 := V.ref.inj (Option.some.inj r1)
          rw [if_pos (List.getElem?_eq_some_iff.mp hy).1] at q3
          refine ⟨a, hv, be, co, q1, q2, ?_, ?_, fun d' e => ?_⟩
          · rw [only5 r3]
            exact at5 (md.a_d r3) q3
          · cases y with
            | none => exact True.intro
            | some d =>
              obtain ⟨_, _, w3, w4, _⟩ := write_keep h k' d
              exact hrd_write q4 w3 w4 (fun t zs hq => know_old _ _ hq)
          · cases y with
            | none => cases e
            | some d =>
              obtain ⟨w1, w2, w3, w4, w5⟩ := write_keep h k' d
              obtain rfl : (writeH h k' d).1 = d' := Option.some.inj e
              obtain ⟨b1, b2, b3⟩ := q5 d rfl
              exact ⟨w1.trans b1, w2.trans b2, fun z => by
                have z0 := b3 (w3.symm.trans z)
                exact ⟨w4.trans z0.1, w5 z0⟩⟩
      · rw [know_new eB hpt0]
        exact tup4 _ _ hpt
      · rw [postsTo_all] at told
        exact Paired.mapP told fun v y ⟨t, b, a1, a2, a3, a4, a5⟩ => ⟨t, b, a1, tupN a2 a4, tupN a3 a5⟩
end
end K24

set_option maxHeartbeats 1000000
namespace K24
open PySem PySem.Spec PyProof.Rows L2 Evl MyG
/-! ### a letter taken, a door cut or mended, in the model -/
theorem StepM.pre {m dA : Addr} {B B1 M M1 H H1 : Hp} {h : HSt} {ws : List V} {G M' H' : Hp} {pt z : Addr} {xs : List V} (ch : Chg M M1 H H1) (eB : Ex B B1) (nw : ∀ x, B1 x ≠ none → B x ≠ none ∨ H x = none) (live : ∀ x, H1 x = none → H x = none) (k : StepM m dA B1 M1 H1 h ws G M' H' pt z xs) : StepM m dA B M H h ws G M' H' pt z xs :=
  ⟨ch.trans k.chg, eB.trans k.exB, k.exH, k.dj, fun x hx => (k.new x hx).elim (nw x) (fun q => .inr (live x q)), live z k.z0, k.zG, k.mdl, k.pt, k.told⟩
theorem MdlIn.ext {B B' M : Hp} {m dA : Addr} {h : HSt} {pl : V} {ws : List V} (md : MdlIn B M m dA h pl ws) (e : Ex B B') : MdlIn B' M m dA h pl ws :=
  ⟨md.self, md.doors, md.len, fun i k x hi => by
    obtain ⟨a, hv, be, co, q1, q2, q3, q4, q5⟩ := md.each i k x hi
    exact ⟨a, hv, be, co, q1, q2, q3, hrd_map q4 (fun t zs hq => e _ _ hq), q5⟩, md.apart, md.nd, md.nn⟩
theorem MdlIn.putDoor {B B' M : Hp} {m dA a : Addr} {h : HSt} {pl : V} {ws : List V} {i : Nat} {k : Int} {x x' : Option Dr} {hv : V} {be co : Int} (md : MdlIn B M m dA h pl ws) (eB : Ex B B') (hi : h.doors[i]? = some (k, x)) (hwa : ws[i]? = some (.ref a)) (hen : h.ends[i]? = some (k, be, co)) (hh : HrdAt B' hv x') (hok : ∀ d, x' = some d → DrOk be co d) :
    MdlIn B' (upd M a (.dK (drKV be co hv x'))) m dA { h with doors := h.doors.set i (k, x') } pl ws := by
  obtain ⟨a0, hv0, be0, co0, r1, r2, r3, _⟩ := md.each i k x hi
  rw [hwa] at r1
  obtain rfl : a = a0 := V.ref.inj (Option.some.inj r1)
  have fst : (h.doors.set i (k, x')).map (·.1) = h.doors.map (·.1) := map_set_same hi rfl
  refine ⟨?_, ?_, by show ws.length = (h.doors.set i (k, x')).length; rw [List.length_set]; exact md.len, fun j k' y hj => ?_, md.apart, by show ((h.doors.set i (k, x')).map (·.1)).Nodup; rw [fst]; exact md.nd, by show ∀ l ∈ (h.doors.set i (k, x')).map (·.1), 0 ≤ l; rw [fst]; exact md.nn⟩
  · rw [upd_ne (md.a_m r3).symm]
    exact md.self
  · rw [upd_ne (md.a_d r3).symm]
    show M dA = some (.dK (intK ((h.doors.set i (k, x')).map (·.1)) ws))
    rw [fst]
    exact md.doors
  · have hj : (h.doors.set i (k, x'))[j]? = some (k', y) := hj
    by_cases c : i = j
    · subst c
      rw [List.getElem?_set_self (List.getElem?_eq_some_iff.mp hi).1] at hj
      obtain ⟨rfl, rfl⟩ := Prod.mk.inj (Option.some.inj hj)
      exact ⟨a, hv, be, co, hwa, hen, upd_same, hh, hok⟩
    · rw [List.getElem?_set_ne c] at hj
      obtain ⟨a', hv', be', co', q1, q2, q3, q4, q5⟩ := md.each j k' y hj
      have na : a' ≠ a := fun q => by
        have := (List.getElem?_inj (i := j) (j := i) (List.getElem?_eq_some_iff.mp q1).1 md.apart).mp (by rw [q1, hwa, q])
        exact c this.symm
      exact ⟨a', hv', be', co', q1, q2, by rw [upd_ne na]; exact q3, hrd_map q4 (fun t zs hq => eB _ _ hq), q5⟩
theorem PlOk.ext {B B' : Hp} {pl : V} {h : HSt} (p : PlOk B pl h) (e : Ex B B') : PlOk B' pl h := p.elim (fun ⟨pt, h1, h2⟩ => .inl ⟨pt, h1, e _ _ h2⟩) .inr
/-- a step behind a change of one door -/
theorem stepped_after {m dA a pt : Addr} {B B1 M H H1 : Hp} {h : HSt} {ws : List V} {i : Nat} {k be co : Int} {x x' : Option Dr} {hv : V} {Q : VK} (eM : Ex M H) (dj : Dj B M) (md : MdlIn B M m dA h (.ref pt) ws) (hpt : B pt = some (.tup (pairD h.st))) (few : h.doors.length ≤ 20) (hi : h.doors[i]? = some (k, x)) (hwa : ws[i]? = some (.ref a)) (hen : h.ends[i]? = some (k, be, co))
    (eB : Ex B B1) (nw : ∀ y, B1 y ≠ none → B y ≠ none ∨ H y = none) (eB1 : Ex B1 H1) (hh : HrdAt B1 hv x') (hok : ∀ d, x' = some d → DrOk be co d) (put : Put1 a (.dK (drKV be co hv x')) H H1) (live : ∀ y, H1 y = none → H y = none)
    (q : ∀ G M' H' pt' z xs, StepM m dA B M H { h with doors := h.doors.set i (k, x') } ws G M' H' pt' z xs → Q (.ref z) H') : sp_stepped [.ref m] H1 Q E0 := by
  obtain ⟨a0, hv0, be0, co0, r1, r2, r3, _⟩ := md.each i k x hi
  rw [hwa] at r1
  obtain rfl : a = a0 := V.ref.inj (Option.some.inj r1)
  have ch := put.chg eM r3
  have none1 : ∀ y, M y ≠ none → B1 y = none := fun y my => by
    cases e : B1 y with
    | none => rfl
    | some o =>
      rcases nw y (by rw [e]; simp) with c | c
      · exact absurd ((dj y).resolve_right my) c
      · cases e2 : M y with
        | none => exact absurd e2 my
        | some u => rw [eM _ _ e2] at c; cases c
  refine ⟨m, dA, B1, _, { h with doors := h.doors.set i (k, x') }, .ref pt, ws, rfl, eB1, ch.now, fun y => ?_, md.putDoor eB hi hwa hen hh hok, .inl ⟨pt, rfl, eB _ _ hpt⟩, by show (h.doors.set i (k, x')).length ≤ 20; rw [List.length_set]; exact few, fun G M' H' pt' z xs s => q G M' H' pt' z xs (s.pre ch eB nw live)⟩
  by_cases c : y = a
  · rw [c]
    exact .inl (none1 a (by rw [r3]; simp))
  · rw [upd_ne c]
    cases my : M y with
    | none => exact .inr rfl
    | some o => exact .inl (none1 y (by rw [my]; simp))
def sp_taken : Sp := fun vs H Q _ => ∃ (m dA pt tl : Addr) (B M : Hp) (h : HSt) (ws : List V) (i : Nat) (k : Int) (dr : Dr) (l : Lt), vs = [.ref m, .int k, .ref tl] ∧ Ex B H ∧ Ex M H ∧ Dj B M ∧ MdlIn B M m dA h (.ref pt) ws ∧ B pt = some (.tup (pairD h.st)) ∧ h.doors.length ≤ 20 ∧ h.doors[i]? = some (k, some dr) ∧ H tl = some (.tup l.vs) ∧
  ∀ G M' H' pt' z xs, StepM m dA B M H (takeH h i k dr l) ws G M' H' pt' z xs → Q (.ref z) H'
def freshKV : List (Key × V) := [(.inr "runs", .bl false), (.inr "heard", .non), (.inr "said", .int 0), (.inr "since", .int 1), (.inr "allowed", .int 0), (.inr "mine", .int 0), (.inr "role", .str "cut"), (.inr "was", .bl false)]
theorem merge_fresh {be co : Int} {hv : V} {x : Option Dr} : mergeK (drKV be co hv x) freshKV = drKV be co .non none := by
  cases x with
  | none => rfl
  | some d => rfl
def sp_fresh : Sp := fun vs H Q _ => vs = [] ∧ ∀ p, H p = none → Q (.ref p) (upd H p (.dK freshKV))
def sp_cutM : Sp := fun vs H Q _ => ∃ (m dA pt : Addr) (B M : Hp) (h : HSt) (ws : List V) (i : Nat) (k : Int) (x : Option Dr), vs = [.ref m, .int k] ∧ Ex B H ∧ Ex M H ∧ Dj B M ∧ MdlIn B M m dA h (.ref pt) ws ∧ B pt = some (.tup (pairD h.st)) ∧ h.doors.length ≤ 20 ∧ h.doors[i]? = some (k, x) ∧
  ∀ G M' H' pt' z xs, StepM m dA B M H (cutH h i k) ws G M' H' pt' z xs → Q (.ref z) H'
def sp_mendM : Sp := fun vs H Q _ => ∃ (m dA pt : Addr) (B M : Hp) (h : HSt) (ws : List V) (i : Nat) (k b c : Int), vs = [.ref m, .int k] ∧ Ex B H ∧ Ex M H ∧ Dj B M ∧ MdlIn B M m dA h (.ref pt) ws ∧ B pt = some (.tup (pairD h.st)) ∧ h.doors.length ≤ 20 ∧ h.doors[i]? = some (k, none) ∧ h.ends[i]? = some (k, b, c) ∧
  ∀ G M' H' pt' z xs, StepM m dA B M H (mendH h i k b c) ws G M' H' pt' z xs → Q (.ref z) H'
section
variable {P : Program} {w : World} {K : PySem.W.Frag} {mg : Str → Option Value} {base : Heap}
theorem ok_fresh (T : Tx K mg) : FnOk P w K mg base CX0 1 T.a_l_fresh T.d_l_fresh [] sp_fresh := by
  refine T.F_l_fresh.ok sc_l_fresh (fun vs H Q E h => ?_) (fun cdv A outer s H vs Q E hr h => ?_)
  · obtain ⟨rfl, _⟩ := h
    rfl
  · obtain ⟨rfl, q⟩ := h
    refine ⟨_, (pss_one (ps_ret (pe_disp (pps_cons pe_str pe_bl (pps_cons pe_str pe_non (pps_cons pe_str pe_int (pps_cons pe_str pe_int (pps_cons pe_str pe_int (pps_cons pe_str pe_int (pps_cons pe_str pe_str (pps_cons pe_str pe_bl pps_nil)))))))) (by rfl) (by rfl) (fun z => by cases z) (by decide)))), ?_⟩
    refine fun p hp => ⟨upd_same, freshKV, rfl, by decide, ?_⟩
    have := q p hp
    rw [show upd (upd H p (.dK [])) p (.dK (mergeK [] freshKV)) = upd H p (.dK freshKV) from by
      funext x
      by_cases c : x = p
      · rw [c, upd_same, upd_same]
        rfl
      · rw [upd_ne c, upd_ne c, upd_ne c]]
    exact this
theorem ok_taken (T : Tx K mg) : FnOk P w K mg base CX0 3 T.a_l_taken T.d_l_taken ["_law_model", "_law_link", "_law_told_here"] sp_taken := by
  have G_l_stepped := ok_stepped (P := P) (w := w) (base := base) T
  refine T.F_l_taken.ok sc_l_taken (fun vs H Q E h => ?_) (fun cdv A outer s H vs Q E hr h => ?_)
  · obtain ⟨_, _, _, _, _, _, _, _, _, _, _, _, rfl, _⟩ := h
    rfl
  · obtain ⟨m, dA, pt, tl, B, M, h, ws, i, k, dr, l, rfl, eB, eM, dj, md, hpt, few, hi, htl, q⟩ := h
    refine ⟨_, (pss_cons (ps_set (i := 3) sc_l_taken.nd rfl (Or.inl rfl) (pe_dget (Nat.lt_of_le_of_lt (Nat.add_le_add_left (by decide) _) hr.units) (pe_dget (Nat.lt_of_le_of_lt (Nat.add_le_add_left (by decide) _) hr.units) (pv 0) pe_str (fun _ _ => rfl)) (pv 1) (fun _ _ => rfl)))
  (pss_cons (ps_if (pt_cmpR op_eq (pe_ix (ix_tupK (K := K) rfl) (pv 2) pe_int (fun _ _ => rfl)) pe_str (nomark _)) (pss_one (ps_dput (hu_of hr) (pv 3) pe_str (pe_slice (sl_tupK (K := K) rfl) (pv 2) (po_some pe_int) po_none) rfl)) (pss_one (ps_dput (hu_of hr) (pv 3) pe_str (pe_callB (call_max2 rfl) (by rfl) T.z_max (by decide +kernel) (pa_cons (pe_dget (Nat.lt_of_le_of_lt (Nat.add_le_add_left (by decide) _) hr.units) (pv 3) pe_str (fun _ _ => rfl)) (pa_cons (pe_ix (ix_tupK (K := K) rfl) (pv 2) pe_int (fun _ _ => rfl)) pa_nil))) rfl)))
  (pss_one (ps_ret (pe_call G_l_stepped (hr.mono (by decide)) (by rfl) T.g_l_stepped T.F_l_stepped.kp T.b_l_stepped .nil pass0 (pa_cons (pv 0) pa_nil)))))), ?_⟩
    obtain ⟨a, hv, be, co, hwa, hen, hMa, hh, hok⟩ := md.each i k _ hi
    have hm := eM _ _ md.self
    have hd := eM _ _ md.doors
    have ha := eM _ _ hMa
    have hval : valV (intK (h.doors.map (·.1)) ws) (.inl k) = some (.ref a) := intK_at md.nd (by rw [List.getElem?_map, hi]; rfl) hwa
    have gd : DGet H dA (.int k) (some (.ref a)) := .inl ⟨_, .inl k, .inl hd, rfl, hval.symm⟩
    obtain ⟨rfl, rfl, hn0⟩ := hok dr rfl
    have ta : tl ≠ a := fun z => by rw [z, ha] at htl; cases htl
    refine ⟨_, rfl, m, _, rfl, gS mv_doors (.inl hm), _, rfl, dA, _, rfl, gd, ?_⟩
    dsimp only
    show tSeq _ _ _ _ _
    cases l with
    | say n r f =>
      refine ⟨_, rfl, tl, _, 0, _, rfl, rfl, SqT.of htl, atI_nat (j := 0) rfl, rfl, _, rfl, ite2 (fun _ => ?_) (fun z => absurd (by simp) z)⟩
      refine ⟨_, rfl, _, rfl, tl, _, rfl, SqT.of htl, (by show ¬ (HT.sIx 4 0 (some 1) = 0 ∧ HT.sIx 4 4 none = 4); decide), fun t ht => ?_⟩
      have eT := Ex.new (o := .tup [.int n, .int r, .int f]) ht
      refine ⟨_, rfl, a, _, rfl, pS dp_heard (eT _ _ ha) drF_len, ?_⟩
      refine ⟨_, rfl, stepped_after (a := a) (B1 := upd B t (.tup [.int n, .int r, .int f])) (x' := some (hearD dr (.say n r f))) (hv := .ref t) (be := dr.bey) (co := dr.cost) eM dj md hpt few hi hwa hen (Ex.new (fresh_back eB ht)) (fun y hy => ?_) ?_ ⟨t, rfl, upd_same⟩ (fun d e => ?_) ⟨upd_same, fun y u ny hy => ?_⟩ (fun y hy => ?_) q⟩
      · by_cases c : y = t
        · rw [c]
          exact .inr ht
        · rw [upd_ne c] at hy
          exact .inl hy
      · intro y o hy
        have ya : y ≠ a := fun c => by
          rw [c] at hy
          have Ba := (dj a).resolve_right (by rw [hMa]; simp)
          rw [upd_ne (fun z => by rw [← z, ha] at ht; cases ht)] at hy
          rw [Ba] at hy
          cases hy
        rw [upd_ne ya]
        by_cases c : y = t
        · rw [c, upd_same] at hy ⊢
          exact hy
        · rw [upd_ne c] at hy ⊢
          exact eB _ _ hy
      · obtain rfl : hearD dr (.say n r f) = d := Option.some.inj e
        exact ⟨rfl, rfl, fun z => by cases z⟩
      · rw [upd_ne ny]
        exact eT _ _ hy
      · by_cases c : y = a
        · rw [c, upd_same] at hy
          cases hy
        · rw [upd_ne c] at hy
          exact fresh_back eT hy
    | agree n =>
      refine ⟨_, rfl, tl, _, 0, _, rfl, rfl, SqT.of htl, atI_nat (j := 0) rfl, rfl, _, rfl, ite2 (fun z => absurd z (by decide +kernel)) (fun _ => ?_)⟩
      refine ⟨_, rfl, a, _, rfl, gS dv_allowed (.inl ha), _, rfl, tl, _, 1, _, rfl, rfl, SqT.of htl, atI_nat (j := 1) rfl, _, _, rfl, _, rfl, a, _, rfl, pS dp_allowed ha drF_len, ?_⟩
      refine ⟨_, rfl, stepped_after (a := a) (B1 := B) (x' := some (hearD dr (.agree n))) (hv := hv) (be := dr.bey) (co := dr.cost) eM dj md hpt few hi hwa hen (Ex.refl _) (fun y hy => .inl hy) (eB.mut ((dj a).resolve_right (by rw [hMa]; simp))) hh (fun d e => ?_) ⟨upd_same, fun y u ny hy => by rw [upd_ne ny]; exact hy⟩ (fun y hy => ?_) q⟩
      · obtain rfl : hearD dr (.agree n) = d := Option.some.inj e
        exact ⟨rfl, rfl, hn0⟩
      · by_cases c : y = a
        · rw [c, upd_same] at hy
          cases hy
        · rw [upd_ne c] at hy
          exact hy
theorem ok_cutM (T : Tx K mg) : FnOk P w K mg base CX0 3 T.a_l_cut T.d_l_cut ["_law_model", "_law_link"] sp_cutM := by
  have G_l_stepped := ok_stepped (P := P) (w := w) (base := base) T
  have G_l_fresh := ok_fresh (P := P) (w := w) (base := base) T
  refine T.F_l_cut.ok sc_l_cut (fun vs H Q E h => ?_) (fun cdv A outer s H vs Q E hr h => ?_)
  · obtain ⟨_, _, _, _, _, _, _, _, _, _, rfl, _⟩ := h
    rfl
  · obtain ⟨m, dA, pt, B, M, h, ws, i, k, x, rfl, eB, eM, dj, md, hpt, few, hi, q⟩ := h
    refine ⟨_, (pss_cons (ps_expr (pe_bm PySem.F.plainAttrs_dict PySem.F.slot_dict_update PySem.F.type_dict_update mt_updateK (pe_dget (Nat.lt_of_le_of_lt (Nat.add_le_add_left (by decide) _) hr.units) (pe_dget (Nat.lt_of_le_of_lt (Nat.add_le_add_left (by decide) _) hr.units) (pv 0) pe_str (fun _ _ => rfl)) (pv 1) (fun _ _ => rfl)) (pa_cons (pe_call0 G_l_fresh (hr.mono (by decide)) (by rfl) T.g_l_fresh T.F_l_fresh.kp T.b_l_fresh .nil pass0) pa_nil)))
  (pss_one (ps_ret (pe_call G_l_stepped (hr.mono (by decide)) (by rfl) T.g_l_stepped T.F_l_stepped.kp T.b_l_stepped .nil pass0 (pa_cons (pv 0) pa_nil))))), ?_⟩
    obtain ⟨a, hv, be, co, hwa, hen, hMa, hh, hok⟩ := md.each i k _ hi
    have hm := eM _ _ md.self
    have hd := eM _ _ md.doors
    have ha := eM _ _ hMa
    have hval : valV (intK (h.doors.map (·.1)) ws) (.inl k) = some (.ref a) := intK_at md.nd (by rw [List.getElem?_map, hi]; rfl) hwa
    have gd : DGet H dA (.int k) (some (.ref a)) := .inl ⟨_, .inl k, .inl hd, rfl, hval.symm⟩
    have Ba := (dj a).resolve_right (by rw [hMa]; simp)
    refine ⟨_, rfl, m, _, rfl, gS mv_doors (.inl hm), _, rfl, dA, _, rfl, gd, .inr (.inr (.inl ⟨rfl, .inl ⟨_, ha⟩⟩)), rfl, fun p hp => ?_⟩
    have pa : a ≠ p := fun z => by rw [← z, ha] at hp; cases hp
    have eP := Ex.new (o := .dK freshKV) hp
    have len : (drKV be co hv x).length + freshKV.length ≤ sizeLine := by
      obtain ⟨_, _, _, _, _, _, _, _, e⟩ := drKV_F be co hv x
      rw [e]
      show 10 + 8 ≤ sizeLine
      decide
    refine ⟨a, p, _, _, rfl, rfl, pa, eP _ _ ha, upd_same, len, ?_⟩
    rw [merge_fresh]
    refine ⟨_, rfl, stepped_after (a := a) (B1 := B) (x' := none) (hv := .non) (be := be) (co := co) eM dj md hpt few hi hwa hen (Ex.refl _) (fun y hy => .inl hy) ((eB.trans eP).mut Ba) True.intro (fun d e => by cases e) ⟨upd_same, fun y u ny hy => by rw [upd_ne ny]; exact eP _ _ hy⟩ (fun y hy => ?_) q⟩
    by_cases c : y = a
    · rw [c, upd_same] at hy
      cases hy
    · rw [upd_ne c] at hy
      exact fresh_back eP hy
theorem ok_mendM (T : Tx K mg) : FnOk P w K mg base CX0 3 T.a_l_mended T.d_l_mended ["_law_model", "_law_link"] sp_mendM := by
  have G_l_stepped := ok_stepped (P := P) (w := w) (base := base) T
  refine T.F_l_mended.ok sc_l_mended (fun vs H Q E h => ?_) (fun cdv A outer s H vs Q E hr h => ?_)
  · obtain ⟨_, _, _, _, _, _, _, _, _, _, _, rfl, _⟩ := h
    rfl
  · obtain ⟨m, dA, pt, B, M, h, ws, i, k, b, c, rfl, eB, eM, dj, md, hpt, few, hi, hen, q⟩ := h
    refine ⟨_, (pss_cons (ps_dput (hu_of hr) (pe_dget (Nat.lt_of_le_of_lt (Nat.add_le_add_left (by decide) _) hr.units) (pe_dget (Nat.lt_of_le_of_lt (Nat.add_le_add_left (by decide) _) hr.units) (pv 0) pe_str (fun _ _ => rfl)) (pv 1) (fun _ _ => rfl)) pe_str pe_bl rfl)
  (pss_one (ps_ret (pe_call G_l_stepped (hr.mono (by decide)) (by rfl) T.g_l_stepped T.F_l_stepped.kp T.b_l_stepped .nil pass0 (pa_cons (pv 0) pa_nil))))), ?_⟩
    obtain ⟨a, hv, be, co, hwa, hen', hMa, hh, hok⟩ := md.each i k _ hi
    rw [hen] at hen'
    obtain ⟨rfl, rfl⟩ : b = be ∧ c = co := by
      have := Option.some.inj hen'
      exact ⟨congrArg (fun x => x.2.1) this, congrArg (fun x => x.2.2) this⟩
    have hm := eM _ _ md.self
    have hd := eM _ _ md.doors
    have ha := eM _ _ hMa
    have hval : valV (intK (h.doors.map (·.1)) ws) (.inl k) = some (.ref a) := intK_at md.nd (by rw [List.getElem?_map, hi]; rfl) hwa
    have gd : DGet H dA (.int k) (some (.ref a)) := .inl ⟨_, .inl k, .inl hd, rfl, hval.symm⟩
    refine ⟨_, rfl, m, _, rfl, gS mv_doors (.inl hm), _, rfl, dA, _, rfl, gd, a, _, rfl, pS dp_runs ha drF_len, ?_⟩
    refine ⟨_, rfl, stepped_after (a := a) (B1 := B) (x' := some (newDr b c)) (hv := .non) (be := b) (co := c) eM dj md hpt few hi hwa hen (Ex.refl _) (fun y hy => .inl hy) (eB.mut ((dj a).resolve_right (by rw [hMa]; simp))) rfl (fun d e => ?_) ⟨upd_same, fun y u ny hy => by rw [upd_ne ny]; exact hy⟩ (fun y hy => ?_) q⟩
    · obtain rfl : newDr b c = d := Option.some.inj e
      exact ⟨rfl, rfl, fun _ => ⟨rfl, rfl⟩⟩
    · by_cases c : y = a
      · rw [c, upd_same] at hy
        cases hy
      · rw [upd_ne c] at hy
        exact hy
end
end K24

set_option maxHeartbeats 1000000
namespace K24
open PySem PySem.Spec PyProof.Rows L2 Evl MyG
/-! ### whether a door is open; a letter made -/
def openP (rule : Str) (d : Dr) : Part → Bool
  | .leads => decide (rule = "hasty") || decide (d.cf ≤ d.agT)
  | .root => true
  | .beside => decide (rule = "kept") && d.was
theorem openV_part {rule : Str} {d : Dr} {pa : Part} (h : d.part = some pa) : openV rule (some d) = openP rule d pa := by
  unfold openV openD
  dsimp only
  rw [h]
  cases pa <;> rfl
/-- what is told lies in tuples that are new -/
def ToldNew (H G : Hp) : List V → List (Int × Lt) → Prop := Paired fun (v : V) (y : Int × Lt) => ∃ t b, v = .ref t ∧ H t = none ∧ H b = none ∧ G t = some (.tup [.int y.1, .ref b]) ∧ G b = some (.tup y.2.vs)
def sp_openM : Sp := fun vs H Q _ => ∃ (m dA a : Addr) (h : HSt) (pl : V) (k : Int) (x : Option Dr) (hv : V) (be co : Int) (kvs : List (Key × V)), vs = [.ref m, .int k] ∧ H m = some (.dK (mdlKV h dA pl)) ∧ Rd H dA (.dK kvs) ∧ valV kvs (.inl k) = some (.ref a) ∧ H a = some (.dK (drKV be co hv x)) ∧ (∀ d, x = some d → d.part ≠ none) ∧
  ∀ H', Ex H H' → Q (.bl (openV h.rule x)) H'
def sp_letter (S A : Addr) : Sp := fun vs H Q _ => ∃ (tl : Addr) (l : Lt), vs = [.ref tl] ∧ H tl = some (.tup l.vs) ∧ ∀ p H', H p = none → Ex H H' → LtAt S A H' p l → Q (.ref p) H'
def sp_toldP (S A : Addr) : Sp := fun vs H Q _ => ∃ (z : Addr) (xs : List V) (ps : List (Int × Lt)), vs = [.ref z] ∧ H z = some (.lst xs) ∧ PostsAt S A H xs ps ∧ xs.length ≤ 1000 ∧ ∀ p ys H', H p = none → Ex H H' → H' p = some (.lst ys) → ToldNew H H' ys ps → Q (.ref p) H'
section
variable {P : Program} {w : World} {K : PySem.W.Frag} {mg : Str → Option Value} {base : Heap}
theorem ok_openM (T : Tx K mg) : FnOk P w K mg base CX0 1 T.a_l_open T.d_l_open ["_law_model", "_law_link"] sp_openM := by
  refine T.F_l_open.ok sc_l_open (fun vs H Q E h => ?_) (fun cdv A outer s H vs Q E hr h => ?_)
  · obtain ⟨_, _, _, _, _, _, _, _, _, _, _, rfl, _⟩ := h
    rfl
  · obtain ⟨m, dA, a, h, pl, k, x, hv, be, co, kvs, rfl, hm, hd, hk, ha, hp, q⟩ := h
    refine ⟨_, (pss_cons (ps_set (i := 2) sc_l_open.nd rfl (Or.inl rfl) (pe_dget (Nat.lt_of_le_of_lt (Nat.add_le_add_left (by decide) _) hr.units) (pe_dget (Nat.lt_of_le_of_lt (Nat.add_le_add_left (by decide) _) hr.units) (pv 0) pe_str (fun _ _ => rfl)) (pv 1) (fun _ _ => rfl)))
  (pss_cons (ps_if (pt_cmpR op_eq (pe_dget (Nat.lt_of_le_of_lt (Nat.add_le_add_left (by decide) _) hr.units) (pv 2) pe_str (fun _ _ => rfl)) pe_str (nomark _)) (pss_one (ps_ret (pe_or (pe_cmpR op_eq (pe_dget (Nat.lt_of_le_of_lt (Nat.add_le_add_left (by decide) _) hr.units) (pv 0) pe_str (fun _ _ => rfl)) pe_str (nomark _)) (pe_one (pe_cmpR op_ge (pe_dget (Nat.lt_of_le_of_lt (Nat.add_le_add_left (by decide) _) hr.units) (pv 2) pe_str (fun _ _ => rfl)) (pe_dget (Nat.lt_of_le_of_lt (Nat.add_le_add_left (by decide) _) hr.units) (pv 2) pe_str (fun _ _ => rfl)) (nomark _)))))) pss_nil)
  (pss_one (ps_ret (pe_or (pe_cmpR op_eq (pe_dget (Nat.lt_of_le_of_lt (Nat.add_le_add_left (by decide) _) hr.units) (pv 2) pe_str (fun _ _ => rfl)) pe_str (nomark _)) (pe_one (pe_and (pe_cmpR op_eq (pe_dget (Nat.lt_of_le_of_lt (Nat.add_le_add_left (by decide) _) hr.units) (pv 2) pe_str (fun _ _ => rfl)) pe_str (nomark _)) (pe_and (pe_cmpR op_eq (pe_dget (Nat.lt_of_le_of_lt (Nat.add_le_add_left (by decide) _) hr.units) (pv 0) pe_str (fun _ _ => rfl)) pe_str (nomark _)) (pe_one (pe_dget (Nat.lt_of_le_of_lt (Nat.add_le_add_left (by decide) _) hr.units) (pv 2) pe_str (fun _ _ => rfl))))))))))), ?_⟩
    have gd : DGet H dA (.int k) (some (.ref a)) := .inl ⟨kvs, .inl k, hd, rfl, hk.symm⟩
    refine ⟨_, rfl, m, _, rfl, gS mv_doors (.inl hm), _, rfl, dA, _, rfl, gd, ?_⟩
    dsimp only
    show tSeq _ _ _ _ _
    cases x with
    | none =>
      refine go_T (et_test (ev_op (ev_gS rfl ha dv_role) ev_c (rv_eq rfl))) (fun H1 e1 => ?_)
      rw [show decide (V.str "cut" = V.str "leads") = false by decide +kernel]
      refine iteF (un_next ?_)
      have ha1 := e1 _ _ ha
      refine go_V (v := .bl false) (ev_is (ev_orV (ev_op (ev_gS rfl ha1 dv_role) ev_c (rv_eq rfl)) (fun _ => ev_andV (ev_op (ev_gS rfl ha1 dv_role) ev_c (rv_eq rfl)) (fun _ => ev_andV (ev_op (ev_gS rfl (e1 _ _ hm) mv_rule) ev_c (rv_eq rfl)) (fun _ => ev_gS rfl ha1 dv_was)))) ?_) (fun H2 e2 => q _ (e1.trans e2))
      rw [show decide (V.str "cut" = V.str "root") = false by decide +kernel, show decide (V.str "cut" = V.str "beside") = false by decide +kernel]
      rfl
    | some d =>
      cases hpt : d.part with
      | none => exact absurd hpt (hp d rfl)
      | some pa =>
        have ha : H a = some (.dK (drF true hv d.said d.cf d.agT d.agH (partS pa) d.was be co)) := by
          rw [← show roleS d.part = partS pa by rw [hpt]; rfl]
          exact ha
        rw [openV_part hpt] at q
        refine go_T (et_test (ev_op (ev_gS rfl ha dv_role) ev_c (rv_eq rfl))) (fun H1 e1 => ?_)
        have ha1 := e1 _ _ ha
        have hm1 := e1 _ _ hm
        rw [str_leads]
        cases pa with
        | leads =>
          refine iteT ?_
          refine go_V (v := .bl (decide (h.rule = "hasty") || decide (d.cf ≤ d.agT))) (ev_is (ev_orV (ev_op (ev_gS rfl hm1 mv_rule) ev_c (rv_eq rfl)) (fun _ => ev_op (ev_gS rfl ha1 dv_allowed) (ev_gS rfl ha1 dv_since) rv_I0)) (by rw [str_eq])) (fun H2 e2 => q _ (e1.trans e2))
        | root =>
          refine iteF (un_next ?_)
          refine go_V (v := .bl true) (ev_is (ev_orV (ev_op (ev_gS rfl ha1 dv_role) ev_c (rv_eq rfl)) (fun _ => ev_andV (ev_op (ev_gS rfl ha1 dv_role) ev_c (rv_eq rfl)) (fun _ => ev_andV (ev_op (ev_gS rfl hm1 mv_rule) ev_c (rv_eq rfl)) (fun _ => ev_gS rfl ha1 dv_was)))) (by rw [str_root]; rfl)) (fun H2 e2 => q _ (e1.trans e2))
        | beside =>
          refine iteF (un_next ?_)
          refine go_V (v := .bl (decide (h.rule = "kept") && d.was)) (ev_is (ev_orV (ev_op (ev_gS rfl ha1 dv_role) ev_c (rv_eq rfl)) (fun _ => ev_andV (ev_op (ev_gS rfl ha1 dv_role) ev_c (rv_eq rfl)) (fun _ => ev_andV (ev_op (ev_gS rfl hm1 mv_rule) ev_c (rv_eq rfl)) (fun _ => ev_gS rfl ha1 dv_was)))) (by rw [str_root, str_beside, str_eq]; rfl)) (fun H2 e2 => q _ (e1.trans e2))
theorem ok_letter (T : Tx K mg) : FnOk P w K mg base CX0 3 T.a_l_letter T.d_l_letter ["_law_told_here"] (sp_letter T.c_Say T.c_Agree) := by
  have G_Say___init__ := ok_initS (P := P) (w := w) (base := base) T
  have G_Agree___init__ := ok_initA (P := P) (w := w) (base := base) T
  refine T.F_l_letter.ok sc_l_letter (fun vs H Q E h => ?_) (fun cdv A outer s H vs Q E hr h => ?_)
  · obtain ⟨_, _, rfl, _⟩ := h
    rfl
  · obtain ⟨tl, l, rfl, htl, q⟩ := h
    refine ⟨_, (pss_one (ps_ret (pe_ifExp (pt_cmpR op_eq (pe_ix (ix_tupK (K := K) rfl) (pv 0) pe_int (fun _ _ => rfl)) pe_str (nomark _)) (pe_make T.m_Say G_Say___init__ (hr.mono (by decide)) (by rfl) T.g_Say T.b_Say___init__ .nil pass0 (pa_cons (pe_ix (ix_tupK (K := K) rfl) (pv 0) pe_int (fun _ _ => rfl)) (pa_cons (pe_ix (ix_tupK (K := K) rfl) (pv 0) pe_int (fun _ _ => rfl)) (pa_cons (pe_ix (ix_tupK (K := K) rfl) (pv 0) pe_int (fun _ _ => rfl)) pa_nil)))) (pe_make T.m_Agree G_Agree___init__ (hr.mono (by decide)) (by rfl) T.g_Agree T.b_Agree___init__ .nil pass0 (pa_cons (pe_ix (ix_tupK (K := K) rfl) (pv 0) pe_int (fun _ _ => rfl)) pa_nil))))), ?_⟩
    cases l with
    | say n r f =>
      refine ⟨_, rfl, tl, _, 0, _, rfl, rfl, SqT.of htl, atI_nat (j := 0) rfl, rfl, _, rfl, ite2 (fun _ => ?_) (fun z => absurd (by simp) z)⟩
      refine ⟨_, rfl, tl, _, 1, _, rfl, rfl, SqT.of htl, atI_nat (j := 1) rfl, _, rfl, tl, _, 2, _, rfl, rfl, SqT.of htl, atI_nat (j := 2) rfl, _, rfl, tl, _, 3, _, rfl, rfl, SqT.of htl, atI_nat (j := 3) rfl, ?_⟩
      intro b dx hb hdx nb
      exact ⟨dx, b, n, r, f, rfl, upd_same, fun H' fr at_ => ⟨rfl, q b H' hb (made_ex hb hdx fr) ⟨dx, at_⟩⟩⟩
    | agree n =>
      refine ⟨_, rfl, tl, _, 0, _, rfl, rfl, SqT.of htl, atI_nat (j := 0) rfl, rfl, _, rfl, ite2 (fun z => absurd z (by decide +kernel)) (fun _ => ?_)⟩
      refine ⟨_, rfl, tl, _, 1, _, rfl, rfl, SqT.of htl, atI_nat (j := 1) rfl, ?_⟩
      intro b dx hb hdx nb
      exact ⟨dx, b, n, rfl, upd_same, fun H' fr at_ => ⟨rfl, q b H' hb (made_ex hb hdx fr) ⟨dx, at_⟩⟩⟩
theorem ok_toldP (T : Tx K mg) : FnOk P w K mg base CX0 2 T.a_l_told T.d_l_told ["_law_posts"] (sp_toldP T.c_Say T.c_Agree) := by
  have G_Say_told := ok_toldS (P := P) (w := w) (base := base) T
  have G_Agree_told := ok_toldA (P := P) (w := w) (base := base) T
  refine T.F_l_told.ok sc_l_told (fun vs H Q E h => ?_) (fun cdv A outer s H vs Q E hr h => ?_)
  · obtain ⟨_, _, _, rfl, _⟩ := h
    rfl
  · obtain ⟨z, xs, ps, rfl, hz, hps, lx, q⟩ := h
    refine ⟨_, (pss_cons (ps_if (PW.pt (pw_or (pt_not (pt_val (pe_callB (isiK (K := K) rfl) (by rfl) T.z_isinstance (by decide +kernel) (pa_cons (pv 0) (pa_cons (pe_bltn (v := .ty "list") (by rfl) T.z_list (by decide +kernel) rfl) pa_nil))))) (pw_or1 (pt_cmpR (op_neK (K := K) rfl hr.units) (pe_lc (own := [("_law_one", 1)]) (g := (gName 1)) rfl sc_l_told.nd (iListK (K := K) rfl (pv 0)) (blkOk_by (N := n_l_told) (sc := defScope s_l_told) (by decide +kernel)) (fun _ _ _ _ _ => (pg_name (i := 1) sc_l_told.nd rfl (Or.inl rfl))) (fun _ _ _ _ _ => (pts_one (PW.pt (pw_or (pt_not (pt_val (pe_callB (isiK (K := K) rfl) (by rfl) T.z_isinstance (by decide +kernel) (pa_cons (pv 1) (pa_cons (pe_bltn (v := .ty "tuple") (by rfl) T.z_tuple (by decide +kernel) rfl) pa_nil))))) (pw_or1 (pt_cmpR op_ne (pe_callB (lenK (K := K) rfl) (by rfl) T.z_len (by decide +kernel) (pa_cons (pv 1) pa_nil)) pe_int (nomark _))))))) (fun _ _ _ _ _ => (pv 1))) (pe_lst pa_nil) (nomark _))))) (pss_one (ps_ret pe_non)) pss_nil)
  (pss_one (ps_ret (pe_lc (own := [("_law_link", 2), ("_law_letter_here", 3)]) (g := (gTup K 2 (gCons (gName 2) (gCons (gName 3) gNil)))) (tt := tYes) rfl sc_l_told.nd (iListK (K := K) rfl (pv 0)) (blkOk_by (N := n_l_told) (sc := defScope s_l_told) (by decide +kernel)) (fun _ _ _ _ _ => (pg_tup rfl (pgs_cons (pg_name (i := 2) sc_l_told.nd rfl (Or.inl rfl)) (pgs_cons (pg_name (i := 3) sc_l_told.nd rfl (Or.inl rfl)) pgs_nil)))) (fun _ _ _ _ _ => pts_nil) (fun _ _ _ _ _ => (pe_tup (pa_cons (pv 2) (pa_cons (pe_either (pe_meth0 (pv 3) T.cl_Say T.me_Say_told G_Say_told (hr.mono (by decide)) T.b_Say_told .nil pass0) (pe_meth0 (pv 3) T.cl_Agree T.me_Agree_told G_Agree_told (hr.mono (by decide)) T.b_Agree_told .nil pass0)) pa_nil)))))))), ?_⟩
    show tSeq _ _ _ _ _
    refine ev_isi_list (ev_var rfl) (.lst hz) H (Ex.refl _) _ (fun H2 e2 => ⟨_, rfl, ?_⟩)
    refine iteF ?_
    have hz2 := e2 _ _ hz
    refine ⟨_, rfl, z, rfl, ⟨_, SqL.of hz2⟩, fun D hD => ?_⟩
    refine lc_it (walk_list (xs := xs)) (fun i H' => Ex H2 H' ∧ H' D = some (.lst [])) ⟨Ex.new hD, upd_same⟩ (fun i H' _ ⟨ex, _⟩ => SqL.of (ex _ _ hz2)) ?_ ?_
    · rintro i x Hc Hc' hi ⟨ex, hc⟩ ⟨rfl, hxi⟩
      obtain ⟨y, hy, t, b, rfl, ht, hb⟩ := paired_at hps hxi
      have ht2 := ex _ _ (e2 _ _ ht)
      refine ⟨rfl, ?_⟩
      refine go_T (et_or (et_not (et_B (ev_isi_tuple (ev_var rfl) (.tup ht2)))) (fun _ => et_test (ev_op (ev_lenT (ev_var rfl) ht2) ev_c (rv_ne rfl)))) (fun H3 e3 => ?_)
      refine ite2 (fun c => absurd c (by simp)) (fun _ => ⟨ex.trans e3, e3 _ _ hc⟩)
    rintro Hc ⟨ex, hc⟩
    refine ⟨Nat.zero_le _, fun D5 hD5 => ?_⟩
    have e5 := Ex.new (o := .lst []) hD5
    refine ⟨.list [], .list [], .lst (SqL.of (e5 _ _ hc)) .nil, .lst (SqL.of upd_same) .nil, rfl, rfl, _, rfl, ?_⟩
    rw [show PyData.eqv (.list []) (.list []) = true by simp [PyData.eqv, PyData.eqvAll]]
    refine iteF (un_next ?_)
    have e6 := e2.trans (ex.trans e5)
    generalize upd Hc D5 (.lst []) = H6 at e6 ⊢
    have hz6 := e6 _ _ hz
    dsimp only
    refine ⟨_, rfl, z, rfl, ⟨_, SqL.of hz6⟩, fun D3 hD3 => ?_⟩
    refine lc_it (walk_list (xs := xs)) (fun i H' => ∃ us, Ex H6 H' ∧ H' D3 = some (.lst us) ∧ us.length ≤ i ∧ ToldNew H H' us (ps.take i)) ⟨[], Ex.new hD3, upd_same, Nat.zero_le _, .nil⟩ (fun i H' _ ⟨_, ex, _⟩ => SqL.of (ex _ _ hz6)) ?_ ?_
    · rintro i x Ha Ha' hi ⟨us, ex3, hc3, lu, hus⟩ ⟨rfl, hxi⟩
      obtain ⟨y, hy, t, b, rfl, ht, hb⟩ := paired_at hps hxi
      have e7 := e6.trans ex3
      have lx2 := Paired.length hps
      refine ⟨t, _, rfl, SqT.of (e7 _ _ ht), rfl, _, _, rfl, _, _, rfl, rfl, rfl, un_yes (iteT ?_)⟩
      have done : ∀ (t1 : Addr) (H3 : Hp), Ha' t1 = none → Ex Ha' H3 → H3 t1 = some (.tup y.2.vs) → ∀ t2, H3 t2 = none → ∃ acc, (upd H3 t2 (.tup [.int y.1, .ref t1])) D3 = some (.lst acc) ∧ acc.length < sizeLine ∧ ∃ us', Ex H6 (upd (upd H3 t2 (.tup [.int y.1, .ref t1])) D3 (.lst (acc ++ [.ref t2]))) ∧ (upd (upd H3 t2 (.tup [.int y.1, .ref t1])) D3 (.lst (acc ++ [.ref t2]))) D3 = some (.lst us') ∧ us'.length ≤ i + 1 ∧ ToldNew H (upd (upd H3 t2 (.tup [.int y.1, .ref t1])) D3 (.lst (acc ++ [.ref t2]))) us' (ps.take (i + 1)) := fun t1 H3 nn1 e3 h1 t2 ht2 => by
        have e4 := e3.trans (Ex.new (o := .tup [.int y.1, .ref t1]) ht2)
        have hc4 := e4 _ _ hc3
        have keep : ∀ {o : HO} (a : Addr) (zs : List V), (upd H3 t2 (.tup [.int y.1, .ref t1])) a = some (.tup zs) → (upd (upd H3 t2 (.tup [.int y.1, .ref t1])) D3 o) a = some (.tup zs) := fun {o} a zs h => by
          rw [upd_ne (ne_of h hc4 (by intro q; cases q))]
          exact h
        refine ⟨us, hc4, len_lt (by omega), us ++ [.ref t2], (ex3.trans e4).mut hD3, upd_same, by rw [List.length_append, List.length_singleton]; omega, ?_⟩
        rw [take_snoc hy]
        exact paired_app (Paired.mapP hus fun v y ⟨t, b, a1, n1, n2, a2, a3⟩ => ⟨t, b, a1, n1, n2, keep _ _ (e4 _ _ a2), keep _ _ (e4 _ _ a3)⟩) (.cons ⟨t2, t1, rfl, fresh_back (e7.trans e3) ht2, fresh_back e7 nn1, keep _ _ upd_same, keep _ _ ((Ex.new ht2) _ _ h1)⟩ .nil)
      obtain ⟨k, l⟩ := y
      cases l with
      | say n r f =>
        obtain ⟨dxb, hb⟩ := hb
        exact ⟨_, rfl, .inl ⟨_, rfl, b, dxb, _, rfl, e7 _ _ hb, rfl, dxb, b, n, r, f, rfl, e7 _ _ hb, fun t1 H3 ht1 e3 h1 => ⟨by show 2 ≤ sizeLine; decide, fun t2 ht2 => done t1 H3 ht1 e3 h1 t2 ht2⟩⟩⟩
      | agree n =>
        obtain ⟨dxb, hb⟩ := hb
        exact ⟨_, rfl, .inr ⟨_, rfl, b, dxb, _, rfl, e7 _ _ hb, rfl, dxb, b, n, rfl, e7 _ _ hb, fun t1 H3 ht1 e3 h1 => ⟨by show 2 ≤ sizeLine; decide, fun t2 ht2 => done t1 H3 ht1 e3 h1 t2 ht2⟩⟩⟩
    rintro Hb ⟨us, ex3, hb3, lu, hus⟩
    rw [Paired.length hps, List.take_length] at hus
    exact q D3 us Hb (fresh_back e6 hD3) (e6.trans ex3) hb3 hus
end
end K24

set_option maxHeartbeats 1000000
namespace K24
open PySem PySem.Spec PyProof.Rows L2 Evl MyG
/-! ### the model made -/
theorem StepM.ext {m dA : Addr} {B M H : Hp} {h : HSt} {ws : List V} {G M' H' H'' : Hp} {pt z : Addr} {xs : List V} (k : StepM m dA B M H h ws G M' H' pt z xs) (e : Ex H' H'') : StepM m dA B M H h ws G M' H'' pt z xs :=
  ⟨⟨k.chg.now.trans e, fun a o ma ha => e _ _ (k.chg.frame a o ma ha), k.chg.fresh⟩, k.exB, k.exH.trans e, k.dj, k.new, k.z0, k.zG, k.mdl, k.pt, k.told⟩
theorem Gt.getA {B : Hp} {kvs : List (Key × V)} {gs : List (Int × Int × Int)} {evs : List V} (g : Gt B kvs gs evs) {k : Int} (m : k ∈ gs.map (·.1)) : ∃ t, B t = some (.tup (pairD (lookG gs k))) ∧ ∀ (H : Hp) (a : Addr), Rd H a (.dK kvs) → DGet H a (.int k) (some (.ref t)) := by
  obtain ⟨x, hx, rfl⟩ := List.mem_map.mp m
  obtain ⟨i, hi⟩ := List.getElem?_of_mem hx
  obtain ⟨v, hv, t, rfl, ht⟩ := paired_at0 g.ev hi
  refine ⟨t, by rw [lookG_mem g.nd hx]; exact ht, fun H a h => ?_⟩
  have := intK_at g.nd (by rw [List.getElem?_map, hi]; rfl) hv
  rw [← this, ← g.eq]
  exact .inl ⟨_, Sum.inl x.1, h, rfl, rfl⟩
def newIn (H H' : Hp) : Hp := fun x => if H x = none then H' x else none
theorem newIn_at {H H' : Hp} {x : Addr} (h : H x = none) : newIn H H' x = H' x := by unfold newIn; rw [if_pos h]
theorem newIn_chg {H H' : Hp} (e : Ex H H') : Chg emp (newIn H H') H H' := by
  refine ⟨fun a o h => ?_, fun a o _ h => e _ _ h, fun a h => ?_⟩
  · unfold newIn at h
    split at h
    · exact h
    · cases h
  · right
    unfold newIn at h
    split at h
    · next c => exact c
    · exact absurd rfl h
theorem drKV_door0 (cs : List Int) (e : Int × Int × Int) (be co : Int) (hb : be = e.2.1) (hc : co = e.2.2) : drKV be co .non (door0 cs e).2 = drF (!decide (e.1 ∈ cs)) .non 0 1 0 0 "cut" false be co := by
  unfold door0
  dsimp only
  by_cases h : e.1 ∈ cs
  · rw [if_pos (decide_eq_true h), decide_eq_true h]
    rfl
  · rw [if_neg (by simpa using h), decide_eq_false h]
    rfl
def restKV (be co : Int) (r : Bool) : List (Key × V) := [(.inr "beyond", .int be), (.inr "cost", .int co), (.inr "runs", .bl r)]
theorem merge_rest {be co : Int} {r : Bool} : mergeK freshKV (restKV be co r) = drF r .non 0 1 0 0 "cut" false be co := rfl
def sp_hallM : Sp := fun vs H Q _ => ∃ (own bd : Int) (kind : Str) (g c : Addr) (B : Hp) (gs : List (Int × Int × Int)) (cs : List Int) (evs : List V), vs = [.int own, .ref g, .ref c, .int bd, .str kind] ∧ Ex B H ∧ B g = some (.dK (intK (gs.map (·.1)) evs)) ∧ EndsV B evs gs ∧ (gs.map (·.1)).Nodup ∧ gs.length ≤ 20 ∧ (∀ k ∈ gs.map (·.1), 0 ≤ k) ∧ B c = some (.lst (cs.map V.int)) ∧
  ∀ ends m dA ws G M' H' pt z xs t, ends.Perm gs → (ends.map (·.1)).Pairwise (· ≤ ·) → StepM m dA B emp H (initH own bd kind ends cs) ws G M' H' pt z xs → H t = none → H' t = some (.tup [.ref m, .ref z]) → Q (.ref t) H'
section
variable {P : Program} {w : World} {K : PySem.W.Frag} {mg : Str → Option Value} {base : Heap}
theorem ok_hallM (T : Tx K mg) : FnOk P w K mg base CX0 3 T.a_l_hall T.d_l_hall ["_law_own", "_law_gates", "_law_off", "_law_bound", "_law_kind"] sp_hallM := by
  have G_l_stepped := ok_stepped (P := P) (w := w) (base := base) T
  have G_l_fresh := ok_fresh (P := P) (w := w) (base := base) T
  refine T.F_l_hall.ok sc_l_hall (fun vs H Q E h => ?_) (fun cdv A outer s H vs Q E hr h => ?_)
  · obtain ⟨_, _, _, _, _, _, _, _, _, rfl, _⟩ := h
    rfl
  · obtain ⟨own, bd, kind, g, c, B, gs, cs, evs, rfl, eB, hg, hev, nd, few, nn, hc, q⟩ := h
    refine ⟨_, (pss_cons (ps_set (i := 5) sc_l_hall.nd rfl (Or.inl rfl) pe_dnewK)
  (pss_cons (ps_for PassesOwn.never rfl (iListK (K := K) rfl (pe_callB (call_sortedDI rfl) (by rfl) T.z_sorted (by decide +kernel) (pa_cons (pv 1) pa_nil))) (pg_name (i := 6) sc_l_hall.nd rfl (Or.inl rfl))
   (pss_cons (ps_dput (hu_of hr) (pv 5) (pv 6) (pe_callTy call_dictD (by rfl) T.z_dict (by decide +kernel) (pa_cons (pe_call0 G_l_fresh (hr.mono (by decide)) (by rfl) T.g_l_fresh T.F_l_fresh.kp T.b_l_fresh .nil pass0) pa_nil)) rfl)
  (pss_one (ps_expr (pe_bm PySem.F.plainAttrs_dict PySem.F.slot_dict_update PySem.F.type_dict_update mt_updateK (pe_dget (Nat.lt_of_le_of_lt (Nat.add_le_add_left (by decide) _) hr.units) (pv 5) (pv 6) (fun _ _ => rfl)) (pa_cons (pe_disp (pps_cons pe_str (pe_ix (ix_tupK (K := K) rfl) (pe_dget (Nat.lt_of_le_of_lt (Nat.add_le_add_left (by decide) _) hr.units) (pv 1) (pv 6) (fun _ _ => rfl)) pe_int (fun _ _ => rfl)) (pps_cons pe_str (pe_ix (ix_tupK (K := K) rfl) (pe_dget (Nat.lt_of_le_of_lt (Nat.add_le_add_left (by decide) _) hr.units) (pv 1) (pv 6) (fun _ _ => rfl)) pe_int (fun _ _ => rfl)) (pps_cons pe_str (pe_cmpR (op_niK (K := K) rfl) (pv 6) (pv 2) (by rfl)) pps_nil))) (by rfl) (by rfl) (fun z => by cases z) (by decide)) pa_nil))))))
  (pss_cons (ps_set (i := 7) sc_l_hall.nd rfl (Or.inl rfl) (pe_disp (pps_cons pe_str (pv 0) (pps_cons pe_str (pv 5) (pps_cons pe_str (pv 3) (pps_cons pe_str (pv 4) (pps_cons pe_str pe_non (pps_cons pe_str pe_non pps_nil)))))) (by rfl) (by rfl) (fun z => by cases z) (by decide)))
  (pss_one (ps_ret (pe_tup (pa_cons (pv 7) (pa_cons (pe_call G_l_stepped (hr.mono (by decide)) (by rfl) T.g_l_stepped T.F_l_stepped.kp T.b_l_stepped .nil pass0 (pa_cons (pv 7) pa_nil)) pa_nil)))))))), ?_⟩
    have gt : Gt B (intK (gs.map (·.1)) evs) gs evs := ⟨rfl, hev, nd⟩
    have gl : evs.length = gs.length := Paired.length hev
    refine fun D hD => ?_
    have eD := Ex.new (o := .dK []) hD
    dsimp only
    show tSeq _ _ _ _ _
    refine ⟨_, rfl, g, _, gs.map (·.1), rfl, .inl (eD _ _ (eB _ _ hg)), intK_fst (by rw [List.length_map]; exact gl), by rw [List.length_map]; omega, fun ys p py sy hp => ?_⟩
    have pD : p ≠ D := fun z => by rw [z, upd_same] at hp; cases hp
    have Hp0 : H p = none := by rw [upd_ne pD] at hp; exact hp
    have ly : ys.length = gs.length := by rw [py.length_eq, List.length_map]
    have ndy : ys.Nodup := py.nodup_iff.mpr nd
    have eP := eD.trans (Ex.new (o := .lst (ys.map V.int)) hp)
    refine ⟨p, rfl, ⟨_, SqL.of upd_same⟩, for_it (walk_list (xs := ys.map V.int)) (fun i σ H' => ∃ y6, σ = [some (.int own), some (.ref g), some (.ref c), some (.int bd), some (.str kind), some (.ref D), y6, none] ∧ ∃ us : List V, Ex H H' ∧ H' p = some (.lst (ys.map V.int)) ∧ H' D = some (.dK (intK (ys.take i) us)) ∧ us.length = (ys.take i).length ∧ us.Nodup ∧ ∀ (j : Nat) (k : Int), (ys.take i)[j]? = some k → ∃ a, us[j]? = some (.ref a) ∧ H a = none ∧ a ≠ D ∧ H' a = some (.dK (drF (!decide (k ∈ cs)) .non 0 1 0 0 "cut" false (lookG gs k).1 (lookG gs k).2)))
      ⟨_, rfl, [], eP, upd_same, by rw [upd_ne pD.symm]; exact upd_same, rfl, List.nodup_nil, fun j k hj => by simp at hj⟩ (fun i σ H' _ ⟨_, _, _, _, h, _⟩ => SqL.of h) ?_ ?_⟩
    · rintro i x σ Ha Ha' hi ⟨y6, rfl, us, eA, hpA, hDA, lu, ndu, each⟩ ⟨rfl, hxi⟩
      rw [List.length_map] at hi
      obtain ⟨k, hk⟩ : ∃ k, ys[i]? = some k := ⟨_, List.getElem?_eq_getElem hi⟩
      rw [List.getElem?_map, hk] at hxi
      obtain rfl := Option.some.inj hxi
      have km := py.mem_iff.mp (List.mem_of_getElem? hk)
      obtain ⟨tg, htg, dg⟩ := gt.getA km
      show tSeq _ _ _ _ _
      refine ⟨rfl, fun p1 hp1 => ⟨p1, _, rfl, .inl upd_same, fun p2 hp2 => ?_⟩⟩
      have e1 := Ex.new (o := .dK freshKV) hp1
      have e2 := e1.trans (Ex.new (o := .dK freshKV) hp2)
      have hp20 : Ha' p2 = none := fresh_back e1 hp2
      have p2D : p2 ≠ D := fun z => by rw [z, hDA] at hp20; cases hp20
      have p2H : H p2 = none := fresh_back eA hp20
      have lk : (intK (ys.take i) us).length = (ys.take i).length := intK_len lu
      have lt := List.length_take_le i ys
      refine ⟨_, rfl, _, rfl, D, _, rfl, DPut.k (k := Sum.inl k) (e2 _ _ hDA) (len_lt (by omega)), ?_⟩
      have f2 : (upd (upd Ha' p1 (.dK freshKV)) p2 (.dK freshKV)) p2 = some (.dK freshKV) := upd_same
      generalize upd (upd Ha' p1 (.dK freshKV)) p2 (.dK freshKV) = H2 at e2 f2 ⊢
      rw [intK_new ndy hk lu]
      have fr3 : ∀ x o, x ≠ D → Ha' x = some o → (upd H2 D (.dK (intK (ys.take (i + 1)) (us ++ [.ref p2])))) x = some o := fun x o n hx => by rw [upd_ne n]; exact e2 _ _ hx
      have f3 : (upd H2 D (.dK (intK (ys.take (i + 1)) (us ++ [.ref p2])))) p2 = some (.dK freshKV) := by rw [upd_ne p2D]; exact f2
      have D3 : (upd H2 D (.dK (intK (ys.take (i + 1)) (us ++ [.ref p2])))) D = some (.dK (intK (ys.take (i + 1)) (us ++ [.ref p2]))) := upd_same
      have get : DGet (upd H2 D (.dK (intK (ys.take (i + 1)) (us ++ [.ref p2])))) D (.int k) (some (.ref p2)) := by
        refine .inl ⟨_, .inl k, .inl D3, rfl, ?_⟩
        rw [take_snoc hk]
        have ndt : (ys.take i ++ [k]).Nodup := by rw [← take_snoc hk]; exact ndy.sublist (List.take_sublist ..)
        refine (intK_at (i := (ys.take i).length) ndt ?_ ?_).symm
        · rw [List.getElem?_append_right (Nat.le_refl _), Nat.sub_self]
          rfl
        · rw [← lu, List.getElem?_append_right (Nat.le_refl _), Nat.sub_self]
          rfl
      generalize upd H2 D (.dK (intK (ys.take (i + 1)) (us ++ [.ref p2]))) = H3 at fr3 f3 D3 get ⊢
      have inB : ∀ {x : Addr} {o : HO}, B x = some o → H3 x = some o := fun {x o} hx => fr3 x o (fun z => by rw [z, fresh_back eB hD] at hx; cases hx) (eA _ _ (eB _ _ hx))
      dsimp only
      refine ⟨_, rfl, _, rfl, D, _, rfl, get, .inr (.inr (.inl ⟨rfl, .inl ⟨_, f3⟩⟩)), fun p3 hp3 => ?_⟩
      have e4 := Ex.new (o := .dK []) hp3
      refine ⟨_, rfl, _, rfl, g, _, rfl, dg _ _ (.inl (e4 _ _ (inB hg))), tg, _, 0, _, rfl, rfl, SqT.of (e4 _ _ (inB htg)), atI_nat (j := 0) rfl, _, rfl, _, rfl, g, _, rfl, dg _ _ (.inl (e4 _ _ (inB hg))), tg, _, 1, _, rfl, rfl, SqT.of (e4 _ _ (inB htg)), atI_nat (j := 1) rfl, _, rfl, _, rfl, c, _, rfl, .inl (SqL.of (e4 _ _ (inB hc))), rfl, all_flat cs, upd_same, restKV (lookG gs k).1 (lookG gs k).2 _, rfl, by show 3 ≤ 15; decide, ?_⟩
      have p23 : p2 ≠ p3 := fun z => by rw [z, hp3] at f3; cases f3
      have D3p : D ≠ p3 := fun z => by rw [z, hp3] at D3; cases D3
      have hr : (if (true : Bool) = true then !inV (.int k) (cs.map V.int) else inV (.int k) (cs.map V.int)) = !decide (k ∈ cs) := by rw [if_pos rfl, inV_ints]
      refine ⟨p2, p3, freshKV, _, rfl, rfl, p23, by rw [upd_ne p23, upd_ne p23]; exact f3, upd_same, by show 8 + 3 ≤ sizeLine; decide, ?_⟩
      rw [hr, show mergeK freshKV (mergeK [] (restKV (lookG gs k).1 (lookG gs k).2 (!decide (k ∈ cs)))) = drF (!decide (k ∈ cs)) .non 0 1 0 0 "cut" false (lookG gs k).1 (lookG gs k).2 from rfl]
      have frF : ∀ {r : HO} (x : Addr) (o : HO), x ≠ D → x ≠ p2 → Ha' x = some o → (upd (upd (upd H3 p3 (.dK [])) p3 r) p2 (.dK (drF (!decide (k ∈ cs)) .non 0 1 0 0 "cut" false (lookG gs k).1 (lookG gs k).2))) x = some o := fun {r} x o n1 n2 hx => by
        have h3 := fr3 x o n1 hx
        have n3 : x ≠ p3 := fun z => by rw [z, hp3] at h3; cases h3
        rw [upd_ne n2, upd_ne n3, upd_ne n3]
        exact h3
      refine ⟨_, rfl, us ++ [.ref p2], fun x o hx => frF x o (fun z => by rw [z, hD] at hx; cases hx) (fun z => by rw [z, p2H] at hx; cases hx) (eA _ _ hx), frF p _ pD (fun z => by rw [← z, hpA] at hp20; cases hp20) hpA, ?_, ?_, ?_, ?_⟩
      · rw [upd_ne p2D.symm, upd_ne D3p, upd_ne D3p]
        exact D3
      · rw [take_snoc hk, List.length_append, List.length_append, lu]
        rfl
      · rw [List.nodup_append]
        refine ⟨ndu, by simp, fun v hv v' hv' e => ?_⟩
        rw [List.mem_singleton] at hv'
        rw [e, hv'] at hv
        obtain ⟨j, hj⟩ := List.getElem?_of_mem hv
        have hjl := (List.getElem?_eq_some_iff.mp hj).1
        rw [lu] at hjl
        obtain ⟨a, h1, h2, h3, h4⟩ := each j _ (List.getElem?_eq_getElem hjl)
        rw [hj] at h1
        rw [← V.ref.inj (Option.some.inj h1), hp20] at h4
        cases h4
      · intro j k' hj
        rw [take_snoc hk] at hj
        by_cases c : j < (ys.take i).length
        · rw [List.getElem?_append_left c] at hj
          obtain ⟨a, h1, h2, h3, h4⟩ := each j k' hj
          exact ⟨a, by rw [List.getElem?_append_left (by omega)]; exact h1, h2, h3, frF a _ h3 (fun z => by rw [z, hp20] at h4; cases h4) h4⟩
        · have c2 : j = (ys.take i).length := by
            have := (List.getElem?_eq_some_iff.mp hj).1
            rw [List.length_append, List.length_singleton] at this
            omega
          subst c2
          rw [List.getElem?_append_right (Nat.le_refl _), Nat.sub_self] at hj
          obtain rfl : k = k' := Option.some.inj hj
          exact ⟨p2, by rw [← lu, List.getElem?_append_right (Nat.le_refl _), Nat.sub_self]; rfl, p2H, p2D, upd_same⟩
    · rintro σ Hb ⟨y6, rfl, us, eA, hpA, hDA, lu, ndu, each⟩
      rw [List.length_map, List.take_length] at hDA lu each
      dsimp only
      show tSeq _ _ _ _ _
      refine fun m hm => ?_
      have eM := Ex.new (o := .dK []) hm
      have Hm0 : H m = none := fresh_back eA hm
      have mD : D ≠ m := fun z => by rw [← z, hDA] at hm; cases hm
      refine ⟨_, rfl, _, rfl, _, rfl, _, rfl, upd_same, mdlKV (initH own bd kind (ys.map fun k => (k, lookG gs k)) cs) D .non, rfl, by show 6 ≤ 15; decide, ?_⟩
      have at_m : ∀ {r : HO}, (upd (upd Hb m (.dK [])) m r) m = some r := upd_same
      have frm : ∀ {r : HO} (x : Addr) (o : HO), Hb x = some o → (upd (upd Hb m (.dK [])) m r) x = some o := fun {r} x o hx => by
        have n : x ≠ m := fun z => by rw [z, hm] at hx; cases hx
        rw [upd_ne n, upd_ne n]
        exact hx
      rw [show mergeK [] (mdlKV (initH own bd kind (ys.map fun k => (k, lookG gs k)) cs) D .non) = mdlKV (initH own bd kind (ys.map fun k => (k, lookG gs k)) cs) D .non from rfl]
      have at_m1 := at_m (r := .dK (mdlKV (initH own bd kind (ys.map fun k => (k, lookG gs k)) cs) D .non))
      have frm1 := frm (r := .dK (mdlKV (initH own bd kind (ys.map fun k => (k, lookG gs k)) cs) D .non))
      generalize upd (upd Hb m (.dK [])) m (.dK (mdlKV (initH own bd kind (ys.map fun k => (k, lookG gs k)) cs) D .non)) = H9 at at_m1 frm1 ⊢
      have e9 : Ex H H9 := fun x o hx => frm1 x o (eA _ _ hx)
      have eF : (ys.map fun k => (k, lookG gs k)).map (·.1) = ys := by
        rw [List.map_map]
        exact List.map_id _
      have pe : (ys.map fun k => (k, lookG gs k)).Perm gs := sorted_perm nd py
      have keys : (initH own bd kind (ys.map fun k => (k, lookG gs k)) cs).doors.map (·.1) = ys := by
        show ((ys.map fun k => (k, lookG gs k)).map (door0 cs)).map (·.1) = ys
        rw [door0_fst, eF]
      have dlen : (initH own bd kind (ys.map fun k => (k, lookG gs k)) cs).doors.length = ys.length := by
        show ((ys.map fun k => (k, lookG gs k)).map (door0 cs)).length = _
        rw [List.length_map, List.length_map]
      have dat : ∀ (i : Nat) (k : Int) (x : Option Dr), (initH own bd kind (ys.map fun k => (k, lookG gs k)) cs).doors[i]? = some (k, x) → ys[i]? = some k ∧ x = (door0 cs (k, lookG gs k)).2 := fun i k x hi => by
        have hi : ((ys.map fun k => (k, lookG gs k)).map (door0 cs))[i]? = some (k, x) := hi
        rw [List.getElem?_map, List.getElem?_map] at hi
        cases e : ys[i]? with
        | none => rw [e] at hi; cases hi
        | some k' =>
          rw [e] at hi
          obtain ⟨rfl, rfl⟩ := Prod.mk.inj (Option.some.inj hi)
          exact ⟨rfl, rfl⟩
      have md : MdlIn B (newIn H H9) m D (initH own bd kind (ys.map fun k => (k, lookG gs k)) cs) .non us := by
        refine ⟨by rw [newIn_at Hm0]; exact at_m1, by rw [newIn_at hD, keys]; exact frm1 _ _ hDA, by rw [dlen]; exact lu, fun i k x hi => ?_, ndu, by rw [keys]; exact py.nodup_iff.mpr nd, by rw [keys]; exact fun k hk => nn k (py.mem_iff.mp hk)⟩
        obtain ⟨hy, rfl⟩ := dat i k x hi
        obtain ⟨a, h1, h2, h3, h4⟩ := each i k hy
        refine ⟨a, .non, (lookG gs k).1, (lookG gs k).2, h1, ?_, ?_, ?_, fun d e => ?_⟩
        · show (ys.map fun k => (k, lookG gs k))[i]? = _
          rw [List.getElem?_map, hy]
          rfl
        · rw [newIn_at h2, drKV_door0 cs (k, lookG gs k) _ _ rfl rfl]
          exact frm1 _ _ h4
        · unfold door0
          dsimp only
          split
          · exact True.intro
          · rfl
        · unfold door0 at e
          dsimp only at e
          split at e
          · cases e
          · obtain rfl := Option.some.inj e
            exact ⟨rfl, rfl, fun _ => ⟨rfl, rfl⟩⟩
      dsimp only
      refine ⟨_, rfl, _, rfl, m, D, B, newIn H H9, initH own bd kind (ys.map fun k => (k, lookG gs k)) cs, .non, us, rfl, eB.trans e9, (newIn_chg e9).now, fun x => ?_, md, .inr ⟨rfl, rfl, fun k d hk => ?_⟩, by rw [dlen]; omega, fun G M' H' pt z xs k => ⟨by show 2 ≤ sizeLine; decide, fun t ht => ?_⟩⟩
      · by_cases c : H x = none
        · exact .inl (fresh_back eB c)
        · right
          unfold newIn
          rw [if_neg c]
      · obtain ⟨i, hi⟩ := List.getElem?_of_mem hk
        obtain ⟨_, e⟩ := dat i k _ hi
        unfold door0 at e
        dsimp only at e
        split at e
        · cases e
        · obtain rfl := Option.some.inj e
          rfl
      · have k2 := k.pre (newIn_chg e9) (Ex.refl _) (fun y hy => .inl hy) (fun y hy => fresh_back e9 hy)
        have tH : H t = none := by
          cases c : H t with
          | none => rfl
          | some o =>
            have := k2.chg.frame t o rfl c
            rw [ht] at this
            cases this
        exact q _ m D us G M' _ pt z xs t pe (by rw [eF]; exact sy) (k2.ext (Ex.new ht)) tH upd_same
end
end K24

set_option maxHeartbeats 1000000
namespace K24
open PySem PySem.Spec PyProof.Rows L2 Evl MyG
/-! ### whether a hall tells what the model stands at -/
theorem tupleK {X : Cx} {K : PySem.W.Frag} (h : X.K = K) : CallR X (.type "tuple") (fun xs H Q => ∃ p ys, xs = [.ref p] ∧ ((SqL K H p ys ∧ ∀ l, H l = none → Q (.ref l) (upd H l (.tup ys))) ∨ (SqT K H p ys ∧ Q (.ref p) H))) := by
  subst h
  exact call_tuple_of
theorem eqv_own (p : Int × Int) : PyData.eqv (.tuple [.int p.1, .int p.2]) (.tuple [.int p.1, .int p.2]) = true := by simp [PyData.eqv, PyData.eqvAll]
theorem scal_oo (r : Option Int) : scal (oiV r) (oiV r) = true := by cases r <;> rfl
theorem ne_oi (r : Option Int) : (!decide (oiV r = oiV r)) = false := by simp
theorem ne_str (x : Str) : (!decide (V.str x = V.str x)) = false := by simp
theorem ne_bl (x : Bool) : (!decide (V.bl x = V.bl x)) = false := by simp
def hsD : Option (Int × Int) → PyData
  | none => .none
  | some p => .tuple [.int p.1, .int p.2]
theorem hs_dp {K : PySem.W.Frag} {B H : Hp} {v : V} {x : Option (Int × Int)} (h : HsAt B v x) (f : ∀ t zs, B t = some (.tup zs) → H t = some (.tup zs)) : Dp K H v (hsD x) := by
  cases x with
  | none =>
    obtain rfl : v = .non := h
    exact .non
  | some p =>
    obtain ⟨a, rfl, ha⟩ := h
    exact dp_pair (f _ _ ha)
theorem hs_shaped (x : Option (Int × Int)) : SeqAt.shaped (hsD x) = true := by
  cases x with
  | none => rfl
  | some p => exact shaped_pair p
theorem hs_eqv (x : Option (Int × Int)) : PyData.eqv (hsD x) (hsD x) = true := by
  cases x with
  | none => rfl
  | some p => exact eqv_own p
def sp_looks (C D : Addr) : Sp := fun vs H Q _ => ∃ (p m e d s dA pt : Addr) (B M B2 M2 : Hp) (h : HSt) (po : Option Addr) (ws us : List V), vs = [.ref p, .ref m] ∧ Ex B H ∧ Ex M H ∧ HallIn C D B M p h po e d s ws ∧ Ex B2 H ∧ Ex M2 H ∧ Dj M M2 ∧ MdlIn B2 M2 m dA h (.ref pt) us ∧ B2 pt = some (.tup (pairD h.st)) ∧ (∀ k d, (k, some d) ∈ h.doors → d.part ≠ none) ∧
  ∀ H', Ex H H' → Q (.bl true) H'
section
variable {P : Program} {w : World} {K : PySem.W.Frag} {mg : Str → Option Value} {base : Heap}
theorem ok_looks (T : Tx K mg) : FnOk P w K mg base CX0 4 T.a_l_looks T.d_l_looks ["_law_one", "_law_model"] (sp_looks T.c_Hall T.c_Door) := by
  have G_Hall_standing := ok_hstanding (P := P) (w := w) (base := base) T
  have G_Hall_root_link := ok_hrootlink (P := P) (w := w) (base := base) T
  have G_Hall_role := ok_hrole (P := P) (w := w) (base := base) T
  have G_Hall_heard := ok_hheard (P := P) (w := w) (base := base) T
  have G_Hall_is_open := ok_hisopen (P := P) (w := w) (base := base) T
  have G_l_open := ok_openM (P := P) (w := w) (base := base) T
  refine T.F_l_looks.ok sc_l_looks (fun vs H Q E h => ?_) (fun cdv A outer s0 H vs Q E hr h => ?_)
  · obtain ⟨_, _, _, _, _, _, _, _, _, _, _, _, _, _, _, rfl, _⟩ := h
    rfl
  · obtain ⟨p, m, e, d, s, dA, pt, B, M, B2, M2, h, po, ws, us, rfl, eB, eM, hall, eB2, eM2, djm, md, hpt, hpn, q⟩ := h
    refine ⟨_, (pss_cons (ps_if (PW.pt (pw_or (pt_cmpR (op_neK (K := K) rfl hr.units) (pe_meth0 (pv 0) T.cl_Hall T.me_Hall_standing G_Hall_standing (hr.mono (by decide)) T.b_Hall_standing .nil pass0) (pe_dget (Nat.lt_of_le_of_lt (Nat.add_le_add_left (by decide) _) hr.units) (pv 1) pe_str (fun _ _ => rfl)) (nomark _)) (pw_or1 (pt_cmpR op_ne (pe_meth0 (pv 0) T.cl_Hall T.me_Hall_root_link G_Hall_root_link (hr.mono (by decide)) T.b_Hall_root_link .nil pass0) (pe_dget (Nat.lt_of_le_of_lt (Nat.add_le_add_left (by decide) _) hr.units) (pv 1) pe_str (fun _ _ => rfl)) (nomark _))))) (pss_one (ps_ret pe_bl)) pss_nil)
  (pss_cons (ps_lock (ps_for PassesOwn.never rfl (pi_items (pe_dget (Nat.lt_of_le_of_lt (Nat.add_le_add_left (by decide) _) hr.units) (pv 1) pe_str (fun _ _ => rfl))) (pg_tup rfl (pgs_cons (pg_name (i := 2) sc_l_looks.nd rfl (Or.inl rfl)) (pgs_cons (pg_name (i := 3) sc_l_looks.nd rfl (Or.inl rfl)) pgs_nil)))
   (pss_cons (ps_set (i := 4) sc_l_looks.nd rfl (Or.inl rfl) (pe_ifExp (pt_cmpR op_isN (pe_dget (Nat.lt_of_le_of_lt (Nat.add_le_add_left (by decide) _) hr.units) (pv 3) pe_str (fun _ _ => rfl)) pe_non (nomark _)) pe_non (pe_callTy (tupleK (K := K) rfl) (by rfl) T.z_tuple (by decide +kernel) (pa_cons (pe_slice (sl_tupK (K := K) rfl) (pe_dget (Nat.lt_of_le_of_lt (Nat.add_le_add_left (by decide) _) hr.units) (pv 3) pe_str (fun _ _ => rfl)) (po_some pe_int) po_none) pa_nil))))
  (pss_cons (ps_if (PW.pt (pw_or (pt_cmpR op_ne (pe_meth (pv 0) T.cl_Hall T.me_Hall_role G_Hall_role (hr.mono (by decide)) T.b_Hall_role .nil pass0 (pa_cons (pv 2) pa_nil)) (pe_dget (Nat.lt_of_le_of_lt (Nat.add_le_add_left (by decide) _) hr.units) (pv 3) pe_str (fun _ _ => rfl)) (nomark _)) (pw_or1 (pt_cmpR (op_neK (K := K) rfl hr.units) (pe_meth (pv 0) T.cl_Hall T.me_Hall_heard G_Hall_heard (hr.mono (by decide)) T.b_Hall_heard .nil pass0 (pa_cons (pv 2) pa_nil)) (pv 4) (nomark _))))) (pss_one (ps_ret pe_bl)) pss_nil)
  (pss_cons (ps_set (i := 5) sc_l_looks.nd rfl (Or.inl rfl) (pe_meth (pv 0) T.cl_Hall T.me_Hall_is_open G_Hall_is_open (hr.mono (by decide)) T.b_Hall_is_open .nil pass0 (pa_cons (pv 2) pa_nil)))
  (pss_one (ps_if (PW.pt (pw_or (pt_not (pt_val (pe_callB (isiK (K := K) rfl) (by rfl) T.z_isinstance (by decide +kernel) (pa_cons (pv 5) (pa_cons (pe_bltn (v := .ty "bool") (by rfl) T.z_bool (by decide +kernel) rfl) pa_nil))))) (pw_or1 (pt_cmpR op_ne (pv 5) (pe_call G_l_open (hr.mono (by decide)) (by rfl) T.g_l_open T.F_l_open.kp T.b_l_open .nil pass0 (pa_cons (pv 1) (pa_cons (pv 2) pa_nil))) (nomark _))))) (pss_one (ps_ret pe_bl)) pss_nil)))))))
  (pss_one (ps_ret pe_bl)))), ?_⟩
    obtain ⟨dx, hp⟩ := hall.self
    have hm := eM2 _ _ md.self
    have hd := eM2 _ _ md.doors
    refine ⟨_, rfl, p, dx, _, rfl, eM _ _ hp, (by cases po <;> rfl), p, B, M, h, po, e, d, s, ws, rfl, eM, hall, _, rfl, m, _, rfl, gS mv_place (.inl hm), .tuple [.int h.st.1, .int h.st.2], .tuple [.int h.st.1, .int h.st.2], dp_pair (eB _ _ hall.std), dp_pair (eB2 _ _ hpt), shaped_pair _, shaped_pair _, _, rfl, ?_⟩
    rw [eqv_own]
    refine iteF ⟨_, rfl, p, dx, _, rfl, eM _ _ hp, (by cases po <;> rfl), p, B, M, h, po, e, d, s, ws, rfl, eM, hall, _, rfl, m, _, rfl, gS mv_way (.inl hm), scal_oo _, false, congrArg V.bl (ne_oi _), iteF (un_next ?_)⟩
    dsimp only
    show tSeq _ _ _ _ _
    have mdA : M dA = none := (djm dA).resolve_right (by rw [md.doors]; simp)
    refine ⟨dA, _, hd, True.intro, fun od => ?_⟩
    have eML : Ex M (upd H dA (.frz od (.dK (intK (h.doors.map (·.1)) us)))) := eM.mut mdA
    have hdL : (upd H dA (.frz od (.dK (intK (h.doors.map (·.1)) us)))) dA = some (.frz od (.dK (intK (h.doors.map (·.1)) us))) := upd_same
    have hmL : (upd H dA (.frz od (.dK (intK (h.doors.map (·.1)) us)))) m = some (.dK (mdlKV h dA (.ref pt))) := by rw [upd_ne md.m_d]; exact hm
    have aL : ∀ {a : Addr} {be co : Int} {hv : V} {x : Option Dr}, M2 a = some (.dK (drKV be co hv x)) → (upd H dA (.frz od (.dK (intK (h.doors.map (·.1)) us)))) a = some (.dK (drKV be co hv x)) := fun {a be co hv x} hh => by
      rw [upd_ne (md.a_d hh)]
      exact eM2 _ _ hh
    have tupL : ∀ t zs, H t = some (.tup zs) → (upd H dA (.frz od (.dK (intK (h.doors.map (·.1)) us)))) t = some (.tup zs) := fun t zs hh => by
      rw [upd_ne (fun z => by rw [z, hd] at hh; cases hh)]
      exact hh
    have fin : ∀ H', Ex (upd H dA (.frz od (.dK (intK (h.doors.map (·.1)) us)))) H' → Ex H (upd H' dA (.dK (intK (h.doors.map (·.1)) us))) := fun H' e => unlock_ex hd e
    generalize upd H dA (.frz od (.dK (intK (h.doors.map (·.1)) us))) = HL at eML hdL hmL aL tupL fin
    have lk : (intK (h.doors.map (·.1)) us).length = h.doors.length := by rw [intK_len (by rw [List.length_map]; exact md.len), List.length_map]
    refine ⟨_, rfl, m, _, rfl, gS mv_doors (.inl hmL), dA, od, _, rfl, hdL, for_it walk_items (fun i σ H' => ∃ y2 y3 y4 y5, σ = [some (.ref p), some (.ref m), y2, y3, y4, y5] ∧ Ex HL H') ⟨_, _, _, _, rfl, Ex.refl _⟩ (fun i σ H' _ ⟨_, _, _, _, _, e⟩ => e _ _ hdL) ?_ ?_⟩
    · rintro i x σ Ha Ha' hi ⟨y2, y3, y4, y5, rfl, eL⟩ ⟨T', x1, y1, rfl, hT, rfl, hx1, hy1⟩
      rw [lk] at hi
      obtain ⟨⟨k, x⟩, hkx⟩ : ∃ y, h.doors[i]? = some y := ⟨_, List.getElem?_eq_getElem hi⟩
      obtain ⟨a, hv, be, co, hva, hen, hMa, hh, hok⟩ := md.each i k x hkx
      have hval : valV (intK (h.doors.map (·.1)) us) (.inl k) = some (.ref a) := intK_at md.nd (by rw [List.getElem?_map, hkx]; rfl) hva
      have hkv : (intK (h.doors.map (·.1)) us)[i]? = some (Sum.inl k, .ref a) := by
        unfold intK
        rw [List.getElem?_zipWith, List.getElem?_map, hkx, hva]
        rfl
      dsimp only at hx1 hy1
      rw [hkv] at hx1 hy1
      obtain rfl : V.int k = x1 := Option.some.inj hx1
      obtain rfl : V.ref a = y1 := Option.some.inj hy1
      have e2 := eL.trans (Ex.new (o := .tup [.int k, .ref a]) hT)
      refine ⟨T', _, rfl, SqT.of upd_same, rfl, _, _, rfl, _, _, rfl, rfl, ?_⟩
      have pnx : ∀ d', x = some d' → d'.part ≠ none := fun d' e => hpn k d' (by rw [← e]; exact List.mem_of_getElem? hkx)
      dsimp only
      generalize upd Ha T' (.tup [.int k, .ref a]) = Hs at e2 ⊢
      have ha := e2 _ _ (aL hMa)
      obtain ⟨ro, r', hv', sa, si, al, mi, wa, hro, hdr⟩ : ∃ ro r' hv' sa si al mi wa, roleV x = .str ro ∧ drKV be co hv x = drF r' hv' sa si al mi ro wa be co := by
        cases x with
        | none => exact ⟨_, _, _, _, _, _, _, _, rfl, rfl⟩
        | some d' =>
          cases e : d'.part with
          | none => exact absurd e (pnx d' rfl)
          | some pa => exact ⟨partS pa, true, hv, d'.said, d'.cf, d'.agT, d'.agH, d'.was, by show partV d'.part = _; rw [e]; rfl, by show drF true hv d'.said d'.cf d'.agT d'.agH (roleS d'.part) d'.was be co = _; rw [e]; rfl⟩
      show tSeq _ _ _ _ _
      have evh : ∀ {σ : L2.St} (Qk : VK), σ[3]? = some (some (.ref a)) → (∀ v4 H5, Ex Hs H5 → HsAt H5 v4 (hsO x) → Qk v4 H5) → tIf (tTest (tOp (fun x y H Q => y = V.non ∧ Q (V.bl (decide (x = V.non))) H) (tDGet (tVar 3) (tC (V.str "heard"))) (tC V.non))) (tC V.non)
          (tCB (fun xs H Q => ∃ p ys, xs = [V.ref p] ∧ ((SqL K H p ys ∧ ∀ l, H l = none → Q (V.ref l) (upd H l (HO.tup ys))) ∨ (SqT K H p ys ∧ Q (V.ref p) H))) (tCons (tSl (rSlT K) (tDGet (tVar 3) (tC (V.str "heard"))) (tPart (tC (V.int 1))) tNoPart) tNil)) σ Hs Qk := by
        intro σ Qk h3 k1
        cases x with
        | none => exact ⟨_, h3, a, _, rfl, gS dv_heard (.inl ha), rfl, _, rfl, ite2 (fun _ => k1 _ _ (Ex.refl _) rfl) (fun z => absurd (by simp) z)⟩
        | some d' =>
          refine ⟨_, h3, a, _, rfl, gS dv_heard (.inl ha), rfl, _, rfl, ?_⟩
          cases hhs : d'.hs with
          | none =>
            obtain rfl := hrd0 hh hhs
            exact ite2 (fun _ => k1 _ _ (Ex.refl _) (by show HsAt _ _ d'.hs; rw [hhs]; rfl)) (fun z => absurd (by simp) z)
          | some pp =>
            obtain ⟨th, rfl, hth⟩ := hrd1 hh hhs
            refine ite2 (fun z => absurd z (by simp)) (fun _ => ?_)
            refine ⟨_, h3, a, _, rfl, gS dv_heard (.inl ha), _, rfl, th, _, rfl, SqT.of (e2 _ _ (tupL _ _ (eB2 _ _ hth))), (by show ¬ (HT.sIx 3 0 (some 1) = 0 ∧ HT.sIx 3 3 none = 3); decide), fun t1 ht1 => ⟨t1, _, rfl, .inr ⟨SqT.of upd_same, k1 _ _ (Ex.new ht1) (by show HsAt _ _ d'.hs; rw [hhs]; exact ⟨t1, rfl, upd_same⟩)⟩⟩⟩
      refine evh _ rfl (fun v4 H5 e5 h4 => ?_)
      have e6 := e2.trans e5
      have eM5 := eML.trans e6
      have ha5 := e5 _ _ ha
      rw [hdr] at ha5
      have hp5 := eM5 _ _ hp
      dsimp only
      show tSeq _ _ _ _ _
      refine ⟨_, rfl, p, dx, _, rfl, hp5, (by cases po <;> rfl), _, rfl, p, B, M, h, po, e, d, s, ws, i, k, x, rfl, eM5, hall, hkx, ?_⟩
      rw [hro]
      refine ⟨_, rfl, a, _, rfl, gS dv_role (.inl ha5), rfl, false, congrArg V.bl (ne_str _), iteF ?_⟩
      refine ⟨_, rfl, p, dx, _, rfl, hp5, (by cases po <;> rfl), _, rfl, p, B, M, h, po, e, d, s, ws, i, k, x, rfl, eM5, hall, hkx, fun v hv6 => ⟨_, rfl, hsD (hsO x), hsD (hsO x), hs_dp hv6 (fun t zs hq => e6 _ _ (tupL _ _ (eB _ _ hq))), hs_dp h4 (fun t zs hq => hq), hs_shaped _, hs_shaped _, _, rfl, ?_⟩⟩
      rw [hs_eqv]
      refine iteF (un_next ?_)
      dsimp only
      show tSeq _ _ _ _ _
      refine ⟨_, rfl, p, dx, _, rfl, hp5, (by cases po <;> rfl), _, rfl, p, B, M, h, po, e, d, s, ws, i, k, x, rfl, eM5, hall, hkx, ?_⟩
      dsimp only
      refine ev_isi_bool (ev_var rfl) (.bl _) H5 (Ex.refl _) _ (fun H6 e7 => ⟨_, rfl, ?_⟩)
      refine iteF ?_
      refine ⟨_, rfl, _, rfl, _, rfl, m, dA, a, h, .ref pt, k, x, hv, be, co, _, rfl, (e6.trans e7) _ _ hmL, .inr ⟨od, (e6.trans e7) _ _ hdL⟩, hval, (e6.trans e7) _ _ (aL hMa), pnx, fun H7 e8 => ⟨rfl, false, congrArg V.bl (ne_bl _), iteF (un_next ⟨_, _, _, _, rfl, (e6.trans e7).trans e8⟩)⟩⟩
    · rintro σ H4 ⟨y2, y3, y4, y5, rfl, eL⟩
      exact ⟨eL _ _ hdL, q _ (fin _ eL)⟩
end
end K24

set_option maxHeartbeats 4000000
/-! xs[::e], where e gives 1 or -1. -/
namespace MyG
open PySem PySem.Spec PyProof.Rows L2 Evl
theorem sl_one_bounds (n : Nat) : sliceBounds none none (some 1) n = (0, (n : Int), 1) := by
  first
  | rfl
  | simp [sliceBounds]
theorem sl_one_range (n : Nat) : sliceRange 0 (n : Int) 1 = List.range n := by
  have e : sliceRange 0 (n : Int) 1 = (List.range n).map fun (k : Nat) => ((0 : Int) + 1 * (k : Int)).toNat := by
    unfold sliceRange
    rcases Nat.eq_zero_or_pos n with h | h
    · subst h
      simp
    · have h1 : ((1 : Int) > 0) := by decide
      have h2 : (0 : Int) < (n : Int) := by omega
      have h3 : ((n : Int) - 0 + 1 - 1) / 1 = (n : Int) := by rw [Int.ediv_one]; omega
      simp only [h1, if_true, h2, h3, Int.toNat_natCast]
  rw [e]
  have f : (fun k : Nat => ((0 : Int) + 1 * (k : Int)).toNat) = id := by
    funext k
    show ((0 : Int) + 1 * (k : Int)).toNat = k
    omega
  rw [f, List.map_id]
theorem sl_one (items : Array Value) : slicePick items none none (some 1) = items := by
  unfold slicePick
  rw [sl_one_bounds]
  show ((sliceRange 0 (items.size : Int) 1).filterMap (items[·]?)).toArray = items
  rw [sl_one_range, PySem.W.krv_all]
def turned (k : Int) (xs : List V) : List V := if k = 1 then xs else xs.reverse
theorem turned_len (k : Int) (xs : List V) : (turned k xs).length = xs.length := by
  unfold turned
  split
  · rfl
  · exact List.length_reverse
def tStepL (K : PySem.W.Frag) (te tk : TE) : TE := fun σ H Q => te σ H fun x H1 => ∃ a, x = .ref a ∧ tPart tk σ H1 fun o H2 => ∃ xs k, o = some k ∧ (k = 1 ∨ k = -1) ∧ SqL K H2 a xs ∧ ∀ p, H2 p = none → Q (.ref p) (upd H2 p (.lst (turned k xs)))
theorem stepLK {X : Cx} {K : PySem.W.Frag} {e ek : Expr} {te tk : TE} {p3 pos : Pos} (hK : X.K = K) (he : PE X e te) (hk : PE X ek tk) : PE X (.Subscript e (.Slice none none (some ek) p3) pos) (tStepL K te tk) := by
  subst hK
  refine ⟨fun pins s σ H Q I h => ?_⟩
  refine Subscript_ (thn (he.run pins s σ H _ I h) fun v s1 ⟨x, H1, I1, r1, q1⟩ => ?_)
  obtain ⟨a, ex, q⟩ := q1
  subst ex
  cases r1
  refine wpAny_Slice (thn (po_none.run pins s1 σ H1 (fun o H2 => o = none ∧ H2 = H1) I1 ⟨rfl, rfl⟩) fun vl s2 ⟨l, H2, I2, pl, el, e2⟩ => ?_)
  subst el e2
  refine thn (po_none.run pins s2 σ H2 (fun o H3 => o = none ∧ H3 = H2) I2 ⟨rfl, rfl⟩) fun vu s3 ⟨u, H3, I3, pu, eu, e3⟩ => ?_
  subst eu e3
  refine thn ((po_some hk).run pins s3 σ H3 (fun o H4 => ∃ xs k, o = some k ∧ (k = 1 ∨ k = -1) ∧ SqL X.K H4 a xs ∧ ∀ p, H4 p = none → Q (.ref p) (upd H4 p (.lst (turned k xs)))) I3 q) fun vs s4 ⟨o, H4, I4, ps, q4⟩ => ?_
  obtain ⟨xs, k, eo, k1, hx, q5⟩ := q4
  subst eo
  have I5 : Inv X pins σ H4 { s4 with heap := s4.heap.push { cls := .type "slice", data := .fields #[vl, vu, vs] } } := I4.kept (t' := s4.toks) fun b ob q => Heap.get?_push_of_some _ q
  obtain ⟨its, r, ht, hz⟩ := I5.list hx
  have hlen := r.length
  show wpAny (model X.prog X.w) X.A (subscriptTail e (.Slice none none (some ek) p3) (.ref a) (.ref s4.heap.objs.size)) (EP X pins σ Q) X.xe { s4 with heap := s4.heap.push { cls := .type "slice", data := .fields #[vl, vu, vs] } }
  refine tail_any (ops := [.ref a, .ref s4.heap.objs.size]) ht.isList.typeIs (PySem.slot_list_getitem.lookup) ?_ (by with_unfolding_all rfl)
  have kz : some k ≠ some (0 : Int) := by
    intro e0
    cases e0
    omega
  refine wpAny_getItem_list_slice ht.isList (Heap.IsSliceOf.new _ vl vu vs) pl pu ps kz ?_ (by rw [List.size_toArray]; omega)
  rcases k1 with rfl | rfl
  · rw [sl_one]
    refine ⟨.ref _, _, I5.laid (t' := s4.toks) (o := .lst xs) (fun b ob q => Heap.get?_push_of_some _ q) (Nat.le_refl _) ?_, rfl, q5 _ (I5.hok.fresh (Nat.le_refl _))⟩
    exact ⟨hz, _, 0, r, Heap.get?_push_size _ rfl⟩
  · rw [PySem.W.krv_pick]
    refine ⟨.ref _, _, I5.laid (t' := s4.toks) (o := .lst xs.reverse) (fun b ob q => Heap.get?_push_of_some _ q) (Nat.le_refl _) ?_, rfl, q5 _ (I5.hok.fresh (Nat.le_refl _))⟩
    exact ⟨by rw [List.length_reverse]; exact hz, _, 0, r.reverse, Heap.get?_push_size _ rfl⟩
end MyG

set_option maxHeartbeats 1000000
namespace K24
open PySem PySem.Spec PyProof.Rows L2 Evl MyG
/-! ### doors drawn -/
def hs8 : List Int := [0, 3, 4, 5, 7, 12, 500, 999]
theorem hs8_pos (own : Int) : 0 < (hs8.filter fun k => decide (¬ k = own)).length := by
  by_cases h : own = 3
  · exact List.length_pos_of_mem (List.mem_filter.mpr ⟨(show (0 : Int) ∈ hs8 by decide), by rw [h]; decide⟩)
  · exact List.length_pos_of_mem (List.mem_filter.mpr ⟨(show (3 : Int) ∈ hs8 by decide), decide_eq_true (fun e => h e.symm)⟩)
theorem filt_take {f : Int → Bool} {xs : List Int} {i : Nat} {x : Int} (h : xs[i]? = some x) : (xs.take (i + 1)).filter f = (xs.take i).filter f ++ (if f x = true then [x] else []) := by
  rw [take_snoc h, List.filter_append]
  by_cases g : f x = true <;> simp [g]
theorem cutN (xs : List V) (k : Nat) : cutV xs none (some (k : Int)) = xs.take k := by
  by_cases h : k ≤ xs.length
  · exact cut_lo xs h
  · rw [cut_all xs (by omega), List.take_of_length_le (by omega)]
theorem cutI (hs : List Int) {n : Int} (h : 0 ≤ n) : cutV (hs.map V.int) none (some n) = (hs.take n.toNat).map V.int := by
  rw [show n = ((n.toNat : Nat) : Int) by omega, cutN, List.map_take]
  rfl
theorem turned_map (k : Int) (xs : List Int) : ∃ ys : List Int, turned k (xs.map V.int) = ys.map V.int ∧ ys.Perm xs := by
  unfold turned
  by_cases h : k = 1
  · exact ⟨xs, if_pos h, .refl _⟩
  · exact ⟨xs.reverse, by rw [if_neg h, List.map_reverse], List.reverse_perm xs⟩
def sp_doors : Sp := fun vs H Q _ => ∃ (s c : Addr) (own many : Int) (B : Hp), vs = [.ref s, .int own, .int many] ∧ Wld s c B [] H ∧ 0 < many ∧ many ≤ 12 ∧
  ∀ g B' kvs gs evs H', Ex B B' → Wld s c B' [one g (.dK kvs)] H' → Gt B' kvs gs evs → (∀ k ∈ gs.map (·.1), 0 ≤ k ∧ k < 100) → gs.length = many.toNat → Q (.ref g) H'
section
variable {P : Program} {w : World} {K : PySem.W.Frag} {mg : Str → Option Value} {base : Heap}
theorem ok_doors (T : Tx K mg) : FnOk P w K mg base CX0 3 T.a_l_doors T.d_l_doors ["_law_state", "_law_own", "_law_many"] sp_doors := by
  have G_l_draw := ok_draw (P := P) (w := w) (base := base) T
  have G_l_pick := ok_pick (P := P) (w := w) (base := base) T
  refine T.F_l_doors.ok sc_l_doors (fun vs H Q E h => ?_) (fun cdv A outer s0 H vs Q E hr h => ?_)
  · obtain ⟨_, _, _, _, _, rfl, _⟩ := h
    rfl
  · obtain ⟨s, c, own, many, B, rfl, W1, m0, m1, q⟩ := h
    refine ⟨_, (pss_cons (ps_setLc (i := 3) (own := [("_law_other", 7)]) (g := (gName 7)) rfl sc_l_doors.nd rfl rfl (sw_true rfl rfl rfl (by decide +kernel)) (iListK (K := K) rfl (pe_lst (pa_cons pe_int (pa_cons pe_int (pa_cons pe_int (pa_cons pe_int (pa_cons pe_int (pa_cons pe_int (pa_cons pe_int (pa_cons pe_int pa_nil)))))))))) (blkOk_by (N := n_l_doors) (sc := defScope s_l_doors) (by decide +kernel)) (fun _ _ _ _ _ => (pg_name (i := 7) sc_l_doors.nd rfl (Or.inl rfl))) (fun _ _ _ _ _ => (pts_one (pt_cmpR op_ne (pv 7) (pv 1) (nomark _)))) (fun _ _ _ _ _ => (pv 7)))
  (pss_cons (ps_set (i := 4) sc_l_doors.nd rfl (Or.inl rfl) (pe_callB (sortedK (K := K) rfl) (by rfl) T.z_sorted (by decide +kernel) (pa_cons (pe_lc (own := [("_law_k", 8)]) (g := (gName 8)) (tt := tYes) rfl sc_l_doors.nd (pi_range1 rfl T.z_range (pa_cons (pv 2) pa_nil)) (blkOk_by (N := n_l_doors) (sc := defScope s_l_doors) (by decide +kernel)) (fun _ _ _ _ _ => (pg_name (i := 8) sc_l_doors.nd rfl (Or.inl rfl))) (fun _ _ _ _ _ => pts_nil) (fun _ _ _ _ _ => (pe_op op_add (pe_op op_mul pe_int (pv 8)) (pe_call G_l_draw (hr.mono (by decide)) (by rfl) T.g_l_draw T.F_l_draw.kp T.b_l_draw .nil pass0 (pa_cons (pv 0) (pa_cons pe_int pa_nil)))))) pa_nil)))
  (pss_cons (ps_set (i := 5) sc_l_doors.nd rfl (Or.inl rfl) pe_dnewK)
  (pss_cons (ps_for PassesOwn.never rfl (iListK (K := K) rfl (stepLK (K := K) rfl (pv 4) (pe_call G_l_pick (hr.mono (by decide)) (by rfl) T.g_l_pick T.F_l_pick.kp T.b_l_pick .nil pass0 (pa_cons (pv 0) (pa_cons (pe_lst (pa_cons pe_int (pa_cons (pe_un un_neg pe_int) pa_nil))) pa_nil))))) (pg_name (i := 6) sc_l_doors.nd rfl (Or.inl rfl))
   (pss_one (ps_dput (hu_of hr) (pv 5) (pv 6) (pe_tup (pa_cons (pe_call G_l_pick (hr.mono (by decide)) (by rfl) T.g_l_pick T.F_l_pick.kp T.b_l_pick .nil pass0 (pa_cons (pv 0) (pa_cons (pe_slice (sl_listK (K := K) rfl) (pv 3) po_none (po_some (pe_op op_add pe_int (pe_call G_l_draw (hr.mono (by decide)) (by rfl) T.g_l_draw T.F_l_draw.kp T.b_l_draw .nil pass0 (pa_cons (pv 0) (pa_cons pe_int pa_nil)))))) pa_nil))) (pa_cons (pe_call G_l_pick (hr.mono (by decide)) (by rfl) T.g_l_pick T.F_l_pick.kp T.b_l_pick .nil pass0 (pa_cons (pv 0) (pa_cons (pe_lst (pa_cons pe_int (pa_cons pe_int (pa_cons pe_int (pa_cons pe_int (pa_cons pe_int pa_nil)))))) pa_nil))) pa_nil))) rfl)))
  (pss_one (ps_ret (pv 5))))))), ?_⟩
    show tSeq _ _ _ _ _
    refine ⟨by show 8 ≤ sizeLine; decide, fun L2 hL2 => ⟨L2, rfl, ⟨_, SqL.of upd_same⟩, fun D hD => ?_⟩⟩
    have W3 := W1.newK (o := .lst (hs8.map V.int)) hL2
    have e3 : Ex B (upd B L2 (.lst (hs8.map V.int))) := Ex.new (W1.none hL2)
    have l3 : (upd B L2 (.lst (hs8.map V.int))) L2 = some (.lst (hs8.map V.int)) := upd_same
    generalize upd B L2 (.lst (hs8.map V.int)) = B3 at W3 l3 e3
    refine lc_it (walk_list (xs := hs8.map V.int)) (fun i H' => Wld s c B3 [one D (.lst (((hs8.take i).filter fun k => decide (¬ k = own)).map V.int))] H') (W3.mk1 hD) (fun i H' _ W => SqL.of (W.w.ex _ _ l3)) ?_ ?_
    · rintro i x Hx Hx' hi W ⟨rfl, hxi⟩
      rw [List.length_map] at hi
      obtain ⟨k, hk⟩ : ∃ k, hs8[i]? = some k := ⟨_, List.getElem?_eq_getElem hi⟩
      rw [List.getElem?_map, hk] at hxi
      obtain rfl := Option.some.inj hxi
      have hi8 : i < 8 := hi
      refine ⟨rfl, ?_⟩
      refine ⟨_, rfl, _, rfl, rfl, _, rfl, ?_⟩
      have sn := filt_take (f := fun k => decide (¬ k = own)) hk
      have lf := List.length_filter_le (fun k => decide (¬ k = own)) (hs8.take i)
      rw [List.length_take] at lf
      refine ite2 (fun hn => ?_) (fun hn => ?_)
      · have hn : ¬ k = own := by simpa using hn
        refine ⟨_, rfl, _, W.at_, len_lt (by rw [List.length_map]; omega), ?_⟩
        rw [sn, if_pos (decide_eq_true hn), List.map_append]
        exact W.put
      · have hn : k = own := by simpa using hn
        rw [sn, if_neg (by simp [hn]), List.append_nil]
        exact W
    intro Hb W
    rw [List.length_map, List.take_length] at W
    have W4 := W.learn
    have e4 : Ex B3 (upd B3 D (.lst ((hs8.filter fun k => decide (¬ k = own)).map V.int))) := Ex.new W.free
    have hD4 : (upd B3 D (.lst ((hs8.filter fun k => decide (¬ k = own)).map V.int))) D = some (.lst ((hs8.filter fun k => decide (¬ k = own)).map V.int)) := upd_same
    have pos := hs8_pos own
    have l8 : (hs8.filter fun k => decide (¬ k = own)).length ≤ 8 := List.length_filter_le _ hs8
    generalize upd B3 D (.lst ((hs8.filter fun k => decide (¬ k = own)).map V.int)) = B4 at W4 hD4 e4
    generalize (hs8.filter fun k => decide (¬ k = own)) = hs at hD4 pos l8
    clear W
    dsimp only
    show tSeq _ _ _ _ _
    -- links
    refine ⟨_, rfl, many, rfl, by omega, by omega, fun D2 hD2 => ?_⟩
    refine lc_it (walk_range (lo := 0) (n := many.toNat)) (fun i H' => ∃ ls : List Int, Wld s c B4 [one D2 (.lst (ls.map V.int))] H' ∧ ls.length = i ∧ ls.Nodup ∧ ∀ l ∈ ls, 0 ≤ l ∧ l < 3 * (i : Int)) ⟨[], W4.mk1 hD2, rfl, .nil, fun _ h => absurd h (by simp)⟩ (fun _ _ _ _ => True.intro) ?_ ?_
    · rintro i x Hx Hx' hi ⟨ls, W, ll, nd, bd⟩ ⟨rfl, rfl⟩
      refine ⟨rfl, un_yes (iteT ?_)⟩
      refine ⟨_, rfl, _, _, rfl, rfl, .inl (by decide), _, rfl, s, c, 3, rfl, W.st, by decide, by decide, fun r Hc r0 r1 st4 off4 => ⟨_, _, rfl, rfl, ?_⟩⟩
      have W5 := W.drawn st4 off4
      refine ⟨ls.map V.int, W5.at_, len_lt (by rw [List.length_map]; omega), ls ++ [3 * (0 + (i : Int)) + r], ?_, by rw [List.length_append, List.length_singleton]; omega, ?_, ?_⟩
      · have := W5.put (o' := .lst (ls.map V.int ++ [.int (3 * (0 + (i : Int)) + r)]))
        rwa [show ls.map V.int ++ [V.int (3 * (0 + (i : Int)) + r)] = (ls ++ [3 * (0 + (i : Int)) + r]).map V.int by rw [List.map_append]; rfl] at this ⊢
      · rw [List.nodup_append]
        refine ⟨nd, by simp, fun a ha b hb e => ?_⟩
        rw [List.mem_singleton] at hb
        have := bd a ha
        omega
      · intro l hl
        rcases List.mem_append.mp hl with h | h
        · have := bd l h
          omega
        · rw [List.mem_singleton] at h
          omega
    rintro Hb2 ⟨ls, W, ll, nd, bd⟩
    have W5 := W.learn
    have e5 : Ex B4 (upd B4 D2 (.lst (ls.map V.int))) := Ex.new W.free
    have hD5 : (upd B4 D2 (.lst (ls.map V.int))) D2 = some (.lst (ls.map V.int)) := upd_same
    generalize upd B4 D2 (.lst (ls.map V.int)) = B5 at W5 hD5 e5
    clear W
    dsimp only
    refine ⟨D2, ls, rfl, SqL.of (W5.w.ex _ _ hD5), by omega, fun ls' p pe _ hp => ?_⟩
    have W6 := W5.newK (o := .lst (ls'.map V.int)) hp
    have e6 : Ex B5 (upd B5 p (.lst (ls'.map V.int))) := Ex.new (W5.none hp)
    have hp6 : (upd B5 p (.lst (ls'.map V.int))) p = some (.lst (ls'.map V.int)) := upd_same
    generalize upd B5 p (.lst (ls'.map V.int)) = B6 at W6 hp6 e6
    have hD6 := e6 _ _ (e5 _ _ hD4)
    dsimp only
    show tSeq _ _ _ _ _
    refine fun g hg => ?_
    have W7 := W6.mk1 (o := .dK []) hg
    dsimp only
    show tSeq _ _ _ _ _
    refine ⟨_, rfl, p, rfl, _, rfl, 1, rfl, by show 2 ≤ sizeLine; decide, fun L3 hL3 => ?_⟩
    refine pickI (ns := [1, -1]) W7 (by decide) (by decide) (fun k hk H8 W8 => ?_) L3 hL3
    obtain ⟨ys, ey, py⟩ := turned_map k ls'
    refine ⟨k, rfl, _, k, rfl, by simpa using hk, SqL.of (W8.w.ex _ _ hp6), fun p2 hp2 => ?_⟩
    rw [ey]
    have W9 := W8.newK (o := .lst (ys.map V.int)) hp2
    have e9 : Ex B6 (upd B6 p2 (.lst (ys.map V.int))) := Ex.new (W8.none hp2)
    have hp9 : (upd B6 p2 (.lst (ys.map V.int))) p2 = some (.lst (ys.map V.int)) := upd_same
    generalize upd B6 p2 (.lst (ys.map V.int)) = B9 at W9 hp9 e9
    have hD9 := e9 _ _ hD6
    have pl := py.trans pe
    have ndy : ys.Nodup := pl.nodup_iff.mpr nd
    have ly : ys.length = many.toNat := pl.length_eq.trans ll
    refine ⟨p2, rfl, ⟨_, SqL.of (W9.w.ex _ _ hp9)⟩, for_it (walk_list (xs := ys.map V.int)) (fun i σ H' => ∃ y6, σ = [some (.ref s), some (.int own), some (.int many), some (.ref D), some (.ref p), some (.ref g), y6, none, none] ∧ ∃ B' kvs gs evs, Ex B9 B' ∧ Wld s c B' [one g (.dK kvs)] H' ∧ Gt B' kvs gs evs ∧ gs.map (·.1) = ys.take i) ⟨_, rfl, B9, [], [], [], Ex.refl _, W9, ⟨rfl, .nil, .nil⟩, rfl⟩ (fun i σ H' _ ⟨_, _, _, _, _, _, e, W, _⟩ => SqL.of (W.w.ex _ _ (e _ _ hp9))) ?_ ?_⟩
    · rintro i xx σ Hc Hc' hi ⟨y6, rfl, B', kvs, gs, evs, eB', W, gt, gk⟩ ⟨rfl, hxi⟩
      rw [List.length_map] at hi
      obtain ⟨l, hl⟩ : ∃ l, ys[i]? = some l := ⟨_, List.getElem?_eq_getElem hi⟩
      rw [List.getElem?_map, hl] at hxi
      obtain rfl := Option.some.inj hxi
      have gl : gs.length = i := by
        have := congrArg List.length gk
        rw [List.length_map, List.length_take] at this
        omega
      refine ⟨_, rfl, _, rfl, _, rfl, s, c, 7, rfl, W.st, by decide, by decide, fun d2 H7 a0 a1 st7 of7 => ⟨_, _, rfl, rfl, ?_⟩⟩
      have Wa := W.drawn st7 of7
      refine ⟨_, rfl, D, _, rfl, SqL.of (Wa.w.ex _ _ (eB' _ _ hD9)), fun L hL => ?_⟩
      rw [cutI hs (show 0 ≤ 1 + d2 by omega)]
      refine pickI (ns := hs.take (1 + d2).toNat) Wa (by rw [List.length_take]; omega) (by rw [List.length_take]; omega) (fun b _ Hd Wb => ?_) L hL
      refine ⟨_, rfl, by show 5 ≤ sizeLine; decide, fun L4 hL4 => ?_⟩
      refine pickI (ns := [1, 1, 2, 3, 30]) Wb (by decide) (by decide) (fun d3 _ He Wc => ?_) L4 hL4
      refine ⟨by show 2 ≤ sizeLine; decide, fun t ht => ?_⟩
      have Wt := Wc.newK (o := .tup (pairD (b, d3))) ht
      have eBt : Ex B' (upd B' t (.tup (pairD (b, d3)))) := Ex.new (Wc.none ht)
      have nm : ¬ l ∈ gs.map (·.1) := by
        rw [gk]
        intro h
        have := ndy
        have tk := take_snoc hl
        have nt : (ys.take (i + 1)).Nodup := this.sublist (List.take_sublist ..)
        rw [tk, List.nodup_append] at nt
        exact nt.2.2 l h l (by simp) rfl
      refine ⟨_, rfl, _, rfl, g, _, rfl, DPut.k (k := Sum.inl l) Wt.at_ (len_lt (by rw [gt.len]; omega)), _, rfl, _, _, gs ++ [(l, b, d3)], _, eB'.trans eBt, Wt.put, gt.app eBt upd_same nm, ?_⟩
      rw [List.map_append, gk, take_snoc hl]
      rfl
    rintro σ Hc ⟨y6, rfl, B', kvs, gs, evs, eB', W, gt, gk⟩
    rw [List.length_map, List.take_length] at gk
    refine ⟨_, rfl, q g B' kvs gs evs Hc ((((e3.trans e4).trans e5).trans e6).trans (e9.trans eB')) W gt (fun k hk => ?_) ?_⟩
    · rw [gk] at hk
      have := bd k (pl.mem_iff.mp hk)
      omega
    · have := congrArg List.length gk
      rw [List.length_map] at this
      omega
end
end K24

set_option maxHeartbeats 1000000
namespace K24
open PySem PySem.Spec PyProof.Rows L2 Evl MyG
/-! ### letters drawn -/
theorem seq_mid {A R : TS} {D : Ends} {σ : L2.St} {H : Hp} (P : L2.St → Hp → Prop) (hA : ∀ N : L2.St → Hp → Prop, (∀ σ' H', P σ' H' → N σ' H') → A { D with nx := N } σ H) (hR : ∀ σ' H', P σ' H' → R D σ' H') : tSeq A R D σ H := hA (R D) hR
def Ints (kns : List (Key × V)) : Prop := ∀ k v, valV kns k = some v → ∃ n, v = V.int n
theorem Ints.get {kns : List (Key × V)} (h : Ints kns) (k : Key) : ∃ m, (valV kns k).getD (.int 0) = V.int m := by
  cases e : valV kns k with
  | none => exact ⟨0, rfl⟩
  | some v => exact h k v e
theorem Ints.put {kns : List (Key × V)} (h : Ints kns) (k : Key) (m : Int) : Ints (putK kns k (.int m)) := fun j v e => by
  rw [valV_put] at e
  split at e
  · exact ⟨m, (Option.some.inj e).symm⟩
  · exact h j v e
def sp_sayM : Sp := fun vs H Q _ => ∃ (s c m nA dA pt : Addr) (B M : Hp) (Rs : List Hp) (h : HSt) (us : List V) (kns : List (Key × V)) (i : Nat) (k : Int) (dr : Dr), vs = [.ref s, .ref m, .ref nA, .int k] ∧ Wld s c B (one nA (.dK kns) :: Rs) H ∧ M ∈ Rs ∧ MdlIn B M m dA h (.ref pt) us ∧ B pt = some (.tup (pairD h.st)) ∧ h.doors[i]? = some (k, some dr) ∧ Ints kns ∧ kns.length ≤ 1000 ∧
  ∀ n r f kns' B' t H', Ex B B' → Wld s c B' (one nA (.dK kns') :: Rs) H' → Ints kns' → kns'.length ≤ kns.length + 1 → B' t = some (.tup (Lt.say n r f).vs) → Q (.ref t) H'
def sp_agreeM : Sp := fun vs H Q _ => ∃ (s c m dA pt : Addr) (B M : Hp) (Rs : List Hp) (h : HSt) (us : List V) (i : Nat) (k : Int) (dr : Dr), vs = [.ref s, .ref m, .int k] ∧ Wld s c B Rs H ∧ M ∈ Rs ∧ MdlIn B M m dA h (.ref pt) us ∧ h.doors[i]? = some (k, some dr) ∧ dr.said < 1073741824 ∧
  ∀ n B' t H', Ex B B' → Wld s c B' Rs H' → B' t = some (.tup (Lt.agree n).vs) → n ≤ dr.said → Q (.ref t) H'
section
variable {P : Program} {w : World} {K : PySem.W.Frag} {mg : Str → Option Value} {base : Heap}
theorem ok_sayM (T : Tx K mg) : FnOk P w K mg base CX0 3 T.a_l_say T.d_l_say ["_law_state", "_law_model", "_law_sent", "_law_link"] sp_sayM := by
  have G_l_draw := ok_draw (P := P) (w := w) (base := base) T
  have G_l_pick := ok_pick (P := P) (w := w) (base := base) T
  refine T.F_l_say.ok sc_l_say (fun vs H Q E h => ?_) (fun cdv A outer s0 H vs Q E hr h => ?_)
  · obtain ⟨_, _, _, _, _, _, _, _, _, _, _, _, _, _, _, rfl, _⟩ := h
    rfl
  · obtain ⟨s, c, m, nA, dA, pt, B, M, Rs, h, us, kns, i, k, dr, rfl, W, hM, md, hpt, hi, inn, nl, q⟩ := h
    refine ⟨_, (pss_cons (ps_set (i := 4) sc_l_say.nd rfl (Or.inl rfl) (pe_dget (Nat.lt_of_le_of_lt (Nat.add_le_add_left (by decide) _) hr.units) (pe_dget (Nat.lt_of_le_of_lt (Nat.add_le_add_left (by decide) _) hr.units) (pv 1) pe_str (fun _ _ => rfl)) (pv 3) (fun _ _ => rfl)))
  (pss_cons (ps_asg (pe_dget (Nat.lt_of_le_of_lt (Nat.add_le_add_left (by decide) _) hr.units) (pv 1) pe_str (fun _ _ => rfl)) (pg_tup rfl (pgs_cons (pg_name (i := 5) sc_l_say.nd rfl (Or.inl rfl)) (pgs_cons (pg_name (i := 6) sc_l_say.nd rfl (Or.inl rfl)) pgs_nil))))
  (pss_cons (ps_set (i := 7) sc_l_say.nd rfl (Or.inl rfl) (pe_call G_l_draw (hr.mono (by decide)) (by rfl) T.g_l_draw T.F_l_draw.kp T.b_l_draw .nil pass0 (pa_cons (pv 0) (pa_cons pe_int pa_nil))))
  (pss_cons (ps_if (pt_cmpR op_eq (pv 7) pe_int (nomark _)) (pss_one (ps_par (i := 5) (j := 6) rfl sc_l_say.nd rfl rfl (by decide) rfl rfl (pa_cons (pe_dget (Nat.lt_of_le_of_lt (Nat.add_le_add_left (by decide) _) hr.units) (pv 4) pe_str (fun _ _ => rfl)) (pa_cons pe_int pa_nil)) (by rfl))) (pss_one (ps_if (pt_cmpR op_eq (pv 7) pe_int (nomark _)) (pss_one (ps_par (i := 5) (j := 6) rfl sc_l_say.nd rfl rfl (by decide) rfl rfl (pa_cons (pe_call G_l_pick (hr.mono (by decide)) (by rfl) T.g_l_pick T.F_l_pick.kp T.b_l_pick .nil pass0 (pa_cons (pv 0) (pa_cons (pe_lst (pa_cons pe_int (pa_cons pe_int (pa_cons pe_int (pa_cons pe_int (pa_cons pe_int (pa_cons pe_int pa_nil))))))) pa_nil))) (pa_cons (pe_call G_l_draw (hr.mono (by decide)) (by rfl) T.g_l_draw T.F_l_draw.kp T.b_l_draw .nil pass0 (pa_cons (pv 0) (pa_cons pe_int pa_nil))) pa_nil)) (by rfl))) (pss_one (ps_if (pt_cmpR op_eq (pv 7) pe_int (nomark _)) (pss_cons (ps_set (i := 6) sc_l_say.nd rfl (Or.inl rfl) (pe_call G_l_pick (hr.mono (by decide)) (by rfl) T.g_l_pick T.F_l_pick.kp T.b_l_pick .nil pass0 (pa_cons (pv 0) (pa_cons (pe_lst (pa_cons (pe_op op_sub (pe_dget (Nat.lt_of_le_of_lt (Nat.add_le_add_left (by decide) _) hr.units) (pv 1) pe_str (fun _ _ => rfl)) (pe_dget (Nat.lt_of_le_of_lt (Nat.add_le_add_left (by decide) _) hr.units) (pv 4) pe_str (fun _ _ => rfl))) (pa_cons (pe_dget (Nat.lt_of_le_of_lt (Nat.add_le_add_left (by decide) _) hr.units) (pv 1) pe_str (fun _ _ => rfl)) (pa_cons (pe_op op_add (pe_op op_sub (pe_dget (Nat.lt_of_le_of_lt (Nat.add_le_add_left (by decide) _) hr.units) (pv 1) pe_str (fun _ _ => rfl)) (pe_dget (Nat.lt_of_le_of_lt (Nat.add_le_add_left (by decide) _) hr.units) (pv 4) pe_str (fun _ _ => rfl))) pe_int) pa_nil)))) pa_nil))))
  (pss_one (ps_set (i := 6) sc_l_say.nd rfl (Or.inl rfl) (pe_op op_add (pv 6) (pe_op op_mul (pe_op op_add pe_int (pe_call G_l_draw (hr.mono (by decide)) (by rfl) T.g_l_draw T.F_l_draw.kp T.b_l_draw .nil pass0 (pa_cons (pv 0) (pa_cons pe_int pa_nil)))) (pe_callTy call_int1 (by rfl) T.z_int (by decide +kernel) (pa_cons (pe_cmpR op_eq (pe_call G_l_draw (hr.mono (by decide)) (by rfl) T.g_l_draw T.F_l_draw.kp T.b_l_draw .nil pass0 (pa_cons (pv 0) (pa_cons pe_int pa_nil))) pe_int (nomark _)) pa_nil))))))) (pss_one (ps_set (i := 6) sc_l_say.nd rfl (Or.inl rfl) (pe_callB (call_max2 rfl) (by rfl) T.z_max (by decide +kernel) (pa_cons pe_int (pa_cons (pe_op op_sub (pe_op op_sub (pe_op op_add (pv 6) (pe_call G_l_draw (hr.mono (by decide)) (by rfl) T.g_l_draw T.F_l_draw.kp T.b_l_draw .nil pass0 (pa_cons (pv 0) (pa_cons pe_int pa_nil)))) pe_int) (pe_op op_mul (pe_dget (Nat.lt_of_le_of_lt (Nat.add_le_add_left (by decide) _) hr.units) (pv 4) pe_str (fun _ _ => rfl)) (pe_callTy call_int1 (by rfl) T.z_int (by decide +kernel) (pa_cons (pe_cmpR op_eq (pv 7) pe_int (nomark _)) pa_nil)))) pa_nil))))))))))
  (pss_cons (ps_dput (hu_of hr) (pv 2) (pv 3) (pe_op op_add (pe_dget2 (hu_of hr) (pv 2) (pv 3) pe_int ⟨rfl, rfl, rfl, rfl⟩) pe_int) rfl)
  (pss_one (ps_ret (pe_tup (pa_cons pe_str (pa_cons (pe_dget (Nat.lt_of_le_of_lt (Nat.add_le_add_left (by decide) _) hr.units) (pv 2) (pv 3) (fun _ _ => rfl)) (pa_cons (pv 5) (pa_cons (pe_ifExp (pt_cmpR op_eq (pv 7) pe_int (nomark _)) (pe_callB (call_max2 rfl) (by rfl) T.z_max (by decide +kernel) (pa_cons (pv 6) (pa_cons pe_int pa_nil))) (pe_callB (call_min2 rfl) (by rfl) T.z_min (by decide +kernel) (pa_cons (pe_callB (call_max2 rfl) (by rfl) T.z_max (by decide +kernel) (pa_cons (pv 6) (pa_cons pe_int pa_nil))) (pa_cons (pe_dget (Nat.lt_of_le_of_lt (Nat.add_le_add_left (by decide) _) hr.units) (pv 1) pe_str (fun _ _ => rfl)) pa_nil)))) pa_nil)))))))))))), ?_⟩
    obtain ⟨a, hv, be, co, hva, hen, hMa, hh, hok⟩ := md.each i k _ hi
    have lk : ∀ {B' R0 H'}, Wld s c B' (R0 :: Rs) H' → Ex M H' := fun W' => W'.ex M (List.mem_cons_of_mem _ hM)
    have hval : valV (intK (h.doors.map (·.1)) us) (.inl k) = some (.ref a) := intK_at md.nd (by rw [List.getElem?_map, hi]; rfl) hva
    have gd : DGet H dA (.int k) (some (.ref a)) := .inl ⟨_, .inl k, .inl (lk W _ _ md.doors), rfl, hval.symm⟩
    refine ⟨_, rfl, m, _, rfl, gS mv_doors (.inl (lk W _ _ md.self)), _, rfl, dA, _, rfl, gd, ?_⟩
    dsimp only
    show tSeq _ _ _ _ _
    refine ⟨_, rfl, m, _, rfl, gS mv_place (.inl (lk W _ _ md.self)), pt, _, rfl, SqT.of (W.w.ex _ _ hpt), rfl, _, _, rfl, _, _, rfl, rfl, ?_⟩
    dsimp only
    show tSeq _ _ _ _ _
    refine ⟨_, rfl, s, c, 6, rfl, W.st, by decide, by decide, fun way H1 w0 w1 st1 of1 => ?_⟩
    have W1 := W.drawn st1 of1
    clear gd W
    dsimp only
    show tSeq _ _ _ _ _
    refine seq_mid (fun σ H' => ∃ r f B', σ = [some (.ref s), some (.ref m), some (.ref nA), some (.int k), some (.ref a), some (.int r), some (.int f), some (.int way)] ∧ Ex B B' ∧ Wld s c B' (one nA (.dK kns) :: Rs) H') (fun N hN => ?_) ?_
    · refine go_T (et_test (ev_op (ev_var rfl) ev_c (rv_eq rfl))) (fun H2 e2 => ?_)
      have W2 := W1.ext e2
      refine ite2 (fun c0 => ?_) (fun c0 => ?_)
      · exact ⟨_, rfl, a, _, rfl, gS dv_beyond (.inl (lk W2 _ _ hMa)), _, _, rfl, hN _ _ ⟨_, _, B, rfl, Ex.refl _, W2⟩⟩
      refine go_T (et_test (ev_op (ev_var rfl) ev_c (rv_eq rfl))) (fun H3 e3 => ?_)
      have W3 := W2.ext e3
      refine ite2 (fun c1 => ?_) (fun c1 => ?_)
      · refine ⟨_, rfl, by show 6 ≤ sizeLine; decide, fun L hL => ?_⟩
        refine pickI (ns := [0, 3, 4, 5, 7, 999]) W3 (by decide) (by decide) (fun r _ H4 W4 => ?_) L hL
        exact ⟨_, rfl, s, c, 9, rfl, W4.st, by decide, by decide, fun f H5 f0 f1 st5 of5 => ⟨_, _, rfl, hN _ _ ⟨r, f, B, rfl, Ex.refl _, W4.drawn st5 of5⟩⟩⟩
      refine go_T (et_test (ev_op (ev_var rfl) ev_c (rv_eq rfl))) (fun H4 e4 => ?_)
      have W4 := W3.ext e4
      refine ite2 (fun c2 => ?_) (fun c2 => ?_)
      · have m4 := lk W4 _ _ md.self
        have a4 := lk W4 _ _ hMa
        refine ⟨_, rfl, _, rfl, m, _, rfl, gS mv_most (.inl m4), _, rfl, a, _, rfl, gS dv_cost (.inl a4), _, _, rfl, rfl, _, rfl, m, _, rfl, gS mv_most (.inl m4), _, rfl, m, _, rfl, gS mv_most (.inl m4), _, rfl, a, _, rfl, gS dv_cost (.inl a4), _, _, rfl, rfl, _, _, rfl, rfl, by show 3 ≤ sizeLine; decide, fun L hL => ?_⟩
        refine pickI (ns := [h.most - co, h.most, h.most - co + 1]) W4 (by show 0 < 3; decide) (by show 3 ≤ 1000; decide) (fun f1 _ H5 W5 => ?_) L hL
        dsimp only
        refine ⟨_, rfl, _, rfl, s, c, 40, rfl, W5.st, by decide, by decide, fun d1 H6 d10 d11 st6 of6 => ⟨_, _, rfl, rfl, ?_⟩⟩
        have W6 := W5.drawn st6 of6
        refine ⟨_, rfl, s, c, 3, rfl, W6.st, by decide, by decide, fun d2 H7 d20 d21 st7 of7 => ⟨rfl, .inr ⟨_, rfl, _, _, rfl, rfl, .inl ⟨by omega, by omega⟩, _, _, rfl, rfl, hN _ _ ⟨_, _, B, rfl, Ex.refl _, W6.drawn st7 of7⟩⟩⟩⟩
      · refine ⟨_, rfl, _, rfl, s, c, 5, rfl, W4.st, by decide, by decide, fun d1 H5 d10 d11 st5 of5 => ?_⟩
        have W5 := W4.drawn st5 of5
        exact ⟨_, _, rfl, rfl, _, _, rfl, rfl, _, rfl, a, _, rfl, gS dv_cost (.inl (lk W5 _ _ hMa)), _, rfl, rfl, .inr ⟨_, rfl, _, _, rfl, rfl, .inr (by split <;> decide), _, _, rfl, rfl, _, _, rfl, hN _ _ ⟨_, _, B, rfl, Ex.refl _, W5⟩⟩⟩
    · rintro σ H2 ⟨r, f, B', rfl, eB, W2⟩
      show tSeq _ _ _ _ _
      obtain ⟨m0, hm0⟩ := inn.get (Sum.inl k)
      refine ⟨_, rfl, nA, rfl, .inl ⟨_, .inl W2.at_⟩, _, rfl, _, DGet.k (k := Sum.inl k) W2.at_, m0, 1, hm0, rfl, ?_⟩
      refine ⟨_, rfl, _, rfl, nA, _, rfl, DPut.k (k := Sum.inl k) W2.at_ (len_lt (by omega)), ?_⟩
      have W3 := W2.put (o' := .dK (putK kns (Sum.inl k) (.int (m0 + 1))))
      have inn2 := inn.put (Sum.inl k) (m0 + 1)
      have nl' := length_putK kns (Sum.inl k) (.int (m0 + 1))
      have lookn : valV (putK kns (Sum.inl k) (.int (m0 + 1))) (Sum.inl k) = some (.int (m0 + 1)) := by rw [valV_put, if_pos rfl]
      generalize upd H2 nA (.dK (putK kns (Sum.inl k) (.int (m0 + 1)))) = H3 at W3 ⊢
      generalize putK kns (Sum.inl k) (.int (m0 + 1)) = kns' at W3 inn2 nl' lookn
      have gn : DGet H3 nA (.int k) (some (.int (m0 + 1))) := by rw [← lookn]; exact DGet.k (k := Sum.inl k) W3.at_
      have fin : ∀ f' t, H3 t = none → Q (.ref t) (upd H3 t (.tup (Lt.say (m0 + 1) r f').vs)) := fun f' t ht =>
        q (m0 + 1) r f' kns' _ t _ (eB.trans (Ex.new (W3.none ht))) (W3.newK ht) inn2 (by omega) upd_same
      refine ⟨_, rfl, _, rfl, nA, _, rfl, gn, _, rfl, _, rfl, rfl, _, rfl, ite2 (fun _ => ?_) (fun _ => ?_)⟩
      · exact ⟨_, rfl, _, _, rfl, by show 4 ≤ sizeLine; decide, fun t ht => fin _ t ht⟩
      · exact ⟨_, rfl, _, _, rfl, _, rfl, m, _, rfl, gS mv_most (.inl (lk W3 _ _ md.self)), _, _, rfl, by show 4 ≤ sizeLine; decide, fun t ht => fin _ t ht⟩
theorem ok_agreeM (T : Tx K mg) : FnOk P w K mg base CX0 3 T.a_l_agree T.d_l_agree ["_law_state", "_law_model", "_law_link"] sp_agreeM := by
  have G_l_draw := ok_draw (P := P) (w := w) (base := base) T
  have G_l_pick := ok_pick (P := P) (w := w) (base := base) T
  refine T.F_l_agree.ok sc_l_agree (fun vs H Q E h => ?_) (fun cdv A outer s0 H vs Q E hr h => ?_)
  · obtain ⟨_, _, _, _, _, _, _, _, _, _, _, _, _, rfl, _⟩ := h
    rfl
  · obtain ⟨s, c, m, dA, pt, B, M, Rs, h, us, i, k, dr, rfl, W, hM, md, hi, sd, q⟩ := h
    refine ⟨_, (pss_cons (ps_set (i := 3) sc_l_agree.nd rfl (Or.inl rfl) (pe_dget (Nat.lt_of_le_of_lt (Nat.add_le_add_left (by decide) _) hr.units) (pe_dget (Nat.lt_of_le_of_lt (Nat.add_le_add_left (by decide) _) hr.units) (pv 1) pe_str (fun _ _ => rfl)) (pv 2) (fun _ _ => rfl)))
  (pss_cons (ps_set (i := 4) sc_l_agree.nd rfl (Or.inl rfl) (pe_lst (pa_cons (pe_dget (Nat.lt_of_le_of_lt (Nat.add_le_add_left (by decide) _) hr.units) (pv 3) pe_str (fun _ _ => rfl)) (pa_cons (pe_dget (Nat.lt_of_le_of_lt (Nat.add_le_add_left (by decide) _) hr.units) (pv 3) pe_str (fun _ _ => rfl)) (pa_cons (pe_op op_sub (pe_dget (Nat.lt_of_le_of_lt (Nat.add_le_add_left (by decide) _) hr.units) (pv 3) pe_str (fun _ _ => rfl)) pe_int) (pa_cons (pe_op op_add pe_int (pe_call G_l_draw (hr.mono (by decide)) (by rfl) T.g_l_draw T.F_l_draw.kp T.b_l_draw .nil pass0 (pa_cons (pv 0) (pa_cons (pe_callB (call_max2 rfl) (by rfl) T.z_max (by decide +kernel) (pa_cons pe_int (pa_cons (pe_dget (Nat.lt_of_le_of_lt (Nat.add_le_add_left (by decide) _) hr.units) (pv 3) pe_str (fun _ _ => rfl)) pa_nil))) pa_nil)))) pa_nil))))))
  (pss_one (ps_ret (pe_tup (pa_cons pe_str (pa_cons (pe_callB (call_min2 rfl) (by rfl) T.z_min (by decide +kernel) (pa_cons (pe_callB (call_max2 rfl) (by rfl) T.z_max (by decide +kernel) (pa_cons pe_int (pa_cons (pe_call G_l_pick (hr.mono (by decide)) (by rfl) T.g_l_pick T.F_l_pick.kp T.b_l_pick .nil pass0 (pa_cons (pv 0) (pa_cons (pv 4) pa_nil))) pa_nil))) (pa_cons (pe_dget (Nat.lt_of_le_of_lt (Nat.add_le_add_left (by decide) _) hr.units) (pv 3) pe_str (fun _ _ => rfl)) pa_nil))) pa_nil))))))), ?_⟩
    obtain ⟨a, hv, be, co, hva, hen, hMa, hh, hok⟩ := md.each i k _ hi
    have lk : ∀ {B' H'}, Wld s c B' Rs H' → Ex M H' := fun W' => W'.ex M hM
    have hval : valV (intK (h.doors.map (·.1)) us) (.inl k) = some (.ref a) := intK_at md.nd (by rw [List.getElem?_map, hi]; rfl) hva
    have gd : DGet H dA (.int k) (some (.ref a)) := .inl ⟨_, .inl k, .inl (lk W _ _ md.doors), rfl, hval.symm⟩
    refine ⟨_, rfl, m, _, rfl, gS mv_doors (.inl (lk W _ _ md.self)), _, rfl, dA, _, rfl, gd, ?_⟩
    dsimp only
    show tSeq _ _ _ _ _
    have ha := lk W _ _ hMa
    refine ⟨_, rfl, a, _, rfl, gS dv_said (.inl ha), _, rfl, a, _, rfl, gS dv_since (.inl ha), _, rfl, a, _, rfl, gS dv_since (.inl ha), _, _, rfl, rfl, ?_⟩
    refine ⟨_, rfl, _, rfl, a, _, rfl, gS dv_said (.inl ha), _, _, rfl, s, c, _, rfl, W.st, by split <;> omega, by split <;> omega, fun d H1 d0 d1 st1 of1 => ⟨_, _, rfl, rfl, by show 4 ≤ sizeLine; decide, fun L hL => ?_⟩⟩
    have W1 := W.drawn st1 of1
    dsimp only
    refine ⟨_, rfl, _, rfl, ?_⟩
    refine pickI (ns := [dr.said, dr.cf, dr.cf - 1, 1 + d]) W1 (by show 0 < 4; decide) (by show 4 ≤ 1000; decide) (fun n _ H2 W2 => ?_) L hL
    exact ⟨_, _, rfl, _, rfl, a, _, rfl, gS dv_said (.inl (lk W2 _ _ hMa)), _, _, rfl, by show 2 ≤ sizeLine; decide, fun t ht => q _ _ t _ (Ex.new (W2.none ht)) (W2.newK ht) upd_same (by split <;> omega)⟩
end
end K24

set_option maxHeartbeats 1000000
namespace K24
open PySem PySem.Spec PyProof.Rows L2 Evl MyG
/-! ### deeds drawn -/
def DeedAt (B : Hp) (t : Addr) (h : HSt) : Prop :=
  (∃ (i : Nat) (k : Int), h.doors[i]? = some (k, none) ∧ B t = some (.tup [.str "mend", .int k, .non])) ∨
  (∃ (i : Nat) (k : Int) (dr : Dr), h.doors[i]? = some (k, some dr) ∧ B t = some (.tup [.str "cut", .int k, .non])) ∨
  (∃ (i : Nat) (k : Int) (dr : Dr) (tl : Addr) (l : Lt), h.doors[i]? = some (k, some dr) ∧ B t = some (.tup [.str "take", .int k, .ref tl]) ∧ B tl = some (.tup l.vs))
theorem shapedI (ns : List Int) : SeqAt.shaped (.list (ns.map PyData.int)) = true := by
  have cl : PyData.canLay0 (.list (ns.map PyData.int)) = true := by
    simp only [PyData.canLay0]
    induction ns with
    | nil => rfl
    | cons x r ih => simp only [List.map_cons, PyData.canLayAll0, PyData.canLay0, ih, Bool.and_self]
  have dp : PyData.depthAll (ns.map PyData.int) = 0 := by
    induction ns with
    | nil => rfl
    | cons x r ih => 
      have := ih (by simp only [List.map_cons, PyData.canLay0, PyData.canLayAll0, Bool.and_eq_true] at cl ⊢; exact cl.2)
      simp only [List.map_cons, PyData.depthAll, PyData.depth, this]; rfl
  unfold SeqAt.shaped
  rw [cl, decide_eq_true (show PyData.depth (.list (ns.map PyData.int)) ≤ 64 by simp only [PyData.depth, dp]; decide)]
  rfl
theorem et_ne0 {K : PySem.W.Frag} {σ : L2.St} {H : Hp} {j : Nat} {D : Addr} {A : List Int} (hv : σ[j]? = some (some (.ref D))) (h : H D = some (.lst (A.map V.int))) : EvT (tTest (tOp (rNeD K) (tVar j) (tLst tNil))) σ H (!decide (A = [])) :=
  fun H1 e1 Q q => ⟨_, hv, Nat.zero_le _, fun p hp => ⟨.list (A.map .int), .list (([] : List Int).map .int), .lst (SqL.of ((Ex.new hp) _ _ (e1 _ _ h))) (dp_ints A), .lst (SqL.of upd_same) .nil, shapedI A, rfl, _, rfl, by rw [eqv_ints]; exact q _ (Ex.new hp)⟩⟩
theorem et_eq0 {K : PySem.W.Frag} {σ : L2.St} {H : Hp} {j : Nat} {D : Addr} {A : List Int} (hv : σ[j]? = some (some (.ref D))) (h : H D = some (.lst (A.map V.int))) : EvT (tTest (tOp (rEqD K) (tVar j) (tLst tNil))) σ H (decide (A = [])) :=
  fun H1 e1 Q q => ⟨_, hv, Nat.zero_le _, fun p hp => ⟨.list (A.map .int), .list (([] : List Int).map .int), .lst (SqL.of ((Ex.new hp) _ _ (e1 _ _ h))) (dp_ints A), .lst (SqL.of upd_same) .nil, shapedI A, rfl, _, rfl, by rw [eqv_ints]; exact q _ (Ex.new hp)⟩⟩
theorem pickK {s c D : Addr} {B H0 : Hp} {Rs : List Hp} {ns : List Int} {Qk : VK} (W : Wld s c B Rs H0) (hB : B D = some (.lst (ns.map V.int))) (l0 : 0 < ns.length) (l1 : ns.length ≤ 1000) (k : ∀ i ∈ ns, ∀ H', Wld s c B Rs H' → Qk (.int i) H') : sp_pick [.ref s, .ref D] H0 Qk E0 := by
  refine ⟨s, c, D, _, rfl, W.st, W.w.ex _ _ hB, (fun z => by rw [z, W.w.ns] at hB; cases hB), (fun z => by rw [z, W.w.nc] at hB; cases hB), by rw [List.length_map]; exact l0, by rw [List.length_map]; omega, fun j x H' hx st of => ?_⟩
  obtain ⟨i, hi, rfl⟩ : ∃ i ∈ ns, V.int i = x := List.mem_map.mp (List.mem_of_getElem? hx)
  exact k i hi H' (W.drawn st of)
/-- a deed that can be done; an agree is to a number that was said -/
def DeedOk (B : Hp) (t : Addr) (h : HSt) : Prop := DeedAt B t h ∧ ∀ (k : Int) (tl : Addr) (n : Int), B t = some (.tup [.str "take", .int k, .ref tl]) → B tl = some (.tup (Lt.agree n).vs) → ∃ (i : Nat) (dr : Dr), h.doors[i]? = some (k, some dr) ∧ n ≤ dr.said
theorem DeedOk.mend {B : Hp} {t : Addr} {h : HSt} {i : Nat} {k : Int} (hi : h.doors[i]? = some (k, none)) (ht : B t = some (.tup [.str "mend", .int k, .non])) : DeedOk B t h := ⟨.inl ⟨i, k, hi, ht⟩, fun k' tl n q => by rw [ht] at q; cases q⟩
theorem DeedOk.cut {B : Hp} {t : Addr} {h : HSt} {i : Nat} {k : Int} {dr : Dr} (hi : h.doors[i]? = some (k, some dr)) (ht : B t = some (.tup [.str "cut", .int k, .non])) : DeedOk B t h := ⟨.inr (.inl ⟨i, k, dr, hi, ht⟩), fun k' tl n q => by rw [ht] at q; cases q⟩
theorem DeedOk.take {B : Hp} {t tl : Addr} {h : HSt} {i : Nat} {k : Int} {dr : Dr} {l : Lt} (hi : h.doors[i]? = some (k, some dr)) (ht : B t = some (.tup [.str "take", .int k, .ref tl])) (hl : B tl = some (.tup l.vs)) (hn : ∀ n, l = .agree n → n ≤ dr.said) : DeedOk B t h := ⟨.inr (.inr ⟨i, k, dr, tl, l, hi, ht, hl⟩), fun k' tl' n q1 q2 => by
  rw [ht] at q1
  injection q1 with q1
  injection q1 with q1
  obtain ⟨e1, e2⟩ : k = k' ∧ tl = tl' := by simpa using q1
  rw [← e2, hl] at q2
  cases l with
  | say m r f => simp [Lt.vs] at q2
  | agree m =>
    have : m = n := by simpa [Lt.vs] using q2
    exact ⟨i, dr, by rw [← e1]; exact hi, by rw [← this]; exact hn m rfl⟩⟩
def sp_deedM : Sp := fun vs H Q _ => ∃ (s c m nA dA pt : Addr) (B M : Hp) (Rs : List Hp) (h : HSt) (us : List V) (kns : List (Key × V)), vs = [.ref s, .ref m, .ref nA] ∧ Wld s c B (one nA (.dK kns) :: Rs) H ∧ M ∈ Rs ∧ MdlIn B M m dA h (.ref pt) us ∧ B pt = some (.tup (pairD h.st)) ∧ 0 < h.doors.length ∧ h.doors.length ≤ 20 ∧ (∀ k d, (k, some d) ∈ h.doors → d.said < 1073741824) ∧ Ints kns ∧ kns.length ≤ 1000 ∧
  ∀ kns' B' t H', Ex B B' → Wld s c B' (one nA (.dK kns') :: Rs) H' → Ints kns' → kns'.length ≤ kns.length + 1 → DeedOk B' t h → Q (.ref t) H'
section
variable {P : Program} {w : World} {K : PySem.W.Frag} {mg : Str → Option Value} {base : Heap}
theorem ok_deedM (T : Tx K mg) : FnOk P w K mg base CX0 4 T.a_l_deed T.d_l_deed ["_law_state", "_law_model", "_law_sent"] sp_deedM := by
  have G_l_draw := ok_draw (P := P) (w := w) (base := base) T
  have G_l_pick := ok_pick (P := P) (w := w) (base := base) T
  have G_l_say := ok_sayM (P := P) (w := w) (base := base) T
  have G_l_agree := ok_agreeM (P := P) (w := w) (base := base) T
  refine T.F_l_deed.ok sc_l_deed (fun vs H Q E h => ?_) (fun cdv A outer s0 H vs Q E hr h => ?_)
  · obtain ⟨_, _, _, _, _, _, _, _, _, _, _, _, rfl, _⟩ := h
    rfl
  · obtain ⟨s, c, m, nA, dA, pt, B, M, Rs, h, us, kns, rfl, W, hM, md, hpt, pos, few, sd, inn, nl, q⟩ := h
    refine ⟨_, (pss_cons (ps_set (i := 4) sc_l_deed.nd rfl (Or.inr rfl) (pe_lock (pe_lc (own := [("_law_link", 3), ("_law_door", 7)]) (g := (gTup K 2 (gCons (gName 3) (gCons (gName 7) gNil)))) rfl sc_l_deed.nd (pi_items (pe_dget (Nat.lt_of_le_of_lt (Nat.add_le_add_left (by decide) _) hr.units) (pv 1) pe_str (fun _ _ => rfl))) (blkOk_by (N := n_l_deed) (sc := defScope s_l_deed) (by decide +kernel)) (fun _ _ _ _ _ => (pg_tup rfl (pgs_cons (pg_name (i := 3) sc_l_deed.nd rfl (Or.inl rfl)) (pgs_cons (pg_name (i := 7) sc_l_deed.nd rfl (Or.inl rfl)) pgs_nil)))) (fun _ _ _ _ _ => (pts_one (pt_val (pe_dget (Nat.lt_of_le_of_lt (Nat.add_le_add_left (by decide) _) hr.units) (pv 7) pe_str (fun _ _ => rfl))))) (fun _ _ _ _ _ => (pv 3)))))
  (pss_cons (ps_lock (ps_setLc (i := 5) (own := [("_law_link", 3)]) (g := (gName 3)) rfl sc_l_deed.nd rfl rfl (sw_true rfl rfl rfl (by decide +kernel)) (pi_keys (pe_dget (Nat.lt_of_le_of_lt (Nat.add_le_add_left (by decide) _) hr.units) (pv 1) pe_str (fun _ _ => rfl))) (blkOk_by (N := n_l_deed) (sc := defScope s_l_deed) (by decide +kernel)) (fun _ _ _ _ _ => (pg_name (i := 3) sc_l_deed.nd rfl (Or.inl rfl))) (fun _ _ _ _ _ => (pts_one (pt_cmpR (op_niK (K := K) rfl) (pv 3) (pv 4) (by rfl)))) (fun _ _ _ _ _ => (pv 3))))
  (pss_cons (ps_set (i := 6) sc_l_deed.nd rfl (Or.inl rfl) (pe_call G_l_draw (hr.mono (by decide)) (by rfl) T.g_l_draw T.F_l_draw.kp T.b_l_draw .nil pass0 (pa_cons (pv 0) (pa_cons pe_int pa_nil))))
  (pss_cons (ps_if (PW.pt (pw_and (pt_cmpR (op_neK (K := K) rfl hr.units) (pv 5) (pe_lst pa_nil) (nomark _)) (pw_and1 (PW.pt (pw_or (pt_cmpR op_eq (pv 6) pe_int (nomark _)) (pw_or1 (pt_cmpR (op_eqK (K := K) rfl hr.units) (pv 4) (pe_lst pa_nil) (nomark _)))))))) (pss_one (ps_ret (pe_tup (pa_cons pe_str (pa_cons (pe_call G_l_pick (hr.mono (by decide)) (by rfl) T.g_l_pick T.F_l_pick.kp T.b_l_pick .nil pass0 (pa_cons (pv 0) (pa_cons (pv 5) pa_nil))) (pa_cons pe_non pa_nil)))))) pss_nil)
  (pss_cons (ps_set (i := 3) sc_l_deed.nd rfl (Or.inl rfl) (pe_call G_l_pick (hr.mono (by decide)) (by rfl) T.g_l_pick T.F_l_pick.kp T.b_l_pick .nil pass0 (pa_cons (pv 0) (pa_cons (pv 4) pa_nil))))
  (pss_cons (ps_if (pt_cmpR op_eq (pv 6) pe_int (nomark _)) (pss_one (ps_ret (pe_tup (pa_cons pe_str (pa_cons (pv 3) (pa_cons pe_non pa_nil)))))) pss_nil)
  (pss_cons (ps_if (pt_cmpR op_lt (pv 6) pe_int (nomark _)) (pss_one (ps_ret (pe_tup (pa_cons pe_str (pa_cons (pv 3) (pa_cons (pe_call G_l_say (hr.mono (by decide)) (by rfl) T.g_l_say T.F_l_say.kp T.b_l_say .nil pass0 (pa_cons (pv 0) (pa_cons (pv 1) (pa_cons (pv 2) (pa_cons (pv 3) pa_nil))))) pa_nil)))))) pss_nil)
  (pss_one (ps_ret (pe_tup (pa_cons pe_str (pa_cons (pv 3) (pa_cons (pe_call G_l_agree (hr.mono (by decide)) (by rfl) T.g_l_agree T.F_l_agree.kp T.b_l_agree .nil pass0 (pa_cons (pv 0) (pa_cons (pv 1) (pa_cons (pv 3) pa_nil)))) pa_nil))))))))))))), ?_⟩
    have hm := W.ex M (List.mem_cons_of_mem _ hM) _ _ md.self
    have hd := W.ex M (List.mem_cons_of_mem _ hM) _ _ md.doors
    have lk : (intK (h.doors.map (·.1)) us).length = h.doors.length := by rw [intK_len (by rw [List.length_map]; exact md.len), List.length_map]
    have rl : ∀ i, (runs (h.doors.take i)).length ≤ 20 := fun i => by
      have h1 : (runs (h.doors.take i)).length ≤ (h.doors.take i).length := List.length_filterMap_le ..
      rw [List.length_take] at h1
      omega
    refine ⟨dA, _, hd, True.intro, fun od => ?_⟩
    have hmL : (upd H dA (.frz od (.dK (intK (h.doors.map (·.1)) us)))) m = some (.dK (mdlKV h dA (.ref pt))) := by rw [upd_ne md.m_d]; exact hm
    have hdL : (upd H dA (.frz od (.dK (intK (h.doors.map (·.1)) us)))) dA = some (.frz od (.dK (intK (h.doors.map (·.1)) us))) := upd_same
    have aL : ∀ {a : Addr} {be co : Int} {hv : V} {x : Option Dr}, M a = some (.dK (drKV be co hv x)) → (upd H dA (.frz od (.dK (intK (h.doors.map (·.1)) us)))) a = some (.dK (drKV be co hv x)) := fun {a be co hv x} hh => by
      rw [upd_ne (md.a_d hh)]
      exact W.ex M (List.mem_cons_of_mem _ hM) _ _ hh
    have nL : ∀ x, (upd H dA (.frz od (.dK (intK (h.doors.map (·.1)) us)))) x = none → x ≠ dA ∧ H x = none := fun x hx => by
      by_cases z : x = dA
      · rw [z, upd_same] at hx
        cases hx
      · rw [upd_ne z] at hx
        exact ⟨z, hx⟩
    generalize hHL : upd H dA (.frz od (.dK (intK (h.doors.map (·.1)) us))) = HL at hmL hdL aL nL
    refine ⟨_, rfl, m, _, rfl, gS mv_doors (.inl hmL), dA, od, _, rfl, hdL, fun D hD => ?_⟩
    refine lc_it walk_items (fun i H' => Ex HL H' ∧ H' D = some (.lst (((runs (h.doors.take i)).map (·.1)).map V.int))) ⟨Ex.new hD, upd_same⟩ (fun i H' _ ⟨ex, _⟩ => ex _ _ hdL) ?_ ?_
    · rintro i x Ha Ha' hi ⟨ex, hDa⟩ ⟨T', x1, y1, rfl, hT, rfl, hx1, hy1⟩
      rw [lk] at hi
      obtain ⟨⟨k, x⟩, hkx⟩ : ∃ y, h.doors[i]? = some y := ⟨_, List.getElem?_eq_getElem hi⟩
      obtain ⟨a, hv, be, co, hva, hen, hMa, hh, hok⟩ := md.each i k x hkx
      have hkv : (intK (h.doors.map (·.1)) us)[i]? = some (Sum.inl k, .ref a) := by
        unfold intK
        rw [List.getElem?_zipWith, List.getElem?_map, hkx, hva]
        rfl
      dsimp only at hx1 hy1
      rw [hkv] at hx1 hy1
      obtain rfl : V.int k = x1 := Option.some.inj hx1
      obtain rfl : V.ref a = y1 := Option.some.inj hy1
      have eT := Ex.new (o := .tup [.int k, .ref a]) hT
      have ha := eT _ _ (ex _ _ (aL hMa))
      have hDT := eT _ _ hDa
      have sn := runs_take hkx
      refine ⟨T', _, rfl, SqT.of upd_same, rfl, _, _, rfl, _, _, rfl, rfl, rfl, ?_⟩
      cases x with
      | none =>
        refine ⟨_, rfl, a, _, rfl, gS dv_runs (.inl ha), _, rfl, iteF ⟨ex.trans eT, ?_⟩⟩
        rw [sn, hDT]
        simp
      | some d =>
        refine ⟨_, rfl, a, _, rfl, gS dv_runs (.inl ha), _, rfl, iteT ⟨_, rfl, _, hDT, len_lt (by rw [List.length_map, List.length_map]; have := rl i; omega), (ex.trans eT).mut hD, ?_⟩⟩
        rw [upd_same, sn]
        simp
    rintro Hb ⟨ex, hDb⟩
    rw [lk, List.take_length] at hDb
    refine ⟨ex _ _ hdL, ?_⟩
    rw [← hHL] at ex
    have e1 := unlock_ex hd ex
    obtain ⟨Dd, hD0⟩ := nL D hD
    have hDc : (upd Hb dA (.dK (intK (h.doors.map (·.1)) us))) D = some (.lst (((runs h.doors).map (·.1)).map V.int)) := by rw [upd_ne Dd]; exact hDb
    have W1 := W.knew e1 hD0 hDc
    have eB1 : Ex B (upd B D (.lst (((runs h.doors).map (·.1)).map V.int))) := Ex.new (W.none hD0)
    have hD1 : (upd B D (.lst (((runs h.doors).map (·.1)).map V.int))) D = some (.lst (((runs h.doors).map (·.1)).map V.int)) := upd_same
    have rlen : ((runs h.doors).map (·.1)).length ≤ 20 := by
      have := rl h.doors.length
      rw [List.take_length] at this
      rw [List.length_map]
      exact this
    have rmem : ∀ k ∈ (runs h.doors).map (·.1), ∃ (i : Nat) (dr : Dr), h.doors[i]? = some (k, some dr) := fun k hk => by
      obtain ⟨⟨k', d⟩, hm, rfl⟩ := List.mem_map.mp hk
      obtain ⟨i, hi⟩ := List.getElem?_of_mem (runs_mem.mp hm)
      exact ⟨i, d, hi⟩
    have rmem2 : ∀ (i : Nat) (k : Int) (d : Dr), h.doors[i]? = some (k, some d) → k ∈ (runs h.doors).map (·.1) := fun i k d hi => List.mem_map.mpr ⟨(k, d), runs_mem.mpr (List.mem_of_getElem? hi), rfl⟩
    generalize (runs h.doors).map (·.1) = R at hDc W1 eB1 hD1 rlen rmem rmem2
    generalize upd B D (.lst (R.map V.int)) = B1 at W1 eB1 hD1
    generalize upd Hb dA (.dK (intK (h.doors.map (·.1)) us)) = H1 at W1
    clear hmL hdL aL nL hDb ex e1 hDc hm hd
    clear hHL hD
    have hm1 := W1.ex M (List.mem_cons_of_mem _ hM) _ _ md.self
    have hd1 := W1.ex M (List.mem_cons_of_mem _ hM) _ _ md.doors
    dsimp only
    show tSeq _ _ _ _ _
    refine ⟨dA, _, hd1, True.intro, fun od2 => ?_⟩
    have hmL : (upd H1 dA (.frz od2 (.dK (intK (h.doors.map (·.1)) us)))) m = some (.dK (mdlKV h dA (.ref pt))) := by rw [upd_ne md.m_d]; exact hm1
    have hdL : (upd H1 dA (.frz od2 (.dK (intK (h.doors.map (·.1)) us)))) dA = some (.frz od2 (.dK (intK (h.doors.map (·.1)) us))) := upd_same
    have DL : (upd H1 dA (.frz od2 (.dK (intK (h.doors.map (·.1)) us)))) D = some (.lst (R.map V.int)) := by rw [upd_ne Dd]; exact W1.w.ex _ _ hD1
    have nL : ∀ x, (upd H1 dA (.frz od2 (.dK (intK (h.doors.map (·.1)) us)))) x = none → x ≠ dA ∧ H1 x = none := fun x hx => by
      by_cases z : x = dA
      · rw [z, upd_same] at hx
        cases hx
      · rw [upd_ne z] at hx
        exact ⟨z, hx⟩
    generalize hHL : upd H1 dA (.frz od2 (.dK (intK (h.doors.map (·.1)) us))) = HL2 at hmL hdL DL nL
    refine ⟨_, rfl, m, _, rfl, gS mv_doors (.inl hmL), dA, od2, rfl, .inl ⟨_, hdL, fun D2 hD2 => ?_⟩⟩
    refine lc_it walk_keys (fun i H' => Ex HL2 H' ∧ H' D2 = some (.lst ((((h.doors.map (·.1)).take i).filter fun k => decide (¬ k ∈ R)).map V.int))) ⟨Ex.new hD2, upd_same⟩ (fun i H' _ ⟨ex, _⟩ => ex _ _ hdL) ?_ ?_
    · rintro i x Hc Hc' hi ⟨ex, hc⟩ ⟨rfl, k, v, hk, rfl⟩
      obtain ⟨l, hl, _, rfl⟩ := intK_ix hk
      have sn := filt_take (f := fun k => decide (¬ k ∈ R)) hl
      have lf := List.length_filter_le (fun k => decide (¬ k ∈ R)) ((h.doors.map (·.1)).take i)
      rw [List.length_take, List.length_map] at lf
      refine ⟨rfl, ?_⟩
      refine ⟨_, rfl, _, rfl, D, _, rfl, .inl (SqL.of (ex _ _ DL)), rfl, all_flat R, _, rfl, ?_⟩
      rw [if_pos rfl, show inV (kV (Sum.inl l)) (R.map V.int) = decide (l ∈ R) from inV_ints l R]
      refine ite2 (fun hn => ?_) (fun hn => ?_)
      · have hn : ¬ l ∈ R := by simpa using hn
        refine ⟨_, rfl, _, hc, len_lt (by rw [List.length_map]; omega), ex.mut hD2, ?_⟩
        rw [upd_same, sn, if_pos (decide_eq_true hn), List.map_append]
        rfl
      · have hn : l ∈ R := by simpa using hn
        refine ⟨ex, ?_⟩
        rw [sn, if_neg (by simp [hn]), List.append_nil]
        exact hc
    rintro Hc ⟨ex, hc⟩
    rw [lk, show h.doors.length = (h.doors.map (·.1)).length from (List.length_map ..).symm, List.take_length] at hc
    refine ⟨ex _ _ hdL, ?_⟩
    rw [← hHL] at ex
    have e2 := unlock_ex hd1 ex
    obtain ⟨Dd2, hD20⟩ := nL D2 hD2
    have hD2c : (upd Hc dA (.dK (intK (h.doors.map (·.1)) us))) D2 = some (.lst (((h.doors.map (·.1)).filter fun k => decide (¬ k ∈ R)).map V.int)) := by rw [upd_ne Dd2]; exact hc
    have W2 := W1.knew e2 hD20 hD2c
    have eB2 : Ex B1 (upd B1 D2 (.lst (((h.doors.map (·.1)).filter fun k => decide (¬ k ∈ R)).map V.int))) := Ex.new (W1.none hD20)
    have hD2k : (upd B1 D2 (.lst (((h.doors.map (·.1)).filter fun k => decide (¬ k ∈ R)).map V.int))) D2 = some (.lst (((h.doors.map (·.1)).filter fun k => decide (¬ k ∈ R)).map V.int)) := upd_same
    have alen : ((h.doors.map (·.1)).filter fun k => decide (¬ k ∈ R)).length ≤ 20 := by
      have := List.length_filter_le (fun k => decide (¬ k ∈ R)) (h.doors.map (·.1))
      rw [List.length_map] at this
      omega
    have amem : ∀ k ∈ (h.doors.map (·.1)).filter (fun k => decide (¬ k ∈ R)), ∃ (i : Nat), h.doors[i]? = some (k, none) := fun k hk => by
      obtain ⟨h1, h2⟩ := List.mem_filter.mp hk
      obtain ⟨⟨k', x⟩, hm, rfl⟩ := List.mem_map.mp h1
      obtain ⟨i, hi⟩ := List.getElem?_of_mem hm
      have h3 : ¬ k' ∈ R := by simpa using h2
      cases x with
      | none => exact ⟨i, hi⟩
      | some d => exact absurd (rmem2 i k' d hi) h3
    have some_of : R = [] → (h.doors.map (·.1)).filter (fun k => decide (¬ k ∈ R)) ≠ [] := fun e z => by
      rw [e] at z
      have : (h.doors.map (·.1)).filter (fun k => decide (¬ k ∈ ([] : List Int))) = h.doors.map (·.1) := List.filter_eq_self.mpr fun a _ => by simp
      rw [this] at z
      have := congrArg List.length z
      rw [List.length_map] at this
      have : h.doors.length = 0 := this
      omega
    generalize (h.doors.map (·.1)).filter (fun k => decide (¬ k ∈ R)) = A at hD2c W2 eB2 hD2k alen amem some_of
    generalize upd B1 D2 (.lst (A.map V.int)) = B2 at W2 eB2 hD2k
    generalize upd Hc dA (.dK (intK (h.doors.map (·.1)) us)) = H2 at W2
    clear hmL hdL DL nL hc ex e2 hD2c hm1 hd1
    clear hHL hD2
    have eB := eB1.trans eB2
    have hD2b := eB2 _ _ hD1
    dsimp only
    show tSeq _ _ _ _ _
    refine ⟨_, rfl, s, c, 12, rfl, W2.st, by decide, by decide, fun way H3 w0 w1 st3 of3 => ?_⟩
    have W3 := W2.drawn st3 of3
    dsimp only
    show tSeq _ _ _ _ _
    refine go_T (et_and (et_ne0 rfl (W3.w.ex _ _ hD2k)) (fun _ => et_or (et_test (ev_op (ev_var rfl) ev_c (rv_eq rfl))) (fun _ => et_eq0 rfl (W3.w.ex _ _ hD2b)))) (fun H4 e4 => ?_)
    have W4 := W3.ext e4
    refine ite2 (fun cc => ?_) (fun cc => ?_)
    · have an : 0 < A.length := by
        cases A with
        | nil => simp at cc
        | cons _ _ => exact Nat.succ_pos _
      refine ⟨_, rfl, _, rfl, pickK W4 hD2k an (by omega) (fun k hk H5 W5 => ⟨by show 3 ≤ sizeLine; decide, fun t ht => ?_⟩)⟩
      obtain ⟨i, hi⟩ := amem k hk
      exact q kns _ t _ (eB.trans (Ex.new (W5.none ht))) (W5.newK ht) inn (by omega) (.mend hi upd_same)
    refine un_next ?_
    have rn : 0 < R.length := by
      cases R with
      | nil => exact absurd (by simp [some_of rfl]) cc
      | cons _ _ => exact Nat.succ_pos _
    show tSeq _ _ _ _ _
    refine ⟨_, rfl, _, rfl, pickK W4 hD2b rn (by omega) (fun k hk H5 W5 => ?_)⟩
    obtain ⟨i, dr, hi⟩ := rmem k hk
    dsimp only
    show tSeq _ _ _ _ _
    refine go_T (et_test (ev_op (ev_var rfl) ev_c (rv_eq rfl))) (fun H6 e6 => ite2 (fun _ => ?_) (fun _ => un_next ?_))
    · have W6 := W5.ext e6
      exact ⟨_, rfl, by show 3 ≤ sizeLine; decide, fun t ht => q kns _ t _ (eB.trans (Ex.new (W6.none ht))) (W6.newK ht) inn (by omega) (.cut hi upd_same)⟩
    have W6 := W5.ext e6
    show tSeq _ _ _ _ _
    refine go_T (et_test (ev_op (ev_var rfl) ev_c rv_I0)) (fun H7 e7 => ite2 (fun _ => ?_) (fun _ => un_next ?_))
    · have W7 := (W6.ext e7).less eB
      exact ⟨_, rfl, _, rfl, _, rfl, _, rfl, _, rfl, s, c, m, nA, dA, pt, B, M, Rs, h, us, kns, i, k, dr, rfl, W7, hM, md, hpt, hi, inn, nl, fun n r f kns' B' tl H8 eB' W8 inn' nl' htl => ⟨by show 3 ≤ sizeLine; decide, fun t ht => q kns' _ t _ (eB'.trans (Ex.new (W8.none ht))) (W8.newK ht) inn' nl' (.take (l := .say n r f) hi upd_same ((Ex.new (W8.none ht)) _ _ htl) (fun _ z => by cases z))⟩⟩
    · have W7 := (W6.ext e7).less eB
      exact ⟨_, rfl, _, rfl, _, rfl, _, rfl, s, c, m, dA, pt, B, M, one nA (.dK kns) :: Rs, h, us, i, k, dr, rfl, W7, List.mem_cons_of_mem _ hM, md, hi, sd k dr (List.mem_of_getElem? hi), fun n B' tl H8 eB' W8 htl nle => ⟨by show 3 ≤ sizeLine; decide, fun t ht => q kns _ t _ (eB'.trans (Ex.new (W8.none ht))) (W8.newK ht) inn (by omega) (.take (l := .agree n) hi upd_same ((Ex.new (W8.none ht)) _ _ htl) (fun _ z => by cases z; exact nle))⟩⟩
end
end K24

set_option maxHeartbeats 1000000
namespace K24
open PySem PySem.Spec PyProof.Rows L2 Evl MyG
/-! ### deeds done -/
theorem _root_.MyG.Wld.stepM {s c m dA pt z : Addr} {B M G M' H H' : Hp} {Rs : List Hp} {h : HSt} {ws xs : List V} (W : Wld s c B (M :: Rs) H) (k : StepM m dA B M H h ws G M' H' pt z xs) : Wld s c G (M' :: Rs) H' := by
  have W1 := W.chg k.chg
  have out : ∀ {x : Addr}, B x = none → H x ≠ none → G x = none := fun {x} h1 h2 => by
    cases q : G x with
    | none => rfl
    | some o =>
      rcases k.new x (by rw [q]; simp) with r | r
      · exact absurd h1 r
      · exact absurd r h2
  refine ⟨⟨k.exH, out W.w.ns ?_, out W.w.nc ?_, W1.st⟩, W1.ex, W1.off, fun R hR => ?_, W1.pw⟩
  · obtain ⟨o, h⟩ := W.st.s_some
    rw [h]
    simp
  · obtain ⟨o, h⟩ := W.st.c_some
    rw [h]
    simp
  · rcases List.mem_cons.mp hR with rfl | hR
    · exact k.dj
    · intro x
      cases q : R x with
      | none => exact .inr rfl
      | some o =>
        left
        have hm := List.mem_cons_of_mem M hR
        refine out ((W.dj R hm x).resolve_right (by rw [q]; simp)) ?_
        rw [W.ex R hm _ _ q]
        simp
theorem told_pre {C D S A p e d s2 z : Addr} {B M H G M' H1 : Hp} {po : Option Addr} {h1 : HSt} {xs ws' : List V} (k : StepD C D S A B M H p po e d (stepH h1) (stepP h1) G M' H1 s2 z xs ws') (few : h1.doors.length ≤ 20) : H1 z = some (.lst xs) ∧ PostsAt S A H1 xs (stepP h1) ∧ xs.length ≤ 1000 := by
  have l1 := Paired.length k.posts
  have l2 := stepP_len h1
  exact ⟨k.exH _ _ k.zG, Paired.mapP k.posts (fun v y ⟨t, b, a1, a2, a3⟩ => ⟨t, b, a1, k.exH _ _ a2, a3.ext k.exH⟩), by omega⟩
theorem done_end {s c m dA pt' z2 nA t t1 : Addr} {G G2 M' M2 M2' H1 H2 H3 : Hp} {Rs : List Hp} {kns : List (Key × V)} {h1 : HSt} {us ys zs : List V} {ps : List (Int × Lt)} (W : Wld s c G (M' :: one nA (.dK kns) :: M2 :: Rs) H1) (e2 : Ex H1 H2) (f1 : H1 t1 = none) (ht1 : H2 t1 = some (.lst ys)) (tn : ToldNew H1 H2 ys ps) (kM : StepM m dA G M2 H2 h1 us G2 M2' H3 pt' z2 zs) (ht : H3 t = none) :
    Wld s c G2 (one nA (.dK kns) :: M' :: M2' :: Rs) (upd H3 t (.tup [.ref t1, .ref z2])) ∧ (upd H3 t (.tup [.ref t1, .ref z2])) t1 = some (.lst ys) ∧ ToldAt (upd H3 t (.tup [.ref t1, .ref z2])) ys ps ∧ (upd H3 t (.tup [.ref t1, .ref z2])) z2 = some (.lst zs) ∧ ToldAt (upd H3 t (.tup [.ref t1, .ref z2])) zs (stepP h1) := by
  have W2 : Wld s c G (M2 :: M' :: one nA (.dK kns) :: Rs) H2 := (W.ext e2).perm ((List.Perm.cons _ (List.Perm.swap _ _ _)).trans (List.Perm.swap _ _ _))
  have W3 := W2.stepM kM
  have W4 : Wld s c G2 (one nA (.dK kns) :: M' :: M2' :: Rs) H3 := W3.perm (((List.Perm.cons _ (List.Perm.swap _ _ _)).trans (List.Perm.swap _ _ _)).trans (List.Perm.cons _ (List.Perm.swap _ _ _)))
  have eT : Ex H3 (upd H3 t (.tup [.ref t1, .ref z2])) := Ex.new ht
  have nw : ∀ {x : Addr} {o : HO}, H1 x = none → H2 x = some o → (upd H3 t (.tup [.ref t1, .ref z2])) x = some o := fun {x o} hx h2 => eT _ _ (kM.chg.frame x o (fresh_back (W.ex M2 (by simp)) hx) h2)
  exact ⟨W4.ext eT, nw f1 ht1, Paired.mapP tn fun v y ⟨t, b, a1, n1, n2, a2, a3⟩ => ⟨t, b, a1, nw n1 a2, nw n2 a3⟩, eT _ _ (kM.exH _ _ kM.zG), Paired.mapP kM.told fun v y ⟨t, b, a1, a2, a3⟩ => ⟨t, b, a1, eT _ _ (kM.exH _ _ a2), eT _ _ (kM.exH _ _ a3)⟩⟩
theorem lt_obj {S A b : Addr} {H : Hp} {l : Lt} (h : LtAt S A H b l) : ∃ o, H b = some o ∧ ∀ B : Hp, B b = some o → LtAt S A B b l := by
  cases l with
  | say n r f =>
    obtain ⟨dx, h⟩ := h
    exact ⟨_, h, fun B hb => ⟨dx, hb⟩⟩
  | agree n =>
    obtain ⟨dx, h⟩ := h
    exact ⟨_, h, fun B hb => ⟨dx, hb⟩⟩
def Next (h h' : HSt) : Prop :=
  (∃ (i : Nat) (k : Int) (dr : Dr) (l : Lt), h.doors[i]? = some (k, some dr) ∧ h' = takeH h i k dr l) ∨
  (∃ (i : Nat) (k : Int) (dr : Dr), h.doors[i]? = some (k, some dr) ∧ h' = cutH h i k) ∨
  (∃ (i : Nat) (k b c : Int), h.doors[i]? = some (k, none) ∧ h' = mendH h i k b c)
/-- what was done, by the word of the deed -/
def NextAt (B : Hp) (td : Addr) (h h' : HSt) : Prop := Next h h' ∧ ∀ (k : Int) (v : V), B td = some (.tup [.str "take", .int k, v]) → ∃ i k dr l, h' = takeH h i k dr l
def sp_doneM (C D : Addr) : Sp := fun vs H Q _ => ∃ (s c p e d s' m nA dA pt td : Addr) (B M M2 : Hp) (Rs : List Hp) (h : HSt) (po : Option Addr) (ws us : List V) (kns : List (Key × V)), vs = [.ref p, .ref m, .ref td, .ref nA] ∧ Wld s c B (one nA (.dK kns) :: M :: M2 :: Rs) H ∧ HallIn C D B M p h po e d s' ws ∧ MdlIn B M2 m dA h (.ref pt) us ∧ B pt = some (.tup (pairD h.st)) ∧ DeedAt B td h ∧ h.doors.length ≤ 20 ∧ Ints kns ∧ kns.length ≤ 1000 ∧
  ∀ h1 G kns' M' M2' H' pt' s2 t t1 xs ys ws', NextAt B td h h1 → Ex B G → Wld s c G (one nA (.dK kns') :: M' :: M2' :: Rs) H' → Ints kns' → kns'.length ≤ kns.length + 1 → HallIn C D G M' p (stepH h1) po e d s2 ws' → MdlIn G M2' m dA (stepH h1) (.ref pt') us → G pt' = some (.tup (pairD (stepH h1).st)) → (∃ z2, H' t = some (.tup [.ref t1, .ref z2]) ∧ H' t1 = some (.lst xs) ∧ ToldAt H' xs (stepP h1) ∧ H' z2 = some (.lst ys) ∧ ToldAt H' ys (stepP h1)) → Q (.ref t) H'
section
variable {P : Program} {w : World} {K : PySem.W.Frag} {mg : Str → Option Value} {base : Heap}
theorem ok_doneM (T : Tx K mg) : FnOk P w K mg base CX0 6 T.a_l_done T.d_l_done ["_law_one", "_law_model", "_law_deed_here", "_law_sent"] (sp_doneM T.c_Hall T.c_Door) := by
  have G_l_told := ok_toldP (P := P) (w := w) (base := base) T
  have G_l_letter := ok_letter (P := P) (w := w) (base := base) T
  have G_l_taken := ok_taken (P := P) (w := w) (base := base) T
  have G_l_cut := ok_cutM (P := P) (w := w) (base := base) T
  have G_l_mended := ok_mendM (P := P) (w := w) (base := base) T
  have G_Hall_take := ok_htake (P := P) (w := w) (base := base) T
  have G_Hall_cut := ok_hcut (P := P) (w := w) (base := base) T
  have G_Hall_mend := ok_hmend (P := P) (w := w) (base := base) T
  refine T.F_l_done.ok sc_l_done (fun vs H Q E h => ?_) (fun cdv A outer s0 H vs Q E hr h => ?_)
  · obtain ⟨_, _, _, _, _, _, _, _, _, _, _, _, _, _, _, _, _, _, _, _, rfl, _⟩ := h
    rfl
  · obtain ⟨s, c, p, e, d, s', m, nA, dA, pt, td, B, M, M2, Rs, h, po, ws, us, kns, rfl, W, hall, md, hpt, dd, few, inn, nl, q⟩ := h
    refine ⟨_, (pss_cons (ps_asg (pv 2) (pg_tup rfl (pgs_cons (pg_name (i := 4) sc_l_done.nd rfl (Or.inl rfl)) (pgs_cons (pg_name (i := 5) sc_l_done.nd rfl (Or.inl rfl)) (pgs_cons (pg_name (i := 6) sc_l_done.nd rfl (Or.inl rfl)) pgs_nil)))))
  (pss_cons (ps_if (pt_cmpR op_eq (pv 4) pe_str (nomark _)) (pss_one (ps_ret (pe_tup (pa_cons (pe_call G_l_told (hr.mono (by decide)) (by rfl) T.g_l_told T.F_l_told.kp T.b_l_told .nil pass0 (pa_cons (pe_meth (pv 0) T.cl_Hall T.me_Hall_take G_Hall_take (hr.mono (by decide)) T.b_Hall_take .nil pass0 (pa_cons (pv 5) (pa_cons (pe_call G_l_letter (hr.mono (by decide)) (by rfl) T.g_l_letter T.F_l_letter.kp T.b_l_letter .nil pass0 (pa_cons (pv 6) pa_nil)) pa_nil))) pa_nil)) (pa_cons (pe_call G_l_taken (hr.mono (by decide)) (by rfl) T.g_l_taken T.F_l_taken.kp T.b_l_taken .nil pass0 (pa_cons (pv 1) (pa_cons (pv 5) (pa_cons (pv 6) pa_nil)))) pa_nil))))) pss_nil)
  (pss_cons (ps_if (pt_cmpR op_eq (pv 4) pe_str (nomark _)) (pss_cons (ps_dput (hu_of hr) (pv 3) (pv 5) pe_int rfl)
  (pss_one (ps_ret (pe_tup (pa_cons (pe_call G_l_told (hr.mono (by decide)) (by rfl) T.g_l_told T.F_l_told.kp T.b_l_told .nil pass0 (pa_cons (pe_meth (pv 0) T.cl_Hall T.me_Hall_cut G_Hall_cut (hr.mono (by decide)) T.b_Hall_cut .nil pass0 (pa_cons (pv 5) pa_nil)) pa_nil)) (pa_cons (pe_call G_l_cut (hr.mono (by decide)) (by rfl) T.g_l_cut T.F_l_cut.kp T.b_l_cut .nil pass0 (pa_cons (pv 1) (pa_cons (pv 5) pa_nil))) pa_nil)))))) pss_nil)
  (pss_one (ps_ret (pe_tup (pa_cons (pe_call G_l_told (hr.mono (by decide)) (by rfl) T.g_l_told T.F_l_told.kp T.b_l_told .nil pass0 (pa_cons (pe_meth (pv 0) T.cl_Hall T.me_Hall_mend G_Hall_mend (hr.mono (by decide)) T.b_Hall_mend .nil pass0 (pa_cons (pv 5) pa_nil)) pa_nil)) (pa_cons (pe_call G_l_mended (hr.mono (by decide)) (by rfl) T.g_l_mended T.F_l_mended.kp T.b_l_mended .nil pass0 (pa_cons (pv 1) (pa_cons (pv 5) pa_nil))) pa_nil)))))))), ?_⟩
    obtain ⟨dx, hp⟩ := hall.self
    have un3 : ∀ {w : Str} {k : Int} {v : V}, B td = some (.tup [.str w, .int k, v]) → SqT K H td [.str w, .int k, v] := fun {w k v} h => SqT.of (W.w.ex _ _ h)
    rcases dd with ⟨i, k, hi, htd⟩ | ⟨i, k, dr, hi, htd⟩ | ⟨i, k, dr, tl, l, hi, htd, htl⟩
    · refine ⟨_, rfl, td, _, rfl, un3 htd, rfl, _, _, rfl, _, _, rfl, _, _, rfl, rfl, ?_⟩
      dsimp only
      show tSeq _ _ _ _ _
      refine go_T (et_test (ev_op (ev_var rfl) ev_c (rv_eq rfl))) (fun H0 e0 => ?_)
      rw [show decide (V.str "mend" = V.str "take") = false by decide +kernel]
      refine iteF (un_next ?_)
      show tSeq _ _ _ _ _
      refine go_T (et_test (ev_op (ev_var rfl) ev_c (rv_eq rfl))) (fun H00 e00 => ?_)
      rw [show decide (V.str "mend" = V.str "cut") = false by decide +kernel]
      refine iteF (un_next ?_)
      have W1 := ((W.ext e0).ext e00).swap
      obtain ⟨a, hv, be, co, _, hen, _⟩ := md.each i k none hi
      refine ⟨_, rfl, p, dx, _, rfl, W1.ex M (by simp) _ _ hp, (by cases po <;> rfl), _, rfl, p, B, M, h, po, e, d, s', ws, i, k, be, co, rfl, W1.w.ex, W1.ex M (by simp), W1.dj M (by simp), hall, few, hi, hen, fun G M' H1 s2 z xs ws' kD => ?_⟩
      have W2 := W1.step kD
      obtain ⟨hz, hps, lx⟩ := told_pre kD (by show (h.doors.set _ _).length ≤ 20; rw [List.length_set]; exact few)
      refine ⟨z, xs, _, rfl, hz, hps, lx, fun t1 ys H2 f1 e2 ht1 tn => ?_⟩
      have W3 := W2.ext e2
      refine ⟨_, rfl, _, rfl, m, dA, pt, G, M2, h, us, i, k, be, co, rfl, W3.w.ex, W3.ex M2 (by simp), W3.dj M2 (by simp), md.ext kD.exB, kD.exB _ _ hpt, few, hi, hen, fun G2 M2' H3 pt' z2 zs kM => ⟨by show 2 ≤ sizeLine; decide, fun t ht => ?_⟩⟩
      obtain ⟨Wf, a1, a2, a3, a4⟩ := done_end W2 e2 f1 ht1 tn kM ht
      exact q (mendH h i k be co) G2 kns M' M2' _ pt' s2 t t1 ys zs ws' ⟨.inr (.inr ⟨i, k, be, co, hi, rfl⟩), fun k' v z => by rw [htd] at z; cases z⟩ (kD.exB.trans kM.exB) Wf inn (by omega) (kD.hall.ext kM.exB) kM.mdl kM.pt ⟨z2, upd_same, a1, a2, a3, a4⟩
    · refine ⟨_, rfl, td, _, rfl, un3 htd, rfl, _, _, rfl, _, _, rfl, _, _, rfl, rfl, ?_⟩
      dsimp only
      show tSeq _ _ _ _ _
      refine go_T (et_test (ev_op (ev_var rfl) ev_c (rv_eq rfl))) (fun H0 e0 => ?_)
      rw [show decide (V.str "cut" = V.str "take") = false by decide +kernel]
      refine iteF (un_next ?_)
      show tSeq _ _ _ _ _
      refine go_T (et_test (ev_op (ev_var rfl) ev_c (rv_eq rfl))) (fun H00 e00 => ?_)
      rw [show decide (V.str "cut" = V.str "cut") = true by simp]
      refine iteT ?_
      have W0 := (W.ext e0).ext e00
      show tSeq _ _ _ _ _
      refine ⟨_, rfl, _, rfl, nA, _, rfl, DPut.k (k := Sum.inl k) W0.at_ (len_lt (by omega)), ?_⟩
      have W1 := (W0.put (o' := .dK (putK kns (Sum.inl k) (.int 0)))).swap
      have inn2 := inn.put (Sum.inl k) 0
      have nl' := length_putK kns (Sum.inl k) (.int 0)
      generalize upd H00 nA (.dK (putK kns (Sum.inl k) (.int 0))) = Hx at W1 ⊢
      generalize putK kns (Sum.inl k) (.int 0) = kns' at W1 inn2 nl'
      refine ⟨_, rfl, p, dx, _, rfl, W1.ex M (by simp) _ _ hp, (by cases po <;> rfl), _, rfl, p, B, M, h, po, e, d, s', ws, i, k, dr, rfl, W1.w.ex, W1.ex M (by simp), W1.dj M (by simp), hall, few, hi, fun G M' H1 s2 z xs ws' kD => ?_⟩
      have W2 := W1.step kD
      obtain ⟨hz, hps, lx⟩ := told_pre kD (by show (h.doors.set _ _).length ≤ 20; rw [List.length_set]; exact few)
      refine ⟨z, xs, _, rfl, hz, hps, lx, fun t1 ys H2 f1 e2 ht1 tn => ?_⟩
      have W3 := W2.ext e2
      refine ⟨_, rfl, _, rfl, m, dA, pt, G, M2, h, us, i, k, some dr, rfl, W3.w.ex, W3.ex M2 (by simp), W3.dj M2 (by simp), md.ext kD.exB, kD.exB _ _ hpt, few, hi, fun G2 M2' H3 pt' z2 zs kM => ⟨by show 2 ≤ sizeLine; decide, fun t ht => ?_⟩⟩
      obtain ⟨Wf, a1, a2, a3, a4⟩ := done_end W2 e2 f1 ht1 tn kM ht
      exact q (cutH h i k) G2 kns' M' M2' _ pt' s2 t t1 ys zs ws' ⟨.inr (.inl ⟨i, k, dr, hi, rfl⟩), fun k' v z => by rw [htd] at z; cases z⟩ (kD.exB.trans kM.exB) Wf inn2 (by omega) (kD.hall.ext kM.exB) kM.mdl kM.pt ⟨z2, upd_same, a1, a2, a3, a4⟩
    · refine ⟨_, rfl, td, _, rfl, un3 htd, rfl, _, _, rfl, _, _, rfl, _, _, rfl, rfl, ?_⟩
      dsimp only
      show tSeq _ _ _ _ _
      refine go_T (et_test (ev_op (ev_var rfl) ev_c (rv_eq rfl))) (fun H0 e0 => ?_)
      rw [show decide (V.str "take" = V.str "take") = true by simp]
      refine iteT ?_
      have W1 := (W.ext e0).swap
      refine ⟨_, rfl, p, dx, _, rfl, W1.ex M (by simp) _ _ hp, (by cases po <;> rfl), _, rfl, _, rfl, tl, l, rfl, W1.w.ex _ _ htl, fun b Hb fb eb lt => ?_⟩
      obtain ⟨o, hb, mk⟩ := lt_obj lt
      have Wb := W1.knew eb fb hb
      have eBb : Ex B (upd B b o) := Ex.new (W1.none fb)
      have lb := mk (upd B b o) upd_same
      generalize upd B b o = Bb at Wb eBb lb
      refine ⟨p, b, Bb, M, h, po, e, d, s', ws, i, k, dr, l, rfl, Wb.w.ex, Wb.ex M (by simp), Wb.dj M (by simp), hall.ext eBb, few, hi, lb, fun G M' H1 s2 z xs kD => ?_⟩
      have W2 := Wb.step kD
      obtain ⟨hz, hps, lx⟩ := told_pre kD (by show (h.doors.set _ _).length ≤ 20; rw [List.length_set]; exact few)
      refine ⟨z, xs, _, rfl, hz, hps, lx, fun t1 ys H2 f1 e2 ht1 tn => ?_⟩
      have W3 := W2.ext e2
      have eG := eBb.trans kD.exB
      refine ⟨_, rfl, _, rfl, _, rfl, m, dA, pt, tl, G, M2, h, us, i, k, dr, l, rfl, W3.w.ex, W3.ex M2 (by simp), W3.dj M2 (by simp), md.ext eG, eG _ _ hpt, few, hi, W3.w.ex _ _ (eG _ _ htl), fun G2 M2' H3 pt' z2 zs kM => ⟨by show 2 ≤ sizeLine; decide, fun t ht => ?_⟩⟩
      obtain ⟨Wf, a1, a2, a3, a4⟩ := done_end W2 e2 f1 ht1 tn kM ht
      exact q (takeH h i k dr l) G2 kns M' M2' _ pt' s2 t t1 ys zs ws ⟨.inl ⟨i, k, dr, l, hi, rfl⟩, fun _ _ _ => ⟨i, k, dr, l, rfl⟩⟩ (eG.trans kM.exB) Wf inn (by omega) (kD.hall.ext kM.exB) kM.mdl kM.pt ⟨z2, upd_same, a1, a2, a3, a4⟩
end
end K24

set_option maxHeartbeats 1000000
namespace K24
open PySem PySem.Spec PyProof.Rows L2 Evl MyG
/-! ### what a step keeps -/
theorem step_mem {h : HSt} {k : Int} {d : Dr} (m : (k, some d) ∈ (stepH h).doors) : ∃ d0, (k, some d0) ∈ h.doors ∧ d = (writeH h k d0).1 := by
  obtain ⟨⟨k', x⟩, hx, e⟩ := List.mem_map.mp (show (k, some d) ∈ h.doors.map fun x => (x.1, x.2.map fun d => (writeH h x.1 d).1) from m)
  obtain ⟨rfl, e2⟩ := Prod.mk.inj e
  cases x with
  | none => cases e2
  | some d0 => exact ⟨d0, hx, (Option.some.inj e2).symm⟩
theorem write_said (h : HSt) (k : Int) (d : Dr) : (writeH h k d).1.said ≤ d.said + 1 := by
  obtain ⟨w1, _⟩ := writeM_parts h.own h.rule ((newSt h).1, (newSt h).2.1) (linkOf (newSt h)) h.st k d
  rw [show (writeH h k d).1 = _ from w1]
  dsimp only
  split <;> omega
theorem write_part (h : HSt) (k : Int) (d : Dr) : (writeH h k d).1.part ≠ none := by
  obtain ⟨w1, _⟩ := writeM_parts h.own h.rule ((newSt h).1, (newSt h).2.1) (linkOf (newSt h)) h.st k d
  rw [show (writeH h k d).1 = _ from w1]
  dsimp only
  simp
theorem step_part (h : HSt) : ∀ k d, (k, some d) ∈ (stepH h).doors → d.part ≠ none := fun k d m => by
  obtain ⟨d0, _, rfl⟩ := step_mem m
  exact write_part h k d0
theorem step_keys (h : HSt) : (stepH h).doors.map (·.1) = h.doors.map (·.1) := by
  show (h.doors.map fun x => (x.1, x.2.map fun d => (writeH h x.1 d).1)).map (·.1) = _
  rw [List.map_map]
  rfl
theorem next_keys {h h1 : HSt} (nx : Next h h1) : (stepH h1).doors.map (·.1) = h.doors.map (·.1) := by
  rw [step_keys]
  rcases nx with ⟨i, k, dr, l, hi, rfl⟩ | ⟨i, k, dr, hi, rfl⟩ | ⟨i, k, b, c, hi, rfl⟩ <;> exact map_set_same hi rfl
theorem mem_setD {ds : List (Int × Option Dr)} {i : Nat} {x y : Int × Option Dr} (m : y ∈ ds.set i x) : y ∈ ds ∨ y = x := List.mem_or_eq_of_mem_set m
theorem next_said {h h1 : HSt} {n : Int} (nx : Next h h1) (n0 : 0 ≤ n) (b : ∀ k d, (k, some d) ∈ h.doors → d.said ≤ n) : ∀ k d, (k, some d) ∈ (stepH h1).doors → d.said ≤ n + 1 := fun k d m => by
  obtain ⟨d0, m0, rfl⟩ := step_mem m
  have := write_said h1 k d0
  suffices d0.said ≤ n by omega
  rcases nx with ⟨i, k', dr, l, hi, rfl⟩ | ⟨i, k', dr, hi, rfl⟩ | ⟨i, k', b', c, hi, rfl⟩
  · rcases mem_setD (show (k, some d0) ∈ h.doors.set i (k', some (hearD dr l)) from m0) with q | q
    · exact b _ _ q
    · obtain ⟨_, e⟩ := Prod.mk.inj q
      have e := Option.some.inj e
      have hb := b _ _ (List.mem_of_getElem? hi)
      rw [e]
      cases l <;> exact hb
  · rcases mem_setD (show (k, some d0) ∈ h.doors.set i (k', none) from m0) with q | q
    · exact b _ _ q
    · obtain ⟨_, e⟩ := Prod.mk.inj q
      cases e
  · rcases mem_setD (show (k, some d0) ∈ h.doors.set i (k', some (newDr b' c)) from m0) with q | q
    · exact b _ _ q
    · obtain ⟨_, e⟩ := Prod.mk.inj q
      have e := Option.some.inj e
      rw [e]
      exact n0
theorem step_run {h : HSt} (a : ∀ x ∈ h.doors, x.2 ≠ none) : ∀ x ∈ (stepH h).doors, x.2 ≠ none := fun x m => by
  obtain ⟨y, hy, rfl⟩ := List.mem_map.mp (show x ∈ h.doors.map fun x => (x.1, x.2.map fun d => (writeH h x.1 d).1) from m)
  have := a y hy
  obtain ⟨k, z⟩ := y
  cases z with
  | none => exact absurd rfl this
  | some d => simp
theorem take_run {h : HSt} {i : Nat} {k : Int} {dr : Dr} {l : Lt} (a : ∀ x ∈ h.doors, x.2 ≠ none) : ∀ x ∈ (stepH (takeH h i k dr l)).doors, x.2 ≠ none := step_run fun x m => by
  rcases mem_setD (show x ∈ h.doors.set i (k, some (hearD dr l)) from m) with q | q
  · exact a x q
  · rw [q]
    simp
theorem ends_uniq {gs e1 e2 : List (Int × Int × Int)} (p1 : e1.Perm gs) (p2 : e2.Perm gs) (s1 : (e1.map (·.1)).Pairwise (· ≤ ·)) (s2 : (e2.map (·.1)).Pairwise (· ≤ ·)) (nd : (gs.map (·.1)).Nodup) : e1 = e2 := by
  have nd1 : (e1.map (·.1)).Nodup := (p1.map _).nodup_iff.mpr nd
  have inj : ∀ {l : List (Int × Int × Int)}, (l.map (·.1)).Nodup → ∀ a ∈ l, ∀ b ∈ l, a.1 = b.1 → a = b := fun {l} => by
    induction l with
    | nil => intro _ a ha; cases ha
    | cons x r ih =>
      intro n a ha b hb e
      rw [List.map_cons, List.nodup_cons] at n
      rcases List.mem_cons.mp ha with ea | ha'
      · rcases List.mem_cons.mp hb with eb | hb'
        · rw [ea, eb]
        · exact (n.1 (List.mem_map.mpr ⟨b, hb', by rw [← e, ea]⟩)).elim
      · rcases List.mem_cons.mp hb with eb | hb'
        · exact (n.1 (List.mem_map.mpr ⟨a, ha', by rw [e, eb]⟩)).elim
        · exact ih n.2 a ha' b hb' e
  exact (p1.trans p2.symm).eq_of_pairwise (le := fun a b => a.1 ≤ b.1) (fun a b ha hb h1 h2 => inj nd1 a ha b ((p1.trans p2.symm).mem_iff.mpr hb) (by omega)) (List.pairwise_map.mp s1) (List.pairwise_map.mp s2)
/-! ### what is told, as data -/
def ltD : Lt → PyData
  | .say n r f => .tuple [.str "say", .int n, .int r, .int f]
  | .agree n => .tuple [.str "agree", .int n]
def toldD (ps : List (Int × Lt)) : List PyData := ps.map fun y => .tuple [.int y.1, ltD y.2]
theorem dp_lt {K : PySem.W.Frag} {H : Hp} {b : Addr} {l : Lt} (hb : H b = some (.tup l.vs)) : Dp K H (.ref b) (ltD l) := by
  cases l with
  | say n r f => exact .tup (SqT.of hb) (.cons (.str _) (.cons (.int _) (.cons (.int _) (.cons (.int _) .nil))))
  | agree n => exact .tup (SqT.of hb) (.cons (.str _) (.cons (.int _) .nil))
theorem dp_told {K : PySem.W.Frag} {H : Hp} {xs : List V} {ps : List (Int × Lt)} (h : ToldAt H xs ps) : DpAll K H xs (toldD ps) := by
  induction h with
  | nil => exact .nil
  | cons hd _ ih =>
    obtain ⟨t, b, rfl, ht, hb⟩ := hd
    exact .cons (.tup (SqT.of ht) (.cons (.int _) (.cons (dp_lt hb) .nil))) ih
theorem eqv_told (ps : List (Int × Lt)) : PyData.eqv (.list (toldD ps)) (.list (toldD ps)) = true := by
  have : PyData.eqvAll (toldD ps) (toldD ps) = true := by
    unfold toldD
    induction ps with
    | nil => simp [PyData.eqvAll]
    | cons y ps ih =>
      rw [List.map_cons]
      unfold PyData.eqvAll
      rw [ih]
      obtain ⟨k, l⟩ := y
      cases l <;> simp [ltD, PyData.eqv, PyData.eqvAll]
  unfold PyData.eqv
  exact this
theorem told_new {H0 H : Hp} {xs : List V} {ps : List (Int × Lt)} (h : ToldNew H0 H xs ps) : ToldAt H xs ps := Paired.mapP h fun v y ⟨t, b, a1, _, _, a2, a3⟩ => ⟨t, b, a1, a2, a3⟩
end K24

set_option maxHeartbeats 1000000
namespace K24
open PySem PySem.Spec PyProof.Rows L2 Evl MyG
/-! ### what was known becomes a region again -/
def del (B : Hp) (g : Addr) : Hp := fun x => if x = g then none else B x
theorem del_same {B : Hp} {g : Addr} : del B g g = none := if_pos rfl
theorem del_ne {B : Hp} {g x : Addr} (h : x ≠ g) : del B g x = B x := if_neg h
theorem del_ex {B : Hp} {g : Addr} : Ex (del B g) B := fun x o h => by
  by_cases z : x = g
  · rw [z, del_same] at h
    cases h
  · rwa [del_ne z] at h
theorem del_keep {B : Hp} {g x : Addr} {o u : HO} (hg : B g = some o) (h : B x = some u) (n : u ≠ o) : del B g x = some u := by
  rw [del_ne fun z => by rw [z, hg] at h; exact n (Option.some.inj h).symm]
  exact h
theorem _root_.MyG.Wld.forget {s c g : Addr} {B H : Hp} {Rs : List Hp} {o : HO} (W : Wld s c B Rs H) (h : B g = some o) : Wld s c (del B g) (one g o :: Rs) H := by
  have W1 := W.less del_ex (B := del B g)
  have on : ∀ {x : Addr}, x ≠ g → one g o x = none := fun {x} n => by
    unfold one
    rw [upd_ne n]
  have gs : s ≠ g := fun z => by
    have := W.w.ns
    rw [z, h] at this
    cases this
  have gc : c ≠ g := fun z => by
    have := W.w.nc
    rw [z, h] at this
    cases this
  have rg : ∀ R ∈ Rs, R g = none := fun R hR => (W.dj R hR g).resolve_left (by rw [h]; simp)
  refine ⟨W1.w, fun R hR => ?_, fun R hR => ?_, fun R hR => ?_, List.pairwise_cons.mpr ⟨fun R hR x => ?_, W1.pw⟩⟩
  · rcases List.mem_cons.mp hR with rfl | hR
    · intro x u hx
      by_cases z : x = g
      · rw [z, one_at] at hx
        rw [z, W.w.ex _ _ h]
        exact hx
      · rw [on z] at hx
        cases hx
    · exact W1.ex R hR
  · rcases List.mem_cons.mp hR with rfl | hR
    · exact ⟨on gs, on gc⟩
    · exact W1.off R hR
  · rcases List.mem_cons.mp hR with rfl | hR
    · intro x
      by_cases z : x = g
      · left
        rw [z]
        exact del_same
      · exact .inr (on z)
    · exact W1.dj R hR
  · by_cases z : x = g
    · right
      rw [z]
      exact rg R hR
    · exact .inl (on z)
theorem MdlIn.tups {B B' M : Hp} {m dA : Addr} {h : HSt} {pl : V} {ws : List V} (md : MdlIn B M m dA h pl ws) (e : ∀ t zs, B t = some (.tup zs) → B' t = some (.tup zs)) : MdlIn B' M m dA h pl ws :=
  ⟨md.self, md.doors, md.len, fun i k x hi => by
    obtain ⟨a, hv, be, co, q1, q2, q3, q4, q5⟩ := md.each i k x hi
    exact ⟨a, hv, be, co, q1, q2, q3, hrd_map q4 e, q5⟩, md.apart, md.nd, md.nn⟩
theorem hs_tups {B B' : Hp} {v : V} (e : ∀ t zs, B t = some (.tup zs) → B' t = some (.tup zs)) : ∀ {x : Option (Int × Int)}, HsAt B v x → HsAt B' v x
  | none, h => h
  | some _, ⟨a, h1, h2⟩ => ⟨a, h1, e _ _ h2⟩
theorem door_tups {D : Addr} {B B' M : Hp} {v : V} (e : ∀ t zs, B t = some (.tup zs) → B' t = some (.tup zs)) : ∀ {x : Option Dr}, DoorAt D B M v x → DoorAt D B' M v x
  | none, h => h
  | some _, ⟨a, dx, hv, h1, h2, h3⟩ => ⟨a, dx, hv, h1, h2, hs_tups e h3⟩
theorem HallIn.tups {C D p e d s : Addr} {B B' M : Hp} {h : HSt} {po : Option Addr} {ws : List V} (k : HallIn C D B M p h po e d s ws) (x : ∀ t zs, B t = some (.tup zs) → B' t = some (.tup zs)) : HallIn C D B' M p h po e d s ws :=
  ⟨k.self, let ⟨evs, h1, h2⟩ := k.ends; ⟨evs, h1, Paired.mapP h2 fun v e ⟨a, h1, h2⟩ => ⟨a, h1, x _ _ h2⟩⟩, k.doors, Paired.mapP k.each fun v y h => door_tups x h, k.apart, x _ _ k.std, k.nd, k.ed, k.es⟩
theorem del_tups {B : Hp} {g : Addr} {kvs : List (Key × V)} (hg : B g = some (.dK kvs)) : ∀ t zs, B t = some (.tup zs) → del B g t = some (.tup zs) := fun t zs h => del_keep hg h (by intro q; cases q)
theorem ltD_lay (l : Lt) : (ltD l).canLay0 = true := by cases l <;> simp [ltD, PyData.canLay0, PyData.canLayAll0] <;> decide +kernel
theorem ltD_dep (l : Lt) : (ltD l).depth ≤ 1 := by cases l <;> simp [ltD, PyData.depth, PyData.depthAll]
theorem shaped_told (ps : List (Int × Lt)) : SeqAt.shaped (.list (toldD ps)) = true := by
  have cl : PyData.canLay0 (.list (toldD ps)) = true := by
    unfold toldD
    simp only [PyData.canLay0]
    induction ps with
    | nil => rfl
    | cons y r ih => simp only [List.map_cons, PyData.canLayAll0, PyData.canLay0, ltD_lay, ih, Bool.and_self]
  have dp : PyData.depthAll (toldD ps) ≤ 2 := by
    unfold toldD
    clear cl
    induction ps with
    | nil => decide
    | cons y r ih =>
      have := ltD_dep y.2
      simp only [List.map_cons, PyData.depthAll, PyData.depth]
      omega
  unfold SeqAt.shaped
  rw [cl, decide_eq_true (show PyData.depth (.list (toldD ps)) ≤ 64 by simp only [PyData.depth]; omega)]
  rfl
end K24

set_option maxHeartbeats 1000000
namespace K24
open PySem PySem.Spec PyProof.Rows L2 Evl MyG
/-! ### a hall that has started; looks in a world -/
theorem init_len {own most : Int} {rule : Str} {ends : List (Int × Int × Int)} {cs : List Int} : (stepH (initH own most rule ends cs)).doors.length = ends.length := by
  rw [stepH_len]
  exact List.length_map ..
theorem init_said {own most : Int} {rule : Str} {ends : List (Int × Int × Int)} {cs : List Int} : ∀ k d, (k, some d) ∈ (stepH (initH own most rule ends cs)).doors → d.said ≤ 1 := fun k d m => by
  obtain ⟨d0, m0, rfl⟩ := step_mem m
  have := write_said (initH own most rule ends cs) k d0
  obtain ⟨e, _, h⟩ := List.mem_map.mp (show (k, some d0) ∈ ends.map (door0 cs) from m0)
  unfold door0 at h
  obtain ⟨_, h⟩ := Prod.mk.inj h
  split at h
  · cases h
  · obtain rfl := Option.some.inj h
    exact this
theorem init_run {own most : Int} {rule : Str} {ends : List (Int × Int × Int)} {cs : List Int} (z : cs = []) : ∀ x ∈ (stepH (initH own most rule ends cs)).doors, x.2 ≠ none := step_run fun x m => by
  obtain ⟨e, _, rfl⟩ := List.mem_map.mp (show x ∈ ends.map (door0 cs) from m)
  unfold door0
  rw [z]
  simp
theorem init_keys {own most : Int} {rule : Str} {ends : List (Int × Int × Int)} {cs : List Int} : (stepH (initH own most rule ends cs)).doors.map (·.1) = ends.map (·.1) := by
  rw [step_keys]
  exact door0_fst cs ends
theorem LtAt.del {S A b g : Addr} {B : Hp} {l : Lt} {kvs : List (Key × V)} (hg : B g = some (.dK kvs)) (h : LtAt S A B b l) : LtAt S A (del B g) b l := by
  cases l with
  | say n r f =>
    obtain ⟨dx, h⟩ := h
    exact ⟨dx, del_keep hg h (by intro q; cases q)⟩
  | agree n =>
    obtain ⟨dx, h⟩ := h
    exact ⟨dx, del_keep hg h (by intro q; cases q)⟩
theorem posts_del {S A g : Addr} {B : Hp} {xs : List V} {ps : List (Int × Lt)} {kvs : List (Key × V)} (hg : B g = some (.dK kvs)) (h : PostsAt S A B xs ps) : PostsAt S A (del B g) xs ps :=
  Paired.mapP h fun v y ⟨t, b, a1, a2, a3⟩ => ⟨t, b, a1, del_tups hg _ _ a2, a3.del hg⟩
theorem told_del {g : Addr} {B : Hp} {xs : List V} {ps : List (Int × Lt)} {kvs : List (Key × V)} (hg : B g = some (.dK kvs)) (h : ToldAt B xs ps) : ToldAt (del B g) xs ps :=
  Paired.mapP h fun v y ⟨t, b, a1, a2, a3⟩ => ⟨t, b, a1, del_tups hg _ _ a2, del_tups hg _ _ a3⟩
theorem ToldAt.ext {B B' : Hp} {xs : List V} {ps : List (Int × Lt)} (h : ToldAt B xs ps) (e : Ex B B') : ToldAt B' xs ps :=
  Paired.mapP h fun v y ⟨t, b, a1, a2, a3⟩ => ⟨t, b, a1, e _ _ a2, e _ _ a3⟩
theorem _root_.MyG.Wld.dj12 {s c : Addr} {B H M N : Hp} {Rs : List Hp} (W : Wld s c B (M :: N :: Rs) H) : Dj M N := (List.pairwise_cons.mp W.pw).1 N (List.mem_cons_self ..)
/-- a new object, changed behind, as a region -/
theorem _root_.MyG.Wld.made {s c z : Addr} {B H H2 : Hp} {Rs : List Hp} {o : HO} (W : Wld s c B Rs H) (n : H z = none) (e : Ex H H2) : Wld s c B (one z o :: Rs) (upd H2 z o) := by
  refine W.add (M' := one z o) ⟨fun x u hx => ?_, fun x u _ hx => ?_, fun x hx => ?_⟩
  · by_cases zz : x = z
    · rw [zz, one_at] at hx
      rw [zz, upd_same, hx]
    · unfold one at hx
      rw [upd_ne zz] at hx
      cases hx
  · rw [upd_ne fun zz => by rw [zz, n] at hx; cases hx]
    exact e _ _ hx
  · right
    by_cases zz : x = z
    · rw [zz]
      exact n
    · unfold one at hx
      rw [upd_ne zz] at hx
      exact absurd rfl hx
theorem looks_ok {C D s c p m e d s' dA pt : Addr} {B M M2 H : Hp} {Rs : List Hp} {h : HSt} {po : Option Addr} {ws us : List V} {Q : VK} (W : Wld s c B (M :: M2 :: Rs) H) (hall : HallIn C D B M p h po e d s' ws) (md : MdlIn B M2 m dA h (.ref pt) us) (hpt : B pt = some (.tup (pairD h.st))) (pn : ∀ k d, (k, some d) ∈ h.doors → d.part ≠ none)
    (q : ∀ H', Ex H H' → Q (.bl true) H') : sp_looks C D [.ref p, .ref m] H Q E0 :=
  ⟨p, m, e, d, s', dA, pt, B, M, B, M2, h, po, ws, us, rfl, W.w.ex, W.ex _ (by simp), hall, W.w.ex, W.ex _ (by simp), W.dj12, md, hpt, pn, q⟩
theorem SqL.ex' {K : PySem.W.Frag} {H H' : Hp} {a : Addr} {xs : List V} (h : SqL K H a xs) (e : Ex H H') : SqL K H' a xs :=
  h.elim (fun h => .inl (h.elim (fun h => .inl (e _ _ h)) fun ⟨o, h⟩ => .inr ⟨o, e _ _ h⟩)) fun h => .inr h
theorem ex_beside {s c : Addr} {H H1 : Hp} (e : Ex H H1) (hs : H s = none) (hc : H c = none) : Ex H (beside s c H1) := fun x o hx => beside_some (fun z => by rw [z, hs] at hx; cases hx) (fun z => by rw [z, hc] at hx; cases hx) (e _ _ hx)
/-- a look at what was posted, told -/
theorem told_ok {C D S A s c p z1 e d s' : Addr} {B M H : Hp} {Rs : List Hp} {h : HSt} {ws xs : List V} {ps : List (Int × Lt)} {Q : VK} (W : Wld s c B (M :: Rs) H) (hall : HallIn C D B M p h (some z1) e d s' ws) (hz : B z1 = some (.lst xs)) (po : PostsAt S A B xs ps) (l : xs.length ≤ 1000)
    (q : ∀ t ys H', Ex H H' → H' t = some (.lst ys) → ToldAt H' ys ps → Q (.ref t) H') : sp_hposted C D [.ref p] H (fun v H' => sp_toldP S A [v] H' Q E0) E0 :=
  ⟨p, B, M, h, z1, e, d, s', ws, xs, rfl, W.ex _ (by simp), hall, W.w.ex _ _ hz, fun z H' _ eH hz' => ⟨z, xs, ps, rfl, hz', po.ext (W.w.ex.trans eH), l, fun t ys H2 _ e2 ht tn => q t ys H2 (eH.trans e2) ht (told_new tn)⟩⟩
end K24

set_option maxHeartbeats 2000000
namespace K24
open PySem PySem.Spec PyProof.Rows L2 Evl MyG NdefX
abbrev s_NoLink___init__ : Stmt := (inClass (top 5) 0)
abbrev n_NoLink___init__ : List Str := ["self", "number", "__class__"]
theorem sc_NoLink___init__ : NScope ["self", "number", "__class__"] ["self", "number"] ["__class__"] (defScope s_NoLink___init__) := nscope_by (by decide +kernel)
abbrev s_Cut___init__ : Stmt := (inClass (top 6) 0)
abbrev n_Cut___init__ : List Str := ["self", "number", "__class__"]
theorem sc_Cut___init__ : NScope ["self", "number", "__class__"] ["self", "number"] ["__class__"] (defScope s_Cut___init__) := nscope_by (by decide +kernel)
abbrev s_Runs___init__ : Stmt := (inClass (top 7) 0)
abbrev n_Runs___init__ : List Str := ["self", "number", "__class__"]
theorem sc_Runs___init__ : NScope ["self", "number", "__class__"] ["self", "number"] ["__class__"] (defScope s_Runs___init__) := nscope_by (by decide +kernel)
/-- a promise of nothing -/
theorem fn_none {P : Program} {w : World} {K : PySem.W.Frag} {mg : Str → Option Value} {base : Heap} {f : Addr} {fd : FuncData} {ps : List Str} : FnOk P w K mg base CX0 0 f fd ps (fun _ _ _ _ => False) :=
  ⟨fun _ _ _ _ h => h.elim, fun _ _ _ _ _ _ _ _ _ _ _ _ _ h => h.elim⟩
/-- flat things are handed back -/
def sp_keptF : Sp := fun vs H Q _ => ∃ (x : V) (d : Int), vs = [x, .int d] ∧ (∃ t, AnyT H x t ∧ t ≠ "list" ∧ t ≠ "tuple" ∧ t ≠ "dict") ∧ Q x H
section
variable {P : Program} {w : World} {K : PySem.W.Frag} {mg : Str → Option Value} {base : Heap}
theorem ok_keptF (T : Tx K mg) : FnOk P w K mg base CX0 1 T.a_kept T.d_kept ["thing", "deep"] sp_keptF := by
  have G_kept := fn_none (P := P) (w := w) (K := K) (mg := mg) (base := base) (f := T.a_kept) (fd := T.d_kept) (ps := ["thing", "deep"])
  refine T.F_kept.ok sc_kept (fun vs H Q E h => ?_) (fun cdv A outer s H vs Q E hr h => ?_)
  · obtain ⟨_, _, rfl, _⟩ := h
    rfl
  · obtain ⟨x, d, rfl, ⟨t, ht, n1, n2, n3⟩, q⟩ := h
    refine ⟨_, ((pss_cons (ps_if (pt_cmpR op_eq (pv 1) pe_int (nomark _)) (pss_one (ps_ret (pv 0))) pss_nil)
  (pss_cons (ps_if (pt_val (pe_callB (isiK (K := K) rfl) (by rfl) T.z_isinstance (by decide +kernel) (pa_cons (pv 0) (pa_cons (pe_bltn (v := .ty "list") (by rfl) T.z_list (by decide +kernel) rfl) pa_nil)))) (pss_one (ps_ret (pe_lc (own := [("part", 2)]) (g := (gName 2)) (tt := tYes) rfl sc_kept.nd (iListK (K := K) rfl (pv 0)) (blkOk_by (N := n_kept) (sc := defScope s_kept) (by decide +kernel)) (fun _ _ _ _ _ => (pg_name (i := 2) sc_kept.nd rfl (Or.inl rfl))) (fun _ _ _ _ _ => pts_nil) (fun _ _ _ _ _ => (pe_call G_kept hr (by rfl) T.g_kept T.F_kept.kp T.b_kept .nil pass0 (pa_cons (pv 2) (pa_cons (pe_op op_sub (pv 1) pe_int) pa_nil))))))) pss_nil)
  (pss_cons (ps_if (pt_val (pe_callB (isiK (K := K) rfl) (by rfl) T.z_isinstance (by decide +kernel) (pa_cons (pv 0) (pa_cons (pe_bltn (v := .ty "tuple") (by rfl) T.z_tuple (by decide +kernel) rfl) pa_nil)))) (pss_one (ps_ret (pe_callTy (tupleK (K := K) rfl) (by rfl) T.z_tuple (by decide +kernel) (pa_cons (pe_lc (own := [("part", 2)]) (g := (gName 2)) (tt := tYes) rfl sc_kept.nd (iListK (K := K) rfl (pv 0)) (blkOk_by (N := n_kept) (sc := defScope s_kept) (by decide +kernel)) (fun _ _ _ _ _ => (pg_name (i := 2) sc_kept.nd rfl (Or.inl rfl))) (fun _ _ _ _ _ => pts_nil) (fun _ _ _ _ _ => (pe_call G_kept hr (by rfl) T.g_kept T.F_kept.kp T.b_kept .nil pass0 (pa_cons (pv 2) (pa_cons (pe_op op_sub (pv 1) pe_int) pa_nil))))) pa_nil)))) pss_nil)
  (pss_cons (ps_if (pt_val (pe_callB (isiK (K := K) rfl) (by rfl) T.z_isinstance (by decide +kernel) (pa_cons (pv 0) (pa_cons (pe_bltn (v := .ty "dict") (by rfl) T.z_dict (by decide +kernel) rfl) pa_nil)))) (pss_one ps_never) pss_nil)
  (pss_one (ps_ret (pv 0))))))) : PSs _ _ _).nox, ?_⟩
    refine ⟨_, rfl, rfl, _, rfl, ite2 (fun _ => ⟨_, rfl, q⟩) (fun _ => ?_)⟩
    refine ⟨_, rfl, _, .ty "list", _, .type "list", _, rfl, .ty _, ht.ty, kit_ty (kit_all ht.mem).2.2.1, _, rfl, ?_⟩
    rw [beq_eq_false_iff_ne.mpr n1]
    refine iteF ⟨_, rfl, _, .ty "tuple", _, .type "tuple", _, rfl, .ty _, ht.ty, kit_ty (kit_all ht.mem).2.2.2.1, _, rfl, ?_⟩
    rw [beq_eq_false_iff_ne.mpr n2]
    refine iteF ⟨_, rfl, _, .ty "dict", _, .type "dict", _, rfl, .ty _, ht.ty, kit_ty (kit_all ht.mem).2.2.2.2.2, _, rfl, ?_⟩
    rw [beq_eq_false_iff_ne.mpr n3]
    exact iteF ⟨_, rfl, q⟩
end
/-- what is written of a def that begins with super().__init__(..): C its class, cc the cell of __class__, c the code -/
structure FunS (K : PySem.W.Frag) (x qual : Str) (st : Stmt) (f : Addr) (fd : FuncData) (cc c : Addr) : Prop where
  ex : ∃ (oc : Value) (od : Option Addr) (kV doc pm : Value) (an : Option Addr) (ct : Value) (osl : Array (Option Value)),
    fd = PySem.W.fnX x qual (defArgs st) (defBody st) (defScope st) [(("__class__" : Str), cc)] .none kV doc pm an (.ref c) ct ∧ K.lookup f = some ⟨oc, od, .func fd, osl⟩ ∧ PySem.W.codeIn K (.ref c) qual = true
  kp : PySem.W.keepIn K (.ref f) = true
/-- a fresh exception of C gets its one field, number -/
def sp_num (C : Addr) : Sp := fun vs H Q _ => ∃ (a : Addr) (n : Int), vs = [.ref a, .int n] ∧ H a = some (exo a C none) ∧ n.natAbs < 10 ^ 9 ∧ ∀ dx, H dx = none → dx ≠ a → Q .non (upd (upd H dx (exd dx [("number", .int n)])) a (exo a C (some dx)))
/-- what is written of an own exception with one field number -/
structure ExI (P : Program) (K : PySem.W.Frag) (mg : Str → Option Value) (x : Str) (st : Stmt) (qual : Str) (C f cc c : Addr) (fd : FuncData) : Prop where
  F : FunS K "__init__" qual st f fd cc c
  S : SupC P K mg C cc c
  no : PySem.W.findIn K (.ref C) "number" = some none
  i : PySem.W.findIn K (.ref C) "__init__" = some (some (.ref f))
  ti : PySem.W.typeIn K (.ref f) = some (.type "function")
  b : Binds K fd ["self", "number"] []
  g : mg x = some (.ref C)
theorem ExI.ox {P : Program} {K : PySem.W.Frag} {mg : Str → Option Value} {x : Str} {st : Stmt} {qual : Str} {C f cc c : Addr} {fd : FuncData} (X : ExI P K mg x st qual C f cc c fd) : OexC K C := X.S.ox
section
variable {P : Program} {w : World} {K : PySem.W.Frag} {mg : Str → Option Value} {base : Heap}
/-- the exception let go: its dict alone stands -/
theorem told_heap {H : Hp} {e dx : Addr} {o u o2 : HO} (h : dx ≠ e) : upd (L2.del (upd (upd H dx o) e u) e) dx o2 = upd (L2.del H e) dx o2 := by
  funext b
  by_cases e1 : b = dx
  · rw [e1, upd_same, upd_same]
  · rw [upd_ne e1, upd_ne e1]
    by_cases e2 : b = e
    · rw [e2, L2.del_same, L2.del_same]
    · rw [L2.del_ne e2, L2.del_ne e2, upd_ne e2, upd_ne e1]
theorem ok_iniNoLink (T : Tx K mg) {f C cc c : Addr} {fd : FuncData} (F : FunS K "__init__" "NoLink.__init__" s_NoLink___init__ f fd cc c) (S : SupC P K mg C cc c) (hno : PySem.W.findIn K (.ref C) "number" = some none) :
    FnOk P w K mg base CX0 3 f fd ["self", "number"] (sp_num C) := by
  have G_kept := (ok_keptF (P := P) (w := w) (base := base) T)
  obtain ⟨oc, od, kV, doc, pm, an, ct, osl, efd, lk, hcd⟩ := F.ex
  have hsn : (defScope s_NoLink___init__).names.lookup ("super" : Str) = some .globalImplicit := by decide +kernel
  refine okS (F := ⟨"__init__", "NoLink.__init__", defArgs s_NoLink___init__, defBody s_NoLink___init__, defScope s_NoLink___init__, [(("__class__" : Str), cc)], c⟩) efd sc_NoLink___init__ rfl S hsn (by rfl) (by rfl) (by rfl) (by rfl) (by rfl) hcd lk (by rfl) ?_ ?_
  · intro vs H Q E h
    obtain ⟨_, _, rfl, _⟩ := h
    rfl
  · intro A outer s H vs Q E hr h
    obtain ⟨a, n, rfl, ha, sm, q⟩ := h
    refine ⟨a, _, _, rfl, ha, (pa_cons pe_str pa_nil), (pss_one (ps_ost (pv 0) (pe_call G_kept (hr.mono (by decide)) (by rfl) T.g_kept T.F_kept.kp T.b1_kept T.dv_kept pass0 (pa_cons (pv 1) pa_nil)))), ?_⟩
    refine ⟨by show 1 ≤ 1000; decide, ha, ?_⟩
    refine ⟨_, rfl, ?_⟩
    unfold tNil
    dsimp only [List.cons_append, List.nil_append]
    exact ⟨.int n, 100, rfl, ⟨"int", .int n, by decide, by decide, by decide⟩, _, rfl, a, C, rfl, S.ox, hno, .inl ⟨ha, fun dx h1 h2 => q dx h1 h2⟩⟩
theorem ok_iniCut (T : Tx K mg) {f C cc c : Addr} {fd : FuncData} (F : FunS K "__init__" "Cut.__init__" s_Cut___init__ f fd cc c) (S : SupC P K mg C cc c) (hno : PySem.W.findIn K (.ref C) "number" = some none) :
    FnOk P w K mg base CX0 3 f fd ["self", "number"] (sp_num C) := by
  have G_kept := (ok_keptF (P := P) (w := w) (base := base) T)
  obtain ⟨oc, od, kV, doc, pm, an, ct, osl, efd, lk, hcd⟩ := F.ex
  have hsn : (defScope s_Cut___init__).names.lookup ("super" : Str) = some .globalImplicit := by decide +kernel
  refine okS (F := ⟨"__init__", "Cut.__init__", defArgs s_Cut___init__, defBody s_Cut___init__, defScope s_Cut___init__, [(("__class__" : Str), cc)], c⟩) efd sc_Cut___init__ rfl S hsn (by rfl) (by rfl) (by rfl) (by rfl) (by rfl) hcd lk (by rfl) ?_ ?_
  · intro vs H Q E h
    obtain ⟨_, _, rfl, _⟩ := h
    rfl
  · intro A outer s H vs Q E hr h
    obtain ⟨a, n, rfl, ha, sm, q⟩ := h
    refine ⟨a, _, _, rfl, ha, (pa_cons (pe_joined (PJ.cons pe_str (PJ.cons (pe_fmt (pv 1)) (PJ.cons pe_str PJ.nil)))) pa_nil), (pss_one (ps_ost (pv 0) (pv 1))), ?_⟩
    have ln : (toString n : Str).length ≤ 10 := by
      rw [PySem.ofString_length]
      exact int_text_length_le10 (a := n) (k := 9) (by decide) sm
    have lg : n.natAbs.log2 < 1920 := by
      by_cases z : n.natAbs = 0
      · rw [z]; decide
      · exact (Nat.log2_lt z).mpr (Nat.lt_of_lt_of_le sm (by decide +kernel))
    have l1 : (Str.empty ++ "link " : Str).length ≤ 5 := by decide +kernel
    have l3 : (" is cut" : Str).length ≤ 7 := by decide +kernel
    refine ⟨_, rfl, Nat.le_trans l1 (by decide), _, rfl, .inr ⟨n, rfl, lg, _, rfl, ?_, _, rfl, ?_, ?_⟩⟩
    · rw [Str.length_append]
      exact Nat.le_trans (Nat.add_le_add l1 ln) (by decide)
    · rw [Str.length_append, Str.length_append]
      exact Nat.le_trans (Nat.add_le_add (Nat.add_le_add l1 ln) l3) (by decide)
    refine ⟨by show 1 ≤ 1000; decide, ha, ?_⟩
    exact ⟨_, rfl, _, rfl, a, C, rfl, S.ox, hno, .inl ⟨ha, fun dx h1 h2 => q dx h1 h2⟩⟩
theorem ok_iniRuns (T : Tx K mg) {f C cc c : Addr} {fd : FuncData} (F : FunS K "__init__" "Runs.__init__" s_Runs___init__ f fd cc c) (S : SupC P K mg C cc c) (hno : PySem.W.findIn K (.ref C) "number" = some none) :
    FnOk P w K mg base CX0 3 f fd ["self", "number"] (sp_num C) := by
  have G_kept := (ok_keptF (P := P) (w := w) (base := base) T)
  obtain ⟨oc, od, kV, doc, pm, an, ct, osl, efd, lk, hcd⟩ := F.ex
  have hsn : (defScope s_Runs___init__).names.lookup ("super" : Str) = some .globalImplicit := by decide +kernel
  refine okS (F := ⟨"__init__", "Runs.__init__", defArgs s_Runs___init__, defBody s_Runs___init__, defScope s_Runs___init__, [(("__class__" : Str), cc)], c⟩) efd sc_Runs___init__ rfl S hsn (by rfl) (by rfl) (by rfl) (by rfl) (by rfl) hcd lk (by rfl) ?_ ?_
  · intro vs H Q E h
    obtain ⟨_, _, rfl, _⟩ := h
    rfl
  · intro A outer s H vs Q E hr h
    obtain ⟨a, n, rfl, ha, sm, q⟩ := h
    refine ⟨a, _, _, rfl, ha, (pa_cons (pe_joined (PJ.cons pe_str (PJ.cons (pe_fmt (pv 1)) (PJ.cons pe_str PJ.nil)))) pa_nil), (pss_one (ps_ost (pv 0) (pv 1))), ?_⟩
    have ln : (toString n : Str).length ≤ 10 := by
      rw [PySem.ofString_length]
      exact int_text_length_le10 (a := n) (k := 9) (by decide) sm
    have lg : n.natAbs.log2 < 1920 := by
      by_cases z : n.natAbs = 0
      · rw [z]; decide
      · exact (Nat.log2_lt z).mpr (Nat.lt_of_lt_of_le sm (by decide +kernel))
    have l1 : (Str.empty ++ "link " : Str).length ≤ 5 := by decide +kernel
    have l3 : (" runs" : Str).length ≤ 5 := by decide +kernel
    refine ⟨_, rfl, Nat.le_trans l1 (by decide), _, rfl, .inr ⟨n, rfl, lg, _, rfl, ?_, _, rfl, ?_, ?_⟩⟩
    · rw [Str.length_append]
      exact Nat.le_trans (Nat.add_le_add l1 ln) (by decide)
    · rw [Str.length_append, Str.length_append]
      exact Nat.le_trans (Nat.add_le_add (Nat.add_le_add l1 ln) l3) (by decide)
    refine ⟨by show 1 ≤ 1000; decide, ha, ?_⟩
    exact ⟨_, rfl, _, rfl, a, C, rfl, S.ox, hno, .inl ⟨ha, fun dx h1 h2 => q dx h1 h2⟩⟩
end
/-- refused by the class at C, which bears the number -/
def Rfz (C : Addr) (k : Int) (H : Hp) (E : XK) : Prop := ∀ dx H', Ex H H' → H dx = none → H' dx = some (.xd [("number", .int k)]) → E (.ref C) (some dx) H'
theorem Rfz.after {C : Addr} {k : Int} {H H1 : Hp} {E : XK} (e : Ex H H1) (h : Rfz C k H E) : Rfz C k H1 E := fun dx H' e' hd hx => h dx H' (e.trans e') (fresh_back e hd) hx
theorem ex_del {H H' : Hp} {a : Addr} (e : Ex H H') (h : H a = none) : Ex H (L2.del H' a) := fun b o hb => by
  rw [L2.del_ne (ne_of_none hb h)]
  exact e b o hb
/-- as `raise C(k)` asks it -/
theorem mk_rfz {C : Addr} {k : Int} {σ : L2.St} {H : Hp} {i : Nat} {E : XK} (hi : σ[i]? = some (some (.int k))) (sm : k.natAbs < 10 ^ 9) (h : Rfz C k H E) : tMkO C (sp_num C) [] (tCons (tVar i) tNil) σ H (fun cls d H' => E cls d H') := by
  refine ⟨_, hi, ?_⟩
  unfold tNil
  refine ⟨Nat.le_of_ble_eq_true rfl, fun e he => ⟨e, k, rfl, upd_same, sm, fun dx h1 h2 => ?_⟩⟩
  have hd : H dx = none := by rwa [upd_ne h2] at h1
  refine ⟨rfl, dx, _, upd_same, by rw [upd_ne h2, upd_same], hd, ?_⟩
  rw [told_heap h2]
  refine h dx _ ((ex_del (Ex.new he) he).mut hd) hd upd_same
end K24

set_option maxHeartbeats 1000000
namespace K24
open PySem PySem.Spec PyProof.Rows L2 Evl MyG
/-! ### what a hall refuses -/
/-- the word of what is refused: no such link, cut, runs -/
def Odd (h : HSt) (w : Str) (k : Int) (wd : Str) : Prop := (¬ k ∈ h.doors.map (·.1) ∧ wd = "none") ∨ ((w = "take" ∨ w = "cut") ∧ (∃ i : Nat, h.doors[i]? = some (k, none)) ∧ wd = "cut") ∨ (w = "mend" ∧ (∃ (i : Nat) (dr : Dr), h.doors[i]? = some (k, some dr)) ∧ wd = "runs")
/-- the exceptions, by their words -/
structure Cx3 where
  L : Addr
  C : Addr
  R : Addr
def Cx3.of (c : Cx3) (wd : Str) : Addr := if wd = "none" then c.L else if wd = "cut" then c.C else c.R
def sp_hX (c : Cx3) (C D : Addr) (w : Str) (ex : List V → Prop) : Sp := fun vs H _ E => ∃ (p : Addr) (B M : Hp) (h : HSt) (po : Option Addr) (e d s : Addr) (ws : List V) (k : Int) (wd : Str) (more : List V), vs = .ref p :: .int k :: more ∧ ex more ∧ Ex M H ∧ HallIn C D B M p h po e d s ws ∧ k.natAbs < 10 ^ 9 ∧ Odd h w k wd ∧ Rfz (c.of wd) k H E
def sp_doorX (c : Cx3) (C D : Addr) : Sp := fun vs H _ E => ∃ (p : Addr) (B M : Hp) (h : HSt) (po : Option Addr) (e d s : Addr) (ws : List V) (k : Int), vs = [.ref p, .int k] ∧ Ex M H ∧ HallIn C D B M p h po e d s ws ∧ k.natAbs < 10 ^ 9 ∧ ¬ k ∈ h.doors.map (·.1) ∧ Rfz c.L k H E
section
variable {P : Program} {w : World} {K : PySem.W.Frag} {mg : Str → Option Value} {base : Heap}
theorem ok_doorX (T : Tx K mg) {f cc c0 : Addr} {fd : FuncData} {cx : Cx3} (X_NoLink : ExI P K mg "NoLink" s_NoLink___init__ "NoLink.__init__" cx.L f cc c0 fd) : FnOk P w K mg base (L2.CX P w) 5 T.a_Hall__door T.d_Hall__door ["self", "link"] (sp_doorX cx T.c_Hall T.c_Door) := by
  have G_is_number := ok_isnum (P := P) (w := w) (base := base) T
  have G_NoLink := ok_iniNoLink (P := P) (w := w) (base := base) T X_NoLink.F X_NoLink.S X_NoLink.no
  refine T.F_Hall__door.okX sc_Hall__door (fun vs H Q E h => ?_) (fun cdv A outer s H vs Q E hr h => ?_)
  · obtain ⟨_, _, _, _, _, _, _, _, _, _, rfl, _⟩ := h
    rfl
  · obtain ⟨p, B, M, h, po, e, d, s, ws, k, rfl, eM, ha, sm, hk, q⟩ := h
    refine ⟨_, (pss_cons (ps_if (PW.pt (pw_or (pt_not (pt_val (pe_call G_is_number (hr.mono (by decide)) (by rfl) T.g_is_number T.F_is_number.kp T.b_is_number .nil pass0 (pa_cons (pv 1) pa_nil)))) (pw_or1 (pt_cmp (pc_dnotin (hu_of hr) (pv 1) (fldK (K := K) rfl (pv 0) rfl)))))) (pss_one (ps_raise rfl (takes_of rfl rfl rfl rfl) (pmk_oex X_NoLink.ox X_NoLink.i X_NoLink.ti G_NoLink (hr.mono (by decide)) X_NoLink.b .nil pass0 (by rfl) X_NoLink.g (pa_cons (pv 1) pa_nil)))) pss_nil)
  pss_never), ?_⟩
    obtain ⟨dx, hp⟩ := ha.self
    have g : DGet H d (.int k) none := by
      have := DGet.k (k := Sum.inl k) (eM _ _ ha.doors)
      rw [intK_no hk] at this
      exact this
    refine ⟨_, rfl, _, "int", rfl, .int _, _, rfl, ?_⟩
    exact iteF ⟨_, rfl, _, rfl, p, T.c_Hall, dx, _, _, rfl, eM _ _ hp, T.cl_Hall, T.n_Hall__doors, rfl, d, none, rfl, g, _, rfl, iteT (mk_rfz rfl sm q)⟩
end
def sp_runX (c : Cx3) (C D : Addr) : Sp := fun vs H _ E => ∃ (p : Addr) (B M : Hp) (h : HSt) (po : Option Addr) (e d s : Addr) (ws : List V) (k : Int), vs = [.ref p, .int k] ∧ Ex M H ∧ HallIn C D B M p h po e d s ws ∧ k.natAbs < 10 ^ 9 ∧
  ((¬ k ∈ h.doors.map (·.1) ∧ Rfz c.L k H E) ∨ ((∃ i : Nat, h.doors[i]? = some (k, none)) ∧ Rfz c.C k H E))
/-- the three exceptions, as they are written -/
structure Ex3 (P : Program) (K : PySem.W.Frag) (mg : Str → Option Value) (c : Cx3) : Prop where
  L : ∃ (f cc c0 : Addr) (fd : FuncData), ExI P K mg "NoLink" s_NoLink___init__ "NoLink.__init__" c.L f cc c0 fd
  C : ∃ (f cc c0 : Addr) (fd : FuncData), ExI P K mg "Cut" s_Cut___init__ "Cut.__init__" c.C f cc c0 fd
  R : ∃ (f cc c0 : Addr) (fd : FuncData), ExI P K mg "Runs" s_Runs___init__ "Runs.__init__" c.R f cc c0 fd
abbrev sp_doorO (c : Cx3) (C D : Addr) : Sp := fun vs H Q E => sp_hdoor C D vs H Q E ∨ sp_doorX c C D vs H Q E
section
variable {P : Program} {w : World} {K : PySem.W.Frag} {mg : Str → Option Value} {base : Heap}
theorem ok_doorO (T : Tx K mg) {cx : Cx3} (Z : Ex3 P K mg cx) : FnOk P w K mg base (L2.CX P w) 5 T.a_Hall__door T.d_Hall__door ["self", "link"] (sp_doorO cx T.c_Hall T.c_Door) := by
  obtain ⟨_, _, _, _, X⟩ := Z.L
  exact fn_or ((fn_lift (ok_hdoor (P := P) (w := w) (base := base) T)).mono (by decide)) (ok_doorX T X)
theorem ok_runX (T : Tx K mg) {cx : Cx3} (Z : Ex3 P K mg cx) : FnOk P w K mg base (L2.CX P w) 6 T.a_Hall__running T.d_Hall__running ["self", "link"] (sp_runX cx T.c_Hall T.c_Door) := by
  have G_Hall__door := ok_doorO (P := P) (w := w) (base := base) T Z
  obtain ⟨_, _, _, _, X_Cut⟩ := Z.C
  have G_Cut := ok_iniCut (P := P) (w := w) (base := base) T X_Cut.F X_Cut.S X_Cut.no
  refine T.F_Hall__running.okX sc_Hall__running (fun vs H Q E h => ?_) (fun cdv A outer s H vs Q E hr h => ?_)
  · obtain ⟨_, _, _, _, _, _, _, _, _, _, rfl, _⟩ := h
    rfl
  · obtain ⟨p, B, M, h, po, e, d, s, ws, k, rfl, eM, ha, sm, hk⟩ := h
    refine ⟨_, (pss_cons (ps_set (i := 2) sc_Hall__running.nd rfl (Or.inl rfl) (pe_meth (pv 0) T.cl_Hall T.me_Hall__door G_Hall__door (hr.mono (by decide)) T.b_Hall__door .nil (passes_call (takes_of rfl rfl rfl rfl) (fun _ _ _ _ h => h)) (pa_cons (pv 1) pa_nil)))
  (pss_cons (ps_if (pt_cmpR op_isN (pv 2) pe_non (nomark _)) (pss_one (ps_raise rfl (takes_of rfl rfl rfl rfl) (pmk_oex X_Cut.ox X_Cut.i X_Cut.ti G_Cut (hr.mono (by decide)) X_Cut.b .nil pass0 (by rfl) X_Cut.g (pa_cons (pv 1) pa_nil)))) pss_nil)
  pss_never)), ?_⟩
    obtain ⟨dx, hp⟩ := ha.self
    refine ⟨_, rfl, p, dx, _, rfl, eM _ _ hp, by cases po <;> rfl, _, rfl, ?_⟩
    rcases hk with ⟨hk, q⟩ | ⟨⟨i, hi⟩, q⟩
    · exact .inr ⟨p, B, M, h, po, e, d, s, ws, k, rfl, eM, ha, sm, hk, q⟩
    · obtain ⟨v, hv, hd⟩ := paired_at0 ha.each hi
      obtain rfl : v = .non := hd
      refine .inl ⟨p, B, M, h, po, e, d, s, ws, i, k, _, rfl, eM, ha, by rw [List.getElem?_map, hi]; rfl, hv, ?_⟩
      show tSeq _ _ _ _ _
      exact ⟨_, rfl, rfl, _, rfl, ite2 (fun _ => mk_rfz rfl sm q) (fun z => absurd (by simp) z)⟩
abbrev sp_runO (c : Cx3) (C D : Addr) : Sp := sp_runX c C D
theorem ok_takeX (T : Tx K mg) {cx : Cx3} (Z : Ex3 P K mg cx) : FnOk P w K mg base (L2.CX P w) 7 T.a_Hall_take T.d_Hall_take ["self", "link", "letter"] (sp_hX cx T.c_Hall T.c_Door "take" (fun m => ∃ v, m = [v])) := by
  have G_Hall__running := ok_runX (P := P) (w := w) (base := base) T Z
  refine T.F_Hall_take.okX sc_Hall_take (fun vs H Q E h => ?_) (fun cdv A outer s H vs Q E hr h => ?_)
  · obtain ⟨_, _, _, _, _, _, _, _, _, _, _, _, rfl, ⟨_, rfl⟩, _⟩ := h
    rfl
  · obtain ⟨p, B, M, h, po, e, d, s, ws, k, wd, _, rfl, ⟨v, rfl⟩, eM, ha, sm, od, q⟩ := h
    refine ⟨_, (pss_cons (ps_set (i := 3) sc_Hall_take.nd rfl (Or.inl rfl) (pe_meth (pv 0) T.cl_Hall T.me_Hall__running G_Hall__running (hr.mono (by decide)) T.b_Hall__running .nil (passes_call (takes_of rfl rfl rfl rfl) (fun _ _ _ _ h => h)) (pa_cons (pv 1) pa_nil)))
  pss_never), ?_⟩
    obtain ⟨dx, hp⟩ := ha.self
    refine ⟨_, rfl, p, dx, _, rfl, eM _ _ hp, by cases po <;> rfl, _, rfl, p, B, M, h, po, e, d, s, ws, k, rfl, eM, ha, sm, ?_⟩
    rcases od with ⟨hk, rfl⟩ | ⟨_, hi, rfl⟩ | ⟨c, _⟩
    · exact .inl ⟨hk, q⟩
    · exact .inr ⟨hi, q⟩
    · exact absurd c (by decide +kernel)
theorem ok_cutX (T : Tx K mg) {cx : Cx3} (Z : Ex3 P K mg cx) : FnOk P w K mg base (L2.CX P w) 7 T.a_Hall_cut T.d_Hall_cut ["self", "link"] (sp_hX cx T.c_Hall T.c_Door "cut" (fun m => m = [])) := by
  have G_Hall__running := ok_runX (P := P) (w := w) (base := base) T Z
  refine T.F_Hall_cut.okX sc_Hall_cut (fun vs H Q E h => ?_) (fun cdv A outer s H vs Q E hr h => ?_)
  · obtain ⟨_, _, _, _, _, _, _, _, _, _, _, _, rfl, rfl, _⟩ := h
    rfl
  · obtain ⟨p, B, M, h, po, e, d, s, ws, k, wd, _, rfl, rfl, eM, ha, sm, od, q⟩ := h
    refine ⟨_, (pss_cons (ps_expr (pe_meth (pv 0) T.cl_Hall T.me_Hall__running G_Hall__running (hr.mono (by decide)) T.b_Hall__running .nil (passes_call (takes_of rfl rfl rfl rfl) (fun _ _ _ _ h => h)) (pa_cons (pv 1) pa_nil)))
  pss_never), ?_⟩
    obtain ⟨dx, hp⟩ := ha.self
    refine ⟨_, rfl, p, dx, _, rfl, eM _ _ hp, by cases po <;> rfl, _, rfl, p, B, M, h, po, e, d, s, ws, k, rfl, eM, ha, sm, ?_⟩
    rcases od with ⟨hk, rfl⟩ | ⟨_, hi, rfl⟩ | ⟨c, _⟩
    · exact .inl ⟨hk, q⟩
    · exact .inr ⟨hi, q⟩
    · exact absurd c (by decide +kernel)
theorem ok_mendX (T : Tx K mg) {cx : Cx3} (Z : Ex3 P K mg cx) : FnOk P w K mg base (L2.CX P w) 7 T.a_Hall_mend T.d_Hall_mend ["self", "link"] (sp_hX cx T.c_Hall T.c_Door "mend" (fun m => m = [])) := by
  have G_Hall__door := ok_doorO (P := P) (w := w) (base := base) T Z
  obtain ⟨_, _, _, _, X_Runs⟩ := Z.R
  have G_Runs := ok_iniRuns (P := P) (w := w) (base := base) T X_Runs.F X_Runs.S X_Runs.no
  refine T.F_Hall_mend.okX sc_Hall_mend (fun vs H Q E h => ?_) (fun cdv A outer s H vs Q E hr h => ?_)
  · obtain ⟨_, _, _, _, _, _, _, _, _, _, _, _, rfl, rfl, _⟩ := h
    rfl
  · obtain ⟨p, B, M, h, po, e, d, s, ws, k, wd, _, rfl, rfl, eM, ha, sm, od, q⟩ := h
    refine ⟨_, (pss_cons (ps_if (pt_cmpR op_notN (pe_meth (pv 0) T.cl_Hall T.me_Hall__door G_Hall__door (hr.mono (by decide)) T.b_Hall__door .nil (passes_call (takes_of rfl rfl rfl rfl) (fun _ _ _ _ h => h)) (pa_cons (pv 1) pa_nil)) pe_non (nomark _)) (pss_one (ps_raise rfl (takes_of rfl rfl rfl rfl) (pmk_oex X_Runs.ox X_Runs.i X_Runs.ti G_Runs (hr.mono (by decide)) X_Runs.b .nil pass0 (by rfl) X_Runs.g (pa_cons (pv 1) pa_nil)))) pss_nil)
  pss_never), ?_⟩
    obtain ⟨dx, hp⟩ := ha.self
    refine ⟨_, rfl, p, dx, _, rfl, eM _ _ hp, by cases po <;> rfl, _, rfl, ?_⟩
    rcases od with ⟨hk, rfl⟩ | ⟨c, _⟩ | ⟨_, ⟨i, dr, hi⟩, rfl⟩
    · exact .inr ⟨p, B, M, h, po, e, d, s, ws, k, rfl, eM, ha, sm, hk, q⟩
    · exact absurd c (by decide +kernel)
    · obtain ⟨v, hv, hd⟩ := paired_at0 ha.each hi
      obtain ⟨a, dxa, hv', rfl, _⟩ := hd
      refine .inl ⟨p, B, M, h, po, e, d, s, ws, i, k, _, rfl, eM, ha, by rw [List.getElem?_map, hi]; rfl, hv, ?_⟩
      exact ⟨rfl, _, rfl, ite2 (fun _ => mk_rfz rfl sm q) (fun z => absurd (by simp) z)⟩
theorem ok_roleX (T : Tx K mg) {cx : Cx3} (Z : Ex3 P K mg cx) : FnOk P w K mg base (L2.CX P w) 7 T.a_Hall_role T.d_Hall_role ["self", "link"] (sp_hX cx T.c_Hall T.c_Door "role" (fun m => m = [])) := by
  have G_Hall__door := ok_doorO (P := P) (w := w) (base := base) T Z
  refine T.F_Hall_role.okX sc_Hall_role (fun vs H Q E h => ?_) (fun cdv A outer s H vs Q E hr h => ?_)
  · obtain ⟨_, _, _, _, _, _, _, _, _, _, _, _, rfl, rfl, _⟩ := h
    rfl
  · obtain ⟨p, B, M, h, po, e, d, s, ws, k, wd, _, rfl, rfl, eM, ha, sm, od, q⟩ := h
    refine ⟨_, (pss_cons (ps_set (i := 2) sc_Hall_role.nd rfl (Or.inl rfl) (pe_meth (pv 0) T.cl_Hall T.me_Hall__door G_Hall__door (hr.mono (by decide)) T.b_Hall__door .nil (passes_call (takes_of rfl rfl rfl rfl) (fun _ _ _ _ h => h)) (pa_cons (pv 1) pa_nil)))
  pss_never), ?_⟩
    obtain ⟨dx, hp⟩ := ha.self
    refine ⟨_, rfl, p, dx, _, rfl, eM _ _ hp, by cases po <;> rfl, _, rfl, ?_⟩
    rcases od with ⟨hk, rfl⟩ | ⟨c, _⟩ | ⟨c, _⟩
    · exact .inr ⟨p, B, M, h, po, e, d, s, ws, k, rfl, eM, ha, sm, hk, q⟩
    · exact absurd c (by decide +kernel)
    · exact absurd c (by decide +kernel)
theorem ok_heardX (T : Tx K mg) {cx : Cx3} (Z : Ex3 P K mg cx) : FnOk P w K mg base (L2.CX P w) 7 T.a_Hall_heard T.d_Hall_heard ["self", "link"] (sp_hX cx T.c_Hall T.c_Door "heard" (fun m => m = [])) := by
  have G_Hall__door := ok_doorO (P := P) (w := w) (base := base) T Z
  refine T.F_Hall_heard.okX sc_Hall_heard (fun vs H Q E h => ?_) (fun cdv A outer s H vs Q E hr h => ?_)
  · obtain ⟨_, _, _, _, _, _, _, _, _, _, _, _, rfl, rfl, _⟩ := h
    rfl
  · obtain ⟨p, B, M, h, po, e, d, s, ws, k, wd, _, rfl, rfl, eM, ha, sm, od, q⟩ := h
    refine ⟨_, (pss_cons (ps_set (i := 2) sc_Hall_heard.nd rfl (Or.inl rfl) (pe_meth (pv 0) T.cl_Hall T.me_Hall__door G_Hall__door (hr.mono (by decide)) T.b_Hall__door .nil (passes_call (takes_of rfl rfl rfl rfl) (fun _ _ _ _ h => h)) (pa_cons (pv 1) pa_nil)))
  pss_never), ?_⟩
    obtain ⟨dx, hp⟩ := ha.self
    refine ⟨_, rfl, p, dx, _, rfl, eM _ _ hp, by cases po <;> rfl, _, rfl, ?_⟩
    rcases od with ⟨hk, rfl⟩ | ⟨c, _⟩ | ⟨c, _⟩
    · exact .inr ⟨p, B, M, h, po, e, d, s, ws, k, rfl, eM, ha, sm, hk, q⟩
    · exact absurd c (by decide +kernel)
    · exact absurd c (by decide +kernel)
theorem ok_is_openX (T : Tx K mg) {cx : Cx3} (Z : Ex3 P K mg cx) : FnOk P w K mg base (L2.CX P w) 7 T.a_Hall_is_open T.d_Hall_is_open ["self", "link"] (sp_hX cx T.c_Hall T.c_Door "is_open" (fun m => m = [])) := by
  have G_Hall__door := ok_doorO (P := P) (w := w) (base := base) T Z
  refine T.F_Hall_is_open.okX sc_Hall_is_open (fun vs H Q E h => ?_) (fun cdv A outer s H vs Q E hr h => ?_)
  · obtain ⟨_, _, _, _, _, _, _, _, _, _, _, _, rfl, rfl, _⟩ := h
    rfl
  · obtain ⟨p, B, M, h, po, e, d, s, ws, k, wd, _, rfl, rfl, eM, ha, sm, od, q⟩ := h
    refine ⟨_, (pss_cons (ps_set (i := 2) sc_Hall_is_open.nd rfl (Or.inl rfl) (pe_meth (pv 0) T.cl_Hall T.me_Hall__door G_Hall__door (hr.mono (by decide)) T.b_Hall__door .nil (passes_call (takes_of rfl rfl rfl rfl) (fun _ _ _ _ h => h)) (pa_cons (pv 1) pa_nil)))
  pss_never), ?_⟩
    obtain ⟨dx, hp⟩ := ha.self
    refine ⟨_, rfl, p, dx, _, rfl, eM _ _ hp, by cases po <;> rfl, _, rfl, ?_⟩
    rcases od with ⟨hk, rfl⟩ | ⟨c, _⟩ | ⟨c, _⟩
    · exact .inr ⟨p, B, M, h, po, e, d, s, ws, k, rfl, eM, ha, sm, hk, q⟩
    · exact absurd c (by decide +kernel)
    · exact absurd c (by decide +kernel)
end
end K24

set_option maxHeartbeats 1000000
namespace K24
open PySem PySem.Spec PyProof.Rows L2 L2H Evl MyG
/-! ### the word of what is refused -/
def cx0 {K : PySem.W.Frag} {mg : Str → Option Value} (T : Tx K mg) : Cx3 := ⟨T.c_NoLink, T.c_Cut, T.c_Runs⟩
structure Tz (P : Program) (K : PySem.W.Frag) (mg : Str → Option Value) (T : Tx K mg) : Prop where
  X : Ex3 P K mg (cx0 T)
  e : ∀ wd, ExcC K ((cx0 T).of wd)
  x : ∀ wd, XfC K ((cx0 T).of wd)
  m : ∀ wd, PySem.W.exmOne K (.ref ((cx0 T).of wd)) (.ref T.c_RingError) = some true
  kL : ∀ wd, PySem.W.kitOne K (.ref ((cx0 T).of wd)) (.ref T.c_NoLink) = some (decide (wd = "none"))
  kC : ∀ wd, PySem.W.kitOne K (.ref ((cx0 T).of wd)) (.ref T.c_Cut) = some (decide (wd ≠ "none" ∧ wd = "cut"))
  kR : ∀ wd, PySem.W.kitOne K (.ref ((cx0 T).of wd)) (.ref T.c_Runs) = some (decide (wd ≠ "none" ∧ wd ≠ "cut"))
  v : ∀ wd, PySem.W.kitOne K (.ref ((cx0 T).of wd)) (.type "ValueError") = some true
theorem Tz.no {P : Program} {K : PySem.W.Frag} {mg : Str → Option Value} {T : Tx K mg} (Z : Tz P K mg T) (wd : Str) : PySem.W.findIn K (.ref ((cx0 T).of wd)) "number" = some none := by
  obtain ⟨_, _, _, _, XL⟩ := Z.X.L
  obtain ⟨_, _, _, _, XC⟩ := Z.X.C
  obtain ⟨_, _, _, _, XR⟩ := Z.X.R
  unfold Cx3.of
  split
  · exact XL.no
  · split
    · exact XC.no
    · exact XR.no
def sp_word (c : Cx3) : Addr → Value → Option Addr → Sp := fun a cls d vs H Q _ => ∃ (wd : Str) (dd : Addr) (n : Int), vs = [.ref a] ∧ (wd = "none" ∨ wd = "cut" ∨ wd = "runs") ∧ cls = .ref (c.of wd) ∧ d = some dd ∧ H dd = some (.xd [("number", .int n)]) ∧
  ∀ t H', Ex H H' → H t = none → H' t = some (.tup [.str wd, .int n]) → Q (.ref t) H'
section
variable {P : Program} {w : World} {K : PySem.W.Frag} {mg : Str → Option Value} {base : Heap}
theorem ok_word (T : Tx K mg) (Z : Tz P K mg T) : FnW P w K mg base 2 T.a_l_word T.d_l_word ["_law_e"] (sp_word (cx0 T)) := by
  refine okW T.F_l_word sc_l_word (fun a cls d vs H Q E h => ?_) (fun cdv A outer s H vs Q E p cls d z kk hr h => ?_)
  · obtain ⟨_, _, _, rfl, _⟩ := h
    rfl
  · obtain ⟨wd, dd, n, rfl, hw, rfl, rfl, hd, q⟩ := h
    refine ⟨_, (pss_cons (ps_set (i := 1) sc_l_word.nd rfl (Or.inl rfl) (pe_lst pa_nil))
  (pss_cons (ps_if (pt_val (pe_callB (call_isP (K := K) (a := p.1) (oe := p.2) rfl (List.mem_cons_self ..) z kk) (by rfl) T.z_isinstance (by decide +kernel) (pa_cons (pv 0) (pa_cons (pe_glob (v := .ref T.c_NoLink) rfl T.g_NoLink rfl) pa_nil)))) (pss_one (ps_expr (pe_bm PySem.F.plainAttrs_list PySem.F.slot_list_append PySem.F.type_list_append mt_append (pv 1) (pa_cons pe_str pa_nil)))) pss_nil)
  (pss_cons (ps_if (pt_val (pe_callB (call_isP (K := K) (a := p.1) (oe := p.2) rfl (List.mem_cons_self ..) z kk) (by rfl) T.z_isinstance (by decide +kernel) (pa_cons (pv 0) (pa_cons (pe_glob (v := .ref T.c_Cut) rfl T.g_Cut rfl) pa_nil)))) (pss_one (ps_expr (pe_bm PySem.F.plainAttrs_list PySem.F.slot_list_append PySem.F.type_list_append mt_append (pv 1) (pa_cons pe_str pa_nil)))) pss_nil)
  (pss_cons (ps_if (pt_val (pe_callB (call_isP (K := K) (a := p.1) (oe := p.2) rfl (List.mem_cons_self ..) z kk) (by rfl) T.z_isinstance (by decide +kernel) (pa_cons (pv 0) (pa_cons (pe_glob (v := .ref T.c_Runs) rfl T.g_Runs rfl) pa_nil)))) (pss_one (ps_expr (pe_bm PySem.F.plainAttrs_list PySem.F.slot_list_append PySem.F.type_list_append mt_append (pv 1) (pa_cons pe_str pa_nil)))) pss_nil)
  (pss_one (ps_ret (pe_ifExp (PW.pt (pw_and (pt_cmpR op_eq (pe_callB (lenK (K := K) rfl) (by rfl) T.z_len (by decide +kernel) (pa_cons (pv 1) pa_nil)) pe_int (nomark _)) (pw_and1 (pt_val (pe_callB (call_isP (K := K) (a := p.1) (oe := p.2) rfl (List.mem_cons_self ..) z kk) (by rfl) T.z_isinstance (by decide +kernel) (pa_cons (pv 0) (pa_cons (pe_bltn (v := .ty "ValueError") (by rfl) T.z_ValueError (by decide +kernel) rfl) pa_nil))))))) (pe_tup (pa_cons (pe_ix (ix_listK (K := K) rfl) (pv 1) pe_int (fun _ _ => rfl)) (pa_cons (pe_xp (K := K) (a := p.1) (oe := p.2) rfl (List.mem_cons_self ..) z kk (pv 0)) pa_nil))) (pe_tup (pa_cons pe_str (pa_cons pe_non pa_nil)))))))))), ?_⟩
    refine ⟨Nat.zero_le _, fun L hL => ?_⟩
    have eL := Ex.new (o := .lst []) hL
    have hL1 : (upd H L (.lst [])) L = some (.lst []) := upd_same
    have hd1 := eL _ _ hd
    generalize upd H L (.lst []) = H1 at eL hL1 hd1 ⊢
    have ne : dd ≠ L := fun z => by rw [z, hL] at hd; cases hd
    dsimp only
    rcases hw with rfl | rfl | rfl
    · refine ⟨_, rfl, _, _, _, _, rfl, rfl, .inr ⟨dd, _, rfl, hd1⟩, Z.e _, .own _, Z.kL _, _, rfl, ?_⟩
      refine ite2 (fun _ => ?_) (fun c => absurd (by decide +kernel) c)
      refine ⟨_, rfl, Or.inl ⟨rfl, _, sq_of hL1⟩, L, [], _, rfl, rfl, hL1, len_lt (by decide), ?_⟩
      have e2 : Ex H (upd H1 L (.lst ([] ++ [V.str "none"]))) := eL.mut hL
      have hL2 : (upd H1 L (.lst ([] ++ [V.str "none"]))) L = some (.lst [V.str "none"]) := upd_same
      have hd2 : (upd H1 L (.lst ([] ++ [V.str "none"]))) dd = some (.xd [("number", .int n)]) := by rw [upd_ne ne]; exact hd1
      generalize upd H1 L (.lst ([] ++ [V.str "none"])) = H2 at e2 hL2 hd2 ⊢
      dsimp only
      refine ⟨_, rfl, _, _, _, _, rfl, rfl, .inr ⟨dd, _, rfl, hd2⟩, Z.e _, .own _, Z.kC _, _, rfl, ?_⟩
      refine ite2 (fun c => absurd c (by decide +kernel)) (fun _ => un_next ?_)
      dsimp only
      refine ⟨_, rfl, _, _, _, _, rfl, rfl, .inr ⟨dd, _, rfl, hd2⟩, Z.e _, .own _, Z.kR _, _, rfl, ?_⟩
      refine ite2 (fun c => absurd c (by decide +kernel)) (fun _ => un_next ?_)
      dsimp only
      refine ⟨_, rfl, L, _, rfl, .inl (SqL.of hL2), rfl, _, rfl, ite2 (fun _ => ?_) (fun c => absurd (by decide +kernel) c)⟩
      refine ⟨_, rfl, _, _, _, _, rfl, rfl, .inr ⟨dd, _, rfl, hd2⟩, Z.e _, .ty _, Z.v _, _, rfl, ?_⟩
      refine iteT ?_
      refine ⟨_, rfl, L, _, 0, _, rfl, rfl, SqL.of hL2, rfl, _, rfl, rfl, _, dd, _, .int n, rfl, Z.x _, Z.no _, rfl, hd2, rfl, by show 2 ≤ sizeLine; decide, fun t ht => ?_⟩
      exact q t _ (e2.trans (Ex.new ht)) (fresh_back e2 ht) upd_same
    · refine ⟨_, rfl, _, _, _, _, rfl, rfl, .inr ⟨dd, _, rfl, hd1⟩, Z.e _, .own _, Z.kL _, _, rfl, ?_⟩
      refine ite2 (fun c => absurd c (by decide +kernel)) (fun _ => un_next ?_)
      dsimp only
      refine ⟨_, rfl, _, _, _, _, rfl, rfl, .inr ⟨dd, _, rfl, hd1⟩, Z.e _, .own _, Z.kC _, _, rfl, ?_⟩
      refine ite2 (fun _ => ?_) (fun c => absurd (by decide +kernel) c)
      refine ⟨_, rfl, Or.inl ⟨rfl, _, sq_of hL1⟩, L, [], _, rfl, rfl, hL1, len_lt (by decide), ?_⟩
      have e2 : Ex H (upd H1 L (.lst ([] ++ [V.str "cut"]))) := eL.mut hL
      have hL2 : (upd H1 L (.lst ([] ++ [V.str "cut"]))) L = some (.lst [V.str "cut"]) := upd_same
      have hd2 : (upd H1 L (.lst ([] ++ [V.str "cut"]))) dd = some (.xd [("number", .int n)]) := by rw [upd_ne ne]; exact hd1
      generalize upd H1 L (.lst ([] ++ [V.str "cut"])) = H2 at e2 hL2 hd2 ⊢
      dsimp only
      refine ⟨_, rfl, _, _, _, _, rfl, rfl, .inr ⟨dd, _, rfl, hd2⟩, Z.e _, .own _, Z.kR _, _, rfl, ?_⟩
      refine ite2 (fun c => absurd c (by decide +kernel)) (fun _ => un_next ?_)
      dsimp only
      refine ⟨_, rfl, L, _, rfl, .inl (SqL.of hL2), rfl, _, rfl, ite2 (fun _ => ?_) (fun c => absurd (by decide +kernel) c)⟩
      refine ⟨_, rfl, _, _, _, _, rfl, rfl, .inr ⟨dd, _, rfl, hd2⟩, Z.e _, .ty _, Z.v _, _, rfl, ?_⟩
      refine iteT ?_
      refine ⟨_, rfl, L, _, 0, _, rfl, rfl, SqL.of hL2, rfl, _, rfl, rfl, _, dd, _, .int n, rfl, Z.x _, Z.no _, rfl, hd2, rfl, by show 2 ≤ sizeLine; decide, fun t ht => ?_⟩
      exact q t _ (e2.trans (Ex.new ht)) (fresh_back e2 ht) upd_same
    · refine ⟨_, rfl, _, _, _, _, rfl, rfl, .inr ⟨dd, _, rfl, hd1⟩, Z.e _, .own _, Z.kL _, _, rfl, ?_⟩
      refine ite2 (fun c => absurd c (by decide +kernel)) (fun _ => un_next ?_)
      dsimp only
      refine ⟨_, rfl, _, _, _, _, rfl, rfl, .inr ⟨dd, _, rfl, hd1⟩, Z.e _, .own _, Z.kC _, _, rfl, ?_⟩
      refine ite2 (fun c => absurd c (by decide +kernel)) (fun _ => un_next ?_)
      dsimp only
      refine ⟨_, rfl, _, _, _, _, rfl, rfl, .inr ⟨dd, _, rfl, hd1⟩, Z.e _, .own _, Z.kR _, _, rfl, ?_⟩
      refine ite2 (fun _ => ?_) (fun c => absurd (by decide +kernel) c)
      refine ⟨_, rfl, Or.inl ⟨rfl, _, sq_of hL1⟩, L, [], _, rfl, rfl, hL1, len_lt (by decide), ?_⟩
      have e2 : Ex H (upd H1 L (.lst ([] ++ [V.str "runs"]))) := eL.mut hL
      have hL2 : (upd H1 L (.lst ([] ++ [V.str "runs"]))) L = some (.lst [V.str "runs"]) := upd_same
      have hd2 : (upd H1 L (.lst ([] ++ [V.str "runs"]))) dd = some (.xd [("number", .int n)]) := by rw [upd_ne ne]; exact hd1
      generalize upd H1 L (.lst ([] ++ [V.str "runs"])) = H2 at e2 hL2 hd2 ⊢
      dsimp only
      refine ⟨_, rfl, L, _, rfl, .inl (SqL.of hL2), rfl, _, rfl, ite2 (fun _ => ?_) (fun c => absurd (by decide +kernel) c)⟩
      refine ⟨_, rfl, _, _, _, _, rfl, rfl, .inr ⟨dd, _, rfl, hd2⟩, Z.e _, .ty _, Z.v _, _, rfl, ?_⟩
      refine iteT ?_
      refine ⟨_, rfl, L, _, 0, _, rfl, rfl, SqL.of hL2, rfl, _, rfl, rfl, _, dd, _, .int n, rfl, Z.x _, Z.no _, rfl, hd2, rfl, by show 2 ≤ sizeLine; decide, fun t ht => ?_⟩
      exact q t _ (e2.trans (Ex.new ht)) (fresh_back e2 ht) upd_same
end
def sp_refused (C D : Addr) : Sp := fun vs H Q _ => ∃ (p : Addr) (B M : Hp) (h : HSt) (po : Option Addr) (e d s : Addr) (ws : List V) (w : Str) (k : Int) (lv : V) (wd : Str), vs = [.ref p, .str w, .int k, lv] ∧ w ∈ (["take", "cut", "mend", "role", "heard", "is_open"] : List Str) ∧ Ex M H ∧ HallIn C D B M p h po e d s ws ∧ k.natAbs < 10 ^ 9 ∧ Odd h w k wd ∧
  ∀ t H', Ex H H' → H t = none → H' t = some (.tup [.str wd, .int k]) → Q (.ref t) H'
section
variable {P : Program} {w : World} {K : PySem.W.Frag} {mg : Str → Option Value} {base : Heap}
theorem ok_refused (T : Tx K mg) (Z : Tz P K mg T) : FnOk P w K mg base (L2.CX P w) 9 T.a_l_refused T.d_l_refused ["_law_one", "_law_word_here", "_law_link", "_law_letter_here"] (sp_refused T.c_Hall T.c_Door) := by
  have G_l_word := ok_word (P := P) (w := w) (base := base) T Z
  have G_Hall_take := ok_takeX (P := P) (w := w) (base := base) T Z.X
  have G_Hall_cut := ok_cutX (P := P) (w := w) (base := base) T Z.X
  have G_Hall_mend := ok_mendX (P := P) (w := w) (base := base) T Z.X
  have G_Hall_role := ok_roleX (P := P) (w := w) (base := base) T Z.X
  have G_Hall_heard := ok_heardX (P := P) (w := w) (base := base) T Z.X
  have G_Hall_is_open := ok_is_openX (P := P) (w := w) (base := base) T Z.X
  refine T.F_l_refused.okX sc_l_refused (fun vs H Q E h => ?_) (fun cdv A outer s H vs Q E hr h => ?_)
  · obtain ⟨_, _, _, _, _, _, _, _, _, _, _, _, _, rfl, _⟩ := h
    rfl
  · obtain ⟨p, B, M, h, po, e, d, s', ws, w', k, lv, wd, rfl, hw, eM, ha, sm, od, q⟩ := h
    refine ⟨_, (pss_cons (ps_set (i := 4) sc_l_refused.nd rfl (Or.inl rfl) pe_non)
  (pss_cons (ps_try_as (i := 5) rfl rfl sc_l_refused.nd rfl rfl ⟨by rfl, by decide, .inl T.g_RingError⟩ (takes_of rfl rfl rfl rfl) (fun W pn xe tk po => (pss_one (ps_if (pt_cmpR op_eq (pv 1) pe_str (nomark _)) (pss_one (ps_expr (pe_methT (E := WE W) (pv 0) T.cl_Hall T.me_Hall_take G_Hall_take (hr.mono (by decide)) T.b_Hall_take (fun σ => passAt tk σ) (pa_cons (pv 2) (pa_cons (pv 3) pa_nil))))) (pss_one (ps_if (pt_cmpR op_eq (pv 1) pe_str (nomark _)) (pss_one (ps_expr (pe_methT (E := WE W) (pv 0) T.cl_Hall T.me_Hall_cut G_Hall_cut (hr.mono (by decide)) T.b_Hall_cut (fun σ => passAt tk σ) (pa_cons (pv 2) pa_nil)))) (pss_one (ps_if (pt_cmpR op_eq (pv 1) pe_str (nomark _)) (pss_one (ps_expr (pe_methT (E := WE W) (pv 0) T.cl_Hall T.me_Hall_mend G_Hall_mend (hr.mono (by decide)) T.b_Hall_mend (fun σ => passAt tk σ) (pa_cons (pv 2) pa_nil)))) (pss_one (ps_if (pt_cmpR op_eq (pv 1) pe_str (nomark _)) (pss_one (ps_expr (pe_methT (E := WE W) (pv 0) T.cl_Hall T.me_Hall_role G_Hall_role (hr.mono (by decide)) T.b_Hall_role (fun σ => passAt tk σ) (pa_cons (pv 2) pa_nil)))) (pss_one (ps_if (pt_cmpR op_eq (pv 1) pe_str (nomark _)) (pss_one (ps_expr (pe_methT (E := WE W) (pv 0) T.cl_Hall T.me_Hall_heard G_Hall_heard (hr.mono (by decide)) T.b_Hall_heard (fun σ => passAt tk σ) (pa_cons (pv 2) pa_nil)))) (pss_one (ps_expr (pe_methT (E := WE W) (pv 0) T.cl_Hall T.me_Hall_is_open G_Hall_is_open (hr.mono (by decide)) T.b_Hall_is_open (fun σ => passAt tk σ) (pa_cons (pv 2) pa_nil)))))))))))))))
   (fun a oe cls d pn z kk => (pss_one (ps_set (i := 4) sc_l_refused.nd rfl (Or.inl rfl) (pe_callW G_l_word (roomH_of (hr.mono (by decide))) z kk (by rfl) T.g_l_word T.F_l_word.kp T.b_l_word (pa_cons (pv 5) pa_nil))))))
  (pss_one (ps_ret (pv 4))))), ?_⟩
    obtain ⟨dx, hp⟩ := ha.self
    have hwd : wd = "none" ∨ wd = "cut" ∨ wd = "runs" := by
      rcases od with ⟨_, h⟩ | ⟨_, _, h⟩ | ⟨_, _, h⟩
      · exact .inl h
      · exact .inr (.inl h)
      · exact .inr (.inr h)
    have hpH := eM _ _ hp
    simp only [List.mem_cons, List.not_mem_nil, or_false] at hw
    show tSeq _ _ _ _ _
    rcases hw with rfl | rfl | rfl | rfl | rfl | rfl
    · refine ⟨_, rfl, rfl, _, rfl, ?_⟩
      refine ite2 (fun _ => ?_) (fun c => absurd (by decide +kernel) c)
      refine ⟨_, rfl, p, dx, _, rfl, hpH, (by cases po <;> rfl), ?_⟩
      refine ⟨_, rfl, _, rfl, p, B, M, h, po, e, d, s', ws, k, wd, [lv], rfl, ⟨lv, rfl⟩, eM, ha, sm, od, ?_⟩
      intro dd H2 e2 nd hx
      refine ⟨true, Z.m wd, fun _ a na => ?_, fun z => nomatch z⟩
      refine ⟨_, rfl, wd, dd, k, rfl, hwd, rfl, rfl, hx, fun t H3 e3 ht htt => ?_⟩
      exact ⟨_, rfl, q t H3 (e2.trans e3) (fresh_back e2 ht) htt⟩
    · refine ⟨_, rfl, rfl, _, rfl, ?_⟩
      refine ite2 (fun c => absurd c (by decide +kernel)) (fun _ => ?_)
      refine ⟨_, rfl, rfl, _, rfl, ?_⟩
      refine ite2 (fun _ => ?_) (fun c => absurd (by decide +kernel) c)
      refine ⟨_, rfl, p, dx, _, rfl, hpH, (by cases po <;> rfl), ?_⟩
      refine ⟨_, rfl, p, B, M, h, po, e, d, s', ws, k, wd, [], rfl, rfl, eM, ha, sm, od, ?_⟩
      intro dd H2 e2 nd hx
      refine ⟨true, Z.m wd, fun _ a na => ?_, fun z => nomatch z⟩
      refine ⟨_, rfl, wd, dd, k, rfl, hwd, rfl, rfl, hx, fun t H3 e3 ht htt => ?_⟩
      exact ⟨_, rfl, q t H3 (e2.trans e3) (fresh_back e2 ht) htt⟩
    · refine ⟨_, rfl, rfl, _, rfl, ?_⟩
      refine ite2 (fun c => absurd c (by decide +kernel)) (fun _ => ?_)
      refine ⟨_, rfl, rfl, _, rfl, ?_⟩
      refine ite2 (fun c => absurd c (by decide +kernel)) (fun _ => ?_)
      refine ⟨_, rfl, rfl, _, rfl, ?_⟩
      refine ite2 (fun _ => ?_) (fun c => absurd (by decide +kernel) c)
      refine ⟨_, rfl, p, dx, _, rfl, hpH, (by cases po <;> rfl), ?_⟩
      refine ⟨_, rfl, p, B, M, h, po, e, d, s', ws, k, wd, [], rfl, rfl, eM, ha, sm, od, ?_⟩
      intro dd H2 e2 nd hx
      refine ⟨true, Z.m wd, fun _ a na => ?_, fun z => nomatch z⟩
      refine ⟨_, rfl, wd, dd, k, rfl, hwd, rfl, rfl, hx, fun t H3 e3 ht htt => ?_⟩
      exact ⟨_, rfl, q t H3 (e2.trans e3) (fresh_back e2 ht) htt⟩
    · refine ⟨_, rfl, rfl, _, rfl, ?_⟩
      refine ite2 (fun c => absurd c (by decide +kernel)) (fun _ => ?_)
      refine ⟨_, rfl, rfl, _, rfl, ?_⟩
      refine ite2 (fun c => absurd c (by decide +kernel)) (fun _ => ?_)
      refine ⟨_, rfl, rfl, _, rfl, ?_⟩
      refine ite2 (fun c => absurd c (by decide +kernel)) (fun _ => ?_)
      refine ⟨_, rfl, rfl, _, rfl, ?_⟩
      refine ite2 (fun _ => ?_) (fun c => absurd (by decide +kernel) c)
      refine ⟨_, rfl, p, dx, _, rfl, hpH, (by cases po <;> rfl), ?_⟩
      refine ⟨_, rfl, p, B, M, h, po, e, d, s', ws, k, wd, [], rfl, rfl, eM, ha, sm, od, ?_⟩
      intro dd H2 e2 nd hx
      refine ⟨true, Z.m wd, fun _ a na => ?_, fun z => nomatch z⟩
      refine ⟨_, rfl, wd, dd, k, rfl, hwd, rfl, rfl, hx, fun t H3 e3 ht htt => ?_⟩
      exact ⟨_, rfl, q t H3 (e2.trans e3) (fresh_back e2 ht) htt⟩
    · refine ⟨_, rfl, rfl, _, rfl, ?_⟩
      refine ite2 (fun c => absurd c (by decide +kernel)) (fun _ => ?_)
      refine ⟨_, rfl, rfl, _, rfl, ?_⟩
      refine ite2 (fun c => absurd c (by decide +kernel)) (fun _ => ?_)
      refine ⟨_, rfl, rfl, _, rfl, ?_⟩
      refine ite2 (fun c => absurd c (by decide +kernel)) (fun _ => ?_)
      refine ⟨_, rfl, rfl, _, rfl, ?_⟩
      refine ite2 (fun c => absurd c (by decide +kernel)) (fun _ => ?_)
      refine ⟨_, rfl, rfl, _, rfl, ?_⟩
      refine ite2 (fun _ => ?_) (fun c => absurd (by decide +kernel) c)
      refine ⟨_, rfl, p, dx, _, rfl, hpH, (by cases po <;> rfl), ?_⟩
      refine ⟨_, rfl, p, B, M, h, po, e, d, s', ws, k, wd, [], rfl, rfl, eM, ha, sm, od, ?_⟩
      intro dd H2 e2 nd hx
      refine ⟨true, Z.m wd, fun _ a na => ?_, fun z => nomatch z⟩
      refine ⟨_, rfl, wd, dd, k, rfl, hwd, rfl, rfl, hx, fun t H3 e3 ht htt => ?_⟩
      exact ⟨_, rfl, q t H3 (e2.trans e3) (fresh_back e2 ht) htt⟩
    · refine ⟨_, rfl, rfl, _, rfl, ?_⟩
      refine ite2 (fun c => absurd c (by decide +kernel)) (fun _ => ?_)
      refine ⟨_, rfl, rfl, _, rfl, ?_⟩
      refine ite2 (fun c => absurd c (by decide +kernel)) (fun _ => ?_)
      refine ⟨_, rfl, rfl, _, rfl, ?_⟩
      refine ite2 (fun c => absurd c (by decide +kernel)) (fun _ => ?_)
      refine ⟨_, rfl, rfl, _, rfl, ?_⟩
      refine ite2 (fun c => absurd c (by decide +kernel)) (fun _ => ?_)
      refine ⟨_, rfl, rfl, _, rfl, ?_⟩
      refine ite2 (fun c => absurd c (by decide +kernel)) (fun _ => ?_)
      refine ⟨_, rfl, p, dx, _, rfl, hpH, (by cases po <;> rfl), ?_⟩
      refine ⟨_, rfl, p, B, M, h, po, e, d, s', ws, k, wd, [], rfl, rfl, eM, ha, sm, od, ?_⟩
      intro dd H2 e2 nd hx
      refine ⟨true, Z.m wd, fun _ a na => ?_, fun z => nomatch z⟩
      refine ⟨_, rfl, wd, dd, k, rfl, hwd, rfl, rfl, hx, fun t H3 e3 ht htt => ?_⟩
      exact ⟨_, rfl, q t H3 (e2.trans e3) (fresh_back e2 ht) htt⟩
end
end K24

set_option maxHeartbeats 1000000
namespace K24
open PySem PySem.Spec PyProof.Rows L2 Evl MyG
/-! ### what is refused, drawn -/
theorem len_of_sub {α : Type} [DecidableEq α] : ∀ {xs ys : List α}, xs.Nodup → (∀ x ∈ xs, x ∈ ys) → xs.length ≤ ys.length
  | [], _, _, _ => Nat.zero_le _
  | x :: xs, ys, nd, h => by
    rw [List.nodup_cons] at nd
    have hx := h x (List.mem_cons_self ..)
    have := len_of_sub (ys := ys.erase x) nd.2 fun y hy => (List.mem_erase_of_ne fun e => nd.1 (by rw [← e]; exact hy)).mpr (h y (List.mem_cons_of_mem _ hy))
    rw [List.length_erase_of_mem hx] at this
    have : 0 < ys.length := List.length_pos_of_mem hx
    rw [List.length_cons]
    omega
theorem pickV {s c : Addr} {B H0 : Hp} {Rs : List Hp} {vs : List V} {Qk : VK} (W : Wld s c B Rs H0) (l0 : 0 < vs.length) (l1 : vs.length ≤ 1000) (k : ∀ v ∈ vs, ∀ H', Wld s c B Rs H' → Qk v H') (L : Addr) (hL : H0 L = none) : sp_pick [.ref s, .ref L] (upd H0 L (.lst vs)) Qk E0 :=
  ⟨s, c, L, _, rfl, (W.ext (Ex.new hL)).st, upd_same, W.st.ne_s hL, W.st.ne_c hL, l0, by omega, fun j x H' hx st of => k x (List.mem_of_getElem? hx) H' ((W.ext (Ex.new hL)).drawn st of)⟩
def sp_odd : Sp := fun vs H Q _ => ∃ (s c m dA pt : Addr) (B M : Hp) (Rs : List Hp) (h : HSt) (us : List V), vs = [.ref s, .ref m] ∧ Wld s c B Rs H ∧ M ∈ Rs ∧ MdlIn B M m dA h (.ref pt) us ∧ 0 < h.doors.length ∧ h.doors.length ≤ 12 ∧
  ∀ w k wd B' t t2 H', Ex B B' → Wld s c B' Rs H' → w ∈ (["take", "cut", "mend", "role", "heard", "is_open"] : List Str) → Odd h w k wd → (k ∈ h.doors.map (·.1) ∨ (0 ≤ k ∧ k < 20)) → B' t = some (.tup [.str w, .int k, .ref t2]) → B' t2 = some (.tup [.str wd, .int k]) → Q (.ref t) H'
section
variable {P : Program} {w : World} {K : PySem.W.Frag} {mg : Str → Option Value} {base : Heap}
theorem ok_odd (T : Tx K mg) : FnOk P w K mg base CX0 4 T.a_l_odd T.d_l_odd ["_law_state", "_law_model"] sp_odd := by
  have G_l_draw := ok_draw (P := P) (w := w) (base := base) T
  have G_l_pick := ok_pick (P := P) (w := w) (base := base) T
  refine T.F_l_odd.ok sc_l_odd (fun vs H Q E h => ?_) (fun cdv A outer s0 H vs Q E hr h => ?_)
  · obtain ⟨_, _, _, _, _, _, _, _, _, _, rfl, _⟩ := h
    rfl
  · obtain ⟨s, c, m, dA, pt, B, M, Rs, h, us, rfl, W, hM, md, pos, few, q⟩ := h
    refine ⟨_, (pss_cons (ps_setLc (i := 3) (own := [("_law_link", 2)]) (g := (gName 2)) rfl sc_l_odd.nd rfl rfl (sw_true rfl rfl rfl (by decide +kernel)) (pi_range1 rfl T.z_range (pa_cons pe_int pa_nil)) (blkOk_by (N := n_l_odd) (sc := defScope s_l_odd) (by decide +kernel)) (fun _ _ _ _ _ => (pg_name (i := 2) sc_l_odd.nd rfl (Or.inl rfl))) (fun _ _ _ _ _ => (pts_one (pt_cmp (pc_dnotin (hu_of hr) (pv 2) (pe_dget (Nat.lt_of_le_of_lt (Nat.add_le_add_left (by decide) _) hr.units) (pv 1) pe_str (fun _ _ => rfl)))))) (fun _ _ _ _ _ => (pv 2)))
  (pss_cons (ps_set (i := 4) sc_l_odd.nd rfl (Or.inr rfl) (pe_lock (pe_lc (own := [("_law_link", 2), ("_law_door", 7)]) (g := (gTup K 2 (gCons (gName 2) (gCons (gName 7) gNil)))) rfl sc_l_odd.nd (pi_items (pe_dget (Nat.lt_of_le_of_lt (Nat.add_le_add_left (by decide) _) hr.units) (pv 1) pe_str (fun _ _ => rfl))) (blkOk_by (N := n_l_odd) (sc := defScope s_l_odd) (by decide +kernel)) (fun _ _ _ _ _ => (pg_tup rfl (pgs_cons (pg_name (i := 2) sc_l_odd.nd rfl (Or.inl rfl)) (pgs_cons (pg_name (i := 7) sc_l_odd.nd rfl (Or.inl rfl)) pgs_nil)))) (fun _ _ _ _ _ => (pts_one (pt_val (pe_dget (Nat.lt_of_le_of_lt (Nat.add_le_add_left (by decide) _) hr.units) (pv 7) pe_str (fun _ _ => rfl))))) (fun _ _ _ _ _ => (pv 2)))))
  (pss_cons (ps_lock (ps_setLc (i := 5) (own := [("_law_link", 2)]) (g := (gName 2)) rfl sc_l_odd.nd rfl rfl (sw_true rfl rfl rfl (by decide +kernel)) (pi_keys (pe_dget (Nat.lt_of_le_of_lt (Nat.add_le_add_left (by decide) _) hr.units) (pv 1) pe_str (fun _ _ => rfl))) (blkOk_by (N := n_l_odd) (sc := defScope s_l_odd) (by decide +kernel)) (fun _ _ _ _ _ => (pg_name (i := 2) sc_l_odd.nd rfl (Or.inl rfl))) (fun _ _ _ _ _ => (pts_one (pt_cmpR (op_niK (K := K) rfl) (pv 2) (pv 4) (by rfl)))) (fun _ _ _ _ _ => (pv 2))))
  (pss_cons (ps_set (i := 6) sc_l_odd.nd rfl (Or.inl rfl) (pe_call G_l_draw (hr.mono (by decide)) (by rfl) T.g_l_draw T.F_l_draw.kp T.b_l_draw .nil pass0 (pa_cons (pv 0) (pa_cons pe_int pa_nil))))
  (pss_cons (ps_if (PW.pt (pw_and (pt_cmpR op_eq (pv 6) pe_int (nomark _)) (pw_and1 (pt_cmpR (op_neK (K := K) rfl hr.units) (pv 4) (pe_lst pa_nil) (nomark _))))) (pss_cons (ps_set (i := 2) sc_l_odd.nd rfl (Or.inl rfl) (pe_call G_l_pick (hr.mono (by decide)) (by rfl) T.g_l_pick T.F_l_pick.kp T.b_l_pick .nil pass0 (pa_cons (pv 0) (pa_cons (pv 4) pa_nil))))
  (pss_one (ps_ret (pe_tup (pa_cons pe_str (pa_cons (pv 2) (pa_cons (pe_tup (pa_cons pe_str (pa_cons (pv 2) pa_nil))) pa_nil))))))) pss_nil)
  (pss_cons (ps_if (PW.pt (pw_and (pt_cmpR op_lt (pv 6) pe_int (nomark _)) (pw_and1 (pt_cmpR (op_neK (K := K) rfl hr.units) (pv 5) (pe_lst pa_nil) (nomark _))))) (pss_cons (ps_set (i := 2) sc_l_odd.nd rfl (Or.inl rfl) (pe_call G_l_pick (hr.mono (by decide)) (by rfl) T.g_l_pick T.F_l_pick.kp T.b_l_pick .nil pass0 (pa_cons (pv 0) (pa_cons (pv 5) pa_nil))))
  (pss_one (ps_ret (pe_tup (pa_cons (pe_ix (ix_listK (K := K) rfl) (pe_lst (pa_cons pe_str (pa_cons pe_str pa_nil))) (pe_op op_modN (pv 6) pe_int) (fun _ _ => rfl)) (pa_cons (pv 2) (pa_cons (pe_tup (pa_cons pe_str (pa_cons (pv 2) pa_nil))) pa_nil))))))) pss_nil)
  (pss_cons (ps_set (i := 2) sc_l_odd.nd rfl (Or.inl rfl) (pe_call G_l_pick (hr.mono (by decide)) (by rfl) T.g_l_pick T.F_l_pick.kp T.b_l_pick .nil pass0 (pa_cons (pv 0) (pa_cons (pv 3) pa_nil))))
  (pss_one (ps_ret (pe_tup (pa_cons (pe_call G_l_pick (hr.mono (by decide)) (by rfl) T.g_l_pick T.F_l_pick.kp T.b_l_pick .nil pass0 (pa_cons (pv 0) (pa_cons (pe_lst (pa_cons pe_str (pa_cons pe_str (pa_cons pe_str (pa_cons pe_str (pa_cons pe_str (pa_cons pe_str pa_nil))))))) pa_nil))) (pa_cons (pv 2) (pa_cons (pe_tup (pa_cons pe_str (pa_cons (pv 2) pa_nil))) pa_nil))))))))))))), ?_⟩
    have hmS := W.ex M hM _ _ md.self
    have hdS := W.ex M hM _ _ md.doors
    refine ⟨20, rfl, by decide, by decide, fun D0 hD0 => ?_⟩
    refine lc_it (walk_range (lo := 0) (n := 20)) (fun i H' => ∃ S : List Int, Ex H H' ∧ H' D0 = some (.lst (S.map V.int)) ∧ S.length ≤ i ∧ (∀ k ∈ S, 0 ≤ k ∧ k < 20 ∧ ¬ k ∈ h.doors.map (·.1)) ∧ ∀ j : Nat, j < i → ¬ (j : Int) ∈ h.doors.map (·.1) → (j : Int) ∈ S) ⟨[], Ex.new hD0, upd_same, Nat.le_refl _, fun k hk => (by simp at hk), fun j hj => (by omega)⟩ (fun _ _ _ _ => True.intro) ?_ ?_
    · rintro i x Hx Hx' hi ⟨S, ex, hc, ls, sb, cv⟩ ⟨rfl, rfl⟩
      refine ⟨rfl, ?_⟩
      have g : DGet Hx' dA (.int (0 + (i : Int))) (valV (intK (h.doors.map (·.1)) us) (Sum.inl (0 + (i : Int)))) := DGet.k (k := Sum.inl (0 + (i : Int))) (ex _ _ hdS)
      have z0 : (0 : Int) + (i : Int) = (i : Int) := by omega
      refine ⟨_, rfl, _, rfl, m, _, rfl, gS mv_doors (.inl (ex _ _ hmS)), dA, _, rfl, g, _, rfl, ?_⟩
      by_cases c : (i : Int) ∈ h.doors.map (·.1)
      · refine ite2 (fun z => ?_) (fun _ => ⟨S, ex, hc, by omega, sb, fun j hj hn => ?_⟩)
        · obtain ⟨j, hj⟩ := List.getElem?_of_mem c
          obtain ⟨v, hv⟩ : ∃ v, us[j]? = some v := ⟨_, List.getElem?_eq_getElem (by rw [md.len]; have := (List.getElem?_eq_some_iff.mp hj).1; rwa [List.length_map] at this)⟩
          rw [z0, intK_at md.nd hj hv] at z
          simp at z
        · by_cases e : j = i
          · rw [e] at hn
            exact absurd c hn
          · exact cv j (by omega) hn
      · refine ite2 (fun _ => ?_) (fun z => absurd (by rw [z0, intK_no c]; rfl) z)
        refine ⟨_, rfl, _, hc, len_lt (by rw [List.length_map]; omega), S ++ [(i : Int)], ex.mut hD0, ?_, by rw [List.length_append, List.length_singleton]; omega, fun k hk => ?_, fun j hj hn => ?_⟩
        · rw [upd_same, List.map_append]
          show some (HO.lst (List.map V.int S ++ [V.int (0 + (i : Int))])) = _
          rw [z0]
          rfl
        · rcases List.mem_append.mp hk with q | q
          · exact sb k q
          · rw [List.mem_singleton] at q
            rw [q]
            exact ⟨by omega, by omega, c⟩
        · by_cases e : j = i
          · rw [e]
            simp
          · exact List.mem_append.mpr (.inl (cv j (by omega) hn))
    rintro Hs ⟨S, exS, hcS, lsS, sbS, cvS⟩
    have sn : 0 < S.length := by
      cases S with
      | cons a r => exact Nat.succ_pos _
      | nil =>
        have := len_of_sub (xs := (List.range 20).map fun (j : Nat) => (j : Int)) (ys := h.doors.map (·.1)) (by decide) (fun x hx => by
          obtain ⟨j, hj, rfl⟩ := List.mem_map.mp hx
          rw [List.mem_range] at hj
          exact Decidable.byContradiction fun c => absurd (cvS j hj c) (by simp))
        rw [List.length_map, List.length_map, List.length_range] at this
        omega
    have W0 := W.knew exS hD0 hcS
    have eB0 : Ex B (upd B D0 (.lst (S.map V.int))) := Ex.new (W.none hD0)
    have hS0 : (upd B D0 (.lst (S.map V.int))) D0 = some (.lst (S.map V.int)) := upd_same
    generalize upd B D0 (.lst (S.map V.int)) = B0 at W0 eB0 hS0
    clear hD0 hcS exS cvS hmS hdS W
    dsimp only
    show tSeq _ _ _ _ _
    have hm := W0.ex M hM _ _ md.self
    have hd := W0.ex M hM _ _ md.doors
    have lk : (intK (h.doors.map (·.1)) us).length = h.doors.length := by rw [intK_len (by rw [List.length_map]; exact md.len), List.length_map]
    have rl : ∀ i, (runs (h.doors.take i)).length ≤ 20 := fun i => by
      have h1 : (runs (h.doors.take i)).length ≤ (h.doors.take i).length := List.length_filterMap_le ..
      rw [List.length_take] at h1
      omega
    refine ⟨dA, _, hd, True.intro, fun od => ?_⟩
    have hmL : (upd Hs dA (.frz od (.dK (intK (h.doors.map (·.1)) us)))) m = some (.dK (mdlKV h dA (.ref pt))) := by rw [upd_ne md.m_d]; exact hm
    have hdL : (upd Hs dA (.frz od (.dK (intK (h.doors.map (·.1)) us)))) dA = some (.frz od (.dK (intK (h.doors.map (·.1)) us))) := upd_same
    have aL : ∀ {a : Addr} {be co : Int} {hv : V} {x : Option Dr}, M a = some (.dK (drKV be co hv x)) → (upd Hs dA (.frz od (.dK (intK (h.doors.map (·.1)) us)))) a = some (.dK (drKV be co hv x)) := fun {a be co hv x} hh => by
      rw [upd_ne (md.a_d hh)]
      exact W0.ex M hM _ _ hh
    have nL : ∀ x, (upd Hs dA (.frz od (.dK (intK (h.doors.map (·.1)) us)))) x = none → x ≠ dA ∧ Hs x = none := fun x hx => by
      by_cases z : x = dA
      · rw [z, upd_same] at hx
        cases hx
      · rw [upd_ne z] at hx
        exact ⟨z, hx⟩
    generalize hHL : upd Hs dA (.frz od (.dK (intK (h.doors.map (·.1)) us))) = HL at hmL hdL aL nL
    refine ⟨_, rfl, m, _, rfl, gS mv_doors (.inl hmL), dA, od, _, rfl, hdL, fun D hD => ?_⟩
    refine lc_it walk_items (fun i H' => Ex HL H' ∧ H' D = some (.lst (((runs (h.doors.take i)).map (·.1)).map V.int))) ⟨Ex.new hD, upd_same⟩ (fun i H' _ ⟨ex, _⟩ => ex _ _ hdL) ?_ ?_
    · rintro i x Ha Ha' hi ⟨ex, hDa⟩ ⟨T', x1, y1, rfl, hT, rfl, hx1, hy1⟩
      rw [lk] at hi
      obtain ⟨⟨k, x⟩, hkx⟩ : ∃ y, h.doors[i]? = some y := ⟨_, List.getElem?_eq_getElem hi⟩
      obtain ⟨a, hv, be, co, hva, hen, hMa, hh, hok⟩ := md.each i k x hkx
      have hkv : (intK (h.doors.map (·.1)) us)[i]? = some (Sum.inl k, .ref a) := by
        unfold intK
        rw [List.getElem?_zipWith, List.getElem?_map, hkx, hva]
        rfl
      dsimp only at hx1 hy1
      rw [hkv] at hx1 hy1
      obtain rfl : V.int k = x1 := Option.some.inj hx1
      obtain rfl : V.ref a = y1 := Option.some.inj hy1
      have eT := Ex.new (o := .tup [.int k, .ref a]) hT
      have ha := eT _ _ (ex _ _ (aL hMa))
      have hDT := eT _ _ hDa
      have sn := runs_take hkx
      refine ⟨T', _, rfl, SqT.of upd_same, rfl, _, _, rfl, _, _, rfl, rfl, rfl, ?_⟩
      cases x with
      | none =>
        refine ⟨_, rfl, a, _, rfl, gS dv_runs (.inl ha), _, rfl, iteF ⟨ex.trans eT, ?_⟩⟩
        rw [sn, hDT]
        simp
      | some d =>
        refine ⟨_, rfl, a, _, rfl, gS dv_runs (.inl ha), _, rfl, iteT ⟨_, rfl, _, hDT, len_lt (by rw [List.length_map, List.length_map]; have := rl i; omega), (ex.trans eT).mut hD, ?_⟩⟩
        rw [upd_same, sn]
        simp
    rintro Hb ⟨ex, hDb⟩
    rw [lk, List.take_length] at hDb
    refine ⟨ex _ _ hdL, ?_⟩
    rw [← hHL] at ex
    have e1 := unlock_ex hd ex
    obtain ⟨Dd, hD0⟩ := nL D hD
    have hDc : (upd Hb dA (.dK (intK (h.doors.map (·.1)) us))) D = some (.lst (((runs h.doors).map (·.1)).map V.int)) := by rw [upd_ne Dd]; exact hDb
    have W1 := W0.knew e1 hD0 hDc
    have eB1 : Ex B0 (upd B0 D (.lst (((runs h.doors).map (·.1)).map V.int))) := Ex.new (W0.none hD0)
    have hD1 : (upd B0 D (.lst (((runs h.doors).map (·.1)).map V.int))) D = some (.lst (((runs h.doors).map (·.1)).map V.int)) := upd_same
    have rlen : ((runs h.doors).map (·.1)).length ≤ 20 := by
      have := rl h.doors.length
      rw [List.take_length] at this
      rw [List.length_map]
      exact this
    have rmem : ∀ k ∈ (runs h.doors).map (·.1), ∃ (i : Nat) (dr : Dr), h.doors[i]? = some (k, some dr) := fun k hk => by
      obtain ⟨⟨k', d⟩, hm, rfl⟩ := List.mem_map.mp hk
      obtain ⟨i, hi⟩ := List.getElem?_of_mem (runs_mem.mp hm)
      exact ⟨i, d, hi⟩
    have rmem2 : ∀ (i : Nat) (k : Int) (d : Dr), h.doors[i]? = some (k, some d) → k ∈ (runs h.doors).map (·.1) := fun i k d hi => List.mem_map.mpr ⟨(k, d), runs_mem.mpr (List.mem_of_getElem? hi), rfl⟩
    generalize (runs h.doors).map (·.1) = R at hDc W1 eB1 hD1 rlen rmem rmem2
    generalize upd B0 D (.lst (R.map V.int)) = B1 at W1 eB1 hD1
    generalize upd Hb dA (.dK (intK (h.doors.map (·.1)) us)) = H1 at W1
    clear hmL hdL aL nL hDb ex e1 hDc hm hd
    clear hHL hD
    have hm1 := W1.ex M hM _ _ md.self
    have hd1 := W1.ex M hM _ _ md.doors
    dsimp only
    show tSeq _ _ _ _ _
    refine ⟨dA, _, hd1, True.intro, fun od2 => ?_⟩
    have hmL : (upd H1 dA (.frz od2 (.dK (intK (h.doors.map (·.1)) us)))) m = some (.dK (mdlKV h dA (.ref pt))) := by rw [upd_ne md.m_d]; exact hm1
    have hdL : (upd H1 dA (.frz od2 (.dK (intK (h.doors.map (·.1)) us)))) dA = some (.frz od2 (.dK (intK (h.doors.map (·.1)) us))) := upd_same
    have DL : (upd H1 dA (.frz od2 (.dK (intK (h.doors.map (·.1)) us)))) D = some (.lst (R.map V.int)) := by rw [upd_ne Dd]; exact W1.w.ex _ _ hD1
    have nL : ∀ x, (upd H1 dA (.frz od2 (.dK (intK (h.doors.map (·.1)) us)))) x = none → x ≠ dA ∧ H1 x = none := fun x hx => by
      by_cases z : x = dA
      · rw [z, upd_same] at hx
        cases hx
      · rw [upd_ne z] at hx
        exact ⟨z, hx⟩
    generalize hHL : upd H1 dA (.frz od2 (.dK (intK (h.doors.map (·.1)) us))) = HL2 at hmL hdL DL nL
    refine ⟨_, rfl, m, _, rfl, gS mv_doors (.inl hmL), dA, od2, rfl, .inl ⟨_, hdL, fun D2 hD2 => ?_⟩⟩
    refine lc_it walk_keys (fun i H' => Ex HL2 H' ∧ H' D2 = some (.lst ((((h.doors.map (·.1)).take i).filter fun k => decide (¬ k ∈ R)).map V.int))) ⟨Ex.new hD2, upd_same⟩ (fun i H' _ ⟨ex, _⟩ => ex _ _ hdL) ?_ ?_
    · rintro i x Hc Hc' hi ⟨ex, hc⟩ ⟨rfl, k, v, hk, rfl⟩
      obtain ⟨l, hl, _, rfl⟩ := intK_ix hk
      have sn := filt_take (f := fun k => decide (¬ k ∈ R)) hl
      have lf := List.length_filter_le (fun k => decide (¬ k ∈ R)) ((h.doors.map (·.1)).take i)
      rw [List.length_take, List.length_map] at lf
      refine ⟨rfl, ?_⟩
      refine ⟨_, rfl, _, rfl, D, _, rfl, .inl (SqL.of (ex _ _ DL)), rfl, all_flat R, _, rfl, ?_⟩
      rw [if_pos rfl, show inV (kV (Sum.inl l)) (R.map V.int) = decide (l ∈ R) from inV_ints l R]
      refine ite2 (fun hn => ?_) (fun hn => ?_)
      · have hn : ¬ l ∈ R := by simpa using hn
        refine ⟨_, rfl, _, hc, len_lt (by rw [List.length_map]; omega), ex.mut hD2, ?_⟩
        rw [upd_same, sn, if_pos (decide_eq_true hn), List.map_append]
        rfl
      · have hn : l ∈ R := by simpa using hn
        refine ⟨ex, ?_⟩
        rw [sn, if_neg (by simp [hn]), List.append_nil]
        exact hc
    rintro Hc ⟨ex, hc⟩
    rw [lk, show h.doors.length = (h.doors.map (·.1)).length from (List.length_map ..).symm, List.take_length] at hc
    refine ⟨ex _ _ hdL, ?_⟩
    rw [← hHL] at ex
    have e2 := unlock_ex hd1 ex
    obtain ⟨Dd2, hD20⟩ := nL D2 hD2
    have hD2c : (upd Hc dA (.dK (intK (h.doors.map (·.1)) us))) D2 = some (.lst (((h.doors.map (·.1)).filter fun k => decide (¬ k ∈ R)).map V.int)) := by rw [upd_ne Dd2]; exact hc
    have W2 := W1.knew e2 hD20 hD2c
    have eB2 : Ex B1 (upd B1 D2 (.lst (((h.doors.map (·.1)).filter fun k => decide (¬ k ∈ R)).map V.int))) := Ex.new (W1.none hD20)
    have hD2k : (upd B1 D2 (.lst (((h.doors.map (·.1)).filter fun k => decide (¬ k ∈ R)).map V.int))) D2 = some (.lst (((h.doors.map (·.1)).filter fun k => decide (¬ k ∈ R)).map V.int)) := upd_same
    have alen : ((h.doors.map (·.1)).filter fun k => decide (¬ k ∈ R)).length ≤ 20 := by
      have := List.length_filter_le (fun k => decide (¬ k ∈ R)) (h.doors.map (·.1))
      rw [List.length_map] at this
      omega
    have amem : ∀ k ∈ (h.doors.map (·.1)).filter (fun k => decide (¬ k ∈ R)), ∃ (i : Nat), h.doors[i]? = some (k, none) := fun k hk => by
      obtain ⟨h1, h2⟩ := List.mem_filter.mp hk
      obtain ⟨⟨k', x⟩, hm, rfl⟩ := List.mem_map.mp h1
      obtain ⟨i, hi⟩ := List.getElem?_of_mem hm
      have h3 : ¬ k' ∈ R := by simpa using h2
      cases x with
      | none => exact ⟨i, hi⟩
      | some d => exact absurd (rmem2 i k' d hi) h3
    have some_of : R = [] → (h.doors.map (·.1)).filter (fun k => decide (¬ k ∈ R)) ≠ [] := fun e z => by
      rw [e] at z
      have : (h.doors.map (·.1)).filter (fun k => decide (¬ k ∈ ([] : List Int))) = h.doors.map (·.1) := List.filter_eq_self.mpr fun a _ => by simp
      rw [this] at z
      have := congrArg List.length z
      rw [List.length_map] at this
      have : h.doors.length = 0 := this
      omega
    generalize (h.doors.map (·.1)).filter (fun k => decide (¬ k ∈ R)) = A at hD2c W2 eB2 hD2k alen amem some_of
    generalize upd B1 D2 (.lst (A.map V.int)) = B2 at W2 eB2 hD2k
    generalize upd Hc dA (.dK (intK (h.doors.map (·.1)) us)) = H2 at W2
    clear hmL hdL DL nL hc ex e2 hD2c hm1 hd1
    clear hHL hD2
    have eB := eB1.trans eB2
    have hD2b := eB2 _ _ hD1
    dsimp only
    show tSeq _ _ _ _ _
    refine ⟨_, rfl, s, c, 5, rfl, W2.st, by decide, by decide, fun way H3 w0 w1 st3 of3 => ?_⟩
    have W3 := W2.drawn st3 of3
    have hS2 := eB2 _ _ (eB1 _ _ hS0)
    have eBB := eB0.trans eB
    dsimp only
    show tSeq _ _ _ _ _
    refine go_T (et_and (et_test (ev_op (ev_var rfl) ev_c (rv_eq rfl))) (fun _ => et_ne0 rfl (W3.w.ex _ _ hD2b))) (fun H4 e4 => ?_)
    have W4 := W3.ext e4
    refine ite2 (fun cc => ?_) (fun cc => un_next ?_)
    · have rn : 0 < R.length := by
        cases R with
        | nil => simp at cc
        | cons _ _ => exact Nat.succ_pos _
      refine ⟨_, rfl, _, rfl, pickK W4 hD2b rn (by omega) (fun k hk H5 W5 => ?_)⟩
      obtain ⟨i, dr, hi⟩ := rmem k hk
      dsimp only
      refine ⟨_, rfl, _, rfl, by show 2 ≤ sizeLine; decide, fun t2 h2 => ⟨by show 3 ≤ sizeLine; decide, fun t ht => ?_⟩⟩
      have W6 := W5.newK (o := .tup [.str "runs", .int k]) h2
      have W7 := W6.newK (o := .tup [.str "mend", .int k, .ref t2]) ht
      exact q "mend" k "runs" _ t t2 _ (eBB.trans ((Ex.new (W5.none h2)).trans (Ex.new (W6.none ht)))) W7 (by decide) (.inr (.inr ⟨rfl, ⟨i, dr, hi⟩, rfl⟩)) (.inl (List.mem_map.mpr ⟨_, List.mem_of_getElem? hi, rfl⟩)) upd_same ((Ex.new (W6.none ht)) _ _ upd_same)
    show tSeq _ _ _ _ _
    refine go_T (et_and (et_test (ev_op (ev_var rfl) ev_c rv_I0)) (fun _ => et_ne0 rfl (W4.w.ex _ _ hD2k))) (fun H5 e5 => ?_)
    have W5 := W4.ext e5
    refine ite2 (fun cc2 => ?_) (fun _ => un_next ?_)
    · have an : 0 < A.length := by
        cases A with
        | nil => simp at cc2
        | cons _ _ => exact Nat.succ_pos _
      have w3 : way < 3 := by
        have := (Bool.and_eq_true_iff.mp cc2).1
        simpa using this
      refine ⟨_, rfl, _, rfl, pickK W5 hD2k an (by omega) (fun k hk H6 W6 => ?_)⟩
      obtain ⟨i, hi⟩ := amem k hk
      have hkm : k ∈ h.doors.map (·.1) := List.mem_map.mpr ⟨_, List.mem_of_getElem? hi, rfl⟩
      dsimp only
      have fin : ∀ (w : Str) (L : Addr) (hL : H6 L = none), (w = "take" ∨ w = "cut") → ∀ (t2 t : Addr), (upd H6 L (.lst [.str "take", .str "cut"])) t2 = none → (upd (upd H6 L (.lst [.str "take", .str "cut"])) t2 (.tup [.str "cut", .int k])) t = none → Q (.ref t) (upd (upd (upd H6 L (.lst [.str "take", .str "cut"])) t2 (.tup [.str "cut", .int k])) t (.tup [.str w, .int k, .ref t2])) := fun w L hL hw t2 t h2 ht => by
        have W7 := (W6.ext (Ex.new (o := .lst [.str "take", .str "cut"]) hL)).newK (o := .tup [.str "cut", .int k]) h2
        have W8 := W7.newK (o := .tup [.str w, .int k, .ref t2]) ht
        exact q w k "cut" _ t t2 _ (eBB.trans ((Ex.new ((W6.ext (Ex.new (o := .lst [.str "take", .str "cut"]) hL)).none h2)).trans (Ex.new (W7.none ht)))) W8 (by rcases hw with rfl | rfl <;> decide) (.inr (.inl ⟨hw, ⟨i, hi⟩, rfl⟩)) (.inl hkm) upd_same ((Ex.new (W7.none ht)) _ _ upd_same)
      refine ⟨by show 2 ≤ sizeLine; decide, fun L hL => ?_⟩
      obtain ⟨wv, hwv, hix⟩ : ∃ wv : Str, (wv = "take" ∨ wv = "cut") ∧ atI [V.str "take", V.str "cut"] (way.fmod 2) = some (.str wv) := by
        rcases (show way = 0 ∨ way = 1 ∨ way = 2 by omega) with rfl | rfl | rfl
        · exact ⟨"take", .inl rfl, rfl⟩
        · exact ⟨"cut", .inr rfl, rfl⟩
        · exact ⟨"take", .inl rfl, rfl⟩
      refine ⟨_, rfl, way, 2, rfl, rfl, (by show (2 : Int) ≠ 0; decide), L, _, way.fmod 2, .str wv, rfl, rfl, SqL.of upd_same, hix, _, rfl, _, rfl, by show 2 ≤ sizeLine; decide, fun t2 h2 => ⟨by show 3 ≤ sizeLine; decide, fun t ht => ?_⟩⟩
      exact fin wv L hL hwv t2 t h2 ht
    show tSeq _ _ _ _ _
    refine ⟨_, rfl, _, rfl, pickK W5 (ns := S) hS2 sn (by omega) (fun k hk H6 W6 => ?_)⟩
    obtain ⟨k0, k20, kno⟩ := sbS k hk
    dsimp only
    refine ⟨_, rfl, by show 6 ≤ sizeLine; decide, fun L hL => ?_⟩
    refine pickV (vs := [V.str "take", .str "cut", .str "mend", .str "role", .str "heard", .str "is_open"]) W6 (by show 0 < 6; decide) (by show 6 ≤ 1000; decide) (fun v hv H7 W7 => ?_) L hL
    obtain ⟨wv, rfl, hw⟩ : ∃ wv : Str, v = .str wv ∧ wv ∈ (["take", "cut", "mend", "role", "heard", "is_open"] : List Str) := by
      simp only [List.mem_cons, List.not_mem_nil, or_false] at hv
      rcases hv with rfl | rfl | rfl | rfl | rfl | rfl <;> exact ⟨_, rfl, by decide⟩
    refine ⟨_, rfl, _, rfl, by show 2 ≤ sizeLine; decide, fun t2 h2 => ⟨by show 3 ≤ sizeLine; decide, fun t ht => ?_⟩⟩
    have W8 := W7.newK (o := .tup [.str "none", .int k]) h2
    have W9 := W8.newK (o := .tup [.str wv, .int k, .ref t2]) ht
    exact q wv k "none" _ t t2 _ (eBB.trans ((Ex.new (W7.none h2)).trans (Ex.new (W8.none ht)))) W9 hw (.inl ⟨kno, rfl⟩) (.inr ⟨k0, k20⟩) upd_same ((Ex.new (W8.none ht)) _ _ upd_same)
end
end K24

set_option maxHeartbeats 1000000
namespace K24
open PySem PySem.Spec PyProof.Rows L2 Evl MyG
def sp_law (K : PySem.W.Frag) : Sp := fun vs H Q _ => ∃ (a : Addr) (ns : List Int), vs = [.ref a] ∧ SqL K H a (ns.map V.int) ∧ ns.length ≤ 63 ∧ ∀ H', Q (.bl true) H'
theorem law_start (K : PySem.W.Frag) (H : Hp) (a : Addr) (ns : List Int) (hl : ns.length ≤ 63) (hS : SqL K H a (ns.map V.int)) : sp_law K [.ref a] H (fun v _ => v = .bl true) fun _ _ _ => False := ⟨a, ns, rfl, hS, hl, fun _ => rfl⟩
theorem shaped_word {wd : Str} (h : PyData.strOk wd = true) (k : Int) : SeqAt.shaped (.tuple [.str wd, .int k]) = true := by
  unfold SeqAt.shaped
  simp [PyData.canLay0, PyData.canLayAll0, PyData.depth, PyData.depthAll, h]
theorem eqv_word (wd : Str) (k : Int) : PyData.eqv (.tuple [.str wd, .int k]) (.tuple [.str wd, .int k]) = true := by simp [PyData.eqv, PyData.eqvAll]
theorem odd_ok {h : HSt} {w : Str} {k : Int} {wd : Str} (o : Odd h w k wd) : PyData.strOk wd = true := by
  rcases o with ⟨_, rfl⟩ | ⟨_, _, rfl⟩ | ⟨_, _, rfl⟩ <;> decide +kernel
section
variable {P : Program} {w : World} {K : PySem.W.Frag} {mg : Str → Option Value} {base : Heap}
theorem ok_law (T : Tx K mg) (Z : Tz P K mg T) : FnOkG P w K mg base CX0 12 T.a_law T.d_law ["_law_script"] (sp_law K) := by
  have G_l_begin := ok_begin (P := P) (w := w) (base := base) T
  have G_l_draw := ok_draw (P := P) (w := w) (base := base) T
  have G_l_pick := ok_pick (P := P) (w := w) (base := base) T
  have G_l_doors := ok_doors (P := P) (w := w) (base := base) T
  have G_l_hall := ok_hallM (P := P) (w := w) (base := base) T
  have G_l_looks := ok_looks (P := P) (w := w) (base := base) T
  have G_l_deed := ok_deedM (P := P) (w := w) (base := base) T
  have G_l_done := ok_doneM (P := P) (w := w) (base := base) T
  have G_l_odd := ok_odd (P := P) (w := w) (base := base) T
  have G_l_refused := ok_refused (P := P) (w := w) (base := base) T Z
  have G_Hall___init__ := ok_hinit (P := P) (w := w) (base := base) T
  have G_Say___init__ := ok_initS (P := P) (w := w) (base := base) T
  have G_Agree___init__ := ok_initA (P := P) (w := w) (base := base) T
  refine okG T.F_law sc_law (fun vs H Q E h => ?_) (fun cdv A outer s0 H vs Q E hgd hr h => ?_)
  · obtain ⟨_, _, rfl, _⟩ := h
    rfl
  · obtain ⟨a, ns, rfl, ha, hn, q⟩ := h
    refine ⟨_, (pss_cons (ps_set (i := 1) sc_law.nd rfl (Or.inr rfl) (pe_call G_l_begin (hr.mono (by decide)) (by rfl) T.g_l_begin T.F_l_begin.kp T.b_l_begin .nil pass0 (pa_cons (pv 0) pa_nil)))
  (pss_cons (ps_set (i := 2) sc_law.nd rfl (Or.inl rfl) (pe_call G_l_pick (hr.mono (by decide)) (by rfl) T.g_l_pick T.F_l_pick.kp T.b_l_pick .nil pass0 (pa_cons (pv 1) (pa_cons (pe_lst (pa_cons pe_int (pa_cons pe_int (pa_cons pe_int pa_nil)))) pa_nil))))
  (pss_cons (ps_set (i := 3) sc_law.nd rfl (Or.inl rfl) (pe_call G_l_doors (hr.mono (by decide)) (by rfl) T.g_l_doors T.F_l_doors.kp T.b_l_doors .nil pass0 (pa_cons (pv 1) (pa_cons (pv 2) (pa_cons (pe_op op_add pe_int (pe_call G_l_draw (hr.mono (by decide)) (by rfl) T.g_l_draw T.F_l_draw.kp T.b_l_draw .nil pass0 (pa_cons (pv 1) (pa_cons pe_int pa_nil)))) pa_nil)))))
  (pss_cons (ps_setLc (i := 5) (own := [("_law_link", 4)]) (g := (gName 4)) rfl sc_law.nd rfl rfl (sw_true rfl rfl rfl (by decide +kernel)) (iListK (K := K) rfl (pe_callB (call_sortedDI rfl) (by rfl) T.z_sorted (by decide +kernel) (pa_cons (pv 3) pa_nil))) (blkOk_by (N := n_law) (sc := defScope s_law) (by decide +kernel)) (fun _ _ _ _ _ => (pg_name (i := 4) sc_law.nd rfl (Or.inl rfl))) (fun _ _ _ _ _ => (pts_one (pt_cmpR op_eq (pe_call G_l_draw (hr.mono (by decide)) (by rfl) T.g_l_draw T.F_l_draw.kp T.b_l_draw .nil pass0 (pa_cons (pv 1) (pa_cons pe_int pa_nil))) pe_int (nomark _)))) (fun _ _ _ _ _ => (pv 4)))
  (pss_cons (ps_set (i := 6) sc_law.nd rfl (Or.inl rfl) (pe_ix (ix_tupK (K := K) rfl) (pe_call G_l_hall (hr.mono (by decide)) (by rfl) T.g_l_hall T.F_l_hall.kp T.b_l_hall .nil pass0 (pa_cons (pv 2) (pa_cons (pv 3) (pa_cons (pv 5) (pa_cons pe_int (pa_cons pe_str pa_nil)))))) pe_int (fun _ _ => rfl)))
  (pss_cons (ps_par (i := 7) (j := 8) rfl sc_law.nd rfl rfl (by decide) rfl rfl (pa_cons (pe_makeK T.m_Hall G_Hall___init__ (hr.mono (by decide)) (by rfl) T.g_Hall T.kb_Hall___init___2_cut pass0 (pa_cons (pv 2) (pa_cons (pv 3) pa_nil)) (pk_cons (pv 5) pk_nil)) (pa_cons pe_dnewK pa_nil)) (by rfl))
  (pss_cons (ps_for PassesOwn.never rfl (pi_range1 rfl T.z_range (pa_cons (pe_op op_add pe_int (pe_callB (call_min2 rfl) (by rfl) T.z_min (by decide +kernel) (pa_cons (pe_callB (lenK (K := K) rfl) (by rfl) T.z_len (by decide +kernel) (pa_cons (pv 0) pa_nil)) (pa_cons pe_int pa_nil)))) pa_nil)) (pg_name (i := 9) sc_law.nd rfl (Or.inl rfl))
   (pss_cons (ps_asg (pe_call G_l_odd (hr.mono (by decide)) (by rfl) T.g_l_odd T.F_l_odd.kp T.b_l_odd .nil pass0 (pa_cons (pv 1) (pa_cons (pv 6) pa_nil))) (pg_tup rfl (pgs_cons (pg_name (i := 10) sc_law.nd rfl (Or.inl rfl)) (pgs_cons (pg_name (i := 4) sc_law.nd rfl (Or.inl rfl)) (pgs_cons (pg_name (i := 11) sc_law.nd rfl (Or.inl rfl)) pgs_nil)))))
  (pss_cons (ps_set (i := 12) sc_law.nd rfl (Or.inl rfl) (pe_call G_l_pick (hr.mono (by decide)) (by rfl) T.g_l_pick T.F_l_pick.kp T.b_l_pick .nil pass0 (pa_cons (pv 1) (pa_cons (pe_lst (pa_cons (pe_make T.m_Say G_Say___init__ (hr.mono (by decide)) (by rfl) T.g_Say T.b_Say___init__ .nil pass0 (pa_cons pe_int (pa_cons pe_int (pa_cons pe_int pa_nil)))) (pa_cons (pe_make T.m_Agree G_Agree___init__ (hr.mono (by decide)) (by rfl) T.g_Agree T.b_Agree___init__ .nil pass0 (pa_cons pe_int pa_nil)) (pa_cons (pe_make T.m_Agree G_Agree___init__ (hr.mono (by decide)) (by rfl) T.g_Agree T.b_Agree___init__ .nil pass0 (pa_cons pe_int pa_nil)) pa_nil)))) pa_nil))))
  (pss_cons (ps_if (PW.pt (pw_and (pt_cmpR op_eq (pe_call G_l_draw (hr.mono (by decide)) (by rfl) T.g_l_draw T.F_l_draw.kp T.b_l_draw .nil pass0 (pa_cons (pv 1) (pa_cons pe_int pa_nil))) pe_int (nomark _)) (pw_and1 (pt_cmpR (op_neK (K := K) rfl hr.units) (pe_call G_l_refused (hr.mono (by decide)) (by rfl) T.g_l_refused T.F_l_refused.kp T.b_l_refused .nil passL (pa_cons (pv 7) (pa_cons (pv 10) (pa_cons (pv 4) (pa_cons (pv 12) pa_nil))))) (pv 11) (nomark _))))) (pss_one (ps_ret pe_bl)) pss_nil)
  (pss_cons (ps_if (pt_not (pt_val (pe_call G_l_looks (hr.mono (by decide)) (by rfl) T.g_l_looks T.F_l_looks.kp T.b_l_looks .nil pass0 (pa_cons (pv 7) (pa_cons (pv 6) pa_nil))))) (pss_one (ps_ret pe_bl)) pss_nil)
  (pss_cons (ps_asg (pe_call G_l_done (hr.mono (by decide)) (by rfl) T.g_l_done T.F_l_done.kp T.b_l_done .nil pass0 (pa_cons (pv 7) (pa_cons (pv 6) (pa_cons (pe_call G_l_deed (hr.mono (by decide)) (by rfl) T.g_l_deed T.F_l_deed.kp T.b_l_deed .nil pass0 (pa_cons (pv 1) (pa_cons (pv 6) (pa_cons (pv 8) pa_nil)))) (pa_cons (pv 8) pa_nil))))) (pg_tup rfl (pgs_cons (pg_name (i := 13) sc_law.nd rfl (Or.inl rfl)) (pgs_cons (pg_name (i := 14) sc_law.nd rfl (Or.inl rfl)) pgs_nil))))
  (pss_one (ps_if (pt_cmpR (op_neK (K := K) rfl hr.units) (pv 13) (pv 14) (nomark _)) (pss_one (ps_ret pe_bl)) pss_nil))))))))
  (pss_one (ps_ret (pe_call G_l_looks (hr.mono (by decide)) (by rfl) T.g_l_looks T.F_l_looks.kp T.b_l_looks .nil pass0 (pa_cons (pv 7) (pa_cons (pv 6) pa_nil)))))))))))), ?_⟩
    refine ⟨_, rfl, a, ns, rfl, ha, hn, fun s c H1 e1 hs hc st => ?_⟩
    have W1 : Wld s c (beside s c H1) [] H1 := ⟨beside_wd st, fun _ h => absurd h (by simp), fun _ h => absurd h (by simp), fun _ h => absurd h (by simp), .nil⟩
    have eHB := ex_beside e1 hs hc
    generalize beside s c H1 = B at W1 eHB
    dsimp only
    show tSeq _ _ _ _ _
    refine ⟨_, rfl, by show 3 ≤ sizeLine; decide, fun L1 hL1 => ?_⟩
    refine pickI (ns := [0, 6, 999]) W1 (by decide) (by decide) (fun own _ H3 W3 => ?_) L1 hL1
    dsimp only
    show tSeq _ _ _ _ _
    refine ⟨_, rfl, _, rfl, _, rfl, s, c, 5, rfl, W3.st, by decide, by decide, fun d4 H4 d40 d41 st4 of4 => ⟨_, _, rfl, rfl, s, c, own, 1 + d4, B, rfl, W3.drawn st4 of4, by omega, by omega, fun g B4 kvs gs evs H4 e4 W4 gt gk gl => ?_⟩⟩
    dsimp only
    show tSeq _ _ _ _ _
    -- off
    have gB : B g = none := fresh_back e4 W4.free
    have keq : kvs.map (·.1) = (gs.map (·.1)).map Sum.inl := by
      rw [gt.eq]
      exact intK_fst (by rw [List.length_map]; exact Paired.length gt.ev)
    refine ⟨_, rfl, g, kvs, gs.map (·.1), rfl, .inl W4.at_, keq, by rw [List.length_map]; omega, fun ys p pe so hp => ⟨p, rfl, ⟨_, SqL.of upd_same⟩, fun D hD => ?_⟩⟩
    have W5 := W4.newK (o := .lst (ys.map V.int)) hp
    have e5 : Ex B4 (upd B4 p (.lst (ys.map V.int))) := Ex.new (W4.none hp)
    have hp5 : (upd B4 p (.lst (ys.map V.int))) p = some (.lst (ys.map V.int)) := upd_same
    generalize upd B4 p (.lst (ys.map V.int)) = B5 at W5 e5 hp5
    have ly : ys.length ≤ 12 := by
      rw [pe.length_eq, List.length_map]
      omega
    refine lc_it (walk_list (xs := ys.map V.int)) (fun i H' => ∃ cs : List Int, Wld s c B5 [one D (.lst (cs.map V.int)), one g (.dK kvs)] H' ∧ cs.length ≤ i) ⟨[], W5.mk1 hD, Nat.zero_le _⟩ (fun i H' _ ⟨_, W, _⟩ => SqL.of (W.w.ex _ _ hp5)) ?_ ?_
    · rintro i x Ha Ha' hi ⟨cs, W, cl⟩ ⟨rfl, hxi⟩
      rw [List.length_map] at hi
      obtain ⟨l, hl⟩ : ∃ l, ys[i]? = some l := ⟨_, List.getElem?_eq_getElem hi⟩
      rw [List.getElem?_map, hl] at hxi
      obtain rfl := Option.some.inj hxi
      refine ⟨rfl, ?_⟩
      refine ⟨_, rfl, s, c, 3, rfl, W.st, by decide, by decide, fun r He r0 r1 st10 off10 => ⟨rfl, _, rfl, ?_⟩⟩
      have W10 := W.drawn st10 off10
      refine ite2 (fun _ => ?_) (fun _ => ⟨cs, W10, by omega⟩)
      refine ⟨_, rfl, cs.map V.int, W10.at_, len_lt (by rw [List.length_map]; omega), cs ++ [l], ?_, by rw [List.length_append, List.length_singleton]; omega⟩
      have := W10.put (o' := .lst (cs.map V.int ++ [.int l]))
      have em : cs.map V.int ++ [V.int l] = (cs ++ [l]).map V.int := by rw [List.map_append]; rfl
      show Wld s c B5 _ (upd He D (.lst (cs.map V.int ++ [V.int l])))
      rw [em] at this ⊢
      exact this
    rintro Hb ⟨cs, W, cl⟩
    have W6 := W.learn
    have e6 : Ex B5 (upd B5 D (.lst (cs.map V.int))) := Ex.new W.free
    have hD6 : (upd B5 D (.lst (cs.map V.int))) D = some (.lst (cs.map V.int)) := upd_same
    generalize upd B5 D (.lst (cs.map V.int)) = B6 at W6 e6 hD6
    have gt6 := gt.ext (e5.trans e6)
    clear W hp hD hp5 W5 W4
    dsimp only
    show tSeq _ _ _ _ _
    -- the model
    have Wk := W6.learn
    have hgk : (upd B6 g (.dK kvs)) g = some (.dK kvs) := upd_same
    have ek : Ex B6 (upd B6 g (.dK kvs)) := Ex.new W6.free
    have gtk := gt6.ext ek
    have hDk := ek _ _ hD6
    generalize upd B6 g (.dK kvs) = B7 at Wk hgk ek gtk hDk
    clear W6
    refine ⟨_, rfl, _, rfl, _, rfl, own, 360, "right", g, D, B7, gs, cs, evs, rfl, Wk.w.ex, by rw [← gtk.eq]; exact hgk, gtk.ev, gtk.nd, by omega, fun k hk => (gk k hk).1, hDk, fun ends m dA us G M2 H9 pt z xs t pe1 so1 kM h9 ht => ?_⟩
    have Wm := Wk.emp.stepM kM
    refine ⟨t, _, 0, _, rfl, rfl, SqT.of ht, rfl, ?_⟩
    dsimp only
    show tSeq _ _ _ _ _
    -- the hall
    refine ⟨_, rfl, _, rfl, _, rfl, rfl, rfl, ?_⟩
    have e7t := kM.exB
    have gtt := gtk.ext e7t
    intro p1 dx0 hp1 hdx0 ne0
    show sp_hinit K T.c_Hall T.c_Door T.c_Say T.c_Agree [.ref p1, .int own, .ref g, .ref D, .int 360, .str "right"] _ _ _
    refine hinit_new (own := own) (mm := 360) (rule := "right") (gs := gs) (cs := cs) (evs := evs) (g := g) hp1 hdx0 Wm.w.ex (by rw [← gtt.eq]; exact e7t _ _ hgk) gtt.ev gtt.nd (by omega) (fun H e => .inl (SqL.of (e _ _ (e7t _ _ hDk)))) (by decide) (fun ends2 G1 M1 H12 ea d1 s1 z1 xs1 ws1 pe2 so2 k1 => ⟨rfl, ?_⟩)
    obtain rfl : ends2 = ends := ends_uniq pe2 pe1 so2 so1 gtt.nd
    have W12 := Wm.emp.step k1
    have eG1 := k1.exB
    have hall0 := k1.hall
    have md0 := kM.mdl.ext eG1
    have pt0 := eG1 _ _ kM.pt
    have ea0 : Ex B G1 := ((((e4.trans e5).trans e6).trans ek).trans e7t).trans k1.exB
    have few0 : (stepH (initH own 360 "right" ends2 cs)).doors.length = (1 + d4).toNat := by
      rw [init_len, pe2.length_eq, gl]
    have keys0 : ∀ k ∈ (stepH (initH own 360 "right" ends2 cs)).doors.map (·.1), 0 ≤ k ∧ k < 100 := fun k hk => by
      rw [init_keys] at hk
      exact gk k ((pe2.map _).mem_iff.mp hk)
    have parts0 := step_part (initH own 360 "right" ends2 cs)
    have said0 := init_said (own := own) (most := 360) (rule := "right") (ends := ends2) (cs := cs)
    generalize stepH (initH own 360 "right" ends2 cs) = h0 at hall0 md0 pt0 few0 parts0 said0 keys0
    clear Wm k1 kM hgk hDk
    refine fun nA hnA => ⟨_, _, rfl, ?_⟩
    have W16 := W12.mk1 (o := .dK []) hnA
    clear W12
    dsimp only
    show tSeq _ _ _ _ _
    generalize hHn : upd H12 nA (.dK []) = Hn at W16
    have in0 : Ints [] := fun k v h => by cases h
    refine ⟨_, rfl, a, _, rfl, .inl (SqL.ex' ha (eHB.trans (ea0.trans W16.w.ex))), _, _, rfl, ?_⟩
    rw [List.length_map]
    generalize hmn : (if (12 : Int) < (ns.length : Int) then (12 : Int) else (ns.length : Int)) = mn
    have mn0 : 0 ≤ mn := by rw [← hmn]; split <;> omega
    have mn1 : mn ≤ 12 := by rw [← hmn]; split <;> omega
    refine ⟨_, _, rfl, rfl, 10 + mn, rfl, by omega, by omega, ?_⟩
    refine for_it (walk_range (lo := 0) (n := (10 + mn).toNat)) (fun i σ H' => ∃ y4 y9 y10 y11 y12 y13 y14, σ = [some (.ref a), some (.ref s), some (.int own), some (.ref g), y4, some (.ref D), some (.ref m), some (.ref p1), some (.ref nA), y9, y10, y11, y12, y13, y14] ∧
      ∃ B' M M' h s' ws pt' kns', Ex G1 B' ∧ Wld s c B' [one nA (.dK kns'), M, M'] H' ∧ HallIn T.c_Hall T.c_Door B' M p1 h (some z1) ea d1 s' ws ∧ MdlIn B' M' m dA h (.ref pt') us ∧ B' pt' = some (.tup (pairD h.st)) ∧ h.doors.map (·.1) = h0.doors.map (·.1) ∧ (∀ k d, (k, some d) ∈ h.doors → d.said ≤ (i : Int) + 1) ∧ (∀ k d, (k, some d) ∈ h.doors → d.part ≠ none) ∧ Ints kns' ∧ kns'.length ≤ 2 * i)
      ⟨_, _, _, _, _, _, _, rfl, G1, M1, M2, h0, s1, ws1, pt, [], Ex.refl _, W16, hall0, md0, pt0, rfl, fun k d hk => by have := said0 k d hk; omega, parts0, in0, Nat.zero_le _⟩ (fun _ _ _ _ _ => True.intro) ?_ ?_
    · rintro i xx σ Hc Hc' hi ⟨y4, y9, y10, y11, y12, y13, y14, rfl, B', M, M', h, s', ws, pt', kns', eB', W, hall, md, hpt, keys, said, parts, inn, nl⟩ ⟨rfl, hx⟩
      clear hx
      have len : h.doors.length = (1 + d4).toNat := by
        rw [← few0]
        have := congrArg List.length keys
        rwa [List.length_map, List.length_map] at this
      have hi36 : i < 22 := by omega
      show tSeq _ _ _ _ _
      refine ⟨_, rfl, _, rfl, s, c, m, dA, pt', B', M', _, h, us, rfl, W, by simp, md, by omega, by omega, fun w' k wd B2 t t2 H3 eB2 W2 hw od hk ht ht2 => ?_⟩
      have sm : k.natAbs < 10 ^ 9 := by
        rcases hk with hk | ⟨a1, a2⟩
        · have := keys0 k (by rw [← keys]; exact hk)
          omega
        · omega
      refine ⟨t, _, rfl, SqT.of (W2.w.ex _ _ ht), rfl, _, _, rfl, _, _, rfl, _, _, rfl, rfl, ?_⟩
      dsimp only
      show tSeq _ _ _ _ _
      refine ⟨_, rfl, ?_⟩
      intro x1 dx1 hx1 hdx1 ne1
      refine ⟨dx1, x1, 1, 0, 0, rfl, upd_same, fun H4 fr4 at4 => ⟨rfl, ?_⟩⟩
      have W3 := W2.ext (made_ex hx1 hdx1 fr4)
      intro x2 dx2 hx2 hdx2 ne2
      refine ⟨dx2, x2, 1, rfl, upd_same, fun H5 fr5 at5 => ⟨rfl, ?_⟩⟩
      have W4 := W3.ext (made_ex hx2 hdx2 fr5)
      intro x3 dx3 hx3 hdx3 ne3
      refine ⟨dx3, x3, 9, rfl, upd_same, fun H6 fr6 at6 => ⟨rfl, ?_⟩⟩
      have W5 := W4.ext (made_ex hx3 hdx3 fr6)
      clear W3 W4
      refine ⟨by show 3 ≤ sizeLine; decide, fun L hL => ?_⟩
      refine pickV (vs := [V.ref x1, .ref x2, .ref x3]) W5 (by show 0 < 3; decide) (by show 3 ≤ 1000; decide) (fun v hv H7 W7 => ?_) L hL
      dsimp only
      show tSeq _ _ _ _ _
      have hall2 := hall.ext eB2
      have md2 := md.ext eB2
      have pt2 := eB2 _ _ hpt
      refine seq_mid (fun σ H' => σ = [some (.ref a), some (.ref s), some (.int own), some (.ref g), some (.int k), some (.ref D), some (.ref m), some (.ref p1), some (.ref nA), some xx, some (.str w'), some (.ref t2), some v, y13, y14] ∧ Wld s c B2 [one nA (.dK kns'), M, M'] H') (fun N hN => ?_) ?_
      · refine ⟨_, rfl, s, c, 2, rfl, W7.st, by decide, by decide, fun d H8 _ _ st8 of8 => ⟨rfl, _, rfl, ?_⟩⟩
        have W8 := W7.drawn st8 of8
        refine ite2 (fun _ => ?_) (fun _ => iteF (un_next (hN _ _ ⟨rfl, W8⟩)))
        refine ⟨_, rfl, _, rfl, _, rfl, _, rfl, p1, B2, M, h, some z1, ea, d1, s', ws, w', k, v, wd, rfl, hw, W8.ex M (by simp), hall2, sm, od, fun tr H9 e9 _ htr => ⟨_, rfl, .tuple [.str wd, .int k], .tuple [.str wd, .int k], .tup (SqT.of htr) (.cons (.str _) (.cons (.int _) .nil)), .tup (SqT.of (e9 _ _ (W8.w.ex _ _ ht2))) (.cons (.str _) (.cons (.int _) .nil)), shaped_word (odd_ok od) _, shaped_word (odd_ok od) _, _, rfl, ?_⟩⟩
        rw [eqv_word]
        exact iteF (un_next (hN _ _ ⟨rfl, W8.ext e9⟩))
      rintro σ Hd ⟨rfl, Wd⟩
      show tSeq _ _ _ _ _
      refine ⟨_, rfl, _, rfl, p1, m, ea, d1, s', dA, pt', B2, M, B2, M', h, some z1, ws, us, rfl, Wd.w.ex, Wd.ex M (by simp), hall2, Wd.w.ex, Wd.ex M' (by simp), Wd.drop.dj12, md2, pt2, parts, fun H8 e8 => ⟨_, rfl, iteF (un_next ?_)⟩⟩
      have We := Wd.ext e8
      show tSeq _ _ _ _ _
      refine ⟨_, rfl, _, rfl, _, rfl, _, rfl, _, rfl, s, c, m, nA, dA, pt', B2, M', [M, M'], h, us, kns', rfl, We, by simp, md2, pt2, by omega, by omega, fun k d hk => by have := said k d hk; omega, inn, by omega, fun kns2 B3 td H4 eB3 W3 inn2 nl2 dd => ?_⟩
      refine ⟨_, rfl, s, c, p1, ea, d1, s', m, nA, dA, pt', td, B3, M, M', [], h, some z1, ws, us, kns2, rfl, W3, hall2.ext eB3, md2.ext eB3, eB3 _ _ pt2, dd.1, by omega, inn2, by omega, fun h1 G kns3 Mn Mn' Hn pt3 s3 t t1 xs3 ys3 ws3 nx eG W4 inn3 nl3 hall3 md3 hpt3 ⟨z3, ht, hl1, tl1, hl2, tl2⟩ => ?_⟩
      refine ⟨t, _, rfl, SqT.of ht, rfl, _, _, rfl, _, _, rfl, rfl, ?_⟩
      dsimp only
      refine ⟨_, rfl, _, rfl, .list (toldD (stepP h1)), .list (toldD (stepP h1)), .lst (SqL.of hl1) (dp_told tl1), .lst (SqL.of hl2) (dp_told tl2), shaped_told _, shaped_told _, _, rfl, ?_⟩
      rw [eqv_told]
      refine iteF (un_next ?_)
      refine ⟨_, _, _, _, _, _, _, rfl, G, Mn, Mn', stepH h1, s3, ws3, pt3, kns3, eB'.trans (eB2.trans (eB3.trans eG)), W4, hall3, md3, hpt3, (next_keys nx.1).trans keys, fun k d hk => ?_, step_part h1, inn3, by omega⟩
      have := next_said nx.1 (n := (i : Int) + 1) (by omega) said k d hk
      omega
    rintro σ He ⟨y4, y9, y10, y11, y12, y13, y14, rfl, B', M, M', h, s', ws, pt', kns', eB', W, hall, md, hpt, keys, said, parts, inn, nl⟩
    dsimp only
    exact ⟨_, rfl, _, rfl, p1, m, ea, d1, s', dA, pt', B', M, B', M', h, some z1, ws, us, rfl, W.w.ex, W.ex M (by simp), hall, W.w.ex, W.ex M' (by simp), W.drop.dj12, md, hpt, parts, fun H5 e5 => q _⟩
end
end K24

set_option maxHeartbeats 8000000
namespace K24
open PySem PySem.Spec PyProof.Rows L2 Evl MyG
theorem of_all {c : Cx3} {p : Str → Addr → Prop} (h1 : ∀ wd : Str, wd = "none" → p wd c.L) (h2 : ∀ wd : Str, wd ≠ "none" → wd = "cut" → p wd c.C) (h3 : ∀ wd : Str, wd ≠ "none" → wd ≠ "cut" → p wd c.R) (wd : Str) : p wd (c.of wd) := by
  unfold Cx3.of
  by_cases a : wd = "none"
  · rw [if_pos a]
    exact h1 wd a
  · rw [if_neg a]
    by_cases b : wd = "cut"
    · rw [if_pos b]
      exact h2 wd a b
    · rw [if_neg b]
      exact h3 wd a b
/-! ### what the top has written -/
theorem all_mk {l : PySem.W.OpenLaw} {w : World} {K : PySem.W.Frag} {h : Heap} {mg : Str → Option Value} {fa : Addr} (X : K.In h) (G : h.Ns mainGlobals mg) (hfa : mg "law" = some (.ref fa))
    {C_Letter : Addr}
    {C_Say : Addr}
    {C_Agree : Addr}
    {C_Door : Addr}
    {C_Hall : Addr}
    {C_RingError : Addr}
    {C_NoLink : Addr}
    {C_Cut : Addr}
    {C_Runs : Addr}
    {f_l_begin : Addr} {od_l_begin an_l_begin : Option Addr} {sl_l_begin : Array (Option Value)} {oc_l_begin kV_l_begin dc_l_begin pm_l_begin cd_l_begin ct_l_begin : Value}
    {f_l_draw : Addr} {od_l_draw an_l_draw : Option Addr} {sl_l_draw : Array (Option Value)} {oc_l_draw kV_l_draw dc_l_draw pm_l_draw cd_l_draw ct_l_draw : Value}
    {f_l_pick : Addr} {od_l_pick an_l_pick : Option Addr} {sl_l_pick : Array (Option Value)} {oc_l_pick kV_l_pick dc_l_pick pm_l_pick cd_l_pick ct_l_pick : Value}
    {f_l_fresh : Addr} {od_l_fresh an_l_fresh : Option Addr} {sl_l_fresh : Array (Option Value)} {oc_l_fresh kV_l_fresh dc_l_fresh pm_l_fresh cd_l_fresh ct_l_fresh : Value}
    {f_l_hall : Addr} {od_l_hall an_l_hall : Option Addr} {sl_l_hall : Array (Option Value)} {oc_l_hall kV_l_hall dc_l_hall pm_l_hall cd_l_hall ct_l_hall : Value}
    {f_l_reckon : Addr} {od_l_reckon an_l_reckon : Option Addr} {sl_l_reckon : Array (Option Value)} {oc_l_reckon kV_l_reckon dc_l_reckon pm_l_reckon cd_l_reckon ct_l_reckon : Value}
    {f_l_role : Addr} {od_l_role an_l_role : Option Addr} {sl_l_role : Array (Option Value)} {oc_l_role kV_l_role dc_l_role pm_l_role cd_l_role ct_l_role : Value}
    {f_l_stepped : Addr} {od_l_stepped an_l_stepped : Option Addr} {sl_l_stepped : Array (Option Value)} {oc_l_stepped kV_l_stepped dc_l_stepped pm_l_stepped cd_l_stepped ct_l_stepped : Value}
    {f_l_open : Addr} {od_l_open an_l_open : Option Addr} {sl_l_open : Array (Option Value)} {oc_l_open kV_l_open dc_l_open pm_l_open cd_l_open ct_l_open : Value}
    {f_l_taken : Addr} {od_l_taken an_l_taken : Option Addr} {sl_l_taken : Array (Option Value)} {oc_l_taken kV_l_taken dc_l_taken pm_l_taken cd_l_taken ct_l_taken : Value}
    {f_l_cut : Addr} {od_l_cut an_l_cut : Option Addr} {sl_l_cut : Array (Option Value)} {oc_l_cut kV_l_cut dc_l_cut pm_l_cut cd_l_cut ct_l_cut : Value}
    {f_l_mended : Addr} {od_l_mended an_l_mended : Option Addr} {sl_l_mended : Array (Option Value)} {oc_l_mended kV_l_mended dc_l_mended pm_l_mended cd_l_mended ct_l_mended : Value}
    {f_l_told : Addr} {od_l_told an_l_told : Option Addr} {sl_l_told : Array (Option Value)} {oc_l_told kV_l_told dc_l_told pm_l_told cd_l_told ct_l_told : Value}
    {f_l_looks : Addr} {od_l_looks an_l_looks : Option Addr} {sl_l_looks : Array (Option Value)} {oc_l_looks kV_l_looks dc_l_looks pm_l_looks cd_l_looks ct_l_looks : Value}
    {f_l_letter : Addr} {od_l_letter an_l_letter : Option Addr} {sl_l_letter : Array (Option Value)} {oc_l_letter kV_l_letter dc_l_letter pm_l_letter cd_l_letter ct_l_letter : Value}
    {f_l_doors : Addr} {od_l_doors an_l_doors : Option Addr} {sl_l_doors : Array (Option Value)} {oc_l_doors kV_l_doors dc_l_doors pm_l_doors cd_l_doors ct_l_doors : Value}
    {f_l_say : Addr} {od_l_say an_l_say : Option Addr} {sl_l_say : Array (Option Value)} {oc_l_say kV_l_say dc_l_say pm_l_say cd_l_say ct_l_say : Value}
    {f_l_agree : Addr} {od_l_agree an_l_agree : Option Addr} {sl_l_agree : Array (Option Value)} {oc_l_agree kV_l_agree dc_l_agree pm_l_agree cd_l_agree ct_l_agree : Value}
    {f_l_deed : Addr} {od_l_deed an_l_deed : Option Addr} {sl_l_deed : Array (Option Value)} {oc_l_deed kV_l_deed dc_l_deed pm_l_deed cd_l_deed ct_l_deed : Value}
    {f_l_done : Addr} {od_l_done an_l_done : Option Addr} {sl_l_done : Array (Option Value)} {oc_l_done kV_l_done dc_l_done pm_l_done cd_l_done ct_l_done : Value}
    {f_l_word : Addr} {od_l_word an_l_word : Option Addr} {sl_l_word : Array (Option Value)} {oc_l_word kV_l_word dc_l_word pm_l_word cd_l_word ct_l_word : Value}
    {f_l_refused : Addr} {od_l_refused an_l_refused : Option Addr} {sl_l_refused : Array (Option Value)} {oc_l_refused kV_l_refused dc_l_refused pm_l_refused cd_l_refused ct_l_refused : Value}
    {f_l_odd : Addr} {od_l_odd an_l_odd : Option Addr} {sl_l_odd : Array (Option Value)} {oc_l_odd kV_l_odd dc_l_odd pm_l_odd cd_l_odd ct_l_odd : Value}
    {f_kept T_kept : Addr} {od_kept an_kept oT_kept : Option Addr} {sl_kept sT_kept : Array (Option Value)} {oc_kept kV_kept dc_kept pm_kept cd_kept ct_kept cT_kept : Value} {nT_kept : Nat} {tk0_kept : Tok}
    {f_is_number : Addr} {od_is_number an_is_number : Option Addr} {sl_is_number : Array (Option Value)} {oc_is_number kV_is_number dc_is_number pm_is_number cd_is_number ct_is_number : Value}
    {f_least : Addr} {od_least an_least : Option Addr} {sl_least : Array (Option Value)} {oc_least kV_least dc_least pm_least cd_least ct_least : Value}
    {f_check_rule : Addr} {od_check_rule an_check_rule : Option Addr} {sl_check_rule : Array (Option Value)} {oc_check_rule kV_check_rule dc_check_rule pm_check_rule cd_check_rule ct_check_rule : Value}
    {f_Door___init__ : Addr} {od_Door___init__ an_Door___init__ : Option Addr} {sl_Door___init__ : Array (Option Value)} {oc_Door___init__ kV_Door___init__ dc_Door___init__ pm_Door___init__ cd_Door___init__ ct_Door___init__ : Value}
    {f_Hall___init__ D_Hall___init__ : Addr} {od_Hall___init__ an_Hall___init__ : Option Addr} {sl_Hall___init__ : Array (Option Value)} {oc_Hall___init__ dc_Hall___init__ pm_Hall___init__ cd_Hall___init__ ct_Hall___init__ : Value}
    {T_Hall___init___cut : Addr} {oT_Hall___init___cut : Option Addr} {nT_Hall___init___cut : Nat} {sT_Hall___init___cut : Array (Option Value)}
    {tk_Hall___init___most : Tok}
    {tk_Hall___init___rule : Tok}
    {f_Hall_take : Addr} {od_Hall_take an_Hall_take : Option Addr} {sl_Hall_take : Array (Option Value)} {oc_Hall_take kV_Hall_take dc_Hall_take pm_Hall_take cd_Hall_take ct_Hall_take : Value}
    {f_Hall_cut : Addr} {od_Hall_cut an_Hall_cut : Option Addr} {sl_Hall_cut : Array (Option Value)} {oc_Hall_cut kV_Hall_cut dc_Hall_cut pm_Hall_cut cd_Hall_cut ct_Hall_cut : Value}
    {f_Hall_mend : Addr} {od_Hall_mend an_Hall_mend : Option Addr} {sl_Hall_mend : Array (Option Value)} {oc_Hall_mend kV_Hall_mend dc_Hall_mend pm_Hall_mend cd_Hall_mend ct_Hall_mend : Value}
    {f_Hall_posted : Addr} {od_Hall_posted an_Hall_posted : Option Addr} {sl_Hall_posted : Array (Option Value)} {oc_Hall_posted kV_Hall_posted dc_Hall_posted pm_Hall_posted cd_Hall_posted ct_Hall_posted : Value}
    {f_Hall_standing : Addr} {od_Hall_standing an_Hall_standing : Option Addr} {sl_Hall_standing : Array (Option Value)} {oc_Hall_standing kV_Hall_standing dc_Hall_standing pm_Hall_standing cd_Hall_standing ct_Hall_standing : Value}
    {f_Hall_root_link : Addr} {od_Hall_root_link an_Hall_root_link : Option Addr} {sl_Hall_root_link : Array (Option Value)} {oc_Hall_root_link kV_Hall_root_link dc_Hall_root_link pm_Hall_root_link cd_Hall_root_link ct_Hall_root_link : Value}
    {f_Hall_role : Addr} {od_Hall_role an_Hall_role : Option Addr} {sl_Hall_role : Array (Option Value)} {oc_Hall_role kV_Hall_role dc_Hall_role pm_Hall_role cd_Hall_role ct_Hall_role : Value}
    {f_Hall_is_open : Addr} {od_Hall_is_open an_Hall_is_open : Option Addr} {sl_Hall_is_open : Array (Option Value)} {oc_Hall_is_open kV_Hall_is_open dc_Hall_is_open pm_Hall_is_open cd_Hall_is_open ct_Hall_is_open : Value}
    {f_Hall_heard : Addr} {od_Hall_heard an_Hall_heard : Option Addr} {sl_Hall_heard : Array (Option Value)} {oc_Hall_heard kV_Hall_heard dc_Hall_heard pm_Hall_heard cd_Hall_heard ct_Hall_heard : Value}
    {f_Hall__door : Addr} {od_Hall__door an_Hall__door : Option Addr} {sl_Hall__door : Array (Option Value)} {oc_Hall__door kV_Hall__door dc_Hall__door pm_Hall__door cd_Hall__door ct_Hall__door : Value}
    {f_Hall__running : Addr} {od_Hall__running an_Hall__running : Option Addr} {sl_Hall__running : Array (Option Value)} {oc_Hall__running kV_Hall__running dc_Hall__running pm_Hall__running cd_Hall__running ct_Hall__running : Value}
    {f_Hall__step : Addr} {od_Hall__step an_Hall__step : Option Addr} {sl_Hall__step : Array (Option Value)} {oc_Hall__step kV_Hall__step dc_Hall__step pm_Hall__step cd_Hall__step ct_Hall__step : Value}
    {f_Hall__write : Addr} {od_Hall__write an_Hall__write : Option Addr} {sl_Hall__write : Array (Option Value)} {oc_Hall__write kV_Hall__write dc_Hall__write pm_Hall__write cd_Hall__write ct_Hall__write : Value}
    {f_Hall__turn : Addr} {od_Hall__turn an_Hall__turn : Option Addr} {sl_Hall__turn : Array (Option Value)} {oc_Hall__turn kV_Hall__turn dc_Hall__turn pm_Hall__turn cd_Hall__turn ct_Hall__turn : Value}
    {f_Say___init__ : Addr} {od_Say___init__ an_Say___init__ : Option Addr} {sl_Say___init__ : Array (Option Value)} {oc_Say___init__ kV_Say___init__ dc_Say___init__ pm_Say___init__ cd_Say___init__ ct_Say___init__ : Value}
    {f_Say___eq__ : Addr} {od_Say___eq__ an_Say___eq__ : Option Addr} {sl_Say___eq__ : Array (Option Value)} {oc_Say___eq__ kV_Say___eq__ dc_Say___eq__ pm_Say___eq__ cd_Say___eq__ ct_Say___eq__ : Value}
    {f_Say_told : Addr} {od_Say_told an_Say_told : Option Addr} {sl_Say_told : Array (Option Value)} {oc_Say_told kV_Say_told dc_Say_told pm_Say_told cd_Say_told ct_Say_told : Value}
    {f_Agree___init__ : Addr} {od_Agree___init__ an_Agree___init__ : Option Addr} {sl_Agree___init__ : Array (Option Value)} {oc_Agree___init__ kV_Agree___init__ dc_Agree___init__ pm_Agree___init__ cd_Agree___init__ ct_Agree___init__ : Value}
    {f_Agree___eq__ : Addr} {od_Agree___eq__ an_Agree___eq__ : Option Addr} {sl_Agree___eq__ : Array (Option Value)} {oc_Agree___eq__ kV_Agree___eq__ dc_Agree___eq__ pm_Agree___eq__ cd_Agree___eq__ ct_Agree___eq__ : Value}
    {f_Agree_told : Addr} {od_Agree_told an_Agree_told : Option Addr} {sl_Agree_told : Array (Option Value)} {oc_Agree_told kV_Agree_told dc_Agree_told pm_Agree_told cd_Agree_told ct_Agree_told : Value}
    {f_law : Addr} {od_law an_law : Option Addr} {sl_law : Array (Option Value)} {oc_law kV_law dc_law pm_law cd_law ct_law : Value}
    {t_NOTHING : Tok}
    {t_NONE_BEYOND : Tok}
    {A_RULES : Addr} {oT_RULES : Option Addr} {nT_RULES : Nat} {sT_RULES : Array (Option Value)} {tk0_RULES tk1_RULES tk2_RULES tk3_RULES tk4_RULES tk5_RULES : Tok}
    {fx_NoLink ccx_NoLink cx_NoLink : Addr} {odx_NoLink anx_NoLink dcx_NoLink dkx_NoLink : Option Addr} {ocx_NoLink kVx_NoLink dox_NoLink pmx_NoLink ctx_NoLink clx_NoLink klx_NoLink : Value} {slx_NoLink slcx_NoLink slkx_NoLink : Array (Option Value)} {vsx_NoLink : Array Value} {nmx_NoLink nmc_NoLink qc_NoLink : Str} {tkx_NoLink : Tok} {Nc_NoLink : Addr} {bsc_NoLink subc_NoLink : List Value} {snc_NoLink : List Str} {abc_NoLink : Bool} {colc_NoLink : Option Bool} {ddc_NoLink : Option Addr} {k0_NoLink k1_NoLink k2_NoLink k3_NoLink k5_NoLink : Option Value}
    {fx_Cut ccx_Cut cx_Cut : Addr} {odx_Cut anx_Cut dcx_Cut dkx_Cut : Option Addr} {ocx_Cut kVx_Cut dox_Cut pmx_Cut ctx_Cut clx_Cut klx_Cut : Value} {slx_Cut slcx_Cut slkx_Cut : Array (Option Value)} {vsx_Cut : Array Value} {nmx_Cut nmc_Cut qc_Cut : Str} {tkx_Cut : Tok} {Nc_Cut : Addr} {bsc_Cut subc_Cut : List Value} {snc_Cut : List Str} {abc_Cut : Bool} {colc_Cut : Option Bool} {ddc_Cut : Option Addr} {k0_Cut k1_Cut k2_Cut k3_Cut k5_Cut : Option Value}
    {fx_Runs ccx_Runs cx_Runs : Addr} {odx_Runs anx_Runs dcx_Runs dkx_Runs : Option Addr} {ocx_Runs kVx_Runs dox_Runs pmx_Runs ctx_Runs clx_Runs klx_Runs : Value} {slx_Runs slcx_Runs slkx_Runs : Array (Option Value)} {vsx_Runs : Array Value} {nmx_Runs nmc_Runs qc_Runs : Str} {tkx_Runs : Tok} {Nc_Runs : Addr} {bsc_Runs subc_Runs : List Value} {snc_Runs : List Str} {abc_Runs : Bool} {colc_Runs : Option Bool} {ddc_Runs : Option Addr} {k0_Runs k1_Runs k2_Runs k3_Runs k5_Runs : Option Value}
    (aC_Letter : PySem.W.nsIn K mainGlobals "Letter" = some (some (.ref C_Letter)))
    (pg_Letter : PySem.W.plainGet K C_Letter Str.empty = true)
    (hd_Letter : PySem.W.hasDictIn K C_Letter = true)
    (po_Letter : PySem.W.plainOver K C_Letter = true)
    (sa_Letter : PySem.W.findIn K (.ref C_Letter) "__setattr__" = some (some (.builtin "object.__setattr__")))
    (mk_Letter : PySem.W.makesIn K C_Letter = true)
    (kc_Letter : PySem.W.keepIn K (.ref C_Letter) = true)
    (aC_Say : PySem.W.nsIn K mainGlobals "Say" = some (some (.ref C_Say)))
    (pg_Say : PySem.W.plainGet K C_Say Str.empty = true)
    (hd_Say : PySem.W.hasDictIn K C_Say = true)
    (po_Say : PySem.W.plainOver K C_Say = true)
    (sa_Say : PySem.W.findIn K (.ref C_Say) "__setattr__" = some (some (.builtin "object.__setattr__")))
    (mk_Say : PySem.W.makesIn K C_Say = true)
    (kc_Say : PySem.W.keepIn K (.ref C_Say) = true)
    (aC_Agree : PySem.W.nsIn K mainGlobals "Agree" = some (some (.ref C_Agree)))
    (pg_Agree : PySem.W.plainGet K C_Agree Str.empty = true)
    (hd_Agree : PySem.W.hasDictIn K C_Agree = true)
    (po_Agree : PySem.W.plainOver K C_Agree = true)
    (sa_Agree : PySem.W.findIn K (.ref C_Agree) "__setattr__" = some (some (.builtin "object.__setattr__")))
    (mk_Agree : PySem.W.makesIn K C_Agree = true)
    (kc_Agree : PySem.W.keepIn K (.ref C_Agree) = true)
    (aC_Door : PySem.W.nsIn K mainGlobals "Door" = some (some (.ref C_Door)))
    (pg_Door : PySem.W.plainGet K C_Door Str.empty = true)
    (hd_Door : PySem.W.hasDictIn K C_Door = true)
    (po_Door : PySem.W.plainOver K C_Door = true)
    (sa_Door : PySem.W.findIn K (.ref C_Door) "__setattr__" = some (some (.builtin "object.__setattr__")))
    (mk_Door : PySem.W.makesIn K C_Door = true)
    (kc_Door : PySem.W.keepIn K (.ref C_Door) = true)
    (aC_Hall : PySem.W.nsIn K mainGlobals "Hall" = some (some (.ref C_Hall)))
    (pg_Hall : PySem.W.plainGet K C_Hall Str.empty = true)
    (hd_Hall : PySem.W.hasDictIn K C_Hall = true)
    (po_Hall : PySem.W.plainOver K C_Hall = true)
    (sa_Hall : PySem.W.findIn K (.ref C_Hall) "__setattr__" = some (some (.builtin "object.__setattr__")))
    (mk_Hall : PySem.W.makesIn K C_Hall = true)
    (kc_Hall : PySem.W.keepIn K (.ref C_Hall) = true)
    (aC_RingError : PySem.W.nsIn K mainGlobals "RingError" = some (some (.ref C_RingError)))
    (aC_NoLink : PySem.W.nsIn K mainGlobals "NoLink" = some (some (.ref C_NoLink)))
    (aC_Cut : PySem.W.nsIn K mainGlobals "Cut" = some (some (.ref C_Cut)))
    (aC_Runs : PySem.W.nsIn K mainGlobals "Runs" = some (some (.ref C_Runs)))
    (a_l_begin : PySem.W.nsIn K mainGlobals "_law_begin" = some (some (.ref f_l_begin)))
    (l_l_begin : K.lookup f_l_begin = some ⟨oc_l_begin, od_l_begin, .func (PySem.W.fnOf "_law_begin" "_law_begin" (defArgs s_l_begin) (defBody s_l_begin) (defScope s_l_begin) .none kV_l_begin dc_l_begin pm_l_begin an_l_begin cd_l_begin ct_l_begin), sl_l_begin⟩)
    (c_l_begin : PySem.W.codeIn K cd_l_begin "_law_begin" = true)
    (k_l_begin : PySem.W.keepIn K (.ref f_l_begin) = true)
    (a_l_draw : PySem.W.nsIn K mainGlobals "_law_draw" = some (some (.ref f_l_draw)))
    (l_l_draw : K.lookup f_l_draw = some ⟨oc_l_draw, od_l_draw, .func (PySem.W.fnOf "_law_draw" "_law_draw" (defArgs s_l_draw) (defBody s_l_draw) (defScope s_l_draw) .none kV_l_draw dc_l_draw pm_l_draw an_l_draw cd_l_draw ct_l_draw), sl_l_draw⟩)
    (c_l_draw : PySem.W.codeIn K cd_l_draw "_law_draw" = true)
    (k_l_draw : PySem.W.keepIn K (.ref f_l_draw) = true)
    (a_l_pick : PySem.W.nsIn K mainGlobals "_law_pick" = some (some (.ref f_l_pick)))
    (l_l_pick : K.lookup f_l_pick = some ⟨oc_l_pick, od_l_pick, .func (PySem.W.fnOf "_law_pick" "_law_pick" (defArgs s_l_pick) (defBody s_l_pick) (defScope s_l_pick) .none kV_l_pick dc_l_pick pm_l_pick an_l_pick cd_l_pick ct_l_pick), sl_l_pick⟩)
    (c_l_pick : PySem.W.codeIn K cd_l_pick "_law_pick" = true)
    (k_l_pick : PySem.W.keepIn K (.ref f_l_pick) = true)
    (a_l_fresh : PySem.W.nsIn K mainGlobals "_law_fresh" = some (some (.ref f_l_fresh)))
    (l_l_fresh : K.lookup f_l_fresh = some ⟨oc_l_fresh, od_l_fresh, .func (PySem.W.fnOf "_law_fresh" "_law_fresh" (defArgs s_l_fresh) (defBody s_l_fresh) (defScope s_l_fresh) .none kV_l_fresh dc_l_fresh pm_l_fresh an_l_fresh cd_l_fresh ct_l_fresh), sl_l_fresh⟩)
    (c_l_fresh : PySem.W.codeIn K cd_l_fresh "_law_fresh" = true)
    (k_l_fresh : PySem.W.keepIn K (.ref f_l_fresh) = true)
    (a_l_hall : PySem.W.nsIn K mainGlobals "_law_hall" = some (some (.ref f_l_hall)))
    (l_l_hall : K.lookup f_l_hall = some ⟨oc_l_hall, od_l_hall, .func (PySem.W.fnOf "_law_hall" "_law_hall" (defArgs s_l_hall) (defBody s_l_hall) (defScope s_l_hall) .none kV_l_hall dc_l_hall pm_l_hall an_l_hall cd_l_hall ct_l_hall), sl_l_hall⟩)
    (c_l_hall : PySem.W.codeIn K cd_l_hall "_law_hall" = true)
    (k_l_hall : PySem.W.keepIn K (.ref f_l_hall) = true)
    (a_l_reckon : PySem.W.nsIn K mainGlobals "_law_reckon" = some (some (.ref f_l_reckon)))
    (l_l_reckon : K.lookup f_l_reckon = some ⟨oc_l_reckon, od_l_reckon, .func (PySem.W.fnOf "_law_reckon" "_law_reckon" (defArgs s_l_reckon) (defBody s_l_reckon) (defScope s_l_reckon) .none kV_l_reckon dc_l_reckon pm_l_reckon an_l_reckon cd_l_reckon ct_l_reckon), sl_l_reckon⟩)
    (c_l_reckon : PySem.W.codeIn K cd_l_reckon "_law_reckon" = true)
    (k_l_reckon : PySem.W.keepIn K (.ref f_l_reckon) = true)
    (a_l_role : PySem.W.nsIn K mainGlobals "_law_role" = some (some (.ref f_l_role)))
    (l_l_role : K.lookup f_l_role = some ⟨oc_l_role, od_l_role, .func (PySem.W.fnOf "_law_role" "_law_role" (defArgs s_l_role) (defBody s_l_role) (defScope s_l_role) .none kV_l_role dc_l_role pm_l_role an_l_role cd_l_role ct_l_role), sl_l_role⟩)
    (c_l_role : PySem.W.codeIn K cd_l_role "_law_role" = true)
    (k_l_role : PySem.W.keepIn K (.ref f_l_role) = true)
    (a_l_stepped : PySem.W.nsIn K mainGlobals "_law_stepped" = some (some (.ref f_l_stepped)))
    (l_l_stepped : K.lookup f_l_stepped = some ⟨oc_l_stepped, od_l_stepped, .func (PySem.W.fnOf "_law_stepped" "_law_stepped" (defArgs s_l_stepped) (defBody s_l_stepped) (defScope s_l_stepped) .none kV_l_stepped dc_l_stepped pm_l_stepped an_l_stepped cd_l_stepped ct_l_stepped), sl_l_stepped⟩)
    (c_l_stepped : PySem.W.codeIn K cd_l_stepped "_law_stepped" = true)
    (k_l_stepped : PySem.W.keepIn K (.ref f_l_stepped) = true)
    (a_l_open : PySem.W.nsIn K mainGlobals "_law_open" = some (some (.ref f_l_open)))
    (l_l_open : K.lookup f_l_open = some ⟨oc_l_open, od_l_open, .func (PySem.W.fnOf "_law_open" "_law_open" (defArgs s_l_open) (defBody s_l_open) (defScope s_l_open) .none kV_l_open dc_l_open pm_l_open an_l_open cd_l_open ct_l_open), sl_l_open⟩)
    (c_l_open : PySem.W.codeIn K cd_l_open "_law_open" = true)
    (k_l_open : PySem.W.keepIn K (.ref f_l_open) = true)
    (a_l_taken : PySem.W.nsIn K mainGlobals "_law_taken" = some (some (.ref f_l_taken)))
    (l_l_taken : K.lookup f_l_taken = some ⟨oc_l_taken, od_l_taken, .func (PySem.W.fnOf "_law_taken" "_law_taken" (defArgs s_l_taken) (defBody s_l_taken) (defScope s_l_taken) .none kV_l_taken dc_l_taken pm_l_taken an_l_taken cd_l_taken ct_l_taken), sl_l_taken⟩)
    (c_l_taken : PySem.W.codeIn K cd_l_taken "_law_taken" = true)
    (k_l_taken : PySem.W.keepIn K (.ref f_l_taken) = true)
    (a_l_cut : PySem.W.nsIn K mainGlobals "_law_cut" = some (some (.ref f_l_cut)))
    (l_l_cut : K.lookup f_l_cut = some ⟨oc_l_cut, od_l_cut, .func (PySem.W.fnOf "_law_cut" "_law_cut" (defArgs s_l_cut) (defBody s_l_cut) (defScope s_l_cut) .none kV_l_cut dc_l_cut pm_l_cut an_l_cut cd_l_cut ct_l_cut), sl_l_cut⟩)
    (c_l_cut : PySem.W.codeIn K cd_l_cut "_law_cut" = true)
    (k_l_cut : PySem.W.keepIn K (.ref f_l_cut) = true)
    (a_l_mended : PySem.W.nsIn K mainGlobals "_law_mended" = some (some (.ref f_l_mended)))
    (l_l_mended : K.lookup f_l_mended = some ⟨oc_l_mended, od_l_mended, .func (PySem.W.fnOf "_law_mended" "_law_mended" (defArgs s_l_mended) (defBody s_l_mended) (defScope s_l_mended) .none kV_l_mended dc_l_mended pm_l_mended an_l_mended cd_l_mended ct_l_mended), sl_l_mended⟩)
    (c_l_mended : PySem.W.codeIn K cd_l_mended "_law_mended" = true)
    (k_l_mended : PySem.W.keepIn K (.ref f_l_mended) = true)
    (a_l_told : PySem.W.nsIn K mainGlobals "_law_told" = some (some (.ref f_l_told)))
    (l_l_told : K.lookup f_l_told = some ⟨oc_l_told, od_l_told, .func (PySem.W.fnOf "_law_told" "_law_told" (defArgs s_l_told) (defBody s_l_told) (defScope s_l_told) .none kV_l_told dc_l_told pm_l_told an_l_told cd_l_told ct_l_told), sl_l_told⟩)
    (c_l_told : PySem.W.codeIn K cd_l_told "_law_told" = true)
    (k_l_told : PySem.W.keepIn K (.ref f_l_told) = true)
    (a_l_looks : PySem.W.nsIn K mainGlobals "_law_looks" = some (some (.ref f_l_looks)))
    (l_l_looks : K.lookup f_l_looks = some ⟨oc_l_looks, od_l_looks, .func (PySem.W.fnOf "_law_looks" "_law_looks" (defArgs s_l_looks) (defBody s_l_looks) (defScope s_l_looks) .none kV_l_looks dc_l_looks pm_l_looks an_l_looks cd_l_looks ct_l_looks), sl_l_looks⟩)
    (c_l_looks : PySem.W.codeIn K cd_l_looks "_law_looks" = true)
    (k_l_looks : PySem.W.keepIn K (.ref f_l_looks) = true)
    (a_l_letter : PySem.W.nsIn K mainGlobals "_law_letter" = some (some (.ref f_l_letter)))
    (l_l_letter : K.lookup f_l_letter = some ⟨oc_l_letter, od_l_letter, .func (PySem.W.fnOf "_law_letter" "_law_letter" (defArgs s_l_letter) (defBody s_l_letter) (defScope s_l_letter) .none kV_l_letter dc_l_letter pm_l_letter an_l_letter cd_l_letter ct_l_letter), sl_l_letter⟩)
    (c_l_letter : PySem.W.codeIn K cd_l_letter "_law_letter" = true)
    (k_l_letter : PySem.W.keepIn K (.ref f_l_letter) = true)
    (a_l_doors : PySem.W.nsIn K mainGlobals "_law_doors" = some (some (.ref f_l_doors)))
    (l_l_doors : K.lookup f_l_doors = some ⟨oc_l_doors, od_l_doors, .func (PySem.W.fnOf "_law_doors" "_law_doors" (defArgs s_l_doors) (defBody s_l_doors) (defScope s_l_doors) .none kV_l_doors dc_l_doors pm_l_doors an_l_doors cd_l_doors ct_l_doors), sl_l_doors⟩)
    (c_l_doors : PySem.W.codeIn K cd_l_doors "_law_doors" = true)
    (k_l_doors : PySem.W.keepIn K (.ref f_l_doors) = true)
    (a_l_say : PySem.W.nsIn K mainGlobals "_law_say" = some (some (.ref f_l_say)))
    (l_l_say : K.lookup f_l_say = some ⟨oc_l_say, od_l_say, .func (PySem.W.fnOf "_law_say" "_law_say" (defArgs s_l_say) (defBody s_l_say) (defScope s_l_say) .none kV_l_say dc_l_say pm_l_say an_l_say cd_l_say ct_l_say), sl_l_say⟩)
    (c_l_say : PySem.W.codeIn K cd_l_say "_law_say" = true)
    (k_l_say : PySem.W.keepIn K (.ref f_l_say) = true)
    (a_l_agree : PySem.W.nsIn K mainGlobals "_law_agree" = some (some (.ref f_l_agree)))
    (l_l_agree : K.lookup f_l_agree = some ⟨oc_l_agree, od_l_agree, .func (PySem.W.fnOf "_law_agree" "_law_agree" (defArgs s_l_agree) (defBody s_l_agree) (defScope s_l_agree) .none kV_l_agree dc_l_agree pm_l_agree an_l_agree cd_l_agree ct_l_agree), sl_l_agree⟩)
    (c_l_agree : PySem.W.codeIn K cd_l_agree "_law_agree" = true)
    (k_l_agree : PySem.W.keepIn K (.ref f_l_agree) = true)
    (a_l_deed : PySem.W.nsIn K mainGlobals "_law_deed" = some (some (.ref f_l_deed)))
    (l_l_deed : K.lookup f_l_deed = some ⟨oc_l_deed, od_l_deed, .func (PySem.W.fnOf "_law_deed" "_law_deed" (defArgs s_l_deed) (defBody s_l_deed) (defScope s_l_deed) .none kV_l_deed dc_l_deed pm_l_deed an_l_deed cd_l_deed ct_l_deed), sl_l_deed⟩)
    (c_l_deed : PySem.W.codeIn K cd_l_deed "_law_deed" = true)
    (k_l_deed : PySem.W.keepIn K (.ref f_l_deed) = true)
    (a_l_done : PySem.W.nsIn K mainGlobals "_law_done" = some (some (.ref f_l_done)))
    (l_l_done : K.lookup f_l_done = some ⟨oc_l_done, od_l_done, .func (PySem.W.fnOf "_law_done" "_law_done" (defArgs s_l_done) (defBody s_l_done) (defScope s_l_done) .none kV_l_done dc_l_done pm_l_done an_l_done cd_l_done ct_l_done), sl_l_done⟩)
    (c_l_done : PySem.W.codeIn K cd_l_done "_law_done" = true)
    (k_l_done : PySem.W.keepIn K (.ref f_l_done) = true)
    (a_l_word : PySem.W.nsIn K mainGlobals "_law_word" = some (some (.ref f_l_word)))
    (l_l_word : K.lookup f_l_word = some ⟨oc_l_word, od_l_word, .func (PySem.W.fnOf "_law_word" "_law_word" (defArgs s_l_word) (defBody s_l_word) (defScope s_l_word) .none kV_l_word dc_l_word pm_l_word an_l_word cd_l_word ct_l_word), sl_l_word⟩)
    (c_l_word : PySem.W.codeIn K cd_l_word "_law_word" = true)
    (k_l_word : PySem.W.keepIn K (.ref f_l_word) = true)
    (a_l_refused : PySem.W.nsIn K mainGlobals "_law_refused" = some (some (.ref f_l_refused)))
    (l_l_refused : K.lookup f_l_refused = some ⟨oc_l_refused, od_l_refused, .func (PySem.W.fnOf "_law_refused" "_law_refused" (defArgs s_l_refused) (defBody s_l_refused) (defScope s_l_refused) .none kV_l_refused dc_l_refused pm_l_refused an_l_refused cd_l_refused ct_l_refused), sl_l_refused⟩)
    (c_l_refused : PySem.W.codeIn K cd_l_refused "_law_refused" = true)
    (k_l_refused : PySem.W.keepIn K (.ref f_l_refused) = true)
    (a_l_odd : PySem.W.nsIn K mainGlobals "_law_odd" = some (some (.ref f_l_odd)))
    (l_l_odd : K.lookup f_l_odd = some ⟨oc_l_odd, od_l_odd, .func (PySem.W.fnOf "_law_odd" "_law_odd" (defArgs s_l_odd) (defBody s_l_odd) (defScope s_l_odd) .none kV_l_odd dc_l_odd pm_l_odd an_l_odd cd_l_odd ct_l_odd), sl_l_odd⟩)
    (c_l_odd : PySem.W.codeIn K cd_l_odd "_law_odd" = true)
    (k_l_odd : PySem.W.keepIn K (.ref f_l_odd) = true)
    (a_kept : PySem.W.nsIn K mainGlobals "kept" = some (some (.ref f_kept)))
    (l_kept : K.lookup f_kept = some ⟨oc_kept, od_kept, .func (PySem.W.fnOf "kept" "kept" (defArgs s_kept) (defBody s_kept) (defScope s_kept) (.ref T_kept) kV_kept dc_kept pm_kept an_kept cd_kept ct_kept), sl_kept⟩)
    (t_kept : K.lookup T_kept = some ⟨cT_kept, oT_kept, .seq #[Value.int 100 tk0_kept] nT_kept, sT_kept⟩)
    (c_kept : PySem.W.codeIn K cd_kept "kept" = true)
    (k_kept : PySem.W.keepIn K (.ref f_kept) = true)
    (a_is_number : PySem.W.nsIn K mainGlobals "is_number" = some (some (.ref f_is_number)))
    (l_is_number : K.lookup f_is_number = some ⟨oc_is_number, od_is_number, .func (PySem.W.fnOf "is_number" "is_number" (defArgs s_is_number) (defBody s_is_number) (defScope s_is_number) .none kV_is_number dc_is_number pm_is_number an_is_number cd_is_number ct_is_number), sl_is_number⟩)
    (c_is_number : PySem.W.codeIn K cd_is_number "is_number" = true)
    (k_is_number : PySem.W.keepIn K (.ref f_is_number) = true)
    (a_least : PySem.W.nsIn K mainGlobals "least" = some (some (.ref f_least)))
    (l_least : K.lookup f_least = some ⟨oc_least, od_least, .func (PySem.W.fnOf "least" "least" (defArgs s_least) (defBody s_least) (defScope s_least) .none kV_least dc_least pm_least an_least cd_least ct_least), sl_least⟩)
    (c_least : PySem.W.codeIn K cd_least "least" = true)
    (k_least : PySem.W.keepIn K (.ref f_least) = true)
    (a_check_rule : PySem.W.nsIn K mainGlobals "check_rule" = some (some (.ref f_check_rule)))
    (l_check_rule : K.lookup f_check_rule = some ⟨oc_check_rule, od_check_rule, .func (PySem.W.fnOf "check_rule" "check_rule" (defArgs s_check_rule) (defBody s_check_rule) (defScope s_check_rule) .none kV_check_rule dc_check_rule pm_check_rule an_check_rule cd_check_rule ct_check_rule), sl_check_rule⟩)
    (c_check_rule : PySem.W.codeIn K cd_check_rule "check_rule" = true)
    (k_check_rule : PySem.W.keepIn K (.ref f_check_rule) = true)
    (a_Door___init__ : PySem.W.findIn K (.ref C_Door) "__init__" = some (some (.ref f_Door___init__)))
    (i_Door___init__ : PySem.W.isFn K (.ref f_Door___init__) = true)
    (l_Door___init__ : K.lookup f_Door___init__ = some ⟨oc_Door___init__, od_Door___init__, .func (PySem.W.fnOf "__init__" "Door.__init__" (defArgs s_Door___init__) (defBody s_Door___init__) (defScope s_Door___init__) .none kV_Door___init__ dc_Door___init__ pm_Door___init__ an_Door___init__ cd_Door___init__ ct_Door___init__), sl_Door___init__⟩)
    (c_Door___init__ : PySem.W.codeIn K cd_Door___init__ "Door.__init__" = true)
    (k_Door___init__ : PySem.W.keepIn K (.ref f_Door___init__) = true)
    (a_Hall___init__ : PySem.W.findIn K (.ref C_Hall) "__init__" = some (some (.ref f_Hall___init__)))
    (i_Hall___init__ : PySem.W.isFn K (.ref f_Hall___init__) = true)
    (l_Hall___init__ : K.lookup f_Hall___init__ = some ⟨oc_Hall___init__, od_Hall___init__, .func (PySem.W.fnOf "__init__" "Hall.__init__" (defArgs s_Hall___init__) (defBody s_Hall___init__) (defScope s_Hall___init__) .none (.ref D_Hall___init__) dc_Hall___init__ pm_Hall___init__ an_Hall___init__ cd_Hall___init__ ct_Hall___init__), sl_Hall___init__⟩)
    (c_Hall___init__ : PySem.W.codeIn K cd_Hall___init__ "Hall.__init__" = true)
    (k_Hall___init__ : PySem.W.keepIn K (.ref f_Hall___init__) = true)
    (d_Hall___init___cut : PySem.W.nsIn K D_Hall___init__ "cut" = some (some (.ref T_Hall___init___cut)))
    (t_Hall___init___cut : K.lookup T_Hall___init___cut = some ⟨.type "tuple", oT_Hall___init___cut, .seq #[] nT_Hall___init___cut, sT_Hall___init___cut⟩)
    (d_Hall___init___most : PySem.W.nsIn K D_Hall___init__ "most" = some (some (.int 360 tk_Hall___init___most)))
    (d_Hall___init___rule : PySem.W.nsIn K D_Hall___init__ "rule" = some (some (.str "right" tk_Hall___init___rule)))
    (a_Hall_take : PySem.W.findIn K (.ref C_Hall) "take" = some (some (.ref f_Hall_take)))
    (i_Hall_take : PySem.W.isFn K (.ref f_Hall_take) = true)
    (l_Hall_take : K.lookup f_Hall_take = some ⟨oc_Hall_take, od_Hall_take, .func (PySem.W.fnOf "take" "Hall.take" (defArgs s_Hall_take) (defBody s_Hall_take) (defScope s_Hall_take) .none kV_Hall_take dc_Hall_take pm_Hall_take an_Hall_take cd_Hall_take ct_Hall_take), sl_Hall_take⟩)
    (c_Hall_take : PySem.W.codeIn K cd_Hall_take "Hall.take" = true)
    (k_Hall_take : PySem.W.keepIn K (.ref f_Hall_take) = true)
    (a_Hall_cut : PySem.W.findIn K (.ref C_Hall) "cut" = some (some (.ref f_Hall_cut)))
    (i_Hall_cut : PySem.W.isFn K (.ref f_Hall_cut) = true)
    (l_Hall_cut : K.lookup f_Hall_cut = some ⟨oc_Hall_cut, od_Hall_cut, .func (PySem.W.fnOf "cut" "Hall.cut" (defArgs s_Hall_cut) (defBody s_Hall_cut) (defScope s_Hall_cut) .none kV_Hall_cut dc_Hall_cut pm_Hall_cut an_Hall_cut cd_Hall_cut ct_Hall_cut), sl_Hall_cut⟩)
    (c_Hall_cut : PySem.W.codeIn K cd_Hall_cut "Hall.cut" = true)
    (k_Hall_cut : PySem.W.keepIn K (.ref f_Hall_cut) = true)
    (a_Hall_mend : PySem.W.findIn K (.ref C_Hall) "mend" = some (some (.ref f_Hall_mend)))
    (i_Hall_mend : PySem.W.isFn K (.ref f_Hall_mend) = true)
    (l_Hall_mend : K.lookup f_Hall_mend = some ⟨oc_Hall_mend, od_Hall_mend, .func (PySem.W.fnOf "mend" "Hall.mend" (defArgs s_Hall_mend) (defBody s_Hall_mend) (defScope s_Hall_mend) .none kV_Hall_mend dc_Hall_mend pm_Hall_mend an_Hall_mend cd_Hall_mend ct_Hall_mend), sl_Hall_mend⟩)
    (c_Hall_mend : PySem.W.codeIn K cd_Hall_mend "Hall.mend" = true)
    (k_Hall_mend : PySem.W.keepIn K (.ref f_Hall_mend) = true)
    (a_Hall_posted : PySem.W.findIn K (.ref C_Hall) "posted" = some (some (.ref f_Hall_posted)))
    (i_Hall_posted : PySem.W.isFn K (.ref f_Hall_posted) = true)
    (l_Hall_posted : K.lookup f_Hall_posted = some ⟨oc_Hall_posted, od_Hall_posted, .func (PySem.W.fnOf "posted" "Hall.posted" (defArgs s_Hall_posted) (defBody s_Hall_posted) (defScope s_Hall_posted) .none kV_Hall_posted dc_Hall_posted pm_Hall_posted an_Hall_posted cd_Hall_posted ct_Hall_posted), sl_Hall_posted⟩)
    (c_Hall_posted : PySem.W.codeIn K cd_Hall_posted "Hall.posted" = true)
    (k_Hall_posted : PySem.W.keepIn K (.ref f_Hall_posted) = true)
    (a_Hall_standing : PySem.W.findIn K (.ref C_Hall) "standing" = some (some (.ref f_Hall_standing)))
    (i_Hall_standing : PySem.W.isFn K (.ref f_Hall_standing) = true)
    (l_Hall_standing : K.lookup f_Hall_standing = some ⟨oc_Hall_standing, od_Hall_standing, .func (PySem.W.fnOf "standing" "Hall.standing" (defArgs s_Hall_standing) (defBody s_Hall_standing) (defScope s_Hall_standing) .none kV_Hall_standing dc_Hall_standing pm_Hall_standing an_Hall_standing cd_Hall_standing ct_Hall_standing), sl_Hall_standing⟩)
    (c_Hall_standing : PySem.W.codeIn K cd_Hall_standing "Hall.standing" = true)
    (k_Hall_standing : PySem.W.keepIn K (.ref f_Hall_standing) = true)
    (a_Hall_root_link : PySem.W.findIn K (.ref C_Hall) "root_link" = some (some (.ref f_Hall_root_link)))
    (i_Hall_root_link : PySem.W.isFn K (.ref f_Hall_root_link) = true)
    (l_Hall_root_link : K.lookup f_Hall_root_link = some ⟨oc_Hall_root_link, od_Hall_root_link, .func (PySem.W.fnOf "root_link" "Hall.root_link" (defArgs s_Hall_root_link) (defBody s_Hall_root_link) (defScope s_Hall_root_link) .none kV_Hall_root_link dc_Hall_root_link pm_Hall_root_link an_Hall_root_link cd_Hall_root_link ct_Hall_root_link), sl_Hall_root_link⟩)
    (c_Hall_root_link : PySem.W.codeIn K cd_Hall_root_link "Hall.root_link" = true)
    (k_Hall_root_link : PySem.W.keepIn K (.ref f_Hall_root_link) = true)
    (a_Hall_role : PySem.W.findIn K (.ref C_Hall) "role" = some (some (.ref f_Hall_role)))
    (i_Hall_role : PySem.W.isFn K (.ref f_Hall_role) = true)
    (l_Hall_role : K.lookup f_Hall_role = some ⟨oc_Hall_role, od_Hall_role, .func (PySem.W.fnOf "role" "Hall.role" (defArgs s_Hall_role) (defBody s_Hall_role) (defScope s_Hall_role) .none kV_Hall_role dc_Hall_role pm_Hall_role an_Hall_role cd_Hall_role ct_Hall_role), sl_Hall_role⟩)
    (c_Hall_role : PySem.W.codeIn K cd_Hall_role "Hall.role" = true)
    (k_Hall_role : PySem.W.keepIn K (.ref f_Hall_role) = true)
    (a_Hall_is_open : PySem.W.findIn K (.ref C_Hall) "is_open" = some (some (.ref f_Hall_is_open)))
    (i_Hall_is_open : PySem.W.isFn K (.ref f_Hall_is_open) = true)
    (l_Hall_is_open : K.lookup f_Hall_is_open = some ⟨oc_Hall_is_open, od_Hall_is_open, .func (PySem.W.fnOf "is_open" "Hall.is_open" (defArgs s_Hall_is_open) (defBody s_Hall_is_open) (defScope s_Hall_is_open) .none kV_Hall_is_open dc_Hall_is_open pm_Hall_is_open an_Hall_is_open cd_Hall_is_open ct_Hall_is_open), sl_Hall_is_open⟩)
    (c_Hall_is_open : PySem.W.codeIn K cd_Hall_is_open "Hall.is_open" = true)
    (k_Hall_is_open : PySem.W.keepIn K (.ref f_Hall_is_open) = true)
    (a_Hall_heard : PySem.W.findIn K (.ref C_Hall) "heard" = some (some (.ref f_Hall_heard)))
    (i_Hall_heard : PySem.W.isFn K (.ref f_Hall_heard) = true)
    (l_Hall_heard : K.lookup f_Hall_heard = some ⟨oc_Hall_heard, od_Hall_heard, .func (PySem.W.fnOf "heard" "Hall.heard" (defArgs s_Hall_heard) (defBody s_Hall_heard) (defScope s_Hall_heard) .none kV_Hall_heard dc_Hall_heard pm_Hall_heard an_Hall_heard cd_Hall_heard ct_Hall_heard), sl_Hall_heard⟩)
    (c_Hall_heard : PySem.W.codeIn K cd_Hall_heard "Hall.heard" = true)
    (k_Hall_heard : PySem.W.keepIn K (.ref f_Hall_heard) = true)
    (a_Hall__door : PySem.W.findIn K (.ref C_Hall) "_door" = some (some (.ref f_Hall__door)))
    (i_Hall__door : PySem.W.isFn K (.ref f_Hall__door) = true)
    (l_Hall__door : K.lookup f_Hall__door = some ⟨oc_Hall__door, od_Hall__door, .func (PySem.W.fnOf "_door" "Hall._door" (defArgs s_Hall__door) (defBody s_Hall__door) (defScope s_Hall__door) .none kV_Hall__door dc_Hall__door pm_Hall__door an_Hall__door cd_Hall__door ct_Hall__door), sl_Hall__door⟩)
    (c_Hall__door : PySem.W.codeIn K cd_Hall__door "Hall._door" = true)
    (k_Hall__door : PySem.W.keepIn K (.ref f_Hall__door) = true)
    (a_Hall__running : PySem.W.findIn K (.ref C_Hall) "_running" = some (some (.ref f_Hall__running)))
    (i_Hall__running : PySem.W.isFn K (.ref f_Hall__running) = true)
    (l_Hall__running : K.lookup f_Hall__running = some ⟨oc_Hall__running, od_Hall__running, .func (PySem.W.fnOf "_running" "Hall._running" (defArgs s_Hall__running) (defBody s_Hall__running) (defScope s_Hall__running) .none kV_Hall__running dc_Hall__running pm_Hall__running an_Hall__running cd_Hall__running ct_Hall__running), sl_Hall__running⟩)
    (c_Hall__running : PySem.W.codeIn K cd_Hall__running "Hall._running" = true)
    (k_Hall__running : PySem.W.keepIn K (.ref f_Hall__running) = true)
    (a_Hall__step : PySem.W.findIn K (.ref C_Hall) "_step" = some (some (.ref f_Hall__step)))
    (i_Hall__step : PySem.W.isFn K (.ref f_Hall__step) = true)
    (l_Hall__step : K.lookup f_Hall__step = some ⟨oc_Hall__step, od_Hall__step, .func (PySem.W.fnOf "_step" "Hall._step" (defArgs s_Hall__step) (defBody s_Hall__step) (defScope s_Hall__step) .none kV_Hall__step dc_Hall__step pm_Hall__step an_Hall__step cd_Hall__step ct_Hall__step), sl_Hall__step⟩)
    (c_Hall__step : PySem.W.codeIn K cd_Hall__step "Hall._step" = true)
    (k_Hall__step : PySem.W.keepIn K (.ref f_Hall__step) = true)
    (a_Hall__write : PySem.W.findIn K (.ref C_Hall) "_write" = some (some (.ref f_Hall__write)))
    (i_Hall__write : PySem.W.isFn K (.ref f_Hall__write) = true)
    (l_Hall__write : K.lookup f_Hall__write = some ⟨oc_Hall__write, od_Hall__write, .func (PySem.W.fnOf "_write" "Hall._write" (defArgs s_Hall__write) (defBody s_Hall__write) (defScope s_Hall__write) .none kV_Hall__write dc_Hall__write pm_Hall__write an_Hall__write cd_Hall__write ct_Hall__write), sl_Hall__write⟩)
    (c_Hall__write : PySem.W.codeIn K cd_Hall__write "Hall._write" = true)
    (k_Hall__write : PySem.W.keepIn K (.ref f_Hall__write) = true)
    (a_Hall__turn : PySem.W.findIn K (.ref C_Hall) "_turn" = some (some (.ref f_Hall__turn)))
    (i_Hall__turn : PySem.W.isFn K (.ref f_Hall__turn) = true)
    (l_Hall__turn : K.lookup f_Hall__turn = some ⟨oc_Hall__turn, od_Hall__turn, .func (PySem.W.fnOf "_turn" "Hall._turn" (defArgs s_Hall__turn) (defBody s_Hall__turn) (defScope s_Hall__turn) .none kV_Hall__turn dc_Hall__turn pm_Hall__turn an_Hall__turn cd_Hall__turn ct_Hall__turn), sl_Hall__turn⟩)
    (c_Hall__turn : PySem.W.codeIn K cd_Hall__turn "Hall._turn" = true)
    (k_Hall__turn : PySem.W.keepIn K (.ref f_Hall__turn) = true)
    (a_Say___init__ : PySem.W.findIn K (.ref C_Say) "__init__" = some (some (.ref f_Say___init__)))
    (i_Say___init__ : PySem.W.isFn K (.ref f_Say___init__) = true)
    (l_Say___init__ : K.lookup f_Say___init__ = some ⟨oc_Say___init__, od_Say___init__, .func (PySem.W.fnOf "__init__" "Say.__init__" (defArgs s_Say___init__) (defBody s_Say___init__) (defScope s_Say___init__) .none kV_Say___init__ dc_Say___init__ pm_Say___init__ an_Say___init__ cd_Say___init__ ct_Say___init__), sl_Say___init__⟩)
    (c_Say___init__ : PySem.W.codeIn K cd_Say___init__ "Say.__init__" = true)
    (k_Say___init__ : PySem.W.keepIn K (.ref f_Say___init__) = true)
    (a_Say___eq__ : PySem.W.findIn K (.ref C_Say) "__eq__" = some (some (.ref f_Say___eq__)))
    (i_Say___eq__ : PySem.W.isFn K (.ref f_Say___eq__) = true)
    (l_Say___eq__ : K.lookup f_Say___eq__ = some ⟨oc_Say___eq__, od_Say___eq__, .func (PySem.W.fnOf "__eq__" "Say.__eq__" (defArgs s_Say___eq__) (defBody s_Say___eq__) (defScope s_Say___eq__) .none kV_Say___eq__ dc_Say___eq__ pm_Say___eq__ an_Say___eq__ cd_Say___eq__ ct_Say___eq__), sl_Say___eq__⟩)
    (c_Say___eq__ : PySem.W.codeIn K cd_Say___eq__ "Say.__eq__" = true)
    (k_Say___eq__ : PySem.W.keepIn K (.ref f_Say___eq__) = true)
    (a_Say_told : PySem.W.findIn K (.ref C_Say) "told" = some (some (.ref f_Say_told)))
    (i_Say_told : PySem.W.isFn K (.ref f_Say_told) = true)
    (l_Say_told : K.lookup f_Say_told = some ⟨oc_Say_told, od_Say_told, .func (PySem.W.fnOf "told" "Say.told" (defArgs s_Say_told) (defBody s_Say_told) (defScope s_Say_told) .none kV_Say_told dc_Say_told pm_Say_told an_Say_told cd_Say_told ct_Say_told), sl_Say_told⟩)
    (c_Say_told : PySem.W.codeIn K cd_Say_told "Say.told" = true)
    (k_Say_told : PySem.W.keepIn K (.ref f_Say_told) = true)
    (a_Agree___init__ : PySem.W.findIn K (.ref C_Agree) "__init__" = some (some (.ref f_Agree___init__)))
    (i_Agree___init__ : PySem.W.isFn K (.ref f_Agree___init__) = true)
    (l_Agree___init__ : K.lookup f_Agree___init__ = some ⟨oc_Agree___init__, od_Agree___init__, .func (PySem.W.fnOf "__init__" "Agree.__init__" (defArgs s_Agree___init__) (defBody s_Agree___init__) (defScope s_Agree___init__) .none kV_Agree___init__ dc_Agree___init__ pm_Agree___init__ an_Agree___init__ cd_Agree___init__ ct_Agree___init__), sl_Agree___init__⟩)
    (c_Agree___init__ : PySem.W.codeIn K cd_Agree___init__ "Agree.__init__" = true)
    (k_Agree___init__ : PySem.W.keepIn K (.ref f_Agree___init__) = true)
    (a_Agree___eq__ : PySem.W.findIn K (.ref C_Agree) "__eq__" = some (some (.ref f_Agree___eq__)))
    (i_Agree___eq__ : PySem.W.isFn K (.ref f_Agree___eq__) = true)
    (l_Agree___eq__ : K.lookup f_Agree___eq__ = some ⟨oc_Agree___eq__, od_Agree___eq__, .func (PySem.W.fnOf "__eq__" "Agree.__eq__" (defArgs s_Agree___eq__) (defBody s_Agree___eq__) (defScope s_Agree___eq__) .none kV_Agree___eq__ dc_Agree___eq__ pm_Agree___eq__ an_Agree___eq__ cd_Agree___eq__ ct_Agree___eq__), sl_Agree___eq__⟩)
    (c_Agree___eq__ : PySem.W.codeIn K cd_Agree___eq__ "Agree.__eq__" = true)
    (k_Agree___eq__ : PySem.W.keepIn K (.ref f_Agree___eq__) = true)
    (a_Agree_told : PySem.W.findIn K (.ref C_Agree) "told" = some (some (.ref f_Agree_told)))
    (i_Agree_told : PySem.W.isFn K (.ref f_Agree_told) = true)
    (l_Agree_told : K.lookup f_Agree_told = some ⟨oc_Agree_told, od_Agree_told, .func (PySem.W.fnOf "told" "Agree.told" (defArgs s_Agree_told) (defBody s_Agree_told) (defScope s_Agree_told) .none kV_Agree_told dc_Agree_told pm_Agree_told an_Agree_told cd_Agree_told ct_Agree_told), sl_Agree_told⟩)
    (c_Agree_told : PySem.W.codeIn K cd_Agree_told "Agree.told" = true)
    (k_Agree_told : PySem.W.keepIn K (.ref f_Agree_told) = true)
    (a_law : PySem.W.nsIn K mainGlobals "law" = some (some (.ref f_law)))
    (l_law : K.lookup f_law = some ⟨oc_law, od_law, .func (PySem.W.fnOf "law" "law" (defArgs s_law) (defBody s_law) (defScope s_law) .none kV_law dc_law pm_law an_law cd_law ct_law), sl_law⟩)
    (c_law : PySem.W.codeIn K cd_law "law" = true)
    (k_law : PySem.W.keepIn K (.ref f_law) = true)
    (en_Say : PySem.W.findIn K (.ref C_Say) "__ne__" = some (some (.builtin "object.__ne__")))
    (eo_Say : PySem.W.subIn K (.ref C_Say) (.type "object") = some true)
    (es_Say_NoneType : PySem.W.subIn K (.ref C_Say) (.type "NoneType") = some false)
    (es_Say_bool : PySem.W.subIn K (.ref C_Say) (.type "bool") = some false)
    (es_Say_int : PySem.W.subIn K (.ref C_Say) (.type "int") = some false)
    (es_Say_str : PySem.W.subIn K (.ref C_Say) (.type "str") = some false)
    (es_Say_list : PySem.W.subIn K (.ref C_Say) (.type "list") = some false)
    (es_Say_tuple : PySem.W.subIn K (.ref C_Say) (.type "tuple") = some false)
    (es_Say_dict : PySem.W.subIn K (.ref C_Say) (.type "dict") = some false)
    (qc_Say : PySem.W.findIn K (.ref C_Say) "__class__" = some (some (.builtin "object.__class__")))
    (qg_Say : PySem.W.specialIn K (.builtin "object.__class__") "__get__" = some (some (.builtin "getset_descriptor.__get__")))
    (qt_Say : PySem.W.takesIn K (.builtin "object.__class__") = some true)
    (qm_Say : PySem.W.mroIn K C_Say (.type "object") = some true)
    (qk_Say_NoneType : PySem.W.kitOne K (.type "NoneType") (.ref C_Say) = some false)
    (qk_Say_bool : PySem.W.kitOne K (.type "bool") (.ref C_Say) = some false)
    (qk_Say_int : PySem.W.kitOne K (.type "int") (.ref C_Say) = some false)
    (qk_Say_str : PySem.W.kitOne K (.type "str") (.ref C_Say) = some false)
    (qk_Say_list : PySem.W.kitOne K (.type "list") (.ref C_Say) = some false)
    (qk_Say_tuple : PySem.W.kitOne K (.type "tuple") (.ref C_Say) = some false)
    (qk_Say_dict : PySem.W.kitOne K (.type "dict") (.ref C_Say) = some false)
    (en_Agree : PySem.W.findIn K (.ref C_Agree) "__ne__" = some (some (.builtin "object.__ne__")))
    (eo_Agree : PySem.W.subIn K (.ref C_Agree) (.type "object") = some true)
    (es_Agree_NoneType : PySem.W.subIn K (.ref C_Agree) (.type "NoneType") = some false)
    (es_Agree_bool : PySem.W.subIn K (.ref C_Agree) (.type "bool") = some false)
    (es_Agree_int : PySem.W.subIn K (.ref C_Agree) (.type "int") = some false)
    (es_Agree_str : PySem.W.subIn K (.ref C_Agree) (.type "str") = some false)
    (es_Agree_list : PySem.W.subIn K (.ref C_Agree) (.type "list") = some false)
    (es_Agree_tuple : PySem.W.subIn K (.ref C_Agree) (.type "tuple") = some false)
    (es_Agree_dict : PySem.W.subIn K (.ref C_Agree) (.type "dict") = some false)
    (qc_Agree : PySem.W.findIn K (.ref C_Agree) "__class__" = some (some (.builtin "object.__class__")))
    (qg_Agree : PySem.W.specialIn K (.builtin "object.__class__") "__get__" = some (some (.builtin "getset_descriptor.__get__")))
    (qt_Agree : PySem.W.takesIn K (.builtin "object.__class__") = some true)
    (qm_Agree : PySem.W.mroIn K C_Agree (.type "object") = some true)
    (qk_Agree_NoneType : PySem.W.kitOne K (.type "NoneType") (.ref C_Agree) = some false)
    (qk_Agree_bool : PySem.W.kitOne K (.type "bool") (.ref C_Agree) = some false)
    (qk_Agree_int : PySem.W.kitOne K (.type "int") (.ref C_Agree) = some false)
    (qk_Agree_str : PySem.W.kitOne K (.type "str") (.ref C_Agree) = some false)
    (qk_Agree_list : PySem.W.kitOne K (.type "list") (.ref C_Agree) = some false)
    (qk_Agree_tuple : PySem.W.kitOne K (.type "tuple") (.ref C_Agree) = some false)
    (qk_Agree_dict : PySem.W.kitOne K (.type "dict") (.ref C_Agree) = some false)
    (kt_Say_Letter : PySem.W.kitOne K (.ref C_Say) (.ref C_Letter) = some true)
    (kt_Agree_Letter : PySem.W.kitOne K (.ref C_Agree) (.ref C_Letter) = some true)
    (kt_Say_Agree : PySem.W.kitOne K (.ref C_Say) (.ref C_Agree) = some false)
    (kt_Agree_Say : PySem.W.kitOne K (.ref C_Agree) (.ref C_Say) = some false)
    (na_Say_number : PySem.W.findIn K (.ref C_Say) "number" = some none)
    (na_Say_root : PySem.W.findIn K (.ref C_Say) "root" = some none)
    (na_Say_far : PySem.W.findIn K (.ref C_Say) "far" = some none)
    (na_Agree_number : PySem.W.findIn K (.ref C_Agree) "number" = some none)
    (na_Door_other_hall : PySem.W.findIn K (.ref C_Door) "other_hall" = some none)
    (na_Door_link_cost : PySem.W.findIn K (.ref C_Door) "link_cost" = some none)
    (na_Door_part : PySem.W.findIn K (.ref C_Door) "part" = some none)
    (na_Door_was_root : PySem.W.findIn K (.ref C_Door) "was_root" = some none)
    (na_Door_heard_number : PySem.W.findIn K (.ref C_Door) "heard_number" = some none)
    (na_Door_heard_standing : PySem.W.findIn K (.ref C_Door) "heard_standing" = some none)
    (na_Door_said : PySem.W.findIn K (.ref C_Door) "said" = some none)
    (na_Door_counts_from : PySem.W.findIn K (.ref C_Door) "counts_from" = some none)
    (na_Door_agreed_there : PySem.W.findIn K (.ref C_Door) "agreed_there" = some none)
    (na_Door_agreed_here : PySem.W.findIn K (.ref C_Door) "agreed_here" = some none)
    (na_Hall__hall : PySem.W.findIn K (.ref C_Hall) "_hall" = some none)
    (na_Hall__ends : PySem.W.findIn K (.ref C_Hall) "_ends" = some none)
    (na_Hall__most : PySem.W.findIn K (.ref C_Hall) "_most" = some none)
    (na_Hall__rule : PySem.W.findIn K (.ref C_Hall) "_rule" = some none)
    (na_Hall__doors : PySem.W.findIn K (.ref C_Hall) "_doors" = some none)
    (na_Hall__standing : PySem.W.findIn K (.ref C_Hall) "_standing" = some none)
    (na_Hall__root_link : PySem.W.findIn K (.ref C_Hall) "_root_link" = some none)
    (na_Hall__posted : PySem.W.findIn K (.ref C_Hall) "_posted" = some none)
    (z_abs : PySem.W.nsIn K mainGlobals "abs" = some none)
    (z_len : PySem.W.nsIn K mainGlobals "len" = some none)
    (z_range : PySem.W.nsIn K mainGlobals "range" = some none)
    (z_list : PySem.W.nsIn K mainGlobals "list" = some none)
    (z_all : PySem.W.nsIn K mainGlobals "all" = some none)
    (z_isinstance : PySem.W.nsIn K mainGlobals "isinstance" = some none)
    (z_tuple : PySem.W.nsIn K mainGlobals "tuple" = some none)
    (z_int : PySem.W.nsIn K mainGlobals "int" = some none)
    (z_bool : PySem.W.nsIn K mainGlobals "bool" = some none)
    (z_str : PySem.W.nsIn K mainGlobals "str" = some none)
    (z_sorted : PySem.W.nsIn K mainGlobals "sorted" = some none)
    (z_dict : PySem.W.nsIn K mainGlobals "dict" = some none)
    (z_sum : PySem.W.nsIn K mainGlobals "sum" = some none)
    (z_set : PySem.W.nsIn K mainGlobals "set" = some none)
    (z_enumerate : PySem.W.nsIn K mainGlobals "enumerate" = some none)
    (z_min : PySem.W.nsIn K mainGlobals "min" = some none)
    (z_max : PySem.W.nsIn K mainGlobals "max" = some none)
    (z_ValueError : PySem.W.nsIn K mainGlobals "ValueError" = some none)
    (v_NOTHING : PySem.W.nsIn K mainGlobals "NOTHING" = some (some (.int (0) t_NOTHING)))
    (v_NONE_BEYOND : PySem.W.nsIn K mainGlobals "NONE_BEYOND" = some (some (.int (-1) t_NONE_BEYOND)))
    (a_RULES : PySem.W.nsIn K mainGlobals "RULES" = some (some (.ref A_RULES)))
    (t_RULES : K.lookup A_RULES = some ⟨.type "tuple", oT_RULES, .seq #[.str "right" tk0_RULES, .str "hasty" tk1_RULES, .str "worse" tk2_RULES, .str "turned" tk3_RULES, .str "free" tk4_RULES, .str "kept" tk5_RULES] nT_RULES, sT_RULES⟩)
    (xo : PySem.W.nsIn K PySem.cStatics "thirdparty.any" = some none)
    (htop : (l.prog.main.scope.names.lookup ("super" : Str)).isSome = false)
    (xs : PySem.W.nsIn K mainGlobals "super" = some none)
    (xcg : PySem.W.specialIn K (.builtin "object.__class__") "__get__" = some (some (.builtin "getset_descriptor.__get__")))
    (xct : PySem.W.takesIn K (.builtin "object.__class__") = some true)
    (xr1_RingError : PySem.W.subIn K (.ref C_RingError) (.type "BaseException") = some true)
    (xr2_RingError : PySem.W.typeIn K (.ref C_RingError) = some (.type "type"))
    (xr3_RingError : PySem.W.hasDictIn K C_RingError = true)
    (x1_NoLink : PySem.W.findIn K (.ref C_NoLink) "__init__" = some (some (.ref fx_NoLink)))
    (x2_NoLink : K.lookup fx_NoLink = some ⟨ocx_NoLink, odx_NoLink, .func (PySem.W.fnX "__init__" "NoLink.__init__" (defArgs s_NoLink___init__) (defBody s_NoLink___init__) (defScope s_NoLink___init__) [(("__class__" : Str), ccx_NoLink)] .none kVx_NoLink dox_NoLink pmx_NoLink anx_NoLink (.ref cx_NoLink) ctx_NoLink), slx_NoLink⟩)
    (x3_NoLink : PySem.W.codeIn K (.ref cx_NoLink) "NoLink.__init__" = true)
    (x4_NoLink : PySem.W.keepIn K (.ref fx_NoLink) = true)
    (x5_NoLink : K.lookup C_NoLink = some (excClassObj nmc_NoLink qc_NoLink C_NoLink Nc_NoLink bsc_NoLink [.ref C_RingError, .type "ValueError", .type "Exception", .type "BaseException", .type "object"] true snc_NoLink subc_NoLink abc_NoLink colc_NoLink ddc_NoLink k0_NoLink k1_NoLink k2_NoLink k3_NoLink k5_NoLink "ValueError.__new__"))
    (x7_NoLink : PySem.W.findIn K (.ref C_NoLink) "__setattr__" = some (some (.builtin "object.__setattr__")))
    (x8_NoLink : PySem.W.subIn K (.ref C_NoLink) (.type "BaseException") = some true)
    (x9_NoLink : PySem.W.typeIn K (.ref C_NoLink) = some (.type "type"))
    (x10_NoLink : PySem.W.keepIn K (.ref C_NoLink) = true)
    (x11_NoLink : K.lookup ccx_NoLink = some ⟨clx_NoLink, dcx_NoLink, .cell (some (.ref C_NoLink)), slcx_NoLink⟩)
    (x12_NoLink : K.lookup cx_NoLink = some ⟨klx_NoLink, dkx_NoLink, .fields vsx_NoLink, slkx_NoLink⟩)
    (x13_NoLink : vsx_NoLink[2]? = some (.str nmx_NoLink tkx_NoLink))
    (x14_NoLink : ((l.prog.main.file : Str) == nmx_NoLink) = true)
    (x15_NoLink : PySem.W.ks_superIn K C_NoLink C_NoLink "__init__" = some (some (.builtin "ValueError.__init__")))
    (x16_NoLink : PySem.W.subIn K (.ref C_NoLink) (.type "ValueError") = some true)
    (x17_NoLink : PySem.W.mroIn K C_NoLink (.ref C_NoLink) = some true)
    (x18_NoLink : PySem.W.findIn K (.ref C_NoLink) "number" = some none)
    (x19_NoLink : PySem.W.typeIn K (.ref fx_NoLink) = some (.type "function"))
    (x20_NoLink : PySem.W.findIn K (.ref C_NoLink) "__getattribute__" = some (some (.builtin "BaseException.__getattribute__")))
    (x21_NoLink : PySem.W.findIn K (.ref C_NoLink) "__getattr__" = some none)
    (x22_NoLink : PySem.W.hasDictIn K C_NoLink = true)
    (x23_NoLink : PySem.W.findIn K (.ref C_NoLink) "__class__" = some (some (.builtin "object.__class__")))
    (x24_NoLink : PySem.W.mroIn K C_NoLink (.type "object") = some true)
    (x25_NoLink : PySem.W.subIn K (.ref C_NoLink) (.ref C_RingError) = some true)
    (qkv_NoLink : PySem.W.kitOne K (.ref C_NoLink) (.type "ValueError") = some true)
    (qkx_NoLink_NoLink : PySem.W.kitOne K (.ref C_NoLink) (.ref C_NoLink) = some true)
    (qkx_NoLink_Cut : PySem.W.kitOne K (.ref C_NoLink) (.ref C_Cut) = some false)
    (qkx_NoLink_Runs : PySem.W.kitOne K (.ref C_NoLink) (.ref C_Runs) = some false)
    (x1_Cut : PySem.W.findIn K (.ref C_Cut) "__init__" = some (some (.ref fx_Cut)))
    (x2_Cut : K.lookup fx_Cut = some ⟨ocx_Cut, odx_Cut, .func (PySem.W.fnX "__init__" "Cut.__init__" (defArgs s_Cut___init__) (defBody s_Cut___init__) (defScope s_Cut___init__) [(("__class__" : Str), ccx_Cut)] .none kVx_Cut dox_Cut pmx_Cut anx_Cut (.ref cx_Cut) ctx_Cut), slx_Cut⟩)
    (x3_Cut : PySem.W.codeIn K (.ref cx_Cut) "Cut.__init__" = true)
    (x4_Cut : PySem.W.keepIn K (.ref fx_Cut) = true)
    (x5_Cut : K.lookup C_Cut = some (excClassObj nmc_Cut qc_Cut C_Cut Nc_Cut bsc_Cut [.ref C_RingError, .type "ValueError", .type "Exception", .type "BaseException", .type "object"] true snc_Cut subc_Cut abc_Cut colc_Cut ddc_Cut k0_Cut k1_Cut k2_Cut k3_Cut k5_Cut "ValueError.__new__"))
    (x7_Cut : PySem.W.findIn K (.ref C_Cut) "__setattr__" = some (some (.builtin "object.__setattr__")))
    (x8_Cut : PySem.W.subIn K (.ref C_Cut) (.type "BaseException") = some true)
    (x9_Cut : PySem.W.typeIn K (.ref C_Cut) = some (.type "type"))
    (x10_Cut : PySem.W.keepIn K (.ref C_Cut) = true)
    (x11_Cut : K.lookup ccx_Cut = some ⟨clx_Cut, dcx_Cut, .cell (some (.ref C_Cut)), slcx_Cut⟩)
    (x12_Cut : K.lookup cx_Cut = some ⟨klx_Cut, dkx_Cut, .fields vsx_Cut, slkx_Cut⟩)
    (x13_Cut : vsx_Cut[2]? = some (.str nmx_Cut tkx_Cut))
    (x14_Cut : ((l.prog.main.file : Str) == nmx_Cut) = true)
    (x15_Cut : PySem.W.ks_superIn K C_Cut C_Cut "__init__" = some (some (.builtin "ValueError.__init__")))
    (x16_Cut : PySem.W.subIn K (.ref C_Cut) (.type "ValueError") = some true)
    (x17_Cut : PySem.W.mroIn K C_Cut (.ref C_Cut) = some true)
    (x18_Cut : PySem.W.findIn K (.ref C_Cut) "number" = some none)
    (x19_Cut : PySem.W.typeIn K (.ref fx_Cut) = some (.type "function"))
    (x20_Cut : PySem.W.findIn K (.ref C_Cut) "__getattribute__" = some (some (.builtin "BaseException.__getattribute__")))
    (x21_Cut : PySem.W.findIn K (.ref C_Cut) "__getattr__" = some none)
    (x22_Cut : PySem.W.hasDictIn K C_Cut = true)
    (x23_Cut : PySem.W.findIn K (.ref C_Cut) "__class__" = some (some (.builtin "object.__class__")))
    (x24_Cut : PySem.W.mroIn K C_Cut (.type "object") = some true)
    (x25_Cut : PySem.W.subIn K (.ref C_Cut) (.ref C_RingError) = some true)
    (qkv_Cut : PySem.W.kitOne K (.ref C_Cut) (.type "ValueError") = some true)
    (qkx_Cut_NoLink : PySem.W.kitOne K (.ref C_Cut) (.ref C_NoLink) = some false)
    (qkx_Cut_Cut : PySem.W.kitOne K (.ref C_Cut) (.ref C_Cut) = some true)
    (qkx_Cut_Runs : PySem.W.kitOne K (.ref C_Cut) (.ref C_Runs) = some false)
    (x1_Runs : PySem.W.findIn K (.ref C_Runs) "__init__" = some (some (.ref fx_Runs)))
    (x2_Runs : K.lookup fx_Runs = some ⟨ocx_Runs, odx_Runs, .func (PySem.W.fnX "__init__" "Runs.__init__" (defArgs s_Runs___init__) (defBody s_Runs___init__) (defScope s_Runs___init__) [(("__class__" : Str), ccx_Runs)] .none kVx_Runs dox_Runs pmx_Runs anx_Runs (.ref cx_Runs) ctx_Runs), slx_Runs⟩)
    (x3_Runs : PySem.W.codeIn K (.ref cx_Runs) "Runs.__init__" = true)
    (x4_Runs : PySem.W.keepIn K (.ref fx_Runs) = true)
    (x5_Runs : K.lookup C_Runs = some (excClassObj nmc_Runs qc_Runs C_Runs Nc_Runs bsc_Runs [.ref C_RingError, .type "ValueError", .type "Exception", .type "BaseException", .type "object"] true snc_Runs subc_Runs abc_Runs colc_Runs ddc_Runs k0_Runs k1_Runs k2_Runs k3_Runs k5_Runs "ValueError.__new__"))
    (x7_Runs : PySem.W.findIn K (.ref C_Runs) "__setattr__" = some (some (.builtin "object.__setattr__")))
    (x8_Runs : PySem.W.subIn K (.ref C_Runs) (.type "BaseException") = some true)
    (x9_Runs : PySem.W.typeIn K (.ref C_Runs) = some (.type "type"))
    (x10_Runs : PySem.W.keepIn K (.ref C_Runs) = true)
    (x11_Runs : K.lookup ccx_Runs = some ⟨clx_Runs, dcx_Runs, .cell (some (.ref C_Runs)), slcx_Runs⟩)
    (x12_Runs : K.lookup cx_Runs = some ⟨klx_Runs, dkx_Runs, .fields vsx_Runs, slkx_Runs⟩)
    (x13_Runs : vsx_Runs[2]? = some (.str nmx_Runs tkx_Runs))
    (x14_Runs : ((l.prog.main.file : Str) == nmx_Runs) = true)
    (x15_Runs : PySem.W.ks_superIn K C_Runs C_Runs "__init__" = some (some (.builtin "ValueError.__init__")))
    (x16_Runs : PySem.W.subIn K (.ref C_Runs) (.type "ValueError") = some true)
    (x17_Runs : PySem.W.mroIn K C_Runs (.ref C_Runs) = some true)
    (x18_Runs : PySem.W.findIn K (.ref C_Runs) "number" = some none)
    (x19_Runs : PySem.W.typeIn K (.ref fx_Runs) = some (.type "function"))
    (x20_Runs : PySem.W.findIn K (.ref C_Runs) "__getattribute__" = some (some (.builtin "BaseException.__getattribute__")))
    (x21_Runs : PySem.W.findIn K (.ref C_Runs) "__getattr__" = some none)
    (x22_Runs : PySem.W.hasDictIn K C_Runs = true)
    (x23_Runs : PySem.W.findIn K (.ref C_Runs) "__class__" = some (some (.builtin "object.__class__")))
    (x24_Runs : PySem.W.mroIn K C_Runs (.type "object") = some true)
    (x25_Runs : PySem.W.subIn K (.ref C_Runs) (.ref C_RingError) = some true)
    (qkv_Runs : PySem.W.kitOne K (.ref C_Runs) (.type "ValueError") = some true)
    (qkx_Runs_NoLink : PySem.W.kitOne K (.ref C_Runs) (.ref C_NoLink) = some false)
    (qkx_Runs_Cut : PySem.W.kitOne K (.ref C_Runs) (.ref C_Cut) = some false)
    (qkx_Runs_Runs : PySem.W.kitOne K (.ref C_Runs) (.ref C_Runs) = some true) :
    ∃ fd : FuncData, (∀ (s : Shared) (v : Value), BindsTo s fd ⟨[v], []⟩ [("_law_script", v)]) ∧ ∀ base : Heap, K.In base → base.Ns mainGlobals mg → FnOkG l.prog w K mg base CX0 12 fa fd ["_law_script"] (sp_law K) := by
  have e := hfa.symm.trans (PySem.W.mg_of X G a_law)
  cases e
  have F_l_begin := fun_mk (st := s_l_begin) l_l_begin c_l_begin k_l_begin
  have b_l_begin := F_l_begin.binds (ps := ["_law_script"]) fun _ _ _ _ _ _ us hl => match us, hl with | [_], _ => rfl
  have F_l_draw := fun_mk (st := s_l_draw) l_l_draw c_l_draw k_l_draw
  have b_l_draw := F_l_draw.binds (ps := ["_law_state", "_law_many"]) fun _ _ _ _ _ _ us hl => match us, hl with | [_, _], _ => rfl
  have F_l_pick := fun_mk (st := s_l_pick) l_l_pick c_l_pick k_l_pick
  have b_l_pick := F_l_pick.binds (ps := ["_law_state", "_law_some"]) fun _ _ _ _ _ _ us hl => match us, hl with | [_, _], _ => rfl
  have F_l_fresh := fun_mk (st := s_l_fresh) l_l_fresh c_l_fresh k_l_fresh
  have b_l_fresh := F_l_fresh.binds (ps := []) fun _ _ _ _ _ _ us hl => match us, hl with | [], _ => rfl
  have F_l_hall := fun_mk (st := s_l_hall) l_l_hall c_l_hall k_l_hall
  have b_l_hall := F_l_hall.binds (ps := ["_law_own", "_law_gates", "_law_off", "_law_bound", "_law_kind"]) fun _ _ _ _ _ _ us hl => match us, hl with | [_, _, _, _, _], _ => rfl
  have F_l_reckon := fun_mk (st := s_l_reckon) l_l_reckon c_l_reckon k_l_reckon
  have b_l_reckon := F_l_reckon.binds (ps := ["_law_model"]) fun _ _ _ _ _ _ us hl => match us, hl with | [_], _ => rfl
  have F_l_role := fun_mk (st := s_l_role) l_l_role c_l_role k_l_role
  have b_l_role := F_l_role.binds (ps := ["_law_model", "_law_link"]) fun _ _ _ _ _ _ us hl => match us, hl with | [_, _], _ => rfl
  have F_l_stepped := fun_mk (st := s_l_stepped) l_l_stepped c_l_stepped k_l_stepped
  have b_l_stepped := F_l_stepped.binds (ps := ["_law_model"]) fun _ _ _ _ _ _ us hl => match us, hl with | [_], _ => rfl
  have F_l_open := fun_mk (st := s_l_open) l_l_open c_l_open k_l_open
  have b_l_open := F_l_open.binds (ps := ["_law_model", "_law_link"]) fun _ _ _ _ _ _ us hl => match us, hl with | [_, _], _ => rfl
  have F_l_taken := fun_mk (st := s_l_taken) l_l_taken c_l_taken k_l_taken
  have b_l_taken := F_l_taken.binds (ps := ["_law_model", "_law_link", "_law_told_here"]) fun _ _ _ _ _ _ us hl => match us, hl with | [_, _, _], _ => rfl
  have F_l_cut := fun_mk (st := s_l_cut) l_l_cut c_l_cut k_l_cut
  have b_l_cut := F_l_cut.binds (ps := ["_law_model", "_law_link"]) fun _ _ _ _ _ _ us hl => match us, hl with | [_, _], _ => rfl
  have F_l_mended := fun_mk (st := s_l_mended) l_l_mended c_l_mended k_l_mended
  have b_l_mended := F_l_mended.binds (ps := ["_law_model", "_law_link"]) fun _ _ _ _ _ _ us hl => match us, hl with | [_, _], _ => rfl
  have F_l_told := fun_mk (st := s_l_told) l_l_told c_l_told k_l_told
  have b_l_told := F_l_told.binds (ps := ["_law_posts"]) fun _ _ _ _ _ _ us hl => match us, hl with | [_], _ => rfl
  have F_l_looks := fun_mk (st := s_l_looks) l_l_looks c_l_looks k_l_looks
  have b_l_looks := F_l_looks.binds (ps := ["_law_one", "_law_model"]) fun _ _ _ _ _ _ us hl => match us, hl with | [_, _], _ => rfl
  have F_l_letter := fun_mk (st := s_l_letter) l_l_letter c_l_letter k_l_letter
  have b_l_letter := F_l_letter.binds (ps := ["_law_told_here"]) fun _ _ _ _ _ _ us hl => match us, hl with | [_], _ => rfl
  have F_l_doors := fun_mk (st := s_l_doors) l_l_doors c_l_doors k_l_doors
  have b_l_doors := F_l_doors.binds (ps := ["_law_state", "_law_own", "_law_many"]) fun _ _ _ _ _ _ us hl => match us, hl with | [_, _, _], _ => rfl
  have F_l_say := fun_mk (st := s_l_say) l_l_say c_l_say k_l_say
  have b_l_say := F_l_say.binds (ps := ["_law_state", "_law_model", "_law_sent", "_law_link"]) fun _ _ _ _ _ _ us hl => match us, hl with | [_, _, _, _], _ => rfl
  have F_l_agree := fun_mk (st := s_l_agree) l_l_agree c_l_agree k_l_agree
  have b_l_agree := F_l_agree.binds (ps := ["_law_state", "_law_model", "_law_link"]) fun _ _ _ _ _ _ us hl => match us, hl with | [_, _, _], _ => rfl
  have F_l_deed := fun_mk (st := s_l_deed) l_l_deed c_l_deed k_l_deed
  have b_l_deed := F_l_deed.binds (ps := ["_law_state", "_law_model", "_law_sent"]) fun _ _ _ _ _ _ us hl => match us, hl with | [_, _, _], _ => rfl
  have F_l_done := fun_mk (st := s_l_done) l_l_done c_l_done k_l_done
  have b_l_done := F_l_done.binds (ps := ["_law_one", "_law_model", "_law_deed_here", "_law_sent"]) fun _ _ _ _ _ _ us hl => match us, hl with | [_, _, _, _], _ => rfl
  have F_l_word := fun_mk (st := s_l_word) l_l_word c_l_word k_l_word
  have b_l_word := F_l_word.binds (ps := ["_law_e"]) fun _ _ _ _ _ _ us hl => match us, hl with | [_], _ => rfl
  have F_l_refused := fun_mk (st := s_l_refused) l_l_refused c_l_refused k_l_refused
  have b_l_refused := F_l_refused.binds (ps := ["_law_one", "_law_word_here", "_law_link", "_law_letter_here"]) fun _ _ _ _ _ _ us hl => match us, hl with | [_, _, _, _], _ => rfl
  have F_l_odd := fun_mk (st := s_l_odd) l_l_odd c_l_odd k_l_odd
  have b_l_odd := F_l_odd.binds (ps := ["_law_state", "_law_model"]) fun _ _ _ _ _ _ us hl => match us, hl with | [_, _], _ => rfl
  have F_kept : FunD K "kept" "kept" (defArgs s_kept) (defBody s_kept) (defScope s_kept) [V.int 100] [] f_kept _ := ⟨⟨_, _, _, _, _, _, _, _, _, _, rfl, l_kept, c_kept, .inr ⟨by simp, T_kept, _, [Value.int 100 tk0_kept], nT_kept, rfl, t_kept, rfl, (.cons ⟨tk0_kept, rfl⟩ .nil)⟩, .inl rfl⟩, k_kept⟩
  obtain ⟨ds0_kept, dv0_kept, b_kept⟩ := F_kept.binds1 (ps := ["thing", "deep"]) 2 1 (by simp) rfl (fun _ _ _ _ _ _ _ us its l1 l2 => match us, l1, its, l2 with | [_, _], _, [_], _ => ⟨_, rfl, rfl⟩)
  cases dv0_kept
  obtain ⟨ds_kept, dv_kept, b1_kept⟩ := F_kept.binds1 (ps := ["thing", "deep"]) 1 0 (by simp) rfl (fun _ _ _ _ _ _ _ us its l1 l2 => match us, l1, its, l2 with | [_], _, [_], _ => ⟨_, rfl, rfl⟩)
  have F_is_number := fun_mk (st := s_is_number) l_is_number c_is_number k_is_number
  have b_is_number := F_is_number.binds (ps := ["thing"]) fun _ _ _ _ _ _ us hl => match us, hl with | [_], _ => rfl
  have F_least := fun_mk (st := s_least) l_least c_least k_least
  have b_least := F_least.binds (ps := ["hall", "rows", "most"]) fun _ _ _ _ _ _ us hl => match us, hl with | [_, _, _], _ => rfl
  have F_check_rule := fun_mk (st := s_check_rule) l_check_rule c_check_rule k_check_rule
  have b_check_rule := F_check_rule.binds (ps := ["rule"]) fun _ _ _ _ _ _ us hl => match us, hl with | [_], _ => rfl
  have F_Door___init__ := fun_mk (st := s_Door___init__) l_Door___init__ c_Door___init__ k_Door___init__
  have b_Door___init__ := F_Door___init__.binds (ps := ["self", "beyond", "cost"]) fun _ _ _ _ _ _ us hl => match us, hl with | [_, _, _], _ => rfl
  have Q_Hall___init__ : ∀ q ∈ ([("cut", V.ref T_Hall___init___cut), ("most", V.int 360), ("rule", V.str "right")] : List (Str × V)), ∃ u, PySem.W.nsIn K D_Hall___init__ q.1 = some (some u) ∧ RelV q.2 u := (List.forall_mem_cons.mpr ⟨⟨_, d_Hall___init___cut, rfl⟩, (List.forall_mem_cons.mpr ⟨⟨_, d_Hall___init___most, tk_Hall___init___most, rfl⟩, (List.forall_mem_cons.mpr ⟨⟨_, d_Hall___init___rule, tk_Hall___init___rule, rfl⟩, (by simp)⟩)⟩)⟩)
  have F_Hall___init__ : FunD K "__init__" "Hall.__init__" (defArgs s_Hall___init__) (defBody s_Hall___init__) (defScope s_Hall___init__) [] [("cut", V.ref T_Hall___init___cut), ("most", V.int 360), ("rule", V.str "right")] f_Hall___init__ _ := ⟨⟨_, _, _, _, _, _, _, _, _, _, rfl, l_Hall___init__, c_Hall___init__, .inl ⟨rfl, rfl⟩, .inr ⟨_, rfl, Q_Hall___init__⟩⟩, k_Hall___init__⟩
  obtain ⟨mv_Hall___init___2_cut, kb_Hall___init___2_cut⟩ := F_Hall___init__.kbinds0 (ps := ["self", "hall", "doors", "cut", "most", "rule"]) 3 ["cut"] ([("most", V.int 360), ("rule", V.str "right")] : List (Str × V)) (fun us mv ws => kg [(0, 0), (0, 1), (0, 2), (2, 0), (1, 0), (1, 1)] us mv ws) (by simp) (by simp) (fun h1 h2 h3 => kg_rel h1 h2 h3 _) (fun _ _ _ _ _ _ us mv ws l1 l2 l3 => match us, l1, mv, l2, ws, l3 with | [_, _, _], _, [_, _], _, [_], _ => ⟨_, _, _, _, _, _, rfl, rfl, ⟨_, _, _, _, _, _, rfl, rfl, rfl⟩⟩)
  have F_Hall_take := fun_mk (st := s_Hall_take) l_Hall_take c_Hall_take k_Hall_take
  have b_Hall_take := F_Hall_take.binds (ps := ["self", "link", "letter"]) fun _ _ _ _ _ _ us hl => match us, hl with | [_, _, _], _ => rfl
  have F_Hall_cut := fun_mk (st := s_Hall_cut) l_Hall_cut c_Hall_cut k_Hall_cut
  have b_Hall_cut := F_Hall_cut.binds (ps := ["self", "link"]) fun _ _ _ _ _ _ us hl => match us, hl with | [_, _], _ => rfl
  have F_Hall_mend := fun_mk (st := s_Hall_mend) l_Hall_mend c_Hall_mend k_Hall_mend
  have b_Hall_mend := F_Hall_mend.binds (ps := ["self", "link"]) fun _ _ _ _ _ _ us hl => match us, hl with | [_, _], _ => rfl
  have F_Hall_posted := fun_mk (st := s_Hall_posted) l_Hall_posted c_Hall_posted k_Hall_posted
  have b_Hall_posted := F_Hall_posted.binds (ps := ["self"]) fun _ _ _ _ _ _ us hl => match us, hl with | [_], _ => rfl
  have F_Hall_standing := fun_mk (st := s_Hall_standing) l_Hall_standing c_Hall_standing k_Hall_standing
  have b_Hall_standing := F_Hall_standing.binds (ps := ["self"]) fun _ _ _ _ _ _ us hl => match us, hl with | [_], _ => rfl
  have F_Hall_root_link := fun_mk (st := s_Hall_root_link) l_Hall_root_link c_Hall_root_link k_Hall_root_link
  have b_Hall_root_link := F_Hall_root_link.binds (ps := ["self"]) fun _ _ _ _ _ _ us hl => match us, hl with | [_], _ => rfl
  have F_Hall_role := fun_mk (st := s_Hall_role) l_Hall_role c_Hall_role k_Hall_role
  have b_Hall_role := F_Hall_role.binds (ps := ["self", "link"]) fun _ _ _ _ _ _ us hl => match us, hl with | [_, _], _ => rfl
  have F_Hall_is_open := fun_mk (st := s_Hall_is_open) l_Hall_is_open c_Hall_is_open k_Hall_is_open
  have b_Hall_is_open := F_Hall_is_open.binds (ps := ["self", "link"]) fun _ _ _ _ _ _ us hl => match us, hl with | [_, _], _ => rfl
  have F_Hall_heard := fun_mk (st := s_Hall_heard) l_Hall_heard c_Hall_heard k_Hall_heard
  have b_Hall_heard := F_Hall_heard.binds (ps := ["self", "link"]) fun _ _ _ _ _ _ us hl => match us, hl with | [_, _], _ => rfl
  have F_Hall__door := fun_mk (st := s_Hall__door) l_Hall__door c_Hall__door k_Hall__door
  have b_Hall__door := F_Hall__door.binds (ps := ["self", "link"]) fun _ _ _ _ _ _ us hl => match us, hl with | [_, _], _ => rfl
  have F_Hall__running := fun_mk (st := s_Hall__running) l_Hall__running c_Hall__running k_Hall__running
  have b_Hall__running := F_Hall__running.binds (ps := ["self", "link"]) fun _ _ _ _ _ _ us hl => match us, hl with | [_, _], _ => rfl
  have F_Hall__step := fun_mk (st := s_Hall__step) l_Hall__step c_Hall__step k_Hall__step
  have b_Hall__step := F_Hall__step.binds (ps := ["self"]) fun _ _ _ _ _ _ us hl => match us, hl with | [_], _ => rfl
  have F_Hall__write := fun_mk (st := s_Hall__write) l_Hall__write c_Hall__write k_Hall__write
  have b_Hall__write := F_Hall__write.binds (ps := ["self", "link", "door", "ahead"]) fun _ _ _ _ _ _ us hl => match us, hl with | [_, _, _, _], _ => rfl
  have F_Hall__turn := fun_mk (st := s_Hall__turn) l_Hall__turn c_Hall__turn k_Hall__turn
  have b_Hall__turn := F_Hall__turn.binds (ps := ["self", "link", "door"]) fun _ _ _ _ _ _ us hl => match us, hl with | [_, _, _], _ => rfl
  have F_Say___init__ := fun_mk (st := s_Say___init__) l_Say___init__ c_Say___init__ k_Say___init__
  have b_Say___init__ := F_Say___init__.binds (ps := ["self", "number", "root", "far"]) fun _ _ _ _ _ _ us hl => match us, hl with | [_, _, _, _], _ => rfl
  have F_Say___eq__ := fun_mk (st := s_Say___eq__) l_Say___eq__ c_Say___eq__ k_Say___eq__
  have b_Say___eq__ := F_Say___eq__.binds (ps := ["self", "other"]) fun _ _ _ _ _ _ us hl => match us, hl with | [_, _], _ => rfl
  have F_Say_told := fun_mk (st := s_Say_told) l_Say_told c_Say_told k_Say_told
  have b_Say_told := F_Say_told.binds (ps := ["self"]) fun _ _ _ _ _ _ us hl => match us, hl with | [_], _ => rfl
  have F_Agree___init__ := fun_mk (st := s_Agree___init__) l_Agree___init__ c_Agree___init__ k_Agree___init__
  have b_Agree___init__ := F_Agree___init__.binds (ps := ["self", "number"]) fun _ _ _ _ _ _ us hl => match us, hl with | [_, _], _ => rfl
  have F_Agree___eq__ := fun_mk (st := s_Agree___eq__) l_Agree___eq__ c_Agree___eq__ k_Agree___eq__
  have b_Agree___eq__ := F_Agree___eq__.binds (ps := ["self", "other"]) fun _ _ _ _ _ _ us hl => match us, hl with | [_, _], _ => rfl
  have F_Agree_told := fun_mk (st := s_Agree_told) l_Agree_told c_Agree_told k_Agree_told
  have b_Agree_told := F_Agree_told.binds (ps := ["self"]) fun _ _ _ _ _ _ us hl => match us, hl with | [_], _ => rfl
  have F_law := fun_mk (st := s_law) l_law c_law k_law
  have b_law := F_law.binds (ps := ["_law_script"]) fun _ _ _ _ _ _ us hl => match us, hl with | [_], _ => rfl
  let T : Tx K mg := {
    c_Letter := C_Letter,
    g_Letter := PySem.W.mg_of X G aC_Letter,
    cl_Letter := ⟨pg_Letter, hd_Letter, po_Letter, sa_Letter⟩,
    c_Say := C_Say,
    g_Say := PySem.W.mg_of X G aC_Say,
    cl_Say := ⟨pg_Say, hd_Say, po_Say, sa_Say⟩,
    c_Agree := C_Agree,
    g_Agree := PySem.W.mg_of X G aC_Agree,
    cl_Agree := ⟨pg_Agree, hd_Agree, po_Agree, sa_Agree⟩,
    c_Door := C_Door,
    g_Door := PySem.W.mg_of X G aC_Door,
    cl_Door := ⟨pg_Door, hd_Door, po_Door, sa_Door⟩,
    c_Hall := C_Hall,
    g_Hall := PySem.W.mg_of X G aC_Hall,
    cl_Hall := ⟨pg_Hall, hd_Hall, po_Hall, sa_Hall⟩,
    c_RingError := C_RingError,
    g_RingError := PySem.W.mg_of X G aC_RingError,
    c_NoLink := C_NoLink,
    g_NoLink := PySem.W.mg_of X G aC_NoLink,
    c_Cut := C_Cut,
    g_Cut := PySem.W.mg_of X G aC_Cut,
    c_Runs := C_Runs,
    g_Runs := PySem.W.mg_of X G aC_Runs,
    a_l_begin := f_l_begin,
    d_l_begin := _,
    F_l_begin := F_l_begin,
    b_l_begin := b_l_begin,
    g_l_begin := PySem.W.mg_of X G a_l_begin,
    a_l_draw := f_l_draw,
    d_l_draw := _,
    F_l_draw := F_l_draw,
    b_l_draw := b_l_draw,
    g_l_draw := PySem.W.mg_of X G a_l_draw,
    a_l_pick := f_l_pick,
    d_l_pick := _,
    F_l_pick := F_l_pick,
    b_l_pick := b_l_pick,
    g_l_pick := PySem.W.mg_of X G a_l_pick,
    a_l_fresh := f_l_fresh,
    d_l_fresh := _,
    F_l_fresh := F_l_fresh,
    b_l_fresh := b_l_fresh,
    g_l_fresh := PySem.W.mg_of X G a_l_fresh,
    a_l_hall := f_l_hall,
    d_l_hall := _,
    F_l_hall := F_l_hall,
    b_l_hall := b_l_hall,
    g_l_hall := PySem.W.mg_of X G a_l_hall,
    a_l_reckon := f_l_reckon,
    d_l_reckon := _,
    F_l_reckon := F_l_reckon,
    b_l_reckon := b_l_reckon,
    g_l_reckon := PySem.W.mg_of X G a_l_reckon,
    a_l_role := f_l_role,
    d_l_role := _,
    F_l_role := F_l_role,
    b_l_role := b_l_role,
    g_l_role := PySem.W.mg_of X G a_l_role,
    a_l_stepped := f_l_stepped,
    d_l_stepped := _,
    F_l_stepped := F_l_stepped,
    b_l_stepped := b_l_stepped,
    g_l_stepped := PySem.W.mg_of X G a_l_stepped,
    a_l_open := f_l_open,
    d_l_open := _,
    F_l_open := F_l_open,
    b_l_open := b_l_open,
    g_l_open := PySem.W.mg_of X G a_l_open,
    a_l_taken := f_l_taken,
    d_l_taken := _,
    F_l_taken := F_l_taken,
    b_l_taken := b_l_taken,
    g_l_taken := PySem.W.mg_of X G a_l_taken,
    a_l_cut := f_l_cut,
    d_l_cut := _,
    F_l_cut := F_l_cut,
    b_l_cut := b_l_cut,
    g_l_cut := PySem.W.mg_of X G a_l_cut,
    a_l_mended := f_l_mended,
    d_l_mended := _,
    F_l_mended := F_l_mended,
    b_l_mended := b_l_mended,
    g_l_mended := PySem.W.mg_of X G a_l_mended,
    a_l_told := f_l_told,
    d_l_told := _,
    F_l_told := F_l_told,
    b_l_told := b_l_told,
    g_l_told := PySem.W.mg_of X G a_l_told,
    a_l_looks := f_l_looks,
    d_l_looks := _,
    F_l_looks := F_l_looks,
    b_l_looks := b_l_looks,
    g_l_looks := PySem.W.mg_of X G a_l_looks,
    a_l_letter := f_l_letter,
    d_l_letter := _,
    F_l_letter := F_l_letter,
    b_l_letter := b_l_letter,
    g_l_letter := PySem.W.mg_of X G a_l_letter,
    a_l_doors := f_l_doors,
    d_l_doors := _,
    F_l_doors := F_l_doors,
    b_l_doors := b_l_doors,
    g_l_doors := PySem.W.mg_of X G a_l_doors,
    a_l_say := f_l_say,
    d_l_say := _,
    F_l_say := F_l_say,
    b_l_say := b_l_say,
    g_l_say := PySem.W.mg_of X G a_l_say,
    a_l_agree := f_l_agree,
    d_l_agree := _,
    F_l_agree := F_l_agree,
    b_l_agree := b_l_agree,
    g_l_agree := PySem.W.mg_of X G a_l_agree,
    a_l_deed := f_l_deed,
    d_l_deed := _,
    F_l_deed := F_l_deed,
    b_l_deed := b_l_deed,
    g_l_deed := PySem.W.mg_of X G a_l_deed,
    a_l_done := f_l_done,
    d_l_done := _,
    F_l_done := F_l_done,
    b_l_done := b_l_done,
    g_l_done := PySem.W.mg_of X G a_l_done,
    a_l_word := f_l_word,
    d_l_word := _,
    F_l_word := F_l_word,
    b_l_word := b_l_word,
    g_l_word := PySem.W.mg_of X G a_l_word,
    a_l_refused := f_l_refused,
    d_l_refused := _,
    F_l_refused := F_l_refused,
    b_l_refused := b_l_refused,
    g_l_refused := PySem.W.mg_of X G a_l_refused,
    a_l_odd := f_l_odd,
    d_l_odd := _,
    F_l_odd := F_l_odd,
    b_l_odd := b_l_odd,
    g_l_odd := PySem.W.mg_of X G a_l_odd,
    a_kept := f_kept,
    d_kept := _,
    F_kept := F_kept,
    b_kept := b_kept,
    ds_kept := ds_kept,
    dv_kept := dv_kept,
    b1_kept := b1_kept,
    g_kept := PySem.W.mg_of X G a_kept,
    a_is_number := f_is_number,
    d_is_number := _,
    F_is_number := F_is_number,
    b_is_number := b_is_number,
    g_is_number := PySem.W.mg_of X G a_is_number,
    a_least := f_least,
    d_least := _,
    F_least := F_least,
    b_least := b_least,
    g_least := PySem.W.mg_of X G a_least,
    a_check_rule := f_check_rule,
    d_check_rule := _,
    F_check_rule := F_check_rule,
    b_check_rule := b_check_rule,
    g_check_rule := PySem.W.mg_of X G a_check_rule,
    a_Door___init__ := f_Door___init__,
    d_Door___init__ := _,
    F_Door___init__ := F_Door___init__,
    b_Door___init__ := b_Door___init__,
    m_Door := ⟨mk_Door, a_Door___init__, i_Door___init__, kc_Door⟩,
    dE_Hall___init___cut := T_Hall___init___cut,
    dS_Hall___init___cut := fun H => .inr ⟨_, _, _, t_Hall___init___cut, rfl, rfl, Nat.zero_le _, .nil⟩,
    kv_Hall___init___2_cut := mv_Hall___init___2_cut,
    kb_Hall___init___2_cut := kb_Hall___init___2_cut,
    a_Hall___init__ := f_Hall___init__,
    d_Hall___init__ := _,
    F_Hall___init__ := F_Hall___init__,
    m_Hall := ⟨mk_Hall, a_Hall___init__, i_Hall___init__, kc_Hall⟩,
    a_Hall_take := f_Hall_take,
    d_Hall_take := _,
    F_Hall_take := F_Hall_take,
    b_Hall_take := b_Hall_take,
    me_Hall_take := ⟨a_Hall_take, i_Hall_take, k_Hall_take⟩,
    a_Hall_cut := f_Hall_cut,
    d_Hall_cut := _,
    F_Hall_cut := F_Hall_cut,
    b_Hall_cut := b_Hall_cut,
    me_Hall_cut := ⟨a_Hall_cut, i_Hall_cut, k_Hall_cut⟩,
    a_Hall_mend := f_Hall_mend,
    d_Hall_mend := _,
    F_Hall_mend := F_Hall_mend,
    b_Hall_mend := b_Hall_mend,
    me_Hall_mend := ⟨a_Hall_mend, i_Hall_mend, k_Hall_mend⟩,
    a_Hall_posted := f_Hall_posted,
    d_Hall_posted := _,
    F_Hall_posted := F_Hall_posted,
    b_Hall_posted := b_Hall_posted,
    me_Hall_posted := ⟨a_Hall_posted, i_Hall_posted, k_Hall_posted⟩,
    a_Hall_standing := f_Hall_standing,
    d_Hall_standing := _,
    F_Hall_standing := F_Hall_standing,
    b_Hall_standing := b_Hall_standing,
    me_Hall_standing := ⟨a_Hall_standing, i_Hall_standing, k_Hall_standing⟩,
    a_Hall_root_link := f_Hall_root_link,
    d_Hall_root_link := _,
    F_Hall_root_link := F_Hall_root_link,
    b_Hall_root_link := b_Hall_root_link,
    me_Hall_root_link := ⟨a_Hall_root_link, i_Hall_root_link, k_Hall_root_link⟩,
    a_Hall_role := f_Hall_role,
    d_Hall_role := _,
    F_Hall_role := F_Hall_role,
    b_Hall_role := b_Hall_role,
    me_Hall_role := ⟨a_Hall_role, i_Hall_role, k_Hall_role⟩,
    a_Hall_is_open := f_Hall_is_open,
    d_Hall_is_open := _,
    F_Hall_is_open := F_Hall_is_open,
    b_Hall_is_open := b_Hall_is_open,
    me_Hall_is_open := ⟨a_Hall_is_open, i_Hall_is_open, k_Hall_is_open⟩,
    a_Hall_heard := f_Hall_heard,
    d_Hall_heard := _,
    F_Hall_heard := F_Hall_heard,
    b_Hall_heard := b_Hall_heard,
    me_Hall_heard := ⟨a_Hall_heard, i_Hall_heard, k_Hall_heard⟩,
    a_Hall__door := f_Hall__door,
    d_Hall__door := _,
    F_Hall__door := F_Hall__door,
    b_Hall__door := b_Hall__door,
    me_Hall__door := ⟨a_Hall__door, i_Hall__door, k_Hall__door⟩,
    a_Hall__running := f_Hall__running,
    d_Hall__running := _,
    F_Hall__running := F_Hall__running,
    b_Hall__running := b_Hall__running,
    me_Hall__running := ⟨a_Hall__running, i_Hall__running, k_Hall__running⟩,
    a_Hall__step := f_Hall__step,
    d_Hall__step := _,
    F_Hall__step := F_Hall__step,
    b_Hall__step := b_Hall__step,
    me_Hall__step := ⟨a_Hall__step, i_Hall__step, k_Hall__step⟩,
    a_Hall__write := f_Hall__write,
    d_Hall__write := _,
    F_Hall__write := F_Hall__write,
    b_Hall__write := b_Hall__write,
    me_Hall__write := ⟨a_Hall__write, i_Hall__write, k_Hall__write⟩,
    a_Hall__turn := f_Hall__turn,
    d_Hall__turn := _,
    F_Hall__turn := F_Hall__turn,
    b_Hall__turn := b_Hall__turn,
    me_Hall__turn := ⟨a_Hall__turn, i_Hall__turn, k_Hall__turn⟩,
    a_Say___init__ := f_Say___init__,
    d_Say___init__ := _,
    F_Say___init__ := F_Say___init__,
    b_Say___init__ := b_Say___init__,
    m_Say := ⟨mk_Say, a_Say___init__, i_Say___init__, kc_Say⟩,
    a_Say___eq__ := f_Say___eq__,
    d_Say___eq__ := _,
    F_Say___eq__ := F_Say___eq__,
    b_Say___eq__ := b_Say___eq__,
    me_Say___eq__ := ⟨a_Say___eq__, i_Say___eq__, k_Say___eq__⟩,
    a_Say_told := f_Say_told,
    d_Say_told := _,
    F_Say_told := F_Say_told,
    b_Say_told := b_Say_told,
    me_Say_told := ⟨a_Say_told, i_Say_told, k_Say_told⟩,
    a_Agree___init__ := f_Agree___init__,
    d_Agree___init__ := _,
    F_Agree___init__ := F_Agree___init__,
    b_Agree___init__ := b_Agree___init__,
    m_Agree := ⟨mk_Agree, a_Agree___init__, i_Agree___init__, kc_Agree⟩,
    a_Agree___eq__ := f_Agree___eq__,
    d_Agree___eq__ := _,
    F_Agree___eq__ := F_Agree___eq__,
    b_Agree___eq__ := b_Agree___eq__,
    me_Agree___eq__ := ⟨a_Agree___eq__, i_Agree___eq__, k_Agree___eq__⟩,
    a_Agree_told := f_Agree_told,
    d_Agree_told := _,
    F_Agree_told := F_Agree_told,
    b_Agree_told := b_Agree_told,
    me_Agree_told := ⟨a_Agree_told, i_Agree_told, k_Agree_told⟩,
    a_law := _,
    d_law := _,
    F_law := F_law,
    b_law := b_law,
    g_law := PySem.W.mg_of X G a_law,
    e_Say := ⟨a_Say___eq__, i_Say___eq__, en_Say, eo_Say, all7 es_Say_NoneType es_Say_bool es_Say_int es_Say_str es_Say_list es_Say_tuple es_Say_dict⟩,
    q_Say := ⟨qc_Say, qg_Say, qt_Say, qm_Say, all7 qk_Say_NoneType qk_Say_bool qk_Say_int qk_Say_str qk_Say_list qk_Say_tuple qk_Say_dict⟩,
    e_Agree := ⟨a_Agree___eq__, i_Agree___eq__, en_Agree, eo_Agree, all7 es_Agree_NoneType es_Agree_bool es_Agree_int es_Agree_str es_Agree_list es_Agree_tuple es_Agree_dict⟩,
    q_Agree := ⟨qc_Agree, qg_Agree, qt_Agree, qm_Agree, all7 qk_Agree_NoneType qk_Agree_bool qk_Agree_int qk_Agree_str qk_Agree_list qk_Agree_tuple qk_Agree_dict⟩,
    kt_Say_Letter := kt_Say_Letter,
    kt_Agree_Letter := kt_Agree_Letter,
    kt_Say_Agree := kt_Say_Agree,
    kt_Agree_Say := kt_Agree_Say,
    n_Say_number := na_Say_number,
    n_Say_root := na_Say_root,
    n_Say_far := na_Say_far,
    n_Agree_number := na_Agree_number,
    n_Door_other_hall := na_Door_other_hall,
    n_Door_link_cost := na_Door_link_cost,
    n_Door_part := na_Door_part,
    n_Door_was_root := na_Door_was_root,
    n_Door_heard_number := na_Door_heard_number,
    n_Door_heard_standing := na_Door_heard_standing,
    n_Door_said := na_Door_said,
    n_Door_counts_from := na_Door_counts_from,
    n_Door_agreed_there := na_Door_agreed_there,
    n_Door_agreed_here := na_Door_agreed_here,
    n_Hall__hall := na_Hall__hall,
    n_Hall__ends := na_Hall__ends,
    n_Hall__most := na_Hall__most,
    n_Hall__rule := na_Hall__rule,
    n_Hall__doors := na_Hall__doors,
    n_Hall__standing := na_Hall__standing,
    n_Hall__root_link := na_Hall__root_link,
    n_Hall__posted := na_Hall__posted,
    z_abs := PySem.W.mg_none_of X G z_abs,
    z_len := PySem.W.mg_none_of X G z_len,
    z_range := PySem.W.mg_none_of X G z_range,
    z_list := PySem.W.mg_none_of X G z_list,
    z_all := PySem.W.mg_none_of X G z_all,
    z_isinstance := PySem.W.mg_none_of X G z_isinstance,
    z_tuple := PySem.W.mg_none_of X G z_tuple,
    z_int := PySem.W.mg_none_of X G z_int,
    z_bool := PySem.W.mg_none_of X G z_bool,
    z_str := PySem.W.mg_none_of X G z_str,
    z_sorted := PySem.W.mg_none_of X G z_sorted,
    z_dict := PySem.W.mg_none_of X G z_dict,
    z_sum := PySem.W.mg_none_of X G z_sum,
    z_set := PySem.W.mg_none_of X G z_set,
    z_enumerate := PySem.W.mg_none_of X G z_enumerate,
    z_min := PySem.W.mg_none_of X G z_min,
    z_max := PySem.W.mg_none_of X G z_max,
    z_ValueError := PySem.W.mg_none_of X G z_ValueError,
    t_NOTHING := t_NOTHING,
    v_NOTHING := PySem.W.mg_of X G v_NOTHING,
    t_NONE_BEYOND := t_NONE_BEYOND,
    v_NONE_BEYOND := PySem.W.mg_of X G v_NONE_BEYOND,
    a_RULES := A_RULES,
    v_RULES := PySem.W.mg_of X G a_RULES,
    s_RULES := fun H => .inr ⟨_, _, _, t_RULES, rfl, rfl, by show 6 ≤ sizeLine; decide, (.cons ⟨tk0_RULES, rfl⟩ (.cons ⟨tk1_RULES, rfl⟩ (.cons ⟨tk2_RULES, rfl⟩ (.cons ⟨tk3_RULES, rfl⟩ (.cons ⟨tk4_RULES, rfl⟩ (.cons ⟨tk5_RULES, rfl⟩ .nil))))))⟩ }
  have XL : ExI l.prog K mg "NoLink" s_NoLink___init__ "NoLink.__init__" C_NoLink fx_NoLink ccx_NoLink cx_NoLink _ := ⟨⟨⟨_, _, _, _, _, _, _, _, rfl, x2_NoLink, x3_NoLink⟩, x4_NoLink⟩, ⟨⟨⟨_, _, _, _, _, _, _, _, _, _, _, _, _, _, _, x5_NoLink, rfl⟩, x7_NoLink, x8_NoLink, x9_NoLink, x10_NoLink⟩, ⟨_, _, _, x11_NoLink⟩, ⟨_, _, _, _, _, _, x12_NoLink, x13_NoLink, x14_NoLink⟩, x15_NoLink, x16_NoLink, x17_NoLink, xo, PySem.W.mg_none_of X G xs, htop⟩, x18_NoLink, x1_NoLink, x19_NoLink, .all fun us hl => (match us, hl with | [_, _], _ => rfl), PySem.W.mg_of X G aC_NoLink⟩
  have XC : ExI l.prog K mg "Cut" s_Cut___init__ "Cut.__init__" C_Cut fx_Cut ccx_Cut cx_Cut _ := ⟨⟨⟨_, _, _, _, _, _, _, _, rfl, x2_Cut, x3_Cut⟩, x4_Cut⟩, ⟨⟨⟨_, _, _, _, _, _, _, _, _, _, _, _, _, _, _, x5_Cut, rfl⟩, x7_Cut, x8_Cut, x9_Cut, x10_Cut⟩, ⟨_, _, _, x11_Cut⟩, ⟨_, _, _, _, _, _, x12_Cut, x13_Cut, x14_Cut⟩, x15_Cut, x16_Cut, x17_Cut, xo, PySem.W.mg_none_of X G xs, htop⟩, x18_Cut, x1_Cut, x19_Cut, .all fun us hl => (match us, hl with | [_, _], _ => rfl), PySem.W.mg_of X G aC_Cut⟩
  have XR : ExI l.prog K mg "Runs" s_Runs___init__ "Runs.__init__" C_Runs fx_Runs ccx_Runs cx_Runs _ := ⟨⟨⟨_, _, _, _, _, _, _, _, rfl, x2_Runs, x3_Runs⟩, x4_Runs⟩, ⟨⟨⟨_, _, _, _, _, _, _, _, _, _, _, _, _, _, _, x5_Runs, rfl⟩, x7_Runs, x8_Runs, x9_Runs, x10_Runs⟩, ⟨_, _, _, x11_Runs⟩, ⟨_, _, _, _, _, _, x12_Runs, x13_Runs, x14_Runs⟩, x15_Runs, x16_Runs, x17_Runs, xo, PySem.W.mg_none_of X G xs, htop⟩, x18_Runs, x1_Runs, x19_Runs, .all fun us hl => (match us, hl with | [_, _], _ => rfl), PySem.W.mg_of X G aC_Runs⟩
  have exm : ∀ {C : Addr}, PySem.W.subIn K (.ref C) (.ref C_RingError) = some true → PySem.W.exmOne K (.ref C) (.ref C_RingError) = some true := fun h => by
    unfold PySem.W.exmOne PySem.W.kitCls
    rw [if_pos (by rw [xr1_RingError]; rfl)]
    dsimp only
    rw [if_pos (by rw [cls_some xr3_RingError, xr2_RingError]; rfl), h]
  let Z : Tz l.prog K mg T := {
    X := ⟨⟨_, _, _, _, XL⟩, ⟨_, _, _, _, XC⟩, ⟨_, _, _, _, XR⟩⟩,
    e := of_all (p := fun _ C => ExcC K C) (fun _ _ => ⟨x20_NoLink, x21_NoLink, x8_NoLink, x22_NoLink, x23_NoLink, xcg, xct, x24_NoLink⟩) (fun _ _ _ => ⟨x20_Cut, x21_Cut, x8_Cut, x22_Cut, x23_Cut, xcg, xct, x24_Cut⟩) (fun _ _ _ => ⟨x20_Runs, x21_Runs, x8_Runs, x22_Runs, x23_Runs, xcg, xct, x24_Runs⟩),
    x := of_all (p := fun _ C => XfC K C) (fun _ _ => ⟨x20_NoLink, x21_NoLink, x8_NoLink, x22_NoLink⟩) (fun _ _ _ => ⟨x20_Cut, x21_Cut, x8_Cut, x22_Cut⟩) (fun _ _ _ => ⟨x20_Runs, x21_Runs, x8_Runs, x22_Runs⟩),
    m := of_all (p := fun _ C => PySem.W.exmOne K (.ref C) (.ref C_RingError) = some true) (fun _ _ => exm x25_NoLink) (fun _ _ _ => exm x25_Cut) (fun _ _ _ => exm x25_Runs),
    v := of_all (p := fun _ C => PySem.W.kitOne K (.ref C) (.type "ValueError") = some true) (fun _ _ => qkv_NoLink) (fun _ _ _ => qkv_Cut) (fun _ _ _ => qkv_Runs),
    kL := of_all (p := fun (wd : Str) C => PySem.W.kitOne K (.ref C) (.ref C_NoLink) = some (decide (wd = "none"))) (fun (wd : Str) h => qkx_NoLink_NoLink.trans (congrArg some (decide_eq_true h).symm)) (fun (wd : Str) h1 h2 => qkx_Cut_NoLink.trans (congrArg some (decide_eq_false h1).symm)) (fun (wd : Str) h1 h2 => qkx_Runs_NoLink.trans (congrArg some (decide_eq_false h1).symm)),
    kC := of_all (p := fun (wd : Str) C => PySem.W.kitOne K (.ref C) (.ref C_Cut) = some (decide (wd ≠ "none" ∧ wd = "cut"))) (fun (wd : Str) h => qkx_NoLink_Cut.trans (congrArg some (decide_eq_false (fun q => q.1 h)).symm)) (fun (wd : Str) h1 h2 => qkx_Cut_Cut.trans (congrArg some (decide_eq_true ⟨h1, h2⟩).symm)) (fun (wd : Str) h1 h2 => qkx_Runs_Cut.trans (congrArg some (decide_eq_false (fun q => h2 q.2)).symm)),
    kR := of_all (p := fun (wd : Str) C => PySem.W.kitOne K (.ref C) (.ref C_Runs) = some (decide (wd ≠ "none" ∧ wd ≠ "cut"))) (fun (wd : Str) h => qkx_NoLink_Runs.trans (congrArg some (decide_eq_false (fun q => q.1 h)).symm)) (fun (wd : Str) h1 h2 => qkx_Cut_Runs.trans (congrArg some (decide_eq_false (fun q => q.2 h2)).symm)) (fun (wd : Str) h1 h2 => qkx_Runs_Runs.trans (congrArg some (decide_eq_true ⟨h1, h2⟩).symm))
  }
  exact ⟨_, fun s v => .of_eq rfl, fun base _ _ => ok_law T Z⟩
end K24
open PySem PySem.W PyProof.Rows
set_option maxHeartbeats 0 in
theorem PySem.Challenge.cw_ringless_k24_refused_steps_holds : PySem.Challenge.rw_ringless_k24_refused_steps.Holds := by
  w_on; o_law; k_head; (case hw => w_witness2)
  k_fill
  refine MyG.walk_ofG (l := PySem.Challenge.rw_ringless_k24_refused_steps) (n := 63) (k := 12) (x := "_law_script") (CX := fun _ => L2.CX0) (sp := fun w => K24.sp_law _) rfl (by decide) rfl ⟨rfl, by decide, by decide⟩ (fun w h Y => PySem.W.kIn_of Y) ?F (fun w H a ns hl _ hS => K24.law_start _ _ _ _ hl hS) (fun _ _ _ _ _ h => h)
  case F =>
    intro w mg fa h KX G hmg
    refine' K24.all_mk KX G hmg ?aC_Letter ?pg_Letter ?hd_Letter ?po_Letter ?sa_Letter ?mk_Letter ?kc_Letter ?aC_Say ?pg_Say ?hd_Say ?po_Say ?sa_Say ?mk_Say ?kc_Say ?aC_Agree ?pg_Agree ?hd_Agree ?po_Agree ?sa_Agree ?mk_Agree ?kc_Agree ?aC_Door ?pg_Door ?hd_Door ?po_Door ?sa_Door ?mk_Door ?kc_Door ?aC_Hall ?pg_Hall ?hd_Hall ?po_Hall ?sa_Hall ?mk_Hall ?kc_Hall ?aC_RingError ?aC_NoLink ?aC_Cut ?aC_Runs ?a_l_begin ?l_l_begin ?c_l_begin ?k_l_begin ?a_l_draw ?l_l_draw ?c_l_draw ?k_l_draw ?a_l_pick ?l_l_pick ?c_l_pick ?k_l_pick ?a_l_fresh ?l_l_fresh ?c_l_fresh ?k_l_fresh ?a_l_hall ?l_l_hall ?c_l_hall ?k_l_hall ?a_l_reckon ?l_l_reckon ?c_l_reckon ?k_l_reckon ?a_l_role ?l_l_role ?c_l_role ?k_l_role ?a_l_stepped ?l_l_stepped ?c_l_stepped ?k_l_stepped ?a_l_open ?l_l_open ?c_l_open ?k_l_open ?a_l_taken ?l_l_taken ?c_l_taken ?k_l_taken ?a_l_cut ?l_l_cut ?c_l_cut ?k_l_cut ?a_l_mended ?l_l_mended ?c_l_mended ?k_l_mended ?a_l_told ?l_l_told ?c_l_told ?k_l_told ?a_l_looks ?l_l_looks ?c_l_looks ?k_l_looks ?a_l_letter ?l_l_letter ?c_l_letter ?k_l_letter ?a_l_doors ?l_l_doors ?c_l_doors ?k_l_doors ?a_l_say ?l_l_say ?c_l_say ?k_l_say ?a_l_agree ?l_l_agree ?c_l_agree ?k_l_agree ?a_l_deed ?l_l_deed ?c_l_deed ?k_l_deed ?a_l_done ?l_l_done ?c_l_done ?k_l_done ?a_l_word ?l_l_word ?c_l_word ?k_l_word ?a_l_refused ?l_l_refused ?c_l_refused ?k_l_refused ?a_l_odd ?l_l_odd ?c_l_odd ?k_l_odd ?a_kept ?l_kept ?t_kept ?c_kept ?k_kept ?a_is_number ?l_is_number ?c_is_number ?k_is_number ?a_least ?l_least ?c_least ?k_least ?a_check_rule ?l_check_rule ?c_check_rule ?k_check_rule ?a_Door___init__ ?i_Door___init__ ?l_Door___init__ ?c_Door___init__ ?k_Door___init__ ?a_Hall___init__ ?i_Hall___init__ ?l_Hall___init__ ?c_Hall___init__ ?k_Hall___init__ ?d_Hall___init___cut ?t_Hall___init___cut ?d_Hall___init___most ?d_Hall___init___rule ?a_Hall_take ?i_Hall_take ?l_Hall_take ?c_Hall_take ?k_Hall_take ?a_Hall_cut ?i_Hall_cut ?l_Hall_cut ?c_Hall_cut ?k_Hall_cut ?a_Hall_mend ?i_Hall_mend ?l_Hall_mend ?c_Hall_mend ?k_Hall_mend ?a_Hall_posted ?i_Hall_posted ?l_Hall_posted ?c_Hall_posted ?k_Hall_posted ?a_Hall_standing ?i_Hall_standing ?l_Hall_standing ?c_Hall_standing ?k_Hall_standing ?a_Hall_root_link ?i_Hall_root_link ?l_Hall_root_link ?c_Hall_root_link ?k_Hall_root_link ?a_Hall_role ?i_Hall_role ?l_Hall_role ?c_Hall_role ?k_Hall_role ?a_Hall_is_open ?i_Hall_is_open ?l_Hall_is_open ?c_Hall_is_open ?k_Hall_is_open ?a_Hall_heard ?i_Hall_heard ?l_Hall_heard ?c_Hall_heard ?k_Hall_heard ?a_Hall__door ?i_Hall__door ?l_Hall__door ?c_Hall__door ?k_Hall__door ?a_Hall__running ?i_Hall__running ?l_Hall__running ?c_Hall__running ?k_Hall__running ?a_Hall__step ?i_Hall__step ?l_Hall__step ?c_Hall__step ?k_Hall__step ?a_Hall__write ?i_Hall__write ?l_Hall__write ?c_Hall__write ?k_Hall__write ?a_Hall__turn ?i_Hall__turn ?l_Hall__turn ?c_Hall__turn ?k_Hall__turn ?a_Say___init__ ?i_Say___init__ ?l_Say___init__ ?c_Say___init__ ?k_Say___init__ ?a_Say___eq__ ?i_Say___eq__ ?l_Say___eq__ ?c_Say___eq__ ?k_Say___eq__ ?a_Say_told ?i_Say_told ?l_Say_told ?c_Say_told ?k_Say_told ?a_Agree___init__ ?i_Agree___init__ ?l_Agree___init__ ?c_Agree___init__ ?k_Agree___init__ ?a_Agree___eq__ ?i_Agree___eq__ ?l_Agree___eq__ ?c_Agree___eq__ ?k_Agree___eq__ ?a_Agree_told ?i_Agree_told ?l_Agree_told ?c_Agree_told ?k_Agree_told ?a_law ?l_law ?c_law ?k_law ?en_Say ?eo_Say ?es_Say_NoneType ?es_Say_bool ?es_Say_int ?es_Say_str ?es_Say_list ?es_Say_tuple ?es_Say_dict ?qc_Say ?qg_Say ?qt_Say ?qm_Say ?qk_Say_NoneType ?qk_Say_bool ?qk_Say_int ?qk_Say_str ?qk_Say_list ?qk_Say_tuple ?qk_Say_dict ?en_Agree ?eo_Agree ?es_Agree_NoneType ?es_Agree_bool ?es_Agree_int ?es_Agree_str ?es_Agree_list ?es_Agree_tuple ?es_Agree_dict ?qc_Agree ?qg_Agree ?qt_Agree ?qm_Agree ?qk_Agree_NoneType ?qk_Agree_bool ?qk_Agree_int ?qk_Agree_str ?qk_Agree_list ?qk_Agree_tuple ?qk_Agree_dict ?kt_Say_Letter ?kt_Agree_Letter ?kt_Say_Agree ?kt_Agree_Say ?na_Say_number ?na_Say_root ?na_Say_far ?na_Agree_number ?na_Door_other_hall ?na_Door_link_cost ?na_Door_part ?na_Door_was_root ?na_Door_heard_number ?na_Door_heard_standing ?na_Door_said ?na_Door_counts_from ?na_Door_agreed_there ?na_Door_agreed_here ?na_Hall__hall ?na_Hall__ends ?na_Hall__most ?na_Hall__rule ?na_Hall__doors ?na_Hall__standing ?na_Hall__root_link ?na_Hall__posted ?z_abs ?z_len ?z_range ?z_list ?z_all ?z_isinstance ?z_tuple ?z_int ?z_bool ?z_str ?z_sorted ?z_dict ?z_sum ?z_set ?z_enumerate ?z_min ?z_max ?z_ValueError ?v_NOTHING ?v_NONE_BEYOND ?a_RULES ?t_RULES ?xo ?htop ?xs ?xcg ?xct ?xr1_RingError ?xr2_RingError ?xr3_RingError ?x1_NoLink ?x2_NoLink ?x3_NoLink ?x4_NoLink ?x5_NoLink ?x7_NoLink ?x8_NoLink ?x9_NoLink ?x10_NoLink ?x11_NoLink ?x12_NoLink ?x13_NoLink ?x14_NoLink ?x15_NoLink ?x16_NoLink ?x17_NoLink ?x18_NoLink ?x19_NoLink ?x20_NoLink ?x21_NoLink ?x22_NoLink ?x23_NoLink ?x24_NoLink ?x25_NoLink ?qkv_NoLink ?qkx_NoLink_NoLink ?qkx_NoLink_Cut ?qkx_NoLink_Runs ?x1_Cut ?x2_Cut ?x3_Cut ?x4_Cut ?x5_Cut ?x7_Cut ?x8_Cut ?x9_Cut ?x10_Cut ?x11_Cut ?x12_Cut ?x13_Cut ?x14_Cut ?x15_Cut ?x16_Cut ?x17_Cut ?x18_Cut ?x19_Cut ?x20_Cut ?x21_Cut ?x22_Cut ?x23_Cut ?x24_Cut ?x25_Cut ?qkv_Cut ?qkx_Cut_NoLink ?qkx_Cut_Cut ?qkx_Cut_Runs ?x1_Runs ?x2_Runs ?x3_Runs ?x4_Runs ?x5_Runs ?x7_Runs ?x8_Runs ?x9_Runs ?x10_Runs ?x11_Runs ?x12_Runs ?x13_Runs ?x14_Runs ?x15_Runs ?x16_Runs ?x17_Runs ?x18_Runs ?x19_Runs ?x20_Runs ?x21_Runs ?x22_Runs ?x23_Runs ?x24_Runs ?x25_Runs ?qkv_Runs ?qkx_Runs_NoLink ?qkx_Runs_Cut ?qkx_Runs_Runs
    (case aC_Letter => k_is)
    (case pg_Letter => k_is)
    (case hd_Letter => k_is)
    (case po_Letter => k_is)
    (case sa_Letter => k_is)
    (case mk_Letter => k_is)
    (case kc_Letter => k_is)
    (case aC_Say => k_is)
    (case pg_Say => k_is)
    (case hd_Say => k_is)
    (case po_Say => k_is)
    (case sa_Say => k_is)
    (case mk_Say => k_is)
    (case kc_Say => k_is)
    (case aC_Agree => k_is)
    (case pg_Agree => k_is)
    (case hd_Agree => k_is)
    (case po_Agree => k_is)
    (case sa_Agree => k_is)
    (case mk_Agree => k_is)
    (case kc_Agree => k_is)
    (case aC_Door => k_is)
    (case pg_Door => k_is)
    (case hd_Door => k_is)
    (case po_Door => k_is)
    (case sa_Door => k_is)
    (case mk_Door => k_is)
    (case kc_Door => k_is)
    (case aC_Hall => k_is)
    (case pg_Hall => k_is)
    (case hd_Hall => k_is)
    (case po_Hall => k_is)
    (case sa_Hall => k_is)
    (case mk_Hall => k_is)
    (case kc_Hall => k_is)
    (case aC_RingError => k_is)
    (case aC_NoLink => k_is)
    (case aC_Cut => k_is)
    (case aC_Runs => k_is)
    (case a_l_begin => k_is)
    (case l_l_begin => k_is)
    (case c_l_begin => k_is)
    (case k_l_begin => k_is)
    (case a_l_draw => k_is)
    (case l_l_draw => k_is)
    (case c_l_draw => k_is)
    (case k_l_draw => k_is)
    (case a_l_pick => k_is)
    (case l_l_pick => k_is)
    (case c_l_pick => k_is)
    (case k_l_pick => k_is)
    (case a_l_fresh => k_is)
    (case l_l_fresh => k_is)
    (case c_l_fresh => k_is)
    (case k_l_fresh => k_is)
    (case a_l_hall => k_is)
    (case l_l_hall => k_is)
    (case c_l_hall => k_is)
    (case k_l_hall => k_is)
    (case a_l_reckon => k_is)
    (case l_l_reckon => k_is)
    (case c_l_reckon => k_is)
    (case k_l_reckon => k_is)
    (case a_l_role => k_is)
    (case l_l_role => k_is)
    (case c_l_role => k_is)
    (case k_l_role => k_is)
    (case a_l_stepped => k_is)
    (case l_l_stepped => k_is)
    (case c_l_stepped => k_is)
    (case k_l_stepped => k_is)
    (case a_l_open => k_is)
    (case l_l_open => k_is)
    (case c_l_open => k_is)
    (case k_l_open => k_is)
    (case a_l_taken => k_is)
    (case l_l_taken => k_is)
    (case c_l_taken => k_is)
    (case k_l_taken => k_is)
    (case a_l_cut => k_is)
    (case l_l_cut => k_is)
    (case c_l_cut => k_is)
    (case k_l_cut => k_is)
    (case a_l_mended => k_is)
    (case l_l_mended => k_is)
    (case c_l_mended => k_is)
    (case k_l_mended => k_is)
    (case a_l_told => k_is)
    (case l_l_told => k_is)
    (case c_l_told => k_is)
    (case k_l_told => k_is)
    (case a_l_looks => k_is)
    (case l_l_looks => k_is)
    (case c_l_looks => k_is)
    (case k_l_looks => k_is)
    (case a_l_letter => k_is)
    (case l_l_letter => k_is)
    (case c_l_letter => k_is)
    (case k_l_letter => k_is)
    (case a_l_doors => k_is)
    (case l_l_doors => k_is)
    (case c_l_doors => k_is)
    (case k_l_doors => k_is)
    (case a_l_say => k_is)
    (case l_l_say => k_is)
    (case c_l_say => k_is)
    (case k_l_say => k_is)
    (case a_l_agree => k_is)
    (case l_l_agree => k_is)
    (case c_l_agree => k_is)
    (case k_l_agree => k_is)
    (case a_l_deed => k_is)
    (case l_l_deed => k_is)
    (case c_l_deed => k_is)
    (case k_l_deed => k_is)
    (case a_l_done => k_is)
    (case l_l_done => k_is)
    (case c_l_done => k_is)
    (case k_l_done => k_is)
    (case a_l_word => k_is)
    (case l_l_word => k_is)
    (case c_l_word => k_is)
    (case k_l_word => k_is)
    (case a_l_refused => k_is)
    (case l_l_refused => k_is)
    (case c_l_refused => k_is)
    (case k_l_refused => k_is)
    (case a_l_odd => k_is)
    (case l_l_odd => k_is)
    (case c_l_odd => k_is)
    (case k_l_odd => k_is)
    (case a_kept => k_is)
    (case l_kept => k_is)
    (case t_kept => k_is)
    (case c_kept => k_is)
    (case k_kept => k_is)
    (case a_is_number => k_is)
    (case l_is_number => k_is)
    (case c_is_number => k_is)
    (case k_is_number => k_is)
    (case a_least => k_is)
    (case l_least => k_is)
    (case c_least => k_is)
    (case k_least => k_is)
    (case a_check_rule => k_is)
    (case l_check_rule => k_is)
    (case c_check_rule => k_is)
    (case k_check_rule => k_is)
    (case a_Door___init__ => k_is)
    (case i_Door___init__ => k_is)
    (case l_Door___init__ => k_is)
    (case c_Door___init__ => k_is)
    (case k_Door___init__ => k_is)
    (case a_Hall___init__ => k_is)
    (case i_Hall___init__ => k_is)
    (case l_Hall___init__ => k_is)
    (case c_Hall___init__ => k_is)
    (case k_Hall___init__ => k_is)
    (case d_Hall___init___cut => k_is)
    (case t_Hall___init___cut => k_is)
    (case d_Hall___init___most => k_is)
    (case d_Hall___init___rule => k_is)
    (case a_Hall_take => k_is)
    (case i_Hall_take => k_is)
    (case l_Hall_take => k_is)
    (case c_Hall_take => k_is)
    (case k_Hall_take => k_is)
    (case a_Hall_cut => k_is)
    (case i_Hall_cut => k_is)
    (case l_Hall_cut => k_is)
    (case c_Hall_cut => k_is)
    (case k_Hall_cut => k_is)
    (case a_Hall_mend => k_is)
    (case i_Hall_mend => k_is)
    (case l_Hall_mend => k_is)
    (case c_Hall_mend => k_is)
    (case k_Hall_mend => k_is)
    (case a_Hall_posted => k_is)
    (case i_Hall_posted => k_is)
    (case l_Hall_posted => k_is)
    (case c_Hall_posted => k_is)
    (case k_Hall_posted => k_is)
    (case a_Hall_standing => k_is)
    (case i_Hall_standing => k_is)
    (case l_Hall_standing => k_is)
    (case c_Hall_standing => k_is)
    (case k_Hall_standing => k_is)
    (case a_Hall_root_link => k_is)
    (case i_Hall_root_link => k_is)
    (case l_Hall_root_link => k_is)
    (case c_Hall_root_link => k_is)
    (case k_Hall_root_link => k_is)
    (case a_Hall_role => k_is)
    (case i_Hall_role => k_is)
    (case l_Hall_role => k_is)
    (case c_Hall_role => k_is)
    (case k_Hall_role => k_is)
    (case a_Hall_is_open => k_is)
    (case i_Hall_is_open => k_is)
    (case l_Hall_is_open => k_is)
    (case c_Hall_is_open => k_is)
    (case k_Hall_is_open => k_is)
    (case a_Hall_heard => k_is)
    (case i_Hall_heard => k_is)
    (case l_Hall_heard => k_is)
    (case c_Hall_heard => k_is)
    (case k_Hall_heard => k_is)
    (case a_Hall__door => k_is)
    (case i_Hall__door => k_is)
    (case l_Hall__door => k_is)
    (case c_Hall__door => k_is)
    (case k_Hall__door => k_is)
    (case a_Hall__running => k_is)
    (case i_Hall__running => k_is)
    (case l_Hall__running => k_is)
    (case c_Hall__running => k_is)
    (case k_Hall__running => k_is)
    (case a_Hall__step => k_is)
    (case i_Hall__step => k_is)
    (case l_Hall__step => k_is)
    (case c_Hall__step => k_is)
    (case k_Hall__step => k_is)
    (case a_Hall__write => k_is)
    (case i_Hall__write => k_is)
    (case l_Hall__write => k_is)
    (case c_Hall__write => k_is)
    (case k_Hall__write => k_is)
    (case a_Hall__turn => k_is)
    (case i_Hall__turn => k_is)
    (case l_Hall__turn => k_is)
    (case c_Hall__turn => k_is)
    (case k_Hall__turn => k_is)
    (case a_Say___init__ => k_is)
    (case i_Say___init__ => k_is)
    (case l_Say___init__ => k_is)
    (case c_Say___init__ => k_is)
    (case k_Say___init__ => k_is)
    (case a_Say___eq__ => k_is)
    (case i_Say___eq__ => k_is)
    (case l_Say___eq__ => k_is)
    (case c_Say___eq__ => k_is)
    (case k_Say___eq__ => k_is)
    (case a_Say_told => k_is)
    (case i_Say_told => k_is)
    (case l_Say_told => k_is)
    (case c_Say_told => k_is)
    (case k_Say_told => k_is)
    (case a_Agree___init__ => k_is)
    (case i_Agree___init__ => k_is)
    (case l_Agree___init__ => k_is)
    (case c_Agree___init__ => k_is)
    (case k_Agree___init__ => k_is)
    (case a_Agree___eq__ => k_is)
    (case i_Agree___eq__ => k_is)
    (case l_Agree___eq__ => k_is)
    (case c_Agree___eq__ => k_is)
    (case k_Agree___eq__ => k_is)
    (case a_Agree_told => k_is)
    (case i_Agree_told => k_is)
    (case l_Agree_told => k_is)
    (case c_Agree_told => k_is)
    (case k_Agree_told => k_is)
    (case a_law => k_is)
    (case l_law => k_is)
    (case c_law => k_is)
    (case k_law => k_is)
    (case en_Say => k_is)
    (case eo_Say => k_is)
    (case es_Say_NoneType => k_is)
    (case es_Say_bool => k_is)
    (case es_Say_int => k_is)
    (case es_Say_str => k_is)
    (case es_Say_list => k_is)
    (case es_Say_tuple => k_is)
    (case es_Say_dict => k_is)
    (case qc_Say => k_is)
    (case qg_Say => k_is)
    (case qt_Say => k_is)
    (case qm_Say => k_is)
    (case qk_Say_NoneType => kit_is)
    (case qk_Say_bool => kit_is)
    (case qk_Say_int => kit_is)
    (case qk_Say_str => kit_is)
    (case qk_Say_list => kit_is)
    (case qk_Say_tuple => kit_is)
    (case qk_Say_dict => kit_is)
    (case en_Agree => k_is)
    (case eo_Agree => k_is)
    (case es_Agree_NoneType => k_is)
    (case es_Agree_bool => k_is)
    (case es_Agree_int => k_is)
    (case es_Agree_str => k_is)
    (case es_Agree_list => k_is)
    (case es_Agree_tuple => k_is)
    (case es_Agree_dict => k_is)
    (case qc_Agree => k_is)
    (case qg_Agree => k_is)
    (case qt_Agree => k_is)
    (case qm_Agree => k_is)
    (case qk_Agree_NoneType => kit_is)
    (case qk_Agree_bool => kit_is)
    (case qk_Agree_int => kit_is)
    (case qk_Agree_str => kit_is)
    (case qk_Agree_list => kit_is)
    (case qk_Agree_tuple => kit_is)
    (case qk_Agree_dict => kit_is)
    (case kt_Say_Letter => kit_is)
    (case kt_Agree_Letter => kit_is)
    (case kt_Say_Agree => kit_is)
    (case kt_Agree_Say => kit_is)
    (case na_Say_number => k_is)
    (case na_Say_root => k_is)
    (case na_Say_far => k_is)
    (case na_Agree_number => k_is)
    (case na_Door_other_hall => k_is)
    (case na_Door_link_cost => k_is)
    (case na_Door_part => k_is)
    (case na_Door_was_root => k_is)
    (case na_Door_heard_number => k_is)
    (case na_Door_heard_standing => k_is)
    (case na_Door_said => k_is)
    (case na_Door_counts_from => k_is)
    (case na_Door_agreed_there => k_is)
    (case na_Door_agreed_here => k_is)
    (case na_Hall__hall => k_is)
    (case na_Hall__ends => k_is)
    (case na_Hall__most => k_is)
    (case na_Hall__rule => k_is)
    (case na_Hall__doors => k_is)
    (case na_Hall__standing => k_is)
    (case na_Hall__root_link => k_is)
    (case na_Hall__posted => k_is)
    (case z_abs => k_is)
    (case z_len => k_is)
    (case z_range => k_is)
    (case z_list => k_is)
    (case z_all => k_is)
    (case z_isinstance => k_is)
    (case z_tuple => k_is)
    (case z_int => k_is)
    (case z_bool => k_is)
    (case z_str => k_is)
    (case z_sorted => k_is)
    (case z_dict => k_is)
    (case z_sum => k_is)
    (case z_set => k_is)
    (case z_enumerate => k_is)
    (case z_min => k_is)
    (case z_max => k_is)
    (case z_ValueError => k_is)
    (case v_NOTHING => k_is)
    (case v_NONE_BEYOND => k_is)
    (case a_RULES => k_is)
    (case t_RULES => k_is)
    (case xo => k_is)
    (case htop => (first | rfl | decide +kernel))
    (case xs => k_is)
    (case xcg => k_is)
    (case xct => k_is)
    (case xr1_RingError => k_is)
    (case xr2_RingError => k_is)
    (case xr3_RingError => k_is)
    (case x1_NoLink => k_is)
    (case x2_NoLink => k_is)
    (case x3_NoLink => k_is)
    (case x4_NoLink => k_is)
    (case x5_NoLink => k_is)
    (case x7_NoLink => k_is)
    (case x8_NoLink => k_is)
    (case x9_NoLink => k_is)
    (case x10_NoLink => k_is)
    (case x11_NoLink => k_is)
    (case x12_NoLink => k_is)
    (case x13_NoLink => (first | rfl | decide +kernel))
    (case x14_NoLink => (first | rfl | decide +kernel))
    (case x15_NoLink => ks_is)
    (case x16_NoLink => k_is)
    (case x17_NoLink => k_is)
    (case x18_NoLink => k_is)
    (case x19_NoLink => k_is)
    (case x20_NoLink => k_is)
    (case x21_NoLink => k_is)
    (case x22_NoLink => k_is)
    (case x23_NoLink => k_is)
    (case x24_NoLink => k_is)
    (case x25_NoLink => k_is)
    (case qkv_NoLink => kit_is)
    (case qkx_NoLink_NoLink => kit_is)
    (case qkx_NoLink_Cut => kit_is)
    (case qkx_NoLink_Runs => kit_is)
    (case x1_Cut => k_is)
    (case x2_Cut => k_is)
    (case x3_Cut => k_is)
    (case x4_Cut => k_is)
    (case x5_Cut => k_is)
    (case x7_Cut => k_is)
    (case x8_Cut => k_is)
    (case x9_Cut => k_is)
    (case x10_Cut => k_is)
    (case x11_Cut => k_is)
    (case x12_Cut => k_is)
    (case x13_Cut => (first | rfl | decide +kernel))
    (case x14_Cut => (first | rfl | decide +kernel))
    (case x15_Cut => ks_is)
    (case x16_Cut => k_is)
    (case x17_Cut => k_is)
    (case x18_Cut => k_is)
    (case x19_Cut => k_is)
    (case x20_Cut => k_is)
    (case x21_Cut => k_is)
    (case x22_Cut => k_is)
    (case x23_Cut => k_is)
    (case x24_Cut => k_is)
    (case x25_Cut => k_is)
    (case qkv_Cut => kit_is)
    (case qkx_Cut_NoLink => kit_is)
    (case qkx_Cut_Cut => kit_is)
    (case qkx_Cut_Runs => kit_is)
    (case x1_Runs => k_is)
    (case x2_Runs => k_is)
    (case x3_Runs => k_is)
    (case x4_Runs => k_is)
    (case x5_Runs => k_is)
    (case x7_Runs => k_is)
    (case x8_Runs => k_is)
    (case x9_Runs => k_is)
    (case x10_Runs => k_is)
    (case x11_Runs => k_is)
    (case x12_Runs => k_is)
    (case x13_Runs => (first | rfl | decide +kernel))
    (case x14_Runs => (first | rfl | decide +kernel))
    (case x15_Runs => ks_is)
    (case x16_Runs => k_is)
    (case x17_Runs => k_is)
    (case x18_Runs => k_is)
    (case x19_Runs => k_is)
    (case x20_Runs => k_is)
    (case x21_Runs => k_is)
    (case x22_Runs => k_is)
    (case x23_Runs => k_is)
    (case x24_Runs => k_is)
    (case x25_Runs => k_is)
    (case qkv_Runs => kit_is)
    (case qkx_Runs_NoLink => kit_is)
    (case qkx_Runs_Cut => kit_is)
    (case qkx_Runs_Runs => kit_is)
